/-
  OWN WORK. Law 11's sound: a right tree is found sound.
-/
import Derived.Test.YtjoedamiilgajaaGreatQGtNames
import Derived.Test.YtjoedamiilgajaaGreatQ14
import Derived.Test.YtjoedamiilgajaaGreatQ13
namespace Go.Proofs.YtjoedamiilgajaaGreat
open Go.RowKit Rc
open Tr (Nm En T)
namespace Tw
theorem joined_le {l:List Bs} (h8:l.length≤8) (hs:∀ x ∈ l,x.length≤16):(Dr.joined l).length≤200:=by
 have key:∀ m:List Bs,(∀ x ∈ m,x.length≤16)→(Dr.joined m).length≤m.length*17:=by
  intro m
  induction m with
  | nil=>intro _;exact Nat.zero_le _
  | cons x m ih =>
    intro h
    have h1:=ih fun y hy=>h y (.tail _ hy)
    have h2:=h x (.head _)
    unfold Dr.joined at h1 ⊢
    rw [List.flatMap_cons,List.length_append,List.length_cons,List.length_cons]
    omega
 have:=key l hs
 omega
theorem good_le {x:Bs} (h:Pa.good x=true):x.length≤16:=by
 simp only [Pa.good,Bool.and_eq_true,decide_eq_true_eq] at h
 omega
theorem raw_is (t:T) (i:Int):Gt.raw t i=Tr.pathsTo t i:=rfl
variable {p:Nat} {av:Value} {gs:List Nat} {S:Nat→Prop} {t:T} {w:World}
theorem names_good (h:Tm.TIn p av gs S t w) (hG:Tr.Good t) (i:Int):Calls Tryz.prog 34 #[.pointer (some ⟨p,0,none⟩),.int .i64 i] w (Gt.NAns t i w):=by
 refine Gt.names_any h hG i ?_ fun y hy=>?_
 ·have:=hG.paths_few
  unfold Tr.paths at this
  omega
 ·rw [raw_is,hG.pathsTo_mem] at hy
  have:=joined_le (hG.path_le hy) fun x hx=>good_le (hG.path_good _ y _ rfl hy x hx)
  omega
structure NmOk (t:T) (i:Int) (L:List (List Bs)):Prop where
 look:∀ q ∈ L,Tr.look t q=(i,0)∧q.length≤8∧∀ x ∈ q,x.length≤16
 rise:L.Pairwise (fun p q=>Tr.less (Pa.join q) (Pa.join p)=false)
 perm:L.Perm (Tr.pathsTo t i)
theorem NmOk.of (hG:Tr.Good t) {i:Int} {L:List (List Bs)} (hp:L.Perm (Gt.raw t i)) (hr:L.Pairwise (fun p q=>Tr.less (Pa.join q) (Pa.join p)=false)):NmOk t i L:=by
 refine ⟨fun q hq=>?_,hr,hp⟩
 have h1:=hp.mem_iff.1 hq
 rw [raw_is,hG.pathsTo_mem] at h1
 exact ⟨hG.path_look h1,hG.path_le h1,fun x hx=>good_le (hG.path_good _ q _ rfl h1 x hx)⟩
def NOut (t:T) (i:Int) (w:World) (e:Ending) (w':World):Prop :=
 ∃ A c L,e=.returned (.slice A (List.length L) c)∧Hid (NmOk t i L)∧Hid (L.length≤c∧Ms.RdL w' A L)∧Hid (Below w.heap.size w w')
theorem names_out (h:Tm.TIn p av gs S t w) (hG:Tr.Good t) (i:Int):Calls Tryz.prog 34 #[.pointer (some ⟨p,0,none⟩),.int .i64 i] w (NOut t i w):=by
 refine (names_good h hG i).mono ?_
 rintro e w' ⟨x,L,rfl,h1,h2,h3,h4⟩
 obtain ⟨A,c,rfl,hc,hr⟩:=h3.form
 exact ⟨A,c,L,rfl,NmOk.of hG h1 h2,⟨hc,hr⟩,h4⟩
set_option maxHeartbeats 4000000 in
set_option maxRecDepth 100000 in
theorem sound_any (h:Tm.TIn p av gs S t w) (hG:Tr.Good t):Calls Tryz.prog 44 #[.pointer (some ⟨p,0,none⟩)] w fun e w'=>e=.returned (.bool true)∧Below w.heap.size w w':=by
 have H:=Lib.hid h
 have HG:=Lib.hid hG
 obtain ⟨n,hn⟩:∃ n,n=t.length:=⟨_,rfl⟩
 have HN:=Lib.hid hn
 have hn64:n≤64:=by have:=hG.few;omega
 have HCNT:Hid (∀ W,Below w.heap.size w W→Calls Tryz.prog 40 #[.pointer (some ⟨p,0,none⟩)] W fun e w'=>e=.returned (.int .i64 (n:Nat))∧w'=W):=fun W hW=>by
  have:=Tm.count_any (H.out.below hW)
  rw [← HN.out] at this
  exact this
 clear h hG hn
 go_enter Tryz.func44,Tryz.ntmps44
 go_wp2_with fail
 go_loopw [3,4] (fun t3 t4 wr=>∃ i k:Nat,t4=.int .i64 i∧t3=.int .i64 k∧i≤65536∧Hid (k=Tr.below t i)∧Hid (Below w.heap.size w wr)) (fun _ t4 _=>65536-(match t4 with|.int _ k=>k.toNat|_=>0))
 case atStart=>exact ⟨0,0,rfl,rfl,by omega,(Tr.below_zero HG.out).symm,Below.refl _ _⟩
 case round =>
  obtain ⟨i,k,rfl,rfl,hi,HK,HB⟩:=hrel
  have hkn:k≤n:=by rw [HK.out,HN.out];exact Tr.below_le _ _
  by_cases hlt:i<65536
  ·by_cases hkl:k<n
   ·have hlt1:(i:Int)<65536:=by omega
    have hlt2:(k:Int)<(n:Int):=by omega
    go_wp2_with fail
    refine (HCNT.out wr HB.out).mono ?_
    rintro e w1 ⟨rfl,hw1⟩
    obtain rfl:=hw1.symm
    go_wp2_with fail
    cases hf:Tr.find t (i:Nat) with
    | none =>
      have HNX:Hid (k=Tr.below t ((i+1:Nat):Int)):=by
       have:=Tr.below_next HG.out ((i:Nat):Int)
       rw [hf] at this
       show k=_
       rw [HK.out,show ((i+1:Nat):Int)=(i:Int)+1 by omega,this];rfl
      have hnode:Tr.node t (i:Nat)=(Nd.zero,false):=by
       unfold Tr.node Tr.ndOf
       rw [hf];rfl
      have HND:=Lib.hid (Tm.node_any (H.out.below HB.out) HG.out (i:Nat))
      rw [hnode] at HND
      dsimp only [Nd.val,Nd.zero] at HND
      clear hf hnode
      refine HND.out.mono ?_
      rintro e w2 ⟨rfl,hb2⟩
      have HB2:Hid (Below w.heap.size w w2):=HB.out.trans (hb2.mono HB.out.size)
      clear hb2 HND
      have HB3:Hid (Below w.heap.size w (w2.alloc (.cells #[.int .i64 0,.int .i64 0,.int .i64 0,.int .i64 0,.int .u64 0,.bool false] 59))):=HB2.out.trans ((bN w2 _).mono HB2.out.size)
      go_wp2_with fail
      go_roundw
      case rel=>exact ⟨i+1,k,by go_num,rfl,by omega,HNX,HB3⟩
      case measure=>simp;omega
    | some e =>
      have HNX:Hid (k+1=Tr.below t ((i+1:Nat):Int)):=by
       have:=Tr.below_next HG.out ((i:Nat):Int)
       rw [hf] at this
       show k+1=_
       rw [HK.out,show ((i+1:Nat):Int)=(i:Int)+1 by omega,this];rfl
      have hid:=(Tr.find_some hf).2
      have hlk:=HG.out.pathsTo_length (Tr.find_some hf).1
      rw [hid] at hlk
      have hnode:Tr.node t (i:Nat)=(e.nd,true):=by
       unfold Tr.node
       rw [Tr.ndOf_of hf,hf];rfl
      have HND:=Lib.hid (Tm.node_any (H.out.below HB.out) HG.out (i:Nat))
      rw [hnode] at HND
      obtain ⟨⟨id,kind,links,size,till,shut⟩,data,names⟩:=e
      dsimp only [Nd.val] at hid hlk HND
      subst hid
      have HLK:=Lib.hid hlk
      clear hf hnode hlk
      refine HND.out.mono ?_
      rintro e w2 ⟨rfl,hb2⟩
      have HB2:Hid (Below w.heap.size w w2):=HB.out.trans (hb2.mono HB.out.size)
      clear hb2 HND
      have HX3:Hid (Blk (w2.alloc (.cells #[.int .i64 (i:Nat),.int .i64 kind,.int .i64 links,.int .i64 size,.int .u64 (till:Nat),.bool shut] 59)) w2.heap.size 59 [.int .i64 (i:Nat),.int .i64 kind,.int .i64 links,.int .i64 size,.int .u64 (till:Nat),.bool shut]):=Blk.new w2 _ _
      have HB3:Hid (Below w.heap.size w (w2.alloc (.cells #[.int .i64 (i:Nat),.int .i64 kind,.int .i64 links,.int .i64 size,.int .u64 (till:Nat),.bool shut] 59))):=HB2.out.trans ((bN w2 _).mono HB2.out.size)
      go_upto_region 8 with (fail)
      refine wp_world (fun W=>Hid (Blk W w2.heap.size 59 [.int .i64 (i:Nat),.int .i64 kind,.int .i64 links,.int .i64 size,.int .u64 (till:Nat),.bool shut])∧Hid (Below w.heap.size w W)) ⟨HX3,HB3⟩ ?_
      clear HX3 HB3
      rintro w3 ⟨HX3,HB3⟩
      go_wp2_with fail
      refine (names_out (H.out.below HB3.out) HG.out (i:Nat)).mono ?_
      rintro e w4 ⟨A,c,L,rfl,HO,HL,HB4⟩
      have hx4:=HX3.out.below HB4.out HX3.out.lt
      have d0:w4.cell? ⟨w2.heap.size,0,none⟩=some (.int .i64 (i:Nat)):=hx4.cell 0
      have d2:w4.cell? ⟨w2.heap.size,2,none⟩=some (.int .i64 links):=hx4.cell 2
      have hll:(L.length:Int)=links:=by
       rw [HO.out.perm.length_eq];exact HLK.out
      have hlim:L.length≤5000000:=by
       have h1:=HG.out.paths_few
       have h2:=HO.out.perm.length_eq
       unfold Tr.pathsTo at h2
       rw [List.length_append,List.length_map] at h2
       have h3:(List.filter (fun q:List Bs × Int=>q.2==((i:Nat):Int)) (Tr.paths t)).length≤(Tr.paths t).length:=List.length_filter_le _ _
       have h4:(if ((i:Nat):Int)=0 then [([]:List Bs)] else []).length≤1:=by split <;> simp
       omega
      have hlb:((L.length:Int) != links)=false:=by rw [bne_eq_false_iff_eq];exact hll
      have HLL:=Lib.hid hll
      have HB5:Hid (Below w.heap.size w w4):=HB3.out.trans (HB4.out.mono HB3.out.size)
      clear hx4 hll HX3 HB2 HB4
      go_wp2_with fail
      go_loopw [8] (fun t8 wr=>∃ j:Nat,t8=.int .i64 j∧j≤L.length∧Hid (Below w4.heap.size w4 wr)) (fun t8 _=>L.length-(match t8 with|.int _ k=>k.toNat|_=>0))
      case atStart=>exact ⟨0,rfl,Nat.zero_le _,Below.refl _ _⟩
      case round =>
       obtain ⟨j,rfl,hj,HBJ⟩:=hrel
       by_cases hk2:j<L.length
       ·obtain ⟨b,off,q,A',c',rfl,hq,hcell,hqc,hrq⟩:=HL.out.2.at_ j hk2
        obtain ⟨hq1,hq2,hq3⟩:=HO.out.look q (List.mem_of_getElem? hq)
        have hbl:b<w4.heap.size:=by
         unfold World.cell? at hcell
         cases hb9:w4.heap[b]? with
         | none=>rw [show (⟨b,off+j,none⟩:Addr).block=b from rfl,hb9] at hcell;cases hcell
         | some o=>exact (Array.getElem?_eq_some_iff.1 hb9).1
        have c1:wr.cell? ⟨b,off+j,none⟩=some (.slice A' q.length c'):=(HBJ.out.cell (p:=⟨b,off+j,none⟩) hbl).trans hcell
        have HLOOK:Hid (Calls Tryz.prog 86 #[.pointer (some ⟨p,0,none⟩),.slice A' q.length c'] wr fun e w'=>e=.returned (.tuple #[.int .i64 (i:Nat),.int .i64 0])∧Below wr.heap.size wr w'):=by
         have:=(Tm.look_any (H.out.below (HB5.out.trans (HBJ.out.mono HB5.out.size))) HG.out A' q c' (hrq.below HBJ.out) hqc (by omega) (fun s hs=>by have:=hq3 s hs;omega))
         rw [hq1] at this
         exact this
        have hjl:(j:Int)<(L.length:Int):=by omega
        have hq8:¬ (8:Int)<(q.length:Int):=by omega
        have HC1:Hid (b<w4.heap.size∧w4.cell? ⟨b,off+j,none⟩=some (.slice A' q.length c')):=⟨hbl,hcell⟩
        clear hq hcell hrq hq3 hqc hq1 hbl
        go_wp2_with fail
        refine HLOOK.out.mono ?_
        rintro e w5 ⟨rfl,hb5⟩
        have c2:w5.cell? ⟨b,off+j,none⟩=some (.slice A' q.length c'):=(hb5.cell (p:=⟨b,off+j,none⟩) (Nat.lt_of_lt_of_le HC1.out.1 HBJ.out.size)).trans c1
        have HB6:Hid (Below w4.heap.size w4 w5):=HBJ.out.trans (hb5.mono HBJ.out.size)
        clear hb5 HLOOK c1
        have hne:((i:Int) != (i:Int))=false:=by simp
        have HK2:Hid (j+1≤L.length):=hk2
        clear hlt1 hlt2 hlb d0 d2
        go_upto_region 15 with (fail)
        go_wp2_with fail
        go_roundw
        case rel=>exact ⟨j+1,by go_num,HK2.out,HB6⟩
        case measure=>have:=HK2.out;simp;omega
       ·obtain rfl:j=L.length:=by omega
        have HB6:Hid (Below w.heap.size w wr):=HB5.out.trans (HBJ.out.mono HB5.out.size)
        go_wp2_with fail
        go_roundw
        case rel=>exact ⟨i+1,k+1,by go_num,by go_num,by omega,HNX,HB6⟩
        case measure=>simp;omega
   ·have hge:¬ (k:Int)<(n:Int):=by omega
    obtain rfl:k=n:=by omega
    have hlt1:(i:Int)<65536:=by omega
    clear hge
    go_wp2_with fail
    refine (HCNT.out wr HB.out).mono ?_
    rintro e w1 ⟨rfl,hw1⟩
    obtain rfl:=hw1.symm
    go_wp2_with fail
    refine (HCNT.out wr HB.out).mono ?_
    rintro e w1 ⟨rfl,hw1⟩
    obtain rfl:=hw1.symm
    go_wp2_with fail
    go_ret
    exact ⟨by simp,HB.out⟩
  ·obtain rfl:i=65536:=by omega
   obtain rfl:k=n:=by rw [HK.out,HN.out];exact Tr.below_all HG.out (by omega)
   go_wp2_with fail
   refine (HCNT.out wr HB.out).mono ?_
   rintro e w1 ⟨rfl,hw1⟩
   obtain rfl:=hw1.symm
   go_wp2_with fail
   go_ret
   exact ⟨by simp,HB.out⟩
end Tw
end Go.Proofs.YtjoedamiilgajaaGreat

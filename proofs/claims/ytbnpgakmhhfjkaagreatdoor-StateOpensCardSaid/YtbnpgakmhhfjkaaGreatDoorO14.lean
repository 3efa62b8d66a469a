/-
  OWN WORK. ShSum, ShWrite, ShTop, SnChain, SnTake, SnAll, TrUnlink, TrRmdir, TrList
-/
import Derived.Test.YtbnpgakmhhfjkaaGreatDoorO13
import Derived.Deep.RegionHeld3
import Derived.Deep.DeepCutAuto
import Derived.Maps.RangeWalk
import Derived.Test.YtbnpgakmhhfjkaaGreatDoorO12
import Derived.Test.YtbnpgakmhhfjkaaGreatDoorO08b
import Derived.Test.YtbnpgakmhhfjkaaGreatDoorO03
namespace Go.Proofs.YtbnpgakmhhfjkaaGreatDoor
open Go.RowKit Sh
theorem hash_facts (h:List Int) (hh:h.length=8):Hid ((Tryz.prog.info? 223).map (·.size)=some (words32 h).length)∧Hid ((Tryz.prog.info? 223).map (·.size)=some (words32 h).toArray.size)∧Hid ((words32 h).toArray.all (·.oneCell')=true)∧Hid ((noughts 8).toArray.size=(words32 h).toArray.size):=by
 have hl:(words32 h).length=8:=by simp [hh]
 have hsz:(words32 h).toArray.size=8:=by simp [hh]
 refine ⟨?_,?_,?_,?_⟩
 ·show _=_
  rw [hl];kernel_rfl
 ·show _=_
  rw [hsz];kernel_rfl
 ·show _=_
  rw [Array.all_eq_true]
  intro j hj
  exact words32_one h _ (by simp)
 ·show _=_
  rw [hsz];rfl
theorem Cells.src {h:List Int} {b:List UInt8} {hd al:Nat} {w:World} {B T:Nat} (hB:Blk w B T (Cells h b hd al)):∀ j v,(words32 h)[j]?=some v→w.cell? ((⟨B,0,none⟩:Addr).add j)=some v:=by
 intro j v hv
 refine hB.src0 ?_
 have hj:=(List.getElem?_eq_some_iff.1 hv).1
 rw [Cells,List.getElem?_append_left hj]
 exact hv
structure SumAt (l:List UInt8) (B n:Nat) (h:List Int) (w0 wr:World):Prop where
 st:St wr B l
 hash:Blk wr n 223 (words32 h)
 k:KAt wr
 below:Below w0.heap.size w0 wr
structure EndAt (l:List UInt8) (B n n4:Nat) (h b:List Int) (w0 wr:World):Prop where
 st:St wr B l
 hash:Blk wr n 223 (words32 h)
 blk:Blk wr n4 229 (words32 b)
 k:KAt wr
 below:Below w0.heap.size w0 wr
 hh:h.length=8
 hb:b.length=16
 sum:sumW l=Sh.mix h (ended b l.length)
theorem words_set (l:List Int) (i:Nat) (x:Int):(words32 l).set i (.int .u32 x)=words32 (l.set i x):=by simp [words32,List.map_set]
theorem EndAt.ended {l:List UInt8} {B n n4:Nat} {h b:List Int} {w0 wr:World} (x:EndAt l B n n4 h b w0 wr):Blk ((wr.setCell ⟨n4,14,none⟩ (.int .u32 (bitsHi l.length))).setCell ⟨n4,15,none⟩ (.int .u32 (bitsLo l.length))) n4 229 (words32 (Sh.ended b l.length)):=by
 have:=(x.blk.set_ 14 (.int .u32 (bitsHi l.length))).set_ 15 (.int .u32 (bitsLo l.length))
 rw [words_set,words_set] at this
 exact this
theorem EndAt.cell {l:List UInt8} {B n n4:Nat} {h b:List Int} {w0 wr:World} (x:EndAt l B n n4 h b w0 wr) (i:Nat) (hi:i<16):wr.cell? ⟨n4,i,none⟩=some (.int .u32 (b.getD i 0)):=by
 rw [x.blk.cell,words32_get _ _ (by rw [x.hb];exact hi)]
theorem noughts_all (n:Nat):(noughts n).toArray.all (·.oneCell')=true:=by
 rw [Array.all_eq_true]
 intro j hj
 exact words32_one (List.replicate n 0) _ (by simp [noughts])
theorem ended_length (b:List Int) (n:Nat) (hb:b.length=16):(Sh.ended b n).length=16:=by simp [Sh.ended,hb]
theorem bitsHi_eq (n:Nat) (h:n≤1099511627776):(n:Int)*8 / 4294967296=bitsHi n:=by unfold bitsHi;omega
theorem SumAt.later {l:List UInt8} {B n:Nat} {h:List Int} {w0 W W':World} (x:SumAt l B n h w0 W) (hb:Below W.heap.size W W'):SumAt l B n h w0 W' :=
 ⟨x.st.below hb,x.hash.below hb x.hash.lt,x.k.below hb x.k.pos,x.below.trans (hb.mono x.below.size)⟩
theorem fill16 {w:World} {g:Nat} {t:TypeId} (h:Blk w g t (noughts 16)) (x0 x1 x2 x3 x4 x5 x6 x7 x8 x9 xa xb xc xd xe xf:Int) :
    Blk ((((((((((((((((w.setCell ⟨g,0,none⟩ (.int .u32 x0)).setCell ⟨g,1,none⟩ (.int .u32 x1)).setCell ⟨g,2,none⟩ (.int .u32 x2)).setCell ⟨g,3,none⟩ (.int .u32 x3)).setCell ⟨g,4,none⟩ (.int .u32 x4)).setCell ⟨g,5,none⟩ (.int .u32 x5)).setCell ⟨g,6,none⟩ (.int .u32 x6)).setCell ⟨g,7,none⟩ (.int .u32 x7)).setCell ⟨g,8,none⟩ (.int .u32 x8)).setCell ⟨g,9,none⟩ (.int .u32 x9)).setCell ⟨g,10,none⟩ (.int .u32 xa)).setCell ⟨g,11,none⟩ (.int .u32 xb)).setCell ⟨g,12,none⟩ (.int .u32 xc)).setCell ⟨g,13,none⟩ (.int .u32 xd)).setCell ⟨g,14,none⟩ (.int .u32 xe)).setCell ⟨g,15,none⟩ (.int .u32 xf)) g t (words32 [x0,x1,x2,x3,x4,x5,x6,x7,x8,x9,xa,xb,xc,xd,xe,xf]):=by
 have:=(((((((((((((((h.set_ 0 (.int .u32 x0)).set_ 1 (.int .u32 x1)).set_ 2 (.int .u32 x2)).set_ 3 (.int .u32 x3)).set_ 4 (.int .u32 x4)).set_ 5 (.int .u32 x5)).set_ 6 (.int .u32 x6)).set_ 7 (.int .u32 x7)).set_ 8 (.int .u32 x8)).set_ 9 (.int .u32 x9)).set_ 10 (.int .u32 xa)).set_ 11 (.int .u32 xb)).set_ 12 (.int .u32 xc)).set_ 13 (.int .u32 xd)).set_ 14 (.int .u32 xe)).set_ 15 (.int .u32 xf)
 exact this
theorem below16 {w0 w:World} {b g:Nat} (h:Below b w0 w) (hg:b≤g) (x0 x1 x2 x3 x4 x5 x6 x7 x8 x9 xa xb xc xd xe xf:Int) :
    Below b w0 ((((((((((((((((w.setCell ⟨g,0,none⟩ (.int .u32 x0)).setCell ⟨g,1,none⟩ (.int .u32 x1)).setCell ⟨g,2,none⟩ (.int .u32 x2)).setCell ⟨g,3,none⟩ (.int .u32 x3)).setCell ⟨g,4,none⟩ (.int .u32 x4)).setCell ⟨g,5,none⟩ (.int .u32 x5)).setCell ⟨g,6,none⟩ (.int .u32 x6)).setCell ⟨g,7,none⟩ (.int .u32 x7)).setCell ⟨g,8,none⟩ (.int .u32 x8)).setCell ⟨g,9,none⟩ (.int .u32 x9)).setCell ⟨g,10,none⟩ (.int .u32 xa)).setCell ⟨g,11,none⟩ (.int .u32 xb)).setCell ⟨g,12,none⟩ (.int .u32 xc)).setCell ⟨g,13,none⟩ (.int .u32 xd)).setCell ⟨g,14,none⟩ (.int .u32 xe)).setCell ⟨g,15,none⟩ (.int .u32 xf)) :=
 (((((((((((((((h.setCell hg _).setCell hg _).setCell hg _).setCell hg _).setCell hg _).setCell hg _).setCell hg _).setCell hg _).setCell hg _).setCell hg _).setCell hg _).setCell hg _).setCell hg _).setCell hg _).setCell hg _).setCell hg _
set_option maxHeartbeats 2000000 in
set_option maxRecDepth 100000 in
theorem streamSum_any (w:World) (B:Nat) (l:List UInt8) (hs:St w B l) (hK:KAt w) (hl:l.length≤1099511627776) :
    Calls Tryz.prog 147 #[.pointer (some ⟨B,0,none⟩)] w fun e w'=>∃ v,e=.returned v∧w'.ownsRow w.heap.size 5 1 v 32 (Lib.byteCells (sum l))∧Below w.heap.size w w':=by
 have HS:Hid (St w B l):=hs
 have HK:Hid (KAt w):=hK
 have hlt:=hs.lt
 clear hs hK
 obtain ⟨HI0,HI,HA,HZ⟩:=hash_facts (hashTo l (l.length / 64)) (hashTo_length _ _)
 have HSRC:Hid (∀ j v,(words32 (hashTo l (l.length / 64)))[j]?=some v→w.cell? ((⟨B,0,none⟩:Addr).add j)=some v):=by
  obtain ⟨junk,hj,hB⟩:=HS.out
  exact Cells.src hB
 have HN:Hid (Blk (w.alloc (.cells (noughts 8).toArray 223)) w.heap.size 223 (noughts 8)):=Blk.new w _ _
 go_enter Tryz.func147,Tryz.ntmps147
 go_upto_region 1 with (fail)
 go_wp2_with (first
  | (refine wpList_load_part rfl 223 (.tmp 8) rfl ⟨B,0,none⟩ rfl (words32 (hashTo l (l.length / 64))) _ HSRC.out Tryz.underlying223 rfl HI0.out ?_)
  | (refine wpList_store_row rfl 223 (.tmp 3) (.tmp 9) rfl w.heap.size (words32 (hashTo l (l.length / 64))).toArray rfl rfl 223 (noughts 8).toArray HN.out HI.out HZ.out HA.out ?_))
 refine wp_world (fun W=>Hid (SumAt l B w.heap.size (hashTo l (l.length / 64)) w W)) ?_ ?_
 ·have hb:Below w.heap.size w ((w.alloc (.cells (noughts 8).toArray 223)).setRow w.heap.size (words32 (hashTo l (l.length / 64))).toArray):=below_setRow ((Below.refl _ _).alloc (Nat.le_refl _) _) (Nat.le_refl _) _
  exact ⟨HS.out.below hb,HN.out.row _,HK.out.below hb HK.out.pos,hb⟩
 intro W HW
 clear HI HA HZ HSRC HN
 have c72:W.cell? ⟨B,72,none⟩=some (.int .i64 (rest l).length):=by
  obtain ⟨junk,hj,hB⟩:=HW.out.st
  rw [rest_length]
  exact Cells.held hB (hashTo_length _ _) (by rw [List.length_append];exact hj)
 have hr64:(rest l).length<64:=by rw [rest_length];omega
 have HRD:Hid (∀ W',Below W.heap.size W W'→Rd W' (some ⟨B,8,none⟩) (rest l)):=by
  intro W' hb
  obtain ⟨junk,hj,hB⟩:=HW.out.st
  have h1:=Cells.rd (hB.below hb hB.lt) (hashTo_length _ _) (rest l).length
  rw [List.take_left] at h1
  exact h1
 have hBW:B<W.heap.size:=HW.out.st.lt
 obtain ⟨x0,x1,x2,x3,x4,x5,x6,x7,x8,x9,xa,xb,xc,xd,xe,xf,hx⟩:∃ x0 x1 x2 x3 x4 x5 x6 x7 x8 x9 xa xb xc xd xe xf,wordsOf (rest l)=[x0,x1,x2,x3,x4,x5,x6,x7,x8,x9,xa,xb,xc,xd,xe,xf]:=⟨_,_,_,_,_,_,_,_,_,_,_,_,_,_,_,_,rfl⟩
 have HX:=Lib.hid hx
 clear hx
 have HCALL:Hid (∀ W',Below W.heap.size W W'→Calls Tryz.prog 185 #[.slice (some ⟨B,8,none⟩) (rest l).length 64] W' fun e w'=>e=.returned (.agg #[.int .u32 x0,.int .u32 x1,.int .u32 x2,.int .u32 x3,.int .u32 x4,.int .u32 x5,.int .u32 x6,.int .u32 x7,.int .u32 x8,.int .u32 x9,.int .u32 xa,.int .u32 xb,.int .u32 xc,.int .u32 xd,.int .u32 xe,.int .u32 xf])∧Below W'.heap.size W' w'):=by
  intro W' hb
  have:=words_any (rest l) (by omega) (some ⟨B,8,none⟩) 64 (by omega) W' (HRD.out W' hb)
  rw [HX.out] at this
  exact this
 have hsl:=fun W=>arr64_h W B 8 (rest l).length (by omega)
 go_frame
 go_cut [4] (fun t4 wx=>∃ n4,t4=.pointer (some ⟨n4,0,none⟩)∧Hid (w.heap.size<n4)∧Hid (Blk wx n4 229 (words32 (wordsOf (rest l))))∧Hid (SumAt l B w.heap.size (hashTo l (l.length / 64)) w wx))
 case first =>
  have hwW:w.heap.size<W.heap.size:=HW.out.hash.lt
  go_region_with (go_at_call 185;refine (HCALL.out _ ?_).mono ?_;(first|exact (Below.refl _ W).drew|exact ((Below.refl _ W).alloc (Nat.le_refl _) _).drew);rintro e w1 ⟨rfl,hb1⟩;obtain ⟨hc1,hf1⟩:=bcell hb1)
  all_goals
   go_wp2_with fail
   go_meet
   rw [HX.out]
  ·have hb2:Below W.heap.size W w1:=undrew hb1
   have hsz:=hb2.size
   exact ⟨_,rfl,Nat.lt_of_lt_of_le hwW hsz,Blk.new _ _ _,HW.out.later (hb2.alloc hsz _)⟩
  all_goals
   have hb2:Below (W.heap.size+1) (W.alloc (.cells (noughts 16).toArray 229)) w1:=by
    have h4:=undrew hb1
    rw [show ∀ w:World,w.drew.heap.size=w.heap.size from fun _=>rfl,World.size_alloc] at h4
    exact h4
   have hbk:Blk w1 W.heap.size 229 (noughts 16):=(Blk.new W 229 (noughts 16)).below hb2 (by omega)
   have hb3:Below W.heap.size W w1:=((Below.refl _ W).alloc (Nat.le_refl _) _).trans (hb2.mono (by omega))
   exact ⟨_,rfl,hwW,fill16 hbk _ _ _ _ _ _ _ _ _ _ _ _ _ _ _ _,HW.out.later (below16 hb3 (Nat.le_refl _) _ _ _ _ _ _ _ _ _ _ _ _ _ _ _ _)⟩
 case rest =>
  clear HCALL HRD HX hsl c72 HW hBW
  obtain ⟨n4,rfl,hn4,HB4,HW⟩:=hcut
  have c72:wc.cell? ⟨B,72,none⟩=some (.int .i64 (rest l).length):=by
   obtain ⟨junk,hj,hB⟩:=HW.out.st
   rw [rest_length]
   exact Cells.held hB (hashTo_length _ _) (by rw [List.length_append];exact hj)
  go_upto_if 23 with (fail)
  go_cut [] (fun wx=>∃ h b,Hid (EndAt l B w.heap.size n4 h b w wx))
  case first =>
   by_cases h56:56≤(rest l).length
   ·go_upto_region 4 with (fail)
    have HJ:=block_facts (wordsOf (rest l)) (wordsOf_length _)
    have hG:1<w.heap.size:=HK.out.pos
    have HM:Hid (sumW l=Sh.mix (Sh.mix (hashTo l (l.length / 64)) (wordsOf (rest l))) (ended (List.replicate 16 0) l.length)):=by
     show _=_
     unfold sumW
     rw [if_pos h56]
    clear c72 h56
    go_wp2_with (first
     | (refine wpList_load_row rfl 229 (.tmp 4) rfl n4 rfl 229 (words32 (wordsOf (rest l))).toArray (0,0) _ HB4.out Tryz.underlying229 rfl HJ.out ?_))
    have HH0:Hid (Blk wc w.heap.size 223 (words32 (hashTo l (l.length / 64))++[])):=by
     show Blk _ _ _ _
     rw [List.append_nil]
     exact HW.out.hash
    refine (mix_any (hashTo l (l.length / 64)) (hashTo_length _ _) [] (wordsOf (rest l)) (wordsOf_length _) w.heap.size 223 wc HH0.out HW.out.k hG).mono ?_
    rintro e w2 ⟨rfl,hb2,hk2⟩
    have HB2:Hid (Blk w2 w.heap.size 223 (words32 (Sh.mix (hashTo l (l.length / 64)) (wordsOf (rest l))))):=by
     show Blk _ _ _ _
     rw [List.append_nil] at hb2
     exact hb2
    have HK2:Hid (Keeps wc w2 w.heap.size):=hk2
    have HB42:Hid (Blk w2 n4 229 (words32 (wordsOf (rest l)))):=HB4.out.grown hk2 (by have:=hn4.out;simp;omega)
    have HZ16:Hid ((words32 (wordsOf (rest l))).toArray.size=(noughts 16).toArray.size):=by show _=_;simp [wordsOf_length,noughts_length]
    have HI16:Hid ((Tryz.prog.info? 229).map (·.size)=some (noughts 16).toArray.size):=by show _=_;kernel_rfl
    have HA16:Hid ((noughts 16).toArray.all (·.oneCell')=true):=noughts_all 16
    clear hb2 hk2 HJ HH0
    go_wp2_with (first
     | (refine wpList_store_row rfl 229 (.tmp 4) (.tmp 26) rfl n4 (noughts 16).toArray rfl rfl 229 (words32 (wordsOf (rest l))).toArray HB42.out HI16.out HZ16.out HA16.out ?_))
    go_meet
    have hk3:Keeps w2 (w2.setRow n4 (noughts 16).toArray) n4:=(Keeps.refl w2 n4).setRow _
    have hst2:St w2 B l:=HW.out.st.keeps HK2.out (by omega)
    refine ⟨Sh.mix (hashTo l (l.length / 64)) (wordsOf (rest l)),List.replicate 16 0,hst2.keeps hk3 (by have:=hn4.out;omega),HB2.out.rowFar (by have:=hn4.out;omega) _,HB42.out.row _,(HW.out.k.keeps HK2.out hG).keeps hk3 (by have:=hn4.out;omega),below_setRow (Keeps.below HW.out.below HK2.out (Nat.le_refl _) (HW.out.below.size)) (by have:=hn4.out;omega) _,mix_length _ _ (hashTo_length _ _),rfl,HM.out⟩
   ·have HE:Hid (EndAt l B w.heap.size n4 (hashTo l (l.length / 64)) (wordsOf (rest l)) w wc):=⟨HW.out.st,HW.out.hash,HB4.out,HW.out.k,HW.out.below,hashTo_length _ _,wordsOf_length _,by unfold sumW;rw [if_neg h56]⟩
    go_wp2_with fail
    go_meet
    exact ⟨_,_,HE⟩
  case rest =>
   clear c72 HW HB4
   obtain ⟨h,b,HE⟩:=hcut
   have c73:wc.cell? ⟨B,73,none⟩=some (.int .i64 l.length):=by
    obtain ⟨junk,hj,hB⟩:=HE.out.st
    exact Cells.all hB (hashTo_length _ _) (by rw [List.length_append];exact hj)
   have e14:=HE.out.cell 14 (by omega)
   have e15:=HE.out.cell 15 (by omega)
   have f14:=HE.out.blk.frozen 14
   have f15:=HE.out.blk.frozen 15
   generalize b.getD 14 0=y14 at e14
   generalize b.getD 15 0=y15 at e15
   have hG:1<w.heap.size:=HK.out.pos
   have HHI:=Lib.hid (bitsHi_eq l.length hl)
   go_upto_region 9 with (fail)
   refine wp_world (fun W=>Hid (Blk W n4 229 (words32 (ended b l.length)))∧Hid (Blk W w.heap.size 223 (words32 h++[]))∧Hid (KAt W)∧Hid (Below w.heap.size w W)) ?_ ?_
   ·have hb1:=HE.out.ended
    have hne:=hn4.out
    rw [← HHI.out] at hb1
    refine ⟨hb1,?_,?_,?_⟩
    ·show Blk _ _ _ _
     rw [List.append_nil]
     exact (HE.out.hash.far (by simp;omega) _).far (by simp;omega) _
    ·exact HE.out.k.below (((Below.refl n4 wc).setCell (Nat.le_refl _) _).setCell (Nat.le_refl _) _) (by omega)
    ·exact (HE.out.below.setCell (by simp;omega) _).setCell (by simp;omega) _
   rintro W2 ⟨HB,HHS,HKW,HBW⟩
   have HJ:=block_facts (ended b l.length) (ended_length b _ HE.out.hb)
   have HSUM:=Lib.hid HE.out.sum
   have HHH:=Lib.hid HE.out.hh
   have HBB:=Lib.hid HE.out.hb
   clear c73 e14 e15 f14 f15 HHI HE
   go_wp2_with (first
    | (refine wpList_load_row rfl 229 (.tmp 4) rfl n4 rfl 229 (words32 (ended b l.length)).toArray (0,0) _ HB.out Tryz.underlying229 rfl HJ.out ?_))
   refine (mix_any h HHH.out [] (ended b l.length) (ended_length b _ HBB.out) w.heap.size 223 W2 HHS.out HKW.out hG).mono ?_
   rintro e w3 ⟨rfl,hb3,hk3⟩
   have HB3:Hid (Blk w3 w.heap.size 223 (words32 (sumW l)++[])):=by rw [HSUM.out];exact hb3
   have HBW3:Hid (Below w.heap.size w w3):=Keeps.below HBW.out hk3 (Nat.le_refl _) HBW.out.size
   clear hb3 hk3 HJ HHS HKW HBW HB
   go_wp2_with fail
   refine (shBytes_any (sumW l) (sumW_length l) [] w.heap.size 223 w3 HB3.out).mono ?_
   rintro e w4 ⟨v,rfl,hown,hb4⟩
   have HF:Hid (w4.ownsRow w.heap.size 5 1 v 32 (Lib.byteCells (Sh.sum l))∧Below w.heap.size w w4):=⟨own_mono hown HBW3.out.size,HBW3.out.trans (hb4.mono HBW3.out.size)⟩
   clear hown hb4
   go_wp2_with fail
   go_ret
   exact ⟨_,rfl,HF.out⟩
end Go.Proofs.YtbnpgakmhhfjkaaGreatDoor
namespace Go.Proofs.YtbnpgakmhhfjkaaGreatDoor
open Go.RowKit Sh
theorem block_calls (w:World) (B:Nat) (h:List Int) (hh:h.length=8) (x:List UInt8) (hx:x.length=64) (b:List UInt8) (_hb:b.length=64) (hd al:Nat) (hB:Blk w B 227 (Cells h b hd al)) (hK:KAt w) (hG:1<B)
    (A:Option Addr) (cap:Nat) (hc:64≤cap) (hr:∀ W',Below w.heap.size w W'→Rd W' A x) :
    Hid (∀ W',Below w.heap.size w W'→Calls Tryz.prog 185 #[.slice A 64 cap] W' fun e w'=>e=.returned (.agg (words32 (wordsOf x)).toArray)∧Hid (Below W'.heap.size W' w')∧Hid (Below w.heap.size w w')) ∧
    Hid (∀ W',Below w.heap.size w W'→Calls Tryz.prog 184 #[.pointer (some ⟨B,0,none⟩),.agg (words32 (wordsOf x)).toArray] W' fun e w'=>e=.returned (.tuple #[])∧Hid (Blk w' B 227 (Cells (Sh.mix h (wordsOf x)) b hd al))∧Hid (Below w.heap.size w W')∧Hid (Keeps W' w' B)):=by
 constructor
 ·intro W' hW
  have:=words_any x (by omega) A cap (by omega) W' (hr W' hW)
  rw [hx] at this
  exact this.mono fun e w' ⟨h1,h2⟩=>⟨h1,h2,hW.trans (h2.mono hW.size)⟩
 ·intro W' hW
  refine (mix_any h hh (Lib.byteCells b++[.int .i64 hd,.int .i64 al]) (wordsOf x) (wordsOf_length _) B 227 W' (hB.below hW hB.lt) (hK.below hW hK.pos) hG).mono ?_
  rintro e w' ⟨h1,h2,h3⟩
  exact ⟨h1,h2,hW,h3⟩
theorem copied {h:List Int} (hh:h.length=8) (b q:List UInt8) (hd al:Nat) (hb:b.length=64) (hq:q.length<64):Go.splice (Cells h b hd al) 8 (Lib.byteCells q)=Cells h (q++b.drop q.length) hd al:=by
 have:=Cells.splice (hd:=hd) (al:=al) hh b q 0 (by omega)
 simpa using this
theorem copied_cell {h:List Int} {b q:List UInt8} {hd al:Nat} {w:World} {B T:Nat} (hB:Blk w B T (Go.splice (Cells h b hd al) 8 (Lib.byteCells q))) (hh:h.length=8) (hb:b.length=64) (hq:q.length<64):∃ x,w.cell? ⟨B,72,none⟩=some x:=by
 rw [copied hh b q hd al hb hq] at hB
 exact ⟨_,Cells.held hB hh (by rw [List.length_append,List.length_drop];omega)⟩
structure ShWAt (tot:List UInt8) (B k:Nat) (A:Option Addr) (q:List UInt8) (w0 wr:World):Prop where
 blk:∃ b hd,b.length=64∧Blk wr B 227 (Cells (hashTo tot k) b hd tot.length)
 le:64*k≤tot.length
 qe:q=tot.drop (64*k)
 rd:Rd w0 A q
 ne:0<q.length→A.map (·.block)≠some B
 k:KAt wr
 keeps:Keeps w0 wr B
theorem ShWAt.mixed {tot:List UInt8} {B k:Nat} {A:Option Addr} {q:List UInt8} {w0 wr wm w':World} (x:ShWAt tot B k A q w0 wr) (h64:64≤q.length) (cap:Nat) (hc:q.length≤cap) (hG:1<B)
    (hm:Below wr.heap.size wr wm) (hk:Keeps wm w' B) (b:List UInt8) (hd:Nat) (hb:b.length=64)
    (hB:Blk w' B 227 (Cells (Sh.mix (hashTo tot k) (wordsOf (q.take 64))) b hd tot.length)):ShWAt tot B (k+1) (cutA A 64 cap) (q.drop 64) w0 w':=by
 have hl:q.length=tot.length-64*k:=by rw [x.qe,List.length_drop]
 refine ⟨⟨b,hd,hb,?_⟩,by have:=x.le;omega,?_,x.rd.cut 64 cap hc,cutA_block _ _ _ _ _ x.ne,(x.k.below hm x.k.pos).keeps hk hG,(x.keeps.trans (Keeps.of_below hm)).trans hk⟩
 ·rw [hashTo,← x.qe];exact hB
 ·rw [x.qe,List.drop_drop];congr 1
theorem ShWAt.close {tot:List UInt8} {B k:Nat} {A:Option Addr} {q:List UInt8} {w0 wr w':World} (x:ShWAt tot B k A q w0 wr) (h64:q.length<64) (b:List UInt8) (hb:b.length=64)
    (hB:Blk w' B 227 (Cells (hashTo tot k) (q++b.drop q.length) q.length tot.length)):St w' B tot:=by
 have hl:q.length=tot.length-64*k:=by rw [x.qe,List.length_drop]
 have hle:=x.le
 have hk:tot.length / 64=k:=by omega
 have hm:tot.length % 64=q.length:=by omega
 have hr:rest tot=q:=by unfold Sh.rest;rw [hk,← x.qe]
 refine ⟨b.drop q.length,?_,?_⟩
 ·rw [hr,List.length_drop];omega
 ·rw [hk,hr,hm];exact hB
set_option maxHeartbeats 2000000 in
set_option maxRecDepth 100000 in
theorem write_any (w:World) (B:Nat) (l r:List UInt8) (A:Option Addr) (cap:Nat) (hs:St w B l) (hK:KAt w) (hG:1<B) (hA:0<r.length→A.map (·.block)≠some B) (hr:Rd w A r) (hcap:r.length≤cap)
    (hl:l.length+r.length≤1099511627776) :
    Calls Tryz.prog 146 #[.pointer (some ⟨B,0,none⟩),.slice A r.length cap] w fun e w'=>e=.returned (.tuple #[])∧St w' B (l++r)∧Keeps w w' B:=by
 have HS:Hid (St w B l):=hs
 have HK:Hid (KAt w):=hK
 have HR:Hid (Rd w A r):=hr
 have HNE:=Lib.hid hA
 have hlt:=hs.lt
 have hr64:(rest l).length<64:=by rw [rest_length];omega
 have HTOT:Hid ((l++r).length=l.length+r.length):=List.length_append
 have hh8:=hashTo_length l (l.length / 64)
 obtain ⟨junk,hj,hB⟩:=hs
 rw [← rest_length] at hB
 have hb64:(rest l++junk).length=64:=by rw [List.length_append];exact hj
 have c73:=Cells.all hB hh8 hb64
 have f73:=hB.frozen 73
 have H1:Hid (Blk (w.setCell ⟨B,73,none⟩ (.int .i64 ((l.length+r.length:Nat):Int))) B 227 (Cells (hashTo l (l.length / 64)) (rest l++junk) (rest l).length (l.length+r.length))):=Cells.setAll hB hh8 hb64 _
 have c72:(w.setCell ⟨B,73,none⟩ (.int .i64 ((l.length+r.length:Nat):Int))).cell? ⟨B,72,none⟩=some (.int .i64 (rest l).length):=Cells.held H1.out hh8 hb64
 have HH8:=Lib.hid hh8
 have HB64:=Lib.hid hb64
 clear hK hA hr hB hh8 hb64
 go_enter Tryz.func146,Tryz.ntmps146
 go_upto_region 1 with (fail)
 refine wp_world (fun W=>Hid (Blk W B 227 (Cells (hashTo l (l.length / 64)) (rest l++junk) (rest l).length (l.length+r.length)))∧Hid (Keeps w W B)) ?_ ?_
 ·exact ⟨by show Blk _ _ _ _;simpa using H1.out,(Keeps.refl w B).setCell _ _⟩
 rintro W ⟨HB,HKP⟩
 clear c73 f73 c72 H1
 have c72:=Cells.held HB.out HH8.out HB64.out
 have f72:=HB.out.frozen 72
 have HH:Hid (hashTo (l++r) (l.length / 64)=hashTo l (l.length / 64)):=hashTo_append l r _ (by omega)
 have HKW:Hid (KAt W):=HK.out.keeps HKP.out hG
 go_upto_if 18 with (fail)
 go_cut [1] (fun t1 wx=>∃ k A' q c,t1=.slice A' (List.length q) c∧q.length≤c∧Hid (ShWAt (l++r) B k A' q w wx))
 case first =>
  by_cases h0:0<(rest l).length
  ·obtain ⟨n,hn⟩:∃ n,n=Nat.min r.length (64-(rest l).length):=⟨_,rfl⟩
   have hn1:n≤r.length:=by rw [hn];exact Nat.min_le_left _ _
   have hn2:n≤64-(rest l).length:=by rw [hn];exact Nat.min_le_right _ _
   have HN:Hid (n=r.length∨n=64-(rest l).length):=by show _∨_;rw [hn];simp only [Nat.min_def];split <;> omega
   have HNM:Hid ((Lib.byteCells (r.take n)).length=Nat.min r.length (64-(rest l).length)):=by show _=_;rw [Lib.byteCells_length,List.length_take,← hn];omega
   have HLT:Hid ((r.take n).length=n):=by show _=_;rw [List.length_take];omega
   have HLN:Hid ((Lib.byteCells (r.take n)).length=n):=by show _=_;rw [Lib.byteCells_length];exact HLT.out
   clear hn
   have HFIT:Hid (8+(rest l).length+(Lib.byteCells (r.take n)).length≤(Cells (hashTo l (l.length / 64)) (rest l++junk) (rest l).length (l.length+r.length)).length):=by
    show _≤_
    rw [Cells.len HH8.out HB64.out,Lib.byteCells_length,HLT.out];omega
   have HPOS:Hid (0<(Lib.byteCells (r.take n)).length→(some (⟨B,8+(rest l).length,none⟩:Addr)=some ⟨B,8+(rest l).length,none⟩∧∃ ad,A=some ad∧∀ j v,(Lib.byteCells (r.take n))[j]?=some v→W.drew.cell? (ad.add j)=some v)):=by
    intro hp
    rw [Lib.byteCells_length,HLT.out] at hp
    obtain ⟨b,off,hA,hb,hc⟩:=HR.out (by omega)
    refine ⟨rfl,_,hA,fun j v hv=>?_⟩
    simp only [Lib.byteCells,List.getElem?_map,Option.map_eq_some_iff] at hv
    obtain ⟨x,hx,rfl⟩:=hv
    rw [add_plain]
    have hx':r[j]?=some x:=by
     rw [List.getElem?_take] at hx
     split at hx
     ·exact hx
     ·cases hx
    have hne:b≠B:=by
     intro e
     apply HNE.out (by omega)
     rw [hA,e];rfl
    exact (HKP.out.cell (p:=⟨b,off+j,none⟩) hb hne).trans (hc j x hx')
   have hsl:=fun W=>arr64_l W B 8 (rest l).length hr64
   go_upto_region 2 with (fail)
   go_region_law (refine step_copy_keep rfl (.tmp 26) (.tmp 27) 23 23 rfl 5 Tryz.underlying23 (by kernel_rfl) (some ⟨B,8+(rest l).length,none⟩) A (64-(rest l).length) (64-(rest l).length) r.length cap rfl rfl B (8+(rest l).length) (Cells (hashTo l (l.length / 64)) (rest l++junk) (rest l).length (l.length+r.length)) 227 (Blk.drew HB.out) (Lib.byteCells (r.take n)) HNM.out HPOS.out n HLN.out HFIT.out (bytes_one _) ?_;intro W2 HB2 HK2)
   have HB3:Hid (Blk W2 B 227 (Cells (hashTo l (l.length / 64)) (rest l++(r.take n++junk.drop n)) (rest l).length (l.length+r.length))):=by
    have:=HB2.out
    rw [Cells.splice HH8.out _ _ _ (by rw [HB64.out,HLT.out];omega),HLT.out,List.take_left,List.drop_append,List.drop_of_length_le (by omega:(rest l).length≤(rest l).length+n),Nat.add_sub_cancel_left,List.nil_append] at this
    exact this
   have HB64b:Hid ((rest l++(r.take n++junk.drop n)).length=64):=by
    show _=_
    rw [List.length_append,List.length_append,HLT.out,List.length_drop];omega
   have c72b:=Cells.held HB3.out HH8.out HB64b.out
   have f72b:=HB3.out.frozen 72
   have H4:Hid (Blk (W2.setCell ⟨B,72,none⟩ (.int .i64 ((rest l).length+n))) B 227 (Cells (hashTo l (l.length / 64)) (rest l++(r.take n++junk.drop n)) ((rest l).length+n) (l.length+r.length))):=by
    have:=Cells.setHeld HB3.out HH8.out HB64b.out ((rest l).length+n)
    show Blk _ _ _ _
    rw [Int.natCast_add] at this
    exact this
   have HK4:Hid (Keeps w (W2.setCell ⟨B,72,none⟩ (.int .i64 ((rest l).length+n))) B):=(HKP.out.drew.trans HK2.out).setCell _ _
   have hcut:=fun W=>sl_l W A r.length cap n hn1
   clear HB2 HB3 hsl HPOS HNM HFIT c72 f72
   by_cases hfull:(rest l).length+n<64
   ·have HF:Hid (St (W2.setCell ⟨B,72,none⟩ (.int .i64 ((rest l).length+n))) B (l++r)):=by
     have hnr:n=r.length:=by rcases HN.out with h|h <;> omega
     have hx:(l++r).length / 64=l.length / 64:=by rw [HTOT.out];have:=rest_length l;omega
     have hm:(l++r).length % 64=(rest l).length+n:=by rw [HTOT.out];have:=rest_length l;omega
     have hrr:rest (l++r)=rest l++r:=by
      unfold Sh.rest
      rw [hx,List.drop_append_of_le_length (by omega)]
     refine ⟨junk.drop n,?_,?_⟩
     ·rw [hrr,List.length_append,List.length_drop];omega
     ·rw [hrr,hx,HH.out,hm,HTOT.out,List.append_assoc]
      have:=H4.out
      rw [List.take_of_length_le (by omega)] at this
      exact this
    clear H4
    go_wp2_with fail
    exact bodyPost_ret (v:=.tuple #[]) (results_none rfl _ _ _) rfl ⟨rfl,HF.out,HK4.out⟩
   ·have hfl:(rest l).length+n=64:=by omega
    have HFL:=Lib.hid hfl
    have hKW:KAt (W2.setCell ⟨B,72,none⟩ (.int .i64 ((rest l).length+n))):=HK.out.keeps HK4.out hG
    have hb64b:(rest l++r.take n).length=64:=by rw [List.length_append,HLT.out];exact hfl
    have hj0:rest l++(r.take n++junk.drop n)=rest l++r.take n:=by
     rw [List.drop_of_length_le (by omega),List.append_nil]
    have H5:=H4.out
    rw [hj0] at H5
    obtain ⟨HCW,HCM⟩:=block_calls _ B (hashTo l (l.length / 64)) HH8.out (rest l++r.take n) hb64b (rest l++r.take n) hb64b ((rest l).length+n) (l.length+r.length) H5 hKW hG (some ⟨B,8,none⟩) 64 (Nat.le_refl _) (fun W' hW=>by
     have:=Cells.rd (H5.below hW H5.lt) HH8.out 64
     rw [List.take_of_length_le (by omega)] at this
     exact this)
    clear H4 hKW hj0 H5
    have HKW2:Hid (Keeps w (W2.setCell ⟨B,72,none⟩ (.int .i64 ((rest l).length+n))) B):=HK4
    go_upto_region 6 with (fail)
    go_region_with (first
     | (go_at_call 185;refine (HCW.out _ ?_).mono ?_;exact (Below.refl _ _).drew;rintro e w5 ⟨rfl,hb5,hc5⟩)
     | (go_at_call 184;refine (HCM.out _ ?_).mono ?_;(first|assumption|exact (hc5:Below _ _ _));rintro e w6 ⟨rfl,hb6,hc6,hk6⟩))
    go_wp2_with fail
    go_meet
    have hk7:Keeps w w6 B:=(HK4.out.trans (Keeps.of_below hc6)).trans hk6
    refine ⟨l.length / 64+1,cutA A n cap,r.drop n,cap-n,by rw [List.length_drop],by rw [List.length_drop];omega,⟨⟨rest l++r.take n,(rest l).length+n,hb64b,?_⟩,?_,?_,HR.out.cut n cap hcap,cutA_block _ _ _ _ _ HNE.out,HK.out.keeps hk7 hG,hk7⟩⟩
    ·have e:((l++r).drop (64*(l.length / 64))).take 64=rest l++r.take n:=by
      rw [List.drop_append_of_le_length (by omega),List.take_append]
      show (rest l).take 64++r.take (64-(rest l).length)=_
      rw [List.take_of_length_le (by omega),show 64-(rest l).length=n by omega]
     rw [hashTo,e,HH.out,HTOT.out]
     exact hb6
    ·rw [HTOT.out];have:=rest_length l;omega
    ·have e:64*(l.length / 64+1)=l.length+n:=by have:=rest_length l;omega
     rw [e,List.drop_length_add_append]
  ·have HW:Hid (ShWAt (l++r) B (l.length / 64) A r w W):=by
    refine ⟨⟨rest l++junk,(rest l).length,HB64.out,?_⟩,by rw [HTOT.out];omega,?_,HR.out,HNE.out,HKW.out,HKP.out⟩
    ·rw [HH.out,HTOT.out];exact HB.out
    ·have h0':(rest l).length=0:=by omega
     rw [rest_length] at h0'
     rw [List.drop_append,List.drop_of_length_le (by omega),show 64*(l.length / 64)-l.length=0 by omega]
     rfl
   go_wp2_with fail
   go_meet
   exact ⟨_,_,_,_,rfl,hcap,HW⟩
 case rest =>
  obtain ⟨k,A',q,c,rfl,hqc,HW⟩:=hcut
  clear HKP HKW f72 c72 HB
  go_wp2_with fail
  go_loopw [1] (fun t1 wr=>∃ k A' q c,t1=.slice A' (List.length q) c∧q.length≤c∧Hid (ShWAt (l++r) B k A' q w wr)) (fun t1 _=>lenOf t1)
  case atStart=>exact ⟨_,_,_,_,rfl,hqc,HW⟩
  case round =>
   obtain ⟨k,A',q,c,rfl,hqc,HW⟩:=hrel
   by_cases h64:64≤q.length
   ·have hx64:(q.take 64).length=64:=by rw [List.length_take];omega
    have HCALLS:∃ b hd,b.length=64∧Hid (∀ W',Below wr.heap.size wr W'→Calls Tryz.prog 185 #[.slice A' 64 c] W' fun e w'=>e=.returned (.agg (words32 (wordsOf (q.take 64))).toArray)∧Hid (Below W'.heap.size W' w')∧Hid (Below wr.heap.size wr w')) ∧
        Hid (∀ W',Below wr.heap.size wr W'→Calls Tryz.prog 184 #[.pointer (some ⟨B,0,none⟩),.agg (words32 (wordsOf (q.take 64))).toArray] W' fun e w'=>e=.returned (.tuple #[])∧Hid (Blk w' B 227 (Cells (Sh.mix (hashTo (l++r) k) (wordsOf (q.take 64))) b hd (l++r).length))∧Hid (Below wr.heap.size wr W')∧Hid (Keeps W' w' B)):=by
     obtain ⟨b,hd,hb,hB⟩:=HW.out.blk
     refine ⟨b,hd,hb,block_calls wr B _ (hashTo_length _ _) (q.take 64) hx64 b hb hd _ hB HW.out.k hG A' c (by omega) (fun W' hW=>?_)⟩
     exact ((HW.out.rd.keeps HW.out.keeps HW.out.ne).below hW).take 64
    obtain ⟨b,hd,hb,HCW,HCM⟩:=HCALLS
    have HBL:=Lib.hid hb
    have hsl:=fun W=>sl_h W A' q.length c 64 (by omega)
    have hcut:∀ W,(Instr.sliceAt 23 (.slice A' q.length c) (some (.int .i64 64)) none none).run Tryz.prog W=.ok (.slice (cutA A' 64 c) (q.length-64) (c-64)) W:=fun W=>sl_l W A' q.length c 64 h64
    clear hx64 hb
    go_upto_region 8 with (fail)
    go_region_with (first
     | (go_at_call 185;refine (HCW.out _ ?_).mono ?_;exact (Below.refl _ _).drew;rintro e w5 ⟨rfl,hb5,hc5⟩)
     | (go_at_call 184;refine (HCM.out _ ?_).mono ?_;(first|assumption|exact (hc5:Below _ _ _));rintro e w6 ⟨rfl,hb6,hc6,hk6⟩))
    go_wp2_with fail
    go_roundw
    case rel=>exact ⟨k+1,cutA A' 64 c,q.drop 64,c-64,by rw [List.length_drop],by rw [List.length_drop];omega,HW.out.mixed h64 c hqc hG hc6 hk6 b hd HBL.out hb6⟩
    case measure=>simp [lenOf];omega
   ·obtain ⟨b,hd,hb,hB⟩:=HW.out.blk
    have HB0:=Lib.hid hB
    have hq64:q.length<64:=by omega
    have HNM:Hid ((Lib.byteCells q).length=Nat.min q.length 64):=by show _=_;rw [Lib.byteCells_length];exact (Nat.min_eq_left (by omega)).symm
    have HLN:Hid ((Lib.byteCells q).length=q.length):=Lib.byteCells_length q
    have HFIT:Hid (8+(Lib.byteCells q).length≤(Cells (hashTo (l++r) k) b hd (l++r).length).length):=by
     show _≤_
     rw [Cells.len (hashTo_length _ _) hb,Lib.byteCells_length];omega
    have HPOS:Hid (0<(Lib.byteCells q).length→(some (⟨B,8,none⟩:Addr)=some ⟨B,8,none⟩∧∃ ad,A'=some ad∧∀ j v,(Lib.byteCells q)[j]?=some v→wr.cell? (ad.add j)=some v)):=by
     intro hp
     rw [Lib.byteCells_length] at hp
     obtain ⟨b,off,hA,_,hc⟩:=(HW.out.rd.keeps HW.out.keeps HW.out.ne) hp
     refine ⟨rfl,_,hA,fun j v hv=>?_⟩
     simp only [Lib.byteCells,List.getElem?_map,Option.map_eq_some_iff] at hv
     obtain ⟨x,hx,rfl⟩:=hv
     rw [add_plain]
     exact hc j x hx
    have HBL:=Lib.hid hb
    clear hB hb
    go_upto_region 10 with (fail)
    go_wp2_with (refine wpList_copy_keep rfl (.tmp 70) (.tmp 71) 23 23 rfl 5 Tryz.underlying23 (by kernel_rfl) (some ⟨B,8,none⟩) A' 64 64 q.length c rfl rfl B 8 (Cells (hashTo (l++r) k) b hd (l++r).length) 227 HB0.out (Lib.byteCells q) HNM.out HPOS.out q.length HLN.out HFIT.out (bytes_one _) ?_;intro W2 HB2 HK2;obtain ⟨x72,hx72⟩:∃ x,W2.cell? ⟨B,72,none⟩=some x:=copied_cell HB2.out (hashTo_length _ _) HBL.out hq64;have hf72:W2.frozen? ⟨B,72,none⟩=false:=HB2.out.frozen 72)
    go_end0
    have hbb:(q++b.drop q.length).length=64:=by rw [List.length_append,List.length_drop,HBL.out];omega
    have hB2:Blk W2 B 227 (Cells (hashTo (l++r) k) (q++b.drop q.length) hd (l++r).length):=by
     rw [← copied (hashTo_length _ _) b q hd _ HBL.out hq64];exact HB2.out
    exact ⟨rfl,HW.out.close hq64 b HBL.out (Cells.setHeld hB2 (hashTo_length _ _) hbb q.length),(HW.out.keeps.trans HK2.out).setCell _ _⟩
end Go.Proofs.YtbnpgakmhhfjkaaGreatDoor
namespace Go.Proofs.YtbnpgakmhhfjkaaGreatDoor
open Go.RowKit Sh
end Go.Proofs.YtbnpgakmhhfjkaaGreatDoor
namespace Go.Proofs.YtbnpgakmhhfjkaaGreatDoor
open Go.RowKit Sh
namespace Sn
set_option maxHeartbeats 1000000 in
set_option maxRecDepth 100000 in
theorem chained_any (w:World) (l r:List UInt8) (A A2:Option Addr) (c c2:Nat) (hr:Rd w A l) (hc:l.length≤c) (hr2:Rd w A2 r) (hc2:r.length≤c2) (hK:KAt w) (hl:l.length+r.length≤1099511627776) :
    Calls Tryz.prog 92 #[.slice A l.length c,.slice A2 r.length c2] w fun e w'=>∃ v,e=.returned v∧w'.ownsRow w.heap.size 5 1 v 32 (Lib.byteCells (Sh.sum (l++r)))∧Below w.heap.size w w':=by
 have HR:Hid (Rd w A l):=hr
 have HR2:Hid (Rd w A2 r):=hr2
 have HK:Hid (KAt w):=hK
 clear hr hr2 hK
 go_enter Tryz.func92,Tryz.ntmps92
 go_wp2_with fail
 refine (new_any w).mono ?_
 rintro e w1 ⟨B,rfl,hB,hs1,hb1⟩
 have HB:=Lib.hid hB
 have HS1:Hid (St w1 B []):=hs1
 have HB1:Hid (Below w.heap.size w w1):=hb1
 clear hs1 hb1 hB
 go_wp2_with fail
 refine (write_any w1 B [] l A c HS1.out (HK.out.below HB1.out HK.out.pos) (by have:=HK.out.pos;have:=HB.out;omega) (HR.out.far HB.out) (HR.out.below HB1.out) hc (by simp;omega)).mono ?_
 rintro e w2 ⟨rfl,hs2,hk2⟩
 have HS2:Hid (St w2 B l):=hs2
 have HB2:Hid (Below w.heap.size w w2):=Keeps.below HB1.out hk2 HB.out HB1.out.size
 clear hs2 hk2
 go_wp2_with fail
 refine (write_any w2 B l r A2 c2 HS2.out (HK.out.below HB2.out HK.out.pos) (by have:=HK.out.pos;have:=HB.out;omega) (HR2.out.far HB.out) (HR2.out.below HB2.out) hc2 (by omega)).mono ?_
 rintro e w3 ⟨rfl,hs3,hk3⟩
 have HS3:Hid (St w3 B (l++r)):=hs3
 have HB3:Hid (Below w.heap.size w w3):=Keeps.below HB2.out hk3 HB.out HB2.out.size
 clear hs3 hk3
 go_wp2_with fail
 refine (streamSum_any w3 B (l++r) HS3.out (HK.out.below HB3.out HK.out.pos) (by rw [List.length_append];exact hl)).mono ?_
 rintro e w4 ⟨v,rfl,hown,hb4⟩
 have HF:Hid (w4.ownsRow w.heap.size 5 1 v 32 (Lib.byteCells (Sh.sum (l++r)))∧Below w.heap.size w w4):=⟨own_mono hown HB3.out.size,HB3.out.trans (hb4.mono HB3.out.size)⟩
 clear hown hb4
 go_wp2_with fail
 go_ret
 exact ⟨_,rfl,HF.out⟩
end Sn
end Go.Proofs.YtbnpgakmhhfjkaaGreatDoor
namespace Go.Proofs.YtbnpgakmhhfjkaaGreatDoor
open Go.RowKit Rc
open Tr (Nm En T)
namespace Sn
variable {D:Nat→Prop} {w w':World} {p:Nat} {av lv:Value} {els:List (Value × Value)} {s:Snaps}
set_option maxHeartbeats 1000000 in
set_option maxRecDepth 100000 in
theorem snew_any (w:World):Calls Tryz.prog 37 #[] w fun e w'=>∃ p,e=.returned (.pointer (some ⟨p,0,none⟩))∧SnIn p (.slice none 0 0) (.slice none 0 0) [] (fun _=>False) new w'∧Below w.heap.size w w'∧w.heap.size≤p:=by
 have HB:Hid (Blk (w.alloc (.cells #[.slice none 0 0,.int .i64 1,.slice none 0 0] 135)) w.heap.size 135 [.slice none 0 0,.int .i64 1,.slice none 0 0]):=Blk.new w _ _
 have HL:Hid (Below w.heap.size w (w.alloc (.cells #[.slice none 0 0,.int .i64 1,.slice none 0 0] 135))):=below_new w _
 go_enter Tryz.func37,Tryz.ntmps37
 go_wp2_with fail
 go_ret
 exact ⟨_,rfl,⟨HB.out,⟨rfl,.inl ⟨rfl,rfl⟩⟩,rfl,(fun j x v hx _=>by simp [new] at hx),⟨none,0,rfl,Nat.le_refl _,Rd.nil _ _,fun b hb=>by cases hb⟩,fun b h=>h.elim⟩,HL.out,Nat.le_refl _⟩
theorem set3_blk {w:World} {g:Nat} {t:TypeId} {a b c:Value} (h:Blk w g t [a,b,c]) (x0 x1 x2:Value):Blk (((w.setCell ⟨g,0,none⟩ x0).setCell ⟨g,1,none⟩ x1).setCell ⟨g,2,none⟩ x2) g t [x0,x1,x2]:=((h.set_ 0 x0).set_ 1 x1).set_ 2 x2
theorem set3_below {w w':World} {B g:Nat} (h:Below B w w') (hg:B≤g) (x0 x1 x2:Value):Below B w (((w'.setCell ⟨g,0,none⟩ x0).setCell ⟨g,1,none⟩ x1).setCell ⟨g,2,none⟩ x2):=below_set1 (below_set1 (below_set1 h hg 0 x0) hg 1 x1) hg 2 x2
theorem set3_own {w:World} {B n g:Nat} {v:Value} {xs:List Value} {e:TypeId} {k:Nat} (h:w.ownsRow B e k v n xs) (hg:v.ownBlock≠some g) (x0 x1 x2:Value):(((w.setCell ⟨g,0,none⟩ x0).setCell ⟨g,1,none⟩ x1).setCell ⟨g,2,none⟩ x2).ownsRow B e k v n xs :=
 Tm.own_keep h fun b hb=>by
  have hne:b≠g:=fun e=>hg (e ▸ hb)
  rw [Below.heap_setCell _ ⟨g,2,none⟩ _ b hne,Below.heap_setCell _ ⟨g,1,none⟩ _ b hne,Below.heap_setCell _ ⟨g,0,none⟩ _ b hne]
theorem SnIn.more {x:One} {v:Value × Value} {av':Value} {wa:World} (h:SnIn p av lv els D s w) (hs:w.heap.size≤w'.heap.size) (hb:Blk w' p 135 [av',.int .i64 (s.next+1),v.1])
    (hr:w'.ownsRow 0 138 3 av' (s.all.length+1) (snCells s.all els++[.int .i64 x.id,v.1,v.2])) (ha:av'.ownBlock=av.ownBlock∨av'.ownBlock=some wa.heap.size) (hD:∀ b,D b→w'.heap[b]?=w.heap[b]?) {D1:Nat→Prop} (hv:BV D1 w' v.1 x.hash∧BV D1 w' v.2 (Tr.save x.tree)) (hD1:∀ b,D1 b→w.heap.size≤b∧b<wa.heap.size) (hwa:w.heap.size≤wa.heap.size∧wa.heap.size≤w'.heap.size) :
    SnIn p av' v.1 (els++[v]) (fun b=>D b∨D1 b) ⟨s.all++[x],s.next+1,x.hash⟩ w':=by
 have hp:=h.box.lt
 refine ⟨hb,?_,by simp [h.len],fun j y u hy hu=>?_,hv.1.mono fun b hb=>.inr hb,fun b hb=>?_⟩
 ·rw [snCells_app _ _ _ _ h.len.symm,List.length_append]
  exact hr
 ·have hl:=h.len
  rcases Nat.lt_or_ge j s.all.length with hj|hj
  ·rw [List.getElem?_append_left hj] at hy
   rw [List.getElem?_append_left (by omega)] at hu
   obtain ⟨k1,k2⟩:=h.each j y u hy hu
   exact ⟨(k1.keep hs hD).mono fun b hb=>.inl hb,(k2.keep hs hD).mono fun b hb=>.inl hb⟩
  ·rw [List.getElem?_append_right hj] at hy
   rw [List.getElem?_append_right (by omega)] at hu
   have hj0:j-s.all.length=0:=by
    rcases Nat.eq_zero_or_pos (j-s.all.length) with h0|h0
    ·exact h0
    ·rw [List.getElem?_eq_none (by simp;omega)] at hy;cases hy
   rw [hj0] at hy
   rw [hl,hj0] at hu
   obtain rfl:x=y:=by simpa using hy
   obtain rfl:v=u:=by simpa using hu
   exact ⟨hv.1.mono fun b hb=>.inr hb,hv.2.mono fun b hb=>.inr hb⟩
 ·rcases hb with hb|hb
  ·obtain ⟨h1,h2,h3⟩:=h.low b hb
   refine ⟨Nat.lt_of_lt_of_le h1 hs,h2,fun e=>?_⟩
   rcases ha with ha|ha
   ·exact h3 (ha ▸ e)
   ·rw [ha] at e;injection e with e;omega
  ·obtain ⟨h1,h2⟩:=hD1 b hb
   refine ⟨by omega,by omega,fun e=>?_⟩
   rcases ha with ha|ha
   ·rw [ha] at e
    have:=(Tm.own_blk h.row e).2.1
    omega
   ·rw [ha] at e;injection e with e;omega
set_option maxHeartbeats 4000000 in
set_option maxRecDepth 100000 in
theorem take_any {q:Nat} {qv:Value} {gs:List Nat} {S:Nat→Prop} {t:T} (h:SnIn p av lv els D s w) (hO:Ok s) (hn:s.next<1000000000000000) (hT:Tm.TIn q qv gs S t w) (hG:Tr.Good t) (hS:Tr.Slim t) (hK:KAt w) :
    Calls Tryz.prog 34 #[.pointer (some ⟨p,0,none⟩),.pointer (some ⟨q,0,none⟩)] w (STurn p (take s t).2 (.tuple #[.int .i64 (take s t).1.1,.int .i64 ((take s t).1.2:Nat)]) (SnS p av D) w):=by
 have H:=Lib.hid h
 have HO:=Lib.hid hO
 have HK:=Lib.hid hK
 have HG:=Lib.hid hG
 have HS:=Lib.hid hS
 have HNX:=Lib.hid hn
 have HC:=Lib.hid (committed_any hT hG hS)
 have c0:w.cell? ⟨p,0,none⟩=some av:=h.box.cell 0
 obtain ⟨A,c,hav,hc,_⟩:=Tm.own_form h.row
 obtain ⟨n,hn0⟩:∃ n,n=s.all.length:=⟨_,rfl⟩
 have HN:=Lib.hid hn0
 have hn8:n≤8:=by rw [hn0];exact hO.few
 rw [← hn0] at hav hc
 have HAV:=Lib.hid hav
 rw [hav] at c0
 clear h hO hT hG hS hK hav hn0 hn
 go_enter Tryz.func34,Tryz.ntmps34
 by_cases h8:8≤n
 ·have hge:(8:Int)≤(n:Int):=by omega
  have HF:Hid (take s t=((0,4),s)):=take_many (by rw [← HN.out];exact h8)
  go_wp2_with fail
  go_ret2
  rw [HF.out]
  exact ⟨rfl,av,lv,els,D,H.out,Mod.of_below (Below.refl _ _) _,fun b hb=>.inl hb⟩
 ·have hlt:¬ (8:Int)≤(n:Int):=by omega
  have HF:Hid (take s t=((s.next,0),⟨s.all++[⟨s.next,Sh.sum (s.last++Tr.save (Tr.committed t)),Tr.committed t⟩],s.next+1,Sh.sum (s.last++Tr.save (Tr.committed t))⟩)):=take_one (by rw [← HN.out];exact h8)
  go_wp2_with fail
  refine HC.out.mono ?_
  rintro r w1 ⟨q1,rfl,hT1⟩
  obtain ⟨av1,gs1,S1,hT1,hup1,hb1⟩:=hT1
  have HB1:=Lib.hid hb1
  have HSV:=Lib.hid (Tm.save_any hT1 (Tr.committed_good HG.out))
  clear hT1 hup1 hb1 HC c0
  go_wp2_with fail
  refine HSV.out.mono ?_
  rintro r w2 ⟨X2,k2,rfl,hk2,hr2,ho2,hb2⟩
  have HB2:Hid (Below w.heap.size w w2):=HB1.out.trans (hb2.mono HB1.out.size)
  have H2:=Lib.hid (H.out.below HB2.out)
  have HO2:=Lib.hid ho2
  have HR2:=Lib.hid hr2
  have HK2:=Lib.hid hk2
  clear ho2 hr2 hk2 hb2 HSV
  obtain ⟨XL,kL,hlv,hkL,hrL,_⟩:=H2.out.last
  have HLV:=Lib.hid hlv
  have HCH:Hid (∀ W,Below w2.heap.size w2 W→Calls Tryz.prog 92 #[.slice XL s.last.length kL,.slice X2 (Tr.save (Tr.committed t)).length k2] W fun e w'=>∃ v,e=.returned v∧w'.ownsRow W.heap.size 5 1 v 32 (Lib.byteCells (Sh.sum (s.last++Tr.save (Tr.committed t))))∧Below W.heap.size W w'):=fun W hW =>
   chained_any W s.last (Tr.save (Tr.committed t)) XL X2 kL k2 (hrL.below hW) hkL (HR2.out.below hW) HK2.out (HK.out.below (HB2.out.trans (hW.mono HB2.out.size)) HK.out.pos) (by have:=Tr.save_few (Tr.committed_good HG.out) (Tr.committed_slim HS.out);have:=HO.out.last;omega)
  have HKC:Hid (∀ W,Below w2.heap.size w2 W→W.cell? ⟨p,1,none⟩=some (.int .i64 s.next)∧W.cell? ⟨p,2,none⟩=some (.slice XL s.last.length kL)):=fun W hW=>by
   have hb:=(H2.out.below hW).box
   rw [hlv] at hb
   exact ⟨hb.cell 1,hb.cell 2⟩
  clear hlv hkL hrL
  obtain ⟨sv,hsv⟩:∃ sv,sv=Tr.save (Tr.committed t):=⟨_,rfl⟩
  obtain ⟨hs,hhs⟩:∃ hs,hs=Sh.sum (s.last++sv):=⟨_,rfl⟩
  rw [← hsv] at HCH HO2 HR2 HK2 HF ⊢
  rw [← hhs] at HCH HF
  have HL32:Hid (hs.length=32∧sv=Tr.save (Tr.committed t)):=⟨by rw [hhs];exact Sh.sum_length _,hsv⟩
  clear hsv hhs
  have HC1:Hid (Calls Tryz.prog 92 #[.slice XL s.last.length kL,.slice X2 sv.length k2] (w2.alloc (.cells #[.int .i64 0,.slice none 0 0,.slice none 0 0] 138)).drew fun e w'=>∃ A3 c3,e=.returned (.slice A3 32 c3)∧Hid (Below w2.heap.size w2 w')∧Hid (w'.ownsRow w2.heap.size 5 1 (.slice A3 32 c3) 32 (Lib.byteCells hs))∧Hid (Blk w' w2.heap.size 138 [.int .i64 0,.slice none 0 0,.slice none 0 0])):=by
   have hbn:Below w2.heap.size w2 (w2.alloc (.cells #[.int .i64 0,.slice none 0 0,.slice none 0 0] 138)).drew:=(below_new w2 _).drew
   have hblk:Blk (w2.alloc (.cells #[.int .i64 0,.slice none 0 0,.slice none 0 0] 138)).drew w2.heap.size 138 [.int .i64 0,.slice none 0 0,.slice none 0 0]:=(Blk.new w2 _ _).drew
   obtain ⟨W,hW⟩:∃ W,W=(w2.alloc (.cells #[.int .i64 0,.slice none 0 0,.slice none 0 0] 138)).drew:=⟨_,rfl⟩
   rw [← hW] at hbn hblk ⊢
   refine (HCH.out W hbn).mono ?_
   rintro e1 w3 ⟨v3,rfl,ho3,hb3⟩
   obtain ⟨A3,c3,hv3,hc3,-⟩:=Tm.own_form ho3
   subst hv3
   exact ⟨A3,c3,rfl,hbn.trans (hb3.mono hbn.size),own_mono ho3 hbn.size,hblk.below hb3 hblk.lt⟩
  have HC2:Hid (Calls Tryz.prog 92 #[.slice XL s.last.length kL,.slice X2 sv.length k2] w2.drew fun e w'=>∃ A3 c3,e=.returned (.slice A3 32 c3)∧Hid (Below w2.heap.size w2 w')∧Hid (w'.ownsRow w2.heap.size 5 1 (.slice A3 32 c3) 32 (Lib.byteCells hs))):=by
   refine (HCH.out w2.drew ⟨rfl,rfl,rfl,Nat.le_refl _,fun _ _=>rfl⟩).mono ?_
   rintro e1 w3 ⟨v3,rfl,ho3,hb3⟩
   obtain ⟨A3,c3,hv3,hc3,-⟩:=Tm.own_form ho3
   subst hv3
   exact ⟨A3,c3,rfl,⟨hb3.os,hb3.tape,hb3.output,hb3.size,hb3.block⟩,ho3⟩
  go_upto_region 9 with (fail)
  go_cut [8] (fun t8 wx=>∃ WX,WX=wx∧∃ (b8:Nat) (A3:Option Addr) (c3:Nat),t8=.pointer (some ⟨b8,0,none⟩)∧Hid (Blk WX b8 138 [.int .i64 s.next,.slice A3 32 c3,.slice X2 sv.length k2]∧w2.heap.size≤b8∧Below w2.heap.size w2 WX∧WX.ownsRow w2.heap.size 5 1 (.slice A3 32 c3) 32 (Lib.byteCells hs)))
  case first =>
   go_region_held3 (fun W=>W.cell? ⟨p,1,none⟩=some (.int .i64 s.next)∧W.cell? ⟨p,2,none⟩=some (.slice XL s.last.length kL))
    (first
     | exact HKC.out _ HB3.out
     | exact HKC.out _ (below_new w2 _).drew
     | exact HKC.out _ ⟨rfl,rfl,rfl,Nat.le_refl _,fun _ _=>rfl⟩
     | exact HKC.out _ (HB3.out.trans ((below_new _ _).mono HB3.out.size))
     | exact HKC.out _ (set3_below HB3.out (Nat.le_refl _) _ _ _)
     | exact HKC.out _ (set3_below (HB3.out.trans ((below_new _ _).mono HB3.out.size)) HB3.out.size _ _ _)
     | go_keep
     | fail)
    (first
     | (go_at_call 92;refine HC1.out.mono ?_;rintro e1 w3 ⟨A3,c3,rfl,HB3,HO3,HZ3⟩;have z0:=HZ3.out.cell 0;have z1:=HZ3.out.cell 1;have z2:=HZ3.out.cell 2;have y0:=HZ3.out.frozen 0;have y1:=HZ3.out.frozen 1;have y2:=HZ3.out.frozen 2)
     | (go_at_call 92;refine HC2.out.mono ?_;rintro e1 w3 ⟨A3,c3,rfl,HB3,HO3⟩)
     | fail)
   ·go_wp2_with fail
    go_meet
    case rel=>exact ⟨_,rfl,w3.heap.size,A3,c3,rfl,Blk.new w3 _ _,HB3.out.size,HB3.out.trans ((below_new _ _).mono HB3.out.size),Tm.own_keep HO3.out fun b hb=>(below_new w3 _).block b (Tm.own_blk HO3.out hb).2.1⟩
   ·go_wp2_with fail
    go_meet
    case rel=>exact ⟨_,rfl,w2.heap.size,A3,c3,rfl,set3_blk HZ3.out _ _ _,Nat.le_refl _,set3_below HB3.out (Nat.le_refl _) _ _ _,set3_own HO3.out (fun hb=>by obtain ⟨_,_,cs,h9⟩:=Tm.own_blk HO3.out hb;exact h9.ne_ HZ3.out (by decide) rfl) _ _ _⟩
  case rest =>
  obtain ⟨WX,hWX,b8,A3,c3,rfl,HX⟩:=hcut
  subst hWX
  clear HKC HCH HC1 HC2
  have HXX:=Lib.hid (H2.out.below HX.out.2.2.1)
  have c0:WX.cell? ⟨p,0,none⟩=some (.slice A n c):=by rw [← HAV.out];exact HXX.out.box.cell 0
  have x0:WX.cell? ⟨b8,0,none⟩=some (.int .i64 s.next):=HX.out.1.cell 0
  have x1:WX.cell? ⟨b8,1,none⟩=some (.slice A3 32 c3):=HX.out.1.cell 1
  have x2:WX.cell? ⟨b8,2,none⟩=some (.slice X2 sv.length k2):=HX.out.1.cell 2
  have HROW:Hid (∀ o,(WX.alloc o).ownsRow 0 138 3 (.slice A n c) n (snCells s.all els)):=fun o=>by
   have h1:=HXX.out.row
   rw [HAV.out,← HN.out] at h1
   exact Tm.own_keep h1 fun b hb=>(below_new WX o).block b (Tm.own_blk h1 hb).2.1
  have HSRC:Hid (Rf.Src (WX.alloc (.cells #[.int .i64 s.next,.slice A3 32 c3,.slice X2 sv.length k2] 138)) (some ⟨WX.heap.size,0,none⟩) [.int .i64 s.next,.slice A3 32 c3,.slice X2 sv.length k2]):=Rf.new_src WX _ [.int .i64 s.next,.slice A3 32 c3,.slice X2 sv.length k2]
  have c0a:=fun o=>Tm.cell_alloc o c0
  have HBX:Hid (∀ o w5,(WX.alloc o).drew.grownBy w5 (Value.slice A n c).ownBlock→Blk w5 p 135 [.slice A n c,.int .i64 s.next,lv]∧Blk w5 b8 138 [.int .i64 s.next,.slice A3 32 c3,.slice X2 sv.length k2]):=fun o w5 hg=>by
   have hb:=below_new WX o
   have h1:=HXX.out.box
   have h2:=HXX.out.row
   rw [HAV.out] at h1 h2
   refine ⟨(hg.block p (Nat.lt_of_lt_of_le h1.lt hb.size) fun e=>?_).trans ((hb.block p h1.lt).trans h1),(hg.block b8 (Nat.lt_of_lt_of_le HX.out.1.lt hb.size) fun e=>?_).trans ((hb.block b8 HX.out.1.lt).trans HX.out.1)⟩
   ·obtain ⟨_,_,cs,h9⟩:=Tm.own_blk h2 e.symm
    exact h9.ne_ h1 (by decide) rfl
   ·have h3:=H2.out.row
    rw [HAV.out] at h3
    have h9:=(Tm.own_blk h3 e.symm).2.1
    have:=HX.out.2.1
    omega
  have HPB:Hid (p<w2.heap.size∧w2.heap.size≤b8):=⟨H2.out.box.lt,HX.out.2.1⟩
  have hne1:p≠b8:=by have:=HPB.out;omega
  have hne2:b8≠p:=by have:=HPB.out;omega
  have hsn:s.next≤1000000000000000∧1≤s.next:=⟨HO.out.next.2,HO.out.next.1⟩
  obtain ⟨nx,hnx⟩:∃ nx:Nat,s.next=nx:=⟨s.next.toNat,by omega⟩
  have HNN:Hid (s.next=nx):=hnx
  have hnb:nx≤1000000000000000:=by omega
  rw [hnx] at HX x0 HSRC HBX
  clear hnx hsn
  have HEND:Hid (∀ (w5:World) (A5:Option Addr) (k5:Nat),(WX.alloc (.cells #[.int .i64 (nx:Nat),.slice A3 32 c3,.slice X2 sv.length k2] 138)).drew.grownBy w5 (Value.slice A n c).ownBlock →
      w5.ownsRow 0 138 3 (.slice A5 (n+1) k5) (n+1) (snCells s.all els++[.int .i64 (nx:Nat),.slice A3 32 c3,.slice X2 sv.length k2])→((Value.slice A5 (n+1) k5).ownBlock=(Value.slice A n c).ownBlock∨(Value.slice A5 (n+1) k5).ownBlock=some (WX.alloc (.cells #[.int .i64 (nx:Nat),.slice A3 32 c3,.slice X2 sv.length k2] 138)).drew.heap.size) →
      STurn p (take s t).2 (.tuple #[.int .i64 (take s t).1.1,.int .i64 ((take s t).1.2:Nat)]) (SnS p av D) w (.returned (.tuple #[.int .i64 (nx:Nat),.int .i64 0])) (((w5.setCell ⟨p,0,none⟩ (.slice A5 (n+1) k5)).setCell ⟨p,1,none⟩ (.int .i64 ((nx:Int)+1))).setCell ⟨p,2,none⟩ (.slice A3 32 c3))):=fun w5 A5 k5 hg ho hv=>by
   obtain ⟨hb5,_⟩:=HBX.out _ _ hg
   obtain ⟨wa,hwa⟩:∃ wa,wa=(WX.alloc (.cells #[.int .i64 (nx:Nat),.slice A3 32 c3,.slice X2 sv.length k2] 138)).drew:=⟨_,rfl⟩
   have hba:Below WX.heap.size WX wa:=by rw [hwa];exact (below_new WX _).drew
   rw [← hwa] at hg hv
   have hb2:=HX.out.2.2.1
   have hbX:Below w.heap.size w WX:=HB2.out.trans (hb2.mono HB2.out.size)
   have hbA:Below w.heap.size w wa:=hbX.trans (hba.mono hbX.size)
   have hpw:=H.out.box.lt
   have hrow:=H.out.row
   have havo:av.ownBlock=(Value.slice A n c).ownBlock:=by rw [HAV.out]
   obtain ⟨wF,hwF⟩:∃ wF,wF=((w5.setCell ⟨p,0,none⟩ (.slice A5 (n+1) k5)).setCell ⟨p,1,none⟩ (.int .i64 ((nx:Int)+1))).setCell ⟨p,2,none⟩ (.slice A3 32 c3):=⟨_,rfl⟩
   have hFs:wF.heap.size=w5.heap.size:=by rw [hwF];simp [World.setCell]
   have hF:∀ b,b≠p→wF.heap[b]?=w5.heap[b]?:=fun b hb=>by
    rw [hwF,Below.heap_setCell _ ⟨p,2,none⟩ _ b hb,Below.heap_setCell _ ⟨p,1,none⟩ _ b hb,Below.heap_setCell _ ⟨p,0,none⟩ _ b hb]
   have hFX:∀ b,b≠p→b<WX.heap.size→(Value.slice A n c).ownBlock≠some b→wF.heap[b]?=WX.heap[b]?:=fun b h1 h2 h3=>(hF b h1).trans ((hg.block b (Nat.lt_of_lt_of_le h2 hba.size) fun e=>h3 e.symm).trans (hba.block b h2))
   have hFw:∀ b,b≠p→b<w.heap.size→(Value.slice A n c).ownBlock≠some b→wF.heap[b]?=w.heap[b]?:=fun b h1 h2 h3=>(hFX b h1 (Nat.lt_of_lt_of_le h2 hbX.size) h3).trans (hbX.block b h2)
   have hsz:WX.heap.size≤wF.heap.size:=by rw [hFs];exact Nat.le_trans hba.size hg.size
   have hblk:Blk wF p 135 [.slice A5 (n+1) k5,.int .i64 ((nx:Int)+1),.slice A3 32 c3]:=by rw [hwF];exact set3_blk hb5 _ _ _
   have hown:wF.ownsRow 0 138 3 (.slice A5 (n+1) k5) (n+1) (snCells s.all els++[.int .i64 (nx:Nat),.slice A3 32 c3,.slice X2 sv.length k2]):=by
    rw [hwF]
    refine set3_own ho (fun hb=>?_) _ _ _
    obtain ⟨_,_,cs,h9⟩:=Tm.own_blk ho hb
    exact h9.ne_ hb5 (by decide) rfl
   have rdF:∀ (Y:Option Addr) (l:Bs),Rd WX Y l→(∀ b,Y.map (·.block)=some b→w.heap.size≤b)→Rd wF Y l:=fun Y l hr hY=>by
    intro hl
    refine hr.keep (fun q hq e=>?_) hsz hl
    unfold World.cell?
    have h1:=hY q.block e
    rw [hFX q.block (by omega) (by obtain ⟨b',off,rfl,hlt,_⟩:=hr hl;simp at e;omega) fun h9=>by have:=(Tm.own_blk hrow (havo.trans h9)).2.1;omega]
   obtain ⟨Y3,d3,e3,hd3,hr3⟩:=Go.Proofs.YtbnpgakmhhfjkaaGreatDoor.own_form (l:=hs) (B:=w2.heap.size) (w:=WX) (v:=.slice A3 32 c3) (by rw [HL32.out.1];exact HX.out.2.2.2)
   injection e3 with e3 _ e4
   subst e3 e4
   have hA3:∀ b,A3.map (·.block)=some b→w.heap.size≤b∧b<WX.heap.size:=fun b hb=>by
    rcases HX.out.2.2.2.2 with ⟨e9,_⟩|⟨g9,cap9,cur9,e9,hg9,hh9,_⟩
    ·injection e9 with e9;subst e9;cases hb
    ·injection e9 with e9;subst e9;injection hb with hb;have hb:g9=b:=hb
     have:=HB2.out.size
     have:=(Array.getElem?_eq_some_iff.1 hh9).1
     omega
   have hX2:∀ b,X2.map (·.block)=some b→w.heap.size≤b∧b<WX.heap.size:=fun b hb=>by
    rcases HO2.out.2 with ⟨e9,_⟩|⟨g9,cap9,cur9,e9,hg9,hh9,_⟩
    ·injection e9 with e9;subst e9;cases hb
    ·injection e9 with e9;subst e9;injection hb with hb;have hb:g9=b:=hb
     have:=HB1.out.size
     have:=hb2.size
     have:=(Array.getElem?_eq_some_iff.1 hh9).1
     omega
   have hr2X:Rd WX X2 sv:=HR2.out.below hb2
   have e32:=HL32.out.1
   have MORE:=H.out.more (w':=wF) (wa:=wa) (x:=⟨s.next,hs,Tr.committed t⟩) (v:=(.slice A3 32 c3,.slice X2 sv.length k2)) (av':=.slice A5 (n+1) k5) (D1:=fun b=>A3.map (·.block)=some b∨X2.map (·.block)=some b)
    (Nat.le_trans hbX.size hsz) (by rw [HNN.out];exact hblk) (by rw [← HN.out];show wF.ownsRow 0 _ 3 _ (n+1) (_++[.int .i64 s.next,_,_]);rw [HNN.out];exact hown) (by rw [havo];exact hv)
    (fun b hb=>hFw b (H.out.low b hb).2.1 (H.out.low b hb).1 (by rw [← havo];exact (H.out.low b hb).2.2))
    ⟨⟨A3,c3,by rw [e32],hd3,rdF A3 hs hr3 fun b hb=>(hA3 b hb).1,fun b hb=>.inl hb⟩,⟨X2,k2,by rw [HL32.out.2],by rw [← HL32.out.2];exact HK2.out,by rw [← HL32.out.2];exact rdF X2 sv hr2X fun b hb=>(hX2 b hb).1,fun b hb=>.inr hb⟩⟩
    (fun b hb=>by have:=hba.size;rcases hb with hb|hb;· have:=hA3 b hb;omega
                  ·have:=hX2 b hb;omega) ⟨hbA.size,by rw [hFs];exact hg.size⟩
   rw [HF.out,← hwF]
   dsimp only
   rw [HNN.out] at MORE ⊢
   refine ⟨rfl,_,_,_,_,MORE,⟨?_,?_,?_,Nat.le_trans hbX.size hsz,fun b hb hnb=>hFw b (fun e=>hnb (.inl e)) hb fun e=>hnb (.inr (.inl (havo.trans e)))⟩,fun b hb=>?_⟩
   ·rw [hwF];exact hg.os.trans hbA.os
   ·rw [hwF];exact hg.tape.trans hbA.tape
   ·rw [hwF];exact hg.output.trans hbA.output
   ·rcases hb with rfl|hb|hb|hb|hb
    ·exact .inl (.inl rfl)
    ·rcases hv with hv|hv
     ·exact .inl (.inr (.inl (havo.trans (hv ▸ hb))))
     ·rw [hv] at hb;injection hb with hb;exact .inr (by rw [← hb];exact hbA.size)
    ·exact .inl (.inr (.inr hb))
    ·exact .inr (hA3 b hb).1
    ·exact .inr (hX2 b hb).1
  go_upto_region 10 with (fail)
  go_region_law (first
   | (refine Rf.step_cat snTy (v:=.slice A n c) (N:=n+1) rfl (.tmp 39) (.tmp 41) rfl rfl rfl (HROW.out _) HSRC.out rfl (by intro u hu;simp at hu;rcases hu with rfl|rfl|rfl <;> rfl) (by omega) (Nat.zero_le _) rfl rfl ?_;intro v5 w5 HO5 HG5 HV5;obtain ⟨A5,k5,rfl,-,-⟩:=Tm.own_form HO5.out;obtain ⟨hb5,hx5⟩:=HBX.out _ _ HG5.out;have HB5:=Lib.hid hb5;have HX5:=Lib.hid hx5;have cl5:=hb5.cell 0;have f5:=hb5.frozen 0;have cl51:=hb5.cell 1;have f51:=hb5.frozen 1;have cl52:=hb5.cell 2;have f52:=hb5.frozen 2;have x50:=hx5.cell 0;have x51:=hx5.cell 1;clear hb5 hx5)
   | fail)
  all_goals
   go_wp2_with fail
   go_ret2
   exact HEND.out w5 A5 k5 HG5.out HO5.out HV5.out
end Sn
end Go.Proofs.YtbnpgakmhhfjkaaGreatDoor
namespace Go.Proofs.YtbnpgakmhhfjkaaGreatDoor
open Go.RowKit Rc
open Tr (Nm En T)
namespace Sn
variable {D:Nat→Prop} {w w':World} {p:Nat} {av lv:Value} {els:List (Value × Value)} {s:Snaps}
end Sn
end Go.Proofs.YtbnpgakmhhfjkaaGreatDoor
namespace Go.Proofs.YtbnpgakmhhfjkaaGreatDoor
open Go.RowKit Rc
open Tr (Nm En T)
namespace Tm
variable {p:Nat} {av:Value} {gs:List Nat} {S:Nat→Prop} {t t1:T} {w w1:World}
set_option maxHeartbeats 4000000 in
set_option maxRecDepth 100000 in
theorem unlink_any (h:TIn p av gs S t w) (hG:Tr.Good t) (A:Option Addr) (q:List Bs) (cap:Nat) (hr:RdS w A q) (hc:q.length≤cap) (hl:q.length≤1000000) (hs:∀ s ∈ q,s.length≤1000000) :
    Calls Tryz.prog 103 #[.pointer (some ⟨p,0,none⟩),.slice A q.length cap] w (TTurn p (Tr.unlink t q).2 (.int .i64 ((Tr.unlink t q).1:Nat)) (TrS p av S) w):=by
 obtain ⟨wa,hwa⟩:∃ wa,wa=w.alloc (.cells #[.slice A q.length cap] 29):=⟨_,rfl⟩
 have hba:Below w.heap.size w wa:=by rw [hwa];exact below_new w _
 have HFM:=Lib.hid (formed_one w A q cap hr hc hl hs)
 rw [← hwa] at HFM
 have HS:Hid (∀ x W,Below w.heap.size w W→TTurn p t x (TrS p av S) w (.returned x) W):=fun x W hW=>TTurn.stay h hW
 have HFA:=Lib.hid (fileAt_any (h.below hba) hG A q cap (hr.below hba) hl)
 have HPL:=Lib.hid (fun W (hW:Below w.heap.size w W)=>place_any (h.below hW) hG A q cap (hr.below hW) hc hl)
 have HBA:=Lib.hid hba
 have H:=Lib.hid h
 have HG:=Lib.hid hG
 obtain ⟨R,hR⟩:∃ R,R=Tr.unlink t q:=⟨_,rfl⟩
 rw [← hR]
 obtain ⟨fm,hfm⟩:∃ fm,fm=Tr.formed q:=⟨_,rfl⟩
 rw [← hfm] at HFM
 have hR1:R=if fm≠0 then (fm,t) else if (Tr.lookF t 0 q).2≠0 then ((Tr.lookF t 0 q).2,t)
     else if Tr.kindOf t (Tr.lookF t 0 q).1=2 then (22,t)
     else if (Tr.ndOf t (Tr.lookF t 0 q).1).links=1∧(Tr.ndOf t (Tr.lookF t 0 q).1).shut=true then (0,Tr.remove (Tr.unlinked t q) (Tr.lookF t 0 q).1)
     else (0,Tr.unlinked t q):=by
  rw [hR,hfm];rfl
 have HR1:=Lib.hid hR1
 have HSM:=Lib.hid hs
 clear h hG hr hba hfm hs hR hR1
 go_enter Tryz.func103,Tryz.ntmps103
 go_wp2_with fail
 rw [← hwa]
 clear hwa
 refine HFM.out.mono ?_
 rintro e w1 ⟨rfl,rfl⟩
 by_cases hf:fm=0
 case neg =>
  have hfi:((fm:Int)==0)=false:=by rw [beq_eq_false_iff_ne];omega
  have HN:Hid (R=(fm,t)):=by
   have:=HR1.out
   rw [if_pos hf] at this
   exact this
  clear hf
  go_wp2_with fail
  go_ret
  rw [HN.out]
  exact HS.out _ _ HBA.out
 subst hf
 have HR2:=Lib.hid HR1.out
 simp only [ne_eq,not_true_eq_false,if_false] at HR2
 clear HR1
 go_wp2_with fail
 refine HFA.out.mono ?_
 rintro e w2 ⟨rfl,hb2⟩
 have HB2:Hid (Below w.heap.size w w2):=HBA.out.trans (hb2.mono HBA.out.size)
 clear hb2
 by_cases hfa:fileAtN t q=0
 case neg =>
  obtain ⟨n,hn⟩:∃ n,n=fileAtN t q:=⟨_,rfl⟩
  have HN:Hid (R=(n,t)):=by
   have:=HR2.out
   unfold fileAtN at hn hfa
   by_cases h1:(Tr.lookF t 0 q).2=0
   ·rw [if_neg (by rw [h1];simp)] at hn hfa this
    split at hfa
    ·rename_i h2
     rw [if_pos h2] at hn this
     rw [hn];exact this
    ·exact absurd rfl hfa
   ·rw [if_pos h1] at hn this
    rw [hn];exact this
  unfold fileAtV
  rw [← hn] at hfa ⊢
  rw [if_neg hfa]
  have hni:((n:Int)==0)=false:=by rw [beq_eq_false_iff_ne];omega
  clear hfa hn
  go_wp2_with fail
  go_ret
  rw [HN.out]
  exact HS.out _ _ HB2.out
 obtain ⟨h1,h2⟩:(Tr.lookF t 0 q).2=0∧Tr.kindOf t (Tr.lookF t 0 q).1≠2:=by
  unfold fileAtN at hfa
  split at hfa
  ·rename_i h1;exact absurd hfa h1
  ·rename_i h1
   split at hfa
   ·cases hfa
   ·rename_i h2;exact ⟨Decidable.byContradiction h1,h2⟩
 obtain ⟨ef,hef⟩:=Option.isSome_iff_exists.1 (HG.out.look_is h1)
 obtain ⟨i,hi⟩:∃ i,i=(Tr.lookF t 0 q).1:=⟨_,rfl⟩
 have hlk:Tr.lookF t 0 q=(i,0):=Prod.ext hi.symm h1
 obtain ⟨gf,Sf,hpf,hEf,_,_⟩:=(H.out.below HB2.out).ptr HG.out hef
 have hR3:=HR2.out
 rw [if_neg (by rw [h1];simp),if_neg h2] at hR3
 rw [← hi] at hef hpf hR3 h2
 rw [Tr.ndOf_of hef] at hR3
 have HV:Hid (fileAtV gs t q (fileAtN t q)=.tuple #[.pointer (some ⟨gf,0,none⟩),.int .i64 0]):=by
  show _=_
  unfold fileAtV
  rw [hfa,if_pos rfl,← hi,hpf];rfl
 rw [HV.out]
 rw [Tr.kindOf_of hef] at h2
 have hq0:q≠[]:=fun e=>by
  rw [e] at hlk
  obtain ⟨r0,z1,z2,_⟩:=HG.out.zero
  have e0:(0:Int)=i:=congrArg Prod.fst (show ((0:Int),0)=(i,0) from hlk)
  rw [← e0,z1] at hef
  injection hef with hef
  exact h2 (by rw [← hef];exact z2)
 obtain ⟨r1,x,d,en,hq,hlr,hfd,hkd,hg,hpl⟩:=HG.out.looked hlk hq0
 have HEF:=Lib.hid hef
 have HPF:=Lib.hid hpf
 have HK2:=Lib.hid h2
 have HKD:=Lib.hid hkd
 have HFD:=Lib.hid hfd
 have HPL2:=Lib.hid hpl
 have hu:Tr.unlinked t q=Tr.more (Tr.cut t d x) i (-1):=by
  unfold Tr.unlinked
  rw [hpl,← hi]
 rw [hu] at hR3
 have HR3:=Lib.hid hR3
 clear hfa h1 h2 hef hi hpf hEf hR3 HV HR2 hlk hq0 hq hlr hfd hkd hg hpl hu
 go_wp2_with fail
 refine (HPL.out w2 HB2.out).mono ?_
 rintro e w3 ⟨rfl,hb3⟩
 have HB3:Hid (Below w.heap.size w w3):=HB2.out.trans (hb3.mono HB2.out.size)
 clear hb3
 obtain ⟨gd,Sd,hpd,hEd,_,hnl⟩:=(H.out.below HB3.out).ptr HG.out HFD.out
 have HPV:Hid (placeV gs t q=.tuple #[.pointer (some ⟨gd,0,none⟩),.string (strOf x),.int .i64 0]):=by
  show _=_
  unfold placeV
  rw [HPL2.out]
  simp only [if_true,hpd];rfl
 rw [HPV.out]
 have hW:=Went.start H.out HB3.out
 have hid:ef.nd.id=i:=(Tr.find_some HEF.out).2
 have HDROP:=Lib.hid (hW.drop HG.out.ris HFD.out hpd x (by omega))
 have hdi:i≠d:=fun e=>by
  have h1:=HFD.out
  rw [← e,show Tr.find t i=_ from HEF.out] at h1
  injection h1 with h1
  exact HK2.out (by rw [h1];exact HKD.out)
 have HDI:=Lib.hid hdi
 have HID:=Lib.hid hid
 have hlk:=(HG.out.each ef (Tr.find_some HEF.out).1).nd
 have hl0:0≤ef.nd.links∧ef.nd.links≤65535:=⟨hlk.2.2.1,hlk.2.2.2.1⟩
 obtain ⟨lk,hlk2⟩:∃ lk,lk=ef.nd.links:=⟨_,rfl⟩
 obtain ⟨sh,hsh⟩:∃ sh,sh=ef.nd.shut:=⟨_,rfl⟩
 obtain ⟨lm,hlm⟩:∃ lm,lm=lk-1:=⟨_,rfl⟩
 have HLK:=Lib.hid hlk2
 have HSH:=Lib.hid hsh
 have HR4:=Lib.hid HR3.out
 rw [← hlk2,← hsh] at HR4
 rw [← hlk2] at hl0
 have wl:IntKind.i64.wrap (lk-1)=lm:=by rw [IntKind.wrap_i64];omega
 have hll:(lm=0)=(lk=1):=by rw [hlm];apply propext;omega
 have HLL:=Lib.hid hll
 have HLM:Hid (lk+-1=lm):=by show _=_;omega
 clear hW hid hdi hlk hlk2 hsh hpd hEd hnl hlm hll HPV HR3
 go_wp2_with fail
 refine HDROP.out.mono ?_
 rintro e w5 ⟨rfl,hW5⟩
 have hfid:∀ e:En,({ e with names:=Tr.del e.names x }:En).nd.id=e.nd.id:=fun _=>rfl
 have hr5:Tr.Ris (Tr.cut t d x):=Tr.upd_ris HG.out.ris hfid
 have hf5:Tr.find (Tr.cut t d x) i=some ef:=by
  unfold Tr.cut
  rw [Tr.find_upd hfid,HEF.out]
  simp only [Option.map_some,if_neg HDI.out]
 have hp5:ptrOf gs (Tr.cut t d x) i=.pointer (some ⟨gf,0,none⟩):=by
  unfold Tr.cut
  rw [ptrOf_upd hfid];exact HPF.out
 obtain ⟨_,c2,_,f2,hmore⟩:=hW5.links hr5 hf5 hp5
 have hmo:=hmore (-1)
 rw [show ef.nd.links=lk from HLK.out.symm] at c2 hmo
 rw [HLM.out] at hmo
 have hfid6:∀ e:En,({ e with nd:={ e.nd with links:=e.nd.links+-1 } }:En).nd.id=e.nd.id:=fun _=>rfl
 have hr6:Tr.Ris (Tr.more (Tr.cut t d x) i (-1)):=Tr.upd_ris hr5 hfid6
 have hf6:Tr.find (Tr.more (Tr.cut t d x) i (-1)) i=some { ef with nd:={ ef.nd with links:=ef.nd.links+-1 } }:=by
  unfold Tr.more
  rw [Tr.find_upd hfid6,hf5]
  simp only [Option.map_some,if_true]
 have hp6:ptrOf gs (Tr.more (Tr.cut t d x) i (-1)) i=.pointer (some ⟨gf,0,none⟩):=by
  unfold Tr.more
  rw [ptrOf_upd hfid6];exact hp5
 obtain ⟨d0,d2,d5,_,_⟩:=hmo.links hr6 hf6 hp6
 simp only [show ef.nd.links=lk from HLK.out.symm,show ef.nd.id=i from HID.out,show ef.nd.shut=sh from HSH.out.symm] at d0 d2 d5
 rw [HLM.out] at d2
 have hlen:(Tr.more (Tr.cut t d x) i (-1)).length≤1000000:=by
  unfold Tr.more Tr.cut Tr.upd
  rw [List.length_map,List.length_map]
  have:=HG.out.few
  omega
 have HRM:=Lib.hid (hmo.remove hr6 hlen hf6 (.int .i64 0))
 have HMO:=Lib.hid hmo
 clear hW5 hr5 hf5 hp5 hmore hmo hfid hr6 hf6 hp6 hfid6 hlen
 by_cases hz:lm=0
 ·have hl1:Hid (lk=1):=HLL.out.mp hz
  clear HLL HLM
  subst hz
  cases sh
  ·have HN:Hid (R=(0,Tr.more (Tr.cut t d x) i (-1))):=by
    have:=HR4.out
    rw [if_neg (by simp)] at this
    exact this
   go_wp2_with fail
   go_ret
   rw [HN.out]
   exact HMO.out.done _
  ·have HN:Hid (R=(0,Tr.remove (Tr.more (Tr.cut t d x) i (-1)) i)):=by
    have:=HR4.out
    rw [if_pos ⟨hl1.out,rfl⟩] at this
    exact this
   go_wp2_with fail
   refine HRM.out.mono ?_
   rintro e w7 ⟨rfl,HT7⟩
   have HTH:=Lib.hid HT7
   clear HT7
   go_wp2_with fail
   go_ret
   rw [HN.out]
   exact HTH.out
 ·have HN:Hid (R=(0,Tr.more (Tr.cut t d x) i (-1))):=by
   have:=HR4.out
   rw [if_neg (fun e=>hz (HLL.out.mpr e.1))] at this
   exact this
  have hzb:(lm==0)=false:=by rw [beq_eq_false_iff_ne];exact hz
  clear hz HLL HLM
  go_wp2_with fail
  go_ret
  rw [HN.out]
  exact HMO.out.done _
end Tm
end Go.Proofs.YtbnpgakmhhfjkaaGreatDoor
namespace Go.Proofs.YtbnpgakmhhfjkaaGreatDoor
open Go.RowKit Rc
open Tr (Nm En T)
namespace Tr
theorem lookF_no {t:T}:∀ (p:List Bs) (i:Int),(lookF t i p).2≠0→(lookF t i p).1=0
 | [],i,h=>absurd rfl h
 | x :: p,i,h=>by
   unfold lookF at h ⊢
   by_cases h1:kindOf t i=2
   ·rw [if_neg (by simp [h1])] at h ⊢
    cases hg:get (kids t i) x with
    | none=>rfl
    | some k =>
      rw [hg] at h
      exact lookF_no p k h
   ·rw [if_pos h1]
end Tr
namespace Tm
variable {p:Nat} {av:Value} {gs:List Nat} {S:Nat→Prop} {t t1:T} {w w1:World}
set_option maxHeartbeats 4000000 in
set_option maxRecDepth 100000 in
theorem rmdir_any (h:TIn p av gs S t w) (hG:Tr.Good t) (A:Option Addr) (q:List Bs) (cap:Nat) (hr:RdS w A q) (hc:q.length≤cap) (hl:q.length≤1000000) (hs:∀ s ∈ q,s.length≤1000000) :
    Calls Tryz.prog 46 #[.pointer (some ⟨p,0,none⟩),.slice A q.length cap] w (TTurn p (Tr.rmdir t q).2 (.int .i64 ((Tr.rmdir t q).1:Nat)) (TrS p av S) w):=by
 obtain ⟨wa,hwa⟩:∃ wa,wa=w.alloc (.cells #[.slice A q.length cap] 29):=⟨_,rfl⟩
 have hba:Below w.heap.size w wa:=by rw [hwa];exact below_new w _
 have HFM:=Lib.hid (formed_one w A q cap hr hc hl hs)
 rw [← hwa] at HFM
 have HS:Hid (∀ x W,Below w.heap.size w W→TTurn p t x (TrS p av S) w (.returned x) W):=fun x W hW=>TTurn.stay h hW
 have HAT:=Lib.hid (at_any (h.below hba) hG A q cap (hr.below hba) hl)
 have HPL:=Lib.hid (fun W (hW:Below w.heap.size w W)=>place_any (h.below hW) hG A q cap (hr.below hW) hc hl)
 have HBA:=Lib.hid hba
 have H:=Lib.hid h
 have HG:=Lib.hid hG
 obtain ⟨R,hR⟩:∃ R,R=Tr.rmdir t q:=⟨_,rfl⟩
 rw [← hR]
 obtain ⟨fm,hfm⟩:∃ fm,fm=Tr.formed q:=⟨_,rfl⟩
 rw [← hfm] at HFM
 have hR1:R=if fm≠0 then (fm,t) else if (Tr.lookF t 0 q).2≠0 then ((Tr.lookF t 0 q).2,t)
     else if Tr.kindOf t (Tr.lookF t 0 q).1≠2 then (23,t) else if q=[] then (1,t)
     else if Tr.kids t (Tr.lookF t 0 q).1≠[] then (24,t)
     else (0,Tr.remove (Tr.cut t (Tr.place t q).1 (Tr.place t q).2.1) (Tr.lookF t 0 q).1):=by
  rw [hR,hfm];rfl
 have HR1:=Lib.hid hR1
 clear h hG hr hba hfm hs hR hR1
 go_enter Tryz.func46,Tryz.ntmps46
 go_wp2_with fail
 rw [← hwa]
 clear hwa
 refine HFM.out.mono ?_
 rintro e w1 ⟨rfl,rfl⟩
 by_cases hf:fm=0
 case neg =>
  have hfi:((fm:Int)==0)=false:=by rw [beq_eq_false_iff_ne];omega
  have HN:Hid (R=(fm,t)):=by
   have:=HR1.out
   rw [if_pos hf] at this
   exact this
  clear hf
  go_wp2_with fail
  go_ret
  rw [HN.out]
  exact HS.out _ _ HBA.out
 subst hf
 have HR2:=Lib.hid HR1.out
 simp only [ne_eq,not_true_eq_false,if_false] at HR2
 clear HR1
 go_wp2_with fail
 refine HAT.out.mono ?_
 rintro e w2 ⟨rfl,hb2⟩
 have HB2:Hid (Below w.heap.size w w2):=HBA.out.trans (hb2.mono HBA.out.size)
 clear hb2
 by_cases hfa:(Tr.lookF t 0 q).2=0
 case neg =>
  obtain ⟨n,hn⟩:∃ n,n=(Tr.lookF t 0 q).2:=⟨_,rfl⟩
  have HN:Hid (R=(n,t)):=by
   have:=HR2.out
   rw [if_pos hfa] at this
   rw [hn];exact this
  have hpp:ptrAt gs t q=.pointer none:=by unfold ptrAt;rw [if_neg hfa]
  rw [← hn] at hfa
  rw [hpp,← hn]
  have hni:((n:Int)==0)=false:=by rw [beq_eq_false_iff_ne];omega
  clear hfa hn hpp
  go_wp2_with fail
  go_ret
  rw [HN.out]
  exact HS.out _ _ HB2.out
 obtain ⟨ef,hef⟩:=Option.isSome_iff_exists.1 (HG.out.look_is hfa)
 obtain ⟨i,hi⟩:∃ i,i=(Tr.lookF t 0 q).1:=⟨_,rfl⟩
 have hlk:Tr.lookF t 0 q=(i,0):=Prod.ext hi.symm hfa
 have hpp:ptrAt gs t q=ptrOf gs t (Tr.lookF t 0 q).1:=by unfold ptrAt;rw [if_pos hfa]
 have hR3:=HR2.out
 rw [if_neg (by rw [hfa];simp)] at hR3
 rw [hpp,hfa]
 rw [← hi] at hef hR3 ⊢
 obtain ⟨gf,Sf,hpf,hEf,_,_⟩:=(H.out.below HB2.out).ptr HG.out hef
 have c1:=hEf.cells.2.1
 rw [Tr.kindOf_of hef,Tr.kids_of hef] at hR3
 rw [hpf]
 obtain ⟨ek,hek⟩:∃ ek,ek=ef.nd.kind:=⟨_,rfl⟩
 rw [← hek] at c1 hR3
 have HR3:=Lib.hid hR3
 have HEF:=Lib.hid hef
 have HPF:=Lib.hid hpf
 have HLK:=Lib.hid hlk
 clear hfa hef hi hpf hEf hR3 HR2 hlk hpp hek
 by_cases h2:ek=2
 case neg =>
  have hk2:(ek != 2)=true:=by rw [bne_iff_ne];exact h2
  have HN:Hid (R=(23,t)):=by
   have:=HR3.out
   rw [if_pos h2] at this
   exact this
  clear h2
  go_wp2_with fail
  go_ret
  rw [HN.out]
  exact HS.out _ _ HB2.out
 subst h2
 have HR4:=Lib.hid HR3.out
 simp only [ne_eq,not_true_eq_false,if_false] at HR4
 clear HR3
 go_wp2_with fail
 refine (HPL.out w2 HB2.out).mono ?_
 rintro e w3 ⟨rfl,hb3⟩
 have HB3:Hid (Below w.heap.size w w3):=HB2.out.trans (hb3.mono HB2.out.size)
 clear hb3 c1
 by_cases hq0:q=[]
 case pos =>
  subst hq0
  have hpv:placeV gs t []=.tuple #[.pointer none,.string (strOf []),.int .i64 1]:=by
   unfold placeV Tr.place
   rfl
  rw [hpv]
  have HN:Hid (R=(1,t)):=by
   have:=HR4.out
   rw [if_pos rfl] at this
   exact this
  clear hpv
  go_wp2_with fail
  go_ret
  rw [HN.out]
  exact HS.out _ _ HB3.out
 obtain ⟨r1,x,d,en,hq,hlr,hfd,hkd,hg,hpl⟩:=HG.out.looked HLK.out hq0
 have hR5:=HR4.out
 rw [if_neg hq0,hpl] at hR5
 simp only at hR5
 obtain ⟨gd,Sd,hpd,hEd,_,hnl⟩:=(H.out.below HB3.out).ptr HG.out hfd
 have hpv:placeV gs t q=.tuple #[.pointer (some ⟨gd,0,none⟩),.string (strOf x),.int .i64 0]:=by
  unfold placeV
  rw [hpl]
  simp only [if_true,hpd];rfl
 rw [hpv]
 have hW:=Went.start H.out HB3.out
 have HDROP:=Lib.hid (hW.drop HG.out.ris hfd hpd x (by omega))
 obtain ⟨gf2,Sf2,hpf2,hEf2,_,hnf⟩:=(H.out.below HB3.out).ptr HG.out HEF.out
 obtain rfl:gf2=gf:=ptr_inj (hpf2.symm.trans HPF.out)
 obtain ⟨dv,nv,hE,rfl⟩:=hEf2
 have c7:w3.cell? ⟨gf2,7,none⟩=some nv:=hE.box.cell 7
 obtain ⟨A7,k7,hv7,hk7,_⟩:=hE.names.form
 subst hv7
 obtain ⟨nl,hnl2⟩:∃ nl,nl=ef.names.length:=⟨_,rfl⟩
 rw [← hnl2] at c7
 have hnil:(ef.names=[])=(nl=0):=by rw [hnl2,List.length_eq_zero_iff]
 simp only [hnil] at hR5
 have HR5:=Lib.hid hR5
 have hfid:∀ e:En,({ e with names:=Tr.del e.names x }:En).nd.id=e.nd.id:=fun _=>rfl
 have hne:∃ e5,Tr.find (Tr.cut t d x) i=some e5∧e5.nd.id=i:=by
  unfold Tr.cut
  rw [Tr.find_upd hfid,HEF.out]
  refine ⟨_,rfl,?_⟩
  have:=(Tr.find_some HEF.out).2
  dsimp only
  split <;> exact this
 have HNE:=Lib.hid hne
 have hr5:Tr.Ris (Tr.cut t d x):=Tr.upd_ris HG.out.ris hfid
 have HR6:=Lib.hid hr5
 have hp5:ptrOf gs (Tr.cut t d x) i=.pointer (some ⟨gf2,0,none⟩):=by
  unfold Tr.cut
  rw [ptrOf_upd hfid];exact HPF.out
 have HP5:=Lib.hid hp5
 have HLEN:Hid ((Tr.cut t d x).length≤1000000):=by
  have:=HG.out.few
  show _≤_
  unfold Tr.cut Tr.upd
  rw [List.length_map]
  omega
 clear hq0 hq hlr hfd hkd hg hpl hpd hEd hnl hpv hW hpf2 hnf hE hk7 hnl2 hnil hR5 hfid hne hr5 hp5 HR4
 by_cases hz:nl=0
 case neg =>
  have hz2:(0:Int)<(nl:Int):=by omega
  have HN:Hid (R=(24,t)):=by
   have:=HR5.out
   rw [if_pos hz] at this
   exact this
  clear hz
  go_wp2_with fail
  go_ret
  rw [HN.out]
  exact HS.out _ _ HB3.out
 have HN:Hid (R=(0,Tr.remove (Tr.cut t d x) i)):=by
  have:=HR5.out
  rw [if_neg (by simp [hz])] at this
  exact this
 subst hz
 clear HR5
 go_wp2_with fail
 refine HDROP.out.mono ?_
 rintro e w5 ⟨rfl,hW5⟩
 obtain ⟨e5,hf5,hid5⟩:=HNE.out
 obtain ⟨c0,_⟩:=hW5.links HR6.out hf5 HP5.out
 rw [hid5] at c0
 have HRM:=Lib.hid (hW5.remove HR6.out HLEN.out hf5 (.int .i64 0))
 clear hW5 hf5 hid5 c7
 go_wp2_with fail
 refine HRM.out.mono ?_
 rintro e w7 ⟨rfl,HT7⟩
 have HTH:=Lib.hid HT7
 clear HT7
 go_wp2_with fail
 go_ret
 rw [HN.out]
 exact HTH.out
set_option maxHeartbeats 2000000 in
set_option maxRecDepth 100000 in
theorem look_any (h:TIn p av gs S t w) (hG:Tr.Good t) (A:Option Addr) (q:List Bs) (cap:Nat) (hr:RdS w A q) (hc:q.length≤cap) (hl:q.length≤1000000) (hs:∀ s ∈ q,s.length≤1000000) :
    Calls Tryz.prog 110 #[.pointer (some ⟨p,0,none⟩),.slice A q.length cap] w fun e w'=>e=.returned (.tuple #[.int .i64 (Tr.look t q).1,.int .i64 ((Tr.look t q).2:Nat)])∧Below w.heap.size w w':=by
 obtain ⟨wa,hwa⟩:∃ wa,wa=w.alloc (.cells #[.slice A q.length cap] 29):=⟨_,rfl⟩
 have hba:Below w.heap.size w wa:=by rw [hwa];exact below_new w _
 have HFM:=Lib.hid (formed_one w A q cap hr hc hl hs)
 rw [← hwa] at HFM
 have HAT:=Lib.hid (at_any (h.below hba) hG A q cap (hr.below hba) hl)
 have HBA:=Lib.hid hba
 have H:=Lib.hid h
 have HG:=Lib.hid hG
 obtain ⟨R,hR⟩:∃ R,R=Tr.look t q:=⟨_,rfl⟩
 rw [← hR]
 obtain ⟨fm,hfm⟩:∃ fm,fm=Tr.formed q:=⟨_,rfl⟩
 rw [← hfm] at HFM
 have hR1:R=if fm≠0 then (0,fm) else Tr.lookF t 0 q:=by rw [hR,hfm];rfl
 have HR1:=Lib.hid hR1
 clear h hG hr hba hfm hs hR hR1
 go_enter Tryz.func110,Tryz.ntmps110
 go_wp2_with fail
 rw [← hwa]
 clear hwa
 refine HFM.out.mono ?_
 rintro e w1 ⟨rfl,rfl⟩
 by_cases hf:fm=0
 case neg =>
  have hfi:((fm:Int)==0)=false:=by rw [beq_eq_false_iff_ne];omega
  have HN:Hid (R=(0,fm)):=by
   have:=HR1.out
   rw [if_pos hf] at this
   exact this
  clear hf
  go_wp2_with fail
  go_ret2
  rw [HN.out]
  exact ⟨rfl,HBA.out⟩
 subst hf
 have HR2:=Lib.hid HR1.out
 simp only [ne_eq,not_true_eq_false,if_false] at HR2
 clear HR1
 go_wp2_with fail
 refine HAT.out.mono ?_
 rintro e w2 ⟨rfl,hb2⟩
 have HB2:Hid (Below w.heap.size w w2):=HBA.out.trans (hb2.mono HBA.out.size)
 clear hb2
 by_cases hfa:(Tr.lookF t 0 q).2=0
 case neg =>
  obtain ⟨n,hn⟩:∃ n,n=(Tr.lookF t 0 q).2:=⟨_,rfl⟩
  have HN:Hid (R=(0,n)):=by
   show _=_
   rw [HR2.out,hn]
   exact Prod.ext (Tr.lookF_no q 0 hfa) rfl
  have hpp:ptrAt gs t q=.pointer none:=by unfold ptrAt;rw [if_neg hfa]
  rw [← hn] at hfa
  rw [hpp,← hn]
  have hni:((n:Int)==0)=false:=by rw [beq_eq_false_iff_ne];omega
  clear hfa hn hpp
  go_wp2_with fail
  go_ret2
  rw [HN.out]
  exact ⟨rfl,HB2.out⟩
 obtain ⟨ef,hef⟩:=Option.isSome_iff_exists.1 (HG.out.look_is hfa)
 obtain ⟨i,hi⟩:∃ i,i=(Tr.lookF t 0 q).1:=⟨_,rfl⟩
 have HN:Hid (R=(i,0)):=by
  show _=_
  rw [HR2.out]
  exact Prod.ext hi.symm hfa
 have hpp:ptrAt gs t q=ptrOf gs t (Tr.lookF t 0 q).1:=by unfold ptrAt;rw [if_pos hfa]
 rw [hpp,hfa]
 rw [← hi] at hef ⊢
 obtain ⟨gf,Sf,hpf,hEf,_,_⟩:=(H.out.below HB2.out).ptr HG.out hef
 have c0:=hEf.cells.1
 rw [(Tr.find_some hef).2] at c0
 rw [hpf]
 clear hfa hef hi hpf hEf hpp HR2
 go_wp2_with fail
 go_ret2
 rw [HN.out]
 exact ⟨rfl,HB2.out⟩
end Tm
end Go.Proofs.YtbnpgakmhhfjkaaGreatDoor
namespace Go.Proofs.YtbnpgakmhhfjkaaGreatDoor
open Go.RowKit Rc
open Tr (Nm En T)
namespace Tm
variable {p:Nat} {av:Value} {gs:List Nat} {S:Nat→Prop} {t t1:T} {w w1:World}
def LAns (l:List Bs) (n:Nat) (w:World) (e:Ending) (w':World):Prop:=∃ x,e=.returned (.tuple #[x,.int .i64 (n:Nat)])∧Go.Proofs.YtbnpgakmhhfjkaaGreatDoor.TAt w.heap.size x l w w'
theorem LAns.none (n:Nat) {w w':World} (hb:Below w.heap.size w w'):LAns [] n w (.returned (.tuple #[.slice none 0 0,.int .i64 (n:Nat)])) w':=⟨_,rfl,(Go.Proofs.YtbnpgakmhhfjkaaGreatDoor.TAt.nil w).below hb⟩
theorem txts_room (w:World) (n:Nat) (hn:n≤5000000):Go.Proofs.YtbnpgakmhhfjkaaGreatDoor.TAt w.heap.size (.slice (some ⟨w.heap.size,0,none⟩) 0 n) [] w (w.alloc (.cells (madeCells #[.string .empty] n) 9)) :=
 ⟨⟨rfl,.inr ⟨w.heap.size,n,madeCells #[.string .empty] n,rfl,Nat.le_refl _,heap_alloc_new w _,Nat.zero_le _,by unfold maxLen;omega,by rw [size_madeCells];omega,rfl⟩⟩,below_new w _,rfl⟩
theorem room_run (w:World) (n:Nat) (hn:n≤5000000):(Instr.makeSlice 29 (.int .i64 0) (.int .i64 (n:Nat))).run Tryz.prog w=.ok (.slice (some ⟨w.heap.size,0,none⟩) 0 n) (w.alloc (.cells (madeCells #[.string .empty] n) 9)):=by
 obtain ⟨i,hi,hz,hsize,hby⟩:=info_parts Tryz.infoStr
 have h:=run_make (P:=Tryz.prog) w 29 9 i (.string .empty) Tryz.underlying29 hi hz .i64 .i64 0 (n:Nat) (by omega) (by omega) (by rw [hby];omega) (by omega)
 rw [hsize,Nat.mul_one] at h
 simpa [Value.cells] using h
set_option maxHeartbeats 2000000 in
set_option maxRecDepth 100000 in
theorem list_any (h:TIn p av gs S t w) (hG:Tr.Good t) (i:Int) :
    Calls Tryz.prog 111 #[.pointer (some ⟨p,0,none⟩),.int .i64 i] w (LAns (Tr.list t i).1 (Tr.list t i).2 w):=by
 have HF:=Lib.hid (find_any h i (by have:=hG.few;omega))
 cases hf:Tr.find t i with
 | none =>
   rw [ptrOf_none (Tr.find_none.1 hf)] at HF
   have HN:Hid (Tr.list t i=([],20)):=by
    show _=_
    unfold Tr.list
    rw [hf];rfl
   clear h hG hf
   go_enter Tryz.func111,Tryz.ntmps111
   go_wp2_with fail
   refine HF.out.mono ?_
   rintro e w1 ⟨rfl,rfl⟩
   go_wp2_with fail
   go_ret2
   rw [HN.out]
   exact LAns.none _ (Below.refl _ _)
 | some en =>
   obtain ⟨g,S1,hp,hE,_,hnl⟩:=h.ptr hG hf
   rw [hp] at HF
   have c1:=hE.cells.2.1
   obtain ⟨ek,hek⟩:∃ ek,ek=en.nd.kind:=⟨_,rfl⟩
   rw [← hek] at c1
   by_cases h2:ek=2
   case neg =>
    have hk2:(ek != 2)=true:=by rw [bne_iff_ne];exact h2
    have HN:Hid (Tr.list t i=([],23)):=by
     show _=_
     unfold Tr.list
     rw [hf,if_neg (by simp),Tr.kindOf_of hf,if_pos (by rw [← hek];exact h2)]
    clear h hG hf hE hp hek h2 hnl
    go_enter Tryz.func111,Tryz.ntmps111
    go_wp2_with fail
    refine HF.out.mono ?_
    rintro e w1 ⟨rfl,rfl⟩
    go_wp2_with fail
    go_ret2
    rw [HN.out]
    exact LAns.none _ (Below.refl _ _)
   case pos =>
    have HN:Hid (Tr.list t i=(en.names.map (·.1),0)):=by
     show _=_
     unfold Tr.list
     rw [hf,if_neg (by simp),Tr.kindOf_of hf,if_neg (by rw [← hek];simp [h2]),Tr.kids_of hf]
    subst h2
    have hfew:en.names.length≤5000000:=by omega
    obtain ⟨dv,nv,hE,rfl⟩:=hE
    have c7:w.cell? ⟨g,7,none⟩=some nv:=hE.box.cell 7
    obtain ⟨A7,k7,hv7,hk7,hA⟩:=hE.names.form
    subst hv7
    obtain ⟨l,hl⟩:∃ l,l=en.names:=⟨_,rfl⟩
    rw [← hl] at c7 hfew HN hA
    have HA:=Lib.hid hA
    have hmk:=room_run w l.length hfew
    have HROOM:=Lib.hid (txts_room w l.length hfew)
    have HB0:Hid (Below w.heap.size w (w.alloc (.cells (madeCells #[.string .empty] l.length) 9))):=below_new w _
    have c7':(w.alloc (.cells (madeCells #[.string .empty] l.length) 9)).cell? ⟨g,7,none⟩=some (.slice A7 l.length k7):=(HB0.out.cell (p:=⟨g,7,none⟩) hE.box.lt).trans c7
    clear h hG hf hE hp hek hnl hl hA hk7
    go_enter Tryz.func111,Tryz.ntmps111
    go_wp2_with fail
    refine HF.out.mono ?_
    rintro e w1 ⟨rfl,rfl⟩
    go_wp2_with fail
    clear hmk c7 c7' c1
    go_loopw [7,32] (fun t7 t32 wr=>∃ j:Nat,t32=.int .i64 j∧j≤l.length∧Hid (Go.Proofs.YtbnpgakmhhfjkaaGreatDoor.TAt w1.heap.size t7 ((l.take j).map (·.1)) w1 wr)) (fun _ t32 _=>l.length-(match t32 with|.int _ k=>k.toNat|_=>0))
    case atStart=>exact ⟨0,rfl,Nat.zero_le _,HROOM.out⟩
    case round =>
     obtain ⟨j,rfl,hj,HT⟩:=hrel
     by_cases hk:j<l.length
     ·obtain ⟨n,hn⟩:∃ n,l[j]?=some n:=⟨_,List.getElem?_eq_getElem hk⟩
      obtain ⟨q,rfl,_,_,hql,hcell⟩:=HA.out (by omega)
      have hlow:=HT.out.later
      have c1:wr.cell? ⟨q,j*2,none⟩=some (.string (strOf n.1)):=(hlow.cell (p:=⟨q,j*2,none⟩) hql).trans (hcell j n hn).1
      have c2:wr.cell? ⟨q,j*2+1,none⟩=some (.int .i64 n.2):=(hlow.cell (p:=⟨q,j*2+1,none⟩) hql).trans (hcell j n hn).2
      have hlt2:(j:Int)<(l.length:Int):=by omega
      have htk:(l.take (j+1)).map (·.1)=(l.take j).map (·.1)++[n.1]:=by
       rw [List.take_succ_eq_append_getElem hk,List.map_append]
       rw [List.getElem?_eq_getElem hk] at hn
       injection hn with hn
       rw [hn];rfl
      have HTK:=Lib.hid htk
      have hll:((l.take j).map (·.1)).length+[n.1].length≤68719476736:=by
       rw [List.length_map,List.length_take]
       show _+1≤_
       omega
      have HLL:=Lib.hid hll
      obtain ⟨wc,hwc⟩:∃ wc,wc=wr.alloc (.cells #[.string (strOf n.1),.int .i64 n.2] 116):=⟨_,rfl⟩
      have hbc:Below wr.heap.size wr wc:=by rw [hwc];exact below_new wr _
      have HBC:Hid (Below wr.heap.size wr (wc.alloc (.cells #[.string (strOf n.1)] 9))):=hbc.trans ((below_new wc _).mono hbc.size)
      have HRD:Hid (RdS (wc.alloc (.cells #[.string (strOf n.1)] 9)) (some ⟨wc.heap.size,0,none⟩) [n.1]):=rds_one wc n.1 9
      rw [hwc] at HBC HRD
      rw [World.size_alloc] at HRD
      clear hn hcell hql hlow htk hll hbc hwc
      go_wp2_with (at_builtin;refine wpList_append_txts rfl (.tmp 36) (.tmp 39) rfl rfl HT.out HBC.out _ [n.1] 1 1 rfl rfl HRD.out HLL.out ?_;intro v2 w2 HO2 HG2)
      have HNX:Hid (Go.Proofs.YtbnpgakmhhfjkaaGreatDoor.TAt w1.heap.size v2 ((l.take (j+1)).map (·.1)) w1 w2):=by
       show Go.Proofs.YtbnpgakmhhfjkaaGreatDoor.TAt _ _ _ _ _
       rw [HTK.out];exact HO2.out
      clear HO2 HG2 HTK HLL HBC HRD
      go_roundw
      case rel=>exact ⟨j+1,by go_num,by omega,HNX.out⟩
      case measure=>simp;omega
     ·obtain rfl:j=l.length:=by omega
      have HEND:Hid (Go.Proofs.YtbnpgakmhhfjkaaGreatDoor.TAt w1.heap.size u7 (l.map (·.1)) w1 wr):=by
       have:=HT.out
       rw [List.take_length] at this
       exact this
      go_wp2_with fail
      go_ret2
      rw [HN.out]
      exact ⟨_,rfl,HEND.out⟩
end Tm
end Go.Proofs.YtbnpgakmhhfjkaaGreatDoor

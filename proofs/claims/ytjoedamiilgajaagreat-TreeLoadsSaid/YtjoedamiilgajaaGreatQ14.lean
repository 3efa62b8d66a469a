/-
  OWN WORK. TwPair, TwArgs, TrReach, TrNm, TrRenG, TrHalf, TsJoin
-/
import Derived.Test.YtjoedamiilgajaaGreatQ09
import Derived.Test.YtjoedamiilgajaaGreatQ10
import Derived.Test.YtjoedamiilgajaaGreatQ11
import Derived.Test.YtjoedamiilgajaaGreatQ13
import Derived.Test.YtjoedamiilgajaaGreatQ01
import Derived.Test.YtjoedamiilgajaaGreatQ06
namespace Go.Proofs.YtjoedamiilgajaaGreat
open Go.RowKit Rc
open Tr (Nm En T)
namespace Tw
theorem rds_stay {w w':World} {A:Option Addr} {l:List Bs} (h:RdS w A l) (hs:w.heap.size≤w'.heap.size) (hb:0<l.length→∀ k,A.map (·.block)=some k→w'.heap[k]?=w.heap[k]?):RdS w' A l:=fun hl=>by
 obtain ⟨b,off,rfl,hlt,hc⟩:=h hl
 exact ⟨b,off,rfl,Nat.lt_of_lt_of_le hlt hs,fun j x hj=>(World.cell?_of_block (hb hl b rfl)).trans (hc j x hj)⟩
theorem rd_stay {w w':World} {A:Option Addr} {l:Bs} (h:Rd w A l) (hs:w.heap.size≤w'.heap.size) (hb:0<l.length→∀ k,A.map (·.block)=some k→w'.heap[k]?=w.heap[k]?):Rd w' A l:=fun hl=>h.keep (fun p _ hA=>World.cell?_of_block (hb hl _ hA)) hs hl
structure St (v r:Value) (Tp Tq:T) (g0:Nat) (cs:List Value) (A A2:Option Addr) (q q2:List Bs) (X:Option Addr) (b:Bs) (c c2 cb:Nat) (C:Nat→Prop) (w0:World) (B1 B2:Nat→Prop) (w:World):Prop where
 t:Tm.TAt v Tp B1 w
 r:Rf.RAt r Tq B2 w
 ap:∀ k,B1 k→¬ B2 k
 box:Blk w g0 56 cs
 ob:¬ B1 g0∧¬ B2 g0
 rq:RdS w A q
 rq2:RdS w A2 q2
 rb:Rd w X b
 fq:0<q.length→∀ k,A.map (·.block)=some k→k<w.heap.size∧¬ B1 k∧¬ B2 k
 fq2:0<q2.length→∀ k,A2.map (·.block)=some k→k<w.heap.size∧¬ B1 k∧¬ B2 k
 fb:0<b.length→∀ k,X.map (·.block)=some k→k<w.heap.size∧¬ B1 k∧¬ B2 k
 hq:q.length≤c∧q.length≤1000000∧∀ s ∈ q,s.length≤1000000
 hq2:q2.length≤c2∧q2.length≤1000000∧∀ s ∈ q2,s.length≤1000000
 hb:b.length≤cb∧b.length≤1000000
 mod:Mod w0 w C
 sub:∀ k,B1 k∨B2 k→C k∨w0.heap.size≤k
variable {v r:Value} {Tp Tq T':T} {g0:Nat} {cs:List Value} {A A2 X:Option Addr} {q q2:List Bs} {b:Bs} {c c2 cb:Nat} {C B1 B2:Nat→Prop} {w0 w w':World}
theorem St.lt1 (h:St v r Tp Tq g0 cs A A2 q q2 X b c c2 cb C w0 B1 B2 w) {k:Nat} (hk:B1 k):k<w.heap.size:=Tm.tobj.lt h.t k hk
theorem St.lt2 (h:St v r Tp Tq g0 cs A A2 q q2 X b c c2 cb C w0 B1 B2 w) {k:Nat} (hk:B2 k):k<w.heap.size:=Rf.robj.lt h.r k hk
theorem St.later (h:St v r Tp Tq g0 cs A A2 q q2 X b c c2 cb C w0 B1 B2 w) (hb:Below w.heap.size w w'):St v r Tp Tq g0 cs A A2 q q2 X b c c2 cb C w0 B1 B2 w' :=
 ⟨Tm.tobj.keep h.t hb.size fun k hk=>hb.block k (h.lt1 hk),Rf.robj.keep h.r hb.size fun k hk=>hb.block k (h.lt2 hk),h.ap,h.box.below hb h.box.lt,h.ob,h.rq.below hb,h.rq2.below hb,h.rb.below hb,
  fun hl k hk=>⟨Nat.lt_of_lt_of_le (h.fq hl k hk).1 hb.size,(h.fq hl k hk).2⟩,fun hl k hk=>⟨Nat.lt_of_lt_of_le (h.fq2 hl k hk).1 hb.size,(h.fq2 hl k hk).2⟩,fun hl k hk=>⟨Nat.lt_of_lt_of_le (h.fb hl k hk).1 hb.size,(h.fb hl k hk).2⟩,h.hq,h.hq2,h.hb,
  Ob.mod_more h.mod (Mod.of_below hb fun _=>False) (fun _ h=>h.elim),h.sub⟩
theorem St.left (h:St v r Tp Tq g0 cs A A2 q q2 X b c c2 cb C w0 B1 B2 w) {B1':Nat→Prop} (ht:Tm.TAt v T' B1' w') (hm:Mod w w' B1) (hs:∀ k,B1' k→B1 k∨w.heap.size≤k):St v r T' Tq g0 cs A A2 q q2 X b c c2 cb C w0 B1' B2 w':=by
 have hn:∀ {k:Nat},k<w.heap.size→¬ B1 k→¬ B1' k:=fun hk hno hB=>(hs _ hB).elim hno fun h1=>by omega
 refine ⟨ht,Rf.robj.keep h.r hm.size fun k hk=>hm.block k (h.lt2 hk) fun h1=>h.ap k h1 hk,fun k h1 h2=>?_,(hm.block g0 h.box.lt h.ob.1).trans h.box,⟨hn h.box.lt h.ob.1,h.ob.2⟩,
  rds_stay h.rq hm.size fun hl k hk=>hm.block k (h.fq hl k hk).1 (h.fq hl k hk).2.1,rds_stay h.rq2 hm.size fun hl k hk=>hm.block k (h.fq2 hl k hk).1 (h.fq2 hl k hk).2.1,rd_stay h.rb hm.size fun hl k hk=>hm.block k (h.fb hl k hk).1 (h.fb hl k hk).2.1,
  fun hl k hk=>⟨Nat.lt_of_lt_of_le (h.fq hl k hk).1 hm.size,hn (h.fq hl k hk).1 (h.fq hl k hk).2.1,(h.fq hl k hk).2.2⟩,fun hl k hk=>⟨Nat.lt_of_lt_of_le (h.fq2 hl k hk).1 hm.size,hn (h.fq2 hl k hk).1 (h.fq2 hl k hk).2.1,(h.fq2 hl k hk).2.2⟩,fun hl k hk=>⟨Nat.lt_of_lt_of_le (h.fb hl k hk).1 hm.size,hn (h.fb hl k hk).1 (h.fb hl k hk).2.1,(h.fb hl k hk).2.2⟩,h.hq,h.hq2,h.hb,
  Ob.mod_more h.mod hm fun k hk=>h.sub k (.inl hk),fun k hk=>?_⟩
 ·rcases hs k h1 with h3|h3
  ·exact h.ap k h3 h2
  ·have:=h.lt2 h2;omega
 ·rcases hk with hk|hk
  ·exact (hs k hk).elim (fun h1=>h.sub k (.inl h1)) fun h1=>.inr (Nat.le_trans h.mod.size h1)
  ·exact h.sub k (.inr hk)
theorem St.right (h:St v r Tp Tq g0 cs A A2 q q2 X b c c2 cb C w0 B1 B2 w) {B2':Nat→Prop} (ht:Rf.RAt r T' B2' w') (hm:Mod w w' B2) (hs:∀ k,B2' k→B2 k∨w.heap.size≤k):St v r Tp T' g0 cs A A2 q q2 X b c c2 cb C w0 B1 B2' w':=by
 have hn:∀ {k:Nat},k<w.heap.size→¬ B2 k→¬ B2' k:=fun hk hno hB=>(hs _ hB).elim hno fun h1=>by omega
 refine ⟨Tm.tobj.keep h.t hm.size fun k hk=>hm.block k (h.lt1 hk) fun h1=>h.ap k hk h1,ht,fun k h1 h2=>?_,(hm.block g0 h.box.lt h.ob.2).trans h.box,⟨h.ob.1,hn h.box.lt h.ob.2⟩,
  rds_stay h.rq hm.size fun hl k hk=>hm.block k (h.fq hl k hk).1 (h.fq hl k hk).2.2,rds_stay h.rq2 hm.size fun hl k hk=>hm.block k (h.fq2 hl k hk).1 (h.fq2 hl k hk).2.2,rd_stay h.rb hm.size fun hl k hk=>hm.block k (h.fb hl k hk).1 (h.fb hl k hk).2.2,
  fun hl k hk=>⟨Nat.lt_of_lt_of_le (h.fq hl k hk).1 hm.size,(h.fq hl k hk).2.1,hn (h.fq hl k hk).1 (h.fq hl k hk).2.2⟩,fun hl k hk=>⟨Nat.lt_of_lt_of_le (h.fq2 hl k hk).1 hm.size,(h.fq2 hl k hk).2.1,hn (h.fq2 hl k hk).1 (h.fq2 hl k hk).2.2⟩,fun hl k hk=>⟨Nat.lt_of_lt_of_le (h.fb hl k hk).1 hm.size,(h.fb hl k hk).2.1,hn (h.fb hl k hk).1 (h.fb hl k hk).2.2⟩,h.hq,h.hq2,h.hb,
  Ob.mod_more h.mod hm fun k hk=>h.sub k (.inr hk),fun k hk=>?_⟩
 ·rcases hs k h2 with h3|h3
  ·exact h.ap k h1 h3
  ·have:=h.lt1 h1;omega
 ·rcases hk with hk|hk
  ·exact h.sub k (.inl hk)
  ·exact (hs k hk).elim (fun h1=>h.sub k (.inr h1)) fun h1=>.inr (Nat.le_trans h.mod.size h1)
def AnsT (v r:Value) (Tp Tq:T) (g0:Nat) (cs:List Value) (A A2:Option Addr) (q q2:List Bs) (X:Option Addr) (b:Bs) (c c2 cb:Nat) (C:Nat→Prop) (w0:World) (B2:Nat→Prop) (x:Value) (e:Ending) (w':World):Prop:=e=.returned x∧∃ B1',Hid (St v r Tp Tq g0 cs A A2 q q2 X b c c2 cb C w0 B1' B2 w')
def AnsR (v r:Value) (Tp Tq:T) (g0:Nat) (cs:List Value) (A A2:Option Addr) (q q2:List Bs) (X:Option Addr) (b:Bs) (c c2 cb:Nat) (C:Nat→Prop) (w0:World) (B1:Nat→Prop) (x:Value) (e:Ending) (w':World):Prop:=e=.returned x∧∃ B2',Hid (St v r Tp Tq g0 cs A A2 q q2 X b c c2 cb C w0 B1 B2' w')
theorem St.makeT (h:St v r Tp Tq g0 cs A A2 q q2 X b c c2 cb C w0 B1 B2 w) (hG:Tr.Good Tp) (kind:Int):Calls Tryz.prog 9 #[v,.slice A q.length c,.int .i64 kind] w (AnsT v r (Tr.make Tp q kind).2 Tq g0 cs A A2 q q2 X b c c2 cb C w0 B2 (.tuple #[.int .i64 (Tr.make Tp q kind).1.1,.int .i64 ((Tr.make Tp q kind).1.2:Nat)])):=by
 obtain ⟨p,av,gs,S,rfl,H,rfl⟩:=h.t
 refine (Tm.make_any H hG A q c kind h.rq h.hq.1 h.hq.2.1 h.hq.2.2).mono ?_
 rintro e w' ⟨he,S',k1,k2,k3⟩
 exact ⟨he,S',h.left k1 k2 k3⟩
theorem St.makeR (h:St v r Tp Tq g0 cs A A2 q q2 X b c c2 cb C w0 B1 B2 w) (hG:Tr.Good Tq) (kind:Int):Calls Tryz.prog 10 #[r,.slice A q.length c,.int .i64 kind] w (AnsR v r Tp (Tr.make Tq q kind).2 g0 cs A A2 q q2 X b c c2 cb C w0 B1 (.tuple #[.int .i64 (Tr.make Tq q kind).1.1,.int .i64 ((Tr.make Tq q kind).1.2:Nat)])):=by
 obtain ⟨p,nv,dv,ev,D,rfl,H,rfl⟩:=h.r
 refine (Rf.make_any H hG A q c kind h.rq h.hq.1 h.hq.2.1 h.hq.2.2).mono ?_
 rintro e w' ⟨he,S',k1,k2,k3⟩
 exact ⟨he,S',h.right k1 k2 k3⟩
theorem St.linkT (h:St v r Tp Tq g0 cs A A2 q q2 X b c c2 cb C w0 B1 B2 w) (hG:Tr.Good Tp):Calls Tryz.prog 13 #[v,.slice A q.length c,.slice A2 q2.length c2] w (AnsT v r (Tr.link Tp q q2).2 Tq g0 cs A A2 q q2 X b c c2 cb C w0 B2 (.int .i64 ((Tr.link Tp q q2).1:Nat))):=by
 obtain ⟨p,av,gs,S,rfl,H,rfl⟩:=h.t
 refine (Tm.link_any H hG A A2 q q2 c c2 h.rq h.hq.1 h.hq.2.1 h.hq.2.2 h.rq2 h.hq2.1 h.hq2.2.1 h.hq2.2.2).mono ?_
 rintro e w' ⟨he,S',k1,k2,k3⟩
 exact ⟨he,S',h.left k1 k2 k3⟩
theorem St.linkR (h:St v r Tp Tq g0 cs A A2 q q2 X b c c2 cb C w0 B1 B2 w) (hG:Tr.Good Tq):Calls Tryz.prog 14 #[r,.slice A q.length c,.slice A2 q2.length c2] w (AnsR v r Tp (Tr.link Tq q q2).2 g0 cs A A2 q q2 X b c c2 cb C w0 B1 (.int .i64 ((Tr.link Tq q q2).1:Nat))):=by
 obtain ⟨p,nv,dv,ev,D,rfl,H,rfl⟩:=h.r
 refine (Rf.link_any H hG A A2 q q2 c c2 h.rq h.hq.1 h.hq.2.1 h.hq.2.2 h.rq2 h.hq2.1 h.hq2.2.1 h.hq2.2.2).mono ?_
 rintro e w' ⟨he,S',k1,k2,k3⟩
 exact ⟨he,S',h.right k1 k2 k3⟩
theorem St.unlinkT (h:St v r Tp Tq g0 cs A A2 q q2 X b c c2 cb C w0 B1 B2 w) (hG:Tr.Good Tp):Calls Tryz.prog 15 #[v,.slice A q.length c] w (AnsT v r (Tr.unlink Tp q).2 Tq g0 cs A A2 q q2 X b c c2 cb C w0 B2 (.int .i64 ((Tr.unlink Tp q).1:Nat))):=by
 obtain ⟨p,av,gs,S,rfl,H,rfl⟩:=h.t
 refine (Tm.unlink_any H hG A q c h.rq h.hq.1 h.hq.2.1 h.hq.2.2).mono ?_
 rintro e w' ⟨he,S',k1,k2,k3⟩
 exact ⟨he,S',h.left k1 k2 k3⟩
theorem St.unlinkR (h:St v r Tp Tq g0 cs A A2 q q2 X b c c2 cb C w0 B1 B2 w) (hG:Tr.Good Tq):Calls Tryz.prog 16 #[r,.slice A q.length c] w (AnsR v r Tp (Tr.unlink Tq q).2 g0 cs A A2 q q2 X b c c2 cb C w0 B1 (.int .i64 ((Tr.unlink Tq q).1:Nat))):=by
 obtain ⟨p,nv,dv,ev,D,rfl,H,rfl⟩:=h.r
 refine (Rf.unlink_any H hG A q c h.rq h.hq.1 h.hq.2.1 h.hq.2.2).mono ?_
 rintro e w' ⟨he,S',k1,k2,k3⟩
 exact ⟨he,S',h.right k1 k2 k3⟩
theorem St.rmdirT (h:St v r Tp Tq g0 cs A A2 q q2 X b c c2 cb C w0 B1 B2 w) (hG:Tr.Good Tp):Calls Tryz.prog 11 #[v,.slice A q.length c] w (AnsT v r (Tr.rmdir Tp q).2 Tq g0 cs A A2 q q2 X b c c2 cb C w0 B2 (.int .i64 ((Tr.rmdir Tp q).1:Nat))):=by
 obtain ⟨p,av,gs,S,rfl,H,rfl⟩:=h.t
 refine (Tm.rmdir_any H hG A q c h.rq h.hq.1 h.hq.2.1 h.hq.2.2).mono ?_
 rintro e w' ⟨he,S',k1,k2,k3⟩
 exact ⟨he,S',h.left k1 k2 k3⟩
theorem St.rmdirR (h:St v r Tp Tq g0 cs A A2 q q2 X b c c2 cb C w0 B1 B2 w) (hG:Tr.Good Tq):Calls Tryz.prog 12 #[r,.slice A q.length c] w (AnsR v r Tp (Tr.rmdir Tq q).2 g0 cs A A2 q q2 X b c c2 cb C w0 B1 (.int .i64 ((Tr.rmdir Tq q).1:Nat))):=by
 obtain ⟨p,nv,dv,ev,D,rfl,H,rfl⟩:=h.r
 refine (Rf.rmdir_any H hG A q c h.rq h.hq.1 h.hq.2.1 h.hq.2.2).mono ?_
 rintro e w' ⟨he,S',k1,k2,k3⟩
 exact ⟨he,S',h.right k1 k2 k3⟩
theorem St.renameT (h:St v r Tp Tq g0 cs A A2 q q2 X b c c2 cb C w0 B1 B2 w) (hG:Tr.Good Tp):Calls Tryz.prog 81 #[v,.slice A q.length c,.slice A2 q2.length c2] w (AnsT v r (Tr.rename Tp q q2).2 Tq g0 cs A A2 q q2 X b c c2 cb C w0 B2 (.int .i64 ((Tr.rename Tp q q2).1:Nat))):=by
 obtain ⟨p,av,gs,S,rfl,H,rfl⟩:=h.t
 refine (Tm.rename_any H hG A A2 q q2 c c2 h.rq h.hq.1 h.hq.2.1 h.hq.2.2 h.rq2 h.hq2.1 h.hq2.2.1 h.hq2.2.2).mono ?_
 rintro e w' ⟨he,S',k1,k2,k3⟩
 exact ⟨he,S',h.left k1 k2 k3⟩
theorem St.renameR (h:St v r Tp Tq g0 cs A A2 q q2 X b c c2 cb C w0 B1 B2 w) (hG:Tr.Good Tq):Calls Tryz.prog 82 #[r,.slice A q.length c,.slice A2 q2.length c2] w (AnsR v r Tp (Tr.rename Tq q q2).2 g0 cs A A2 q q2 X b c c2 cb C w0 B1 (.int .i64 ((Tr.rename Tq q q2).1:Nat))):=by
 obtain ⟨p,nv,dv,ev,D,rfl,H,rfl⟩:=h.r
 refine (Rf.rename_any H hG A A2 q q2 c c2 h.rq h.hq.1 h.hq.2.1 h.hq.2.2 h.rq2 h.hq2.1 h.hq2.2.1 h.hq2.2.2).mono ?_
 rintro e w' ⟨he,S',k1,k2,k3⟩
 exact ⟨he,S',h.right k1 k2 k3⟩
theorem St.appendT (h:St v r Tp Tq g0 cs A A2 q q2 X b c c2 cb C w0 B1 B2 w) (hG:Tr.Good Tp) (i:Int):Calls Tryz.prog 17 #[v,.int .i64 i,.slice X b.length cb] w (AnsT v r (Tr.append Tp i b).2 Tq g0 cs A A2 q q2 X b c c2 cb C w0 B2 (.int .i64 ((Tr.append Tp i b).1:Nat))):=by
 obtain ⟨p,av,gs,S,rfl,H,rfl⟩:=h.t
 refine (Tm.append_any H hG i X b cb h.rb (by have:=h.hb.2;omega)).mono ?_
 rintro e w' ⟨he,S',k1,k2,k3⟩
 exact ⟨he,S',h.left k1 k2 k3⟩
theorem St.appendR (h:St v r Tp Tq g0 cs A A2 q q2 X b c c2 cb C w0 B1 B2 w) (hG:Tr.Good Tq) (i:Int):Calls Tryz.prog 19 #[r,.int .i64 i,.slice X b.length cb] w (AnsR v r Tp (Tr.append Tq i b).2 g0 cs A A2 q q2 X b c c2 cb C w0 B1 (.int .i64 ((Tr.append Tq i b).1:Nat))):=by
 obtain ⟨p,nv,dv,ev,D,rfl,H,rfl⟩:=h.r
 refine (Rf.append_any H hG i X b cb h.rb (by have:=h.hb.2;omega)).mono ?_
 rintro e w' ⟨he,S',k1,k2,k3⟩
 exact ⟨he,S',h.right k1 k2 k3⟩
theorem St.sealT (h:St v r Tp Tq g0 cs A A2 q q2 X b c c2 cb C w0 B1 B2 w) (hG:Tr.Good Tp) (i:Int) (u:Nat) (hu:u≤18446744073709551615):Calls Tryz.prog 20 #[v,.int .i64 i,.int .u64 (u:Nat)] w (AnsT v r (Tr.seal_ Tp i u).2 Tq g0 cs A A2 q q2 X b c c2 cb C w0 B2 (.int .i64 ((Tr.seal_ Tp i u).1:Nat))):=by
 obtain ⟨p,av,gs,S,rfl,H,rfl⟩:=h.t
 refine (Tm.seal_any H hG i u hu).mono ?_
 rintro e w' ⟨he,S',k1,k2,k3⟩
 exact ⟨he,S',h.left k1 k2 k3⟩
theorem St.sealR (h:St v r Tp Tq g0 cs A A2 q q2 X b c c2 cb C w0 B1 B2 w) (hG:Tr.Good Tq) (i:Int) (u:Nat) (hu:u≤18446744073709551615):Calls Tryz.prog 21 #[r,.int .i64 i,.int .u64 (u:Nat)] w (AnsR v r Tp (Tr.seal_ Tq i u).2 g0 cs A A2 q q2 X b c c2 cb C w0 B1 (.int .i64 ((Tr.seal_ Tq i u).1:Nat))):=by
 obtain ⟨p,nv,dv,ev,D,rfl,H,rfl⟩:=h.r
 refine (Rf.seal_any H hG i u hu).mono ?_
 rintro e w' ⟨he,S',k1,k2,k3⟩
 exact ⟨he,S',h.right k1 k2 k3⟩
theorem St.keepT (h:St v r Tp Tq g0 cs A A2 q q2 X b c c2 cb C w0 B1 B2 w) (hG:Tr.Good Tp) (i:Int) (u:Nat) (hu:u≤18446744073709551615):Calls Tryz.prog 22 #[v,.int .i64 i,.int .u64 (u:Nat)] w (AnsT v r (Tr.keep Tp i u).2 Tq g0 cs A A2 q q2 X b c c2 cb C w0 B2 (.int .i64 ((Tr.keep Tp i u).1:Nat))):=by
 obtain ⟨p,av,gs,S,rfl,H,rfl⟩:=h.t
 refine (Tm.keep_any H hG i u hu).mono ?_
 rintro e w' ⟨he,S',k1,k2,k3⟩
 exact ⟨he,S',h.left k1 k2 k3⟩
theorem St.keepR (h:St v r Tp Tq g0 cs A A2 q q2 X b c c2 cb C w0 B1 B2 w) (hG:Tr.Good Tq) (i:Int) (u:Nat) (hu:u≤18446744073709551615):Calls Tryz.prog 23 #[r,.int .i64 i,.int .u64 (u:Nat)] w (AnsR v r Tp (Tr.keep Tq i u).2 g0 cs A A2 q q2 X b c c2 cb C w0 B1 (.int .i64 ((Tr.keep Tq i u).1:Nat))):=by
 obtain ⟨p,nv,dv,ev,D,rfl,H,rfl⟩:=h.r
 refine (Rf.keep_any H hG i u hu).mono ?_
 rintro e w' ⟨he,S',k1,k2,k3⟩
 exact ⟨he,S',h.right k1 k2 k3⟩
theorem St.dropT (h:St v r Tp Tq g0 cs A A2 q q2 X b c c2 cb C w0 B1 B2 w) (hG:Tr.Good Tp) (i:Int):Calls Tryz.prog 26 #[v,.int .i64 i] w (AnsT v r (Tr.drop Tp i).2 Tq g0 cs A A2 q q2 X b c c2 cb C w0 B2 (.int .i64 ((Tr.drop Tp i).1:Nat))):=by
 obtain ⟨p,av,gs,S,rfl,H,rfl⟩:=h.t
 refine (Tm.dropT_any H hG i).mono ?_
 rintro e w' ⟨he,S',k1,k2,k3⟩
 exact ⟨he,S',h.left k1 k2 k3⟩
theorem St.dropR (h:St v r Tp Tq g0 cs A A2 q q2 X b c c2 cb C w0 B1 B2 w) (hG:Tr.Good Tq) (i:Int):Calls Tryz.prog 27 #[r,.int .i64 i] w (AnsR v r Tp (Tr.drop Tq i).2 g0 cs A A2 q q2 X b c c2 cb C w0 B1 (.int .i64 ((Tr.drop Tq i).1:Nat))):=by
 obtain ⟨p,nv,dv,ev,D,rfl,H,rfl⟩:=h.r
 refine (Rf.drop_any H hG i).mono ?_
 rintro e w' ⟨he,S',k1,k2,k3⟩
 exact ⟨he,S',h.right k1 k2 k3⟩
theorem St.lookT (h:St v r Tp Tq g0 cs A A2 q q2 X b c c2 cb C w0 B1 B2 w) (hG:Tr.Good Tp):Calls Tryz.prog 86 #[v,.slice A q.length c] w fun e w'=>e=.returned (.tuple #[.int .i64 (Tr.look Tp q).1,.int .i64 ((Tr.look Tp q).2:Nat)])∧Below w.heap.size w w':=by
 obtain ⟨p,av,gs,S,rfl,H,rfl⟩:=h.t
 exact Tm.look_any H hG A q c h.rq h.hq.1 h.hq.2.1 h.hq.2.2
theorem St.lookR (h:St v r Tp Tq g0 cs A A2 q q2 X b c c2 cb C w0 B1 B2 w) (hG:Tr.Good Tq):Calls Tryz.prog 60 #[r,.slice A q.length c] w fun e w'=>e=.returned (.tuple #[.int .i64 (Tr.look Tq q).1,.int .i64 ((Tr.look Tq q).2:Nat)])∧Below w.heap.size w w':=by
 obtain ⟨p,nv,dv,ev,D,rfl,H,rfl⟩:=h.r
 exact Rf.look_any H.in_ hG H.low A q c h.rq h.hq.2.1 h.hq.2.2
theorem St.nodeT (h:St v r Tp Tq g0 cs A A2 q q2 X b c c2 cb C w0 B1 B2 w) (hG:Tr.Good Tp) (i:Int):Calls Tryz.prog 83 #[v,.int .i64 i] w fun e w'=>e=.returned (.tuple #[(Tr.node Tp i).1.val,.bool (Tr.node Tp i).2])∧Below w.heap.size w w':=by
 obtain ⟨p,av,gs,S,rfl,H,rfl⟩:=h.t
 exact Tm.node_any H hG i
theorem St.nodeR (h:St v r Tp Tq g0 cs A A2 q q2 X b c c2 cb C w0 B1 B2 w) (hG:Tr.Good Tq) (i:Int):Calls Tryz.prog 35 #[r,.int .i64 i] w fun e w'=>e=.returned (.tuple #[(Tr.node Tq i).1.val,.bool (Tr.node Tq i).2])∧Below w.heap.size w w':=by
 obtain ⟨p,nv,dv,ev,D,rfl,H,rfl⟩:=h.r
 exact Rf.node_any H.in_ H.low i (by have:=hG.few;omega)
theorem St.listT (h:St v r Tp Tq g0 cs A A2 q q2 X b c c2 cb C w0 B1 B2 w) (hG:Tr.Good Tp) (i:Int):Calls Tryz.prog 87 #[v,.int .i64 i] w (Tm.LAns (Tr.list Tp i).1 (Tr.list Tp i).2 w):=by
 obtain ⟨p,av,gs,S,rfl,H,rfl⟩:=h.t
 exact Tm.list_any H hG i
theorem St.listR (h:St v r Tp Tq g0 cs A A2 q q2 X b c c2 cb C w0 B1 B2 w) (hG:Tr.Good Tq) (i:Int):Calls Tryz.prog 61 #[r,.int .i64 i] w (Rf.LAns (Tr.list Tq i).1 (Tr.list Tq i).2 w):=by
 obtain ⟨p,nv,dv,ev,D,rfl,H,rfl⟩:=h.r
 exact Rf.list_any H hG i
theorem St.readT (h:St v r Tp Tq g0 cs A A2 q q2 X b c c2 cb C w0 B1 B2 w) (hG:Tr.Good Tp) (i a m:Int) (h1:-9223372036854775808≤a∧a≤9223372036854775807) (h2:-9223372036854775808≤m∧m≤9223372036854775807):Calls Tryz.prog 24 #[v,.int .i64 i,.int .i64 a,.int .i64 m] w (Tm.RAns (Tr.read Tp i a m).1 (Tr.read Tp i a m).2 w):=by
 obtain ⟨p,av,gs,S,rfl,H,rfl⟩:=h.t
 exact Tm.read_any H hG i a m h1 h2
theorem St.readR (h:St v r Tp Tq g0 cs A A2 q q2 X b c c2 cb C w0 B1 B2 w) (hG:Tr.Good Tq) (i a m:Int) (h1:-9223372036854775808≤a∧a≤9223372036854775807) (h2:-9223372036854775808≤m∧m≤9223372036854775807):Calls Tryz.prog 25 #[r,.int .i64 i,.int .i64 a,.int .i64 m] w (Rf.RdAns (Tr.read Tq i a m).1 (Tr.read Tq i a m).2 w):=by
 obtain ⟨p,nv,dv,ev,D,rfl,H,rfl⟩:=h.r
 exact Rf.read_any H hG i a m h1 h2
theorem St.count (h:St v r Tp Tq g0 cs A A2 q q2 X b c c2 cb C w0 B1 B2 w):Calls Tryz.prog 40 #[v] w fun e w'=>e=.returned (.int .i64 (Tp.length:Nat))∧w'=w:=by
 obtain ⟨p,av,gs,S,rfl,H,rfl⟩:=h.t
 exact Tm.count_any H
theorem St.refcell (h:St v r Tp Tq g0 cs A A2 q q2 X b c c2 cb C w0 B1 B2 w):∃ p Y d,r=.pointer (some ⟨p,0,none⟩)∧w.cell? ⟨p,0,none⟩=some (.slice Y Tq.length d):=by
 obtain ⟨p,nv,dv,ev,D,rfl,H,rfl⟩:=h.r
 obtain ⟨Y,d,rfl,_⟩:=Tm.oF H.in_.nodes
 exact ⟨p,Y,d,rfl,H.in_.box.cell 0⟩
end Tw
end Go.Proofs.YtjoedamiilgajaaGreat
namespace Go.Proofs.YtjoedamiilgajaaGreat
open Go.ChangeShapes Go.WideShapes Go.RowKit Go.Deep
structure AskT where
 kd:Int
 p:Int
 z:Int
 dir:Bool
 id:Int
 a:Int
 m:Int
 X:Option Addr
 b:List UInt8
 cb:Nat
 u:Nat
def In64T (i:Int):Prop:=-9223372036854775808≤i∧i≤9223372036854775807
def AskT.cells (p:AskT):List Value:=[.int .i64 p.kd,.int .i64 p.p,.int .i64 p.z,.bool p.dir,.int .i64 p.id,.int .i64 p.a,.int .i64 p.m,.slice p.X p.b.length p.cb,.int .u64 (p.u:Nat)]
def AskT.val (p:AskT):Value:=.agg p.cells.toArray
structure AskT.Fits (w:World) (p:AskT):Prop where
 rd:Rd w p.X p.b
 fits:p.b.length≤p.cb
 long:p.b.length≤9223372036854775807
 ip:In64T p.p
 ito:In64T p.z
 iid:In64T p.id
 ia:In64T p.a
 im:In64T p.m
 iu:p.u≤18446744073709551615
structure AskT.Ok (w:World) (a:Addr) (j:Nat) (p:AskT):Prop where
 cells:∀ k u,p.cells[k]?=some u→w.cell? (a.add (j*9+k))=some u
 fit:p.Fits w
 lt:a.block<w.heap.size
def AsksT (w:World) (A:Option Addr) (ps:List AskT):Prop:=0<ps.length→∃ a,A=some a∧∀ (j:Nat) (p:AskT),ps[j]?=some p→p.Ok w a j
theorem AsksT.plain {w:World} {A:Option Addr} {ps:List AskT} (h:AsksT w A ps) (h0:0<ps.length):∃ b off,A=some ⟨b,off,none⟩∧∀ (i:Nat) (p:AskT),ps[i]?=some p→p.Ok w ⟨b,off,none⟩ i:=by
 obtain ⟨a,rfl,hok⟩:=h h0
 have hs:=World.cell?_spot ((hok 0 _ (List.getElem?_eq_getElem h0)).cells 0 _ rfl)
 obtain ⟨b,off,spot⟩:=a
 have:spot=none:=by simpa [Addr.add] using hs
 subst this
 exact ⟨b,off,rfl,hok⟩
theorem AskT.Fits.later {w w':World} {p:AskT} (h:p.Fits w) (hb:Below w.heap.size w w'):p.Fits w':={ h with rd:=h.rd.below hb }
theorem AskT.Ok.at_ {w w':World} {b off j:Nat} {p:AskT} (h:p.Ok w ⟨b,off,none⟩ j) (hb:Below w.heap.size w w') (k:Nat) (u:Value) (hu:p.cells[k]?=some u):w'.cell? ⟨b,off+j*9+k,none⟩=some u:=by
 have c:=h.cells k u hu
 simp only [add_plain] at c
 rw [Nat.add_assoc]
 exact (hb.cell (p:=⟨b,off+(j*9+k),none⟩) h.lt).trans c
theorem Tryz.cellsAskT:Tryz.prog.cellsOf 56=9:=by kernel_rfl
theorem Tryz.cellsIntT:Tryz.prog.cellsOf 3=1:=by kernel_rfl
theorem Tryz.cellsBoolT:Tryz.prog.cellsOf 4=1:=by kernel_rfl
theorem Tryz.cellsU64T:Tryz.prog.cellsOf 43=1:=by kernel_rfl
theorem Tryz.cellsBytesT:Tryz.prog.cellsOf 39=1:=by kernel_rfl
set_option maxRecDepth 100000 in
set_option maxHeartbeats 1000000 in
theorem asksT_of {H:Type} {enc:TypeId × Value→H} {W:World} {fuel:Nat} {v:Value} {x:DataW H × List MemPlace}
    (h:DataW.trod enc Tryz.prog W 0 (fun _=>true) true fuel 53 [v]=some x) :
    ∃ (ps:List AskT) (A:Option Addr) (cap:Nat),v=.slice A ps.length cap∧ps.length≤cap∧ps.length≤9223372036854775807∧AsksT W A ps:=by
 rcases open_slice Tryz.underlying53 h with ⟨hcs,_⟩|⟨a,len,cap,m,n,D,Pl,hcs,_,hl,hm,hmm,hx,hi⟩
 ·simp only [List.cons.injEq,and_true] at hcs
  exact ⟨[],none,0,hcs,by simp,by simp,fun h0=>absurd h0 (by simp)⟩
 ·simp only [List.cons.injEq,and_true] at hcs
  subst hcs
  simp only [if_true] at hmm
  have key:∀ i:Fin len,∃ p:AskT,p.Ok W a i:=fun i=>by
   obtain ⟨cs,hc,ht⟩:=hi i (by have:=i.2;omega)
   rw [Tryz.cellsAskT] at hc
   obtain ⟨_,hlen,hat⟩:=World.cells?_some hc
   obtain ⟨ys,n',_,hys,_,hyl,hf⟩:=DataW.trod_struct Tryz.underlying56 ht
   match cs,hlen,ys,hyl with
   | [v0,v1,v2,v3,v4,v5,v6,v7,v8],_,[y0,y1,y2,y3,y4,y5,y6,y7,y8],_ =>
     have h0:DataW.trod enc Tryz.prog W 0 (fun _=>true) true n' 3 ((List.drop 0 [v0,v1,v2,v3,v4,v5,v6,v7,v8]).take (Tryz.prog.cellsOf 3))=some y0:=hf 0 _ rfl
     rw [Tryz.cellsIntT] at h0
     have h1:DataW.trod enc Tryz.prog W 0 (fun _=>true) true n' 3 ((List.drop 1 [v0,v1,v2,v3,v4,v5,v6,v7,v8]).take (Tryz.prog.cellsOf 3))=some y1:=hf 1 _ rfl
     rw [Tryz.cellsIntT] at h1
     have h2:DataW.trod enc Tryz.prog W 0 (fun _=>true) true n' 3 ((List.drop 2 [v0,v1,v2,v3,v4,v5,v6,v7,v8]).take (Tryz.prog.cellsOf 3))=some y2:=hf 2 _ rfl
     rw [Tryz.cellsIntT] at h2
     have h3:DataW.trod enc Tryz.prog W 0 (fun _=>true) true n' 4 ((List.drop 3 [v0,v1,v2,v3,v4,v5,v6,v7,v8]).take (Tryz.prog.cellsOf 4))=some y3:=hf 3 _ rfl
     rw [Tryz.cellsBoolT] at h3
     have h4:DataW.trod enc Tryz.prog W 0 (fun _=>true) true n' 3 ((List.drop 4 [v0,v1,v2,v3,v4,v5,v6,v7,v8]).take (Tryz.prog.cellsOf 3))=some y4:=hf 4 _ rfl
     rw [Tryz.cellsIntT] at h4
     have h5:DataW.trod enc Tryz.prog W 0 (fun _=>true) true n' 3 ((List.drop 5 [v0,v1,v2,v3,v4,v5,v6,v7,v8]).take (Tryz.prog.cellsOf 3))=some y5:=hf 5 _ rfl
     rw [Tryz.cellsIntT] at h5
     have h6:DataW.trod enc Tryz.prog W 0 (fun _=>true) true n' 3 ((List.drop 6 [v0,v1,v2,v3,v4,v5,v6,v7,v8]).take (Tryz.prog.cellsOf 3))=some y6:=hf 6 _ rfl
     rw [Tryz.cellsIntT] at h6
     have h7:DataW.trod enc Tryz.prog W 0 (fun _=>true) true n' 39 ((List.drop 7 [v0,v1,v2,v3,v4,v5,v6,v7,v8]).take (Tryz.prog.cellsOf 39))=some y7:=hf 7 _ rfl
     rw [Tryz.cellsBytesT] at h7
     have h8:DataW.trod enc Tryz.prog W 0 (fun _=>true) true n' 43 ((List.drop 8 [v0,v1,v2,v3,v4,v5,v6,v7,v8]).take (Tryz.prog.cellsOf 43))=some y8:=hf 8 _ rfl
     rw [Tryz.cellsU64T] at h8
     have at_:∀ k u,[v0,v1,v2,v3,v4,v5,v6,v7,v8][k]?=some u→W.cell? ((a.add (i*9)).add k)=some u:=fun k u hu=>match k,hu with
      | 0,hu=>(show W.cell? ((a.add (i*9)).add 0)=some v0 from hat 0 (by omega)).trans hu
      | 1,hu=>(show W.cell? ((a.add (i*9)).add 1)=some v1 from hat 1 (by omega)).trans hu
      | 2,hu=>(show W.cell? ((a.add (i*9)).add 2)=some v2 from hat 2 (by omega)).trans hu
      | 3,hu=>(show W.cell? ((a.add (i*9)).add 3)=some v3 from hat 3 (by omega)).trans hu
      | 4,hu=>(show W.cell? ((a.add (i*9)).add 4)=some v4 from hat 4 (by omega)).trans hu
      | 5,hu=>(show W.cell? ((a.add (i*9)).add 5)=some v5 from hat 5 (by omega)).trans hu
      | 6,hu=>(show W.cell? ((a.add (i*9)).add 6)=some v6 from hat 6 (by omega)).trans hu
      | 7,hu=>(show W.cell? ((a.add (i*9)).add 7)=some v7 from hat 7 (by omega)).trans hu
      | 8,hu=>(show W.cell? ((a.add (i*9)).add 8)=some v8 from hat 8 (by omega)).trans hu
      | k+9,hu=>by simp at hu
     obtain ⟨k0,e0,_,w0⟩:=DataW.trod_int (cs:=[v0]) Tryz.underlying3 h0
     obtain ⟨k1,e1,_,w1⟩:=DataW.trod_int (cs:=[v1]) Tryz.underlying3 h1
     obtain ⟨k2,e2,_,w2⟩:=DataW.trod_int (cs:=[v2]) Tryz.underlying3 h2
     obtain ⟨k3,e3,_⟩:=DataW.trod_bool (cs:=[v3]) Tryz.underlying4 h3
     obtain ⟨k4,e4,_,w4⟩:=DataW.trod_int (cs:=[v4]) Tryz.underlying3 h4
     obtain ⟨k5,e5,_,w5⟩:=DataW.trod_int (cs:=[v5]) Tryz.underlying3 h5
     obtain ⟨k6,e6,_,w6⟩:=DataW.trod_int (cs:=[v6]) Tryz.underlying3 h6
     obtain ⟨l,A,c,e7,hlc,hll,hr⟩:=bytes_of (v:=v7) h7
     obtain ⟨k8,e8,_,w8⟩:=DataW.trod_int (cs:=[v8]) Tryz.underlying43 h8
     simp only [List.cons.injEq,and_true] at e0 e1 e2 e3 e4 e5 e6 e8
     have hu:0≤k8∧k8≤18446744073709551615:=bounds_u64 w8
     obtain ⟨u,rfl⟩:∃ u:Nat,k8=(u:Int):=⟨k8.toNat,by omega⟩
     subst e0 e1 e2 e3 e4 e5 e6 e7 e8
     have lt:a.block<W.heap.size:=by
      have a0:=at_ 0 _ rfl
      rcases Nat.lt_or_ge ((a.add (i*9)).add 0).block W.heap.size with h|h
      ·rwa [block_of_add,block_of_add] at h
      ·simp [World.cell?,Array.getElem?_eq_none h] at a0
     exact ⟨⟨k0,k1,k2,k3,k4,k5,k6,A,l,c,u⟩,⟨fun k x hx=>by rw [← add_of_add];exact at_ k x hx,⟨hr,hlc,hll,bounds_i64 w1,bounds_i64 w2,bounds_i64 w4,bounds_i64 w5,bounds_i64 w6,by show u≤18446744073709551615;omega⟩,lt⟩⟩
  obtain ⟨f,hf⟩:=Classical.axiomOfChoice key
  refine ⟨List.ofFn f,some a,cap,by rw [List.length_ofFn],by rw [List.length_ofFn];exact hl,by rw [List.length_ofFn];exact max_le (Nat.le_trans hl hm),fun _=>⟨a,rfl,fun i p hp=>?_⟩⟩
  have hjl:i<len:=by
   have:=(List.getElem?_eq_some_iff.1 hp).1
   simpa using this
  have e:p=f ⟨i,hjl⟩:=by
   rw [List.getElem?_ofFn,dif_pos hjl] at hp
   exact (Option.some.inj hp).symm
  subst e
  exact hf ⟨i,hjl⟩
end Go.Proofs.YtjoedamiilgajaaGreat
namespace Go.Proofs.YtjoedamiilgajaaGreat
open Go.RowKit
namespace Tr
variable {t:T}
theorem count_two {α:Type} {p:α→Bool}:∀ {l:List α} {a b:α},a ∈ l→b ∈ l→a≠b→p a=true→p b=true→2≤l.countP p
 | c :: l,a,b,ha,hb,hne,hpa,hpb=>by
   rcases List.mem_cons.1 ha with rfl|ha1 <;> rcases List.mem_cons.1 hb with rfl|hb1
   ·exact absurd rfl hne
   ·rw [List.countP_cons_of_pos hpa]
    have:=List.countP_pos_iff.2 ⟨b,hb1,hpb⟩
    omega
   ·rw [List.countP_cons_of_pos hpb]
    have:=List.countP_pos_iff.2 ⟨a,ha1,hpa⟩
    omega
   ·have:=count_two ha1 hb1 hne hpa hpb
    rw [List.countP_cons]
    omega
theorem Good.one_name (h:Good t) {j:Int} (hk:kindOf t j=2) {e e':En} (he:e ∈ t) (he':e' ∈ t) {n n':Nm} (hn:n ∈ e.names) (hn':n' ∈ e'.names) (h1:n.2=j) (h2:n'.2=j):e=e'∧n=n':=by
 have key:(e.nd.id,n)=(e'.nd.id,n'):=by
  refine Decidable.byContradiction fun hne=>?_
  have hc:2≤count t j:=count_two (flat_mem.2 ⟨e,he,rfl,hn⟩) (flat_mem.2 ⟨e',he',rfl,hn'⟩) hne (by simp [h1]) (by simp [h2])
  obtain ⟨ej,hej⟩:=h.has hk
  obtain ⟨hm,hid⟩:=find_some hej
  have h3:=h.linked ej hm
  have h4:=h.dirs ej hm (by rw [← kO hej];exact hk)
  have h5:=(h.leads e he n hn).1
  rw [hid,if_neg (by rw [← h1];exact h5),h4] at h3
  omega
 obtain ⟨h3,h4⟩:=Prod.mk.inj key
 refine ⟨?_,h4⟩
 have:=h.ris.find he
 rw [h3,h.ris.find he'] at this
 injection this with this
 exact this.symm
theorem Good.look_on (h:Good t) {i:Int} {q:List Bs} {e:En} (he:e ∈ t) (hl:lF t i q=(e.nd.id,0)) (hk:e.nd.kind=2) {n:Nm} (hn:n ∈ e.names):lF t i (q++[n.1])=(n.2,0):=by
 have hf:=h.ris.find he
 rw [lookF_app,hl,if_neg (by simp),lookF_cons,kO hf,if_neg (by simp [hk]),kids_of hf,get_of_mem (h.each e he).rise hn]
 rfl
theorem Good.look_back (h:Good t) {i j:Int} {q:List Bs} {x:Bs} (hl:lF t i (q++[x])=(j,0)):∃ e ∈ t,lF t i q=(e.nd.id,0)∧e.nd.kind=2∧(x,j) ∈ e.names:=by
 rw [lookF_app] at hl
 split at hl
 ·rename_i h2
  rw [hl] at h2
  exact absurd rfl h2
 ·rename_i h2
  have h3:(lF t i q).2=0:=Decidable.byContradiction h2
  obtain ⟨d,hd⟩:∃ d,d=(lF t i q).1:=⟨_,rfl⟩
  rw [← hd,lookF_cons] at hl
  split at hl
  ·cases hl
  ·rename_i h4
   have hk:kindOf t d=2:=Decidable.byContradiction h4
   obtain ⟨en,hen⟩:=h.has hk
   rw [kids_of hen] at hl
   cases hg:get en.names x with
   | none=>rw [hg] at hl;cases hl
   | some k =>
     rw [hg] at hl
     have hkj:k=j:=congrArg Prod.fst (show (k,0)=(j,0) from hl)
     refine ⟨en,(find_some hen).1,Prod.ext ?_ h3,by rw [← kO hen];exact hk,hkj ▸ get_mem hg⟩
     rw [(find_some hen).2,hd]
theorem Good.one_path (h:Good t):∀ (n:Nat) (a b:List Bs) (j:Int),a.length≤n→lF t 0 a=(j,0)→lF t 0 b=(j,0)→kindOf t j=2→a=b
 | n,a,b,j,hn,ha,hb,hk=>by
   have zero:∀ (q:List Bs) (x:Bs),lF t 0 (q++[x])=(0,0)→False:=fun q x hq=>by
    obtain ⟨e,he,_,_,hm⟩:=h.look_back hq
    exact (h.leads e he _ hm).1 rfl
   rcases List.eq_nil_or_concat a with rfl|⟨a1,x,rfl⟩
   ·have hj:(0:Int)=j:=congrArg Prod.fst (show ((0:Int),0)=(j,0) from ha)
    subst hj
    rcases List.eq_nil_or_concat b with rfl|⟨b1,y,rfl⟩
    ·rfl
    ·rw [List.concat_eq_append] at hb
     exact (zero _ _ hb).elim
   ·rw [List.concat_eq_append] at ha hn ⊢
    rcases List.eq_nil_or_concat b with rfl|⟨b1,y,rfl⟩
    ·have hj:(0:Int)=j:=congrArg Prod.fst (show ((0:Int),0)=(j,0) from hb)
     subst hj
     exact (zero _ _ ha).elim
    ·rw [List.concat_eq_append] at hb ⊢
     obtain ⟨e,he,h1,h2,h3⟩:=h.look_back ha
     obtain ⟨e',he',h4,h5,h6⟩:=h.look_back hb
     obtain ⟨rfl,h7⟩:=h.one_name hk he he' h3 h6 rfl rfl
     obtain ⟨rfl,_⟩:=Prod.mk.inj h7
     rw [List.length_append] at hn
     have:a1.length<n:=Nat.lt_of_lt_of_le (Nat.lt_succ_self _) hn
     rw [h.one_path (n-1) a1 b1 e.nd.id (by omega) h1 h4 (by rw [kO (h.ris.find he)];exact h2)]
termination_by n=>n
decreasing_by omega
def Reach (t:T) (i j:Int):Prop:=∃ q,lF t i q=(j,0)∧kindOf t j=2
theorem Good.reach_on (h:Good t) {i:Int} {e:En} (he:e ∈ t) (hr:Reach t i e.nd.id) {n:Nm} (hn:n ∈ e.names) (hk:kindOf t n.2=2):Reach t i n.2:=by
 obtain ⟨q,h1,h2⟩:=hr
 exact ⟨q++[n.1],h.look_on he h1 (by rw [← kO (h.ris.find he)];exact h2) hn,hk⟩
theorem Good.reach_back (h:Good t) {i:Int} {e:En} (he:e ∈ t) {n:Nm} (hn:n ∈ e.names) (hr:Reach t i n.2):n.2=i∨Reach t i e.nd.id:=by
 obtain ⟨q,h1,h2⟩:=hr
 rcases List.eq_nil_or_concat q with rfl|⟨q1,x,rfl⟩
 ·exact .inl (congrArg Prod.fst (show (i,0)=(n.2,0) from h1)).symm
 ·rw [List.concat_eq_append] at h1
  obtain ⟨e',he',h3,h4,h5⟩:=h.look_back h1
  obtain ⟨rfl,_⟩:=h.one_name h2 he he' hn h5 rfl rfl
  exact .inr ⟨q1,h3,by rw [kO (h.ris.find he)];exact h4⟩
theorem fold_le (t:T) (n:Nat):∀ (l:List Nm) (m:Nat),m≤l.foldl (fun m k=>max m (1+high t n k.2)) m
 | [],m=>Nat.le_refl _
 | k :: l,m=>by
   rw [List.foldl_cons]
   exact Nat.le_trans (Nat.le_max_left _ _) (fold_le t n l _)
theorem fold_mem (t:T) (n:Nat):∀ (l:List Nm) (m:Nat) (k:Nm),k ∈ l→1+high t n k.2≤l.foldl (fun m k=>max m (1+high t n k.2)) m
 | c :: l,m,k,hk=>by
   rw [List.foldl_cons]
   rcases List.mem_cons.1 hk with rfl|hk
   ·exact Nat.le_trans (Nat.le_max_right _ _) (fold_le t n l _)
   ·exact fold_mem t n l _ k hk
theorem look_high (t:T):∀ (n:Nat) (q:List Bs) (i j:Int),lF t i q=(j,0)→q.length≤n→q.length≤high t n i
 | _,[],_,_,_,_=>Nat.zero_le _
 | n+1,x :: q,i,j,h,hl=>by
   rw [lookF_cons] at h
   split at h
   ·cases h
   ·cases hg:get (kids t i) x with
    | none=>rw [hg] at h;cases h
    | some k =>
      rw [hg] at h
      have h1:=look_high t n q k j h (by simpa using hl)
      have h2:=fold_mem t n (kids t i) 0 (x,k) (get_mem hg)
      rw [high]
      simp only [List.length_cons]
      simp only at h2
      omega
end Tr
end Go.Proofs.YtjoedamiilgajaaGreat
namespace Go.Proofs.YtjoedamiilgajaaGreat
open Go.RowKit
namespace Tr
variable {t:T}
theorem inj_le {α β:Type} [DecidableEq β] (R:α→β→Prop) (hi:∀ x x' y,R x y→R x' y→x=x'):∀ (l:List α) (m:List β),l.Nodup→(∀ x ∈ l,∃ y ∈ m,R x y)→l.length≤m.length
 | [],_,_,_=>Nat.zero_le _
 | x :: l,m,hn,he=>by
   obtain ⟨y,hy,hr⟩:=he x (.head _)
   rw [List.nodup_cons] at hn
   have:=inj_le R hi l (m.erase y) hn.2 fun z hz=>by
    obtain ⟨u,hu,hr2⟩:=he z (.tail _ hz)
    refine ⟨u,(List.mem_erase_of_ne fun e=>?_).2 hu,hr2⟩
    subst e
    have:=hi _ _ _ hr hr2
    subst this
    exact hn.1 hz
   rw [List.length_erase_of_mem hy] at this
   have h1:0<m.length:=List.length_pos_of_mem hy
   rw [List.length_cons]
   omega
theorem Good.path_deep (h:Good t) {dep:Int→Nat} (hd0:dep 0=0) (hd:∀ e ∈ t,∀ n ∈ e.names,dep e.nd.id+1≤8∧(kindOf t n.2=2→dep n.2=dep e.nd.id+1)):∀ (n:Nat) (q:List Bs) (j:Int),q.length=n→lF t 0 q=(j,0)→q.length≤8∧(kindOf t j=2→dep j=q.length)
 | 0,q,j,hn,hl=>by
   obtain rfl:q=[]:=List.eq_nil_of_length_eq_zero hn
   have h1:(0,0)=(j,0):=hl
   injection h1 with h1
   subst h1
   exact ⟨Nat.zero_le _,fun _=>hd0⟩
 | n+1,q,j,hn,hl=>by
   rcases List.eq_nil_or_concat q with rfl|⟨r,x,rfl⟩
   ·cases hn
   ·rw [List.concat_eq_append] at hn hl ⊢
    obtain ⟨e,he,h1,h2,h3⟩:=h.look_back hl
    rw [List.length_append] at hn
    have hn1:r.length=n:=by simpa using hn
    obtain ⟨k1,k2⟩:=h.path_deep hd0 hd n r e.nd.id hn1 h1
    have k3:=k2 (by rw [kO (h.ris.find he)];exact h2)
    obtain ⟨k4,k5⟩:=hd e he _ h3
    rw [List.length_append]
    refine ⟨by simp;omega,fun hk=>?_⟩
    rw [k5 hk]
    simp
    omega
theorem Good.path_le (h:Good t) {q:List Bs} {j:Int} (hl:lF t 0 q=(j,0)):q.length≤8:=by
 obtain ⟨dep,hd0,hd⟩:=h.deep
 exact (h.path_deep hd0 hd _ q j rfl hl).1
theorem Good.path_good (h:Good t):∀ (n:Nat) (q:List Bs) (j:Int),q.length=n→lF t 0 q=(j,0)→∀ x ∈ q,Pa.good x=true
 | 0,q,j,hn,hl=>by
   obtain rfl:q=[]:=List.eq_nil_of_length_eq_zero hn
   intro x hx
   cases hx
 | n+1,q,j,hn,hl=>by
   rcases List.eq_nil_or_concat q with rfl|⟨r,x,rfl⟩
   ·cases hn
   ·rw [List.concat_eq_append] at hn hl ⊢
    obtain ⟨e,he,h1,h2,h3⟩:=h.look_back hl
    rw [List.length_append] at hn
    have hn1:r.length=n:=by simpa using hn
    intro y hy
    rcases List.mem_append.1 hy with hy|hy
    ·exact h.path_good n r e.nd.id hn1 h1 y hy
    ·rw [List.mem_singleton] at hy
     subst hy
     exact (h.each e he).good _ h3
theorem Good.path_formed (h:Good t) {q:List Bs} {j:Int} (hl:lF t 0 q=(j,0)):formed q=0:=by
 unfold formed
 rw [if_pos (List.all_eq_true.2 (h.path_good _ q j rfl hl)),if_neg (by have:=h.path_le hl;omega)]
theorem Good.path_look (h:Good t) {q:List Bs} {j:Int} (hl:lF t 0 q=(j,0)):look t q=(j,0):=by
 unfold look
 rw [if_neg (by rw [h.path_formed hl];simp),hl]
theorem Good.walk_mem (h:Good t):∀ (n:Nat) (i:Int) (p q:List Bs) (k:Int),(q,k) ∈ walk t n i p↔∃ r,q=p++r∧r≠[]∧r.length≤n∧lF t i r=(k,0)
 | 0,i,p,q,k=>by
   constructor
   ·intro h1;cases h1
   ·rintro ⟨r,_,h1,h2,_⟩
    exact absurd (List.eq_nil_of_length_eq_zero (by omega)) h1
 | n+1,i,p,q,k=>by
   show (q,k) ∈ (kids t i).flatMap _↔_
   rw [List.mem_flatMap]
   constructor
   ·rintro ⟨⟨x,m⟩,hm,h1⟩
    obtain ⟨en,hen,hmem⟩:=kids_mem hm
    have hk2:kindOf t i=2:=Decidable.byContradiction fun hne=>by rw [h.file_kids hne] at hm;cases hm
    have hstep:∀ r,lF t i (x :: r)=lF t m r:=fun r=>by
     rw [lookF_cons,if_neg (by simp [hk2]),get_of_mem (h.rises i) hm]
    rcases List.mem_cons.1 h1 with h1|h1
    ·injection h1 with h2 h3
     subst h2 h3
     exact ⟨[x],rfl,by simp,by simp,by rw [hstep];rfl⟩
    ·obtain ⟨r,h2,h3,h4,h5⟩:=(h.walk_mem n m (p++[x]) q k).1 h1
     exact ⟨x :: r,by rw [h2];simp,by simp,by simp;omega,by rw [hstep];exact h5⟩
   ·rintro ⟨r,h2,h3,h4,h5⟩
    cases r with
    | nil=>exact absurd rfl h3
    | cons x r =>
      rw [lookF_cons] at h5
      split at h5
      ·cases h5
      ·cases hg:get (kids t i) x with
       | none=>rw [hg] at h5;cases h5
       | some m =>
         rw [hg] at h5
         replace h5:lF t m r=(k,0):=h5
         refine ⟨(x,m),get_mem hg,?_⟩
         by_cases hr:r=[]
         ·subst hr
          have h6:(m,0)=(k,0):=h5
          injection h6 with h6
          subst h6 h2
          exact .head _
         ·refine .tail _ ((h.walk_mem n m (p++[x]) q k).2 ⟨r,by rw [h2];simp,hr,by simp at h4;omega,h5⟩)
theorem Good.walk_nodup (h:Good t):∀ (n:Nat) (i:Int) (p:List Bs),(walk t n i p).Pairwise fun a b=>a.1≠b.1
 | 0,_,_=>List.Pairwise.nil
 | n+1,i,p=>by
   show ((kids t i).flatMap _).Pairwise _
   have key:∀ l:List Nm,Rise l→(∀ m ∈ l,m ∈ kids t i)→(l.flatMap fun k=>(p++[k.1],k.2) :: walk t n k.2 (p++[k.1])).Pairwise fun a b=>a.1≠b.1:=by
    intro l
    induction l with
    | nil=>intro _ _;exact List.Pairwise.nil
    | cons m l ih =>
      intro hr hm
      obtain ⟨hr1,hr2⟩:=List.pairwise_cons.1 hr
      rw [List.flatMap_cons,List.pairwise_append]
      refine ⟨List.pairwise_cons.2 ⟨fun b hb=>?_,h.walk_nodup n m.2 _⟩,ih hr2 fun x hx=>hm x (.tail _ hx),fun a ha b hb=>?_⟩
      ·obtain ⟨r,h2,h3,_⟩:=(h.walk_mem n m.2 (p++[m.1]) b.1 b.2).1 hb
       show p++[m.1]≠b.1
       rw [h2]
       intro e
       have:=congrArg List.length e
       simp only [List.length_append] at this
       exact h3 (List.eq_nil_of_length_eq_zero (by omega))
      ·have ha1:∃ r,a.1=p++(m.1 :: r):=by
        rcases List.mem_cons.1 ha with ha|ha
        ·exact ⟨[],by rw [ha]⟩
        ·obtain ⟨r,h2,_⟩:=(h.walk_mem n m.2 (p++[m.1]) a.1 a.2).1 ha
         exact ⟨r,by rw [h2];simp⟩
       obtain ⟨m2,hm2,hb⟩:=List.mem_flatMap.1 hb
       have hb1:∃ r,b.1=p++(m2.1 :: r):=by
        rcases List.mem_cons.1 hb with hb|hb
        ·exact ⟨[],by rw [hb]⟩
        ·obtain ⟨r,h2,_⟩:=(h.walk_mem n m2.2 (p++[m2.1]) b.1 b.2).1 hb
         exact ⟨r,by rw [h2];simp⟩
       obtain ⟨ra,ha1⟩:=ha1
       obtain ⟨rb,hb1⟩:=hb1
       rw [ha1,hb1]
       intro e
       have:=List.append_cancel_left e
       injection this with this _
       have hl:=hr1 m2 hm2
       exact less_ne hl this
   exact key _ (h.rises i) fun m hm=>hm
theorem Good.dir_path (h:Good t) {dep:Int→Nat} (hd:∀ e ∈ t,∀ n ∈ e.names,dep e.nd.id+1≤8∧(kindOf t n.2=2→dep n.2=dep e.nd.id+1)):∀ (n:Nat) (e:En),e ∈ t→e.nd.kind=2→dep e.nd.id≤n→∃ r,lF t 0 r=(e.nd.id,0)
 | n,e,he,hk,hn=>by
   by_cases h0:e.nd.id=0
   ·exact ⟨[],by rw [h0];rfl⟩
   ·have h1:=h.linked e he
    rw [h.dirs e he hk,if_neg h0] at h1
    have h2:0<count t e.nd.id:=by omega
    unfold count at h2
    obtain ⟨x,hx,hx2⟩:=List.countP_pos_iff.1 h2
    have hx2:x.2.2=e.nd.id:=by simpa using hx2
    obtain ⟨e2,he2,h3,h4⟩:=flat_mem.1 hx
    have hk2:e2.nd.kind=2:=by
     rcases h.kind he2 with h5|h5
     ·rw [(h.each e2 he2).file h5] at h4;cases h4
     ·exact h5
    obtain ⟨_,h6⟩:=hd e2 he2 _ h4
    have h7:=h6 (by rw [hx2,kO (h.ris.find he)];exact hk)
    rw [hx2] at h7
    cases n with
    | zero=>omega
    | succ n =>
      obtain ⟨r,hr⟩:=h.dir_path hd n e2 he2 hk2 (by omega)
      have:=h.look_on he2 hr hk2 h4
      rw [hx2] at this
      exact ⟨_,this⟩
theorem Good.path_of (h:Good t) {e:En} (he:e ∈ t) (hk:e.nd.kind=2):∃ r,lF t 0 r=(e.nd.id,0):=by
 obtain ⟨dep,_,hd⟩:=h.deep
 exact h.dir_path hd _ e he hk (Nat.le_refl _)
def paths (t:T):List (List Bs × Int):=walk t 64 0 []
theorem Good.paths_mem (h:Good t) (q:List Bs) (k:Int):(q,k) ∈ paths t↔q≠[]∧lF t 0 q=(k,0):=by
 unfold paths
 rw [h.walk_mem]
 constructor
 ·rintro ⟨r,h1,h2,h3,h4⟩
  rw [List.nil_append] at h1
  subst h1
  exact ⟨h2,h4⟩
 ·rintro ⟨h1,h2⟩
  exact ⟨q,rfl,h1,by have:=h.path_le h2;omega,h2⟩
def EndsIn (t:T) (a:List Bs × Int) (x:Int × Nm):Prop:=∃ r,a.1=r++[x.2.1]∧lF t 0 r=(x.1,0)∧a.2=x.2.2∧kindOf t x.1=2
theorem Good.ends_one (h:Good t) (a b:List Bs × Int) (x:Int × Nm) (ha:EndsIn t a x) (hb:EndsIn t b x):a=b:=by
 obtain ⟨r,h1,h2,h3,h4⟩:=ha
 obtain ⟨s,k1,k2,k3,_⟩:=hb
 have:=h.one_path _ r s x.1 (Nat.le_refl _) h2 k2 h4
 subst this
 exact Prod.ext (h1.trans k1.symm) (h3.trans k3.symm)
theorem Good.ends_two (x y:Int × Nm) (a:List Bs × Int) (ha:EndsIn t a x) (hb:EndsIn t a y):x=y:=by
 obtain ⟨r,h1,h2,h3,_⟩:=ha
 obtain ⟨s,k1,k2,k3,_⟩:=hb
 rw [h1] at k1
 have h5:=List.append_inj' k1 rfl
 obtain ⟨rfl,h6⟩:=h5
 injection h6 with h6 _
 rw [h2] at k2
 injection k2 with k2
 exact Prod.ext k2 (Prod.ext h6 (h3.symm.trans k3))
theorem Good.ends_of (h:Good t) {a:List Bs × Int} (ha:a ∈ paths t):∃ x ∈ flat t,EndsIn t a x:=by
 obtain ⟨q,k⟩:=a
 obtain ⟨h1,h2⟩:=(h.paths_mem q k).1 ha
 rcases List.eq_nil_or_concat q with rfl|⟨r,x,rfl⟩
 ·exact absurd rfl h1
 ·rw [List.concat_eq_append] at h2 ⊢
  obtain ⟨e,he,h3,h4,h5⟩:=h.look_back h2
  exact ⟨(e.nd.id,(x,k)),flat_mem.2 ⟨e,he,rfl,h5⟩,r,rfl,h3,rfl,by rw [kO (h.ris.find he)];exact h4⟩
theorem Good.ends_to (h:Good t) {x:Int × Nm} (hx:x ∈ flat t):∃ a ∈ paths t,EndsIn t a x:=by
 obtain ⟨e,he,h1,h2⟩:=flat_mem.1 hx
 have hk:e.nd.kind=2:=by
  rcases h.kind he with h5|h5
  ·rw [(h.each e he).file h5] at h2;cases h2
  ·exact h5
 obtain ⟨r,hr⟩:=h.path_of he hk
 have h3:=h.look_on he hr hk h2
 refine ⟨(r++[x.2.1],x.2.2),(h.paths_mem _ _).2 ⟨by simp,h3⟩,r,rfl,by rw [← h1];exact hr,rfl,by rw [← h1,kO (h.ris.find he)];exact hk⟩
theorem Good.paths_nodup (h:Good t):(paths t).Nodup:=by
 have:=h.walk_nodup 64 0 []
 exact this.imp (S:=fun a b=>a≠b) fun {a b} (hne:a.1≠b.1) (e:a=b)=>hne (congrArg Prod.fst e)
theorem Good.paths_few (h:Good t):(paths t).length≤4194240:=by
 have:=inj_le (EndsIn t) h.ends_one (paths t) (flat t) h.paths_nodup fun a ha=>h.ends_of ha
 have:=h.flat_le
 omega
theorem flat_nodup (h:Good t):(flat t).Nodup:=by
 have key:∀ u:T,Ris u→(∀ e ∈ u,Rise e.names)→(flat u).Nodup:=by
  intro u
  induction u with
  | nil=>intro _ _;exact List.Pairwise.nil
  | cons e u ih =>
    intro hr hn
    obtain ⟨hr1,hr2⟩:=List.pairwise_cons.1 hr
    have:flat (e :: u)=(e.names.map fun n=>(e.nd.id,n))++flat u:=by simp [flat]
    rw [this]
    refine List.pairwise_append.2 ⟨?_,ih hr2 fun m hm=>hn m (.tail _ hm),fun a ha b hb=>?_⟩
    ·rw [List.pairwise_map]
     refine List.Pairwise.imp ?_ (show e.names.Pairwise fun a b=>less a.1 b.1=true from hn e (.head _))
     intro a b hl e9
     have e9:((e.nd.id,a):Int × Nm)=(e.nd.id,b):=e9
     injection e9 with _ e9
     exact less_ne hl (by rw [e9])
    ·obtain ⟨n,_,rfl⟩:=List.mem_map.1 ha
     obtain ⟨e2,he2,h1,_⟩:=flat_mem.1 hb
     intro e9
     have:=hr1 e2 he2
     rw [← e9] at h1
     have h1:e2.nd.id=e.nd.id:=h1
     omega
 exact key t h.ris fun e he=>(h.each e he).rise
def pathsTo (t:T) (i:Int):List (List Bs):=(if i=0 then [[]] else [])++((paths t).filter fun q=>q.2==i).map (·.1)
theorem Good.pathsTo_mem (h:Good t) {i:Int} {q:List Bs}:q ∈ pathsTo t i↔lF t 0 q=(i,0):=by
 unfold pathsTo
 rw [List.mem_append,List.mem_map]
 constructor
 ·rintro (h1|⟨⟨q',k⟩,h1,rfl⟩)
  ·by_cases h0:i=0
   ·rw [if_pos h0,List.mem_singleton] at h1
    subst h1 h0
    rfl
   ·rw [if_neg h0] at h1;cases h1
  ·obtain ⟨h2,h3⟩:=List.mem_filter.1 h1
   have h3:k=i:=by simpa using h3
   subst h3
   exact ((h.paths_mem q' k).1 h2).2
 ·intro h1
  by_cases hq:q=[]
  ·subst hq
   have h2:(0,0)=(i,0):=h1
   injection h2 with h2
   left
   rw [if_pos h2.symm]
   exact .head _
  ·right
   exact ⟨(q,i),List.mem_filter.2 ⟨(h.paths_mem q i).2 ⟨hq,h1⟩,by simp⟩,rfl⟩
theorem Good.pathsTo_length (h:Good t) {e:En} (he:e ∈ t):((pathsTo t e.nd.id).length:Int)=e.nd.links:=by
 have hn1:((paths t).filter fun q=>q.2==e.nd.id).Nodup:=h.paths_nodup.filter _
 have hn2:((flat t).filter fun x=>x.2.2==e.nd.id).Nodup:=(flat_nodup h).filter _
 have h1:=inj_le (EndsIn t) h.ends_one _ ((flat t).filter fun x=>x.2.2==e.nd.id) hn1 fun a ha=>by
  obtain ⟨h2,h3⟩:=List.mem_filter.1 ha
  obtain ⟨x,hx,hr⟩:=h.ends_of h2
  have h3:a.2=e.nd.id:=by simpa using h3
  refine ⟨x,List.mem_filter.2 ⟨hx,?_⟩,hr⟩
  obtain ⟨_,_,_,h4,_⟩:=hr
  simp [← h4,h3]
 have h2:=inj_le (fun x a=>EndsIn t a x) Good.ends_two _ ((paths t).filter fun q=>q.2==e.nd.id) hn2 fun x hx=>by
  obtain ⟨h2,h3⟩:=List.mem_filter.1 hx
  obtain ⟨a,ha,hr⟩:=h.ends_to h2
  have h3:x.2.2=e.nd.id:=by simpa using h3
  refine ⟨a,List.mem_filter.2 ⟨ha,?_⟩,hr⟩
  obtain ⟨_,_,_,h4,_⟩:=hr
  simp [h4,h3]
 have h3:=h.linked e he
 have h4:count t e.nd.id=((flat t).filter fun x=>x.2.2==e.nd.id).length:=List.countP_eq_length_filter
 unfold pathsTo
 rw [List.length_append,List.length_map]
 by_cases h0:e.nd.id=0
 ·rw [if_pos h0] at h3 ⊢
  simp only [List.length_cons,List.length_nil]
  omega
 ·rw [if_neg h0] at h3 ⊢
  simp only [List.length_nil]
  omega
/-! Nodes ahead of a number. -/
def below (t:T) (i:Int):Nat:=t.countP fun e=>decide (e.nd.id<i)
theorem below_zero (h:Good t):below t 0=0:=by
 unfold below
 rw [List.countP_eq_zero]
 intro e he
 have:=(h.each e he).nd.1
 simp
 omega
theorem below_all (h:Good t) {i:Int} (hi:65536≤i):below t i=t.length:=by
 unfold below
 rw [List.countP_eq_length]
 intro e he
 have:=(h.each e he).nd.2.1
 simp
 omega
theorem below_le (t:T) (i:Int):below t i≤t.length:=List.countP_le_length
theorem below_next (h:Good t) (i:Int):below t (i+1)=below t i+(if (find t i).isSome then 1 else 0):=by
 have key:∀ u:T,Ris u→below u (i+1)=below u i+(if (find u i).isSome then 1 else 0):=by
  intro u
  induction u with
  | nil=>intro _;rfl
  | cons e u ih =>
    intro hr
    obtain ⟨hr1,hr2⟩:=List.pairwise_cons.1 hr
    have h1:=ih hr2
    unfold below at h1 ⊢
    rw [List.countP_cons,List.countP_cons,find_cons]
    by_cases he:e.nd.id=i
    ·have hno:find u i=none:=find_none.2 fun m hm=>by have:=hr1 m hm;omega
     rw [hno] at h1
     rw [if_pos he]
     have h3:decide (e.nd.id<i+1)=true:=by simp;omega
     have h4:decide (e.nd.id<i)=false:=by simp;omega
     rw [h3,h4]
     simp only [Option.isSome_some,Option.isSome_none,if_true,Bool.false_eq_true,if_false,Nat.add_zero] at h1 ⊢
     rw [h1]
    ·rw [if_neg he]
     have h2:(decide (e.nd.id<i+1))=decide (e.nd.id<i):=by
      by_cases h3:e.nd.id<i
      ·simp [h3];omega
      ·simp [h3];omega
     rw [h2]
     omega
 exact key t h.ris
end Tr
end Go.Proofs.YtjoedamiilgajaaGreat
namespace Go.Proofs.YtjoedamiilgajaaGreat
open Go.RowKit
namespace Tr
variable {t:T}
theorem look_dir {i j:Int} {q:List Bs} (h:lF t i q=(j,0)) (hk:kindOf t j=2):kindOf t i=2:=by
 cases q with
 | nil =>
   have:i=j:=congrArg Prod.fst (show (i,0)=(j,0) from h)
   rw [this];exact hk
 | cons x q =>
   rw [lookF_cons] at h
   split at h
   ·cases h
   ·rename_i h1
    exact Decidable.byContradiction h1
theorem moved_mem {d0 d i:Int} {x0 x:Bs} {e:En} (h:e ∈ put (cut t d0 x0) d x i):∃ e0 ∈ t,e.nd=e0.nd∧∀ n ∈ e.names,(n=(x,i)∧e0.nd.id=d)∨(n ∈ e0.names∧¬ (e0.nd.id=d0∧n.1=x0)):=by
 obtain ⟨e1,he1,h1⟩:=upd_mem h
 obtain ⟨e0,he0,h2⟩:=upd_mem he1
 have h0:e1.nd=e0.nd∧∀ n ∈ e1.names,n ∈ e0.names∧¬ (e0.nd.id=d0∧n.1=x0):=by
  by_cases h3:e0.nd.id=d0
  ·rw [if_pos h3] at h2
   subst h2
   refine ⟨rfl,fun n hn=>?_⟩
   have h4:=List.mem_filter.1 hn
   refine ⟨h4.1,fun h5=>?_⟩
   have:=h4.2
   simp [h5.2] at this
  ·rw [if_neg h3] at h2
   subst h2
   exact ⟨rfl,fun n hn=>⟨hn,fun h5=>h3 h5.1⟩⟩
 refine ⟨e0,he0,?_⟩
 by_cases h3:e1.nd.id=d
 ·rw [if_pos h3] at h1
  subst h1
  refine ⟨h0.1,fun n hn=>?_⟩
  rcases ins_mem.1 hn with h4|h4
  ·exact .inl ⟨h4,by rw [← h0.1];exact h3⟩
  ·exact .inr (h0.2 n h4)
 ·rw [if_neg h3] at h1
  subst h1
  exact ⟨h0.1,fun n hn=>.inr (h0.2 n hn)⟩
open Classical in
theorem rename_good (h:Good t) (q r:List Bs):Good (rename t q r).2:=by
 unfold rename
 split
 ·exact h
 split
 ·exact h
 rename_i hfr
 split
 ·exact h
 rename_i hl0
 split
 ·exact h
 rename_i hq0
 split
 ·exact h
 rename_i hp0
 split
 ·exact h
 rename_i hwi
 split
 ·exact h
 split
 ·exact h
 rename_i hno
 split
 ·exact h
 rename_i h8
 have hl:(lF t 0 q).2=0:=Decidable.byContradiction hl0
 have hp:(place t r).2.2=0:=Decidable.byContradiction hp0
 have hfo:=formed_ok (show formed r=0 from Decidable.byContradiction hfr)
 obtain ⟨i,hi⟩:∃ i,i=(lF t 0 q).1:=⟨_,rfl⟩
 have hlk:lF t 0 q=(i,0):=Prod.ext hi.symm hl
 obtain ⟨q1,x0,d0,en0,hqe,hlr0,hfd0,hkd0,hg0,hpl0⟩:=h.looked hlk hq0
 obtain ⟨r1,x,en,d,hre,hlr,hpl,hfd,hkd,hid⟩:=h.placed hp
 rw [hpl] at hno
 rw [← hi] at h8 hwi ⊢
 rw [hpl0,hpl]
 simp only at hno ⊢
 rw [kids_of hfd] at hno
 have hgn:get en.names x=none:=get_no hno
 obtain ⟨hm0,hid0⟩:=find_some hfd0
 obtain ⟨hi0,hsi⟩:=h.leads en0 hm0 _ (get_mem hg0)
 simp only at hi0 hsi
 have pre1:=h.cut hfd0 hg0
 have hf':∃ en',find (cut t d0 x0) d=some en'∧en'.nd.kind=2∧get en'.names x=none:=by
  unfold cut
  rw [find_upd (cut_id x0),hfd]
  refine ⟨_,rfl,?_,?_⟩
  ·dsimp only
   split <;> exact hkd
  ·dsimp only
   split
   ·show get (del en.names x0) x=none
    rw [get_del]
    split
    ·rfl
    ·exact hgn
   ·exact hgn
 obtain ⟨en',hf1,hk1,hg1⟩:=hf'
 have hxg:Pa.good x=true:=hfo.2 x (by rw [hre];simp)
 have hs1:(find (cut t d0 x0) i).isSome=true:=by unfold cut;rw [some_upd (cut_id x0)];exact hsi
 have pre2:=pre1.put hf1 hk1 hxg hg1 hi0 hs1
 have hkinds:∀ j,kindOf (put (cut t d0 x0) d x i) j=kindOf t j:=fun j=>by
  unfold put cut
  rw [kindOf_upd (put_id x i) (fun _=>rfl),kindOf_upd (cut_id x0) (fun _=>rfl)]
 obtain ⟨dep,hd0,hd⟩:=h.deep
 have hkd2:kindOf t d=2:=by rw [kO hfd];exact hkd
 obtain ⟨hd8,hdr⟩:=h.place_dep ⟨hd0,hd⟩ hre hlr hkd2 hfo.1
 have hrlen:r.length=r1.length+1:=by rw [hre,List.length_append];rfl
 have hnr:¬ Reach t i d:=by
  rintro ⟨q2,h1,h2⟩
  have h3:lF t 0 (q++q2)=(d,0):=by rw [lookF_app,hlk,if_neg (by simp)];exact h1
  have h4:=h.one_path r1.length r1 (q++q2) d (Nat.le_refl _) hlr h3 h2
  refine hwi ⟨look_dir h1 h2,?_⟩
  unfold within
  rw [List.isPrefixOf_iff_prefix,hre,h4,List.append_assoc]
  exact List.prefix_append _ _
 have hn0:¬ Reach t i 0:=by
  rintro ⟨q2,h1,h2⟩
  rcases List.eq_nil_or_concat q2 with rfl|⟨q3,y,rfl⟩
  ·exact hi0 (congrArg Prod.fst (show (i,0)=((0:Int),0) from h1))
  ·rw [List.concat_eq_append] at h1
   obtain ⟨e,he,_,_,hm⟩:=h.look_back h1
   exact (h.leads e he _ hm).1 rfl
 obtain ⟨dep',hin,hout⟩:∃ dep':Int→Nat,(∀ j,Reach t i j→dep' j=dep j-dep i+dep d+1)∧(∀ j,¬ Reach t i j→dep' j=dep j):=⟨fun j=>if Reach t i j then dep j-dep i+dep d+1 else dep j,fun j h=>if_pos h,fun j h=>if_neg h⟩
 refine pre2.good (dep:=dep') ⟨by rw [hout 0 hn0];exact hd0,fun e he n hn=>?_⟩ fun e he hei=>?_
 ·obtain ⟨e0,he0,hnd,hnm⟩:=moved_mem he
  rw [hnd,hkinds]
  rcases hnm n hn with ⟨rfl,h1⟩|⟨h1,h2⟩
  ·rw [h1,hout d hnr]
   refine ⟨hd8,fun h3=>?_⟩
   rw [hin i ⟨[],rfl,h3⟩]
   omega
  ·obtain ⟨h3,h4⟩:=hd e0 he0 n h1
   by_cases hr:Reach t i e0.nd.id
   ·obtain ⟨q2,hq2,hk2⟩:=hr
    have hki:=look_dir hq2 hk2
    have h5:=h.look_dep ⟨hd0,hd⟩ q2 i hki (by rw [hq2]) (by rw [hq2];exact hk2)
    rw [hq2] at h5
    simp only at h5
    have h6:=h.look_on he0 hq2 (by rw [← kO (h.ris.find he0)];exact hk2) h1
    have h7:=look_high t 64 _ i n.2 h6 (by rw [List.length_append];show _+1≤_;omega)
    rw [List.length_append] at h7
    have h9:q2.length+1≤high t 64 i:=h7
    rw [hin e0.nd.id ⟨q2,hq2,hk2⟩]
    refine ⟨by omega,fun hkn=>?_⟩
    rw [hin n.2 (h.reach_on he0 ⟨q2,hq2,hk2⟩ h1 hkn)]
    have:=h4 hkn
    omega
   ·rw [hout _ hr]
    refine ⟨h3,fun hkn=>?_⟩
    rw [hout n.2 fun hrn=>?_]
    ·exact h4 hkn
    ·rcases h.reach_back he0 h1 hrn with h5|h5
     ·obtain ⟨h6,h7⟩:=h.one_name (by rw [← h5];exact hkn) he0 hm0 h1 (get_mem hg0) h5 rfl
      exact h2 ⟨by rw [h6];exact hid0,by rw [h7]⟩
     ·exact hr h5
 ·obtain ⟨e0,he0,hnd,_⟩:=moved_mem he
  rw [hnd] at hei ⊢
  have h1:count (put (cut t d0 x0) d x i) i=count (cut t d0 x0) i+1:=by
   rw [count_put pre1.rise hf1,if_pos rfl]
  have h2:count t i=count (cut t d0 x0) i+1:=by
   rw [count_cut h.ris hfd0 (h.each en0 hm0).rise hg0 i,if_pos rfl]
  refine ⟨?_,h.dirs e0 he0,h.shut e0 he0⟩
  have h3:=h.linked e0 he0
  rw [hei] at h3 ⊢
  rw [h1,← h2]
  exact h3
end Tr
end Go.Proofs.YtjoedamiilgajaaGreat
namespace Go.Proofs.YtjoedamiilgajaaGreat
open Go.RowKit
namespace Tr
variable {t:T}
structure Half (t:T):Prop where
 root:∃ r rest,t=r :: rest∧r.nd.id=0∧r.nd.kind=2
 rise:t.Pairwise fun a b=>a.nd.id<b.nd.id
 few:t.length≤64
 each:∀ e ∈ t,EnOk e
 leads:∀ e ∈ t,∀ n ∈ e.names,n.2≠0∧(find t n.2).isSome=true
 linked:∀ e ∈ t,(count t e.nd.id:Int)+(if e.nd.id=0 then 1 else 0)=e.nd.links
 dirs:∀ e ∈ t,e.nd.kind=2→e.nd.links=1
 shut:∀ e ∈ t,e.nd.shut=true→e.nd.links≠0
theorem Good.half (h:Good t):Half t:=⟨h.root,h.rise,h.few,h.each,h.leads,h.linked,h.dirs,h.shut⟩
theorem Half.ris (h:Half t):Ris t:=h.rise
theorem Half.zero (h:Half t):∃ r,find t 0=some r∧r.nd.kind=2∧r.nd.id=0:=by
 obtain ⟨r,rest,rfl,h1,h2⟩:=h.root
 exact ⟨r,by rw [find_cons,if_pos h1],h2,h1⟩
theorem Half.kind (h:Half t) {e:En} (he:e ∈ t):e.nd.kind=1∨e.nd.kind=2:=by
 have:=(h.each e he).nd
 exact this.2.2.2.2.2.2.2.imp id fun k=>k.1
theorem Half.has (h:Half t) {i:Int} (hk:kindOf t i=2):∃ e,find t i=some e:=by
 cases hf:find t i with
 | none=>rw [kindOf_no hf] at hk;omega
 | some e=>exact ⟨e,rfl⟩
theorem Half.rises (h:Half t) (i:Int):Rise (kids t i):=by
 cases hf:find t i with
 | none=>rw [kids_no hf];exact List.Pairwise.nil
 | some e=>rw [kids_of hf];exact (h.each e (find_some hf).1).rise
theorem Half.file_kids (h:Half t) {i:Int} (hk:kindOf t i≠2):kids t i=[]:=by
 cases hf:find t i with
 | none=>exact kids_no hf
 | some e =>
   rw [kids_of hf]
   rw [kO hf] at hk
   refine (h.each e (find_some hf).1).file ?_
   rcases h.kind (find_some hf).1 with h1|h1
   ·exact h1
   ·exact absurd h1 hk
theorem Half.flat_le (h:Half t):(flat t).length≤4194240:=by
 have h1:=countP_sum (fun x:Int × Nm=>x.2.2) (t.map fun e=>e.nd.id) (flat t) fun x hx=>by
  obtain ⟨e,he,_,h2⟩:=flat_mem.1 hx
  obtain ⟨_,h3⟩:=h.leads e he x.2 h2
  obtain ⟨e',h4,h5⟩:=find_isSome.1 h3
  exact List.mem_map.2 ⟨e',h4,h5⟩
 have h2:((t.map fun e=>e.nd.id).map fun i=>(flat t).countP fun x=>x.2.2==i).sum≤t.length*65535:=by
  have key:∀ u:T,(∀ e ∈ u,e ∈ t)→((u.map fun e=>e.nd.id).map fun i=>(flat t).countP fun x=>x.2.2==i).sum≤u.length*65535:=by
   intro u
   induction u with
   | nil=>intro _;simp
   | cons e u ih =>
     intro hu
     have h3:=ih fun m hm=>hu m (.tail _ hm)
     have he:=hu e (.head _)
     have h4:=h.linked e he
     have h5:=(h.each e he).nd.2.2.2.1
     unfold count at h4
     have h6:(flat t).countP (fun x=>x.2.2==e.nd.id)≤65535:=by
      split at h4 <;> omega
     simp only [List.map_cons,List.sum_cons,List.length_cons] at h3 ⊢
     omega
  exact key t fun e he=>he
 have:=h.few
 omega
theorem Half.names_le (h:Half t) {e:En} (he:e ∈ t):e.names.length≤4194240:=Nat.le_trans (names_le_flat he) h.flat_le
theorem Half.one_name (h:Half t) {j:Int} (hk:kindOf t j=2) {e e':En} (he:e ∈ t) (he':e' ∈ t) {n n':Nm} (hn:n ∈ e.names) (hn':n' ∈ e'.names) (h1:n.2=j) (h2:n'.2=j):e=e'∧n=n':=by
 have key:(e.nd.id,n)=(e'.nd.id,n'):=by
  refine Decidable.byContradiction fun hne=>?_
  have hc:2≤count t j:=count_two (flat_mem.2 ⟨e,he,rfl,hn⟩) (flat_mem.2 ⟨e',he',rfl,hn'⟩) hne (by simp [h1]) (by simp [h2])
  obtain ⟨ej,hej⟩:=h.has hk
  obtain ⟨hm,hid⟩:=find_some hej
  have h3:=h.linked ej hm
  have h4:=h.dirs ej hm (by rw [← kO hej];exact hk)
  have h5:=(h.leads e he n hn).1
  rw [hid,if_neg (by rw [← h1];exact h5),h4] at h3
  omega
 obtain ⟨h3,h4⟩:=Prod.mk.inj key
 refine ⟨?_,h4⟩
 have:=h.ris.find he
 rw [h3,h.ris.find he'] at this
 injection this with this
 exact this.symm
theorem Half.look_on (h:Half t) {i:Int} {q:List Bs} {e:En} (he:e ∈ t) (hl:lF t i q=(e.nd.id,0)) (hk:e.nd.kind=2) {n:Nm} (hn:n ∈ e.names):lF t i (q++[n.1])=(n.2,0):=by
 have hf:=h.ris.find he
 rw [lookF_app,hl,if_neg (by simp),lookF_cons,kO hf,if_neg (by simp [hk]),kids_of hf,get_of_mem (h.each e he).rise hn]
 rfl
theorem Half.look_back (h:Half t) {i j:Int} {q:List Bs} {x:Bs} (hl:lF t i (q++[x])=(j,0)):∃ e ∈ t,lF t i q=(e.nd.id,0)∧e.nd.kind=2∧(x,j) ∈ e.names:=by
 rw [lookF_app] at hl
 split at hl
 ·rename_i h2
  rw [hl] at h2
  exact absurd rfl h2
 ·rename_i h2
  have h3:(lF t i q).2=0:=Decidable.byContradiction h2
  obtain ⟨d,hd⟩:∃ d,d=(lF t i q).1:=⟨_,rfl⟩
  rw [← hd,lookF_cons] at hl
  split at hl
  ·cases hl
  ·rename_i h4
   have hk:kindOf t d=2:=Decidable.byContradiction h4
   obtain ⟨en,hen⟩:=h.has hk
   rw [kids_of hen] at hl
   cases hg:get en.names x with
   | none=>rw [hg] at hl;cases hl
   | some k =>
     rw [hg] at hl
     have hkj:k=j:=congrArg Prod.fst (show (k,0)=(j,0) from hl)
     refine ⟨en,(find_some hen).1,Prod.ext ?_ h3,by rw [← kO hen];exact hk,hkj ▸ get_mem hg⟩
     rw [(find_some hen).2,hd]
theorem Half.one_path (h:Half t):∀ (n:Nat) (a b:List Bs) (j:Int),a.length≤n→lF t 0 a=(j,0)→lF t 0 b=(j,0)→kindOf t j=2→a=b
 | n,a,b,j,hn,ha,hb,hk=>by
   have zero:∀ (q:List Bs) (x:Bs),lF t 0 (q++[x])=(0,0)→False:=fun q x hq=>by
    obtain ⟨e,he,_,_,hm⟩:=h.look_back hq
    exact (h.leads e he _ hm).1 rfl
   rcases List.eq_nil_or_concat a with rfl|⟨a1,x,rfl⟩
   ·have hj:(0:Int)=j:=congrArg Prod.fst (show ((0:Int),0)=(j,0) from ha)
    subst hj
    rcases List.eq_nil_or_concat b with rfl|⟨b1,y,rfl⟩
    ·rfl
    ·rw [List.concat_eq_append] at hb
     exact (zero _ _ hb).elim
   ·rw [List.concat_eq_append] at ha hn ⊢
    rcases List.eq_nil_or_concat b with rfl|⟨b1,y,rfl⟩
    ·have hj:(0:Int)=j:=congrArg Prod.fst (show ((0:Int),0)=(j,0) from hb)
     subst hj
     exact (zero _ _ ha).elim
    ·rw [List.concat_eq_append] at hb ⊢
     obtain ⟨e,he,h1,h2,h3⟩:=h.look_back ha
     obtain ⟨e',he',h4,h5,h6⟩:=h.look_back hb
     obtain ⟨rfl,h7⟩:=h.one_name hk he he' h3 h6 rfl rfl
     obtain ⟨rfl,_⟩:=Prod.mk.inj h7
     rw [List.length_append] at hn
     have:a1.length<n:=Nat.lt_of_lt_of_le (Nat.lt_succ_self _) hn
     rw [h.one_path (n-1) a1 b1 e.nd.id (by omega) h1 h4 (by rw [kO (h.ris.find he)];exact h2)]
termination_by n=>n
decreasing_by omega
theorem Half.walk_mem (h:Half t):∀ (n:Nat) (i:Int) (p q:List Bs) (k:Int),(q,k) ∈ walk t n i p↔∃ r,q=p++r∧r≠[]∧r.length≤n∧lF t i r=(k,0)
 | 0,i,p,q,k=>by
   constructor
   ·intro h1;cases h1
   ·rintro ⟨r,_,h1,h2,_⟩
    exact absurd (List.eq_nil_of_length_eq_zero (by omega)) h1
 | n+1,i,p,q,k=>by
   show (q,k) ∈ (kids t i).flatMap _↔_
   rw [List.mem_flatMap]
   constructor
   ·rintro ⟨⟨x,m⟩,hm,h1⟩
    obtain ⟨en,hen,hmem⟩:=kids_mem hm
    have hk2:kindOf t i=2:=Decidable.byContradiction fun hne=>by rw [h.file_kids hne] at hm;cases hm
    have hstep:∀ r,lF t i (x :: r)=lF t m r:=fun r=>by
     rw [lookF_cons,if_neg (by simp [hk2]),get_of_mem (h.rises i) hm]
    rcases List.mem_cons.1 h1 with h1|h1
    ·injection h1 with h2 h3
     subst h2 h3
     exact ⟨[x],rfl,by simp,by simp,by rw [hstep];rfl⟩
    ·obtain ⟨r,h2,h3,h4,h5⟩:=(h.walk_mem n m (p++[x]) q k).1 h1
     exact ⟨x :: r,by rw [h2];simp,by simp,by simp;omega,by rw [hstep];exact h5⟩
   ·rintro ⟨r,h2,h3,h4,h5⟩
    cases r with
    | nil=>exact absurd rfl h3
    | cons x r =>
      rw [lookF_cons] at h5
      split at h5
      ·cases h5
      ·cases hg:get (kids t i) x with
       | none=>rw [hg] at h5;cases h5
       | some m =>
         rw [hg] at h5
         replace h5:lF t m r=(k,0):=h5
         refine ⟨(x,m),get_mem hg,?_⟩
         by_cases hr:r=[]
         ·subst hr
          have h6:(m,0)=(k,0):=h5
          injection h6 with h6
          subst h6 h2
          exact .head _
         ·refine .tail _ ((h.walk_mem n m (p++[x]) q k).2 ⟨r,by rw [h2];simp,hr,by simp at h4;omega,h5⟩)
theorem Half.walk_nodup (h:Half t):∀ (n:Nat) (i:Int) (p:List Bs),(walk t n i p).Pairwise fun a b=>a.1≠b.1
 | 0,_,_=>List.Pairwise.nil
 | n+1,i,p=>by
   show ((kids t i).flatMap _).Pairwise _
   have key:∀ l:List Nm,Rise l→(∀ m ∈ l,m ∈ kids t i)→(l.flatMap fun k=>(p++[k.1],k.2) :: walk t n k.2 (p++[k.1])).Pairwise fun a b=>a.1≠b.1:=by
    intro l
    induction l with
    | nil=>intro _ _;exact List.Pairwise.nil
    | cons m l ih =>
      intro hr hm
      obtain ⟨hr1,hr2⟩:=List.pairwise_cons.1 hr
      rw [List.flatMap_cons,List.pairwise_append]
      refine ⟨List.pairwise_cons.2 ⟨fun b hb=>?_,h.walk_nodup n m.2 _⟩,ih hr2 fun x hx=>hm x (.tail _ hx),fun a ha b hb=>?_⟩
      ·obtain ⟨r,h2,h3,_⟩:=(h.walk_mem n m.2 (p++[m.1]) b.1 b.2).1 hb
       show p++[m.1]≠b.1
       rw [h2]
       intro e
       have:=congrArg List.length e
       simp only [List.length_append] at this
       exact h3 (List.eq_nil_of_length_eq_zero (by omega))
      ·have ha1:∃ r,a.1=p++(m.1 :: r):=by
        rcases List.mem_cons.1 ha with ha|ha
        ·exact ⟨[],by rw [ha]⟩
        ·obtain ⟨r,h2,_⟩:=(h.walk_mem n m.2 (p++[m.1]) a.1 a.2).1 ha
         exact ⟨r,by rw [h2];simp⟩
       obtain ⟨m2,hm2,hb⟩:=List.mem_flatMap.1 hb
       have hb1:∃ r,b.1=p++(m2.1 :: r):=by
        rcases List.mem_cons.1 hb with hb|hb
        ·exact ⟨[],by rw [hb]⟩
        ·obtain ⟨r,h2,_⟩:=(h.walk_mem n m2.2 (p++[m2.1]) b.1 b.2).1 hb
         exact ⟨r,by rw [h2];simp⟩
       obtain ⟨ra,ha1⟩:=ha1
       obtain ⟨rb,hb1⟩:=hb1
       rw [ha1,hb1]
       intro e
       have:=List.append_cancel_left e
       injection this with this _
       have hl:=hr1 m2 hm2
       exact less_ne hl this
   exact key _ (h.rises i) fun m hm=>hm
theorem Half.ends_one (h:Half t) (a b:List Bs × Int) (x:Int × Nm) (ha:EndsIn t a x) (hb:EndsIn t b x):a=b:=by
 obtain ⟨r,h1,h2,h3,h4⟩:=ha
 obtain ⟨s,k1,k2,k3,_⟩:=hb
 have:=h.one_path _ r s x.1 (Nat.le_refl _) h2 k2 h4
 subst this
 exact Prod.ext (h1.trans k1.symm) (h3.trans k3.symm)
theorem Half.paths_nodup (h:Half t):(paths t).Nodup:=by
 have:=h.walk_nodup 64 0 []
 exact this.imp (S:=fun a b=>a≠b) fun {a b} (hne:a.1≠b.1) (e:a=b)=>hne (congrArg Prod.fst e)
end Tr
end Go.Proofs.YtjoedamiilgajaaGreat
namespace Go.Proofs.YtjoedamiilgajaaGreat
open Go.RowKit
namespace Tr
variable {t:T}
theorem all_in {α:Type} [DecidableEq α] {l m:List α} (hn:l.Nodup) (hs:∀ x ∈ l,x ∈ m) (hl:m.length≤l.length):∀ y ∈ m,y ∈ l:=fun y hy=>by
 by_cases h:y ∈ l
 ·exact h
 ·exfalso
  have h1:=inj_le (fun a b:α=>a=b) (fun x x' y h1 h2=>h1.trans h2.symm) l (m.erase y) hn fun x hx=>⟨x,(List.mem_erase_of_ne fun e=>h (by rw [← e];exact hx)).2 (hs x hx),rfl⟩
  rw [List.length_erase_of_mem hy] at h1
  have h2:0<m.length:=List.length_pos_of_mem hy
  omega
def dirCount (t:T):Nat:=t.countP fun e=>e.nd.kind==2
def found (t:T):Nat:=1+(paths t).countP fun q=>kindOf t q.2==2
def most (l:List (List Bs × Int)) (m:Nat):Nat:=l.foldl (fun k q=>max k q.1.length) m
theorem most_le:∀ (l:List (List Bs × Int)) (m:Nat),m≤most l m∧∀ q ∈ l,q.1.length≤most l m
 | [],m=>⟨Nat.le_refl _,fun _ h=>by cases h⟩
 | q :: l,m=>by
   obtain ⟨h1,h2⟩:=most_le l (max m q.1.length)
   refine ⟨Nat.le_trans (Nat.le_max_left _ _) h1,fun x hx=>?_⟩
   rcases List.mem_cons.1 hx with rfl|hx
   ·exact Nat.le_trans (Nat.le_max_right _ _) h1
   ·exact h2 x hx
theorem most_bound:∀ (l:List (List Bs × Int)) (m b:Nat),m≤b→(∀ q ∈ l,q.1.length≤b)→most l m≤b
 | [],_,_,h,_=>h
 | q :: l,m,b,h,hq=>most_bound l _ b (Nat.max_le.2 ⟨h,hq q (.head _)⟩) fun x hx=>hq x (.tail _ hx)
def dirIds (t:T):List Int:=(t.filter fun e=>e.nd.kind==2).map (·.nd.id)
def foundIds (t:T):List Int:=0 :: ((paths t).filter fun q=>kindOf t q.2==2).map (·.2)
theorem dirIds_length (t:T):(dirIds t).length=dirCount t:=by
 unfold dirIds dirCount
 rw [List.length_map,List.countP_eq_length_filter]
theorem foundIds_length (t:T):(foundIds t).length=found t:=by
 unfold foundIds found
 rw [List.length_cons,List.length_map,List.countP_eq_length_filter]
 omega
theorem Half.no_root (h:Half t) {q:List Bs} (hq:q≠[]) (hl:lF t 0 q=(0,0)):False:=by
 rcases List.eq_nil_or_concat q with rfl|⟨r,x,rfl⟩
 ·exact hq rfl
 ·rw [List.concat_eq_append] at hl
  obtain ⟨e,he,_,_,h3⟩:=h.look_back hl
  exact (h.leads e he _ h3).1 rfl
theorem Half.foundIds_nodup (h:Half t):(foundIds t).Nodup:=by
 unfold foundIds
 rw [List.nodup_cons]
 have hp:∀ q ∈ paths t,q.1≠[]∧lF t 0 q.1=(q.2,0):=fun q hq=>by
  obtain ⟨r,h1,h2,_,h4⟩:=(h.walk_mem 64 0 [] q.1 q.2).1 hq
  rw [List.nil_append] at h1
  rw [h1]
  exact ⟨h2,h4⟩
 constructor
 ·intro h0
  obtain ⟨q,hq,h1⟩:=List.mem_map.1 h0
  obtain ⟨h2,h3⟩:=hp q (List.mem_filter.1 hq).1
  rw [h1] at h3
  exact h.no_root h2 h3
 ·rw [List.Nodup,List.pairwise_map]
  have hw:=(h.walk_nodup 64 0 []).filter fun q=>kindOf t q.2==2
  refine List.Pairwise.imp_of_mem ?_ hw
  intro a b ha hb hne e
  obtain ⟨ha1,ha2⟩:=List.mem_filter.1 ha
  obtain ⟨hb1,hb2⟩:=List.mem_filter.1 hb
  have ka:kindOf t a.2=2:=by simpa using ha2
  have e1:=(hp a ha1).2
  have e2:=(hp b hb1).2
  rw [← e] at e2
  exact hne (h.one_path _ a.1 b.1 a.2 (Nat.le_refl _) e1 e2 ka)
theorem Half.dirIds_nodup (h:Half t):(dirIds t).Nodup:=by
 unfold dirIds
 rw [List.Nodup,List.pairwise_map]
 exact (List.Pairwise.filter _ h.rise).imp fun {a b} (hl:a.nd.id<b.nd.id)=>by omega
theorem Half.found_dirs (h:Half t):∀ x ∈ foundIds t,x ∈ dirIds t:=fun x hx=>by
 have key:kindOf t x=2→x ∈ dirIds t:=fun hk=>by
  obtain ⟨e,he⟩:=h.has hk
  obtain ⟨h1,h2⟩:=find_some he
  rw [kO he] at hk
  exact List.mem_map.2 ⟨e,List.mem_filter.2 ⟨h1,by simp [hk]⟩,h2⟩
 unfold foundIds at hx
 rcases List.mem_cons.1 hx with rfl|hx
 ·obtain ⟨r,h1,h2,_⟩:=h.zero
  exact key (by rw [kO h1,h2])
 ·obtain ⟨q,hq,rfl⟩:=List.mem_map.1 hx
  exact key (by simpa using (List.mem_filter.1 hq).2)
open Classical in
theorem Half.good (h:Half t) (hf:found t=dirCount t) (h8:most (paths t) 0≤8):Good t:=by
 have hall:=all_in h.foundIds_nodup h.found_dirs (by rw [dirIds_length,foundIds_length];omega)
 have hlen:∀ q ∈ paths t,q.1.length≤8:=fun q hq=>Nat.le_trans ((most_le (paths t) 0).2 q hq) h8
 have hpath:∀ e ∈ t,e.nd.kind=2→∃ q,lF t 0 q=(e.nd.id,0)∧q.length≤8:=fun e he hk=>by
  have h1:=hall e.nd.id (List.mem_map.2 ⟨e,List.mem_filter.2 ⟨he,by simp [hk]⟩,rfl⟩)
  unfold foundIds at h1
  rcases List.mem_cons.1 h1 with h1|h1
  ·exact ⟨[],by rw [h1];rfl,Nat.zero_le _⟩
  ·obtain ⟨q,hq,h2⟩:=List.mem_map.1 h1
   have hq1:=(List.mem_filter.1 hq).1
   obtain ⟨r,h3,_,_,h4⟩:=(h.walk_mem 64 0 [] q.1 q.2).1 hq1
   rw [List.nil_append] at h3
   refine ⟨q.1,?_,hlen q hq1⟩
   rw [h3,h4,h2]
 obtain ⟨dep,hdep⟩:∃ dep:Int→Nat,∀ q d,lF t 0 q=(d,0)→kindOf t d=2→dep d=q.length:=by
  refine ⟨fun d=>if hx:∃ q,lF t 0 q=(d,0) then hx.choose.length else 0,fun q d hq hk=>?_⟩
  have hx:∃ q,lF t 0 q=(d,0):=⟨q,hq⟩
  simp only [dif_pos hx]
  exact congrArg List.length (h.one_path _ _ q d (Nat.le_refl _) hx.choose_spec hq hk)
 refine ⟨h.root,h.rise,h.few,h.each,h.leads,h.linked,h.dirs,h.shut,dep,?_,fun e he n hn=>?_⟩
 ·obtain ⟨r,h1,h2,_⟩:=h.zero
  exact hdep [] 0 rfl (by rw [kO h1,h2])
 ·have hk:e.nd.kind=2:=by
   rcases h.kind he with h5|h5
   ·rw [(h.each e he).file h5] at hn;cases hn
   ·exact h5
  obtain ⟨q,hq,hq8⟩:=hpath e he hk
  have hke:kindOf t e.nd.id=2:=by rw [kO (h.ris.find he)];exact hk
  have hon:=h.look_on he hq hk hn
  have hin:(q++[n.1],n.2) ∈ paths t:=(h.walk_mem 64 0 [] _ _).2 ⟨q++[n.1],rfl,by simp,by simp;omega,hon⟩
  have hl:=hlen _ hin
  rw [List.length_append] at hl
  rw [hdep q _ hq hke]
  refine ⟨hl,fun hkn=>?_⟩
  rw [hdep _ _ hon hkn,List.length_append]
  rfl
theorem Good.joined (h:Good t):found t=dirCount t∧most (paths t) 0≤8:=by
 refine ⟨?_,most_bound _ _ _ (Nat.zero_le _) fun q hq=>?_⟩
 ·have h1:=inj_le (fun a b:Int=>a=b) (fun x x' y h1 h2=>h1.trans h2.symm) (foundIds t) (dirIds t) h.half.foundIds_nodup fun x hx=>⟨x,h.half.found_dirs x hx,rfl⟩
  have h2:=inj_le (fun a b:Int=>a=b) (fun x x' y h1 h2=>h1.trans h2.symm) (dirIds t) (foundIds t) h.half.dirIds_nodup fun x hx=>⟨x,?_,rfl⟩
  ·rw [dirIds_length,foundIds_length] at h1 h2
   omega
  ·obtain ⟨e,he,rfl⟩:=List.mem_map.1 hx
   obtain ⟨he1,he2⟩:=List.mem_filter.1 he
   have hk:e.nd.kind=2:=by simpa using he2
   unfold foundIds
   by_cases h0:e.nd.id=0
   ·rw [h0];exact .head _
   ·refine .tail _ ?_
    obtain ⟨q,hq⟩:=h.path_of he1 hk
    have hne:q≠[]:=by
     rintro rfl
     injection (show ((0:Int),0)=(e.nd.id,0) from hq) with h1
     exact h0 h1.symm
    exact List.mem_map.2 ⟨(q,e.nd.id),List.mem_filter.2 ⟨(h.paths_mem q e.nd.id).2 ⟨hne,hq⟩,by simp [kO (h.ris.find he1),hk]⟩,rfl⟩
 ·exact h.path_le ((h.paths_mem q.1 q.2).1 hq).2
end Tr
end Go.Proofs.YtjoedamiilgajaaGreat

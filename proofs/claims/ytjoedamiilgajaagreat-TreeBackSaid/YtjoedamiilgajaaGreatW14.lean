/-
  OWN WORK. TwPair, TwArgs, PtWithin, TrNames, BaCut, TrReach, TrRenG, TwShort
-/
import Derived.Test.YtjoedamiilgajaaGreatW09
import Derived.Test.YtjoedamiilgajaaGreatW10
import Derived.Test.YtjoedamiilgajaaGreatW11
import Derived.Test.YtjoedamiilgajaaGreatW13
import Derived.Test.YtjoedamiilgajaaGreatW01
import Derived.Test.YtjoedamiilgajaaGreatW03
import Derived.Test.YtjoedamiilgajaaGreatW06
namespace Go.Proofs.YtjoedamiilgajaaGreat
open Go.RowKit Rc
open Tr (Nm En T)
namespace Tw
theorem rds_stay {w w':World} {A:Option Addr} {l:List Bs} (h:RdS w A l) (hs:w.heap.size≤w'.heap.size) (hb:0<l.length→∀ k,A.map (·.block)=some k→w'.heap[k]?=w.heap[k]?):RdS w' A l:=fun hl=>by
 obtain ⟨b,off,rfl,hlt,hc⟩:=h hl
 exact ⟨b,off,rfl,Nat.lt_of_lt_of_le hlt hs,fun j x hj=>(World.cell?_of_block (hb hl b rfl)).trans (hc j x hj)⟩
theorem rd_stay {w w':World} {A:Option Addr} {l:Bs} (h:Rd w A l) (hs:w.heap.size≤w'.heap.size) (hb:0<l.length→∀ k,A.map (·.block)=some k→w'.heap[k]?=w.heap[k]?):Rd w' A l:=fun hl=>h.keep (fun p _ hA=>World.cell?_of_block (hb hl _ hA)) hs hl
structure St (v r:Value) (Tp Tq:T) (g0:Nat) (cs:List Value) (A A2:Option Addr) (q q2:List Bs) (X:Option Addr) (b:Bs) (c c2 cb:Nat) (C:Nat→Prop) (w0:World) (B1 B2:Nat→Prop) (w:World):Prop where
 t:Tm.TAt v Tp B1 w
 r:Rf.RAt r Tq B2 w
 ap:∀ k,B1 k→¬ B2 k
 box:Blk w g0 56 cs
 ob:¬ B1 g0∧¬ B2 g0
 rq:RdS w A q
 rq2:RdS w A2 q2
 rb:Rd w X b
 fq:0<q.length→∀ k,A.map (·.block)=some k→k<w.heap.size∧¬ B1 k∧¬ B2 k
 fq2:0<q2.length→∀ k,A2.map (·.block)=some k→k<w.heap.size∧¬ B1 k∧¬ B2 k
 fb:0<b.length→∀ k,X.map (·.block)=some k→k<w.heap.size∧¬ B1 k∧¬ B2 k
 hq:q.length≤c∧q.length≤1000000∧∀ s ∈ q,s.length≤1000000
 hq2:q2.length≤c2∧q2.length≤1000000∧∀ s ∈ q2,s.length≤1000000
 hb:b.length≤cb∧b.length≤1000000
 mod:Mod w0 w C
 sub:∀ k,B1 k∨B2 k→C k∨w0.heap.size≤k
variable {v r:Value} {Tp Tq T':T} {g0:Nat} {cs:List Value} {A A2 X:Option Addr} {q q2:List Bs} {b:Bs} {c c2 cb:Nat} {C B1 B2:Nat→Prop} {w0 w w':World}
theorem St.lt1 (h:St v r Tp Tq g0 cs A A2 q q2 X b c c2 cb C w0 B1 B2 w) {k:Nat} (hk:B1 k):k<w.heap.size:=Tm.tobj.lt h.t k hk
theorem St.lt2 (h:St v r Tp Tq g0 cs A A2 q q2 X b c c2 cb C w0 B1 B2 w) {k:Nat} (hk:B2 k):k<w.heap.size:=Rf.robj.lt h.r k hk
theorem St.later (h:St v r Tp Tq g0 cs A A2 q q2 X b c c2 cb C w0 B1 B2 w) (hb:Below w.heap.size w w'):St v r Tp Tq g0 cs A A2 q q2 X b c c2 cb C w0 B1 B2 w' :=
 ⟨Tm.tobj.keep h.t hb.size fun k hk=>hb.block k (h.lt1 hk),Rf.robj.keep h.r hb.size fun k hk=>hb.block k (h.lt2 hk),h.ap,h.box.below hb h.box.lt,h.ob,h.rq.below hb,h.rq2.below hb,h.rb.below hb,
  fun hl k hk=>⟨Nat.lt_of_lt_of_le (h.fq hl k hk).1 hb.size,(h.fq hl k hk).2⟩,fun hl k hk=>⟨Nat.lt_of_lt_of_le (h.fq2 hl k hk).1 hb.size,(h.fq2 hl k hk).2⟩,fun hl k hk=>⟨Nat.lt_of_lt_of_le (h.fb hl k hk).1 hb.size,(h.fb hl k hk).2⟩,h.hq,h.hq2,h.hb,
  Ob.mod_more h.mod (Mod.of_below hb fun _=>False) (fun _ h=>h.elim),h.sub⟩
theorem St.left (h:St v r Tp Tq g0 cs A A2 q q2 X b c c2 cb C w0 B1 B2 w) {B1':Nat→Prop} (ht:Tm.TAt v T' B1' w') (hm:Mod w w' B1) (hs:∀ k,B1' k→B1 k∨w.heap.size≤k):St v r T' Tq g0 cs A A2 q q2 X b c c2 cb C w0 B1' B2 w':=by
 have hn:∀ {k:Nat},k<w.heap.size→¬ B1 k→¬ B1' k:=fun hk hno hB=>(hs _ hB).elim hno fun h1=>by omega
 refine ⟨ht,Rf.robj.keep h.r hm.size fun k hk=>hm.block k (h.lt2 hk) fun h1=>h.ap k h1 hk,fun k h1 h2=>?_,(hm.block g0 h.box.lt h.ob.1).trans h.box,⟨hn h.box.lt h.ob.1,h.ob.2⟩,
  rds_stay h.rq hm.size fun hl k hk=>hm.block k (h.fq hl k hk).1 (h.fq hl k hk).2.1,rds_stay h.rq2 hm.size fun hl k hk=>hm.block k (h.fq2 hl k hk).1 (h.fq2 hl k hk).2.1,rd_stay h.rb hm.size fun hl k hk=>hm.block k (h.fb hl k hk).1 (h.fb hl k hk).2.1,
  fun hl k hk=>⟨Nat.lt_of_lt_of_le (h.fq hl k hk).1 hm.size,hn (h.fq hl k hk).1 (h.fq hl k hk).2.1,(h.fq hl k hk).2.2⟩,fun hl k hk=>⟨Nat.lt_of_lt_of_le (h.fq2 hl k hk).1 hm.size,hn (h.fq2 hl k hk).1 (h.fq2 hl k hk).2.1,(h.fq2 hl k hk).2.2⟩,fun hl k hk=>⟨Nat.lt_of_lt_of_le (h.fb hl k hk).1 hm.size,hn (h.fb hl k hk).1 (h.fb hl k hk).2.1,(h.fb hl k hk).2.2⟩,h.hq,h.hq2,h.hb,
  Ob.mod_more h.mod hm fun k hk=>h.sub k (.inl hk),fun k hk=>?_⟩
 ·rcases hs k h1 with h3|h3
  ·exact h.ap k h3 h2
  ·have:=h.lt2 h2;omega
 ·rcases hk with hk|hk
  ·exact (hs k hk).elim (fun h1=>h.sub k (.inl h1)) fun h1=>.inr (Nat.le_trans h.mod.size h1)
  ·exact h.sub k (.inr hk)
theorem St.right (h:St v r Tp Tq g0 cs A A2 q q2 X b c c2 cb C w0 B1 B2 w) {B2':Nat→Prop} (ht:Rf.RAt r T' B2' w') (hm:Mod w w' B2) (hs:∀ k,B2' k→B2 k∨w.heap.size≤k):St v r Tp T' g0 cs A A2 q q2 X b c c2 cb C w0 B1 B2' w':=by
 have hn:∀ {k:Nat},k<w.heap.size→¬ B2 k→¬ B2' k:=fun hk hno hB=>(hs _ hB).elim hno fun h1=>by omega
 refine ⟨Tm.tobj.keep h.t hm.size fun k hk=>hm.block k (h.lt1 hk) fun h1=>h.ap k hk h1,ht,fun k h1 h2=>?_,(hm.block g0 h.box.lt h.ob.2).trans h.box,⟨h.ob.1,hn h.box.lt h.ob.2⟩,
  rds_stay h.rq hm.size fun hl k hk=>hm.block k (h.fq hl k hk).1 (h.fq hl k hk).2.2,rds_stay h.rq2 hm.size fun hl k hk=>hm.block k (h.fq2 hl k hk).1 (h.fq2 hl k hk).2.2,rd_stay h.rb hm.size fun hl k hk=>hm.block k (h.fb hl k hk).1 (h.fb hl k hk).2.2,
  fun hl k hk=>⟨Nat.lt_of_lt_of_le (h.fq hl k hk).1 hm.size,(h.fq hl k hk).2.1,hn (h.fq hl k hk).1 (h.fq hl k hk).2.2⟩,fun hl k hk=>⟨Nat.lt_of_lt_of_le (h.fq2 hl k hk).1 hm.size,(h.fq2 hl k hk).2.1,hn (h.fq2 hl k hk).1 (h.fq2 hl k hk).2.2⟩,fun hl k hk=>⟨Nat.lt_of_lt_of_le (h.fb hl k hk).1 hm.size,(h.fb hl k hk).2.1,hn (h.fb hl k hk).1 (h.fb hl k hk).2.2⟩,h.hq,h.hq2,h.hb,
  Ob.mod_more h.mod hm fun k hk=>h.sub k (.inr hk),fun k hk=>?_⟩
 ·rcases hs k h2 with h3|h3
  ·exact h.ap k h1 h3
  ·have:=h.lt1 h1;omega
 ·rcases hk with hk|hk
  ·exact h.sub k (.inl hk)
  ·exact (hs k hk).elim (fun h1=>h.sub k (.inr h1)) fun h1=>.inr (Nat.le_trans h.mod.size h1)
def AnsT (v r:Value) (Tp Tq:T) (g0:Nat) (cs:List Value) (A A2:Option Addr) (q q2:List Bs) (X:Option Addr) (b:Bs) (c c2 cb:Nat) (C:Nat→Prop) (w0:World) (B2:Nat→Prop) (x:Value) (e:Ending) (w':World):Prop:=e=.returned x∧∃ B1',Hid (St v r Tp Tq g0 cs A A2 q q2 X b c c2 cb C w0 B1' B2 w')
def AnsR (v r:Value) (Tp Tq:T) (g0:Nat) (cs:List Value) (A A2:Option Addr) (q q2:List Bs) (X:Option Addr) (b:Bs) (c c2 cb:Nat) (C:Nat→Prop) (w0:World) (B1:Nat→Prop) (x:Value) (e:Ending) (w':World):Prop:=e=.returned x∧∃ B2',Hid (St v r Tp Tq g0 cs A A2 q q2 X b c c2 cb C w0 B1 B2' w')
theorem St.makeT (h:St v r Tp Tq g0 cs A A2 q q2 X b c c2 cb C w0 B1 B2 w) (hG:Tr.Good Tp) (kind:Int):Calls Tryz.prog 9 #[v,.slice A q.length c,.int .i64 kind] w (AnsT v r (Tr.make Tp q kind).2 Tq g0 cs A A2 q q2 X b c c2 cb C w0 B2 (.tuple #[.int .i64 (Tr.make Tp q kind).1.1,.int .i64 ((Tr.make Tp q kind).1.2:Nat)])):=by
 obtain ⟨p,av,gs,S,rfl,H,rfl⟩:=h.t
 refine (Tm.make_any H hG A q c kind h.rq h.hq.1 h.hq.2.1 h.hq.2.2).mono ?_
 rintro e w' ⟨he,S',k1,k2,k3⟩
 exact ⟨he,S',h.left k1 k2 k3⟩
theorem St.makeR (h:St v r Tp Tq g0 cs A A2 q q2 X b c c2 cb C w0 B1 B2 w) (hG:Tr.Good Tq) (kind:Int):Calls Tryz.prog 10 #[r,.slice A q.length c,.int .i64 kind] w (AnsR v r Tp (Tr.make Tq q kind).2 g0 cs A A2 q q2 X b c c2 cb C w0 B1 (.tuple #[.int .i64 (Tr.make Tq q kind).1.1,.int .i64 ((Tr.make Tq q kind).1.2:Nat)])):=by
 obtain ⟨p,nv,dv,ev,D,rfl,H,rfl⟩:=h.r
 refine (Rf.make_any H hG A q c kind h.rq h.hq.1 h.hq.2.1 h.hq.2.2).mono ?_
 rintro e w' ⟨he,S',k1,k2,k3⟩
 exact ⟨he,S',h.right k1 k2 k3⟩
theorem St.linkT (h:St v r Tp Tq g0 cs A A2 q q2 X b c c2 cb C w0 B1 B2 w) (hG:Tr.Good Tp):Calls Tryz.prog 13 #[v,.slice A q.length c,.slice A2 q2.length c2] w (AnsT v r (Tr.link Tp q q2).2 Tq g0 cs A A2 q q2 X b c c2 cb C w0 B2 (.int .i64 ((Tr.link Tp q q2).1:Nat))):=by
 obtain ⟨p,av,gs,S,rfl,H,rfl⟩:=h.t
 refine (Tm.link_any H hG A A2 q q2 c c2 h.rq h.hq.1 h.hq.2.1 h.hq.2.2 h.rq2 h.hq2.1 h.hq2.2.1 h.hq2.2.2).mono ?_
 rintro e w' ⟨he,S',k1,k2,k3⟩
 exact ⟨he,S',h.left k1 k2 k3⟩
theorem St.linkR (h:St v r Tp Tq g0 cs A A2 q q2 X b c c2 cb C w0 B1 B2 w) (hG:Tr.Good Tq):Calls Tryz.prog 14 #[r,.slice A q.length c,.slice A2 q2.length c2] w (AnsR v r Tp (Tr.link Tq q q2).2 g0 cs A A2 q q2 X b c c2 cb C w0 B1 (.int .i64 ((Tr.link Tq q q2).1:Nat))):=by
 obtain ⟨p,nv,dv,ev,D,rfl,H,rfl⟩:=h.r
 refine (Rf.link_any H hG A A2 q q2 c c2 h.rq h.hq.1 h.hq.2.1 h.hq.2.2 h.rq2 h.hq2.1 h.hq2.2.1 h.hq2.2.2).mono ?_
 rintro e w' ⟨he,S',k1,k2,k3⟩
 exact ⟨he,S',h.right k1 k2 k3⟩
theorem St.unlinkT (h:St v r Tp Tq g0 cs A A2 q q2 X b c c2 cb C w0 B1 B2 w) (hG:Tr.Good Tp):Calls Tryz.prog 15 #[v,.slice A q.length c] w (AnsT v r (Tr.unlink Tp q).2 Tq g0 cs A A2 q q2 X b c c2 cb C w0 B2 (.int .i64 ((Tr.unlink Tp q).1:Nat))):=by
 obtain ⟨p,av,gs,S,rfl,H,rfl⟩:=h.t
 refine (Tm.unlink_any H hG A q c h.rq h.hq.1 h.hq.2.1 h.hq.2.2).mono ?_
 rintro e w' ⟨he,S',k1,k2,k3⟩
 exact ⟨he,S',h.left k1 k2 k3⟩
theorem St.unlinkR (h:St v r Tp Tq g0 cs A A2 q q2 X b c c2 cb C w0 B1 B2 w) (hG:Tr.Good Tq):Calls Tryz.prog 16 #[r,.slice A q.length c] w (AnsR v r Tp (Tr.unlink Tq q).2 g0 cs A A2 q q2 X b c c2 cb C w0 B1 (.int .i64 ((Tr.unlink Tq q).1:Nat))):=by
 obtain ⟨p,nv,dv,ev,D,rfl,H,rfl⟩:=h.r
 refine (Rf.unlink_any H hG A q c h.rq h.hq.1 h.hq.2.1 h.hq.2.2).mono ?_
 rintro e w' ⟨he,S',k1,k2,k3⟩
 exact ⟨he,S',h.right k1 k2 k3⟩
theorem St.rmdirT (h:St v r Tp Tq g0 cs A A2 q q2 X b c c2 cb C w0 B1 B2 w) (hG:Tr.Good Tp):Calls Tryz.prog 11 #[v,.slice A q.length c] w (AnsT v r (Tr.rmdir Tp q).2 Tq g0 cs A A2 q q2 X b c c2 cb C w0 B2 (.int .i64 ((Tr.rmdir Tp q).1:Nat))):=by
 obtain ⟨p,av,gs,S,rfl,H,rfl⟩:=h.t
 refine (Tm.rmdir_any H hG A q c h.rq h.hq.1 h.hq.2.1 h.hq.2.2).mono ?_
 rintro e w' ⟨he,S',k1,k2,k3⟩
 exact ⟨he,S',h.left k1 k2 k3⟩
theorem St.rmdirR (h:St v r Tp Tq g0 cs A A2 q q2 X b c c2 cb C w0 B1 B2 w) (hG:Tr.Good Tq):Calls Tryz.prog 12 #[r,.slice A q.length c] w (AnsR v r Tp (Tr.rmdir Tq q).2 g0 cs A A2 q q2 X b c c2 cb C w0 B1 (.int .i64 ((Tr.rmdir Tq q).1:Nat))):=by
 obtain ⟨p,nv,dv,ev,D,rfl,H,rfl⟩:=h.r
 refine (Rf.rmdir_any H hG A q c h.rq h.hq.1 h.hq.2.1 h.hq.2.2).mono ?_
 rintro e w' ⟨he,S',k1,k2,k3⟩
 exact ⟨he,S',h.right k1 k2 k3⟩
theorem St.renameT (h:St v r Tp Tq g0 cs A A2 q q2 X b c c2 cb C w0 B1 B2 w) (hG:Tr.Good Tp):Calls Tryz.prog 81 #[v,.slice A q.length c,.slice A2 q2.length c2] w (AnsT v r (Tr.rename Tp q q2).2 Tq g0 cs A A2 q q2 X b c c2 cb C w0 B2 (.int .i64 ((Tr.rename Tp q q2).1:Nat))):=by
 obtain ⟨p,av,gs,S,rfl,H,rfl⟩:=h.t
 refine (Tm.rename_any H hG A A2 q q2 c c2 h.rq h.hq.1 h.hq.2.1 h.hq.2.2 h.rq2 h.hq2.1 h.hq2.2.1 h.hq2.2.2).mono ?_
 rintro e w' ⟨he,S',k1,k2,k3⟩
 exact ⟨he,S',h.left k1 k2 k3⟩
theorem St.renameR (h:St v r Tp Tq g0 cs A A2 q q2 X b c c2 cb C w0 B1 B2 w) (hG:Tr.Good Tq):Calls Tryz.prog 82 #[r,.slice A q.length c,.slice A2 q2.length c2] w (AnsR v r Tp (Tr.rename Tq q q2).2 g0 cs A A2 q q2 X b c c2 cb C w0 B1 (.int .i64 ((Tr.rename Tq q q2).1:Nat))):=by
 obtain ⟨p,nv,dv,ev,D,rfl,H,rfl⟩:=h.r
 refine (Rf.rename_any H hG A A2 q q2 c c2 h.rq h.hq.1 h.hq.2.1 h.hq.2.2 h.rq2 h.hq2.1 h.hq2.2.1 h.hq2.2.2).mono ?_
 rintro e w' ⟨he,S',k1,k2,k3⟩
 exact ⟨he,S',h.right k1 k2 k3⟩
theorem St.appendT (h:St v r Tp Tq g0 cs A A2 q q2 X b c c2 cb C w0 B1 B2 w) (hG:Tr.Good Tp) (i:Int):Calls Tryz.prog 17 #[v,.int .i64 i,.slice X b.length cb] w (AnsT v r (Tr.append Tp i b).2 Tq g0 cs A A2 q q2 X b c c2 cb C w0 B2 (.int .i64 ((Tr.append Tp i b).1:Nat))):=by
 obtain ⟨p,av,gs,S,rfl,H,rfl⟩:=h.t
 refine (Tm.append_any H hG i X b cb h.rb (by have:=h.hb.2;omega)).mono ?_
 rintro e w' ⟨he,S',k1,k2,k3⟩
 exact ⟨he,S',h.left k1 k2 k3⟩
theorem St.appendR (h:St v r Tp Tq g0 cs A A2 q q2 X b c c2 cb C w0 B1 B2 w) (hG:Tr.Good Tq) (i:Int):Calls Tryz.prog 19 #[r,.int .i64 i,.slice X b.length cb] w (AnsR v r Tp (Tr.append Tq i b).2 g0 cs A A2 q q2 X b c c2 cb C w0 B1 (.int .i64 ((Tr.append Tq i b).1:Nat))):=by
 obtain ⟨p,nv,dv,ev,D,rfl,H,rfl⟩:=h.r
 refine (Rf.append_any H hG i X b cb h.rb (by have:=h.hb.2;omega)).mono ?_
 rintro e w' ⟨he,S',k1,k2,k3⟩
 exact ⟨he,S',h.right k1 k2 k3⟩
theorem St.sealT (h:St v r Tp Tq g0 cs A A2 q q2 X b c c2 cb C w0 B1 B2 w) (hG:Tr.Good Tp) (i:Int) (u:Nat) (hu:u≤18446744073709551615):Calls Tryz.prog 20 #[v,.int .i64 i,.int .u64 (u:Nat)] w (AnsT v r (Tr.seal_ Tp i u).2 Tq g0 cs A A2 q q2 X b c c2 cb C w0 B2 (.int .i64 ((Tr.seal_ Tp i u).1:Nat))):=by
 obtain ⟨p,av,gs,S,rfl,H,rfl⟩:=h.t
 refine (Tm.seal_any H hG i u hu).mono ?_
 rintro e w' ⟨he,S',k1,k2,k3⟩
 exact ⟨he,S',h.left k1 k2 k3⟩
theorem St.sealR (h:St v r Tp Tq g0 cs A A2 q q2 X b c c2 cb C w0 B1 B2 w) (hG:Tr.Good Tq) (i:Int) (u:Nat) (hu:u≤18446744073709551615):Calls Tryz.prog 21 #[r,.int .i64 i,.int .u64 (u:Nat)] w (AnsR v r Tp (Tr.seal_ Tq i u).2 g0 cs A A2 q q2 X b c c2 cb C w0 B1 (.int .i64 ((Tr.seal_ Tq i u).1:Nat))):=by
 obtain ⟨p,nv,dv,ev,D,rfl,H,rfl⟩:=h.r
 refine (Rf.seal_any H hG i u hu).mono ?_
 rintro e w' ⟨he,S',k1,k2,k3⟩
 exact ⟨he,S',h.right k1 k2 k3⟩
theorem St.keepT (h:St v r Tp Tq g0 cs A A2 q q2 X b c c2 cb C w0 B1 B2 w) (hG:Tr.Good Tp) (i:Int) (u:Nat) (hu:u≤18446744073709551615):Calls Tryz.prog 22 #[v,.int .i64 i,.int .u64 (u:Nat)] w (AnsT v r (Tr.keep Tp i u).2 Tq g0 cs A A2 q q2 X b c c2 cb C w0 B2 (.int .i64 ((Tr.keep Tp i u).1:Nat))):=by
 obtain ⟨p,av,gs,S,rfl,H,rfl⟩:=h.t
 refine (Tm.keep_any H hG i u hu).mono ?_
 rintro e w' ⟨he,S',k1,k2,k3⟩
 exact ⟨he,S',h.left k1 k2 k3⟩
theorem St.keepR (h:St v r Tp Tq g0 cs A A2 q q2 X b c c2 cb C w0 B1 B2 w) (hG:Tr.Good Tq) (i:Int) (u:Nat) (hu:u≤18446744073709551615):Calls Tryz.prog 23 #[r,.int .i64 i,.int .u64 (u:Nat)] w (AnsR v r Tp (Tr.keep Tq i u).2 g0 cs A A2 q q2 X b c c2 cb C w0 B1 (.int .i64 ((Tr.keep Tq i u).1:Nat))):=by
 obtain ⟨p,nv,dv,ev,D,rfl,H,rfl⟩:=h.r
 refine (Rf.keep_any H hG i u hu).mono ?_
 rintro e w' ⟨he,S',k1,k2,k3⟩
 exact ⟨he,S',h.right k1 k2 k3⟩
theorem St.dropT (h:St v r Tp Tq g0 cs A A2 q q2 X b c c2 cb C w0 B1 B2 w) (hG:Tr.Good Tp) (i:Int):Calls Tryz.prog 26 #[v,.int .i64 i] w (AnsT v r (Tr.drop Tp i).2 Tq g0 cs A A2 q q2 X b c c2 cb C w0 B2 (.int .i64 ((Tr.drop Tp i).1:Nat))):=by
 obtain ⟨p,av,gs,S,rfl,H,rfl⟩:=h.t
 refine (Tm.dropT_any H hG i).mono ?_
 rintro e w' ⟨he,S',k1,k2,k3⟩
 exact ⟨he,S',h.left k1 k2 k3⟩
theorem St.dropR (h:St v r Tp Tq g0 cs A A2 q q2 X b c c2 cb C w0 B1 B2 w) (hG:Tr.Good Tq) (i:Int):Calls Tryz.prog 27 #[r,.int .i64 i] w (AnsR v r Tp (Tr.drop Tq i).2 g0 cs A A2 q q2 X b c c2 cb C w0 B1 (.int .i64 ((Tr.drop Tq i).1:Nat))):=by
 obtain ⟨p,nv,dv,ev,D,rfl,H,rfl⟩:=h.r
 refine (Rf.drop_any H hG i).mono ?_
 rintro e w' ⟨he,S',k1,k2,k3⟩
 exact ⟨he,S',h.right k1 k2 k3⟩
theorem St.lookT (h:St v r Tp Tq g0 cs A A2 q q2 X b c c2 cb C w0 B1 B2 w) (hG:Tr.Good Tp):Calls Tryz.prog 86 #[v,.slice A q.length c] w fun e w'=>e=.returned (.tuple #[.int .i64 (Tr.look Tp q).1,.int .i64 ((Tr.look Tp q).2:Nat)])∧Below w.heap.size w w':=by
 obtain ⟨p,av,gs,S,rfl,H,rfl⟩:=h.t
 exact Tm.look_any H hG A q c h.rq h.hq.1 h.hq.2.1 h.hq.2.2
theorem St.lookR (h:St v r Tp Tq g0 cs A A2 q q2 X b c c2 cb C w0 B1 B2 w) (hG:Tr.Good Tq):Calls Tryz.prog 60 #[r,.slice A q.length c] w fun e w'=>e=.returned (.tuple #[.int .i64 (Tr.look Tq q).1,.int .i64 ((Tr.look Tq q).2:Nat)])∧Below w.heap.size w w':=by
 obtain ⟨p,nv,dv,ev,D,rfl,H,rfl⟩:=h.r
 exact Rf.look_any H.in_ hG H.low A q c h.rq h.hq.2.1 h.hq.2.2
theorem St.nodeT (h:St v r Tp Tq g0 cs A A2 q q2 X b c c2 cb C w0 B1 B2 w) (hG:Tr.Good Tp) (i:Int):Calls Tryz.prog 83 #[v,.int .i64 i] w fun e w'=>e=.returned (.tuple #[(Tr.node Tp i).1.val,.bool (Tr.node Tp i).2])∧Below w.heap.size w w':=by
 obtain ⟨p,av,gs,S,rfl,H,rfl⟩:=h.t
 exact Tm.node_any H hG i
theorem St.nodeR (h:St v r Tp Tq g0 cs A A2 q q2 X b c c2 cb C w0 B1 B2 w) (hG:Tr.Good Tq) (i:Int):Calls Tryz.prog 35 #[r,.int .i64 i] w fun e w'=>e=.returned (.tuple #[(Tr.node Tq i).1.val,.bool (Tr.node Tq i).2])∧Below w.heap.size w w':=by
 obtain ⟨p,nv,dv,ev,D,rfl,H,rfl⟩:=h.r
 exact Rf.node_any H.in_ H.low i (by have:=hG.few;omega)
theorem St.listT (h:St v r Tp Tq g0 cs A A2 q q2 X b c c2 cb C w0 B1 B2 w) (hG:Tr.Good Tp) (i:Int):Calls Tryz.prog 87 #[v,.int .i64 i] w (Tm.LAns (Tr.list Tp i).1 (Tr.list Tp i).2 w):=by
 obtain ⟨p,av,gs,S,rfl,H,rfl⟩:=h.t
 exact Tm.list_any H hG i
theorem St.listR (h:St v r Tp Tq g0 cs A A2 q q2 X b c c2 cb C w0 B1 B2 w) (hG:Tr.Good Tq) (i:Int):Calls Tryz.prog 61 #[r,.int .i64 i] w (Rf.LAns (Tr.list Tq i).1 (Tr.list Tq i).2 w):=by
 obtain ⟨p,nv,dv,ev,D,rfl,H,rfl⟩:=h.r
 exact Rf.list_any H hG i
theorem St.readT (h:St v r Tp Tq g0 cs A A2 q q2 X b c c2 cb C w0 B1 B2 w) (hG:Tr.Good Tp) (i a m:Int) (h1:-9223372036854775808≤a∧a≤9223372036854775807) (h2:-9223372036854775808≤m∧m≤9223372036854775807):Calls Tryz.prog 24 #[v,.int .i64 i,.int .i64 a,.int .i64 m] w (Tm.RAns (Tr.read Tp i a m).1 (Tr.read Tp i a m).2 w):=by
 obtain ⟨p,av,gs,S,rfl,H,rfl⟩:=h.t
 exact Tm.read_any H hG i a m h1 h2
theorem St.readR (h:St v r Tp Tq g0 cs A A2 q q2 X b c c2 cb C w0 B1 B2 w) (hG:Tr.Good Tq) (i a m:Int) (h1:-9223372036854775808≤a∧a≤9223372036854775807) (h2:-9223372036854775808≤m∧m≤9223372036854775807):Calls Tryz.prog 25 #[r,.int .i64 i,.int .i64 a,.int .i64 m] w (Rf.RdAns (Tr.read Tq i a m).1 (Tr.read Tq i a m).2 w):=by
 obtain ⟨p,nv,dv,ev,D,rfl,H,rfl⟩:=h.r
 exact Rf.read_any H hG i a m h1 h2
theorem St.count (h:St v r Tp Tq g0 cs A A2 q q2 X b c c2 cb C w0 B1 B2 w):Calls Tryz.prog 40 #[v] w fun e w'=>e=.returned (.int .i64 (Tp.length:Nat))∧w'=w:=by
 obtain ⟨p,av,gs,S,rfl,H,rfl⟩:=h.t
 exact Tm.count_any H
theorem St.refcell (h:St v r Tp Tq g0 cs A A2 q q2 X b c c2 cb C w0 B1 B2 w):∃ p Y d,r=.pointer (some ⟨p,0,none⟩)∧w.cell? ⟨p,0,none⟩=some (.slice Y Tq.length d):=by
 obtain ⟨p,nv,dv,ev,D,rfl,H,rfl⟩:=h.r
 obtain ⟨Y,d,rfl,_⟩:=Tm.own_form H.in_.nodes
 exact ⟨p,Y,d,rfl,H.in_.box.cell 0⟩
end Tw
end Go.Proofs.YtjoedamiilgajaaGreat
namespace Go.Proofs.YtjoedamiilgajaaGreat
open Go.ChangeShapes Go.WideShapes Go.RowKit Go.Deep
structure AskT where
 kd:Int
 p:Int
 z:Int
 dir:Bool
 id:Int
 a:Int
 m:Int
 X:Option Addr
 b:List UInt8
 cb:Nat
 u:Nat
def In64T (i:Int):Prop:=-9223372036854775808≤i∧i≤9223372036854775807
def AskT.cells (p:AskT):List Value:=[.int .i64 p.kd,.int .i64 p.p,.int .i64 p.z,.bool p.dir,.int .i64 p.id,.int .i64 p.a,.int .i64 p.m,.slice p.X p.b.length p.cb,.int .u64 (p.u:Nat)]
def AskT.val (p:AskT):Value:=.agg p.cells.toArray
structure AskT.Fits (w:World) (p:AskT):Prop where
 rd:Rd w p.X p.b
 fits:p.b.length≤p.cb
 long:p.b.length≤9223372036854775807
 ip:In64T p.p
 ito:In64T p.z
 iid:In64T p.id
 ia:In64T p.a
 im:In64T p.m
 iu:p.u≤18446744073709551615
structure AskT.Ok (w:World) (a:Addr) (j:Nat) (p:AskT):Prop where
 cells:∀ k u,p.cells[k]?=some u→w.cell? (a.add (j*9+k))=some u
 fit:p.Fits w
 lt:a.block<w.heap.size
def AsksT (w:World) (A:Option Addr) (ps:List AskT):Prop:=0<ps.length→∃ a,A=some a∧∀ (j:Nat) (p:AskT),ps[j]?=some p→p.Ok w a j
theorem AsksT.plain {w:World} {A:Option Addr} {ps:List AskT} (h:AsksT w A ps) (h0:0<ps.length):∃ b off,A=some ⟨b,off,none⟩∧∀ (i:Nat) (p:AskT),ps[i]?=some p→p.Ok w ⟨b,off,none⟩ i:=by
 obtain ⟨a,rfl,hok⟩:=h h0
 have hs:=World.cell?_spot ((hok 0 _ (List.getElem?_eq_getElem h0)).cells 0 _ rfl)
 obtain ⟨b,off,spot⟩:=a
 have:spot=none:=by simpa [Addr.add] using hs
 subst this
 exact ⟨b,off,rfl,hok⟩
theorem AskT.Fits.later {w w':World} {p:AskT} (h:p.Fits w) (hb:Below w.heap.size w w'):p.Fits w':={ h with rd:=h.rd.below hb }
theorem AskT.Ok.at_ {w w':World} {b off j:Nat} {p:AskT} (h:p.Ok w ⟨b,off,none⟩ j) (hb:Below w.heap.size w w') (k:Nat) (u:Value) (hu:p.cells[k]?=some u):w'.cell? ⟨b,off+j*9+k,none⟩=some u:=by
 have c:=h.cells k u hu
 simp only [add_plain] at c
 rw [Nat.add_assoc]
 exact (hb.cell (p:=⟨b,off+(j*9+k),none⟩) h.lt).trans c
theorem Tryz.cellsAskT:Tryz.prog.cellsOf 56=9:=by kernel_rfl
theorem Tryz.cellsIntT:Tryz.prog.cellsOf 3=1:=by kernel_rfl
theorem Tryz.cellsBoolT:Tryz.prog.cellsOf 4=1:=by kernel_rfl
theorem Tryz.cellsU64T:Tryz.prog.cellsOf 43=1:=by kernel_rfl
theorem Tryz.cellsBytesT:Tryz.prog.cellsOf 39=1:=by kernel_rfl
set_option maxRecDepth 100000 in
set_option maxHeartbeats 1000000 in
theorem asksT_of {H:Type} {enc:TypeId × Value→H} {W:World} {fuel:Nat} {v:Value} {x:DataW H × List MemPlace}
    (h:DataW.trod enc Tryz.prog W 0 (fun _=>true) true fuel 53 [v]=some x) :
    ∃ (ps:List AskT) (A:Option Addr) (cap:Nat),v=.slice A ps.length cap∧ps.length≤cap∧ps.length≤9223372036854775807∧AsksT W A ps:=by
 rcases open_slice Tryz.underlying53 h with ⟨hcs,_⟩|⟨a,len,cap,m,n,D,Pl,hcs,_,hl,hm,hmm,hx,hi⟩
 ·simp only [List.cons.injEq,and_true] at hcs
  exact ⟨[],none,0,hcs,by simp,by simp,fun h0=>absurd h0 (by simp)⟩
 ·simp only [List.cons.injEq,and_true] at hcs
  subst hcs
  simp only [if_true] at hmm
  have key:∀ i:Fin len,∃ p:AskT,p.Ok W a i:=fun i=>by
   obtain ⟨cs,hc,ht⟩:=hi i (by have:=i.2;omega)
   rw [Tryz.cellsAskT] at hc
   obtain ⟨_,hlen,hat⟩:=World.cells?_some hc
   obtain ⟨ys,n',_,hys,_,hyl,hf⟩:=DataW.trod_struct Tryz.underlying56 ht
   match cs,hlen,ys,hyl with
   | [v0,v1,v2,v3,v4,v5,v6,v7,v8],_,[y0,y1,y2,y3,y4,y5,y6,y7,y8],_ =>
     have h0:DataW.trod enc Tryz.prog W 0 (fun _=>true) true n' 3 ((List.drop 0 [v0,v1,v2,v3,v4,v5,v6,v7,v8]).take (Tryz.prog.cellsOf 3))=some y0:=hf 0 _ rfl
     rw [Tryz.cellsIntT] at h0
     have h1:DataW.trod enc Tryz.prog W 0 (fun _=>true) true n' 3 ((List.drop 1 [v0,v1,v2,v3,v4,v5,v6,v7,v8]).take (Tryz.prog.cellsOf 3))=some y1:=hf 1 _ rfl
     rw [Tryz.cellsIntT] at h1
     have h2:DataW.trod enc Tryz.prog W 0 (fun _=>true) true n' 3 ((List.drop 2 [v0,v1,v2,v3,v4,v5,v6,v7,v8]).take (Tryz.prog.cellsOf 3))=some y2:=hf 2 _ rfl
     rw [Tryz.cellsIntT] at h2
     have h3:DataW.trod enc Tryz.prog W 0 (fun _=>true) true n' 4 ((List.drop 3 [v0,v1,v2,v3,v4,v5,v6,v7,v8]).take (Tryz.prog.cellsOf 4))=some y3:=hf 3 _ rfl
     rw [Tryz.cellsBoolT] at h3
     have h4:DataW.trod enc Tryz.prog W 0 (fun _=>true) true n' 3 ((List.drop 4 [v0,v1,v2,v3,v4,v5,v6,v7,v8]).take (Tryz.prog.cellsOf 3))=some y4:=hf 4 _ rfl
     rw [Tryz.cellsIntT] at h4
     have h5:DataW.trod enc Tryz.prog W 0 (fun _=>true) true n' 3 ((List.drop 5 [v0,v1,v2,v3,v4,v5,v6,v7,v8]).take (Tryz.prog.cellsOf 3))=some y5:=hf 5 _ rfl
     rw [Tryz.cellsIntT] at h5
     have h6:DataW.trod enc Tryz.prog W 0 (fun _=>true) true n' 3 ((List.drop 6 [v0,v1,v2,v3,v4,v5,v6,v7,v8]).take (Tryz.prog.cellsOf 3))=some y6:=hf 6 _ rfl
     rw [Tryz.cellsIntT] at h6
     have h7:DataW.trod enc Tryz.prog W 0 (fun _=>true) true n' 39 ((List.drop 7 [v0,v1,v2,v3,v4,v5,v6,v7,v8]).take (Tryz.prog.cellsOf 39))=some y7:=hf 7 _ rfl
     rw [Tryz.cellsBytesT] at h7
     have h8:DataW.trod enc Tryz.prog W 0 (fun _=>true) true n' 43 ((List.drop 8 [v0,v1,v2,v3,v4,v5,v6,v7,v8]).take (Tryz.prog.cellsOf 43))=some y8:=hf 8 _ rfl
     rw [Tryz.cellsU64T] at h8
     have at_:∀ k u,[v0,v1,v2,v3,v4,v5,v6,v7,v8][k]?=some u→W.cell? ((a.add (i*9)).add k)=some u:=fun k u hu=>match k,hu with
      | 0,hu=>(show W.cell? ((a.add (i*9)).add 0)=some v0 from hat 0 (by omega)).trans hu
      | 1,hu=>(show W.cell? ((a.add (i*9)).add 1)=some v1 from hat 1 (by omega)).trans hu
      | 2,hu=>(show W.cell? ((a.add (i*9)).add 2)=some v2 from hat 2 (by omega)).trans hu
      | 3,hu=>(show W.cell? ((a.add (i*9)).add 3)=some v3 from hat 3 (by omega)).trans hu
      | 4,hu=>(show W.cell? ((a.add (i*9)).add 4)=some v4 from hat 4 (by omega)).trans hu
      | 5,hu=>(show W.cell? ((a.add (i*9)).add 5)=some v5 from hat 5 (by omega)).trans hu
      | 6,hu=>(show W.cell? ((a.add (i*9)).add 6)=some v6 from hat 6 (by omega)).trans hu
      | 7,hu=>(show W.cell? ((a.add (i*9)).add 7)=some v7 from hat 7 (by omega)).trans hu
      | 8,hu=>(show W.cell? ((a.add (i*9)).add 8)=some v8 from hat 8 (by omega)).trans hu
      | k+9,hu=>by simp at hu
     obtain ⟨k0,e0,_,w0⟩:=DataW.trod_int (cs:=[v0]) Tryz.underlying3 h0
     obtain ⟨k1,e1,_,w1⟩:=DataW.trod_int (cs:=[v1]) Tryz.underlying3 h1
     obtain ⟨k2,e2,_,w2⟩:=DataW.trod_int (cs:=[v2]) Tryz.underlying3 h2
     obtain ⟨k3,e3,_⟩:=DataW.trod_bool (cs:=[v3]) Tryz.underlying4 h3
     obtain ⟨k4,e4,_,w4⟩:=DataW.trod_int (cs:=[v4]) Tryz.underlying3 h4
     obtain ⟨k5,e5,_,w5⟩:=DataW.trod_int (cs:=[v5]) Tryz.underlying3 h5
     obtain ⟨k6,e6,_,w6⟩:=DataW.trod_int (cs:=[v6]) Tryz.underlying3 h6
     obtain ⟨l,A,c,e7,hlc,hll,hr⟩:=bytes_of (v:=v7) h7
     obtain ⟨k8,e8,_,w8⟩:=DataW.trod_int (cs:=[v8]) Tryz.underlying43 h8
     simp only [List.cons.injEq,and_true] at e0 e1 e2 e3 e4 e5 e6 e8
     have hu:0≤k8∧k8≤18446744073709551615:=bounds_u64 w8
     obtain ⟨u,rfl⟩:∃ u:Nat,k8=(u:Int):=⟨k8.toNat,by omega⟩
     subst e0 e1 e2 e3 e4 e5 e6 e7 e8
     have lt:a.block<W.heap.size:=by
      have a0:=at_ 0 _ rfl
      rcases Nat.lt_or_ge ((a.add (i*9)).add 0).block W.heap.size with h|h
      ·rwa [block_of_add,block_of_add] at h
      ·simp [World.cell?,Array.getElem?_eq_none h] at a0
     exact ⟨⟨k0,k1,k2,k3,k4,k5,k6,A,l,c,u⟩,⟨fun k x hx=>by rw [← add_of_add];exact at_ k x hx,⟨hr,hlc,hll,bounds_i64 w1,bounds_i64 w2,bounds_i64 w4,bounds_i64 w5,bounds_i64 w6,by show u≤18446744073709551615;omega⟩,lt⟩⟩
  obtain ⟨f,hf⟩:=Classical.axiomOfChoice key
  refine ⟨List.ofFn f,some a,cap,by rw [List.length_ofFn],by rw [List.length_ofFn];exact hl,by rw [List.length_ofFn];exact max_le (Nat.le_trans hl hm),fun _=>⟨a,rfl,fun i p hp=>?_⟩⟩
  have hjl:i<len:=by
   have:=(List.getElem?_eq_some_iff.1 hp).1
   simpa using this
  have e:p=f ⟨i,hjl⟩:=by
   rw [List.getElem?_ofFn,dif_pos hjl] at hp
   exact (Option.some.inj hp).symm
  subst e
  exact hf ⟨i,hjl⟩
end Go.Proofs.YtjoedamiilgajaaGreat
namespace Go.Proofs.YtjoedamiilgajaaGreat
open Go.RowKit
namespace Wi
theorem emod_of_tmod (n d:Int) (h:0<d):(n.tmod d<0→n % d=n.tmod d+d)∧(¬ n.tmod d<0→n % d=n.tmod d):=by
 have l1:=Int.lt_tmod_of_pos n h
 have l2:=Int.tmod_lt_of_pos n h
 have e:n.tmod d % d=n % d:=by rw [Int.tmod_def,Int.sub_mul_emod_self_left]
 constructor
 ·intro hn
  rw [← e,← Int.add_emod_right]
  exact Int.emod_eq_of_lt (by omega) (by omega)
 ·intro hn
  rw [← e]
  exact Int.emod_eq_of_lt (by omega) (by omega)
def withinI (n lo hi:Int):Int:=lo+n % (hi-lo+1)
theorem withinI_ge (n lo hi:Int) (h:lo≤hi):lo≤withinI n lo hi:=by
 have:=Int.emod_nonneg n (b:=hi-lo+1) (by omega)
 unfold withinI;omega
theorem withinI_le (n lo hi:Int) (h:lo≤hi):withinI n lo hi≤hi:=by
 have:=Int.emod_lt_of_pos n (b:=hi-lo+1) (by omega)
 unfold withinI;omega
theorem withinI_any (n lo hi:Int) (w:World) (h0:0≤lo) (h1:lo≤hi) (h2:hi≤2000000) (_hn0:-9223372036854775808≤n) (_hn1:n≤9223372036854775807) :
    Calls Tryz.prog 18 #[.int .i64 n,.int .i64 lo,.int .i64 hi] w fun e w'=>e=.returned (.int .i64 (withinI n lo hi))∧w=w':=by
 have l1:=Int.lt_tmod_of_pos n (b:=hi-lo+1) (by omega)
 have l2:=Int.tmod_lt_of_pos n (b:=hi-lo+1) (by omega)
 have em:=emod_of_tmod n (hi-lo+1) (by omega)
 by_cases hn:n.tmod (hi-lo+1)<0
 ·have HD:Hid (withinI n lo hi=lo+(n.tmod (hi-lo+1)+hi-lo+1)):=by
   show withinI n lo hi=_
   unfold withinI
   rw [em.1 hn]
   omega
  clear em
  go_enter Tryz.func18,Tryz.ntmps18
  go_wp2
  go_ret
  exact ⟨ret_num HD.out,rfl⟩
 ·have HD:Hid (withinI n lo hi=lo+n.tmod (hi-lo+1)):=by
   show withinI n lo hi=_
   unfold withinI
   rw [em.2 hn]
  clear em
  go_enter Tryz.func18,Tryz.ntmps18
  go_wp2
  go_ret
  exact ⟨ret_num HD.out,rfl⟩
theorem within_nat (n x y:Int) (lo hi:Nat) (w:World) (hx:x=lo) (hy:y=hi) (h:lo≤hi) (h2:hi≤2000000) (hn0:-9223372036854775808≤n) (hn1:n≤9223372036854775807) :
    Calls Tryz.prog 18 #[.int .i64 n,.int .i64 x,.int .i64 y] w fun e w'=>∃ k:Nat,lo≤k∧k≤hi∧e=.returned (.int .i64 k)∧w=w':=by
 subst hx hy
 have h3:=withinI_ge n lo hi (by omega)
 have h4:=withinI_le n lo hi (by omega)
 refine (withinI_any n lo hi w (by omega) (by omega) (by omega) hn0 hn1).mono fun e w' ⟨h5,h6⟩=>?_
 obtain ⟨k,hk⟩:∃ k:Nat,withinI n lo hi=k:=⟨(withinI n lo hi).toNat,by omega⟩
 exact ⟨k,by omega,by omega,by rw [h5,hk],h6⟩
end Wi
end Go.Proofs.YtjoedamiilgajaaGreat
namespace Go.Proofs.YtjoedamiilgajaaGreat
open Go.RowKit Rc
namespace Tm
def layTxts:World→List (List Bs)→World
 | w,[]=>w
 | w,q :: L=>layTxts (w.alloc (.cells (txtCells q).toArray 9)) L
theorem lay_size:∀ (L:List (List Bs)) (w:World),(layTxts w L).heap.size=w.heap.size+L.length
 | [],w=>rfl
 | q :: L,w=>by
   rw [layTxts,lay_size L,World.size_alloc,List.length_cons]
   omega
theorem lay_below:∀ (L:List (List Bs)) (w:World),Below w.heap.size w (layTxts w L)
 | [],w=>Below.refl _ _
 | q :: L,w=>(below_new w _).trans ((lay_below L _).mono (by rw [World.size_alloc];omega))
theorem lay_rd:∀ (L:List (List Bs)) (w:World) (j:Nat) (q:List Bs),L[j]?=some q→RdS (layTxts w L) (some ⟨w.heap.size+j,0,none⟩) q
 | p :: L,w,0,q,h=>by
   obtain rfl:p=q:=by simpa using h
   exact (rds_alloc w p 9 (0,0)).below ((lay_below L _))
 | p :: L,w,j+1,q,h=>by
   have:=lay_rd L (w.alloc (.cells (txtCells p).toArray 9)) j q (by simpa using h)
   rw [World.size_alloc] at this
   rw [layTxts,show w.heap.size+(j+1)=w.heap.size+1+j from by omega]
   exact this
def nmList:List (List Bs):=[[[97]],[[98]],[[99]],[[97],[97]],[[97],[98]],[[98],[97]],[[98],[98],[97]],[[99],[97]],[[98],[98]],[[65]],[[97],[]],[[46]]]
def nmWorld (w:World):World:=(layTxts w nmList).alloc (.cells #[.slice (some ⟨w.heap.size,0,none⟩) 1 1,.slice (some ⟨w.heap.size+1,0,none⟩) 1 1,.slice (some ⟨w.heap.size+2,0,none⟩) 1 1,.slice (some ⟨w.heap.size+3,0,none⟩) 2 2,.slice (some ⟨w.heap.size+4,0,none⟩) 2 2,.slice (some ⟨w.heap.size+5,0,none⟩) 2 2,.slice (some ⟨w.heap.size+6,0,none⟩) 3 3,.slice none 0 0,.slice (some ⟨w.heap.size+7,0,none⟩) 2 2,.slice (some ⟨w.heap.size+8,0,none⟩) 2 2,.slice (some ⟨w.heap.size+9,0,none⟩) 1 1,.slice (some ⟨w.heap.size+10,0,none⟩) 2 2,.slice (some ⟨w.heap.size+11,0,none⟩) 1 1] 26)
theorem nm_cells (w:World):∀ m,m<13→∃ (A:Option Addr) (q:List Bs) (cap:Nat),(nmWorld w).cell? ⟨w.heap.size+12,m,none⟩=some (.slice A q.length cap)∧q.length≤cap∧q.length≤3∧(∀ s ∈ q,s.length≤1)∧RdS (nmWorld w) A q∧∀ k,A.map (·.block)=some k→w.heap.size≤k:=by
 have hb:Blk (nmWorld w) (w.heap.size+12) 26 [.slice (some ⟨w.heap.size,0,none⟩) 1 1,.slice (some ⟨w.heap.size+1,0,none⟩) 1 1,.slice (some ⟨w.heap.size+2,0,none⟩) 1 1,.slice (some ⟨w.heap.size+3,0,none⟩) 2 2,.slice (some ⟨w.heap.size+4,0,none⟩) 2 2,.slice (some ⟨w.heap.size+5,0,none⟩) 2 2,.slice (some ⟨w.heap.size+6,0,none⟩) 3 3,.slice none 0 0,.slice (some ⟨w.heap.size+7,0,none⟩) 2 2,.slice (some ⟨w.heap.size+8,0,none⟩) 2 2,.slice (some ⟨w.heap.size+9,0,none⟩) 1 1,.slice (some ⟨w.heap.size+10,0,none⟩) 2 2,.slice (some ⟨w.heap.size+11,0,none⟩) 1 1]:=by
  have h:=Blk.new (layTxts w nmList) 26 [.slice (some ⟨w.heap.size,0,none⟩) 1 1,.slice (some ⟨w.heap.size+1,0,none⟩) 1 1,.slice (some ⟨w.heap.size+2,0,none⟩) 1 1,.slice (some ⟨w.heap.size+3,0,none⟩) 2 2,.slice (some ⟨w.heap.size+4,0,none⟩) 2 2,.slice (some ⟨w.heap.size+5,0,none⟩) 2 2,.slice (some ⟨w.heap.size+6,0,none⟩) 3 3,.slice none 0 0,.slice (some ⟨w.heap.size+7,0,none⟩) 2 2,.slice (some ⟨w.heap.size+8,0,none⟩) 2 2,.slice (some ⟨w.heap.size+9,0,none⟩) 1 1,.slice (some ⟨w.heap.size+10,0,none⟩) 2 2,.slice (some ⟨w.heap.size+11,0,none⟩) 1 1]
  rw [lay_size] at h
  exact h
 intro m hm
 exact match m,hm with
 | 0,_=>⟨(some ⟨w.heap.size+0,0,none⟩),[[97]],1,hb.cell 0,Nat.le_refl _,by decide,by decide,(lay_rd _ _ 0 _ rfl).below (below_new _ _),fun k hk=>by simp at hk;omega⟩
 | 1,_=>⟨(some ⟨w.heap.size+1,0,none⟩),[[98]],1,hb.cell 1,Nat.le_refl _,by decide,by decide,(lay_rd _ _ 1 _ rfl).below (below_new _ _),fun k hk=>by simp at hk;omega⟩
 | 2,_=>⟨(some ⟨w.heap.size+2,0,none⟩),[[99]],1,hb.cell 2,Nat.le_refl _,by decide,by decide,(lay_rd _ _ 2 _ rfl).below (below_new _ _),fun k hk=>by simp at hk;omega⟩
 | 3,_=>⟨(some ⟨w.heap.size+3,0,none⟩),[[97],[97]],2,hb.cell 3,Nat.le_refl _,by decide,by decide,(lay_rd _ _ 3 _ rfl).below (below_new _ _),fun k hk=>by simp at hk;omega⟩
 | 4,_=>⟨(some ⟨w.heap.size+4,0,none⟩),[[97],[98]],2,hb.cell 4,Nat.le_refl _,by decide,by decide,(lay_rd _ _ 4 _ rfl).below (below_new _ _),fun k hk=>by simp at hk;omega⟩
 | 5,_=>⟨(some ⟨w.heap.size+5,0,none⟩),[[98],[97]],2,hb.cell 5,Nat.le_refl _,by decide,by decide,(lay_rd _ _ 5 _ rfl).below (below_new _ _),fun k hk=>by simp at hk;omega⟩
 | 6,_=>⟨(some ⟨w.heap.size+6,0,none⟩),[[98],[98],[97]],3,hb.cell 6,Nat.le_refl _,by decide,by decide,(lay_rd _ _ 6 _ rfl).below (below_new _ _),fun k hk=>by simp at hk;omega⟩
 | 7,_=>⟨none,[],0,hb.cell 7,Nat.le_refl _,by decide,by decide,RdS.nil _ _,fun k hk=>by simp at hk⟩
 | 8,_=>⟨(some ⟨w.heap.size+7,0,none⟩),[[99],[97]],2,hb.cell 8,Nat.le_refl _,by decide,by decide,(lay_rd _ _ 7 _ rfl).below (below_new _ _),fun k hk=>by simp at hk;omega⟩
 | 9,_=>⟨(some ⟨w.heap.size+8,0,none⟩),[[98],[98]],2,hb.cell 9,Nat.le_refl _,by decide,by decide,(lay_rd _ _ 8 _ rfl).below (below_new _ _),fun k hk=>by simp at hk;omega⟩
 | 10,_=>⟨(some ⟨w.heap.size+9,0,none⟩),[[65]],1,hb.cell 10,Nat.le_refl _,by decide,by decide,(lay_rd _ _ 9 _ rfl).below (below_new _ _),fun k hk=>by simp at hk;omega⟩
 | 11,_=>⟨(some ⟨w.heap.size+10,0,none⟩),[[97],[]],2,hb.cell 11,Nat.le_refl _,by decide,by decide,(lay_rd _ _ 10 _ rfl).below (below_new _ _),fun k hk=>by simp at hk;omega⟩
 | 12,_=>⟨(some ⟨w.heap.size+11,0,none⟩),[[46]],1,hb.cell 12,Nat.le_refl _,by decide,by decide,(lay_rd _ _ 11 _ rfl).below (below_new _ _),fun k hk=>by simp at hk;omega⟩
 | m+13,h=>absurd h (by omega)
set_option maxHeartbeats 2000000 in
set_option maxRecDepth 100000 in
theorem names_any (w:World) (n:Int) (h0:-9223372036854775808≤n) (h1:n≤9223372036854775807) :
    Calls Tryz.prog 84 #[.int .i64 n] w fun e w'=>∃ (A:Option Addr) (q:List Bs) (cap:Nat),e=.returned (.slice A q.length cap)∧q.length≤cap∧q.length≤3∧(∀ s ∈ q,s.length≤1)∧RdS w' A q∧Below w.heap.size w w'∧∀ k,A.map (·.block)=some k→w.heap.size≤k:=by
 obtain ⟨wz,hwz⟩:∃ wz,wz=nmWorld w:=⟨_,rfl⟩
 have HBW:Hid (Below w.heap.size w wz):=by
  show Below _ _ _
  rw [hwz]
  exact (lay_below nmList w).trans ((below_new (layTxts w nmList) _).mono (lay_below nmList w).size)
 have HC:=Lib.hid (nm_cells w)
 rw [← hwz] at HC
 go_enter Tryz.func84,Tryz.ntmps84
 go_upto_region 2 with (fail)
 have hw2:wz=((((((((((((w.alloc (.cells #[.string ⟨#[97]⟩] 9)).alloc (.cells #[.string ⟨#[98]⟩] 9)).alloc (.cells #[.string ⟨#[99]⟩] 9)).alloc (.cells #[.string ⟨#[97]⟩,.string ⟨#[97]⟩] 9)).alloc (.cells #[.string ⟨#[97]⟩,.string ⟨#[98]⟩] 9)).alloc (.cells #[.string ⟨#[98]⟩,.string ⟨#[97]⟩] 9)).alloc (.cells #[.string ⟨#[98]⟩,.string ⟨#[98]⟩,.string ⟨#[97]⟩] 9)).alloc (.cells #[.string ⟨#[99]⟩,.string ⟨#[97]⟩] 9)).alloc (.cells #[.string ⟨#[98]⟩,.string ⟨#[98]⟩] 9)).alloc (.cells #[.string ⟨#[65]⟩] 9)).alloc (.cells #[.string ⟨#[97]⟩,.string ⟨#[]⟩] 9)).alloc (.cells #[.string ⟨#[46]⟩] 9)).alloc (.cells #[.slice (some ⟨w.heap.size,0,none⟩) 1 1,.slice (some ⟨w.heap.size+1,0,none⟩) 1 1,.slice (some ⟨w.heap.size+2,0,none⟩) 1 1,.slice (some ⟨w.heap.size+3,0,none⟩) 2 2,.slice (some ⟨w.heap.size+4,0,none⟩) 2 2,.slice (some ⟨w.heap.size+5,0,none⟩) 2 2,.slice (some ⟨w.heap.size+6,0,none⟩) 3 3,.slice none 0 0,.slice (some ⟨w.heap.size+7,0,none⟩) 2 2,.slice (some ⟨w.heap.size+8,0,none⟩) 2 2,.slice (some ⟨w.heap.size+9,0,none⟩) 1 1,.slice (some ⟨w.heap.size+10,0,none⟩) 2 2,.slice (some ⟨w.heap.size+11,0,none⟩) 1 1] 26):=hwz
 rw [← hw2]
 clear hw2 hwz
 go_wp2_with fail
 refine (Wi.within_nat n 0 1048576 0 1048576 wz rfl rfl (by omega) (by omega) h0 h1).mono ?_
 rintro e _ ⟨k,_,hk,rfl,rfl⟩
 obtain ⟨m,hm⟩:∃ m,m=k % 13:=⟨_,rfl⟩
 have em:Int.tmod (k:Int) 13=(m:Int):=by rw [hm];rfl
 have hm13:m<13:=by omega
 obtain ⟨A,q,cap,c0,hq1,hq2,hq3,hq4,hq5⟩:=HC.out m hm13
 have HE:Hid (q.length≤cap∧q.length≤3∧(∀ s ∈ q,s.length≤1)∧RdS wz A q∧∀ k,A.map (·.block)=some k→w.heap.size≤k):=⟨hq1,hq2,hq3,hq4,hq5⟩
 clear hq1 hq2 hq3 hq4 hq5 hm
 go_wp2_with fail
 go_ret
 exact ⟨A,q,cap,rfl,HE.out.1,HE.out.2.1,HE.out.2.2.1,HE.out.2.2.2.1,HBW.out,HE.out.2.2.2.2⟩
end Tm
end Go.Proofs.YtjoedamiilgajaaGreat
namespace Go.Proofs.YtjoedamiilgajaaGreat
open Go.RowKit
theorem cut_any (A:Option Addr) (l:List UInt8) (cap n:Nat) (hc:l.length≤cap) (_hn:n≤1000000) (_hl:l.length≤9223372036854775807) (w:World) :
    Calls Tryz.prog 41 #[.slice A l.length cap,.int .i64 n] w fun e w'=>e=.returned (.slice A (l.take n).length cap)∧w=w':=by
 by_cases h:n<l.length
 ·have HD:Hid ((l.take n).length=n):=by show _=_;rw [List.length_take];omega
  have hsl:=fun W=>sl_h W A l.length cap n (by omega)
  go_enter Tryz.func41,Tryz.ntmps41
  go_wp2
  go_ret
  exact ⟨by rw [HD.out];rfl,rfl⟩
 ·have HD:Hid ((l.take n).length=l.length):=by show _=_;rw [List.length_take];omega
  go_enter Tryz.func41,Tryz.ntmps41
  go_wp2
  go_ret
  exact ⟨by rw [HD.out];rfl,rfl⟩
end Go.Proofs.YtjoedamiilgajaaGreat
namespace Go.Proofs.YtjoedamiilgajaaGreat
open Go.RowKit
namespace Tr
variable {t:T}
theorem count_two {α:Type} {p:α→Bool}:∀ {l:List α} {a b:α},a ∈ l→b ∈ l→a≠b→p a=true→p b=true→2≤l.countP p
 | c :: l,a,b,ha,hb,hne,hpa,hpb=>by
   rcases List.mem_cons.1 ha with rfl|ha1 <;> rcases List.mem_cons.1 hb with rfl|hb1
   ·exact absurd rfl hne
   ·rw [List.countP_cons_of_pos hpa]
    have:=List.countP_pos_iff.2 ⟨b,hb1,hpb⟩
    omega
   ·rw [List.countP_cons_of_pos hpb]
    have:=List.countP_pos_iff.2 ⟨a,ha1,hpa⟩
    omega
   ·have:=count_two ha1 hb1 hne hpa hpb
    rw [List.countP_cons]
    omega
theorem Good.one_name (h:Good t) {j:Int} (hk:kindOf t j=2) {e e':En} (he:e ∈ t) (he':e' ∈ t) {n n':Nm} (hn:n ∈ e.names) (hn':n' ∈ e'.names) (h1:n.2=j) (h2:n'.2=j):e=e'∧n=n':=by
 have key:(e.nd.id,n)=(e'.nd.id,n'):=by
  refine Decidable.byContradiction fun hne=>?_
  have hc:2≤count t j:=count_two (flat_mem.2 ⟨e,he,rfl,hn⟩) (flat_mem.2 ⟨e',he',rfl,hn'⟩) hne (by simp [h1]) (by simp [h2])
  obtain ⟨ej,hej⟩:=h.has hk
  obtain ⟨hm,hid⟩:=find_some hej
  have h3:=h.linked ej hm
  have h4:=h.dirs ej hm (by rw [← kindOf_of hej];exact hk)
  have h5:=(h.leads e he n hn).1
  rw [hid,if_neg (by rw [← h1];exact h5),h4] at h3
  omega
 obtain ⟨h3,h4⟩:=Prod.mk.inj key
 refine ⟨?_,h4⟩
 have:=h.ris.find he
 rw [h3,h.ris.find he'] at this
 injection this with this
 exact this.symm
theorem Good.look_on (h:Good t) {i:Int} {q:List Bs} {e:En} (he:e ∈ t) (hl:lookF t i q=(e.nd.id,0)) (hk:e.nd.kind=2) {n:Nm} (hn:n ∈ e.names):lookF t i (q++[n.1])=(n.2,0):=by
 have hf:=h.ris.find he
 rw [lookF_app,hl,if_neg (by simp),lookF_cons,kindOf_of hf,if_neg (by simp [hk]),kids_of hf,get_of_mem (h.each e he).rise hn]
 rfl
theorem Good.look_back (h:Good t) {i j:Int} {q:List Bs} {x:Bs} (hl:lookF t i (q++[x])=(j,0)):∃ e ∈ t,lookF t i q=(e.nd.id,0)∧e.nd.kind=2∧(x,j) ∈ e.names:=by
 rw [lookF_app] at hl
 split at hl
 ·rename_i h2
  rw [hl] at h2
  exact absurd rfl h2
 ·rename_i h2
  have h3:(lookF t i q).2=0:=Decidable.byContradiction h2
  obtain ⟨d,hd⟩:∃ d,d=(lookF t i q).1:=⟨_,rfl⟩
  rw [← hd,lookF_cons] at hl
  split at hl
  ·cases hl
  ·rename_i h4
   have hk:kindOf t d=2:=Decidable.byContradiction h4
   obtain ⟨en,hen⟩:=h.has hk
   rw [kids_of hen] at hl
   cases hg:get en.names x with
   | none=>rw [hg] at hl;cases hl
   | some k =>
     rw [hg] at hl
     have hkj:k=j:=congrArg Prod.fst (show (k,0)=(j,0) from hl)
     refine ⟨en,(find_some hen).1,Prod.ext ?_ h3,by rw [← kindOf_of hen];exact hk,hkj ▸ get_mem hg⟩
     rw [(find_some hen).2,hd]
theorem Good.one_path (h:Good t):∀ (n:Nat) (a b:List Bs) (j:Int),a.length≤n→lookF t 0 a=(j,0)→lookF t 0 b=(j,0)→kindOf t j=2→a=b
 | n,a,b,j,hn,ha,hb,hk=>by
   have zero:∀ (q:List Bs) (x:Bs),lookF t 0 (q++[x])=(0,0)→False:=fun q x hq=>by
    obtain ⟨e,he,_,_,hm⟩:=h.look_back hq
    exact (h.leads e he _ hm).1 rfl
   rcases List.eq_nil_or_concat a with rfl|⟨a1,x,rfl⟩
   ·have hj:(0:Int)=j:=congrArg Prod.fst (show ((0:Int),0)=(j,0) from ha)
    subst hj
    rcases List.eq_nil_or_concat b with rfl|⟨b1,y,rfl⟩
    ·rfl
    ·rw [List.concat_eq_append] at hb
     exact (zero _ _ hb).elim
   ·rw [List.concat_eq_append] at ha hn ⊢
    rcases List.eq_nil_or_concat b with rfl|⟨b1,y,rfl⟩
    ·have hj:(0:Int)=j:=congrArg Prod.fst (show ((0:Int),0)=(j,0) from hb)
     subst hj
     exact (zero _ _ ha).elim
    ·rw [List.concat_eq_append] at hb ⊢
     obtain ⟨e,he,h1,h2,h3⟩:=h.look_back ha
     obtain ⟨e',he',h4,h5,h6⟩:=h.look_back hb
     obtain ⟨rfl,h7⟩:=h.one_name hk he he' h3 h6 rfl rfl
     obtain ⟨rfl,_⟩:=Prod.mk.inj h7
     rw [List.length_append] at hn
     have:a1.length<n:=Nat.lt_of_lt_of_le (Nat.lt_succ_self _) hn
     rw [h.one_path (n-1) a1 b1 e.nd.id (by omega) h1 h4 (by rw [kindOf_of (h.ris.find he)];exact h2)]
termination_by n=>n
decreasing_by omega
def Reach (t:T) (i j:Int):Prop:=∃ q,lookF t i q=(j,0)∧kindOf t j=2
theorem Good.reach_on (h:Good t) {i:Int} {e:En} (he:e ∈ t) (hr:Reach t i e.nd.id) {n:Nm} (hn:n ∈ e.names) (hk:kindOf t n.2=2):Reach t i n.2:=by
 obtain ⟨q,h1,h2⟩:=hr
 exact ⟨q++[n.1],h.look_on he h1 (by rw [← kindOf_of (h.ris.find he)];exact h2) hn,hk⟩
theorem Good.reach_back (h:Good t) {i:Int} {e:En} (he:e ∈ t) {n:Nm} (hn:n ∈ e.names) (hr:Reach t i n.2):n.2=i∨Reach t i e.nd.id:=by
 obtain ⟨q,h1,h2⟩:=hr
 rcases List.eq_nil_or_concat q with rfl|⟨q1,x,rfl⟩
 ·exact .inl (congrArg Prod.fst (show (i,0)=(n.2,0) from h1)).symm
 ·rw [List.concat_eq_append] at h1
  obtain ⟨e',he',h3,h4,h5⟩:=h.look_back h1
  obtain ⟨rfl,_⟩:=h.one_name h2 he he' hn h5 rfl rfl
  exact .inr ⟨q1,h3,by rw [kindOf_of (h.ris.find he)];exact h4⟩
theorem fold_le (t:T) (n:Nat):∀ (l:List Nm) (m:Nat),m≤l.foldl (fun m k=>max m (1+high t n k.2)) m
 | [],m=>Nat.le_refl _
 | k :: l,m=>by
   rw [List.foldl_cons]
   exact Nat.le_trans (Nat.le_max_left _ _) (fold_le t n l _)
theorem fold_mem (t:T) (n:Nat):∀ (l:List Nm) (m:Nat) (k:Nm),k ∈ l→1+high t n k.2≤l.foldl (fun m k=>max m (1+high t n k.2)) m
 | c :: l,m,k,hk=>by
   rw [List.foldl_cons]
   rcases List.mem_cons.1 hk with rfl|hk
   ·exact Nat.le_trans (Nat.le_max_right _ _) (fold_le t n l _)
   ·exact fold_mem t n l _ k hk
theorem look_high (t:T):∀ (n:Nat) (q:List Bs) (i j:Int),lookF t i q=(j,0)→q.length≤n→q.length≤high t n i
 | _,[],_,_,_,_=>Nat.zero_le _
 | n+1,x :: q,i,j,h,hl=>by
   rw [lookF_cons] at h
   split at h
   ·cases h
   ·cases hg:get (kids t i) x with
    | none=>rw [hg] at h;cases h
    | some k =>
      rw [hg] at h
      have h1:=look_high t n q k j h (by simpa using hl)
      have h2:=fold_mem t n (kids t i) 0 (x,k) (get_mem hg)
      rw [high]
      simp only [List.length_cons]
      simp only at h2
      omega
end Tr
end Go.Proofs.YtjoedamiilgajaaGreat
namespace Go.Proofs.YtjoedamiilgajaaGreat
open Go.RowKit
namespace Tr
variable {t:T}
theorem look_dir {i j:Int} {q:List Bs} (h:lookF t i q=(j,0)) (hk:kindOf t j=2):kindOf t i=2:=by
 cases q with
 | nil =>
   have:i=j:=congrArg Prod.fst (show (i,0)=(j,0) from h)
   rw [this];exact hk
 | cons x q =>
   rw [lookF_cons] at h
   split at h
   ·cases h
   ·rename_i h1
    exact Decidable.byContradiction h1
theorem moved_mem {d0 d i:Int} {x0 x:Bs} {e:En} (h:e ∈ put (cut t d0 x0) d x i):∃ e0 ∈ t,e.nd=e0.nd∧∀ n ∈ e.names,(n=(x,i)∧e0.nd.id=d)∨(n ∈ e0.names∧¬ (e0.nd.id=d0∧n.1=x0)):=by
 obtain ⟨e1,he1,h1⟩:=upd_mem h
 obtain ⟨e0,he0,h2⟩:=upd_mem he1
 have h0:e1.nd=e0.nd∧∀ n ∈ e1.names,n ∈ e0.names∧¬ (e0.nd.id=d0∧n.1=x0):=by
  by_cases h3:e0.nd.id=d0
  ·rw [if_pos h3] at h2
   subst h2
   refine ⟨rfl,fun n hn=>?_⟩
   have h4:=List.mem_filter.1 hn
   refine ⟨h4.1,fun h5=>?_⟩
   have:=h4.2
   simp [h5.2] at this
  ·rw [if_neg h3] at h2
   subst h2
   exact ⟨rfl,fun n hn=>⟨hn,fun h5=>h3 h5.1⟩⟩
 refine ⟨e0,he0,?_⟩
 by_cases h3:e1.nd.id=d
 ·rw [if_pos h3] at h1
  subst h1
  refine ⟨h0.1,fun n hn=>?_⟩
  rcases ins_mem.1 hn with h4|h4
  ·exact .inl ⟨h4,by rw [← h0.1];exact h3⟩
  ·exact .inr (h0.2 n h4)
 ·rw [if_neg h3] at h1
  subst h1
  exact ⟨h0.1,fun n hn=>.inr (h0.2 n hn)⟩
open Classical in
theorem rename_good (h:Good t) (q r:List Bs):Good (rename t q r).2:=by
 unfold rename
 split
 ·exact h
 split
 ·exact h
 rename_i hfr
 split
 ·exact h
 rename_i hl0
 split
 ·exact h
 rename_i hq0
 split
 ·exact h
 rename_i hp0
 split
 ·exact h
 rename_i hwi
 split
 ·exact h
 split
 ·exact h
 rename_i hno
 split
 ·exact h
 rename_i h8
 have hl:(lookF t 0 q).2=0:=Decidable.byContradiction hl0
 have hp:(place t r).2.2=0:=Decidable.byContradiction hp0
 have hfo:=formed_ok (show formed r=0 from Decidable.byContradiction hfr)
 obtain ⟨i,hi⟩:∃ i,i=(lookF t 0 q).1:=⟨_,rfl⟩
 have hlk:lookF t 0 q=(i,0):=Prod.ext hi.symm hl
 obtain ⟨q1,x0,d0,en0,hqe,hlr0,hfd0,hkd0,hg0,hpl0⟩:=h.looked hlk hq0
 obtain ⟨r1,x,en,d,hre,hlr,hpl,hfd,hkd,hid⟩:=h.placed hp
 rw [hpl] at hno
 rw [← hi] at h8 hwi ⊢
 rw [hpl0,hpl]
 simp only at hno ⊢
 rw [kids_of hfd] at hno
 have hgn:get en.names x=none:=get_no hno
 obtain ⟨hm0,hid0⟩:=find_some hfd0
 obtain ⟨hi0,hsi⟩:=h.leads en0 hm0 _ (get_mem hg0)
 simp only at hi0 hsi
 have pre1:=h.cut hfd0 hg0
 have hf':∃ en',find (cut t d0 x0) d=some en'∧en'.nd.kind=2∧get en'.names x=none:=by
  unfold cut
  rw [find_upd (cut_id x0),hfd]
  refine ⟨_,rfl,?_,?_⟩
  ·dsimp only
   split <;> exact hkd
  ·dsimp only
   split
   ·show get (del en.names x0) x=none
    rw [get_del]
    split
    ·rfl
    ·exact hgn
   ·exact hgn
 obtain ⟨en',hf1,hk1,hg1⟩:=hf'
 have hxg:Pa.good x=true:=hfo.2 x (by rw [hre];simp)
 have hs1:(find (cut t d0 x0) i).isSome=true:=by unfold cut;rw [some_upd (cut_id x0)];exact hsi
 have pre2:=pre1.put hf1 hk1 hxg hg1 hi0 hs1
 have hkinds:∀ j,kindOf (put (cut t d0 x0) d x i) j=kindOf t j:=fun j=>by
  unfold put cut
  rw [kindOf_upd (put_id x i) (fun _=>rfl),kindOf_upd (cut_id x0) (fun _=>rfl)]
 obtain ⟨dep,hd0,hd⟩:=h.deep
 have hkd2:kindOf t d=2:=by rw [kindOf_of hfd];exact hkd
 obtain ⟨hd8,hdr⟩:=h.place_dep ⟨hd0,hd⟩ hre hlr hkd2 hfo.1
 have hrlen:r.length=r1.length+1:=by rw [hre,List.length_append];rfl
 have hnr:¬ Reach t i d:=by
  rintro ⟨q2,h1,h2⟩
  have h3:lookF t 0 (q++q2)=(d,0):=by rw [lookF_app,hlk,if_neg (by simp)];exact h1
  have h4:=h.one_path r1.length r1 (q++q2) d (Nat.le_refl _) hlr h3 h2
  refine hwi ⟨look_dir h1 h2,?_⟩
  unfold within
  rw [List.isPrefixOf_iff_prefix,hre,h4,List.append_assoc]
  exact List.prefix_append _ _
 have hn0:¬ Reach t i 0:=by
  rintro ⟨q2,h1,h2⟩
  rcases List.eq_nil_or_concat q2 with rfl|⟨q3,y,rfl⟩
  ·exact hi0 (congrArg Prod.fst (show (i,0)=((0:Int),0) from h1))
  ·rw [List.concat_eq_append] at h1
   obtain ⟨e,he,_,_,hm⟩:=h.look_back h1
   exact (h.leads e he _ hm).1 rfl
 obtain ⟨dep',hin,hout⟩:∃ dep':Int→Nat,(∀ j,Reach t i j→dep' j=dep j-dep i+dep d+1)∧(∀ j,¬ Reach t i j→dep' j=dep j):=⟨fun j=>if Reach t i j then dep j-dep i+dep d+1 else dep j,fun j h=>if_pos h,fun j h=>if_neg h⟩
 refine pre2.good (dep:=dep') ⟨by rw [hout 0 hn0];exact hd0,fun e he n hn=>?_⟩ fun e he hei=>?_
 ·obtain ⟨e0,he0,hnd,hnm⟩:=moved_mem he
  rw [hnd,hkinds]
  rcases hnm n hn with ⟨rfl,h1⟩|⟨h1,h2⟩
  ·rw [h1,hout d hnr]
   refine ⟨hd8,fun h3=>?_⟩
   rw [hin i ⟨[],rfl,h3⟩]
   omega
  ·obtain ⟨h3,h4⟩:=hd e0 he0 n h1
   by_cases hr:Reach t i e0.nd.id
   ·obtain ⟨q2,hq2,hk2⟩:=hr
    have hki:=look_dir hq2 hk2
    have h5:=h.look_dep ⟨hd0,hd⟩ q2 i hki (by rw [hq2]) (by rw [hq2];exact hk2)
    rw [hq2] at h5
    simp only at h5
    have h6:=h.look_on he0 hq2 (by rw [← kindOf_of (h.ris.find he0)];exact hk2) h1
    have h7:=look_high t 64 _ i n.2 h6 (by rw [List.length_append];show _+1≤_;omega)
    rw [List.length_append] at h7
    have h9:q2.length+1≤high t 64 i:=h7
    rw [hin e0.nd.id ⟨q2,hq2,hk2⟩]
    refine ⟨by omega,fun hkn=>?_⟩
    rw [hin n.2 (h.reach_on he0 ⟨q2,hq2,hk2⟩ h1 hkn)]
    have:=h4 hkn
    omega
   ·rw [hout _ hr]
    refine ⟨h3,fun hkn=>?_⟩
    rw [hout n.2 fun hrn=>?_]
    ·exact h4 hkn
    ·rcases h.reach_back he0 h1 hrn with h5|h5
     ·obtain ⟨h6,h7⟩:=h.one_name (by rw [← h5];exact hkn) he0 hm0 h1 (get_mem hg0) h5 rfl
      exact h2 ⟨by rw [h6];exact hid0,by rw [h7]⟩
     ·exact hr h5
 ·obtain ⟨e0,he0,hnd,_⟩:=moved_mem he
  rw [hnd] at hei ⊢
  have h1:count (put (cut t d0 x0) d x i) i=count (cut t d0 x0) i+1:=by
   rw [count_put pre1.rise hf1,if_pos rfl]
  have h2:count t i=count (cut t d0 x0) i+1:=by
   rw [count_cut h.ris hfd0 (h.each en0 hm0).rise hg0 i,if_pos rfl]
  refine ⟨?_,h.dirs e0 he0,h.shut e0 he0⟩
  have h3:=h.linked e0 he0
  rw [hei] at h3 ⊢
  rw [h1,← h2]
  exact h3
end Tr
end Go.Proofs.YtjoedamiilgajaaGreat
namespace Go.Proofs.YtjoedamiilgajaaGreat
open Go.RowKit
namespace Tr
variable {t:T}
def Short (t:T):Prop:=∀ e ∈ t,∀ n ∈ e.names,n.1.length≤1
theorem Short.upd (h:Short t) (i:Int) (f:En→En) (hf:∀ e ∈ t,∀ n ∈ (f e).names,n.1.length≤1):Short (upd t i f):=fun e he n hn=>by
 obtain ⟨e0,h0,rfl⟩:=upd_mem he
 split at hn
 ·exact hf e0 h0 n hn
 ·exact h e0 h0 n hn
theorem Short.put (h:Short t) (d:Int) {x:Bs} (hx:x.length≤1) (k:Int):Short (put t d x k):=h.upd d _ fun e he n hn=>by
 rcases ins_mem.1 hn with rfl|h1
 ·exact hx
 ·exact h e he n h1
theorem Short.cut (h:Short t) (d:Int) (x:Bs):Short (cut t d x):=h.upd d _ fun e he n hn=>h e he n (List.mem_filter.1 hn).1
theorem Short.more (h:Short t) (i c:Int):Short (more t i c):=h.upd i _ fun e he n hn=>h e he n hn
theorem Short.remove (h:Short t) (i:Int):Short (remove t i):=fun e he n hn=>h e (List.mem_filter.1 he).1 n hn
theorem Short.insE (h:Short t) (k kd:Int):Short (insE t (fresh k kd)):=fun e he n hn=>by
 rcases insE_mem.1 he with rfl|h1
 ·exact absurd hn (by simp [fresh])
 ·exact h e h1 n hn
theorem place_short (t:T) {p:List Bs} (hp:∀ s ∈ p,s.length≤1):(place t p).2.1.length≤1:=by
 unfold place
 split
 ·exact Nat.zero_le _
 ·split
  ·exact Nat.zero_le _
  ·split
   ·exact Nat.zero_le _
   ·rename_i h1 _ _
    show (p.getLastD []).length≤1
    rw [List.getLastD_eq_getLast?,List.getLast?_eq_some_getLast h1]
    exact hp _ (List.getLast_mem h1)
theorem new_short:Short new:=fun e he n hn=>by
 simp [new,fresh] at he
 subst he
 exact absurd hn (by simp)
theorem make_short (h:Short t) {p:List Bs} (hp:∀ s ∈ p,s.length≤1) (kind:Int):Short (make t p kind).2:=by
 unfold make
 repeat' split
 all_goals first
  | exact h
  | exact (h.insE _ _).put _ (place_short t hp) _
theorem link_short (h:Short t) (p:List Bs) {z:List Bs} (hz:∀ s ∈ z,s.length≤1):Short (link t p z).2:=by
 unfold link
 repeat' split
 all_goals first
  | exact h
  | exact (h.put _ (place_short t hz) _).more _ _
theorem unlink_short (h:Short t) (p:List Bs):Short (unlink t p).2:=by
 unfold unlink unlinked
 repeat' split
 all_goals first
  | exact h
  | exact ((h.cut _ _).more _ _).remove _
  | exact (h.cut _ _).more _ _
theorem rmdir_short (h:Short t) (p:List Bs):Short (rmdir t p).2:=by
 unfold rmdir
 repeat' split
 all_goals first
  | exact h
  | exact (h.cut _ _).remove _
theorem rename_short (h:Short t) (p:List Bs) {z:List Bs} (hz:∀ s ∈ z,s.length≤1):Short (rename t p z).2:=by
 unfold rename
 repeat' split
 all_goals first
  | exact h
  | exact (h.cut _ _).put _ (place_short t hz) _
theorem append_short (h:Short t) (i:Int) (b:Bs):Short (append t i b).2:=by
 unfold append
 repeat' split
 all_goals first
  | exact h
  | (refine Short.upd h i _ ?_
     exact fun e he n hn=>h e he n hn)
theorem seal_short (h:Short t) (i:Int) (u:Nat):Short (seal_ t i u).2:=by
 unfold seal_
 repeat' split
 all_goals first
  | exact h
  | (refine Short.remove (Short.upd h i _ ?_) _
     exact fun e he n hn=>h e he n hn)
  | (refine Short.upd h i _ ?_
     exact fun e he n hn=>h e he n hn)
theorem keep_short (h:Short t) (i:Int) (u:Nat):Short (keep t i u).2:=by
 unfold keep
 repeat' split
 all_goals first
  | exact h
  | (refine Short.upd h i _ ?_
     exact fun e he n hn=>h e he n hn)
theorem drop_short (h:Short t) (i:Int):Short (drop t i).2:=by
 unfold drop
 repeat' split
 all_goals first
  | exact h
  | (refine Short.remove (fun e he n hn=>?_) _
     obtain ⟨e0,h0,rfl⟩:=List.mem_map.1 he
     exact h e0 h0 n (List.mem_filter.1 hn).1)
/-! A name that is too long to be there. -/
theorem Short.none (h:Short t) (i:Int) {x:Bs} (hx:1<x.length):get (kids t i) x=none:=by
 unfold get
 rw [Option.map_eq_none_iff,List.find?_eq_none]
 intro n hn
 obtain ⟨e,he,hm⟩:=kids_mem hn
 have h1:=h e (find_some he).1 n hm
 simp only [beq_iff_eq]
 rintro rfl
 omega
end Tr
end Go.Proofs.YtjoedamiilgajaaGreat

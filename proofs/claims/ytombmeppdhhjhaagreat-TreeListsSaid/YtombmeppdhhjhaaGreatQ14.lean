/-
  OWN WORK. TwPair, TwArgs, MsRows, GtShow, GtEye, PaBuild, DrMono, UpBuild, UpJoin, GtSort, GtSorted
-/
import Derived.Test.YtombmeppdhhjhaaGreatQ09
import Derived.Test.YtombmeppdhhjhaaGreatQ10
import Derived.Test.YtombmeppdhhjhaaGreatQ11
import Derived.Test.YtombmeppdhhjhaaGreatQ13
import Derived.Test.YtombmeppdhhjhaaGreatQ01
import Derived.Test.YtombmeppdhhjhaaGreatQ03
import Derived.Test.YtombmeppdhhjhaaGreatQ12
import Derived.Shelf.Strings.Builder1
import Derived.Test.YtombmeppdhhjhaaGreatQ02
import Derived.Sort.Grow

namespace Go.Proofs.YtombmeppdhhjhaaGreat
open Go.RowKit Rc
open Tr (Nm En T)
namespace Tw
theorem rds_stay {w w' : World} {A : Option Addr} {l : List Bs} (h : RdS w A l) (hs : w.heap.size ≤ w'.heap.size) (hb : 0 < l.length → ∀ k, A.map (·.block) = some k → w'.heap[k]? = w.heap[k]?) : RdS w' A l := fun hl => by
  obtain ⟨b, off, rfl, hlt, hc⟩ := h hl
  exact ⟨b, off, rfl, Nat.lt_of_lt_of_le hlt hs, fun j x hj => (World.cell?_of_block (hb hl b rfl)).trans (hc j x hj)⟩
theorem rd_stay {w w' : World} {A : Option Addr} {l : Bs} (h : Rd w A l) (hs : w.heap.size ≤ w'.heap.size) (hb : 0 < l.length → ∀ k, A.map (·.block) = some k → w'.heap[k]? = w.heap[k]?) : Rd w' A l := fun hl => h.keep (fun _p _ hA => World.cell?_of_block (hb hl _ hA)) hs hl
structure St (v r : Value) (Tp Tq : T) (g0 : Nat) (cs : List Value) (A A2 : Option Addr) (q q2 : List Bs) (X : Option Addr) (b : Bs) (c c2 cb : Nat) (C : Nat → Prop) (w0 : World) (B1 B2 : Nat → Prop) (w : World) : Prop where
  t : Tm.TAt v Tp B1 w
  r : Rf.RAt r Tq B2 w
  ap : ∀ k, B1 k → ¬ B2 k
  box : Blk w g0 56 cs
  ob : ¬ B1 g0 ∧ ¬ B2 g0
  rq : RdS w A q
  rq2 : RdS w A2 q2
  rb : Rd w X b
  fq : 0 < q.length → ∀ k, A.map (·.block) = some k → k < w.heap.size ∧ ¬ B1 k ∧ ¬ B2 k
  fq2 : 0 < q2.length → ∀ k, A2.map (·.block) = some k → k < w.heap.size ∧ ¬ B1 k ∧ ¬ B2 k
  fb : 0 < b.length → ∀ k, X.map (·.block) = some k → k < w.heap.size ∧ ¬ B1 k ∧ ¬ B2 k
  hq : q.length ≤ c ∧ q.length ≤ 1000000 ∧ ∀ s ∈ q, s.length ≤ 1000000
  hq2 : q2.length ≤ c2 ∧ q2.length ≤ 1000000 ∧ ∀ s ∈ q2, s.length ≤ 1000000
  hb : b.length ≤ cb ∧ b.length ≤ 1000000
  mod : Mod w0 w C
  sub : ∀ k, B1 k ∨ B2 k → C k ∨ w0.heap.size ≤ k
variable {v r : Value} {Tp Tq T' : T} {g0 : Nat} {cs : List Value} {A A2 X : Option Addr} {q q2 : List Bs} {b : Bs} {c c2 cb : Nat} {C B1 B2 : Nat → Prop} {w0 w w' : World}
theorem St.lt1 (h : St v r Tp Tq g0 cs A A2 q q2 X b c c2 cb C w0 B1 B2 w) {k : Nat} (hk : B1 k) : k < w.heap.size := Tm.tobj.lt h.t k hk
theorem St.lt2 (h : St v r Tp Tq g0 cs A A2 q q2 X b c c2 cb C w0 B1 B2 w) {k : Nat} (hk : B2 k) : k < w.heap.size := Rf.robj.lt h.r k hk
theorem St.later (h : St v r Tp Tq g0 cs A A2 q q2 X b c c2 cb C w0 B1 B2 w) (hb : Below w.heap.size w w') : St v r Tp Tq g0 cs A A2 q q2 X b c c2 cb C w0 B1 B2 w' :=
  ⟨Tm.tobj.keep h.t hb.size fun k hk => hb.block k (h.lt1 hk), Rf.robj.keep h.r hb.size fun k hk => hb.block k (h.lt2 hk), h.ap, h.box.below hb h.box.lt, h.ob, h.rq.below hb, h.rq2.below hb, h.rb.below hb,
    fun hl k hk => ⟨Nat.lt_of_lt_of_le (h.fq hl k hk).1 hb.size, (h.fq hl k hk).2⟩, fun hl k hk => ⟨Nat.lt_of_lt_of_le (h.fq2 hl k hk).1 hb.size, (h.fq2 hl k hk).2⟩, fun hl k hk => ⟨Nat.lt_of_lt_of_le (h.fb hl k hk).1 hb.size, (h.fb hl k hk).2⟩, h.hq, h.hq2, h.hb,
    Ob.mod_more h.mod (Mod.of_below hb fun _ => False) (fun _ h => h.elim), h.sub⟩
theorem St.left (h : St v r Tp Tq g0 cs A A2 q q2 X b c c2 cb C w0 B1 B2 w) {B1' : Nat → Prop} (ht : Tm.TAt v T' B1' w') (hm : Mod w w' B1) (hs : ∀ k, B1' k → B1 k ∨ w.heap.size ≤ k) : St v r T' Tq g0 cs A A2 q q2 X b c c2 cb C w0 B1' B2 w' := by
  have hn : ∀ {k : Nat}, k < w.heap.size → ¬ B1 k → ¬ B1' k := fun hk hno hB => (hs _ hB).elim hno fun h1 => by omega
  refine ⟨ht, Rf.robj.keep h.r hm.size fun k hk => hm.block k (h.lt2 hk) fun h1 => h.ap k h1 hk, fun k h1 h2 => ?_, (hm.block g0 h.box.lt h.ob.1).trans h.box, ⟨hn h.box.lt h.ob.1, h.ob.2⟩,
    rds_stay h.rq hm.size fun hl k hk => hm.block k (h.fq hl k hk).1 (h.fq hl k hk).2.1, rds_stay h.rq2 hm.size fun hl k hk => hm.block k (h.fq2 hl k hk).1 (h.fq2 hl k hk).2.1, rd_stay h.rb hm.size fun hl k hk => hm.block k (h.fb hl k hk).1 (h.fb hl k hk).2.1,
    fun hl k hk => ⟨Nat.lt_of_lt_of_le (h.fq hl k hk).1 hm.size, hn (h.fq hl k hk).1 (h.fq hl k hk).2.1, (h.fq hl k hk).2.2⟩, fun hl k hk => ⟨Nat.lt_of_lt_of_le (h.fq2 hl k hk).1 hm.size, hn (h.fq2 hl k hk).1 (h.fq2 hl k hk).2.1, (h.fq2 hl k hk).2.2⟩, fun hl k hk => ⟨Nat.lt_of_lt_of_le (h.fb hl k hk).1 hm.size, hn (h.fb hl k hk).1 (h.fb hl k hk).2.1, (h.fb hl k hk).2.2⟩, h.hq, h.hq2, h.hb,
    Ob.mod_more h.mod hm fun k hk => h.sub k (.inl hk), fun k hk => ?_⟩
  · rcases hs k h1 with h3 | h3
    · exact h.ap k h3 h2
    · have := h.lt2 h2; omega
  · rcases hk with hk | hk
    · exact (hs k hk).elim (fun h1 => h.sub k (.inl h1)) fun h1 => .inr (Nat.le_trans h.mod.size h1)
    · exact h.sub k (.inr hk)
theorem St.right (h : St v r Tp Tq g0 cs A A2 q q2 X b c c2 cb C w0 B1 B2 w) {B2' : Nat → Prop} (ht : Rf.RAt r T' B2' w') (hm : Mod w w' B2) (hs : ∀ k, B2' k → B2 k ∨ w.heap.size ≤ k) : St v r Tp T' g0 cs A A2 q q2 X b c c2 cb C w0 B1 B2' w' := by
  have hn : ∀ {k : Nat}, k < w.heap.size → ¬ B2 k → ¬ B2' k := fun hk hno hB => (hs _ hB).elim hno fun h1 => by omega
  refine ⟨Tm.tobj.keep h.t hm.size fun k hk => hm.block k (h.lt1 hk) fun h1 => h.ap k hk h1, ht, fun k h1 h2 => ?_, (hm.block g0 h.box.lt h.ob.2).trans h.box, ⟨h.ob.1, hn h.box.lt h.ob.2⟩,
    rds_stay h.rq hm.size fun hl k hk => hm.block k (h.fq hl k hk).1 (h.fq hl k hk).2.2, rds_stay h.rq2 hm.size fun hl k hk => hm.block k (h.fq2 hl k hk).1 (h.fq2 hl k hk).2.2, rd_stay h.rb hm.size fun hl k hk => hm.block k (h.fb hl k hk).1 (h.fb hl k hk).2.2,
    fun hl k hk => ⟨Nat.lt_of_lt_of_le (h.fq hl k hk).1 hm.size, (h.fq hl k hk).2.1, hn (h.fq hl k hk).1 (h.fq hl k hk).2.2⟩, fun hl k hk => ⟨Nat.lt_of_lt_of_le (h.fq2 hl k hk).1 hm.size, (h.fq2 hl k hk).2.1, hn (h.fq2 hl k hk).1 (h.fq2 hl k hk).2.2⟩, fun hl k hk => ⟨Nat.lt_of_lt_of_le (h.fb hl k hk).1 hm.size, (h.fb hl k hk).2.1, hn (h.fb hl k hk).1 (h.fb hl k hk).2.2⟩, h.hq, h.hq2, h.hb,
    Ob.mod_more h.mod hm fun k hk => h.sub k (.inr hk), fun k hk => ?_⟩
  · rcases hs k h2 with h3 | h3
    · exact h.ap k h1 h3
    · have := h.lt1 h1; omega
  · rcases hk with hk | hk
    · exact h.sub k (.inl hk)
    · exact (hs k hk).elim (fun h1 => h.sub k (.inr h1)) fun h1 => .inr (Nat.le_trans h.mod.size h1)
def AnsT (v r : Value) (Tp Tq : T) (g0 : Nat) (cs : List Value) (A A2 : Option Addr) (q q2 : List Bs) (X : Option Addr) (b : Bs) (c c2 cb : Nat) (C : Nat → Prop) (w0 : World) (B2 : Nat → Prop) (x : Value) (e : Ending) (w' : World) : Prop := e = .returned x ∧ ∃ B1', Hid (St v r Tp Tq g0 cs A A2 q q2 X b c c2 cb C w0 B1' B2 w')
def AnsR (v r : Value) (Tp Tq : T) (g0 : Nat) (cs : List Value) (A A2 : Option Addr) (q q2 : List Bs) (X : Option Addr) (b : Bs) (c c2 cb : Nat) (C : Nat → Prop) (w0 : World) (B1 : Nat → Prop) (x : Value) (e : Ending) (w' : World) : Prop := e = .returned x ∧ ∃ B2', Hid (St v r Tp Tq g0 cs A A2 q q2 X b c c2 cb C w0 B1 B2' w')
theorem St.makeT (h : St v r Tp Tq g0 cs A A2 q q2 X b c c2 cb C w0 B1 B2 w) (hG : Tr.Good Tp) (kind : Int) : Calls Tryz.prog 14 #[v, .slice A q.length c, .int .i64 kind] w (AnsT v r (Tr.make Tp q kind).2 Tq g0 cs A A2 q q2 X b c c2 cb C w0 B2 (.tuple #[.int .i64 (Tr.make Tp q kind).1.1, .int .i64 ((Tr.make Tp q kind).1.2 : Nat)])) := by
  obtain ⟨p, av, gs, S, rfl, H, rfl⟩ := h.t
  refine (Tm.make_any H hG A q c kind h.rq h.hq.1 h.hq.2.1 h.hq.2.2).mono ?_
  rintro e w' ⟨he, S', k1, k2, k3⟩
  exact ⟨he, S', h.left k1 k2 k3⟩
theorem St.makeR (h : St v r Tp Tq g0 cs A A2 q q2 X b c c2 cb C w0 B1 B2 w) (hG : Tr.Good Tq) (kind : Int) : Calls Tryz.prog 15 #[r, .slice A q.length c, .int .i64 kind] w (AnsR v r Tp (Tr.make Tq q kind).2 g0 cs A A2 q q2 X b c c2 cb C w0 B1 (.tuple #[.int .i64 (Tr.make Tq q kind).1.1, .int .i64 ((Tr.make Tq q kind).1.2 : Nat)])) := by
  obtain ⟨p, nv, dv, ev, D, rfl, H, rfl⟩ := h.r
  refine (Rf.make_any H hG A q c kind h.rq h.hq.1 h.hq.2.1 h.hq.2.2).mono ?_
  rintro e w' ⟨he, S', k1, k2, k3⟩
  exact ⟨he, S', h.right k1 k2 k3⟩
theorem St.linkT (h : St v r Tp Tq g0 cs A A2 q q2 X b c c2 cb C w0 B1 B2 w) (hG : Tr.Good Tp) : Calls Tryz.prog 18 #[v, .slice A q.length c, .slice A2 q2.length c2] w (AnsT v r (Tr.link Tp q q2).2 Tq g0 cs A A2 q q2 X b c c2 cb C w0 B2 (.int .i64 ((Tr.link Tp q q2).1 : Nat))) := by
  obtain ⟨p, av, gs, S, rfl, H, rfl⟩ := h.t
  refine (Tm.link_any H hG A A2 q q2 c c2 h.rq h.hq.1 h.hq.2.1 h.hq.2.2 h.rq2 h.hq2.1 h.hq2.2.1 h.hq2.2.2).mono ?_
  rintro e w' ⟨he, S', k1, k2, k3⟩
  exact ⟨he, S', h.left k1 k2 k3⟩
theorem St.linkR (h : St v r Tp Tq g0 cs A A2 q q2 X b c c2 cb C w0 B1 B2 w) (hG : Tr.Good Tq) : Calls Tryz.prog 19 #[r, .slice A q.length c, .slice A2 q2.length c2] w (AnsR v r Tp (Tr.link Tq q q2).2 g0 cs A A2 q q2 X b c c2 cb C w0 B1 (.int .i64 ((Tr.link Tq q q2).1 : Nat))) := by
  obtain ⟨p, nv, dv, ev, D, rfl, H, rfl⟩ := h.r
  refine (Rf.link_any H hG A A2 q q2 c c2 h.rq h.hq.1 h.hq.2.1 h.hq.2.2 h.rq2 h.hq2.1 h.hq2.2.1 h.hq2.2.2).mono ?_
  rintro e w' ⟨he, S', k1, k2, k3⟩
  exact ⟨he, S', h.right k1 k2 k3⟩
theorem St.unlinkT (h : St v r Tp Tq g0 cs A A2 q q2 X b c c2 cb C w0 B1 B2 w) (hG : Tr.Good Tp) : Calls Tryz.prog 20 #[v, .slice A q.length c] w (AnsT v r (Tr.unlink Tp q).2 Tq g0 cs A A2 q q2 X b c c2 cb C w0 B2 (.int .i64 ((Tr.unlink Tp q).1 : Nat))) := by
  obtain ⟨p, av, gs, S, rfl, H, rfl⟩ := h.t
  refine (Tm.unlink_any H hG A q c h.rq h.hq.1 h.hq.2.1 h.hq.2.2).mono ?_
  rintro e w' ⟨he, S', k1, k2, k3⟩
  exact ⟨he, S', h.left k1 k2 k3⟩
theorem St.unlinkR (h : St v r Tp Tq g0 cs A A2 q q2 X b c c2 cb C w0 B1 B2 w) (hG : Tr.Good Tq) : Calls Tryz.prog 21 #[r, .slice A q.length c] w (AnsR v r Tp (Tr.unlink Tq q).2 g0 cs A A2 q q2 X b c c2 cb C w0 B1 (.int .i64 ((Tr.unlink Tq q).1 : Nat))) := by
  obtain ⟨p, nv, dv, ev, D, rfl, H, rfl⟩ := h.r
  refine (Rf.unlink_any H hG A q c h.rq h.hq.1 h.hq.2.1 h.hq.2.2).mono ?_
  rintro e w' ⟨he, S', k1, k2, k3⟩
  exact ⟨he, S', h.right k1 k2 k3⟩
theorem St.rmdirT (h : St v r Tp Tq g0 cs A A2 q q2 X b c c2 cb C w0 B1 B2 w) (hG : Tr.Good Tp) : Calls Tryz.prog 16 #[v, .slice A q.length c] w (AnsT v r (Tr.rmdir Tp q).2 Tq g0 cs A A2 q q2 X b c c2 cb C w0 B2 (.int .i64 ((Tr.rmdir Tp q).1 : Nat))) := by
  obtain ⟨p, av, gs, S, rfl, H, rfl⟩ := h.t
  refine (Tm.rmdir_any H hG A q c h.rq h.hq.1 h.hq.2.1 h.hq.2.2).mono ?_
  rintro e w' ⟨he, S', k1, k2, k3⟩
  exact ⟨he, S', h.left k1 k2 k3⟩
theorem St.rmdirR (h : St v r Tp Tq g0 cs A A2 q q2 X b c c2 cb C w0 B1 B2 w) (hG : Tr.Good Tq) : Calls Tryz.prog 17 #[r, .slice A q.length c] w (AnsR v r Tp (Tr.rmdir Tq q).2 g0 cs A A2 q q2 X b c c2 cb C w0 B1 (.int .i64 ((Tr.rmdir Tq q).1 : Nat))) := by
  obtain ⟨p, nv, dv, ev, D, rfl, H, rfl⟩ := h.r
  refine (Rf.rmdir_any H hG A q c h.rq h.hq.1 h.hq.2.1 h.hq.2.2).mono ?_
  rintro e w' ⟨he, S', k1, k2, k3⟩
  exact ⟨he, S', h.right k1 k2 k3⟩
theorem St.renameT (h : St v r Tp Tq g0 cs A A2 q q2 X b c c2 cb C w0 B1 B2 w) (hG : Tr.Good Tp) : Calls Tryz.prog 52 #[v, .slice A q.length c, .slice A2 q2.length c2] w (AnsT v r (Tr.rename Tp q q2).2 Tq g0 cs A A2 q q2 X b c c2 cb C w0 B2 (.int .i64 ((Tr.rename Tp q q2).1 : Nat))) := by
  obtain ⟨p, av, gs, S, rfl, H, rfl⟩ := h.t
  refine (Tm.rename_any H hG A A2 q q2 c c2 h.rq h.hq.1 h.hq.2.1 h.hq.2.2 h.rq2 h.hq2.1 h.hq2.2.1 h.hq2.2.2).mono ?_
  rintro e w' ⟨he, S', k1, k2, k3⟩
  exact ⟨he, S', h.left k1 k2 k3⟩
theorem St.renameR (h : St v r Tp Tq g0 cs A A2 q q2 X b c c2 cb C w0 B1 B2 w) (hG : Tr.Good Tq) : Calls Tryz.prog 92 #[r, .slice A q.length c, .slice A2 q2.length c2] w (AnsR v r Tp (Tr.rename Tq q q2).2 g0 cs A A2 q q2 X b c c2 cb C w0 B1 (.int .i64 ((Tr.rename Tq q q2).1 : Nat))) := by
  obtain ⟨p, nv, dv, ev, D, rfl, H, rfl⟩ := h.r
  refine (Rf.rename_any H hG A A2 q q2 c c2 h.rq h.hq.1 h.hq.2.1 h.hq.2.2 h.rq2 h.hq2.1 h.hq2.2.1 h.hq2.2.2).mono ?_
  rintro e w' ⟨he, S', k1, k2, k3⟩
  exact ⟨he, S', h.right k1 k2 k3⟩
theorem St.appendT (h : St v r Tp Tq g0 cs A A2 q q2 X b c c2 cb C w0 B1 B2 w) (hG : Tr.Good Tp) (i : Int) : Calls Tryz.prog 22 #[v, .int .i64 i, .slice X b.length cb] w (AnsT v r (Tr.append Tp i b).2 Tq g0 cs A A2 q q2 X b c c2 cb C w0 B2 (.int .i64 ((Tr.append Tp i b).1 : Nat))) := by
  obtain ⟨p, av, gs, S, rfl, H, rfl⟩ := h.t
  refine (Tm.append_any H hG i X b cb h.rb (by have := h.hb.2; omega)).mono ?_
  rintro e w' ⟨he, S', k1, k2, k3⟩
  exact ⟨he, S', h.left k1 k2 k3⟩
theorem St.appendR (h : St v r Tp Tq g0 cs A A2 q q2 X b c c2 cb C w0 B1 B2 w) (hG : Tr.Good Tq) (i : Int) : Calls Tryz.prog 24 #[r, .int .i64 i, .slice X b.length cb] w (AnsR v r Tp (Tr.append Tq i b).2 g0 cs A A2 q q2 X b c c2 cb C w0 B1 (.int .i64 ((Tr.append Tq i b).1 : Nat))) := by
  obtain ⟨p, nv, dv, ev, D, rfl, H, rfl⟩ := h.r
  refine (Rf.append_any H hG i X b cb h.rb (by have := h.hb.2; omega)).mono ?_
  rintro e w' ⟨he, S', k1, k2, k3⟩
  exact ⟨he, S', h.right k1 k2 k3⟩
theorem St.sealT (h : St v r Tp Tq g0 cs A A2 q q2 X b c c2 cb C w0 B1 B2 w) (hG : Tr.Good Tp) (i : Int) (u : Nat) (hu : u ≤ 18446744073709551615) : Calls Tryz.prog 25 #[v, .int .i64 i, .int .u64 (u : Nat)] w (AnsT v r (Tr.seal_ Tp i u).2 Tq g0 cs A A2 q q2 X b c c2 cb C w0 B2 (.int .i64 ((Tr.seal_ Tp i u).1 : Nat))) := by
  obtain ⟨p, av, gs, S, rfl, H, rfl⟩ := h.t
  refine (Tm.seal_any H hG i u hu).mono ?_
  rintro e w' ⟨he, S', k1, k2, k3⟩
  exact ⟨he, S', h.left k1 k2 k3⟩
theorem St.sealR (h : St v r Tp Tq g0 cs A A2 q q2 X b c c2 cb C w0 B1 B2 w) (hG : Tr.Good Tq) (i : Int) (u : Nat) (hu : u ≤ 18446744073709551615) : Calls Tryz.prog 26 #[r, .int .i64 i, .int .u64 (u : Nat)] w (AnsR v r Tp (Tr.seal_ Tq i u).2 g0 cs A A2 q q2 X b c c2 cb C w0 B1 (.int .i64 ((Tr.seal_ Tq i u).1 : Nat))) := by
  obtain ⟨p, nv, dv, ev, D, rfl, H, rfl⟩ := h.r
  refine (Rf.seal_any H hG i u hu).mono ?_
  rintro e w' ⟨he, S', k1, k2, k3⟩
  exact ⟨he, S', h.right k1 k2 k3⟩
theorem St.keepT (h : St v r Tp Tq g0 cs A A2 q q2 X b c c2 cb C w0 B1 B2 w) (hG : Tr.Good Tp) (i : Int) (u : Nat) (hu : u ≤ 18446744073709551615) : Calls Tryz.prog 27 #[v, .int .i64 i, .int .u64 (u : Nat)] w (AnsT v r (Tr.keep Tp i u).2 Tq g0 cs A A2 q q2 X b c c2 cb C w0 B2 (.int .i64 ((Tr.keep Tp i u).1 : Nat))) := by
  obtain ⟨p, av, gs, S, rfl, H, rfl⟩ := h.t
  refine (Tm.keep_any H hG i u hu).mono ?_
  rintro e w' ⟨he, S', k1, k2, k3⟩
  exact ⟨he, S', h.left k1 k2 k3⟩
theorem St.keepR (h : St v r Tp Tq g0 cs A A2 q q2 X b c c2 cb C w0 B1 B2 w) (hG : Tr.Good Tq) (i : Int) (u : Nat) (hu : u ≤ 18446744073709551615) : Calls Tryz.prog 28 #[r, .int .i64 i, .int .u64 (u : Nat)] w (AnsR v r Tp (Tr.keep Tq i u).2 g0 cs A A2 q q2 X b c c2 cb C w0 B1 (.int .i64 ((Tr.keep Tq i u).1 : Nat))) := by
  obtain ⟨p, nv, dv, ev, D, rfl, H, rfl⟩ := h.r
  refine (Rf.keep_any H hG i u hu).mono ?_
  rintro e w' ⟨he, S', k1, k2, k3⟩
  exact ⟨he, S', h.right k1 k2 k3⟩
theorem St.dropT (h : St v r Tp Tq g0 cs A A2 q q2 X b c c2 cb C w0 B1 B2 w) (hG : Tr.Good Tp) (i : Int) : Calls Tryz.prog 31 #[v, .int .i64 i] w (AnsT v r (Tr.drop Tp i).2 Tq g0 cs A A2 q q2 X b c c2 cb C w0 B2 (.int .i64 ((Tr.drop Tp i).1 : Nat))) := by
  obtain ⟨p, av, gs, S, rfl, H, rfl⟩ := h.t
  refine (Tm.dropT_any H hG i).mono ?_
  rintro e w' ⟨he, S', k1, k2, k3⟩
  exact ⟨he, S', h.left k1 k2 k3⟩
theorem St.dropR (h : St v r Tp Tq g0 cs A A2 q q2 X b c c2 cb C w0 B1 B2 w) (hG : Tr.Good Tq) (i : Int) : Calls Tryz.prog 32 #[r, .int .i64 i] w (AnsR v r Tp (Tr.drop Tq i).2 g0 cs A A2 q q2 X b c c2 cb C w0 B1 (.int .i64 ((Tr.drop Tq i).1 : Nat))) := by
  obtain ⟨p, nv, dv, ev, D, rfl, H, rfl⟩ := h.r
  refine (Rf.drop_any H hG i).mono ?_
  rintro e w' ⟨he, S', k1, k2, k3⟩
  exact ⟨he, S', h.right k1 k2 k3⟩
theorem St.lookT (h : St v r Tp Tq g0 cs A A2 q q2 X b c c2 cb C w0 B1 B2 w) (hG : Tr.Good Tp) : Calls Tryz.prog 54 #[v, .slice A q.length c] w fun e w' => e = .returned (.tuple #[.int .i64 (Tr.look Tp q).1, .int .i64 ((Tr.look Tp q).2 : Nat)]) ∧ Below w.heap.size w w' := by
  obtain ⟨p, av, gs, S, rfl, H, rfl⟩ := h.t
  exact Tm.look_any H hG A q c h.rq h.hq.1 h.hq.2.1 h.hq.2.2
theorem St.lookR (h : St v r Tp Tq g0 cs A A2 q q2 X b c c2 cb C w0 B1 B2 w) (hG : Tr.Good Tq) : Calls Tryz.prog 71 #[r, .slice A q.length c] w fun e w' => e = .returned (.tuple #[.int .i64 (Tr.look Tq q).1, .int .i64 ((Tr.look Tq q).2 : Nat)]) ∧ Below w.heap.size w w' := by
  obtain ⟨p, nv, dv, ev, D, rfl, H, rfl⟩ := h.r
  exact Rf.look_any H.in_ hG H.low A q c h.rq h.hq.2.1 h.hq.2.2
theorem St.nodeT (h : St v r Tp Tq g0 cs A A2 q q2 X b c c2 cb C w0 B1 B2 w) (hG : Tr.Good Tp) (i : Int) : Calls Tryz.prog 55 #[v, .int .i64 i] w fun e w' => e = .returned (.tuple #[(Tr.node Tp i).1.val, .bool (Tr.node Tp i).2]) ∧ Below w.heap.size w w' := by
  obtain ⟨p, av, gs, S, rfl, H, rfl⟩ := h.t
  exact Tm.node_any H hG i
theorem St.nodeR (h : St v r Tp Tq g0 cs A A2 q q2 X b c c2 cb C w0 B1 B2 w) (hG : Tr.Good Tq) (i : Int) : Calls Tryz.prog 40 #[r, .int .i64 i] w fun e w' => e = .returned (.tuple #[(Tr.node Tq i).1.val, .bool (Tr.node Tq i).2]) ∧ Below w.heap.size w w' := by
  obtain ⟨p, nv, dv, ev, D, rfl, H, rfl⟩ := h.r
  exact Rf.node_any H.in_ H.low i (by have := hG.few; omega)
theorem St.listT (h : St v r Tp Tq g0 cs A A2 q q2 X b c c2 cb C w0 B1 B2 w) (hG : Tr.Good Tp) (i : Int) : Calls Tryz.prog 53 #[v, .int .i64 i] w (Tm.LAns (Tr.list Tp i).1 (Tr.list Tp i).2 w) := by
  obtain ⟨p, av, gs, S, rfl, H, rfl⟩ := h.t
  exact Tm.list_any H hG i
theorem St.listR (h : St v r Tp Tq g0 cs A A2 q q2 X b c c2 cb C w0 B1 B2 w) (hG : Tr.Good Tq) (i : Int) : Calls Tryz.prog 72 #[r, .int .i64 i] w (Rf.LAns (Tr.list Tq i).1 (Tr.list Tq i).2 w) := by
  obtain ⟨p, nv, dv, ev, D, rfl, H, rfl⟩ := h.r
  exact Rf.list_any H hG i
theorem St.readT (h : St v r Tp Tq g0 cs A A2 q q2 X b c c2 cb C w0 B1 B2 w) (hG : Tr.Good Tp) (i a m : Int) (h1 : -9223372036854775808 ≤ a ∧ a ≤ 9223372036854775807) (h2 : -9223372036854775808 ≤ m ∧ m ≤ 9223372036854775807) : Calls Tryz.prog 29 #[v, .int .i64 i, .int .i64 a, .int .i64 m] w (Tm.RAns (Tr.read Tp i a m).1 (Tr.read Tp i a m).2 w) := by
  obtain ⟨p, av, gs, S, rfl, H, rfl⟩ := h.t
  exact Tm.read_any H hG i a m h1 h2
theorem St.readR (h : St v r Tp Tq g0 cs A A2 q q2 X b c c2 cb C w0 B1 B2 w) (hG : Tr.Good Tq) (i a m : Int) (h1 : -9223372036854775808 ≤ a ∧ a ≤ 9223372036854775807) (h2 : -9223372036854775808 ≤ m ∧ m ≤ 9223372036854775807) : Calls Tryz.prog 30 #[r, .int .i64 i, .int .i64 a, .int .i64 m] w (Rf.RdAns (Tr.read Tq i a m).1 (Tr.read Tq i a m).2 w) := by
  obtain ⟨p, nv, dv, ev, D, rfl, H, rfl⟩ := h.r
  exact Rf.read_any H hG i a m h1 h2
theorem St.count (h : St v r Tp Tq g0 cs A A2 q q2 X b c c2 cb C w0 B1 B2 w) : Calls Tryz.prog 45 #[v] w fun e w' => e = .returned (.int .i64 (Tp.length : Nat)) ∧ w' = w := by
  obtain ⟨p, av, gs, S, rfl, H, rfl⟩ := h.t
  exact Tm.count_any H
theorem St.refcell (h : St v r Tp Tq g0 cs A A2 q q2 X b c c2 cb C w0 B1 B2 w) : ∃ p Y d, r = .pointer (some ⟨p, 0, none⟩) ∧ w.cell? ⟨p, 0, none⟩ = some (.slice Y Tq.length d) := by
  obtain ⟨p, nv, dv, ev, D, rfl, H, rfl⟩ := h.r
  obtain ⟨Y, d, rfl, _⟩ := Tm.own_form H.in_.nodes
  exact ⟨p, Y, d, rfl, H.in_.box.cell 0⟩
end Tw
end Go.Proofs.YtombmeppdhhjhaaGreat

namespace Go.Proofs.YtombmeppdhhjhaaGreat
open Go.ChangeShapes Go.WideShapes Go.RowKit Go.Deep

structure AskT where
  kd : Int
  p : Int
  z : Int
  dir : Bool
  id : Int
  a : Int
  m : Int
  X : Option Addr
  b : List UInt8
  cb : Nat
  u : Nat
def In64T (i : Int) : Prop := -9223372036854775808 ≤ i ∧ i ≤ 9223372036854775807
def AskT.cells (p : AskT) : List Value := [.int .i64 p.kd, .int .i64 p.p, .int .i64 p.z, .bool p.dir, .int .i64 p.id, .int .i64 p.a, .int .i64 p.m, .slice p.X p.b.length p.cb, .int .u64 (p.u : Nat)]
def AskT.val (p : AskT) : Value := .agg p.cells.toArray
structure AskT.Fits (w : World) (p : AskT) : Prop where
  rd : Rd w p.X p.b
  fits : p.b.length ≤ p.cb
  long : p.b.length ≤ 9223372036854775807
  ip : In64T p.p
  ito : In64T p.z
  iid : In64T p.id
  ia : In64T p.a
  im : In64T p.m
  iu : p.u ≤ 18446744073709551615
structure AskT.Ok (w : World) (a : Addr) (j : Nat) (p : AskT) : Prop where
  cells : ∀ k u, p.cells[k]? = some u → w.cell? (a.add (j * 9 + k)) = some u
  fit : p.Fits w
  lt : a.block < w.heap.size
def AsksT (w : World) (A : Option Addr) (ps : List AskT) : Prop := 0 < ps.length → ∃ a, A = some a ∧ ∀ (j : Nat) (p : AskT), ps[j]? = some p → p.Ok w a j
theorem AsksT.plain {w : World} {A : Option Addr} {ps : List AskT} (h : AsksT w A ps) (h0 : 0 < ps.length) : ∃ b off, A = some ⟨b, off, none⟩ ∧ ∀ (i : Nat) (p : AskT), ps[i]? = some p → p.Ok w ⟨b, off, none⟩ i := by
  obtain ⟨a, rfl, hok⟩ := h h0
  have hs := World.cell?_spot ((hok 0 _ (List.getElem?_eq_getElem h0)).cells 0 _ rfl)
  obtain ⟨b, off, spot⟩ := a
  have : spot = none := by simpa [Addr.add] using hs
  subst this
  exact ⟨b, off, rfl, hok⟩
theorem AskT.Fits.later {w w' : World} {p : AskT} (h : p.Fits w) (hb : Below w.heap.size w w') : p.Fits w' := { h with rd := h.rd.below hb }
theorem AskT.Ok.at_ {w w' : World} {b off j : Nat} {p : AskT} (h : p.Ok w ⟨b, off, none⟩ j) (hb : Below w.heap.size w w') (k : Nat) (u : Value) (hu : p.cells[k]? = some u) : w'.cell? ⟨b, off + j * 9 + k, none⟩ = some u := by
  have c := h.cells k u hu
  simp only [add_plain] at c
  rw [Nat.add_assoc]
  exact (hb.cell (p := ⟨b, off + (j * 9 + k), none⟩) h.lt).trans c
theorem Tryz.cellsAskT : Tryz.prog.cellsOf 56 = 9 := by kernel_rfl
theorem Tryz.cellsIntT : Tryz.prog.cellsOf 3 = 1 := by kernel_rfl
theorem Tryz.cellsBoolT : Tryz.prog.cellsOf 4 = 1 := by kernel_rfl
theorem Tryz.cellsU64T : Tryz.prog.cellsOf 43 = 1 := by kernel_rfl
theorem Tryz.cellsBytesT : Tryz.prog.cellsOf 39 = 1 := by kernel_rfl
set_option maxRecDepth 100000 in
set_option maxHeartbeats 1000000 in
theorem asksT_of {H : Type} {enc : TypeId × Value → H} {W : World} {fuel : Nat} {v : Value} {x : DataW H × List MemPlace}
    (h : DataW.trod enc Tryz.prog W 0 (fun _ => true) true fuel 53 [v] = some x) :
    ∃ (ps : List AskT) (A : Option Addr) (cap : Nat), v = .slice A ps.length cap ∧ ps.length ≤ cap ∧ ps.length ≤ 9223372036854775807 ∧ AsksT W A ps := by
  rcases open_slice Tryz.underlying53 h with ⟨hcs, _⟩ | ⟨a, len, cap, m, n, D, Pl, hcs, _, hl, hm, hmm, hx, hi⟩
  · simp only [List.cons.injEq, and_true] at hcs
    exact ⟨[], none, 0, hcs, by simp, by simp, fun h0 => absurd h0 (by simp)⟩
  · simp only [List.cons.injEq, and_true] at hcs
    subst hcs
    simp only [if_true] at hmm
    have key : ∀ i : Fin len, ∃ p : AskT, p.Ok W a i := fun i => by
      obtain ⟨cs, hc, ht⟩ := hi i (by have := i.2; omega)
      rw [Tryz.cellsAskT] at hc
      obtain ⟨_, hlen, hat⟩ := World.cells?_some hc
      obtain ⟨ys, n', _, hys, _, hyl, hf⟩ := DataW.trod_struct Tryz.underlying56 ht
      match cs, hlen, ys, hyl with
      | [v0, v1, v2, v3, v4, v5, v6, v7, v8], _, [y0, y1, y2, y3, y4, y5, y6, y7, y8], _ =>
        have h0 : DataW.trod enc Tryz.prog W 0 (fun _ => true) true n' 3 ((List.drop 0 [v0, v1, v2, v3, v4, v5, v6, v7, v8]).take (Tryz.prog.cellsOf 3)) = some y0 := hf 0 _ rfl
        rw [Tryz.cellsIntT] at h0
        have h1 : DataW.trod enc Tryz.prog W 0 (fun _ => true) true n' 3 ((List.drop 1 [v0, v1, v2, v3, v4, v5, v6, v7, v8]).take (Tryz.prog.cellsOf 3)) = some y1 := hf 1 _ rfl
        rw [Tryz.cellsIntT] at h1
        have h2 : DataW.trod enc Tryz.prog W 0 (fun _ => true) true n' 3 ((List.drop 2 [v0, v1, v2, v3, v4, v5, v6, v7, v8]).take (Tryz.prog.cellsOf 3)) = some y2 := hf 2 _ rfl
        rw [Tryz.cellsIntT] at h2
        have h3 : DataW.trod enc Tryz.prog W 0 (fun _ => true) true n' 4 ((List.drop 3 [v0, v1, v2, v3, v4, v5, v6, v7, v8]).take (Tryz.prog.cellsOf 4)) = some y3 := hf 3 _ rfl
        rw [Tryz.cellsBoolT] at h3
        have h4 : DataW.trod enc Tryz.prog W 0 (fun _ => true) true n' 3 ((List.drop 4 [v0, v1, v2, v3, v4, v5, v6, v7, v8]).take (Tryz.prog.cellsOf 3)) = some y4 := hf 4 _ rfl
        rw [Tryz.cellsIntT] at h4
        have h5 : DataW.trod enc Tryz.prog W 0 (fun _ => true) true n' 3 ((List.drop 5 [v0, v1, v2, v3, v4, v5, v6, v7, v8]).take (Tryz.prog.cellsOf 3)) = some y5 := hf 5 _ rfl
        rw [Tryz.cellsIntT] at h5
        have h6 : DataW.trod enc Tryz.prog W 0 (fun _ => true) true n' 3 ((List.drop 6 [v0, v1, v2, v3, v4, v5, v6, v7, v8]).take (Tryz.prog.cellsOf 3)) = some y6 := hf 6 _ rfl
        rw [Tryz.cellsIntT] at h6
        have h7 : DataW.trod enc Tryz.prog W 0 (fun _ => true) true n' 39 ((List.drop 7 [v0, v1, v2, v3, v4, v5, v6, v7, v8]).take (Tryz.prog.cellsOf 39)) = some y7 := hf 7 _ rfl
        rw [Tryz.cellsBytesT] at h7
        have h8 : DataW.trod enc Tryz.prog W 0 (fun _ => true) true n' 43 ((List.drop 8 [v0, v1, v2, v3, v4, v5, v6, v7, v8]).take (Tryz.prog.cellsOf 43)) = some y8 := hf 8 _ rfl
        rw [Tryz.cellsU64T] at h8
        have at_ : ∀ k u, [v0, v1, v2, v3, v4, v5, v6, v7, v8][k]? = some u → W.cell? ((a.add (i * 9)).add k) = some u := fun k u hu => match k, hu with
          | 0, hu => (show W.cell? ((a.add (i * 9)).add 0) = some v0 from hat 0 (by omega)).trans hu
          | 1, hu => (show W.cell? ((a.add (i * 9)).add 1) = some v1 from hat 1 (by omega)).trans hu
          | 2, hu => (show W.cell? ((a.add (i * 9)).add 2) = some v2 from hat 2 (by omega)).trans hu
          | 3, hu => (show W.cell? ((a.add (i * 9)).add 3) = some v3 from hat 3 (by omega)).trans hu
          | 4, hu => (show W.cell? ((a.add (i * 9)).add 4) = some v4 from hat 4 (by omega)).trans hu
          | 5, hu => (show W.cell? ((a.add (i * 9)).add 5) = some v5 from hat 5 (by omega)).trans hu
          | 6, hu => (show W.cell? ((a.add (i * 9)).add 6) = some v6 from hat 6 (by omega)).trans hu
          | 7, hu => (show W.cell? ((a.add (i * 9)).add 7) = some v7 from hat 7 (by omega)).trans hu
          | 8, hu => (show W.cell? ((a.add (i * 9)).add 8) = some v8 from hat 8 (by omega)).trans hu
          | k + 9, hu => by simp at hu
        obtain ⟨k0, e0, _, w0⟩ := DataW.trod_int (cs := [v0]) Tryz.underlying3 h0
        obtain ⟨k1, e1, _, w1⟩ := DataW.trod_int (cs := [v1]) Tryz.underlying3 h1
        obtain ⟨k2, e2, _, w2⟩ := DataW.trod_int (cs := [v2]) Tryz.underlying3 h2
        obtain ⟨k3, e3, _⟩ := DataW.trod_bool (cs := [v3]) Tryz.underlying4 h3
        obtain ⟨k4, e4, _, w4⟩ := DataW.trod_int (cs := [v4]) Tryz.underlying3 h4
        obtain ⟨k5, e5, _, w5⟩ := DataW.trod_int (cs := [v5]) Tryz.underlying3 h5
        obtain ⟨k6, e6, _, w6⟩ := DataW.trod_int (cs := [v6]) Tryz.underlying3 h6
        obtain ⟨l, A, c, e7, hlc, hll, hr⟩ := bytes_of (v := v7) h7
        obtain ⟨k8, e8, _, w8⟩ := DataW.trod_int (cs := [v8]) Tryz.underlying43 h8
        simp only [List.cons.injEq, and_true] at e0 e1 e2 e3 e4 e5 e6 e8
        have hu : 0 ≤ k8 ∧ k8 ≤ 18446744073709551615 := bounds_u64 w8
        obtain ⟨u, rfl⟩ : ∃ u : Nat, k8 = (u : Int) := ⟨k8.toNat, by omega⟩
        subst e0 e1 e2 e3 e4 e5 e6 e7 e8
        have lt : a.block < W.heap.size := by
          have a0 := at_ 0 _ rfl
          rcases Nat.lt_or_ge ((a.add (i * 9)).add 0).block W.heap.size with h | h
          · rwa [block_of_add, block_of_add] at h
          · simp [World.cell?, Array.getElem?_eq_none h] at a0
        exact ⟨⟨k0, k1, k2, k3, k4, k5, k6, A, l, c, u⟩, ⟨fun k x hx => by rw [← add_of_add]; exact at_ k x hx, ⟨hr, hlc, hll, bounds_i64 w1, bounds_i64 w2, bounds_i64 w4, bounds_i64 w5, bounds_i64 w6, by show u ≤ 18446744073709551615; omega⟩, lt⟩⟩
    obtain ⟨f, hf⟩ := Classical.axiomOfChoice key
    refine ⟨List.ofFn f, some a, cap, by rw [List.length_ofFn], by rw [List.length_ofFn]; exact hl, by rw [List.length_ofFn]; exact max_le (Nat.le_trans hl hm), fun _ => ⟨a, rfl, fun i p hp => ?_⟩⟩
    have hjl : i < len := by
      have := (List.getElem?_eq_some_iff.1 hp).1
      simpa using this
    have e : p = f ⟨i, hjl⟩ := by
      rw [List.getElem?_ofFn, dif_pos hjl] at hp
      exact (Option.some.inj hp).symm
    subst e
    exact hf ⟨i, hjl⟩
end Go.Proofs.YtombmeppdhhjhaaGreat

namespace Go.Proofs.YtombmeppdhhjhaaGreat
open Go.RowKit Rc
namespace Ms
theorem RdS.keep {w w' : World} {A : Option Addr} {l : List Bs} (h : RdS w A l) (hb : ∀ p : Addr, p.block < w.heap.size → A.map (·.block) = some p.block → w'.cell? p = w.cell? p) (hs : w.heap.size ≤ w'.heap.size) : RdS w' A l := by
  intro hl
  obtain ⟨b, off, rfl, hlt, hc⟩ := h hl
  exact ⟨b, off, rfl, by omega, fun j x hx => (hb ⟨b, off + j, none⟩ hlt rfl).trans (hc j x hx)⟩

theorem Tryz.infoSt : (Tryz.prog.info? 26).map (fun i => (i.zero, i.size, i.bytes)) = some (some (.slice none 0 0), 1, 24) := by kernel_rfl
theorem info_sl : ∃ i0, Tryz.prog.info? 26 = some i0 ∧ i0.zero = some (.slice none 0 0) ∧ i0.size = 1 ∧ i0.bytes = 24 := by
  have h := Tryz.infoSt
  simp only [Option.map_eq_some_iff, Prod.mk.injEq] at h
  obtain ⟨i0, h1, h2, h3, h4⟩ := h
  exact ⟨i0, h1, h2, h3, h4⟩
theorem rows_under2 : Tryz.prog.underlying 27 = some (.slice 26) := by kernel_rfl

def RdL (w : World) (A : Option Addr) (L : List (List Bs)) : Prop :=
  0 < L.length → ∃ b off, A = some ⟨b, off, none⟩ ∧ b < w.heap.size ∧ ∀ j x, L[j]? = some x → ∃ A' c, w.cell? ⟨b, off + j, none⟩ = some (.slice A' x.length c) ∧ x.length ≤ c ∧ RdS w A' x
theorem RdL.nil (w : World) (A : Option Addr) : RdL w A [] := fun h => absurd h (by simp)
theorem RdL.below {w w' : World} {A : Option Addr} {L : List (List Bs)} (h : RdL w A L) (hb : Below w.heap.size w w') : RdL w' A L := by
  intro hl
  obtain ⟨b, off, rfl, hlt, hc⟩ := h hl
  refine ⟨b, off, rfl, Nat.lt_of_lt_of_le hlt hb.size, fun j x hx => ?_⟩
  obtain ⟨A', c, h1, h2, h3⟩ := hc j x hx
  exact ⟨A', c, (hb.cell (p := ⟨b, off + j, none⟩) hlt).trans h1, h2, h3.below hb⟩
theorem RdL.later {w w' : World} {A : Option Addr} {L : List (List Bs)} (h : RdL w A L) (hb : Later w w') : RdL w' A L := h.below hb
theorem RdL.cut {w : World} {A : Option Addr} {L : List (List Bs)} (h : RdL w A L) (k cap : Nat) (hc : L.length ≤ cap) : RdL w (cutA A k cap) (L.drop k) := by
  intro hl
  rw [List.length_drop] at hl
  obtain ⟨b, off, rfl, hlt, hcell⟩ := h (by omega)
  unfold cutA
  rw [if_neg (by omega)]
  refine ⟨b, off + k, by simp [add_plain], hlt, fun j x hx => ?_⟩
  rw [List.getElem?_drop] at hx
  rw [Nat.add_assoc]
  exact hcell _ _ hx
theorem RdL.take {w : World} {A : Option Addr} {L : List (List Bs)} (h : RdL w A L) (k : Nat) : RdL w A (L.take k) := by
  intro hl
  rw [List.length_take] at hl
  obtain ⟨b, off, rfl, hlt, hcell⟩ := h (by omega)
  refine ⟨b, off, rfl, hlt, fun j x hx => hcell j x ?_⟩
  rw [List.getElem?_take] at hx
  split at hx
  · exact hx
  · cases hx
theorem RdL.at_ {w : World} {A : Option Addr} {L : List (List Bs)} (h : RdL w A L) (j : Nat) (hj : j < L.length) : ∃ b off x A' c, A = some ⟨b, off, none⟩ ∧ L[j]? = some x ∧ w.cell? ⟨b, off + j, none⟩ = some (.slice A' x.length c) ∧ x.length ≤ c ∧ RdS w A' x := by
  obtain ⟨b, off, hA, _, hc⟩ := h (by omega)
  obtain ⟨A', c, h1, h2, h3⟩ := hc j L[j] (List.getElem?_eq_getElem hj)
  exact ⟨b, off, L[j], A', c, hA, List.getElem?_eq_getElem hj, h1, h2, h3⟩
def LOwn (B : Nat) (O : Option Addr → List Bs → Prop) (x : Value) (L : List (List Bs)) (S : Nat → Prop) (w : World) : Prop :=
  ∃ xs : List Value, w.ownsRow B 26 1 x L.length xs ∧ (∀ b, x.ownBlock = some b → S b) ∧ ∀ (j : Nat) (y : List Bs), L[j]? = some y → ∃ A c, xs[j]? = some (Value.slice A y.length c) ∧ y.length ≤ c ∧ ((RdS w A y ∧ ∀ b, A.map (·.block) = some b → S b ∧ x.ownBlock ≠ some b) ∨ O A y)
def noOld : Option Addr → List Bs → Prop := fun _ _ => False
theorem LOwn.mono {B B' : Nat} {O O' : Option Addr → List Bs → Prop} {x : Value} {L : List (List Bs)} {S S' : Nat → Prop} {w : World} (h : LOwn B O x L S w) (hB : B' ≤ B) (hO : ∀ A y, O A y → O' A y) (hS : ∀ b, S b → S' b) : LOwn B' O' x L S' w := by
  obtain ⟨xs, h1, h2, h3⟩ := h
  refine ⟨xs, ⟨h1.1, ?_⟩, fun b hb => hS b (h2 b hb), fun j y hj => ?_⟩
  · rcases h1.2 with h | ⟨g, cap, cur, h4, h5, h6⟩
    · exact .inl h
    · exact .inr ⟨g, cap, cur, h4, by omega, h6⟩
  · obtain ⟨A, c, h4, h5, h6⟩ := h3 j y hj
    refine ⟨A, c, h4, h5, h6.imp (fun h => ⟨h.1, fun b hb => ⟨hS b (h.2 b hb).1, (h.2 b hb).2⟩⟩) (hO A y)⟩
theorem LOwn.keep {B : Nat} {O : Option Addr → List Bs → Prop} {x : Value} {L : List (List Bs)} {S : Nat → Prop} {w w' : World} (h : LOwn B O x L S w) (hs : w.heap.size ≤ w'.heap.size) (hb : ∀ b, S b → w'.heap[b]? = w.heap[b]?) : LOwn B O x L S w' := by
  obtain ⟨xs, h1, h2, h3⟩ := h
  refine ⟨xs, ⟨h1.1, ?_⟩, h2, fun j y hj => ?_⟩
  · rcases h1.2 with h | ⟨g, cap, cur, h4, h5, h6, h7⟩
    · exact .inl h
    · subst h4
      exact .inr ⟨g, cap, cur, rfl, h5, (hb g (h2 g rfl)).trans h6, h7⟩
  · obtain ⟨A, c, h4, h5, h6⟩ := h3 j y hj
    refine ⟨A, c, h4, h5, h6.imp (fun h => ⟨RdS.keep h.1 (fun p hp hA => by unfold World.cell?; rw [hb p.block (h.2 _ hA).1]) hs, h.2⟩) id⟩
theorem LOwn.nil (B : Nat) (O : Option Addr → List Bs → Prop) (S : Nat → Prop) (w : World) : LOwn B O (.slice none 0 0) [] S w := ⟨[], ⟨rfl, .inl ⟨rfl, rfl⟩⟩, (fun b hb => by simp [Value.ownBlock] at hb), (fun j y hj => by simp at hj)⟩
theorem LOwn.rd {B : Nat} {O : Option Addr → List Bs → Prop} {x : Value} {L : List (List Bs)} {S : Nat → Prop} {w : World} (h : LOwn B O x L S w) (hO : ∀ A y, O A y → RdS w A y) : ∃ A c, x = .slice A L.length c ∧ L.length ≤ c ∧ RdL w A L ∧ (∀ b, A.map (·.block) = some b → S b) := by
  obtain ⟨xs, h1, h2, h3⟩ := h
  rcases h1.2 with ⟨rfl, h0⟩ | ⟨g, cap, cur, rfl, hb, hg, hn, hm, hsz, hx⟩
  · exact ⟨none, 0, by rw [h0], by omega, fun hp => by omega, fun b hb => by simp at hb⟩
  · refine ⟨_, cap, rfl, hn, fun _ => ⟨g, 0, rfl, ?_, fun j y hj => ?_⟩, fun b hb => h2 b (by simpa [Value.ownBlock] using hb)⟩
    · exact (Array.getElem?_eq_some_iff.1 hg).1
    · obtain ⟨A, c, h4, h5, h6⟩ := h3 j y hj
      refine ⟨A, c, ?_, h5, h6.elim (·.1) (hO A y)⟩
      rw [cell_of_row w g (0 + j) cur _ _ hg, Nat.zero_add]
      rw [← hx, List.getElem?_take] at h4
      split at h4
      · simpa using h4
      · cases h4
theorem LOwn.one {w : World} {A : Option Addr} {y : List Bs} {c : Nat} {O : Option Addr → List Bs → Prop} {S : Nat → Prop} (hc : y.length ≤ c) (hr : (RdS w A y ∧ ∀ b, A.map (·.block) = some b → S b ∧ b < w.heap.size) ∨ O A y) : LOwn w.heap.size O (.slice (some ⟨w.heap.size, 0, none⟩) 1 1) [y] (fun b => S b ∨ b = w.heap.size) (w.alloc (.cells #[.slice A y.length c] 26)) := by
  refine ⟨[.slice A y.length c], ⟨rfl, .inr ⟨w.heap.size, 1, #[.slice A y.length c], rfl, Nat.le_refl _, heap_alloc_new w _, Nat.le_refl _, by unfold maxLen; omega, rfl, rfl⟩⟩, fun b hb => .inr (by simpa [Value.ownBlock] using hb.symm), fun j z hj => ?_⟩
  have hj0 : j = 0 := by
    have := (List.getElem?_eq_some_iff.1 hj).1
    simp at this
    exact this
  subst hj0
  obtain rfl : y = z := by simpa using hj
  refine ⟨A, c, rfl, hc, hr.imp (fun h => ⟨h.1.below (below_new w _), fun b hb => ⟨.inl (h.2 b hb).1, ?_⟩⟩) id⟩
  have := (h.2 b hb).2
  simp only [Value.ownBlock, ne_eq, Option.some.injEq]
  omega
set_option maxRecDepth 100000 in
theorem run_append_rows {w : World} {B : Nat} {O : Option Addr → List Bs → Prop} {v x : Value} {L L2 : List (List Bs)} {S S2 : Nat → Prop} (ty : TypeId) (h : LOwn B O v L S w) (h2 : LOwn B O x L2 S2 w) (hpos : 0 < L2.length) (hsep : ∀ b, S b → ¬ S2 b) (hlt : ∀ b, S b ∨ S2 b → b < w.heap.size) (hB : B ≤ w.heap.size) (hn : L.length + L2.length ≤ 1000000000) :
    ∃ v' w', (Builtin.append_ #[27, 27] ty #[v, x]).run Tryz.prog w = .ok v' w' ∧ LOwn B O v' (L ++ L2) (fun b => (S b ∨ S2 b) ∨ v'.ownBlock = some b) w' ∧ w.grownBy w' v.ownBlock ∧ (v'.ownBlock = v.ownBlock ∨ v'.ownBlock = some w.heap.size) ∧ (∀ b, v'.ownBlock = some b → b < w'.heap.size) := by
  obtain ⟨i0, hi, hz0, hz1, hz2⟩ := info_sl
  obtain ⟨xs, h3, h4, h5⟩ := h
  obtain ⟨ys, h6, h7, h8⟩ := h2
  rcases h6.2 with ⟨rfl, h0⟩ | ⟨g, cap, cur, rfl, hb, hg, hnc, hm, hsz, hx⟩
  · omega
  have hyl : ys.length = L2.length := by have := h6.1; omega
  have hcell : ∀ j u, ys[j]? = some u → w.cell? ((⟨g, 0, none⟩ : Addr).add j) = some u := by
    intro j u hu
    rw [add_plain, cell_of_row w g (0 + j) cur _ _ hg, Nat.zero_add]
    rw [← hx, List.getElem?_take] at hu
    split at hu
    · simpa using hu
    · cases hu
  have hone : ∀ u ∈ ys, u.oneCell' = true := by
    intro u hu
    obtain ⟨j, hj, rfl⟩ := List.getElem_of_mem hu
    obtain ⟨A, c, h9, _⟩ := h8 j (L2[j]'(by omega)) (List.getElem?_eq_getElem (by omega))
    rw [List.getElem?_eq_getElem hj] at h9
    injection h9 with h9
    rw [h9]; rfl
  obtain ⟨v', w', r1, r2, r3, _, r5⟩ := run_append_own_at (P := Tryz.prog) (w := w) B 27 ty 26 i0 (.slice none 0 0) 1 24 rows_under2 hi hz0 hz1 hz2 rfl (by decide) v L.length xs h3 ⟨g, 0, none⟩ L2.length cap ys (by omega) hcell hone (by unfold maxLen; omega) (by omega) hB
  have hg2 : g < w.heap.size := (Array.getElem?_eq_some_iff.1 hg).1
  have hS2 : S2 g := h7 g rfl
  refine ⟨v', w', r1, ⟨xs ++ ys, by rw [List.length_append]; exact r2, fun b hb => ?_, fun j y hj => ?_⟩, r3, r5, fun b hb => ?_⟩
  · exact .inr hb
  · have old : ∀ A : Option Addr, RdS w A y → (∀ b, A.map (·.block) = some b → (S b ∨ S2 b) ∧ v.ownBlock ≠ some b) → RdS w' A y ∧ ∀ b, A.map (·.block) = some b → ((S b ∨ S2 b) ∨ v'.ownBlock = some b) ∧ v'.ownBlock ≠ some b := by
      intro A hr hA
      refine ⟨RdS.keep hr (fun p hp hb => ?_) r3.size, fun b hb => ⟨.inl (hA b hb).1, fun e => ?_⟩⟩
      · exact World.cell?_of_block (r3.block p.block hp (fun e => (hA _ hb).2 e.symm))
      · rcases r5 with e2 | e2
        · exact (hA b hb).2 (e2 ▸ e)
        · rw [e2] at e; injection e with e
          have := hlt b (hA b hb).1
          omega
    by_cases hj1 : j < L.length
    · rw [List.getElem?_append_left hj1] at hj
      obtain ⟨A, c, h9, h10, h11⟩ := h5 j y hj
      refine ⟨A, c, ?_, h10, h11.imp (fun h => old A h.1 fun b hb => ⟨.inl (h.2 b hb).1, (h.2 b hb).2⟩) id⟩
      rw [List.getElem?_append_left (by have := h3.1; omega)]
      exact h9
    · rw [List.getElem?_append_right (by omega)] at hj
      obtain ⟨A, c, h9, h10, h11⟩ := h8 _ y hj
      refine ⟨A, c, ?_, h10, h11.imp (fun h => old A h.1 fun b hb => ⟨.inr (h.2 b hb).1, fun e => hsep b (h4 b e) (h.2 b hb).1⟩) id⟩
      have hxl : xs.length = L.length := by have := h3.1; omega
      rw [List.getElem?_append_right (by omega), hxl]
      exact h9
  · rcases r2.2 with ⟨rfl, _⟩ | ⟨g', cap', cur', rfl, _, hg', _⟩
    · cases hb
    · simp only [Value.ownBlock, Option.some.injEq] at hb
      subst hb
      exact (Array.getElem?_eq_some_iff.1 hg').1

def LNew (L : List (List Bs)) (w : World) (x : Value) (w' : World) : Prop := LOwn w.heap.size noOld x L (fun b => w.heap.size ≤ b ∧ b < w'.heap.size) w'
theorem LNew.form {L : List (List Bs)} {w : World} {x : Value} {w' : World} (h : LNew L w x w') : ∃ A c, x = .slice A L.length c ∧ L.length ≤ c ∧ RdL w' A L := by
  obtain ⟨A, c, h1, h2, h3, _⟩ := LOwn.rd h (fun _ _ h => h.elim)
  exact ⟨A, c, h1, h2, h3⟩

def trow (l : List Bs) : Rc.Fact := ⟨fun x w S => ∃ A c, x = .slice A l.length c ∧ l.length ≤ c ∧ RdS w A l ∧ ∀ b, A.map (·.block) = some b → S b, fun _ _ _ _ h hs hb => by
  obtain ⟨A, c, h1, h2, h3, h4⟩ := h
  exact ⟨A, c, h1, h2, RdS.keep h3 (fun p _ hA => World.cell?_of_block (hb p.block (h4 _ hA))) hs, h4⟩⟩
def lrow (L : List (List Bs)) : Rc.Fact := ⟨fun x w S => LOwn 0 noOld x L S w, fun _ _ _ _ h hs hb => h.keep hs hb⟩
section
variable {F : Nat → Rc.Fact} {cons : List (Nat × Nat)} {E : Nat → (Nat → Value) → Value → Prop} {V : Nat → Value} {S : Nat → Nat → Prop} {j : Nat} {o : Oper} {b : Act} {w : World}
theorem step_lone {i : Nat} (l : List Bs) {t : Nat} {X : Option Addr} {c : Nat} (hop : o.op = .buildSlice 27 1 #[(0, .tmp t)]) (hx : b.eval (.tmp t) = .slice X l.length c) (hF : F j = lrow [l]) (hi : (j, i) ∈ cons) (hc : l.length ≤ c) (hr : RdS w X l) (hX : ∀ b, X.map (·.block) = some b → S i b) (hlt : ∀ b, S i b → b < w.heap.size) (hE : ∀ v, E j V v) (hg : Rg.Open o V) : Rg.Does1 Tryz.prog o V b w (Rc.Good F cons E V S j w) := by
  refine .of hg fun K hK => ?_
  have h1 := LOwn.one (w := w) (O := noOld) (S := S i) hc (.inl ⟨hr, fun b hb => ⟨hX b hb, hlt b (hX b hb)⟩⟩)
  have hrun : (execOp b.eval o).run Tryz.prog w = .ok (.value (.slice (some ⟨w.heap.size, 0, none⟩) 1 1)) (w.alloc (.cells #[.slice X l.length c] 26)) := by
    obtain ⟨dst, op, ty, pos, after, guard⟩ := o
    simp only at hop
    subst hop
    simp only [execOp, List.map_toArray, List.map_cons, List.map_nil, hx]
    go_simp
  unfold Oper.wp
  rw [hrun]
  exact hK _ _ ⟨fun b => S i b ∨ b = w.heap.size, (Mod.of_below (below_new w _) _), by rw [hF]; exact h1.mono (Nat.zero_le _) (fun _ _ h => h) (fun _ h => h), fun k hk => ⟨hk.imp (fun h => ⟨i, hi, h⟩) (fun h => by omega), by rw [World.size_alloc]; rcases hk with h | h; have := hlt k h; omega; omega⟩, hE _⟩
theorem step_lapp {i k : Nat} (L L2 L3 : List (List Bs)) (hL : L3 = L ++ L2) {s x : Operand} (hop : o.op = .call { callee := .builtin .append, args := #[s, x], argTypes := #[27, 27] }) (hs : b.eval s = V i) (hx : b.eval x = V k) (hF : F j = lrow L3) (hi : (j, i) ∈ cons) (hk : (j, k) ∈ cons)
    (h1 : (lrow L).holds (V i) w (S i)) (h2 : (lrow L2).holds (V k) w (S k)) (hsep : ∀ b, S i b → ¬ S k b) (hl1 : ∀ b, S i b → b < w.heap.size) (hl2 : ∀ b, S k b → b < w.heap.size) (hpos : 0 < L2.length) (hn : L.length + L2.length ≤ 1000000000) (hE : ∀ v, E j V v) (hg : Rg.Open o V) : Rg.Does1 Tryz.prog o V b w (Rc.Good F cons E V S j w) := by
  subst hL
  refine .of hg fun K hK => ?_
  obtain ⟨v', w', r1, r2, r3, r4, r5⟩ := run_append_rows o.type h1 h2 hpos hsep (fun b hb => hb.elim (hl1 b) (hl2 b)) (Nat.zero_le _) hn
  unfold Oper.wp
  simp [execOp, hop, resolve, invoke, builtin, hs, hx, r1, Result.andThen]
  have ho : ∀ b, (V i).ownBlock = some b → S i b := by obtain ⟨xs, _, h, _⟩ := h1; exact h
  refine hK v' w' ⟨fun b => (S i b ∨ S k b) ∨ v'.ownBlock = some b, ⟨r3.os, r3.tape, r3.output, r3.size, fun m hm hn => r3.block m hm fun e => hn ⟨i, hi, ho m e.symm⟩⟩, ?_, fun m hm => ?_, hE _⟩
  · rw [hF]; exact r2
  · rcases hm with (h | h) | h
    · exact ⟨.inl ⟨i, hi, h⟩, Nat.lt_of_lt_of_le (hl1 m h) r3.size⟩
    · exact ⟨.inl ⟨k, hk, h⟩, Nat.lt_of_lt_of_le (hl2 m h) r3.size⟩
    · refine ⟨?_, r5 m h⟩
      rcases r4 with e | e
      · exact .inl ⟨i, hi, ho m (e ▸ h)⟩
      · rw [e] at h; injection h with h; exact .inr (by omega)
end
def HNew (l : List Bs) (w : World) (x : Value) (w' : World) : Prop := ∃ A c, x = .slice A l.length c ∧ l.length ≤ c ∧ RdS w' A l ∧ ∀ b, A.map (·.block) = some b → w.heap.size ≤ b ∧ b < w'.heap.size
def HOut (l : List Bs) (w : World) (e : Ending) (w' : World) : Prop := ∃ x, e = .returned x ∧ HNew l w x w' ∧ Below w.heap.size w w'
section
variable {F : Nat → Rc.Fact} {cons : List (Nat × Nat)} {E : Nat → (Nat → Value) → Value → Prop} {V : Nat → Value} {S : Nat → Nat → Prop} {j : Nat} {o : Oper} {b : Act} {w : World}
theorem step_hcall (l : List Bs) {fn : FuncId} {xs : Array Operand} {ts : Array TypeId} (args : Array Value) (hent : ∀ args w, (callFunc fn args).run Tryz.prog w = .ok (.enter fn args) w)
    (hop : o.op = .call { callee := .value (.func fn), args := xs, argTypes := ts }) (hargs : xs.map b.eval = args) (hF : F j = trow l) (hE : ∀ v, E j V v) (hg : Rg.Open o V)
    (hcall : Calls Tryz.prog fn args w (HOut l w)) : Rg.Does1 Tryz.prog o V b w (Rc.Good F cons E V S j w) := by
  refine Rc.step_call args hent hop hargs hE hg (hcall.mono ?_)
  rintro e w' ⟨x, rfl, ⟨A, c, rfl, hc, hr, hX⟩, hb⟩
  refine ⟨_, fun k => A.map (·.block) = some k, rfl, Mod.of_below hb _, ?_, fun k hk => ⟨.inr (hX k hk).1, (hX k hk).2⟩⟩
  rw [hF]; exact ⟨A, c, rfl, hc, hr, fun _ h => h⟩
end
end Ms
end Go.Proofs.YtombmeppdhhjhaaGreat

namespace Go.Proofs.YtombmeppdhhjhaaGreat
open Go.RowKit Rc
open Tr (Nm En T)
namespace Gt
/-! A list of rows in a box, in a region that draws. -/
def cont (v : Value) (L : List (List Bs)) : Rc.Fact := ⟨fun _ w S => Ms.LOwn 0 Ms.noOld v L S w, fun _ _ _ _ h hs hb => h.keep hs hb⟩
def bx (lb : Nat) (v : Value) : Rc.Fact := ⟨fun _ w S => Blk w lb 27 [v] ∧ S lb, fun _ _ _ _ h _ hb => ⟨(hb lb h.2).trans h.1, h.2⟩⟩
def bxL (lb : Nat) (L : List (List Bs)) : Rc.Fact := ⟨fun _ w S => S lb ∧ ∃ x S', Blk w lb 27 [x] ∧ Ms.LOwn 0 Ms.noOld x L S' w ∧ (∀ b, S' b → S b) ∧ ¬ S' lb, fun _ _ _ _ h hs hb => by
  obtain ⟨h1, x, S', h2, h3, h4, h5⟩ := h
  exact ⟨h1, x, S', (hb lb h1).trans h2, h3.keep hs fun b h => hb b (h4 b h), h4, h5⟩⟩
section
variable {F : Nat → Rc.Fact} {cons : List (Nat × Nat)} {E : Nat → (Nat → Value) → Value → Prop} {V : Nat → Value} {S : Nat → Nat → Prop} {j : Nat} {o : Oper} {b : Act} {w : World}
theorem step_lload {n0 : Nat} (L : List (List Bs)) (v : Value) (hF : F j = Ms.lrow L) (h0 : (j, n0) ∈ cons) (hc : (cont v L).holds (V n0) w (S n0)) (hlt : ∀ b, S n0 b → b < w.heap.size) (hE : ∀ v, E j V v) (hg : Rg.Open o V) (hrun : (execOp b.eval o).run Tryz.prog w = .ok (.value v) w) : Rg.Does1 Tryz.prog o V b w (Rc.Good F cons E V S j w) := by
  refine .of hg fun K hK => ?_
  unfold Oper.wp
  rw [hrun]
  exact hK _ _ ⟨S n0, Mod.refl _ _, by rw [hF]; exact hc, fun b hb => ⟨.inl ⟨n0, h0, hb⟩, hlt b hb⟩, hE _⟩
theorem step_lput {lb n0 r : Nat} (L : List (List Bs)) (v x : Value) (hV : V r = x) (hF : F j = bxL lb L) (h0 : (j, n0) ∈ cons) (hr : (j, r) ∈ cons) (hb0 : (bx lb v).holds (V n0) w (S n0)) (h1 : (Ms.lrow L).holds (V r) w (S r)) (hsep : ∀ b, S r b → ¬ S n0 b)
    (hlt : ∀ b, S r b → b < w.heap.size) (hE : ∀ v, E j V v) (hg : Rg.Open o V) (h : (execOp b.eval o).run Tryz.prog w = .ok .skip (w.setCell ⟨lb, 0, none⟩ x)) : Rg.Does1 Tryz.prog o V b w (Rc.Good F cons E V S j w) := by
  subst hV
  obtain ⟨hb, hSg⟩ := hb0
  refine .of hg fun K hK => ?_
  unfold Oper.wp
  rw [h]
  have hne : ∀ b, S r b → b ≠ lb := fun b h1 e => hsep b h1 (e ▸ hSg)
  refine hK undef (w.setCell ⟨lb, 0, none⟩ (V r)) ⟨fun b => b = lb ∨ S r b, ⟨rfl, rfl, rfl, by simp [World.setCell], fun m hm hn => Below.heap_setCell _ _ _ _ (fun e => hn ⟨n0, h0, e ▸ hSg⟩)⟩, ?_, fun m hm => ?_, hE _⟩
  · rw [hF]
    exact ⟨.inl rfl, V r, S r, hb.set_ 0 (V r), h1.keep (by simp [World.setCell]) fun b hb2 => Below.heap_setCell _ _ _ _ (hne b hb2), fun b hb2 => .inr hb2, fun h2 => hne lb h2 rfl⟩
  · rcases hm with rfl | hm
    · exact ⟨.inl ⟨n0, h0, hSg⟩, by have := hb.lt; simpa [World.setCell] using this⟩
    · exact ⟨.inl ⟨r, hr, hm⟩, by have := hlt m hm; simpa [World.setCell] using this⟩
end
theorem two_inv {lb n : Nat} {v : Value} {L : List (List Bs)} {S0 : Nat → Prop} {w : World} (hb : Blk w lb 27 [v]) (hL : Ms.LOwn 0 Ms.noOld v L S0 w) (hlt : ∀ b, S0 b → b < w.heap.size) (hn : ¬ S0 lb) (F : Nat → Rc.Fact) (cons : List (Nat × Nat)) (hF : F n = cont v L) (hF2 : F (n + 1) = bx lb v) :
    Rc.Inv F cons (Rg.alias []) w.drew (fun b => b = lb ∨ S0 b) (fun i => n ≤ i ∧ i < n + 2) (fun _ => undef) (fun i b => (i = n ∧ S0 b) ∨ (i = n + 1 ∧ b = lb)) w.drew := by
  refine ⟨Mod.refl _ _, fun i hi => ?_, fun i b hi hb2 => ?_, fun i k b hi hk hne h1 h2 => ?_, fun j _ => fun i f hm => by simp at hm⟩
  · rcases (show i = n ∨ i = n + 1 by have := hi.1; omega) with rfl | rfl
    · rw [hF]; exact (hL.mono (Nat.le_refl _) (fun _ _ h => h) fun b h => .inl ⟨rfl, h⟩).keep (Nat.le_refl _) fun _ _ => rfl
    · rw [hF2]; exact ⟨hb, .inr ⟨rfl, rfl⟩⟩
  · rcases hb2 with ⟨_, h⟩ | ⟨_, rfl⟩
    · exact ⟨hlt b h, .inl (.inr h)⟩
    · exact ⟨hb.lt, .inl (.inl rfl)⟩
  · rcases h1 with ⟨h3, h4⟩ | ⟨h3, h4⟩ <;> rcases h2 with ⟨h5, h6⟩ | ⟨h5, h6⟩
    · omega
    · exact hn (h6 ▸ h4)
    · exact hn (h4 ▸ h6)
    · omega
theorem clone_out {w : World} {A : Option Addr} {x : List Bs} {cap : Nat} (hr : RdS w A x) (hx : x.length ≤ 68719476736) :
    Calls Tryz.prog 96 #[.slice A x.length cap] w (Ms.HOut x w) := by
  refine (cloneS_any w A x cap hr hx).mono ?_
  rintro e w' ⟨v, rfl, hT⟩
  obtain ⟨X, c, rfl, hc, hrd⟩ := hT.form
  refine ⟨_, rfl, ⟨X, c, rfl, hc, hrd, fun b hb => ?_⟩, hT.later⟩
  obtain ⟨_, h2⟩ := hT.1
  rcases h2 with ⟨h3, _⟩ | ⟨g, cap2, cur, h3, h4, h5, _⟩
  · injection h3 with h3; subst h3; cases hb
  · injection h3 with h3
    subst h3
    injection hb with hb
    subst hb
    exact ⟨h4, (Array.getElem?_eq_some_iff.1 h5).1⟩
def Grown (lb : Nat) (L : List (List Bs)) (S0 : Nat → Prop) (w w' : World) : Prop :=
  ∃ x S', Blk w' lb 27 [x] ∧ Ms.LOwn 0 Ms.noOld x L S' w' ∧ ¬ S' lb ∧ (∀ b, S' b → (S0 b ∨ w.heap.size ≤ b) ∧ b < w'.heap.size) ∧ Mod w w' (fun b => b = lb ∨ S0 b)

set_option maxHeartbeats 4000000 in
set_option maxRecDepth 100000 in
theorem names1_yes (w : World) (lb idb g : Nat) (i : Int) (v : Value) (L : List (List Bs)) (S0 : Nat → Prop) (A : Option Addr) (q : List Bs) (cap : Nat) (hid : w.cell? ⟨idb, 0, none⟩ = some (.int .i64 i)) (hbx : Blk w lb 27 [v]) (hL : Ms.LOwn 0 Ms.noOld v L S0 w) (hlt : ∀ b, S0 b → b < w.heap.size) (hn : ¬ S0 lb) (hLn : L.length ≤ 100000000)
    (hr : RdS w A q) (_hc : q.length ≤ cap) (hq : q.length ≤ 1000) (hA : ∀ b, 0 < q.length → A.map (·.block) = some b → b ≠ lb ∧ ¬ S0 b) (hg : w.cell? ⟨g, 0, none⟩ = some (.int .i64 i)) :
    Calls Tryz.prog 95 #[.slice A q.length cap, .pointer (some ⟨g, 0, none⟩), .pointer (some ⟨idb, 0, none⟩), .pointer (some ⟨lb, 0, none⟩)] w fun r w' => r = .returned (.tuple #[]) ∧ Grown lb (L ++ [q]) S0 w w' := by
  have hb : (i == i) = true := by simp
  have HBX := Lib.hid hbx
  have HLO := Lib.hid hL
  have HLT := Lib.hid hlt
  have HNS := Lib.hid hn
  have HRD : Hid (∀ W, Mod w W (fun b => b = lb ∨ S0 b) → RdS W A q) := by
    show ∀ W, _ → _
    intro W hW h0
    exact Ms.RdS.keep hr (fun p hp hA2 => World.cell?_of_block (hW.block p.block hp (fun h => by
      have := hA p.block h0 hA2
      exact h.elim this.1 this.2))) hW.size h0
  clear hr hA hbx hL hlt hn
  go_enter Tryz.func95, Tryz.ntmps95
  go_wp2_with fail
  go_quiet (fail)
  go_upto_region 1 with (fail)
  refine Rc.wp_region (by kernel_rfl) (fun opn => List.getD [Ms.lrow L, Rc.val (.slice A q.length cap), Ms.trow q, Ms.lrow [q], Ms.lrow (L ++ [q]), bxL lb (L ++ [q]), cont v L, bx lb v] opn Rc.any) 2 [] [[], [], [(1, 14)], [(2, 15)], [(0, 13), (3, 16)], [(4, 17)]] [[], [], [1], [2], [0, 3], [0, 4]] [[6, 7], [], [1], [2], [0, 3], [4, 7]] [(0, 6), (3, 2), (4, 0), (4, 3), (5, 4), (5, 7)] (by kernel_rfl) (by rfl) (by kernel_rfl) (fun b => b = lb ∨ S0 b) (fun i b => (i = 6 ∧ S0 b) ∨ (i = 7 ∧ b = lb)) (two_inv (w := w.drewN nq) HBX.out HLO.out HLT.out HNS.out _ _ rfl rfl) ?_ ?_
  · intro fr ha
    have hz : fr.tmps.size = 18 := by rw [ha]; rfl
    have y0 : fr.eval (.tmp 0) = .slice A q.length cap := by rw [ha]; rfl
    have y3 : fr.eval (.tmp 3) = .pointer (some ⟨lb, 0, none⟩) := by rw [ha]; rfl
    clear ha
    refine .cons ?_ (.cons ?_ (.cons ?_ (.cons ?_ (.cons ?_ (.cons ?_ .nil)))))
    · intro V S NW HM HU HE
      have tb3 : (Rg.putUse V [] fr).eval (.tmp 3) = .pointer (some ⟨lb, 0, none⟩) := (Rg.use_eval V fr 3 [] (by simp only [hz]; decide)).trans y3
      show Rg.Does1 _ _ V (Rg.putUse V [] fr) NW _
      have hbk : (bx lb v).holds (V 7) NW (S 7) := HU.holds 7 (by decide)
      have cl := hbk.1.cell 0
      exact step_lload (n0 := 6) L v rfl (by decide) (HU.holds 6 (by decide)) (HU.lt 6 (by decide)) (fun x => Rg.alias_none rfl V x) True.intro (by simp only [execOp, tb3]; go_simp)
    · intro V S NW HM HU HE
      have tb0 : (Rg.putUse V [] fr).eval (.tmp 0) = .slice A q.length cap := (Rg.use_eval V fr 0 [] (by simp only [hz]; decide)).trans y0
      show Rg.Does1 _ _ V (Rg.putUse V [] fr) NW _
      exact Ob.rc_mv (.slice A q.length cap) (by simp only [execOp, tb0]; go_simp) rfl rfl True.intro
    · intro V S NW HM HU HE
      have HM : Mod (w.drewN nq) NW (fun b => b = lb ∨ S0 b) := HM
      have h1 : V 1 = .slice A q.length cap := HU.holds 1 (by decide)
      have tb14 : (Rg.putUse V [(1, 14)] fr).eval (.tmp 14) = .slice A q.length cap := (Rg.use_eval V fr 14 [(1, 14)] (by simp only [hz]; decide)).trans h1
      show Rg.Does1 _ _ V (Rg.putUse V [(1, 14)] fr) NW _
      exact Ms.step_hcall q #[.slice A q.length cap] (fun args w => Rg.call_enter Tryz.func96 (by kernel_rfl) (by kernel_rfl) args w) rfl (by simp only [List.map_toArray, List.map_cons, List.map_nil, tb14]) rfl (fun x => Rg.alias_none rfl V x) True.intro (clone_out (HRD.out NW ⟨HM.os, HM.tape, HM.output, HM.size, HM.block⟩) (by omega))
    · intro V S NW HM HU HE
      obtain ⟨X2, k2, e2, hc2, hr2, hX2⟩ := HU.holds 2 (by decide)
      have tb15 : (Rg.putUse V [(2, 15)] fr).eval (.tmp 15) = .slice X2 q.length k2 := (Rg.use_eval V fr 15 [(2, 15)] (by simp only [hz]; decide)).trans e2
      show Rg.Does1 _ _ V (Rg.putUse V [(2, 15)] fr) NW _
      exact Ms.step_lone (i := 2) q rfl tb15 rfl (by decide) hc2 hr2 hX2 (HU.lt 2 (by decide)) (fun x => Rg.alias_none rfl V x) True.intro
    · intro V S NW HM HU HE
      have tb13 : (Rg.putUse V [(0, 13), (3, 16)] fr).eval (.tmp 13) = V 0 := (Rg.use_eval V fr 13 [(0, 13), (3, 16)] (by simp only [hz]; decide)).trans rfl
      have tb16 : (Rg.putUse V [(0, 13), (3, 16)] fr).eval (.tmp 16) = V 3 := (Rg.use_eval V fr 16 [(0, 13), (3, 16)] (by simp only [hz]; decide)).trans rfl
      show Rg.Does1 _ _ V (Rg.putUse V [(0, 13), (3, 16)] fr) NW _
      exact Ms.step_lapp (i := 0) (k := 3) L [q] (L ++ [q]) rfl rfl tb13 tb16 rfl (by decide) (by decide) (HU.holds 0 (by decide)) (HU.holds 3 (by decide)) (HU.sep 0 (by decide) 3 (by decide) (by decide)) (HU.lt 0 (by decide)) (HU.lt 3 (by decide)) (by simp) (by simp; omega) (fun x => Rg.alias_none rfl V x) True.intro
    · intro V S NW HM HU HE
      have tb17 : (Rg.putUse V [(4, 17)] fr).eval (.tmp 17) = V 4 := (Rg.use_eval V fr 17 [(4, 17)] (by simp only [hz]; decide)).trans rfl
      have tb3 : (Rg.putUse V [(4, 17)] fr).eval (.tmp 3) = .pointer (some ⟨lb, 0, none⟩) := (Rg.use_eval V fr 3 [(4, 17)] (by simp only [hz]; decide)).trans y3
      show Rg.Does1 _ _ V (Rg.putUse V [(4, 17)] fr) NW _
      have hbk : (bx lb v).holds (V 7) NW (S 7) := HU.holds 7 (by decide)
      have cl := hbk.1.cell 0
      have fl := hbk.1.frozen 0
      have h4 : (Ms.lrow (L ++ [q])).holds (V 4) NW (S 4) := HU.holds 4 (by decide)
      obtain ⟨A9, c9, e9, _⟩ := Ms.LOwn.rd h4 (fun _ _ h => h.elim)
      have tb17b := tb17.trans e9
      exact step_lput (n0 := 7) (r := 4) (L ++ [q]) v _ e9 rfl (by decide) (by decide) hbk h4 (HU.sep 4 (by decide) 7 (by decide) (by decide)) (HU.lt 4 (by decide)) (fun x => Rg.alias_none rfl V x) True.intro (by simp only [execOp, tb17b, tb3]; go_simp)
  · intro V S w2 HI
    have hbx : (bxL lb (L ++ [q])).holds (V 5) w2 (S 5) := HI.get 5 (by decide) (by rfl)
    have hmod : Mod w w2 (fun b => b = lb ∨ S0 b) := by
      have := HI.mod
      exact ⟨this.os, this.tape, this.output, this.size, this.block⟩
    have hlt9 := HI.lt 5
    have hlv : Rc.Live [(0, 6), (3, 2), (4, 0), (4, 3), (5, 4), (5, 7)] (fun i => i < 8) 5 := ⟨by decide, fun k _ hk => by revert hk; decide +revert⟩
    obtain ⟨_, x, S', h2, h3, h4, h5⟩ := hbx
    have HG : Hid (Grown lb (L ++ [q]) S0 w w2) := ⟨x, S', h2, h3, h5, fun b hb2 => by
      have h6 := hlt9 b hlv (h4 b hb2)
      refine ⟨?_, h6.1⟩
      rcases h6.2 with (h7 | h7) | h7
      · exact absurd (h7 ▸ hb2) h5
      · exact .inl h7
      · exact .inr h7, hmod⟩
    clear hlt9 hlv h2 h3 h4 h5 hmod HI
    simp only [Rg.putList, Act.put, List.setIfInBounds_toArray, List.set_cons_zero, List.set_cons_succ, Nat.zero_add, Nat.reduceAdd]
    go_wp2_with fail
    refine bodyPost_end (results_none rfl _ _ _) rfl ?_
    exact ⟨rfl, HG.out⟩
set_option maxHeartbeats 1000000 in
set_option maxRecDepth 100000 in
theorem names1_no (w : World) (lb idb g : Nat) (i k : Int) (A : Option Addr) (l cap : Nat) (hid : w.cell? ⟨idb, 0, none⟩ = some (.int .i64 i)) (hg : w.cell? ⟨g, 0, none⟩ = some (.int .i64 k)) (hk : k ≠ i) :
    Calls Tryz.prog 95 #[.slice A l cap, .pointer (some ⟨g, 0, none⟩), .pointer (some ⟨idb, 0, none⟩), .pointer (some ⟨lb, 0, none⟩)] w fun r w' => r = .returned (.tuple #[]) ∧ Below w.heap.size w w' := by
  have hb : (k == i) = false := by simpa using hk
  clear hk
  go_enter Tryz.func95, Tryz.ntmps95
  go_wp2_with fail
  go_quiet (fail)
  go_wp2_with fail
  refine bodyPost_end (results_none rfl _ _ _) rfl ?_
  exact ⟨rfl, ⟨rfl, rfl, rfl, Nat.le_refl _, fun _ _ => rfl⟩⟩
end Gt
end Go.Proofs.YtombmeppdhhjhaaGreat

namespace Go.Proofs.YtombmeppdhhjhaaGreat
open Go.RowKit Rc
open Tr (Nm En T)
namespace Gt
open Tm (Eye Shows Shown EAt)
def mine (i : Int) (s : Shown) : List (List Bs) := (s.filter fun q => q.2 == i).map (·.1)
theorem mine_snoc (i : Int) (s : Shown) (q : List Bs) (k : Int) : mine i (s ++ [(q, k)]) = mine i s ++ (if k = i then [q] else []) := by
  unfold mine
  rw [List.filter_append, List.map_append]
  congr 1
  by_cases h : k = i <;> simp [h]
theorem mine_length (i : Int) (s : Shown) : (mine i s).length ≤ s.length := by
  unfold mine; rw [List.length_map]; exact List.length_filter_le _ _
structure NAt (idb lb : Nat) (i : Int) (L : List (List Bs)) (v : Value) (S' B : Nat → Prop) (w : World) : Prop where
  id : Blk w idb 3 [.int .i64 i]
  box : Blk w lb 27 [v]
  row : Ms.LOwn 0 Ms.noOld v L S' w
  nlb : ¬ S' lb
  nid : ¬ S' idb
  lt : ∀ b, S' b → b < w.heap.size
  set : B = fun b => b = idb ∨ b = lb ∨ S' b
theorem NAt.keep {idb lb : Nat} {i : Int} {L : List (List Bs)} {v : Value} {S' B : Nat → Prop} {w w' : World} (h : NAt idb lb i L v S' B w) (hs : w.heap.size ≤ w'.heap.size) (hb : ∀ b, B b → w'.heap[b]? = w.heap[b]?) : NAt idb lb i L v S' B w' := by
  have hset := h.set
  subst hset
  exact ⟨(hb _ (.inl rfl)).trans h.id, (hb _ (.inr (.inl rfl))).trans h.box, h.row.keep hs fun b h1 => hb b (.inr (.inr h1)), h.nlb, h.nid, fun b h1 => Nat.lt_of_lt_of_le (h.lt b h1) hs, rfl⟩
def nEye (idb lb : Nat) (i : Int) (L0 : List (List Bs)) : Eye where
  At s B w := ∃ v S', NAt idb lb i (L0 ++ mine i s) v S' B w
  keep := by
    rintro s B w w' ⟨v, S', h⟩ hs hb
    exact ⟨v, S', h.keep hs hb⟩
  lt := by
    rintro s B w ⟨v, S', h⟩ b hb
    rw [h.set] at hb
    rcases hb with rfl | rfl | hb
    · exact h.id.lt
    · exact h.box.lt
    · exact h.lt b hb
theorem nShows (idb lb : Nat) (hne : idb ≠ lb) (i : Int) (L0 : List (List Bs)) (lim : Nat) (hL0 : L0.length + lim ≤ 100000000) : Shows (nEye idb lb i L0) 95 #[.pointer (some ⟨idb, 0, none⟩), .pointer (some ⟨lb, 0, none⟩)] lim where
  ent := enters_of Tryz.func95 (by kernel_rfl) rfl
  call := by
    rintro w seen B A q cap g e S1 ⟨v, S', h⟩ hlim hr hc hq hA hE _
    have hset := h.set
    subst hset
    have hg := hE.cells.1
    have hid := h.id.cell 0
    by_cases hk : e.nd.id = i
    · rw [hk] at hg
      have hln : (L0 ++ mine i seen).length ≤ 100000000 := by
        have := mine_length i seen
        rw [List.length_append]; omega
      refine (names1_yes w lb idb g i v _ S' A q cap hid h.box h.row h.lt h.nlb hln hr hc hq (fun b h0 hb => ⟨fun e2 => hA b h0 hb (.inr (.inl e2)), fun h2 => hA b h0 hb (.inr (.inr h2))⟩) hg).mono ?_
      rintro r w' ⟨rfl, x, S2, k1, k2, k3, k4, k5⟩
      have hmod : Mod w w' (fun b => b = idb ∨ b = lb ∨ S' b) := k5.mono fun b _ h1 => h1.elim (fun h2 => .inr (.inl h2)) fun h2 => .inr (.inr h2)
      have hidb : idb < w.heap.size := h.id.lt
      refine ⟨rfl, fun b => b = idb ∨ b = lb ∨ S2 b, ⟨x, S2, ⟨(k5.block idb hidb (fun h1 => h1.elim hne h.nid)).trans h.id, k1, ?_, k3, fun h1 => ?_, fun b hb => (k4 b hb).2, rfl⟩⟩, hmod, fun b hb => ?_⟩
      · rw [mine_snoc, if_pos hk, ← List.append_assoc]
        exact k2
      · rcases (k4 idb h1).1 with h2 | h2
        · exact h.nid h2
        · omega
      · rcases hb with hb | hb | hb
        · exact .inl (.inl hb)
        · exact .inl (.inr (.inl hb))
        · exact (k4 b hb).1.imp (fun h2 => .inr (.inr h2)) fun h2 => h2
    · refine (names1_no w lb idb g i e.nd.id A q.length cap hid hg hk).mono ?_
      rintro r w' ⟨rfl, hb⟩
      refine ⟨rfl, _, ⟨v, S', ?_⟩, Mod.of_below hb _, fun b h1 => .inl h1⟩
      rw [mine_snoc, if_neg hk, List.append_nil]
      refine h.keep hb.size fun b hB => hb.block b ?_
      rcases hB with rfl | rfl | hB
      · exact h.id.lt
      · exact h.box.lt
      · exact h.lt b hB
end Gt
end Go.Proofs.YtombmeppdhhjhaaGreat

namespace Go.Proofs.YtombmeppdhhjhaaGreat
open Go.RowKit

theorem Tryz.sizeBuilder : (Tryz.prog.info? 168).map (·.size) = some 2 := by kernel_rfl

set_option maxHeartbeats 1000000 in
set_option maxRecDepth 100000 in
theorem copyCheck_used (b : Nat) (w : World) (h0 : w.cell? ⟨b, 0, none⟩ = some (.pointer (some ⟨b, 0, none⟩))) :
    Calls Tryz.prog 167 #[.pointer (some ⟨b, 0, none⟩)] w fun e w' => e = .returned (.tuple #[]) ∧ w' = w := by
  obtain ⟨j, hj, _⟩ := Option.map_eq_some_iff.1 Tryz.sizeBuilder
  go_enter Tryz.func167, Tryz.ntmps167
  go_wp2
  rw [Lib.run_neq_ptr_same w _ Tryz.underlying166 hj]
  go_wp2
  go_end0
  exact ⟨rfl, rfl⟩

set_option maxHeartbeats 1000000 in
set_option maxRecDepth 100000 in
theorem copyCheck_fresh (b : Nat) (w : World) (h0 : w.cell? ⟨b, 0, none⟩ = some (.pointer none)) (hsh : w.shape? b = some (168, 2)) (hfz : w.frozen? ⟨b, 0, none⟩ = false) :
    Calls Tryz.prog 167 #[.pointer (some ⟨b, 0, none⟩)] w fun e w' => e = .returned (.tuple #[]) ∧ w' = w.setCell ⟨b, 0, none⟩ (.pointer (some ⟨b, 0, none⟩)) := by
  obtain ⟨j, hj, hjs⟩ := Option.map_eq_some_iff.1 Tryz.sizeBuilder
  go_enter Tryz.func167, Tryz.ntmps167
  go_wp2
  rw [Lib.run_to_unsafe w ⟨b, 0, none⟩ Tryz.underlying166 Tryz.underlying206 hj (by rw [hjs]; decide) hsh (Nat.zero_lt_succ 1)]
  simp only [Result.andThen]
  rw [Oper.upon_value]
  go_wp2
  rw [run_callFunc_extern Tryz.func181 (by kernel_rfl) (by kernel_rfl) (by kernel_rfl) (e := Extern.AbiNoEscape.same) (by kernel_rfl)]
  rw [Lib.run_noEscape]
  simp only [Result.andThen]
  rw [Oper.upon_value]
  go_wp2
  rw [Lib.run_from_unsafe w ⟨b, 0, none⟩ Tryz.underlying206 Tryz.underlying166 hj hsh (by kernel_rfl)]
  simp only [Result.andThen]
  rw [Oper.upon_value]
  go_wp2
  go_end0
  exact ⟨rfl, rfl⟩

theorem builder_put {B b : Nat} {v v' : Value} {bs xs : List Value} {w1 wa w2 : World} (hB : B ≤ b) (hbk : w1.heap[b]? = some (.cells #[.pointer (some ⟨b, 0, none⟩), v] 168 (0, 0))) (hown : w1.ownsRow B 5 1 v bs.length bs) (hne : v.ownBlock ≠ some b)
    (ha : Below w1.heap.size w1 wa) (hgrow : wa.grownBy w2 v.ownBlock) (hown' : w2.ownsRow B 5 1 v' (bs.length + xs.length) (bs ++ xs)) :
    (∃ ao n c, v' = .slice ao n c) ∧ w2.cell? ⟨b, 0, none⟩ = some (.pointer (some ⟨b, 0, none⟩)) ∧ w2.cell? ⟨b, 1, none⟩ = some v ∧ w2.frozen? ⟨b, 1, none⟩ = false ∧
      Lib.BuilderAt 168 5 B b (.pointer (some ⟨b, 0, none⟩)) (bs ++ xs) (w2.setCell ⟨b, 1, none⟩ v') ∧ (B ≤ w1.heap.size → Below B w1 (w2.setCell ⟨b, 1, none⟩ v')) := by
  have hlt : b < w1.heap.size := by
    rcases Nat.lt_or_ge b w1.heap.size with h | h
    · exact h
    · rw [Array.getElem?_eq_none h] at hbk; cases hbk
  have hb2 : w2.heap[b]? = some (.cells #[.pointer (some ⟨b, 0, none⟩), v] 168 (0, 0)) := by
    rw [hgrow.block b (Nat.lt_of_lt_of_le hlt ha.size) (fun e => hne e.symm), ha.block b hlt]
    exact hbk
  refine ⟨?_, by rw [Lib.cell_of_heap hb2]; rfl, by rw [Lib.cell_of_heap hb2]; rfl, Lib.frozen_of_heap hb2 1, ?_, fun hBs => ?_⟩
  · rcases hown'.2 with ⟨hv, _⟩ | ⟨g, cap, cur, hv, _⟩
    · exact ⟨_, _, _, hv⟩
    · exact ⟨_, _, _, hv⟩
  · exact Lib.BuilderAt.put (T := 168) (e := 5) hB hb2 (bs' := bs ++ xs) (by rw [List.length_append]; exact hown') (by decide)
  · exact ((ha.mono hBs).grown hgrow (by have := ha.size; omega) (fun k hk => (hown.lt k hk).1)).setCell (p := ⟨b, 1, none⟩) hB _

end Go.Proofs.YtombmeppdhhjhaaGreat

namespace Go.Proofs.YtombmeppdhhjhaaGreat
open Go.RowKit
namespace Dr
theorem ask_le {α : Type} (k : Ask α) : ∀ w : World, w.drawn ≤ (w.ask k).2.drawn := by
  induction k with
  | done a => intro w; exact Nat.le_refl _
  | ask what range k ih =>
    intro w
    unfold World.ask
    simp only
    split
    · exact ih _ w
    · have h := ih ((Question.extern what range).cut (w.tape w.drawn (Question.extern what range))) { w with drawn := w.drawn + 1 }
      exact Nat.le_trans (Nat.le_succ w.drawn) h
theorem sys_le (w : World) (c : Sys) : w.drawn ≤ (w.sys c).2.drawn := by
  unfold World.sys
  have h := ask_le (Kernel.perform c w.os) w
  split
  · exact Nat.le_refl _
  · rename_i e
    rw [e] at h
    exact h
theorem farStore_is {p : Program} {w : World} {a : Addr} {v : Value} {b : Bool} {r : World × List Addr} (h : w.farStore p a v b = .ok r) : r.1.drawn = w.drawn := by
  unfold World.farStore at h
  split at h
  · split at h
    · rename_i e
      cases h
      unfold World.viewStore at e
      simp only [bind, Except.bind, pure, Except.pure] at e
      repeat' (split at e)
      all_goals first
        | (cases e; done)
        | (cases e; rfl)
    · cases h
  · cases h
theorem run_le {α : Type} (P : Program) (s : Sem α) : ∀ (w : World) (v : α) (w' : World), s.run P w = .ok v w' → w.drawn ≤ w'.drawn := by
  induction s with
  | pure a => intro w v w' h; simp only [Sem.run, Result.ok.injEq] at h; rw [h.2]; exact Nat.le_refl _
  | load m a k ih =>
    intro w v w' h
    simp only [Sem.run] at h
    split at h
    · (have h9 := ih _ _ _ _ h; exact h9)
    · split at h
      · (have h9 := ih _ _ _ _ h; exact h9)
      · cases h
  | store m a x k ih =>
    intro w v w' h
    by_cases hx : ∃ y, x = .agg y
    · obtain ⟨y, rfl⟩ := hx
      simp only [Sem.run] at h
      cases h
    · by_cases hy : ∃ y, x = .tuple y
      · obtain ⟨y, rfl⟩ := hy
        simp only [Sem.run] at h
        cases h
      · rw [Sem.run.eq_5 _ _ _ _ _ _ (fun y e => hx ⟨y, e⟩) (fun y e => hy ⟨y, e⟩)] at h
        split at h
        · split at h
          · cases h
          · (have h9 := ih _ _ _ h; exact h9)
        · split at h
          · rename_i e
            have h1 := farStore_is e
            have h2 := ih _ _ _ h
            simp only at h1
            omega
          · cases h
  | new o k ih => intro w v w' h; (have h9 := ih _ _ _ _ h; exact h9)
  | shape r k ih => intro w v w' h; (have h9 := ih _ _ _ _ h; exact h9)
  | freeze a n k ih =>
    intro w v w' h
    simp only [Sem.run] at h
    have h2 := ih _ _ _ h
    have : (w.freeze a n).drawn = w.drawn := by unfold World.freeze; split <;> rfl
    omega
  | frozen a k ih => intro w v w' h; (have h9 := ih _ _ _ _ h; exact h9)
  | getObj r k ih =>
    intro w v w' h
    simp only [Sem.run] at h
    split at h
    · cases h
    · (have h9 := ih _ _ _ _ h; exact h9)
    · cases h
  | setObj r o k ih =>
    intro w v w' h
    simp only [Sem.run] at h
    split at h
    · cases h
    · (have h9 := ih _ _ _ h; exact h9)
    · cases h
  | choose q k ih =>
    intro w v w' h
    simp only [Sem.run] at h
    split at h
    · (have h9 := ih _ _ _ _ h; exact h9)
    · exact Nat.le_trans (Nat.le_succ _) (ih _ _ _ _ h)
  | sys c k ih =>
    intro w v w' h
    exact Nat.le_trans (sys_le w c) (ih _ _ _ _ h)
  | program k ih => intro w v w' h; (have h9 := ih _ _ _ _ h; exact h9)
  | mark m k ih => intro w v w' h; simp only [Sem.run] at h; (have h9 := ih _ _ _ h; exact h9)
  | halt h => intro w v w' h2; cases h2
end Dr
end Go.Proofs.YtombmeppdhhjhaaGreat

namespace Go.Proofs.YtombmeppdhhjhaaGreat
open Go.RowKit
namespace Dr
theorem wpList_app_string {P : Program} {w : World} {ops : Array Oper} {rest : List Oper} {o : Oper} {a : Act} {Q : Exit → Act → World → Prop} (hgd : o.guard = none) (sl x : Operand) (t u : TypeId)
    (ho : o.op = .call { callee := .builtin .append, args := #[sl, x], argTypes := #[t, u] })
    (base : Nat) (e : TypeId) (i : TypeInfo) (ht : P.underlying t = some (.slice e)) (hu : P.underlying u = some .string) (hi : P.info? e = some i) (hz : i.zero = some (.int .u8 0))
    (hsize : i.size = 1) (hby : i.bytes = 1)
    (v : Value) (n : Nat) (xs : List Value) (hs : a.eval sl = v) (hown : w.ownsRow base e 1 v n xs) (s : ByteArray) (hx : a.eval x = .string s)
    (h63 : n + s.size ≤ maxLen) (hbytes : n + s.size ≤ 140737488355328) (hbase : base ≤ w.heap.size)
    (h : ∀ v' w', w'.ownsRow base e 1 v' (n + s.size) (xs ++ Lib.strCells s) → w.grownBy w' v.ownBlock → w.drawn ≤ w'.drawn → wpList P ops Q rest (a.put o.dst v') w') : wpList P ops Q (o :: rest) a w := by
  refine wpList_plain hgd fun K hK => ?_
  obtain ⟨v', w', hr, h2, h3, _⟩ := Lib.run_append_own_string (P := P) w base t u o.type e i ht hu hi hz hsize hby v n xs hown s h63 hbytes hbase
  have h4 := run_le _ _ _ _ _ hr
  unfold Oper.wp execOp
  simp only [ho, resolve, invoke, builtin, Sem.run_bind, Sem.run_pure, Result.andThen_ok, List.map_toArray, List.map_cons, List.map_nil, hs, hx, hr]
  exact hK _ _ (h v' w' h2 h3 h4)
theorem wpList_app_own {P : Program} {w : World} {ops : Array Oper} {rest : List Oper} {o : Oper} {a : Act} {Q : Exit → Act → World → Prop} (hgd : o.guard = none) (s x : Operand) (t : TypeId)
    (ho : o.op = .call { callee := .builtin .append, args := #[s, x], argTypes := #[t, t] })
    (base : Nat) (e : TypeId) (i : TypeInfo) (z : Value) (size bytes : Nat) (ht : P.underlying t = some (.slice e)) (hi : P.info? e = some i) (hz : i.zero = some z)
    (hsize : i.size = size) (hby : i.bytes = bytes) (hzs : z.cells.size = size) (hsz : 0 < size)
    (v : Value) (n : Nat) (xs : List Value) (hs : a.eval s = v) (hown : w.ownsRow base e size v n xs)
    (ad : Addr) (m c : Nat) (news : List Value) (hx : a.eval x = .slice (some ad) m c) (hl : news.length = m * size) (hnews : ∀ j u, news[j]? = some u → w.cell? (ad.add j) = some u) (h1 : ∀ u ∈ news, u.oneCell' = true)
    (h63 : n + m ≤ maxLen) (hbytes : (n + m) * bytes ≤ 140737488355328) (hbase : base ≤ w.heap.size)
    (h : ∀ v' w', w'.ownsRow base e size v' (n + m) (xs ++ news) → w.grownBy w' v.ownBlock → w.drawn ≤ w'.drawn → wpList P ops Q rest (a.put o.dst v') w') : wpList P ops Q (o :: rest) a w := by
  refine wpList_plain hgd fun K hK => ?_
  obtain ⟨v', w', hr, h2, h3, _⟩ := run_append_own (P := P) w base t o.type e i z size bytes ht hi hz hsize hby hzs hsz v n xs hown ad m c news hl hnews h1 h63 hbytes hbase
  have h4 := run_le _ _ _ _ _ hr
  unfold Oper.wp execOp
  simp only [ho, resolve, invoke, builtin, Sem.run_bind, Sem.run_pure, Result.andThen_ok, List.map_toArray, List.map_cons, List.map_nil, hs, hx, hr]
  exact hK _ _ (h v' w' h2 h3 h4)

theorem copyCheck_up (B b : Nat) (bs : List Value) (w : World) (h : Lib.IsBuilder 168 5 B b bs w) :
    Calls Tryz.prog 167 #[.pointer (some ⟨b, 0, none⟩)] w fun e w' => e = .returned (.tuple #[]) ∧ Lib.BuilderAt 168 5 B b (.pointer (some ⟨b, 0, none⟩)) bs w' ∧ Below B w w' ∧ w.drawn ≤ w'.drawn := by
  rcases h with h | h
  · refine (copyCheck_fresh b w h.cell0 h.shape h.frozen0).mono ?_
    rintro e w' ⟨rfl, rfl⟩
    exact ⟨rfl, h.used _, (Below.refl _ _).setCell h.1 _, Nat.le_refl _⟩
  · refine (copyCheck_used b w h.cell0).mono ?_
    rintro e w' ⟨rfl, rfl⟩
    exact ⟨rfl, h, Below.refl _ _, Nat.le_refl _⟩

set_option maxHeartbeats 1000000 in
set_option maxRecDepth 100000 in
theorem writeString_up (B b : Nat) (bs : List Value) (l : List UInt8) (w : World) (h : Lib.IsBuilder 168 5 B b bs w) (hlen : bs.length + l.length ≤ 140737488355328) (hBw : B ≤ w.heap.size) :
    Calls Tryz.prog 139 #[.pointer (some ⟨b, 0, none⟩), .string (strOf l)] w fun e w' => e = .returned (.tuple #[.int .i64 l.length, .nilIface]) ∧ Lib.BuilderAt 168 5 B b (.pointer (some ⟨b, 0, none⟩)) (bs ++ Lib.byteCells l) w' ∧ Below B w w' ∧ w.drawn ≤ w'.drawn := by
  obtain ⟨i0, hi, hz0, hz1, hz2⟩ := info_parts Tryz.infoU8
  have es := strOf_size l
  have ec : Lib.strCells (strOf l) = Lib.byteCells l := by simp [Lib.strCells, Lib.byteCells, strOf]
  have EC := Lib.hid ec
  clear ec
  go_enter Tryz.func139, Tryz.ntmps139
  go_wp2_with (go_at_call 167; refine (copyCheck_up B b bs _ h).mono ?_)
  rintro e w1 ⟨rfl, ⟨hB, v, hbk, hown, hne⟩, hb1, hd1⟩
  have c0 : w1.cell? ⟨b, 0, none⟩ = some (.pointer (some ⟨b, 0, none⟩)) := by rw [Lib.cell_of_heap hbk]; rfl
  have c1 : w1.cell? ⟨b, 1, none⟩ = some v := by rw [Lib.cell_of_heap hbk]; rfl
  go_wp2_with (at_builtin; refine wpList_app_string rfl _ _ 39 9 rfl B 5 i0 Tryz.underlying39 Tryz.underlying9 hi hz0 hz1 hz2 _ _ _ rfl hown (strOf l) rfl ?c3 ?c4 ?c5 ?_)
  case c3 => unfold maxLen; omega
  case c4 => omega
  case c5 => have := hb1.size; omega
  intro v' w2 hown' hgrow hd2
  have HD : Hid (w.drawn ≤ w2.drawn) := Nat.le_trans hd1 hd2
  clear hd1 hd2
  rw [EC.out] at hown'
  replace hown' : w2.ownsRow B 5 1 v' (bs.length + (Lib.byteCells l).length) (bs ++ Lib.byteCells l) := by rw [Lib.byteCells_length]; simpa [strOf_size] using hown'
  obtain ⟨⟨ao, n', cap, rfl⟩, d0, d1, f1, hput, hbe⟩ := builder_put hB hbk hown hne (Below.refl _ _) hgrow hown'
  have HP := Lib.hid hput
  have HB := Lib.hid (hb1.trans (hbe (by have := hb1.size; omega)))
  clear hput hbe
  go_wp2
  go_ret2
  exact ⟨rfl, HP.out, HB.out, HD.out⟩

set_option maxHeartbeats 1000000 in
set_option maxRecDepth 100000 in
theorem writeByte_up (B b : Nat) (bs : List Value) (c : Int) (w : World) (h : Lib.IsBuilder 168 5 B b bs w) (hlen : bs.length + 1 ≤ 140737488355328) (hBw : B ≤ w.heap.size) :
    Calls Tryz.prog 138 #[.pointer (some ⟨b, 0, none⟩), .int .u8 c] w fun e w' => e = .returned .nilIface ∧ Lib.BuilderAt 168 5 B b (.pointer (some ⟨b, 0, none⟩)) (bs ++ [.int .u8 c]) w' ∧ Below B w w' ∧ w.drawn ≤ w'.drawn := by
  obtain ⟨i0, hi, hz0, hz1, hz2⟩ := info_parts Tryz.infoU8
  go_enter Tryz.func138, Tryz.ntmps138
  go_wp2_with (go_at_call 167; refine (copyCheck_up B b bs _ h).mono ?_)
  rintro e w1 ⟨rfl, ⟨hB, v, hbk, hown, hne⟩, hb1, hd1⟩
  have c0 : w1.cell? ⟨b, 0, none⟩ = some (.pointer (some ⟨b, 0, none⟩)) := by rw [Lib.cell_of_heap hbk]; rfl
  have c1 : w1.cell? ⟨b, 1, none⟩ = some v := by rw [Lib.cell_of_heap hbk]; rfl
  go_wp2_with (at_builtin; refine wpList_app_own rfl _ _ 39 rfl B 5 i0 (.int .u8 0) 1 1 Tryz.underlying39 hi hz0 hz1 hz2 rfl (by decide) _ _ _ rfl (hown.alloc _) ⟨w1.heap.size, 0, none⟩ 1 1 [.int .u8 c] rfl rfl ?c1 ?c2 ?c3 ?c4 ?c5 ?_)
  case c1 =>
    intro j u hj
    obtain rfl : j = 0 := by have := (List.getElem?_eq_some_iff.1 hj).1; simpa using this
    obtain rfl : Value.int .u8 c = u := by simpa using hj
    rw [add_plain, World.cell?_alloc_at _ _ _ _ rfl]
    rfl
  case c2 => intro u hu; simp at hu; subst hu; rfl
  case c3 => unfold maxLen; omega
  case c4 => omega
  case c5 => rw [World.size_alloc]; have := hb1.size; omega
  intro v' w2 hown' hgrow hd2
  have HD : Hid (w.drawn ≤ w2.drawn) := Nat.le_trans hd1 hd2
  clear hd1 hd2
  obtain ⟨⟨ao, n', cap, rfl⟩, d0, d1, f1, hput, hbe⟩ := builder_put hB hbk hown hne (below_new w1 _) hgrow hown'
  have HP := Lib.hid hput
  have HB := Lib.hid (hb1.trans (hbe (by have := hb1.size; omega)))
  clear hput hbe
  go_wp2
  go_ret
  exact ⟨rfl, HP.out, HB.out, HD.out⟩

set_option maxHeartbeats 2000000 in
set_option maxRecDepth 100000 in
theorem text_up (B b : Nat) (l : List UInt8) (w : World) (h : Lib.IsBuilder 168 5 B b (Lib.byteCells l) w) (h0 : l ≠ []) :
    Calls Tryz.prog 140 #[.pointer (some ⟨b, 0, none⟩)] w fun e w' => e = .returned (.string (strOf l)) ∧ Below B w w' ∧ w.drawn ≤ w'.drawn := by
  obtain ⟨p, hB, v, hbk, hown, hne⟩ : ∃ p, Lib.BuilderAt 168 5 B b p (Lib.byteCells l) w := by
    rcases h with h | h
    · exact ⟨_, h⟩
    · exact ⟨_, h⟩
  have hl0 : l.length ≠ 0 := by simpa using h0
  rw [Lib.byteCells_length] at hown
  obtain ⟨g, cap, cur, rfl, hbg, hg, hnc, hcm, hcs, htake⟩ : ∃ g cap cur, v = .slice (some ⟨g, 0, none⟩) l.length cap ∧ B ≤ g ∧ w.heap[g]? = some (.cells cur 5 (0, 0)) ∧ l.length ≤ cap ∧ cap ≤ maxLen ∧ cur.size = cap * 1 ∧ cur.toList.take (l.length * 1) = Lib.byteCells l := by
    rcases hown.2 with ⟨_, hz⟩ | ⟨g, cap, cur, hv, r⟩
    · exact absurd hz hl0
    · exact ⟨g, cap, cur, hv, r⟩
  have c1 : w.drew.cell? ⟨b, 1, none⟩ = some (.slice (some ⟨g, 0, none⟩) l.length cap) := by
    have : w.drew.heap[b]? = some (.cells #[p, .slice (some ⟨g, 0, none⟩) l.length cap] 168 (0, 0)) := hbk
    rw [Lib.cell_of_heap this]; rfl
  have hSD : (Builtin.unsafeSliceData_ #[39] 196 #[.slice (some ⟨g, 0, none⟩) l.length cap]).run Tryz.prog w.drew = .ok (.pointer (some ⟨g, 0, none⟩)) w.drew :=
    Lib.run_unsafeSliceData_row _ _ _ _ _ _ (by omega)
  have hUS : (Builtin.unsafeString_ #[196, 3] 9 #[.pointer (some ⟨g, 0, none⟩), .int .i64 l.length]).run Tryz.prog w.drew = .ok (.string ⟨l.toArray⟩) (w.drew.freeze ⟨g, 0, none⟩ l.length) := by
    refine Lib.run_unsafeString_row w.drew 196 3 9 5 Tryz.underlying196 (by kernel_rfl) g cur.size (by have hg' : w.drew.heap[g]? = some (.cells cur 5 (0, 0)) := hg; simp [World.shape?, hg']) l h0 (by omega) (by unfold maxLen at hcm; omega) ?_
    intro j x hx
    have := hown.cells (g := g) rfl j (.int .u8 x.toNat) (by simp [Lib.byteCells, hx])
    exact this
  have HDR : Hid (w.drawn ≤ (w.drew.freeze ⟨g, 0, none⟩ l.length).drawn) := by
    show _ ≤ _
    have : (w.drew.freeze ⟨g, 0, none⟩ l.length).drawn = w.drawn + 1 := by unfold World.freeze; split <;> rfl
    omega
  have HBL : Hid (Below B w (w.drew.freeze ⟨g, 0, none⟩ l.length)) := Lib.below_freeze (Below.drew (Below.refl B w)) (p := ⟨g, 0, none⟩) hbg _
  have mixed : Tryz.prog.follows .mixedOrders = true := by kernel_rfl
  go_enter Tryz.func140, Tryz.ntmps140
  go_wp2
  go_region_o
  all_goals (go_wp2; go_ret; exact ⟨rfl, HBL.out, HDR.out⟩)
end Dr
end Go.Proofs.YtombmeppdhhjhaaGreat

namespace Go.Proofs.YtombmeppdhhjhaaGreat
open Go.RowKit
namespace Dr
def joined (l : List Bs) : Bs := l.flatMap (47 :: ·)
theorem joined_snoc (l : List Bs) (x : Bs) : joined (l ++ [x]) = joined l ++ 47 :: x := by simp [joined]
theorem joined_take_le (l : List Bs) (k : Nat) : (joined (l.take k)).length ≤ (joined l).length := by
  conv => rhs; rw [← List.take_append_drop k l]
  unfold joined
  rw [List.flatMap_append, List.length_append]
  omega
theorem take_snoc' {l : List Bs} {k : Nat} {x : Bs} (h : l[k]? = some x) : l.take (k + 1) = l.take k ++ [x] := by
  rw [List.take_add_one, h]; rfl
structure JIn (l : List Bs) (k : Nat) (w wr : World) : Prop where
  le : k ≤ l.length
  text : Lib.IsBuilder 168 5 w.heap.size w.heap.size (Lib.byteCells (joined (l.take k))) wr
  later : Below w.heap.size w wr
  up : w.drawn ≤ wr.drawn
theorem join_of {l : List Bs} (h : l ≠ []) : Pa.join l = joined l := by unfold Pa.join joined; rw [if_neg h]
set_option maxHeartbeats 4000000 in
set_option maxRecDepth 100000 in
theorem join_up (l : List Bs) (A : Option Addr) (cap : Nat) (w : World) (hr : RdS w A l) (hl : (joined l).length ≤ 140737488355328) : Calls Tryz.prog 100 #[.slice A l.length cap] w fun e w' => e = .returned (.string (strOf (Pa.join l))) ∧ (Below w.heap.size w w' ∧ w.drawn ≤ w'.drawn) := by
  by_cases h0 : l = []
  · subst h0
    go_enter Tryz.func100, Tryz.ntmps100
    go_wp2
    go_ret
    exact ⟨rfl, Below.refl _ _, Nat.le_refl _⟩
  have hp : 0 < l.length := List.length_pos_iff.2 h0
  have hll : l.length ≤ (joined l).length := by
    clear hl hp h0 hr
    induction l with
    | nil => simp [joined]
    | cons x l ih => unfold joined at ih ⊢; rw [List.flatMap_cons, List.length_append, List.length_cons, List.length_cons]; omega
  have hlen0 : ((l.length : Int) == 0) = false := by simp; omega
  have HE : Hid (Pa.join l = joined l) := join_of h0
  have HS : Hid (∀ wr, Below w.heap.size w wr → RdS wr A l) := fun wr h => hr.below h
  obtain ⟨b, off, rfl, hblt, _⟩ := hr hp
  have HL := Lib.hid hl
  have HNE : Hid (joined l ≠ []) := by
    show _ ≠ _
    intro e
    rw [e] at hll
    have h9 : l.length ≤ 0 := hll
    omega
  have hlm : l.length ≤ 140737488355328 := by omega
  clear hr hl hll
  have H0 : Hid (JIn l 0 w (w.alloc (.cells #[.pointer none, .slice none 0 0] 168))) := ⟨Nat.zero_le _, .inl ⟨Nat.le_refl _, _, heap_alloc_new w _, ⟨rfl, .inl ⟨rfl, rfl⟩⟩, by simp [Value.ownBlock]⟩, below_new w _, Nat.le_refl _⟩
  go_enter Tryz.func100, Tryz.ntmps100
  go_wp2
  go_loopw [11] (fun t11 wr => ∃ k : Nat, t11 = .int .i64 k ∧ Hid (JIn l k w wr)) (fun t11 _ => l.length - (match t11 with | .int _ k => k.toNat | _ => 0))
  case atStart => exact ⟨0, rfl, H0⟩
  case round =>
    obtain ⟨k, rfl, HJ⟩ := hrel
    by_cases hk : k < l.length
    · obtain ⟨x, hx⟩ : ∃ x, l[k]? = some x := ⟨_, List.getElem?_eq_getElem hk⟩
      have hcell : wr.cell? ⟨b, off + k, none⟩ = some (.string (strOf x)) := by
        obtain ⟨b', off', e, h⟩ := (HS.out wr HJ.out.later).at_ hx
        cases e
        exact h
      have HT : Hid (l.take (k + 1) = l.take k ++ [x]) := take_snoc' hx
      have HN : Hid ((joined (l.take k)).length + 1 + x.length ≤ 140737488355328) := by
        have h1 := joined_take_le l (k + 1)
        have h2 := HL.out
        rw [HT.out, joined_snoc, List.length_append, List.length_cons] at h1
        show _ ≤ _
        omega
      have HBS : Hid (w.heap.size ≤ wr.heap.size) := HJ.out.later.size
      clear hx
      go_wp2_with fail
      refine (writeByte_up w.heap.size w.heap.size _ 47 _ HJ.out.text (by rw [Lib.byteCells_length]; have := HN.out; omega) HBS.out).mono ?_
      rintro e w1 ⟨rfl, hb1, hl1, hd1⟩
      have HB1 : Hid (Lib.IsBuilder 168 5 w.heap.size w.heap.size (Lib.byteCells (joined (l.take k) ++ [47])) w1) := .inr (by rw [Lib.byteCells_append]; exact hb1)
      have HL1 : Hid (Below w.heap.size w w1) := HJ.out.later.trans hl1
      have HD1 : Hid (w.drawn ≤ w1.drawn) := Nat.le_trans HJ.out.up hd1
      have HBS1 : Hid (w.heap.size ≤ w1.heap.size) := HL1.out.size
      clear hb1 hl1 hd1
      go_wp2_with fail
      refine (writeString_up w.heap.size w.heap.size _ x _ HB1.out (by rw [Lib.byteCells_length, List.length_append]; have := HN.out; simp only [List.length_singleton]; omega) HBS1.out).mono ?_
      rintro e w2 ⟨rfl, hb2, hl2, hd2⟩
      have HJ2 : Hid (JIn l (k + 1) w w2) := by
        refine ⟨hk, .inr ?_, HL1.out.trans hl2, Nat.le_trans HD1.out hd2⟩
        rw [HT.out, joined_snoc, show joined (l.take k) ++ 47 :: x = (joined (l.take k) ++ [47]) ++ x by simp, Lib.byteCells_append]
        exact hb2
      clear hb2 hl2 hd2
      go_wp2_with fail
      go_roundw
      case rel => exact ⟨k + 1, rfl, HJ2⟩
      case measure => simp; omega
    · obtain rfl : k = l.length := by have := HJ.out.le; omega
      have HB1 : Hid (Lib.IsBuilder 168 5 w.heap.size w.heap.size (Lib.byteCells (joined l)) wr) := by
        have h := HJ.out.text
        rw [List.take_length] at h
        exact h
      go_wp2_with fail
      refine (text_up w.heap.size w.heap.size _ _ HB1.out HNE.out).mono ?_
      rintro e w1 ⟨rfl, hl1, hd1⟩
      have HL1 : Hid (Below w.heap.size w w1) := HJ.out.later.trans hl1
      have HD1 : Hid (w.drawn ≤ w1.drawn) := Nat.le_trans HJ.out.up hd1
      clear hl1 hd1
      go_wp2_with fail
      go_ret
      exact ⟨by rw [HE.out]; rfl, HL1.out, HD1.out⟩
end Dr
end Go.Proofs.YtombmeppdhhjhaaGreat

namespace Go.Proofs.YtombmeppdhhjhaaGreat
open Go.RowKit Rc
open Tr (Nm En T)
namespace Gt
/-! The order. -/
theorem cb_less : ∀ a b : Bs, decide (Lib.compareBytes a b < 0) = Tr.less a b
  | [], [] => rfl
  | [], _ :: _ => rfl
  | _ :: _, [] => rfl
  | a :: x, b :: y => by
    have h := cb_less x y
    unfold Tr.less at h ⊢
    unfold Lib.compareBytes Op.bytesLess
    by_cases h1 : a < b
    · simp [h1]
    · by_cases h2 : b < a
      · have h3 : a ≠ b := fun e => by subst e; exact h1 h2
        simp [h1, h2, h3]
      · have h3 : a = b := UInt8.le_antisymm (UInt8.not_lt.1 h2) (UInt8.not_lt.1 h1)
        simp [h3, h]
def cmpP (p q : List Bs) : Int := Lib.compareBytes (Pa.join p) (Pa.join q)
theorem cmpP_less (p q : List Bs) : decide (cmpP p q < 0) = Tr.less (Pa.join p) (Pa.join q) := cb_less _ _
abbrev EltP (w : World) (blk : Nat) (S : Nat → Prop) (y : Option Addr × List Bs × Nat) : Prop := y.2.1.length ≤ y.2.2 ∧ RdS w y.1 y.2.1 ∧ (∀ b, y.1.map (·.block) = some b → (b ≠ blk ∧ b < w.heap.size) ∧ S b) ∧ (Dr.joined y.2.1).length ≤ 140737488355328
def Elt (w : World) (blk : Nat) (S : Nat → Prop) := {y : Option Addr × List Bs × Nat // EltP w blk S y}
instance (w : World) (blk : Nat) (S : Nat → Prop) : Inhabited (Elt w blk S) := ⟨⟨(none, [], 0), Nat.le_refl _, (fun h => absurd h (Nat.lt_irrefl 0)), (fun _b h => nomatch h), Nat.zero_le _⟩⟩
section
variable {w : World} {blk : Nat} {S : Nat → Prop}
def encE (y : Elt w blk S) : Value := .slice y.1.1 y.1.2.1.length y.1.2.2
def cfE (x y : Elt w blk S) : Int := cmpP x.1.2.1 y.1.2.1
theorem lt_is (x y : Elt w blk S) : ltOf cfE x y = decide (Pa.join x.1.2.1 < Pa.join y.1.2.1) := by
  show decide (cmpP _ _ < 0) = _
  rw [cmpP_less, Tr.less_eq]
theorem swo : Go.Sort.SWO (ltOf (cfE (w := w) (blk := blk) (S := S))) where
  irrefl x := by rw [lt_is]; simp
  trans x y z h1 h2 := by
    rw [lt_is] at *
    simp only [decide_eq_true_eq] at *
    exact List.lt_trans h1 h2
  ntrans x y z h1 h2 := by
    rw [lt_is] at *
    simp only [decide_eq_false_iff_not, List.not_lt] at *
    exact List.le_trans h2 h1
end
theorem grow_of {W w' : World} (hb : Below W.heap.size W w') (hd : W.drawn ≤ w'.drawn) : ∃ q os, w' = Go.Sort.grow (W.drewN q) os := by
  obtain ⟨h1, h2, h3, h4, h5⟩ := hb
  refine ⟨w'.drawn - W.drawn, w'.heap.extract W.heap.size w'.heap.size, ?_⟩
  cases w' with
  | mk heap tape drawn os output =>
    cases W with
    | mk heap0 tape0 drawn0 os0 output0 =>
      simp only at h1 h2 h3 h4 h5 hd
      subst h1 h2 h3
      simp only [Go.Sort.grow, World.drewN, World.mk.injEq]
      refine ⟨?_, trivial, by omega, trivial, trivial⟩
      apply Array.ext_getElem?
      intro k
      rw [Array.getElem?_append]
      split
      · rename_i h; exact h5 k h
      · rw [Array.getElem?_extract]
        split
        · rename_i h6 h7; congr 1; omega
        · rename_i h6 h7; rw [Array.getElem?_eq_none]; omega
set_option maxHeartbeats 1000000 in
set_option maxRecDepth 100000 in
theorem names2_any (W : World) (A1 A2 : Option Addr) (p q : List Bs) (c1 c2 : Nat) (hr1 : RdS W A1 p) (hr2 : RdS W A2 q) (hl1 : (Dr.joined p).length ≤ 140737488355328) (hl2 : (Dr.joined q).length ≤ 140737488355328) :
    Calls Tryz.prog 98 #[.slice A1 p.length c1, .slice A2 q.length c2] W fun e w' => e = .returned (.int .i64 (cmpP p q)) ∧ Below W.heap.size W w' ∧ W.drawn ≤ w'.drawn := by
  have HR2 := Lib.hid hr2
  have HJ := Lib.hid (Dr.join_up p A1 c1 W hr1 hl1)
  have HL2 := Lib.hid hl2
  clear hr1 hr2 hl1 hl2
  go_enter Tryz.func98, Tryz.ntmps98
  go_wp2_with fail
  refine HJ.out.mono ?_
  rintro e w1 ⟨rfl, hb1, hd1⟩
  have HB1 := Lib.hid hb1
  have HD1 := Lib.hid hd1
  clear hb1 hd1
  go_wp2_with fail
  refine (Dr.join_up q A2 c2 w1 (HR2.out.below HB1.out) HL2.out).mono ?_
  rintro e w2 ⟨rfl, hb1, hd1⟩
  have HB2 := Lib.hid (HB1.out.trans (hb1.mono HB1.out.size))
  have HD2 := Lib.hid (Nat.le_trans HD1.out hd1)
  clear hb1 hd1
  go_wp2_with fail
  refine (Tryz.strings_Compare (strOf (Pa.join p)) (strOf (Pa.join q)) w2).mono ?_
  rintro e w3 ⟨rfl, hw3⟩
  obtain rfl := hw3.symm
  go_wp2_with fail
  go_ret
  exact ⟨rfl, HB2.out, HD2.out⟩
end Gt
end Go.Proofs.YtombmeppdhhjhaaGreat

namespace Go.Proofs.YtombmeppdhhjhaaGreat
open Go.RowKit Rc
open Tr (Nm En T)
namespace Gt
section
variable {α : Type} [Inhabited α] {enc : α → Value} {w : World} {blk off m : Nat} {dk : Array α} {os : Array Obj}
theorem sw_size : w.heap.size ≤ (sortWorld enc w blk off m dk os).heap.size := by
  simp [sortWorld, Go.Sort.grow, Go.Sort.putRow, Go.Sort.mapBlock, Go.Sort.ahead]
theorem sw_other {b : Nat} (hne : b ≠ blk) (hlt : b < w.heap.size) : (sortWorld enc w blk off m dk os).heap[b]? = w.heap[b]? := by
  show ((w.heap.modify blk (Go.Sort.onCells (Go.Sort.putCells enc off dk))) ++ os)[b]? = _
  rw [Array.getElem?_append, if_pos (by simpa using hlt), Array.getElem?_modify, if_neg (fun e => hne e.symm)]
theorem sw_at {cur : Array Value} {e : TypeId} {fr : Nat × Nat} (h : w.heap[blk]? = some (.cells cur e fr)) : (sortWorld enc w blk off m dk os).heap[blk]? = some (.cells (Go.Sort.putCells enc off dk cur) e fr) := by
  have hlt : blk < w.heap.size := (Array.getElem?_eq_some_iff.1 h).1
  show ((w.heap.modify blk (Go.Sort.onCells (Go.Sort.putCells enc off dk))) ++ os)[blk]? = _
  rw [Array.getElem?_append, if_pos (by simpa using hlt), Array.getElem?_modify, if_pos rfl, h]
  rfl
end
set_option maxHeartbeats 1000000 in
set_option maxRecDepth 100000 in
theorem sort_any {w : World} {x : Value} {L : List (List Bs)} {S : Nat → Prop} (h : Ms.LOwn 0 Ms.noOld x L S w) (hlt : ∀ b, S b → b < w.heap.size) (hj : ∀ y ∈ L, (Dr.joined y).length ≤ 140737488355328) (h0 : 0 < L.length) (h9 : L.length ≤ 1000000000) :
    Calls Tryz.prog 97 #[x, .func (.func 98) #[] #[]] w fun e w' => e = .returned (.tuple #[]) ∧ ∃ L' : List (List Bs), L'.Perm L ∧ L'.Pairwise (fun p q => Tr.less (Pa.join q) (Pa.join p) = false) ∧ Ms.LOwn 0 Ms.noOld x L' S w' ∧ Mod w w' (fun b => x.ownBlock = some b) := by
  obtain ⟨xs, h1, h2, h3⟩ := h
  obtain ⟨g, cap, cur, rfl, _, hg, hn, hm, hcs, hx⟩ : ∃ g cap cur, x = .slice (some ⟨g, 0, none⟩) L.length cap ∧ 0 ≤ g ∧ w.heap[g]? = some (.cells cur 26 (0, 0)) ∧ L.length ≤ cap ∧ cap ≤ maxLen ∧ cur.size = cap * 1 ∧ cur.toList.take (L.length * 1) = xs := by
    rcases h1.2 with ⟨_, hz⟩ | hr
    · omega
    · exact hr
  have hgl : g < w.heap.size := (Array.getElem?_eq_some_iff.1 hg).1
  have hxl : xs.length = L.length := by simpa using h1.1
  have key : ∀ i : Fin L.length, ∃ y : Elt w g S, y.1.2.1 = L[i] ∧ xs[i.1]? = some (encE y) := fun i => by
    obtain ⟨A, c, q1, q2, q3⟩ := h3 i.1 L[i] (List.getElem?_eq_getElem i.2)
    rcases q3 with q3 | q3
    · exact ⟨⟨(A, L[i], c), q2, q3.1, (fun b hb => ⟨⟨fun e => (q3.2 b hb).2 (by rw [e]; rfl), hlt b (q3.2 b hb).1⟩, (q3.2 b hb).1⟩), hj _ (List.getElem_mem i.2)⟩, rfl, q1⟩
    · exact q3.elim
  obtain ⟨f, hf⟩ := Classical.axiomOfChoice key
  obtain ⟨d, hd⟩ : ∃ d, d = Array.ofFn f := ⟨_, rfl⟩
  have hds : d.size = L.length := by rw [hd, Array.size_ofFn]
  have hdj : ∀ j (hl : j < L.length), d[j]! = f ⟨j, hl⟩ := fun j hl => by
    rw [getElem!_pos d j (by omega)]
    simp [hd]
  have hdL : d.toList.map (fun y => y.1.2.1) = L := by
    apply List.ext_getElem?
    intro j
    rw [List.getElem?_map, Array.getElem?_toList]
    by_cases hl : j < L.length
    · rw [List.getElem?_eq_getElem hl, Array.getElem?_eq_getElem (by omega)]
      have h5 := hdj j hl
      rw [getElem!_pos d j (by omega)] at h5
      rw [h5]
      exact congrArg some (hf ⟨j, hl⟩).1
    · rw [List.getElem?_eq_none (by omega), Array.getElem?_eq_none (by omega)]; rfl
  have hH : Go.Sort.Holds encE w g 0 d := fun j hjl => by
    have hl : j < L.length := by omega
    refine ⟨?_, Lib.frozen_of_heap hg _⟩
    rw [Nat.zero_add, cell_of_row w g j cur _ _ hg, hdj j hl, ← (hf ⟨j, hl⟩).2, ← hx, List.getElem?_take_of_lt (by omega), Array.getElem?_toList]
  have hcmp : CmpLays1 Tryz.prog 98 #[] encE cfE g 0 d.size w := fun m os dk hs y z => by
    have hrd : ∀ y : Elt w g S, RdS (sortWorld encE w g 0 m dk os) y.1.1 y.1.2.1 := fun y => Ms.RdS.keep y.2.2.1 (fun p hp hA => World.cell?_of_block (sw_other (y.2.2.2.1 _ hA).1.1 hp)) sw_size
    refine (names2_any (sortWorld encE w g 0 m dk os) y.1.1 z.1.1 y.1.2.1 z.1.2.1 y.1.2.2 z.1.2.2 (hrd y) (hrd z) y.2.2.2.2 z.2.2.2.2).mono ?_
    rintro e w' ⟨rfl, hb, hdr⟩
    exact ⟨rfl, grow_of hb hdr⟩
  have hent : ∀ (args : Array Value) (w : World), (callFunc 98 args).run Tryz.prog w = .ok (.enter 98 args) w := enters_of Tryz.func98 (by kernel_rfl) rfl
  have hcall := Tryz.slices_SortFunc (encE (w := w) (blk := g) (S := S)) (fun _ => rfl) cfE swo 98 #[] g 0 cap d w hent hcmp hH hgl (by omega)
  rw [hds] at hcall
  refine hcall.mono ?_
  rintro e w' ⟨rfl, d', n, os, ⟨p1, _, p3⟩, hs, rfl⟩
  rw [hds] at p1
  have hp : d'.toList.Perm d.toList := by
    have e1 : d'.extract 0 L.length = d' := by rw [← p1]; simp
    have e2 : d.extract 0 L.length = d := by rw [← hds]; simp
    rw [e1, e2] at p3
    exact p3
  refine ⟨rfl, d'.toList.map (fun y => y.1.2.1), by rw [← hdL]; exact hp.map _, ?_, ?_, rfl, rfl, rfl, sw_size, fun b hb hne => sw_other (fun e => hne (by rw [e]; rfl)) hb⟩
  · rw [List.pairwise_iff_getElem]
    intro i j hi hj2 hij
    simp only [List.length_map, Array.length_toList] at hi hj2
    have h5 := hs i j (Nat.zero_le _) hij (by omega)
    rw [getElem!_pos d' i hi, getElem!_pos d' j hj2, lt_is] at h5
    rw [Tr.less_eq]
    simpa using h5
  · refine ⟨d'.toList.map encE, ⟨by simp, .inr ⟨g, cap, Go.Sort.putCells encE 0 d' cur, by simp [p1], Nat.zero_le _, sw_at hg, by simp [p1]; exact hn, hm, by simp [Go.Sort.putCells]; omega, ?_⟩⟩, ?_, fun j y hy => ?_⟩
    · apply List.ext_getElem?
      intro k
      rw [List.getElem?_take]
      simp only [List.length_map, Array.length_toList, Nat.mul_one]
      by_cases hk : k < d'.size
      · rw [if_pos hk, Array.getElem?_toList, List.getElem?_map, Array.getElem?_toList, Array.getElem?_eq_getElem hk]
        simp only [Go.Sort.putCells, Array.getElem?_mapIdx]
        rw [Array.getElem?_eq_getElem (show k < cur.size by omega)]
        simp [hk]
      · rw [if_neg hk, List.getElem?_eq_none (by simp; omega)]
    · exact h2
    · rw [List.getElem?_map, Array.getElem?_toList] at hy
      obtain ⟨y0, hy0, rfl⟩ := Option.map_eq_some_iff.1 hy
      refine ⟨y0.1.1, y0.1.2.2, by rw [List.getElem?_map, Array.getElem?_toList, hy0]; rfl, y0.2.1, .inl ⟨Ms.RdS.keep y0.2.2.1 (fun p hp2 hA => World.cell?_of_block (sw_other (y0.2.2.2.1 _ hA).1.1 hp2)) sw_size, fun b hb => ⟨(y0.2.2.2.1 b hb).2, fun e => ?_⟩⟩⟩
      have := (y0.2.2.2.1 b hb).1.1
      simp [Value.ownBlock] at e
      omega
end Gt
end Go.Proofs.YtombmeppdhhjhaaGreat

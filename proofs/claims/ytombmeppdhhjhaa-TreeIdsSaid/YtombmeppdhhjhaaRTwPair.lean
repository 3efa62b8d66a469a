/-
  OWN WORK. The program's tree and the document's, side by side, beside what an ask holds.
-/
import Derived.Test.YtombmeppdhhjhaaRRfRen
import Derived.Test.YtombmeppdhhjhaaRRfApp
import Derived.Test.YtombmeppdhhjhaaRRfMake
import Derived.Test.YtombmeppdhhjhaaRTrObjB
namespace Go.Proofs.Ytombmeppdhhjhaa
open Go.RowKit Rc
open Tr (Nm En T)
namespace Tw
theorem rds_stay {w w' : World} {A : Option Addr} {l : List Bs} (h : RdS w A l) (hs : w.heap.size ≤ w'.heap.size) (hb : 0 < l.length → ∀ k, A.map (·.block) = some k → w'.heap[k]? = w.heap[k]?) : RdS w' A l := fun hl => by
  obtain ⟨b, off, rfl, hlt, hc⟩ := h hl
  exact ⟨b, off, rfl, Nat.lt_of_lt_of_le hlt hs, fun j x hj => (World.cell?_of_block (hb hl b rfl)).trans (hc j x hj)⟩
theorem rd_stay {w w' : World} {A : Option Addr} {l : Bs} (h : Rd w A l) (hs : w.heap.size ≤ w'.heap.size) (hb : 0 < l.length → ∀ k, A.map (·.block) = some k → w'.heap[k]? = w.heap[k]?) : Rd w' A l := fun hl => h.keep (fun p _ hA => World.cell?_of_block (hb hl _ hA)) hs hl
structure St (v r : Value) (Tp Tq : T) (g0 : Nat) (cs : List Value) (A A2 : Option Addr) (q q2 : List Bs) (X : Option Addr) (b : Bs) (c c2 cb : Nat) (C : Nat → Prop) (w0 : World) (B1 B2 : Nat → Prop) (w : World) : Prop where
  t : Tm.TAt v Tp B1 w
  r : Rf.RAt r Tq B2 w
  ap : ∀ k, B1 k → ¬ B2 k
  box : Blk w g0 75 cs
  ob : ¬ B1 g0 ∧ ¬ B2 g0
  rq : RdS w A q
  rq2 : RdS w A2 q2
  rb : Rd w X b
  fq : 0 < q.length → ∀ k, A.map (·.block) = some k → k < w.heap.size ∧ ¬ B1 k ∧ ¬ B2 k
  fq2 : 0 < q2.length → ∀ k, A2.map (·.block) = some k → k < w.heap.size ∧ ¬ B1 k ∧ ¬ B2 k
  fb : 0 < b.length → ∀ k, X.map (·.block) = some k → k < w.heap.size ∧ ¬ B1 k ∧ ¬ B2 k
  hq : q.length ≤ c ∧ q.length ≤ 1000000 ∧ ∀ s ∈ q, s.length ≤ 1000000
  hq2 : q2.length ≤ c2 ∧ q2.length ≤ 1000000 ∧ ∀ s ∈ q2, s.length ≤ 1000000
  hb : b.length ≤ cb ∧ b.length ≤ 1000000
  mod : Mod w0 w C
  sub : ∀ k, B1 k ∨ B2 k → C k ∨ w0.heap.size ≤ k
variable {v r : Value} {Tp Tq T' : T} {g0 : Nat} {cs : List Value} {A A2 X : Option Addr} {q q2 : List Bs} {b : Bs} {c c2 cb : Nat} {C B1 B2 : Nat → Prop} {w0 w w' : World}
theorem St.lt1 (h : St v r Tp Tq g0 cs A A2 q q2 X b c c2 cb C w0 B1 B2 w) {k : Nat} (hk : B1 k) : k < w.heap.size := Tm.tobj.lt h.t k hk
theorem St.lt2 (h : St v r Tp Tq g0 cs A A2 q q2 X b c c2 cb C w0 B1 B2 w) {k : Nat} (hk : B2 k) : k < w.heap.size := Rf.robj.lt h.r k hk
theorem St.later (h : St v r Tp Tq g0 cs A A2 q q2 X b c c2 cb C w0 B1 B2 w) (hb : Below w.heap.size w w') : St v r Tp Tq g0 cs A A2 q q2 X b c c2 cb C w0 B1 B2 w' :=
  ⟨Tm.tobj.keep h.t hb.size fun k hk => hb.block k (h.lt1 hk), Rf.robj.keep h.r hb.size fun k hk => hb.block k (h.lt2 hk), h.ap, h.box.below hb h.box.lt, h.ob, h.rq.below hb, h.rq2.below hb, h.rb.below hb,
    fun hl k hk => ⟨Nat.lt_of_lt_of_le (h.fq hl k hk).1 hb.size, (h.fq hl k hk).2⟩, fun hl k hk => ⟨Nat.lt_of_lt_of_le (h.fq2 hl k hk).1 hb.size, (h.fq2 hl k hk).2⟩, fun hl k hk => ⟨Nat.lt_of_lt_of_le (h.fb hl k hk).1 hb.size, (h.fb hl k hk).2⟩, h.hq, h.hq2, h.hb,
    Ob.mod_more h.mod (Mod.of_below hb fun _ => False) (fun _ h => h.elim), h.sub⟩
theorem St.left (h : St v r Tp Tq g0 cs A A2 q q2 X b c c2 cb C w0 B1 B2 w) {B1' : Nat → Prop} (ht : Tm.TAt v T' B1' w') (hm : Mod w w' B1) (hs : ∀ k, B1' k → B1 k ∨ w.heap.size ≤ k) : St v r T' Tq g0 cs A A2 q q2 X b c c2 cb C w0 B1' B2 w' := by
  have hn : ∀ {k : Nat}, k < w.heap.size → ¬ B1 k → ¬ B1' k := fun hk hno hB => (hs _ hB).elim hno fun h1 => by omega
  refine ⟨ht, Rf.robj.keep h.r hm.size fun k hk => hm.block k (h.lt2 hk) fun h1 => h.ap k h1 hk, fun k h1 h2 => ?_, (hm.block g0 h.box.lt h.ob.1).trans h.box, ⟨hn h.box.lt h.ob.1, h.ob.2⟩,
    rds_stay h.rq hm.size fun hl k hk => hm.block k (h.fq hl k hk).1 (h.fq hl k hk).2.1, rds_stay h.rq2 hm.size fun hl k hk => hm.block k (h.fq2 hl k hk).1 (h.fq2 hl k hk).2.1, rd_stay h.rb hm.size fun hl k hk => hm.block k (h.fb hl k hk).1 (h.fb hl k hk).2.1,
    fun hl k hk => ⟨Nat.lt_of_lt_of_le (h.fq hl k hk).1 hm.size, hn (h.fq hl k hk).1 (h.fq hl k hk).2.1, (h.fq hl k hk).2.2⟩, fun hl k hk => ⟨Nat.lt_of_lt_of_le (h.fq2 hl k hk).1 hm.size, hn (h.fq2 hl k hk).1 (h.fq2 hl k hk).2.1, (h.fq2 hl k hk).2.2⟩, fun hl k hk => ⟨Nat.lt_of_lt_of_le (h.fb hl k hk).1 hm.size, hn (h.fb hl k hk).1 (h.fb hl k hk).2.1, (h.fb hl k hk).2.2⟩, h.hq, h.hq2, h.hb,
    Ob.mod_more h.mod hm fun k hk => h.sub k (.inl hk), fun k hk => ?_⟩
  · rcases hs k h1 with h3 | h3
    · exact h.ap k h3 h2
    · have := h.lt2 h2; omega
  · rcases hk with hk | hk
    · exact (hs k hk).elim (fun h1 => h.sub k (.inl h1)) fun h1 => .inr (Nat.le_trans h.mod.size h1)
    · exact h.sub k (.inr hk)
theorem St.right (h : St v r Tp Tq g0 cs A A2 q q2 X b c c2 cb C w0 B1 B2 w) {B2' : Nat → Prop} (ht : Rf.RAt r T' B2' w') (hm : Mod w w' B2) (hs : ∀ k, B2' k → B2 k ∨ w.heap.size ≤ k) : St v r Tp T' g0 cs A A2 q q2 X b c c2 cb C w0 B1 B2' w' := by
  have hn : ∀ {k : Nat}, k < w.heap.size → ¬ B2 k → ¬ B2' k := fun hk hno hB => (hs _ hB).elim hno fun h1 => by omega
  refine ⟨Tm.tobj.keep h.t hm.size fun k hk => hm.block k (h.lt1 hk) fun h1 => h.ap k hk h1, ht, fun k h1 h2 => ?_, (hm.block g0 h.box.lt h.ob.2).trans h.box, ⟨h.ob.1, hn h.box.lt h.ob.2⟩,
    rds_stay h.rq hm.size fun hl k hk => hm.block k (h.fq hl k hk).1 (h.fq hl k hk).2.2, rds_stay h.rq2 hm.size fun hl k hk => hm.block k (h.fq2 hl k hk).1 (h.fq2 hl k hk).2.2, rd_stay h.rb hm.size fun hl k hk => hm.block k (h.fb hl k hk).1 (h.fb hl k hk).2.2,
    fun hl k hk => ⟨Nat.lt_of_lt_of_le (h.fq hl k hk).1 hm.size, (h.fq hl k hk).2.1, hn (h.fq hl k hk).1 (h.fq hl k hk).2.2⟩, fun hl k hk => ⟨Nat.lt_of_lt_of_le (h.fq2 hl k hk).1 hm.size, (h.fq2 hl k hk).2.1, hn (h.fq2 hl k hk).1 (h.fq2 hl k hk).2.2⟩, fun hl k hk => ⟨Nat.lt_of_lt_of_le (h.fb hl k hk).1 hm.size, (h.fb hl k hk).2.1, hn (h.fb hl k hk).1 (h.fb hl k hk).2.2⟩, h.hq, h.hq2, h.hb,
    Ob.mod_more h.mod hm fun k hk => h.sub k (.inr hk), fun k hk => ?_⟩
  · rcases hs k h2 with h3 | h3
    · exact h.ap k h1 h3
    · have := h.lt1 h1; omega
  · rcases hk with hk | hk
    · exact h.sub k (.inl hk)
    · exact (hs k hk).elim (fun h1 => h.sub k (.inr h1)) fun h1 => .inr (Nat.le_trans h.mod.size h1)
/-- What the program's calls leave; what the document's leave. -/
def AnsT (v r : Value) (Tp Tq : T) (g0 : Nat) (cs : List Value) (A A2 : Option Addr) (q q2 : List Bs) (X : Option Addr) (b : Bs) (c c2 cb : Nat) (C : Nat → Prop) (w0 : World) (B2 : Nat → Prop) (x : Value) (e : Ending) (w' : World) : Prop := e = .returned x ∧ ∃ B1', Hid (St v r Tp Tq g0 cs A A2 q q2 X b c c2 cb C w0 B1' B2 w')
def AnsR (v r : Value) (Tp Tq : T) (g0 : Nat) (cs : List Value) (A A2 : Option Addr) (q q2 : List Bs) (X : Option Addr) (b : Bs) (c c2 cb : Nat) (C : Nat → Prop) (w0 : World) (B1 : Nat → Prop) (x : Value) (e : Ending) (w' : World) : Prop := e = .returned x ∧ ∃ B2', Hid (St v r Tp Tq g0 cs A A2 q q2 X b c c2 cb C w0 B1 B2' w')
theorem St.makeT (h : St v r Tp Tq g0 cs A A2 q q2 X b c c2 cb C w0 B1 B2 w) (hG : Tr.Good Tp) (kind : Int) : Calls Try.prog 7 #[v, .slice A q.length c, .int .i64 kind] w (AnsT v r (Tr.make Tp q kind).2 Tq g0 cs A A2 q q2 X b c c2 cb C w0 B2 (.tuple #[.int .i64 (Tr.make Tp q kind).1.1, .int .i64 ((Tr.make Tp q kind).1.2 : Nat)])) := by
  obtain ⟨p, av, gs, S, rfl, H, rfl⟩ := h.t
  refine (Tm.make_any H hG A q c kind h.rq h.hq.1 h.hq.2.1 h.hq.2.2).mono ?_
  rintro e w' ⟨he, S', k1, k2, k3⟩
  exact ⟨he, S', h.left k1 k2 k3⟩
theorem St.makeR (h : St v r Tp Tq g0 cs A A2 q q2 X b c c2 cb C w0 B1 B2 w) (hG : Tr.Good Tq) (kind : Int) : Calls Try.prog 49 #[r, .slice A q.length c, .int .i64 kind] w (AnsR v r Tp (Tr.make Tq q kind).2 g0 cs A A2 q q2 X b c c2 cb C w0 B1 (.tuple #[.int .i64 (Tr.make Tq q kind).1.1, .int .i64 ((Tr.make Tq q kind).1.2 : Nat)])) := by
  obtain ⟨p, nv, dv, ev, D, rfl, H, rfl⟩ := h.r
  refine (Rf.make_any H hG A q c kind h.rq h.hq.1 h.hq.2.1 h.hq.2.2).mono ?_
  rintro e w' ⟨he, S', k1, k2, k3⟩
  exact ⟨he, S', h.right k1 k2 k3⟩
theorem St.linkT (h : St v r Tp Tq g0 cs A A2 q q2 X b c c2 cb C w0 B1 B2 w) (hG : Tr.Good Tp) : Calls Try.prog 32 #[v, .slice A q.length c, .slice A2 q2.length c2] w (AnsT v r (Tr.link Tp q q2).2 Tq g0 cs A A2 q q2 X b c c2 cb C w0 B2 (.int .i64 ((Tr.link Tp q q2).1 : Nat))) := by
  obtain ⟨p, av, gs, S, rfl, H, rfl⟩ := h.t
  refine (Tm.link_any H hG A A2 q q2 c c2 h.rq h.hq.1 h.hq.2.1 h.hq.2.2 h.rq2 h.hq2.1 h.hq2.2.1 h.hq2.2.2).mono ?_
  rintro e w' ⟨he, S', k1, k2, k3⟩
  exact ⟨he, S', h.left k1 k2 k3⟩
theorem St.linkR (h : St v r Tp Tq g0 cs A A2 q q2 X b c c2 cb C w0 B1 B2 w) (hG : Tr.Good Tq) : Calls Try.prog 50 #[r, .slice A q.length c, .slice A2 q2.length c2] w (AnsR v r Tp (Tr.link Tq q q2).2 g0 cs A A2 q q2 X b c c2 cb C w0 B1 (.int .i64 ((Tr.link Tq q q2).1 : Nat))) := by
  obtain ⟨p, nv, dv, ev, D, rfl, H, rfl⟩ := h.r
  refine (Rf.link_any H hG A A2 q q2 c c2 h.rq h.hq.1 h.hq.2.1 h.hq.2.2 h.rq2 h.hq2.1 h.hq2.2.1 h.hq2.2.2).mono ?_
  rintro e w' ⟨he, S', k1, k2, k3⟩
  exact ⟨he, S', h.right k1 k2 k3⟩
theorem St.unlinkT (h : St v r Tp Tq g0 cs A A2 q q2 X b c c2 cb C w0 B1 B2 w) (hG : Tr.Good Tp) : Calls Try.prog 51 #[v, .slice A q.length c] w (AnsT v r (Tr.unlink Tp q).2 Tq g0 cs A A2 q q2 X b c c2 cb C w0 B2 (.int .i64 ((Tr.unlink Tp q).1 : Nat))) := by
  obtain ⟨p, av, gs, S, rfl, H, rfl⟩ := h.t
  refine (Tm.unlink_any H hG A q c h.rq h.hq.1 h.hq.2.1 h.hq.2.2).mono ?_
  rintro e w' ⟨he, S', k1, k2, k3⟩
  exact ⟨he, S', h.left k1 k2 k3⟩
theorem St.unlinkR (h : St v r Tp Tq g0 cs A A2 q q2 X b c c2 cb C w0 B1 B2 w) (hG : Tr.Good Tq) : Calls Try.prog 52 #[r, .slice A q.length c] w (AnsR v r Tp (Tr.unlink Tq q).2 g0 cs A A2 q q2 X b c c2 cb C w0 B1 (.int .i64 ((Tr.unlink Tq q).1 : Nat))) := by
  obtain ⟨p, nv, dv, ev, D, rfl, H, rfl⟩ := h.r
  refine (Rf.unlink_any H hG A q c h.rq h.hq.1 h.hq.2.1 h.hq.2.2).mono ?_
  rintro e w' ⟨he, S', k1, k2, k3⟩
  exact ⟨he, S', h.right k1 k2 k3⟩
theorem St.rmdirT (h : St v r Tp Tq g0 cs A A2 q q2 X b c c2 cb C w0 B1 B2 w) (hG : Tr.Good Tp) : Calls Try.prog 17 #[v, .slice A q.length c] w (AnsT v r (Tr.rmdir Tp q).2 Tq g0 cs A A2 q q2 X b c c2 cb C w0 B2 (.int .i64 ((Tr.rmdir Tp q).1 : Nat))) := by
  obtain ⟨p, av, gs, S, rfl, H, rfl⟩ := h.t
  refine (Tm.rmdir_any H hG A q c h.rq h.hq.1 h.hq.2.1 h.hq.2.2).mono ?_
  rintro e w' ⟨he, S', k1, k2, k3⟩
  exact ⟨he, S', h.left k1 k2 k3⟩
theorem St.rmdirR (h : St v r Tp Tq g0 cs A A2 q q2 X b c c2 cb C w0 B1 B2 w) (hG : Tr.Good Tq) : Calls Try.prog 53 #[r, .slice A q.length c] w (AnsR v r Tp (Tr.rmdir Tq q).2 g0 cs A A2 q q2 X b c c2 cb C w0 B1 (.int .i64 ((Tr.rmdir Tq q).1 : Nat))) := by
  obtain ⟨p, nv, dv, ev, D, rfl, H, rfl⟩ := h.r
  refine (Rf.rmdir_any H hG A q c h.rq h.hq.1 h.hq.2.1 h.hq.2.2).mono ?_
  rintro e w' ⟨he, S', k1, k2, k3⟩
  exact ⟨he, S', h.right k1 k2 k3⟩
theorem St.renameT (h : St v r Tp Tq g0 cs A A2 q q2 X b c c2 cb C w0 B1 B2 w) (hG : Tr.Good Tp) : Calls Try.prog 54 #[v, .slice A q.length c, .slice A2 q2.length c2] w (AnsT v r (Tr.rename Tp q q2).2 Tq g0 cs A A2 q q2 X b c c2 cb C w0 B2 (.int .i64 ((Tr.rename Tp q q2).1 : Nat))) := by
  obtain ⟨p, av, gs, S, rfl, H, rfl⟩ := h.t
  refine (Tm.rename_any H hG A A2 q q2 c c2 h.rq h.hq.1 h.hq.2.1 h.hq.2.2 h.rq2 h.hq2.1 h.hq2.2.1 h.hq2.2.2).mono ?_
  rintro e w' ⟨he, S', k1, k2, k3⟩
  exact ⟨he, S', h.left k1 k2 k3⟩
theorem St.renameR (h : St v r Tp Tq g0 cs A A2 q q2 X b c c2 cb C w0 B1 B2 w) (hG : Tr.Good Tq) : Calls Try.prog 55 #[r, .slice A q.length c, .slice A2 q2.length c2] w (AnsR v r Tp (Tr.rename Tq q q2).2 g0 cs A A2 q q2 X b c c2 cb C w0 B1 (.int .i64 ((Tr.rename Tq q q2).1 : Nat))) := by
  obtain ⟨p, nv, dv, ev, D, rfl, H, rfl⟩ := h.r
  refine (Rf.rename_any H hG A A2 q q2 c c2 h.rq h.hq.1 h.hq.2.1 h.hq.2.2 h.rq2 h.hq2.1 h.hq2.2.1 h.hq2.2.2).mono ?_
  rintro e w' ⟨he, S', k1, k2, k3⟩
  exact ⟨he, S', h.right k1 k2 k3⟩
theorem St.appendT (h : St v r Tp Tq g0 cs A A2 q q2 X b c c2 cb C w0 B1 B2 w) (hG : Tr.Good Tp) (i : Int) : Calls Try.prog 9 #[v, .int .i64 i, .slice X b.length cb] w (AnsT v r (Tr.append Tp i b).2 Tq g0 cs A A2 q q2 X b c c2 cb C w0 B2 (.int .i64 ((Tr.append Tp i b).1 : Nat))) := by
  obtain ⟨p, av, gs, S, rfl, H, rfl⟩ := h.t
  refine (Tm.append_any H hG i X b cb h.rb (by have := h.hb.2; omega)).mono ?_
  rintro e w' ⟨he, S', k1, k2, k3⟩
  exact ⟨he, S', h.left k1 k2 k3⟩
theorem St.appendR (h : St v r Tp Tq g0 cs A A2 q q2 X b c c2 cb C w0 B1 B2 w) (hG : Tr.Good Tq) (i : Int) : Calls Try.prog 56 #[r, .int .i64 i, .slice X b.length cb] w (AnsR v r Tp (Tr.append Tq i b).2 g0 cs A A2 q q2 X b c c2 cb C w0 B1 (.int .i64 ((Tr.append Tq i b).1 : Nat))) := by
  obtain ⟨p, nv, dv, ev, D, rfl, H, rfl⟩ := h.r
  refine (Rf.append_any H hG i X b cb h.rb (by have := h.hb.2; omega)).mono ?_
  rintro e w' ⟨he, S', k1, k2, k3⟩
  exact ⟨he, S', h.right k1 k2 k3⟩
theorem St.sealT (h : St v r Tp Tq g0 cs A A2 q q2 X b c c2 cb C w0 B1 B2 w) (hG : Tr.Good Tp) (i : Int) (u : Nat) (hu : u ≤ 18446744073709551615) : Calls Try.prog 19 #[v, .int .i64 i, .int .u64 (u : Nat)] w (AnsT v r (Tr.seal_ Tp i u).2 Tq g0 cs A A2 q q2 X b c c2 cb C w0 B2 (.int .i64 ((Tr.seal_ Tp i u).1 : Nat))) := by
  obtain ⟨p, av, gs, S, rfl, H, rfl⟩ := h.t
  refine (Tm.seal_any H hG i u hu).mono ?_
  rintro e w' ⟨he, S', k1, k2, k3⟩
  exact ⟨he, S', h.left k1 k2 k3⟩
theorem St.sealR (h : St v r Tp Tq g0 cs A A2 q q2 X b c c2 cb C w0 B1 B2 w) (hG : Tr.Good Tq) (i : Int) (u : Nat) (hu : u ≤ 18446744073709551615) : Calls Try.prog 58 #[r, .int .i64 i, .int .u64 (u : Nat)] w (AnsR v r Tp (Tr.seal_ Tq i u).2 g0 cs A A2 q q2 X b c c2 cb C w0 B1 (.int .i64 ((Tr.seal_ Tq i u).1 : Nat))) := by
  obtain ⟨p, nv, dv, ev, D, rfl, H, rfl⟩ := h.r
  refine (Rf.seal_any H hG i u hu).mono ?_
  rintro e w' ⟨he, S', k1, k2, k3⟩
  exact ⟨he, S', h.right k1 k2 k3⟩
theorem St.keepT (h : St v r Tp Tq g0 cs A A2 q q2 X b c c2 cb C w0 B1 B2 w) (hG : Tr.Good Tp) (i : Int) (u : Nat) (hu : u ≤ 18446744073709551615) : Calls Try.prog 18 #[v, .int .i64 i, .int .u64 (u : Nat)] w (AnsT v r (Tr.keep Tp i u).2 Tq g0 cs A A2 q q2 X b c c2 cb C w0 B2 (.int .i64 ((Tr.keep Tp i u).1 : Nat))) := by
  obtain ⟨p, av, gs, S, rfl, H, rfl⟩ := h.t
  refine (Tm.keep_any H hG i u hu).mono ?_
  rintro e w' ⟨he, S', k1, k2, k3⟩
  exact ⟨he, S', h.left k1 k2 k3⟩
theorem St.keepR (h : St v r Tp Tq g0 cs A A2 q q2 X b c c2 cb C w0 B1 B2 w) (hG : Tr.Good Tq) (i : Int) (u : Nat) (hu : u ≤ 18446744073709551615) : Calls Try.prog 59 #[r, .int .i64 i, .int .u64 (u : Nat)] w (AnsR v r Tp (Tr.keep Tq i u).2 g0 cs A A2 q q2 X b c c2 cb C w0 B1 (.int .i64 ((Tr.keep Tq i u).1 : Nat))) := by
  obtain ⟨p, nv, dv, ev, D, rfl, H, rfl⟩ := h.r
  refine (Rf.keep_any H hG i u hu).mono ?_
  rintro e w' ⟨he, S', k1, k2, k3⟩
  exact ⟨he, S', h.right k1 k2 k3⟩
theorem St.dropT (h : St v r Tp Tq g0 cs A A2 q q2 X b c c2 cb C w0 B1 B2 w) (hG : Tr.Good Tp) (i : Int) : Calls Try.prog 20 #[v, .int .i64 i] w (AnsT v r (Tr.drop Tp i).2 Tq g0 cs A A2 q q2 X b c c2 cb C w0 B2 (.int .i64 ((Tr.drop Tp i).1 : Nat))) := by
  obtain ⟨p, av, gs, S, rfl, H, rfl⟩ := h.t
  refine (Tm.dropT_any H hG i).mono ?_
  rintro e w' ⟨he, S', k1, k2, k3⟩
  exact ⟨he, S', h.left k1 k2 k3⟩
theorem St.dropR (h : St v r Tp Tq g0 cs A A2 q q2 X b c c2 cb C w0 B1 B2 w) (hG : Tr.Good Tq) (i : Int) : Calls Try.prog 60 #[r, .int .i64 i] w (AnsR v r Tp (Tr.drop Tq i).2 g0 cs A A2 q q2 X b c c2 cb C w0 B1 (.int .i64 ((Tr.drop Tq i).1 : Nat))) := by
  obtain ⟨p, nv, dv, ev, D, rfl, H, rfl⟩ := h.r
  refine (Rf.drop_any H hG i).mono ?_
  rintro e w' ⟨he, S', k1, k2, k3⟩
  exact ⟨he, S', h.right k1 k2 k3⟩
theorem St.lookT (h : St v r Tp Tq g0 cs A A2 q q2 X b c c2 cb C w0 B1 B2 w) (hG : Tr.Good Tp) : Calls Try.prog 61 #[v, .slice A q.length c] w fun e w' => e = .returned (.tuple #[.int .i64 (Tr.look Tp q).1, .int .i64 ((Tr.look Tp q).2 : Nat)]) ∧ Below w.heap.size w w' := by
  obtain ⟨p, av, gs, S, rfl, H, rfl⟩ := h.t
  exact Tm.look_any H hG A q c h.rq h.hq.1 h.hq.2.1 h.hq.2.2
theorem St.lookR (h : St v r Tp Tq g0 cs A A2 q q2 X b c c2 cb C w0 B1 B2 w) (hG : Tr.Good Tq) : Calls Try.prog 62 #[r, .slice A q.length c] w fun e w' => e = .returned (.tuple #[.int .i64 (Tr.look Tq q).1, .int .i64 ((Tr.look Tq q).2 : Nat)]) ∧ Below w.heap.size w w' := by
  obtain ⟨p, nv, dv, ev, D, rfl, H, rfl⟩ := h.r
  exact Rf.look_any H.in_ hG H.low A q c h.rq h.hq.2.1 h.hq.2.2
theorem St.nodeT (h : St v r Tp Tq g0 cs A A2 q q2 X b c c2 cb C w0 B1 B2 w) (hG : Tr.Good Tp) (i : Int) : Calls Try.prog 13 #[v, .int .i64 i] w fun e w' => e = .returned (.tuple #[(Tr.node Tp i).1.val, .bool (Tr.node Tp i).2]) ∧ Below w.heap.size w w' := by
  obtain ⟨p, av, gs, S, rfl, H, rfl⟩ := h.t
  exact Tm.node_any H hG i
theorem St.nodeR (h : St v r Tp Tq g0 cs A A2 q q2 X b c c2 cb C w0 B1 B2 w) (hG : Tr.Good Tq) (i : Int) : Calls Try.prog 63 #[r, .int .i64 i] w fun e w' => e = .returned (.tuple #[(Tr.node Tq i).1.val, .bool (Tr.node Tq i).2]) ∧ Below w.heap.size w w' := by
  obtain ⟨p, nv, dv, ev, D, rfl, H, rfl⟩ := h.r
  exact Rf.node_any H.in_ H.low i (by have := hG.few; omega)
theorem St.listT (h : St v r Tp Tq g0 cs A A2 q q2 X b c c2 cb C w0 B1 B2 w) (hG : Tr.Good Tp) (i : Int) : Calls Try.prog 64 #[v, .int .i64 i] w (Tm.LAns (Tr.list Tp i).1 (Tr.list Tp i).2 w) := by
  obtain ⟨p, av, gs, S, rfl, H, rfl⟩ := h.t
  exact Tm.list_any H hG i
theorem St.listR (h : St v r Tp Tq g0 cs A A2 q q2 X b c c2 cb C w0 B1 B2 w) (hG : Tr.Good Tq) (i : Int) : Calls Try.prog 65 #[r, .int .i64 i] w (Rf.LAns (Tr.list Tq i).1 (Tr.list Tq i).2 w) := by
  obtain ⟨p, nv, dv, ev, D, rfl, H, rfl⟩ := h.r
  exact Rf.list_any H hG i
theorem St.readT (h : St v r Tp Tq g0 cs A A2 q q2 X b c c2 cb C w0 B1 B2 w) (hG : Tr.Good Tp) (i a m : Int) (h1 : -9223372036854775808 ≤ a ∧ a ≤ 9223372036854775807) (h2 : -9223372036854775808 ≤ m ∧ m ≤ 9223372036854775807) : Calls Try.prog 12 #[v, .int .i64 i, .int .i64 a, .int .i64 m] w (Tm.RAns (Tr.read Tp i a m).1 (Tr.read Tp i a m).2 w) := by
  obtain ⟨p, av, gs, S, rfl, H, rfl⟩ := h.t
  exact Tm.read_any H hG i a m h1 h2
theorem St.readR (h : St v r Tp Tq g0 cs A A2 q q2 X b c c2 cb C w0 B1 B2 w) (hG : Tr.Good Tq) (i a m : Int) (h1 : -9223372036854775808 ≤ a ∧ a ≤ 9223372036854775807) (h2 : -9223372036854775808 ≤ m ∧ m ≤ 9223372036854775807) : Calls Try.prog 57 #[r, .int .i64 i, .int .i64 a, .int .i64 m] w (Rf.RdAns (Tr.read Tq i a m).1 (Tr.read Tq i a m).2 w) := by
  obtain ⟨p, nv, dv, ev, D, rfl, H, rfl⟩ := h.r
  exact Rf.read_any H hG i a m h1 h2
theorem St.count (h : St v r Tp Tq g0 cs A A2 q q2 X b c c2 cb C w0 B1 B2 w) : Calls Try.prog 16 #[v] w fun e w' => e = .returned (.int .i64 (Tp.length : Nat)) ∧ w' = w := by
  obtain ⟨p, av, gs, S, rfl, H, rfl⟩ := h.t
  exact Tm.count_any H
theorem St.refcell (h : St v r Tp Tq g0 cs A A2 q q2 X b c c2 cb C w0 B1 B2 w) : ∃ p Y d, r = .pointer (some ⟨p, 0, none⟩) ∧ w.cell? ⟨p, 0, none⟩ = some (.slice Y Tq.length d) := by
  obtain ⟨p, nv, dv, ev, D, rfl, H, rfl⟩ := h.r
  obtain ⟨Y, d, rfl, _⟩ := Tm.own_form H.in_.nodes
  exact ⟨p, Y, d, rfl, H.in_.box.cell 0⟩
end Tw
end Go.Proofs.Ytombmeppdhhjhaa

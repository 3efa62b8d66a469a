/-
  OWN WORK. The program's tree: fileAt, Link.
-/
import Derived.Test.YtpblhdpnmnfieaaBTrMake
namespace Go.Proofs.Ytpblhdpnmnfieaa
open Go.RowKit Rc
open Tr (Nm En T)
namespace Tm
variable {p : Nat} {av : Value} {gs : List Nat} {S : Nat → Prop} {t t1 : T} {w w1 : World}
/-- The tree as it was turned since. -/
def Went (p : Nat) (av : Value) (gs : List Nat) (S : Nat → Prop) (w : World) (t' : T) (w' : World) : Prop := ∃ S', TIn p av gs S' t' w' ∧ Mod w w' (TrS p av S) ∧ ∀ b, TrS p av S' b → TrS p av S b ∨ w.heap.size ≤ b
theorem Went.start (h : TIn p av gs S t w) (hb : Below w.heap.size w w1) : Went p av gs S w t w1 := ⟨S, h.below hb, Mod.of_below hb _, fun _ h => .inl h⟩
theorem Went.below {w2 : World} (h : Went p av gs S w t w1) (hb : Below w1.heap.size w1 w2) : Went p av gs S w t w2 := by
  obtain ⟨S', h1, h2, h3⟩ := h
  exact ⟨S', h1.below hb, ⟨hb.os.trans h2.os, hb.tape.trans h2.tape, hb.output.trans h2.output, Nat.le_trans h2.size hb.size, fun k hk hn => (hb.block k (Nat.lt_of_lt_of_le hk h2.size)).trans (h2.block k hk hn)⟩, h3⟩
theorem mod_trans {S0 S1 : Nat → Prop} {a b c : World} (h : Mod a b S0) (hs : ∀ k, S1 k → S0 k ∨ a.heap.size ≤ k) (h2 : Mod b c S1) : Mod a c S0 :=
  ⟨h2.os.trans h.os, h2.tape.trans h.tape, h2.output.trans h.output, Nat.le_trans h.size h2.size, fun k hk hn => (h2.block k (Nat.lt_of_lt_of_le hk h.size) fun h8 => (hs k h8).elim hn fun h9 => absurd hk (Nat.not_lt.2 h9)).trans (h.block k hk hn)⟩
theorem Went.entry (h : Went p av gs S w t w1) (hr : Tr.Ris t) {i : Int} {e : En} (hf : Tr.find t i = some e) : ∃ g S1, ptrOf gs t i = .pointer (some ⟨g, 0, none⟩) ∧ EAt g e S1 w1 ∧
    ∀ w2 (f : En → En) S1', EAt g (f e) S1' w2 → Mod w1 w2 S1 → (∀ b, S1' b → S1 b ∨ w1.heap.size ≤ b) → Went p av gs S w (Tr.upd t i f) w2 := by
  obtain ⟨S', h1, h2, h3⟩ := h
  obtain ⟨g, S1, k1, k2, k3, k4⟩ := h1.turnAt hr hf
  refine ⟨g, S1, k1, k2, fun w2 f S1' m1 m2 m3 => ?_⟩
  obtain ⟨S'', n1, n2, n3⟩ := k4 w2 f S1' m1 m2 m3
  exact ⟨S'', n1, mod_trans h2 h3 n2, fun b hb => (n3 b hb).elim (h3 b) fun h8 => .inr (Nat.le_trans h2.size h8)⟩
theorem Went.done (h : Went p av gs S w t w1) (x : Value) : TTurn p t x (TrS p av S) w (.returned x) w1 := by
  obtain ⟨S', h1, h2, h3⟩ := h
  exact ⟨rfl, _, h1.at_, h2, h3⟩
theorem Went.remove (h : Went p av gs S w t w1) (hr : Tr.Ris t) (hlt : t.length ≤ 1000000) {i : Int} {e : En} (hf : Tr.find t i = some e) (y : Value) :
    Calls Try.prog 30 #[.pointer (some ⟨p, 0, none⟩), .int .i64 i] w1 fun r w2 => r = .returned (.tuple #[]) ∧ TTurn p (Tr.remove t i) y (TrS p av S) w (.returned y) w2 := by
  obtain ⟨S', h1, h2, h3⟩ := h
  refine (remove_any h1 hr hlt hf).mono ?_
  rintro r w2 ⟨rfl, S2, n1, n2, n3⟩
  exact ⟨rfl, rfl, S2, n1, mod_trans h2 h3 n2, fun b hb => (n3 b hb).elim (h3 b) fun h8 => .inr (Nat.le_trans h2.size h8)⟩
/-- A name more in a directory. -/
theorem Went.put (h : Went p av gs S w t w1) (hr : Tr.Ris t) {d : Int} {en : En} (hf : Tr.find t d = some en) {g : Nat} (hp : ptrOf gs t d = .pointer (some ⟨g, 0, none⟩)) (x : Bs) (k : Int) (hlt : en.names.length ≤ 900000000) (hx : x.length ≤ 1000000) :
    Calls Try.prog 28 #[.pointer (some ⟨g, 0, none⟩), .string (strOf x), .int .i64 k] w1 fun r w2 => r = .returned (.tuple #[]) ∧ Went p av gs S w (Tr.put t d x k) w2 := by
  obtain ⟨g', S1, h1, h2, h3⟩ := h.entry hr hf
  obtain rfl : g' = g := ptr_inj (h1.symm.trans hp)
  refine (put_any cloneSaid h2 x k hlt hx).mono ?_
  rintro r w2 ⟨rfl, S1', m1, m2, m3⟩
  exact ⟨rfl, h3 w2 (fun e => { e with names := Tr.ins e.names x k }) S1' m1 m2 m3⟩
/-- A node's Links are written. -/
theorem Went.links (h : Went p av gs S w t w1) (hr : Tr.Ris t) {i : Int} {e : En} (hf : Tr.find t i = some e) {g : Nat} (hp : ptrOf gs t i = .pointer (some ⟨g, 0, none⟩)) :
    w1.cell? ⟨g, 0, none⟩ = some (.int .i64 e.nd.id) ∧ w1.cell? ⟨g, 2, none⟩ = some (.int .i64 e.nd.links) ∧ w1.cell? ⟨g, 5, none⟩ = some (.bool e.nd.shut) ∧ w1.frozen? ⟨g, 2, none⟩ = false ∧ ∀ k : Int, Went p av gs S w (Tr.more t i k) (w1.setCell ⟨g, 2, none⟩ (.int .i64 (e.nd.links + k))) := by
  obtain ⟨g', S1, h1, h2, h3⟩ := h.entry hr hf
  obtain rfl : g' = g := ptr_inj (h1.symm.trans hp)
  obtain ⟨c0, _, c2, _, _, c5⟩ := h2.cells
  obtain ⟨dv, nv, hE, rfl⟩ := h2
  refine ⟨c0, c2, c5, hE.box.frozen 2, fun k => ?_⟩
  obtain ⟨m1, m2⟩ := hE.poke (e' := { e with nd := { e.nd with links := e.nd.links + k } }) (i := 2) (u := .int .i64 (e.nd.links + k)) rfl rfl rfl
  exact h3 _ (fun e => { e with nd := { e.nd with links := e.nd.links + k } }) _ m1 m2 fun b hb => .inl hb
theorem formed_two (w : World) (A B : Option Addr) (q r : List Bs) (cap cap2 : Nat) (hr : RdS w A q) (hc : q.length ≤ cap) (hl : q.length ≤ 1000000) (hs : ∀ s ∈ q, s.length ≤ 1000000) (hr2 : RdS w B r) (hc2 : r.length ≤ cap2) (hl2 : r.length ≤ 1000000) (hs2 : ∀ s ∈ r, s.length ≤ 1000000) :
    Calls Try.prog 23 #[.slice (some ⟨w.heap.size, 0, none⟩) 2 2] (w.alloc (.cells #[.slice A q.length cap, .slice B r.length cap2] 37)) fun e w' => e = .returned (.int .i64 ((if Tr.formed q ≠ 0 then Tr.formed q else Tr.formed r) : Nat)) ∧ w' = w.alloc (.cells #[.slice A q.length cap, .slice B r.length cap2] 37) := by
  have h := formed_any _ _ [q, r] 2 (rdP_two w q r A B cap cap2 37 hc hr hc2 hr2) (by simp) (fun p hp => by
    simp only [List.mem_cons, List.not_mem_nil, or_false] at hp
    rcases hp with rfl | rfl
    · exact ⟨hl, fun s h => by have := hs s h; omega⟩
    · exact ⟨hl2, fun s h => by have := hs2 s h; omega⟩)
  have e : formedL [q, r] = if Tr.formed q ≠ 0 then Tr.formed q else Tr.formed r := by
    unfold formedL
    split
    · rfl
    · unfold formedL
      split
      · rfl
      · rename_i h1
        rw [Decidable.byContradiction h1]; rfl
  rw [e] at h
  exact h
/-- The number of the refusal, if it is no file. -/
def fileAtN (t : T) (q : List Bs) : Nat := if (Tr.lookF t 0 q).2 ≠ 0 then (Tr.lookF t 0 q).2 else if Tr.kindOf t (Tr.lookF t 0 q).1 = 2 then 22 else 0
def fileAtV (gs : List Nat) (t : T) (q : List Bs) (n : Nat) : Value := .tuple #[if n = 0 then ptrOf gs t (Tr.lookF t 0 q).1 else .pointer none, .int .i64 (n : Nat)]

end Tm
end Go.Proofs.Ytpblhdpnmnfieaa

/-
  OWN WORK. Streams that are written piece by piece: a part of a list, a list of numbers, two streams side by side.
-/
import Derived.Test.YtbdbccdkimkhbaaDoorShRg
namespace Go.Proofs.YtbdbccdkimkhbaaDoor
open Go.RowKit Sh

theorem sl_lh (w : World) (A : Option Addr) (len cap lo hi : Nat) (h1 : lo ≤ hi) (h2 : hi ≤ cap) : (Instr.sliceAt 22 (.slice A len cap) (some (.int .i64 lo)) (some (.int .i64 hi)) none).run Tryd.prog w = .ok (.slice (cutA A lo cap) (hi - lo) (cap - lo)) w := by
  rw [run_sliceAt_slice w _ _ _ _ _ byte_under, run_slice_lh w _ _ _ _ byte_under .i64 .i64 lo hi (by omega) (by omega) (by omega), byte_size]
  simp [Result.andThen, sliced, cutA]
/-- A part of a list. -/
theorem part_lh (A : Option Addr) (l : List UInt8) (cap lo hi : Nat) (h1 : lo ≤ hi) (h2 : hi ≤ l.length) (h3 : l.length ≤ cap) : ∃ A' r c', Hid (∀ W, (Instr.sliceAt 22 (.slice A l.length cap) (some (.int .i64 lo)) (some (.int .i64 hi)) none).run Tryd.prog W = .ok (.slice A' (List.length r) c') W) ∧
    r.length ≤ c' ∧ Hid (∀ W, Rd W A l → Rd W A' r) ∧ Hid (∀ B, (0 < l.length → A.map (·.block) ≠ some B) → 0 < r.length → A'.map (·.block) ≠ some B) ∧ Hid (l.take hi = l.take lo ++ r) ∧ r.length ≤ l.length ∧ lo + r.length = hi := by
  have hl : ((l.drop lo).take (hi - lo)).length = hi - lo := by rw [List.length_take, List.length_drop]; omega
  refine ⟨cutA A lo cap, (l.drop lo).take (hi - lo), cap - lo, ?_, by omega, ?_, ?_, ?_, by omega, by omega⟩
  · intro W; rw [hl]; exact sl_lh W A _ cap lo hi h1 (by omega)
  · intro W hr; exact (hr.cut lo cap h3).take _
  · intro B hB h0
    exact cutA_block A l lo cap B hB (by rw [List.length_drop]; omega)
  · show _ = _
    rw [List.take_drop, Nat.add_sub_cancel' h1]
    conv => lhs; rw [← List.take_append_drop lo (l.take hi)]
    rw [List.take_take, Nat.min_eq_left h1]
theorem part_l (A : Option Addr) (l : List UInt8) (cap lo : Nat) (h1 : lo ≤ l.length) (h3 : l.length ≤ cap) : ∃ A' r c', Hid (∀ W, (Instr.sliceAt 22 (.slice A l.length cap) (some (.int .i64 lo)) none none).run Tryd.prog W = .ok (.slice A' (List.length r) c') W) ∧
    r.length ≤ c' ∧ Hid (∀ W, Rd W A l → Rd W A' r) ∧ Hid (∀ B, (0 < l.length → A.map (·.block) ≠ some B) → 0 < r.length → A'.map (·.block) ≠ some B) ∧ Hid (l = l.take lo ++ r) ∧ r.length ≤ l.length := by
  have hl : (l.drop lo).length = l.length - lo := by rw [List.length_drop]
  refine ⟨cutA A lo cap, l.drop lo, cap - lo, ?_, by omega, ?_, ?_, (List.take_append_drop lo l).symm, by omega⟩
  · intro W; rw [hl]; exact sl_l W A _ cap lo h1
  · intro W hr; exact hr.cut lo cap h3
  · intro B hB h0
    exact cutA_block A l lo cap B hB h0
theorem part_h (A : Option Addr) (l : List UInt8) (cap hi : Nat) (h2 : hi ≤ l.length) (h3 : l.length ≤ cap) : ∃ r, Hid (∀ W, (Instr.sliceAt 22 (.slice A l.length cap) none (some (.int .i64 hi)) none).run Tryd.prog W = .ok (.slice A (List.length r) cap) W) ∧
    r.length ≤ cap ∧ Hid (∀ W, Rd W A l → Rd W A r) ∧ Hid (r = l.take hi) ∧ Hid (r.length = hi) ∧ r.length ≤ l.length := by
  have hl : (l.take hi).length = hi := by rw [List.length_take]; omega
  refine ⟨l.take hi, ?_, by omega, fun W hr => hr.take _, rfl, hl, by omega⟩
  intro W; rw [hl]; exact sl_h W A _ cap hi (by omega)

theorem cut_all (A : Option Addr) (l : List UInt8) (cap n : Nat) (w : World) (hc : l.length ≤ cap) (hn : n ≤ 1000000) (hl : l.length ≤ 9223372036854775807) :
    Calls Tryd.prog 17 #[.slice A l.length cap, .int .i64 n] w fun e w' => ∃ x : List UInt8, e = .returned (.slice A x.length cap) ∧ w = w' ∧ x.length ≤ n ∧ x.length ≤ cap ∧ Hid (∀ W, Rd W A l → Rd W A x) :=
  (cut_any A l cap n hc hn hl w).mono fun e w' ⟨h1, h2⟩ => ⟨l.take n, h1, h2, List.length_take_le _ _, by rw [List.length_take]; omega, fun W hr => hr.take n⟩
/-- A list of numbers. -/
def RdI (w : World) (A : Option Addr) (l : List Int) : Prop :=
  ∀ j x, l[j]? = some x → (-9223372036854775808 ≤ x ∧ x ≤ 9223372036854775807) ∧ ∃ b off, A = some ⟨b, off, none⟩ ∧ b < w.heap.size ∧ w.cell? ⟨b, off + j, none⟩ = some (.int .i64 x)
theorem Later.rdi {w w' : World} (h : Later w w') {A : Option Addr} {l : List Int} (hr : RdI w A l) : RdI w' A l := fun j x hj => by
  obtain ⟨h1, b, off, h2, h3, h4⟩ := hr j x hj
  exact ⟨h1, b, off, h2, Nat.lt_of_lt_of_le h3 h.size, (h.cell (p := ⟨b, off + j, none⟩) h3).trans h4⟩
theorem RdI.at_ {w : World} {A : Option Addr} {l : List Int} (h : RdI w A l) {j : Nat} (hj : j < l.length) : ∃ x b off, A = some ⟨b, off, none⟩ ∧ w.cell? ⟨b, off + j, none⟩ = some (.int .i64 x) ∧ -9223372036854775808 ≤ x ∧ x ≤ 9223372036854775807 := by
  obtain ⟨h1, b, off, h2, _, h4⟩ := h j _ (List.getElem?_eq_getElem hj)
  exact ⟨_, b, off, h2, h4, h1.1, h1.2⟩

/-- Within, its bound spelled as a difference. -/
theorem within_to (n x : Int) (m : Nat) (w : World) (hx : x = m) (h2 : m ≤ 1000000) (hn0 : -9223372036854775808 ≤ n) (hn1 : n ≤ 9223372036854775807) :
    Calls Tryd.prog 18 #[.int .i64 n, .int .i64 0, .int .i64 x] w fun e w' => ∃ k : Nat, k ≤ m ∧ e = .returned (.int .i64 k) ∧ w = w' := by
  subst hx
  exact (within_any n m w h2 hn0 hn1).mono fun e w' ⟨h3, h4⟩ => ⟨within0 n m, within0_le n m, h3, h4⟩

/-- Two streams side by side. -/
def Two (w : World) (B1 B2 : Nat) (l1 l2 : List UInt8) (wr : World) : Prop := Later w wr ∧ St wr B1 l1 ∧ St wr B2 l2
theorem Two.one {w wr w' : World} {B1 B2 : Nat} {l1 l1' l2 : List UInt8} (h : Two w B1 B2 l1 l2 wr) (hs : St w' B1 l1') (hk : Keeps wr w' B1) (hne : B2 ≠ B1) (hB : w.heap.size ≤ B1) : Two w B1 B2 l1' l2 w' :=
  ⟨h.1.keeps hk hB, hs, h.2.2.keeps hk hne⟩
theorem Two.two {w wr w' : World} {B1 B2 : Nat} {l1 l2 l2' : List UInt8} (h : Two w B1 B2 l1 l2 wr) (hs : St w' B2 l2') (hk : Keeps wr w' B2) (hne : B1 ≠ B2) (hB : w.heap.size ≤ B2) : Two w B1 B2 l1 l2' w' :=
  ⟨h.1.keeps hk hB, h.2.1.keeps hk hne, hs⟩
theorem Two.later {w wr w' : World} {B1 B2 : Nat} {l1 l2 : List UInt8} (h : Two w B1 B2 l1 l2 wr) (hl : Later wr w') : Two w B1 B2 l1 l2 w' := ⟨h.1.trans hl, hl.st h.2.1, hl.st h.2.2⟩
/-- One stream. -/
def One (w : World) (B : Nat) (l : List UInt8) (wr : World) : Prop := Later w wr ∧ St wr B l
theorem One.put {w wr w' : World} {B : Nat} {l l' : List UInt8} (h : One w B l wr) (hs : St w' B l') (hk : Keeps wr w' B) (hB : w.heap.size ≤ B) : One w B l' w' := ⟨h.1.keeps hk hB, hs⟩
theorem One.later {w wr w' : World} {B : Nat} {l : List UInt8} (h : One w B l wr) (hl : Later wr w') : One w B l w' := ⟨h.1.trans hl, hl.st h.2⟩
theorem One.drewN {w wr : World} {B : Nat} {l : List UInt8} (h : One w B l wr) (n : Nat) : One w B l (wr.drewN n) := ⟨⟨h.1.os, h.1.tape, h.1.output, h.1.size, h.1.block⟩, h.2⟩
theorem rd_of_blk {w : World} {g : Nat} {l : List UInt8} (h : Blk w g 5 (Lib.byteCells l)) : Rd w (some ⟨g, 0, none⟩) l := fun _ => ⟨g, 0, rfl, h.lt, fun j x hx => by
  rw [Nat.zero_add, h.cell]
  simp only [Lib.byteCells, List.getElem?_map, hx, Option.map_some]⟩
theorem room_rd {l : List UInt8} {g : Nat} {w0 wr : World} (h : RoomAt l g w0 wr 80) : Rd wr (some ⟨g, 0, none⟩) (l ++ List.replicate 80 165) := by
  have := rd_of_blk h.1
  simpa using this
theorem nil_far {B : Nat} : 0 < ([] : List UInt8).length → (none : Option Addr).map (·.block) ≠ some B := fun h => absurd h (by simp)
end Go.Proofs.YtbdbccdkimkhbaaDoor

/-
  OWN WORK. slices.Reverse of a row of rows of the call's own.
-/
import Derived.StillTailTactics
import Derived.Test.YtjeclmbableacaaDoorMkLen
namespace Go.Proofs.YtjeclmbableacaaDoor
open Go.RowKit Rc

/-- The first n of these cells, k of them exchanged from both ends. -/
def Swapped (cur ys : List Value) (n k : Nat) : Prop := ys.length = cur.length ∧ ∀ i, i < cur.length → ys[i]? = if i < n ∧ (i < k ∨ n - k ≤ i) then cur[n - 1 - i]? else cur[i]?
theorem Swapped.start (cur : List Value) (n : Nat) : Swapped cur cur n 0 := ⟨rfl, fun i _ => by rw [if_neg (by omega)]⟩
theorem Swapped.step {cur ys : List Value} {n k : Nat} (h : Swapped cur ys n k) (hn : n ≤ cur.length) (hk : k + k + 1 < n) : ∃ a b, ys[k]? = some a ∧ ys[n - 1 - k]? = some b ∧ cur[k]? = some a ∧ cur[n - 1 - k]? = some b ∧ Swapped cur ((ys.set k b).set (n - 1 - k) a) n (k + 1) := by
  have hl := h.1
  have e1 : ys[k]? = cur[k]? := by rw [h.2 k (by omega), if_neg (by omega)]
  have e2 : ys[n - 1 - k]? = cur[n - 1 - k]? := by rw [h.2 (n - 1 - k) (by omega), if_neg (by omega)]
  have h1 : k < ys.length := by omega
  have h2 : n - 1 - k < ys.length := by omega
  refine ⟨ys[k], ys[n - 1 - k], List.getElem?_eq_getElem h1, List.getElem?_eq_getElem h2, by rw [← e1]; exact List.getElem?_eq_getElem h1, by rw [← e2]; exact List.getElem?_eq_getElem h2, by simp [hl], fun i hi => ?_⟩
  rw [List.getElem?_eq_getElem h1] at e1
  rw [List.getElem?_eq_getElem h2] at e2
  by_cases i2 : i = n - 1 - k
  · subst i2
    rw [List.getElem?_set_self (by simp; omega), if_pos (by omega), e1]
    congr 1; omega
  · rw [List.getElem?_set_ne (by omega)]
    by_cases i1 : i = k
    · subst i1
      rw [List.getElem?_set_self (by omega), if_pos (by omega), e2]
    · rw [List.getElem?_set_ne (by omega), h.2 i hi]
      by_cases c : i < n ∧ (i < k ∨ n - k ≤ i)
      · rw [if_pos c, if_pos (by omega)]
      · rw [if_neg c, if_neg (by omega)]
theorem Swapped.mem {cur ys : List Value} {n k i : Nat} {a : Value} (h : Swapped cur ys n k) (hi : ys[i]? = some a) : a ∈ cur := by
  have h1 := (List.getElem?_eq_some_iff.1 hi).1
  rw [h.2 i (by have := h.1; omega)] at hi
  split at hi
  · exact List.mem_of_getElem? hi
  · exact List.mem_of_getElem? hi
theorem Swapped.end_ {cur ys : List Value} {n k : Nat} (h : Swapped cur ys n k) (hn : n ≤ cur.length) (hk : n ≤ k + k + 1) (hk2 : k + k ≤ n) : ys.take n = (cur.take n).reverse := by
  apply List.ext_getElem?
  intro i
  by_cases hi : i < n
  · have hr : ((cur.take n).reverse)[i]? = cur[n - 1 - i]? := by
      rw [List.getElem?_reverse (by rw [List.length_take]; omega), List.length_take, Nat.min_eq_left hn, List.getElem?_take, if_pos (by omega)]
    rw [hr, List.getElem?_take, if_pos hi, h.2 i (by omega)]
    by_cases c : i < n ∧ (i < k ∨ n - k ≤ i)
    · rw [if_pos c]
    · rw [if_neg c]
      congr 1; omega
  · have hl := h.1
    rw [List.getElem?_eq_none (by rw [List.length_take]; omega), List.getElem?_eq_none (by rw [List.length_reverse, List.length_take]; omega)]

set_option maxHeartbeats 4000000 in
set_option maxRecDepth 100000 in
theorem rev_cells (w : World) (g n cap : Nat) (cur : List Value) (hb : Blk w g 23 cur) (hn : n ≤ cur.length) (hn2 : n ≤ 1000000) (hone : ∀ (i : Nat) (v : Value), i < n → cur[i]? = some v → ∃ A m c, v = .slice A m c) :
    Calls Tryd.prog 32 #[.slice (some ⟨g, 0, none⟩) n cap] w fun e w' => e = .returned (.tuple #[]) ∧ (∃ ys, Blk w' g 23 ys ∧ ys.length = cur.length ∧ ys.take n = (cur.take n).reverse) ∧ Keeps w w' g := by
  have HB := Lib.hid hb
  have HO := Lib.hid hone
  clear hb hone
  go_enter Tryd.func32, Tryd.ntmps32
  go_wp2_with fail
  go_loopw [2, 3] (fun t2 t3 wr => ∃ (k : Nat) (z : Int), t2 = .int .i64 (k : Nat) ∧ t3 = .int .i64 z ∧ Hid (z = (n : Int) - 1 - k) ∧ k + k ≤ n ∧ Hid (∃ ys, Blk wr g 23 ys ∧ Swapped cur ys n k) ∧ Hid (Keeps w wr g)) (fun t2 _ _ => n - (intOf t2).toNat)
  case atStart =>
    refine ⟨0, (n : Int) - 1, rfl, ?_, by show _ = _; omega, by omega, ⟨cur, HB.out, Swapped.start cur n⟩, Keeps.refl w g⟩
    first | rfl | go_num
  case round =>
    obtain ⟨k, z, rfl, rfl, hz, hk, HY, HKP⟩ := hrel
    by_cases h1 : k + k + 1 < n
    · obtain ⟨m, hm⟩ : ∃ m, m = n - 1 - k := ⟨_, rfl⟩
      obtain rfl : z = (m : Int) := by have := hz.out; omega
      obtain ⟨ys, hby, hsw⟩ := HY.out
      obtain ⟨a, b, ha, hb, ha2, hb2, hsw2⟩ := hsw.step hn h1
      rw [← hm] at hb hsw2
      obtain ⟨A1, m1, c1, rfl⟩ := HO.out k a (by omega) ha2
      obtain ⟨A2, m2, c2, rfl⟩ := HO.out _ b (by omega) hb2
      have ca : wr.cell? ⟨g, k, none⟩ = some (.slice A1 m1 c1) := by rw [hby.cell]; exact ha
      have cb : wr.cell? ⟨g, m, none⟩ = some (.slice A2 m2 c2) := by rw [hby.cell]; exact hb
      have fa : wr.frozen? ⟨g, k, none⟩ = false := hby.frozen k
      have fb : wr.frozen? ⟨g, m, none⟩ = false := hby.frozen m
      have h2 : k < m := by omega
      have h3 : m < n := by omega
      have HBY := Lib.hid hby
      have HS2 := Lib.hid hsw2
      have HE : Hid (∃ ys', Blk (((wr.setCell ⟨g, k, none⟩ (.slice A2 m2 c2)).setCell ⟨g, m, none⟩ (.slice A1 m1 c1))) g 23 ys' ∧ Swapped cur ys' n (k + 1)) := ⟨_, (hby.set_ k _).set_ m _, hsw2⟩
      have HK2 : Hid (Keeps w ((wr.setCell ⟨g, k, none⟩ (.slice A2 m2 c2)).setCell ⟨g, m, none⟩ (.slice A1 m1 c1)) g) := (HKP.out.setCell k _).setCell m _
      have hz2 : Hid ((m : Int) = (n : Int) - 1 - k) := by show _ = _; omega
      clear hby hsw hsw2 ha hb ha2 hb2 hz HY hm h1 HS2 HBY
      go_wp2_with fail
      go_upto_region 3 with (fail)
      go_region
      go_wp2_with fail
      have hz3 := Lib.hid hz2.out
      go_roundw
      case rel => exact ⟨k + 1, (m : Int) - 1, by go_num, by first | rfl | go_num, by have := hz3.out; show _ = _; omega, by have := hz3.out; omega, HE.out, HK2.out.drew⟩
      case measure => simp [intOf]; omega
    · have HF : Hid (∃ ys, Blk wr g 23 ys ∧ ys.length = cur.length ∧ ys.take n = (cur.take n).reverse) := by
        obtain ⟨ys, q1, q2⟩ := HY.out
        exact ⟨ys, q1, q2.1, q2.end_ hn (by omega) hk⟩
      have hz2 : ¬ ((k : Int) < z) := by have := hz.out; omega
      clear hz HY h1
      go_wp2_with fail
      refine bodyPost_end (results_none rfl _ _ _) rfl ?_
      exact ⟨rfl, HF.out, HKP.out⟩
set_option maxHeartbeats 4000000 in
set_option maxRecDepth 100000 in
theorem rev_nil (w : World) : Calls Tryd.prog 32 #[.slice none 0 0] w fun e w' => e = .returned (.tuple #[]) ∧ w = w' := by
  go_enter Tryd.func32, Tryd.ntmps32
  go_wp2_with fail
  go_loopw [2, 3] (fun t2 t3 wr => t2 = .int .i64 0 ∧ t3 = .int .i64 (-1) ∧ wr = w) (fun _ _ _ => 0)
  case atStart => exact ⟨rfl, rfl, rfl⟩
  case round =>
    obtain ⟨rfl, rfl, rfl⟩ := hrel
    go_wp2_with fail
    refine bodyPost_end (results_none rfl _ _ _) rfl ?_
    exact ⟨rfl, rfl⟩
theorem rev_any (w0 w : World) (R : List (List UInt8)) (v : Value) (h : LNew R w0 v w) (hb : Below w0.heap.size w0 w) (hn : R.length ≤ 1000000) : Calls Tryd.prog 32 #[v] w fun e w' => e = .returned (.tuple #[]) ∧ LNew R.reverse w0 v w' ∧ Below w0.heap.size w0 w' := by
  obtain ⟨xs, h1, h2, h3⟩ := h
  rcases h1.2 with ⟨rfl, h0⟩ | ⟨g, cap, cur, rfl, h4, h5, h6, h7, h8, h9⟩
  · refine (rev_nil w).mono ?_
    rintro e w' ⟨rfl, rfl⟩
    obtain rfl : R = [] := List.eq_nil_of_length_eq_zero h0
    exact ⟨rfl, LOwn.nil _ _ _ _, hb⟩
  · have hB : Blk w g 23 cur.toList := by
      show _ = _
      rw [h5]
    have hcs : cur.toList.length = cap := by rw [Array.length_toList, h8, Nat.mul_one]
    have hnc : R.length ≤ cur.toList.length := by rw [hcs]; exact h6
    have hx : cur.toList.take R.length = xs := by rw [← h9, Nat.mul_one]
    have hxl : xs.length = R.length := by have := h1.1; omega
    refine (rev_cells w g R.length cap cur.toList hB hnc hn ?_).mono ?_
    · intro i a hi ha
      obtain ⟨A, c, q1, _⟩ := h3 i (R[i]) (List.getElem?_eq_getElem hi)
      rw [← hx, List.getElem?_take, if_pos hi, ha] at q1
      injection q1 with q1
      exact ⟨_, _, _, q1⟩
    · rintro e w' ⟨rfl, ⟨ys, q1, q2, q3⟩, q4⟩
      have own : ∀ b, b ≠ g → b < w.heap.size → w'.heap[b]? = w.heap[b]? := fun b hb hl => q4.block b hl (fun e => hb (by injection e))
      have hb2 : Below w0.heap.size w0 w' := Keeps.below hb q4 h4 hb.size
      refine ⟨rfl, ⟨ys.take R.length, ⟨by rw [List.length_take, List.length_reverse]; omega, .inr ⟨g, cap, ys.toArray, by rw [List.length_reverse], h4, q1, by rw [List.length_reverse]; exact h6, h7, by rw [List.size_toArray, Nat.mul_one, q2, hcs], by rw [List.length_reverse, Nat.mul_one]⟩⟩, fun b hb => ?_, fun j y hj => ?_⟩, hb2⟩
      · have := h2 b hb
        exact ⟨this.1, Nat.lt_of_lt_of_le this.2 q4.size⟩
      · have hjl : j < R.length := by have := (List.getElem?_eq_some_iff.1 hj).1; rw [List.length_reverse] at this; exact this
        rw [List.getElem?_reverse hjl] at hj
        obtain ⟨A, c, r1, r2, r3⟩ := h3 _ y hj
        refine ⟨A, c, ?_, r2, r3.imp (fun h => ⟨h.1.keep (fun p hp hA => ?_) q4.size, fun b hb => ⟨⟨(h.2 b hb).1.1, Nat.lt_of_lt_of_le (h.2 b hb).1.2 q4.size⟩, (h.2 b hb).2⟩⟩) id⟩
        · rw [q3, hx, List.getElem?_reverse (by omega), hxl]; exact r1
        · exact World.cell?_of_block (own p.block (fun e => (h.2 _ hA).2 (by rw [e]; rfl)) hp)
end Go.Proofs.YtjeclmbableacaaDoor

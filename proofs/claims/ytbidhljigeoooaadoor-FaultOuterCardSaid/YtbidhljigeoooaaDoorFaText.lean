/-
  OWN WORK. The law's own helpers: chain of OK, text.
-/
import Derived.Test.YtbidhljigeoooaaDoorFaLink
namespace Go.Proofs.YtbidhljigeoooaaDoor
open Go.RowKit

theorem dg_length (n : Nat) : (dg n).length ≤ n := by
  induction n using Nat.strongRecOn with
  | _ n ih =>
    rw [dg.eq_1]
    split
    · simp
    · have := ih (n / 10) (by omega)
      simp; omega

theorem errB_size (c : Int) (h : c ≤ 1000) : (errB c).size ≤ 2000 := by
  unfold errB
  split
  · decide
  split
  · decide
  split
  · decide
  · rw [ByteArray.size_append, Go.strOfNums_size]
    have e : (finD c.toNat []).length ≤ 1001 := by
      unfold finD
      split
      · simp
      · have := dg_length c.toNat
        simp; omega
    have e2 : (⟨#[114, 101, 102, 117, 115, 97, 108, 32]⟩ : ByteArray).size = 8 := rfl
    omega

def zeroV (ls : List (ByteArray × ByteArray)) : Value := if ls = [] then .iface 31 (.int .i64 0) else .nilIface
theorem ret_val {a b : Value} (h : a = b) : Ending.returned b = Ending.returned a := by rw [h]

set_option maxRecDepth 100000 in
set_option maxHeartbeats 1000000 in
theorem chain_zero (hW : WrapNoneSaid) (ls : List (ByteArray × ByteArray)) (v : Value) (w : World) (hv : LinksAt w ls v) (hl : ls.length ≤ 30) (hg : ErrT w) (hsz : ∀ q ∈ ls, q.1.size ≤ 9223372036854775807 ∧ q.2.size ≤ 9223372036854775807) :
    Calls Tryd.prog 19 #[v, .int .i64 0] w fun e w' => e = .returned (zeroV ls) ∧ Below w.heap.size w w' := by
  have HW := Lib.hid hW
  have HV : Hid (LinksAt w ls v) := hv
  have HG : Hid (ErrT w) := hg
  have HS : Hid (∀ q ∈ ls, q.1.size ≤ 9223372036854775807 ∧ q.2.size ≤ 9223372036854775807) := hsz
  obtain ⟨a, cap, hva⟩ : ∃ a cap, v = .slice a ls.length cap := by
    rcases hv with ⟨rfl, a, cap, rfl⟩ | ⟨b, off, cap, rfl, _⟩
    · exact ⟨_, _, rfl⟩
    · exact ⟨_, _, rfl⟩
  subst hva
  clear hW hv hg hsz
  go_enter Tryd.func19, Tryd.ntmps19
  go_wp2
  go_loopg [5, 6] ls.length (fun gk e i wr => ∃ k : Nat, k ≤ ls.length ∧ i = .int .i64 k ∧ ((k = 0 ∧ e = .iface 31 (.int .i64 0)) ∨ (0 < k ∧ e = .nilIface)) ∧ Below w.heap.size w wr ∧ gk = ls.length - k)
  case atStart => exact ⟨0, by omega, rfl, .inl ⟨rfl, rfl⟩, Below.refl _ _, by omega⟩
  case round =>
    obtain ⟨k, hk, rfl, he, hb, hgk⟩ := hrel
    have HB : Hid (Below w.heap.size w wr) := hb
    have HGK : Hid (gk = ls.length - k) := hgk
    clear hb hgk
    by_cases hlt : k < ls.length
    · rcases HV.out with ⟨hn, _⟩ | ⟨b, off, cap', hv, _, _, hcell⟩
      · rw [hn] at hlt; simp at hlt
      · simp only [Value.slice.injEq] at hv
        obtain ⟨rfl, _, rfl⟩ := hv
        obtain ⟨s1, s2, hq⟩ : ∃ s1 s2, ls[k]? = some (s1, s2) := ⟨_, _, List.getElem?_eq_getElem hlt⟩
        obtain ⟨h1, h2⟩ := hcell k _ hq
        obtain ⟨z1, z2⟩ := HS.out (s1, s2) (List.mem_of_getElem? hq)
        have e30 : decide ((k : Int) < 30) = true := by simp; omega
        have h1' : wr.cell? ⟨b, off + k * 2, none⟩ = some (.string s1) := by rw [HB.out.cell (p := ⟨b, off + k * 2, none⟩) (cell_lt h1)]; exact h1
        have h2' : wr.cell? ⟨b, off + k * 2 + 1, none⟩ = some (.string s2) := by rw [HB.out.cell (p := ⟨b, off + k * 2 + 1, none⟩) (cell_lt h2)]; exact h2
        have HE : Hid (_ = Value.nilIface ∨ _ = Value.iface 31 (.int .i64 0)) := he.elim (fun h => Or.inr h.2) (fun h => Or.inl h.2)
        clear h1 h2 hcell hq he
        go_wp2_with fail
        refine wp_region_still_tail 13 (by kernel_rfl) (by kernel_rfl) ?_
        simp only [List.take_succ_cons, List.take_zero, List.drop_succ_cons, List.drop_zero]
        change wpStill _ _ wr.drew _ _ _
        repeat still_step
        still_call (head_still s1 20 _ z1 (by omega))
        repeat still_step
        still_call (head_still s2 40 _ z2 (by omega))
        repeat still_step
        refine wpStill_nil ?_
        change wpList _ _ _ _ _ wr.drew
        go_wp2_with fail
        refine (HW.out (headB s1 20) (headB s2 40) _ _ HE.out ((HG.out.below HB.out).below (Below.refl _ _).drew)).mono ?_
        rintro e w' ⟨rfl, hb'⟩
        have HB' : Hid (Below w.heap.size w w') := HB.out.drew.trans (hb'.mono HB.out.size)
        clear hb'
        go_wp2
        go_roundg (ls.length - (k + 1))
        case rel => exact ⟨k + 1, by omega, by go_num, .inr ⟨by omega, rfl⟩, HB'.out, rfl⟩
        case measure => have := HGK.out; omega
    · have hke : k = ls.length := by omega
      subst hke
      rcases he with ⟨h0, rfl⟩ | ⟨h0, rfl⟩
      · have hnil : ls = [] := List.length_eq_zero_iff.1 h0
        have HN : Hid (zeroV ls = .iface 31 (.int .i64 0)) := if_pos hnil
        clear hnil h0
        go_wp2
        go_ret
        exact ⟨ret_val HN.out, HB.out⟩
      · have HN : Hid (zeroV ls = .nilIface) := if_neg (fun e => by rw [e] at h0; simp at h0)
        go_wp2
        go_ret
        exact ⟨ret_val HN.out, HB.out⟩

theorem textB_size (l : List (ByteArray × ByteArray)) (e : ByteArray) (h : ∀ q ∈ l, q.1.size ≤ 100 ∧ q.2.size ≤ 100) : (textB l e).size ≤ e.size + 300 * l.length := by
  induction l with
  | nil => simp [textB]
  | cons q r ih =>
    have := ih fun p hp => h p (by simp [hp])
    have hq := h q (by simp)
    simp only [textB, ByteArray.size_append, List.length_cons]
    have e1 : (⟨#[32]⟩ : ByteArray).size = 1 := rfl
    have e2 : (⟨#[58, 32]⟩ : ByteArray).size = 2 := rfl
    omega

set_option maxRecDepth 100000 in
set_option maxHeartbeats 1000000 in
theorem text_any (ls : List (ByteArray × ByteArray)) (v : Value) (c : Nat) (w : World) (hv : LinksAt w ls v) (hl : ls.length ≤ 30) (hc : c ≤ 1000) (hsz : ∀ q ∈ ls, q.1.size ≤ 9223372036854775807 ∧ q.2.size ≤ 9223372036854775807) :
    Calls Tryd.prog 20 #[v, .int .i64 c] w fun e w' => e = .returned (.string (textB (heads ls).reverse (errB c))) ∧ Below w.heap.size w w' := by
  have HV : Hid (LinksAt w ls v) := hv
  have HS : Hid (∀ q ∈ ls, q.1.size ≤ 9223372036854775807 ∧ q.2.size ≤ 9223372036854775807) := hsz
  obtain ⟨a, cap, hva⟩ : ∃ a cap, v = .slice a ls.length cap := by
    rcases hv with ⟨rfl, a, cap, rfl⟩ | ⟨b, off, cap, rfl, _⟩
    · exact ⟨_, _, rfl⟩
    · exact ⟨_, _, rfl⟩
  subst hva
  clear hv hsz
  go_enter Tryd.func20, Tryd.ntmps20
  go_wp2_with (go_at_call 26; refine (errno_any c _ hc).mono ?_; rintro e w' ⟨rfl, hb0⟩)
  have HB0 : Hid (Below w.heap.size w _) := hb0
  clear hb0
  go_loopg [5, 6] ls.length (fun gk e i wr => ∃ (k : Nat) (s : ByteArray), k ≤ ls.length ∧ i = .int .i64 k ∧ e = .string s ∧ s = textB ((heads ls).take k).reverse (errB c) ∧ Below w.heap.size w wr ∧ gk = ls.length - k)
  case atStart => exact ⟨0, _, by omega, rfl, rfl, rfl, HB0.out, by omega⟩
  case round =>
    obtain ⟨k, s, hk, rfl, rfl, hs, hb, hgk⟩ := hrel
    have HB : Hid (Below w.heap.size w wr) := hb
    have HGK : Hid (gk = ls.length - k) := hgk
    have HT : Hid (s = textB ((heads ls).take k).reverse (errB c)) := hs
    have hss : s.size ≤ 100000 := by
      have h1 := textB_size ((heads ls).take k).reverse (errB c) (heads_small ls (by omega) k).2
      have h2 := errB_size c (by omega)
      have h3 := (heads_small ls (by omega) k).1
      rw [hs]; omega
    clear hb hgk hs HB0
    by_cases hlt : k < ls.length
    · rcases HV.out with ⟨hn, _⟩ | ⟨b, off, cap', hv, _, _, hcell⟩
      · rw [hn] at hlt; simp at hlt
      · simp only [Value.slice.injEq] at hv
        obtain ⟨rfl, _, rfl⟩ := hv
        obtain ⟨s1, s2, hq⟩ : ∃ s1 s2, ls[k]? = some (s1, s2) := ⟨_, _, List.getElem?_eq_getElem hlt⟩
        obtain ⟨h1, h2⟩ := hcell k _ hq
        obtain ⟨z1, z2⟩ := HS.out (s1, s2) (List.mem_of_getElem? hq)
        have e30 : decide ((k : Int) < 30) = true := by simp; omega
        have h1' : wr.cell? ⟨b, off + k * 2, none⟩ = some (.string s1) := by rw [HB.out.cell (p := ⟨b, off + k * 2, none⟩) (cell_lt h1)]; exact h1
        have h2' : wr.cell? ⟨b, off + k * 2 + 1, none⟩ = some (.string s2) := by rw [HB.out.cell (p := ⟨b, off + k * 2 + 1, none⟩) (cell_lt h2)]; exact h2
        have HQ : Hid (ls[k]? = some (s1, s2)) := hq
        have y1 := headB_size s1 20
        have y2 := headB_size s2 40
        have c1 := head_still s1 20 wr.drew z1 (by omega)
        have c2 := head_still s2 40 wr.drew z2 (by omega)
        generalize hA : headB s1 20 = A at *
        generalize hB : headB s2 40 = B at *
        have HA : Hid (headB s1 20 = A) := hA
        have HBB : Hid (headB s2 40 = B) := hB
        have C1 := Lib.hid c1
        have C2 := Lib.hid c2
        clear h1 h2 hcell hq hA hB c1 c2
        have q1 : ¬ 9223372036854775807 < A.size + 1 := by omega
        have q2 : ¬ 9223372036854775807 < A.size + 1 + B.size := by omega
        have q3 : ¬ 9223372036854775807 < A.size + 1 + B.size + 2 := by omega
        have q4 : ¬ 9223372036854775807 < A.size + 1 + B.size + 2 + s.size := by omega
        have Q1 := Lib.hid q1
        have Q2 := Lib.hid q2
        have Q3 := Lib.hid q3
        have Q4 := Lib.hid q4
        clear q1 q2 q3 q4
        go_wp2_with fail
        have q1 := Q1.out
        have q2 := Q2.out
        have q3 := Q3.out
        have q4 := Q4.out
        refine wp_region_still_tail 17 (by kernel_rfl) (by kernel_rfl) ?_
        simp only [List.take_succ_cons, List.take_zero, List.drop_succ_cons, List.drop_zero]
        change wpStill _ _ wr.drew _ _ _
        repeat still_step
        still_call C1.out
        repeat still_step
        still_call C2.out
        repeat still_step
        refine wpStill_nil ?_
        change wpList _ _ _ _ _ wr.drew
        go_wp2
        go_roundg (ls.length - (k + 1))
        case rel => exact ⟨k + 1, _, by omega, by go_num, rfl, by rw [heads_take ls k (s1, s2) HQ.out, textB, ← HT.out]; simp only [HA.out, HBB.out], HB.out.drew, rfl⟩
        case measure => have := HGK.out; omega
    · have hke : k = ls.length := by omega
      subst hke
      go_wp2
      go_ret
      exact ⟨ret_str (by rw [HT.out, List.take_of_length_le (by simp [heads])]), HB.out⟩
end Go.Proofs.YtbidhljigeoooaaDoor

/-
  OWN WORK. Glue of the program: what it answers.
-/
import Derived.Test.YtkjkmdhbodjeeaaBmBase
import Derived.Test.YtkjkmdhbodjeeaaMkRows
import Derived.Test.YtkjkmdhbodjeeaaBmCode
namespace Go.Proofs.Ytkjkmdhbodjeeaa
open Go.RowKit Rc
namespace Bm
/-- Whether rows are just as long as pieces of so many bytes must be. -/
def fit : List (List UInt8) → Int → Bool
  | [], _ => true
  | x :: r, s => decide ((x.length : Int) = if s < 128 then s else 128) && fit r (s - x.length)
def holds (L : List (List UInt8)) (s : Int) : Bool := decide (0 ≤ s) && decide ((L.length : Int) = bl s) && fit L s
theorem fit_at {L : List (List UInt8)} {k : Nat} {x : List UInt8} (h : L[k]? = some x) (s : Int) : fit (L.drop k) s = (decide ((x.length : Int) = if s < 128 then s else 128) && fit (L.drop (k + 1)) (s - x.length)) := by
  obtain ⟨hk, he⟩ := List.getElem?_eq_some_iff.1 h
  rw [List.drop_eq_getElem_cons hk, he]
  rfl
end Bm

set_option maxHeartbeats 2000000 in
set_option maxRecDepth 100000 in
theorem holds_any (w : World) (A : Option Addr) (L : List (List UInt8)) (cap : Nat) (s : Int) (hr : RdL w A L) (_hcap : L.length ≤ cap) (hL : L.length ≤ 1000000) (hs : s ≤ 1000000000) :
    Calls Try.prog 26 #[.slice A L.length cap, .int .i64 s] w fun e w' => e = .returned (.bool (Bm.holds L s)) ∧ w' = w := by
  go_enter Try.func26, Try.ntmps26
  have HR := Lib.hid hr
  clear hr
  by_cases h0 : s < 0
  · have HD : Hid (Bm.holds L s = false) := by show _ = _; unfold Bm.holds; rw [decide_eq_false (by omega)]; rfl
    go_wp2_with fail
    go_ret
    exact ⟨by rw [HD.out]; rfl, rfl⟩
  have hbl : Bm.bl s ≤ 10000000 ∧ 0 ≤ Bm.bl s := by unfold Bm.bl; split <;> omega
  go_wp2_with fail
  refine (blocks_any w s (by omega)).mono ?_
  rintro e w' ⟨rfl, hw⟩
  obtain rfl := hw.symm
  obtain ⟨n, hn⟩ : ∃ n, n = Bm.bl s := ⟨_, rfl⟩
  rw [← hn] at hbl ⊢
  have HN := Lib.hid hn
  clear hn hw
  by_cases hln : (L.length : Int) = n
  · have HD : Hid (Bm.holds L s = Bm.fit L s) := by show _ = _; unfold Bm.holds; rw [← HN.out, decide_eq_true (by omega), decide_eq_true hln]; rfl
    subst hln
    go_wp2_with fail
    go_loopw [1, 18] (fun t1 t18 wr => ∃ (k : Nat) (z : Int), k ≤ L.length ∧ t18 = .int .i64 k ∧ t1 = .int .i64 z ∧ 0 ≤ z ∧ z ≤ 1000000000 ∧ Hid (Bm.fit (L.drop k) z = Bm.fit L s) ∧ wr = w) (fun _ t18 _ => L.length - (match t18 with | .int _ k => k.toNat | _ => 0))
    case atStart => exact ⟨0, s, Nat.zero_le _, rfl, rfl, by omega, hs, rfl, rfl⟩
    case round =>
      obtain ⟨k, z, hk, rfl, rfl, hz0, hz1, HF, rfl⟩ := hrel
      by_cases hlt : k < L.length
      · obtain ⟨b, off, x, A', c, rfl, hx, hcell, hxc, _⟩ := HR.out.at_ k hlt
        have HS := Lib.hid (Bm.fit_at hx z)
        obtain ⟨m, hm⟩ : ∃ m, m = x.length := ⟨_, rfl⟩
        rw [← hm] at hcell HS hxc
        clear hx hm
        by_cases hmz : (m : Int) = if z < 128 then z else 128
        · have HS2 : Hid (Bm.fit (L.drop (k + 1)) (z - m) = Bm.fit L s) := by show _ = _; rw [← HF.out, HS.out, decide_eq_true hmz, Bool.true_and]
          have hzm : (m : Int) ≤ z := by rw [hmz]; split <;> omega
          by_cases h128 : z < 128
          · rw [if_pos h128] at hmz
            subst hmz
            have HS3 : Hid (Bm.fit (L.drop (k + 1)) 0 = Bm.fit L s) := by show _ = _; rw [← HS2.out, Int.sub_self]
            go_wp2_with fail
            go_roundw
            case rel => exact ⟨k + 1, 0, by omega, by simp, rfl, by omega, by omega, HS3, by first | rfl | trivial⟩
            case measure => simp; omega
          · rw [if_neg h128] at hmz
            have hm1 : m = 128 := by omega
            subst hm1
            have HS3 : Hid (Bm.fit (L.drop (k + 1)) (z - 128) = Bm.fit L s) := HS2
            clear hmz
            go_wp2_with fail
            go_roundw
            case rel => exact ⟨k + 1, z - 128, by omega, by simp, rfl, by omega, by omega, HS3, by first | rfl | trivial⟩
            case measure => simp; omega
        · have HE : Hid (Bm.fit L s = false) := by show _ = _; rw [← HF.out, HS.out, decide_eq_false hmz, Bool.false_and]
          by_cases h128 : z < 128
          · rw [if_pos h128] at hmz
            have e1 : ((m : Int) == z) = false := by simp [hmz]
            clear hmz
            go_wp2_with fail
            go_ret
            exact ⟨by rw [HD.out, HE.out]; rfl, rfl⟩
          · rw [if_neg h128] at hmz
            have e1 : ((m : Int) == 128) = false := by simp [hmz]
            clear hmz
            go_wp2_with fail
            all_goals
              go_ret
              exact ⟨by rw [HD.out, HE.out]; rfl, rfl⟩
      · obtain rfl : k = L.length := by omega
        have HE : Hid (Bm.fit L s = true) := by show _ = _; rw [← HF.out, List.drop_length]; rfl
        go_wp2_with fail
        go_ret
        exact ⟨by rw [HD.out, HE.out]; rfl, rfl⟩
  · have HD : Hid (Bm.holds L s = false) := by show _ = _; unfold Bm.holds; rw [← HN.out, decide_eq_true (by omega), decide_eq_false hln]; rfl
    have hne : ((L.length : Int) == n) = false := by simp [hln]
    go_wp2_with fail
    go_ret
    exact ⟨by rw [HD.out]; rfl, rfl⟩

namespace Bm
/-- Rows that are right have as many bytes as are wanted. -/
theorem fit_sum : ∀ (L : List (List UInt8)) (s : Int), 0 ≤ s → (L.length : Int) = bl s → fit L s = true → ((L.flatten).length : Int) = s
  | [], s, h0, h1, _ => by
    unfold bl at h1
    split at h1
    · simp; omega
    · simp at h1; omega
  | x :: r, s, h0, h1, h2 => by
    unfold fit at h2
    rw [Bool.and_eq_true, decide_eq_true_iff] at h2
    obtain ⟨h3, h4⟩ := h2
    have h5 : 0 ≤ s - x.length := by rw [h3]; split <;> omega
    have h6 : ((r.length : Nat) : Int) = bl (s - x.length) := by
      rw [List.length_cons] at h1
      unfold bl at h1 ⊢
      by_cases hs : s < 1
      · rw [if_pos hs] at h1; omega
      · rw [if_neg hs] at h1
        by_cases h128 : s < 128
        · rw [if_pos h128] at h3
          rw [if_pos (by omega)]; omega
        · rw [if_neg h128] at h3
          rw [h3]
          by_cases h7 : s - 128 < 1
          · rw [if_pos h7]; omega
          · rw [if_neg h7]; omega
    have := fit_sum r (s - x.length) h5 h6 h4
    rw [List.flatten_cons, List.length_append]
    omega
theorem holds_sum {L : List (List UInt8)} {s : Int} (h : holds L s = true) : 0 ≤ s ∧ (L.length : Int) = bl s ∧ ((L.flatten).length : Int) = s := by
  unfold holds at h
  rw [Bool.and_eq_true, Bool.and_eq_true, decide_eq_true_iff, decide_eq_true_iff] at h
  exact ⟨h.1.1, h.1.2, fit_sum L s h.1.1 h.1.2 h.2⟩
theorem flat_take {L : List (List UInt8)} {k : Nat} {x : List UInt8} (h : L[k]? = some x) : (L.take (k + 1)).flatten = (L.take k).flatten ++ x := by
  obtain ⟨hk, he⟩ := List.getElem?_eq_some_iff.1 h
  rw [List.take_succ_eq_append_getElem hk, he, List.flatten_append]
  simp
theorem flat_le (L : List (List UInt8)) (k : Nat) : (L.take k).flatten.length ≤ L.flatten.length := by
  have e : L.flatten = (L.take k).flatten ++ (L.drop k).flatten := by rw [← List.flatten_append, List.take_append_drop]
  rw [e, List.length_append]
  omega
end Bm

/-- What Glue answers. -/
def GlueSaid (L : List (List UInt8)) (s : Int) (w : World) (e : Ending) (w' : World) : Prop :=
  Below w.heap.size w w' ∧ if Bm.holds L s = true then ∃ X c, e = .returned (.tuple #[.slice X L.flatten.length c, .int .i64 0]) ∧ L.flatten.length ≤ c ∧ Rd w' X L.flatten else e = .returned (.tuple #[.slice none 0 0, .int .i64 12])

set_option maxHeartbeats 2000000 in
set_option maxRecDepth 100000 in
theorem glue_any (w : World) (A : Option Addr) (L : List (List UInt8)) (cap : Nat) (s : Int) (hr : RdL w A L) (hcap : L.length ≤ cap) (hL : L.length ≤ 1000000) (hs : s ≤ 1000000000) :
    Calls Try.prog 20 #[.slice A L.length cap, .int .i64 s] w (GlueSaid L s w) := by
  go_enter Try.func20, Try.ntmps20
  have HR := Lib.hid hr
  clear hr
  go_wp2_with fail
  refine (holds_any w A L cap s HR.out hcap hL hs).mono ?_
  rintro e w' ⟨rfl, hw⟩
  obtain rfl := hw.symm
  clear hw
  cases hh : Bm.holds L s
  · have HD : Hid (Bm.holds L s = false) := hh
    clear hh
    go_wp2_with fail
    go_ret2
    exact ⟨Below.refl _ _, by rw [HD.out]; rfl⟩
  · obtain ⟨h0, _, hsum⟩ := Bm.holds_sum hh
    obtain ⟨n, hn⟩ : ∃ n, n = L.flatten.length := ⟨_, rfl⟩
    have hns : s = (n : Int) := by rw [hn]; exact hsum.symm
    subst hns
    have HD : Hid (Bm.holds L (n : Int) = true) := hh
    have HN := Lib.hid hn
    clear hh hsum hn
    obtain ⟨i0, hi, hz0, hz1, hz2⟩ := info_parts Try.infoU8
    have HI0 := Lib.hid hi
    have HZ0 := Lib.hid hz0
    have HZ1 := Lib.hid hz1
    have HZ2 := Lib.hid hz2
    clear hi hz0 hz1 hz2
    go_wp2_with (at_make; refine wpList_make_own _ rfl _ _ _ rfl w.heap.size 5 i0 (.int .u8 0) 1 Try.underlying36 HI0.out HZ0.out HZ1.out .i64 .i64 _ n rfl rfl rfl (by rw [HZ2.out]; omega) (by unfold maxLen; omega) (Nat.le_refl _) ?_; intro w1 hown1 hgrow1)
    have H1 : Hid (MAt w.heap.size (.slice (some ⟨w.heap.size, 0, none⟩) 0 n) [] w w1) := ⟨hown1, (Below.refl _ w).grown hgrow1 (Nat.le_refl _) (fun k e => by cases e), rfl⟩
    clear hown1 hgrow1
    go_loopw [6, 17] (fun t6 t17 wr => ∃ k : Nat, k ≤ L.length ∧ t17 = .int .i64 k ∧ Hid (MAt w.heap.size t6 (L.take k).flatten w wr)) (fun _ t17 _ => L.length - (match t17 with | .int _ k => k.toNat | _ => 0))
    case atStart => exact ⟨0, Nat.zero_le _, rfl, H1⟩
    case round =>
      obtain ⟨k, hk, rfl, HM⟩ := hrel
      by_cases hlt : k < L.length
      · obtain ⟨b, off, x, A', c, hA, hx, hcell, hxc, hrx⟩ := HR.out.at_ k hlt
        have hbel := HM.out.2.1
        have hcell2 : wr.cell? ⟨b, off + k, none⟩ = some (.slice A' x.length c) := (hbel.cell (p := ⟨b, off + k, none⟩) (by obtain ⟨b2, off2, h1, h2, _⟩ := HR.out (by omega); rw [hA] at h1; injection h1 with h1; injection h1 with h1 _; show b < _; rw [h1]; exact h2)).trans hcell
        have HRX : Hid (Rd wr A' x) := hrx.below hbel
        have HF := Lib.hid (Bm.flat_take hx)
        have hle := Bm.flat_le L (k + 1)
        rw [HF.out, ← HN.out, List.length_append] at hle
        obtain ⟨q, hq⟩ : ∃ q, q = (L.take k).flatten := ⟨_, rfl⟩
        rw [← hq] at HM hle HF
        obtain ⟨X, c2, rfl, hc2, _⟩ := row_form HM.out.1
        have hbs : w.heap.size ≤ wr.heap.size := hbel.size
        have hlx : q.length + x.length ≤ 1099511627776 := by omega
        have HB := Lib.hid hbs
        have HLX := Lib.hid hlx
        subst hA
        clear hbel hcell hrx hx hq hle hbs hlx
        go_wp2_with (at_builtin; refine wpList_append_rd rfl (.tmp 21) (.tmp 22) 36 rfl w.heap.size 5 i0 Try.underlying36 HI0.out HZ0.out HZ1.out HZ2.out _ q.length (Lib.byteCells q) rfl HM.out.1 A' x x.length c rfl rfl HRX.out HLX.out HB.out ?_; intro v1 w2 HO1 HG1; have HM1 : Hid (MAt w.heap.size v1 (q ++ x) w w2) := HM.out.push (Below.refl _ _) HO1.out HG1.out)
        clear HO1 HG1
        go_roundw
        case rel => exact ⟨k + 1, by omega, by simp, by rw [HF.out]; exact HM1⟩
        case measure => simp; omega
      · obtain rfl : k = L.length := by omega
        rw [List.take_length] at HM
        obtain ⟨X, c2, rfl, hc2, hrd⟩ := row_form HM.out.1
        have HRD := Lib.hid hrd
        have HB := Lib.hid HM.out.2.1
        clear hrd
        go_wp2_with fail
        go_ret2
        exact ⟨HB.out, by rw [if_pos HD.out]; exact ⟨X, c2, rfl, hc2, HRD.out⟩⟩
end Go.Proofs.Ytkjkmdhbodjeeaa

/-
  OWN WORK. Names: usual, Good: the program's.
-/
import Derived.Test.YtpblhdpnmnfieaaBBaStrs
import Derived.Test.YtpblhdpnmnfieaaB02
namespace Go.Proofs.Ytpblhdpnmnfieaa
open Go.RowKit

theorem usual_any (c : UInt8) (w : World) : Calls Try.prog 46 #[.int .u8 (c.toNat : Nat)] w fun e w' => e = .returned (.bool (Pa.okByte c)) ∧ w = w' := by
  obtain ⟨n, hn⟩ : ∃ n, n = c.toNat := ⟨_, rfl⟩
  have hlt : n < 256 := by rw [hn]; exact c.toNat_lt
  have HB : Hid (Pa.okByte c = ((decide (97 ≤ n) && decide (n ≤ 122)) || (decide (48 ≤ n) && decide (n ≤ 57)) || decide (n = 46) || decide (n = 45) || decide (n = 95))) := by
    show _ = _
    subst hn
    have e : ∀ k : UInt8, (c == k) = decide (c.toNat = k.toNat) := fun k => by
      by_cases h : c = k
      · subst h; simp
      · rw [beq_eq_false_iff_ne.2 h]
        exact (decide_eq_false fun h2 => h (UInt8.toNat_inj.1 h2)).symm
    unfold Pa.okByte
    rw [e, e, e]
    rfl
  rw [← hn]
  clear hn
  by_cases h1 : n = 46
  · subst h1
    go_enter Try.func46, Try.ntmps46
    go_wp2
    all_goals go_ret; exact ⟨by rw [HB.out]; rfl, rfl⟩
  by_cases h2 : n = 45
  · subst h2
    go_enter Try.func46, Try.ntmps46
    go_wp2
    all_goals go_ret; exact ⟨by rw [HB.out]; rfl, rfl⟩
  by_cases h3 : n = 95
  · subst h3
    go_enter Try.func46, Try.ntmps46
    go_wp2
    all_goals go_ret; exact ⟨by rw [HB.out]; rfl, rfl⟩
  have e1 : ((n : Int) == 46) = false := by simp; omega
  have e2 : ((n : Int) == 45) = false := by simp; omega
  have e3 : ((n : Int) == 95) = false := by simp; omega
  by_cases g1 : 97 ≤ n <;> by_cases g2 : n ≤ 122 <;> by_cases g3 : 48 ≤ n <;> by_cases g4 : n ≤ 57 <;> first
    | omega
    | (go_enter Try.func46, Try.ntmps46
       go_wp2
       all_goals go_ret; exact ⟨by rw [HB.out]; (simp [g1, g2, g3, g4, h1, h2, h3] <;> omega), rfl⟩)
/-- Each of the bytes up to k is one of a name. -/
def Oks (l : Bs) (k : Nat) : Prop := k ≤ l.length ∧ ∀ (j : Nat) (c : UInt8), j < k → l[j]? = some c → Pa.okByte c = true
theorem Oks.zero (l : Bs) : Oks l 0 := ⟨Nat.zero_le _, fun j _ hj => absurd hj (Nat.not_lt_zero j)⟩
theorem Oks.step {l : Bs} {k : Nat} {c : UInt8} (h : Oks l k) (hk : l[k]? = some c) (hc : Pa.okByte c = true) : Oks l (k + 1) := by
  refine ⟨(List.getElem?_eq_some_iff.1 hk).1, fun j d hj hd => ?_⟩
  rcases Nat.lt_or_ge j k with h1 | h1
  · exact h.2 j d h1 hd
  · obtain rfl : j = k := by omega
    rw [hk] at hd
    cases hd
    exact hc
theorem Oks.all {l : Bs} (h : Oks l l.length) : l.all Pa.okByte = true := by
  rw [List.all_eq_true]
  intro c hc
  obtain ⟨j, hj, rfl⟩ := List.getElem_of_mem hc
  exact h.2 j _ hj (List.getElem?_eq_getElem hj)
theorem bad_at {l : Bs} {k : Nat} {c : UInt8} (hk : l[k]? = some c) (hc : Pa.okByte c = false) : l.all Pa.okByte = false := by
  rw [List.all_eq_false]
  exact ⟨c, List.mem_of_getElem? hk, by rw [hc]; decide⟩
set_option maxHeartbeats 1000000 in
set_option maxRecDepth 100000 in
theorem good_any (l : Bs) (w : World) (hl : l.length ≤ 9223372036854775807) : Calls Try.prog 35 #[.string (strOf l)] w fun e w' => e = .returned (.bool (Pa.good l)) ∧ w = w' := by
  have e0 := strOf_size l
  have e1 := strOf_lit l [46]
  have e2 := strOf_lit l [46, 46]
  by_cases h0 : l = []
  · subst h0
    go_enter Try.func35, Try.ntmps35
    go_wp2
    go_ret
    exact ⟨rfl, rfl⟩
  have hp : 0 < l.length := List.length_pos_iff.2 h0
  by_cases h16 : 16 < l.length
  · have HF : Hid (Pa.good l = false) := by
      show _ = _
      unfold Pa.good
      rw [show decide (l.length ≤ 16) = false from decide_eq_false (by omega)]
      simp
    go_enter Try.func35, Try.ntmps35
    go_wp2
    go_ret
    exact ⟨by rw [HF.out]; rfl, rfl⟩
  by_cases h1 : l = [46]
  · subst h1
    go_enter Try.func35, Try.ntmps35
    go_wp2
    go_ret
    exact ⟨rfl, rfl⟩
  by_cases h2 : l = [46, 46]
  · subst h2
    go_enter Try.func35, Try.ntmps35
    go_wp2
    go_ret
    exact ⟨rfl, rfl⟩
  have HG : Hid (Pa.good l = l.all Pa.okByte) := by
    show _ = _
    unfold Pa.good
    rw [show decide (l.length ≤ 16) = true from decide_eq_true (by omega), show decide (1 ≤ l.length) = true from decide_eq_true hp, bne_iff_ne.2 h1, bne_iff_ne.2 h2]
    simp
  replace e1 : ((strOf l).toList == [46]) = false := by rw [e1, decide_eq_false h1]
  replace e2 : ((strOf l).toList == [46, 46]) = false := by rw [e2, decide_eq_false h2]
  have hc0 : ((l.length : Int) == 0) = false := by simp; omega
  go_enter Try.func35, Try.ntmps35
  go_wp2
  go_loopw [22] (fun t22 wr => ∃ k : Nat, t22 = .int .i64 k ∧ Hid (Oks l k) ∧ wr = w) (fun t22 _ => l.length - (match t22 with | .int _ k => k.toNat | _ => 0))
  case atStart => exact ⟨0, rfl, Oks.zero l, rfl⟩
  case round =>
    obtain ⟨k, rfl, HO, rfl⟩ := hrel
    by_cases hk : k < l.length
    · obtain ⟨c, hc⟩ : ∃ c, l[k]? = some c := ⟨_, List.getElem?_eq_getElem hk⟩
      have hix := fun wx => str_at hc wx
      have HC := Lib.hid hc
      clear hc
      cases hok : Pa.okByte c with
      | true =>
        go_wp2_with (go_at_call 46; refine (usual_any c _).mono ?_; rintro e wx ⟨rfl, rfl⟩)
        go_roundw
        case rel => exact ⟨k + 1, rfl, HO.out.step HC.out hok, by first | rfl | trivial⟩
        case measure => simp; omega
      | false =>
        have HF : Hid (Pa.good l = false) := HG.out.trans (bad_at HC.out hok)
        go_wp2_with (go_at_call 46; refine (usual_any c _).mono ?_; rintro e wx ⟨rfl, rfl⟩)
        go_ret
        exact ⟨by rw [HF.out]; rfl, rfl⟩
    · obtain rfl : k = l.length := by have := HO.out.1; omega
      have HF : Hid (Pa.good l = true) := HG.out.trans HO.out.all
      go_wp2
      go_ret
      exact ⟨by rw [HF.out]; rfl, rfl⟩
end Go.Proofs.Ytpblhdpnmnfieaa

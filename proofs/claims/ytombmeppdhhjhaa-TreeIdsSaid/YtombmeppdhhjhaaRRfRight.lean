/-
  OWN WORK. The document's tree: right, rights.
-/
import Derived.Test.YtombmeppdhhjhaaR02
import Derived.Test.YtombmeppdhhjhaaRPtRef
namespace Go.Proofs.Ytombmeppdhhjhaa
open Go.RowKit
namespace Rf
set_option maxHeartbeats 1000000 in
set_option maxRecDepth 100000 in
theorem right_any (w : World) (A : Option Addr) (q : List Bs) (cap : Nat) (hr : RdS w A q) (hl : q.length ≤ 1000000) (hs : ∀ s ∈ q, s.length ≤ 1000000) :
    Calls Try.prog 78 #[.slice A q.length cap] w fun e w' => e = .returned (.int .i64 (Tr.formed q : Nat)) ∧ w' = w := by
  have HR := Lib.hid hr
  have HS := Lib.hid hs
  clear hr hs
  go_enter Try.func78, Try.ntmps78
  go_wp2_with fail
  go_loopw [3] (fun t3 wr => ∃ j : Nat, t3 = .int .i64 j ∧ j ≤ q.length ∧ Hid (∀ s ∈ q.take j, Pa.good s = true) ∧ wr = w) (fun t3 _ => q.length - (match t3 with | .int _ k => k.toNat | _ => 0))
  case atStart => exact ⟨0, rfl, Nat.zero_le _, fun e he => by simp at he, rfl⟩
  case round =>
    obtain ⟨j, rfl, hj, HN, rfl⟩ := hrel
    by_cases hk : j < q.length
    · obtain ⟨s, hsj⟩ : ∃ s, q[j]? = some s := ⟨_, List.getElem?_eq_getElem hk⟩
      obtain ⟨b, off, rfl, _, hcell⟩ := HR.out (by omega)
      have c0 := hcell j s hsj
      have hlt : (j : Int) < (q.length : Int) := by omega
      have HSJ := Lib.hid hsj
      have hsl : s.length ≤ 9223372036854775807 := by have := HS.out s (List.mem_of_getElem? hsj); omega
      clear hsj hcell
      go_wp2_with fail
      refine (refGood_any s _ hsl).mono ?_
      rintro e w1 ⟨rfl, rfl⟩
      cases hg : Pa.good s with
      | false =>
        have HF : Hid (Tr.formed q = 12) := by
          show _ = _
          unfold Tr.formed
          rw [if_neg]
          intro h
          rw [List.all_eq_true] at h
          rw [h s (List.mem_of_getElem? HSJ.out)] at hg
          cases hg
        go_wp2_with fail
        go_ret
        exact ⟨by rw [HF.out]; rfl, rfl⟩
      | true =>
        have HN1 : Hid (∀ s ∈ q.take (j + 1), Pa.good s = true) := fun m hm => by
          rw [List.take_succ_eq_append_getElem hk, List.mem_append] at hm
          rcases hm with hm | hm
          · exact HN.out m hm
          · simp only [List.mem_singleton] at hm
            rw [hm, (List.getElem?_eq_some_iff.1 HSJ.out).2]; exact hg
        go_wp2_with fail
        go_roundw
        case rel => exact ⟨j + 1, by go_num, by omega, HN1.out, by first | rfl | trivial⟩
        case measure => simp; omega
    · obtain rfl : j = q.length := by omega
      have hall : q.all Pa.good = true := by
        rw [List.all_eq_true]
        intro s hm
        exact HN.out s (by rw [List.take_length]; exact hm)
      by_cases h8 : 8 < q.length
      · have h8i : (8 : Int) < (q.length : Int) := by omega
        have HF : Hid (Tr.formed q = 3) := by
          show _ = _
          unfold Tr.formed
          rw [if_pos hall, if_pos h8]
        clear h8 hall
        go_wp2_with fail
        go_ret
        exact ⟨by rw [HF.out]; rfl, rfl⟩
      · have h8i : ¬ (8 : Int) < (q.length : Int) := by omega
        have HF : Hid (Tr.formed q = 0) := by
          show _ = _
          unfold Tr.formed
          rw [if_pos hall, if_neg h8]
        clear h8 hall
        go_wp2_with fail
        go_ret
        exact ⟨by rw [HF.out]; rfl, rfl⟩
set_option maxHeartbeats 1000000 in
set_option maxRecDepth 100000 in
theorem rights_any (w : World) (A B : Option Addr) (q r : List Bs) (cap cap2 : Nat) (hr : RdS w A q) (hl : q.length ≤ 1000000) (hs : ∀ s ∈ q, s.length ≤ 1000000) (hr2 : RdS w B r) (hl2 : r.length ≤ 1000000) (hs2 : ∀ s ∈ r, s.length ≤ 1000000) :
    Calls Try.prog 83 #[.slice A q.length cap, .slice B r.length cap2] w fun e w' => e = .returned (.int .i64 ((if Tr.formed q ≠ 0 then Tr.formed q else Tr.formed r) : Nat)) ∧ w' = w := by
  have H1 := Lib.hid (right_any w A q cap hr hl hs)
  have H2 := Lib.hid (right_any w B r cap2 hr2 hl2 hs2)
  clear hr hs hr2 hs2
  obtain ⟨n, hn⟩ : ∃ n, n = Tr.formed q := ⟨_, rfl⟩
  obtain ⟨m, hm⟩ : ∃ m, m = Tr.formed r := ⟨_, rfl⟩
  rw [← hn] at H1 ⊢
  rw [← hm] at H2 ⊢
  clear hn hm
  by_cases h : n = 0
  · subst h
    rw [if_neg (by simp)]
    go_enter Try.func83, Try.ntmps83
    go_wp2_with fail
    refine H1.out.mono ?_
    rintro e w1 ⟨rfl, rfl⟩
    go_wp2_with fail
    refine H2.out.mono ?_
    rintro e w1 ⟨rfl, rfl⟩
    go_wp2_with fail
    go_ret
    exact ⟨rfl, rfl⟩
  · rw [if_pos h]
    have hni : ((n : Int) == 0) = false := by rw [beq_eq_false_iff_ne]; omega
    clear h
    go_enter Try.func83, Try.ntmps83
    go_wp2_with fail
    refine H1.out.mono ?_
    rintro e w1 ⟨rfl, rfl⟩
    go_wp2_with fail
    go_ret
    exact ⟨rfl, rfl⟩
end Rf
end Go.Proofs.Ytombmeppdhhjhaa

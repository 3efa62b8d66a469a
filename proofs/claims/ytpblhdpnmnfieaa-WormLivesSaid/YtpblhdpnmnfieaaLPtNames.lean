/-
  OWN WORK. Names: Clone, Within, Parent: the program's.
-/
import Derived.Test.YtpblhdpnmnfieaaLPtGood
import Derived.Lib.SliceRun
import Derived.Deep.RegionWith
import Derived.BigRegion
namespace Go.Proofs.Ytpblhdpnmnfieaa
open Go.RowKit

theorem take_snoc {α : Type} {l : List α} {k : Nat} {x : α} (h : l[k]? = some x) : l.take (k + 1) = l.take k ++ [x] := by
  obtain ⟨hk, e⟩ := List.getElem?_eq_some_iff.1 h
  rw [List.take_succ_eq_append_getElem hk, e]
set_option maxHeartbeats 1000000 in
set_option maxRecDepth 100000 in
theorem cloneS_any (w : World) (A : Option Addr) (x : List Bs) (cap : Nat) (hr : RdS w A x) (hx : x.length ≤ 68719476736) :
    Calls Try.prog 47 #[.slice A x.length cap] w fun e w' => ∃ v, e = .returned v ∧ TAt w.heap.size v x w w' := by
  have q22 : ∀ (w : World) (a : Option Addr) (n c n' c' : Nat), (binOp .eql 37 (.slice a n c) (.slice none n' c')).run Try.prog w = .ok (.bool a.isNone) w := fun w a n c n' c' => Lib.run_eql_slice_nil w _ _ a n c n' c' Try.underlying37
  cases A with
  | none =>
    obtain rfl : x = [] := by
      rcases Nat.eq_zero_or_pos x.length with h | h
      · exact List.eq_nil_of_length_eq_zero h
      · obtain ⟨b, off, h1, _⟩ := hr h
        cases h1
    go_enter Try.func47, Try.ntmps47
    go_wp2_with fail
    go_ret
    exact ⟨_, rfl, TAt.nil w⟩
  | some ad =>
    have H0 : Hid (TAt w.heap.size (.slice (some ⟨w.heap.size, 0, none⟩) 0 0) [] w (w.alloc (.cells #[] 9))) := TAt.empty w
    have HRW : Hid (RdS (w.alloc (.cells #[] 9)) (some ad) x) := hr.below (below_new w _)
    have HN : Hid (([] : List Bs).length + x.length ≤ 68719476736) := by show 0 + _ ≤ _; omega
    clear hr
    go_enter Try.func47, Try.ntmps47
    go_wp2_with (at_builtin; refine wpList_append_txts rfl (.tmp 5) (.tmp 6) rfl rfl H0.out (Below.refl _ _) (some ad) x x.length cap rfl rfl HRW.out HN.out ?_; intro v1 w1 HO1 HG1)
    clear HG1
    go_ret
    exact ⟨_, rfl, HO1.out⟩
theorem parent_none (A : Option Addr) (cap : Nat) (w : World) : Calls Try.prog 36 #[.slice A 0 cap] w fun e w' => e = .returned (.tuple #[.slice none 0 0, .string (strOf []), .int .i64 1]) ∧ w = w' := by
  go_enter Try.func36, Try.ntmps36
  go_wp2
  go_ret3
  exact ⟨rfl, rfl⟩
set_option maxHeartbeats 4000000 in
set_option maxRecDepth 100000 in
theorem parent_any (l q : List Bs) (x : Bs) (A : Option Addr) (cap : Nat) (w : World) (hr : RdS w A l) (hc : l.length ≤ cap) (hl : l.length ≤ 68719476736) (hq : l = q ++ [x]) :
    Calls Try.prog 36 #[.slice A l.length cap] w fun e w' => ∃ X c, e = .returned (.tuple #[.slice X q.length c, .string (strOf x), .int .i64 0]) ∧ q.length ≤ c ∧ RdS w' X q ∧ Below w.heap.size w w' := by
  have hlq : l.length = q.length + 1 := by rw [hq, List.length_append]; rfl
  have hlx : l[q.length]? = some x := by rw [hq]; simp
  obtain ⟨b, off, rfl, hblt, hh⟩ := hr (by omega)
  clear hh
  obtain ⟨b', off', e, hcell⟩ := hr.at_ hlx
  cases e
  have HRQ : Hid (∀ W, Below w.heap.size w W → RdS W (some ⟨b, off, none⟩) q) := fun W hW => by
    have h := (hr.below hW).take q.length
    have e : l.take q.length = q := by rw [hq]; simp
    rw [e] at h
    exact h
  have hsl : ∀ W, (Instr.sliceAt 37 (.slice (some ⟨b, off, none⟩) l.length cap) none (some (.int .i64 q.length)) none).run Try.prog W = .ok (.slice (some ⟨b, off, none⟩) q.length cap) W := fun W => sls_h W _ _ cap q.length (by omega)
  have HC : Hid (∀ W, Below w.heap.size w W → W.cell? ⟨b, off + q.length, none⟩ = some (.string (strOf x))) := fun W hW => (hW.cell (p := ⟨b, off + q.length, none⟩) hblt).trans hcell
  have hlen0 : ((l.length : Int) == 0) = false := beq_eq_false_iff_ne.2 (by omega)
  have hqc : q.length ≤ cap := by omega
  have hq2 : (l.length : Int) - 1 = q.length := by omega
  obtain ⟨n, hn⟩ : ∃ n, n = q.length := ⟨_, rfl⟩
  have HN := Lib.hid hn
  have HLQ := Lib.hid hlq
  have hqn : q.length ≤ 68719476736 := by omega
  clear hr hq hlx hn hlq
  go_enter Try.func36, Try.ntmps36
  go_wp2_with fail
  have hcell0 := HC.out w (Below.refl _ _)
  go_region_with (go_at_call 47; refine (cloneS_any w.drew (some ⟨b, off, none⟩) q cap (HRQ.out _ (Below.refl _ w).drew) hqn).mono ?_; rintro e w1 ⟨v, rfl, hT⟩; have HT := Lib.hid hT; have hcell1 := HC.out w1 (undrew hT.later); clear hT)
  all_goals
    go_wp2_with fail
    go_ret3
    obtain ⟨X, c, hv, hc, hr⟩ := HT.out.form
    exact ⟨X, c, by rw [← hv]; rfl, hc, hr, undrew HT.out.later⟩
end Go.Proofs.Ytpblhdpnmnfieaa

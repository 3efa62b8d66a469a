/-
  OWN WORK. Names: Clone, Within, Parent: the program's.
-/
import Derived.Test.YtombmeppdhhjhaaSPtGood
import Derived.Lib.SliceRun
import Derived.Deep.RegionWith
import Derived.BigRegion
namespace Go.Proofs.Ytombmeppdhhjhaa
open Go.RowKit

theorem take_snoc {α : Type} {l : List α} {k : Nat} {x : α} (h : l[k]? = some x) : l.take (k + 1) = l.take k ++ [x] := by
  obtain ⟨hk, e⟩ := List.getElem?_eq_some_iff.1 h
  rw [List.take_succ_eq_append_getElem hk, e]
set_option maxHeartbeats 1000000 in
set_option maxRecDepth 100000 in
theorem cloneS_any (w : World) (A : Option Addr) (x : List Bs) (cap : Nat) (hr : RdS w A x) (hx : x.length ≤ 68719476736) :
    Calls Try.prog 73 #[.slice A x.length cap] w fun e w' => ∃ v, e = .returned v ∧ TAt w.heap.size v x w w' := by
  have q22 : ∀ (w : World) (a : Option Addr) (n c n' c' : Nat), (binOp .eql 28 (.slice a n c) (.slice none n' c')).run Try.prog w = .ok (.bool a.isNone) w := fun w a n c n' c' => Lib.run_eql_slice_nil w _ _ a n c n' c' Try.underlying28
  cases A with
  | none =>
    obtain rfl : x = [] := by
      rcases Nat.eq_zero_or_pos x.length with h | h
      · exact List.eq_nil_of_length_eq_zero h
      · obtain ⟨b, off, h1, _⟩ := hr h
        cases h1
    go_enter Try.func73, Try.ntmps73
    go_wp2_with fail
    go_ret
    exact ⟨_, rfl, TAt.nil w⟩
  | some ad =>
    have H0 : Hid (TAt w.heap.size (.slice (some ⟨w.heap.size, 0, none⟩) 0 0) [] w (w.alloc (.cells #[] 9))) := TAt.empty w
    have HRW : Hid (RdS (w.alloc (.cells #[] 9)) (some ad) x) := hr.below (below_new w _)
    have HN : Hid (([] : List Bs).length + x.length ≤ 68719476736) := by show 0 + _ ≤ _; omega
    clear hr
    go_enter Try.func73, Try.ntmps73
    go_wp2_with (at_builtin; refine wpList_append_txts rfl (.tmp 5) (.tmp 6) rfl rfl H0.out (Below.refl _ _) (some ad) x x.length cap rfl rfl HRW.out HN.out ?_; intro v1 w1 HO1 HG1)
    clear HG1
    go_ret
    exact ⟨_, rfl, HO1.out⟩
set_option maxHeartbeats 1000000 in
set_option maxRecDepth 100000 in
theorem within_names (w : World) (l o : List Bs) (A B : Option Addr) (c d : Nat) (hr : RdS w A l) (hs : RdS w B o) (_hl : l.length ≤ 1000000) (ho : o.length ≤ 1000000) :
    Calls Try.prog 88 #[.slice A l.length c, .slice B o.length d] w fun e w' => e = .returned (.bool (decide (o = l.take o.length))) ∧ w = w' := by
  by_cases hgt : l.length < o.length
  · have HF : Hid (decide (o = l.take o.length) = false) := decide_eq_false fun e => by have := congrArg List.length e; rw [List.length_take] at this; omega
    go_enter Try.func88, Try.ntmps88
    go_wp2
    go_ret
    exact ⟨by rw [HF.out]; rfl, rfl⟩
  have HR := Lib.hid hr
  have HS := Lib.hid hs
  clear hr hs
  go_enter Try.func88, Try.ntmps88
  go_wp2
  go_loopw [14] (fun t14 wr => ∃ k : Nat, t14 = .int .i64 k ∧ k ≤ o.length ∧ Hid (o.take k = l.take k) ∧ wr = w) (fun t14 _ => o.length - (match t14 with | .int _ k => k.toNat | _ => 0))
  case atStart => exact ⟨0, rfl, Nat.zero_le _, rfl, rfl⟩
  case round =>
    obtain ⟨k, rfl, hko, HK, rfl⟩ := hrel
    by_cases hk : k < o.length
    · obtain ⟨x, hx⟩ : ∃ x, o[k]? = some x := ⟨_, List.getElem?_eq_getElem hk⟩
      obtain ⟨y, hy⟩ : ∃ y, l[k]? = some y := ⟨_, List.getElem?_eq_getElem (by omega)⟩
      obtain ⟨b1, off1, rfl, hc1⟩ := HS.out.at_ hx
      obtain ⟨b2, off2, rfl, hc2⟩ := HR.out.at_ hy
      have HX : Hid (o.take (k + 1) = o.take k ++ [x] ∧ l.take (k + 1) = l.take k ++ [y]) := ⟨take_snoc hx, take_snoc hy⟩
      have HXY : Hid (o[k]? = some x ∧ l[k]? = some y) := ⟨hx, hy⟩
      clear hx hy
      by_cases he : y = x
      · have e1 : ((strOf y).toList == (strOf x).toList) = true := by rw [strOf_beq]; exact decide_eq_true he
        go_wp2
        go_roundw
        case rel => exact ⟨k + 1, rfl, by omega, by show _ = _; rw [HX.out.1, HX.out.2, HK.out, he], by first | rfl | trivial⟩
        case measure => simp; omega
      · have e1 : ((strOf y).toList == (strOf x).toList) = false := by rw [strOf_beq]; exact decide_eq_false he
        have HF : Hid (decide (o = l.take o.length) = false) := decide_eq_false fun e => he (by
          have h1 := HXY.out.1
          rw [e, List.getElem?_take_of_lt hk, HXY.out.2] at h1
          exact Option.some.inj h1)
        go_wp2
        go_ret
        exact ⟨by rw [HF.out]; rfl, rfl⟩
    · obtain rfl : k = o.length := by omega
      have HF : Hid (decide (o = l.take o.length) = true) := decide_eq_true (by have := HK.out; rw [List.take_length] at this; exact this)
      go_wp2
      go_ret
      exact ⟨by rw [HF.out]; rfl, rfl⟩
theorem parent_none (A : Option Addr) (cap : Nat) (w : World) : Calls Try.prog 40 #[.slice A 0 cap] w fun e w' => e = .returned (.tuple #[.slice none 0 0, .string (strOf []), .int .i64 1]) ∧ w = w' := by
  go_enter Try.func40, Try.ntmps40
  go_wp2
  go_ret3
  exact ⟨rfl, rfl⟩
set_option maxHeartbeats 4000000 in
set_option maxRecDepth 100000 in
theorem parent_any (l q : List Bs) (x : Bs) (A : Option Addr) (cap : Nat) (w : World) (hr : RdS w A l) (hc : l.length ≤ cap) (hl : l.length ≤ 68719476736) (hq : l = q ++ [x]) :
    Calls Try.prog 40 #[.slice A l.length cap] w fun e w' => ∃ X c, e = .returned (.tuple #[.slice X q.length c, .string (strOf x), .int .i64 0]) ∧ q.length ≤ c ∧ RdS w' X q ∧ Below w.heap.size w w' := by
  have hlq : l.length = q.length + 1 := by rw [hq, List.length_append]; rfl
  have hlx : l[q.length]? = some x := by rw [hq]; simp
  obtain ⟨b, off, rfl, hblt, hh⟩ := hr (by omega)
  clear hh
  obtain ⟨b', off', e, hcell⟩ := hr.at_ hlx
  cases e
  have HRQ : Hid (∀ W, Below w.heap.size w W → RdS W (some ⟨b, off, none⟩) q) := fun W hW => by
    have h := (hr.below hW).take q.length
    have e : l.take q.length = q := by rw [hq]; simp
    rw [e] at h
    exact h
  have hsl : ∀ W, (Instr.sliceAt 28 (.slice (some ⟨b, off, none⟩) l.length cap) none (some (.int .i64 q.length)) none).run Try.prog W = .ok (.slice (some ⟨b, off, none⟩) q.length cap) W := fun W => sls_h W _ _ cap q.length (by omega)
  have HC : Hid (∀ W, Below w.heap.size w W → W.cell? ⟨b, off + q.length, none⟩ = some (.string (strOf x))) := fun W hW => (hW.cell (p := ⟨b, off + q.length, none⟩) hblt).trans hcell
  have hlen0 : ((l.length : Int) == 0) = false := beq_eq_false_iff_ne.2 (by omega)
  have hqc : q.length ≤ cap := by omega
  have hq2 : (l.length : Int) - 1 = q.length := by omega
  obtain ⟨n, hn⟩ : ∃ n, n = q.length := ⟨_, rfl⟩
  have HN := Lib.hid hn
  have HLQ := Lib.hid hlq
  have hqn : q.length ≤ 68719476736 := by omega
  clear hr hq hlx hn hlq
  go_enter Try.func40, Try.ntmps40
  go_wp2_with fail
  have hcell0 := HC.out w (Below.refl _ _)
  go_region_with (go_at_call 73; refine (cloneS_any w.drew (some ⟨b, off, none⟩) q cap (HRQ.out _ (Below.refl _ w).drew) hqn).mono ?_; rintro e w1 ⟨v, rfl, hT⟩; have HT := Lib.hid hT; have hcell1 := HC.out w1 (undrew hT.later); clear hT)
  all_goals
    go_wp2_with fail
    go_ret3
    obtain ⟨X, c, hv, hc, hr⟩ := HT.out.form
    exact ⟨X, c, by rw [← hv]; rfl, hc, hr, undrew HT.out.later⟩
end Go.Proofs.Ytombmeppdhhjhaa

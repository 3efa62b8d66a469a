/-
  OWN WORK. Path: the program's, by its contract.
-/
import Derived.Test.YtjeclmbableacaaDoorMkRootP
import Derived.Test.YtjeclmbableacaaDoorMkLen
import Derived.Test.YtjeclmbableacaaDoorMkRev
namespace Go.Proofs.YtjeclmbableacaaDoor
open Go.RowKit Rc

def sliceLen : Value → Nat | .slice _ n _ => n | _ => 0
set_option maxHeartbeats 8000000 in
set_option maxRecDepth 100000 in
theorem pPath_in (w : World) (L : List (List UInt8)) (A : Option Addr) (c i : Nat) (hr : RdL w A L) (hc : L.length ≤ c) (hs : Small L) (hk : KP w) (hi : i < L.length) :
    Calls Tryd.prog 11 #[.slice A L.length c, .int .i64 (i : Nat)] w fun e w' => ∃ x, e = .returned (.tuple #[x, .int .i64 0]) ∧ LNew (Mk.path Sh.sum L i) w x w' ∧ Below w.heap.size w w' := by
  have HR : Hid (RdL w A L) := hr
  have HS := Lib.hid hs
  have HK := Lib.hid hk
  have hlen := HS.out.len
  clear hr hs hk
  have d1 : decide (L.length ≤ i) = false := decide_eq_false (by omega)
  have d2 : decide ((i : Int) < 0) = false := decide_eq_false (by omega)
  go_enter Tryd.func11, Tryd.ntmps11
  go_wp2_with fail
  go_loopw [0, 1, 6] (fun t0 t1 t6 wr => ∃ (L' : List (List UInt8)) (A' : Option Addr) (c' i' : Nat) (R : List (List UInt8)), t0 = .slice A' L'.length c' ∧ t1 = .int .i64 (i' : Nat) ∧ i' < L'.length ∧ L'.length ≤ c' ∧ R.length + L'.length ≤ L.length ∧ Hid (Small L') ∧ Hid (RdL w A' L') ∧ Hid (LNew R w t6 wr) ∧ Hid (Below w.heap.size w wr) ∧ Hid (Mk.path Sh.sum L i = Mk.path Sh.sum L' i' ++ R.reverse)) (fun t0 _ _ _ => sliceLen t0)
  case atStart => exact ⟨L, A, c, i, [], rfl, rfl, hi, hc, by simp, HS, HR, LOwn.nil _ _ _ _, Below.refl _ _, by show _ = _; simp⟩
  case round =>
    obtain ⟨L', A', c', i', R, rfl, rfl, hi', hc', hle, HS', HR', HN, HB, HE⟩ := hrel
    by_cases h2 : 2 ≤ L'.length
    · have HP := Lib.hid (pPart wr L'.length h2 (by omega))
      have hp1 := Mk.part_lt L'.length h2
      have hp2 := Mk.part_pos L'.length h2
      obtain ⟨p, hpp⟩ : ∃ p, p = Mk.part L'.length := ⟨_, rfl⟩
      rw [← hpp] at hp1 hp2 HP
      by_cases hik : i' < p
      · skip
        have HE2 : Hid (Mk.path Sh.sum L' i' = Mk.path Sh.sum (L'.take p) i' ++ [Mk.root Sh.sum (L'.drop p)]) := by rw [hpp]; exact Mk.path_left Sh.sum L' i' h2 (by rw [← hpp]; exact hik)
        have S1 := fun W => rows_h W A' L' c' p (by omega) hc'
        have S2 := fun W => rows_l W A' L' c' p (by omega)
        have R1 := Lib.hid (HR'.out.take p)
        have R2 := Lib.hid (HR'.out.cut p c' hc')
        have M1 := Lib.hid (HS'.out.take p)
        have M2 := Lib.hid (HS'.out.drop p)
        have hl1 : (L'.take p).length = p := by rw [List.length_take]; omega
        have hl2 : (L'.drop p).length = L'.length - p := List.length_drop
        obtain ⟨L1, hL1⟩ : ∃ L1, L1 = L'.take p := ⟨_, rfl⟩
        obtain ⟨L2, hL2⟩ : ∃ L2, L2 = L'.drop p := ⟨_, rfl⟩
        rw [← hL1] at S1 R1 M1 HE2 hl1
        rw [← hL2] at S2 R2 M2 HE2 hl2
        have Q1 := Lib.hid hl1
        have Q2 := Lib.hid hl2
        clear hL1 hL2 hl1 hl2
        clear hpp
        go_wp2_with fail
        refine (HP.out).mono ?_
        rintro e w1 ⟨rfl, rfl⟩
        go_wp2_with fail
        refine (pRoot _ wr L2 (cutA A' p c') (c' - p) rfl (R2.out.below HB.out) (by have := Q2.out; omega) M2.out (HK.out.later HB.out)).mono ?_
        rintro e w3 ⟨xv, rfl, hx, hb⟩
        have HX := Lib.hid hx
        have HB3 := Lib.hid hb
        obtain ⟨XA, xc, rfl, _, _, _⟩ := hx
        clear hb
        go_wp2_with (at_builtin; refine wpList_push rfl (.tmp 25) (.tmp 30) rfl rfl rfl HN.out HB.out HX.out HB3.out (by omega) ?_; intro v2 w4 HN2 HB2)
        go_roundw
        case rel => exact ⟨L1, A', c', i', R ++ [Mk.root Sh.sum L2], rfl, rfl, by have := Q1.out; omega, by have := Q1.out; omega, by have := Q1.out; simp only [List.length_append, List.length_cons, List.length_nil]; omega, M1, R1, HN2, HB2, by show _ = _; rw [HE.out, HE2.out]; simp⟩
        case measure => have := Q1.out; simp only [sliceLen]; omega
      · skip
        have HE2 : Hid (Mk.path Sh.sum L' i' = Mk.path Sh.sum (L'.drop p) (i' - p) ++ [Mk.root Sh.sum (L'.take p)]) := by rw [hpp]; exact Mk.path_right Sh.sum L' i' h2 (by rw [← hpp]; exact hik)
        have S1 := fun W => rows_h W A' L' c' p (by omega) hc'
        have S2 := fun W => rows_l W A' L' c' p (by omega)
        have R1 := Lib.hid (HR'.out.take p)
        have R2 := Lib.hid (HR'.out.cut p c' hc')
        have M1 := Lib.hid (HS'.out.take p)
        have M2 := Lib.hid (HS'.out.drop p)
        have hl1 : (L'.take p).length = p := by rw [List.length_take]; omega
        have hl2 : (L'.drop p).length = L'.length - p := List.length_drop
        obtain ⟨L1, hL1⟩ : ∃ L1, L1 = L'.take p := ⟨_, rfl⟩
        obtain ⟨L2, hL2⟩ : ∃ L2, L2 = L'.drop p := ⟨_, rfl⟩
        rw [← hL1] at S1 R1 M1 HE2 hl1
        rw [← hL2] at S2 R2 M2 HE2 hl2
        have Q1 := Lib.hid hl1
        have Q2 := Lib.hid hl2
        clear hL1 hL2 hl1 hl2
        obtain ⟨q, rfl⟩ : ∃ q, i' = p + q := ⟨i' - p, by omega⟩
        rw [Nat.add_sub_cancel_left] at HE2
        clear hpp
        go_wp2_with fail
        refine (HP.out).mono ?_
        rintro e w1 ⟨rfl, rfl⟩
        go_wp2_with fail
        refine (pRoot _ wr L1 A' c' rfl (R1.out.below HB.out) (by have := Q1.out; omega) M1.out (HK.out.later HB.out)).mono ?_
        rintro e w3 ⟨xv, rfl, hx, hb⟩
        have HX := Lib.hid hx
        have HB3 := Lib.hid hb
        obtain ⟨XA, xc, rfl, _, _, _⟩ := hx
        clear hb
        go_wp2_with (at_builtin; refine wpList_push rfl (.tmp 35) (.tmp 40) rfl rfl rfl HN.out HB.out HX.out HB3.out (by omega) ?_; intro v2 w4 HN2 HB2)
        go_roundw
        case rel => exact ⟨L2, cutA A' p c', c' - p, q, R ++ [Mk.root Sh.sum L1], rfl, by first | rfl | go_num, by have := Q2.out; omega, by have := Q2.out; omega, by have := Q2.out; simp only [List.length_append, List.length_cons, List.length_nil]; omega, M2, R2, HN2, HB2, by show _ = _; rw [HE.out, HE2.out]; simp⟩
        case measure => have := Q2.out; simp only [sliceLen]; omega
    · have HF : Hid (Mk.path Sh.sum L i = R.reverse) := by show _ = _; rw [HE.out, Mk.path_short Sh.sum L' i' (by omega), List.nil_append]
      have h3 : ¬ (1 : Int) < (L'.length : Int) := by omega
      go_wp2_with fail
      refine (rev_any w wr R _ HN.out HB.out (by omega)).mono ?_
      rintro e w3 ⟨rfl, hn, hb⟩
      have HN2 := Lib.hid hn
      have HB2 := Lib.hid hb
      clear hn hb
      go_wp2_with fail
      go_ret2
      exact ⟨_, rfl, by rw [HF.out]; exact HN2.out, HB2.out⟩
end Go.Proofs.YtjeclmbableacaaDoor

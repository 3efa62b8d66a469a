/-
  OWN WORK. What a leaf comes to by a path: the document's, by its contract.
-/
import Derived.Test.YtjeclmbableacaaDoorMkLen
namespace Go.Proofs.YtjeclmbableacaaDoor
open Go.RowKit Rc

set_option maxHeartbeats 8000000 in
set_option maxRecDepth 100000 in
theorem rClimb (N : Nat) : ∀ (w : World) (x : List UInt8) (A : Option Addr) (c i n : Nat) (P : List (List UInt8)) (B : Option Addr) (d : Nat), n = N → i < n → n ≤ 1000000 → Rd w A x → x.length ≤ c → x.length ≤ 1000000 → RdL w B P → P.length ≤ d → Small P → KR w → Calls Tryd.prog 39 #[.slice A x.length c, .int .i64 (i : Nat), .int .i64 (n : Nat), .slice B P.length d] w (CAns (Mk.climb Sh.sum x i n P) w) := by
  induction N using Nat.strongRecOn with
  | _ N ih =>
  intro w x A c i n P B d hN hi hn hr hc hx hr2 hd hs hk
  subst hN
  have IH := Lib.hid ih
  have HR : Hid (Rd w A x) := hr
  have HR2 : Hid (RdL w B P) := hr2
  have HS := Lib.hid hs
  have HK : Hid (KR w) := hk
  have hlen := HS.out.len
  clear ih hr hr2 hs hk
  rcases Nat.lt_or_ge n 2 with h2 | h2
  · obtain rfl : n = 1 := by omega
    have HE := Lib.hid (Mk.climb_one Sh.sum x i 1 P h2)
    by_cases hp : P.length = 0
    · have hp2 : Hid (P = []) := List.eq_nil_of_length_eq_zero hp
      rw [hp]
      clear hp hlen hd hi hn h2
      go_enter Tryd.func39, Tryd.ntmps39
      go_wp2_with fail
      refine (rLeaf w x A c HR.out hc HK.out hx).mono ?_
      rintro e w1 ⟨v, rfl, ⟨X, k, rfl, hXc, hXr, _⟩, hb⟩
      have HX := Lib.hid hXr
      have HB := Lib.hid hb
      clear hXr hb
      go_wp2_with fail
      go_ret2
      exact ⟨_, X, k, true, rfl, hXc, by rw [leaf_length]; omega, HX.out, by rw [HE.out, if_pos hp2.out]; rfl, HB.out⟩
    · have hp2 : Hid (P ≠ []) := fun h => hp (by rw [h]; rfl)
      have hp3 : ((P.length : Int) == 0) = false := beq_eq_false_iff_ne.2 (by omega)
      go_enter Tryd.func39, Tryd.ntmps39
      go_wp2_with fail
      refine (rLeaf w x A c HR.out hc HK.out hx).mono ?_
      rintro e w1 ⟨v, rfl, ⟨X, k, rfl, hXc, hXr, _⟩, hb⟩
      have HX := Lib.hid hXr
      have HB := Lib.hid hb
      clear hXr hb
      go_wp2_with fail
      go_ret2
      exact ⟨_, X, k, false, rfl, hXc, by rw [leaf_length]; omega, HX.out, by rw [HE.out, if_neg hp2.out]; rfl, HB.out⟩
  · by_cases hp : P.length = 0
    · have HE : Hid (Mk.climb Sh.sum x i n P = none) := by rw [List.eq_nil_of_length_eq_zero hp]; exact Mk.climb_none Sh.sum x i n h2
      rw [hp]
      clear hp hlen hd hi
      go_enter Tryd.func39, Tryd.ntmps39
      go_wp2_with fail
      go_ret2
      exact ⟨[], none, 0, false, rfl, Nat.le_refl _, by simp, Rd.nil _ _, HE.out, Below.refl _ _⟩
    · have hpc : P.length - 1 ≤ P.length := Nat.sub_le _ _
      obtain ⟨b, off, u, A2, c2, rfl, hu, hcell, hc2, hru⟩ := HR2.out.at_ (P.length - 1) (by omega)
      have S1 := fun W => rows_h W (some ⟨b, off, none⟩) P d (P.length - 1) hpc hd
      have hPQ : P = P.take (P.length - 1) ++ [u] := by
        conv => lhs; rw [← List.take_append_drop (P.length - 1) P]
        congr 1
        apply List.ext_getElem?
        intro j
        rw [List.getElem?_drop]
        rcases j with _ | j
        · rw [Nat.add_zero, hu]; rfl
        · rw [List.getElem?_eq_none (by omega)]; rfl
      have RQ : Hid (RdL w (some ⟨b, off, none⟩) (P.take (P.length - 1))) := HR2.out.take _
      have MQ := Lib.hid (HS.out.take (P.length - 1))
      have hul := HS.out.at_ hu
      have hQl : (P.take (P.length - 1)).length = P.length - 1 := by rw [List.length_take]; omega
      have HBL : Hid (b < w.heap.size) := World.block_lt_of_cell? w ⟨b, _, none⟩ hcell
      obtain ⟨Q, hQ⟩ : ∃ Q, Q = P.take (P.length - 1) := ⟨_, rfl⟩
      rw [← hQ] at S1 hPQ RQ MQ hQl
      obtain ⟨m, hm⟩ : ∃ m, m = P.length - 1 := ⟨_, rfl⟩
      have hPl : P.length = m + 1 := by omega
      rw [← hm] at hcell hQl
      rw [← hm, hPl] at S1
      have HPE := Lib.hid hPQ
      have HQL := Lib.hid hQl
      have HRU := Lib.hid hru
      have hq1 := Mk.part_lt n h2
      have hq2 := Mk.part_pos n h2
      have HP := Lib.hid (rPart w n h2 hn)
      have HPQ : Hid (∀ W, Calls Tryd.prog 31 #[.int .i64 (n : Nat)] W fun e w' => e = .returned (.int .i64 (Mk.part n : Nat)) ∧ W = w') := fun W => rPart W n h2 hn
      rw [hPl]
      have hQd : Q.length ≤ d := by omega
      have hmb : m ≤ 1000000 := by omega
      clear hm hQ hPQ hQl hru hu hp hpc hd
      by_cases hik : i < Mk.part n
      · have HE := Lib.hid (Mk.climb_left Sh.sum x i n Q u h2 hik)
        rw [← HPE.out] at HE
        obtain ⟨q, hq⟩ : ∃ q, q = Mk.part n := ⟨_, rfl⟩
        rw [← hq] at hq1 hq2 HP HPQ HE hik
        clear hPl HPE hq
        go_enter Tryd.func39, Tryd.ntmps39
        go_wp2_with fail
        refine HP.out.mono ?_
        rintro e w1 ⟨rfl, rfl⟩
        go_wp2_with fail
        refine (IH.out q hq1 w x A c i q Q (some ⟨b, off, none⟩) d rfl hik (by omega) HR.out hc hx RQ.out hQd MQ.out HK.out).mono ?_
        rintro e w3 ⟨X, AX, cX, ok, rfl, hXc, hXl, hXr, hXo, hb⟩
        have HX := Lib.hid hXr
        have HO := Lib.hid hXo
        have HB : Hid (Below w.heap.size w w3) := hb
        clear hXr hXo hb
        go_wp2_with fail
        refine (rPair w3 X u AX A2 cX c2 HX.out hXc (HRU.out.below HB.out) hc2 (HK.out.later HB.out) hXl hul).mono ?_
        rintro e w4 ⟨v, rfl, ⟨Y, cY, rfl, hYc, hYr, _⟩, hb⟩
        have HY := Lib.hid hYr
        have HB2 : Hid (Below w.heap.size w w4) := HB.out.trans (hb.mono HB.out.size)
        clear hYr hb
        go_wp2_with fail
        go_ret2
        exact ⟨_, Y, cY, ok, rfl, hYc, by rw [pair_length]; omega, HY.out, by rw [HE.out, HO.out]; cases ok <;> rfl, HB2.out⟩
      · have HE := Lib.hid (Mk.climb_right Sh.sum x i n Q u h2 hik)
        rw [← HPE.out] at HE
        obtain ⟨q, hq⟩ : ∃ q, q = Mk.part n := ⟨_, rfl⟩
        rw [← hq] at hq1 hq2 HP HPQ HE hik
        clear hPl HPE hq
        obtain ⟨j, rfl⟩ : ∃ j, i = q + j := ⟨i - q, by omega⟩
        rw [Nat.add_sub_cancel_left] at HE
        obtain ⟨r, rfl⟩ : ∃ r, n = q + r := ⟨n - q, by omega⟩
        rw [Nat.add_sub_cancel_left] at HE
        go_enter Tryd.func39, Tryd.ntmps39
        go_wp2_with fail
        refine HP.out.mono ?_
        rintro e w1 ⟨rfl, rfl⟩
        go_wp2_with fail
        rw [show ((q : Nat) : Int) + ((j : Nat) : Int) - ((q : Nat) : Int) = ((j : Nat) : Int) by omega, show ((q : Nat) : Int) + ((r : Nat) : Int) - ((q : Nat) : Int) = ((r : Nat) : Int) by omega]
        refine (IH.out r (by omega) w x A c j r Q (some ⟨b, off, none⟩) d rfl (by omega) (by omega) HR.out hc hx RQ.out hQd MQ.out HK.out).mono ?_
        rintro e w3 ⟨X, AX, cX, ok, rfl, hXc, hXl, hXr, hXo, hb⟩
        have HX := Lib.hid hXr
        have HO := Lib.hid hXo
        have HB : Hid (Below w.heap.size w w3) := hb
        clear hXr hXo hb
        go_wp2_with fail
        refine (rPair w3 u X A2 AX c2 cX (HRU.out.below HB.out) hc2 HX.out hXc (HK.out.later HB.out) hul hXl).mono ?_
        rintro e w4 ⟨v, rfl, ⟨Y, cY, rfl, hYc, hYr, _⟩, hb⟩
        have HY := Lib.hid hYr
        have HB2 : Hid (Below w.heap.size w w4) := HB.out.trans (hb.mono HB.out.size)
        clear hYr hb
        go_wp2_with fail
        go_ret2
        exact ⟨_, Y, cY, ok, rfl, hYc, by rw [pair_length]; omega, HY.out, by rw [HE.out, HO.out]; cases ok <;> rfl, HB2.out⟩
end Go.Proofs.YtjeclmbableacaaDoor

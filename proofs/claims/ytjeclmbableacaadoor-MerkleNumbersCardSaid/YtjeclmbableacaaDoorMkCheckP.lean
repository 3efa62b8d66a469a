/-
  OWN WORK. Check, CheckGrown and Grown: the program's, by their contracts.
-/
import Derived.Test.YtjeclmbableacaaDoorMkClimbP
import Derived.Test.YtjeclmbableacaaDoorMkBothP
import Derived.Test.YtjeclmbableacaaDoorMkSubP
import Derived.Test.YtjeclmbableacaaDoorMkLen
namespace Go.Proofs.YtjeclmbableacaaDoor
open Go.RowKit Rc

set_option maxHeartbeats 4000000 in
set_option maxRecDepth 100000 in
theorem pCheck (w : World) (root x : List UInt8) (R A : Option Addr) (rc c : Nat) (i n : Int) (P : List (List UInt8)) (B : Option Addr) (d : Nat) (hi : -1000000 ≤ i ∧ i ≤ 1000000) (hn : -1000000 ≤ n ∧ n ≤ 1000000) (hr : Rd w R root) (hx : Rd w A x) (hxc : x.length ≤ c) (hxl : x.length ≤ 1000000) (hp : RdL w B P) (hpd : P.length ≤ d) (hs : Small P) (_hpl : P.length ≤ 60) (hk : KP w) :
    Calls Tryd.prog 14 #[.slice R root.length rc, .slice A x.length c, .int .i64 i, .int .i64 n, .slice B P.length d] w fun e w' => e = .returned (.bool (chk root x i n P)) ∧ Below w.heap.size w w' := by
  have HR : Hid (Rd w R root) := hr
  have HX : Hid (Rd w A x) := hx
  have HP : Hid (RdL w B P) := hp
  have HS := Lib.hid hs
  have HK : Hid (KP w) := hk
  obtain ⟨hi1, hi2⟩ := hi
  obtain ⟨hn1, hn2⟩ := hn
  clear hr hx hp hs hk
  by_cases h0 : i < 0
  · have HC : Hid (chk root x i n P = false) := chk_no (by omega)
    by_cases hn0 : n < 1
    · go_enter Tryd.func14, Tryd.ntmps14
      go_wp2_with fail
      go_ret
      exact ⟨by rw [HC.out]; rfl, Below.refl _ _⟩
    · go_enter Tryd.func14, Tryd.ntmps14
      go_wp2_with fail
      go_ret
      exact ⟨by rw [HC.out]; rfl, Below.refl _ _⟩
  · by_cases h1 : n ≤ i
    · have HC : Hid (chk root x i n P = false) := chk_no (by omega)
      by_cases hn0 : n < 1
      · go_enter Tryd.func14, Tryd.ntmps14
        go_wp2_with fail
        go_ret
        exact ⟨by rw [HC.out]; rfl, Below.refl _ _⟩
      · go_enter Tryd.func14, Tryd.ntmps14
        go_wp2_with fail
        go_ret
        exact ⟨by rw [HC.out]; rfl, Below.refl _ _⟩
    · obtain ⟨a, rfl⟩ : ∃ a : Nat, i = (a : Int) := ⟨i.toNat, by omega⟩
      obtain ⟨b, rfl⟩ : ∃ b : Nat, n = (b : Int) := ⟨n.toNat, by omega⟩
      have hn0 : ¬ (b : Int) < 1 := by omega
      go_enter Tryd.func14, Tryd.ntmps14
      go_wp2_with fail
      refine (pClimb _ w x A c a b P B d rfl (by omega) (by omega) HX.out hxc hxl HP.out hpd HS.out HK.out).mono ?_
      rintro e w1 ⟨X, AX, cX, ok, rfl, hXc, _, hXr, hXo, hb⟩
      have HXR := Lib.hid hXr
      have HXO := Lib.hid hXo
      have HB := Lib.hid hb
      clear hXr hXo hb
      cases ok with
      | false =>
        have HC : Hid (chk root x a b P = false) := chk_none HXO.out
        go_wp2_with fail
        go_ret
        exact ⟨by rw [HC.out]; rfl, HB.out⟩
      | true =>
        have HC : Hid (chk root x a b P = decide (X = root)) := chk_some (by omega) HXO.out
        have HRR : Hid (Rd w1 R root) := HR.out.below HB.out
        go_wp2_with fail
        refine (equal_any w1 X root AX R cX rc HXR.out HRR.out).mono ?_
        rintro e w2 ⟨rfl, rfl⟩
        go_wp2_with fail
        go_ret
        exact ⟨by rw [HC.out]; rfl, HB.out⟩

set_option maxHeartbeats 4000000 in
set_option maxRecDepth 100000 in
theorem pCheckGrown (w : World) (old root : List UInt8) (A R : Option Addr) (c rc : Nat) (m n : Int) (P : List (List UInt8)) (B : Option Addr) (d : Nat) (hm : -1000000 ≤ m ∧ m ≤ 1000000) (hn : -1000000 ≤ n ∧ n ≤ 1000000) (hr : Rd w R root) (hx : Rd w A old) (hxc : old.length ≤ c) (hxl : old.length = 32 ∨ m < 1 ∨ n < m) (hp : RdL w B P) (hpd : P.length ≤ d) (hs : ∀ y, y ∈ P → y.length = 32) (hpl : P.length ≤ 60) (hk : KP w) :
    Calls Tryd.prog 17 #[.slice A old.length c, .slice R root.length rc, .int .i64 m, .int .i64 n, .slice B P.length d] w fun e w' => e = .returned (.bool (chkg old root m n P)) ∧ Below w.heap.size w w' := by
  have HR : Hid (Rd w R root) := hr
  have HX : Hid (Rd w A old) := hx
  have HP : Hid (RdL w B P) := hp
  have HS := Lib.hid hs
  have HM : Hid (Small P) := ⟨by omega, fun y hy => by rw [hs y hy]; omega⟩
  have HK : Hid (KP w) := hk
  obtain ⟨hi1, hi2⟩ := hm
  obtain ⟨hn1, hn2⟩ := hn
  clear hr hx hp hs hk
  by_cases h0 : m < 1
  · have HC : Hid (chkg old root m n P = false) := chkg_no (by omega)
    clear hxl
    go_enter Tryd.func17, Tryd.ntmps17
    go_wp2_with fail
    go_ret
    exact ⟨by rw [HC.out]; rfl, Below.refl _ _⟩
  · by_cases h1 : n < m
    · have HC : Hid (chkg old root m n P = false) := chkg_no (by omega)
      clear hxl
      go_enter Tryd.func17, Tryd.ntmps17
      go_wp2_with fail
      go_ret
      exact ⟨by rw [HC.out]; rfl, Below.refl _ _⟩
    · have hol : old.length = 32 := by omega
      have HOL := Lib.hid hol
      obtain ⟨a, rfl⟩ : ∃ a : Nat, m = (a : Int) := ⟨m.toNat, by omega⟩
      obtain ⟨b, rfl⟩ : ∃ b : Nat, n = (b : Int) := ⟨n.toNat, by omega⟩
      have hol2 : old.length ≤ 1000000 := by omega
      clear hxl hol
      go_enter Tryd.func17, Tryd.ntmps17
      go_wp2_with fail
      have HBW : Hid (Below w.heap.size w (w.alloc (.cells #[.slice A old.length c] 23))) := below_new w _
      refine (hashes_any _ [old] (some ⟨w.heap.size, 0, none⟩) 1 (rdl_one HX.out hxc) (Nat.le_refl _) (by intro y hy; simp at hy; rw [hy]; exact HOL.out)).mono ?_
      rintro e w1 ⟨rfl, rfl⟩
      go_wp2_with fail
      refine (hashes_any _ P B d (HP.out.below HBW.out) hpd HS.out).mono ?_
      rintro e w1 ⟨rfl, rfl⟩
      go_wp2_with fail
      refine (pBoth _ _ old A c a b P B d true rfl (by omega) (by omega) (by omega) (HX.out.below HBW.out) hxc hol2 (HP.out.below HBW.out) hpd HM.out (HK.out.later HBW.out)).mono ?_
      rintro e w1 ⟨X, AX, cX, Y, AY, cY, ok, rfl, hXc, _, hXr, hYc, _, hYr, hXo, hb0⟩
      have hb : Below w.heap.size w w1 := HBW.out.trans (hb0.mono HBW.out.size)
      clear hb0
      have HXR := Lib.hid hXr
      have HYR := Lib.hid hYr
      have HXO := Lib.hid hXo
      have HB := Lib.hid hb
      clear hXr hYr hXo hb
      cases ok with
      | false =>
        have HC : Hid (chkg old root a b P = false) := chkg_none HXO.out
        go_wp2_with fail
        go_ret
        exact ⟨by rw [HC.out]; rfl, HB.out⟩
      | true =>
        have HC : Hid (chkg old root a b P = (decide (X = old) && decide (Y = root))) := chkg_some (by omega) HXO.out
        have HRR : Hid (Rd w1 R root) := HR.out.below HB.out
        have HXX : Hid (Rd w1 A old) := HX.out.below HB.out
        by_cases hXe : X = old
        · have HC2 : Hid (chkg old root a b P = decide (Y = root)) := by show _ = _; rw [HC.out, decide_eq_true hXe]; rfl
          have HXE : Hid (decide (X = old) = true) := decide_eq_true hXe
          clear hXe
          go_wp2_with fail
          refine (equal_any w1 X old AX A cX c HXR.out HXX.out).mono ?_
          rintro e w2 ⟨rfl, rfl⟩
          rw [HXE.out]
          go_wp2_with fail
          refine (equal_any w1 Y root AY R cY rc HYR.out HRR.out).mono ?_
          rintro e w2 ⟨rfl, rfl⟩
          go_wp2_with fail
          go_ret
          exact ⟨by rw [HC2.out]; rfl, HB.out⟩
        · have HC2 : Hid (chkg old root a b P = false) := by show _ = _; rw [HC.out, decide_eq_false hXe]; rfl
          have HXE : Hid (decide (X = old) = false) := decide_eq_false hXe
          clear hXe
          go_wp2_with fail
          refine (equal_any w1 X old AX A cX c HXR.out HXX.out).mono ?_
          rintro e w2 ⟨rfl, rfl⟩
          rw [HXE.out]
          go_wp2_with fail
          go_ret
          exact ⟨by rw [HC2.out]; rfl, HB.out⟩

set_option maxHeartbeats 1000000 in
theorem pGrown (w : World) (L : List (List UInt8)) (A : Option Addr) (c m : Nat) (hr : RdL w A L) (hc : L.length ≤ c) (hs : Small L) (hk : KP w) (h1 : 1 ≤ m) (hm : m ≤ L.length) :
    Calls Tryd.prog 15 #[.slice A L.length c, .int .i64 (m : Nat)] w fun e w' => ∃ x, e = .returned (.tuple #[x, .int .i64 0]) ∧ LNew (Mk.sub Sh.sum L m true) w x w' ∧ Below w.heap.size w w' := by
  have HR : Hid (RdL w A L) := hr
  have HS := Lib.hid hs
  have HK := Lib.hid hk
  have hl := HS.out.len
  clear hr hs hk
  go_enter Tryd.func15, Tryd.ntmps15
  go_wp2_with fail
  refine (pSub _ w L A c m true rfl HR.out hc HS.out HK.out h1 hm).mono ?_
  rintro e w1 ⟨x, rfl, hx, hb⟩
  have HX := Lib.hid hx
  have HB := Lib.hid hb
  clear hx hb
  go_wp2_with fail
  go_ret2
  exact ⟨_, rfl, HX.out, HB.out⟩
set_option maxHeartbeats 1000000 in
theorem pGrown_no (w : World) (L : List (List UInt8)) (A : Option Addr) (c : Nat) (m : Int) (_hl : L.length ≤ 1000000) (h : m < 1 ∨ (L.length : Int) < m) :
    Calls Tryd.prog 15 #[.slice A L.length c, .int .i64 m] w fun e w' => e = .returned (.tuple #[.slice none 0 0, .int .i64 1]) ∧ w = w' := by
  by_cases h1 : m < 1
  · clear h
    go_enter Tryd.func15, Tryd.ntmps15
    go_wp2_with fail
    go_ret2
    exact ⟨rfl, rfl⟩
  · have h2 : (L.length : Int) < m := by omega
    clear h
    go_enter Tryd.func15, Tryd.ntmps15
    go_wp2_with fail
    go_ret2
    exact ⟨rfl, rfl⟩
set_option maxHeartbeats 1000000 in
theorem pPath_no (w : World) (L : List (List UInt8)) (A : Option Addr) (c : Nat) (i : Int) (_hl : L.length ≤ 1000000) (h : i < 0 ∨ (L.length : Int) ≤ i) :
    Calls Tryd.prog 11 #[.slice A L.length c, .int .i64 i] w fun e w' => e = .returned (.tuple #[.slice none 0 0, .int .i64 1]) ∧ w = w' := by
  by_cases h1 : i < 0
  · clear h
    go_enter Tryd.func11, Tryd.ntmps11
    go_wp2_with fail
    go_ret2
    exact ⟨rfl, rfl⟩
  · have h2 : (L.length : Int) ≤ i := by omega
    clear h
    go_enter Tryd.func11, Tryd.ntmps11
    go_wp2_with fail
    go_ret2
    exact ⟨rfl, rfl⟩
end Go.Proofs.YtjeclmbableacaaDoor

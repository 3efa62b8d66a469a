/-
  OWN WORK. Check, CheckGrown and Grown: the document's, by their contracts.
-/
import Derived.Test.YtjeclmbableacaaDoorMkClimbR
import Derived.Test.YtjeclmbableacaaDoorMkBothR
import Derived.Test.YtjeclmbableacaaDoorMkSubR
import Derived.Test.YtjeclmbableacaaDoorMkLen
namespace Go.Proofs.YtjeclmbableacaaDoor
open Go.RowKit Rc

set_option maxHeartbeats 4000000 in
set_option maxRecDepth 100000 in
theorem rCheck (w : World) (root x : List UInt8) (R A : Option Addr) (rc c : Nat) (i n : Int) (P : List (List UInt8)) (B : Option Addr) (d : Nat) (hi : -1000000 ≤ i ∧ i ≤ 1000000) (hn : -1000000 ≤ n ∧ n ≤ 1000000) (hr : Rd w R root) (hx : Rd w A x) (hxc : x.length ≤ c) (hxl : x.length ≤ 1000000) (hp : RdL w B P) (hpd : P.length ≤ d) (hs : Small P) (hpl : P.length ≤ 60) (hk : KR w) :
    Calls Tryd.prog 22 #[.slice R root.length rc, .slice A x.length c, .int .i64 i, .int .i64 n, .slice B P.length d] w fun e w' => e = .returned (.bool (chk root x i n P)) ∧ Below w.heap.size w w' := by
  have HR : Hid (Rd w R root) := hr
  have HX : Hid (Rd w A x) := hx
  have HP : Hid (RdL w B P) := hp
  have HS := Lib.hid hs
  have HK : Hid (KR w) := hk
  obtain ⟨hi1, hi2⟩ := hi
  obtain ⟨hn1, hn2⟩ := hn
  clear hr hx hp hs hk
  by_cases h0 : i < 0
  · have HC : Hid (chk root x i n P = false) := chk_no (by omega)
    by_cases hn0 : n < 1
    · go_enter Tryd.func22, Tryd.ntmps22
      go_wp2_with fail
      go_ret
      exact ⟨by rw [HC.out]; rfl, Below.refl _ _⟩
    · go_enter Tryd.func22, Tryd.ntmps22
      go_wp2_with fail
      go_ret
      exact ⟨by rw [HC.out]; rfl, Below.refl _ _⟩
  · by_cases h1 : n ≤ i
    · have HC : Hid (chk root x i n P = false) := chk_no (by omega)
      by_cases hn0 : n < 1
      · go_enter Tryd.func22, Tryd.ntmps22
        go_wp2_with fail
        go_ret
        exact ⟨by rw [HC.out]; rfl, Below.refl _ _⟩
      · go_enter Tryd.func22, Tryd.ntmps22
        go_wp2_with fail
        go_ret
        exact ⟨by rw [HC.out]; rfl, Below.refl _ _⟩
    · obtain ⟨a, rfl⟩ : ∃ a : Nat, i = (a : Int) := ⟨i.toNat, by omega⟩
      obtain ⟨b, rfl⟩ : ∃ b : Nat, n = (b : Int) := ⟨n.toNat, by omega⟩
      have hn0 : ¬ (b : Int) < 1 := by omega
      go_enter Tryd.func22, Tryd.ntmps22
      go_wp2_with fail
      refine (rClimb _ w x A c a b P B d rfl (by omega) (by omega) HX.out hxc hxl HP.out hpd HS.out HK.out).mono ?_
      rintro e w1 ⟨X, AX, cX, ok, rfl, hXc, _, hXr, hXo, hb⟩
      have HXR := Lib.hid hXr
      have HXO := Lib.hid hXo
      have HB := Lib.hid hb
      clear hXr hXo hb
      cases ok with
      | false =>
        have HC : Hid (chk root x a b P = false) := chk_none HXO.out
        go_wp2_with fail
        go_ret
        exact ⟨by rw [HC.out]; rfl, HB.out⟩
      | true =>
        have HC : Hid (chk root x a b P = decide (X = root)) := chk_some (by omega) HXO.out
        have HRR : Hid (Rd w1 R root) := HR.out.below HB.out
        have e1 := Ob.str_run w1 AX X cX HXR.out
        have e2 := Ob.str_run w1 R root rc HRR.out
        have e3 := strOf_toList X root
        go_wp2_with fail
        go_ret
        exact ⟨by rw [HC.out]; rfl, HB.out⟩

set_option maxHeartbeats 4000000 in
set_option maxRecDepth 100000 in
theorem rCheckGrown (w : World) (old root : List UInt8) (A R : Option Addr) (c rc : Nat) (m n : Int) (P : List (List UInt8)) (B : Option Addr) (d : Nat) (hm : -1000000 ≤ m ∧ m ≤ 1000000) (hn : -1000000 ≤ n ∧ n ≤ 1000000) (hr : Rd w R root) (hx : Rd w A old) (hxc : old.length ≤ c) (hxl : old.length = 32 ∨ m < 1 ∨ n < m) (hp : RdL w B P) (hpd : P.length ≤ d) (hs : ∀ y, y ∈ P → y.length = 32) (hpl : P.length ≤ 60) (hk : KR w) :
    Calls Tryd.prog 23 #[.slice A old.length c, .slice R root.length rc, .int .i64 m, .int .i64 n, .slice B P.length d] w fun e w' => e = .returned (.bool (chkg old root m n P)) ∧ Below w.heap.size w w' := by
  have HR : Hid (Rd w R root) := hr
  have HX : Hid (Rd w A old) := hx
  have HP : Hid (RdL w B P) := hp
  have HS := Lib.hid hs
  have HM : Hid (Small P) := ⟨by omega, fun y hy => by rw [hs y hy]; omega⟩
  have HK : Hid (KR w) := hk
  obtain ⟨hi1, hi2⟩ := hm
  obtain ⟨hn1, hn2⟩ := hn
  clear hr hx hp hs hk
  by_cases h0 : m < 1
  · have HC : Hid (chkg old root m n P = false) := chkg_no (by omega)
    clear hxl
    go_enter Tryd.func23, Tryd.ntmps23
    go_wp2_with fail
    go_ret
    exact ⟨by rw [HC.out]; rfl, Below.refl _ _⟩
  · by_cases h1 : n < m
    · have HC : Hid (chkg old root m n P = false) := chkg_no (by omega)
      clear hxl
      go_enter Tryd.func23, Tryd.ntmps23
      go_wp2_with fail
      go_ret
      exact ⟨by rw [HC.out]; rfl, Below.refl _ _⟩
    · have hol : old.length = 32 := by omega
      have HOL := Lib.hid hol
      obtain ⟨a, rfl⟩ : ∃ a : Nat, m = (a : Int) := ⟨m.toNat, by omega⟩
      obtain ⟨b, rfl⟩ : ∃ b : Nat, n = (b : Int) := ⟨n.toNat, by omega⟩
      have hol2 : old.length ≤ 1000000 := by omega
      clear hxl hol
      go_enter Tryd.func23, Tryd.ntmps23
      go_wp2_with fail
      refine (rBoth _ w old A c a b P B d true rfl (by omega) (by omega) (by omega) HX.out hxc hol2 HP.out hpd HM.out HK.out).mono ?_
      rintro e w1 ⟨X, AX, cX, Y, AY, cY, ok, rfl, hXc, _, hXr, hYc, _, hYr, hXo, hb⟩
      have HXR := Lib.hid hXr
      have HYR := Lib.hid hYr
      have HXO := Lib.hid hXo
      have HB := Lib.hid hb
      clear hXr hYr hXo hb
      cases ok with
      | false =>
        have HC : Hid (chkg old root a b P = false) := chkg_none HXO.out
        go_wp2_with fail
        go_ret
        exact ⟨by rw [HC.out]; rfl, HB.out⟩
      | true =>
        have HC : Hid (chkg old root a b P = (decide (X = old) && decide (Y = root))) := chkg_some (by omega) HXO.out
        have HRR : Hid (Rd w1 R root) := HR.out.below HB.out
        have HXX : Hid (Rd w1 A old) := HX.out.below HB.out
        by_cases hXe : X = old
        · have HC2 : Hid (chkg old root a b P = decide (Y = root)) := by show _ = _; rw [HC.out, decide_eq_true hXe]; rfl
          have HXE : Hid (decide (X = old) = true) := decide_eq_true hXe
          clear hXe
          have e1 := Ob.str_run w1 AX X cX HXR.out
          have e2 := Ob.str_run w1 A old c HXX.out
          have e3 := (strOf_toList X old).trans HXE.out
          have e4 := Ob.str_run w1 AY Y cY HYR.out
          have e5 := Ob.str_run w1 R root rc HRR.out
          have e6 := strOf_toList Y root
          go_wp2_with fail
          go_ret
          exact ⟨by rw [HC2.out]; rfl, HB.out⟩
        · have HC2 : Hid (chkg old root a b P = false) := by show _ = _; rw [HC.out, decide_eq_false hXe]; rfl
          have HXE : Hid (decide (X = old) = false) := decide_eq_false hXe
          clear hXe
          have e1 := Ob.str_run w1 AX X cX HXR.out
          have e2 := Ob.str_run w1 A old c HXX.out
          have e3 := (strOf_toList X old).trans HXE.out
          go_wp2_with fail
          go_ret
          exact ⟨by rw [HC2.out]; rfl, HB.out⟩

set_option maxHeartbeats 1000000 in
theorem rGrown (w : World) (L : List (List UInt8)) (A : Option Addr) (c m : Nat) (hr : RdL w A L) (hc : L.length ≤ c) (hs : Small L) (h1 : 1 ≤ m) (hm : m ≤ L.length) :
    Calls Tryd.prog 16 #[.slice A L.length c, .int .i64 (m : Nat)] w (LOut (Mk.sub Sh.sum L m true) w) := by
  have HR : Hid (RdL w A L) := hr
  have HS := Lib.hid hs
  clear hr hs
  go_enter Tryd.func16, Tryd.ntmps16
  go_wp2_with fail
  refine (rSub _ w L A c m true rfl HR.out hc HS.out trivial h1 hm).mono ?_
  rintro e w1 ⟨x, rfl, hx, hb⟩
  have HX := Lib.hid hx
  have HB := Lib.hid hb
  clear hx hb
  go_wp2_with fail
  go_ret
  exact ⟨_, rfl, HX.out, HB.out⟩
end Go.Proofs.YtjeclmbableacaaDoor

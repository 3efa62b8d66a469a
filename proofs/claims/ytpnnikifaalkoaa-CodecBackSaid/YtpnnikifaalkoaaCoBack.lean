/-
  OWN WORK. The law CodecBack, walked, given what the program's own writer and reader do.
-/
import Derived.Test.YtpnnikifaalkoaaCoBackP
import Derived.Test.YtpnnikifaalkoaaBaCut
import Derived.Deep.CutBlock
namespace Go.Proofs.Ytpnnikifaalkoaa
open Go.RowKit Rc

set_option maxHeartbeats 8000000 in
set_option maxRecDepth 100000 in
theorem back_any (C : WSaid) (R : RSaid codecFns) (hM : RMake R) (w : World) (ps : List PartD) (A1 : Option Addr) (c1 : Nat) (hp : PartsIn w A1 ps) (hpl : ps.length ≤ 9223372036854775807) :
    Calls Try.prog 5 #[.slice A1 ps.length c1] w fun e w' => e = .returned (.bool true) ∧ Below w.heap.size w w' := by
  have HP := Lib.hid hp
  have HPL := Lib.hid hpl
  clear hp hpl
  go_enter Try.func5, Try.ntmps5
  go_wp2_with fail
  refine (WAt.new C w).mono ?_
  rintro e w1 ⟨a, rfl, HW⟩
  go_upto_block 0 with (fail)
  go_cut [4] (fun t4 wx => ∃ m : Nat, m ≤ ps.length ∧ m ≤ 20 ∧ (m < ps.length → 20 ≤ m) ∧ t4 = .int .i64 (m : Nat) ∧ Hid (WAt C (.pointer (some a)) w (backs (ps.take m)) wx))
  case first =>
    go_wp2_with fail
    go_loopw [4] (fun t4 wr => ∃ j : Nat, j ≤ ps.length ∧ j ≤ 20 ∧ t4 = .int .i64 (j : Nat) ∧ Hid (WAt C (.pointer (some a)) w (backs (ps.take j)) wr)) (fun t4 _ => 20 - (intOf t4).toNat)
    case atStart => exact ⟨0, by omega, by omega, rfl, HW⟩
    case round =>
      obtain ⟨j, hj, hj20, rfl, HJ⟩ := hrel
      by_cases hlt : j < ps.length
      · by_cases hlt2 : j < 20
        · obtain ⟨b, off, rfl, hok⟩ := HP.out.plain (by omega)
          obtain ⟨p, hpj⟩ : ∃ p, ps[j]? = some p := ⟨_, List.getElem?_eq_getElem hlt⟩
          have hk := hok j p hpj
          obtain ⟨g1, g2, g3, f, hnm⟩ := nums p.n hk.small
          have HK := Lib.hid hk
          have HPJ := Lib.hid hpj
          have HNM := Lib.hid hnm
          have hlj : Hid ((backs (ps.take j)).length ≤ 1480) := by
            show _ ≤ _
            have := backs_len (ps.take j)
            rw [List.length_take] at this
            omega
          have ha := hnm.a1
          have hb1 := hnm.b1
          have cc := (hk.cells HJ.out.low).2.1
          clear hk hok hpj hnm
          go_wp2_with fail
          refine (HJ.out.byte (by have := hlj.out; omega) g1 (by omega)).mono ?_
          rintro e w2 ⟨⟨x, rfl⟩, HJ2⟩
          clear cc ha HJ
          have ha := HNM.out.a2
          have hb2 := HNM.out.b2
          have cc := (HK.out.cells HJ2.out.low).2.1
          go_wp2_with fail
          refine (HJ2.out.short (by simp only [List.length_append, Co.wByte, List.length_cons, List.length_nil]; have := hlj.out; omega) g2 (by omega)).mono ?_
          rintro e w3 ⟨⟨x2, rfl⟩, HJ3⟩
          clear cc ha HJ2
          have cc := (HK.out.cells HJ3.out.low).2.1
          go_wp2_with fail
          refine (HJ3.out.long (by simp only [List.length_append, Co.wByte, Co.wShort, List.length_cons, List.length_nil]; have := hlj.out; omega) p.n HK.out.small).mono ?_
          rintro e w4 ⟨⟨x3, rfl⟩, HJ4⟩
          clear cc HJ3
          have ha := HNM.out.a3
          have hf := HNM.out.eq
          have cc := (HK.out.cells HJ4.out.low).2.1
          go_wp2_with fail
          refine (HJ4.out.flag (by simp only [List.length_append, Co.wByte, Co.wShort, Co.wLong_length, List.length_cons, List.length_nil]; have := hlj.out; omega) f).mono ?_
          rintro e w5 ⟨⟨x4, rfl⟩, HJ5⟩
          clear cc ha hf HJ4
          have cc := (HK.out.cells HJ5.out.low).2.2
          go_wp2_with fail
          refine (cut_any p.A p.x p.c 60 HK.out.fits (by omega) HK.out.long _).mono ?_
          rintro e w6 ⟨rfl, rfl⟩
          obtain ⟨y, hy⟩ : ∃ y, y = p.x.take 60 := ⟨_, rfl⟩
          rw [← hy]
          have HY := Lib.hid hy
          have hyl : y.length ≤ 60 := by rw [hy, List.length_take]; omega
          have hyc : y.length ≤ p.c := by have := HK.out.fits; rw [hy, List.length_take]; omega
          have HYR : Hid (Rd w p.A y) := by show Rd _ _ _; rw [hy]; exact HK.out.rd.take _
          clear hy
          go_wp2_with fail
          refine (HJ5.out.bytes (by simp only [List.length_append, Co.wByte, Co.wShort, Co.wLong_length, Co.wFlag, List.length_cons, List.length_nil]; have := hlj.out; omega) p.A y p.c HYR.out hyc (by omega)).mono ?_
          rintro e w7 ⟨⟨x5, rfl⟩, HJ6⟩
          rw [HNM.out.e1, HNM.out.e2, HNM.out.ef, HY.out, ← backs_snoc ps j p HPJ.out] at HJ6
          clear HJ5 cc
          go_wp2_with fail
          go_roundw
          case rel => exact ⟨j + 1, by omega, by omega, by go_num, HJ6⟩
          case measure => simp [intOf]; omega
        · go_wp2_with fail
          go_meet
          case rel => exact ⟨j, hj, hj20, by omega, rfl, HJ⟩
      · go_wp2_with fail
        go_meet
        case rel => exact ⟨j, hj, hj20, by omega, rfl, HJ⟩
  case rest =>
    clear HW
    obtain ⟨m, hm, hm20, hmx, rfl, HW⟩ := hcut
    go_wp2_with fail
    refine HW.out.done.mono ?_
    rintro e w2 ⟨X, c, rfl, hc, HO, _, _, HJ⟩
    obtain ⟨L, hL⟩ : ∃ L, L = backs (ps.take m) := ⟨_, rfl⟩
    have hll : L.length ≤ 1480 := by
      have := backs_len (ps.take m)
      rw [List.length_take, ← hL] at this
      omega
    rw [← hL] at HO HJ hc ⊢
    have HR : Hid (Rd w2 X L) := by
      obtain ⟨X', c', e, _, hr⟩ := own_form HO.out
      injection e with e1
      subst e1; exact hr
    have HB2 := Lib.hid HJ.out.low
    have HST0 : Hid (BSt (ps.take m) 0 = ⟨L, 0⟩) := by show _ = _; rw [hL]; rfl
    clear HW HO hL
    go_wp2_with fail
    refine (hM.one w2 X L c HR.out hc (by omega)).mono ?_
    rintro e w3 ⟨ar, rfl, HT⟩
    go_wp2_with fail
    refine (HT.out.left (n := L.length) rfl).mono ?_
    rintro e w4 ⟨rfl, HT2⟩
    have HJ4 := Lib.hid (HJ.out.more HT2.out.low)
    clear HT HJ
    go_wp2_with fail
    refine HJ4.out.done.mono ?_
    rintro e w5 ⟨X2, c2, rfl, hc2, _, _, HB5, _⟩
    have HT3 : Hid (OneAt R (.pointer (some ar)) X L w2 (fun _ => False) (BSt (ps.take m) 0) w5) := by
      show OneAt _ _ _ _ _ _ _ _
      rw [HST0.out]; exact HT2.out.later HB5.out
    clear HT2 HJ4 HR HB5 HST0
    go_upto_block 2 with (fail)
    go_cut [6] (fun t6 wx => ∃ i : Nat, t6 = .int .i64 (i : Nat) ∧ Hid (OneAt R (.pointer (some ar)) X L w2 (fun _ => False) ⟨[], 0⟩ wx))
    case first =>
      go_wp2_with fail
      go_loopw [6] (fun t6 wr => ∃ i : Nat, i ≤ m ∧ t6 = .int .i64 (i : Nat) ∧ Hid (OneAt R (.pointer (some ar)) X L w2 (fun _ => False) (BSt (ps.take m) i) wr)) (fun t6 _ => m - (intOf t6).toNat)
      case atStart => exact ⟨0, by omega, rfl, HT3⟩
      case round =>
        obtain ⟨i, hi, rfl, HT1⟩ := hrel
        by_cases hlt : i < m
        · obtain ⟨b, off, rfl, hok⟩ := HP.out.plain (by omega)
          obtain ⟨p, hpj⟩ : ∃ p, ps[i]? = some p := ⟨_, List.getElem?_eq_getElem (by omega)⟩
          have hk := hok i p hpj
          obtain ⟨g1, g2, g3, f, hnm⟩ := nums p.n hk.small
          obtain ⟨s1, s2, s3, s4, q1, q2, q3, q4, q5⟩ := bst (ps.take m) i p (by rw [List.getElem?_take_of_lt hlt, hpj]) hk.small
          rw [← hnm.e1] at q1
          rw [← hnm.e2] at q2
          rw [← hnm.ef] at q4
          obtain ⟨y, hy⟩ : ∃ y, y = p.x.take 60 := ⟨_, rfl⟩
          rw [← hy] at q5
          have HQ1 := Lib.hid q1
          have HQ2 := Lib.hid q2
          have HQ3 := Lib.hid q3
          have HQ4 := Lib.hid q4
          have HQ5 := Lib.hid q5
          have HYR : Hid (Rd w p.A y) := by show Rd _ _ _; rw [hy]; exact hk.rd.take _
          have HYE := Lib.hid hy
          have HK := Lib.hid hk
          have HNM := Lib.hid hnm
          have hlt1 : i < ps.length := by omega
          have hlt2 : i < 20 := by omega
          obtain ⟨B, hone⟩ := HT1.out
          have HT := Lib.hid hone
          clear hone hpj hk hok HT1 HT3 hnm q1 q2 q3 q4 q5 hy
          go_upto_region 18 with (fail)
          have one := HT.out
          have or0 := one.rd
          have oa0 := one.ap
          refine Rc.wp_region (by kernel_rfl) (fun opn => List.getD [Rc.val (.pointer (some ar)), R.nrow (.pointer (some ar)) X L (Ups B wr) (.int .i64 ((g1 : Nat) : Int)) s1, Rc.val (.slice (some ⟨b, off, none⟩) ps.length c1), Rc.val (.int .i64 ((i : Nat) : Int)), Rc.val (.pointer (some ⟨b, off + i * 3, none⟩)), Rc.val (.pointer (some ⟨b, off + i * 3 + 1, none⟩)), Rc.val (.int .u64 ((p.n : Nat) : Int)), Rc.val (.int .u64 ((g1 : Nat) : Int)), Rc.val (.int .i64 ((g1 : Nat) : Int)), Rc.val (.bool false), Rc.val (.bool false), Rc.val (.pointer (some ar)), R.nrow (.pointer (some ar)) X L (Ups B wr) (.int .i64 ((g2 : Nat) : Int)) s2, Rc.val (.slice (some ⟨b, off, none⟩) ps.length c1), Rc.val (.int .i64 ((i : Nat) : Int)), Rc.val (.pointer (some ⟨b, off + i * 3, none⟩)), Rc.val (.pointer (some ⟨b, off + i * 3 + 1, none⟩)), Rc.val (.int .u64 ((p.n : Nat) : Int)), Rc.val (.int .u64 ((g2 : Nat) : Int)), Rc.val (.int .i64 ((g2 : Nat) : Int)), Rc.val (.bool false), Rc.val (.bool false), Rc.val (.bool false), Rc.val (.pointer (some ar)), R.nrow (.pointer (some ar)) X L (Ups B wr) (.int .u64 ((p.n : Nat) : Int)) s3, Rc.val (.slice (some ⟨b, off, none⟩) ps.length c1), Rc.val (.int .i64 ((i : Nat) : Int)), Rc.val (.pointer (some ⟨b, off + i * 3, none⟩)), Rc.val (.pointer (some ⟨b, off + i * 3 + 1, none⟩)), Rc.val (.int .u64 ((p.n : Nat) : Int)), Rc.val (.bool false), Rc.val (.bool false), Rc.val (.bool false), Rc.val (.pointer (some ar)), R.nrow (.pointer (some ar)) X L (Ups B wr) (.bool f) s4, Rc.val (.slice (some ⟨b, off, none⟩) ps.length c1), Rc.val (.int .i64 ((i : Nat) : Int)), Rc.val (.pointer (some ⟨b, off + i * 3, none⟩)), Rc.val (.pointer (some ⟨b, off + i * 3 + 1, none⟩)), Rc.val (.int .u64 ((p.n : Nat) : Int)), Rc.val (.int .u64 ((g3 : Nat) : Int)), Rc.val (.bool f), Rc.val (.bool false), Rc.val (.bool false), Rc.val (.bool false), Rc.val (.pointer (some ar)), R.prow (.pointer (some ar)) X L (Ups B wr) (y) (BSt (ps.take m) (i + 1)), Rc.val (.string (strOf (y))), Rc.val (.slice (some ⟨b, off, none⟩) ps.length c1), Rc.val (.int .i64 ((i : Nat) : Int)), Rc.val (.pointer (some ⟨b, off + i * 3, none⟩)), Rc.val (.pointer (some ⟨b, off + i * 3 + 2, none⟩)), Rc.val (.slice p.A p.x.length p.c), Rc.val (.slice p.A y.length p.c), Rc.val (.string (strOf (y))), Rc.val (.bool false), Rc.val (.bool false), R.nrow (.pointer (some ar)) X L (Ups B wr) undef (BSt (ps.take m) i)] opn Rc.any) 1 [] [[], [(0, 85)], [], [], [(2, 87), (3, 88)], [(4, 89)], [(5, 90)], [(6, 91)], [(7, 92)], [(1, 86), (8, 93)], [(9, 94)], [(10, 95)], [(10, 95), (11, 96)], [(10, 95)], [(10, 95)], [(10, 95), (13, 98), (14, 99)], [(10, 95), (15, 100)], [(10, 95), (16, 101)], [(10, 95), (17, 102)], [(10, 95), (18, 103)], [(10, 95), (12, 97), (19, 104)], [(10, 95), (20, 105)], [(21, 106)], [(22, 107)], [(22, 107), (23, 108)], [(22, 107)], [(22, 107)], [(22, 107), (25, 110), (26, 111)], [(22, 107), (27, 112)], [(22, 107), (28, 113)], [(22, 107), (24, 109), (29, 114)], [(22, 107), (30, 115)], [(31, 116)], [(32, 117)], [(32, 117), (33, 118)], [(32, 117)], [(32, 117)], [(32, 117), (35, 120), (36, 121)], [(32, 117), (37, 122)], [(32, 117), (38, 123)], [(32, 117), (39, 124)], [(32, 117), (40, 125)], [(32, 117), (34, 119), (41, 126)], [(32, 117), (42, 127)], [(43, 128)], [(44, 129)], [(44, 129), (45, 130)], [(44, 129), (46, 131)], [(44, 129)], [(44, 129)], [(44, 129), (48, 133), (49, 134)], [(44, 129), (50, 135)], [(44, 129), (51, 136)], [(44, 129), (52, 137)], [(44, 129), (53, 138)], [(44, 129), (47, 132), (54, 139)], [(44, 129), (55, 140)]] [[], [0], [], [], [2, 3], [2, 3, 4], [2, 3, 4, 5], [2, 3, 4, 5, 6], [2, 3, 4, 5, 6, 7], [0, 1, 2, 3, 4, 5, 6, 7, 8], [0, 1, 2, 3, 4, 5, 6, 7, 8, 9], [0, 1, 2, 3, 4, 5, 6, 7, 8, 9, 10], [0, 1, 2, 3, 4, 5, 6, 7, 8, 9, 10, 11], [0, 1, 2, 3, 4, 5, 6, 7, 8, 9, 10], [0, 1, 2, 3, 4, 5, 6, 7, 8, 9, 10], [0, 1, 2, 3, 4, 5, 6, 7, 8, 9, 10, 13, 14], [0, 1, 2, 3, 4, 5, 6, 7, 8, 9, 10, 13, 14, 15], [0, 1, 2, 3, 4, 5, 6, 7, 8, 9, 10, 13, 14, 15, 16], [0, 1, 2, 3, 4, 5, 6, 7, 8, 9, 10, 13, 14, 15, 16, 17], [0, 1, 2, 3, 4, 5, 6, 7, 8, 9, 10, 13, 14, 15, 16, 17, 18], [0, 1, 2, 3, 4, 5, 6, 7, 8, 9, 10, 11, 12, 13, 14, 15, 16, 17, 18, 19], [0, 1, 2, 3, 4, 5, 6, 7, 8, 9, 10, 11, 12, 13, 14, 15, 16, 17, 18, 19, 20], [0, 1, 2, 3, 4, 5, 6, 7, 8, 9, 10, 11, 12, 13, 14, 15, 16, 17, 18, 19, 20, 21], [0, 1, 2, 3, 4, 5, 6, 7, 8, 9, 10, 11, 12, 13, 14, 15, 16, 17, 18, 19, 20, 21, 22], [0, 1, 2, 3, 4, 5, 6, 7, 8, 9, 10, 11, 12, 13, 14, 15, 16, 17, 18, 19, 20, 21, 22, 23], [0, 1, 2, 3, 4, 5, 6, 7, 8, 9, 10, 11, 12, 13, 14, 15, 16, 17, 18, 19, 20, 21, 22], [0, 1, 2, 3, 4, 5, 6, 7, 8, 9, 10, 11, 12, 13, 14, 15, 16, 17, 18, 19, 20, 21, 22], [0, 1, 2, 3, 4, 5, 6, 7, 8, 9, 10, 11, 12, 13, 14, 15, 16, 17, 18, 19, 20, 21, 22, 25, 26], [0, 1, 2, 3, 4, 5, 6, 7, 8, 9, 10, 11, 12, 13, 14, 15, 16, 17, 18, 19, 20, 21, 22, 25, 26, 27], [0, 1, 2, 3, 4, 5, 6, 7, 8, 9, 10, 11, 12, 13, 14, 15, 16, 17, 18, 19, 20, 21, 22, 25, 26, 27, 28], [0, 1, 2, 3, 4, 5, 6, 7, 8, 9, 10, 11, 12, 13, 14, 15, 16, 17, 18, 19, 20, 21, 22, 23, 24, 25, 26, 27, 28, 29], [0, 1, 2, 3, 4, 5, 6, 7, 8, 9, 10, 11, 12, 13, 14, 15, 16, 17, 18, 19, 20, 21, 22, 23, 24, 25, 26, 27, 28, 29, 30], [0, 1, 2, 3, 4, 5, 6, 7, 8, 9, 10, 11, 12, 13, 14, 15, 16, 17, 18, 19, 20, 21, 22, 23, 24, 25, 26, 27, 28, 29, 30, 31], [0, 1, 2, 3, 4, 5, 6, 7, 8, 9, 10, 11, 12, 13, 14, 15, 16, 17, 18, 19, 20, 21, 22, 23, 24, 25, 26, 27, 28, 29, 30, 31, 32], [0, 1, 2, 3, 4, 5, 6, 7, 8, 9, 10, 11, 12, 13, 14, 15, 16, 17, 18, 19, 20, 21, 22, 23, 24, 25, 26, 27, 28, 29, 30, 31, 32, 33], [0, 1, 2, 3, 4, 5, 6, 7, 8, 9, 10, 11, 12, 13, 14, 15, 16, 17, 18, 19, 20, 21, 22, 23, 24, 25, 26, 27, 28, 29, 30, 31, 32], [0, 1, 2, 3, 4, 5, 6, 7, 8, 9, 10, 11, 12, 13, 14, 15, 16, 17, 18, 19, 20, 21, 22, 23, 24, 25, 26, 27, 28, 29, 30, 31, 32], [0, 1, 2, 3, 4, 5, 6, 7, 8, 9, 10, 11, 12, 13, 14, 15, 16, 17, 18, 19, 20, 21, 22, 23, 24, 25, 26, 27, 28, 29, 30, 31, 32, 35, 36], [0, 1, 2, 3, 4, 5, 6, 7, 8, 9, 10, 11, 12, 13, 14, 15, 16, 17, 18, 19, 20, 21, 22, 23, 24, 25, 26, 27, 28, 29, 30, 31, 32, 35, 36, 37], [0, 1, 2, 3, 4, 5, 6, 7, 8, 9, 10, 11, 12, 13, 14, 15, 16, 17, 18, 19, 20, 21, 22, 23, 24, 25, 26, 27, 28, 29, 30, 31, 32, 35, 36, 37, 38], [0, 1, 2, 3, 4, 5, 6, 7, 8, 9, 10, 11, 12, 13, 14, 15, 16, 17, 18, 19, 20, 21, 22, 23, 24, 25, 26, 27, 28, 29, 30, 31, 32, 35, 36, 37, 38, 39], [0, 1, 2, 3, 4, 5, 6, 7, 8, 9, 10, 11, 12, 13, 14, 15, 16, 17, 18, 19, 20, 21, 22, 23, 24, 25, 26, 27, 28, 29, 30, 31, 32, 35, 36, 37, 38, 39, 40], [0, 1, 2, 3, 4, 5, 6, 7, 8, 9, 10, 11, 12, 13, 14, 15, 16, 17, 18, 19, 20, 21, 22, 23, 24, 25, 26, 27, 28, 29, 30, 31, 32, 33, 34, 35, 36, 37, 38, 39, 40, 41], [0, 1, 2, 3, 4, 5, 6, 7, 8, 9, 10, 11, 12, 13, 14, 15, 16, 17, 18, 19, 20, 21, 22, 23, 24, 25, 26, 27, 28, 29, 30, 31, 32, 33, 34, 35, 36, 37, 38, 39, 40, 41, 42], [0, 1, 2, 3, 4, 5, 6, 7, 8, 9, 10, 11, 12, 13, 14, 15, 16, 17, 18, 19, 20, 21, 22, 23, 24, 25, 26, 27, 28, 29, 30, 31, 32, 33, 34, 35, 36, 37, 38, 39, 40, 41, 42, 43], [0, 1, 2, 3, 4, 5, 6, 7, 8, 9, 10, 11, 12, 13, 14, 15, 16, 17, 18, 19, 20, 21, 22, 23, 24, 25, 26, 27, 28, 29, 30, 31, 32, 33, 34, 35, 36, 37, 38, 39, 40, 41, 42, 43, 44], [0, 1, 2, 3, 4, 5, 6, 7, 8, 9, 10, 11, 12, 13, 14, 15, 16, 17, 18, 19, 20, 21, 22, 23, 24, 25, 26, 27, 28, 29, 30, 31, 32, 33, 34, 35, 36, 37, 38, 39, 40, 41, 42, 43, 44, 45], [0, 1, 2, 3, 4, 5, 6, 7, 8, 9, 10, 11, 12, 13, 14, 15, 16, 17, 18, 19, 20, 21, 22, 23, 24, 25, 26, 27, 28, 29, 30, 31, 32, 33, 34, 35, 36, 37, 38, 39, 40, 41, 42, 43, 44, 45, 46], [0, 1, 2, 3, 4, 5, 6, 7, 8, 9, 10, 11, 12, 13, 14, 15, 16, 17, 18, 19, 20, 21, 22, 23, 24, 25, 26, 27, 28, 29, 30, 31, 32, 33, 34, 35, 36, 37, 38, 39, 40, 41, 42, 43, 44], [0, 1, 2, 3, 4, 5, 6, 7, 8, 9, 10, 11, 12, 13, 14, 15, 16, 17, 18, 19, 20, 21, 22, 23, 24, 25, 26, 27, 28, 29, 30, 31, 32, 33, 34, 35, 36, 37, 38, 39, 40, 41, 42, 43, 44], [0, 1, 2, 3, 4, 5, 6, 7, 8, 9, 10, 11, 12, 13, 14, 15, 16, 17, 18, 19, 20, 21, 22, 23, 24, 25, 26, 27, 28, 29, 30, 31, 32, 33, 34, 35, 36, 37, 38, 39, 40, 41, 42, 43, 44, 48, 49], [0, 1, 2, 3, 4, 5, 6, 7, 8, 9, 10, 11, 12, 13, 14, 15, 16, 17, 18, 19, 20, 21, 22, 23, 24, 25, 26, 27, 28, 29, 30, 31, 32, 33, 34, 35, 36, 37, 38, 39, 40, 41, 42, 43, 44, 48, 49, 50], [0, 1, 2, 3, 4, 5, 6, 7, 8, 9, 10, 11, 12, 13, 14, 15, 16, 17, 18, 19, 20, 21, 22, 23, 24, 25, 26, 27, 28, 29, 30, 31, 32, 33, 34, 35, 36, 37, 38, 39, 40, 41, 42, 43, 44, 48, 49, 50, 51], [0, 1, 2, 3, 4, 5, 6, 7, 8, 9, 10, 11, 12, 13, 14, 15, 16, 17, 18, 19, 20, 21, 22, 23, 24, 25, 26, 27, 28, 29, 30, 31, 32, 33, 34, 35, 36, 37, 38, 39, 40, 41, 42, 43, 44, 45, 46, 48, 49, 50, 51, 52], [0, 1, 2, 3, 4, 5, 6, 7, 8, 9, 10, 11, 12, 13, 14, 15, 16, 17, 18, 19, 20, 21, 22, 23, 24, 25, 26, 27, 28, 29, 30, 31, 32, 33, 34, 35, 36, 37, 38, 39, 40, 41, 42, 43, 44, 45, 46, 48, 49, 50, 51, 52, 53], [0, 1, 2, 3, 4, 5, 6, 7, 8, 9, 10, 11, 12, 13, 14, 15, 16, 17, 18, 19, 20, 21, 22, 23, 24, 25, 26, 27, 28, 29, 30, 31, 32, 33, 34, 35, 36, 37, 38, 39, 40, 41, 42, 43, 44, 45, 46, 47, 48, 49, 50, 51, 52, 53, 54], [0, 1, 2, 3, 4, 5, 6, 7, 8, 9, 10, 11, 12, 13, 14, 15, 16, 17, 18, 19, 20, 21, 22, 23, 24, 25, 26, 27, 28, 29, 30, 31, 32, 33, 34, 35, 36, 37, 38, 39, 40, 41, 42, 43, 44, 45, 46, 47, 48, 49, 50, 51, 52, 53, 54, 55]] [[], [0, 57], [], [], [2, 3], [4], [5], [6], [7], [1, 8], [9], [10], [10, 11, 1], [10], [10], [10, 13, 14], [10, 15], [10, 16], [10, 17], [10, 18], [10, 12, 19], [10, 20], [21], [22], [22, 23, 12], [22], [22], [22, 25, 26], [22, 27], [22, 28], [22, 24, 29], [22, 30], [31], [32], [32, 33, 24], [32], [32], [32, 35, 36], [32, 37], [32, 38], [32, 39], [32, 40], [32, 34, 41], [32, 42], [43], [44], [44, 45, 34], [44, 46], [44], [44], [44, 48, 49], [44, 50], [44, 51], [44, 52], [44, 53], [44, 47, 54], [44, 55]] [(1, 57), (12, 1), (24, 12), (34, 24), (46, 34)] (by kernel_rfl) (by rfl) (by kernel_rfl) B (fun _ b => B b) (one_inv R one.at_ _ _ 57 rfl) ?_ ?_
          · intro fr ha
            have hz : fr.tmps.size = 153 := by rw [ha]; rfl
            have y5 : fr.eval (.tmp 5) = .pointer (some ar) := by rw [ha]; rfl
            have y0 : fr.eval (.tmp 0) = .slice (some ⟨b, off, none⟩) ps.length c1 := by rw [ha]; rfl
            have y6 : fr.eval (.tmp 6) = .int .i64 ((i : Nat) : Int) := by rw [ha]; rfl
            clear ha
            refine .cons ?_ (.cons ?_ (.cons ?_ (.cons ?_ (.cons ?_ (.cons ?_ (.cons ?_ (.cons ?_ (.cons ?_ (.cons ?_ (.cons ?_ (.cons ?_ (.cons ?_ (.cons ?_ (.cons ?_ (.cons ?_ (.cons ?_ (.cons ?_ (.cons ?_ (.cons ?_ (.cons ?_ (.cons ?_ (.cons ?_ (.cons ?_ (.cons ?_ (.cons ?_ (.cons ?_ (.cons ?_ (.cons ?_ (.cons ?_ (.cons ?_ (.cons ?_ (.cons ?_ (.cons ?_ (.cons ?_ (.cons ?_ (.cons ?_ (.cons ?_ (.cons ?_ (.cons ?_ (.cons ?_ (.cons ?_ (.cons ?_ (.cons ?_ (.cons ?_ (.cons ?_ (.cons ?_ (.cons ?_ (.cons ?_ (.cons ?_ (.cons ?_ (.cons ?_ (.cons ?_ (.cons ?_ (.cons ?_ (.cons ?_ (.cons ?_ (.nil)))))))))))))))))))))))))))))))))))))))))))))))))))))))))
            · intro V S w2 HM HU HE
              have HM : Mod wr w2 B := HM
              have tb5 : (Rg.putUse V [] fr).eval (.tmp 5) = .pointer (some ar) := (Rg.use_eval V fr 5 [] (by simp only [hz]; decide)).trans y5
              show Rg.Does1 _ _ V (Rg.putUse V [] fr) w2 _
              exact rc_mv (.pointer (some ar)) (by simp only [execOp, tb5]; go_simp) rfl rfl True.intro
            · intro V S w2 HM HU HE
              have HM : Mod wr w2 B := HM
              have h0 : V 0 = .pointer (some ar) := HU.holds 0 (by decide)
              have tb85 : (Rg.putUse V [(0, 85)] fr).eval (.tmp 85) = .pointer (some ar) := (Rg.use_eval V fr 85 [(0, 85)] (by simp only [hz]; decide)).trans h0
              show Rg.Does1 _ _ V (Rg.putUse V [(0, 85)] fr) w2 _
              have or2 : Rd w2 X L := or0.mod HM oa0
              exact step_rnum (s := (BSt (ps.take m) i)) R #[.pointer (some ar)] (fun args w => Rg.call_enter Try.func24 (by kernel_rfl) (by kernel_rfl) args w) rfl (by simp only [List.map_toArray, List.map_cons, List.map_nil, tb85]) rfl (by decide) ((HU.holds 57 (by decide)).2) (fun x => Rg.alias_none rfl V x) True.intro HM.size or0 oa0 or2 (fun S1 hat hr ha => by have := R.byte hat hr ha; rwa [HQ1.out] at this)
            · intro V S w2 HM HU HE
              have HM : Mod wr w2 B := HM
              have tb0 : (Rg.putUse V [] fr).eval (.tmp 0) = .slice (some ⟨b, off, none⟩) ps.length c1 := (Rg.use_eval V fr 0 [] (by simp only [hz]; decide)).trans y0
              show Rg.Does1 _ _ V (Rg.putUse V [] fr) w2 _
              exact rc_mv (.slice (some ⟨b, off, none⟩) ps.length c1) (by simp only [execOp, tb0]; go_simp) rfl rfl True.intro
            · intro V S w2 HM HU HE
              have HM : Mod wr w2 B := HM
              have tb6 : (Rg.putUse V [] fr).eval (.tmp 6) = .int .i64 ((i : Nat) : Int) := (Rg.use_eval V fr 6 [] (by simp only [hz]; decide)).trans y6
              show Rg.Does1 _ _ V (Rg.putUse V [] fr) w2 _
              exact rc_mv (.int .i64 ((i : Nat) : Int)) (by simp only [execOp, tb6]; go_simp) rfl rfl True.intro
            · intro V S w2 HM HU HE
              have HM : Mod wr w2 B := HM
              have h2 : V 2 = .slice (some ⟨b, off, none⟩) ps.length c1 := HU.holds 2 (by decide)
              have tb87 : (Rg.putUse V [(2, 87), (3, 88)] fr).eval (.tmp 87) = .slice (some ⟨b, off, none⟩) ps.length c1 := (Rg.use_eval V fr 87 [(2, 87), (3, 88)] (by simp only [hz]; decide)).trans h2
              have h3 : V 3 = .int .i64 ((i : Nat) : Int) := HU.holds 3 (by decide)
              have tb88 : (Rg.putUse V [(2, 87), (3, 88)] fr).eval (.tmp 88) = .int .i64 ((i : Nat) : Int) := (Rg.use_eval V fr 88 [(2, 87), (3, 88)] (by simp only [hz]; decide)).trans h3
              show Rg.Does1 _ _ V (Rg.putUse V [(2, 87), (3, 88)] fr) w2 _
              have b1 := hlt1
              exact rc_mv (.pointer (some ⟨b, off + i * 3, none⟩)) (by simp only [execOp, tb87, tb88]; go_simp) rfl rfl True.intro
            · intro V S w2 HM HU HE
              have HM : Mod wr w2 B := HM
              have h4 : V 4 = .pointer (some ⟨b, off + i * 3, none⟩) := HU.holds 4 (by decide)
              have tb89 : (Rg.putUse V [(4, 89)] fr).eval (.tmp 89) = .pointer (some ⟨b, off + i * 3, none⟩) := (Rg.use_eval V fr 89 [(4, 89)] (by simp only [hz]; decide)).trans h4
              show Rg.Does1 _ _ V (Rg.putUse V [(4, 89)] fr) w2 _
              exact rc_mv (.pointer (some ⟨b, off + i * 3 + 1, none⟩)) (by simp only [execOp, tb89]; go_simp) rfl rfl True.intro
            · intro V S w2 HM HU HE
              have HM : Mod wr w2 B := HM
              have h5 : V 5 = .pointer (some ⟨b, off + i * 3 + 1, none⟩) := HU.holds 5 (by decide)
              have tb90 : (Rg.putUse V [(5, 90)] fr).eval (.tmp 90) = .pointer (some ⟨b, off + i * 3 + 1, none⟩) := (Rg.use_eval V fr 90 [(5, 90)] (by simp only [hz]; decide)).trans h5
              show Rg.Does1 _ _ V (Rg.putUse V [(5, 90)] fr) w2 _
              have cc := HK.out.cells (HB2.out.trans ((one.low2 HM).mono HB2.out.size))
              have c0 := cc.2.1
              exact rc_mv (.int .u64 ((p.n : Nat) : Int)) (by simp only [execOp, tb90]; go_simp) rfl rfl True.intro
            · intro V S w2 HM HU HE
              have HM : Mod wr w2 B := HM
              have h6 : V 6 = .int .u64 ((p.n : Nat) : Int) := HU.holds 6 (by decide)
              have tb91 : (Rg.putUse V [(6, 91)] fr).eval (.tmp 91) = .int .u64 ((p.n : Nat) : Int) := (Rg.use_eval V fr 91 [(6, 91)] (by simp only [hz]; decide)).trans h6
              show Rg.Does1 _ _ V (Rg.putUse V [(6, 91)] fr) w2 _
              have h9 := HNM.out.a1
              exact rc_mv (.int .u64 ((g1 : Nat) : Int)) (by simp only [execOp, tb91]; go_simp) rfl rfl True.intro
            · intro V S w2 HM HU HE
              have HM : Mod wr w2 B := HM
              have h7 : V 7 = .int .u64 ((g1 : Nat) : Int) := HU.holds 7 (by decide)
              have tb92 : (Rg.putUse V [(7, 92)] fr).eval (.tmp 92) = .int .u64 ((g1 : Nat) : Int) := (Rg.use_eval V fr 92 [(7, 92)] (by simp only [hz]; decide)).trans h7
              show Rg.Does1 _ _ V (Rg.putUse V [(7, 92)] fr) w2 _
              have h9 := HNM.out.i1
              exact rc_mv (.int .i64 ((g1 : Nat) : Int)) (by simp only [execOp, tb92]; go_simp) rfl rfl True.intro
            · intro V S w2 HM HU HE
              have HM : Mod wr w2 B := HM
              have h1 : V 1 = .int .i64 ((g1 : Nat) : Int) := (HU.holds 1 (by decide)).1
              have tb86 : (Rg.putUse V [(1, 86), (8, 93)] fr).eval (.tmp 86) = .int .i64 ((g1 : Nat) : Int) := (Rg.use_eval V fr 86 [(1, 86), (8, 93)] (by simp only [hz]; decide)).trans h1
              have h8 : V 8 = .int .i64 ((g1 : Nat) : Int) := HU.holds 8 (by decide)
              have tb93 : (Rg.putUse V [(1, 86), (8, 93)] fr).eval (.tmp 93) = .int .i64 ((g1 : Nat) : Int) := (Rg.use_eval V fr 93 [(1, 86), (8, 93)] (by simp only [hz]; decide)).trans h8
              show Rg.Does1 _ _ V (Rg.putUse V [(1, 86), (8, 93)] fr) w2 _
              exact rc_mv (.bool false) (by simp only [execOp, tb86, tb93]; go_simp) rfl rfl True.intro
            · intro V S w2 HM HU HE
              have HM : Mod wr w2 B := HM
              have h9 : V 9 = .bool false := HU.holds 9 (by decide)
              have tb94 : (Rg.putUse V [(9, 94)] fr).eval (.tmp 94) = .bool false := (Rg.use_eval V fr 94 [(9, 94)] (by simp only [hz]; decide)).trans h9
              show Rg.Does1 _ _ V (Rg.putUse V [(9, 94)] fr) w2 _
              exact rc_mv (.bool false) (by simp only [execOp, tb94]; go_simp) rfl rfl True.intro
            · intro V S w2 HM HU HE
              have HM : Mod wr w2 B := HM
              have h10 : V 10 = .bool false := HU.holds 10 (by decide)
              have tb5 : (Rg.putUse V [(10, 95)] fr).eval (.tmp 5) = .pointer (some ar) := (Rg.use_eval V fr 5 [(10, 95)] (by simp only [hz]; decide)).trans y5
              show Rg.Does1 _ _ V (Rg.putUse V [(10, 95)] fr) w2 _
              exact rc_mv (.pointer (some ar)) (by simp only [execOp, tb5]; go_simp) rfl rfl h10
            · intro V S w2 HM HU HE
              have HM : Mod wr w2 B := HM
              have h10 : V 10 = .bool false := HU.holds 10 (by decide)
              have h11 : V 11 = .pointer (some ar) := HU.holds 11 (by decide)
              have tb96 : (Rg.putUse V [(10, 95), (11, 96)] fr).eval (.tmp 96) = .pointer (some ar) := (Rg.use_eval V fr 96 [(10, 95), (11, 96)] (by simp only [hz]; decide)).trans h11
              show Rg.Does1 _ _ V (Rg.putUse V [(10, 95), (11, 96)] fr) w2 _
              have or2 : Rd w2 X L := or0.mod HM oa0
              exact step_rnum (s := s1) R #[.pointer (some ar)] (fun args w => Rg.call_enter Try.func25 (by kernel_rfl) (by kernel_rfl) args w) rfl (by simp only [List.map_toArray, List.map_cons, List.map_nil, tb96]) rfl (by decide) ((HU.holds 1 (by decide)).2) (fun x => Rg.alias_none rfl V x) h10 HM.size or0 oa0 or2 (fun S1 hat hr ha => by have := R.short hat hr ha; rwa [HQ2.out] at this)
            · intro V S w2 HM HU HE
              have HM : Mod wr w2 B := HM
              have h10 : V 10 = .bool false := HU.holds 10 (by decide)
              have tb0 : (Rg.putUse V [(10, 95)] fr).eval (.tmp 0) = .slice (some ⟨b, off, none⟩) ps.length c1 := (Rg.use_eval V fr 0 [(10, 95)] (by simp only [hz]; decide)).trans y0
              show Rg.Does1 _ _ V (Rg.putUse V [(10, 95)] fr) w2 _
              exact rc_mv (.slice (some ⟨b, off, none⟩) ps.length c1) (by simp only [execOp, tb0]; go_simp) rfl rfl h10
            · intro V S w2 HM HU HE
              have HM : Mod wr w2 B := HM
              have h10 : V 10 = .bool false := HU.holds 10 (by decide)
              have tb6 : (Rg.putUse V [(10, 95)] fr).eval (.tmp 6) = .int .i64 ((i : Nat) : Int) := (Rg.use_eval V fr 6 [(10, 95)] (by simp only [hz]; decide)).trans y6
              show Rg.Does1 _ _ V (Rg.putUse V [(10, 95)] fr) w2 _
              exact rc_mv (.int .i64 ((i : Nat) : Int)) (by simp only [execOp, tb6]; go_simp) rfl rfl h10
            · intro V S w2 HM HU HE
              have HM : Mod wr w2 B := HM
              have h10 : V 10 = .bool false := HU.holds 10 (by decide)
              have h13 : V 13 = .slice (some ⟨b, off, none⟩) ps.length c1 := HU.holds 13 (by decide)
              have tb98 : (Rg.putUse V [(10, 95), (13, 98), (14, 99)] fr).eval (.tmp 98) = .slice (some ⟨b, off, none⟩) ps.length c1 := (Rg.use_eval V fr 98 [(10, 95), (13, 98), (14, 99)] (by simp only [hz]; decide)).trans h13
              have h14 : V 14 = .int .i64 ((i : Nat) : Int) := HU.holds 14 (by decide)
              have tb99 : (Rg.putUse V [(10, 95), (13, 98), (14, 99)] fr).eval (.tmp 99) = .int .i64 ((i : Nat) : Int) := (Rg.use_eval V fr 99 [(10, 95), (13, 98), (14, 99)] (by simp only [hz]; decide)).trans h14
              show Rg.Does1 _ _ V (Rg.putUse V [(10, 95), (13, 98), (14, 99)] fr) w2 _
              have b1 := hlt1
              exact rc_mv (.pointer (some ⟨b, off + i * 3, none⟩)) (by simp only [execOp, tb98, tb99]; go_simp) rfl rfl h10
            · intro V S w2 HM HU HE
              have HM : Mod wr w2 B := HM
              have h10 : V 10 = .bool false := HU.holds 10 (by decide)
              have h15 : V 15 = .pointer (some ⟨b, off + i * 3, none⟩) := HU.holds 15 (by decide)
              have tb100 : (Rg.putUse V [(10, 95), (15, 100)] fr).eval (.tmp 100) = .pointer (some ⟨b, off + i * 3, none⟩) := (Rg.use_eval V fr 100 [(10, 95), (15, 100)] (by simp only [hz]; decide)).trans h15
              show Rg.Does1 _ _ V (Rg.putUse V [(10, 95), (15, 100)] fr) w2 _
              exact rc_mv (.pointer (some ⟨b, off + i * 3 + 1, none⟩)) (by simp only [execOp, tb100]; go_simp) rfl rfl h10
            · intro V S w2 HM HU HE
              have HM : Mod wr w2 B := HM
              have h10 : V 10 = .bool false := HU.holds 10 (by decide)
              have h16 : V 16 = .pointer (some ⟨b, off + i * 3 + 1, none⟩) := HU.holds 16 (by decide)
              have tb101 : (Rg.putUse V [(10, 95), (16, 101)] fr).eval (.tmp 101) = .pointer (some ⟨b, off + i * 3 + 1, none⟩) := (Rg.use_eval V fr 101 [(10, 95), (16, 101)] (by simp only [hz]; decide)).trans h16
              show Rg.Does1 _ _ V (Rg.putUse V [(10, 95), (16, 101)] fr) w2 _
              have cc := HK.out.cells (HB2.out.trans ((one.low2 HM).mono HB2.out.size))
              have c0 := cc.2.1
              exact rc_mv (.int .u64 ((p.n : Nat) : Int)) (by simp only [execOp, tb101]; go_simp) rfl rfl h10
            · intro V S w2 HM HU HE
              have HM : Mod wr w2 B := HM
              have h10 : V 10 = .bool false := HU.holds 10 (by decide)
              have h17 : V 17 = .int .u64 ((p.n : Nat) : Int) := HU.holds 17 (by decide)
              have tb102 : (Rg.putUse V [(10, 95), (17, 102)] fr).eval (.tmp 102) = .int .u64 ((p.n : Nat) : Int) := (Rg.use_eval V fr 102 [(10, 95), (17, 102)] (by simp only [hz]; decide)).trans h17
              show Rg.Does1 _ _ V (Rg.putUse V [(10, 95), (17, 102)] fr) w2 _
              have h9 := HNM.out.a2
              exact rc_mv (.int .u64 ((g2 : Nat) : Int)) (by simp only [execOp, tb102]; go_simp) rfl rfl h10
            · intro V S w2 HM HU HE
              have HM : Mod wr w2 B := HM
              have h10 : V 10 = .bool false := HU.holds 10 (by decide)
              have h18 : V 18 = .int .u64 ((g2 : Nat) : Int) := HU.holds 18 (by decide)
              have tb103 : (Rg.putUse V [(10, 95), (18, 103)] fr).eval (.tmp 103) = .int .u64 ((g2 : Nat) : Int) := (Rg.use_eval V fr 103 [(10, 95), (18, 103)] (by simp only [hz]; decide)).trans h18
              show Rg.Does1 _ _ V (Rg.putUse V [(10, 95), (18, 103)] fr) w2 _
              have h9 := HNM.out.i2
              exact rc_mv (.int .i64 ((g2 : Nat) : Int)) (by simp only [execOp, tb103]; go_simp) rfl rfl h10
            · intro V S w2 HM HU HE
              have HM : Mod wr w2 B := HM
              have h10 : V 10 = .bool false := HU.holds 10 (by decide)
              have h12 : V 12 = .int .i64 ((g2 : Nat) : Int) := (HU.holds 12 (by decide)).1
              have tb97 : (Rg.putUse V [(10, 95), (12, 97), (19, 104)] fr).eval (.tmp 97) = .int .i64 ((g2 : Nat) : Int) := (Rg.use_eval V fr 97 [(10, 95), (12, 97), (19, 104)] (by simp only [hz]; decide)).trans h12
              have h19 : V 19 = .int .i64 ((g2 : Nat) : Int) := HU.holds 19 (by decide)
              have tb104 : (Rg.putUse V [(10, 95), (12, 97), (19, 104)] fr).eval (.tmp 104) = .int .i64 ((g2 : Nat) : Int) := (Rg.use_eval V fr 104 [(10, 95), (12, 97), (19, 104)] (by simp only [hz]; decide)).trans h19
              show Rg.Does1 _ _ V (Rg.putUse V [(10, 95), (12, 97), (19, 104)] fr) w2 _
              exact rc_mv (.bool false) (by simp only [execOp, tb97, tb104]; go_simp) rfl rfl h10
            · intro V S w2 HM HU HE
              have HM : Mod wr w2 B := HM
              have h10 : V 10 = .bool false := HU.holds 10 (by decide)
              have tb95 : (Rg.putUse V [(10, 95), (20, 105)] fr).eval (.tmp 95) = .bool false := (Rg.use_eval V fr 95 [(10, 95), (20, 105)] (by simp only [hz]; decide)).trans h10
              have h20 : V 20 = .bool false := HU.holds 20 (by decide)
              have tb105 : (Rg.putUse V [(10, 95), (20, 105)] fr).eval (.tmp 105) = .bool false := (Rg.use_eval V fr 105 [(10, 95), (20, 105)] (by simp only [hz]; decide)).trans h20
              show Rg.Does1 _ _ V (Rg.putUse V [(10, 95), (20, 105)] fr) w2 _
              exact rc_mv (.bool false) (by simp only [execOp, tb95, tb105]; go_simp) rfl rfl True.intro
            · intro V S w2 HM HU HE
              have HM : Mod wr w2 B := HM
              have h21 : V 21 = .bool false := HU.holds 21 (by decide)
              have tb106 : (Rg.putUse V [(21, 106)] fr).eval (.tmp 106) = .bool false := (Rg.use_eval V fr 106 [(21, 106)] (by simp only [hz]; decide)).trans h21
              show Rg.Does1 _ _ V (Rg.putUse V [(21, 106)] fr) w2 _
              exact rc_mv (.bool false) (by simp only [execOp, tb106]; go_simp) rfl rfl True.intro
            · intro V S w2 HM HU HE
              have HM : Mod wr w2 B := HM
              have h22 : V 22 = .bool false := HU.holds 22 (by decide)
              have tb5 : (Rg.putUse V [(22, 107)] fr).eval (.tmp 5) = .pointer (some ar) := (Rg.use_eval V fr 5 [(22, 107)] (by simp only [hz]; decide)).trans y5
              show Rg.Does1 _ _ V (Rg.putUse V [(22, 107)] fr) w2 _
              exact rc_mv (.pointer (some ar)) (by simp only [execOp, tb5]; go_simp) rfl rfl h22
            · intro V S w2 HM HU HE
              have HM : Mod wr w2 B := HM
              have h22 : V 22 = .bool false := HU.holds 22 (by decide)
              have h23 : V 23 = .pointer (some ar) := HU.holds 23 (by decide)
              have tb108 : (Rg.putUse V [(22, 107), (23, 108)] fr).eval (.tmp 108) = .pointer (some ar) := (Rg.use_eval V fr 108 [(22, 107), (23, 108)] (by simp only [hz]; decide)).trans h23
              show Rg.Does1 _ _ V (Rg.putUse V [(22, 107), (23, 108)] fr) w2 _
              have or2 : Rd w2 X L := or0.mod HM oa0
              exact step_rnum (s := s2) R #[.pointer (some ar)] (fun args w => Rg.call_enter Try.func26 (by kernel_rfl) (by kernel_rfl) args w) rfl (by simp only [List.map_toArray, List.map_cons, List.map_nil, tb108]) rfl (by decide) ((HU.holds 12 (by decide)).2) (fun x => Rg.alias_none rfl V x) h22 HM.size or0 oa0 or2 (fun S1 hat hr ha => by have := R.long hat hr ha; rwa [HQ3.out] at this)
            · intro V S w2 HM HU HE
              have HM : Mod wr w2 B := HM
              have h22 : V 22 = .bool false := HU.holds 22 (by decide)
              have tb0 : (Rg.putUse V [(22, 107)] fr).eval (.tmp 0) = .slice (some ⟨b, off, none⟩) ps.length c1 := (Rg.use_eval V fr 0 [(22, 107)] (by simp only [hz]; decide)).trans y0
              show Rg.Does1 _ _ V (Rg.putUse V [(22, 107)] fr) w2 _
              exact rc_mv (.slice (some ⟨b, off, none⟩) ps.length c1) (by simp only [execOp, tb0]; go_simp) rfl rfl h22
            · intro V S w2 HM HU HE
              have HM : Mod wr w2 B := HM
              have h22 : V 22 = .bool false := HU.holds 22 (by decide)
              have tb6 : (Rg.putUse V [(22, 107)] fr).eval (.tmp 6) = .int .i64 ((i : Nat) : Int) := (Rg.use_eval V fr 6 [(22, 107)] (by simp only [hz]; decide)).trans y6
              show Rg.Does1 _ _ V (Rg.putUse V [(22, 107)] fr) w2 _
              exact rc_mv (.int .i64 ((i : Nat) : Int)) (by simp only [execOp, tb6]; go_simp) rfl rfl h22
            · intro V S w2 HM HU HE
              have HM : Mod wr w2 B := HM
              have h22 : V 22 = .bool false := HU.holds 22 (by decide)
              have h25 : V 25 = .slice (some ⟨b, off, none⟩) ps.length c1 := HU.holds 25 (by decide)
              have tb110 : (Rg.putUse V [(22, 107), (25, 110), (26, 111)] fr).eval (.tmp 110) = .slice (some ⟨b, off, none⟩) ps.length c1 := (Rg.use_eval V fr 110 [(22, 107), (25, 110), (26, 111)] (by simp only [hz]; decide)).trans h25
              have h26 : V 26 = .int .i64 ((i : Nat) : Int) := HU.holds 26 (by decide)
              have tb111 : (Rg.putUse V [(22, 107), (25, 110), (26, 111)] fr).eval (.tmp 111) = .int .i64 ((i : Nat) : Int) := (Rg.use_eval V fr 111 [(22, 107), (25, 110), (26, 111)] (by simp only [hz]; decide)).trans h26
              show Rg.Does1 _ _ V (Rg.putUse V [(22, 107), (25, 110), (26, 111)] fr) w2 _
              have b1 := hlt1
              exact rc_mv (.pointer (some ⟨b, off + i * 3, none⟩)) (by simp only [execOp, tb110, tb111]; go_simp) rfl rfl h22
            · intro V S w2 HM HU HE
              have HM : Mod wr w2 B := HM
              have h22 : V 22 = .bool false := HU.holds 22 (by decide)
              have h27 : V 27 = .pointer (some ⟨b, off + i * 3, none⟩) := HU.holds 27 (by decide)
              have tb112 : (Rg.putUse V [(22, 107), (27, 112)] fr).eval (.tmp 112) = .pointer (some ⟨b, off + i * 3, none⟩) := (Rg.use_eval V fr 112 [(22, 107), (27, 112)] (by simp only [hz]; decide)).trans h27
              show Rg.Does1 _ _ V (Rg.putUse V [(22, 107), (27, 112)] fr) w2 _
              exact rc_mv (.pointer (some ⟨b, off + i * 3 + 1, none⟩)) (by simp only [execOp, tb112]; go_simp) rfl rfl h22
            · intro V S w2 HM HU HE
              have HM : Mod wr w2 B := HM
              have h22 : V 22 = .bool false := HU.holds 22 (by decide)
              have h28 : V 28 = .pointer (some ⟨b, off + i * 3 + 1, none⟩) := HU.holds 28 (by decide)
              have tb113 : (Rg.putUse V [(22, 107), (28, 113)] fr).eval (.tmp 113) = .pointer (some ⟨b, off + i * 3 + 1, none⟩) := (Rg.use_eval V fr 113 [(22, 107), (28, 113)] (by simp only [hz]; decide)).trans h28
              show Rg.Does1 _ _ V (Rg.putUse V [(22, 107), (28, 113)] fr) w2 _
              have cc := HK.out.cells (HB2.out.trans ((one.low2 HM).mono HB2.out.size))
              have c0 := cc.2.1
              exact rc_mv (.int .u64 ((p.n : Nat) : Int)) (by simp only [execOp, tb113]; go_simp) rfl rfl h22
            · intro V S w2 HM HU HE
              have HM : Mod wr w2 B := HM
              have h22 : V 22 = .bool false := HU.holds 22 (by decide)
              have h24 : V 24 = .int .u64 ((p.n : Nat) : Int) := (HU.holds 24 (by decide)).1
              have tb109 : (Rg.putUse V [(22, 107), (24, 109), (29, 114)] fr).eval (.tmp 109) = .int .u64 ((p.n : Nat) : Int) := (Rg.use_eval V fr 109 [(22, 107), (24, 109), (29, 114)] (by simp only [hz]; decide)).trans h24
              have h29 : V 29 = .int .u64 ((p.n : Nat) : Int) := HU.holds 29 (by decide)
              have tb114 : (Rg.putUse V [(22, 107), (24, 109), (29, 114)] fr).eval (.tmp 114) = .int .u64 ((p.n : Nat) : Int) := (Rg.use_eval V fr 114 [(22, 107), (24, 109), (29, 114)] (by simp only [hz]; decide)).trans h29
              show Rg.Does1 _ _ V (Rg.putUse V [(22, 107), (24, 109), (29, 114)] fr) w2 _
              exact rc_mv (.bool false) (by simp only [execOp, tb109, tb114]; go_simp) rfl rfl h22
            · intro V S w2 HM HU HE
              have HM : Mod wr w2 B := HM
              have h22 : V 22 = .bool false := HU.holds 22 (by decide)
              have tb107 : (Rg.putUse V [(22, 107), (30, 115)] fr).eval (.tmp 107) = .bool false := (Rg.use_eval V fr 107 [(22, 107), (30, 115)] (by simp only [hz]; decide)).trans h22
              have h30 : V 30 = .bool false := HU.holds 30 (by decide)
              have tb115 : (Rg.putUse V [(22, 107), (30, 115)] fr).eval (.tmp 115) = .bool false := (Rg.use_eval V fr 115 [(22, 107), (30, 115)] (by simp only [hz]; decide)).trans h30
              show Rg.Does1 _ _ V (Rg.putUse V [(22, 107), (30, 115)] fr) w2 _
              exact rc_mv (.bool false) (by simp only [execOp, tb107, tb115]; go_simp) rfl rfl True.intro
            · intro V S w2 HM HU HE
              have HM : Mod wr w2 B := HM
              have h31 : V 31 = .bool false := HU.holds 31 (by decide)
              have tb116 : (Rg.putUse V [(31, 116)] fr).eval (.tmp 116) = .bool false := (Rg.use_eval V fr 116 [(31, 116)] (by simp only [hz]; decide)).trans h31
              show Rg.Does1 _ _ V (Rg.putUse V [(31, 116)] fr) w2 _
              exact rc_mv (.bool false) (by simp only [execOp, tb116]; go_simp) rfl rfl True.intro
            · intro V S w2 HM HU HE
              have HM : Mod wr w2 B := HM
              have h32 : V 32 = .bool false := HU.holds 32 (by decide)
              have tb5 : (Rg.putUse V [(32, 117)] fr).eval (.tmp 5) = .pointer (some ar) := (Rg.use_eval V fr 5 [(32, 117)] (by simp only [hz]; decide)).trans y5
              show Rg.Does1 _ _ V (Rg.putUse V [(32, 117)] fr) w2 _
              exact rc_mv (.pointer (some ar)) (by simp only [execOp, tb5]; go_simp) rfl rfl h32
            · intro V S w2 HM HU HE
              have HM : Mod wr w2 B := HM
              have h32 : V 32 = .bool false := HU.holds 32 (by decide)
              have h33 : V 33 = .pointer (some ar) := HU.holds 33 (by decide)
              have tb118 : (Rg.putUse V [(32, 117), (33, 118)] fr).eval (.tmp 118) = .pointer (some ar) := (Rg.use_eval V fr 118 [(32, 117), (33, 118)] (by simp only [hz]; decide)).trans h33
              show Rg.Does1 _ _ V (Rg.putUse V [(32, 117), (33, 118)] fr) w2 _
              have or2 : Rd w2 X L := or0.mod HM oa0
              exact step_rnum (s := s3) R #[.pointer (some ar)] (fun args w => Rg.call_enter Try.func27 (by kernel_rfl) (by kernel_rfl) args w) rfl (by simp only [List.map_toArray, List.map_cons, List.map_nil, tb118]) rfl (by decide) ((HU.holds 24 (by decide)).2) (fun x => Rg.alias_none rfl V x) h32 HM.size or0 oa0 or2 (fun S1 hat hr ha => by have := R.flag hat hr ha; rwa [HQ4.out] at this)
            · intro V S w2 HM HU HE
              have HM : Mod wr w2 B := HM
              have h32 : V 32 = .bool false := HU.holds 32 (by decide)
              have tb0 : (Rg.putUse V [(32, 117)] fr).eval (.tmp 0) = .slice (some ⟨b, off, none⟩) ps.length c1 := (Rg.use_eval V fr 0 [(32, 117)] (by simp only [hz]; decide)).trans y0
              show Rg.Does1 _ _ V (Rg.putUse V [(32, 117)] fr) w2 _
              exact rc_mv (.slice (some ⟨b, off, none⟩) ps.length c1) (by simp only [execOp, tb0]; go_simp) rfl rfl h32
            · intro V S w2 HM HU HE
              have HM : Mod wr w2 B := HM
              have h32 : V 32 = .bool false := HU.holds 32 (by decide)
              have tb6 : (Rg.putUse V [(32, 117)] fr).eval (.tmp 6) = .int .i64 ((i : Nat) : Int) := (Rg.use_eval V fr 6 [(32, 117)] (by simp only [hz]; decide)).trans y6
              show Rg.Does1 _ _ V (Rg.putUse V [(32, 117)] fr) w2 _
              exact rc_mv (.int .i64 ((i : Nat) : Int)) (by simp only [execOp, tb6]; go_simp) rfl rfl h32
            · intro V S w2 HM HU HE
              have HM : Mod wr w2 B := HM
              have h32 : V 32 = .bool false := HU.holds 32 (by decide)
              have h35 : V 35 = .slice (some ⟨b, off, none⟩) ps.length c1 := HU.holds 35 (by decide)
              have tb120 : (Rg.putUse V [(32, 117), (35, 120), (36, 121)] fr).eval (.tmp 120) = .slice (some ⟨b, off, none⟩) ps.length c1 := (Rg.use_eval V fr 120 [(32, 117), (35, 120), (36, 121)] (by simp only [hz]; decide)).trans h35
              have h36 : V 36 = .int .i64 ((i : Nat) : Int) := HU.holds 36 (by decide)
              have tb121 : (Rg.putUse V [(32, 117), (35, 120), (36, 121)] fr).eval (.tmp 121) = .int .i64 ((i : Nat) : Int) := (Rg.use_eval V fr 121 [(32, 117), (35, 120), (36, 121)] (by simp only [hz]; decide)).trans h36
              show Rg.Does1 _ _ V (Rg.putUse V [(32, 117), (35, 120), (36, 121)] fr) w2 _
              have b1 := hlt1
              exact rc_mv (.pointer (some ⟨b, off + i * 3, none⟩)) (by simp only [execOp, tb120, tb121]; go_simp) rfl rfl h32
            · intro V S w2 HM HU HE
              have HM : Mod wr w2 B := HM
              have h32 : V 32 = .bool false := HU.holds 32 (by decide)
              have h37 : V 37 = .pointer (some ⟨b, off + i * 3, none⟩) := HU.holds 37 (by decide)
              have tb122 : (Rg.putUse V [(32, 117), (37, 122)] fr).eval (.tmp 122) = .pointer (some ⟨b, off + i * 3, none⟩) := (Rg.use_eval V fr 122 [(32, 117), (37, 122)] (by simp only [hz]; decide)).trans h37
              show Rg.Does1 _ _ V (Rg.putUse V [(32, 117), (37, 122)] fr) w2 _
              exact rc_mv (.pointer (some ⟨b, off + i * 3 + 1, none⟩)) (by simp only [execOp, tb122]; go_simp) rfl rfl h32
            · intro V S w2 HM HU HE
              have HM : Mod wr w2 B := HM
              have h32 : V 32 = .bool false := HU.holds 32 (by decide)
              have h38 : V 38 = .pointer (some ⟨b, off + i * 3 + 1, none⟩) := HU.holds 38 (by decide)
              have tb123 : (Rg.putUse V [(32, 117), (38, 123)] fr).eval (.tmp 123) = .pointer (some ⟨b, off + i * 3 + 1, none⟩) := (Rg.use_eval V fr 123 [(32, 117), (38, 123)] (by simp only [hz]; decide)).trans h38
              show Rg.Does1 _ _ V (Rg.putUse V [(32, 117), (38, 123)] fr) w2 _
              have cc := HK.out.cells (HB2.out.trans ((one.low2 HM).mono HB2.out.size))
              have c0 := cc.2.1
              exact rc_mv (.int .u64 ((p.n : Nat) : Int)) (by simp only [execOp, tb123]; go_simp) rfl rfl h32
            · intro V S w2 HM HU HE
              have HM : Mod wr w2 B := HM
              have h32 : V 32 = .bool false := HU.holds 32 (by decide)
              have h39 : V 39 = .int .u64 ((p.n : Nat) : Int) := HU.holds 39 (by decide)
              have tb124 : (Rg.putUse V [(32, 117), (39, 124)] fr).eval (.tmp 124) = .int .u64 ((p.n : Nat) : Int) := (Rg.use_eval V fr 124 [(32, 117), (39, 124)] (by simp only [hz]; decide)).trans h39
              show Rg.Does1 _ _ V (Rg.putUse V [(32, 117), (39, 124)] fr) w2 _
              have h9 : ((p.n : Nat) : Int).tmod 2 = ((g3 : Nat) : Int) := by rw [Int.tmod_eq_emod_of_nonneg (by omega)]; exact HNM.out.a3
              exact rc_mv (.int .u64 ((g3 : Nat) : Int)) (by simp only [execOp, tb124]; go_simp) rfl rfl h32
            · intro V S w2 HM HU HE
              have HM : Mod wr w2 B := HM
              have h32 : V 32 = .bool false := HU.holds 32 (by decide)
              have h40 : V 40 = .int .u64 ((g3 : Nat) : Int) := HU.holds 40 (by decide)
              have tb125 : (Rg.putUse V [(32, 117), (40, 125)] fr).eval (.tmp 125) = .int .u64 ((g3 : Nat) : Int) := (Rg.use_eval V fr 125 [(32, 117), (40, 125)] (by simp only [hz]; decide)).trans h40
              show Rg.Does1 _ _ V (Rg.putUse V [(32, 117), (40, 125)] fr) w2 _
              have h9 := HNM.out.eq
              exact rc_mv (.bool f) (by simp only [execOp, tb125]; go_simp) rfl rfl h32
            · intro V S w2 HM HU HE
              have HM : Mod wr w2 B := HM
              have h32 : V 32 = .bool false := HU.holds 32 (by decide)
              have h34 : V 34 = .bool f := (HU.holds 34 (by decide)).1
              have tb119 : (Rg.putUse V [(32, 117), (34, 119), (41, 126)] fr).eval (.tmp 119) = .bool f := (Rg.use_eval V fr 119 [(32, 117), (34, 119), (41, 126)] (by simp only [hz]; decide)).trans h34
              have h41 : V 41 = .bool f := HU.holds 41 (by decide)
              have tb126 : (Rg.putUse V [(32, 117), (34, 119), (41, 126)] fr).eval (.tmp 126) = .bool f := (Rg.use_eval V fr 126 [(32, 117), (34, 119), (41, 126)] (by simp only [hz]; decide)).trans h41
              show Rg.Does1 _ _ V (Rg.putUse V [(32, 117), (34, 119), (41, 126)] fr) w2 _
              exact rc_mv (.bool false) (by simp only [execOp, tb119, tb126]; go_simp) rfl rfl h32
            · intro V S w2 HM HU HE
              have HM : Mod wr w2 B := HM
              have h32 : V 32 = .bool false := HU.holds 32 (by decide)
              have tb117 : (Rg.putUse V [(32, 117), (42, 127)] fr).eval (.tmp 117) = .bool false := (Rg.use_eval V fr 117 [(32, 117), (42, 127)] (by simp only [hz]; decide)).trans h32
              have h42 : V 42 = .bool false := HU.holds 42 (by decide)
              have tb127 : (Rg.putUse V [(32, 117), (42, 127)] fr).eval (.tmp 127) = .bool false := (Rg.use_eval V fr 127 [(32, 117), (42, 127)] (by simp only [hz]; decide)).trans h42
              show Rg.Does1 _ _ V (Rg.putUse V [(32, 117), (42, 127)] fr) w2 _
              exact rc_mv (.bool false) (by simp only [execOp, tb117, tb127]; go_simp) rfl rfl True.intro
            · intro V S w2 HM HU HE
              have HM : Mod wr w2 B := HM
              have h43 : V 43 = .bool false := HU.holds 43 (by decide)
              have tb128 : (Rg.putUse V [(43, 128)] fr).eval (.tmp 128) = .bool false := (Rg.use_eval V fr 128 [(43, 128)] (by simp only [hz]; decide)).trans h43
              show Rg.Does1 _ _ V (Rg.putUse V [(43, 128)] fr) w2 _
              exact rc_mv (.bool false) (by simp only [execOp, tb128]; go_simp) rfl rfl True.intro
            · intro V S w2 HM HU HE
              have HM : Mod wr w2 B := HM
              have h44 : V 44 = .bool false := HU.holds 44 (by decide)
              have tb5 : (Rg.putUse V [(44, 129)] fr).eval (.tmp 5) = .pointer (some ar) := (Rg.use_eval V fr 5 [(44, 129)] (by simp only [hz]; decide)).trans y5
              show Rg.Does1 _ _ V (Rg.putUse V [(44, 129)] fr) w2 _
              exact rc_mv (.pointer (some ar)) (by simp only [execOp, tb5]; go_simp) rfl rfl h44
            · intro V S w2 HM HU HE
              have HM : Mod wr w2 B := HM
              have h44 : V 44 = .bool false := HU.holds 44 (by decide)
              have h45 : V 45 = .pointer (some ar) := HU.holds 45 (by decide)
              have tb130 : (Rg.putUse V [(44, 129), (45, 130)] fr).eval (.tmp 130) = .pointer (some ar) := (Rg.use_eval V fr 130 [(44, 129), (45, 130)] (by simp only [hz]; decide)).trans h45
              show Rg.Does1 _ _ V (Rg.putUse V [(44, 129), (45, 130)] fr) w2 _
              have or2 : Rd w2 X L := or0.mod HM oa0
              exact step_rrow (s := s4) R #[.pointer (some ar)] (fun args w => Rg.call_enter Try.func28 (by kernel_rfl) (by kernel_rfl) args w) rfl (by simp only [List.map_toArray, List.map_cons, List.map_nil, tb130]) rfl (by decide) ((HU.holds 34 (by decide)).2) (fun x => Rg.alias_none rfl V x) h44 HM.size or0 oa0 or2 (fun S1 hat hr ha => by have := R.bytes hat hr ha; rwa [HQ5.out] at this)
            · intro V S w2 HM HU HE
              have HM : Mod wr w2 B := HM
              have h44 : V 44 = .bool false := HU.holds 44 (by decide)
              obtain ⟨⟨X46, k46, e46, hc46, hw46⟩, _⟩ := HU.holds 46 (by decide)
              have tb131 : (Rg.putUse V [(44, 129), (46, 131)] fr).eval (.tmp 131) = .slice X46 (y).length k46 := (Rg.use_eval V fr 131 [(44, 129), (46, 131)] (by simp only [hz]; decide)).trans e46
              show Rg.Does1 _ _ V (Rg.putUse V [(44, 129), (46, 131)] fr) w2 _
              exact rc_str (y) rfl tb131 (by first | rfl | simp) (hw46.now (or0.mod HM oa0)) rfl rfl h44
            · intro V S w2 HM HU HE
              have HM : Mod wr w2 B := HM
              have h44 : V 44 = .bool false := HU.holds 44 (by decide)
              have tb0 : (Rg.putUse V [(44, 129)] fr).eval (.tmp 0) = .slice (some ⟨b, off, none⟩) ps.length c1 := (Rg.use_eval V fr 0 [(44, 129)] (by simp only [hz]; decide)).trans y0
              show Rg.Does1 _ _ V (Rg.putUse V [(44, 129)] fr) w2 _
              exact rc_mv (.slice (some ⟨b, off, none⟩) ps.length c1) (by simp only [execOp, tb0]; go_simp) rfl rfl h44
            · intro V S w2 HM HU HE
              have HM : Mod wr w2 B := HM
              have h44 : V 44 = .bool false := HU.holds 44 (by decide)
              have tb6 : (Rg.putUse V [(44, 129)] fr).eval (.tmp 6) = .int .i64 ((i : Nat) : Int) := (Rg.use_eval V fr 6 [(44, 129)] (by simp only [hz]; decide)).trans y6
              show Rg.Does1 _ _ V (Rg.putUse V [(44, 129)] fr) w2 _
              exact rc_mv (.int .i64 ((i : Nat) : Int)) (by simp only [execOp, tb6]; go_simp) rfl rfl h44
            · intro V S w2 HM HU HE
              have HM : Mod wr w2 B := HM
              have h44 : V 44 = .bool false := HU.holds 44 (by decide)
              have h48 : V 48 = .slice (some ⟨b, off, none⟩) ps.length c1 := HU.holds 48 (by decide)
              have tb133 : (Rg.putUse V [(44, 129), (48, 133), (49, 134)] fr).eval (.tmp 133) = .slice (some ⟨b, off, none⟩) ps.length c1 := (Rg.use_eval V fr 133 [(44, 129), (48, 133), (49, 134)] (by simp only [hz]; decide)).trans h48
              have h49 : V 49 = .int .i64 ((i : Nat) : Int) := HU.holds 49 (by decide)
              have tb134 : (Rg.putUse V [(44, 129), (48, 133), (49, 134)] fr).eval (.tmp 134) = .int .i64 ((i : Nat) : Int) := (Rg.use_eval V fr 134 [(44, 129), (48, 133), (49, 134)] (by simp only [hz]; decide)).trans h49
              show Rg.Does1 _ _ V (Rg.putUse V [(44, 129), (48, 133), (49, 134)] fr) w2 _
              have b1 := hlt1
              exact rc_mv (.pointer (some ⟨b, off + i * 3, none⟩)) (by simp only [execOp, tb133, tb134]; go_simp) rfl rfl h44
            · intro V S w2 HM HU HE
              have HM : Mod wr w2 B := HM
              have h44 : V 44 = .bool false := HU.holds 44 (by decide)
              have h50 : V 50 = .pointer (some ⟨b, off + i * 3, none⟩) := HU.holds 50 (by decide)
              have tb135 : (Rg.putUse V [(44, 129), (50, 135)] fr).eval (.tmp 135) = .pointer (some ⟨b, off + i * 3, none⟩) := (Rg.use_eval V fr 135 [(44, 129), (50, 135)] (by simp only [hz]; decide)).trans h50
              show Rg.Does1 _ _ V (Rg.putUse V [(44, 129), (50, 135)] fr) w2 _
              exact rc_mv (.pointer (some ⟨b, off + i * 3 + 2, none⟩)) (by simp only [execOp, tb135]; go_simp) rfl rfl h44
            · intro V S w2 HM HU HE
              have HM : Mod wr w2 B := HM
              have h44 : V 44 = .bool false := HU.holds 44 (by decide)
              have h51 : V 51 = .pointer (some ⟨b, off + i * 3 + 2, none⟩) := HU.holds 51 (by decide)
              have tb136 : (Rg.putUse V [(44, 129), (51, 136)] fr).eval (.tmp 136) = .pointer (some ⟨b, off + i * 3 + 2, none⟩) := (Rg.use_eval V fr 136 [(44, 129), (51, 136)] (by simp only [hz]; decide)).trans h51
              show Rg.Does1 _ _ V (Rg.putUse V [(44, 129), (51, 136)] fr) w2 _
              have cc := HK.out.cells (HB2.out.trans ((one.low2 HM).mono HB2.out.size))
              have c0 := cc.2.2
              exact rc_mv (.slice p.A p.x.length p.c) (by simp only [execOp, tb136]; go_simp) rfl rfl h44
            · intro V S w2 HM HU HE
              have HM : Mod wr w2 B := HM
              have h44 : V 44 = .bool false := HU.holds 44 (by decide)
              have h52 : V 52 = .slice p.A p.x.length p.c := HU.holds 52 (by decide)
              have tb137 : (Rg.putUse V [(44, 129), (52, 137)] fr).eval (.tmp 137) = .slice p.A p.x.length p.c := (Rg.use_eval V fr 137 [(44, 129), (52, 137)] (by simp only [hz]; decide)).trans h52
              show Rg.Does1 _ _ V (Rg.putUse V [(44, 129), (52, 137)] fr) w2 _
              exact step_pcall (.slice p.A y.length p.c) #[.slice p.A p.x.length p.c, .int .i64 60] (fun args w => Rg.call_enter Try.func16 (by kernel_rfl) (by kernel_rfl) args w) rfl (by simp only [List.map_toArray, List.map_cons, List.map_nil, Rg.eval_const, tb137]) rfl (fun x => Rg.alias_none rfl V x) h44 (by have := cut_any p.A p.x p.c 60 HK.out.fits (by omega) HK.out.long w2; rwa [← HYE.out] at this)
            · intro V S w2 HM HU HE
              have HM : Mod wr w2 B := HM
              have h44 : V 44 = .bool false := HU.holds 44 (by decide)
              have h53 : V 53 = .slice p.A y.length p.c := HU.holds 53 (by decide)
              have tb138 : (Rg.putUse V [(44, 129), (53, 138)] fr).eval (.tmp 138) = .slice p.A y.length p.c := (Rg.use_eval V fr 138 [(44, 129), (53, 138)] (by simp only [hz]; decide)).trans h53
              show Rg.Does1 _ _ V (Rg.putUse V [(44, 129), (53, 138)] fr) w2 _
              exact rc_str (y) rfl tb138 (by first | rfl | simp) (HYR.out.below (HB2.out.trans ((one.low2 HM).mono HB2.out.size))) rfl rfl h44
            · intro V S w2 HM HU HE
              have HM : Mod wr w2 B := HM
              have h44 : V 44 = .bool false := HU.holds 44 (by decide)
              have h47 : V 47 = .string (strOf (y)) := HU.holds 47 (by decide)
              have tb132 : (Rg.putUse V [(44, 129), (47, 132), (54, 139)] fr).eval (.tmp 132) = .string (strOf (y)) := (Rg.use_eval V fr 132 [(44, 129), (47, 132), (54, 139)] (by simp only [hz]; decide)).trans h47
              have h54 : V 54 = .string (strOf (y)) := HU.holds 54 (by decide)
              have tb139 : (Rg.putUse V [(44, 129), (47, 132), (54, 139)] fr).eval (.tmp 139) = .string (strOf (y)) := (Rg.use_eval V fr 139 [(44, 129), (47, 132), (54, 139)] (by simp only [hz]; decide)).trans h54
              show Rg.Does1 _ _ V (Rg.putUse V [(44, 129), (47, 132), (54, 139)] fr) w2 _
              exact rc_mv (.bool false) (by simp only [execOp, tb132, tb139]; go_simp) rfl rfl h44
            · intro V S w2 HM HU HE
              have HM : Mod wr w2 B := HM
              have h44 : V 44 = .bool false := HU.holds 44 (by decide)
              have tb129 : (Rg.putUse V [(44, 129), (55, 140)] fr).eval (.tmp 129) = .bool false := (Rg.use_eval V fr 129 [(44, 129), (55, 140)] (by simp only [hz]; decide)).trans h44
              have h55 : V 55 = .bool false := HU.holds 55 (by decide)
              have tb140 : (Rg.putUse V [(44, 129), (55, 140)] fr).eval (.tmp 140) = .bool false := (Rg.use_eval V fr 140 [(44, 129), (55, 140)] (by simp only [hz]; decide)).trans h55
              show Rg.Does1 _ _ V (Rg.putUse V [(44, 129), (55, 140)] fr) w2 _
              exact rc_mv (.bool false) (by simp only [execOp, tb129, tb140]; go_simp) rfl rfl True.intro
          · intro V S w2 HI
            have hb : V 56 = .bool false := HI.get 56 (by decide) (by rfl)
            have HT2 := Lib.hid (one.after HI.mod.undrew (HI.get 46 (by decide) (by rfl)).2)
            have HM2 := Lib.hid HI.mod.undrew
            simp only [Rg.putList, Act.put, List.setIfInBounds_toArray, List.set_cons_zero, List.set_cons_succ, Nat.zero_add, Nat.reduceAdd]
            rw [hb]
            clear HI hb one or0 oa0 HT
            go_wp2_with fail
            go_roundw
            case rel => exact ⟨i + 1, by omega, by go_num, HT2⟩
            case measure => simp [intOf]; omega
        · obtain rfl : i = m := by omega
          have HE : Hid (OneAt R (.pointer (some ar)) X L w2 (fun _ => False) ⟨[], 0⟩ wr) := by
            have e : BSt (ps.take i) i = ⟨[], 0⟩ := by unfold BSt; rw [List.drop_of_length_le (by rw [List.length_take]; omega)]; rfl
            show OneAt _ _ _ _ _ _ _ _
            rw [← e]; exact HT1.out
          by_cases hc1 : i < ps.length
          · have hc2 : ¬ i < 20 := by omega
            go_wp2_with fail
            go_meet
            case rel => exact ⟨i, rfl, HE⟩
          · go_wp2_with fail
            go_meet
            case rel => exact ⟨i, rfl, HE⟩
    case rest =>
      obtain ⟨i, rfl, HT5⟩ := hcut
      clear HT3
      go_wp2_with fail
      refine (HT5.out.left (n := 0) rfl).mono ?_
      rintro e w6 ⟨rfl, HT6⟩
      go_wp2_with fail
      refine (HT6.out.fin (n := 0) rfl).mono ?_
      rintro e w7 ⟨rfl, HT7⟩
      have HB6 := Lib.hid (HB2.out.trans (HT7.out.low.mono HB2.out.size))
      clear HT5 HT6 HT7
      go_wp2_with fail
      refine (known4_any C w7).mono ?_
      rintro e w8 ⟨rfl, hb⟩
      have HB7 := Lib.hid (HB6.out.trans (hb.mono HB6.out.size))
      clear hb
      go_wp2_with fail
      go_ret
      exact ⟨rfl, HB7.out⟩
end Go.Proofs.Ytpnnikifaalkoaa

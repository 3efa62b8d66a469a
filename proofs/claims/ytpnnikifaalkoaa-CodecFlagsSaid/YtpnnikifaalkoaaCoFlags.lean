/-
  OWN WORK. The law CodecFlags, walked, given what the program's own writer and reader do.
-/
import Derived.Test.YtpnnikifaalkoaaCoWr
import Derived.Test.YtpnnikifaalkoaaBaWithin
import Derived.Test.YtpnnikifaalkoaaBaBools
namespace Go.Proofs.Ytpnnikifaalkoaa
open Go.RowKit Rc

def FBytes (l : List Bool) : List UInt8 := l.map fun f => if f then 1 else 0
theorem fbytes_snoc (l : List Bool) (j : Nat) (b : Bool) (h : l[j]? = some b) : FBytes (l.take (j + 1)) = FBytes (l.take j) ++ Co.wFlag b := by
  rw [List.take_add_one, h]
  simp [FBytes, Co.wFlag]
/-- The reader behind i flags, of which the k-th is none. -/
def FSt (L : List UInt8) (k i : Nat) : Co.Rs := if i ≤ k then ⟨L.drop i, 0⟩ else ⟨L.drop (k + 1), 12⟩
/-- The flags that are written, the k-th turned into none (k = n: none turned). -/
def FOk (L : List UInt8) (l : List Bool) (k n : Nat) : Prop := L.length = n ∧ k ≤ n ∧ (∀ i, i < k → L[i]? = (l[i]?).map fun f => if f then 1 else 0) ∧ (k < n → ∃ b, L[k]? = some b ∧ 1 < b.toNat)
theorem fst_step {L : List UInt8} {l : List Bool} {k n i : Nat} (h : FOk L l k n) (hi : i < n) (hn : n ≤ l.length) :
    Co.flag (FSt L k i) = (decide (i < k) && l.getD i false, FSt L k (i + 1)) ∧ Co.fin (FSt L k (i + 1)) = (if k ≤ i then 12 else if i + 1 < n then 11 else 0) := by
  obtain ⟨hL, hk, h1, h2⟩ := h
  by_cases hlt : i < k
  · have hf : L[i]? = some (if l.getD i false then 1 else 0) := by
      rw [h1 i hlt, List.getElem?_eq_getElem (by omega)]
      simp [List.getD, List.getElem?_eq_getElem (show i < l.length by omega)]
    have hd : L.drop i = (if l.getD i false then 1 else 0) :: L.drop (i + 1) := by
      obtain ⟨hi2, he⟩ := List.getElem?_eq_some_iff.1 hf
      rw [List.drop_eq_getElem_cons hi2, he]
    refine ⟨?_, ?_⟩
    · unfold FSt
      rw [if_pos (by omega), if_pos (by omega), hd, Co.flag_one]
      cases l.getD i false <;> simp [hlt]
    · unfold FSt
      rw [if_pos (by omega), if_neg (by omega)]
      unfold Co.fin
      rw [if_neg (by simp)]
      simp only [List.length_drop, hL]
      by_cases hz : i + 1 < n
      · rw [if_pos (by omega), if_pos hz]
      · rw [if_neg (by omega), if_neg hz]
  · have h12 : Co.fin (FSt L k (i + 1)) = 12 := by
      unfold FSt; rw [if_neg (by omega)]; rfl
    rw [if_pos (by omega)]
    refine ⟨?_, h12⟩
    simp only [hlt, decide_false, Bool.false_and]
    by_cases he : i = k
    · subst he
      obtain ⟨b, hb, hb1⟩ := h2 hi
      obtain ⟨hi2, he⟩ := List.getElem?_eq_some_iff.1 hb
      unfold FSt
      rw [if_pos (Nat.le_refl _), if_neg (by omega), List.drop_eq_getElem_cons hi2, he, Co.flag_one, if_pos hb1]
      simp only [Prod.mk.injEq, and_true, decide_eq_false_iff_not]
      omega
    · have e : FSt L k i = FSt L k (i + 1) := by unfold FSt; rw [if_neg (by omega), if_neg (by omega)]
      rw [e]
      exact Co.flag_ref _ (by unfold FSt; rw [if_neg (by omega)]; simp)

set_option maxHeartbeats 8000000 in
set_option maxRecDepth 100000 in
theorem flags_any (C : WSaid) (R : RSaid codecFns) (hM : RMake R) (w : World) (l : List Bool) (A1 : Option Addr) (c1 : Nat) (hl : RdB w A1 l) (hll : l.length ≤ 9223372036854775807) (at_ : Int) (hat0 : -9223372036854775808 ≤ at_) (hat1 : at_ ≤ 9223372036854775807) (bad : UInt8) :
    Calls Try.prog 7 #[.slice A1 l.length c1, .int .i64 at_, .int .u8 bad.toNat] w fun e w' => e = .returned (.bool true) ∧ Below w.heap.size w w' := by
  have HL := Lib.hid hl
  have HLL := Lib.hid hll
  have HA0 := Lib.hid hat0
  have HA1 := Lib.hid hat1
  clear hl hll hat0 hat1
  go_enter Try.func7, Try.ntmps7
  go_wp2_with fail
  refine (WAt.new C w).mono ?_
  rintro e w1 ⟨a, rfl, HW⟩
  go_upto_if 21 with (fail)
  go_cut [8] (fun t8 wx => ∃ n : Nat, n ≤ l.length ∧ n ≤ 40 ∧ t8 = .int .i64 (n : Nat) ∧ Hid (WAt C (.pointer (some a)) w [] wx))
  case first =>
    by_cases h : 40 < l.length
    · go_wp2_with fail
      go_meet
      case rel => exact ⟨40, by omega, by omega, rfl, HW⟩
    · go_wp2_with fail
      go_meet
      case rel => exact ⟨l.length, by omega, by omega, rfl, HW⟩
  case rest =>
    clear HW
    obtain ⟨n, hn, hn40, rfl, HW⟩ := hcut
    go_wp2_with fail
    go_loopw [9] (fun t9 wr => ∃ j : Nat, j ≤ n ∧ t9 = .int .i64 (j : Nat) ∧ Hid (WAt C (.pointer (some a)) w (FBytes (l.take j)) wr)) (fun t9 _ => n - (intOf t9).toNat)
    case atStart => exact ⟨0, by omega, rfl, HW⟩
    case round =>
      obtain ⟨j, hj, rfl, HJ⟩ := hrel
      by_cases hlt : j < n
      · obtain ⟨f, hf⟩ : ∃ f, l[j]? = some f := ⟨_, List.getElem?_eq_getElem (by omega)⟩
        obtain ⟨ad, rfl, hab, hcell⟩ := HL.out j f hf
        have c0 : wr.cell? (ad.add j) = some (.bool f) := (HJ.out.low.cell (by rw [block_of_add]; exact hab)).trans hcell
        have HF := Lib.hid hf
        have hlj : Hid ((FBytes (l.take j)).length ≤ 40) := by show _ ≤ _; simp only [FBytes, List.length_map, List.length_take]; omega
        clear hcell hab hf
        go_wp2_with fail
        refine (HJ.out.flag (by have := hlj.out; omega) f).mono ?_
        rintro e w2 ⟨⟨x, rfl⟩, HJ2⟩
        rw [← fbytes_snoc l j f HF.out] at HJ2
        go_wp2_with fail
        go_roundw
        case rel => exact ⟨j + 1, by omega, by go_num, HJ2⟩
        case measure => simp [intOf]; omega
      · obtain rfl : j = n := by omega
        obtain ⟨L0, hL0⟩ : ∃ L0, L0 = FBytes (l.take j) := ⟨_, rfl⟩
        have hlen : L0.length = j := by rw [hL0]; simp only [FBytes, List.length_map, List.length_take]; omega
        rw [← hL0] at HJ
        have HL0 := Lib.hid hL0
        clear hL0 hlt
        go_wp2_with fail
        refine HJ.out.done.mono ?_
        rintro e w3 ⟨X, c, rfl, hc, HO, HX, _, HJ3⟩
        rw [hlen] at HO HX hc ⊢
        have HBL := Lib.hid HJ3.out.low
        clear HJ HJ3
        have HC := Lib.hid hc
        obtain ⟨y, hy⟩ : ∃ y : Nat, y = bad.toNat := ⟨_, rfl⟩
        rw [← hy]
        have HY := Lib.hid hy
        clear hy hc
        go_upto_region 15 with (fail)
        go_cut [45] (fun t45 wx => ∃ x : Bool, t45 = .bool x ∧ Hid (x = true → 0 < j ∧ 1 < y) ∧ Hid (Below w.heap.size w wx) ∧ Hid (wx.ownsRow 0 5 1 (.slice X j c) j (Lib.byteCells L0)))
        case first =>
          by_cases h1 : 0 < j
          · by_cases h2 : 1 < y
            · go_wp2_with fail
              go_meet
              case rel => exact ⟨true, by rw [decide_eq_true (show (1 : Int) < (y : Int) by omega)], fun _ => ⟨h1, h2⟩, HBL, HO⟩
            · go_wp2_with fail
              go_meet
              case rel => exact ⟨false, by rw [decide_eq_false (show ¬ (1 : Int) < (y : Int) by omega)], fun h => absurd h (by decide), HBL, HO⟩
          · go_wp2_with fail
            go_meet
            case rel => exact ⟨false, rfl, fun h => absurd h (by decide), HBL, HO⟩
        case rest =>
          clear HO HBL
          obtain ⟨x, rfl, HQ, HBL, HO⟩ := hcut
          go_upto_if 45 with (fail)
          go_cut [11] (fun t11 wx => ∃ (k : Nat) (L : List UInt8), t11 = .int .i64 (k : Nat) ∧ Hid (FOk L l k j) ∧ Hid (Rd wx X L) ∧ Hid (Below w.heap.size w wx))
          case first =>
            have HFB : Hid (∀ k, k ≤ j → ∀ i, i < k → L0[i]? = (l[i]?).map fun f => if f then 1 else 0) := fun k hk i hi => by
              rw [HL0.out, FBytes, List.getElem?_map, List.getElem?_take_of_lt (by omega)]
            cases x
            · have HOK : Hid (FOk L0 l j j) := ⟨hlen, Nat.le_refl _, HFB.out j (Nat.le_refl _), fun h => by omega⟩
              have HR : Hid (Rd wc X L0) := by
                obtain ⟨X', c', e, _, hr⟩ := own_form (l := L0) (by rw [hlen]; exact HO.out)
                injection e with e1
                subst e1; exact hr
              go_wp2_with fail
              go_meet
              case rel => exact ⟨j, L0, rfl, HOK, HR, HBL⟩
            · obtain ⟨hj0, hy1⟩ := HQ.out rfl
              obtain ⟨g, rfl⟩ := own_addr HO.out hj0
              have hgw := HX.out g rfl
              go_wp2_with fail
              refine (within_to at_ _ (j - 1) _ (by omega) (by omega) HA0.out HA1.out).mono ?_
              rintro e w5 ⟨q, hq, rfl, rfl⟩
              have hq3 : q < j := by omega
              have cx := own_byte HO.out q hq3
              have fx := own_frozen HO.out q
              have HNEW := Lib.hid (own_set HO.out q hq3 bad ((y : Nat) : Int) (by rw [HY.out]))
              have b2 : (q : Int) < (j : Int) := by omega
              have b4 : (0 : Int) ≤ (q : Int) := by omega
              have HOK : Hid (FOk (L0.set q bad) l q j) := ⟨by rw [List.length_set, hlen], by omega, fun i hi => by rw [List.getElem?_set_ne (by omega)]; exact HFB.out q (by omega) i hi, fun _ => ⟨bad, by rw [List.getElem?_set_self (by omega)], by rw [← HY.out]; exact hy1⟩⟩
              have HB3 : Hid (Below w.heap.size w (wc.setCell ⟨g, q, none⟩ (.int .u8 ((y : Nat) : Int)))) := Below.setCell HBL.out hgw _
              have HR : Hid (Rd (wc.setCell ⟨g, q, none⟩ (.int .u8 ((y : Nat) : Int))) (some ⟨g, 0, none⟩) (L0.set q bad)) := by
                obtain ⟨X', c', e, _, hr⟩ := own_form (l := L0.set q bad) (by rw [List.length_set, hlen]; exact HNEW.out)
                injection e with e1
                subst e1; exact hr
              clear HNEW HO HBL hq HFB
              go_wp2_with fail
              go_meet
              case rel => exact ⟨q, _, rfl, HOK, HR, HB3⟩
          case rest =>
            clear HBL HO HQ HL0 hlen
            obtain ⟨k, L, rfl, HOK, HR, HBL⟩ := hcut
            have hL : L.length = j := HOK.out.1
            subst hL
            generalize wc = w4 at *
            go_wp2_with fail
            refine (hM.one w4 X L c HR.out (by have := HC.out; omega) (by omega)).mono ?_
            rintro e w5 ⟨ar, rfl, HT⟩
            have HT0 : Hid (OneAt R (.pointer (some ar)) X L w4 (fun _ => False) (FSt L k 0) w5) := by
              have e : FSt L k 0 = ⟨L, 0⟩ := by unfold FSt; rw [if_pos (by omega)]; rfl
              show OneAt _ _ _ _ _ _ _ _
              rw [e]; exact HT.out
            clear HT HR
            go_wp2_with fail
            go_loopw [13] (fun t13 wr => ∃ i : Nat, i ≤ L.length ∧ t13 = .int .i64 (i : Nat) ∧ Hid (OneAt R (.pointer (some ar)) X L w4 (fun _ => False) (FSt L k i) wr)) (fun t13 _ => L.length - (intOf t13).toNat)
            case atStart => exact ⟨0, by omega, rfl, HT0⟩
            case round =>
              obtain ⟨i, hi, rfl, HT⟩ := hrel
              by_cases hlt : i < L.length
              · have hst := fst_step (i := i) HOK.out (by omega) (by omega)
                by_cases hik : i < k
                · obtain ⟨f, hf⟩ : ∃ f, l[i]? = some f := ⟨_, List.getElem?_eq_getElem (by omega)⟩
                  obtain ⟨ad, rfl, hab, hcell⟩ := HL.out i f hf
                  have hgd : (decide (i < k) && l.getD i false) = f := by simp [hik, List.getD, hf]
                  rw [hgd] at hst
                  obtain ⟨m, hm⟩ : ∃ m, m = Co.fin (FSt L k (i + 1)) := ⟨_, rfl⟩
                  have hm12 : (m : Int) ≠ 12 := by
                    rw [hm, hst.2, if_neg (by omega)]
                    split <;> decide
                  have HFL := Lib.hid hst.1
                  have HFI := Lib.hid hm.symm
                  clear hst hm hgd hf
                  have HAB := Lib.hid hab
                  have HCE := Lib.hid hcell
                  clear hab hcell
                  go_wp2_with fail
                  refine (HT.out.flag HFL.out).mono ?_
                  rintro e w6 ⟨rfl, HT2⟩
                  have c0 : w6.cell? (ad.add i) = some (.bool f) := ((HBL.out.trans (HT2.out.low.mono HBL.out.size)).cell (by rw [block_of_add]; exact HAB.out)).trans HCE.out
                  clear HT HCE HAB
                  go_wp2_with fail
                  refine (HT2.out.fin HFI.out).mono ?_
                  rintro e w7 ⟨rfl, HT3⟩
                  have hki : decide (k ≤ i) = false := by simp only [decide_eq_false_iff_not]; omega
                  have hme : ((m : Int) == 12) = false := by simpa using hm12
                  go_wp2_with fail
                  go_roundw
                  case rel => exact ⟨i + 1, by omega, by go_num, HT3⟩
                  case measure => simp [intOf]; omega
                · have hgd : (decide (i < k) && l.getD i false) = false := by simp [hik]
                  rw [hgd, if_pos (by omega)] at hst
                  have HFL := Lib.hid hst.1
                  have HFI := Lib.hid hst.2
                  clear hst hgd
                  go_wp2_with fail
                  refine (HT.out.flag HFL.out).mono ?_
                  rintro e w6 ⟨rfl, HT2⟩
                  clear HT
                  go_wp2_with fail
                  refine (HT2.out.fin HFI.out).mono ?_
                  rintro e w7 ⟨rfl, HT3⟩
                  have hki : decide (k ≤ i) = true := by simp only [decide_eq_true_eq]; omega
                  go_wp2_with fail
                  go_roundw
                  case rel => exact ⟨i + 1, by omega, by go_num, HT3⟩
                  case measure => simp [intOf]; omega
              · have HB6 := Lib.hid (HBL.out.trans (HT.out.low.mono HBL.out.size))
                clear HT HT0
                go_wp2_with fail
                refine (known4_any C wr).mono ?_
                rintro e w7 ⟨rfl, hb⟩
                have HB7 := Lib.hid (HB6.out.trans (hb.mono HB6.out.size))
                clear hb
                go_wp2_with fail
                go_ret
                exact ⟨rfl, HB7.out⟩
theorem flags_int (C : WSaid) (R : RSaid codecFns) (hM : RMake R) (w : World) (l : List Bool) (A1 : Option Addr) (c1 : Nat) (hl : RdB w A1 l) (hll : l.length ≤ 9223372036854775807) (at_ : Int) (hat0 : -9223372036854775808 ≤ at_) (hat1 : at_ ≤ 9223372036854775807) (bad : Int) (hbad : 0 ≤ bad ∧ bad ≤ 255) :
    Calls Try.prog 7 #[.slice A1 l.length c1, .int .i64 at_, .int .u8 bad] w fun e w' => e = .returned (.bool true) ∧ Below w.heap.size w w' := by
  obtain ⟨t, rfl⟩ := u8_of bad hbad
  exact flags_any C R hM w l A1 c1 hl hll at_ hat0 hat1 t
end Go.Proofs.Ytpnnikifaalkoaa

/-
  OWN WORK. The law CrcTurned, walked, given what package crc's calls do.
-/
import Derived.Test.YtdopgnfggpdfoaaDoorCrTurn
namespace Go.Proofs.YtdopgnfggpdfoaaDoor
open Go.RowKit Cr

set_option maxHeartbeats 8000000 in
set_option maxRecDepth 100000 in
theorem turned_any (hS : SumSaid) (hM : MoreSaid) (w : World) (a ts : List UInt8) (y : Int) (A1 A2 : Option Addr) (c1 c2 : Nat) (hra : Rd w A1 a) (hca : a.length ≤ c1) (hla : a.length ≤ 9223372036854775807) (hy : -9223372036854775808 ≤ y ∧ y ≤ 9223372036854775807) (hrt : Rd w A2 ts) (hct : ts.length ≤ c2) (hlt : ts.length ≤ 9223372036854775807) (hE : Env w) :
    Calls Tryd.prog 5 #[.slice A1 a.length c1, .int .i64 y, .slice A2 ts.length c2] w fun e w' => e = .returned (.bool true) ∧ Below w.heap.size w w' := by
  have HS : Hid SumSaid := hS
  have HM : Hid MoreSaid := hM
  have HE : Hid (Env w) := hE
  clear hS hM hE
  obtain ⟨i0, hi, hz0, hz1, hz2⟩ := info_parts Tryd.infoU8
  have HI0 := Lib.hid hi
  have HZ0 := Lib.hid hz0
  have HZ1 := Lib.hid hz1
  have HZ2 := Lib.hid hz2
  have HA : Hid (Rd w A1 a) := hra
  have HT : Hid (Rd w A2 ts) := hrt
  have HY := Lib.hid hy
  have HL1 := Lib.hid hca
  have HL3 := Lib.hid hla
  clear hra hrt hy hca hla hi hz0 hz1 hz2
  go_enter Tryd.func5, Tryd.ntmps5
  go_wp2_with fail
  refine (cut_to A1 a c1 300 _ HA.out HL1.out (by omega) HL3.out).mono ?_
  clear HL1 HL3 HA
  rintro e w' ⟨b, rfl, rfl, hb2, hcb, HRb⟩
  go_upto_if 15 with (fail)
  by_cases hb0 : b.length = 0
  · go_wp2_with fail
    refine (known_any HS.out _ HE.out).mono ?_
    rintro e w1 ⟨rfl, hb⟩
    have HB : Hid (Later w w1) := hb
    clear hb
    go_wp2_with fail
    go_ret
    exact ⟨rfl, HB.out⟩
  · have hbp : 0 < b.length := by omega
    go_wp2_with fail
    refine (within_nat y 0 (b.length - 1) 0 (b.length - 1) _ (by simp) (by omega) (by omega) (by omega) HY.out.1 HY.out.2).mono ?_
    rintro e w' ⟨k, _, hk, rfl, rfl⟩
    have H0 : Hid (MAt w.heap.size (.slice (some ⟨w.heap.size, 0, none⟩) 0 0) [] w (w.alloc (.cells #[] 5))) :=
      ⟨⟨rfl, .inr ⟨w.heap.size, 0, #[], rfl, Nat.le_refl _, heap_alloc_new w _, Nat.le_refl _, by unfold maxLen; omega, rfl, rfl⟩⟩, below_new w _, rfl⟩
    have HRW : Hid (Rd (w.alloc (.cells #[] 5)) A1 b) := HRb.out.below (below_new w _)
    go_wp2_with (at_builtin; refine wpList_append_rd rfl (.tmp 22) (.tmp 23) 22 rfl w.heap.size 5 i0 Tryd.underlying22 HI0.out HZ0.out HZ1.out HZ2.out _ 0 [] rfl H0.out.1 A1 b b.length c1 rfl rfl HRW.out (by omega) (by rw [World.size_alloc]; omega) ?_; intro v1 w1 HO1 HG1)
    have HM : Hid (MAt w.heap.size v1 b w w1) := H0.out.push (Below.refl _ _) HO1.out HG1.out
    clear HO1 HG1 H0 HRW
    obtain ⟨g, c, e, _⟩ := HM.out.form hbp
    subst e
    have HX : Hid (w1.ownsRow w.heap.size 5 1 (.slice (some ⟨g, 0, none⟩) b.length c) b.length (Lib.byteCells (turnTo b ts k 0))) := HM.out.1
    have HL : Hid (Later w w1) := HM.out.2.1
    have hgw : w.heap.size ≤ g := HX.out.ownBlock_ge g rfl
    clear HM
    go_upto_region 8 with (fail)
    go_wp2_with fail
    go_loopw [9, 10] (fun t9 t10 wr => ∃ (i : Nat) (s : Bool), i ≤ 4 ∧ k + i ≤ b.length ∧ t10 = .int .i64 (i : Nat) ∧ t9 = .bool s ∧ Hid (s = sameB ts i) ∧ Hid (wr.ownsRow w.heap.size 5 1 (.slice (some ⟨g, 0, none⟩) b.length c) b.length (Lib.byteCells (turnTo b ts k i))) ∧ Hid (Later w wr)) (fun _ t10 _ => 4 - (intOf t10).toNat)
    case atStart => exact ⟨0, true, by omega, by omega, rfl, rfl, rfl, HX, HL⟩
    case round =>
      obtain ⟨i, s, hi4, hki, rfl, rfl, HSB, HX, HL⟩ := hrel
      by_cases hin : i < ts.length ∧ i < 4 ∧ k + i < b.length
      · obtain ⟨h1, h2, h3⟩ := hin
        obtain ⟨q, hq⟩ : ∃ q : Nat, q = k + i := ⟨_, rfl⟩
        have hq3 : q < b.length := by omega
        obtain ⟨bt, ot, rfl, _, hct1⟩ := (HL.out.rd HT.out).at_ (by omega)
        have ct := hct1 i h1
        have cx := own_byte HX.out q hq3
        have fx := own_frozen HX.out q
        rw [turnTo_get _ _ _ _ _ hq3, if_neg (by omega)] at cx
        obtain ⟨xt, hxt⟩ : ∃ y : Nat, y = (ts.getD i 0).toNat := ⟨_, rfl⟩
        obtain ⟨xb, hxb⟩ : ∃ y : Nat, y = (b.getD q 0).toNat := ⟨_, rfl⟩
        have lt : xt < 256 := by rw [hxt]; exact (ts.getD i 0).toNat_lt
        have lb : xb < 256 := by rw [hxb]; exact (b.getD q 0).toNat_lt
        have HXT := Lib.hid hxt
        rw [← hxt] at ct
        rw [← hxb] at cx
        have hx1 := bits_xor_u8 xb xt lb lt
        have HNEW : Hid (∀ W : World, W.ownsRow w.heap.size 5 1 (.slice (some ⟨g, 0, none⟩) b.length c) b.length (Lib.byteCells (turnTo b ts k i)) → (W.setCell ⟨g, q, none⟩ (.int .u8 ((xb ^^^ xt : Nat) : Int))).ownsRow w.heap.size 5 1 (.slice (some ⟨g, 0, none⟩) b.length c) b.length (Lib.byteCells (turnTo b ts k (i + 1)))) := by
          intro W hW
          have h := own_set hW q hq3 (b.getD q 0 ^^^ ts.getD i 0) ((xb ^^^ xt : Nat) : Int) (by rw [UInt8.toNat_xor, ← hxt, ← hxb])
          rw [hq] at h ⊢
          exact h
        have hki2 : ((k : Int) + (i : Int)) = (q : Int) := by omega
        have b1 : (i : Int) < (ts.length : Int) := by omega
        have b2 : (q : Int) < (b.length : Int) := by omega
        have b3 : (0 : Int) ≤ (i : Int) := by omega
        have b4 : (0 : Int) ≤ (q : Int) := by omega
        have HQ := Lib.hid hq
        have vq : IntKind.i64.wrap ((q : Nat) : Int) = (q : Int) := IntWalk.i64_in _ (by omega)
        clear hxt hxb hct1 h3 hq lt lb
        go_upto_region 10 with (fail)
        go_still_tail 12, (by kernel_rfl)
        change wpList _ _ _ _ _ wr.drew
        have HX2 : Hid (wr.drew.ownsRow w.heap.size 5 1 (.slice (some ⟨g, 0, none⟩) b.length c) b.length (Lib.byteCells (turnTo b ts k i))) := HX.out
        have HL2 : Hid (Later w wr.drew) := ⟨HL.out.os, HL.out.tape, HL.out.output, HL.out.size, HL.out.block⟩
        have cx : wr.drew.cell? ⟨g, q, none⟩ = some (.int .u8 (xb : Nat)) := cx
        have fx : wr.drew.frozen? ⟨g, q, none⟩ = false := fx
        generalize wr.drew = W at *
        clear HX HL ct
        clear vq
        go_upto_region 11 with (fail)
        refine wp_world (fun W' => Hid (W'.ownsRow w.heap.size 5 1 (.slice (some ⟨g, 0, none⟩) b.length c) b.length (Lib.byteCells (turnTo b ts k (i + 1)))) ∧ Hid (Later w W')) ⟨HNEW.out _ HX2.out, HL2.out.setCell _ hgw _⟩ ?_
        clear HNEW HX2 HL2 cx fx hx1
        rintro W' ⟨HX, HL⟩
        have ct := (HL.out.rd HT.out).byte i h1
        rw [← HXT.out] at ct
        have HZ : Hid (∀ s', s' = (s && (ts.getD i 0 == 0)) → s' = sameB ts (i + 1)) := by
          intro s' h
          rw [h, HSB.out]; rfl
        have HXZ : Hid ((ts.getD i 0 == 0) = decide (xt = 0)) := by
          show _ = _
          rw [HXT.out, Bool.eq_iff_iff]
          simp only [beq_iff_eq, decide_eq_true_eq]
          exact ⟨fun h => by rw [h]; rfl, fun h => UInt8.toNat_inj.1 h⟩
        cases s with
        | false =>
          go_wp2_with fail
          go_roundw
          case rel => exact ⟨i + 1, false, by omega, by have := HQ.out; omega, by go_num, rfl, HZ.out _ rfl, HX, HL⟩
          case measure => simp [intOf]; omega
        | true =>
          by_cases hz : xt = 0
          · have HZ2 : Hid (true = sameB ts (i + 1)) := HZ.out _ (by rw [HXZ.out, hz]; rfl)
            subst hz
            go_wp2_with fail
            go_roundw
            case rel => exact ⟨i + 1, true, by omega, by have := HQ.out; omega, by go_num, rfl, HZ2, HX, HL⟩
            case measure => simp [intOf]; omega
          · have HZ2 : Hid (false = sameB ts (i + 1)) := HZ.out _ (by rw [HXZ.out]; simp [hz])
            have tz : (((xt : Nat) : Int) == 0) = false := by rw [beq_eq_false_iff_ne]; omega
            clear hz
            go_wp2_with fail
            go_roundw
            case rel => exact ⟨i + 1, false, by omega, by have := HQ.out; omega, by go_num, rfl, HZ2, HX, HL⟩
            case measure => simp [intOf]; omega
      · have hx3 : (¬ i < ts.length) ∨ (i < ts.length ∧ ¬ i < 4) ∨ (i < ts.length ∧ i < 4 ∧ ¬ k + i < b.length) := by omega
        have HSUM : Hid (Cr.sum (turnTo b ts k i) = Cr.sum b ↔ s = true) := by show _ ↔ _; rw [HSB.out]; exact turned_sum b ts k i hi4 hki
        have hsx := HS.out wr (turnTo b ts k i) (some ⟨g, 0, none⟩) c (HL.out.env HE.out)
        have HRX : Hid (Rd wr (some ⟨g, 0, none⟩) (turnTo b ts k i) ∧ b.length ≤ c) := by
          have h1 := rd_own HX.out hbp
          obtain ⟨g', c', e, h2, _, _, _, h3⟩ := h1
          injection e with e1 _ e2
          injection e1 with e1
          injection e1 with e1
          subst e1 e2
          exact ⟨h3, h2⟩
        have HSX : Hid (Calls Tryd.prog 7 #[.slice (some ⟨g, 0, none⟩) b.length c] wr fun e w' => e = .returned (.int .u32 (Cr.sum (turnTo b ts k i) : Nat)) ∧ Below wr.heap.size wr w') := by
          have h := hsx HRX.out.1 (by rw [turnTo_length]; exact HRX.out.2) (by rw [turnTo_length]; omega)
          rw [turnTo_length] at h
          exact h
        clear hin hsx HRX HX
        generalize Cr.sum (turnTo b ts k i) = sx at *
        rcases hx3 with h1 | ⟨h1, h2⟩ | ⟨h1, h2, h3⟩
        all_goals
          go_wp2_with fail
          refine HSX.out.mono ?_
          rintro e w2 ⟨rfl, hb⟩
          have HL2 : Hid (Later w w2) := HL.out.trans hb
          clear hb
          go_wp2_with fail
          refine (HS.out w2 b A1 c1 (HL2.out.env HE.out) (HL2.out.rd HRb.out) hcb (by omega)).mono ?_
          rintro e w3 ⟨rfl, hb⟩
          have HL3 : Hid (Later w w3) := HL2.out.trans hb
          clear hb HL2
          generalize Cr.sum b = sb at *
          cases s with
          | true =>
            obtain rfl : sx = sb := HSUM.out.2 rfl
            go_wp2_with fail
            refine (known_any HS.out w3 (HL3.out.env HE.out)).mono ?_
            rintro e w4 ⟨rfl, hb⟩
            have HL4 : Hid (Later w w4) := HL3.out.trans hb
            clear hb
            go_wp2_with fail
            go_ret
            exact ⟨rfl, HL4.out⟩
          | false =>
            have hne : ((sx : Int) == (sb : Int)) = false := by
              rw [beq_eq_false_iff_ne]
              intro e
              have := HSUM.out.1 (by omega)
              cases this
            go_wp2_with fail
            refine (known_any HS.out w3 (HL3.out.env HE.out)).mono ?_
            rintro e w4 ⟨rfl, hb⟩
            have HL4 : Hid (Later w w4) := HL3.out.trans hb
            clear hb
            go_wp2_with fail
            go_ret
            exact ⟨rfl, HL4.out⟩
end Go.Proofs.YtdopgnfggpdfoaaDoor

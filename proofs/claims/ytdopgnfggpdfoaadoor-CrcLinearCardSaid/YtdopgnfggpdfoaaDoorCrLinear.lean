/-
  OWN WORK. The law CrcLinear, walked, given what package crc's calls do.
-/
import Derived.Test.YtdopgnfggpdfoaaDoorCrLin
namespace Go.Proofs.YtdopgnfggpdfoaaDoor
open Go.RowKit Cr

set_option maxHeartbeats 8000000 in
set_option maxRecDepth 100000 in
theorem linear_any (hS : SumSaid) (hM : MoreSaid) (w : World) (a b : List UInt8) (x y1 y2 : Int) (A1 A2 : Option Addr) (c1 c2 : Nat) (hra : Rd w A1 a) (hca : a.length ≤ c1) (hla : a.length ≤ 9223372036854775807) (hrb : Rd w A2 b) (hcb : b.length ≤ c2) (hlb : b.length ≤ 9223372036854775807) (hx : 0 ≤ x ∧ x ≤ 255) (hy1 : -9223372036854775808 ≤ y1 ∧ y1 ≤ 9223372036854775807) (hy2 : -9223372036854775808 ≤ y2 ∧ y2 ≤ 9223372036854775807) (hE : Env w) :
    Calls Tryd.prog 6 #[.slice A1 a.length c1, .slice A2 b.length c2, .int .u8 x, .int .i64 y1, .int .i64 y2] w fun e w' => e = .returned (.bool true) ∧ Below w.heap.size w w' := by
  have HS : Hid SumSaid := hS
  have HM : Hid MoreSaid := hM
  have HE : Hid (Env w) := hE
  clear hS hM hE
  have HA : Hid (Rd w A1 a) := hra
  have HB : Hid (Rd w A2 b) := hrb
  have HX := Lib.hid hx
  have HY1 := Lib.hid hy1
  have HY2 := Lib.hid hy2
  clear hra hrb hx hy1 hy2
  go_enter Tryd.func6, Tryd.ntmps6
  go_upto_if 20 with (fail)
  have HL0 : Hid (Later w w) := Later.refl _
  go_cut [11] (fun t11 wx => ∃ n : Nat, n ≤ a.length ∧ n ≤ b.length ∧ t11 = .int .i64 (n : Nat) ∧ Hid (Later w wx))
  case first =>
    by_cases h : b.length < a.length
    · go_wp2_with fail
      go_meet
      case rel => exact ⟨b.length, by omega, by omega, rfl, HL0⟩
    · go_wp2_with fail
      go_meet
      case rel => exact ⟨a.length, by omega, by omega, rfl, HL0⟩
  case rest =>
    clear HL0
    obtain ⟨n0, hn1, hn2, rfl, HL0⟩ := hcut
    go_upto_if 24 with (fail)
    go_cut [11] (fun t11 wx => ∃ n : Nat, n ≤ a.length ∧ n ≤ b.length ∧ n ≤ 300 ∧ t11 = .int .i64 (n : Nat) ∧ Hid (Later w wx))
    case first =>
      by_cases h : 300 < n0
      · go_wp2_with fail
        go_meet
        case rel => exact ⟨300, by omega, by omega, by omega, rfl, HL0⟩
      · go_wp2_with fail
        go_meet
        case rel => exact ⟨n0, by omega, by omega, by omega, rfl, HL0⟩
    case rest =>
      clear HL0
      obtain ⟨n, hna, hnb, hn300, rfl, HL0⟩ := hcut
      generalize wc = w1 at *
      clear hn1 hn2
      obtain ⟨ra, hsla, hrac, HRDA, HEQA, HLNA, _⟩ := part_h A1 a c1 n hna hca
      obtain ⟨rb, hslb, hrbc, HRDB, HEQB, HLNB, _⟩ := part_h A2 b c2 n hnb hcb
      have HRa : Hid (Rd w1 A1 ra) := HRDA.out _ (HL0.out.rd HA.out)
      have HRb : Hid (Rd w1 A2 rb) := HRDB.out _ (HL0.out.rd HB.out)
      have HRA0 : Hid (Rd w1 A1 a) := HL0.out.rd HA.out
      have HE1 : Hid (Env w1) := HL0.out.env HE.out
      have lra : ra.length ≤ 300 := by have := HLNA.out; omega
      have lrb : rb.length ≤ 300 := by have := HLNB.out; omega
      obtain ⟨X0, hX0⟩ : ∃ m : Nat, (m : Int) = x := ⟨x.toNat, by have := HX.out; omega⟩
      have hX255 : X0 ≤ 255 := by have := HX.out; omega
      obtain ⟨Lc, hLc⟩ : ∃ l, l = cList X0 n := ⟨_, rfl⟩
      obtain ⟨Ld, hLd⟩ : ∃ l, l = dList ra rb Lc := ⟨_, rfl⟩
      have hlc : Lc.length = n := by rw [hLc, cList_length]
      have hld : Ld.length = n := by rw [hLd, dList_length _ _ _ n HLNA.out HLNB.out hlc]
      have HGC : Hid (∀ k, k < n → ((Lc.getD k 0).toNat : Int) = ((X0 : Int) + k) % 256) := by intro k hk; rw [hLc]; exact cList_get X0 n k hk
      have HGD : Hid (∀ k, k < n → (Ld.getD k 0).toNat = (ra.getD k 0).toNat ^^^ (rb.getD k 0).toNat ^^^ (Lc.getD k 0).toNat) := by intro k hk; rw [hLd]; exact dList_get _ _ _ n k HLNA.out HLNB.out hlc hk
      have H3 : Hid (Cr.sum ra ^^^ Cr.sum rb ^^^ Cr.sum Lc = Cr.sum Ld) := by show _ = _; rw [hLd]; exact three _ _ _ n HLNA.out HLNB.out hlc
      have HLC := Lib.hid hlc
      have HLD := Lib.hid hld
      clear hLc hLd hlc hld
      subst hX0
      go_upto_region 6 with (fail)
      refine Rg.wp_region_facts (by kernel_rfl) (fun opn => List.getD [Rg.val (.int .i64 (n : Nat)), bRow (List.replicate n 0), Rg.val (.int .i64 (n : Nat)), bRow (List.replicate n 0), Rg.any, Rg.any] opn Rg.any) [(4, 1, fun v => v), (5, 3, fun v => v)] [[], [(0, 25)], [], [(2, 27)], [(1, 26)], [(3, 28)]] [] (by kernel_rfl) (by rfl) (by kernel_rfl) ?_ ?_
      · intro fr ha
        have hz : fr.tmps.size = 102 := by rw [ha]; rfl
        have y11 : fr.eval (.tmp 11) = .int .i64 (n : Nat) := by rw [ha]; rfl
        clear ha
        refine .cons ?_ (.cons ?_ (.cons ?_ (.cons ?_ (.cons ?_ (.cons ?_ (.nil))))))
        · intro V w2 HL HH
          have HL : Later w1 w2 := HL
          have tb11 : (Rg.putUse V [] fr).eval (.tmp 11) = .int .i64 (n : Nat) := (Rg.use_eval V fr 11 [] (by simp only [hz]; decide)).trans y11
          show Rg.Does1 _ _ V (Rg.putUse V [] fr) w2 _
          exact step_mv (.int .i64 (n : Nat)) (by simp only [execOp, tb11]; go_simp) rfl rfl rfl True.intro
        · intro V w2 HL HH
          have HL : Later w1 w2 := HL
          have h0 : V 0 = .int .i64 (n : Nat) := HH.1
          have tb25 : (Rg.putUse V [(0, 25)] fr).eval (.tmp 25) = .int .i64 (n : Nat) := (Rg.use_eval V fr 25 [(0, 25)] (by simp only [hz]; decide)).trans h0
          show Rg.Does1 _ _ V (Rg.putUse V [(0, 25)] fr) w2 _
          exact step_make n rfl tb25 tb25 (by omega) rfl rfl rfl True.intro
        · intro V w2 HL HH
          have HL : Later w1 w2 := HL
          have tb11 : (Rg.putUse V [] fr).eval (.tmp 11) = .int .i64 (n : Nat) := (Rg.use_eval V fr 11 [] (by simp only [hz]; decide)).trans y11
          show Rg.Does1 _ _ V (Rg.putUse V [] fr) w2 _
          exact step_mv (.int .i64 (n : Nat)) (by simp only [execOp, tb11]; go_simp) rfl rfl rfl True.intro
        · intro V w2 HL HH
          have HL : Later w1 w2 := HL
          have h2 : V 2 = .int .i64 (n : Nat) := HH.1
          have tb27 : (Rg.putUse V [(2, 27)] fr).eval (.tmp 27) = .int .i64 (n : Nat) := (Rg.use_eval V fr 27 [(2, 27)] (by simp only [hz]; decide)).trans h2
          show Rg.Does1 _ _ V (Rg.putUse V [(2, 27)] fr) w2 _
          exact step_make n rfl tb27 tb27 (by omega) rfl rfl rfl True.intro
        · intro V w2 HL HH
          have HL : Later w1 w2 := HL
          have h1 : (bRow (List.replicate n 0)).holds (V 1) w2 := HH.1
          obtain ⟨X1, k1, e1, hc1, hr1⟩ := bRow_form h1
          have tb26 : (Rg.putUse V [(1, 26)] fr).eval (.tmp 26) = V 1 := (Rg.use_eval V fr 26 [(1, 26)] (by simp only [hz]; decide)).trans rfl
          show Rg.Does1 _ _ V (Rg.putUse V [(1, 26)] fr) w2 _
          exact step_as 1 (fun v => v) rfl (by simp only [execOp, tb26]; go_simp) rfl rfl True.intro
        · intro V w2 HL HH
          have HL : Later w1 w2 := HL
          have h3 : (bRow (List.replicate n 0)).holds (V 3) w2 := HH.1
          obtain ⟨X3, k3, e3, hc3, hr3⟩ := bRow_form h3
          have tb28 : (Rg.putUse V [(3, 28)] fr).eval (.tmp 28) = V 3 := (Rg.use_eval V fr 28 [(3, 28)] (by simp only [hz]; decide)).trans rfl
          show Rg.Does1 _ _ V (Rg.putUse V [(3, 28)] fr) w2 _
          exact step_as 3 (fun v => v) rfl (by simp only [execOp, tb28]; go_simp) rfl rfl True.intro
      · intro V w2 HI
        simp only [Rg.putList, Act.put, List.setIfInBounds_toArray, List.set_cons_zero, List.set_cons_succ, Nat.zero_add, Nat.reduceAdd]
        have hV4 : V 4 = V 1 := HI.same 4 1 (fun v => v) (by decide) (by simp)
        have hV5 : V 5 = V 3 := HI.same 5 3 (fun v => v) (by decide) (by simp)
        have h1 : (bRow (List.replicate n 0)).holds (V 1) w2 := HI.get 1 (by decide) (by rfl)
        have h3 : (bRow (List.replicate n 0)).holds (V 3) w2 := HI.get 3 (by decide) (by rfl)
        have L1 : Rg.Live (Rg.consOf []) (fun i => i < 6) 1 := ⟨by omega, fun k _ => by simp [Rg.consOf]⟩
        have L3 : Rg.Live (Rg.consOf []) (fun i => i < 6) 3 := ⟨by omega, fun k _ => by simp [Rg.consOf]⟩
        have hf1 : ∀ b, (V 1).ownBlock = some b → w1.heap.size ≤ b ∧ (V 3).ownBlock ≠ some b := fun b hb => ⟨(HI.lt 1 b L1 hb).1, HI.sep 1 3 b L1 L3 (by decide) hb⟩
        have hf3 : ∀ b, (V 3).ownBlock = some b → w1.heap.size ≤ b ∧ (V 1).ownBlock ≠ some b := fun b hb => ⟨(HI.lt 3 b L3 hb).1, HI.sep 3 1 b L3 L1 (by decide) hb⟩
        obtain ⟨X1, k1, e1, _, _⟩ := bRow_form h1
        obtain ⟨X3, k3, e3, _, _⟩ := bRow_form h3
        rw [List.length_replicate] at e1 e3
        rw [e1] at h1 hV4 hf1 hf3
        rw [e3] at h3 hV5 hf1 hf3
        have HF : Hid (Fill w1 X1 X3 k1 k3 Lc Ld n 0 0 w2) := by
          refine ⟨later_drew HI.later, ?_, ?_, hf1, hf3⟩
          · have : w2.ownsRow 0 5 1 (.slice X1 n k1) (List.replicate n (0 : UInt8)).length (Lib.byteCells (List.replicate n 0)) := h1
            rw [List.length_replicate] at this
            simpa using this
          · have : w2.ownsRow 0 5 1 (.slice X3 n k3) (List.replicate n (0 : UInt8)).length (Lib.byteCells (List.replicate n 0)) := h3
            rw [List.length_replicate] at this
            simpa using this
        clear HI h1 h3 L1 L3 hf1 hf3 e1 e3
        rw [hV4, hV5]
        clear hV4 hV5
        go_wp2_with fail
        go_loopw [14] (fun t14 wr => ∃ k : Nat, k ≤ n ∧ t14 = .int .i64 (k : Nat) ∧ Hid (Fill w1 X1 X3 k1 k3 Lc Ld n k k wr)) (fun t14 _ => n - (intOf t14).toNat)
        case atStart => exact ⟨0, by omega, rfl, HF⟩
        case round =>
          obtain ⟨k, hk, rfl, HF⟩ := hrel
          by_cases hlt : k < n
          · obtain ⟨g1, rfl⟩ := own_addr HF.out.one (by omega)
            obtain ⟨g3, rfl⟩ := own_addr HF.out.two (by omega)
            obtain ⟨v1, hc1, hfz1, hv1⟩ := HF.out.cell1 HLC.out k hlt
            have hgc := HGC.out k hlt
            have HGK : Hid (((X0 : Int) + (k : Int) % 256) % 256 = ((Lc.getD k 0).toNat : Int)) := by show _ = _; rw [hgc]; omega
            have HGK2 : Hid (((X0 : Int) + (k : Int)) % 256 = ((Lc.getD k 0).toNat : Int)) := by show _ = _; rw [hgc]
            clear hgc
            go_upto_region 11 with (fail)
            have HF1 : Hid (Fill w1 (some ⟨g1, 0, none⟩) (some ⟨g3, 0, none⟩) k1 k3 Lc Ld n (k + 1) k (wr.setCell ⟨g1, k, none⟩ (.int .u8 (((X0 : Int) + (k : Int)) % 256)))) := HF.out.put1 HLC.out hlt _ HGK2.out
            refine wp_world (fun W => Hid (Fill w1 (some ⟨g1, 0, none⟩) (some ⟨g3, 0, none⟩) k1 k3 Lc Ld n (k + 1) k W)) HF1 ?_
            clear HF HF1 hv1 hc1 hfz1 HGK HGK2 v1
            intro W HF
            obtain ⟨ba, oa, rfl, _, hca1⟩ := (HF.out.later.rd HRa.out).at_ (by have := HLNA.out; omega)
            obtain ⟨bb, ob, rfl, _, hcb1⟩ := (HF.out.later.rd HRb.out).at_ (by have := HLNB.out; omega)
            have ca := hca1 k (by have := HLNA.out; omega)
            have cb := hcb1 k (by have := HLNB.out; omega)
            obtain ⟨vc, cc, _, hvc⟩ := HF.out.cell1 HLC.out k hlt
            obtain ⟨vd, cd, fd⟩ := HF.out.cell3 k hlt
            rw [hvc (by omega)] at cc
            have hgd := HGD.out k hlt
            obtain ⟨xa, hxa⟩ : ∃ y : Nat, y = (ra.getD k 0).toNat := ⟨_, rfl⟩
            obtain ⟨xb, hxb⟩ : ∃ y : Nat, y = (rb.getD k 0).toNat := ⟨_, rfl⟩
            obtain ⟨xc, hxc⟩ : ∃ y : Nat, y = (Lc.getD k 0).toNat := ⟨_, rfl⟩
            have la : xa < 256 := by rw [hxa]; exact (ra.getD k 0).toNat_lt
            have lb : xb < 256 := by rw [hxb]; exact (rb.getD k 0).toNat_lt
            have lc : xc < 256 := by rw [hxc]; exact (Lc.getD k 0).toNat_lt
            rw [← hxa] at ca hgd
            rw [← hxb] at cb hgd
            rw [← hxc] at cc hgd
            have HGK : Hid ((((xa ^^^ xb ^^^ xc : Nat)) : Int) = ((Ld.getD k 0).toNat : Int)) := by show _ = _; rw [hgd]
            have hx1 := bits_xor_u8 xa xb la lb
            have hx2 := bits_xor_u8 (xa ^^^ xb) xc (Nat.xor_lt_two_pow (n := 8) la lb) lc
            clear hca1 hcb1 hvc hgd hxa hxb hxc la lb lc
            have b0 : (0 : Int) ≤ (k : Int) := by omega
            have b1 : (k : Int) < (a.length : Int) := by omega
            have b2 : (k : Int) < (b.length : Int) := by omega
            have b3 : (k : Int) < (n : Int) := by omega
            go_still_tail 17, (by kernel_rfl)
            change wpList _ _ _ _ _ W.drew
            have HF : Hid (Fill w1 (some ⟨g1, 0, none⟩) (some ⟨g3, 0, none⟩) k1 k3 Lc Ld n (k + 1) k W.drew) := HF.out.drew
            have cd : W.drew.cell? ⟨g3, k, none⟩ = some (.int .u8 vd) := cd
            have fd : W.drew.frozen? ⟨g3, k, none⟩ = false := fd
            generalize W.drew = W' at *
            all_goals
              clear hx1 hx2
              go_wp2_with fail
              go_roundw
              case rel => exact ⟨k + 1, by omega, by go_num, HF.out.put3 HLD.out hlt _ HGK.out⟩
              case measure => simp [intOf]; omega
          · obtain rfl : k = n := by omega
            obtain ⟨hrc, hlc1, hrd, hld1⟩ := HF.out.full HLC.out HLD.out
            have HRC : Hid (Rd wr X1 Lc) := hrc
            have HRD2 : Hid (Rd wr X3 Ld) := hrd
            have HLW : Hid (Later w1 wr) := HF.out.later
            have HE2 : Hid (Env wr) := HLW.out.env HE1.out
            clear hrc hrd HF
            go_upto_region 12 with (fail)
            refine Rg.wp_region_facts (by kernel_rfl) (fun opn => List.getD [Rg.val (.slice A1 a.length c1), Rg.val (.int .i64 (k : Nat)), Rg.val (.slice A1 ra.length c1), Rg.val (.int .u32 ((Cr.sum ra : Nat) : Int)), Rg.val (.slice A2 b.length c2), Rg.val (.int .i64 (k : Nat)), Rg.val (.slice A2 rb.length c2), Rg.val (.int .u32 ((Cr.sum rb : Nat) : Int)), Rg.val (.int .u32 ((Cr.sum ra ^^^ Cr.sum rb : Nat) : Int)), Rg.val (.slice X1 k k1), Rg.val (.int .u32 ((Cr.sum Lc : Nat) : Int)), Rg.val (.int .u32 ((Cr.sum Ld : Nat) : Int)), Rg.val (.slice X3 k k3), Rg.val (.int .u32 ((Cr.sum Ld : Nat) : Int)), Rg.val (.bool false)] opn Rg.any) [] [[], [], [(0, 58), (1, 59)], [(2, 60)], [], [], [(4, 62), (5, 63)], [(6, 64)], [(3, 61), (7, 65)], [], [(9, 67)], [(8, 66), (10, 68)], [], [(12, 70)], [(11, 69), (13, 71)]] [] (by kernel_rfl) (by rfl) (by kernel_rfl) ?_ ?_
            · intro fr ha
              have hz : fr.tmps.size = 102 := by rw [ha]; rfl
              have y0 : fr.eval (.tmp 0) = .slice A1 a.length c1 := by rw [ha]; rfl
              have y1 : fr.eval (.tmp 1) = .slice A2 b.length c2 := by rw [ha]; rfl
              have y11 : fr.eval (.tmp 11) = .int .i64 (k : Nat) := by rw [ha]; rfl
              have y12 : fr.eval (.tmp 12) = .slice X1 k k1 := by rw [ha]; rfl
              have y13 : fr.eval (.tmp 13) = .slice X3 k k3 := by rw [ha]; rfl
              clear ha
              refine .cons ?_ (.cons ?_ (.cons ?_ (.cons ?_ (.cons ?_ (.cons ?_ (.cons ?_ (.cons ?_ (.cons ?_ (.cons ?_ (.cons ?_ (.cons ?_ (.cons ?_ (.cons ?_ (.cons ?_ (.nil)))))))))))))))
              · intro V w2 HL HH
                have HL : Later wr w2 := HL
                have tb0 : (Rg.putUse V [] fr).eval (.tmp 0) = .slice A1 a.length c1 := (Rg.use_eval V fr 0 [] (by simp only [hz]; decide)).trans y0
                show Rg.Does1 _ _ V (Rg.putUse V [] fr) w2 _
                exact step_mv (.slice A1 a.length c1) (by simp only [execOp, tb0]; go_simp) rfl rfl rfl True.intro
              · intro V w2 HL HH
                have HL : Later wr w2 := HL
                have tb11 : (Rg.putUse V [] fr).eval (.tmp 11) = .int .i64 (k : Nat) := (Rg.use_eval V fr 11 [] (by simp only [hz]; decide)).trans y11
                show Rg.Does1 _ _ V (Rg.putUse V [] fr) w2 _
                exact step_mv (.int .i64 (k : Nat)) (by simp only [execOp, tb11]; go_simp) rfl rfl rfl True.intro
              · intro V w2 HL HH
                have HL : Later wr w2 := HL
                have h0 : V 0 = .slice A1 a.length c1 := HH.1
                have h1 : V 1 = .int .i64 (k : Nat) := HH.2.1
                have tb58 : (Rg.putUse V [(0, 58), (1, 59)] fr).eval (.tmp 58) = .slice A1 a.length c1 := (Rg.use_eval V fr 58 [(0, 58), (1, 59)] (by simp only [hz]; decide)).trans h0
                have tb59 : (Rg.putUse V [(0, 58), (1, 59)] fr).eval (.tmp 59) = .int .i64 (k : Nat) := (Rg.use_eval V fr 59 [(0, 58), (1, 59)] (by simp only [hz]; decide)).trans h1
                show Rg.Does1 _ _ V (Rg.putUse V [(0, 58), (1, 59)] fr) w2 _
                exact step_slh rfl tb58 tb59 (hsla.out w2) rfl rfl rfl True.intro
              · intro V w2 HL HH
                have HL : Later wr w2 := HL
                have h2 : V 2 = .slice A1 ra.length c1 := HH.1
                have tb60 : (Rg.putUse V [(2, 60)] fr).eval (.tmp 60) = .slice A1 ra.length c1 := (Rg.use_eval V fr 60 [(2, 60)] (by simp only [hz]; decide)).trans h2
                show Rg.Does1 _ _ V (Rg.putUse V [(2, 60)] fr) w2 _
                exact step_num #[.slice A1 (ra).length c1] (.int .u32 ((Cr.sum ra : Nat) : Int)) (fun args w => Rg.call_enter Tryd.func7 (by kernel_rfl) (by kernel_rfl) args w) rfl (by simp only [List.map_toArray, List.map_cons, List.map_nil, tb60]) rfl rfl rfl True.intro (HS.out _ ra A1 c1 (HL.env HE2.out) ((HLW.out.trans HL).rd HRa.out) (hrac) (by first | omega | (simp; done) | (simp; omega)))
              · intro V w2 HL HH
                have HL : Later wr w2 := HL
                have tb1 : (Rg.putUse V [] fr).eval (.tmp 1) = .slice A2 b.length c2 := (Rg.use_eval V fr 1 [] (by simp only [hz]; decide)).trans y1
                show Rg.Does1 _ _ V (Rg.putUse V [] fr) w2 _
                exact step_mv (.slice A2 b.length c2) (by simp only [execOp, tb1]; go_simp) rfl rfl rfl True.intro
              · intro V w2 HL HH
                have HL : Later wr w2 := HL
                have tb11 : (Rg.putUse V [] fr).eval (.tmp 11) = .int .i64 (k : Nat) := (Rg.use_eval V fr 11 [] (by simp only [hz]; decide)).trans y11
                show Rg.Does1 _ _ V (Rg.putUse V [] fr) w2 _
                exact step_mv (.int .i64 (k : Nat)) (by simp only [execOp, tb11]; go_simp) rfl rfl rfl True.intro
              · intro V w2 HL HH
                have HL : Later wr w2 := HL
                have h4 : V 4 = .slice A2 b.length c2 := HH.1
                have h5 : V 5 = .int .i64 (k : Nat) := HH.2.1
                have tb62 : (Rg.putUse V [(4, 62), (5, 63)] fr).eval (.tmp 62) = .slice A2 b.length c2 := (Rg.use_eval V fr 62 [(4, 62), (5, 63)] (by simp only [hz]; decide)).trans h4
                have tb63 : (Rg.putUse V [(4, 62), (5, 63)] fr).eval (.tmp 63) = .int .i64 (k : Nat) := (Rg.use_eval V fr 63 [(4, 62), (5, 63)] (by simp only [hz]; decide)).trans h5
                show Rg.Does1 _ _ V (Rg.putUse V [(4, 62), (5, 63)] fr) w2 _
                exact step_slh rfl tb62 tb63 (hslb.out w2) rfl rfl rfl True.intro
              · intro V w2 HL HH
                have HL : Later wr w2 := HL
                have h6 : V 6 = .slice A2 rb.length c2 := HH.1
                have tb64 : (Rg.putUse V [(6, 64)] fr).eval (.tmp 64) = .slice A2 rb.length c2 := (Rg.use_eval V fr 64 [(6, 64)] (by simp only [hz]; decide)).trans h6
                show Rg.Does1 _ _ V (Rg.putUse V [(6, 64)] fr) w2 _
                exact step_num #[.slice A2 (rb).length c2] (.int .u32 ((Cr.sum rb : Nat) : Int)) (fun args w => Rg.call_enter Tryd.func7 (by kernel_rfl) (by kernel_rfl) args w) rfl (by simp only [List.map_toArray, List.map_cons, List.map_nil, tb64]) rfl rfl rfl True.intro (HS.out _ rb A2 c2 (HL.env HE2.out) ((HLW.out.trans HL).rd HRb.out) (hrbc) (by first | omega | (simp; done) | (simp; omega)))
              · intro V w2 HL HH
                have HL : Later wr w2 := HL
                have h3 : V 3 = .int .u32 ((Cr.sum ra : Nat) : Int) := HH.1
                have h7 : V 7 = .int .u32 ((Cr.sum rb : Nat) : Int) := HH.2.1
                have tb61 : (Rg.putUse V [(3, 61), (7, 65)] fr).eval (.tmp 61) = .int .u32 ((Cr.sum ra : Nat) : Int) := (Rg.use_eval V fr 61 [(3, 61), (7, 65)] (by simp only [hz]; decide)).trans h3
                have tb65 : (Rg.putUse V [(3, 61), (7, 65)] fr).eval (.tmp 65) = .int .u32 ((Cr.sum rb : Nat) : Int) := (Rg.use_eval V fr 65 [(3, 61), (7, 65)] (by simp only [hz]; decide)).trans h7
                show Rg.Does1 _ _ V (Rg.putUse V [(3, 61), (7, 65)] fr) w2 _
                have hx := bits_xor_nat (Cr.sum ra) (Cr.sum rb) (sum_lt _) (sum_lt _)
                exact step_mv (.int .u32 ((Cr.sum ra ^^^ Cr.sum rb : Nat) : Int)) (by simp only [execOp, tb61, tb65]; go_simp) rfl rfl rfl True.intro
              · intro V w2 HL HH
                have HL : Later wr w2 := HL
                have tb12 : (Rg.putUse V [] fr).eval (.tmp 12) = .slice X1 k k1 := (Rg.use_eval V fr 12 [] (by simp only [hz]; decide)).trans y12
                show Rg.Does1 _ _ V (Rg.putUse V [] fr) w2 _
                exact step_mv (.slice X1 k k1) (by simp only [execOp, tb12]; go_simp) rfl rfl rfl True.intro
              · intro V w2 HL HH
                have HL : Later wr w2 := HL
                have h9 : V 9 = .slice X1 k k1 := HH.1
                have tb67 : (Rg.putUse V [(9, 67)] fr).eval (.tmp 67) = .slice X1 k k1 := (Rg.use_eval V fr 67 [(9, 67)] (by simp only [hz]; decide)).trans h9
                show Rg.Does1 _ _ V (Rg.putUse V [(9, 67)] fr) w2 _
                exact step_num #[.slice X1 k k1] (.int .u32 ((Cr.sum Lc : Nat) : Int)) (fun args w => Rg.call_enter Tryd.func7 (by kernel_rfl) (by kernel_rfl) args w) rfl (by simp only [List.map_toArray, List.map_cons, List.map_nil, tb67]) rfl rfl rfl True.intro ((by have h := HS.out w2 Lc X1 k1 (HL.env HE2.out) (HL.rd HRC.out) hlc1 (by have := HLC.out; omega); rw [HLC.out] at h; exact h))
              · intro V w2 HL HH
                have HL : Later wr w2 := HL
                have h8 : V 8 = .int .u32 ((Cr.sum ra ^^^ Cr.sum rb : Nat) : Int) := HH.1
                have h10 : V 10 = .int .u32 ((Cr.sum Lc : Nat) : Int) := HH.2.1
                have tb66 : (Rg.putUse V [(8, 66), (10, 68)] fr).eval (.tmp 66) = .int .u32 ((Cr.sum ra ^^^ Cr.sum rb : Nat) : Int) := (Rg.use_eval V fr 66 [(8, 66), (10, 68)] (by simp only [hz]; decide)).trans h8
                have tb68 : (Rg.putUse V [(8, 66), (10, 68)] fr).eval (.tmp 68) = .int .u32 ((Cr.sum Lc : Nat) : Int) := (Rg.use_eval V fr 68 [(8, 66), (10, 68)] (by simp only [hz]; decide)).trans h10
                show Rg.Does1 _ _ V (Rg.putUse V [(8, 66), (10, 68)] fr) w2 _
                have hx := (bits_xor_nat (Cr.sum ra ^^^ Cr.sum rb) (Cr.sum Lc) (Nat.xor_lt_two_pow (n := 32) (sum_lt _) (sum_lt _)) (sum_lt _)).trans (congrArg (fun x : Nat => (x : Int)) H3.out)
                exact step_mv (.int .u32 ((Cr.sum Ld : Nat) : Int)) (by simp only [execOp, tb66, tb68]; go_simp) rfl rfl rfl True.intro
              · intro V w2 HL HH
                have HL : Later wr w2 := HL
                have tb13 : (Rg.putUse V [] fr).eval (.tmp 13) = .slice X3 k k3 := (Rg.use_eval V fr 13 [] (by simp only [hz]; decide)).trans y13
                show Rg.Does1 _ _ V (Rg.putUse V [] fr) w2 _
                exact step_mv (.slice X3 k k3) (by simp only [execOp, tb13]; go_simp) rfl rfl rfl True.intro
              · intro V w2 HL HH
                have HL : Later wr w2 := HL
                have h12 : V 12 = .slice X3 k k3 := HH.1
                have tb70 : (Rg.putUse V [(12, 70)] fr).eval (.tmp 70) = .slice X3 k k3 := (Rg.use_eval V fr 70 [(12, 70)] (by simp only [hz]; decide)).trans h12
                show Rg.Does1 _ _ V (Rg.putUse V [(12, 70)] fr) w2 _
                exact step_num #[.slice X3 k k3] (.int .u32 ((Cr.sum Ld : Nat) : Int)) (fun args w => Rg.call_enter Tryd.func7 (by kernel_rfl) (by kernel_rfl) args w) rfl (by simp only [List.map_toArray, List.map_cons, List.map_nil, tb70]) rfl rfl rfl True.intro ((by have h := HS.out w2 Ld X3 k3 (HL.env HE2.out) (HL.rd HRD2.out) hld1 (by have := HLD.out; omega); rw [HLD.out] at h; exact h))
              · intro V w2 HL HH
                have HL : Later wr w2 := HL
                have h11 : V 11 = .int .u32 ((Cr.sum Ld : Nat) : Int) := HH.1
                have h13 : V 13 = .int .u32 ((Cr.sum Ld : Nat) : Int) := HH.2.1
                have tb69 : (Rg.putUse V [(11, 69), (13, 71)] fr).eval (.tmp 69) = .int .u32 ((Cr.sum Ld : Nat) : Int) := (Rg.use_eval V fr 69 [(11, 69), (13, 71)] (by simp only [hz]; decide)).trans h11
                have tb71 : (Rg.putUse V [(11, 69), (13, 71)] fr).eval (.tmp 71) = .int .u32 ((Cr.sum Ld : Nat) : Int) := (Rg.use_eval V fr 71 [(11, 69), (13, 71)] (by simp only [hz]; decide)).trans h13
                show Rg.Does1 _ _ V (Rg.putUse V [(11, 69), (13, 71)] fr) w2 _
                exact step_mv (.bool false) (by simp only [execOp, tb69, tb71]; go_simp) rfl rfl rfl True.intro
            · intro V w2 HI
              have h14 : V 14 = .bool false := HI.get 14 (by decide) (by rfl)
              simp only [Rg.putList, Act.put, List.setIfInBounds_toArray, List.set_cons_zero, List.set_cons_succ, Nat.zero_add, Nat.reduceAdd]
              rw [h14]
              have HL3 : Hid (Later w1 w2) := HLW.out.trans (later_drew HI.later)
              clear HI
              go_wp2_with fail
              refine (within_nat y1 0 k 0 k _ (by simp) rfl (by omega) (by omega) HY1.out.1 HY1.out.2).mono ?_
              rintro e w' ⟨i, _, hi, rfl, rfl⟩
              go_wp2_with fail
              refine (within_nat y2 i k i k _ rfl rfl hi (by omega) HY2.out.1 HY2.out.2).mono ?_
              rintro e w' ⟨j, hij, hj, rfl, rfl⟩
              obtain ⟨p1, hs1, hp1c, HP1, HQ1, HN1, _⟩ := part_h A1 a c1 i (by omega) hca
              obtain ⟨B2, p2, d2, hs2, hp2c, HP2, _, HQ2, _, _⟩ := part_lh A1 a c1 i j hij (by omega) hca
              obtain ⟨B3, p3, d3, hs3, hp3c, HP3, _, HQ3, _, _⟩ := part_lh A1 a c1 j k hj hna hca
              have HQ : Hid (p1 ++ p2 ++ p3 = ra) := by show _ = _; rw [HEQA.out, HQ3.out, HQ2.out, HQ1.out]
              have l1 : p1.length ≤ 300 := by have := HN1.out; omega
              have l2 : p2.length ≤ 300 := by have := congrArg List.length HQ2.out; rw [List.length_append, List.length_take, List.length_take] at this; omega
              have l3 : p3.length ≤ 300 := by have := congrArg List.length HQ3.out; rw [List.length_append, List.length_take, List.length_take] at this; omega
              have HE3 : Hid (Env w2) := HL3.out.env HE1.out
              have HA3 : Hid (Rd w2 A1 a) := HL3.out.rd HRA0.out
              have HR3 : Hid (Rd w2 A1 ra) := HL3.out.rd HRa.out
              generalize w2 = w5 at *
              go_upto_region 16 with (fail)
              refine Rg.wp_region_facts (by kernel_rfl) (fun opn => List.getD [Rg.val (.slice A1 a.length c1), Rg.val (.int .i64 (i : Nat)), Rg.val (.slice A1 p1.length c1), Rg.val (.int .u32 ((Cr.sum p1 : Nat) : Int)), Rg.val (.slice A1 a.length c1), Rg.val (.int .i64 (i : Nat)), Rg.val (.int .i64 (j : Nat)), Rg.val (.slice B2 p2.length d2), Rg.val (.int .u32 ((Cr.sum (p1 ++ p2) : Nat) : Int)), Rg.val (.slice A1 a.length c1), Rg.val (.int .i64 (j : Nat)), Rg.val (.int .i64 (k : Nat)), Rg.val (.slice B3 p3.length d3), Rg.val (.int .u32 ((Cr.sum ra : Nat) : Int)), Rg.val (.slice A1 a.length c1), Rg.val (.int .i64 (k : Nat)), Rg.val (.slice A1 ra.length c1), Rg.val (.int .u32 ((Cr.sum ra : Nat) : Int)), Rg.val (.bool true), Rg.val (.bool true), Rg.val (.bool true), Rg.val (.bool true), Rg.val (.bool true)] opn Rg.any) [] [[], [], [(0, 80), (1, 81)], [(2, 82)], [], [], [], [(4, 84), (5, 85), (6, 86)], [(3, 83), (7, 87)], [], [], [], [(9, 89), (10, 90), (11, 91)], [(8, 88), (12, 92)], [], [], [(14, 94), (15, 95)], [(16, 96)], [(13, 93), (17, 97)], [(18, 98)], [(19, 99)], [(19, 99), (20, 100)], [(21, 101)]] [] (by kernel_rfl) (by rfl) (by kernel_rfl) ?_ ?_
              · intro fr ha
                have hz : fr.tmps.size = 102 := by rw [ha]; rfl
                have y0 : fr.eval (.tmp 0) = .slice A1 a.length c1 := by rw [ha]; rfl
                have y3 : fr.eval (.tmp 3) = .int .i64 (i : Nat) := by rw [ha]; rfl
                have y4 : fr.eval (.tmp 4) = .int .i64 (j : Nat) := by rw [ha]; rfl
                have y11 : fr.eval (.tmp 11) = .int .i64 (k : Nat) := by rw [ha]; rfl
                clear ha
                refine .cons ?_ (.cons ?_ (.cons ?_ (.cons ?_ (.cons ?_ (.cons ?_ (.cons ?_ (.cons ?_ (.cons ?_ (.cons ?_ (.cons ?_ (.cons ?_ (.cons ?_ (.cons ?_ (.cons ?_ (.cons ?_ (.cons ?_ (.cons ?_ (.cons ?_ (.cons ?_ (.cons ?_ (.cons ?_ (.cons ?_ (.nil)))))))))))))))))))))))
                · intro V w2 HL HH
                  have HL : Later w5 w2 := HL
                  have tb0 : (Rg.putUse V [] fr).eval (.tmp 0) = .slice A1 a.length c1 := (Rg.use_eval V fr 0 [] (by simp only [hz]; decide)).trans y0
                  show Rg.Does1 _ _ V (Rg.putUse V [] fr) w2 _
                  exact step_mv (.slice A1 a.length c1) (by simp only [execOp, tb0]; go_simp) rfl rfl rfl True.intro
                · intro V w2 HL HH
                  have HL : Later w5 w2 := HL
                  have tb3 : (Rg.putUse V [] fr).eval (.tmp 3) = .int .i64 (i : Nat) := (Rg.use_eval V fr 3 [] (by simp only [hz]; decide)).trans y3
                  show Rg.Does1 _ _ V (Rg.putUse V [] fr) w2 _
                  exact step_mv (.int .i64 (i : Nat)) (by simp only [execOp, tb3]; go_simp) rfl rfl rfl True.intro
                · intro V w2 HL HH
                  have HL : Later w5 w2 := HL
                  have h0 : V 0 = .slice A1 a.length c1 := HH.1
                  have h1 : V 1 = .int .i64 (i : Nat) := HH.2.1
                  have tb80 : (Rg.putUse V [(0, 80), (1, 81)] fr).eval (.tmp 80) = .slice A1 a.length c1 := (Rg.use_eval V fr 80 [(0, 80), (1, 81)] (by simp only [hz]; decide)).trans h0
                  have tb81 : (Rg.putUse V [(0, 80), (1, 81)] fr).eval (.tmp 81) = .int .i64 (i : Nat) := (Rg.use_eval V fr 81 [(0, 80), (1, 81)] (by simp only [hz]; decide)).trans h1
                  show Rg.Does1 _ _ V (Rg.putUse V [(0, 80), (1, 81)] fr) w2 _
                  exact step_slh rfl tb80 tb81 (hs1.out w2) rfl rfl rfl True.intro
                · intro V w2 HL HH
                  have HL : Later w5 w2 := HL
                  have h2 : V 2 = .slice A1 p1.length c1 := HH.1
                  have tb82 : (Rg.putUse V [(2, 82)] fr).eval (.tmp 82) = .slice A1 p1.length c1 := (Rg.use_eval V fr 82 [(2, 82)] (by simp only [hz]; decide)).trans h2
                  show Rg.Does1 _ _ V (Rg.putUse V [(2, 82)] fr) w2 _
                  exact step_num #[.int .u32 0, .slice A1 (p1).length c1] (.int .u32 ((Cr.sum p1 : Nat) : Int)) (fun args w => Rg.call_enter Tryd.func9 (by kernel_rfl) (by kernel_rfl) args w) rfl (by simp only [List.map_toArray, List.map_cons, List.map_nil, Rg.eval_const, tb82]) rfl rfl rfl True.intro (more_to HM.out _ (0) p1 A1 c1 _ (by decide) (HL.env HE3.out) (HP1.out _ (HL.rd HA3.out)) (hp1c) (by first | omega | (simp; done) | (simp; omega)) (more_zero _))
                · intro V w2 HL HH
                  have HL : Later w5 w2 := HL
                  have tb0 : (Rg.putUse V [] fr).eval (.tmp 0) = .slice A1 a.length c1 := (Rg.use_eval V fr 0 [] (by simp only [hz]; decide)).trans y0
                  show Rg.Does1 _ _ V (Rg.putUse V [] fr) w2 _
                  exact step_mv (.slice A1 a.length c1) (by simp only [execOp, tb0]; go_simp) rfl rfl rfl True.intro
                · intro V w2 HL HH
                  have HL : Later w5 w2 := HL
                  have tb3 : (Rg.putUse V [] fr).eval (.tmp 3) = .int .i64 (i : Nat) := (Rg.use_eval V fr 3 [] (by simp only [hz]; decide)).trans y3
                  show Rg.Does1 _ _ V (Rg.putUse V [] fr) w2 _
                  exact step_mv (.int .i64 (i : Nat)) (by simp only [execOp, tb3]; go_simp) rfl rfl rfl True.intro
                · intro V w2 HL HH
                  have HL : Later w5 w2 := HL
                  have tb4 : (Rg.putUse V [] fr).eval (.tmp 4) = .int .i64 (j : Nat) := (Rg.use_eval V fr 4 [] (by simp only [hz]; decide)).trans y4
                  show Rg.Does1 _ _ V (Rg.putUse V [] fr) w2 _
                  exact step_mv (.int .i64 (j : Nat)) (by simp only [execOp, tb4]; go_simp) rfl rfl rfl True.intro
                · intro V w2 HL HH
                  have HL : Later w5 w2 := HL
                  have h4 : V 4 = .slice A1 a.length c1 := HH.1
                  have h5 : V 5 = .int .i64 (i : Nat) := HH.2.1
                  have h6 : V 6 = .int .i64 (j : Nat) := HH.2.2.1
                  have tb84 : (Rg.putUse V [(4, 84), (5, 85), (6, 86)] fr).eval (.tmp 84) = .slice A1 a.length c1 := (Rg.use_eval V fr 84 [(4, 84), (5, 85), (6, 86)] (by simp only [hz]; decide)).trans h4
                  have tb85 : (Rg.putUse V [(4, 84), (5, 85), (6, 86)] fr).eval (.tmp 85) = .int .i64 (i : Nat) := (Rg.use_eval V fr 85 [(4, 84), (5, 85), (6, 86)] (by simp only [hz]; decide)).trans h5
                  have tb86 : (Rg.putUse V [(4, 84), (5, 85), (6, 86)] fr).eval (.tmp 86) = .int .i64 (j : Nat) := (Rg.use_eval V fr 86 [(4, 84), (5, 85), (6, 86)] (by simp only [hz]; decide)).trans h6
                  show Rg.Does1 _ _ V (Rg.putUse V [(4, 84), (5, 85), (6, 86)] fr) w2 _
                  exact step_sllh rfl tb84 tb85 tb86 (hs2.out w2) rfl rfl rfl True.intro
                · intro V w2 HL HH
                  have HL : Later w5 w2 := HL
                  have h3 : V 3 = .int .u32 ((Cr.sum p1 : Nat) : Int) := HH.1
                  have h7 : V 7 = .slice B2 p2.length d2 := HH.2.1
                  have tb83 : (Rg.putUse V [(3, 83), (7, 87)] fr).eval (.tmp 83) = .int .u32 ((Cr.sum p1 : Nat) : Int) := (Rg.use_eval V fr 83 [(3, 83), (7, 87)] (by simp only [hz]; decide)).trans h3
                  have tb87 : (Rg.putUse V [(3, 83), (7, 87)] fr).eval (.tmp 87) = .slice B2 p2.length d2 := (Rg.use_eval V fr 87 [(3, 83), (7, 87)] (by simp only [hz]; decide)).trans h7
                  show Rg.Does1 _ _ V (Rg.putUse V [(3, 83), (7, 87)] fr) w2 _
                  exact step_num #[.int .u32 ((Cr.sum p1 : Nat) : Int), .slice B2 (p2).length d2] (.int .u32 ((Cr.sum (p1 ++ p2) : Nat) : Int)) (fun args w => Rg.call_enter Tryd.func9 (by kernel_rfl) (by kernel_rfl) args w) rfl (by simp only [List.map_toArray, List.map_cons, List.map_nil, tb83, tb87]) rfl rfl rfl True.intro (more_to HM.out _ (Cr.sum p1) p2 B2 d2 _ (sum_lt _) (HL.env HE3.out) (HP2.out _ (HL.rd HA3.out)) (hp2c) (by first | omega | (simp; done) | (simp; omega)) (more_sum _ _))
                · intro V w2 HL HH
                  have HL : Later w5 w2 := HL
                  have tb0 : (Rg.putUse V [] fr).eval (.tmp 0) = .slice A1 a.length c1 := (Rg.use_eval V fr 0 [] (by simp only [hz]; decide)).trans y0
                  show Rg.Does1 _ _ V (Rg.putUse V [] fr) w2 _
                  exact step_mv (.slice A1 a.length c1) (by simp only [execOp, tb0]; go_simp) rfl rfl rfl True.intro
                · intro V w2 HL HH
                  have HL : Later w5 w2 := HL
                  have tb4 : (Rg.putUse V [] fr).eval (.tmp 4) = .int .i64 (j : Nat) := (Rg.use_eval V fr 4 [] (by simp only [hz]; decide)).trans y4
                  show Rg.Does1 _ _ V (Rg.putUse V [] fr) w2 _
                  exact step_mv (.int .i64 (j : Nat)) (by simp only [execOp, tb4]; go_simp) rfl rfl rfl True.intro
                · intro V w2 HL HH
                  have HL : Later w5 w2 := HL
                  have tb11 : (Rg.putUse V [] fr).eval (.tmp 11) = .int .i64 (k : Nat) := (Rg.use_eval V fr 11 [] (by simp only [hz]; decide)).trans y11
                  show Rg.Does1 _ _ V (Rg.putUse V [] fr) w2 _
                  exact step_mv (.int .i64 (k : Nat)) (by simp only [execOp, tb11]; go_simp) rfl rfl rfl True.intro
                · intro V w2 HL HH
                  have HL : Later w5 w2 := HL
                  have h9 : V 9 = .slice A1 a.length c1 := HH.1
                  have h10 : V 10 = .int .i64 (j : Nat) := HH.2.1
                  have h11 : V 11 = .int .i64 (k : Nat) := HH.2.2.1
                  have tb89 : (Rg.putUse V [(9, 89), (10, 90), (11, 91)] fr).eval (.tmp 89) = .slice A1 a.length c1 := (Rg.use_eval V fr 89 [(9, 89), (10, 90), (11, 91)] (by simp only [hz]; decide)).trans h9
                  have tb90 : (Rg.putUse V [(9, 89), (10, 90), (11, 91)] fr).eval (.tmp 90) = .int .i64 (j : Nat) := (Rg.use_eval V fr 90 [(9, 89), (10, 90), (11, 91)] (by simp only [hz]; decide)).trans h10
                  have tb91 : (Rg.putUse V [(9, 89), (10, 90), (11, 91)] fr).eval (.tmp 91) = .int .i64 (k : Nat) := (Rg.use_eval V fr 91 [(9, 89), (10, 90), (11, 91)] (by simp only [hz]; decide)).trans h11
                  show Rg.Does1 _ _ V (Rg.putUse V [(9, 89), (10, 90), (11, 91)] fr) w2 _
                  exact step_sllh rfl tb89 tb90 tb91 (hs3.out w2) rfl rfl rfl True.intro
                · intro V w2 HL HH
                  have HL : Later w5 w2 := HL
                  have h8 : V 8 = .int .u32 ((Cr.sum (p1 ++ p2) : Nat) : Int) := HH.1
                  have h12 : V 12 = .slice B3 p3.length d3 := HH.2.1
                  have tb88 : (Rg.putUse V [(8, 88), (12, 92)] fr).eval (.tmp 88) = .int .u32 ((Cr.sum (p1 ++ p2) : Nat) : Int) := (Rg.use_eval V fr 88 [(8, 88), (12, 92)] (by simp only [hz]; decide)).trans h8
                  have tb92 : (Rg.putUse V [(8, 88), (12, 92)] fr).eval (.tmp 92) = .slice B3 p3.length d3 := (Rg.use_eval V fr 92 [(8, 88), (12, 92)] (by simp only [hz]; decide)).trans h12
                  show Rg.Does1 _ _ V (Rg.putUse V [(8, 88), (12, 92)] fr) w2 _
                  exact step_num #[.int .u32 ((Cr.sum (p1 ++ p2) : Nat) : Int), .slice B3 (p3).length d3] (.int .u32 ((Cr.sum ra : Nat) : Int)) (fun args w => Rg.call_enter Tryd.func9 (by kernel_rfl) (by kernel_rfl) args w) rfl (by simp only [List.map_toArray, List.map_cons, List.map_nil, tb88, tb92]) rfl rfl rfl True.intro (more_to HM.out _ (Cr.sum (p1 ++ p2)) p3 B3 d3 _ (sum_lt _) (HL.env HE3.out) (HP3.out _ (HL.rd HA3.out)) (hp3c) (by first | omega | (simp; done) | (simp; omega)) ((more_sum _ _).trans (congrArg Cr.sum HQ.out)))
                · intro V w2 HL HH
                  have HL : Later w5 w2 := HL
                  have tb0 : (Rg.putUse V [] fr).eval (.tmp 0) = .slice A1 a.length c1 := (Rg.use_eval V fr 0 [] (by simp only [hz]; decide)).trans y0
                  show Rg.Does1 _ _ V (Rg.putUse V [] fr) w2 _
                  exact step_mv (.slice A1 a.length c1) (by simp only [execOp, tb0]; go_simp) rfl rfl rfl True.intro
                · intro V w2 HL HH
                  have HL : Later w5 w2 := HL
                  have tb11 : (Rg.putUse V [] fr).eval (.tmp 11) = .int .i64 (k : Nat) := (Rg.use_eval V fr 11 [] (by simp only [hz]; decide)).trans y11
                  show Rg.Does1 _ _ V (Rg.putUse V [] fr) w2 _
                  exact step_mv (.int .i64 (k : Nat)) (by simp only [execOp, tb11]; go_simp) rfl rfl rfl True.intro
                · intro V w2 HL HH
                  have HL : Later w5 w2 := HL
                  have h14 : V 14 = .slice A1 a.length c1 := HH.1
                  have h15 : V 15 = .int .i64 (k : Nat) := HH.2.1
                  have tb94 : (Rg.putUse V [(14, 94), (15, 95)] fr).eval (.tmp 94) = .slice A1 a.length c1 := (Rg.use_eval V fr 94 [(14, 94), (15, 95)] (by simp only [hz]; decide)).trans h14
                  have tb95 : (Rg.putUse V [(14, 94), (15, 95)] fr).eval (.tmp 95) = .int .i64 (k : Nat) := (Rg.use_eval V fr 95 [(14, 94), (15, 95)] (by simp only [hz]; decide)).trans h15
                  show Rg.Does1 _ _ V (Rg.putUse V [(14, 94), (15, 95)] fr) w2 _
                  exact step_slh rfl tb94 tb95 (hsla.out w2) rfl rfl rfl True.intro
                · intro V w2 HL HH
                  have HL : Later w5 w2 := HL
                  have h16 : V 16 = .slice A1 ra.length c1 := HH.1
                  have tb96 : (Rg.putUse V [(16, 96)] fr).eval (.tmp 96) = .slice A1 ra.length c1 := (Rg.use_eval V fr 96 [(16, 96)] (by simp only [hz]; decide)).trans h16
                  show Rg.Does1 _ _ V (Rg.putUse V [(16, 96)] fr) w2 _
                  exact step_num #[.slice A1 (ra).length c1] (.int .u32 ((Cr.sum ra : Nat) : Int)) (fun args w => Rg.call_enter Tryd.func7 (by kernel_rfl) (by kernel_rfl) args w) rfl (by simp only [List.map_toArray, List.map_cons, List.map_nil, tb96]) rfl rfl rfl True.intro (HS.out _ ra A1 c1 (HL.env HE3.out) (HL.rd HR3.out) (hrac) (by first | omega | (simp; done) | (simp; omega)))
                · intro V w2 HL HH
                  have HL : Later w5 w2 := HL
                  have h13 : V 13 = .int .u32 ((Cr.sum ra : Nat) : Int) := HH.1
                  have h17 : V 17 = .int .u32 ((Cr.sum ra : Nat) : Int) := HH.2.1
                  have tb93 : (Rg.putUse V [(13, 93), (17, 97)] fr).eval (.tmp 93) = .int .u32 ((Cr.sum ra : Nat) : Int) := (Rg.use_eval V fr 93 [(13, 93), (17, 97)] (by simp only [hz]; decide)).trans h13
                  have tb97 : (Rg.putUse V [(13, 93), (17, 97)] fr).eval (.tmp 97) = .int .u32 ((Cr.sum ra : Nat) : Int) := (Rg.use_eval V fr 97 [(13, 93), (17, 97)] (by simp only [hz]; decide)).trans h17
                  show Rg.Does1 _ _ V (Rg.putUse V [(13, 93), (17, 97)] fr) w2 _
                  exact step_mv (.bool true) (by simp only [execOp, tb93, tb97]; go_simp) rfl rfl rfl True.intro
                · intro V w2 HL HH
                  have HL : Later w5 w2 := HL
                  have h18 : V 18 = .bool true := HH.1
                  have tb98 : (Rg.putUse V [(18, 98)] fr).eval (.tmp 98) = .bool true := (Rg.use_eval V fr 98 [(18, 98)] (by simp only [hz]; decide)).trans h18
                  show Rg.Does1 _ _ V (Rg.putUse V [(18, 98)] fr) w2 _
                  exact step_mv (.bool true) (by simp only [execOp, tb98]; go_simp) rfl rfl rfl True.intro
                · intro V w2 HL HH
                  have HL : Later w5 w2 := HL
                  have h19 : V 19 = .bool true := HH.1
                  show Rg.Does1 _ _ V (Rg.putUse V [(19, 99)] fr) w2 _
                  exact step_num #[] (.bool true) (fun args w => Rg.call_enter Tryd.func10 (by kernel_rfl) (by kernel_rfl) args w) rfl (by simp only [List.map_toArray, List.map_nil]) rfl rfl rfl h19 (known_any HS.out _ (HL.env HE3.out))
                · intro V w2 HL HH
                  have HL : Later w5 w2 := HL
                  have h19 : V 19 = .bool true := HH.1
                  have h20 : V 20 = .bool true := HH.2.1
                  have tb99 : (Rg.putUse V [(19, 99), (20, 100)] fr).eval (.tmp 99) = .bool true := (Rg.use_eval V fr 99 [(19, 99), (20, 100)] (by simp only [hz]; decide)).trans h19
                  have tb100 : (Rg.putUse V [(19, 99), (20, 100)] fr).eval (.tmp 100) = .bool true := (Rg.use_eval V fr 100 [(19, 99), (20, 100)] (by simp only [hz]; decide)).trans h20
                  show Rg.Does1 _ _ V (Rg.putUse V [(19, 99), (20, 100)] fr) w2 _
                  exact step_mv (.bool true) (by simp only [execOp, tb99, tb100]; go_simp) rfl rfl rfl True.intro
                · intro V w2 HL HH
                  have HL : Later w5 w2 := HL
                  have h21 : V 21 = .bool true := HH.1
                  have tb101 : (Rg.putUse V [(21, 101)] fr).eval (.tmp 101) = .bool true := (Rg.use_eval V fr 101 [(21, 101)] (by simp only [hz]; decide)).trans h21
                  show Rg.Does1 _ _ V (Rg.putUse V [(21, 101)] fr) w2 _
                  exact step_mv (.bool true) (by simp only [execOp, tb101]; go_simp) rfl rfl rfl True.intro
              · intro V w2 HI
                have h22 : V 22 = .bool true := HI.get 22 (by decide) (by rfl)
                simp only [Rg.putList, Act.put, List.setIfInBounds_toArray, List.set_cons_zero, List.set_cons_succ, Nat.zero_add, Nat.reduceAdd]
                rw [h22]
                have HLE : Hid (Later w w2) := (HL0.out.trans HL3.out).trans (later_drew HI.later)
                clear HI
                go_wp2_with fail
                go_ret
                exact ⟨rfl, HLE.out⟩
end Go.Proofs.YtdopgnfggpdfoaaDoor

/-
  OWN WORK. The document's own SHA-256 (permafrostref2), by its contract.
-/
import Derived.Test.YtjeclmbableacaaDoorShRefM
import Derived.IntWalk
namespace Go.Proofs.YtjeclmbableacaaDoor
open Go.RowKit Sh

set_option maxHeartbeats 80000000 in
set_option maxRecDepth 100000 in
theorem refSum_any (w : World) (l : List UInt8) (A : Option Addr) (cap : Nat) (hr : Rd w A l) (hl : l.length ≤ 1099511627000) :
    Calls Tryd.prog 30 #[.slice A l.length cap] w fun e w' => ∃ v, e = .returned v ∧ w'.ownsRow w.heap.size 5 1 v 32 (Lib.byteCells (bytesOf (hashTo (padded l) ((padded l).length / 64)))) ∧ Below w.heap.size w w' := by
  obtain ⟨i0, hi, hz0, hz1, hz2⟩ := info_parts Tryd.infoU8
  have HI0 := Lib.hid hi
  have HZ0 := Lib.hid hz0
  have HZ1 := Lib.hid hz1
  have HZ2 := Lib.hid hz2
  have HR : Hid (Rd w A l) := hr
  clear hi hz0 hz1 hz2 hr
  go_enter Tryd.func30, Tryd.ntmps30
  go_upto_region 1 with (fail)
  have H0 : Hid (MAt w.heap.size (.slice (some ⟨w.heap.size, 0, none⟩) 0 0) [] w (w.alloc (.cells #[] 5))) :=
    ⟨⟨rfl, .inr ⟨w.heap.size, 0, #[], rfl, Nat.le_refl _, heap_alloc_new w _, Nat.le_refl _, by unfold maxLen; omega, rfl, rfl⟩⟩, below_new w _, rfl⟩
  have HRW : Hid (Rd (w.alloc (.cells #[] 5)) A l) := HR.out.below (below_new w _)
  go_wp2_with (first
    | (at_builtin; refine wpList_append_rd rfl (.tmp 22) (.tmp 23) 23 rfl w.heap.size 5 i0 Tryd.underlying23 HI0.out HZ0.out HZ1.out HZ2.out _ 0 [] rfl H0.out.1 A l l.length cap rfl rfl HRW.out (by omega) (by rw [World.size_alloc]; omega) ?_; intro v1 w1 HO1 HG1; have H1 : Hid (MAt w.heap.size v1 l w w1) := H0.out.push (Below.refl _ _) HO1.out HG1.out)
    | (at_builtin; refine wpList_append_rd rfl (.tmp 24) (.tmp 25) 23 rfl w.heap.size 5 i0 Tryd.underlying23 HI0.out HZ0.out HZ1.out HZ2.out v1 l.length (Lib.byteCells l) rfl (H1.out.own (below_new w1 _)) (some ⟨w1.heap.size, 0, none⟩) [128] 1 1 rfl rfl (rd_one w1 128 _) (by simp; omega) (by rw [World.size_alloc]; have := H1.out.2.1.size; omega) ?_; intro v2 w2 HO2 HG2; have H2 : Hid (MAt w.heap.size v2 (opened l 0) w w2) := H1.out.push (below_new w1 _) HO2.out HG2.out))
  clear HO2 HG2 H1 HO1 HG1 H0 HRW
  go_loopw [3] (fun t3 wr => ∃ j n g c, Hid (j ≤ zerosN l.length) ∧ Hid (n = l.length + 1 + j) ∧ n ≤ 1099511627500 ∧ t3 = .slice (some ⟨g, 0, none⟩) n c ∧ Hid (MAt w.heap.size (.slice (some ⟨g, 0, none⟩) n c) (opened l j) w wr)) (fun t3 _ => l.length + 65 - lenOf t3)
  case atStart =>
    obtain ⟨g, c, e, _⟩ := H2.out.form (by rw [opened_length]; omega)
    subst e
    exact ⟨0, _, g, c, Nat.zero_le _, by show _ = _; rw [opened_length], by rw [opened_length]; omega, rfl, H2⟩
  case round =>
    obtain ⟨j, n, g, c, HJ, HN, hn, rfl, HM⟩ := hrel
    have hjz := zerosN_lt l.length
    by_cases hlt : j < zerosN l.length
    · have hne := zerosN_least l.length j hlt
      rw [← HN.out] at hne
      have t1 : (((n : Int) % 64) == 56) = false := by rw [beq_eq_false_iff_ne]; omega
      have t2 : (((n : Int) % 64) != 56) = true := by rw [bne_iff_ne]; omega
      have HOL : Hid ((opened l j).length = n) := by show _ = _; rw [opened_length, HN.out]
      have HLT : Hid (j < zerosN l.length) := hlt
      clear hne hlt
      go_wp2_with (at_builtin; refine wpList_append_rd rfl (.tmp 31) (.tmp 32) 23 rfl w.heap.size 5 i0 Tryd.underlying23 HI0.out HZ0.out HZ1.out HZ2.out _ (opened l j).length (Lib.byteCells (opened l j)) rfl (HM.out.own (below_new wr _)) (some ⟨wr.heap.size, 0, none⟩) [0] 1 1 rfl rfl (rd_one wr 0 _) (by rw [HOL.out]; simp; omega) (by rw [World.size_alloc]; have := HM.out.2.1.size; omega) ?_; intro v3 w3 HO3 HG3)
      have HM3 : Hid (MAt w.heap.size v3 (opened l (j + 1)) w w3) := by show MAt _ _ _ _ _; rw [opened_snoc]; exact HM.out.push (below_new wr _) HO3.out HG3.out
      clear HO3 HG3
      obtain ⟨g3, c3, e3, _⟩ := HM3.out.form (by rw [opened_length]; omega)
      rw [opened_length, show l.length + 1 + (j + 1) = n + 1 by have := HN.out; omega] at e3
      subst e3
      go_wp2_with fail
      go_roundw
      case rel => exact ⟨j + 1, n + 1, g3, c3, HLT.out, by show _ = _; rw [HN.out]; omega, by have := HN.out; have := HLT.out; omega, rfl, HM3⟩
      case measure => simp [lenOf]; have := HN.out; have := HLT.out; omega
    · have hj : j = zerosN l.length := by have := HJ.out; omega
      have hmod := zerosN_mod l.length
      rw [← hj, ← HN.out] at hmod
      have t1 : (((n : Int) % 64) == 56) = true := by rw [beq_iff_eq]; omega
      have t2 : (((n : Int) % 64) != 56) = false := by simp only [bne_eq_false_iff_eq]; omega
      have HM2 : Hid (MAt w.heap.size (.slice (some ⟨g, 0, none⟩) n c) (opened l (zerosN l.length)) w wr) := by show MAt _ _ _ _ _; rw [← hj]; exact HM.out
      have HNN : Hid ((opened l (zerosN l.length)).length = n) := by show _ = _; rw [opened_length, ← hj, HN.out]
      clear hj hmod HM HJ HN hlt
      go_wp2_with fail
      have HM3 : Hid (MAt w.heap.size (.slice (some ⟨g, 0, none⟩) n c) (opened l (zerosN l.length) ++ (be8 ((l.length : Int) * 8)).take 0) w wr) := by show MAt _ _ _ _ _; rw [List.take_zero, List.append_nil]; exact HM2.out
      clear HM2
      go_loopw [3, 5] (fun t3 t5 wr => ∃ j nn g c, j ≤ 8 ∧ t5 = .int .i64 (56 - 8 * ((j : Nat) : Int)) ∧ Hid (nn = n + j) ∧ nn ≤ 1099511627600 ∧ t3 = .slice (some ⟨g, 0, none⟩) nn c ∧ Hid (MAt w.heap.size (.slice (some ⟨g, 0, none⟩) nn c) (opened l (zerosN l.length) ++ (be8 ((l.length : Int) * 8)).take j) w wr)) (fun _ t5 _ => (intOf t5 + 8).toNat)
      case atStart => exact ⟨0, n, g, c, by omega, rfl, rfl, by omega, rfl, HM3⟩
      case round =>
        obtain ⟨j, nn, g2, c2, hj, rfl, HNJ, hnn, rfl, HM⟩ := hrel
        by_cases hlt : j < 8
        · have HOL : Hid ((opened l (zerosN l.length) ++ (be8 ((l.length : Int) * 8)).take j).length = nn) := by show _ = _; rw [List.length_append, HNN.out, List.length_take, be8_length, HNJ.out]; omega
          have HX := Lib.hid (byteOf_toNat ((l.length : Int) * 8 / 2 ^ (56 - 8 * j)))
          have HOWN : Hid ((wr.alloc (.cells #[Value.int .u8 (((l.length : Nat) : Int) * 8 / 2 ^ (56 - 8 * j) % 256)] 5)).ownsRow w.heap.size 5 1 (.slice (some ⟨g2, 0, none⟩) nn c2) nn (Lib.byteCells (opened l (zerosN l.length) ++ (be8 ((l.length : Int) * 8)).take j))) := by
            have := HM.out.own (below_new wr (.cells #[Value.int .u8 (((l.length : Nat) : Int) * 8 / 2 ^ (56 - 8 * j) % 256)] 5))
            rw [HOL.out] at this
            exact this
          have HBS : Hid (w.heap.size ≤ (wr.alloc (.cells #[Value.int .u8 (((l.length : Nat) : Int) * 8 / 2 ^ (56 - 8 * j) % 256)] 5)).heap.size) := by show _ ≤ _; rw [World.size_alloc]; have := HM.out.2.1.size; omega
          obtain ⟨bx, hbx⟩ : ∃ b : UInt8, b = Sh.byteOf ((l.length : Int) * 8 / 2 ^ (56 - 8 * j)) := ⟨_, rfl⟩
          have HBX := Lib.hid hbx
          have HXB : Hid (((bx.toNat : Nat) : Int) = (l.length : Int) * 8 / 2 ^ (56 - 8 * j) % 256) := by show _ = _; rw [hbx]; exact HX.out
          have HNN1 : Hid (nn + [bx].length ≤ 1099511627776) := by show nn + 1 ≤ _; omega
          clear hbx HX
          go_wp2_with (at_builtin; refine wpList_append_rd rfl (.tmp 42) (.tmp 48) 23 rfl w.heap.size 5 i0 Tryd.underlying23 HI0.out HZ0.out HZ1.out HZ2.out _ nn (Lib.byteCells (opened l (zerosN l.length) ++ (be8 ((l.length : Int) * 8)).take j)) rfl HOWN.out (some ⟨wr.heap.size, 0, none⟩) [bx] 1 1 rfl rfl (rd_new wr _ _ _ HXB.out) HNN1.out HBS.out ?_; intro v3 w3 HO3 HG3)
          have HM4 : Hid (MAt w.heap.size v3 (opened l (zerosN l.length) ++ (be8 ((l.length : Int) * 8)).take (j + 1)) w w3) := by
            show MAt _ _ _ _ _
            rw [be8_take _ _ hlt, ← List.append_assoc, ← HBX.out]
            exact HM.out.push (below_new wr _) (by rw [HOL.out]; exact HO3.out) HG3.out
          clear HO3 HG3
          have HOL4 : Hid ((opened l (zerosN l.length) ++ (be8 ((l.length : Int) * 8)).take (j + 1)).length = nn + 1) := by show _ = _; rw [List.length_append, HNN.out, List.length_take, be8_length, HNJ.out]; omega
          obtain ⟨g3, c3, e3, _⟩ := HM4.out.form (by rw [HOL4.out]; omega)
          rw [HOL4.out] at e3
          subst e3
          go_wp2_with fail
          go_roundw
          case rel => exact ⟨j + 1, nn + 1, g3, c3, by omega, by go_num, by show _ = _; rw [HNJ.out]; omega, by have := HNJ.out; omega, rfl, HM4⟩
          case measure => simp [intOf]; omega
        · obtain rfl : j = 8 := by omega
          have HP : Hid (MAt w.heap.size (.slice (some ⟨g2, 0, none⟩) nn c2) (padded l) w wr) := by
            show MAt _ _ _ _ _
            have := HM.out
            rw [List.take_of_length_le (by rw [be8_length]; omega)] at this
            exact this
          have HPN : Hid ((padded l).length = nn) := by
            show _ = _
            rw [padded, List.length_append, HNN.out, be8_length, HNJ.out]
          clear HM HNJ HNN
          go_upto_region 9 with (fail)
          obtain ⟨HI, HA, HZ⟩ := roundK_facts
          obtain ⟨HI8, HA8, HZ8⟩ := eight_facts hash0 rfl
          have HE8 : Hid (Blk (wr.alloc (.cells (noughts 8).toArray 59)) wr.heap.size 59 (noughts 8)) := Blk.new wr _ _
          have HM0 := HP
          go_wp2_with (first
            | (refine wpList_store_row rfl 59 (.tmp 6) (.tmp 50) rfl wr.heap.size (words32 hash0).toArray rfl rfl 59 (noughts 8).toArray HE8.out HI8.out HZ8.out HA8.out ?_; refine wpList_world (fun W => Hid (Below wr.heap.size wr W) ∧ W.heap.size = wr.heap.size + 1 ∧ Hid (Blk W wr.heap.size 59 (words32 hash0))) ⟨below_setRow (below_new wr _) (Nat.le_refl _) _, by rw [setRow_size, World.size_alloc], HE8.out.row _⟩ ?_; rintro W1 ⟨HB1, hs1, HH1⟩; have HS1 := Lib.hid hs1; clear hs1; have HE64 : Hid (Blk (W1.alloc (.cells (noughts 64).toArray 60)) W1.heap.size 60 (noughts 64)) := Blk.new W1 _ _)
            | (refine wpList_store_row rfl 60 (.tmp 7) (.tmp 51) rfl W1.heap.size (words32 roundK).toArray rfl rfl 60 (noughts 64).toArray HE64.out HI.out HZ.out HA.out ?_; refine wpList_world (fun W => Hid (RAt l w.heap.size wr.heap.size W1.heap.size (.slice (some ⟨g2, 0, none⟩) nn c2) (hashTo (padded l) 0) w W)) ⟨HM0.out.below (HB1.out.trans (below_setRow ((below_new W1 _).mono (by rw [HS1.out]; omega)) (by rw [HS1.out]; omega) _)), (HH1.out.alloc _).rowFar (by rw [HS1.out]; omega) _, HE64.out.row _, by have := HM0.out.2.1.size; omega, by rw [HS1.out]; omega⟩ ?_; rintro W2 HRA; have H67 : wr.heap.size < W1.heap.size := (by rw [HS1.out]; omega); clear HB1 HS1 HH1 HE64))
          have HL64 : Hid (nn % 64 = 0) := by show _ = _; rw [← HPN.out]; exact padded_mod l
          clear HP HM0 HE8 HI HA HZ HI8 HA8 HZ8
          generalize wr.heap.size = b6 at *
          generalize W1.heap.size = b7 at *
          go_loopw [8] (fun t8 wr => ∃ k at0 : Nat, Hid (at0 = 64 * k) ∧ at0 ≤ nn ∧ t8 = .int .i64 at0 ∧ Hid (RAt l w.heap.size b6 b7 (.slice (some ⟨g2, 0, none⟩) nn c2) (hashTo (padded l) k) w wr)) (fun t8 _ => nn - (intOf t8).toNat)
          case atStart => exact ⟨0, 0, rfl, by omega, rfl, HRA⟩
          case round =>
            obtain ⟨k, at0, HAT, hat, rfl, HRA⟩ := hrel
            by_cases hlt : at0 < nn
            · go_upto_region 15 with (fail)
              refine wp_world (fun W => Hid (RAt l w.heap.size b6 b7 (.slice (some ⟨g2, 0, none⟩) nn c2) (hashTo (padded l) k) w W) ∧ Hid (WdAt wr.heap.size (spread (wordsOf (((padded l).drop (64 * k)).take 64))) W 0)) ⟨HRA.out.below (below_new wr _), ⟨by omega, spread_length _ (wordsOf_length _), Blk.new wr 60 (noughts 64)⟩⟩ ?_
              rintro W3 ⟨HRA3, HWD⟩
              have h79 : b7 < wr.heap.size := HRA.out.k.lt
              clear HRA
              generalize wr.heap.size = b9 at *
              obtain ⟨S, hS⟩ : ∃ S, S = spread (wordsOf (((padded l).drop (64 * k)).take 64)) := ⟨_, rfl⟩
              rw [← hS] at HWD
              have HSS := Lib.hid hS
              clear hS
              have hat64 : at0 + 64 ≤ nn := by have := HL64.out; have := HAT.out; omega
              go_wp2_with fail
              go_loopw [10] (fun t10 wr => ∃ i : Nat, i ≤ 64 ∧ t10 = .int .i64 i ∧ Hid (RAt l w.heap.size b6 b7 (.slice (some ⟨g2, 0, none⟩) nn c2) (hashTo (padded l) k) w wr) ∧ Hid (WdAt b9 S wr i)) (fun t10 _ => 64 - (intOf t10).toNat)
              case atStart => exact ⟨0, by omega, rfl, HRA3, HWD⟩
              case round =>
                obtain ⟨i, hi, rfl, HRA, HWD⟩ := hrel
                by_cases hi64 : i < 64
                · have cr := HWD.out.room hi64
                  have cf := HWD.out.2.2.frozen i
                  by_cases hi16 : i < 16
                  ·
                    as_aux_lemma =>
                      have c0 := HRA.out.m.byte (at0 + 4 * i) (by rw [HPN.out]; omega)
                      have c1 := HRA.out.m.byte (at0 + 4 * i + 1) (by rw [HPN.out]; omega)
                      have c2' := HRA.out.m.byte (at0 + 4 * i + 2) (by rw [HPN.out]; omega)
                      have c3 := HRA.out.m.byte (at0 + 4 * i + 3) (by rw [HPN.out]; omega)
                      have HX : Hid (S.getD i 0 = word4 ((padded l).getD (at0 + 4 * i) 0) ((padded l).getD (at0 + 4 * i + 1) 0) ((padded l).getD (at0 + 4 * i + 2) 0) ((padded l).getD (at0 + 4 * i + 3) 0)) := by
                        show _ = _
                        rw [HSS.out, spread_low _ (wordsOf_length _) i hi16, wordsOf_block _ _ _ (by rw [HPN.out, ← HAT.out]; omega) hi16, HAT.out]
                      have u0 := ((padded l).getD (at0 + 4 * i) 0).toNat_lt
                      have u1 := ((padded l).getD (at0 + 4 * i + 1) 0).toNat_lt
                      have u2 := ((padded l).getD (at0 + 4 * i + 2) 0).toNat_lt
                      have u3 := ((padded l).getD (at0 + 4 * i + 3) 0).toNat_lt
                      generalize (padded l).getD (at0 + 4 * i) 0 = y0 at *
                      generalize (padded l).getD (at0 + 4 * i + 1) 0 = y1 at *
                      generalize (padded l).getD (at0 + 4 * i + 2) 0 = y2 at *
                      generalize (padded l).getD (at0 + 4 * i + 3) 0 = y3 at *
                      go_wp2_with fail
                      go_region
                      all_goals
                        go_wp2_with fail
                        go_roundw
                        case rel => exact ⟨i + 1, by omega, by go_num, ((HRA.out.row b9 _ _ HWD.out.2.2 (by decide) ((Keeps.refl wr b9).setCell i _) h79).drew), (HWD.out.step hi64 _ HX.out.symm).drew⟩
                        case measure => simp [intOf]; omega
                  ·
                    as_aux_lemma =>
                      have h16 : 16 ≤ i := by omega
                      have c15 := HWD.out.word (i - 15) (by omega)
                      have c2' := HWD.out.word (i - 2) (by omega)
                      have c16 := HWD.out.word (i - 16) (by omega)
                      have c7 := HWD.out.word (i - 7) (by omega)
                      have HX : Hid (S.getD i 0 = (S.getD (i - 16) 0 + small0 (S.getD (i - 15) 0) + S.getD (i - 7) 0 + small1 (S.getD (i - 2) 0)) % 4294967296) := by
                        show _ = _
                        rw [HSS.out]
                        exact spread_more _ (wordsOf_length _) i h16 hi64
                      generalize S.getD (i - 15) 0 = x15 at *
                      generalize S.getD (i - 2) 0 = x2 at *
                      generalize S.getD (i - 16) 0 = x16 at *
                      generalize S.getD (i - 7) 0 = x7 at *
                      go_wp2_with fail
                      go_quiet (fail)
                      go_upto_region 21 with (fail)
                      have v16 : IntKind.i64.wrap ((i : Int) - 16) = (i : Int) - 16 := IntWalk.i64_in _ (by omega)
                      have v7 : IntKind.i64.wrap ((i : Int) - 7) = (i : Int) - 7 := IntWalk.i64_in _ (by omega)
                      have p16 : 0 ≤ (i : Int) - 16 := by omega
                      have p7 : 0 ≤ (i : Int) - 7 := by omega
                      have r16 : (i : Int) - 16 < 64 := by omega
                      have r7 : (i : Int) - 7 < 64 := by omega
                      have r0 : (i : Int) < 64 := by omega
                      have t7 : (7 : Int) ≤ (i : Int) := by omega
                      have t16 : (16 : Int) ≤ (i : Int) := by omega
                      have q16 : ((i : Int) - 16).toNat = i - 16 := by omega
                      have q7 : ((i : Int) - 7).toNat = i - 7 := by omega
                      refine wp_region_still_tail 29 (by kernel_rfl) (by kernel_rfl) ?_
                      simp only [List.take_succ_cons, List.take_zero, List.drop_succ_cons, List.drop_zero]
                      change wpStill _ _ (wr.drewN nq).drew _ _ _
                      iterate 6 still_step
                      still_call (turn7_any x15 _)
                      still_step
                      still_call (turn18_any x15 _)
                      iterate 8 still_step
                      iterate 3 still_step
                      still_call (turn17_any x2 _)
                      still_step
                      still_call (turn19_any x2 _)
                      iterate 6 still_step
                      refine wpStill_nil ?_
                      change wpList _ _ _ _ _ (wr.drewN nq).drew
                      clear v16 v7 p16 p7 q16 q7 r16 r7 r0 t7 t16
                      go_wp2_with fail
                      go_roundw
                      case rel => exact ⟨i + 1, by omega, by go_num, ((HRA.out.row b9 _ _ HWD.out.2.2 (by decide) ((Keeps.refl wr b9).setCell i _) h79).drewN _).drew, ((HWD.out.step hi64 _ HX.out.symm).drewN _).drew⟩
                      case measure => simp [intOf]; omega
                ·
                  obtain rfl : i = 64 := by omega
                  have HB9 : Hid (Blk wr b9 60 (words32 S)) := HWD.out.full
                  clear HWD
                  go_upto_region 22 with (fail)
                  obtain ⟨HI8, HA8, HZ8⟩ := eight_facts (hashTo (padded l) k) (hashTo_length _ _)
                  have HE : Hid (Blk (wr.alloc (.cells (noughts 8).toArray 59)) wr.heap.size 59 (noughts 8)) := Blk.new wr _ _
                  have HH0 : Hid (Blk wr b6 59 (words32 (hashTo (padded l) k))) := HRA.out.h
                  go_wp2_with (first
                    | (refine wpList_load_row rfl 59 (.tmp 6) rfl b6 rfl 59 (words32 (hashTo (padded l) k)).toArray (0, 0) _ HH0.out Tryd.underlying59 rfl HI8.out ?_)
                    | (refine wpList_store_row rfl 59 (.tmp 13) (.tmp 144) rfl wr.heap.size (words32 (hashTo (padded l) k)).toArray rfl rfl 59 (noughts 8).toArray HE.out HI8.out HZ8.out HA8.out ?_; refine wpList_world (fun W => Hid (SAt l w.heap.size b6 b7 (.slice (some ⟨g2, 0, none⟩) nn c2) (hashTo (padded l) k) w b9 wr.heap.size S (regs S (Reg.of (hashTo (padded l) k)) 0).list W)) ⟨HRA.out.below (below_setRow (below_new wr _) (Nat.le_refl _) _), HB9.out.below (below_setRow (below_new wr _) (Nat.le_refl _) _) HB9.out.lt, (show Blk _ _ _ (words32 (Reg.of (hashTo (padded l) k)).list) from (by rw [Reg.list_of _ (hashTo_length _ _)]; exact HE.out.row _)), h79, HB9.out.lt⟩ ?_; rintro W4 HSA))
                  clear HI8 HA8 HZ8 HE HH0 HB9 HRA
                  generalize wr.heap.size = b13 at *
                  go_loopw [14] (fun t14 wr => ∃ (i : Nat) (R : Reg), i ≤ 64 ∧ t14 = .int .i64 i ∧ Hid (R = regs S (Reg.of (hashTo (padded l) k)) i) ∧ Hid (SAt l w.heap.size b6 b7 (.slice (some ⟨g2, 0, none⟩) nn c2) (hashTo (padded l) k) w b9 b13 S R.list wr)) (fun t14 _ => 64 - (intOf t14).toNat)
                  case atStart => exact ⟨0, _, by omega, rfl, rfl, HSA⟩
                  case round =>
                    obtain ⟨i, ⟨x0, x1, x2, x3, x4, x5, x6, x7⟩, hi, rfl, HR, HSA⟩ := hrel
                    by_cases hi64 : i < 64
                    ·
                      have hS64 : S.length = 64 := by rw [HSS.out]; exact spread_length _ (wordsOf_length _)
                      have HS64 := Lib.hid hS64
                      clear hS64
                      obtain ⟨xw, hxw⟩ : ∃ y, y = S.getD i 0 := ⟨_, rfl⟩
                      obtain ⟨xk, hxk⟩ : ∃ y, y = roundK.getD i 0 := ⟨_, rfl⟩
                      have HXW := Lib.hid hxw
                      have HXK := Lib.hid hxk
                      have HN : Hid (regs S (Reg.of (hashTo (padded l) k)) (i + 1) = (regs S (Reg.of (hashTo (padded l) k)) i).next xk xw) := by show _ = _; rw [hxw, hxk]; rfl
                      clear hxw hxk
                      obtain ⟨cw, ck, s0, s1, s2, s3, s4, s5, s6, s7⟩ := HSA.out.cells i hi64 HS64.out xw xk HXW.out HXK.out
                      go_wp2_with fail
                      go_quiet (fail)
                      go_upto_region 27 with (fail)
                      have HSA5 : Hid (SAt l w.heap.size b6 b7 (.slice (some ⟨g2, 0, none⟩) nn c2) (hashTo (padded l) k) w b9 b13 S [x0, x1, x2, x3, x4, x5, x6, x7] (wr.drewN nq)) := HSA.out.drewN nq
                      clear HSA cw ck s0 s1 s2 s3 s4 s5 s6 s7
                      refine wp_world (fun W => Hid (SAt l w.heap.size b6 b7 (.slice (some ⟨g2, 0, none⟩) nn c2) (hashTo (padded l) k) w b9 b13 S [x0, x1, x2, x3, x4, x5, x6, x7] W)) HSA5 ?_
                      clear HSA5
                      intro W5 HSA
                      obtain ⟨cw, ck, s0, s1, s2, s3, s4, s5, s6, s7⟩ := HSA.out.cells i hi64 HS64.out xw xk HXW.out HXK.out
                      go_quiet ((go_at_call 45; exact Calls.quiet_of_same (turn_any _ _ (by decide) _)))
                      go_upto_region 28 with (fail)
                      have HSA6 := Lib.hid (HSA.out.drewN nq)
                      clear HSA cw ck s0 s1 s2 s3 s4 s5 s6 s7
                      refine wp_world (fun W => Hid (SAt l w.heap.size b6 b7 (.slice (some ⟨g2, 0, none⟩) nn c2) (hashTo (padded l) k) w b9 b13 S [x0, x1, x2, x3, x4, x5, x6, x7] W)) HSA6 ?_
                      clear HSA6
                      intro W6 HSA
                      obtain ⟨cw, ck, s0, s1, s2, s3, s4, s5, s6, s7⟩ := HSA.out.cells i hi64 HS64.out xw xk HXW.out HXK.out
                      go_quiet ((go_at_call 45; exact Calls.quiet_of_same (turn_any _ _ (by decide) _)))
                      have HS13 : Hid (Blk (W6.drewN nq) b13 59 (words32 [x0, x1, x2, x3, x4, x5, x6, x7])) := HSA.out.s
                      go_wp2_with (refine wpList_store_row rfl 59 (.tmp 13) (.tmp 226) rfl b13 _ rfl rfl 59 (words32 [x0, x1, x2, x3, x4, x5, x6, x7]).toArray HS13.out info8 (size8 _ _ _ _ _ _ _ _ _ _ _ _ _ _ _ _) (all8 _ _ _ _ _ _ _ _) ?_)
                      go_roundw
                      case rel => exact ⟨i + 1, Reg.next ⟨x0, x1, x2, x3, x4, x5, x6, x7⟩ xk xw, by omega, by go_num, by show _ = _; rw [HN.out, ← HR.out], (HSA.out.drewN nq).put _ _ xk xw (next_doc x0 x1 x2 x3 x4 x5 x6 x7 xk xw) (by first | exact next_doc_e x0 x1 x2 x3 x4 x5 x6 x7 xk xw | exact rfl)⟩
                      case measure => simp [intOf]; omega
                    ·
                      obtain rfl : i = 64 := by omega
                      have HMX : Hid (hashTo (padded l) (k + 1) = addTo (hashTo (padded l) k) [x0, x1, x2, x3, x4, x5, x6, x7] 8) := by
                        show _ = _
                        rw [addTo_all _ _ (hashTo_length _ _) rfl, hashTo]
                        unfold Sh.mix
                        rw [← HSS.out]
                        have := HR.out
                        rw [← this]
                        rfl
                      have HX13 : Hid (Blk wr b13 59 (words32 [x0, x1, x2, x3, x4, x5, x6, x7])) := HSA.out.s
                      have HRA : Hid (RAt l w.heap.size b6 b7 (.slice (some ⟨g2, 0, none⟩) nn c2) (addTo (hashTo (padded l) k) [x0, x1, x2, x3, x4, x5, x6, x7] 0) w wr) := HSA.out.r
                      have h613 : b6 < b13 := by have := HSA.out.h9; have := HSA.out.h13; have := HSA.out.r.ne; omega
                      clear HSA HR
                      go_wp2_with fail
                      go_loopw [19] (fun t19 wr => ∃ j : Nat, j ≤ 8 ∧ t19 = .int .i64 j ∧ Hid (RAt l w.heap.size b6 b7 (.slice (some ⟨g2, 0, none⟩) nn c2) (addTo (hashTo (padded l) k) [x0, x1, x2, x3, x4, x5, x6, x7] j) w wr) ∧ Hid (Blk wr b13 59 (words32 [x0, x1, x2, x3, x4, x5, x6, x7]))) (fun t19 _ => 8 - (intOf t19).toNat)
                      case atStart => exact ⟨0, by omega, rfl, HRA, HX13⟩
                      case round =>
                        obtain ⟨j, hj, rfl, HRA, HX13⟩ := hrel
                        by_cases hj8 : j < 8
                        · have hlen : j < (addTo (hashTo (padded l) k) [x0, x1, x2, x3, x4, x5, x6, x7] j).length := by rw [addTo_length, hashTo_length]; exact hj8
                          have cj := HRA.out.hcell j hlen
                          have cf := HRA.out.h.frozen j
                          have cx : wr.cell? ⟨b13, j, none⟩ = some (.int .u32 ([x0, x1, x2, x3, x4, x5, x6, x7].getD j 0)) := by rw [HX13.out.cell, words32_get _ _ (by simpa using hj8)]
                          have HN : Hid (addTo (hashTo (padded l) k) [x0, x1, x2, x3, x4, x5, x6, x7] (j + 1) = (addTo (hashTo (padded l) k) [x0, x1, x2, x3, x4, x5, x6, x7] j).set j (((addTo (hashTo (padded l) k) [x0, x1, x2, x3, x4, x5, x6, x7] j).getD j 0 + [x0, x1, x2, x3, x4, x5, x6, x7].getD j 0) % 4294967296)) := rfl
                          clear hlen
                          generalize (addTo (hashTo (padded l) k) [x0, x1, x2, x3, x4, x5, x6, x7] j).getD j 0 = y at *
                          generalize [x0, x1, x2, x3, x4, x5, x6, x7].getD j 0 = z at *
                          go_wp2_with fail
                          go_region
                          all_goals
                            go_wp2_with fail
                            go_roundw
                            case rel => exact ⟨j + 1, by omega, by go_num, by show RAt _ _ _ _ _ _ _ _; rw [HN.out]; exact (HRA.out.set_ j _).drew, (HX13.out.far (by simp; omega) _).drew⟩
                            case measure => simp [intOf]; omega
                        · obtain rfl : j = 8 := by omega
                          have HRN : Hid (RAt l w.heap.size b6 b7 (.slice (some ⟨g2, 0, none⟩) nn c2) (hashTo (padded l) (k + 1)) w wr) := by show RAt _ _ _ _ _ _ _ _; rw [HMX.out]; exact HRA.out
                          clear HRA HX13 HMX
                          go_wp2_with fail
                          go_roundw
                          case rel => exact ⟨k + 1, at0 + 64, by show _ = _; rw [HAT.out]; omega, by omega, by go_num, HRN⟩
                          case measure => simp [intOf]; omega
            ·
              as_aux_lemma =>
                have hae : at0 = nn := by omega
                have HH : Hid (hashTo (padded l) k = hashTo (padded l) ((padded l).length / 64)) := by
                  show _ = _
                  rw [HPN.out, ← hae, HAT.out]
                  congr 1; omega
                have HB6 : Hid (Blk wr b6 59 (words32 (hashTo (padded l) k))) := HRA.out.h
                have HBL : Hid (Below w.heap.size w wr) := HRA.out.m.2.1
                have h6 : w.heap.size ≤ b6 := HRA.out.le
                have hH8 := hashTo_length (padded l) k
                rw [HH.out] at HB6 hH8
                generalize hHE : hashTo (padded l) ((padded l).length / 64) = H at *
                have HHE := Lib.hid hHE
                clear hHE
                have HH8 := Lib.hid hH8
                clear HRA hae hH8
                go_wp2_with fail
                go_loopw [20, 21] (fun t20 t21 wr => ∃ j : Nat, j ≤ 8 ∧ t21 = .int .i64 j ∧ Hid (wr.ownsRow w.heap.size 5 1 t20 (4 * j) (Lib.byteCells (bytesOf (H.take j)))) ∧ Hid (Blk wr b6 59 (words32 H)) ∧ Hid (Below w.heap.size w wr)) (fun _ t21 _ => 8 - (intOf t21).toNat)
                case atStart => exact ⟨0, by omega, rfl, ⟨by simp [bytesOf, Lib.byteCells], .inl ⟨rfl, rfl⟩⟩, HB6, HBL⟩
                case round =>
                  obtain ⟨j, hj, rfl, HOWN, HB6, HBL⟩ := hrel
                  by_cases hj8 : j < 8
                  · have c0 : wr.cell? ⟨b6, j, none⟩ = some (.int .u32 (H.getD j 0)) := by rw [HB6.out.cell, words32_get _ _ (by rw [HH8.out]; exact hj8)]
                    have HC : Hid (Lib.byteCells (bytesOf (H.take (j + 1))) = Lib.byteCells (bytesOf (H.take j)) ++ Lib.byteCells (bytes4 (H.getD j 0))) := by
                      show _ = _
                      rw [bytesOf_take _ _ (by rw [HH8.out]; exact hj8), Lib.byteCells_append]
                    generalize H.getD j 0 = x at *
                    have HRD : Hid (Rd (wr.alloc (.cells #[.int .u8 (x / 16777216 % 256), .int .u8 (x / 65536 % 256), .int .u8 (x / 256 % 256), .int .u8 (x % 256)] 5)).drew (some ⟨wr.heap.size, 0, none⟩) (bytes4 x)) := rd_four wr x _
                    have HOW2 : Hid ((wr.alloc (.cells #[.int .u8 (x / 16777216 % 256), .int .u8 (x / 65536 % 256), .int .u8 (x / 256 % 256), .int .u8 (x % 256)] 5)).drew.ownsRow w.heap.size 5 1 u20 (4 * j) (Lib.byteCells (bytesOf (H.take j)))) := HOWN.out.alloc _
                    have hsz : w.heap.size ≤ wr.heap.size := HBL.out.size
                    have HSZ : Hid (w.heap.size ≤ (wr.alloc (.cells #[.int .u8 (x / 16777216 % 256), .int .u8 (x / 65536 % 256), .int .u8 (x / 256 % 256), .int .u8 (x % 256)] 5)).drew.heap.size) := by
                      show w.heap.size ≤ (wr.alloc _).heap.size
                      rw [World.size_alloc]; omega
                    go_upto_region 38 with (fail)
                    go_region_held3 (fun w' => w'.cell? ⟨b6, j, none⟩ = some (.int .u32 x))
                      (first
                        | go_keep
                        | (rw [grown_cell HOWN.out HB6.out (by decide) HG5.out]; assumption))
                      ((refine step_append_rd (by rfl) (.tmp 244) (.tmp 264) 23 (by rfl) w.heap.size 5 i0 Tryd.underlying23 HI0.out HZ0.out HZ1.out HZ2.out _ (4 * j) (Lib.byteCells (bytesOf (H.take j))) (by rfl) HOW2.out (some ⟨wr.heap.size, 0, none⟩) (bytes4 x) 4 4 rfl (by rfl) HRD.out (by show 4 * j + 4 ≤ _; omega) HSZ.out ?_; intro v5 w5 HO5 HG5))
                    have HN1 : Hid (w5.ownsRow w.heap.size 5 1 v5 (4 * (j + 1)) (Lib.byteCells (bytesOf (H.take (j + 1))))) := by show World.ownsRow _ _ _ _ _ _ _; rw [HC.out]; exact HO5.out
                    have hge := fun g hg => HOWN.out.ownBlock_ge g hg
                    have HN2 : Hid (Below w.heap.size w w5) := ((HBL.out.alloc hsz _).drew).grown HG5.out HSZ.out hge
                    have HN3 : Hid (Blk w5 b6 59 (words32 H)) := (HB6.out.alloc _).drew.grown HG5.out (fun e => own_ne HOWN.out HB6.out (by decide) e.symm)
                    clear HO5 HG5 hge
                    go_wp2_with fail
                    go_roundw
                    case rel => exact ⟨j + 1, by omega, by go_num, HN1, HN3, HN2⟩
                    case measure => simp [intOf]; omega
                  · obtain rfl : j = 8 := by omega
                    have HF : Hid (wr.ownsRow w.heap.size 5 1 u20 32 (Lib.byteCells (bytesOf (hashTo (padded l) ((padded l).length / 64)))) ∧ Below w.heap.size w wr) := by
                      show _ ∧ _
                      rw [HHE.out]
                      have h1 := HOWN.out
                      rw [List.take_of_length_le (by rw [HH8.out]; omega)] at h1
                      exact ⟨h1, HBL.out⟩
                    clear HOWN HBL
                    go_wp2_with fail
                    go_ret
                    exact ⟨u20, rfl, HF.out⟩
end Go.Proofs.YtjeclmbableacaaDoor

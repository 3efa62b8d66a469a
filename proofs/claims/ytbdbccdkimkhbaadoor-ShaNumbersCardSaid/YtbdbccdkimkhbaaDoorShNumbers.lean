/-
  OWN WORK. The law ShaNumbers, walked, given the document's own Sum.
-/
import Derived.Test.YtbdbccdkimkhbaaDoorShCut
namespace Go.Proofs.YtbdbccdkimkhbaaDoor
open Go.RowKit Sh

set_option maxHeartbeats 8000000 in
set_option maxRecDepth 100000 in
theorem numbers_any (hsum : RefSumSaid) (w : World) (hK : KAt w) :
    Calls Tryd.prog 3 #[] w fun e w' => e = .returned (.bool true) ∧ Below w.heap.size w w' := by
  obtain ⟨i0, hi, hz0, hz1, hz2⟩ := info_parts Tryd.infoU8
  have HI0 := Lib.hid hi
  have HZ0 := Lib.hid hz0
  have HZ1 := Lib.hid hz1
  have HZ2 := Lib.hid hz2
  have HSUM : Hid RefSumSaid := hsum
  have HK : Hid (KAt w) := hK
  clear hK hsum hi hz0 hz1 hz2
  go_enter Tryd.func3, Tryd.ntmps3
  go_upto_region 3 with (fail)
  have H0 : Hid (MAt w.heap.size (.slice none 0 0) [] w w) := ⟨⟨rfl, .inl ⟨rfl, rfl⟩⟩, Below.refl _ _, rfl⟩
  go_wp2_with fail
  go_loopw [1, 2] (fun t1 t2 wr => ∃ (l : List UInt8) (A : Option Addr) (c : Nat), l.length ≤ 300 ∧ t1 = .slice A l.length c ∧ t2 = .int .i64 (l.length : Nat) ∧ Hid (MAt w.heap.size (.slice A l.length c) l w wr)) (fun _ t2 _ => 300 - (intOf t2).toNat)
  case atStart => exact ⟨[], none, 0, by simp, rfl, rfl, H0⟩
  case round =>
    obtain ⟨l, A, c, hl, rfl, rfl, HM⟩ := hrel
    have HF : Hid (l.length ≤ c ∧ Rd wr A l) := by
      obtain ⟨A', c', e, h1, h2⟩ := bRow_form (own_base HM.out.1 : (bRow l).holds (.slice A l.length c) wr)
      injection e with e1 _ e2
      subst e1 e2
      exact ⟨h1, h2⟩
    have HL0 : Hid (Later w wr) := HM.out.2.1
    have HKr : Hid (KAt wr) := HL0.out.kat HK.out
    obtain ⟨n, hn⟩ : ∃ n : Nat, n = l.length := ⟨_, rfl⟩
    by_cases hlt : l.length < 300
    · obtain ⟨bx, hbx⟩ : ∃ b : UInt8, ((b.toNat : Nat) : Int) = (l.length : Int) * 7 % 256 := ⟨UInt8.ofNat (l.length * 7), by rw [UInt8.toNat_ofNat']; omega⟩
      have HXB := Lib.hid hbx
      have hcap := HF.out.1
      clear hbx
      have HNN1 : Hid (l.length + [bx].length ≤ 1099511627776) := by show l.length + 1 ≤ _; omega
      have h3 : ((l.length : Nat) : Int) % 64 < 3 ∨ (¬ ((l.length : Nat) : Int) % 64 < 3 ∧ (53 : Int) < ((l.length : Nat) : Int) % 64) ∨ (¬ ((l.length : Nat) : Int) % 64 < 3 ∧ ¬ (53 : Int) < ((l.length : Nat) : Int) % 64) := by omega
      rcases h3 with h1 | ⟨h1, h2⟩ | ⟨h1, h2⟩
      rotate_left 2
      · skip
        have HM2 : Hid (MAt w.heap.size (.slice A l.length c) l w wr) := HM.out
        have HOWN : Hid ((wr.alloc (.cells #[Value.int .u8 (((l.length : Nat) : Int) * 7 % 256)] 5)).ownsRow w.heap.size 5 1 (.slice A l.length c) l.length (Lib.byteCells l)) := HM2.out.own (below_new wr _)
        have HBS : Hid (w.heap.size ≤ (wr.alloc (.cells #[Value.int .u8 (((l.length : Nat) : Int) * 7 % 256)] 5)).heap.size) := by show _ ≤ _; rw [World.size_alloc]; have := HM2.out.2.1.size; omega
        go_wp2_with (at_builtin; refine wpList_append_rd rfl (.tmp 43) (.tmp 47) 22 rfl w.heap.size 5 i0 Tryd.underlying22 HI0.out HZ0.out HZ1.out HZ2.out _ l.length (Lib.byteCells l) rfl HOWN.out (some ⟨wr.heap.size, 0, none⟩) [bx] 1 1 rfl rfl (rd_new wr _ _ _ HXB.out) HNN1.out HBS.out ?_; intro v3 w3 HO3 HG3)
        have HM4 : Hid (MAt w.heap.size v3 (l ++ [bx]) w w3) := HM2.out.push (below_new wr _) HO3.out HG3.out
        clear HO3 HG3
        obtain ⟨g3, c3, e3, _⟩ := HM4.out.form (by simp)
        subst e3
        have hl1 : (l ++ [bx]).length = l.length + 1 := by simp
        go_wp2_with fail
        go_roundw
        case rel => exact ⟨l ++ [bx], some ⟨g3, 0, none⟩, c3, by simp; omega, by first | rfl | simp, by rw [hl1]; go_num, HM4⟩
        case measure => simp [intOf]; omega
      all_goals
        go_upto_region 6 with (fail)
        refine Rg.wp_region_facts (by kernel_rfl) (fun j => List.getD [Rg.val (.slice A l.length c), bRow (Sh.sum l), Rg.val (.string (strOf (Sh.sum l))), Rg.val (.slice A l.length c), bRow (Sh.sum l), Rg.val (.string (strOf (Sh.sum l))), Rg.val (.bool false), Rg.val (.bool false), Rg.val (.slice A l.length c), bRow (Sh.sum (0 :: l)), Rg.val (.string (strOf (Sh.sum (0 :: l)))), Rg.val (.slice A l.length c), bRow (Sh.sum (0 :: l)), Rg.val (.string (strOf (Sh.sum (0 :: l)))), Rg.val (.bool false), Rg.val (.bool false), Rg.val (.bool false), Rg.val (.slice A l.length c), Rg.val (.slice A l.length c), bRow (Sh.sum (1 :: (l ++ l))), Rg.val (.string (strOf (Sh.sum (1 :: (l ++ l))))), Rg.val (.slice A l.length c), Rg.val (.slice A l.length c), bRow (Sh.sum (1 :: (l ++ l))), Rg.val (.string (strOf (Sh.sum (1 :: (l ++ l))))), Rg.val (.bool false), Rg.val (.bool false)] j Rg.any) [[], [(0, 16)], [(1, 17)], [], [(3, 19)], [(4, 20)], [(2, 18), (5, 21)], [(6, 22)], [(7, 23)], [(7, 23), (8, 24)], [(7, 23), (9, 25)], [(7, 23)], [(7, 23), (11, 27)], [(7, 23), (12, 28)], [(7, 23), (10, 26), (13, 29)], [(7, 23), (14, 30)], [(15, 31)], [(16, 32)], [(16, 32)], [(16, 32), (17, 33), (18, 34)], [(16, 32), (19, 35)], [(16, 32)], [(16, 32)], [(16, 32), (21, 37), (22, 38)], [(16, 32), (23, 39)], [(16, 32), (20, 36), (24, 40)], [(16, 32), (25, 41)]] [] (by kernel_rfl) (by kernel_rfl) ?_ ?_
        · intro fr ha
          have hz : fr.tmps.size = 68 := by rw [ha]; rfl
          have y1 : fr.eval (.tmp 1) = .slice A l.length c := by rw [ha]; rfl
          clear ha
          refine .cons ?_ (.cons ?_ (.cons ?_ (.cons ?_ (.cons ?_ (.cons ?_ (.cons ?_ (.cons ?_ (.cons ?_ (.cons ?_ (.cons ?_ (.cons ?_ (.cons ?_ (.cons ?_ (.cons ?_ (.cons ?_ (.cons ?_ (.cons ?_ (.cons ?_ (.cons ?_ (.cons ?_ (.cons ?_ (.cons ?_ (.cons ?_ (.cons ?_ (.cons ?_ (.cons ?_ (.nil)))))))))))))))))))))))))))
          · intro V w2 HL HH
            have HL : Later wr w2 := HL
            have tb1 : (Rg.putUse V [] fr).eval (.tmp 1) = .slice A l.length c := (Rg.use_eval V fr 1 [] (by simp only [hz]; decide)).trans y1
            show Rg.Does1 _ _ V (Rg.putUse V [] fr) w2 _
            exact step_mv (.slice A l.length c) (by simp only [execOp, tb1]; go_simp) rfl rfl True.intro
          · intro V w2 HL HH
            have HL : Later wr w2 := HL
            have h0 : V 0 = .slice A l.length c := HH.1
            have tb16 : (Rg.putUse V [(0, 16)] fr).eval (.tmp 16) = .slice A l.length c := (Rg.use_eval V fr 16 [(0, 16)] (by simp only [hz]; decide)).trans h0
            show Rg.Does1 _ _ V (Rg.putUse V [(0, 16)] fr) w2 _
            exact step_row #[.slice A (l).length c] (Sh.sum l) (fun args w => Rg.call_enter Tryd.func7 (by kernel_rfl) (by kernel_rfl) args w) rfl (by simp only [List.map_toArray, List.map_cons, List.map_nil, tb16]) (by rw [Sh.sum_length]) rfl rfl True.intro (sum_any _ (l) A c (HL.rd HF.out.2) (hcap) (HL.kat HKr.out) (by first | omega | (simp; done) | (simp; omega)))
          · intro V w2 HL HH
            have HL : Later wr w2 := HL
            have h1 : (bRow (Sh.sum l)).holds (V 1) w2 := HH.1
            obtain ⟨X1, k1, e1, hc1, hr1⟩ := bRow_form h1
            have tb17 : (Rg.putUse V [(1, 17)] fr).eval (.tmp 17) = .slice X1 (Sh.sum l).length k1 := (Rg.use_eval V fr 17 [(1, 17)] (by simp only [hz]; decide)).trans e1
            show Rg.Does1 _ _ V (Rg.putUse V [(1, 17)] fr) w2 _
            exact step_str (Sh.sum l) rfl tb17 (by first | rfl | rw [Sh.sum_length]) (hr1) rfl rfl True.intro
          · intro V w2 HL HH
            have HL : Later wr w2 := HL
            have tb1 : (Rg.putUse V [] fr).eval (.tmp 1) = .slice A l.length c := (Rg.use_eval V fr 1 [] (by simp only [hz]; decide)).trans y1
            show Rg.Does1 _ _ V (Rg.putUse V [] fr) w2 _
            exact step_mv (.slice A l.length c) (by simp only [execOp, tb1]; go_simp) rfl rfl True.intro
          · intro V w2 HL HH
            have HL : Later wr w2 := HL
            have h3 : V 3 = .slice A l.length c := HH.1
            have tb19 : (Rg.putUse V [(3, 19)] fr).eval (.tmp 19) = .slice A l.length c := (Rg.use_eval V fr 19 [(3, 19)] (by simp only [hz]; decide)).trans h3
            show Rg.Does1 _ _ V (Rg.putUse V [(3, 19)] fr) w2 _
            exact step_row #[.slice A (l).length c] (Sh.sum l) (fun args w => Rg.call_enter Tryd.func8 (by kernel_rfl) (by kernel_rfl) args w) rfl (by simp only [List.map_toArray, List.map_cons, List.map_nil, tb19]) (by rw [Sh.sum_length]) rfl rfl True.intro (HSUM.out _ (l) A c (HL.rd HF.out.2) (by first | omega | (simp; done) | (simp; omega)))
          · intro V w2 HL HH
            have HL : Later wr w2 := HL
            have h4 : (bRow (Sh.sum l)).holds (V 4) w2 := HH.1
            obtain ⟨X4, k4, e4, hc4, hr4⟩ := bRow_form h4
            have tb20 : (Rg.putUse V [(4, 20)] fr).eval (.tmp 20) = .slice X4 (Sh.sum l).length k4 := (Rg.use_eval V fr 20 [(4, 20)] (by simp only [hz]; decide)).trans e4
            show Rg.Does1 _ _ V (Rg.putUse V [(4, 20)] fr) w2 _
            exact step_str (Sh.sum l) rfl tb20 (by first | rfl | rw [Sh.sum_length]) (hr4) rfl rfl True.intro
          · intro V w2 HL HH
            have HL : Later wr w2 := HL
            have h2 : V 2 = .string (strOf (Sh.sum l)) := HH.1
            have h5 : V 5 = .string (strOf (Sh.sum l)) := HH.2.1
            have tb18 : (Rg.putUse V [(2, 18), (5, 21)] fr).eval (.tmp 18) = .string (strOf (Sh.sum l)) := (Rg.use_eval V fr 18 [(2, 18), (5, 21)] (by simp only [hz]; decide)).trans h2
            have tb21 : (Rg.putUse V [(2, 18), (5, 21)] fr).eval (.tmp 21) = .string (strOf (Sh.sum l)) := (Rg.use_eval V fr 21 [(2, 18), (5, 21)] (by simp only [hz]; decide)).trans h5
            show Rg.Does1 _ _ V (Rg.putUse V [(2, 18), (5, 21)] fr) w2 _
            exact step_mv (.bool false) (by simp only [execOp, tb18, tb21]; go_simp) rfl rfl True.intro
          · intro V w2 HL HH
            have HL : Later wr w2 := HL
            have h6 : V 6 = .bool false := HH.1
            have tb22 : (Rg.putUse V [(6, 22)] fr).eval (.tmp 22) = .bool false := (Rg.use_eval V fr 22 [(6, 22)] (by simp only [hz]; decide)).trans h6
            show Rg.Does1 _ _ V (Rg.putUse V [(6, 22)] fr) w2 _
            exact step_mv (.bool false) (by simp only [execOp, tb22]; go_simp) rfl rfl True.intro
          · intro V w2 HL HH
            have HL : Later wr w2 := HL
            have h7 : V 7 = .bool false := HH.1
            have tb1 : (Rg.putUse V [(7, 23)] fr).eval (.tmp 1) = .slice A l.length c := (Rg.use_eval V fr 1 [(7, 23)] (by simp only [hz]; decide)).trans y1
            show Rg.Does1 _ _ V (Rg.putUse V [(7, 23)] fr) w2 _
            exact step_mv (.slice A l.length c) (by simp only [execOp, tb1]; go_simp) rfl rfl h7
          · intro V w2 HL HH
            have HL : Later wr w2 := HL
            have h7 : V 7 = .bool false := HH.1
            have h8 : V 8 = .slice A l.length c := HH.2.1
            have tb24 : (Rg.putUse V [(7, 23), (8, 24)] fr).eval (.tmp 24) = .slice A l.length c := (Rg.use_eval V fr 24 [(7, 23), (8, 24)] (by simp only [hz]; decide)).trans h8
            show Rg.Does1 _ _ V (Rg.putUse V [(7, 23), (8, 24)] fr) w2 _
            exact step_row #[.slice A (l).length c] (Sh.sum (0 :: l)) (fun args w => Rg.call_enter Tryd.func9 (by kernel_rfl) (by kernel_rfl) args w) rfl (by simp only [List.map_toArray, List.map_cons, List.map_nil, tb24]) (by rw [Sh.sum_length]) rfl rfl h7 (leaf_any _ (l) A c (HL.rd HF.out.2) (hcap) (HL.kat HKr.out) (by first | omega | (simp; done) | (simp; omega)))
          · intro V w2 HL HH
            have HL : Later wr w2 := HL
            have h7 : V 7 = .bool false := HH.1
            have h9 : (bRow (Sh.sum (0 :: l))).holds (V 9) w2 := HH.2.1
            obtain ⟨X9, k9, e9, hc9, hr9⟩ := bRow_form h9
            have tb25 : (Rg.putUse V [(7, 23), (9, 25)] fr).eval (.tmp 25) = .slice X9 (Sh.sum (0 :: l)).length k9 := (Rg.use_eval V fr 25 [(7, 23), (9, 25)] (by simp only [hz]; decide)).trans e9
            show Rg.Does1 _ _ V (Rg.putUse V [(7, 23), (9, 25)] fr) w2 _
            exact step_str (Sh.sum (0 :: l)) rfl tb25 (by first | rfl | rw [Sh.sum_length]) (hr9) rfl rfl h7
          · intro V w2 HL HH
            have HL : Later wr w2 := HL
            have h7 : V 7 = .bool false := HH.1
            have tb1 : (Rg.putUse V [(7, 23)] fr).eval (.tmp 1) = .slice A l.length c := (Rg.use_eval V fr 1 [(7, 23)] (by simp only [hz]; decide)).trans y1
            show Rg.Does1 _ _ V (Rg.putUse V [(7, 23)] fr) w2 _
            exact step_mv (.slice A l.length c) (by simp only [execOp, tb1]; go_simp) rfl rfl h7
          · intro V w2 HL HH
            have HL : Later wr w2 := HL
            have h7 : V 7 = .bool false := HH.1
            have h11 : V 11 = .slice A l.length c := HH.2.1
            have tb27 : (Rg.putUse V [(7, 23), (11, 27)] fr).eval (.tmp 27) = .slice A l.length c := (Rg.use_eval V fr 27 [(7, 23), (11, 27)] (by simp only [hz]; decide)).trans h11
            show Rg.Does1 _ _ V (Rg.putUse V [(7, 23), (11, 27)] fr) w2 _
            exact step_row #[.slice A (l).length c] (Sh.sum (0 :: l)) (fun args w => Rg.call_enter Tryd.func10 (by kernel_rfl) (by kernel_rfl) args w) rfl (by simp only [List.map_toArray, List.map_cons, List.map_nil, tb27]) (by rw [Sh.sum_length]) rfl rfl h7 (refLeaf_any HSUM _ (l) A c (HL.rd HF.out.2) (by first | omega | (simp; done) | (simp; omega)))
          · intro V w2 HL HH
            have HL : Later wr w2 := HL
            have h7 : V 7 = .bool false := HH.1
            have h12 : (bRow (Sh.sum (0 :: l))).holds (V 12) w2 := HH.2.1
            obtain ⟨X12, k12, e12, hc12, hr12⟩ := bRow_form h12
            have tb28 : (Rg.putUse V [(7, 23), (12, 28)] fr).eval (.tmp 28) = .slice X12 (Sh.sum (0 :: l)).length k12 := (Rg.use_eval V fr 28 [(7, 23), (12, 28)] (by simp only [hz]; decide)).trans e12
            show Rg.Does1 _ _ V (Rg.putUse V [(7, 23), (12, 28)] fr) w2 _
            exact step_str (Sh.sum (0 :: l)) rfl tb28 (by first | rfl | rw [Sh.sum_length]) (hr12) rfl rfl h7
          · intro V w2 HL HH
            have HL : Later wr w2 := HL
            have h7 : V 7 = .bool false := HH.1
            have h10 : V 10 = .string (strOf (Sh.sum (0 :: l))) := HH.2.1
            have h13 : V 13 = .string (strOf (Sh.sum (0 :: l))) := HH.2.2.1
            have tb26 : (Rg.putUse V [(7, 23), (10, 26), (13, 29)] fr).eval (.tmp 26) = .string (strOf (Sh.sum (0 :: l))) := (Rg.use_eval V fr 26 [(7, 23), (10, 26), (13, 29)] (by simp only [hz]; decide)).trans h10
            have tb29 : (Rg.putUse V [(7, 23), (10, 26), (13, 29)] fr).eval (.tmp 29) = .string (strOf (Sh.sum (0 :: l))) := (Rg.use_eval V fr 29 [(7, 23), (10, 26), (13, 29)] (by simp only [hz]; decide)).trans h13
            show Rg.Does1 _ _ V (Rg.putUse V [(7, 23), (10, 26), (13, 29)] fr) w2 _
            exact step_mv (.bool false) (by simp only [execOp, tb26, tb29]; go_simp) rfl rfl h7
          · intro V w2 HL HH
            have HL : Later wr w2 := HL
            have h7 : V 7 = .bool false := HH.1
            have h14 : V 14 = .bool false := HH.2.1
            have tb23 : (Rg.putUse V [(7, 23), (14, 30)] fr).eval (.tmp 23) = .bool false := (Rg.use_eval V fr 23 [(7, 23), (14, 30)] (by simp only [hz]; decide)).trans h7
            have tb30 : (Rg.putUse V [(7, 23), (14, 30)] fr).eval (.tmp 30) = .bool false := (Rg.use_eval V fr 30 [(7, 23), (14, 30)] (by simp only [hz]; decide)).trans h14
            show Rg.Does1 _ _ V (Rg.putUse V [(7, 23), (14, 30)] fr) w2 _
            exact step_mv (.bool false) (by simp only [execOp, tb23, tb30]; go_simp) rfl rfl True.intro
          · intro V w2 HL HH
            have HL : Later wr w2 := HL
            have h15 : V 15 = .bool false := HH.1
            have tb31 : (Rg.putUse V [(15, 31)] fr).eval (.tmp 31) = .bool false := (Rg.use_eval V fr 31 [(15, 31)] (by simp only [hz]; decide)).trans h15
            show Rg.Does1 _ _ V (Rg.putUse V [(15, 31)] fr) w2 _
            exact step_mv (.bool false) (by simp only [execOp, tb31]; go_simp) rfl rfl True.intro
          · intro V w2 HL HH
            have HL : Later wr w2 := HL
            have h16 : V 16 = .bool false := HH.1
            have tb1 : (Rg.putUse V [(16, 32)] fr).eval (.tmp 1) = .slice A l.length c := (Rg.use_eval V fr 1 [(16, 32)] (by simp only [hz]; decide)).trans y1
            show Rg.Does1 _ _ V (Rg.putUse V [(16, 32)] fr) w2 _
            exact step_mv (.slice A l.length c) (by simp only [execOp, tb1]; go_simp) rfl rfl h16
          · intro V w2 HL HH
            have HL : Later wr w2 := HL
            have h16 : V 16 = .bool false := HH.1
            have tb1 : (Rg.putUse V [(16, 32)] fr).eval (.tmp 1) = .slice A l.length c := (Rg.use_eval V fr 1 [(16, 32)] (by simp only [hz]; decide)).trans y1
            show Rg.Does1 _ _ V (Rg.putUse V [(16, 32)] fr) w2 _
            exact step_mv (.slice A l.length c) (by simp only [execOp, tb1]; go_simp) rfl rfl h16
          · intro V w2 HL HH
            have HL : Later wr w2 := HL
            have h16 : V 16 = .bool false := HH.1
            have h17 : V 17 = .slice A l.length c := HH.2.1
            have h18 : V 18 = .slice A l.length c := HH.2.2.1
            have tb33 : (Rg.putUse V [(16, 32), (17, 33), (18, 34)] fr).eval (.tmp 33) = .slice A l.length c := (Rg.use_eval V fr 33 [(16, 32), (17, 33), (18, 34)] (by simp only [hz]; decide)).trans h17
            have tb34 : (Rg.putUse V [(16, 32), (17, 33), (18, 34)] fr).eval (.tmp 34) = .slice A l.length c := (Rg.use_eval V fr 34 [(16, 32), (17, 33), (18, 34)] (by simp only [hz]; decide)).trans h18
            show Rg.Does1 _ _ V (Rg.putUse V [(16, 32), (17, 33), (18, 34)] fr) w2 _
            exact step_row #[.slice A (l).length c, .slice A (l).length c] (Sh.sum (1 :: (l ++ l))) (fun args w => Rg.call_enter Tryd.func11 (by kernel_rfl) (by kernel_rfl) args w) rfl (by simp only [List.map_toArray, List.map_cons, List.map_nil, tb33, tb34]) (by rw [Sh.sum_length]) rfl rfl h16 (pair_any _ (l) (l) A A c c (HL.rd HF.out.2) (hcap) (HL.rd HF.out.2) (hcap) (HL.kat HKr.out) (by first | omega | (simp; done) | (simp; omega)))
          · intro V w2 HL HH
            have HL : Later wr w2 := HL
            have h16 : V 16 = .bool false := HH.1
            have h19 : (bRow (Sh.sum (1 :: (l ++ l)))).holds (V 19) w2 := HH.2.1
            obtain ⟨X19, k19, e19, hc19, hr19⟩ := bRow_form h19
            have tb35 : (Rg.putUse V [(16, 32), (19, 35)] fr).eval (.tmp 35) = .slice X19 (Sh.sum (1 :: (l ++ l))).length k19 := (Rg.use_eval V fr 35 [(16, 32), (19, 35)] (by simp only [hz]; decide)).trans e19
            show Rg.Does1 _ _ V (Rg.putUse V [(16, 32), (19, 35)] fr) w2 _
            exact step_str (Sh.sum (1 :: (l ++ l))) rfl tb35 (by first | rfl | rw [Sh.sum_length]) (hr19) rfl rfl h16
          · intro V w2 HL HH
            have HL : Later wr w2 := HL
            have h16 : V 16 = .bool false := HH.1
            have tb1 : (Rg.putUse V [(16, 32)] fr).eval (.tmp 1) = .slice A l.length c := (Rg.use_eval V fr 1 [(16, 32)] (by simp only [hz]; decide)).trans y1
            show Rg.Does1 _ _ V (Rg.putUse V [(16, 32)] fr) w2 _
            exact step_mv (.slice A l.length c) (by simp only [execOp, tb1]; go_simp) rfl rfl h16
          · intro V w2 HL HH
            have HL : Later wr w2 := HL
            have h16 : V 16 = .bool false := HH.1
            have tb1 : (Rg.putUse V [(16, 32)] fr).eval (.tmp 1) = .slice A l.length c := (Rg.use_eval V fr 1 [(16, 32)] (by simp only [hz]; decide)).trans y1
            show Rg.Does1 _ _ V (Rg.putUse V [(16, 32)] fr) w2 _
            exact step_mv (.slice A l.length c) (by simp only [execOp, tb1]; go_simp) rfl rfl h16
          · intro V w2 HL HH
            have HL : Later wr w2 := HL
            have h16 : V 16 = .bool false := HH.1
            have h21 : V 21 = .slice A l.length c := HH.2.1
            have h22 : V 22 = .slice A l.length c := HH.2.2.1
            have tb37 : (Rg.putUse V [(16, 32), (21, 37), (22, 38)] fr).eval (.tmp 37) = .slice A l.length c := (Rg.use_eval V fr 37 [(16, 32), (21, 37), (22, 38)] (by simp only [hz]; decide)).trans h21
            have tb38 : (Rg.putUse V [(16, 32), (21, 37), (22, 38)] fr).eval (.tmp 38) = .slice A l.length c := (Rg.use_eval V fr 38 [(16, 32), (21, 37), (22, 38)] (by simp only [hz]; decide)).trans h22
            show Rg.Does1 _ _ V (Rg.putUse V [(16, 32), (21, 37), (22, 38)] fr) w2 _
            exact step_row #[.slice A (l).length c, .slice A (l).length c] (Sh.sum (1 :: (l ++ l))) (fun args w => Rg.call_enter Tryd.func12 (by kernel_rfl) (by kernel_rfl) args w) rfl (by simp only [List.map_toArray, List.map_cons, List.map_nil, tb37, tb38]) (by rw [Sh.sum_length]) rfl rfl h16 (refPair_any HSUM _ (l) (l) A A c c (HL.rd HF.out.2) (HL.rd HF.out.2) (by first | omega | (simp; done) | (simp; omega)))
          · intro V w2 HL HH
            have HL : Later wr w2 := HL
            have h16 : V 16 = .bool false := HH.1
            have h23 : (bRow (Sh.sum (1 :: (l ++ l)))).holds (V 23) w2 := HH.2.1
            obtain ⟨X23, k23, e23, hc23, hr23⟩ := bRow_form h23
            have tb39 : (Rg.putUse V [(16, 32), (23, 39)] fr).eval (.tmp 39) = .slice X23 (Sh.sum (1 :: (l ++ l))).length k23 := (Rg.use_eval V fr 39 [(16, 32), (23, 39)] (by simp only [hz]; decide)).trans e23
            show Rg.Does1 _ _ V (Rg.putUse V [(16, 32), (23, 39)] fr) w2 _
            exact step_str (Sh.sum (1 :: (l ++ l))) rfl tb39 (by first | rfl | rw [Sh.sum_length]) (hr23) rfl rfl h16
          · intro V w2 HL HH
            have HL : Later wr w2 := HL
            have h16 : V 16 = .bool false := HH.1
            have h20 : V 20 = .string (strOf (Sh.sum (1 :: (l ++ l)))) := HH.2.1
            have h24 : V 24 = .string (strOf (Sh.sum (1 :: (l ++ l)))) := HH.2.2.1
            have tb36 : (Rg.putUse V [(16, 32), (20, 36), (24, 40)] fr).eval (.tmp 36) = .string (strOf (Sh.sum (1 :: (l ++ l)))) := (Rg.use_eval V fr 36 [(16, 32), (20, 36), (24, 40)] (by simp only [hz]; decide)).trans h20
            have tb40 : (Rg.putUse V [(16, 32), (20, 36), (24, 40)] fr).eval (.tmp 40) = .string (strOf (Sh.sum (1 :: (l ++ l)))) := (Rg.use_eval V fr 40 [(16, 32), (20, 36), (24, 40)] (by simp only [hz]; decide)).trans h24
            show Rg.Does1 _ _ V (Rg.putUse V [(16, 32), (20, 36), (24, 40)] fr) w2 _
            exact step_mv (.bool false) (by simp only [execOp, tb36, tb40]; go_simp) rfl rfl h16
          · intro V w2 HL HH
            have HL : Later wr w2 := HL
            have h16 : V 16 = .bool false := HH.1
            have h25 : V 25 = .bool false := HH.2.1
            have tb32 : (Rg.putUse V [(16, 32), (25, 41)] fr).eval (.tmp 32) = .bool false := (Rg.use_eval V fr 32 [(16, 32), (25, 41)] (by simp only [hz]; decide)).trans h16
            have tb41 : (Rg.putUse V [(16, 32), (25, 41)] fr).eval (.tmp 41) = .bool false := (Rg.use_eval V fr 41 [(16, 32), (25, 41)] (by simp only [hz]; decide)).trans h25
            show Rg.Does1 _ _ V (Rg.putUse V [(16, 32), (25, 41)] fr) w2 _
            exact step_mv (.bool false) (by simp only [execOp, tb32, tb41]; go_simp) rfl rfl True.intro
        · intro V w2 HI
          have h26 : V 26 = .bool false := HI.get 26 (by decide) (by rfl)
          simp only [Rg.putList, Act.put, List.setIfInBounds_toArray, List.set_cons_zero, List.set_cons_succ, Nat.zero_add, Nat.reduceAdd]
          rw [h26]
          have HM2 : Hid (MAt w.heap.size (.slice A l.length c) l w w2) := HM.out.below (later_drew HI.later)
          have HOWN : Hid ((w2.alloc (.cells #[Value.int .u8 (((l.length : Nat) : Int) * 7 % 256)] 5)).ownsRow w.heap.size 5 1 (.slice A l.length c) l.length (Lib.byteCells l)) := HM2.out.own (below_new w2 _)
          have HBS : Hid (w.heap.size ≤ (w2.alloc (.cells #[Value.int .u8 (((l.length : Nat) : Int) * 7 % 256)] 5)).heap.size) := by show _ ≤ _; rw [World.size_alloc]; have := HM2.out.2.1.size; omega
          go_wp2_with (at_builtin; refine wpList_append_rd rfl (.tmp 43) (.tmp 47) 22 rfl w.heap.size 5 i0 Tryd.underlying22 HI0.out HZ0.out HZ1.out HZ2.out _ l.length (Lib.byteCells l) rfl HOWN.out (some ⟨w2.heap.size, 0, none⟩) [bx] 1 1 rfl rfl (rd_new w2 _ _ _ HXB.out) HNN1.out HBS.out ?_; intro v3 w3 HO3 HG3)
          have HM4 : Hid (MAt w.heap.size v3 (l ++ [bx]) w w3) := HM2.out.push (below_new w2 _) HO3.out HG3.out
          clear HO3 HG3
          obtain ⟨g3, c3, e3, _⟩ := HM4.out.form (by simp)
          subst e3
          have hl1 : (l ++ [bx]).length = l.length + 1 := by simp
          go_wp2_with fail
          go_roundw
          case rel => exact ⟨l ++ [bx], some ⟨g3, 0, none⟩, c3, by simp; omega, by first | rfl | simp, by rw [hl1]; go_num, HM4⟩
          case measure => simp [intOf]; omega
    · go_wp2_with fail
      refine (new_any wr).mono ?_
      rintro e w3 ⟨B, rfl, hB, hst, hb⟩
      have HS3 : Hid (St w3 B []) := hst
      have HL3 : Hid (Later w w3) := HL0.out.trans hb
      have HK3 : Hid (KAt w3) := HL3.out.kat HK.out
      clear hst hb hB HM HF HKr
      go_upto_region 10 with (fail)
      refine Rg.wp_region_facts (by kernel_rfl) (fun j => List.getD [Rg.val (.pointer (some ⟨B, 0, none⟩)), Rg.val (.bool true), Rg.val (.bool true), Rg.val (.pointer (some ⟨B, 0, none⟩)), Rg.val (.int .i64 0), Rg.val (.bool true), Rg.val (.bool true), Rg.val (.bool true), Rg.val (.pointer (some ⟨B, 0, none⟩)), bRow (Sh.sum ([])), Rg.val (.string (strOf (Sh.sum ([])))), bRow (Sh.sum []), Rg.val (.string (strOf (Sh.sum []))), Rg.val (.bool true), Rg.val (.bool true), Rg.val (.bool true), Rg.val (.bool true), Rg.val (.bool true), Rg.val (.bool true)] j Rg.any) [[], [(0, 50)], [(1, 51)], [(2, 52)], [(2, 52), (3, 53)], [(2, 52), (4, 54)], [(2, 52), (5, 55)], [(6, 56)], [(7, 57)], [(7, 57), (8, 58)], [(7, 57), (9, 59)], [(7, 57)], [(7, 57), (11, 61)], [(7, 57), (10, 60), (12, 62)], [(7, 57), (13, 63)], [(14, 64)], [(15, 65)], [(15, 65), (16, 66)], [(17, 67)]] [] (by kernel_rfl) (by kernel_rfl) ?_ ?_
      · intro fr ha
        have hz : fr.tmps.size = 68 := by rw [ha]; rfl
        have y3 : fr.eval (.tmp 3) = .pointer (some ⟨B, 0, none⟩) := by rw [ha]; rfl
        clear ha
        refine .cons ?_ (.cons ?_ (.cons ?_ (.cons ?_ (.cons ?_ (.cons ?_ (.cons ?_ (.cons ?_ (.cons ?_ (.cons ?_ (.cons ?_ (.cons ?_ (.cons ?_ (.cons ?_ (.cons ?_ (.cons ?_ (.cons ?_ (.cons ?_ (.cons ?_ (.nil)))))))))))))))))))
        · intro V w2 HL HH
          have HL : Later w3 w2 := HL
          have tb3 : (Rg.putUse V [] fr).eval (.tmp 3) = .pointer (some ⟨B, 0, none⟩) := (Rg.use_eval V fr 3 [] (by simp only [hz]; decide)).trans y3
          show Rg.Does1 _ _ V (Rg.putUse V [] fr) w2 _
          exact step_mv (.pointer (some ⟨B, 0, none⟩)) (by simp only [execOp, tb3]; go_simp) rfl rfl True.intro
        · intro V w2 HL HH
          have HL : Later w3 w2 := HL
          have h0 : V 0 = .pointer (some ⟨B, 0, none⟩) := HH.1
          have tb50 : (Rg.putUse V [(0, 50)] fr).eval (.tmp 50) = .pointer (some ⟨B, 0, none⟩) := (Rg.use_eval V fr 50 [(0, 50)] (by simp only [hz]; decide)).trans h0
          show Rg.Does1 _ _ V (Rg.putUse V [(0, 50)] fr) w2 _
          exact step_mv (.bool true) (by simp only [execOp, tb50]; go_simp) rfl rfl True.intro
        · intro V w2 HL HH
          have HL : Later w3 w2 := HL
          have h1 : V 1 = .bool true := HH.1
          have tb51 : (Rg.putUse V [(1, 51)] fr).eval (.tmp 51) = .bool true := (Rg.use_eval V fr 51 [(1, 51)] (by simp only [hz]; decide)).trans h1
          show Rg.Does1 _ _ V (Rg.putUse V [(1, 51)] fr) w2 _
          exact step_mv (.bool true) (by simp only [execOp, tb51]; go_simp) rfl rfl True.intro
        · intro V w2 HL HH
          have HL : Later w3 w2 := HL
          have h2 : V 2 = .bool true := HH.1
          have tb3 : (Rg.putUse V [(2, 52)] fr).eval (.tmp 3) = .pointer (some ⟨B, 0, none⟩) := (Rg.use_eval V fr 3 [(2, 52)] (by simp only [hz]; decide)).trans y3
          show Rg.Does1 _ _ V (Rg.putUse V [(2, 52)] fr) w2 _
          exact step_mv (.pointer (some ⟨B, 0, none⟩)) (by simp only [execOp, tb3]; go_simp) rfl rfl h2
        · intro V w2 HL HH
          have HL : Later w3 w2 := HL
          have h2 : V 2 = .bool true := HH.1
          have h3 : V 3 = .pointer (some ⟨B, 0, none⟩) := HH.2.1
          have tb53 : (Rg.putUse V [(2, 52), (3, 53)] fr).eval (.tmp 53) = .pointer (some ⟨B, 0, none⟩) := (Rg.use_eval V fr 53 [(2, 52), (3, 53)] (by simp only [hz]; decide)).trans h3
          show Rg.Does1 _ _ V (Rg.putUse V [(2, 52), (3, 53)] fr) w2 _
          exact step_num #[.pointer (some ⟨B, 0, none⟩)] (.int .i64 0) (fun args w => Rg.call_enter Tryd.func14 (by kernel_rfl) (by kernel_rfl) args w) rfl (by simp only [List.map_toArray, List.map_cons, List.map_nil, tb53]) rfl rfl h2 ((len_any _ B [] (HL.st HS3.out) (by first | omega | simp)).mono (fun e w3 ⟨h1, h2⟩ => ⟨h1, h2 ▸ Below.refl _ _⟩))
        · intro V w2 HL HH
          have HL : Later w3 w2 := HL
          have h2 : V 2 = .bool true := HH.1
          have h4 : V 4 = .int .i64 0 := HH.2.1
          have tb54 : (Rg.putUse V [(2, 52), (4, 54)] fr).eval (.tmp 54) = .int .i64 0 := (Rg.use_eval V fr 54 [(2, 52), (4, 54)] (by simp only [hz]; decide)).trans h4
          show Rg.Does1 _ _ V (Rg.putUse V [(2, 52), (4, 54)] fr) w2 _
          exact step_mv (.bool true) (by simp only [execOp, tb54]; go_simp) rfl rfl h2
        · intro V w2 HL HH
          have HL : Later w3 w2 := HL
          have h2 : V 2 = .bool true := HH.1
          have h5 : V 5 = .bool true := HH.2.1
          have tb52 : (Rg.putUse V [(2, 52), (5, 55)] fr).eval (.tmp 52) = .bool true := (Rg.use_eval V fr 52 [(2, 52), (5, 55)] (by simp only [hz]; decide)).trans h2
          have tb55 : (Rg.putUse V [(2, 52), (5, 55)] fr).eval (.tmp 55) = .bool true := (Rg.use_eval V fr 55 [(2, 52), (5, 55)] (by simp only [hz]; decide)).trans h5
          show Rg.Does1 _ _ V (Rg.putUse V [(2, 52), (5, 55)] fr) w2 _
          exact step_mv (.bool true) (by simp only [execOp, tb52, tb55]; go_simp) rfl rfl True.intro
        · intro V w2 HL HH
          have HL : Later w3 w2 := HL
          have h6 : V 6 = .bool true := HH.1
          have tb56 : (Rg.putUse V [(6, 56)] fr).eval (.tmp 56) = .bool true := (Rg.use_eval V fr 56 [(6, 56)] (by simp only [hz]; decide)).trans h6
          show Rg.Does1 _ _ V (Rg.putUse V [(6, 56)] fr) w2 _
          exact step_mv (.bool true) (by simp only [execOp, tb56]; go_simp) rfl rfl True.intro
        · intro V w2 HL HH
          have HL : Later w3 w2 := HL
          have h7 : V 7 = .bool true := HH.1
          have tb3 : (Rg.putUse V [(7, 57)] fr).eval (.tmp 3) = .pointer (some ⟨B, 0, none⟩) := (Rg.use_eval V fr 3 [(7, 57)] (by simp only [hz]; decide)).trans y3
          show Rg.Does1 _ _ V (Rg.putUse V [(7, 57)] fr) w2 _
          exact step_mv (.pointer (some ⟨B, 0, none⟩)) (by simp only [execOp, tb3]; go_simp) rfl rfl h7
        · intro V w2 HL HH
          have HL : Later w3 w2 := HL
          have h7 : V 7 = .bool true := HH.1
          have h8 : V 8 = .pointer (some ⟨B, 0, none⟩) := HH.2.1
          have tb58 : (Rg.putUse V [(7, 57), (8, 58)] fr).eval (.tmp 58) = .pointer (some ⟨B, 0, none⟩) := (Rg.use_eval V fr 58 [(7, 57), (8, 58)] (by simp only [hz]; decide)).trans h8
          show Rg.Does1 _ _ V (Rg.putUse V [(7, 57), (8, 58)] fr) w2 _
          exact step_row #[.pointer (some ⟨B, 0, none⟩)] (Sh.sum ([])) (fun args w => Rg.call_enter Tryd.func15 (by kernel_rfl) (by kernel_rfl) args w) rfl (by simp only [List.map_toArray, List.map_cons, List.map_nil, tb58]) (by rw [Sh.sum_length]) rfl rfl h7 (streamSum_any _ B ([]) (HL.st HS3.out) (HL.kat HK3.out) (by first | omega | (simp; done) | (simp; omega)))
        · intro V w2 HL HH
          have HL : Later w3 w2 := HL
          have h7 : V 7 = .bool true := HH.1
          have h9 : (bRow (Sh.sum ([]))).holds (V 9) w2 := HH.2.1
          obtain ⟨X9, k9, e9, hc9, hr9⟩ := bRow_form h9
          have tb59 : (Rg.putUse V [(7, 57), (9, 59)] fr).eval (.tmp 59) = .slice X9 (Sh.sum ([])).length k9 := (Rg.use_eval V fr 59 [(7, 57), (9, 59)] (by simp only [hz]; decide)).trans e9
          show Rg.Does1 _ _ V (Rg.putUse V [(7, 57), (9, 59)] fr) w2 _
          exact step_str (Sh.sum ([])) rfl tb59 (by first | rfl | rw [Sh.sum_length]) (hr9) rfl rfl h7
        · intro V w2 HL HH
          have HL : Later w3 w2 := HL
          have h7 : V 7 = .bool true := HH.1
          show Rg.Does1 _ _ V (Rg.putUse V [(7, 57)] fr) w2 _
          exact step_row #[.slice none 0 0] (Sh.sum []) (fun args w => Rg.call_enter Tryd.func8 (by kernel_rfl) (by kernel_rfl) args w) rfl (by simp only [List.map_toArray, List.map_cons, List.map_nil, Act.eval]) (by rw [Sh.sum_length]) rfl rfl h7 (HSUM.out _ [] none 0 (Rd.nil _ _) (by simp))
        · intro V w2 HL HH
          have HL : Later w3 w2 := HL
          have h7 : V 7 = .bool true := HH.1
          have h11 : (bRow (Sh.sum [])).holds (V 11) w2 := HH.2.1
          obtain ⟨X11, k11, e11, hc11, hr11⟩ := bRow_form h11
          have tb61 : (Rg.putUse V [(7, 57), (11, 61)] fr).eval (.tmp 61) = .slice X11 (Sh.sum []).length k11 := (Rg.use_eval V fr 61 [(7, 57), (11, 61)] (by simp only [hz]; decide)).trans e11
          show Rg.Does1 _ _ V (Rg.putUse V [(7, 57), (11, 61)] fr) w2 _
          exact step_str (Sh.sum []) rfl tb61 (by first | rfl | rw [Sh.sum_length]) (hr11) rfl rfl h7
        · intro V w2 HL HH
          have HL : Later w3 w2 := HL
          have h7 : V 7 = .bool true := HH.1
          have h10 : V 10 = .string (strOf (Sh.sum ([]))) := HH.2.1
          have h12 : V 12 = .string (strOf (Sh.sum [])) := HH.2.2.1
          have tb60 : (Rg.putUse V [(7, 57), (10, 60), (12, 62)] fr).eval (.tmp 60) = .string (strOf (Sh.sum ([]))) := (Rg.use_eval V fr 60 [(7, 57), (10, 60), (12, 62)] (by simp only [hz]; decide)).trans h10
          have tb62 : (Rg.putUse V [(7, 57), (10, 60), (12, 62)] fr).eval (.tmp 62) = .string (strOf (Sh.sum [])) := (Rg.use_eval V fr 62 [(7, 57), (10, 60), (12, 62)] (by simp only [hz]; decide)).trans h12
          show Rg.Does1 _ _ V (Rg.putUse V [(7, 57), (10, 60), (12, 62)] fr) w2 _
          exact step_mv (.bool true) (by simp only [execOp, tb60, tb62]; go_simp) rfl rfl h7
        · intro V w2 HL HH
          have HL : Later w3 w2 := HL
          have h7 : V 7 = .bool true := HH.1
          have h13 : V 13 = .bool true := HH.2.1
          have tb57 : (Rg.putUse V [(7, 57), (13, 63)] fr).eval (.tmp 57) = .bool true := (Rg.use_eval V fr 57 [(7, 57), (13, 63)] (by simp only [hz]; decide)).trans h7
          have tb63 : (Rg.putUse V [(7, 57), (13, 63)] fr).eval (.tmp 63) = .bool true := (Rg.use_eval V fr 63 [(7, 57), (13, 63)] (by simp only [hz]; decide)).trans h13
          show Rg.Does1 _ _ V (Rg.putUse V [(7, 57), (13, 63)] fr) w2 _
          exact step_mv (.bool true) (by simp only [execOp, tb57, tb63]; go_simp) rfl rfl True.intro
        · intro V w2 HL HH
          have HL : Later w3 w2 := HL
          have h14 : V 14 = .bool true := HH.1
          have tb64 : (Rg.putUse V [(14, 64)] fr).eval (.tmp 64) = .bool true := (Rg.use_eval V fr 64 [(14, 64)] (by simp only [hz]; decide)).trans h14
          show Rg.Does1 _ _ V (Rg.putUse V [(14, 64)] fr) w2 _
          exact step_mv (.bool true) (by simp only [execOp, tb64]; go_simp) rfl rfl True.intro
        · intro V w2 HL HH
          have HL : Later w3 w2 := HL
          have h15 : V 15 = .bool true := HH.1
          show Rg.Does1 _ _ V (Rg.putUse V [(15, 65)] fr) w2 _
          exact step_num #[] (.bool true) (fun args w => Rg.call_enter Tryd.func16 (by kernel_rfl) (by kernel_rfl) args w) rfl (by simp only [List.map_toArray, List.map_nil]) rfl rfl h15 (known_any _ (HL.kat HK3.out))
        · intro V w2 HL HH
          have HL : Later w3 w2 := HL
          have h15 : V 15 = .bool true := HH.1
          have h16 : V 16 = .bool true := HH.2.1
          have tb65 : (Rg.putUse V [(15, 65), (16, 66)] fr).eval (.tmp 65) = .bool true := (Rg.use_eval V fr 65 [(15, 65), (16, 66)] (by simp only [hz]; decide)).trans h15
          have tb66 : (Rg.putUse V [(15, 65), (16, 66)] fr).eval (.tmp 66) = .bool true := (Rg.use_eval V fr 66 [(15, 65), (16, 66)] (by simp only [hz]; decide)).trans h16
          show Rg.Does1 _ _ V (Rg.putUse V [(15, 65), (16, 66)] fr) w2 _
          exact step_mv (.bool true) (by simp only [execOp, tb65, tb66]; go_simp) rfl rfl True.intro
        · intro V w2 HL HH
          have HL : Later w3 w2 := HL
          have h17 : V 17 = .bool true := HH.1
          have tb67 : (Rg.putUse V [(17, 67)] fr).eval (.tmp 67) = .bool true := (Rg.use_eval V fr 67 [(17, 67)] (by simp only [hz]; decide)).trans h17
          show Rg.Does1 _ _ V (Rg.putUse V [(17, 67)] fr) w2 _
          exact step_mv (.bool true) (by simp only [execOp, tb67]; go_simp) rfl rfl True.intro
      · intro V w2 HI
        have h18 : V 18 = .bool true := HI.get 18 (by decide) (by rfl)
        simp only [Rg.putList, Act.put, List.setIfInBounds_toArray, List.set_cons_zero, List.set_cons_succ, Nat.zero_add, Nat.reduceAdd]
        rw [h18]
        have HLE : Hid (Later w w2) := HL3.out.trans (later_drew HI.later)
        clear HI
        go_wp2_with fail
        go_ret
        exact ⟨rfl, HLE.out⟩
end Go.Proofs.YtbdbccdkimkhbaaDoor

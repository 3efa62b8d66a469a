/-
  OWN WORK. Law 5's known, by its contract, given what the program's own disk does.
-/
import Derived.Test.YtenedgapjbmpgaaDiSaid
namespace Go.Proofs.Ytenedgapjbmpgaa
open Go.RowKit Rc Di

theorem rdb_nil (w : World) (A : Option Addr) : RdB w A [] := fun j x h => by simp at h
set_option maxHeartbeats 2000000 in
set_option maxRecDepth 100000 in
theorem known5_any (D : DSaid) (w : World) : Calls Try.prog 18 #[] w fun e w' => e = .returned (.bool true) ∧ Below w.heap.size w w' := by
  go_enter Try.func18, Try.ntmps18
  go_wp2_with fail
  refine (D.new64 w).mono ?_
  rintro e w1 ⟨a, B0, rfl, HT0⟩
  go_wp2_with fail
  obtain ⟨w1', hw1'⟩ : ∃ x, x = w1.alloc (.cells #[.int .u8 1, .int .u8 2, .int .u8 3] 5) := ⟨_, rfl⟩
  have HR3 : Hid (Rd w1' (some ⟨w1.heap.size, 0, none⟩) [1, 2, 3]) := by show Rd _ _ _; rw [hw1']; exact rd_alloc w1 [1, 2, 3] _ _
  have HT1 := Lib.hid (HT0.out.later (show Below w1.heap.size w1 w1' by rw [hw1']; exact below_new _ _))
  rw [← hw1']
  clear HT0 hw1'
  refine (sized_any w1' [1, 2, 3] (some ⟨w1.heap.size, 0, none⟩) 3 128 HR3.out (by simp) (by simp) (by omega)).mono ?_
  rintro e w2 ⟨x, rfl, hf, hb⟩
  obtain ⟨X, c, rfl, hc, k⟩ := HT1.out.fresh hb hf
  have HT2 := Lib.hid (HT1.out.later hb).now
  obtain ⟨b, hbb⟩ : ∃ b, b = sized 128 [1, 2, 3] := ⟨_, rfl⟩
  rw [← hbb] at hc k ⊢
  have HBL : Hid (b.length = 128) := by show _ = _; rw [hbb, sized_length]
  have hbl2 : b.length ≤ 128 := by rw [HBL.out]; omega
  have HK2 := Lib.hid k
  clear hf hb k HT1 HR3 hbb
  have hw1 : (Dk.new 64).write 3 b = (0, (Dk.new 64).put 3 b) := Dk.write_to _ 3 b (by rw [new_dirty]; omega) HBL.out
  go_wp2_with fail
  have hw0 : (Dk.new 64).writes ≤ 1000000 := by show 0 ≤ 1000000; omega
  have hcall := D.write HT2.out.at_ hw0 3 X b c (by omega) (by omega) HK2.out hc (by omega)
  rw [hw1] at hcall
  refine hcall.mono ?_
  rintro e w3 ⟨rfl, B1, hat, hm, hs⟩
  have HT3 := Lib.hid (HT2.out.turn hat hm hs)
  have HK3 := Lib.hid (HT3.out.kept HK2.out)
  clear hat hm hs HT2 HK2 hw1 hcall hw0
  obtain ⟨s1, hs1⟩ : ∃ s, s = (Dk.new 64).put 3 b := ⟨_, rfl⟩
  rw [← hs1] at HT3
  have hr1 : s1.read 3 = (b, 0) := by
    rw [hs1]
    exact (Dk.new_ok (n := 64) (by omega) (by omega)).read_put 3 b (by rw [new_dirty]; omega)
  go_wp2_with fail
  refine (D.read HT3.out.at_ 3 (by omega) (by omega)).mono ?_
  rintro e w4 ⟨x, rfl, hf, hb⟩
  rw [hr1] at hf ⊢
  obtain ⟨X2, c2, rfl, hc2, k2⟩ := HT3.out.fresh hb hf
  have HT4 := Lib.hid (HT3.out.later hb).now
  have HK4 := Lib.hid (HK3.out.more hb)
  have HL4 := Lib.hid k2
  clear hf hb k2 HT3 HK3 hr1
  go_wp2_with fail
  refine (D.crash HT4.out.at_ none [] 0 (-1) 0 (rdb_nil _ _) (fun _ h => by cases h) (by simp) (by simp) (by omega) (by omega) (by omega) (by omega)).mono ?_
  rintro e w5 ⟨y, rfl, B2, hat, hm, hs⟩
  have HT5 := Lib.hid (HT4.out.turn hat hm hs)
  have HK5 := Lib.hid (HT5.out.kept HK4.out)
  have HL5 := Lib.hid (HT5.out.kept HL4.out)
  rw [(D.ok HT4.out.at_).lost] at HT5
  clear hat hm hs HT4 HK4 HL4
  obtain ⟨s2, hs2⟩ : ∃ s : Dk, s = { s1 with now := s1.safe, dirty := List.replicate s1.dirty.length false } := ⟨_, rfl⟩
  rw [← hs2] at HT5
  have hsec : s2.dirty.length = 64 := by rw [hs2]; show (List.replicate s1.dirty.length false).length = 64; rw [List.length_replicate, hs1, put_dirty, new_dirty]
  have hr2 : s2.read 3 = (noughts, 0) := by
    refine (Dk.read_to s2 3 (by omega)).trans ?_
    rw [hs2, hs1]
    show ((Dk.new 64).safe.getD 3 [], 0) = _
    rw [new_safe 64 3 (by omega)]
  have hwr : s2.writes = 1 := by rw [hs2, hs1]; rfl
  obtain ⟨z, hz⟩ : ∃ z, z = noughts := ⟨_, rfl⟩
  rw [← hz] at hr2
  have HZ : Hid (z = List.replicate 128 0) := hz
  clear hs1 hs2 hz
  go_wp2_with fail
  refine (D.read HT5.out.at_ 3 (by omega) (by omega)).mono ?_
  rintro e w6 ⟨x, rfl, hf, hb⟩
  rw [hr2] at hf ⊢
  obtain ⟨X3, c3, rfl, hc3, k3⟩ := HT5.out.fresh hb hf
  have HT := Lib.hid (HT5.out.later hb)
  have HK6 := Lib.hid (HK5.out.more hb)
  have HL6 := Lib.hid (HL5.out.more hb)
  have HM6 := Lib.hid k3
  have HSEC := Lib.hid hsec
  have HWR := Lib.hid hwr
  clear hf hb k3 HT5 HK5 HL5 hr2 hsec hwr
  go_upto_region 9 with (fail)
  have one := HT.out
  refine Rc.wp_region (by kernel_rfl) (fun opn => List.getD [Rc.val (.int .i64 0), Rc.val (.bool true), Rc.val (.bool true), Rc.val (.int .i64 0), Rc.val (.bool true), Rc.val (.bool true), Rc.val (.bool true), Rc.val (.slice X2 b.length c2), Rc.val (.string (strOf (b))), Rc.val (.slice X b.length c), Rc.val (.string (strOf (b))), Rc.val (.bool true), Rc.val (.bool true), Rc.val (.bool true), Rc.val (.int .i64 0), Rc.val (.bool true), Rc.val (.bool true), Rc.val (.bool true), Rc.val (.slice X3 (z).length c3), Rc.val (.string (strOf (z))), Ob.frow (z), Rc.val (.string (strOf (z))), Rc.val (.bool true), Rc.val (.bool true), Rc.val (.bool true), Rc.val (.pointer (some a)), Rc.val (.int .i64 64), Rc.val (.bool true), Rc.val (.bool true), Rc.val (.bool true), Rc.val (.pointer (some a)), Rc.val (.int .i64 1), Rc.val (.bool true), Rc.val (.bool true), Rc.val (.bool true), Ob.turned D.toObj (.pointer (some a)) (Ob.Ups B2 w6) undef s2] opn Rc.any) 1 [] [[], [(0, 36)], [(1, 37)], [(2, 38)], [(2, 38), (3, 39)], [(2, 38), (4, 40)], [(5, 41)], [(6, 42)], [(6, 42), (7, 43)], [(6, 42)], [(6, 42), (9, 45)], [(6, 42), (8, 44), (10, 46)], [(6, 42), (11, 47)], [(12, 48)], [(13, 49)], [(13, 49), (14, 50)], [(13, 49), (15, 51)], [(16, 52)], [(17, 53)], [(17, 53), (18, 54)], [(17, 53)], [(17, 53), (20, 56)], [(17, 53), (19, 55), (21, 57)], [(17, 53), (22, 58)], [(23, 59)], [(24, 60)], [(24, 60), (25, 61)], [(24, 60), (26, 62)], [(24, 60), (27, 63)], [(28, 64)], [(29, 65)], [(29, 65), (30, 66)], [(29, 65), (31, 67)], [(29, 65), (32, 68)], [(33, 69)]] [[], [0], [0, 1], [0, 1, 2], [0, 1, 2, 3], [0, 1, 2, 3, 4], [0, 1, 2, 3, 4, 5], [0, 1, 2, 3, 4, 5, 6], [0, 1, 2, 3, 4, 5, 6, 7], [0, 1, 2, 3, 4, 5, 6], [0, 1, 2, 3, 4, 5, 6, 9], [0, 1, 2, 3, 4, 5, 6, 7, 8, 9, 10], [0, 1, 2, 3, 4, 5, 6, 7, 8, 9, 10, 11], [0, 1, 2, 3, 4, 5, 6, 7, 8, 9, 10, 11, 12], [0, 1, 2, 3, 4, 5, 6, 7, 8, 9, 10, 11, 12, 13], [0, 1, 2, 3, 4, 5, 6, 7, 8, 9, 10, 11, 12, 13, 14], [0, 1, 2, 3, 4, 5, 6, 7, 8, 9, 10, 11, 12, 13, 14, 15], [0, 1, 2, 3, 4, 5, 6, 7, 8, 9, 10, 11, 12, 13, 14, 15, 16], [0, 1, 2, 3, 4, 5, 6, 7, 8, 9, 10, 11, 12, 13, 14, 15, 16, 17], [0, 1, 2, 3, 4, 5, 6, 7, 8, 9, 10, 11, 12, 13, 14, 15, 16, 17, 18], [0, 1, 2, 3, 4, 5, 6, 7, 8, 9, 10, 11, 12, 13, 14, 15, 16, 17], [0, 1, 2, 3, 4, 5, 6, 7, 8, 9, 10, 11, 12, 13, 14, 15, 16, 17, 20], [0, 1, 2, 3, 4, 5, 6, 7, 8, 9, 10, 11, 12, 13, 14, 15, 16, 17, 18, 19, 20, 21], [0, 1, 2, 3, 4, 5, 6, 7, 8, 9, 10, 11, 12, 13, 14, 15, 16, 17, 18, 19, 20, 21, 22], [0, 1, 2, 3, 4, 5, 6, 7, 8, 9, 10, 11, 12, 13, 14, 15, 16, 17, 18, 19, 20, 21, 22, 23], [0, 1, 2, 3, 4, 5, 6, 7, 8, 9, 10, 11, 12, 13, 14, 15, 16, 17, 18, 19, 20, 21, 22, 23, 24], [0, 1, 2, 3, 4, 5, 6, 7, 8, 9, 10, 11, 12, 13, 14, 15, 16, 17, 18, 19, 20, 21, 22, 23, 24, 25], [0, 1, 2, 3, 4, 5, 6, 7, 8, 9, 10, 11, 12, 13, 14, 15, 16, 17, 18, 19, 20, 21, 22, 23, 24, 25, 26], [0, 1, 2, 3, 4, 5, 6, 7, 8, 9, 10, 11, 12, 13, 14, 15, 16, 17, 18, 19, 20, 21, 22, 23, 24, 25, 26, 27], [0, 1, 2, 3, 4, 5, 6, 7, 8, 9, 10, 11, 12, 13, 14, 15, 16, 17, 18, 19, 20, 21, 22, 23, 24, 25, 26, 27, 28], [0, 1, 2, 3, 4, 5, 6, 7, 8, 9, 10, 11, 12, 13, 14, 15, 16, 17, 18, 19, 20, 21, 22, 23, 24, 25, 26, 27, 28, 29], [0, 1, 2, 3, 4, 5, 6, 7, 8, 9, 10, 11, 12, 13, 14, 15, 16, 17, 18, 19, 20, 21, 22, 23, 24, 25, 26, 27, 28, 29, 30], [0, 1, 2, 3, 4, 5, 6, 7, 8, 9, 10, 11, 12, 13, 14, 15, 16, 17, 18, 19, 20, 21, 22, 23, 24, 25, 26, 27, 28, 29, 30, 31], [0, 1, 2, 3, 4, 5, 6, 7, 8, 9, 10, 11, 12, 13, 14, 15, 16, 17, 18, 19, 20, 21, 22, 23, 24, 25, 26, 27, 28, 29, 30, 31, 32], [0, 1, 2, 3, 4, 5, 6, 7, 8, 9, 10, 11, 12, 13, 14, 15, 16, 17, 18, 19, 20, 21, 22, 23, 24, 25, 26, 27, 28, 29, 30, 31, 32, 33]] [[], [0], [1], [2], [2, 3], [2, 4], [5], [6], [6, 7], [6], [6, 9], [6, 8, 10], [6, 11], [12], [13], [13, 14], [13, 15], [16], [17], [17, 18], [17], [17, 20], [17, 19, 21], [17, 22], [23], [24], [24, 25, 35], [24, 26], [24, 27], [28], [29], [29, 30, 35], [29, 31], [29, 32], [33]] [] (by kernel_rfl) (by rfl) (by kernel_rfl) B2 (fun _ b => B2 b) (Ob.one_inv D.toObj one.at_ _ _ 35 rfl) ?_ ?_
  · intro fr ha
    have hz : fr.tmps.size = 70 := by rw [ha]; rfl
    have y1 : fr.eval (.tmp 1) = .pointer (some a) := by rw [ha]; rfl
    have y4 : fr.eval (.tmp 4) = .int .i64 0 := by rw [ha]; rfl
    have y6 : fr.eval (.tmp 6) = .int .i64 0 := by rw [ha]; rfl
    have y8 : fr.eval (.tmp 8) = .int .i64 0 := by rw [ha]; rfl
    have y5 : fr.eval (.tmp 5) = .slice X2 b.length c2 := by rw [ha]; rfl
    have y3 : fr.eval (.tmp 3) = .slice X b.length c := by rw [ha]; rfl
    have y7 : fr.eval (.tmp 7) = .slice X3 (z).length c3 := by rw [ha]; rfl
    clear ha
    refine .cons ?_ (.cons ?_ (.cons ?_ (.cons ?_ (.cons ?_ (.cons ?_ (.cons ?_ (.cons ?_ (.cons ?_ (.cons ?_ (.cons ?_ (.cons ?_ (.cons ?_ (.cons ?_ (.cons ?_ (.cons ?_ (.cons ?_ (.cons ?_ (.cons ?_ (.cons ?_ (.cons ?_ (.cons ?_ (.cons ?_ (.cons ?_ (.cons ?_ (.cons ?_ (.cons ?_ (.cons ?_ (.cons ?_ (.cons ?_ (.cons ?_ (.cons ?_ (.cons ?_ (.cons ?_ (.cons ?_ (.nil)))))))))))))))))))))))))))))))))))
    · intro V S w2 HM HU HE
      have HM : Mod w6 w2 B2 := HM
      have tb4 : (Rg.putUse V [] fr).eval (.tmp 4) = .int .i64 0 := (Rg.use_eval V fr 4 [] (by simp only [hz]; decide)).trans y4
      show Rg.Does1 _ _ V (Rg.putUse V [] fr) w2 _
      exact Ob.rc_mv (.int .i64 0) (by simp only [execOp, tb4]; go_simp) rfl rfl True.intro
    · intro V S w2 HM HU HE
      have HM : Mod w6 w2 B2 := HM
      have h0 : V 0 = .int .i64 0 := HU.holds 0 (by decide)
      have tb36 : (Rg.putUse V [(0, 36)] fr).eval (.tmp 36) = .int .i64 0 := (Rg.use_eval V fr 36 [(0, 36)] (by simp only [hz]; decide)).trans h0
      show Rg.Does1 _ _ V (Rg.putUse V [(0, 36)] fr) w2 _
      exact Ob.rc_mv (.bool true) (by simp only [execOp, tb36]; go_simp) rfl rfl True.intro
    · intro V S w2 HM HU HE
      have HM : Mod w6 w2 B2 := HM
      have h1 : V 1 = .bool true := HU.holds 1 (by decide)
      have tb37 : (Rg.putUse V [(1, 37)] fr).eval (.tmp 37) = .bool true := (Rg.use_eval V fr 37 [(1, 37)] (by simp only [hz]; decide)).trans h1
      show Rg.Does1 _ _ V (Rg.putUse V [(1, 37)] fr) w2 _
      exact Ob.rc_mv (.bool true) (by simp only [execOp, tb37]; go_simp) rfl rfl True.intro
    · intro V S w2 HM HU HE
      have HM : Mod w6 w2 B2 := HM
      have h2 : V 2 = .bool true := HU.holds 2 (by decide)
      have tb6 : (Rg.putUse V [(2, 38)] fr).eval (.tmp 6) = .int .i64 0 := (Rg.use_eval V fr 6 [(2, 38)] (by simp only [hz]; decide)).trans y6
      show Rg.Does1 _ _ V (Rg.putUse V [(2, 38)] fr) w2 _
      exact Ob.rc_mv (.int .i64 0) (by simp only [execOp, tb6]; go_simp) rfl rfl h2
    · intro V S w2 HM HU HE
      have HM : Mod w6 w2 B2 := HM
      have h2 : V 2 = .bool true := HU.holds 2 (by decide)
      have h3 : V 3 = .int .i64 0 := HU.holds 3 (by decide)
      have tb39 : (Rg.putUse V [(2, 38), (3, 39)] fr).eval (.tmp 39) = .int .i64 0 := (Rg.use_eval V fr 39 [(2, 38), (3, 39)] (by simp only [hz]; decide)).trans h3
      show Rg.Does1 _ _ V (Rg.putUse V [(2, 38), (3, 39)] fr) w2 _
      exact Ob.rc_mv (.bool true) (by simp only [execOp, tb39]; go_simp) rfl rfl h2
    · intro V S w2 HM HU HE
      have HM : Mod w6 w2 B2 := HM
      have h2 : V 2 = .bool true := HU.holds 2 (by decide)
      have tb38 : (Rg.putUse V [(2, 38), (4, 40)] fr).eval (.tmp 38) = .bool true := (Rg.use_eval V fr 38 [(2, 38), (4, 40)] (by simp only [hz]; decide)).trans h2
      have h4 : V 4 = .bool true := HU.holds 4 (by decide)
      have tb40 : (Rg.putUse V [(2, 38), (4, 40)] fr).eval (.tmp 40) = .bool true := (Rg.use_eval V fr 40 [(2, 38), (4, 40)] (by simp only [hz]; decide)).trans h4
      show Rg.Does1 _ _ V (Rg.putUse V [(2, 38), (4, 40)] fr) w2 _
      exact Ob.rc_mv (.bool true) (by simp only [execOp, tb38, tb40]; go_simp) rfl rfl True.intro
    · intro V S w2 HM HU HE
      have HM : Mod w6 w2 B2 := HM
      have h5 : V 5 = .bool true := HU.holds 5 (by decide)
      have tb41 : (Rg.putUse V [(5, 41)] fr).eval (.tmp 41) = .bool true := (Rg.use_eval V fr 41 [(5, 41)] (by simp only [hz]; decide)).trans h5
      show Rg.Does1 _ _ V (Rg.putUse V [(5, 41)] fr) w2 _
      exact Ob.rc_mv (.bool true) (by simp only [execOp, tb41]; go_simp) rfl rfl True.intro
    · intro V S w2 HM HU HE
      have HM : Mod w6 w2 B2 := HM
      have h6 : V 6 = .bool true := HU.holds 6 (by decide)
      have tb5 : (Rg.putUse V [(6, 42)] fr).eval (.tmp 5) = .slice X2 b.length c2 := (Rg.use_eval V fr 5 [(6, 42)] (by simp only [hz]; decide)).trans y5
      show Rg.Does1 _ _ V (Rg.putUse V [(6, 42)] fr) w2 _
      exact Ob.rc_mv (.slice X2 b.length c2) (by simp only [execOp, tb5]; go_simp) rfl rfl h6
    · intro V S w2 HM HU HE
      have HM : Mod w6 w2 B2 := HM
      have h6 : V 6 = .bool true := HU.holds 6 (by decide)
      have h7 : V 7 = .slice X2 b.length c2 := HU.holds 7 (by decide)
      have tb43 : (Rg.putUse V [(6, 42), (7, 43)] fr).eval (.tmp 43) = .slice X2 b.length c2 := (Rg.use_eval V fr 43 [(6, 42), (7, 43)] (by simp only [hz]; decide)).trans h7
      show Rg.Does1 _ _ V (Rg.putUse V [(6, 42), (7, 43)] fr) w2 _
      exact Ob.rc_str (b) rfl tb43 (by first | rfl | simp) (Ob.rd_mod HL6.out.1 HM HL6.out.2) rfl rfl h6
    · intro V S w2 HM HU HE
      have HM : Mod w6 w2 B2 := HM
      have h6 : V 6 = .bool true := HU.holds 6 (by decide)
      have tb3 : (Rg.putUse V [(6, 42)] fr).eval (.tmp 3) = .slice X b.length c := (Rg.use_eval V fr 3 [(6, 42)] (by simp only [hz]; decide)).trans y3
      show Rg.Does1 _ _ V (Rg.putUse V [(6, 42)] fr) w2 _
      exact Ob.rc_mv (.slice X b.length c) (by simp only [execOp, tb3]; go_simp) rfl rfl h6
    · intro V S w2 HM HU HE
      have HM : Mod w6 w2 B2 := HM
      have h6 : V 6 = .bool true := HU.holds 6 (by decide)
      have h9 : V 9 = .slice X b.length c := HU.holds 9 (by decide)
      have tb45 : (Rg.putUse V [(6, 42), (9, 45)] fr).eval (.tmp 45) = .slice X b.length c := (Rg.use_eval V fr 45 [(6, 42), (9, 45)] (by simp only [hz]; decide)).trans h9
      show Rg.Does1 _ _ V (Rg.putUse V [(6, 42), (9, 45)] fr) w2 _
      exact Ob.rc_str (b) rfl tb45 (by first | rfl | simp) (Ob.rd_mod HK6.out.1 HM HK6.out.2) rfl rfl h6
    · intro V S w2 HM HU HE
      have HM : Mod w6 w2 B2 := HM
      have h6 : V 6 = .bool true := HU.holds 6 (by decide)
      have h8 : V 8 = .string (strOf (b)) := HU.holds 8 (by decide)
      have tb44 : (Rg.putUse V [(6, 42), (8, 44), (10, 46)] fr).eval (.tmp 44) = .string (strOf (b)) := (Rg.use_eval V fr 44 [(6, 42), (8, 44), (10, 46)] (by simp only [hz]; decide)).trans h8
      have h10 : V 10 = .string (strOf (b)) := HU.holds 10 (by decide)
      have tb46 : (Rg.putUse V [(6, 42), (8, 44), (10, 46)] fr).eval (.tmp 46) = .string (strOf (b)) := (Rg.use_eval V fr 46 [(6, 42), (8, 44), (10, 46)] (by simp only [hz]; decide)).trans h10
      show Rg.Does1 _ _ V (Rg.putUse V [(6, 42), (8, 44), (10, 46)] fr) w2 _
      exact Ob.rc_mv (.bool true) (by simp only [execOp, tb44, tb46]; go_simp) rfl rfl h6
    · intro V S w2 HM HU HE
      have HM : Mod w6 w2 B2 := HM
      have h6 : V 6 = .bool true := HU.holds 6 (by decide)
      have tb42 : (Rg.putUse V [(6, 42), (11, 47)] fr).eval (.tmp 42) = .bool true := (Rg.use_eval V fr 42 [(6, 42), (11, 47)] (by simp only [hz]; decide)).trans h6
      have h11 : V 11 = .bool true := HU.holds 11 (by decide)
      have tb47 : (Rg.putUse V [(6, 42), (11, 47)] fr).eval (.tmp 47) = .bool true := (Rg.use_eval V fr 47 [(6, 42), (11, 47)] (by simp only [hz]; decide)).trans h11
      show Rg.Does1 _ _ V (Rg.putUse V [(6, 42), (11, 47)] fr) w2 _
      exact Ob.rc_mv (.bool true) (by simp only [execOp, tb42, tb47]; go_simp) rfl rfl True.intro
    · intro V S w2 HM HU HE
      have HM : Mod w6 w2 B2 := HM
      have h12 : V 12 = .bool true := HU.holds 12 (by decide)
      have tb48 : (Rg.putUse V [(12, 48)] fr).eval (.tmp 48) = .bool true := (Rg.use_eval V fr 48 [(12, 48)] (by simp only [hz]; decide)).trans h12
      show Rg.Does1 _ _ V (Rg.putUse V [(12, 48)] fr) w2 _
      exact Ob.rc_mv (.bool true) (by simp only [execOp, tb48]; go_simp) rfl rfl True.intro
    · intro V S w2 HM HU HE
      have HM : Mod w6 w2 B2 := HM
      have h13 : V 13 = .bool true := HU.holds 13 (by decide)
      have tb8 : (Rg.putUse V [(13, 49)] fr).eval (.tmp 8) = .int .i64 0 := (Rg.use_eval V fr 8 [(13, 49)] (by simp only [hz]; decide)).trans y8
      show Rg.Does1 _ _ V (Rg.putUse V [(13, 49)] fr) w2 _
      exact Ob.rc_mv (.int .i64 0) (by simp only [execOp, tb8]; go_simp) rfl rfl h13
    · intro V S w2 HM HU HE
      have HM : Mod w6 w2 B2 := HM
      have h13 : V 13 = .bool true := HU.holds 13 (by decide)
      have h14 : V 14 = .int .i64 0 := HU.holds 14 (by decide)
      have tb50 : (Rg.putUse V [(13, 49), (14, 50)] fr).eval (.tmp 50) = .int .i64 0 := (Rg.use_eval V fr 50 [(13, 49), (14, 50)] (by simp only [hz]; decide)).trans h14
      show Rg.Does1 _ _ V (Rg.putUse V [(13, 49), (14, 50)] fr) w2 _
      exact Ob.rc_mv (.bool true) (by simp only [execOp, tb50]; go_simp) rfl rfl h13
    · intro V S w2 HM HU HE
      have HM : Mod w6 w2 B2 := HM
      have h13 : V 13 = .bool true := HU.holds 13 (by decide)
      have tb49 : (Rg.putUse V [(13, 49), (15, 51)] fr).eval (.tmp 49) = .bool true := (Rg.use_eval V fr 49 [(13, 49), (15, 51)] (by simp only [hz]; decide)).trans h13
      have h15 : V 15 = .bool true := HU.holds 15 (by decide)
      have tb51 : (Rg.putUse V [(13, 49), (15, 51)] fr).eval (.tmp 51) = .bool true := (Rg.use_eval V fr 51 [(13, 49), (15, 51)] (by simp only [hz]; decide)).trans h15
      show Rg.Does1 _ _ V (Rg.putUse V [(13, 49), (15, 51)] fr) w2 _
      exact Ob.rc_mv (.bool true) (by simp only [execOp, tb49, tb51]; go_simp) rfl rfl True.intro
    · intro V S w2 HM HU HE
      have HM : Mod w6 w2 B2 := HM
      have h16 : V 16 = .bool true := HU.holds 16 (by decide)
      have tb52 : (Rg.putUse V [(16, 52)] fr).eval (.tmp 52) = .bool true := (Rg.use_eval V fr 52 [(16, 52)] (by simp only [hz]; decide)).trans h16
      show Rg.Does1 _ _ V (Rg.putUse V [(16, 52)] fr) w2 _
      exact Ob.rc_mv (.bool true) (by simp only [execOp, tb52]; go_simp) rfl rfl True.intro
    · intro V S w2 HM HU HE
      have HM : Mod w6 w2 B2 := HM
      have h17 : V 17 = .bool true := HU.holds 17 (by decide)
      have tb7 : (Rg.putUse V [(17, 53)] fr).eval (.tmp 7) = .slice X3 (z).length c3 := (Rg.use_eval V fr 7 [(17, 53)] (by simp only [hz]; decide)).trans y7
      show Rg.Does1 _ _ V (Rg.putUse V [(17, 53)] fr) w2 _
      exact Ob.rc_mv (.slice X3 (z).length c3) (by simp only [execOp, tb7]; go_simp) rfl rfl h17
    · intro V S w2 HM HU HE
      have HM : Mod w6 w2 B2 := HM
      have h17 : V 17 = .bool true := HU.holds 17 (by decide)
      have h18 : V 18 = .slice X3 (z).length c3 := HU.holds 18 (by decide)
      have tb54 : (Rg.putUse V [(17, 53), (18, 54)] fr).eval (.tmp 54) = .slice X3 (z).length c3 := (Rg.use_eval V fr 54 [(17, 53), (18, 54)] (by simp only [hz]; decide)).trans h18
      show Rg.Does1 _ _ V (Rg.putUse V [(17, 53), (18, 54)] fr) w2 _
      exact Ob.rc_str (z) rfl tb54 (by first | rfl | simp) (Ob.rd_mod HM6.out.1 HM HM6.out.2) rfl rfl h17
    · intro V S w2 HM HU HE
      have HM : Mod w6 w2 B2 := HM
      have h17 : V 17 = .bool true := HU.holds 17 (by decide)
      show Rg.Does1 _ _ V (Rg.putUse V [(17, 53)] fr) w2 _
      exact Ob.step_make 128 (z) rfl (by decide) rfl (fun x => Rg.alias_none rfl V x) h17 (HZ.out)
    · intro V S w2 HM HU HE
      have HM : Mod w6 w2 B2 := HM
      have h17 : V 17 = .bool true := HU.holds 17 (by decide)
      obtain ⟨X20, k20, e20, hc20, hr20, hX20⟩ := HU.holds 20 (by decide)
      have tb56 : (Rg.putUse V [(17, 53), (20, 56)] fr).eval (.tmp 56) = .slice X20 (z).length k20 := (Rg.use_eval V fr 56 [(17, 53), (20, 56)] (by simp only [hz]; decide)).trans e20
      show Rg.Does1 _ _ V (Rg.putUse V [(17, 53), (20, 56)] fr) w2 _
      exact Ob.rc_str (z) rfl tb56 (by first | rfl | simp) hr20 rfl rfl h17
    · intro V S w2 HM HU HE
      have HM : Mod w6 w2 B2 := HM
      have h17 : V 17 = .bool true := HU.holds 17 (by decide)
      have h19 : V 19 = .string (strOf (z)) := HU.holds 19 (by decide)
      have tb55 : (Rg.putUse V [(17, 53), (19, 55), (21, 57)] fr).eval (.tmp 55) = .string (strOf (z)) := (Rg.use_eval V fr 55 [(17, 53), (19, 55), (21, 57)] (by simp only [hz]; decide)).trans h19
      have h21 : V 21 = .string (strOf (z)) := HU.holds 21 (by decide)
      have tb57 : (Rg.putUse V [(17, 53), (19, 55), (21, 57)] fr).eval (.tmp 57) = .string (strOf (z)) := (Rg.use_eval V fr 57 [(17, 53), (19, 55), (21, 57)] (by simp only [hz]; decide)).trans h21
      show Rg.Does1 _ _ V (Rg.putUse V [(17, 53), (19, 55), (21, 57)] fr) w2 _
      exact Ob.rc_mv (.bool true) (by simp only [execOp, tb55, tb57]; go_simp) rfl rfl h17
    · intro V S w2 HM HU HE
      have HM : Mod w6 w2 B2 := HM
      have h17 : V 17 = .bool true := HU.holds 17 (by decide)
      have tb53 : (Rg.putUse V [(17, 53), (22, 58)] fr).eval (.tmp 53) = .bool true := (Rg.use_eval V fr 53 [(17, 53), (22, 58)] (by simp only [hz]; decide)).trans h17
      have h22 : V 22 = .bool true := HU.holds 22 (by decide)
      have tb58 : (Rg.putUse V [(17, 53), (22, 58)] fr).eval (.tmp 58) = .bool true := (Rg.use_eval V fr 58 [(17, 53), (22, 58)] (by simp only [hz]; decide)).trans h22
      show Rg.Does1 _ _ V (Rg.putUse V [(17, 53), (22, 58)] fr) w2 _
      exact Ob.rc_mv (.bool true) (by simp only [execOp, tb53, tb58]; go_simp) rfl rfl True.intro
    · intro V S w2 HM HU HE
      have HM : Mod w6 w2 B2 := HM
      have h23 : V 23 = .bool true := HU.holds 23 (by decide)
      have tb59 : (Rg.putUse V [(23, 59)] fr).eval (.tmp 59) = .bool true := (Rg.use_eval V fr 59 [(23, 59)] (by simp only [hz]; decide)).trans h23
      show Rg.Does1 _ _ V (Rg.putUse V [(23, 59)] fr) w2 _
      exact Ob.rc_mv (.bool true) (by simp only [execOp, tb59]; go_simp) rfl rfl True.intro
    · intro V S w2 HM HU HE
      have HM : Mod w6 w2 B2 := HM
      have h24 : V 24 = .bool true := HU.holds 24 (by decide)
      have tb1 : (Rg.putUse V [(24, 60)] fr).eval (.tmp 1) = .pointer (some a) := (Rg.use_eval V fr 1 [(24, 60)] (by simp only [hz]; decide)).trans y1
      show Rg.Does1 _ _ V (Rg.putUse V [(24, 60)] fr) w2 _
      exact Ob.rc_mv (.pointer (some a)) (by simp only [execOp, tb1]; go_simp) rfl rfl h24
    · intro V S w2 HM HU HE
      have HM : Mod w6 w2 B2 := HM
      have h24 : V 24 = .bool true := HU.holds 24 (by decide)
      have h25 : V 25 = .pointer (some a) := HU.holds 25 (by decide)
      have tb61 : (Rg.putUse V [(24, 60), (25, 61)] fr).eval (.tmp 61) = .pointer (some a) := (Rg.use_eval V fr 61 [(24, 60), (25, 61)] (by simp only [hz]; decide)).trans h25
      show Rg.Does1 _ _ V (Rg.putUse V [(24, 60), (25, 61)] fr) w2 _
      obtain ⟨S1, hat, _, _⟩ := (HU.holds 35 (by decide)).2
      exact Ob.step_tell (.int .i64 64) #[.pointer (some a)] (fun args w => Rg.call_enter Try.func16 (by kernel_rfl) (by kernel_rfl) args w) rfl (by simp only [List.map_toArray, List.map_cons, List.map_nil, tb61]) rfl (fun x => Rg.alias_none rfl V x) h24 (by have := D.sectors hat; rw [HSEC.out] at this; exact this)
    · intro V S w2 HM HU HE
      have HM : Mod w6 w2 B2 := HM
      have h24 : V 24 = .bool true := HU.holds 24 (by decide)
      have h26 : V 26 = .int .i64 64 := HU.holds 26 (by decide)
      have tb62 : (Rg.putUse V [(24, 60), (26, 62)] fr).eval (.tmp 62) = .int .i64 64 := (Rg.use_eval V fr 62 [(24, 60), (26, 62)] (by simp only [hz]; decide)).trans h26
      show Rg.Does1 _ _ V (Rg.putUse V [(24, 60), (26, 62)] fr) w2 _
      exact Ob.rc_mv (.bool true) (by simp only [execOp, tb62]; go_simp) rfl rfl h24
    · intro V S w2 HM HU HE
      have HM : Mod w6 w2 B2 := HM
      have h24 : V 24 = .bool true := HU.holds 24 (by decide)
      have tb60 : (Rg.putUse V [(24, 60), (27, 63)] fr).eval (.tmp 60) = .bool true := (Rg.use_eval V fr 60 [(24, 60), (27, 63)] (by simp only [hz]; decide)).trans h24
      have h27 : V 27 = .bool true := HU.holds 27 (by decide)
      have tb63 : (Rg.putUse V [(24, 60), (27, 63)] fr).eval (.tmp 63) = .bool true := (Rg.use_eval V fr 63 [(24, 60), (27, 63)] (by simp only [hz]; decide)).trans h27
      show Rg.Does1 _ _ V (Rg.putUse V [(24, 60), (27, 63)] fr) w2 _
      exact Ob.rc_mv (.bool true) (by simp only [execOp, tb60, tb63]; go_simp) rfl rfl True.intro
    · intro V S w2 HM HU HE
      have HM : Mod w6 w2 B2 := HM
      have h28 : V 28 = .bool true := HU.holds 28 (by decide)
      have tb64 : (Rg.putUse V [(28, 64)] fr).eval (.tmp 64) = .bool true := (Rg.use_eval V fr 64 [(28, 64)] (by simp only [hz]; decide)).trans h28
      show Rg.Does1 _ _ V (Rg.putUse V [(28, 64)] fr) w2 _
      exact Ob.rc_mv (.bool true) (by simp only [execOp, tb64]; go_simp) rfl rfl True.intro
    · intro V S w2 HM HU HE
      have HM : Mod w6 w2 B2 := HM
      have h29 : V 29 = .bool true := HU.holds 29 (by decide)
      have tb1 : (Rg.putUse V [(29, 65)] fr).eval (.tmp 1) = .pointer (some a) := (Rg.use_eval V fr 1 [(29, 65)] (by simp only [hz]; decide)).trans y1
      show Rg.Does1 _ _ V (Rg.putUse V [(29, 65)] fr) w2 _
      exact Ob.rc_mv (.pointer (some a)) (by simp only [execOp, tb1]; go_simp) rfl rfl h29
    · intro V S w2 HM HU HE
      have HM : Mod w6 w2 B2 := HM
      have h29 : V 29 = .bool true := HU.holds 29 (by decide)
      have h30 : V 30 = .pointer (some a) := HU.holds 30 (by decide)
      have tb66 : (Rg.putUse V [(29, 65), (30, 66)] fr).eval (.tmp 66) = .pointer (some a) := (Rg.use_eval V fr 66 [(29, 65), (30, 66)] (by simp only [hz]; decide)).trans h30
      show Rg.Does1 _ _ V (Rg.putUse V [(29, 65), (30, 66)] fr) w2 _
      obtain ⟨S1, hat, _, _⟩ := (HU.holds 35 (by decide)).2
      exact Ob.step_tell (.int .i64 1) #[.pointer (some a)] (fun args w => Rg.call_enter Try.func24 (by kernel_rfl) (by kernel_rfl) args w) rfl (by simp only [List.map_toArray, List.map_cons, List.map_nil, tb66]) rfl (fun x => Rg.alias_none rfl V x) h29 (by have := D.writes hat (by rw [HWR.out]; omega); rw [HWR.out] at this; exact this)
    · intro V S w2 HM HU HE
      have HM : Mod w6 w2 B2 := HM
      have h29 : V 29 = .bool true := HU.holds 29 (by decide)
      have h31 : V 31 = .int .i64 1 := HU.holds 31 (by decide)
      have tb67 : (Rg.putUse V [(29, 65), (31, 67)] fr).eval (.tmp 67) = .int .i64 1 := (Rg.use_eval V fr 67 [(29, 65), (31, 67)] (by simp only [hz]; decide)).trans h31
      show Rg.Does1 _ _ V (Rg.putUse V [(29, 65), (31, 67)] fr) w2 _
      exact Ob.rc_mv (.bool true) (by simp only [execOp, tb67]; go_simp) rfl rfl h29
    · intro V S w2 HM HU HE
      have HM : Mod w6 w2 B2 := HM
      have h29 : V 29 = .bool true := HU.holds 29 (by decide)
      have tb65 : (Rg.putUse V [(29, 65), (32, 68)] fr).eval (.tmp 65) = .bool true := (Rg.use_eval V fr 65 [(29, 65), (32, 68)] (by simp only [hz]; decide)).trans h29
      have h32 : V 32 = .bool true := HU.holds 32 (by decide)
      have tb68 : (Rg.putUse V [(29, 65), (32, 68)] fr).eval (.tmp 68) = .bool true := (Rg.use_eval V fr 68 [(29, 65), (32, 68)] (by simp only [hz]; decide)).trans h32
      show Rg.Does1 _ _ V (Rg.putUse V [(29, 65), (32, 68)] fr) w2 _
      exact Ob.rc_mv (.bool true) (by simp only [execOp, tb65, tb68]; go_simp) rfl rfl True.intro
    · intro V S w2 HM HU HE
      have HM : Mod w6 w2 B2 := HM
      have h33 : V 33 = .bool true := HU.holds 33 (by decide)
      have tb69 : (Rg.putUse V [(33, 69)] fr).eval (.tmp 69) = .bool true := (Rg.use_eval V fr 69 [(33, 69)] (by simp only [hz]; decide)).trans h33
      show Rg.Does1 _ _ V (Rg.putUse V [(33, 69)] fr) w2 _
      exact Ob.rc_mv (.bool true) (by simp only [execOp, tb69]; go_simp) rfl rfl True.intro
  · intro V S w2 HI
    have hb : V 34 = .bool true := HI.get 34 (by decide) (by rfl)
    have HT2 := Lib.hid (one.after HI.mod.undrew (HI.get 35 (by decide) (by rfl)).2)
    have HM2 : Hid (Mod w6 w2 B2) := HI.mod.undrew
    simp only [Rg.putList, Act.put, List.setIfInBounds_toArray, List.set_cons_zero, List.set_cons_succ, Nat.zero_add, Nat.reduceAdd]
    rw [hb]
    clear HI hb one HT
    go_wp2_with fail
    go_ret
    obtain ⟨B9, h9⟩ := HT2.out
    exact ⟨rfl, h9.low⟩
end Go.Proofs.Ytenedgapjbmpgaa

/-
  OWN WORK. ReLaw, ReApp, ReNumbers
-/
import Derived.Test.YtmcbpgbiephllaaDoorW06
import Derived.Test.YtmcbpgbiephllaaDoorW04
import Derived.Test.YtmcbpgbiephllaaDoorW01
import Derived.Test.YtmcbpgbiephllaaDoorW02

namespace Go.Proofs.YtmcbpgbiephllaaDoor
open Go.RowKit Rc
namespace Re
set_option maxHeartbeats 1000000 in
set_option maxRecDepth 100000 in
theorem re_refSize_any (r : Rec) (A : Option Addr) (c : Nat) (w : World) : Calls Tryd.prog 24 #[val r A c] w fun e w' => e = .returned (.int .i64 (size r : Nat)) ∧ Below w.heap.size w w' := by
  obtain ⟨k, q, b⟩ := r
  have HRT : Hid (∀ W, Calls Tryd.prog 22 #[.agg #[.int .i64 k, .int .u64 (q : Nat), .slice A b.length c]] W fun e w' => e = .returned (.bool (decide (Right ⟨k, q, b⟩))) ∧ Below W.heap.size W w') := fun W => re_refRight_any ⟨k, q, b⟩ A c W
  obtain ⟨z, hz⟩ : ∃ z, z = size ⟨k, q, b⟩ := ⟨_, rfl⟩
  have HNO : Hid (¬ Right ⟨k, q, b⟩ → z = 0) := fun h => hz.trans (if_neg h)
  have HYES : Hid (Right ⟨k, q, b⟩ → z = 15 + b.length ∧ b.length ≤ 900) := fun h => ⟨hz.trans (if_pos h), right_len h⟩
  rw [← hz]
  clear hz
  unfold val
  dsimp only
  obtain ⟨W0, hW0⟩ : ∃ W0, W0 = w.alloc (.cells #[.int .i64 k, .int .u64 (q : Nat), .slice A b.length c] 29) := ⟨_, rfl⟩
  obtain ⟨g, hg⟩ : ∃ g, g = w.heap.size := ⟨_, rfl⟩
  have HB0 : Hid (Blk W0 g 29 [.int .i64 k, .int .u64 (q : Nat), .slice A b.length c]) := by show Blk _ _ _ _; rw [hW0, hg]; exact Blk.new w _ _
  have HBW : Hid (Below w.heap.size w W0) := by show Below _ _ _; rw [hW0]; exact below_new w _
  go_enter Tryd.func24, Tryd.ntmps24
  go_upto_region 1 with (fail)
  rw [← hW0, ← hg]
  clear hW0 hg
  have c0 := HB0.out.cell 0
  have c1 := HB0.out.cell 1
  have c2 := HB0.out.cell 2
  go_wp2_with fail
  refine (HRT.out W0).mono ?_
  rintro e w1 ⟨rfl, hb1⟩
  have HB1 : Hid (Blk w1 g 29 [.int .i64 k, .int .u64 (q : Nat), .slice A b.length c]) := HB0.out.below hb1 HB0.out.lt
  have HBW1 : Hid (Below w.heap.size w w1) := Later.trans HBW.out hb1
  clear hb1 c0 c1 c2 HB0 HBW
  by_cases hri : Right ⟨k, q, b⟩
  · rw [decide_eq_true hri]
    obtain ⟨e1, e2⟩ := HYES.out hri
    have HZ := Lib.hid e1
    clear hri HYES HNO e1
    have c2 := HB1.out.cell 2
    go_wp2_with fail
    go_ret
    refine ⟨congrArg (fun n => Ending.returned (Value.int .i64 n)) ?_, HBW1.out⟩
    have := HZ.out
    omega
  · rw [decide_eq_false hri]
    have HZ := Lib.hid (HNO.out hri)
    clear hri HYES HNO
    go_wp2_with fail
    go_ret
    refine ⟨congrArg (fun n => Ending.returned (Value.int .i64 n)) ?_, HBW1.out⟩
    rw [HZ.out]
    rfl
theorem dec_nil : dec [] = (zero, 0, 10) := by kernel_rfl
set_option maxHeartbeats 2000000 in
set_option maxRecDepth 100000 in
theorem re_known_any (hS : SumSaid) (w : World) (hE : Env w) : Calls Tryd.prog 11 #[] w fun e w' => e = .returned (.bool true) ∧ Below w.heap.size w w' := by
  have HD := Lib.hid (re_decode_any hS w none [] 0 (Rd.nil _ _) (Nat.le_refl _) (by simp) hE)
  unfold DAns at HD
  rw [dec_nil] at HD
  have HSZ : Hid (∀ W, Calls Tryd.prog 16 #[.agg #[.int .i64 2, .int .u64 1, .slice none 0 0]] W fun e w' => e = .returned (.int .i64 (15 : Nat)) ∧ Below W.heap.size W w') := fun W => re_size_any ⟨2, 1, []⟩ none 0 W
  clear hS hE
  go_enter Tryd.func11, Tryd.ntmps11
  go_wp2_with fail
  refine HD.out.mono ?_
  rintro e w1 ⟨X, c, rfl, _, _, hb1⟩
  have HB1 := Lib.hid hb1
  clear hb1 HD
  unfold val zero
  dsimp only
  go_wp2_with fail
  refine (HSZ.out _).mono ?_
  rintro e w3 ⟨rfl, hb3⟩
  have HB3 : Hid (Below w.heap.size w w3) := Later.trans (Later.trans HB1.out (below_new _ _)) hb3
  clear hb3 HB1 HSZ
  go_wp2_with fail
  go_ret
  exact ⟨rfl, HB3.out⟩
theorem re_in_any (r : Rec) (A : Option Addr) (c : Nat) (w : World) : Calls Tryd.prog 8 #[val r A c] w fun e w' => e = .returned (val r A c) ∧ Below w.heap.size w w' := by
  obtain ⟨k, q, b⟩ := r
  unfold val
  dsimp only
  obtain ⟨W0, hW0⟩ : ∃ W0, W0 = w.alloc (.cells #[.int .i64 k, .int .u64 (q : Nat), .slice A b.length c] 27) := ⟨_, rfl⟩
  have hb0 : Below w.heap.size w W0 := by rw [hW0]; exact below_new w _
  obtain ⟨W1, hW1⟩ : ∃ W1, W1 = W0.alloc (.cells #[.int .i64 0, .int .u64 0, .slice none 0 0] 29) := ⟨_, rfl⟩
  have hb1 : Below W0.heap.size W0 W1 := by rw [hW1]; exact below_new W0 _
  obtain ⟨g, hg⟩ : ∃ g, g = w.heap.size := ⟨_, rfl⟩
  have hs0 : W0.heap.size = g + 1 := by rw [hW0, World.size_alloc, hg]
  have HZ : Hid (Blk W1 (g + 1) 29 [.int .i64 0, .int .u64 0, .slice none 0 0]) := by show Blk _ _ _ _; rw [hW1, ← hs0]; exact Blk.new W0 _ _
  have HR : Hid (Blk W1 g 27 [.int .i64 k, .int .u64 (q : Nat), .slice A b.length c]) := by
    have : Blk W0 g 27 [.int .i64 k, .int .u64 (q : Nat), .slice A b.length c] := by rw [hW0, hg]; exact Blk.new w _ _
    exact this.below hb1 this.lt
  have HB : Hid (Below w.heap.size w W1) := Later.trans hb0 hb1
  have HGG : Hid (w.heap.size = g) := hg.symm
  clear hb0 hb1
  go_enter Tryd.func8, Tryd.ntmps8
  go_upto_region 1 with (fail)
  rw [← hW0, ← hg, ← hW1]
  clear hW0 hg hW1 hs0
  have c0 := HR.out.cell 0
  have c1 := HR.out.cell 1
  have c2 := HR.out.cell 2
  have r0 := HZ.out.cell 0
  have r1 := HZ.out.cell 1
  have r2 := HZ.out.cell 2
  have f0 := HZ.out.frozen 0
  have f1 := HZ.out.frozen 1
  have f2 := HZ.out.frozen 2
  go_wp2_with fail
  refine bodyPost_ret (results_blk1 rfl _ _ (g + 1) 29 _ _ rfl (set3_blk HZ.out _ _ _) rfl rfl rfl) rfl ?_
  exact ⟨rfl, below_keeps HB.out (set3_keeps _ _ _ _ _) (by have := HGG.out; omega) HB.out.size⟩
set_option maxHeartbeats 4000000 in
set_option maxRecDepth 100000 in
theorem re_read_any (hS : SumSaid) (w : World) (A : Option Addr) (L : List UInt8) (cap : Nat) (hr : Rd w A L) (hc : L.length ≤ cap) (hl : L.length ≤ 65550) (hE : Env w) :
    Calls Tryd.prog 10 #[.slice A L.length cap] w fun e w' => e = .returned (.bool true) ∧ Below w.heap.size w w' := by
  obtain ⟨⟨⟨k, q, b⟩, n, m⟩, hD⟩ : ∃ D, D = dec L := ⟨_, rfl⟩
  have HD1 := Lib.hid (re_decode_any hS w A L cap hr hc hl hE)
  unfold DAns at HD1
  rw [← hD] at HD1
  have HD2 : Hid (∀ W, Below w.heap.size w W → Calls Tryd.prog 25 #[.slice A L.length cap] W (DAns2 (⟨k, q, b⟩, n, m) W)) := fun W hb => by
    have := re_refDec_any W A L cap (hr.below hb) hc hl
    unfold DAns at this
    rwa [← hD] at this
  clear hS hr hc hl hE hD
  go_enter Tryd.func10, Tryd.ntmps10
  go_wp2_with fail
  refine HD1.out.mono ?_
  rintro e w1 ⟨X, c, rfl, _, hx1, hb1⟩
  unfold val
  dsimp only at hx1 ⊢
  obtain ⟨W2, hW2⟩ : ∃ W, W = w1.alloc (.cells #[.int .i64 k, .int .u64 (q : Nat), .slice X b.length c] 27) := ⟨_, rfl⟩
  obtain ⟨g1, hg1⟩ : ∃ g, g = w1.heap.size := ⟨_, rfl⟩
  have hbw2 : Below w1.heap.size w1 W2 := by rw [hW2]; exact below_new w1 _
  have HG2 : Hid (Blk W2 g1 27 [.int .i64 k, .int .u64 (q : Nat), .slice X b.length c]) := by show Blk _ _ _ _; rw [hW2, hg1]; exact Blk.new w1 _ _
  have HB2 : Hid (Below w.heap.size w W2) := Later.trans hb1 hbw2
  have HX2 : Hid (Rd W2 X b) := hx1.below hbw2
  clear hx1 hb1 hbw2 HD1
  go_upto_region 2 with (fail)
  rw [← hW2, ← hg1]
  clear hW2 hg1
  go_wp2_with fail
  refine (HD2.out W2 HB2.out).mono ?_
  rintro e w3 ⟨Y, c2, rfl, _, hy3, hb3⟩
  unfold val
  dsimp only at hy3 ⊢
  obtain ⟨W4, hW4⟩ : ∃ W, W = w3.alloc (.cells #[.int .i64 k, .int .u64 (q : Nat), .slice Y b.length c2] 29) := ⟨_, rfl⟩
  obtain ⟨g2, hg2⟩ : ∃ g, g = w3.heap.size := ⟨_, rfl⟩
  have hbw4 : Below w3.heap.size w3 W4 := by rw [hW4]; exact below_new w3 _
  have HG4 : Hid (Blk W4 g2 29 [.int .i64 k, .int .u64 (q : Nat), .slice Y b.length c2]) := by show Blk _ _ _ _; rw [hW4, hg2]; exact Blk.new w3 _ _
  have HB4 : Hid (Below w.heap.size w W4) := Later.trans (Later.trans HB2.out hb3) hbw4
  have HX4 : Hid (Rd W4 X b) := (HX2.out.below hb3).below hbw4
  have HY4 : Hid (Rd W4 Y b) := hy3.below hbw4
  have HF4 : Hid (Blk W4 g1 27 [.int .i64 k, .int .u64 (q : Nat), .slice X b.length c]) := by
    have h1 := HG2.out.below hb3 HG2.out.lt
    exact h1.below hbw4 h1.lt
  clear hy3 hb3 hbw4 HB2 HX2 HG2 HD2
  go_upto_region 3 with (fail)
  rw [← hW4, ← hg2]
  clear hW4 hg2
  have c0 := HF4.out.cell 0
  have c1 := HF4.out.cell 1
  have e2 := HF4.out.cell 2
  have d0 := HG4.out.cell 0
  have d1 := HG4.out.cell 1
  have d2 := HG4.out.cell 2
  have s1 := str_any W4 X b c HX4.out
  have s2 := str_any W4 Y b c2 HY4.out
  go_wp2_with fail
  go_ret
  exact ⟨by simp, HB4.out⟩
set_option maxHeartbeats 4000000 in
set_option maxRecDepth 100000 in
theorem re_same_any (C : WSaid) (hS : SumSaid) (r : Rec) (hk0 : -9223372036854775808 ≤ r.kind) (hk1 : r.kind ≤ 9223372036854775807) (hq : r.seq ≤ 18446744073709551615) (hb : r.body.length ≤ 65535) (w : World) (A : Option Addr) (c : Nat) (hc : r.body.length ≤ c) (hr : Rd w A r.body) (hE : Env w) :
    Calls Tryd.prog 9 #[val r A c] w fun e w' => e = .returned (.bool true) ∧ Below w.heap.size w w' := by
  obtain ⟨k, q, b⟩ := r
  dsimp only at hk0 hk1 hq hb hc hr
  have HENC : Hid (∀ W, Below w.heap.size w W → Calls Tryd.prog 14 #[.agg #[.int .i64 k, .int .u64 (q : Nat), .slice A b.length c]] W (EAns (enc ⟨k, q, b⟩).1 (enc ⟨k, q, b⟩).2 W)) := fun W hb => re_encode_any C hS ⟨k, q, b⟩ W A c hc (hr.below hb) (hE.under hb hE.pos)
  have HIN : Hid (∀ W, Calls Tryd.prog 8 #[.agg #[.int .i64 k, .int .u64 (q : Nat), .slice A b.length c]] W fun e w' => e = .returned (.agg #[.int .i64 k, .int .u64 (q : Nat), .slice A b.length c]) ∧ Below W.heap.size W w') := fun W => re_in_any ⟨k, q, b⟩ A c W
  have HRT : Hid (∀ W, Calls Tryd.prog 23 #[.agg #[.int .i64 k, .int .u64 (q : Nat), .slice A b.length c]] W fun e w' => e = .returned (.bool (decide (Right ⟨k, q, b⟩))) ∧ Below W.heap.size W w') := fun W => re_right_any ⟨k, q, b⟩ A c W
  have HRR : Hid (∀ W, Calls Tryd.prog 22 #[.agg #[.int .i64 k, .int .u64 (q : Nat), .slice A b.length c]] W fun e w' => e = .returned (.bool (decide (Right ⟨k, q, b⟩))) ∧ Below W.heap.size W w') := fun W => re_refRight_any ⟨k, q, b⟩ A c W
  obtain ⟨z, hz⟩ : ∃ z, z = size ⟨k, q, b⟩ := ⟨_, rfl⟩
  have HSZ : Hid (∀ W, Calls Tryd.prog 16 #[.agg #[.int .i64 k, .int .u64 (q : Nat), .slice A b.length c]] W fun e w' => e = .returned (.int .i64 (z : Nat)) ∧ Below W.heap.size W w') := fun W => by rw [hz]; exact re_size_any ⟨k, q, b⟩ A c W
  have HRZ : Hid (∀ W, Calls Tryd.prog 24 #[.agg #[.int .i64 k, .int .u64 (q : Nat), .slice A b.length c]] W fun e w' => e = .returned (.int .i64 (z : Nat)) ∧ Below W.heap.size W w') := fun W => by rw [hz]; exact re_refSize_any ⟨k, q, b⟩ A c W
  have HREN : Hid (∀ W, Below w.heap.size w W → Calls Tryd.prog 7 #[.agg #[.int .i64 k, .int .u64 (q : Nat), .slice A b.length c]] W fun e w' => ∃ v, e = .returned v ∧ w'.ownsRow W.heap.size 5 1 v (formI ⟨k, q, b⟩).length (Lib.byteCells (formI ⟨k, q, b⟩)) ∧ Below W.heap.size W w') := fun W hb9 => re_refEnc_any ⟨k, q, b⟩ hk0 hk1 hq hb W A c (hr.below hb9)
  have HZN : Hid (¬ Right ⟨k, q, b⟩ → z = 0) := fun h => hz.trans (if_neg h)
  obtain ⟨en, hen⟩ : ∃ x, x = enc ⟨k, q, b⟩ := ⟨_, rfl⟩
  have HNO : Hid (¬ Right ⟨k, q, b⟩ → en = ([], 12)) := fun h => hen.trans (if_neg h)
  have HYES : Hid (Right ⟨k, q, b⟩ → en = (form ⟨k, q, b⟩, 0)) := fun h => hen.trans (if_pos h)
  rw [← hen] at HENC
  have HFI : Hid (Right ⟨k, q, b⟩ → formI ⟨k, q, b⟩ = form ⟨k, q, b⟩) := fun h => formI_is _ h
  clear hz hen hk0 hk1 hq hb hc hr hE hS
  unfold val
  dsimp only
  obtain ⟨W0, hW0⟩ : ∃ W0, W0 = w.alloc (.cells #[.int .i64 k, .int .u64 (q : Nat), .slice A b.length c] 27) := ⟨_, rfl⟩
  obtain ⟨g, hg⟩ : ∃ g, g = w.heap.size := ⟨_, rfl⟩
  have HB0 : Hid (Blk W0 g 27 [.int .i64 k, .int .u64 (q : Nat), .slice A b.length c]) := by show Blk _ _ _ _; rw [hW0, hg]; exact Blk.new w _ _
  have HBW : Hid (Below w.heap.size w W0) := by show Below _ _ _; rw [hW0]; exact below_new w _
  go_enter Tryd.func9, Tryd.ntmps9
  go_upto_region 1 with (fail)
  rw [← hW0, ← hg]
  clear hW0 hg
  have c0 := HB0.out.cell 0
  have c1 := HB0.out.cell 1
  have c2 := HB0.out.cell 2
  go_wp2_with fail
  refine (HENC.out W0 HBW.out).mono ?_
  rintro e w1 ⟨X, cx, rfl, hcx, hx1, hb1⟩
  have HB1 : Hid (Blk w1 g 27 [.int .i64 k, .int .u64 (q : Nat), .slice A b.length c]) := HB0.out.below hb1 HB0.out.lt
  have HBW1 : Hid (Below w.heap.size w w1) := Later.trans HBW.out hb1
  have HX1 := Lib.hid hx1
  clear hb1 hx1 hcx c0 c1 c2 HB0 HBW HENC
  have c0 := HB1.out.cell 0
  have c1 := HB1.out.cell 1
  have c2 := HB1.out.cell 2
  go_wp2_with fail
  refine (HIN.out w1).mono ?_
  rintro e w2 ⟨rfl, hb2⟩
  obtain ⟨W3, hW3⟩ : ∃ W, W = w2.alloc (.cells #[.int .i64 k, .int .u64 (q : Nat), .slice A b.length c] 29) := ⟨_, rfl⟩
  obtain ⟨gw, hgw⟩ : ∃ g, g = w2.heap.size := ⟨_, rfl⟩
  have hbw3 : Below w1.heap.size w1 W3 := Later.trans hb2 (by rw [hW3]; exact below_new w2 _)
  have HG3 : Hid (Blk W3 gw 29 [.int .i64 k, .int .u64 (q : Nat), .slice A b.length c]) := by show Blk _ _ _ _; rw [hW3, hgw]; exact Blk.new w2 _ _
  have HB3 : Hid (Blk W3 g 27 [.int .i64 k, .int .u64 (q : Nat), .slice A b.length c]) := HB1.out.below hbw3 HB1.out.lt
  have HBW3 : Hid (Below w.heap.size w W3) := Later.trans HBW1.out hbw3
  have HX3 : Hid (Rd W3 X en.1) := HX1.out.below hbw3
  go_upto_region 3 with (fail)
  rw [← hW3, ← hgw]
  clear hb2 hbw3 hW3 hgw c0 c1 c2 HB1 HBW1 HX1 HIN
  have d0 := HG3.out.cell 0
  have d1 := HG3.out.cell 1
  have d2 := HG3.out.cell 2
  go_wp2_with fail
  refine (HRR.out W3).mono ?_
  rintro e w4 ⟨rfl, hb4⟩
  have HG4 : Hid (Blk w4 gw 29 [.int .i64 k, .int .u64 (q : Nat), .slice A b.length c]) := HG3.out.below hb4 HG3.out.lt
  have HB4 : Hid (Blk w4 g 27 [.int .i64 k, .int .u64 (q : Nat), .slice A b.length c]) := HB3.out.below hb4 HB3.out.lt
  have HBW4 : Hid (Below w.heap.size w w4) := Later.trans HBW3.out hb4
  have HX4 : Hid (Rd w4 X en.1) := HX3.out.below hb4
  clear hb4 d0 d1 d2 HG3 HB3 HBW3 HX3 HRR
  by_cases hri : Right ⟨k, q, b⟩
  · rw [decide_eq_true hri] at HRT ⊢
    obtain ⟨fo, hfo⟩ : ∃ x, x = form ⟨k, q, b⟩ := ⟨_, rfl⟩
    have hfi := HFI.out hri
    rw [← hfo] at hfi HYES
    rw [hfi] at HREN
    obtain rfl : en = (fo, 0) := HYES.out hri
    dsimp only at HX4
    have HSQ : Hid (((strOf fo).toList == (strOf fo).toList) = true) := by show _ = _; simp
    clear hri hfo hfi HFI HYES HNO HZN
    go_upto_region 5 with (fail)
    refine Rc.wp_region (by kernel_rfl) (fun opn => List.getD [Rc.val (.slice X fo.length cx), Rc.val (.string (strOf (fo))), Rc.val (.agg #[.int .i64 k, .int .u64 (q : Nat), .slice A b.length c]), Ob.frow (fo), Rc.val (.string (strOf (fo))), Rc.val (.bool true), Rc.val (.bool true), Rc.val (.int .i64 0), Rc.val (.bool true), Rc.val (.bool true), Rc.val (.bool true), Rc.val (.agg #[.int .i64 k, .int .u64 (q : Nat), .slice A b.length c]), Rc.val (.bool true), Rc.val (.bool true), Rc.val (.bool true), Rc.val (.agg #[.int .i64 k, .int .u64 (q : Nat), .slice A b.length c]), Rc.val (.int .i64 (z : Nat)), Rc.val (.agg #[.int .i64 k, .int .u64 (q : Nat), .slice A b.length c]), Rc.val (.int .i64 (z : Nat)), Rc.val (.bool true), Rc.val (.bool true), Rc.val (.bool true)] opn Rc.any) 0 [] [[], [(0, 33)], [], [(2, 35)], [(3, 36)], [(1, 34), (4, 37)], [(5, 38)], [(6, 39)], [(6, 39), (7, 40)], [(6, 39), (8, 41)], [(9, 42)], [(10, 43)], [(10, 43), (11, 44)], [(10, 43), (12, 45)], [(13, 46)], [(14, 47)], [(14, 47), (15, 48)], [(14, 47)], [(14, 47), (17, 50)], [(14, 47), (16, 49), (18, 51)], [(14, 47), (19, 52)], [(20, 53)]] [[], [0], [], [2], [3], [1, 4], [5], [6], [6, 7], [6, 8], [9], [10], [10, 11], [10, 12], [13], [14], [14, 15], [14], [14, 17], [14, 16, 18], [14, 19], [20]] [[], [0], [], [2], [3], [1, 4], [5], [6], [6, 7], [6, 8], [9], [10], [10, 11], [10, 12], [13], [14], [14, 15], [14], [14, 17], [14, 16, 18], [14, 19], [20]] [] (by kernel_rfl) (by rfl) (by kernel_rfl) (fun _ => False) (fun _ _ => False) Rc.Inv.none ?_ ?_
    · intro fr ha
      have hz : fr.tmps.size = 54 := by rw [ha]; rfl
      have y1 : fr.eval (.tmp 1) = .pointer (some ⟨g, 0, none⟩) := by rw [ha]; rfl
      have y5 : fr.eval (.tmp 5) = .pointer (some ⟨gw, 0, none⟩) := by rw [ha]; rfl
      have y3 : fr.eval (.tmp 3) = .slice X fo.length cx := by rw [ha]; rfl
      have y4 : fr.eval (.tmp 4) = .int .i64 0 := by rw [ha]; rfl
      clear ha
      refine .cons ?_ (.cons ?_ (.cons ?_ (.cons ?_ (.cons ?_ (.cons ?_ (.cons ?_ (.cons ?_ (.cons ?_ (.cons ?_ (.cons ?_ (.cons ?_ (.cons ?_ (.cons ?_ (.cons ?_ (.cons ?_ (.cons ?_ (.cons ?_ (.cons ?_ (.cons ?_ (.cons ?_ (.cons ?_ (.nil))))))))))))))))))))))
      · intro V S w2 HM HU HE
        have lw : Below w4.heap.size w4 w2 := Rc.Mod.below HM (fun _ h => h.elim)
        have tb3 : (Rg.putUse V [] fr).eval (.tmp 3) = .slice X fo.length cx := (Rg.use_eval V fr 3 [] (by simp only [hz]; decide)).trans y3
        show Rg.Does1 _ _ V (Rg.putUse V [] fr) w2 _
        exact Ob.rc_mv (.slice X fo.length cx) (by simp only [execOp, tb3]; go_simp) rfl rfl True.intro
      · intro V S w2 HM HU HE
        have lw : Below w4.heap.size w4 w2 := Rc.Mod.below HM (fun _ h => h.elim)
        have h0 : V 0 = .slice X fo.length cx := HU.holds 0 (by decide)
        have tb33 : (Rg.putUse V [(0, 33)] fr).eval (.tmp 33) = .slice X fo.length cx := (Rg.use_eval V fr 33 [(0, 33)] (by simp only [hz]; decide)).trans h0
        show Rg.Does1 _ _ V (Rg.putUse V [(0, 33)] fr) w2 _
        exact Ob.rc_str (fo) rfl tb33 (by first | rfl | simp) (HX4.out.below lw) rfl rfl True.intro
      · intro V S w2 HM HU HE
        have lw : Below w4.heap.size w4 w2 := Rc.Mod.below HM (fun _ h => h.elim)
        have tb5 : (Rg.putUse V [] fr).eval (.tmp 5) = .pointer (some ⟨gw, 0, none⟩) := (Rg.use_eval V fr 5 [] (by simp only [hz]; decide)).trans y5
        show Rg.Does1 _ _ V (Rg.putUse V [] fr) w2 _
        have cl0 := (lw.cell (p := ⟨gw, 0, none⟩) HG4.out.lt).trans (HG4.out.cell 0)
        have cl1 := (lw.cell (p := ⟨gw, 1, none⟩) HG4.out.lt).trans (HG4.out.cell 1)
        have cl2 := (lw.cell (p := ⟨gw, 2, none⟩) HG4.out.lt).trans (HG4.out.cell 2)
        exact Ob.rc_mv (.agg #[.int .i64 k, .int .u64 (q : Nat), .slice A b.length c]) (by simp only [execOp, tb5]; go_simp) rfl rfl True.intro
      · intro V S w2 HM HU HE
        have lw : Below w4.heap.size w4 w2 := Rc.Mod.below HM (fun _ h => h.elim)
        have h2 : V 2 = .agg #[.int .i64 k, .int .u64 (q : Nat), .slice A b.length c] := HU.holds 2 (by decide)
        have tb35 : (Rg.putUse V [(2, 35)] fr).eval (.tmp 35) = .agg #[.int .i64 k, .int .u64 (q : Nat), .slice A b.length c] := (Rg.use_eval V fr 35 [(2, 35)] (by simp only [hz]; decide)).trans h2
        show Rg.Does1 _ _ V (Rg.putUse V [(2, 35)] fr) w2 _
        exact Ob.step_frow (fo) #[.agg #[.int .i64 k, .int .u64 (q : Nat), .slice A b.length c]] (fun args w => Rg.call_enter Tryd.func7 (by kernel_rfl) (by kernel_rfl) args w) rfl (by simp only [List.map_toArray, List.map_cons, List.map_nil, tb35]) rfl (fun x => Rg.alias_none rfl V x) True.intro (HREN.out w2 (Later.trans HBW4.out lw))
      · intro V S w2 HM HU HE
        have lw : Below w4.heap.size w4 w2 := Rc.Mod.below HM (fun _ h => h.elim)
        obtain ⟨X3, k3, e3, hc3, hr3, hX3⟩ := HU.holds 3 (by decide)
        have tb36 : (Rg.putUse V [(3, 36)] fr).eval (.tmp 36) = .slice X3 (fo).length k3 := (Rg.use_eval V fr 36 [(3, 36)] (by simp only [hz]; decide)).trans e3
        show Rg.Does1 _ _ V (Rg.putUse V [(3, 36)] fr) w2 _
        exact Ob.rc_str (fo) rfl tb36 (by first | rfl | simp) hr3 rfl rfl True.intro
      · intro V S w2 HM HU HE
        have lw : Below w4.heap.size w4 w2 := Rc.Mod.below HM (fun _ h => h.elim)
        have h1 : V 1 = .string (strOf (fo)) := HU.holds 1 (by decide)
        have tb34 : (Rg.putUse V [(1, 34), (4, 37)] fr).eval (.tmp 34) = .string (strOf (fo)) := (Rg.use_eval V fr 34 [(1, 34), (4, 37)] (by simp only [hz]; decide)).trans h1
        have h4 : V 4 = .string (strOf (fo)) := HU.holds 4 (by decide)
        have tb37 : (Rg.putUse V [(1, 34), (4, 37)] fr).eval (.tmp 37) = .string (strOf (fo)) := (Rg.use_eval V fr 37 [(1, 34), (4, 37)] (by simp only [hz]; decide)).trans h4
        show Rg.Does1 _ _ V (Rg.putUse V [(1, 34), (4, 37)] fr) w2 _
        have hsq := HSQ.out
        exact Ob.rc_mv (.bool true) (by simp only [execOp, tb34, tb37]; go_simp) rfl rfl True.intro
      · intro V S w2 HM HU HE
        have lw : Below w4.heap.size w4 w2 := Rc.Mod.below HM (fun _ h => h.elim)
        have h5 : V 5 = .bool true := HU.holds 5 (by decide)
        have tb38 : (Rg.putUse V [(5, 38)] fr).eval (.tmp 38) = .bool true := (Rg.use_eval V fr 38 [(5, 38)] (by simp only [hz]; decide)).trans h5
        show Rg.Does1 _ _ V (Rg.putUse V [(5, 38)] fr) w2 _
        exact Ob.rc_mv (.bool true) (by simp only [execOp, tb38]; go_simp) rfl rfl True.intro
      · intro V S w2 HM HU HE
        have lw : Below w4.heap.size w4 w2 := Rc.Mod.below HM (fun _ h => h.elim)
        have h6 : V 6 = .bool true := HU.holds 6 (by decide)
        have tb4 : (Rg.putUse V [(6, 39)] fr).eval (.tmp 4) = .int .i64 0 := (Rg.use_eval V fr 4 [(6, 39)] (by simp only [hz]; decide)).trans y4
        show Rg.Does1 _ _ V (Rg.putUse V [(6, 39)] fr) w2 _
        exact Ob.rc_mv (.int .i64 0) (by simp only [execOp, tb4]; go_simp) rfl rfl h6
      · intro V S w2 HM HU HE
        have lw : Below w4.heap.size w4 w2 := Rc.Mod.below HM (fun _ h => h.elim)
        have h6 : V 6 = .bool true := HU.holds 6 (by decide)
        have h7 : V 7 = .int .i64 0 := HU.holds 7 (by decide)
        have tb40 : (Rg.putUse V [(6, 39), (7, 40)] fr).eval (.tmp 40) = .int .i64 0 := (Rg.use_eval V fr 40 [(6, 39), (7, 40)] (by simp only [hz]; decide)).trans h7
        show Rg.Does1 _ _ V (Rg.putUse V [(6, 39), (7, 40)] fr) w2 _
        exact Ob.rc_mv (.bool true) (by simp only [execOp, tb40]; go_simp) rfl rfl h6
      · intro V S w2 HM HU HE
        have lw : Below w4.heap.size w4 w2 := Rc.Mod.below HM (fun _ h => h.elim)
        have h6 : V 6 = .bool true := HU.holds 6 (by decide)
        have tb39 : (Rg.putUse V [(6, 39), (8, 41)] fr).eval (.tmp 39) = .bool true := (Rg.use_eval V fr 39 [(6, 39), (8, 41)] (by simp only [hz]; decide)).trans h6
        have h8 : V 8 = .bool true := HU.holds 8 (by decide)
        have tb41 : (Rg.putUse V [(6, 39), (8, 41)] fr).eval (.tmp 41) = .bool true := (Rg.use_eval V fr 41 [(6, 39), (8, 41)] (by simp only [hz]; decide)).trans h8
        show Rg.Does1 _ _ V (Rg.putUse V [(6, 39), (8, 41)] fr) w2 _
        exact Ob.rc_mv (.bool true) (by simp only [execOp, tb39, tb41]; go_simp) rfl rfl True.intro
      · intro V S w2 HM HU HE
        have lw : Below w4.heap.size w4 w2 := Rc.Mod.below HM (fun _ h => h.elim)
        have h9 : V 9 = .bool true := HU.holds 9 (by decide)
        have tb42 : (Rg.putUse V [(9, 42)] fr).eval (.tmp 42) = .bool true := (Rg.use_eval V fr 42 [(9, 42)] (by simp only [hz]; decide)).trans h9
        show Rg.Does1 _ _ V (Rg.putUse V [(9, 42)] fr) w2 _
        exact Ob.rc_mv (.bool true) (by simp only [execOp, tb42]; go_simp) rfl rfl True.intro
      · intro V S w2 HM HU HE
        have lw : Below w4.heap.size w4 w2 := Rc.Mod.below HM (fun _ h => h.elim)
        have h10 : V 10 = .bool true := HU.holds 10 (by decide)
        have tb1 : (Rg.putUse V [(10, 43)] fr).eval (.tmp 1) = .pointer (some ⟨g, 0, none⟩) := (Rg.use_eval V fr 1 [(10, 43)] (by simp only [hz]; decide)).trans y1
        show Rg.Does1 _ _ V (Rg.putUse V [(10, 43)] fr) w2 _
        have cl0 := (lw.cell (p := ⟨g, 0, none⟩) HB4.out.lt).trans (HB4.out.cell 0)
        have cl1 := (lw.cell (p := ⟨g, 1, none⟩) HB4.out.lt).trans (HB4.out.cell 1)
        have cl2 := (lw.cell (p := ⟨g, 2, none⟩) HB4.out.lt).trans (HB4.out.cell 2)
        exact Ob.rc_mv (.agg #[.int .i64 k, .int .u64 (q : Nat), .slice A b.length c]) (by simp only [execOp, tb1]; go_simp) rfl rfl h10
      · intro V S w2 HM HU HE
        have lw : Below w4.heap.size w4 w2 := Rc.Mod.below HM (fun _ h => h.elim)
        have h10 : V 10 = .bool true := HU.holds 10 (by decide)
        have h11 : V 11 = .agg #[.int .i64 k, .int .u64 (q : Nat), .slice A b.length c] := HU.holds 11 (by decide)
        have tb44 : (Rg.putUse V [(10, 43), (11, 44)] fr).eval (.tmp 44) = .agg #[.int .i64 k, .int .u64 (q : Nat), .slice A b.length c] := (Rg.use_eval V fr 44 [(10, 43), (11, 44)] (by simp only [hz]; decide)).trans h11
        show Rg.Does1 _ _ V (Rg.putUse V [(10, 43), (11, 44)] fr) w2 _
        exact Ob.step_tell (.bool true) #[.agg #[.int .i64 k, .int .u64 (q : Nat), .slice A b.length c]] (fun args w => Rg.call_enter Tryd.func23 (by kernel_rfl) (by kernel_rfl) args w) rfl (by simp only [List.map_toArray, List.map_cons, List.map_nil, tb44]) rfl (fun x => Rg.alias_none rfl V x) h10 (HRT.out w2)
      · intro V S w2 HM HU HE
        have lw : Below w4.heap.size w4 w2 := Rc.Mod.below HM (fun _ h => h.elim)
        have h10 : V 10 = .bool true := HU.holds 10 (by decide)
        have tb43 : (Rg.putUse V [(10, 43), (12, 45)] fr).eval (.tmp 43) = .bool true := (Rg.use_eval V fr 43 [(10, 43), (12, 45)] (by simp only [hz]; decide)).trans h10
        have h12 : V 12 = .bool true := HU.holds 12 (by decide)
        have tb45 : (Rg.putUse V [(10, 43), (12, 45)] fr).eval (.tmp 45) = .bool true := (Rg.use_eval V fr 45 [(10, 43), (12, 45)] (by simp only [hz]; decide)).trans h12
        show Rg.Does1 _ _ V (Rg.putUse V [(10, 43), (12, 45)] fr) w2 _
        exact Ob.rc_mv (.bool true) (by simp only [execOp, tb43, tb45]; go_simp) rfl rfl True.intro
      · intro V S w2 HM HU HE
        have lw : Below w4.heap.size w4 w2 := Rc.Mod.below HM (fun _ h => h.elim)
        have h13 : V 13 = .bool true := HU.holds 13 (by decide)
        have tb46 : (Rg.putUse V [(13, 46)] fr).eval (.tmp 46) = .bool true := (Rg.use_eval V fr 46 [(13, 46)] (by simp only [hz]; decide)).trans h13
        show Rg.Does1 _ _ V (Rg.putUse V [(13, 46)] fr) w2 _
        exact Ob.rc_mv (.bool true) (by simp only [execOp, tb46]; go_simp) rfl rfl True.intro
      · intro V S w2 HM HU HE
        have lw : Below w4.heap.size w4 w2 := Rc.Mod.below HM (fun _ h => h.elim)
        have h14 : V 14 = .bool true := HU.holds 14 (by decide)
        have tb1 : (Rg.putUse V [(14, 47)] fr).eval (.tmp 1) = .pointer (some ⟨g, 0, none⟩) := (Rg.use_eval V fr 1 [(14, 47)] (by simp only [hz]; decide)).trans y1
        show Rg.Does1 _ _ V (Rg.putUse V [(14, 47)] fr) w2 _
        have cl0 := (lw.cell (p := ⟨g, 0, none⟩) HB4.out.lt).trans (HB4.out.cell 0)
        have cl1 := (lw.cell (p := ⟨g, 1, none⟩) HB4.out.lt).trans (HB4.out.cell 1)
        have cl2 := (lw.cell (p := ⟨g, 2, none⟩) HB4.out.lt).trans (HB4.out.cell 2)
        exact Ob.rc_mv (.agg #[.int .i64 k, .int .u64 (q : Nat), .slice A b.length c]) (by simp only [execOp, tb1]; go_simp) rfl rfl h14
      · intro V S w2 HM HU HE
        have lw : Below w4.heap.size w4 w2 := Rc.Mod.below HM (fun _ h => h.elim)
        have h14 : V 14 = .bool true := HU.holds 14 (by decide)
        have h15 : V 15 = .agg #[.int .i64 k, .int .u64 (q : Nat), .slice A b.length c] := HU.holds 15 (by decide)
        have tb48 : (Rg.putUse V [(14, 47), (15, 48)] fr).eval (.tmp 48) = .agg #[.int .i64 k, .int .u64 (q : Nat), .slice A b.length c] := (Rg.use_eval V fr 48 [(14, 47), (15, 48)] (by simp only [hz]; decide)).trans h15
        show Rg.Does1 _ _ V (Rg.putUse V [(14, 47), (15, 48)] fr) w2 _
        exact Ob.step_tell (.int .i64 (z : Nat)) #[.agg #[.int .i64 k, .int .u64 (q : Nat), .slice A b.length c]] (fun args w => Rg.call_enter Tryd.func16 (by kernel_rfl) (by kernel_rfl) args w) rfl (by simp only [List.map_toArray, List.map_cons, List.map_nil, tb48]) rfl (fun x => Rg.alias_none rfl V x) h14 (HSZ.out w2)
      · intro V S w2 HM HU HE
        have lw : Below w4.heap.size w4 w2 := Rc.Mod.below HM (fun _ h => h.elim)
        have h14 : V 14 = .bool true := HU.holds 14 (by decide)
        have tb5 : (Rg.putUse V [(14, 47)] fr).eval (.tmp 5) = .pointer (some ⟨gw, 0, none⟩) := (Rg.use_eval V fr 5 [(14, 47)] (by simp only [hz]; decide)).trans y5
        show Rg.Does1 _ _ V (Rg.putUse V [(14, 47)] fr) w2 _
        have cl0 := (lw.cell (p := ⟨gw, 0, none⟩) HG4.out.lt).trans (HG4.out.cell 0)
        have cl1 := (lw.cell (p := ⟨gw, 1, none⟩) HG4.out.lt).trans (HG4.out.cell 1)
        have cl2 := (lw.cell (p := ⟨gw, 2, none⟩) HG4.out.lt).trans (HG4.out.cell 2)
        exact Ob.rc_mv (.agg #[.int .i64 k, .int .u64 (q : Nat), .slice A b.length c]) (by simp only [execOp, tb5]; go_simp) rfl rfl h14
      · intro V S w2 HM HU HE
        have lw : Below w4.heap.size w4 w2 := Rc.Mod.below HM (fun _ h => h.elim)
        have h14 : V 14 = .bool true := HU.holds 14 (by decide)
        have h17 : V 17 = .agg #[.int .i64 k, .int .u64 (q : Nat), .slice A b.length c] := HU.holds 17 (by decide)
        have tb50 : (Rg.putUse V [(14, 47), (17, 50)] fr).eval (.tmp 50) = .agg #[.int .i64 k, .int .u64 (q : Nat), .slice A b.length c] := (Rg.use_eval V fr 50 [(14, 47), (17, 50)] (by simp only [hz]; decide)).trans h17
        show Rg.Does1 _ _ V (Rg.putUse V [(14, 47), (17, 50)] fr) w2 _
        exact Ob.step_tell (.int .i64 (z : Nat)) #[.agg #[.int .i64 k, .int .u64 (q : Nat), .slice A b.length c]] (fun args w => Rg.call_enter Tryd.func24 (by kernel_rfl) (by kernel_rfl) args w) rfl (by simp only [List.map_toArray, List.map_cons, List.map_nil, tb50]) rfl (fun x => Rg.alias_none rfl V x) h14 (HRZ.out w2)
      · intro V S w2 HM HU HE
        have lw : Below w4.heap.size w4 w2 := Rc.Mod.below HM (fun _ h => h.elim)
        have h14 : V 14 = .bool true := HU.holds 14 (by decide)
        have h16 : V 16 = .int .i64 (z : Nat) := HU.holds 16 (by decide)
        have tb49 : (Rg.putUse V [(14, 47), (16, 49), (18, 51)] fr).eval (.tmp 49) = .int .i64 (z : Nat) := (Rg.use_eval V fr 49 [(14, 47), (16, 49), (18, 51)] (by simp only [hz]; decide)).trans h16
        have h18 : V 18 = .int .i64 (z : Nat) := HU.holds 18 (by decide)
        have tb51 : (Rg.putUse V [(14, 47), (16, 49), (18, 51)] fr).eval (.tmp 51) = .int .i64 (z : Nat) := (Rg.use_eval V fr 51 [(14, 47), (16, 49), (18, 51)] (by simp only [hz]; decide)).trans h18
        show Rg.Does1 _ _ V (Rg.putUse V [(14, 47), (16, 49), (18, 51)] fr) w2 _
        exact Ob.rc_mv (.bool true) (by simp only [execOp, tb49, tb51]; go_simp) rfl rfl h14
      · intro V S w2 HM HU HE
        have lw : Below w4.heap.size w4 w2 := Rc.Mod.below HM (fun _ h => h.elim)
        have h14 : V 14 = .bool true := HU.holds 14 (by decide)
        have tb47 : (Rg.putUse V [(14, 47), (19, 52)] fr).eval (.tmp 47) = .bool true := (Rg.use_eval V fr 47 [(14, 47), (19, 52)] (by simp only [hz]; decide)).trans h14
        have h19 : V 19 = .bool true := HU.holds 19 (by decide)
        have tb52 : (Rg.putUse V [(14, 47), (19, 52)] fr).eval (.tmp 52) = .bool true := (Rg.use_eval V fr 52 [(14, 47), (19, 52)] (by simp only [hz]; decide)).trans h19
        show Rg.Does1 _ _ V (Rg.putUse V [(14, 47), (19, 52)] fr) w2 _
        exact Ob.rc_mv (.bool true) (by simp only [execOp, tb47, tb52]; go_simp) rfl rfl True.intro
      · intro V S w2 HM HU HE
        have lw : Below w4.heap.size w4 w2 := Rc.Mod.below HM (fun _ h => h.elim)
        have h20 : V 20 = .bool true := HU.holds 20 (by decide)
        have tb53 : (Rg.putUse V [(20, 53)] fr).eval (.tmp 53) = .bool true := (Rg.use_eval V fr 53 [(20, 53)] (by simp only [hz]; decide)).trans h20
        show Rg.Does1 _ _ V (Rg.putUse V [(20, 53)] fr) w2 _
        exact Ob.rc_mv (.bool true) (by simp only [execOp, tb53]; go_simp) rfl rfl True.intro
    intro V S w2 HI
    have HL2 : Hid (Below w4.heap.size w4 w2) := Rc.Mod.below HI.mod.undrew (fun _ h => h.elim)
    have hw21 : V 21 = .bool true := HI.get 21 (by decide) (by rfl)
    simp only [Rg.putList, Act.put, List.setIfInBounds_toArray, List.set_cons_zero, List.set_cons_succ, Nat.zero_add, Nat.reduceAdd]
    rw [hw21]
    clear HI hw21
    have HEND : Hid (Below w.heap.size w w2) := Later.trans HBW4.out HL2.out
    clear HL2
    go_wp2_with fail
    go_ret
    exact ⟨rfl, HEND.out⟩
  · rw [decide_eq_false hri] at HRT ⊢
    obtain rfl : en = ([], 12) := HNO.out hri
    obtain rfl : z = 0 := HZN.out hri
    clear hri HFI HYES HNO HZN HRZ HREN
    have c0 := HB4.out.cell 0
    have c1 := HB4.out.cell 1
    have c2 := HB4.out.cell 2
    go_wp2_with fail
    refine (HRT.out w4).mono ?_
    rintro e w5 ⟨rfl, hb5⟩
    have HB5 : Hid (Blk w5 g 27 [.int .i64 k, .int .u64 (q : Nat), .slice A b.length c]) := HB4.out.below hb5 HB4.out.lt
    have HBW5 : Hid (Below w.heap.size w w5) := Later.trans HBW4.out hb5
    clear hb5 c0 c1 c2 HB4 HBW4
    have c0 := HB5.out.cell 0
    have c1 := HB5.out.cell 1
    have c2 := HB5.out.cell 2
    go_wp2_with fail
    refine (HSZ.out w5).mono ?_
    rintro e w6 ⟨rfl, hb6⟩
    have HBW6 : Hid (Below w.heap.size w w6) := Later.trans HBW5.out hb6
    clear hb6
    go_wp2_with fail
    go_ret
    exact ⟨rfl, HBW6.out⟩
end Re
end Go.Proofs.YtmcbpgbiephllaaDoor

namespace Go.Proofs.YtmcbpgbiephllaaDoor
open Go.RowKit
namespace Re
theorem wpList_append_g {P : Program} {w : World} {ops : Array Oper} {rest : List Oper} {o : Oper} {a : Act} {Q : Exit → Act → World → Prop} (hgd : Region.wanted o (yielded ops a.tmps) = true) (s x : Operand) (t : TypeId)
    (ho : o.op = .call { callee := .builtin .append, args := #[s, x], argTypes := #[t, t] })
    (base : Nat) (e : TypeId) (i : TypeInfo) (ht : P.underlying t = some (.slice e)) (hi : P.info? e = some i) (hz : i.zero = some (.int .u8 0)) (hsize : i.size = 1) (hby : i.bytes = 1)
    (v : Value) (n : Nat) (xs : List Value) (hs : a.eval s = v) (hown : w.ownsRow base e 1 v n xs) (A : Option Addr) (l : List UInt8) (m c : Nat) (hm : l.length = m) (hx : a.eval x = .slice A m c) (hr : Rd w A l) (hn : n + l.length ≤ 1099511627776) (hbase : base ≤ w.heap.size)
    (h : ∀ v' w', Hid (w'.ownsRow base e 1 v' (n + l.length) (xs ++ Lib.byteCells l)) → Hid (w.grownBy w' v.ownBlock) → wpList P ops Q rest (a.put o.dst v') w') : wpList P ops Q (o :: rest) a w := by
  subst hm
  refine wpList_step fun K hK => ?_
  rw [if_pos hgd]
  obtain ⟨v', w', hrun, h1, h2⟩ := run_append_rd w base t o.type e i ht hi hz hsize hby v n xs hown A l c hr hn hbase
  unfold Oper.wp
  simp [execOp, ho, resolve, invoke, builtin, hs, hx, hrun, Result.andThen]
  exact hK _ _ (h v' w' h1 h2)
end Re
end Go.Proofs.YtmcbpgbiephllaaDoor

namespace Go.Proofs.YtmcbpgbiephllaaDoor
open Go.RowKit Rc
namespace Re
def numsC : List Value := [.int .i64 0, .int .i64 1, .int .i64 899, .int .i64 900, .int .i64 901]
def timesC : List Value := [.int .u64 0, .int .u64 1, .int .u64 1099511627776, .int .u64 1099511627777, .int .u64 18446744073709551615]
theorem nums_at (j : Nat) (h : j < 5) : ∃ n : Nat, n ≤ 901 ∧ numsC[j]? = some (.int .i64 (n : Nat)) := by
  have : j = 0 ∨ j = 1 ∨ j = 2 ∨ j = 3 ∨ j = 4 := by omega
  rcases this with rfl | rfl | rfl | rfl | rfl
  · exact ⟨0, by decide, rfl⟩
  · exact ⟨1, by decide, rfl⟩
  · exact ⟨899, by decide, rfl⟩
  · exact ⟨900, by decide, rfl⟩
  · exact ⟨901, by decide, rfl⟩
theorem times_at (j : Nat) (h : j < 5) : ∃ s : Nat, s ≤ 18446744073709551615 ∧ timesC[j]? = some (.int .u64 (s : Nat)) := by
  have : j = 0 ∨ j = 1 ∨ j = 2 ∨ j = 3 ∨ j = 4 := by omega
  rcases this with rfl | rfl | rfl | rfl | rfl
  · exact ⟨0, by decide, rfl⟩
  · exact ⟨1, by decide, rfl⟩
  · exact ⟨1099511627776, by decide, rfl⟩
  · exact ⟨1099511627777, by decide, rfl⟩
  · exact ⟨18446744073709551615, by decide, rfl⟩
set_option maxHeartbeats 8000000 in
set_option maxRecDepth 100000 in
theorem numbers_any (C : WSaid) (hS : SumSaid) (w : World) (hE : Env w) : Calls Tryd.prog 3 #[] w fun e w' => e = .returned (.bool true) ∧ Below w.heap.size w w' := by
  have HRD : Hid (∀ W (X : Option Addr) (L : List UInt8) (cap : Nat), Below w.heap.size w W → Rd W X L → L.length ≤ cap → L.length ≤ 65550 → Calls Tryd.prog 10 #[.slice X L.length cap] W fun e w' => e = .returned (.bool true) ∧ Below W.heap.size W w') := fun W X L cap h1 h2 h3 h4 => re_read_any hS W X L cap h2 h3 h4 (hE.under h1 hE.pos)
  have HKN : Hid (∀ W, Below w.heap.size w W → Calls Tryd.prog 11 #[] W fun e w' => e = .returned (.bool true) ∧ Below W.heap.size W w') := fun W h => re_known_any hS W (hE.under h hE.pos)
  have HSM : Hid (∀ W (r : Rec) (A : Option Addr) (c : Nat), -9223372036854775808 ≤ r.kind → r.kind ≤ 9223372036854775807 → r.seq ≤ 18446744073709551615 → r.body.length ≤ 65535 → r.body.length ≤ c → Rd W A r.body → Below w.heap.size w W → Calls Tryd.prog 9 #[val r A c] W fun e w' => e = .returned (.bool true) ∧ Below W.heap.size W w') := fun W r A c h1 h2 h3 h4 h5 h6 h7 => re_same_any C hS r h1 h2 h3 h4 W A c h5 h6 (hE.under h7 hE.pos)
  clear hS hE
  go_enter Tryd.func3, Tryd.ntmps3
  go_wp2_with fail
  go_loopw [1] (fun t1 wr => ∃ k : Int, -1 ≤ k ∧ k ≤ 5 ∧ t1 = .int .i64 k ∧ Hid (Below w.heap.size w wr)) (fun t1 _ => (5 - intOf t1).toNat)
  case atStart => exact ⟨-1, by decide, by decide, rfl, Below.refl _ _⟩
  case round =>
    obtain ⟨k, hk0, hk1, rfl, HW⟩ := hrel
    by_cases hlt : k < 5
    · obtain ⟨g, hg⟩ : ∃ g, g = wr.heap.size := ⟨_, rfl⟩
      obtain ⟨WL, hWL⟩ : ∃ W, W = wr.alloc (.cells #[.int .i64 0, .int .i64 1, .int .i64 899, .int .i64 900, .int .i64 901] 3) := ⟨_, rfl⟩
      have HL : Hid (Blk WL g 3 numsC) := by show Blk _ _ _ _; rw [hWL, hg]; exact Blk.new wr _ _
      have HW0 : Hid (Below w.heap.size w WL) := Later.trans HW.out (by rw [hWL]; exact below_new wr _)
      go_wp2_with fail
      rw [← hWL, ← hg]
      clear hWL hg HW
      go_loopw [14] (fun t14 wr => ∃ j : Nat, j ≤ 5 ∧ t14 = .int .i64 (j : Nat) ∧ Hid (Blk wr g 3 numsC) ∧ Hid (Below w.heap.size w wr)) (fun t14 _ => 5 - (intOf t14).toNat)
      case atStart => exact ⟨0, by decide, rfl, HL.out, HW0.out⟩
      case round =>
        clear HL HW0
        obtain ⟨j, hj, rfl, HL, HW⟩ := hrel
        by_cases hlj : j < 5
        · obtain ⟨n, hn, hcn⟩ := nums_at j hlj
          have hdj : decide ((j : Int) < 5) = true := by simp; omega
          have hdi : (j : Int) < 5 := by omega
          have cn : wr.cell? ⟨g, j, none⟩ = some (.int .i64 (n : Nat)) := (HL.out.cell j).trans hcn
          obtain ⟨g2, hg2⟩ : ∃ g, g = wr.heap.size := ⟨_, rfl⟩
          obtain ⟨WT, hWT⟩ : ∃ W, W = wr.alloc (.cells #[.int .u64 0, .int .u64 1, .int .u64 1099511627776, .int .u64 1099511627777, .int .u64 18446744073709551615] 23) := ⟨_, rfl⟩
          have hbT : Below wr.heap.size wr WT := by rw [hWT]; exact below_new wr _
          have HT : Hid (Blk WT g2 23 timesC) := by show Blk _ _ _ _; rw [hWT, hg2]; exact Blk.new wr _ _
          have HL0 : Hid (Blk WT g 3 numsC) := HL.out.below hbT HL.out.lt
          have HW0 : Hid (Below w.heap.size w WT) := Later.trans HW.out hbT
          go_wp2_with fail
          rw [← hWT, ← hg2]
          clear hWT hg2 hbT HW HL cn hcn
          go_loopw [20] (fun t20 wr => ∃ i : Nat, i ≤ 5 ∧ t20 = .int .i64 (i : Nat) ∧ Hid (Blk wr g2 23 timesC) ∧ Hid (Blk wr g 3 numsC) ∧ Hid (Below w.heap.size w wr)) (fun t20 _ => 5 - (intOf t20).toNat)
          case atStart => exact ⟨0, by decide, rfl, HT.out, HL0.out, HW0.out⟩
          case round =>
            clear HT HL0 HW0
            obtain ⟨i, hi, rfl, HT, HL, HW⟩ := hrel
            by_cases hli : i < 5
            · obtain ⟨s, hs, hcs⟩ := times_at i hli
              have cs : wr.cell? ⟨g2, i, none⟩ = some (.int .u64 (s : Nat)) := (HT.out.cell i).trans hcs
              obtain ⟨W1, b, hrun, hb1, hbz, hrb, hsz⟩ := Ob.make_row wr n (by omega)
              have hbl : b.length = n := by rw [hbz, List.length_replicate]
              obtain ⟨X, hX⟩ : ∃ X : Option Addr, X = some ⟨wr.heap.size, 0, none⟩ := ⟨_, rfl⟩
              rw [← hX] at hrun hrb
              obtain ⟨g6, hg6⟩ : ∃ g, g = W1.heap.size := ⟨_, rfl⟩
              obtain ⟨W2, hW2⟩ : ∃ W, W = W1.alloc (.cells #[.int .i64 k, .int .u64 (s : Nat), .slice X n n] 27) := ⟨_, rfl⟩
              go_upto_region 11 with (fail)
              rw [← hX, ← hg6, ← hW2]
              have hb2 : Below W1.heap.size W1 W2 := by rw [hW2]; exact below_new W1 _
              have hbr : Below wr.heap.size wr W2 := Later.trans hb1 hb2
              have HG2 : Hid (Blk W2 g6 27 [.int .i64 k, .int .u64 (s : Nat), .slice X n n]) := by show Blk _ _ _ _; rw [hW2, hg6]; exact Blk.new W1 _ _
              have HT2 : Hid (Blk W2 g2 23 timesC) := HT.out.below hbr HT.out.lt
              have HL2 : Hid (Blk W2 g 3 numsC) := HL.out.below hbr HL.out.lt
              have HW2 : Hid (Below w.heap.size w W2) := Later.trans HW.out hbr
              have HXR : Hid (Rd W2 X b) := hrb.below hb2
              have HIN : Hid (∀ W, Calls Tryd.prog 8 #[.agg #[.int .i64 k, .int .u64 (s : Nat), .slice X n n]] W fun e w' => e = .returned (.agg #[.int .i64 k, .int .u64 (s : Nat), .slice X n n]) ∧ Below W.heap.size W w') := fun W => by have h := re_in_any ⟨k, s, b⟩ X n W; unfold val at h; dsimp only at h; rw [hbl] at h; exact h
              have HEN : Hid (∀ W, Below W2.heap.size W2 W → Calls Tryd.prog 7 #[.agg #[.int .i64 k, .int .u64 (s : Nat), .slice X n n]] W fun e w' => ∃ v, e = .returned v ∧ w'.ownsRow W.heap.size 5 1 v (formI ⟨k, s, b⟩).length (Lib.byteCells (formI ⟨k, s, b⟩)) ∧ Below W.heap.size W w') := fun W h9 => by have h := re_refEnc_any ⟨k, s, b⟩ (by show -9223372036854775808 ≤ k; omega) (by show k ≤ 9223372036854775807; omega) hs (by show b.length ≤ _; omega) W X n (HXR.out.below h9); unfold val at h; dsimp only at h; rw [hbl] at h; exact h
              have HSA : Hid (∀ W, Below W2.heap.size W2 W → Calls Tryd.prog 9 #[.agg #[.int .i64 k, .int .u64 (s : Nat), .slice X n n]] W fun e w' => e = .returned (.bool true) ∧ Below W.heap.size W w') := fun W h9 => by have h := HSM.out W ⟨k, s, b⟩ X n (by show -9223372036854775808 ≤ k; omega) (by show k ≤ 9223372036854775807; omega) hs (by show b.length ≤ _; omega) (by show b.length ≤ _; omega) (HXR.out.below h9) (Later.trans HW2.out h9); unfold val at h; dsimp only at h; rw [hbl] at h; exact h
              obtain ⟨fo, hfo⟩ : ∃ x, x = formI ⟨k, s, b⟩ := ⟨_, rfl⟩
              have HFL : Hid (fo.length = 15 + n) := by have := formI_length (r := ⟨k, s, b⟩) (by show b.length ≤ _; omega); rw [← hfo] at this; show _ = _; rw [this, ← hbl]
              rw [← hfo] at HEN
              have HN9 : Hid (n ≤ 901) := hn
              clear hfo hW2 hg6 hX hb2 hbr hrun hrb hb1 hbz hsz HT HL HW cs hcs hbl HXR
              have a0 := HG2.out.cell 0
              have a1 := HG2.out.cell 1
              have a2 := HG2.out.cell 2
              go_wp2_with fail
              refine (HIN.out W2).mono ?_
              rintro e w3 ⟨rfl, hb3⟩
              have HT3 : Hid (Blk w3 g2 23 timesC) := HT2.out.below hb3 HT2.out.lt
              have HL3 : Hid (Blk w3 g 3 numsC) := HL2.out.below hb3 HL2.out.lt
              have HW3 : Hid (Below w.heap.size w w3) := Later.trans HW2.out hb3
              have HG3 : Hid (Blk w3 g6 27 [.int .i64 k, .int .u64 (s : Nat), .slice X n n]) := HG2.out.below hb3 HG2.out.lt
              have HU3 : Hid (Below W2.heap.size W2 w3) := hb3
              clear hb3 HT2 HL2 HW2 HG2 HIN a0 a1 a2
              go_wp2_with fail
              refine (HEN.out w3 HU3.out).mono ?_
              rintro e w4 ⟨v, rfl, ho, hb4⟩
              obtain ⟨Y, cy, rfl, hcy, hry⟩ := own_form ho
              have HCY : Hid (fo.length ≤ cy) := hcy
              have HR4 : Hid (Rd w4 Y fo) := hry
              have HT4 : Hid (Blk w4 g2 23 timesC) := HT3.out.below hb4 HT3.out.lt
              have HL4 : Hid (Blk w4 g 3 numsC) := HL3.out.below hb4 HL3.out.lt
              have HW4 : Hid (Below w.heap.size w w4) := Later.trans HW3.out hb4
              have HG4 : Hid (Blk w4 g6 27 [.int .i64 k, .int .u64 (s : Nat), .slice X n n]) := HG3.out.below hb4 HG3.out.lt
              have HU4 : Hid (Below W2.heap.size W2 w4) := Later.trans HU3.out hb4
              clear hb4 ho hcy hry HT3 HL3 HW3 HG3 HU3 HEN
              have a0 := HG4.out.cell 0
              have a1 := HG4.out.cell 1
              have a2 := HG4.out.cell 2
              go_wp2_with fail
              refine (HSA.out w4 HU4.out).mono ?_
              rintro e w5 ⟨rfl, hb5⟩
              have HT5 : Hid (Blk w5 g2 23 timesC) := HT4.out.below hb5 HT4.out.lt
              have HL5 : Hid (Blk w5 g 3 numsC) := HL4.out.below hb5 HL4.out.lt
              have HW5 : Hid (Below w.heap.size w w5) := Later.trans HW4.out hb5
              have HR5 : Hid (Rd w5 Y fo) := HR4.out.below hb5
              clear hb5 HT4 HL4 HW4 HG4 HU4 HR4 HSA a0 a1 a2
              go_wp2_with fail
              refine (HRD.out w5 Y fo cy HW5.out HR5.out HCY.out (by have := HFL.out; have := HN9.out; omega)).mono ?_
              rintro e w6 ⟨rfl, hb6⟩
              have HT6 : Hid (Blk w6 g2 23 timesC) := HT5.out.below hb6 HT5.out.lt
              have HL6 : Hid (Blk w6 g 3 numsC) := HL5.out.below hb6 HL5.out.lt
              have HW6 : Hid (Below w.heap.size w w6) := Later.trans HW5.out hb6
              have HR6 : Hid (Rd w6 Y fo) := HR5.out.below hb6
              clear hb6 HT5 HL5 HW5 HR5
              obtain ⟨m, hm⟩ : ∃ m, m = fo.length - 1 := ⟨_, rfl⟩
              have hm1 : ((fo.length : Nat) : Int) - 1 = ((m : Nat) : Int) := by have := HFL.out; omega
              have hmc : ((m : Nat) : Int) ≤ (cy : Int) := by have := HCY.out; omega
              have hfi : ((fo.length : Nat) : Int) ≤ 916 := by have := HFL.out; have := HN9.out; omega
              have hfo : (15 : Int) ≤ ((fo.length : Nat) : Int) := by have := HFL.out; omega
              have hmi : ((m : Nat) : Int) ≤ 916 := by omega
              go_wp2_with fail
              clear hm hm1 hmc hmi m
              have hy1 : (fo.take (fo.length - 1)).length = fo.length - 1 := by rw [List.length_take]; omega
              have HD := Lib.hid (HRD.out w6 Y (fo.take (fo.length - 1)) cy HW6.out (HR6.out.take _) (by rw [hy1]; have := HCY.out; omega) (by rw [hy1]; have := HFL.out; have := HN9.out; omega))
              rw [hy1] at HD
              clear hy1
              refine HD.out.mono ?_
              rintro e w7 ⟨rfl, hb7⟩
              have HT7 : Hid (Blk w7 g2 23 timesC) := HT6.out.below hb7 HT6.out.lt
              have HL7 : Hid (Blk w7 g 3 numsC) := HL6.out.below hb7 HL6.out.lt
              have HW7 : Hid (Below w.heap.size w w7) := Later.trans HW6.out hb7
              have HR7 : Hid (Rd w7 Y fo) := HR6.out.below hb7
              clear hb7 HT6 HL6 HW6 HR6 HD
              have hq1 : ((n : Nat) : Int).tdiv 2 = ((n / 2 : Nat) : Int) := by rw [Int.tdiv_eq_ediv_of_nonneg (by omega)]; rfl
              have hqc : ((n / 2 : Nat) : Int) ≤ (cy : Int) := by have := HCY.out; have := HFL.out; omega
              have hqc2 : (n : Int) / 2 ≤ (cy : Int) := by have := HCY.out; have := HFL.out; omega
              have hn9 : (n : Int) ≤ 901 := by have := HN9.out; omega
              go_wp2_with fail
              clear hq1 hqc hqc2 hn9
              have hy2 : (fo.take (n / 2)).length = n / 2 := by have := HFL.out; rw [List.length_take]; omega
              have HD := Lib.hid (HRD.out w7 Y (fo.take (n / 2)) cy HW7.out (HR7.out.take _) (by rw [hy2]; have := HCY.out; have := HFL.out; omega) (by rw [hy2]; have := HN9.out; omega))
              rw [hy2] at HD
              clear hy2
              refine HD.out.mono ?_
              rintro e w8 ⟨rfl, hb8⟩
              have HT8 : Hid (Blk w8 g2 23 timesC) := HT7.out.below hb8 HT7.out.lt
              have HL8 : Hid (Blk w8 g 3 numsC) := HL7.out.below hb8 HL7.out.lt
              have HW8 : Hid (Below w.heap.size w w8) := Later.trans HW7.out hb8
              have HR8 : Hid (Rd w8 Y fo) := HR7.out.below hb8
              clear hb8 HT7 HL7 HW7 HR7 HD
              obtain ⟨i0, hi0, hz0, hz1, hz2⟩ := info_parts Tryd.infoU8
              have HI0 := Lib.hid hi0
              have HZ0 := Lib.hid hz0
              have HZ1 := Lib.hid hz1
              have HZ2 := Lib.hid hz2
              have H0 : Hid (MAt w8.heap.size (.slice (some ⟨w8.heap.size, 0, none⟩) 0 0) [] w8 (w8.alloc (.cells #[] 5))) := MAt.empty w8
              have HXA : Hid (Rd (w8.alloc (.cells #[] 5)) Y fo) := HR8.out.below (below_new w8 _)
              clear hi0 hz0 hz1 hz2
              go_wp2_with (first
                | (at_builtin; refine wpList_append_g rfl (.tmp 58) (.tmp 59) 25 rfl w8.heap.size 5 i0 Tryd.underlying25 HI0.out HZ0.out HZ1.out HZ2.out _ 0 [] rfl H0.out.1 Y fo fo.length cy rfl rfl HXA.out (by omega) (by rw [World.size_alloc]; omega) ?_; intro v1 w9 HO1 HG1; have H1 : Hid (MAt w8.heap.size v1 fo w8 w9) := H0.out.push (Below.refl _ _) HO1.out HG1.out)
                | (at_builtin; refine wpList_append_g rfl (.tmp 60) (.tmp 61) 25 rfl w8.heap.size 5 i0 Tryd.underlying25 HI0.out HZ0.out HZ1.out HZ2.out v1 fo.length (Lib.byteCells fo) rfl (H1.out.own (below_new w9 _)) (some ⟨w9.heap.size, 0, none⟩) [9] 1 1 rfl rfl (rd_new w9 9 9 _ rfl) (by simp; omega) (by rw [World.size_alloc]; have := H1.out.2.1.size; omega) ?_; intro v2 w10 HO2 HG2; have H2 : Hid (MAt w8.heap.size v2 (fo ++ [9]) w8 w10) := H1.out.push (below_new w9 _) HO2.out HG2.out; obtain ⟨Z, cz, ez, hcz, hrz⟩ := own_form H2.out.1; subst ez; have hbz := H2.out.2.1; clear H2))
              have HRZ := Lib.hid hrz
              have HT10 : Hid (Blk w10 g2 23 timesC) := HT8.out.below hbz HT8.out.lt
              have HL10 : Hid (Blk w10 g 3 numsC) := HL8.out.below hbz HL8.out.lt
              have HW10 : Hid (Below w.heap.size w w10) := Later.trans HW8.out hbz
              clear HO1 HG1 HO2 HG2 H1 H0 HXA HI0 HZ0 HZ1 HZ2 hrz hbz HT8 HL8 HW8 HR8
              obtain ⟨z, hz⟩ : ∃ z, z = fo ++ [(9 : UInt8)] := ⟨_, rfl⟩
              have hzl : fo.length + 1 = z.length := by rw [hz]; simp
              rw [← hz] at HRZ hcz
              rw [hzl]
              refine (HRD.out w10 Z z cz HW10.out HRZ.out hcz (by omega)).mono ?_
              rintro e w11 ⟨rfl, hb11⟩
              have HT11 : Hid (Blk w11 g2 23 timesC) := HT10.out.below hb11 HT10.out.lt
              have HL11 : Hid (Blk w11 g 3 numsC) := HL10.out.below hb11 HL10.out.lt
              have HW11 : Hid (Below w.heap.size w w11) := Later.trans HW10.out hb11
              clear hb11 HT10 HL10 HW10 HRZ hz hzl hcz hfi hfo
              go_wp2_with fail
              go_roundw
              case rel => exact ⟨i + 1, by omega, by simp, HT11.out, HL11.out, HW11.out⟩
              case measure => simp [intOf]; omega
            · obtain rfl : i = 5 := by omega
              clear HT
              go_wp2_with fail
              go_roundw
              case rel => exact ⟨j + 1, by omega, by simp, HL.out, HW.out⟩
              case measure => simp [intOf]; omega
        · obtain rfl : j = 5 := by omega
          clear HL
          go_wp2_with fail
          go_roundw
          case rel => exact ⟨k + 1, by omega, by omega, rfl, HW.out⟩
          case measure => simp [intOf]; omega
    · obtain rfl : k = 5 := by omega
      go_wp2_with fail
      refine (HRD.out wr none [] 0 HW.out (Rd.nil _ _) (Nat.le_refl _) (by simp)).mono ?_
      rintro e w1 ⟨rfl, hb1⟩
      have HW1 : Hid (Below w.heap.size w w1) := Later.trans HW.out hb1
      clear hb1 HW
      have HR2 : Hid (Rd (w1.alloc (.cells #[.int .u8 0] 5)) (some ⟨w1.heap.size, 0, none⟩) [0]) := rd_new w1 0 0 _ rfl
      have HW2 : Hid (Below w.heap.size w (w1.alloc (.cells #[.int .u8 0] 5))) := Later.trans HW1.out (below_new w1 _)
      go_wp2_with fail
      refine (HRD.out _ _ [0] 1 HW2.out HR2.out (Nat.le_refl _) (by simp)).mono ?_
      rintro e w3 ⟨rfl, hb3⟩
      have HW3 : Hid (Below w.heap.size w w3) := Later.trans HW2.out hb3
      clear hb3 HW1 HW2 HR2
      have HR4 : Hid (Rd (w3.alloc (.cells #[.int .u8 1] 5)) (some ⟨w3.heap.size, 0, none⟩) [1]) := rd_new w3 1 1 _ rfl
      have HW4 : Hid (Below w.heap.size w (w3.alloc (.cells #[.int .u8 1] 5))) := Later.trans HW3.out (below_new w3 _)
      go_wp2_with fail
      refine (HRD.out _ _ [1] 1 HW4.out HR4.out (Nat.le_refl _) (by simp)).mono ?_
      rintro e w5 ⟨rfl, hb5⟩
      have HW5 : Hid (Below w.heap.size w w5) := Later.trans HW4.out hb5
      clear hb5 HW3 HW4 HR4
      go_wp2_with fail
      refine (HKN.out w5 HW5.out).mono ?_
      rintro e w6 ⟨rfl, hb6⟩
      have HW6 : Hid (Below w.heap.size w w6) := Later.trans HW5.out hb6
      clear hb6
      go_wp2_with fail
      go_ret
      exact ⟨rfl, HW6.out⟩
end Re
end Go.Proofs.YtmcbpgbiephllaaDoor

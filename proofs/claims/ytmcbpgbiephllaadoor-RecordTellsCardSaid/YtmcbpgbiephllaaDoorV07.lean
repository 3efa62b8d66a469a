/-
  OWN WORK. ReLaw, ReApp, ReTells
-/
import Derived.Test.YtmcbpgbiephllaaDoorV06
import Derived.Test.YtmcbpgbiephllaaDoorV04
import Derived.Test.YtmcbpgbiephllaaDoorV01

namespace Go.Proofs.YtmcbpgbiephllaaDoor
open Go.RowKit Rc
namespace Re
set_option maxHeartbeats 1000000 in
set_option maxRecDepth 100000 in
theorem re_refSize_any (r : Rec) (A : Option Addr) (c : Nat) (w : World) : Calls Tryd.prog 24 #[val r A c] w fun e w' => e = .returned (.int .i64 (size r : Nat)) ∧ Below w.heap.size w w' := by
  obtain ⟨k, q, b⟩ := r
  have HRT : Hid (∀ W, Calls Tryd.prog 22 #[.agg #[.int .i64 k, .int .u64 (q : Nat), .slice A b.length c]] W fun e w' => e = .returned (.bool (decide (Right ⟨k, q, b⟩))) ∧ Below W.heap.size W w') := fun W => re_refRight_any ⟨k, q, b⟩ A c W
  obtain ⟨z, hz⟩ : ∃ z, z = size ⟨k, q, b⟩ := ⟨_, rfl⟩
  have HNO : Hid (¬ Right ⟨k, q, b⟩ → z = 0) := fun h => hz.trans (if_neg h)
  have HYES : Hid (Right ⟨k, q, b⟩ → z = 15 + b.length ∧ b.length ≤ 900) := fun h => ⟨hz.trans (if_pos h), right_len h⟩
  rw [← hz]
  clear hz
  unfold val
  dsimp only
  obtain ⟨W0, hW0⟩ : ∃ W0, W0 = w.alloc (.cells #[.int .i64 k, .int .u64 (q : Nat), .slice A b.length c] 29) := ⟨_, rfl⟩
  obtain ⟨g, hg⟩ : ∃ g, g = w.heap.size := ⟨_, rfl⟩
  have HB0 : Hid (Blk W0 g 29 [.int .i64 k, .int .u64 (q : Nat), .slice A b.length c]) := by show Blk _ _ _ _; rw [hW0, hg]; exact Blk.new w _ _
  have HBW : Hid (Below w.heap.size w W0) := by show Below _ _ _; rw [hW0]; exact below_new w _
  go_enter Tryd.func24, Tryd.ntmps24
  go_upto_region 1 with (fail)
  rw [← hW0, ← hg]
  clear hW0 hg
  have c0 := HB0.out.cell 0
  have c1 := HB0.out.cell 1
  have c2 := HB0.out.cell 2
  go_wp2_with fail
  refine (HRT.out W0).mono ?_
  rintro e w1 ⟨rfl, hb1⟩
  have HB1 : Hid (Blk w1 g 29 [.int .i64 k, .int .u64 (q : Nat), .slice A b.length c]) := HB0.out.below hb1 HB0.out.lt
  have HBW1 : Hid (Below w.heap.size w w1) := Later.trans HBW.out hb1
  clear hb1 c0 c1 c2 HB0 HBW
  by_cases hri : Right ⟨k, q, b⟩
  · rw [decide_eq_true hri]
    obtain ⟨e1, e2⟩ := HYES.out hri
    have HZ := Lib.hid e1
    clear hri HYES HNO e1
    have c2 := HB1.out.cell 2
    go_wp2_with fail
    go_ret
    refine ⟨congrArg (fun n => Ending.returned (Value.int .i64 n)) ?_, HBW1.out⟩
    have := HZ.out
    omega
  · rw [decide_eq_false hri]
    have HZ := Lib.hid (HNO.out hri)
    clear hri HYES HNO
    go_wp2_with fail
    go_ret
    refine ⟨congrArg (fun n => Ending.returned (Value.int .i64 n)) ?_, HBW1.out⟩
    rw [HZ.out]
    rfl
theorem dec_nil : dec [] = (zero, 0, 10) := by kernel_rfl
set_option maxHeartbeats 2000000 in
set_option maxRecDepth 100000 in
theorem re_known_any (hS : SumSaid) (w : World) (hE : Env w) : Calls Tryd.prog 11 #[] w fun e w' => e = .returned (.bool true) ∧ Below w.heap.size w w' := by
  have HD := Lib.hid (re_decode_any hS w none [] 0 (Rd.nil _ _) (Nat.le_refl _) (by simp) hE)
  unfold DAns at HD
  rw [dec_nil] at HD
  have HSZ : Hid (∀ W, Calls Tryd.prog 16 #[.agg #[.int .i64 2, .int .u64 1, .slice none 0 0]] W fun e w' => e = .returned (.int .i64 (15 : Nat)) ∧ Below W.heap.size W w') := fun W => re_size_any ⟨2, 1, []⟩ none 0 W
  clear hS hE
  go_enter Tryd.func11, Tryd.ntmps11
  go_wp2_with fail
  refine HD.out.mono ?_
  rintro e w1 ⟨X, c, rfl, _, _, hb1⟩
  have HB1 := Lib.hid hb1
  clear hb1 HD
  unfold val zero
  dsimp only
  go_wp2_with fail
  refine (HSZ.out _).mono ?_
  rintro e w3 ⟨rfl, hb3⟩
  have HB3 : Hid (Below w.heap.size w w3) := Later.trans (Later.trans HB1.out (below_new _ _)) hb3
  clear hb3 HB1 HSZ
  go_wp2_with fail
  go_ret
  exact ⟨rfl, HB3.out⟩
theorem re_in_any (r : Rec) (A : Option Addr) (c : Nat) (w : World) : Calls Tryd.prog 8 #[val r A c] w fun e w' => e = .returned (val r A c) ∧ Below w.heap.size w w' := by
  obtain ⟨k, q, b⟩ := r
  unfold val
  dsimp only
  obtain ⟨W0, hW0⟩ : ∃ W0, W0 = w.alloc (.cells #[.int .i64 k, .int .u64 (q : Nat), .slice A b.length c] 27) := ⟨_, rfl⟩
  have hb0 : Below w.heap.size w W0 := by rw [hW0]; exact below_new w _
  obtain ⟨W1, hW1⟩ : ∃ W1, W1 = W0.alloc (.cells #[.int .i64 0, .int .u64 0, .slice none 0 0] 29) := ⟨_, rfl⟩
  have hb1 : Below W0.heap.size W0 W1 := by rw [hW1]; exact below_new W0 _
  obtain ⟨g, hg⟩ : ∃ g, g = w.heap.size := ⟨_, rfl⟩
  have hs0 : W0.heap.size = g + 1 := by rw [hW0, World.size_alloc, hg]
  have HZ : Hid (Blk W1 (g + 1) 29 [.int .i64 0, .int .u64 0, .slice none 0 0]) := by show Blk _ _ _ _; rw [hW1, ← hs0]; exact Blk.new W0 _ _
  have HR : Hid (Blk W1 g 27 [.int .i64 k, .int .u64 (q : Nat), .slice A b.length c]) := by
    have : Blk W0 g 27 [.int .i64 k, .int .u64 (q : Nat), .slice A b.length c] := by rw [hW0, hg]; exact Blk.new w _ _
    exact this.below hb1 this.lt
  have HB : Hid (Below w.heap.size w W1) := Later.trans hb0 hb1
  have HGG : Hid (w.heap.size = g) := hg.symm
  clear hb0 hb1
  go_enter Tryd.func8, Tryd.ntmps8
  go_upto_region 1 with (fail)
  rw [← hW0, ← hg, ← hW1]
  clear hW0 hg hW1 hs0
  have c0 := HR.out.cell 0
  have c1 := HR.out.cell 1
  have c2 := HR.out.cell 2
  have r0 := HZ.out.cell 0
  have r1 := HZ.out.cell 1
  have r2 := HZ.out.cell 2
  have f0 := HZ.out.frozen 0
  have f1 := HZ.out.frozen 1
  have f2 := HZ.out.frozen 2
  go_wp2_with fail
  refine bodyPost_ret (results_blk1 rfl _ _ (g + 1) 29 _ _ rfl (set3_blk HZ.out _ _ _) rfl rfl rfl) rfl ?_
  exact ⟨rfl, below_keeps HB.out (set3_keeps _ _ _ _ _) (by have := HGG.out; omega) HB.out.size⟩
set_option maxHeartbeats 4000000 in
set_option maxRecDepth 100000 in
theorem re_read_any (hS : SumSaid) (w : World) (A : Option Addr) (L : List UInt8) (cap : Nat) (hr : Rd w A L) (hc : L.length ≤ cap) (hl : L.length ≤ 65550) (hE : Env w) :
    Calls Tryd.prog 10 #[.slice A L.length cap] w fun e w' => e = .returned (.bool true) ∧ Below w.heap.size w w' := by
  obtain ⟨⟨⟨k, q, b⟩, n, m⟩, hD⟩ : ∃ D, D = dec L := ⟨_, rfl⟩
  have HD1 := Lib.hid (re_decode_any hS w A L cap hr hc hl hE)
  unfold DAns at HD1
  rw [← hD] at HD1
  have HD2 : Hid (∀ W, Below w.heap.size w W → Calls Tryd.prog 25 #[.slice A L.length cap] W (DAns2 (⟨k, q, b⟩, n, m) W)) := fun W hb => by
    have := re_refDec_any W A L cap (hr.below hb) hc hl
    unfold DAns at this
    rwa [← hD] at this
  clear hS hr hc hl hE hD
  go_enter Tryd.func10, Tryd.ntmps10
  go_wp2_with fail
  refine HD1.out.mono ?_
  rintro e w1 ⟨X, c, rfl, _, hx1, hb1⟩
  unfold val
  dsimp only at hx1 ⊢
  obtain ⟨W2, hW2⟩ : ∃ W, W = w1.alloc (.cells #[.int .i64 k, .int .u64 (q : Nat), .slice X b.length c] 27) := ⟨_, rfl⟩
  obtain ⟨g1, hg1⟩ : ∃ g, g = w1.heap.size := ⟨_, rfl⟩
  have hbw2 : Below w1.heap.size w1 W2 := by rw [hW2]; exact below_new w1 _
  have HG2 : Hid (Blk W2 g1 27 [.int .i64 k, .int .u64 (q : Nat), .slice X b.length c]) := by show Blk _ _ _ _; rw [hW2, hg1]; exact Blk.new w1 _ _
  have HB2 : Hid (Below w.heap.size w W2) := Later.trans hb1 hbw2
  have HX2 : Hid (Rd W2 X b) := hx1.below hbw2
  clear hx1 hb1 hbw2 HD1
  go_upto_region 2 with (fail)
  rw [← hW2, ← hg1]
  clear hW2 hg1
  go_wp2_with fail
  refine (HD2.out W2 HB2.out).mono ?_
  rintro e w3 ⟨Y, c2, rfl, _, hy3, hb3⟩
  unfold val
  dsimp only at hy3 ⊢
  obtain ⟨W4, hW4⟩ : ∃ W, W = w3.alloc (.cells #[.int .i64 k, .int .u64 (q : Nat), .slice Y b.length c2] 29) := ⟨_, rfl⟩
  obtain ⟨g2, hg2⟩ : ∃ g, g = w3.heap.size := ⟨_, rfl⟩
  have hbw4 : Below w3.heap.size w3 W4 := by rw [hW4]; exact below_new w3 _
  have HG4 : Hid (Blk W4 g2 29 [.int .i64 k, .int .u64 (q : Nat), .slice Y b.length c2]) := by show Blk _ _ _ _; rw [hW4, hg2]; exact Blk.new w3 _ _
  have HB4 : Hid (Below w.heap.size w W4) := Later.trans (Later.trans HB2.out hb3) hbw4
  have HX4 : Hid (Rd W4 X b) := (HX2.out.below hb3).below hbw4
  have HY4 : Hid (Rd W4 Y b) := hy3.below hbw4
  have HF4 : Hid (Blk W4 g1 27 [.int .i64 k, .int .u64 (q : Nat), .slice X b.length c]) := by
    have h1 := HG2.out.below hb3 HG2.out.lt
    exact h1.below hbw4 h1.lt
  clear hy3 hb3 hbw4 HB2 HX2 HG2 HD2
  go_upto_region 3 with (fail)
  rw [← hW4, ← hg2]
  clear hW4 hg2
  have c0 := HF4.out.cell 0
  have c1 := HF4.out.cell 1
  have e2 := HF4.out.cell 2
  have d0 := HG4.out.cell 0
  have d1 := HG4.out.cell 1
  have d2 := HG4.out.cell 2
  have s1 := str_any W4 X b c HX4.out
  have s2 := str_any W4 Y b c2 HY4.out
  go_wp2_with fail
  go_ret
  exact ⟨by simp, HB4.out⟩
set_option maxHeartbeats 4000000 in
set_option maxRecDepth 100000 in
theorem re_same_any (C : WSaid) (hS : SumSaid) (r : Rec) (hk0 : -9223372036854775808 ≤ r.kind) (hk1 : r.kind ≤ 9223372036854775807) (hq : r.seq ≤ 18446744073709551615) (hb : r.body.length ≤ 65535) (w : World) (A : Option Addr) (c : Nat) (hc : r.body.length ≤ c) (hr : Rd w A r.body) (hE : Env w) :
    Calls Tryd.prog 9 #[val r A c] w fun e w' => e = .returned (.bool true) ∧ Below w.heap.size w w' := by
  obtain ⟨k, q, b⟩ := r
  dsimp only at hk0 hk1 hq hb hc hr
  have HENC : Hid (∀ W, Below w.heap.size w W → Calls Tryd.prog 14 #[.agg #[.int .i64 k, .int .u64 (q : Nat), .slice A b.length c]] W (EAns (enc ⟨k, q, b⟩).1 (enc ⟨k, q, b⟩).2 W)) := fun W hb => re_encode_any C hS ⟨k, q, b⟩ W A c hc (hr.below hb) (hE.under hb hE.pos)
  have HIN : Hid (∀ W, Calls Tryd.prog 8 #[.agg #[.int .i64 k, .int .u64 (q : Nat), .slice A b.length c]] W fun e w' => e = .returned (.agg #[.int .i64 k, .int .u64 (q : Nat), .slice A b.length c]) ∧ Below W.heap.size W w') := fun W => re_in_any ⟨k, q, b⟩ A c W
  have HRT : Hid (∀ W, Calls Tryd.prog 23 #[.agg #[.int .i64 k, .int .u64 (q : Nat), .slice A b.length c]] W fun e w' => e = .returned (.bool (decide (Right ⟨k, q, b⟩))) ∧ Below W.heap.size W w') := fun W => re_right_any ⟨k, q, b⟩ A c W
  have HRR : Hid (∀ W, Calls Tryd.prog 22 #[.agg #[.int .i64 k, .int .u64 (q : Nat), .slice A b.length c]] W fun e w' => e = .returned (.bool (decide (Right ⟨k, q, b⟩))) ∧ Below W.heap.size W w') := fun W => re_refRight_any ⟨k, q, b⟩ A c W
  obtain ⟨z, hz⟩ : ∃ z, z = size ⟨k, q, b⟩ := ⟨_, rfl⟩
  have HSZ : Hid (∀ W, Calls Tryd.prog 16 #[.agg #[.int .i64 k, .int .u64 (q : Nat), .slice A b.length c]] W fun e w' => e = .returned (.int .i64 (z : Nat)) ∧ Below W.heap.size W w') := fun W => by rw [hz]; exact re_size_any ⟨k, q, b⟩ A c W
  have HRZ : Hid (∀ W, Calls Tryd.prog 24 #[.agg #[.int .i64 k, .int .u64 (q : Nat), .slice A b.length c]] W fun e w' => e = .returned (.int .i64 (z : Nat)) ∧ Below W.heap.size W w') := fun W => by rw [hz]; exact re_refSize_any ⟨k, q, b⟩ A c W
  have HREN : Hid (∀ W, Below w.heap.size w W → Calls Tryd.prog 7 #[.agg #[.int .i64 k, .int .u64 (q : Nat), .slice A b.length c]] W fun e w' => ∃ v, e = .returned v ∧ w'.ownsRow W.heap.size 5 1 v (formI ⟨k, q, b⟩).length (Lib.byteCells (formI ⟨k, q, b⟩)) ∧ Below W.heap.size W w') := fun W hb9 => re_refEnc_any ⟨k, q, b⟩ hk0 hk1 hq hb W A c (hr.below hb9)
  have HZN : Hid (¬ Right ⟨k, q, b⟩ → z = 0) := fun h => hz.trans (if_neg h)
  obtain ⟨en, hen⟩ : ∃ x, x = enc ⟨k, q, b⟩ := ⟨_, rfl⟩
  have HNO : Hid (¬ Right ⟨k, q, b⟩ → en = ([], 12)) := fun h => hen.trans (if_neg h)
  have HYES : Hid (Right ⟨k, q, b⟩ → en = (form ⟨k, q, b⟩, 0)) := fun h => hen.trans (if_pos h)
  rw [← hen] at HENC
  have HFI : Hid (Right ⟨k, q, b⟩ → formI ⟨k, q, b⟩ = form ⟨k, q, b⟩) := fun h => formI_is _ h
  clear hz hen hk0 hk1 hq hb hc hr hE hS
  unfold val
  dsimp only
  obtain ⟨W0, hW0⟩ : ∃ W0, W0 = w.alloc (.cells #[.int .i64 k, .int .u64 (q : Nat), .slice A b.length c] 27) := ⟨_, rfl⟩
  obtain ⟨g, hg⟩ : ∃ g, g = w.heap.size := ⟨_, rfl⟩
  have HB0 : Hid (Blk W0 g 27 [.int .i64 k, .int .u64 (q : Nat), .slice A b.length c]) := by show Blk _ _ _ _; rw [hW0, hg]; exact Blk.new w _ _
  have HBW : Hid (Below w.heap.size w W0) := by show Below _ _ _; rw [hW0]; exact below_new w _
  go_enter Tryd.func9, Tryd.ntmps9
  go_upto_region 1 with (fail)
  rw [← hW0, ← hg]
  clear hW0 hg
  have c0 := HB0.out.cell 0
  have c1 := HB0.out.cell 1
  have c2 := HB0.out.cell 2
  go_wp2_with fail
  refine (HENC.out W0 HBW.out).mono ?_
  rintro e w1 ⟨X, cx, rfl, hcx, hx1, hb1⟩
  have HB1 : Hid (Blk w1 g 27 [.int .i64 k, .int .u64 (q : Nat), .slice A b.length c]) := HB0.out.below hb1 HB0.out.lt
  have HBW1 : Hid (Below w.heap.size w w1) := Later.trans HBW.out hb1
  have HX1 := Lib.hid hx1
  clear hb1 hx1 hcx c0 c1 c2 HB0 HBW HENC
  have c0 := HB1.out.cell 0
  have c1 := HB1.out.cell 1
  have c2 := HB1.out.cell 2
  go_wp2_with fail
  refine (HIN.out w1).mono ?_
  rintro e w2 ⟨rfl, hb2⟩
  obtain ⟨W3, hW3⟩ : ∃ W, W = w2.alloc (.cells #[.int .i64 k, .int .u64 (q : Nat), .slice A b.length c] 29) := ⟨_, rfl⟩
  obtain ⟨gw, hgw⟩ : ∃ g, g = w2.heap.size := ⟨_, rfl⟩
  have hbw3 : Below w1.heap.size w1 W3 := Later.trans hb2 (by rw [hW3]; exact below_new w2 _)
  have HG3 : Hid (Blk W3 gw 29 [.int .i64 k, .int .u64 (q : Nat), .slice A b.length c]) := by show Blk _ _ _ _; rw [hW3, hgw]; exact Blk.new w2 _ _
  have HB3 : Hid (Blk W3 g 27 [.int .i64 k, .int .u64 (q : Nat), .slice A b.length c]) := HB1.out.below hbw3 HB1.out.lt
  have HBW3 : Hid (Below w.heap.size w W3) := Later.trans HBW1.out hbw3
  have HX3 : Hid (Rd W3 X en.1) := HX1.out.below hbw3
  go_upto_region 3 with (fail)
  rw [← hW3, ← hgw]
  clear hb2 hbw3 hW3 hgw c0 c1 c2 HB1 HBW1 HX1 HIN
  have d0 := HG3.out.cell 0
  have d1 := HG3.out.cell 1
  have d2 := HG3.out.cell 2
  go_wp2_with fail
  refine (HRR.out W3).mono ?_
  rintro e w4 ⟨rfl, hb4⟩
  have HG4 : Hid (Blk w4 gw 29 [.int .i64 k, .int .u64 (q : Nat), .slice A b.length c]) := HG3.out.below hb4 HG3.out.lt
  have HB4 : Hid (Blk w4 g 27 [.int .i64 k, .int .u64 (q : Nat), .slice A b.length c]) := HB3.out.below hb4 HB3.out.lt
  have HBW4 : Hid (Below w.heap.size w w4) := Later.trans HBW3.out hb4
  have HX4 : Hid (Rd w4 X en.1) := HX3.out.below hb4
  clear hb4 d0 d1 d2 HG3 HB3 HBW3 HX3 HRR
  by_cases hri : Right ⟨k, q, b⟩
  · rw [decide_eq_true hri] at HRT ⊢
    obtain ⟨fo, hfo⟩ : ∃ x, x = form ⟨k, q, b⟩ := ⟨_, rfl⟩
    have hfi := HFI.out hri
    rw [← hfo] at hfi HYES
    rw [hfi] at HREN
    obtain rfl : en = (fo, 0) := HYES.out hri
    dsimp only at HX4
    have HSQ : Hid (((strOf fo).toList == (strOf fo).toList) = true) := by show _ = _; simp
    clear hri hfo hfi HFI HYES HNO HZN
    go_upto_region 5 with (fail)
    refine Rc.wp_region (by kernel_rfl) (fun opn => List.getD [Rc.val (.slice X fo.length cx), Rc.val (.string (strOf (fo))), Rc.val (.agg #[.int .i64 k, .int .u64 (q : Nat), .slice A b.length c]), Ob.frow (fo), Rc.val (.string (strOf (fo))), Rc.val (.bool true), Rc.val (.bool true), Rc.val (.int .i64 0), Rc.val (.bool true), Rc.val (.bool true), Rc.val (.bool true), Rc.val (.agg #[.int .i64 k, .int .u64 (q : Nat), .slice A b.length c]), Rc.val (.bool true), Rc.val (.bool true), Rc.val (.bool true), Rc.val (.agg #[.int .i64 k, .int .u64 (q : Nat), .slice A b.length c]), Rc.val (.int .i64 (z : Nat)), Rc.val (.agg #[.int .i64 k, .int .u64 (q : Nat), .slice A b.length c]), Rc.val (.int .i64 (z : Nat)), Rc.val (.bool true), Rc.val (.bool true), Rc.val (.bool true)] opn Rc.any) 0 [] [[], [(0, 33)], [], [(2, 35)], [(3, 36)], [(1, 34), (4, 37)], [(5, 38)], [(6, 39)], [(6, 39), (7, 40)], [(6, 39), (8, 41)], [(9, 42)], [(10, 43)], [(10, 43), (11, 44)], [(10, 43), (12, 45)], [(13, 46)], [(14, 47)], [(14, 47), (15, 48)], [(14, 47)], [(14, 47), (17, 50)], [(14, 47), (16, 49), (18, 51)], [(14, 47), (19, 52)], [(20, 53)]] [[], [0], [], [2], [3], [1, 4], [5], [6], [6, 7], [6, 8], [9], [10], [10, 11], [10, 12], [13], [14], [14, 15], [14], [14, 17], [14, 16, 18], [14, 19], [20]] [[], [0], [], [2], [3], [1, 4], [5], [6], [6, 7], [6, 8], [9], [10], [10, 11], [10, 12], [13], [14], [14, 15], [14], [14, 17], [14, 16, 18], [14, 19], [20]] [] (by kernel_rfl) (by rfl) (by kernel_rfl) (fun _ => False) (fun _ _ => False) Rc.Inv.none ?_ ?_
    · intro fr ha
      have hz : fr.tmps.size = 54 := by rw [ha]; rfl
      have y1 : fr.eval (.tmp 1) = .pointer (some ⟨g, 0, none⟩) := by rw [ha]; rfl
      have y5 : fr.eval (.tmp 5) = .pointer (some ⟨gw, 0, none⟩) := by rw [ha]; rfl
      have y3 : fr.eval (.tmp 3) = .slice X fo.length cx := by rw [ha]; rfl
      have y4 : fr.eval (.tmp 4) = .int .i64 0 := by rw [ha]; rfl
      clear ha
      refine .cons ?_ (.cons ?_ (.cons ?_ (.cons ?_ (.cons ?_ (.cons ?_ (.cons ?_ (.cons ?_ (.cons ?_ (.cons ?_ (.cons ?_ (.cons ?_ (.cons ?_ (.cons ?_ (.cons ?_ (.cons ?_ (.cons ?_ (.cons ?_ (.cons ?_ (.cons ?_ (.cons ?_ (.cons ?_ (.nil))))))))))))))))))))))
      · intro V S w2 HM HU HE
        have lw : Below w4.heap.size w4 w2 := Rc.Mod.below HM (fun _ h => h.elim)
        have tb3 : (Rg.putUse V [] fr).eval (.tmp 3) = .slice X fo.length cx := (Rg.use_eval V fr 3 [] (by simp only [hz]; decide)).trans y3
        show Rg.Does1 _ _ V (Rg.putUse V [] fr) w2 _
        exact Ob.rc_mv (.slice X fo.length cx) (by simp only [execOp, tb3]; go_simp) rfl rfl True.intro
      · intro V S w2 HM HU HE
        have lw : Below w4.heap.size w4 w2 := Rc.Mod.below HM (fun _ h => h.elim)
        have h0 : V 0 = .slice X fo.length cx := HU.holds 0 (by decide)
        have tb33 : (Rg.putUse V [(0, 33)] fr).eval (.tmp 33) = .slice X fo.length cx := (Rg.use_eval V fr 33 [(0, 33)] (by simp only [hz]; decide)).trans h0
        show Rg.Does1 _ _ V (Rg.putUse V [(0, 33)] fr) w2 _
        exact Ob.rc_str (fo) rfl tb33 (by first | rfl | simp) (HX4.out.below lw) rfl rfl True.intro
      · intro V S w2 HM HU HE
        have lw : Below w4.heap.size w4 w2 := Rc.Mod.below HM (fun _ h => h.elim)
        have tb5 : (Rg.putUse V [] fr).eval (.tmp 5) = .pointer (some ⟨gw, 0, none⟩) := (Rg.use_eval V fr 5 [] (by simp only [hz]; decide)).trans y5
        show Rg.Does1 _ _ V (Rg.putUse V [] fr) w2 _
        have cl0 := (lw.cell (p := ⟨gw, 0, none⟩) HG4.out.lt).trans (HG4.out.cell 0)
        have cl1 := (lw.cell (p := ⟨gw, 1, none⟩) HG4.out.lt).trans (HG4.out.cell 1)
        have cl2 := (lw.cell (p := ⟨gw, 2, none⟩) HG4.out.lt).trans (HG4.out.cell 2)
        exact Ob.rc_mv (.agg #[.int .i64 k, .int .u64 (q : Nat), .slice A b.length c]) (by simp only [execOp, tb5]; go_simp) rfl rfl True.intro
      · intro V S w2 HM HU HE
        have lw : Below w4.heap.size w4 w2 := Rc.Mod.below HM (fun _ h => h.elim)
        have h2 : V 2 = .agg #[.int .i64 k, .int .u64 (q : Nat), .slice A b.length c] := HU.holds 2 (by decide)
        have tb35 : (Rg.putUse V [(2, 35)] fr).eval (.tmp 35) = .agg #[.int .i64 k, .int .u64 (q : Nat), .slice A b.length c] := (Rg.use_eval V fr 35 [(2, 35)] (by simp only [hz]; decide)).trans h2
        show Rg.Does1 _ _ V (Rg.putUse V [(2, 35)] fr) w2 _
        exact Ob.step_frow (fo) #[.agg #[.int .i64 k, .int .u64 (q : Nat), .slice A b.length c]] (fun args w => Rg.call_enter Tryd.func7 (by kernel_rfl) (by kernel_rfl) args w) rfl (by simp only [List.map_toArray, List.map_cons, List.map_nil, tb35]) rfl (fun x => Rg.alias_none rfl V x) True.intro (HREN.out w2 (Later.trans HBW4.out lw))
      · intro V S w2 HM HU HE
        have lw : Below w4.heap.size w4 w2 := Rc.Mod.below HM (fun _ h => h.elim)
        obtain ⟨X3, k3, e3, hc3, hr3, hX3⟩ := HU.holds 3 (by decide)
        have tb36 : (Rg.putUse V [(3, 36)] fr).eval (.tmp 36) = .slice X3 (fo).length k3 := (Rg.use_eval V fr 36 [(3, 36)] (by simp only [hz]; decide)).trans e3
        show Rg.Does1 _ _ V (Rg.putUse V [(3, 36)] fr) w2 _
        exact Ob.rc_str (fo) rfl tb36 (by first | rfl | simp) hr3 rfl rfl True.intro
      · intro V S w2 HM HU HE
        have lw : Below w4.heap.size w4 w2 := Rc.Mod.below HM (fun _ h => h.elim)
        have h1 : V 1 = .string (strOf (fo)) := HU.holds 1 (by decide)
        have tb34 : (Rg.putUse V [(1, 34), (4, 37)] fr).eval (.tmp 34) = .string (strOf (fo)) := (Rg.use_eval V fr 34 [(1, 34), (4, 37)] (by simp only [hz]; decide)).trans h1
        have h4 : V 4 = .string (strOf (fo)) := HU.holds 4 (by decide)
        have tb37 : (Rg.putUse V [(1, 34), (4, 37)] fr).eval (.tmp 37) = .string (strOf (fo)) := (Rg.use_eval V fr 37 [(1, 34), (4, 37)] (by simp only [hz]; decide)).trans h4
        show Rg.Does1 _ _ V (Rg.putUse V [(1, 34), (4, 37)] fr) w2 _
        have hsq := HSQ.out
        exact Ob.rc_mv (.bool true) (by simp only [execOp, tb34, tb37]; go_simp) rfl rfl True.intro
      · intro V S w2 HM HU HE
        have lw : Below w4.heap.size w4 w2 := Rc.Mod.below HM (fun _ h => h.elim)
        have h5 : V 5 = .bool true := HU.holds 5 (by decide)
        have tb38 : (Rg.putUse V [(5, 38)] fr).eval (.tmp 38) = .bool true := (Rg.use_eval V fr 38 [(5, 38)] (by simp only [hz]; decide)).trans h5
        show Rg.Does1 _ _ V (Rg.putUse V [(5, 38)] fr) w2 _
        exact Ob.rc_mv (.bool true) (by simp only [execOp, tb38]; go_simp) rfl rfl True.intro
      · intro V S w2 HM HU HE
        have lw : Below w4.heap.size w4 w2 := Rc.Mod.below HM (fun _ h => h.elim)
        have h6 : V 6 = .bool true := HU.holds 6 (by decide)
        have tb4 : (Rg.putUse V [(6, 39)] fr).eval (.tmp 4) = .int .i64 0 := (Rg.use_eval V fr 4 [(6, 39)] (by simp only [hz]; decide)).trans y4
        show Rg.Does1 _ _ V (Rg.putUse V [(6, 39)] fr) w2 _
        exact Ob.rc_mv (.int .i64 0) (by simp only [execOp, tb4]; go_simp) rfl rfl h6
      · intro V S w2 HM HU HE
        have lw : Below w4.heap.size w4 w2 := Rc.Mod.below HM (fun _ h => h.elim)
        have h6 : V 6 = .bool true := HU.holds 6 (by decide)
        have h7 : V 7 = .int .i64 0 := HU.holds 7 (by decide)
        have tb40 : (Rg.putUse V [(6, 39), (7, 40)] fr).eval (.tmp 40) = .int .i64 0 := (Rg.use_eval V fr 40 [(6, 39), (7, 40)] (by simp only [hz]; decide)).trans h7
        show Rg.Does1 _ _ V (Rg.putUse V [(6, 39), (7, 40)] fr) w2 _
        exact Ob.rc_mv (.bool true) (by simp only [execOp, tb40]; go_simp) rfl rfl h6
      · intro V S w2 HM HU HE
        have lw : Below w4.heap.size w4 w2 := Rc.Mod.below HM (fun _ h => h.elim)
        have h6 : V 6 = .bool true := HU.holds 6 (by decide)
        have tb39 : (Rg.putUse V [(6, 39), (8, 41)] fr).eval (.tmp 39) = .bool true := (Rg.use_eval V fr 39 [(6, 39), (8, 41)] (by simp only [hz]; decide)).trans h6
        have h8 : V 8 = .bool true := HU.holds 8 (by decide)
        have tb41 : (Rg.putUse V [(6, 39), (8, 41)] fr).eval (.tmp 41) = .bool true := (Rg.use_eval V fr 41 [(6, 39), (8, 41)] (by simp only [hz]; decide)).trans h8
        show Rg.Does1 _ _ V (Rg.putUse V [(6, 39), (8, 41)] fr) w2 _
        exact Ob.rc_mv (.bool true) (by simp only [execOp, tb39, tb41]; go_simp) rfl rfl True.intro
      · intro V S w2 HM HU HE
        have lw : Below w4.heap.size w4 w2 := Rc.Mod.below HM (fun _ h => h.elim)
        have h9 : V 9 = .bool true := HU.holds 9 (by decide)
        have tb42 : (Rg.putUse V [(9, 42)] fr).eval (.tmp 42) = .bool true := (Rg.use_eval V fr 42 [(9, 42)] (by simp only [hz]; decide)).trans h9
        show Rg.Does1 _ _ V (Rg.putUse V [(9, 42)] fr) w2 _
        exact Ob.rc_mv (.bool true) (by simp only [execOp, tb42]; go_simp) rfl rfl True.intro
      · intro V S w2 HM HU HE
        have lw : Below w4.heap.size w4 w2 := Rc.Mod.below HM (fun _ h => h.elim)
        have h10 : V 10 = .bool true := HU.holds 10 (by decide)
        have tb1 : (Rg.putUse V [(10, 43)] fr).eval (.tmp 1) = .pointer (some ⟨g, 0, none⟩) := (Rg.use_eval V fr 1 [(10, 43)] (by simp only [hz]; decide)).trans y1
        show Rg.Does1 _ _ V (Rg.putUse V [(10, 43)] fr) w2 _
        have cl0 := (lw.cell (p := ⟨g, 0, none⟩) HB4.out.lt).trans (HB4.out.cell 0)
        have cl1 := (lw.cell (p := ⟨g, 1, none⟩) HB4.out.lt).trans (HB4.out.cell 1)
        have cl2 := (lw.cell (p := ⟨g, 2, none⟩) HB4.out.lt).trans (HB4.out.cell 2)
        exact Ob.rc_mv (.agg #[.int .i64 k, .int .u64 (q : Nat), .slice A b.length c]) (by simp only [execOp, tb1]; go_simp) rfl rfl h10
      · intro V S w2 HM HU HE
        have lw : Below w4.heap.size w4 w2 := Rc.Mod.below HM (fun _ h => h.elim)
        have h10 : V 10 = .bool true := HU.holds 10 (by decide)
        have h11 : V 11 = .agg #[.int .i64 k, .int .u64 (q : Nat), .slice A b.length c] := HU.holds 11 (by decide)
        have tb44 : (Rg.putUse V [(10, 43), (11, 44)] fr).eval (.tmp 44) = .agg #[.int .i64 k, .int .u64 (q : Nat), .slice A b.length c] := (Rg.use_eval V fr 44 [(10, 43), (11, 44)] (by simp only [hz]; decide)).trans h11
        show Rg.Does1 _ _ V (Rg.putUse V [(10, 43), (11, 44)] fr) w2 _
        exact Ob.step_tell (.bool true) #[.agg #[.int .i64 k, .int .u64 (q : Nat), .slice A b.length c]] (fun args w => Rg.call_enter Tryd.func23 (by kernel_rfl) (by kernel_rfl) args w) rfl (by simp only [List.map_toArray, List.map_cons, List.map_nil, tb44]) rfl (fun x => Rg.alias_none rfl V x) h10 (HRT.out w2)
      · intro V S w2 HM HU HE
        have lw : Below w4.heap.size w4 w2 := Rc.Mod.below HM (fun _ h => h.elim)
        have h10 : V 10 = .bool true := HU.holds 10 (by decide)
        have tb43 : (Rg.putUse V [(10, 43), (12, 45)] fr).eval (.tmp 43) = .bool true := (Rg.use_eval V fr 43 [(10, 43), (12, 45)] (by simp only [hz]; decide)).trans h10
        have h12 : V 12 = .bool true := HU.holds 12 (by decide)
        have tb45 : (Rg.putUse V [(10, 43), (12, 45)] fr).eval (.tmp 45) = .bool true := (Rg.use_eval V fr 45 [(10, 43), (12, 45)] (by simp only [hz]; decide)).trans h12
        show Rg.Does1 _ _ V (Rg.putUse V [(10, 43), (12, 45)] fr) w2 _
        exact Ob.rc_mv (.bool true) (by simp only [execOp, tb43, tb45]; go_simp) rfl rfl True.intro
      · intro V S w2 HM HU HE
        have lw : Below w4.heap.size w4 w2 := Rc.Mod.below HM (fun _ h => h.elim)
        have h13 : V 13 = .bool true := HU.holds 13 (by decide)
        have tb46 : (Rg.putUse V [(13, 46)] fr).eval (.tmp 46) = .bool true := (Rg.use_eval V fr 46 [(13, 46)] (by simp only [hz]; decide)).trans h13
        show Rg.Does1 _ _ V (Rg.putUse V [(13, 46)] fr) w2 _
        exact Ob.rc_mv (.bool true) (by simp only [execOp, tb46]; go_simp) rfl rfl True.intro
      · intro V S w2 HM HU HE
        have lw : Below w4.heap.size w4 w2 := Rc.Mod.below HM (fun _ h => h.elim)
        have h14 : V 14 = .bool true := HU.holds 14 (by decide)
        have tb1 : (Rg.putUse V [(14, 47)] fr).eval (.tmp 1) = .pointer (some ⟨g, 0, none⟩) := (Rg.use_eval V fr 1 [(14, 47)] (by simp only [hz]; decide)).trans y1
        show Rg.Does1 _ _ V (Rg.putUse V [(14, 47)] fr) w2 _
        have cl0 := (lw.cell (p := ⟨g, 0, none⟩) HB4.out.lt).trans (HB4.out.cell 0)
        have cl1 := (lw.cell (p := ⟨g, 1, none⟩) HB4.out.lt).trans (HB4.out.cell 1)
        have cl2 := (lw.cell (p := ⟨g, 2, none⟩) HB4.out.lt).trans (HB4.out.cell 2)
        exact Ob.rc_mv (.agg #[.int .i64 k, .int .u64 (q : Nat), .slice A b.length c]) (by simp only [execOp, tb1]; go_simp) rfl rfl h14
      · intro V S w2 HM HU HE
        have lw : Below w4.heap.size w4 w2 := Rc.Mod.below HM (fun _ h => h.elim)
        have h14 : V 14 = .bool true := HU.holds 14 (by decide)
        have h15 : V 15 = .agg #[.int .i64 k, .int .u64 (q : Nat), .slice A b.length c] := HU.holds 15 (by decide)
        have tb48 : (Rg.putUse V [(14, 47), (15, 48)] fr).eval (.tmp 48) = .agg #[.int .i64 k, .int .u64 (q : Nat), .slice A b.length c] := (Rg.use_eval V fr 48 [(14, 47), (15, 48)] (by simp only [hz]; decide)).trans h15
        show Rg.Does1 _ _ V (Rg.putUse V [(14, 47), (15, 48)] fr) w2 _
        exact Ob.step_tell (.int .i64 (z : Nat)) #[.agg #[.int .i64 k, .int .u64 (q : Nat), .slice A b.length c]] (fun args w => Rg.call_enter Tryd.func16 (by kernel_rfl) (by kernel_rfl) args w) rfl (by simp only [List.map_toArray, List.map_cons, List.map_nil, tb48]) rfl (fun x => Rg.alias_none rfl V x) h14 (HSZ.out w2)
      · intro V S w2 HM HU HE
        have lw : Below w4.heap.size w4 w2 := Rc.Mod.below HM (fun _ h => h.elim)
        have h14 : V 14 = .bool true := HU.holds 14 (by decide)
        have tb5 : (Rg.putUse V [(14, 47)] fr).eval (.tmp 5) = .pointer (some ⟨gw, 0, none⟩) := (Rg.use_eval V fr 5 [(14, 47)] (by simp only [hz]; decide)).trans y5
        show Rg.Does1 _ _ V (Rg.putUse V [(14, 47)] fr) w2 _
        have cl0 := (lw.cell (p := ⟨gw, 0, none⟩) HG4.out.lt).trans (HG4.out.cell 0)
        have cl1 := (lw.cell (p := ⟨gw, 1, none⟩) HG4.out.lt).trans (HG4.out.cell 1)
        have cl2 := (lw.cell (p := ⟨gw, 2, none⟩) HG4.out.lt).trans (HG4.out.cell 2)
        exact Ob.rc_mv (.agg #[.int .i64 k, .int .u64 (q : Nat), .slice A b.length c]) (by simp only [execOp, tb5]; go_simp) rfl rfl h14
      · intro V S w2 HM HU HE
        have lw : Below w4.heap.size w4 w2 := Rc.Mod.below HM (fun _ h => h.elim)
        have h14 : V 14 = .bool true := HU.holds 14 (by decide)
        have h17 : V 17 = .agg #[.int .i64 k, .int .u64 (q : Nat), .slice A b.length c] := HU.holds 17 (by decide)
        have tb50 : (Rg.putUse V [(14, 47), (17, 50)] fr).eval (.tmp 50) = .agg #[.int .i64 k, .int .u64 (q : Nat), .slice A b.length c] := (Rg.use_eval V fr 50 [(14, 47), (17, 50)] (by simp only [hz]; decide)).trans h17
        show Rg.Does1 _ _ V (Rg.putUse V [(14, 47), (17, 50)] fr) w2 _
        exact Ob.step_tell (.int .i64 (z : Nat)) #[.agg #[.int .i64 k, .int .u64 (q : Nat), .slice A b.length c]] (fun args w => Rg.call_enter Tryd.func24 (by kernel_rfl) (by kernel_rfl) args w) rfl (by simp only [List.map_toArray, List.map_cons, List.map_nil, tb50]) rfl (fun x => Rg.alias_none rfl V x) h14 (HRZ.out w2)
      · intro V S w2 HM HU HE
        have lw : Below w4.heap.size w4 w2 := Rc.Mod.below HM (fun _ h => h.elim)
        have h14 : V 14 = .bool true := HU.holds 14 (by decide)
        have h16 : V 16 = .int .i64 (z : Nat) := HU.holds 16 (by decide)
        have tb49 : (Rg.putUse V [(14, 47), (16, 49), (18, 51)] fr).eval (.tmp 49) = .int .i64 (z : Nat) := (Rg.use_eval V fr 49 [(14, 47), (16, 49), (18, 51)] (by simp only [hz]; decide)).trans h16
        have h18 : V 18 = .int .i64 (z : Nat) := HU.holds 18 (by decide)
        have tb51 : (Rg.putUse V [(14, 47), (16, 49), (18, 51)] fr).eval (.tmp 51) = .int .i64 (z : Nat) := (Rg.use_eval V fr 51 [(14, 47), (16, 49), (18, 51)] (by simp only [hz]; decide)).trans h18
        show Rg.Does1 _ _ V (Rg.putUse V [(14, 47), (16, 49), (18, 51)] fr) w2 _
        exact Ob.rc_mv (.bool true) (by simp only [execOp, tb49, tb51]; go_simp) rfl rfl h14
      · intro V S w2 HM HU HE
        have lw : Below w4.heap.size w4 w2 := Rc.Mod.below HM (fun _ h => h.elim)
        have h14 : V 14 = .bool true := HU.holds 14 (by decide)
        have tb47 : (Rg.putUse V [(14, 47), (19, 52)] fr).eval (.tmp 47) = .bool true := (Rg.use_eval V fr 47 [(14, 47), (19, 52)] (by simp only [hz]; decide)).trans h14
        have h19 : V 19 = .bool true := HU.holds 19 (by decide)
        have tb52 : (Rg.putUse V [(14, 47), (19, 52)] fr).eval (.tmp 52) = .bool true := (Rg.use_eval V fr 52 [(14, 47), (19, 52)] (by simp only [hz]; decide)).trans h19
        show Rg.Does1 _ _ V (Rg.putUse V [(14, 47), (19, 52)] fr) w2 _
        exact Ob.rc_mv (.bool true) (by simp only [execOp, tb47, tb52]; go_simp) rfl rfl True.intro
      · intro V S w2 HM HU HE
        have lw : Below w4.heap.size w4 w2 := Rc.Mod.below HM (fun _ h => h.elim)
        have h20 : V 20 = .bool true := HU.holds 20 (by decide)
        have tb53 : (Rg.putUse V [(20, 53)] fr).eval (.tmp 53) = .bool true := (Rg.use_eval V fr 53 [(20, 53)] (by simp only [hz]; decide)).trans h20
        show Rg.Does1 _ _ V (Rg.putUse V [(20, 53)] fr) w2 _
        exact Ob.rc_mv (.bool true) (by simp only [execOp, tb53]; go_simp) rfl rfl True.intro
    intro V S w2 HI
    have HL2 : Hid (Below w4.heap.size w4 w2) := Rc.Mod.below HI.mod.undrew (fun _ h => h.elim)
    have hw21 : V 21 = .bool true := HI.get 21 (by decide) (by rfl)
    simp only [Rg.putList, Act.put, List.setIfInBounds_toArray, List.set_cons_zero, List.set_cons_succ, Nat.zero_add, Nat.reduceAdd]
    rw [hw21]
    clear HI hw21
    have HEND : Hid (Below w.heap.size w w2) := Later.trans HBW4.out HL2.out
    clear HL2
    go_wp2_with fail
    go_ret
    exact ⟨rfl, HEND.out⟩
  · rw [decide_eq_false hri] at HRT ⊢
    obtain rfl : en = ([], 12) := HNO.out hri
    obtain rfl : z = 0 := HZN.out hri
    clear hri HFI HYES HNO HZN HRZ HREN
    have c0 := HB4.out.cell 0
    have c1 := HB4.out.cell 1
    have c2 := HB4.out.cell 2
    go_wp2_with fail
    refine (HRT.out w4).mono ?_
    rintro e w5 ⟨rfl, hb5⟩
    have HB5 : Hid (Blk w5 g 27 [.int .i64 k, .int .u64 (q : Nat), .slice A b.length c]) := HB4.out.below hb5 HB4.out.lt
    have HBW5 : Hid (Below w.heap.size w w5) := Later.trans HBW4.out hb5
    clear hb5 c0 c1 c2 HB4 HBW4
    have c0 := HB5.out.cell 0
    have c1 := HB5.out.cell 1
    have c2 := HB5.out.cell 2
    go_wp2_with fail
    refine (HSZ.out w5).mono ?_
    rintro e w6 ⟨rfl, hb6⟩
    have HBW6 : Hid (Below w.heap.size w w6) := Later.trans HBW5.out hb6
    clear hb6
    go_wp2_with fail
    go_ret
    exact ⟨rfl, HBW6.out⟩
end Re
end Go.Proofs.YtmcbpgbiephllaaDoor

namespace Go.Proofs.YtmcbpgbiephllaaDoor
open Go.RowKit
namespace Re
theorem wpList_append_g {P : Program} {w : World} {ops : Array Oper} {rest : List Oper} {o : Oper} {a : Act} {Q : Exit → Act → World → Prop} (hgd : Region.wanted o (yielded ops a.tmps) = true) (s x : Operand) (t : TypeId)
    (ho : o.op = .call { callee := .builtin .append, args := #[s, x], argTypes := #[t, t] })
    (base : Nat) (e : TypeId) (i : TypeInfo) (ht : P.underlying t = some (.slice e)) (hi : P.info? e = some i) (hz : i.zero = some (.int .u8 0)) (hsize : i.size = 1) (hby : i.bytes = 1)
    (v : Value) (n : Nat) (xs : List Value) (hs : a.eval s = v) (hown : w.ownsRow base e 1 v n xs) (A : Option Addr) (l : List UInt8) (m c : Nat) (hm : l.length = m) (hx : a.eval x = .slice A m c) (hr : Rd w A l) (hn : n + l.length ≤ 1099511627776) (hbase : base ≤ w.heap.size)
    (h : ∀ v' w', Hid (w'.ownsRow base e 1 v' (n + l.length) (xs ++ Lib.byteCells l)) → Hid (w.grownBy w' v.ownBlock) → wpList P ops Q rest (a.put o.dst v') w') : wpList P ops Q (o :: rest) a w := by
  subst hm
  refine wpList_step fun K hK => ?_
  rw [if_pos hgd]
  obtain ⟨v', w', hrun, h1, h2⟩ := run_append_rd w base t o.type e i ht hi hz hsize hby v n xs hown A l c hr hn hbase
  unfold Oper.wp
  simp [execOp, ho, resolve, invoke, builtin, hs, hx, hrun, Result.andThen]
  exact hK _ _ (h v' w' h1 h2)
end Re
end Go.Proofs.YtmcbpgbiephllaaDoor

namespace Go.Proofs.YtmcbpgbiephllaaDoor
open Go.RowKit Rc
namespace Re
set_option maxHeartbeats 8000000 in
set_option maxRecDepth 100000 in
theorem tells_any (C : WSaid) (hS : SumSaid) (w : World) (r : Rec) (A : Option Addr) (c : Nat) (ok : RecOk w r A c) (l : List UInt8) (A1 : Option Addr) (c1 : Nat) (hr1 : Rd w A1 l) (hc1 : l.length ≤ c1) (hl1 : l.length ≤ 9223372036854775807) (n : Int) (hn : -9223372036854775808 ≤ n ∧ n ≤ 9223372036854775807) (t : Int) (htb : 0 ≤ t ∧ t ≤ 255) (s : Bool) (hE : Env w) :
    Calls Tryd.prog 4 #[val r A c, .slice A1 l.length c1, .int .i64 n, .int .u8 t, .bool s] w fun e w' => e = .returned (.bool true) ∧ Below w.heap.size w w' := by
  obtain ⟨k, q, b0⟩ := r
  obtain ⟨hk0, hk1, hq, hfit, hlen, hrd⟩ := ok
  dsimp only at hk0 hk1 hq hfit hlen hrd
  obtain ⟨b9, hb9⟩ : ∃ b, b = b0.take 910 := ⟨_, rfl⟩
  obtain ⟨b, hb⟩ : ∃ b, b = b9.take 300 := ⟨_, rfl⟩
  obtain ⟨q1, hq1⟩ : ∃ x, x = q % 1099511627777 := ⟨_, rfl⟩
  have h9l : b9.length ≤ 910 := by rw [hb9]; exact List.length_take_le _ _
  have h9c : b9.length ≤ c := by rw [hb9, List.length_take]; omega
  have h9r : Rd w A b9 := by rw [hb9]; exact hrd.take 910
  have hbl : b.length ≤ 300 := by rw [hb]; exact List.length_take_le _ _
  have hbc : b.length ≤ c := by rw [hb, List.length_take]; omega
  have hrb : Rd w A b := by rw [hb]; exact h9r.take 300
  have hri : Right ⟨1, q1, b⟩ := ⟨.inl ⟨rfl, by show b.length ≤ 900; omega⟩, by show q1 ≤ _; omega⟩
  have HCUT : Hid (∀ W, Calls Tryd.prog 12 #[.slice A b0.length c, .int .i64 910] W fun e w' => e = .returned (.slice A b9.length c) ∧ W = w') := fun W => by rw [hb9]; exact cut_any A b0 c 910 hfit (by omega) hlen W
  have HCUT9 : Hid (∀ W, Calls Tryd.prog 12 #[.slice A b9.length c, .int .i64 300] W fun e w' => e = .returned (.slice A b.length c) ∧ W = w') := fun W => by rw [hb]; exact cut_any A b9 c 300 h9c (by omega) (by omega) W
  have HQ1 : Hid ((q : Int) % 1099511627777 = (q1 : Int)) := by show _ = _; rw [hq1]; omega
  have HS1 : Hid (∀ W, Below w.heap.size w W → Calls Tryd.prog 9 #[.agg #[.int .i64 k, .int .u64 (q : Nat), .slice A b9.length c]] W fun e w' => e = .returned (.bool true) ∧ Below W.heap.size W w') := fun W h => re_same_any C hS ⟨k, q, b9⟩ hk0 hk1 hq (by show b9.length ≤ _; omega) W A c h9c (h9r.below h) (hE.under h hE.pos)
  have HS2 : Hid (∀ W, Below w.heap.size w W → Calls Tryd.prog 9 #[.agg #[.int .i64 1, .int .u64 (q1 : Nat), .slice A b.length c]] W fun e w' => e = .returned (.bool true) ∧ Below W.heap.size W w') := fun W h => re_same_any C hS ⟨1, q1, b⟩ (by show -9223372036854775808 ≤ (1 : Int); decide) (by show (1 : Int) ≤ 9223372036854775807; decide) (by show q1 ≤ _; omega) (by show b.length ≤ _; omega) W A c hbc (hrb.below h) (hE.under h hE.pos)
  have HIN : Hid (∀ W, Calls Tryd.prog 8 #[.agg #[.int .i64 1, .int .u64 (q1 : Nat), .slice A b.length c]] W fun e w' => e = .returned (.agg #[.int .i64 1, .int .u64 (q1 : Nat), .slice A b.length c]) ∧ Below W.heap.size W w') := fun W => re_in_any ⟨1, q1, b⟩ A c W
  have HEN : Hid (∀ W, Below w.heap.size w W → Calls Tryd.prog 7 #[.agg #[.int .i64 1, .int .u64 (q1 : Nat), .slice A b.length c]] W fun e w' => ∃ v, e = .returned v ∧ w'.ownsRow W.heap.size 5 1 v (formI ⟨1, q1, b⟩).length (Lib.byteCells (formI ⟨1, q1, b⟩)) ∧ Below W.heap.size W w') := fun W h => re_refEnc_any ⟨1, q1, b⟩ (by show -9223372036854775808 ≤ (1 : Int); decide) (by show (1 : Int) ≤ 9223372036854775807; decide) (by show q1 ≤ _; omega) (by show b.length ≤ _; omega) W A c (hrb.below h)
  have HKN : Hid (∀ W, Below w.heap.size w W → Calls Tryd.prog 11 #[] W fun e w' => e = .returned (.bool true) ∧ Below W.heap.size W w') := fun W h => re_known_any hS W (hE.under h hE.pos)
  have HRD : Hid (∀ W (X : Option Addr) (L : List UInt8) (cap : Nat), Below w.heap.size w W → Rd W X L → L.length ≤ cap → L.length ≤ 65550 → Calls Tryd.prog 10 #[.slice X L.length cap] W fun e w' => e = .returned (.bool true) ∧ Below W.heap.size W w') := fun W X L cap h1 h2 h3 h4 => re_read_any hS W X L cap h2 h3 h4 (hE.under h1 hE.pos)
  obtain ⟨fo, hfo⟩ : ∃ x, x = formI ⟨1, q1, b⟩ := ⟨_, rfl⟩
  have HFL : Hid (15 ≤ fo.length ∧ fo.length ≤ 315) := by
    have : (formI ⟨1, q1, b⟩).length = 15 + b.length := formI_length (by show b.length ≤ _; omega)
    rw [← hfo] at this
    exact ⟨by omega, by omega⟩
  rw [← hfo] at HEN
  have HCL1 : Hid (∀ W, Calls Tryd.prog 12 #[.slice A1 l.length c1, .int .i64 100] W fun e w' => e = .returned (.slice A1 (l.take 100).length c1) ∧ W = w') := fun W => cut_any A1 l c1 100 hc1 (by omega) hl1 W
  have HCL2 : Hid (∀ W, Calls Tryd.prog 12 #[.slice A1 l.length c1, .int .i64 20] W fun e w' => e = .returned (.slice A1 (l.take 20).length c1) ∧ W = w') := fun W => cut_any A1 l c1 20 hc1 (by omega) hl1 W
  obtain ⟨m1, hm1⟩ : ∃ m, m = l.take 100 := ⟨_, rfl⟩
  obtain ⟨m2, hm2⟩ : ∃ m, m = l.take 20 := ⟨_, rfl⟩
  have HM1 : Hid (Rd w A1 m1 ∧ m1.length ≤ 100 ∧ m1.length ≤ c1) := by
    show _ ∧ _ ∧ _
    rw [hm1]
    exact ⟨hr1.take 100, List.length_take_le _ _, by rw [List.length_take]; omega⟩
  have HM2 : Hid (Rd w A1 m2 ∧ m2.length ≤ 20 ∧ m2.length ≤ c1) := by
    show _ ∧ _ ∧ _
    rw [hm2]
    exact ⟨hr1.take 20, List.length_take_le _ _, by rw [List.length_take]; omega⟩
  rw [← hm1] at HCL1
  rw [← hm2] at HCL2
  have HN := Lib.hid hn
  obtain ⟨tb, htb2⟩ : ∃ x : UInt8, t = ((x.toNat : Nat) : Int) := ⟨UInt8.ofNat t.toNat, by rw [UInt8.toNat_ofNat']; omega⟩
  clear hk0 hk1 hq hfit hlen hrd hbl hbc hrb h9l h9c h9r hri hS hE hfo hb hb9 hq1 hm1 hm2 hr1 hc1 hl1 hn htb
  subst htb2
  unfold val
  dsimp only
  obtain ⟨W0, hW0⟩ : ∃ W0, W0 = w.alloc (.cells #[.int .i64 k, .int .u64 (q : Nat), .slice A b0.length c] 27) := ⟨_, rfl⟩
  obtain ⟨g, hg⟩ : ∃ g, g = w.heap.size := ⟨_, rfl⟩
  have HB0 : Hid (Blk W0 g 27 [.int .i64 k, .int .u64 (q : Nat), .slice A b0.length c]) := by show Blk _ _ _ _; rw [hW0, hg]; exact Blk.new w _ _
  have HBW : Hid (Below w.heap.size w W0) := by show Below _ _ _; rw [hW0]; exact below_new w _
  have HGG : Hid (w.heap.size ≤ g) := Nat.le_of_eq hg.symm
  go_enter Tryd.func4, Tryd.ntmps4
  go_upto_region 1 with (fail)
  rw [← hW0, ← hg]
  clear hW0 hg
  have a2 := HB0.out.cell 2
  have f2 := HB0.out.frozen 2
  go_wp2_with fail
  refine (HCUT.out W0).mono ?_
  rintro e _ ⟨rfl, rfl⟩
  obtain ⟨W1, hW1⟩ : ∃ W, W = W0.setCell ⟨g, 2, none⟩ (.slice A b9.length c) := ⟨_, rfl⟩
  have hk1 : Keeps W0 W1 g := by rw [hW1]; exact (Keeps.refl W0 g).setCell 2 _
  have HB1 : Hid (Blk W1 g 27 [.int .i64 k, .int .u64 (q : Nat), .slice A b9.length c]) := by show Blk _ _ _ _; rw [hW1]; exact HB0.out.set_ 2 _
  have HBW1 : Hid (Below w.heap.size w W1) := below_keeps HBW.out hk1 HGG.out HBW.out.size
  go_upto_region 2 with (fail)
  rw [← hW1]
  clear hW1 hk1 a2 f2 HB0 HBW HCUT
  have a0 := HB1.out.cell 0
  have a1 := HB1.out.cell 1
  have a2 := HB1.out.cell 2
  obtain ⟨W2, hW2⟩ : ∃ W, W = W1.alloc (.cells #[.int .i64 k, .int .u64 (q : Nat), .slice A b9.length c] 27) := ⟨_, rfl⟩
  obtain ⟨gx, hgx⟩ : ∃ g, g = W1.heap.size := ⟨_, rfl⟩
  have hb2 : Below W1.heap.size W1 W2 := by rw [hW2]; exact below_new W1 _
  have HX2 : Hid (Blk W2 gx 27 [.int .i64 k, .int .u64 (q : Nat), .slice A b9.length c]) := by show Blk _ _ _ _; rw [hW2, hgx]; exact Blk.new W1 _ _
  have HB2 : Hid (Blk W2 g 27 [.int .i64 k, .int .u64 (q : Nat), .slice A b9.length c]) := HB1.out.below hb2 HB1.out.lt
  have HBW2 : Hid (Below w.heap.size w W2) := Later.trans HBW1.out hb2
  have HGX : Hid (g < gx) := by show _ < _; rw [hgx]; exact HB1.out.lt
  go_upto_region 3 with (fail)
  rw [← hW2, ← hgx]
  clear hW2 hgx hb2 a0 a1 a2 HB1 HBW1
  have a1 := HB2.out.cell 1
  have a2 := HB2.out.cell 2
  have d0 := HX2.out.cell 0
  have d1 := HX2.out.cell 1
  have d2 := HX2.out.cell 2
  have f0 := HX2.out.frozen 0
  have f1 := HX2.out.frozen 1
  have f2 := HX2.out.frozen 2
  have n1 : gx ≠ g := by have := HGX.out; omega
  have n2 : g ≠ gx := fun h => n1 h.symm
  go_wp2_with fail
  rw [HQ1.out]
  refine (HCUT9.out _).mono ?_
  rintro e _ ⟨rfl, rfl⟩
  go_upto_region 6 with (fail)
  obtain ⟨W3, hW3⟩ : ∃ W, W = ((W2.setCell ⟨gx, 0, none⟩ (.int .i64 1)).setCell ⟨gx, 1, none⟩ (.int .u64 (q1 : Nat))).setCell ⟨gx, 2, none⟩ (.slice A b.length c) := ⟨_, rfl⟩
  have hk3 : Keeps W2 W3 gx := by rw [hW3]; exact set3_keeps W2 gx _ _ _
  have HX3 : Hid (Blk W3 gx 27 [.int .i64 1, .int .u64 (q1 : Nat), .slice A b.length c]) := by show Blk _ _ _ _; rw [hW3]; exact set3_blk HX2.out _ _ _
  have HB3 : Hid (Blk W3 g 27 [.int .i64 k, .int .u64 (q : Nat), .slice A b9.length c]) := (hk3.block g HB2.out.lt (fun e => by injection e with e; exact n2 e)).trans HB2.out
  have HBW3 : Hid (Below w.heap.size w W3) := below_keeps HBW2.out hk3 (by have := HGG.out; have := HGX.out; omega) HBW2.out.size
  rw [← hW3]
  clear hW3 hk3 a1 a2 d0 d1 d2 f0 f1 f2 n1 n2 HB2 HX2 HBW2 HQ1 HCUT9
  have d0 := HX3.out.cell 0
  have d1 := HX3.out.cell 1
  have d2 := HX3.out.cell 2
  go_wp2_with fail
  refine (HIN.out W3).mono ?_
  rintro e w4 ⟨rfl, hb4⟩
  have HB4 : Hid (Blk w4 g 27 [.int .i64 k, .int .u64 (q : Nat), .slice A b9.length c]) := HB3.out.below hb4 HB3.out.lt
  have HX4 : Hid (Blk w4 gx 27 [.int .i64 1, .int .u64 (q1 : Nat), .slice A b.length c]) := HX3.out.below hb4 HX3.out.lt
  have HBW4 : Hid (Below w.heap.size w w4) := Later.trans HBW3.out hb4
  clear hb4 d0 d1 d2 HIN
  clear HB3 HX3 HBW3
  go_wp2_with fail
  refine (HEN.out w4 HBW4.out).mono ?_
  rintro e w5 ⟨v, rfl, ho, hb5⟩
  obtain ⟨Y, cy, rfl, hcy, hry⟩ := own_form ho
  obtain ⟨gy, rfl⟩ := own_addr ho (by have := HFL.out.1; omega)
  have HGY : Hid (w4.heap.size ≤ gy) := (own_lt ho rfl).1
  have HXY : Hid (gx < gy ∧ g < gy ∧ w.heap.size ≤ gy) := ⟨by have := HX4.out.lt; have := HGY.out; omega, by have := HB4.out.lt; have := HGY.out; omega, by have := HBW4.out.size; have := HGY.out; omega⟩
  have HCY : Hid (fo.length ≤ cy) := hcy
  have HM5 : Hid (MAt w4.heap.size (.slice (some ⟨gy, 0, none⟩) fo.length cy) fo w4 w5) := ⟨ho, hb5, rfl⟩
  have HR5 : Hid (Rd w5 (some ⟨gy, 0, none⟩) fo) := hry
  have HB5 : Hid (Blk w5 g 27 [.int .i64 k, .int .u64 (q : Nat), .slice A b9.length c]) := HB4.out.below hb5 HB4.out.lt
  have HX5 : Hid (Blk w5 gx 27 [.int .i64 1, .int .u64 (q1 : Nat), .slice A b.length c]) := HX4.out.below hb5 HX4.out.lt
  have HBW5 : Hid (Below w.heap.size w w5) := Later.trans HBW4.out hb5
  clear ho hb5 hcy hry HEN
  clear HB4 HX4 HBW4
  have a0 := HB5.out.cell 0
  have a1 := HB5.out.cell 1
  have a2 := HB5.out.cell 2
  go_wp2_with fail
  refine (HS1.out w5 HBW5.out).mono ?_
  rintro e w6 ⟨rfl, hb6⟩
  have HB6 : Hid (Blk w6 g 27 [.int .i64 k, .int .u64 (q : Nat), .slice A b9.length c]) := HB5.out.below hb6 HB5.out.lt
  have HX6 : Hid (Blk w6 gx 27 [.int .i64 1, .int .u64 (q1 : Nat), .slice A b.length c]) := HX5.out.below hb6 HX5.out.lt
  have HM6 : Hid (MAt w4.heap.size (.slice (some ⟨gy, 0, none⟩) fo.length cy) fo w4 w6) := HM5.out.below hb6
  have HR6 : Hid (Rd w6 (some ⟨gy, 0, none⟩) fo) := HR5.out.below hb6
  have HBW6 : Hid (Below w.heap.size w w6) := Later.trans HBW5.out hb6
  clear hb6 a0 a1 a2 HS1
  clear HB5 HX5 HM5 HR5 HBW5
  have d0 := HX6.out.cell 0
  have d1 := HX6.out.cell 1
  have d2 := HX6.out.cell 2
  go_wp2_with fail
  refine (HS2.out w6 HBW6.out).mono ?_
  rintro e w7 ⟨rfl, hb7⟩
  have HB7 : Hid (Blk w7 g 27 [.int .i64 k, .int .u64 (q : Nat), .slice A b9.length c]) := HB6.out.below hb7 HB6.out.lt
  have HX7 : Hid (Blk w7 gx 27 [.int .i64 1, .int .u64 (q1 : Nat), .slice A b.length c]) := HX6.out.below hb7 HX6.out.lt
  have HM7 : Hid (MAt w4.heap.size (.slice (some ⟨gy, 0, none⟩) fo.length cy) fo w4 w7) := HM6.out.below hb7
  have HR7 : Hid (Rd w7 (some ⟨gy, 0, none⟩) fo) := HR6.out.below hb7
  have HBW7 : Hid (Below w.heap.size w w7) := Later.trans HBW6.out hb7
  clear hb7 d0 d1 d2 HS2
  clear HB6 HX6 HM6 HR6 HBW6
  go_wp2_with fail
  refine (HRD.out w7 _ fo cy HBW7.out HR7.out HCY.out (by have := HFL.out; omega)).mono ?_
  rintro e w8 ⟨rfl, hb8⟩
  have HB8 : Hid (Blk w8 g 27 [.int .i64 k, .int .u64 (q : Nat), .slice A b9.length c]) := HB7.out.below hb8 HB7.out.lt
  have HX8 : Hid (Blk w8 gx 27 [.int .i64 1, .int .u64 (q1 : Nat), .slice A b.length c]) := HX7.out.below hb8 HX7.out.lt
  have HM8 : Hid (MAt w4.heap.size (.slice (some ⟨gy, 0, none⟩) fo.length cy) fo w4 w8) := HM7.out.below hb8
  have HR8 : Hid (Rd w8 (some ⟨gy, 0, none⟩) fo) := HR7.out.below hb8
  have HBW8 : Hid (Below w.heap.size w w8) := Later.trans HBW7.out hb8
  clear hb8
  clear HB7 HX7 HM7 HR7 HBW7
  go_wp2_with fail
  refine (HCL1.out w8).mono ?_
  rintro e _ ⟨rfl, rfl⟩
  go_wp2_with fail
  refine (HRD.out w8 A1 m1 c1 HBW8.out (HM1.out.1.below HBW8.out) HM1.out.2.2 (by have := HM1.out.2.1; omega)).mono ?_
  rintro e w9 ⟨rfl, hb9⟩
  have HB9 : Hid (Blk w9 g 27 [.int .i64 k, .int .u64 (q : Nat), .slice A b9.length c]) := HB8.out.below hb9 HB8.out.lt
  have HX9 : Hid (Blk w9 gx 27 [.int .i64 1, .int .u64 (q1 : Nat), .slice A b.length c]) := HX8.out.below hb9 HX8.out.lt
  have HM9 : Hid (MAt w4.heap.size (.slice (some ⟨gy, 0, none⟩) fo.length cy) fo w4 w9) := HM8.out.below hb9
  have HR9 : Hid (Rd w9 (some ⟨gy, 0, none⟩) fo) := HR8.out.below hb9
  have HBW9 : Hid (Below w.heap.size w w9) := Later.trans HBW8.out hb9
  clear hb9 HCL1 HM1
  clear HB8 HX8 HM8 HR8 HBW8
  obtain ⟨i0, hi, hz0, hz1, hz2⟩ := info_parts Tryd.infoU8
  have HI0 := Lib.hid hi
  have HZ0 := Lib.hid hz0
  have HZ1 := Lib.hid hz1
  have HZ2 := Lib.hid hz2
  have H0 : Hid (MAt w9.heap.size (.slice (some ⟨w9.heap.size, 0, none⟩) 0 0) [] w9 (w9.alloc (.cells #[] 5))) := MAt.empty w9
  have HXA : Hid (Rd (w9.alloc (.cells #[] 5)) (some ⟨gy, 0, none⟩) fo) := HR9.out.below (below_new w9 _)
  clear hi hz0 hz1 hz2
  go_wp2_with (at_builtin; refine wpList_append_g rfl (.tmp 51) (.tmp 52) 25 rfl w9.heap.size 5 i0 Tryd.underlying25 HI0.out HZ0.out HZ1.out HZ2.out _ 0 [] rfl H0.out.1 (some ⟨gy, 0, none⟩) fo fo.length cy rfl rfl HXA.out (by have := HFL.out; omega) (by rw [World.size_alloc]; omega) ?_; intro v1 w10 HO1 HG1; have H1 : Hid (MAt w9.heap.size v1 fo w9 w10) := H0.out.push (Below.refl _ _) HO1.out HG1.out)
  clear HO1 HG1 H0 HXA
  refine (HCL2.out w10).mono ?_
  rintro e _ ⟨rfl, rfl⟩
  have HM6 : Hid (Rd w10 A1 m2) := HM2.out.1.below (Later.trans HBW9.out H1.out.2.1)
  go_wp2_with (at_builtin; refine wpList_append_g rfl (.tmp 53) (.tmp 55) 25 rfl w9.heap.size 5 i0 Tryd.underlying25 HI0.out HZ0.out HZ1.out HZ2.out v1 fo.length (Lib.byteCells fo) rfl H1.out.1 A1 m2 m2.length c1 rfl rfl HM6.out (by have := HFL.out; have := HM2.out.2.1; omega) H1.out.2.1.size ?_; intro v2 w11 HO2 HG2; have H2 : Hid (MAt w9.heap.size v2 (fo ++ m2) w9 w11) := H1.out.push (Below.refl _ _) HO2.out HG2.out)
  clear HO2 HG2 HM6 H1 HCL2
  obtain ⟨Z, cz, rfl, hcz, hrz⟩ := own_form H2.out.1
  have hbz : Below w9.heap.size w9 w11 := H2.out.2.1
  have HB11 : Hid (Blk w11 g 27 [.int .i64 k, .int .u64 (q : Nat), .slice A b9.length c]) := HB9.out.below hbz HB9.out.lt
  have HX11 : Hid (Blk w11 gx 27 [.int .i64 1, .int .u64 (q1 : Nat), .slice A b.length c]) := HX9.out.below hbz HX9.out.lt
  have HM11 : Hid (MAt w4.heap.size (.slice (some ⟨gy, 0, none⟩) fo.length cy) fo w4 w11) := HM9.out.below hbz
  have HR11 : Hid (Rd w11 (some ⟨gy, 0, none⟩) fo) := HR9.out.below hbz
  have HBW11 : Hid (Below w.heap.size w w11) := Later.trans HBW9.out hbz
  clear hbz H2
  clear HB9 HX9 HM9 HR9 HBW9
  refine (HRD.out w11 Z (fo ++ m2) cz HBW11.out hrz hcz (by rw [List.length_append]; have := HFL.out; have := HM2.out.2.1; omega)).mono ?_
  rintro e w12 ⟨rfl, hb12⟩
  have HB12 : Hid (Blk w12 g 27 [.int .i64 k, .int .u64 (q : Nat), .slice A b9.length c]) := HB11.out.below hb12 HB11.out.lt
  have HX12 : Hid (Blk w12 gx 27 [.int .i64 1, .int .u64 (q1 : Nat), .slice A b.length c]) := HX11.out.below hb12 HX11.out.lt
  have HM12 : Hid (MAt w4.heap.size (.slice (some ⟨gy, 0, none⟩) fo.length cy) fo w4 w12) := HM11.out.below hb12
  have HR12 : Hid (Rd w12 (some ⟨gy, 0, none⟩) fo) := HR11.out.below hb12
  have HBW12 : Hid (Below w.heap.size w w12) := Later.trans HBW11.out hb12
  clear hb12 hcz hrz HM2
  clear HB11 HX11 HM11 HR11 HBW11
  have hfi : ((fo.length : Nat) : Int) ≤ 315 := by have := HFL.out.2; omega
  have hfo : (15 : Int) ≤ ((fo.length : Nat) : Int) := by have := HFL.out.1; omega
  go_wp2_with fail
  refine (within_nat n 0 _ 0 (fo.length - 1) w12 rfl (by omega) (by omega) (by omega) HN.out.1 HN.out.2).mono ?_
  rintro e _ ⟨j, _, hj, rfl, rfl⟩
  have hjl : ((j : Nat) : Int) < ((fo.length : Nat) : Int) := by omega
  have hj0 : (0 : Int) ≤ ((j : Nat) : Int) := by omega
  have HJ : Hid (j < fo.length) := by show _ < _; omega
  obtain ⟨xb, hxb⟩ : ∃ x, x = (fo.getD j 0).toNat := ⟨_, rfl⟩
  have cx := own_byte HM12.out.1 j HJ.out
  have fx := own_frozen HM12.out.1 j
  rw [← hxb] at cx
  have hx1 := Cr.bits_xor_u8 xb tb.toNat (by rw [hxb]; exact (fo.getD j 0).toNat_lt) tb.toNat_lt
  obtain ⟨W13, hW13⟩ : ∃ W, W = w12.setCell ⟨gy, j, none⟩ (.int .u8 ((xb ^^^ tb.toNat : Nat) : Int)) := ⟨_, rfl⟩
  have HO13 := own_set HM12.out.1 j HJ.out (fo.getD j 0 ^^^ tb) ((xb ^^^ tb.toNat : Nat) : Int) (by rw [UInt8.toNat_xor, ← hxb])
  have HBW13 : Hid (Below w.heap.size w W13) := by show Below _ _ _; rw [hW13]; exact below_keeps HBW12.out ((Keeps.refl w12 gy).setCell j _) HXY.out.2.2 HBW12.out.size
  rw [← hW13] at HO13
  obtain ⟨y2, hy2⟩ : ∃ y, y = fo.set j (fo.getD j 0 ^^^ tb) := ⟨_, rfl⟩
  have hyl : y2.length = fo.length := by rw [hy2, List.length_set]
  have HR13 : Hid (Rd W13 (some ⟨gy, 0, none⟩) y2) := by
    rw [← hy2, ← hyl] at HO13
    obtain ⟨X9, c9, e9, _, h9⟩ := own_form HO13
    injection e9 with e9
    subst e9
    exact h9
  clear hxb hj HO13
  go_upto_region 11 with (fail)
  rw [← hW13]
  clear hW13 cx fx hx1 hjl hy2 HB12 HX12 HM12 HR12 HBW12 hfi hfo
  have hjc : ((j : Nat) : Int) ≤ (cy : Int) := by have := HJ.out; have := HCY.out; omega
  have HEND : Hid (∀ W1 W2, Below W13.heap.size W13 W1 → Below W1.heap.size W1 W2 → Below w.heap.size w W2) := fun W1 W2 h1 h2 => Later.trans (Later.trans HBW13.out h1) h2
  cases s with
  | true =>
    obtain ⟨y3, hy3⟩ : ∃ y, y = y2.take j := ⟨_, rfl⟩
    have hy3l : y3.length = j := by have := HJ.out; rw [hy3, List.length_take]; omega
    have HR3 : Hid (Rd W13 (some ⟨gy, 0, none⟩) y3) := by show Rd _ _ _; rw [hy3]; exact HR13.out.take j
    clear hy3
    go_wp2_with fail
    have HD := Lib.hid (HRD.out W13 _ y3 cy HBW13.out HR3.out (by have := HCY.out; have := HJ.out; omega) (by have := HFL.out; have := HJ.out; omega))
    rw [hy3l] at HD
    refine HD.out.mono ?_
    rintro e w14 ⟨rfl, hb14⟩
    have HB14 := Lib.hid hb14
    clear hb14 HD
    go_wp2_with fail
    refine (HKN.out w14 (Later.trans HBW13.out HB14.out)).mono ?_
    rintro e wz ⟨rfl, hbz⟩
    have HZZ := Lib.hid hbz
    clear hbz
    go_wp2_with fail
    go_ret
    exact ⟨rfl, HEND.out _ _ HB14.out HZZ.out⟩
  | false =>
    go_wp2_with fail
    have HD := Lib.hid (HRD.out W13 _ y2 cy HBW13.out HR13.out (by have := HCY.out; omega) (by have := HFL.out; omega))
    rw [hyl] at HD
    refine HD.out.mono ?_
    rintro e w14 ⟨rfl, hb14⟩
    have HB14 := Lib.hid hb14
    clear hb14 HD
    go_wp2_with fail
    refine (HKN.out w14 (Later.trans HBW13.out HB14.out)).mono ?_
    rintro e wz ⟨rfl, hbz⟩
    have HZZ := Lib.hid hbz
    clear hbz
    go_wp2_with fail
    go_ret
    exact ⟨rfl, HEND.out _ _ HB14.out HZZ.out⟩
end Re
end Go.Proofs.YtmcbpgbiephllaaDoor

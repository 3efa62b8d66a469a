/-
  OWN WORK. Law 10's known and same, by their contracts.
-/
import Derived.Test.YtopcipaaffpiaaaNoAs
import Derived.Test.YtopcipaaffpiaaaBaRgStr
namespace Go.Proofs.Ytopcipaaffpiaaa
open Go.RowKit Rc

theorem enc_ys (C : WSaid) {id kind links size : Int} {till : Nat} {shut : Bool} (w : World) (h : Nd.Right ⟨id, kind, links, size, till, shut⟩) : Calls Try.prog 13 #[.agg #[.int .i64 id, .int .i64 kind, .int .i64 links, .int .i64 size, .int .u64 (till : Nat), .bool shut]] w fun e w' => ∃ X c ys, e = .returned (.tuple #[.slice X (List.length ys) c, .int .i64 0]) ∧ ys.length ≤ c ∧ ys.length = 16 ∧ Hid (ys = Nd.bytes ⟨id, kind, links, size, till, shut⟩) ∧ Hid (Rd w' X ys) ∧ Hid (Below w.heap.size w w') := by
  refine (enc_yes_as C w h).mono ?_
  rintro e w' ⟨X, c, rfl, hc, _, hr, hb⟩
  have hl := Nd.bytes_length ⟨id, kind, links, size, till, shut⟩
  exact ⟨X, c, Nd.bytes ⟨id, kind, links, size, till, shut⟩, by rw [hl], by rw [hl]; exact hc, hl, rfl, hr, hb⟩

set_option maxHeartbeats 1000000 in
set_option maxRecDepth 100000 in
theorem known10_any (C : WSaid) (w : World) : Calls Try.prog 10 #[] w fun e w' => e = .returned (.bool true) ∧ Below w.heap.size w w' := by
  have HY : Hid (Nd.Right ⟨0, 2, 1, 0, 0, true⟩) := by show Nd.Right _; decide
  go_enter Try.func10, Try.ntmps10
  go_wp2_with fail
  refine (enc_yes_as C w HY.out).mono ?_
  rintro e w1 ⟨X, c, rfl, hc, _, hr, HB⟩
  have hl : Nd.bytes ⟨0, 2, 1, 0, 0, true⟩ = [0, 0, 2, 0, 1, 0, 0, 0, 0, 0, 0, 0, 0, 0, 0, 1] := by decide
  have hr2 := hr.out
  rw [hl] at hr2
  have hstr : (convert 27 9 (.slice X 16 c)).run Try.prog w1 = .ok (.string ⟨#[0, 0, 2, 0, 1, 0, 0, 0, 0, 0, 0, 0, 0, 0, 0, 1]⟩) w1 := str_any w1 X [0, 0, 2, 0, 1, 0, 0, 0, 0, 0, 0, 0, 0, 0, 0, 1] c hr2
  clear hr hr2 hl hc HY
  go_wp2_with fail
  go_ret
  exact ⟨rfl, HB.out⟩

set_option maxHeartbeats 1000000 in
set_option maxRecDepth 100000 in
theorem same10_any (C : WSaid) (n : Nd) (hok : n.Ok) (w : World) : Calls Try.prog 8 #[n.val] w fun e w' => e = .returned (.bool true) ∧ Below w.heap.size w w' := by
  obtain ⟨id, kind, links, size, till, shut⟩ := n
  have HOK := Lib.hid hok
  clear hok
  show Calls _ _ #[.agg #[.int .i64 id, .int .i64 kind, .int .i64 links, .int .i64 size, .int .u64 (till : Nat), .bool shut]] w _
  have HBX : Hid (Blk (w.alloc (.cells #[.int .i64 id, .int .i64 kind, .int .i64 links, .int .i64 size, .int .u64 (till : Nat), .bool shut] 25)) w.heap.size 25 [.int .i64 id, .int .i64 kind, .int .i64 links, .int .i64 size, .int .u64 (till : Nat), .bool shut]) := Blk.new w _ _
  have HWX : Hid (Below w.heap.size w (w.alloc (.cells #[.int .i64 id, .int .i64 kind, .int .i64 links, .int .i64 size, .int .u64 (till : Nat), .bool shut] 25))) := below_new w _
  cases hr : Nd.right ⟨id, kind, links, size, till, shut⟩
  · have HNR := Lib.hid hr
    clear hr
    go_enter Try.func8, Try.ntmps8
    go_wp2_with fail
    refine (enc_no_as _ HNR.out).mono ?_
    rintro e w1 ⟨rfl, HB⟩
    have HX1 := Lib.hid (HBX.out.below HB.out HBX.out.lt)
    have HW1 := Lib.hid (HWX.out.trans (HB.out.mono HWX.out.size))
    clear HBX HWX HB
    have c0 : w1.cell? ⟨w.heap.size, 0, none⟩ = some (.int .i64 id) := HX1.out.cell 0
    have c1 : w1.cell? ⟨w.heap.size, 1, none⟩ = some (.int .i64 kind) := HX1.out.cell 1
    have c2 : w1.cell? ⟨w.heap.size, 2, none⟩ = some (.int .i64 links) := HX1.out.cell 2
    have c3 : w1.cell? ⟨w.heap.size, 3, none⟩ = some (.int .i64 size) := HX1.out.cell 3
    have c4 : w1.cell? ⟨w.heap.size, 4, none⟩ = some (.int .u64 (till : Nat)) := HX1.out.cell 4
    have c5 : w1.cell? ⟨w.heap.size, 5, none⟩ = some (.bool shut) := HX1.out.cell 5
    go_wp2_with fail
    clear c0 c1 c2 c3 c4 c5
    refine (refRight_as _ HNR.out).mono ?_
    rintro e w2 ⟨rfl, HB⟩
    have HX2 := Lib.hid (HX1.out.below HB.out HX1.out.lt)
    have HW2 := Lib.hid (HW1.out.trans (HB.out.mono HW1.out.size))
    clear HX1 HW1 HB
    have c0 : w2.cell? ⟨w.heap.size, 0, none⟩ = some (.int .i64 id) := HX2.out.cell 0
    have c1 : w2.cell? ⟨w.heap.size, 1, none⟩ = some (.int .i64 kind) := HX2.out.cell 1
    have c2 : w2.cell? ⟨w.heap.size, 2, none⟩ = some (.int .i64 links) := HX2.out.cell 2
    have c3 : w2.cell? ⟨w.heap.size, 3, none⟩ = some (.int .i64 size) := HX2.out.cell 3
    have c4 : w2.cell? ⟨w.heap.size, 4, none⟩ = some (.int .u64 (till : Nat)) := HX2.out.cell 4
    have c5 : w2.cell? ⟨w.heap.size, 5, none⟩ = some (.bool shut) := HX2.out.cell 5
    go_wp2_with fail
    clear c0 c1 c2 c3 c4 c5
    refine (right_as _ HNR.out).mono ?_
    rintro e w3 ⟨rfl, HB⟩
    have HF := Lib.hid (HW2.out.trans (HB.out.mono HW2.out.size))
    clear HX2 HW2 HB
    go_wp2_with fail
    go_ret
    exact ⟨rfl, HF.out⟩
  · have HRT := Lib.hid hr
    have HRR : Hid (Nd.Right ⟨id, kind, links, size, till, shut⟩) := by show Nd.Right _; simpa [Nd.right] using hr
    clear hr
    go_enter Try.func8, Try.ntmps8
    go_wp2_with fail
    refine (enc_ys C _ HRR.out).mono ?_
    rintro e w1 ⟨X, c, ys, rfl, hyc, hyl, HY, HRY, HB⟩
    have HX1 := Lib.hid (HBX.out.below HB.out HBX.out.lt)
    have HW1 := Lib.hid (HWX.out.trans (HB.out.mono HWX.out.size))
    have LY := Lib.hid hyl
    clear HBX HWX HB hyl
    have c0 : w1.cell? ⟨w.heap.size, 0, none⟩ = some (.int .i64 id) := HX1.out.cell 0
    have c1 : w1.cell? ⟨w.heap.size, 1, none⟩ = some (.int .i64 kind) := HX1.out.cell 1
    have c2 : w1.cell? ⟨w.heap.size, 2, none⟩ = some (.int .i64 links) := HX1.out.cell 2
    have c3 : w1.cell? ⟨w.heap.size, 3, none⟩ = some (.int .i64 size) := HX1.out.cell 3
    have c4 : w1.cell? ⟨w.heap.size, 4, none⟩ = some (.int .u64 (till : Nat)) := HX1.out.cell 4
    have c5 : w1.cell? ⟨w.heap.size, 5, none⟩ = some (.bool shut) := HX1.out.cell 5
    go_wp2_with fail
    clear c0 c1 c2 c3 c4 c5
    refine (refRight_as _ HRT.out).mono ?_
    rintro e wq ⟨rfl, HB⟩
    have HX2 := Lib.hid (HX1.out.below HB.out HX1.out.lt)
    have HW2 := Lib.hid (HW1.out.trans (HB.out.mono HW1.out.size))
    have HRY2 := Lib.hid (HRY.out.below HB.out)
    clear HX1 HW1 HB HRY
    go_upto_region 4 with (fail)
    refine Rg.wp_region_facts (by kernel_rfl) (fun opn => List.getD [Rg.val (.slice X ys.length c), Rg.val (.string (strOf (ys))), Rg.val (.agg #[.int .i64 id, .int .i64 kind, .int .i64 links, .int .i64 size, .int .u64 (till : Nat), .bool shut]), bRow (ys), Rg.val (.string (strOf (ys))), Rg.val (.bool true), Rg.val (.bool true), Rg.val (.int .i64 0), Rg.val (.bool true), Rg.val (.bool true), Rg.val (.bool true), Rg.val (.agg #[.int .i64 id, .int .i64 kind, .int .i64 links, .int .i64 size, .int .u64 (till : Nat), .bool shut]), Rg.val (.bool true), Rg.val (.bool true), Rg.val (.bool true)] opn Rg.any) [] [[], [(0, 25)], [], [(2, 27)], [(3, 28)], [(1, 26), (4, 29)], [(5, 30)], [(6, 31)], [(6, 31), (7, 32)], [(6, 31), (8, 33)], [(9, 34)], [(10, 35)], [(10, 35), (11, 36)], [(10, 35), (12, 37)], [(13, 38)]] [] (by kernel_rfl) (by rfl) (by kernel_rfl) ?_ ?_
    · intro fr ha
      have hz : fr.tmps.size = 39 := by rw [ha]; rfl
      have y1 : fr.eval (.tmp 1) = .pointer (some ⟨w.heap.size, 0, none⟩) := by rw [ha]; rfl
      have y3 : fr.eval (.tmp 3) = .slice X ys.length c := by rw [ha]; rfl
      have y4 : fr.eval (.tmp 4) = .int .i64 0 := by rw [ha]; rfl
      clear ha
      refine .cons ?_ (.cons ?_ (.cons ?_ (.cons ?_ (.cons ?_ (.cons ?_ (.cons ?_ (.cons ?_ (.cons ?_ (.cons ?_ (.cons ?_ (.cons ?_ (.cons ?_ (.cons ?_ (.cons ?_ (.nil)))))))))))))))
      · intro V w2 HL HH
        have HL : Later wq w2 := HL
        have tb3 : (Rg.putUse V [] fr).eval (.tmp 3) = .slice X ys.length c := (Rg.use_eval V fr 3 [] (by simp only [hz]; decide)).trans y3
        show Rg.Does1 _ _ V (Rg.putUse V [] fr) w2 _
        exact step_mv (.slice X ys.length c) (by simp only [execOp, tb3]; go_simp) rfl rfl rfl True.intro
      · intro V w2 HL HH
        have HL : Later wq w2 := HL
        have h0 : V 0 = .slice X ys.length c := HH.1
        have tb25 : (Rg.putUse V [(0, 25)] fr).eval (.tmp 25) = .slice X ys.length c := (Rg.use_eval V fr 25 [(0, 25)] (by simp only [hz]; decide)).trans h0
        show Rg.Does1 _ _ V (Rg.putUse V [(0, 25)] fr) w2 _
        exact step_str (ys) rfl tb25 (by first | rfl | simp) (HL.rd HRY2.out) rfl rfl rfl True.intro
      · intro V w2 HL HH
        have HL : Later wq w2 := HL
        have tb1 : (Rg.putUse V [] fr).eval (.tmp 1) = .pointer (some ⟨w.heap.size, 0, none⟩) := (Rg.use_eval V fr 1 [] (by simp only [hz]; decide)).trans y1
        show Rg.Does1 _ _ V (Rg.putUse V [] fr) w2 _
        have d0 : w2.cell? ⟨w.heap.size, 0, none⟩ = some (.int .i64 id) := (HX2.out.below HL HX2.out.lt).cell 0
        have d1 : w2.cell? ⟨w.heap.size, 1, none⟩ = some (.int .i64 kind) := (HX2.out.below HL HX2.out.lt).cell 1
        have d2 : w2.cell? ⟨w.heap.size, 2, none⟩ = some (.int .i64 links) := (HX2.out.below HL HX2.out.lt).cell 2
        have d3 : w2.cell? ⟨w.heap.size, 3, none⟩ = some (.int .i64 size) := (HX2.out.below HL HX2.out.lt).cell 3
        have d4 : w2.cell? ⟨w.heap.size, 4, none⟩ = some (.int .u64 (till : Nat)) := (HX2.out.below HL HX2.out.lt).cell 4
        have d5 : w2.cell? ⟨w.heap.size, 5, none⟩ = some (.bool shut) := (HX2.out.below HL HX2.out.lt).cell 5
        exact step_mv (.agg #[.int .i64 id, .int .i64 kind, .int .i64 links, .int .i64 size, .int .u64 (till : Nat), .bool shut]) (by simp only [execOp, tb1]; go_simp) rfl rfl rfl True.intro
      · intro V w2 HL HH
        have HL : Later wq w2 := HL
        have h2 : V 2 = .agg #[.int .i64 id, .int .i64 kind, .int .i64 links, .int .i64 size, .int .u64 (till : Nat), .bool shut] := HH.1
        have tb27 : (Rg.putUse V [(2, 27)] fr).eval (.tmp 27) = .agg #[.int .i64 id, .int .i64 kind, .int .i64 links, .int .i64 size, .int .u64 (till : Nat), .bool shut] := (Rg.use_eval V fr 27 [(2, 27)] (by simp only [hz]; decide)).trans h2
        show Rg.Does1 _ _ V (Rg.putUse V [(2, 27)] fr) w2 _
        exact step_row #[.agg #[.int .i64 id, .int .i64 kind, .int .i64 links, .int .i64 size, .int .u64 (till : Nat), .bool shut]] (ys) (fun args w => Rg.call_enter Try.func7 (by kernel_rfl) (by kernel_rfl) args w) rfl (by simp only [List.map_toArray, List.map_cons, List.map_nil, tb27]) (by exact LY.out) rfl rfl rfl True.intro ((refEnc_any ⟨id, kind, links, size, till, shut⟩ HOK.out w2).mono fun e w4 ⟨v, g1, g2, g3⟩ => ⟨v, g1, by rw [← HY.out] at g2; exact g2, g3⟩)
      · intro V w2 HL HH
        have HL : Later wq w2 := HL
        have h3 : (bRow (ys)).holds (V 3) w2 := HH.1
        obtain ⟨X3, k3, e3, hc3, hr3⟩ := bRow_form h3
        have tb28 : (Rg.putUse V [(3, 28)] fr).eval (.tmp 28) = .slice X3 (ys).length k3 := (Rg.use_eval V fr 28 [(3, 28)] (by simp only [hz]; decide)).trans e3
        show Rg.Does1 _ _ V (Rg.putUse V [(3, 28)] fr) w2 _
        exact step_str (ys) rfl tb28 (by first | rfl | simp) (hr3) rfl rfl rfl True.intro
      · intro V w2 HL HH
        have HL : Later wq w2 := HL
        have h1 : V 1 = .string (strOf (ys)) := HH.1
        have h4 : V 4 = .string (strOf (ys)) := HH.2.1
        have tb26 : (Rg.putUse V [(1, 26), (4, 29)] fr).eval (.tmp 26) = .string (strOf (ys)) := (Rg.use_eval V fr 26 [(1, 26), (4, 29)] (by simp only [hz]; decide)).trans h1
        have tb29 : (Rg.putUse V [(1, 26), (4, 29)] fr).eval (.tmp 29) = .string (strOf (ys)) := (Rg.use_eval V fr 29 [(1, 26), (4, 29)] (by simp only [hz]; decide)).trans h4
        show Rg.Does1 _ _ V (Rg.putUse V [(1, 26), (4, 29)] fr) w2 _
        exact step_mv (.bool true) (by simp only [execOp, tb26, tb29]; go_simp) rfl rfl rfl True.intro
      · intro V w2 HL HH
        have HL : Later wq w2 := HL
        have h5 : V 5 = .bool true := HH.1
        have tb30 : (Rg.putUse V [(5, 30)] fr).eval (.tmp 30) = .bool true := (Rg.use_eval V fr 30 [(5, 30)] (by simp only [hz]; decide)).trans h5
        show Rg.Does1 _ _ V (Rg.putUse V [(5, 30)] fr) w2 _
        exact step_mv (.bool true) (by simp only [execOp, tb30]; go_simp) rfl rfl rfl True.intro
      · intro V w2 HL HH
        have HL : Later wq w2 := HL
        have h6 : V 6 = .bool true := HH.1
        have tb4 : (Rg.putUse V [(6, 31)] fr).eval (.tmp 4) = .int .i64 0 := (Rg.use_eval V fr 4 [(6, 31)] (by simp only [hz]; decide)).trans y4
        show Rg.Does1 _ _ V (Rg.putUse V [(6, 31)] fr) w2 _
        exact step_mv (.int .i64 0) (by simp only [execOp, tb4]; go_simp) rfl rfl rfl h6
      · intro V w2 HL HH
        have HL : Later wq w2 := HL
        have h6 : V 6 = .bool true := HH.1
        have h7 : V 7 = .int .i64 0 := HH.2.1
        have tb32 : (Rg.putUse V [(6, 31), (7, 32)] fr).eval (.tmp 32) = .int .i64 0 := (Rg.use_eval V fr 32 [(6, 31), (7, 32)] (by simp only [hz]; decide)).trans h7
        show Rg.Does1 _ _ V (Rg.putUse V [(6, 31), (7, 32)] fr) w2 _
        exact step_mv (.bool true) (by simp only [execOp, tb32]; go_simp) rfl rfl rfl h6
      · intro V w2 HL HH
        have HL : Later wq w2 := HL
        have h6 : V 6 = .bool true := HH.1
        have h8 : V 8 = .bool true := HH.2.1
        have tb31 : (Rg.putUse V [(6, 31), (8, 33)] fr).eval (.tmp 31) = .bool true := (Rg.use_eval V fr 31 [(6, 31), (8, 33)] (by simp only [hz]; decide)).trans h6
        have tb33 : (Rg.putUse V [(6, 31), (8, 33)] fr).eval (.tmp 33) = .bool true := (Rg.use_eval V fr 33 [(6, 31), (8, 33)] (by simp only [hz]; decide)).trans h8
        show Rg.Does1 _ _ V (Rg.putUse V [(6, 31), (8, 33)] fr) w2 _
        exact step_mv (.bool true) (by simp only [execOp, tb31, tb33]; go_simp) rfl rfl rfl True.intro
      · intro V w2 HL HH
        have HL : Later wq w2 := HL
        have h9 : V 9 = .bool true := HH.1
        have tb34 : (Rg.putUse V [(9, 34)] fr).eval (.tmp 34) = .bool true := (Rg.use_eval V fr 34 [(9, 34)] (by simp only [hz]; decide)).trans h9
        show Rg.Does1 _ _ V (Rg.putUse V [(9, 34)] fr) w2 _
        exact step_mv (.bool true) (by simp only [execOp, tb34]; go_simp) rfl rfl rfl True.intro
      · intro V w2 HL HH
        have HL : Later wq w2 := HL
        have h10 : V 10 = .bool true := HH.1
        have tb1 : (Rg.putUse V [(10, 35)] fr).eval (.tmp 1) = .pointer (some ⟨w.heap.size, 0, none⟩) := (Rg.use_eval V fr 1 [(10, 35)] (by simp only [hz]; decide)).trans y1
        show Rg.Does1 _ _ V (Rg.putUse V [(10, 35)] fr) w2 _
        have d0 : w2.cell? ⟨w.heap.size, 0, none⟩ = some (.int .i64 id) := (HX2.out.below HL HX2.out.lt).cell 0
        have d1 : w2.cell? ⟨w.heap.size, 1, none⟩ = some (.int .i64 kind) := (HX2.out.below HL HX2.out.lt).cell 1
        have d2 : w2.cell? ⟨w.heap.size, 2, none⟩ = some (.int .i64 links) := (HX2.out.below HL HX2.out.lt).cell 2
        have d3 : w2.cell? ⟨w.heap.size, 3, none⟩ = some (.int .i64 size) := (HX2.out.below HL HX2.out.lt).cell 3
        have d4 : w2.cell? ⟨w.heap.size, 4, none⟩ = some (.int .u64 (till : Nat)) := (HX2.out.below HL HX2.out.lt).cell 4
        have d5 : w2.cell? ⟨w.heap.size, 5, none⟩ = some (.bool shut) := (HX2.out.below HL HX2.out.lt).cell 5
        exact step_mv (.agg #[.int .i64 id, .int .i64 kind, .int .i64 links, .int .i64 size, .int .u64 (till : Nat), .bool shut]) (by simp only [execOp, tb1]; go_simp) rfl rfl rfl h10
      · intro V w2 HL HH
        have HL : Later wq w2 := HL
        have h10 : V 10 = .bool true := HH.1
        have h11 : V 11 = .agg #[.int .i64 id, .int .i64 kind, .int .i64 links, .int .i64 size, .int .u64 (till : Nat), .bool shut] := HH.2.1
        have tb36 : (Rg.putUse V [(10, 35), (11, 36)] fr).eval (.tmp 36) = .agg #[.int .i64 id, .int .i64 kind, .int .i64 links, .int .i64 size, .int .u64 (till : Nat), .bool shut] := (Rg.use_eval V fr 36 [(10, 35), (11, 36)] (by simp only [hz]; decide)).trans h11
        show Rg.Does1 _ _ V (Rg.putUse V [(10, 35), (11, 36)] fr) w2 _
        exact step_num #[.agg #[.int .i64 id, .int .i64 kind, .int .i64 links, .int .i64 size, .int .u64 (till : Nat), .bool shut]] (.bool true) (fun args w => Rg.call_enter Try.func20 (by kernel_rfl) (by kernel_rfl) args w) rfl (by simp only [List.map_toArray, List.map_cons, List.map_nil, tb36]) rfl rfl rfl h10 ((right_as w2 HRT.out).mono fun e w4 ⟨g1, g2⟩ => ⟨g1, g2.out⟩)
      · intro V w2 HL HH
        have HL : Later wq w2 := HL
        have h10 : V 10 = .bool true := HH.1
        have h12 : V 12 = .bool true := HH.2.1
        have tb35 : (Rg.putUse V [(10, 35), (12, 37)] fr).eval (.tmp 35) = .bool true := (Rg.use_eval V fr 35 [(10, 35), (12, 37)] (by simp only [hz]; decide)).trans h10
        have tb37 : (Rg.putUse V [(10, 35), (12, 37)] fr).eval (.tmp 37) = .bool true := (Rg.use_eval V fr 37 [(10, 35), (12, 37)] (by simp only [hz]; decide)).trans h12
        show Rg.Does1 _ _ V (Rg.putUse V [(10, 35), (12, 37)] fr) w2 _
        exact step_mv (.bool true) (by simp only [execOp, tb35, tb37]; go_simp) rfl rfl rfl True.intro
      · intro V w2 HL HH
        have HL : Later wq w2 := HL
        have h13 : V 13 = .bool true := HH.1
        have tb38 : (Rg.putUse V [(13, 38)] fr).eval (.tmp 38) = .bool true := (Rg.use_eval V fr 38 [(13, 38)] (by simp only [hz]; decide)).trans h13
        show Rg.Does1 _ _ V (Rg.putUse V [(13, 38)] fr) w2 _
        exact step_mv (.bool true) (by simp only [execOp, tb38]; go_simp) rfl rfl rfl True.intro
    · intro V w2 HI
      have h14 : V 14 = .bool true := HI.get 14 (by decide) (by rfl)
      have hlt := later_drew HI.later
      simp only [Rg.putList, Act.put, List.setIfInBounds_toArray, List.set_cons_zero, List.set_cons_succ, Nat.zero_add, Nat.reduceAdd]
      rw [h14]
      have HF := Lib.hid (HW2.out.trans (hlt.mono HW2.out.size))
      clear HI hlt
      go_wp2_with fail
      go_ret
      exact ⟨rfl, HF.out⟩
end Go.Proofs.Ytopcipaaffpiaaa

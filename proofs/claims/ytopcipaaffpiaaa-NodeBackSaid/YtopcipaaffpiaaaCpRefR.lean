/-
  OWN WORK. The document's own reader (permafrostref4), by its contracts.
-/
import Derived.Test.YtopcipaaffpiaaaCpRefW
namespace Go.Proofs.Ytopcipaaffpiaaa
open Go.RowKit
/-- A reader that lies at g: its bytes, where it stands, its refusal. -/
def RHd (g : Nat) (T : TypeId) (A : Option Addr) (L : List UInt8) (cap : Nat) (s : Co.Rs) (w : World) : Prop :=
  ∃ k, k ≤ L.length ∧ s.rem = L.drop k ∧ Blk w g T [.slice A L.length cap, .int .i64 (k : Nat), .int .i64 (s.why : Nat)]
def RawSaid (g : Nat) (T : TypeId) (A : Option Addr) (L : List UInt8) (cap : Nat) (r : List UInt8 × Co.Rs) (w : World) (e : Ending) (w' : World) : Prop :=
  ∃ v, e = .returned v ∧ w'.ownsRow w.heap.size 5 1 v r.1.length (Lib.byteCells r.1) ∧ Keeps w w' g ∧ RHd g T A L cap r.2 w'
set_option maxHeartbeats 1000000 in
set_option maxRecDepth 100000 in
theorem refRaw_any (w : World) (g : Nat) (A : Option Addr) (L : List UInt8) (cap k why : Nat) (n : Int) (hb : Blk w g 60 [.slice A L.length cap, .int .i64 (k : Nat), .int .i64 (why : Nat)])
    (hr : Rd w A L) (hA : 0 < L.length → A.map (·.block) ≠ some g) (hk : k ≤ L.length) (hcap : L.length ≤ cap) (hL : L.length ≤ 1099511620000) (hn : n ≤ 1099511620000) (hn0 : -1099511620000 ≤ n) :
    Calls Try.prog 46 #[.pointer (some ⟨g, 0, none⟩), .int .i64 n] w (RawSaid g 60 A L cap (Co.raw n ⟨L.drop k, why⟩) w) := by
  have c0 : w.cell? ⟨g, 0, none⟩ = some (.slice A L.length cap) := hb.cell 0
  have c1 : w.cell? ⟨g, 1, none⟩ = some (.int .i64 (k : Nat)) := hb.cell 1
  have c2 : w.cell? ⟨g, 2, none⟩ = some (.int .i64 (why : Nat)) := hb.cell 2
  have f1 : w.frozen? ⟨g, 1, none⟩ = false := hb.frozen 1
  have f2 : w.frozen? ⟨g, 2, none⟩ = false := hb.frozen 2
  have HB := Lib.hid hb
  have HR := Lib.hid hr
  have HA := Lib.hid hA
  clear hb hr hA
  by_cases h1 : why = 0
  · subst h1
    by_cases h2 : n < 1
    · go_enter Try.func46, Try.ntmps46
      go_wp2_with fail
      go_ret
      have e : Co.raw n ⟨L.drop k, 0⟩ = ([], ⟨L.drop k, 0⟩) := by unfold Co.raw; rw [if_pos (.inr h2)]
      rw [e]
      exact ⟨_, rfl, own_nil _ _, Keeps.refl _ _, k, hk, rfl, HB.out⟩
    · by_cases h3 : ((L.length : Nat) : Int) - (k : Nat) < n
      · go_enter Try.func46, Try.ntmps46
        go_upto_region 3 with (fail)
        go_quiet (fail)
        have c2' : (w.drewN nq).cell? ⟨g, 2, none⟩ = some (.int .i64 (0 : Nat)) := c2
        have f2' : (w.drewN nq).frozen? ⟨g, 2, none⟩ = false := f2
        go_wp2_with fail
        go_ret
        have e : Co.raw n ⟨L.drop k, 0⟩ = ([], ⟨L.drop k, 10⟩) := by
          unfold Co.raw
          rw [if_neg (by simp; omega), if_pos (by rw [List.length_drop]; omega)]
        rw [e]
        exact ⟨_, rfl, own_nil _ _, ((Keeps.refl _ _).drewN _).setCell _ _, k, hk, rfl, (HB.out.drewN _).set_ _ _⟩
      · obtain ⟨q, rfl⟩ : ∃ q : Nat, n = (q : Nat) := ⟨n.toNat, by omega⟩
        obtain ⟨A2, r, cz, hsl, hrc, HRD, _, HEQ, hrl, hkr⟩ := part_lh A L cap k (k + q) (by omega) (by omega) hcap
        have hrr : r = (L.drop k).take q := by
          have h4 := congrArg (List.drop k) HEQ.out
          rw [List.drop_take, Nat.add_sub_cancel_left, List.drop_left' (by rw [List.length_take]; omega)] at h4
          exact h4.symm
        have HRR := Lib.hid hrr
        have HKR := Lib.hid hkr
        clear hrr hkr HEQ
        go_enter Try.func46, Try.ntmps46
        go_upto_region 3 with (fail)
        go_quiet (fail)
        go_upto_region 6 with (fail)
        refine wp_world (fun W => Hid (Blk W g 60 [.slice A L.length cap, .int .i64 (k : Nat), .int .i64 (0 : Nat)]) ∧ Hid (Rd W A L) ∧ Hid (Below w.heap.size w W)) ⟨HB.out.drewN _, HR.out.below (below_drewN w _), below_drewN w _⟩ ?_
        clear c0 c1 c2 f1 f2 HB HR
        rintro w0 ⟨HB, HR, HW⟩
        refine Rg.wp_region_facts (by kernel_rfl) (fun opn => List.getD [bRow ([]), Rg.val (.pointer (some ⟨g, 0, none⟩)), Rg.val (.pointer (some ⟨g, 0, none⟩)), Rg.val (.pointer (some ⟨g, 0, none⟩)), Rg.val (.slice A L.length cap), Rg.val (.pointer (some ⟨g, 0, none⟩)), Rg.val (.pointer (some ⟨g, 0, none⟩)), Rg.val (.pointer (some ⟨g, 1, none⟩)), Rg.val (.int .i64 (k : Nat)), Rg.val (.pointer (some ⟨g, 0, none⟩)), Rg.val (.pointer (some ⟨g, 0, none⟩)), Rg.val (.pointer (some ⟨g, 1, none⟩)), Rg.val (.int .i64 (k : Nat)), Rg.val (.int .i64 (q : Nat)), Rg.val (.int .i64 ((k + q : Nat) : Int)), Rg.val (.slice A2 r.length cz), bRow (r), Rg.any] opn Rg.any) [(17, 16, fun v => v)] [[], [], [(1, 31)], [(2, 32)], [(3, 33)], [], [(5, 35)], [(6, 36)], [(7, 37)], [], [(9, 39)], [(10, 40)], [(11, 41)], [], [(12, 42), (13, 43)], [(4, 34), (8, 38), (14, 44)], [(0, 30), (15, 45)], [(16, 46)]] [(16, 0)] (by kernel_rfl) (by rfl) (by kernel_rfl) ?_ ?_
        · intro fr ha
          have hz : fr.tmps.size = 57 := by rw [ha]; rfl
          have y0 : fr.eval (.tmp 0) = .pointer (some ⟨g, 0, none⟩) := by rw [ha]; rfl
          have y1 : fr.eval (.tmp 1) = .int .i64 (q : Nat) := by rw [ha]; rfl
          clear ha
          refine .cons ?_ (.cons ?_ (.cons ?_ (.cons ?_ (.cons ?_ (.cons ?_ (.cons ?_ (.cons ?_ (.cons ?_ (.cons ?_ (.cons ?_ (.cons ?_ (.cons ?_ (.cons ?_ (.cons ?_ (.cons ?_ (.cons ?_ (.cons ?_ (.nil))))))))))))))))))
          · intro V w2 HL HH
            have HL : Later w0 w2 := HL
            show Rg.Does1 _ _ V (Rg.putUse V [] fr) w2 _
            exact step_none rfl rfl rfl rfl True.intro
          · intro V w2 HL HH
            have HL : Later w0 w2 := HL
            have tb0 : (Rg.putUse V [] fr).eval (.tmp 0) = .pointer (some ⟨g, 0, none⟩) := (Rg.use_eval V fr 0 [] (by simp only [hz]; decide)).trans y0
            show Rg.Does1 _ _ V (Rg.putUse V [] fr) w2 _
            exact step_mv (.pointer (some ⟨g, 0, none⟩)) (by simp only [execOp, tb0]; go_simp) rfl rfl rfl True.intro
          · intro V w2 HL HH
            have HL : Later w0 w2 := HL
            have h1 : V 1 = .pointer (some ⟨g, 0, none⟩) := HH.1
            have tb31 : (Rg.putUse V [(1, 31)] fr).eval (.tmp 31) = .pointer (some ⟨g, 0, none⟩) := (Rg.use_eval V fr 31 [(1, 31)] (by simp only [hz]; decide)).trans h1
            show Rg.Does1 _ _ V (Rg.putUse V [(1, 31)] fr) w2 _
            exact step_mv (.pointer (some ⟨g, 0, none⟩)) (by simp only [execOp, tb31]; go_simp) rfl rfl rfl True.intro
          · intro V w2 HL HH
            have HL : Later w0 w2 := HL
            have h2 : V 2 = .pointer (some ⟨g, 0, none⟩) := HH.1
            have tb32 : (Rg.putUse V [(2, 32)] fr).eval (.tmp 32) = .pointer (some ⟨g, 0, none⟩) := (Rg.use_eval V fr 32 [(2, 32)] (by simp only [hz]; decide)).trans h2
            show Rg.Does1 _ _ V (Rg.putUse V [(2, 32)] fr) w2 _
            exact step_mv (.pointer (some ⟨g, 0, none⟩)) (by simp only [execOp, tb32]; go_simp) rfl rfl rfl True.intro
          · intro V w2 HL HH
            have HL : Later w0 w2 := HL
            have h3 : V 3 = .pointer (some ⟨g, 0, none⟩) := HH.1
            have tb33 : (Rg.putUse V [(3, 33)] fr).eval (.tmp 33) = .pointer (some ⟨g, 0, none⟩) := (Rg.use_eval V fr 33 [(3, 33)] (by simp only [hz]; decide)).trans h3
            show Rg.Does1 _ _ V (Rg.putUse V [(3, 33)] fr) w2 _
            have cl : w2.cell? ⟨g, 0, none⟩ = some (.slice A L.length cap) := (HB.out.below HL HB.out.lt).cell 0
            exact step_mv (.slice A L.length cap) (by simp only [execOp, tb33]; go_simp) rfl rfl rfl True.intro
          · intro V w2 HL HH
            have HL : Later w0 w2 := HL
            have tb0 : (Rg.putUse V [] fr).eval (.tmp 0) = .pointer (some ⟨g, 0, none⟩) := (Rg.use_eval V fr 0 [] (by simp only [hz]; decide)).trans y0
            show Rg.Does1 _ _ V (Rg.putUse V [] fr) w2 _
            exact step_mv (.pointer (some ⟨g, 0, none⟩)) (by simp only [execOp, tb0]; go_simp) rfl rfl rfl True.intro
          · intro V w2 HL HH
            have HL : Later w0 w2 := HL
            have h5 : V 5 = .pointer (some ⟨g, 0, none⟩) := HH.1
            have tb35 : (Rg.putUse V [(5, 35)] fr).eval (.tmp 35) = .pointer (some ⟨g, 0, none⟩) := (Rg.use_eval V fr 35 [(5, 35)] (by simp only [hz]; decide)).trans h5
            show Rg.Does1 _ _ V (Rg.putUse V [(5, 35)] fr) w2 _
            exact step_mv (.pointer (some ⟨g, 0, none⟩)) (by simp only [execOp, tb35]; go_simp) rfl rfl rfl True.intro
          · intro V w2 HL HH
            have HL : Later w0 w2 := HL
            have h6 : V 6 = .pointer (some ⟨g, 0, none⟩) := HH.1
            have tb36 : (Rg.putUse V [(6, 36)] fr).eval (.tmp 36) = .pointer (some ⟨g, 0, none⟩) := (Rg.use_eval V fr 36 [(6, 36)] (by simp only [hz]; decide)).trans h6
            show Rg.Does1 _ _ V (Rg.putUse V [(6, 36)] fr) w2 _
            exact step_mv (.pointer (some ⟨g, 1, none⟩)) (by simp only [execOp, tb36]; go_simp) rfl rfl rfl True.intro
          · intro V w2 HL HH
            have HL : Later w0 w2 := HL
            have h7 : V 7 = .pointer (some ⟨g, 1, none⟩) := HH.1
            have tb37 : (Rg.putUse V [(7, 37)] fr).eval (.tmp 37) = .pointer (some ⟨g, 1, none⟩) := (Rg.use_eval V fr 37 [(7, 37)] (by simp only [hz]; decide)).trans h7
            show Rg.Does1 _ _ V (Rg.putUse V [(7, 37)] fr) w2 _
            have cl : w2.cell? ⟨g, 1, none⟩ = some (.int .i64 (k : Nat)) := (HB.out.below HL HB.out.lt).cell 1
            exact step_mv (.int .i64 (k : Nat)) (by simp only [execOp, tb37]; go_simp) rfl rfl rfl True.intro
          · intro V w2 HL HH
            have HL : Later w0 w2 := HL
            have tb0 : (Rg.putUse V [] fr).eval (.tmp 0) = .pointer (some ⟨g, 0, none⟩) := (Rg.use_eval V fr 0 [] (by simp only [hz]; decide)).trans y0
            show Rg.Does1 _ _ V (Rg.putUse V [] fr) w2 _
            exact step_mv (.pointer (some ⟨g, 0, none⟩)) (by simp only [execOp, tb0]; go_simp) rfl rfl rfl True.intro
          · intro V w2 HL HH
            have HL : Later w0 w2 := HL
            have h9 : V 9 = .pointer (some ⟨g, 0, none⟩) := HH.1
            have tb39 : (Rg.putUse V [(9, 39)] fr).eval (.tmp 39) = .pointer (some ⟨g, 0, none⟩) := (Rg.use_eval V fr 39 [(9, 39)] (by simp only [hz]; decide)).trans h9
            show Rg.Does1 _ _ V (Rg.putUse V [(9, 39)] fr) w2 _
            exact step_mv (.pointer (some ⟨g, 0, none⟩)) (by simp only [execOp, tb39]; go_simp) rfl rfl rfl True.intro
          · intro V w2 HL HH
            have HL : Later w0 w2 := HL
            have h10 : V 10 = .pointer (some ⟨g, 0, none⟩) := HH.1
            have tb40 : (Rg.putUse V [(10, 40)] fr).eval (.tmp 40) = .pointer (some ⟨g, 0, none⟩) := (Rg.use_eval V fr 40 [(10, 40)] (by simp only [hz]; decide)).trans h10
            show Rg.Does1 _ _ V (Rg.putUse V [(10, 40)] fr) w2 _
            exact step_mv (.pointer (some ⟨g, 1, none⟩)) (by simp only [execOp, tb40]; go_simp) rfl rfl rfl True.intro
          · intro V w2 HL HH
            have HL : Later w0 w2 := HL
            have h11 : V 11 = .pointer (some ⟨g, 1, none⟩) := HH.1
            have tb41 : (Rg.putUse V [(11, 41)] fr).eval (.tmp 41) = .pointer (some ⟨g, 1, none⟩) := (Rg.use_eval V fr 41 [(11, 41)] (by simp only [hz]; decide)).trans h11
            show Rg.Does1 _ _ V (Rg.putUse V [(11, 41)] fr) w2 _
            have cl : w2.cell? ⟨g, 1, none⟩ = some (.int .i64 (k : Nat)) := (HB.out.below HL HB.out.lt).cell 1
            exact step_mv (.int .i64 (k : Nat)) (by simp only [execOp, tb41]; go_simp) rfl rfl rfl True.intro
          · intro V w2 HL HH
            have HL : Later w0 w2 := HL
            have tb1 : (Rg.putUse V [] fr).eval (.tmp 1) = .int .i64 (q : Nat) := (Rg.use_eval V fr 1 [] (by simp only [hz]; decide)).trans y1
            show Rg.Does1 _ _ V (Rg.putUse V [] fr) w2 _
            exact step_mv (.int .i64 (q : Nat)) (by simp only [execOp, tb1]; go_simp) rfl rfl rfl True.intro
          · intro V w2 HL HH
            have HL : Later w0 w2 := HL
            have h12 : V 12 = .int .i64 (k : Nat) := HH.1
            have h13 : V 13 = .int .i64 (q : Nat) := HH.2.1
            have tb42 : (Rg.putUse V [(12, 42), (13, 43)] fr).eval (.tmp 42) = .int .i64 (k : Nat) := (Rg.use_eval V fr 42 [(12, 42), (13, 43)] (by simp only [hz]; decide)).trans h12
            have tb43 : (Rg.putUse V [(12, 42), (13, 43)] fr).eval (.tmp 43) = .int .i64 (q : Nat) := (Rg.use_eval V fr 43 [(12, 42), (13, 43)] (by simp only [hz]; decide)).trans h13
            show Rg.Does1 _ _ V (Rg.putUse V [(12, 42), (13, 43)] fr) w2 _
            have hwr : IntKind.i64.wrap (((k : Nat) : Int) + ((q : Nat) : Int)) = ((k + q : Nat) : Int) := (IntWalk.i64_in _ (by omega)).trans (by omega)
            exact step_mv (.int .i64 ((k + q : Nat) : Int)) (by simp only [execOp, tb42, tb43]; go_simp) rfl rfl rfl True.intro
          · intro V w2 HL HH
            have HL : Later w0 w2 := HL
            have h4 : V 4 = .slice A L.length cap := HH.1
            have h8 : V 8 = .int .i64 (k : Nat) := HH.2.1
            have h14 : V 14 = .int .i64 ((k + q : Nat) : Int) := HH.2.2.1
            have tb34 : (Rg.putUse V [(4, 34), (8, 38), (14, 44)] fr).eval (.tmp 34) = .slice A L.length cap := (Rg.use_eval V fr 34 [(4, 34), (8, 38), (14, 44)] (by simp only [hz]; decide)).trans h4
            have tb38 : (Rg.putUse V [(4, 34), (8, 38), (14, 44)] fr).eval (.tmp 38) = .int .i64 (k : Nat) := (Rg.use_eval V fr 38 [(4, 34), (8, 38), (14, 44)] (by simp only [hz]; decide)).trans h8
            have tb44 : (Rg.putUse V [(4, 34), (8, 38), (14, 44)] fr).eval (.tmp 44) = .int .i64 ((k + q : Nat) : Int) := (Rg.use_eval V fr 44 [(4, 34), (8, 38), (14, 44)] (by simp only [hz]; decide)).trans h14
            show Rg.Does1 _ _ V (Rg.putUse V [(4, 34), (8, 38), (14, 44)] fr) w2 _
            exact step_sllh rfl tb34 tb38 tb44 (hsl.out w2) rfl rfl rfl True.intro
          · intro V w2 HL HH
            have HL : Later w0 w2 := HL
            have h0 : (bRow ([])).holds (V 0) w2 := HH.1
            obtain ⟨X0, k0, e0, hc0, hr0⟩ := bRow_form h0
            have h15 : V 15 = .slice A2 r.length cz := HH.2.1
            have tb30 : (Rg.putUse V [(0, 30), (15, 45)] fr).eval (.tmp 30) = .slice X0 ([]).length k0 := (Rg.use_eval V fr 30 [(0, 30), (15, 45)] (by simp only [hz]; decide)).trans e0
            have tb45 : (Rg.putUse V [(0, 30), (15, 45)] fr).eval (.tmp 45) = .slice A2 r.length cz := (Rg.use_eval V fr 45 [(0, 30), (15, 45)] (by simp only [hz]; decide)).trans h15
            show Rg.Does1 _ _ V (Rg.putUse V [(0, 30), (15, 45)] fr) w2 _
            have bs : (Rg.putUse V [(0, 30), (15, 45)] fr).eval (.tmp 30) = V 0 := Rg.use_eval V fr 30 [(0, 30), (15, 45)] (by simp only [hz]; decide)
            exact step_app (i := 0) ([]) (r) (r) (by simp) rfl bs tb45 rfl h0 (HRD.out _ (HL.rd HR.out)) (by first | omega | (simp; omega)) rfl rfl rfl rfl True.intro
          · intro V w2 HL HH
            have HL : Later w0 w2 := HL
            have h16 : (bRow (r)).holds (V 16) w2 := HH.1
            obtain ⟨X16, k16, e16, hc16, hr16⟩ := bRow_form h16
            have tb46 : (Rg.putUse V [(16, 46)] fr).eval (.tmp 46) = V 16 := (Rg.use_eval V fr 46 [(16, 46)] (by simp only [hz]; decide)).trans rfl
            show Rg.Does1 _ _ V (Rg.putUse V [(16, 46)] fr) w2 _
            exact step_as 16 (fun v => v) rfl (by simp only [execOp, tb46]; go_simp) rfl rfl True.intro
        · intro V w2 HI
          have h17 : V 17 = V 16 := HI.same 17 16 (fun v => v) (by decide) (by simp)
          have h16 : (bRow r).holds (V 16) w2 := HI.get 16 (by decide) (by rfl)
          have L16 : Rg.Live (Rg.consOf [(16, 0)]) (fun i => i < 18) 16 := ⟨by decide, fun k _ hk => by have := Rg.consOf_mem hk; simp at this⟩
          have hf16 : ∀ b, (V 16).ownBlock = some b → w0.heap.size ≤ b := fun b hb => (HI.lt 16 b L16 hb).1
          have hlt := later_drew HI.later
          simp only [Rg.putList, Act.put, List.setIfInBounds_toArray, List.set_cons_zero, List.set_cons_succ, Nat.zero_add, Nat.reduceAdd]
          rw [h17]
          obtain ⟨x, hx⟩ : ∃ x, x = V 16 := ⟨_, rfl⟩
          rw [← hx] at h16 hf16 ⊢
          have HO : Hid (w2.ownsRow w.heap.size 5 1 x r.length (Lib.byteCells r)) := own_up h16 fun b hb => Nat.le_trans HW.out.size (hf16 b hb)
          have HOF : Hid (∀ b, x.ownBlock = some b → w0.heap.size ≤ b) := hf16
          have hb2 : Blk w2 g 60 [.slice A L.length cap, .int .i64 (k : Nat), .int .i64 (0 : Nat)] := HB.out.below hlt HB.out.lt
          have c0 : w2.cell? ⟨g, 0, none⟩ = some (.slice A L.length cap) := hb2.cell 0
          have c1 : w2.cell? ⟨g, 1, none⟩ = some (.int .i64 (k : Nat)) := hb2.cell 1
          have f1 : w2.frozen? ⟨g, 1, none⟩ = false := hb2.frozen 1
          have HB2 := Lib.hid hb2
          have HG := Lib.hid HB.out.lt
          have HLT := Lib.hid hlt
          clear HI hx h16 hf16 L16 h17 hlt hb2 HB HR HRD hsl
          go_wp2_with fail
          go_ret
          have e : Co.raw (q : Int) ⟨L.drop k, 0⟩ = (r, ⟨L.drop (k + q), 0⟩) := by
            unfold Co.raw
            rw [if_neg (by simp; omega), if_neg (by rw [List.length_drop]; omega)]
            simp only [Int.toNat_natCast, List.drop_drop]
            rw [← HRR.out]
          rw [e]
          exact ⟨_, rfl, own_far HO.out _ (fun h => Nat.not_le.2 HG.out (HOF.out _ h)) _, ((Keeps.of_below (HW.out.trans (HLT.out.mono HW.out.size))).setCell _ _), k + q, by have := HKR.out; omega, rfl, HB2.out.set_ 1 _⟩
  · have hw : ((why : Nat) : Int) ≠ 0 := by omega
    go_enter Try.func46, Try.ntmps46
    go_wp2_with fail
    go_ret
    have e : Co.raw n ⟨L.drop k, why⟩ = ([], ⟨L.drop k, why⟩) := by unfold Co.raw; rw [if_pos (.inl h1)]
    rw [e]
    exact ⟨_, rfl, own_nil _ _, Keeps.refl _ _, k, hk, rfl, HB.out⟩
end Go.Proofs.Ytopcipaaffpiaaa

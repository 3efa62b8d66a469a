/-
  OWN WORK. The law DiskFlush, walked, given what the program's own disk does.
-/
import Derived.Test.YtenedgapjbmpgaaDiKnown
import Derived.Test.YtenedgapjbmpgaaDiArgs
import Derived.Test.YtenedgapjbmpgaaBaWithin
import Derived.Deep.CutBlock
namespace Go.Proofs.Ytenedgapjbmpgaa
open Go.RowKit Rc Di

/-- Between the calls: the disk, and the image of what is safe. -/
def FlI (D : DSaid) (v : Value) (w0 : World) (t : Value) (n : Nat) (w : World) : Prop :=
  ∃ st B X c l, Ob.One D.toObj v w0 w B st B w ∧ t = .slice X l.length c ∧ l.length ≤ c ∧ Ob.Kept w B X l ∧ l = st.safe.flatten ∧ st.writes ≤ n ∧ st.dirty.length = 64

set_option maxHeartbeats 8000000 in
set_option maxRecDepth 100000 in
theorem flush_any (D : DSaid) (w : World) (ps : List AskD) (A1 : Option Addr) (c1 : Nat) (hp : AsksIn w A1 ps) (hpl : ps.length ≤ 9223372036854775807) :
    Calls Try.prog 8 #[.slice A1 ps.length c1] w fun e w' => e = .returned (.bool true) ∧ Below w.heap.size w w' := by
  have HP := Lib.hid hp
  have HPL := Lib.hid hpl
  clear hp hpl
  go_enter Try.func8, Try.ntmps8
  go_wp2_with fail
  refine (D.new64 w).mono ?_
  rintro e w1 ⟨a, B0, rfl, HT0⟩
  go_wp2_with fail
  refine (D.image HT0.out.at_).mono ?_
  rintro e w2 ⟨x, rfl, hf, hb⟩
  obtain ⟨X, c, rfl, hc, k⟩ := HT0.out.fresh hb hf
  have HI0 : Hid (FlI D (.pointer (some a)) w (.slice X (Dk.new 64).image.length c) 0 w2) := ⟨Dk.new 64, B0, X, c, _, (HT0.out.later hb).now, rfl, hc, k, rfl, Nat.le_refl _, new_dirty 64⟩
  obtain ⟨t0, ht0⟩ : ∃ t, t = Value.slice X (Dk.new 64).image.length c := ⟨_, rfl⟩
  rw [← ht0] at HI0 ⊢
  clear hf hb k hc HT0 ht0
  go_upto_block 0 with (fail)
  go_cut [5, 6] (fun t5 t6 wx => ∃ i : Nat, t6 = .int .i64 (i : Nat) ∧ Hid (FlI D (.pointer (some a)) w t5 40 wx))
  case first =>
    go_wp2_with fail
    go_loopw [5, 6] (fun t5 t6 wr => ∃ j : Nat, j ≤ ps.length ∧ j ≤ 40 ∧ t6 = .int .i64 (j : Nat) ∧ Hid (FlI D (.pointer (some a)) w t5 j wr)) (fun _ t6 _ => 40 - (intOf t6).toNat)
    case atStart => exact ⟨0, by omega, by omega, rfl, HI0⟩
    case round =>
      obtain ⟨j, hj, hj40, rfl, HI⟩ := hrel
      by_cases hlt : j < ps.length
      · by_cases hlt2 : j < 40
        · obtain ⟨b, off, rfl, hok⟩ := HP.out.plain (by omega)
          obtain ⟨p, hpj⟩ : ∃ p, ps[j]? = some p := ⟨_, List.getElem?_eq_getElem hlt⟩
          have hk := hok j p hpj
          obtain ⟨st, B, X1, c2, l, h1, rfl, hc, hkp, hl, hw, hd⟩ := HI.out
          have HT := Lib.hid h1
          have HK := Lib.hid hk
          have HKP := Lib.hid hkp
          have HL := Lib.hid hl
          have HW := Lib.hid hw
          have HD := Lib.hid hd
          have hlt1 := hlt
          have c0 := (hk.six h1.low).1
          clear hk hok hpj h1 hkp hl hw hd HI HI0
          by_cases hk1 : p.kd = 1
          · rw [hk1] at c0
            go_upto_region 13 with (fail)
            have one := HT.out
            refine Rc.wp_region (by kernel_rfl) (fun opn => List.getD [Rc.val (.pointer (some a)), Rc.val (.slice (some ⟨b, off, none⟩) ps.length c1), Rc.val (.int .i64 ((j : Nat) : Int)), Rc.val (.pointer (some ⟨b, off + j * 6, none⟩)), Rc.val (.pointer (some ⟨b, off + j * 6 + 1, none⟩)), Rc.val (.int .i64 p.i), Rc.val (.int .i64 ((within0 p.i 63 : Nat) : Int)), Rc.val (.slice (some ⟨b, off, none⟩) ps.length c1), Rc.val (.int .i64 ((j : Nat) : Int)), Rc.val (.pointer (some ⟨b, off + j * 6, none⟩)), Rc.val (.pointer (some ⟨b, off + j * 6 + 2, none⟩)), Rc.val (.slice p.A p.x.length p.c), Ob.frow (sized 128 p.x), Ob.turned D.toObj (.pointer (some a)) (Ob.Ups B wr) (.int .i64 0) (st.put (within0 p.i 63) (sized 128 p.x)), Ob.turned D.toObj (.pointer (some a)) (Ob.Ups B wr) undef st] opn Rc.any) 1 [] [[], [], [], [(1, 45), (2, 46)], [(3, 47)], [(4, 48)], [(5, 49)], [], [], [(7, 51), (8, 52)], [(9, 53)], [(10, 54)], [(11, 55)], [(0, 44), (6, 50), (12, 56)]] [[], [], [], [1, 2], [1, 2, 3], [1, 2, 3, 4], [1, 2, 3, 4, 5], [], [], [7, 8], [7, 8, 9], [7, 8, 9, 10], [1, 2, 3, 4, 5, 6, 7, 8, 9, 10, 11], [0, 1, 2, 3, 4, 5, 6, 7, 8, 9, 10, 11, 12]] [[], [], [], [1, 2], [3], [4], [5], [], [], [7, 8], [9], [10], [11], [0, 6, 12, 14]] [(13, 14)] (by kernel_rfl) (by rfl) (by kernel_rfl) B (fun _ b => B b) (Ob.one_inv D.toObj one.at_ _ _ 14 rfl) ?_ ?_
            · intro fr ha
              have hz : fr.tmps.size = 79 := by rw [ha]; rfl
              have y3 : fr.eval (.tmp 3) = .pointer (some a) := by rw [ha]; rfl
              have y0 : fr.eval (.tmp 0) = .slice (some ⟨b, off, none⟩) ps.length c1 := by rw [ha]; rfl
              have y6 : fr.eval (.tmp 6) = .int .i64 ((j : Nat) : Int) := by rw [ha]; rfl
              clear ha
              refine .cons ?_ (.cons ?_ (.cons ?_ (.cons ?_ (.cons ?_ (.cons ?_ (.cons ?_ (.cons ?_ (.cons ?_ (.cons ?_ (.cons ?_ (.cons ?_ (.cons ?_ (.cons ?_ (.nil))))))))))))))
              · intro V S w2 HM HU HE
                have HM : Mod wr w2 B := HM
                have tb3 : (Rg.putUse V [] fr).eval (.tmp 3) = .pointer (some a) := (Rg.use_eval V fr 3 [] (by simp only [hz]; decide)).trans y3
                show Rg.Does1 _ _ V (Rg.putUse V [] fr) w2 _
                exact Ob.rc_mv (.pointer (some a)) (by simp only [execOp, tb3]; go_simp) rfl rfl True.intro
              · intro V S w2 HM HU HE
                have HM : Mod wr w2 B := HM
                have tb0 : (Rg.putUse V [] fr).eval (.tmp 0) = .slice (some ⟨b, off, none⟩) ps.length c1 := (Rg.use_eval V fr 0 [] (by simp only [hz]; decide)).trans y0
                show Rg.Does1 _ _ V (Rg.putUse V [] fr) w2 _
                exact Ob.rc_mv (.slice (some ⟨b, off, none⟩) ps.length c1) (by simp only [execOp, tb0]; go_simp) rfl rfl True.intro
              · intro V S w2 HM HU HE
                have HM : Mod wr w2 B := HM
                have tb6 : (Rg.putUse V [] fr).eval (.tmp 6) = .int .i64 ((j : Nat) : Int) := (Rg.use_eval V fr 6 [] (by simp only [hz]; decide)).trans y6
                show Rg.Does1 _ _ V (Rg.putUse V [] fr) w2 _
                exact Ob.rc_mv (.int .i64 ((j : Nat) : Int)) (by simp only [execOp, tb6]; go_simp) rfl rfl True.intro
              · intro V S w2 HM HU HE
                have HM : Mod wr w2 B := HM
                have h1 : V 1 = .slice (some ⟨b, off, none⟩) ps.length c1 := HU.holds 1 (by decide)
                have tb45 : (Rg.putUse V [(1, 45), (2, 46)] fr).eval (.tmp 45) = .slice (some ⟨b, off, none⟩) ps.length c1 := (Rg.use_eval V fr 45 [(1, 45), (2, 46)] (by simp only [hz]; decide)).trans h1
                have h2 : V 2 = .int .i64 ((j : Nat) : Int) := HU.holds 2 (by decide)
                have tb46 : (Rg.putUse V [(1, 45), (2, 46)] fr).eval (.tmp 46) = .int .i64 ((j : Nat) : Int) := (Rg.use_eval V fr 46 [(1, 45), (2, 46)] (by simp only [hz]; decide)).trans h2
                show Rg.Does1 _ _ V (Rg.putUse V [(1, 45), (2, 46)] fr) w2 _
                have b1 := hlt1
                exact Ob.rc_mv (.pointer (some ⟨b, off + j * 6, none⟩)) (by simp only [execOp, tb45, tb46]; go_simp) rfl rfl True.intro
              · intro V S w2 HM HU HE
                have HM : Mod wr w2 B := HM
                have h3 : V 3 = .pointer (some ⟨b, off + j * 6, none⟩) := HU.holds 3 (by decide)
                have tb47 : (Rg.putUse V [(3, 47)] fr).eval (.tmp 47) = .pointer (some ⟨b, off + j * 6, none⟩) := (Rg.use_eval V fr 47 [(3, 47)] (by simp only [hz]; decide)).trans h3
                show Rg.Does1 _ _ V (Rg.putUse V [(3, 47)] fr) w2 _
                exact Ob.rc_mv (.pointer (some ⟨b, off + j * 6 + 1, none⟩)) (by simp only [execOp, tb47]; go_simp) rfl rfl True.intro
              · intro V S w2 HM HU HE
                have HM : Mod wr w2 B := HM
                have h4 : V 4 = .pointer (some ⟨b, off + j * 6 + 1, none⟩) := HU.holds 4 (by decide)
                have tb48 : (Rg.putUse V [(4, 48)] fr).eval (.tmp 48) = .pointer (some ⟨b, off + j * 6 + 1, none⟩) := (Rg.use_eval V fr 48 [(4, 48)] (by simp only [hz]; decide)).trans h4
                show Rg.Does1 _ _ V (Rg.putUse V [(4, 48)] fr) w2 _
                have lw : Below w.heap.size w w2 := Ob.low_more one.low HM one.up
                have cc := HK.out.six lw
                obtain ⟨d0, d1, d2, d3, d4, d5⟩ := cc
                exact Ob.rc_mv (.int .i64 p.i) (by simp only [execOp, tb48]; go_simp) rfl rfl True.intro
              · intro V S w2 HM HU HE
                have HM : Mod wr w2 B := HM
                have h5 : V 5 = .int .i64 p.i := HU.holds 5 (by decide)
                have tb49 : (Rg.putUse V [(5, 49)] fr).eval (.tmp 49) = .int .i64 p.i := (Rg.use_eval V fr 49 [(5, 49)] (by simp only [hz]; decide)).trans h5
                show Rg.Does1 _ _ V (Rg.putUse V [(5, 49)] fr) w2 _
                exact Ob.step_tell (.int .i64 ((within0 p.i 63 : Nat) : Int)) #[.int .i64 p.i, .int .i64 0, .int .i64 63] (fun args w => Rg.call_enter Try.func20 (by kernel_rfl) (by kernel_rfl) args w) rfl (by simp only [List.map_toArray, List.map_cons, List.map_nil, Rg.eval_const, tb49]) rfl (fun x => Rg.alias_none rfl V x) True.intro ((within_any p.i 63 w2 (by omega) HK.out.ii.1 HK.out.ii.2).mono fun e w' ⟨h3, h4⟩ => ⟨h3, h4 ▸ Below.refl _ _⟩)
              · intro V S w2 HM HU HE
                have HM : Mod wr w2 B := HM
                have tb0 : (Rg.putUse V [] fr).eval (.tmp 0) = .slice (some ⟨b, off, none⟩) ps.length c1 := (Rg.use_eval V fr 0 [] (by simp only [hz]; decide)).trans y0
                show Rg.Does1 _ _ V (Rg.putUse V [] fr) w2 _
                exact Ob.rc_mv (.slice (some ⟨b, off, none⟩) ps.length c1) (by simp only [execOp, tb0]; go_simp) rfl rfl True.intro
              · intro V S w2 HM HU HE
                have HM : Mod wr w2 B := HM
                have tb6 : (Rg.putUse V [] fr).eval (.tmp 6) = .int .i64 ((j : Nat) : Int) := (Rg.use_eval V fr 6 [] (by simp only [hz]; decide)).trans y6
                show Rg.Does1 _ _ V (Rg.putUse V [] fr) w2 _
                exact Ob.rc_mv (.int .i64 ((j : Nat) : Int)) (by simp only [execOp, tb6]; go_simp) rfl rfl True.intro
              · intro V S w2 HM HU HE
                have HM : Mod wr w2 B := HM
                have h7 : V 7 = .slice (some ⟨b, off, none⟩) ps.length c1 := HU.holds 7 (by decide)
                have tb51 : (Rg.putUse V [(7, 51), (8, 52)] fr).eval (.tmp 51) = .slice (some ⟨b, off, none⟩) ps.length c1 := (Rg.use_eval V fr 51 [(7, 51), (8, 52)] (by simp only [hz]; decide)).trans h7
                have h8 : V 8 = .int .i64 ((j : Nat) : Int) := HU.holds 8 (by decide)
                have tb52 : (Rg.putUse V [(7, 51), (8, 52)] fr).eval (.tmp 52) = .int .i64 ((j : Nat) : Int) := (Rg.use_eval V fr 52 [(7, 51), (8, 52)] (by simp only [hz]; decide)).trans h8
                show Rg.Does1 _ _ V (Rg.putUse V [(7, 51), (8, 52)] fr) w2 _
                have b1 := hlt1
                exact Ob.rc_mv (.pointer (some ⟨b, off + j * 6, none⟩)) (by simp only [execOp, tb51, tb52]; go_simp) rfl rfl True.intro
              · intro V S w2 HM HU HE
                have HM : Mod wr w2 B := HM
                have h9 : V 9 = .pointer (some ⟨b, off + j * 6, none⟩) := HU.holds 9 (by decide)
                have tb53 : (Rg.putUse V [(9, 53)] fr).eval (.tmp 53) = .pointer (some ⟨b, off + j * 6, none⟩) := (Rg.use_eval V fr 53 [(9, 53)] (by simp only [hz]; decide)).trans h9
                show Rg.Does1 _ _ V (Rg.putUse V [(9, 53)] fr) w2 _
                exact Ob.rc_mv (.pointer (some ⟨b, off + j * 6 + 2, none⟩)) (by simp only [execOp, tb53]; go_simp) rfl rfl True.intro
              · intro V S w2 HM HU HE
                have HM : Mod wr w2 B := HM
                have h10 : V 10 = .pointer (some ⟨b, off + j * 6 + 2, none⟩) := HU.holds 10 (by decide)
                have tb54 : (Rg.putUse V [(10, 54)] fr).eval (.tmp 54) = .pointer (some ⟨b, off + j * 6 + 2, none⟩) := (Rg.use_eval V fr 54 [(10, 54)] (by simp only [hz]; decide)).trans h10
                show Rg.Does1 _ _ V (Rg.putUse V [(10, 54)] fr) w2 _
                have lw : Below w.heap.size w w2 := Ob.low_more one.low HM one.up
                have cc := HK.out.six lw
                obtain ⟨d0, d1, d2, d3, d4, d5⟩ := cc
                exact Ob.rc_mv (.slice p.A p.x.length p.c) (by simp only [execOp, tb54]; go_simp) rfl rfl True.intro
              · intro V S w2 HM HU HE
                have HM : Mod wr w2 B := HM
                have h11 : V 11 = .slice p.A p.x.length p.c := HU.holds 11 (by decide)
                have tb55 : (Rg.putUse V [(11, 55)] fr).eval (.tmp 55) = .slice p.A p.x.length p.c := (Rg.use_eval V fr 55 [(11, 55)] (by simp only [hz]; decide)).trans h11
                show Rg.Does1 _ _ V (Rg.putUse V [(11, 55)] fr) w2 _
                have lw : Below w.heap.size w w2 := Ob.low_more one.low HM one.up
                exact Ob.step_frow (sized 128 p.x) #[.slice p.A p.x.length p.c, .int .i64 128] (fun args w => Rg.call_enter Try.func11 (by kernel_rfl) (by kernel_rfl) args w) rfl (by simp only [List.map_toArray, List.map_cons, List.map_nil, Rg.eval_const, tb55]) rfl (fun x => Rg.alias_none rfl V x) True.intro (sized_any w2 p.x p.A p.c 128 (HK.out.rd.below lw) HK.out.fits HK.out.long (by omega))
              · intro V S w2 HM HU HE
                have HM : Mod wr w2 B := HM
                have h0 : V 0 = .pointer (some a) := HU.holds 0 (by decide)
                have tb44 : (Rg.putUse V [(0, 44), (6, 50), (12, 56)] fr).eval (.tmp 44) = .pointer (some a) := (Rg.use_eval V fr 44 [(0, 44), (6, 50), (12, 56)] (by simp only [hz]; decide)).trans h0
                have h6 : V 6 = .int .i64 ((within0 p.i 63 : Nat) : Int) := HU.holds 6 (by decide)
                have tb50 : (Rg.putUse V [(0, 44), (6, 50), (12, 56)] fr).eval (.tmp 50) = .int .i64 ((within0 p.i 63 : Nat) : Int) := (Rg.use_eval V fr 50 [(0, 44), (6, 50), (12, 56)] (by simp only [hz]; decide)).trans h6
                obtain ⟨X12, k12, e12, hc12, hr12, hX12⟩ := HU.holds 12 (by decide)
                have tb56 : (Rg.putUse V [(0, 44), (6, 50), (12, 56)] fr).eval (.tmp 56) = .slice X12 (sized 128 p.x).length k12 := (Rg.use_eval V fr 56 [(0, 44), (6, 50), (12, 56)] (by simp only [hz]; decide)).trans e12
                show Rg.Does1 _ _ V (Rg.putUse V [(0, 44), (6, 50), (12, 56)] fr) w2 _
                exact Ob.step_turn (s := st) D.toObj #[.pointer (some a), .int .i64 ((within0 p.i 63 : Nat) : Int), .slice X12 (sized 128 p.x).length k12] (fun args w => Rg.call_enter Try.func19 (by kernel_rfl) (by kernel_rfl) args w) rfl (by simp only [List.map_toArray, List.map_cons, List.map_nil, tb44, tb50, tb56]) rfl (by decide) (HU.holds 14 (by decide)).2 (fun x => Rg.alias_none rfl V x) True.intro HM.size (fun S1 hat hsub hup => by have hq := within0_le p.i 63; have := D.write hat (by have := HW.out; omega) ((within0 p.i 63 : Nat) : Int) X12 (sized 128 p.x) k12 (by omega) (by omega) ⟨hr12, fun _ b hA hB => HU.sep 14 (by decide) 12 (by decide) (by decide) b (hsub b hB) (hX12 b hA)⟩ hc12 (by rw [sized_length]; omega); rw [Dk.write_to st _ _ (by rw [HD.out]; omega) (sized_length _ _)] at this; exact this)
            · intro V S w2 HI
              have hb : V 13 = .int .i64 0 := (HI.get 13 (by decide) (by rfl)).1
              have HT2 := Lib.hid (one.after HI.mod.undrew (HI.get 13 (by decide) (by rfl)).2)
              have HM2 : Hid (Mod wr w2 B) := HI.mod.undrew
              simp only [Rg.putList, Act.put, List.setIfInBounds_toArray, List.set_cons_zero, List.set_cons_succ, Nat.zero_add, Nat.reduceAdd]
              rw [hb]
              clear HI hb one HT
              obtain ⟨B2, h2⟩ := HT2.out
              have HI2 : Hid (FlI D (.pointer (some a)) w (.slice X1 l.length c2) (j + 1) w2) := ⟨_, B2, X1, c2, l, h2.now, rfl, hc, h2.kept HKP.out, HL.out, by show st.writes + 1 ≤ j + 1; have := HW.out; omega, by rw [put_dirty, HD.out]⟩
              clear h2 HT2 HM2 HKP c0
              go_wp2_with fail
              go_roundw
              case rel => exact ⟨j + 1, by omega, by omega, by go_num, HI2⟩
              case measure => simp [intOf]; omega
          · by_cases hk2 : p.kd = 2
            · rw [hk2] at c0
              go_wp2_with fail
              refine (D.flush HT.out.at_).mono ?_
              rintro e w3 ⟨x, rfl, B1, hat, hm, hs⟩
              have HT1 := Lib.hid (HT.out.turn hat hm hs)
              clear hat hm hs HT HKP c0
              go_wp2_with fail
              refine (D.image HT1.out.at_).mono ?_
              rintro e w4 ⟨x, rfl, hf, hb⟩
              obtain ⟨X2, c3, rfl, hc3, k⟩ := HT1.out.fresh hb hf
              have HT2 := Lib.hid (HT1.out.later hb)
              have HK2 := Lib.hid k
              clear hf hb k HT1
              obtain ⟨im, him⟩ : ∃ im, im = st.flush.image := ⟨_, rfl⟩
              rw [← him] at HK2 hc3 ⊢
              have HIM := Lib.hid him
              clear him
              go_wp2_with fail
              refine (D.dirty HT2.out.at_).mono ?_
              rintro e w5 ⟨x, rfl, ⟨X3, c4, rfl, _, _, _⟩, hb⟩
              have HT3 := Lib.hid (HT2.out.later hb)
              have HK3 := Lib.hid (HK2.out.more hb)
              have e0 : st.flush.dirtyL = [] := dirty_none _ _
              rw [e0]
              have HI2 : Hid (FlI D (.pointer (some a)) w (.slice X2 im.length c3) (j + 1) w5) := ⟨st.flush, B1, X2, c3, im, HT3.out.now, rfl, hc3, HK3.out, HIM.out, by show st.writes ≤ j + 1; have := HW.out; omega, by show (List.replicate st.dirty.length false).length = 64; rw [List.length_replicate, HD.out]⟩
              clear hb e0 HT2 HK2 HT3 HK3
              go_wp2_with fail
              go_roundw
              case rel => exact ⟨j + 1, by omega, by omega, by go_num, HI2⟩
              case measure => simp [intOf]; omega
            · have e1 : (p.kd == 1) = false := by simpa using hk1
              have e2 : (p.kd == 2) = false := by simpa using hk2
              go_wp2_with fail
              refine (D.crash HT.out.at_ none [] 0 (-1) 0 (rdb_nil _ _) (fun _ h => by cases h) (by simp) (by simp) (by omega) (by omega) (by omega) (by omega)).mono ?_
              rintro e w3 ⟨x, rfl, B1, hat, hm, hs⟩
              rw [(D.ok HT.out.at_).lost] at hat
              have HT1 := Lib.hid (HT.out.turn hat hm hs)
              have HK1 := Lib.hid (HT1.out.kept HKP.out)
              clear hat hm hs HT HKP c0
              obtain ⟨s2, hs2⟩ : ∃ s : Dk, s = { st with now := st.safe, dirty := List.replicate st.dirty.length false } := ⟨_, rfl⟩
              rw [← hs2] at HT1
              have HS2 := Lib.hid hs2
              have HIM : Hid (s2.image = l) := by show _ = _; rw [hs2, HL.out]; rfl
              clear hs2
              have HT := Lib.hid HT1.out.now
              clear HT1
              go_upto_region 10 with (fail)
              have one := HT.out
              refine Rc.wp_region (by kernel_rfl) (fun opn => List.getD [Rc.val (.pointer (some a)), Ob.frow (l), Rc.val (.string (strOf (l))), Rc.val (.slice X1 l.length c2), Rc.val (.string (strOf (l))), Rc.val (.bool false), Ob.turned D.toObj (.pointer (some a)) (Ob.Ups B1 w3) undef s2] opn Rc.any) 1 [] [[], [(0, 36)], [(1, 37)], [], [(3, 39)], [(2, 38), (4, 40)]] [[], [0], [0, 1], [], [3], [0, 1, 2, 3, 4]] [[], [0, 6], [1], [], [3], [2, 4]] [] (by kernel_rfl) (by rfl) (by kernel_rfl) B1 (fun _ b => B1 b) (Ob.one_inv D.toObj one.at_ _ _ 6 rfl) ?_ ?_
              · intro fr ha
                have hz : fr.tmps.size = 79 := by rw [ha]; rfl
                have y3 : fr.eval (.tmp 3) = .pointer (some a) := by rw [ha]; rfl
                have y5 : fr.eval (.tmp 5) = .slice X1 l.length c2 := by rw [ha]; rfl
                clear ha
                refine .cons ?_ (.cons ?_ (.cons ?_ (.cons ?_ (.cons ?_ (.cons ?_ (.nil))))))
                · intro V S w2 HM HU HE
                  have HM : Mod w3 w2 B1 := HM
                  have tb3 : (Rg.putUse V [] fr).eval (.tmp 3) = .pointer (some a) := (Rg.use_eval V fr 3 [] (by simp only [hz]; decide)).trans y3
                  show Rg.Does1 _ _ V (Rg.putUse V [] fr) w2 _
                  exact Ob.rc_mv (.pointer (some a)) (by simp only [execOp, tb3]; go_simp) rfl rfl True.intro
                · intro V S w2 HM HU HE
                  have HM : Mod w3 w2 B1 := HM
                  have h0 : V 0 = .pointer (some a) := HU.holds 0 (by decide)
                  have tb36 : (Rg.putUse V [(0, 36)] fr).eval (.tmp 36) = .pointer (some a) := (Rg.use_eval V fr 36 [(0, 36)] (by simp only [hz]; decide)).trans h0
                  show Rg.Does1 _ _ V (Rg.putUse V [(0, 36)] fr) w2 _
                  obtain ⟨S1, hat, _, _⟩ := (HU.holds 6 (by decide)).2
                  exact Ob.step_frow (l) #[.pointer (some a)] (fun args w => Rg.call_enter Try.func14 (by kernel_rfl) (by kernel_rfl) args w) rfl (by simp only [List.map_toArray, List.map_cons, List.map_nil, tb36]) rfl (fun x => Rg.alias_none rfl V x) True.intro (by have := D.image hat; rw [HIM.out] at this; exact this)
                · intro V S w2 HM HU HE
                  have HM : Mod w3 w2 B1 := HM
                  obtain ⟨X1, k1, e1, hc1, hr1, hX1⟩ := HU.holds 1 (by decide)
                  have tb37 : (Rg.putUse V [(1, 37)] fr).eval (.tmp 37) = .slice X1 (l).length k1 := (Rg.use_eval V fr 37 [(1, 37)] (by simp only [hz]; decide)).trans e1
                  show Rg.Does1 _ _ V (Rg.putUse V [(1, 37)] fr) w2 _
                  exact Ob.rc_str (l) rfl tb37 (by first | rfl | simp) hr1 rfl rfl True.intro
                · intro V S w2 HM HU HE
                  have HM : Mod w3 w2 B1 := HM
                  have tb5 : (Rg.putUse V [] fr).eval (.tmp 5) = .slice X1 l.length c2 := (Rg.use_eval V fr 5 [] (by simp only [hz]; decide)).trans y5
                  show Rg.Does1 _ _ V (Rg.putUse V [] fr) w2 _
                  exact Ob.rc_mv (.slice X1 l.length c2) (by simp only [execOp, tb5]; go_simp) rfl rfl True.intro
                · intro V S w2 HM HU HE
                  have HM : Mod w3 w2 B1 := HM
                  have h3 : V 3 = .slice X1 l.length c2 := HU.holds 3 (by decide)
                  have tb39 : (Rg.putUse V [(3, 39)] fr).eval (.tmp 39) = .slice X1 l.length c2 := (Rg.use_eval V fr 39 [(3, 39)] (by simp only [hz]; decide)).trans h3
                  show Rg.Does1 _ _ V (Rg.putUse V [(3, 39)] fr) w2 _
                  exact Ob.rc_str (l) rfl tb39 (by first | rfl | simp) (Ob.rd_mod HK1.out.1 HM HK1.out.2) rfl rfl True.intro
                · intro V S w2 HM HU HE
                  have HM : Mod w3 w2 B1 := HM
                  have h2 : V 2 = .string (strOf (l)) := HU.holds 2 (by decide)
                  have tb38 : (Rg.putUse V [(2, 38), (4, 40)] fr).eval (.tmp 38) = .string (strOf (l)) := (Rg.use_eval V fr 38 [(2, 38), (4, 40)] (by simp only [hz]; decide)).trans h2
                  have h4 : V 4 = .string (strOf (l)) := HU.holds 4 (by decide)
                  have tb40 : (Rg.putUse V [(2, 38), (4, 40)] fr).eval (.tmp 40) = .string (strOf (l)) := (Rg.use_eval V fr 40 [(2, 38), (4, 40)] (by simp only [hz]; decide)).trans h4
                  show Rg.Does1 _ _ V (Rg.putUse V [(2, 38), (4, 40)] fr) w2 _
                  exact Ob.rc_mv (.bool false) (by simp only [execOp, tb38, tb40]; go_simp) rfl rfl True.intro
              · intro V S w2 HI
                have hb : V 5 = .bool false := HI.get 5 (by decide) (by rfl)
                have HT2 := Lib.hid (one.after HI.mod.undrew (HI.get 6 (by decide) (by rfl)).2)
                have HM2 : Hid (Mod w3 w2 B1) := HI.mod.undrew
                simp only [Rg.putList, Act.put, List.setIfInBounds_toArray, List.set_cons_zero, List.set_cons_succ, Nat.zero_add, Nat.reduceAdd]
                rw [hb]
                clear HI hb one HT
                obtain ⟨B2, h2⟩ := HT2.out
                have HI2 : Hid (FlI D (.pointer (some a)) w (.slice X1 l.length c2) (j + 1) w2) := ⟨s2, B2, X1, c2, l, h2.now, rfl, hc, h2.kept HK1.out, by rw [HS2.out]; exact HL.out, by rw [HS2.out]; show st.writes ≤ j + 1; have := HW.out; omega, by rw [HS2.out]; show (List.replicate st.dirty.length false).length = 64; rw [List.length_replicate, HD.out]⟩
                clear h2 HT2 HM2 HK1
                go_wp2_with fail
                go_roundw
                case rel => exact ⟨j + 1, by omega, by omega, by go_num, HI2⟩
                case measure => simp [intOf]; omega
        · go_wp2_with fail
          go_meet
          case rel => exact ⟨j, rfl, by obtain ⟨st, B, X, c, l, h1, h2, h3, h4, h5, h6, h7⟩ := HI.out; exact ⟨st, B, X, c, l, h1, h2, h3, h4, h5, by omega, h7⟩⟩
      · go_wp2_with fail
        go_meet
        case rel => exact ⟨j, rfl, by obtain ⟨st, B, X, c, l, h1, h2, h3, h4, h5, h6, h7⟩ := HI.out; exact ⟨st, B, X, c, l, h1, h2, h3, h4, h5, by omega, h7⟩⟩
  case rest =>
    clear HI0
    obtain ⟨i, rfl, HI⟩ := hcut
    obtain ⟨st, B, X1, c2, l, h1, rfl, hc, hkp, hl, hw, hd⟩ := HI.out
    have HT := Lib.hid h1
    have HKP := Lib.hid hkp
    have HL := Lib.hid hl
    clear h1 hkp hl hw hd HI
    go_wp2_with fail
    refine (D.crash HT.out.at_ none [] 0 (-1) 0 (rdb_nil _ _) (fun _ h => by cases h) (by simp) (by simp) (by omega) (by omega) (by omega) (by omega)).mono ?_
    rintro e w3 ⟨x, rfl, B1, hat, hm, hs⟩
    rw [(D.ok HT.out.at_).lost] at hat
    have HT1 := Lib.hid (HT.out.turn hat hm hs)
    have HK1 := Lib.hid (HT1.out.kept HKP.out)
    clear hat hm hs HT HKP
    obtain ⟨s2, hs2⟩ : ∃ s : Dk, s = { st with now := st.safe, dirty := List.replicate st.dirty.length false } := ⟨_, rfl⟩
    rw [← hs2] at HT1
    have HIM : Hid (s2.image = l) := by show _ = _; rw [hs2, HL.out]; rfl
    clear hs2
    have HT := Lib.hid HT1.out.now
    clear HT1
    go_upto_region 20 with (fail)
    have one := HT.out
    refine Rc.wp_region (by kernel_rfl) (fun opn => List.getD [Rc.val (.pointer (some a)), Ob.frow (l), Rc.val (.string (strOf (l))), Rc.val (.slice X1 l.length c2), Rc.val (.string (strOf (l))), Rc.val (.bool true), Rc.val (.bool true), Rc.val (.bool true), Rc.val (.bool true), Rc.val (.bool true), Ob.turned D.toObj (.pointer (some a)) (Ob.Ups B1 w3) undef s2] opn Rc.any) 1 [] [[], [(0, 70)], [(1, 71)], [], [(3, 73)], [(2, 72), (4, 74)], [(5, 75)], [(6, 76)], [(6, 76), (7, 77)], [(8, 78)]] [[], [0], [0, 1], [], [3], [0, 1, 2, 3, 4], [0, 1, 2, 3, 4, 5], [0, 1, 2, 3, 4, 5, 6], [0, 1, 2, 3, 4, 5, 6, 7], [0, 1, 2, 3, 4, 5, 6, 7, 8]] [[], [0, 10], [1], [], [3], [2, 4], [5], [6], [6, 7], [8]] [] (by kernel_rfl) (by rfl) (by kernel_rfl) B1 (fun _ b => B1 b) (Ob.one_inv D.toObj one.at_ _ _ 10 rfl) ?_ ?_
    · intro fr ha
      have hz : fr.tmps.size = 79 := by rw [ha]; rfl
      have y3 : fr.eval (.tmp 3) = .pointer (some a) := by rw [ha]; rfl
      have y5 : fr.eval (.tmp 5) = .slice X1 l.length c2 := by rw [ha]; rfl
      clear ha
      refine .cons ?_ (.cons ?_ (.cons ?_ (.cons ?_ (.cons ?_ (.cons ?_ (.cons ?_ (.cons ?_ (.cons ?_ (.cons ?_ (.nil))))))))))
      · intro V S w2 HM HU HE
        have HM : Mod w3 w2 B1 := HM
        have tb3 : (Rg.putUse V [] fr).eval (.tmp 3) = .pointer (some a) := (Rg.use_eval V fr 3 [] (by simp only [hz]; decide)).trans y3
        show Rg.Does1 _ _ V (Rg.putUse V [] fr) w2 _
        exact Ob.rc_mv (.pointer (some a)) (by simp only [execOp, tb3]; go_simp) rfl rfl True.intro
      · intro V S w2 HM HU HE
        have HM : Mod w3 w2 B1 := HM
        have h0 : V 0 = .pointer (some a) := HU.holds 0 (by decide)
        have tb70 : (Rg.putUse V [(0, 70)] fr).eval (.tmp 70) = .pointer (some a) := (Rg.use_eval V fr 70 [(0, 70)] (by simp only [hz]; decide)).trans h0
        show Rg.Does1 _ _ V (Rg.putUse V [(0, 70)] fr) w2 _
        obtain ⟨S1, hat, _, _⟩ := (HU.holds 10 (by decide)).2
        exact Ob.step_frow (l) #[.pointer (some a)] (fun args w => Rg.call_enter Try.func14 (by kernel_rfl) (by kernel_rfl) args w) rfl (by simp only [List.map_toArray, List.map_cons, List.map_nil, tb70]) rfl (fun x => Rg.alias_none rfl V x) True.intro (by have := D.image hat; rw [HIM.out] at this; exact this)
      · intro V S w2 HM HU HE
        have HM : Mod w3 w2 B1 := HM
        obtain ⟨X1, k1, e1, hc1, hr1, hX1⟩ := HU.holds 1 (by decide)
        have tb71 : (Rg.putUse V [(1, 71)] fr).eval (.tmp 71) = .slice X1 (l).length k1 := (Rg.use_eval V fr 71 [(1, 71)] (by simp only [hz]; decide)).trans e1
        show Rg.Does1 _ _ V (Rg.putUse V [(1, 71)] fr) w2 _
        exact Ob.rc_str (l) rfl tb71 (by first | rfl | simp) hr1 rfl rfl True.intro
      · intro V S w2 HM HU HE
        have HM : Mod w3 w2 B1 := HM
        have tb5 : (Rg.putUse V [] fr).eval (.tmp 5) = .slice X1 l.length c2 := (Rg.use_eval V fr 5 [] (by simp only [hz]; decide)).trans y5
        show Rg.Does1 _ _ V (Rg.putUse V [] fr) w2 _
        exact Ob.rc_mv (.slice X1 l.length c2) (by simp only [execOp, tb5]; go_simp) rfl rfl True.intro
      · intro V S w2 HM HU HE
        have HM : Mod w3 w2 B1 := HM
        have h3 : V 3 = .slice X1 l.length c2 := HU.holds 3 (by decide)
        have tb73 : (Rg.putUse V [(3, 73)] fr).eval (.tmp 73) = .slice X1 l.length c2 := (Rg.use_eval V fr 73 [(3, 73)] (by simp only [hz]; decide)).trans h3
        show Rg.Does1 _ _ V (Rg.putUse V [(3, 73)] fr) w2 _
        exact Ob.rc_str (l) rfl tb73 (by first | rfl | simp) (Ob.rd_mod HK1.out.1 HM HK1.out.2) rfl rfl True.intro
      · intro V S w2 HM HU HE
        have HM : Mod w3 w2 B1 := HM
        have h2 : V 2 = .string (strOf (l)) := HU.holds 2 (by decide)
        have tb72 : (Rg.putUse V [(2, 72), (4, 74)] fr).eval (.tmp 72) = .string (strOf (l)) := (Rg.use_eval V fr 72 [(2, 72), (4, 74)] (by simp only [hz]; decide)).trans h2
        have h4 : V 4 = .string (strOf (l)) := HU.holds 4 (by decide)
        have tb74 : (Rg.putUse V [(2, 72), (4, 74)] fr).eval (.tmp 74) = .string (strOf (l)) := (Rg.use_eval V fr 74 [(2, 72), (4, 74)] (by simp only [hz]; decide)).trans h4
        show Rg.Does1 _ _ V (Rg.putUse V [(2, 72), (4, 74)] fr) w2 _
        exact Ob.rc_mv (.bool true) (by simp only [execOp, tb72, tb74]; go_simp) rfl rfl True.intro
      · intro V S w2 HM HU HE
        have HM : Mod w3 w2 B1 := HM
        have h5 : V 5 = .bool true := HU.holds 5 (by decide)
        have tb75 : (Rg.putUse V [(5, 75)] fr).eval (.tmp 75) = .bool true := (Rg.use_eval V fr 75 [(5, 75)] (by simp only [hz]; decide)).trans h5
        show Rg.Does1 _ _ V (Rg.putUse V [(5, 75)] fr) w2 _
        exact Ob.rc_mv (.bool true) (by simp only [execOp, tb75]; go_simp) rfl rfl True.intro
      · intro V S w2 HM HU HE
        have HM : Mod w3 w2 B1 := HM
        have h6 : V 6 = .bool true := HU.holds 6 (by decide)
        show Rg.Does1 _ _ V (Rg.putUse V [(6, 76)] fr) w2 _
        exact Ob.step_tell (.bool true) #[] (fun args w => Rg.call_enter Try.func18 (by kernel_rfl) (by kernel_rfl) args w) rfl (by simp only [List.map_toArray, List.map_cons, List.map_nil]) rfl (fun x => Rg.alias_none rfl V x) h6 (known5_any D w2)
      · intro V S w2 HM HU HE
        have HM : Mod w3 w2 B1 := HM
        have h6 : V 6 = .bool true := HU.holds 6 (by decide)
        have tb76 : (Rg.putUse V [(6, 76), (7, 77)] fr).eval (.tmp 76) = .bool true := (Rg.use_eval V fr 76 [(6, 76), (7, 77)] (by simp only [hz]; decide)).trans h6
        have h7 : V 7 = .bool true := HU.holds 7 (by decide)
        have tb77 : (Rg.putUse V [(6, 76), (7, 77)] fr).eval (.tmp 77) = .bool true := (Rg.use_eval V fr 77 [(6, 76), (7, 77)] (by simp only [hz]; decide)).trans h7
        show Rg.Does1 _ _ V (Rg.putUse V [(6, 76), (7, 77)] fr) w2 _
        exact Ob.rc_mv (.bool true) (by simp only [execOp, tb76, tb77]; go_simp) rfl rfl True.intro
      · intro V S w2 HM HU HE
        have HM : Mod w3 w2 B1 := HM
        have h8 : V 8 = .bool true := HU.holds 8 (by decide)
        have tb78 : (Rg.putUse V [(8, 78)] fr).eval (.tmp 78) = .bool true := (Rg.use_eval V fr 78 [(8, 78)] (by simp only [hz]; decide)).trans h8
        show Rg.Does1 _ _ V (Rg.putUse V [(8, 78)] fr) w2 _
        exact Ob.rc_mv (.bool true) (by simp only [execOp, tb78]; go_simp) rfl rfl True.intro
    · intro V S w2 HI
      have hb : V 9 = .bool true := HI.get 9 (by decide) (by rfl)
      have HT2 := Lib.hid (one.after HI.mod.undrew (HI.get 10 (by decide) (by rfl)).2)
      have HM2 : Hid (Mod w3 w2 B1) := HI.mod.undrew
      simp only [Rg.putList, Act.put, List.setIfInBounds_toArray, List.set_cons_zero, List.set_cons_succ, Nat.zero_add, Nat.reduceAdd]
      rw [hb]
      clear HI hb one HT
      obtain ⟨B2, h2⟩ := HT2.out
      have HLO := Lib.hid h2.low
      clear h2 HT2 HM2 HK1
      go_wp2_with fail
      go_ret
      exact ⟨rfl, HLO.out⟩
end Go.Proofs.Ytenedgapjbmpgaa

/-
  OWN WORK. The law DiskImages, walked, given what the program's own disk does.
-/
import Derived.Test.YtenedgapjbmpgaaDiKnown
import Derived.Test.YtenedgapjbmpgaaDiArgs
import Derived.Test.YtenedgapjbmpgaaBaWithin
import Derived.Test.YtenedgapjbmpgaaBaSet
import Derived.Deep.CutBlock
namespace Go.Proofs.Ytenedgapjbmpgaa
open Go.RowKit Rc Di

theorem u8_more (n : Nat) (h : n < 256) : IntKind.u8.wrap (((n : Nat) : Int) + 1) = (((UInt8.ofNat (n + 1)).toNat : Nat) : Int) := by
  rw [IntKind.wrap_u8', UInt8.toNat_ofNat']; omega
/-- A row that is turned, byte by byte, and nothing else. -/
def Poked (W : World) (g n c : Nat) (w : World) : Prop := ∃ l' : List UInt8, l'.length = n ∧ w.ownsRow 0 5 1 (.slice (some ⟨g, 0, none⟩) n c) n (Lib.byteCells l') ∧ Mod W w (fun k => k = g)
theorem Poked.cell {W w : World} {g n c : Nat} (h : Poked W g n c w) (j : Nat) (hj : j < n) : ∃ x : Nat, x < 256 ∧ w.cell? ⟨g, j, none⟩ = some (.int .u8 x) ∧ w.frozen? ⟨g, j, none⟩ = false ∧ Poked W g n c (w.setCell ⟨g, j, none⟩ (.int .u8 (((UInt8.ofNat (x + 1)).toNat : Nat) : Int))) := by
  obtain ⟨l', hl, ho, hm⟩ := h
  refine ⟨(l'.getD j 0).toNat, (l'.getD j 0).toNat_lt, own_byte ho j hj, own_frozen ho j, l'.set j (UInt8.ofNat ((l'.getD j 0).toNat + 1)), by rw [List.length_set, hl], own_set ho j hj _ _ rfl, hm.os, hm.tape, hm.output, ?_, fun k hk hn => ?_⟩
  · simpa [World.setCell] using hm.size
  · rw [Below.heap_setCell _ _ _ _ (by simpa using hn)]; exact hm.block k hk hn

set_option maxHeartbeats 8000000 in
set_option maxRecDepth 100000 in
theorem images_any (D : DSaid) (w : World) (ps : List AskD) (A1 : Option Addr) (c1 : Nat) (hp : AsksIn w A1 ps) (hpl : ps.length ≤ 9223372036854775807) :
    Calls Try.prog 6 #[.slice A1 ps.length c1] w fun e w' => e = .returned (.bool true) ∧ Below w.heap.size w w' := by
  have HP := Lib.hid hp
  have HPL := Lib.hid hpl
  clear hp hpl
  go_enter Try.func6, Try.ntmps6
  go_wp2_with fail
  refine (D.new64 w).mono ?_
  rintro e w1 ⟨a, B0, rfl, HT0⟩
  have HI0 : Hid (∃ st B, Ob.One D.toObj (.pointer (some a)) w w1 B st B w1 ∧ st.writes ≤ 0 ∧ st.dirty.length = 64) := ⟨_, B0, HT0.out, Nat.le_refl _, new_dirty 64⟩
  clear HT0
  go_upto_block 0 with (fail)
  go_cut [5] (fun t5 wx => ∃ i : Nat, t5 = .int .i64 (i : Nat) ∧ Hid (∃ st B, Ob.One D.toObj (.pointer (some a)) w wx B st B wx ∧ st.dirty.length = 64))
  case first =>
    go_wp2_with fail
    go_loopw [5] (fun t5 wr => ∃ j : Nat, j ≤ ps.length ∧ j ≤ 20 ∧ t5 = .int .i64 (j : Nat) ∧ Hid (∃ st B, Ob.One D.toObj (.pointer (some a)) w wr B st B wr ∧ st.writes ≤ j ∧ st.dirty.length = 64)) (fun t5 _ => 20 - (intOf t5).toNat)
    case atStart => exact ⟨0, by omega, by omega, rfl, HI0⟩
    case round =>
      obtain ⟨j, hj, hj40, rfl, HI⟩ := hrel
      by_cases hlt : j < ps.length
      · by_cases hlt2 : j < 20
        · obtain ⟨b, off, rfl, hok⟩ := HP.out.plain (by omega)
          obtain ⟨p, hpj⟩ : ∃ p, ps[j]? = some p := ⟨_, List.getElem?_eq_getElem hlt⟩
          obtain ⟨st, B, h1, hw, hd⟩ := HI.out
          have HT := Lib.hid h1
          have HK := Lib.hid (hok j p hpj)
          have HW := Lib.hid hw
          have HD := Lib.hid hd
          have hlt1 := hlt
          clear hok hpj h1 hw hd HI HI0
          go_upto_region 7 with (fail)
          have one := HT.out
          refine Rc.wp_region (by kernel_rfl) (fun opn => List.getD [Rc.val (.pointer (some a)), Rc.val (.slice (some ⟨b, off, none⟩) ps.length c1), Rc.val (.int .i64 ((j : Nat) : Int)), Rc.val (.pointer (some ⟨b, off + j * 6, none⟩)), Rc.val (.pointer (some ⟨b, off + j * 6 + 1, none⟩)), Rc.val (.int .i64 p.i), Rc.val (.int .i64 ((within0 p.i 63 : Nat) : Int)), Rc.val (.slice (some ⟨b, off, none⟩) ps.length c1), Rc.val (.int .i64 ((j : Nat) : Int)), Rc.val (.pointer (some ⟨b, off + j * 6, none⟩)), Rc.val (.pointer (some ⟨b, off + j * 6 + 2, none⟩)), Rc.val (.slice p.A p.x.length p.c), Ob.frow (sized 128 p.x), Ob.turned D.toObj (.pointer (some a)) (Ob.Ups B wr) (.int .i64 0) (st.put (within0 p.i 63) (sized 128 p.x)), Ob.turned D.toObj (.pointer (some a)) (Ob.Ups B wr) undef st] opn Rc.any) 1 [] [[], [], [], [(1, 35), (2, 36)], [(3, 37)], [(4, 38)], [(5, 39)], [], [], [(7, 41), (8, 42)], [(9, 43)], [(10, 44)], [(11, 45)], [(0, 34), (6, 40), (12, 46)]] [[], [], [], [1, 2], [1, 2, 3], [1, 2, 3, 4], [1, 2, 3, 4, 5], [], [], [7, 8], [7, 8, 9], [7, 8, 9, 10], [1, 2, 3, 4, 5, 6, 7, 8, 9, 10, 11], [0, 1, 2, 3, 4, 5, 6, 7, 8, 9, 10, 11, 12]] [[], [], [], [1, 2], [3], [4], [5], [], [], [7, 8], [9], [10], [11], [0, 6, 12, 14]] [(13, 14)] (by kernel_rfl) (by rfl) (by kernel_rfl) B (fun _ b => B b) (Ob.one_inv D.toObj one.at_ _ _ 14 rfl) ?_ ?_
          · intro fr ha
            have hz : fr.tmps.size = 116 := by rw [ha]; rfl
            have y3 : fr.eval (.tmp 3) = .pointer (some a) := by rw [ha]; rfl
            have y0 : fr.eval (.tmp 0) = .slice (some ⟨b, off, none⟩) ps.length c1 := by rw [ha]; rfl
            have y5 : fr.eval (.tmp 5) = .int .i64 ((j : Nat) : Int) := by rw [ha]; rfl
            clear ha
            refine .cons ?_ (.cons ?_ (.cons ?_ (.cons ?_ (.cons ?_ (.cons ?_ (.cons ?_ (.cons ?_ (.cons ?_ (.cons ?_ (.cons ?_ (.cons ?_ (.cons ?_ (.cons ?_ (.nil))))))))))))))
            · intro V S w2 HM HU HE
              have HM : Mod wr w2 B := HM
              have tb3 : (Rg.putUse V [] fr).eval (.tmp 3) = .pointer (some a) := (Rg.use_eval V fr 3 [] (by simp only [hz]; decide)).trans y3
              show Rg.Does1 _ _ V (Rg.putUse V [] fr) w2 _
              exact Ob.rc_mv (.pointer (some a)) (by simp only [execOp, tb3]; go_simp) rfl rfl True.intro
            · intro V S w2 HM HU HE
              have HM : Mod wr w2 B := HM
              have tb0 : (Rg.putUse V [] fr).eval (.tmp 0) = .slice (some ⟨b, off, none⟩) ps.length c1 := (Rg.use_eval V fr 0 [] (by simp only [hz]; decide)).trans y0
              show Rg.Does1 _ _ V (Rg.putUse V [] fr) w2 _
              exact Ob.rc_mv (.slice (some ⟨b, off, none⟩) ps.length c1) (by simp only [execOp, tb0]; go_simp) rfl rfl True.intro
            · intro V S w2 HM HU HE
              have HM : Mod wr w2 B := HM
              have tb5 : (Rg.putUse V [] fr).eval (.tmp 5) = .int .i64 ((j : Nat) : Int) := (Rg.use_eval V fr 5 [] (by simp only [hz]; decide)).trans y5
              show Rg.Does1 _ _ V (Rg.putUse V [] fr) w2 _
              exact Ob.rc_mv (.int .i64 ((j : Nat) : Int)) (by simp only [execOp, tb5]; go_simp) rfl rfl True.intro
            · intro V S w2 HM HU HE
              have HM : Mod wr w2 B := HM
              have h1 : V 1 = .slice (some ⟨b, off, none⟩) ps.length c1 := HU.holds 1 (by decide)
              have tb35 : (Rg.putUse V [(1, 35), (2, 36)] fr).eval (.tmp 35) = .slice (some ⟨b, off, none⟩) ps.length c1 := (Rg.use_eval V fr 35 [(1, 35), (2, 36)] (by simp only [hz]; decide)).trans h1
              have h2 : V 2 = .int .i64 ((j : Nat) : Int) := HU.holds 2 (by decide)
              have tb36 : (Rg.putUse V [(1, 35), (2, 36)] fr).eval (.tmp 36) = .int .i64 ((j : Nat) : Int) := (Rg.use_eval V fr 36 [(1, 35), (2, 36)] (by simp only [hz]; decide)).trans h2
              show Rg.Does1 _ _ V (Rg.putUse V [(1, 35), (2, 36)] fr) w2 _
              have b1 := hlt1
              exact Ob.rc_mv (.pointer (some ⟨b, off + j * 6, none⟩)) (by simp only [execOp, tb35, tb36]; go_simp) rfl rfl True.intro
            · intro V S w2 HM HU HE
              have HM : Mod wr w2 B := HM
              have h3 : V 3 = .pointer (some ⟨b, off + j * 6, none⟩) := HU.holds 3 (by decide)
              have tb37 : (Rg.putUse V [(3, 37)] fr).eval (.tmp 37) = .pointer (some ⟨b, off + j * 6, none⟩) := (Rg.use_eval V fr 37 [(3, 37)] (by simp only [hz]; decide)).trans h3
              show Rg.Does1 _ _ V (Rg.putUse V [(3, 37)] fr) w2 _
              exact Ob.rc_mv (.pointer (some ⟨b, off + j * 6 + 1, none⟩)) (by simp only [execOp, tb37]; go_simp) rfl rfl True.intro
            · intro V S w2 HM HU HE
              have HM : Mod wr w2 B := HM
              have h4 : V 4 = .pointer (some ⟨b, off + j * 6 + 1, none⟩) := HU.holds 4 (by decide)
              have tb38 : (Rg.putUse V [(4, 38)] fr).eval (.tmp 38) = .pointer (some ⟨b, off + j * 6 + 1, none⟩) := (Rg.use_eval V fr 38 [(4, 38)] (by simp only [hz]; decide)).trans h4
              show Rg.Does1 _ _ V (Rg.putUse V [(4, 38)] fr) w2 _
              have lw : Below w.heap.size w w2 := Ob.low_more one.low HM one.up
              have cc := HK.out.six lw
              obtain ⟨d0, d1, d2, d3, d4, d5⟩ := cc
              exact Ob.rc_mv (.int .i64 p.i) (by simp only [execOp, tb38]; go_simp) rfl rfl True.intro
            · intro V S w2 HM HU HE
              have HM : Mod wr w2 B := HM
              have h5 : V 5 = .int .i64 p.i := HU.holds 5 (by decide)
              have tb39 : (Rg.putUse V [(5, 39)] fr).eval (.tmp 39) = .int .i64 p.i := (Rg.use_eval V fr 39 [(5, 39)] (by simp only [hz]; decide)).trans h5
              show Rg.Does1 _ _ V (Rg.putUse V [(5, 39)] fr) w2 _
              exact Ob.step_tell (.int .i64 ((within0 p.i 63 : Nat) : Int)) #[.int .i64 p.i, .int .i64 0, .int .i64 63] (fun args w => Rg.call_enter Try.func20 (by kernel_rfl) (by kernel_rfl) args w) rfl (by simp only [List.map_toArray, List.map_cons, List.map_nil, Rg.eval_const, tb39]) rfl (fun x => Rg.alias_none rfl V x) True.intro ((within_any p.i 63 w2 (by omega) HK.out.ii.1 HK.out.ii.2).mono fun e w' ⟨h3, h4⟩ => ⟨h3, h4 ▸ Below.refl _ _⟩)
            · intro V S w2 HM HU HE
              have HM : Mod wr w2 B := HM
              have tb0 : (Rg.putUse V [] fr).eval (.tmp 0) = .slice (some ⟨b, off, none⟩) ps.length c1 := (Rg.use_eval V fr 0 [] (by simp only [hz]; decide)).trans y0
              show Rg.Does1 _ _ V (Rg.putUse V [] fr) w2 _
              exact Ob.rc_mv (.slice (some ⟨b, off, none⟩) ps.length c1) (by simp only [execOp, tb0]; go_simp) rfl rfl True.intro
            · intro V S w2 HM HU HE
              have HM : Mod wr w2 B := HM
              have tb5 : (Rg.putUse V [] fr).eval (.tmp 5) = .int .i64 ((j : Nat) : Int) := (Rg.use_eval V fr 5 [] (by simp only [hz]; decide)).trans y5
              show Rg.Does1 _ _ V (Rg.putUse V [] fr) w2 _
              exact Ob.rc_mv (.int .i64 ((j : Nat) : Int)) (by simp only [execOp, tb5]; go_simp) rfl rfl True.intro
            · intro V S w2 HM HU HE
              have HM : Mod wr w2 B := HM
              have h7 : V 7 = .slice (some ⟨b, off, none⟩) ps.length c1 := HU.holds 7 (by decide)
              have tb41 : (Rg.putUse V [(7, 41), (8, 42)] fr).eval (.tmp 41) = .slice (some ⟨b, off, none⟩) ps.length c1 := (Rg.use_eval V fr 41 [(7, 41), (8, 42)] (by simp only [hz]; decide)).trans h7
              have h8 : V 8 = .int .i64 ((j : Nat) : Int) := HU.holds 8 (by decide)
              have tb42 : (Rg.putUse V [(7, 41), (8, 42)] fr).eval (.tmp 42) = .int .i64 ((j : Nat) : Int) := (Rg.use_eval V fr 42 [(7, 41), (8, 42)] (by simp only [hz]; decide)).trans h8
              show Rg.Does1 _ _ V (Rg.putUse V [(7, 41), (8, 42)] fr) w2 _
              have b1 := hlt1
              exact Ob.rc_mv (.pointer (some ⟨b, off + j * 6, none⟩)) (by simp only [execOp, tb41, tb42]; go_simp) rfl rfl True.intro
            · intro V S w2 HM HU HE
              have HM : Mod wr w2 B := HM
              have h9 : V 9 = .pointer (some ⟨b, off + j * 6, none⟩) := HU.holds 9 (by decide)
              have tb43 : (Rg.putUse V [(9, 43)] fr).eval (.tmp 43) = .pointer (some ⟨b, off + j * 6, none⟩) := (Rg.use_eval V fr 43 [(9, 43)] (by simp only [hz]; decide)).trans h9
              show Rg.Does1 _ _ V (Rg.putUse V [(9, 43)] fr) w2 _
              exact Ob.rc_mv (.pointer (some ⟨b, off + j * 6 + 2, none⟩)) (by simp only [execOp, tb43]; go_simp) rfl rfl True.intro
            · intro V S w2 HM HU HE
              have HM : Mod wr w2 B := HM
              have h10 : V 10 = .pointer (some ⟨b, off + j * 6 + 2, none⟩) := HU.holds 10 (by decide)
              have tb44 : (Rg.putUse V [(10, 44)] fr).eval (.tmp 44) = .pointer (some ⟨b, off + j * 6 + 2, none⟩) := (Rg.use_eval V fr 44 [(10, 44)] (by simp only [hz]; decide)).trans h10
              show Rg.Does1 _ _ V (Rg.putUse V [(10, 44)] fr) w2 _
              have lw : Below w.heap.size w w2 := Ob.low_more one.low HM one.up
              have cc := HK.out.six lw
              obtain ⟨d0, d1, d2, d3, d4, d5⟩ := cc
              exact Ob.rc_mv (.slice p.A p.x.length p.c) (by simp only [execOp, tb44]; go_simp) rfl rfl True.intro
            · intro V S w2 HM HU HE
              have HM : Mod wr w2 B := HM
              have h11 : V 11 = .slice p.A p.x.length p.c := HU.holds 11 (by decide)
              have tb45 : (Rg.putUse V [(11, 45)] fr).eval (.tmp 45) = .slice p.A p.x.length p.c := (Rg.use_eval V fr 45 [(11, 45)] (by simp only [hz]; decide)).trans h11
              show Rg.Does1 _ _ V (Rg.putUse V [(11, 45)] fr) w2 _
              have lw : Below w.heap.size w w2 := Ob.low_more one.low HM one.up
              exact Ob.step_frow (sized 128 p.x) #[.slice p.A p.x.length p.c, .int .i64 128] (fun args w => Rg.call_enter Try.func11 (by kernel_rfl) (by kernel_rfl) args w) rfl (by simp only [List.map_toArray, List.map_cons, List.map_nil, Rg.eval_const, tb45]) rfl (fun x => Rg.alias_none rfl V x) True.intro (sized_any w2 p.x p.A p.c 128 (HK.out.rd.below lw) HK.out.fits HK.out.long (by omega))
            · intro V S w2 HM HU HE
              have HM : Mod wr w2 B := HM
              have h0 : V 0 = .pointer (some a) := HU.holds 0 (by decide)
              have tb34 : (Rg.putUse V [(0, 34), (6, 40), (12, 46)] fr).eval (.tmp 34) = .pointer (some a) := (Rg.use_eval V fr 34 [(0, 34), (6, 40), (12, 46)] (by simp only [hz]; decide)).trans h0
              have h6 : V 6 = .int .i64 ((within0 p.i 63 : Nat) : Int) := HU.holds 6 (by decide)
              have tb40 : (Rg.putUse V [(0, 34), (6, 40), (12, 46)] fr).eval (.tmp 40) = .int .i64 ((within0 p.i 63 : Nat) : Int) := (Rg.use_eval V fr 40 [(0, 34), (6, 40), (12, 46)] (by simp only [hz]; decide)).trans h6
              obtain ⟨X12, k12, e12, hc12, hr12, hX12⟩ := HU.holds 12 (by decide)
              have tb46 : (Rg.putUse V [(0, 34), (6, 40), (12, 46)] fr).eval (.tmp 46) = .slice X12 (sized 128 p.x).length k12 := (Rg.use_eval V fr 46 [(0, 34), (6, 40), (12, 46)] (by simp only [hz]; decide)).trans e12
              show Rg.Does1 _ _ V (Rg.putUse V [(0, 34), (6, 40), (12, 46)] fr) w2 _
              exact Ob.step_turn (s := st) D.toObj #[.pointer (some a), .int .i64 ((within0 p.i 63 : Nat) : Int), .slice X12 (sized 128 p.x).length k12] (fun args w => Rg.call_enter Try.func19 (by kernel_rfl) (by kernel_rfl) args w) rfl (by simp only [List.map_toArray, List.map_cons, List.map_nil, tb34, tb40, tb46]) rfl (by decide) (HU.holds 14 (by decide)).2 (fun x => Rg.alias_none rfl V x) True.intro HM.size (fun S1 hat hsub hup => by have hq := within0_le p.i 63; have := D.write hat (by have := HW.out; omega) ((within0 p.i 63 : Nat) : Int) X12 (sized 128 p.x) k12 (by omega) (by omega) ⟨hr12, fun _ b hA hB => HU.sep 14 (by decide) 12 (by decide) (by decide) b (hsub b hB) (hX12 b hA)⟩ hc12 (by rw [sized_length]; omega); rw [Dk.write_to st _ _ (by rw [HD.out]; omega) (sized_length _ _)] at this; exact this)
          · intro V S w2 HI
            have hb : V 13 = .int .i64 0 := (HI.get 13 (by decide) (by rfl)).1
            have HT2 := Lib.hid (one.after HI.mod.undrew (HI.get 13 (by decide) (by rfl)).2)
            have HM2 : Hid (Mod wr w2 B) := HI.mod.undrew
            simp only [Rg.putList, Act.put, List.setIfInBounds_toArray, List.set_cons_zero, List.set_cons_succ, Nat.zero_add, Nat.reduceAdd]
            rw [hb]
            clear HI hb one HT
            obtain ⟨B2, h2⟩ := HT2.out
            have HI2 : Hid (∃ st B, Ob.One D.toObj (.pointer (some a)) w w2 B st B w2 ∧ st.writes ≤ j + 1 ∧ st.dirty.length = 64) := ⟨_, B2, h2.now, by show st.writes + 1 ≤ j + 1; have := HW.out; omega, by rw [put_dirty, HD.out]⟩
            clear h2 HT2 HM2
            go_wp2_with fail
            go_roundw
            case rel => exact ⟨j + 1, by omega, by omega, by go_num, HI2⟩
            case measure => simp [intOf]; omega
        · go_wp2_with fail
          go_meet
          case rel => exact ⟨j, rfl, by obtain ⟨st, B, h1, _, h2⟩ := HI.out; exact ⟨st, B, h1, h2⟩⟩
      · go_wp2_with fail
        go_meet
        case rel => exact ⟨j, rfl, by obtain ⟨st, B, h1, _, h2⟩ := HI.out; exact ⟨st, B, h1, h2⟩⟩
  case rest =>
    clear HI0
    obtain ⟨i, rfl, HI⟩ := hcut
    obtain ⟨st, B, h1, hd⟩ := HI.out
    have HT := Lib.hid h1
    have HD := Lib.hid hd
    clear h1 hd HI
    go_wp2_with fail
    refine (D.image HT.out.at_).mono ?_
    rintro e w2 ⟨x, rfl, hf, hb⟩
    obtain ⟨L, hL⟩ : ∃ L, L = st.image := ⟨_, rfl⟩
    rw [← hL] at hf
    have hll : L.length = 128 * 64 := by rw [hL, (D.ok HT.out.at_).image, HD.out]
    obtain ⟨X, c, rfl, hc, hr, hX⟩ := hf.form
    have HO := Lib.hid hf
    have HLE := Lib.hid hL
    have HR := Lib.hid hr
    have HXB := Lib.hid hX
    have HB2 := Lib.hid hb
    obtain ⟨g, rfl⟩ := own_addr (show w2.ownsRow 0 5 1 (.slice X L.length c) L.length (Lib.byteCells L) from own_base hf) (by omega)
    have HLL := Lib.hid hll
    clear hf hr hX hb hL hll
    go_wp2_with fail
    refine (D.of_ w2 _ L c HR.out hc (by rw [HLL.out]; omega)).mono ?_
    rintro e w3 ⟨hb3, h64, _⟩
    obtain ⟨v, S, rfl, hat, hS⟩ := h64 64 (by omega) (by omega) HLL.out
    obtain ⟨a2, rfl⟩ := D.ptr hat
    clear h64
    have hgl : g < w2.heap.size := (HXB.out g rfl).2
    have hgw : wc.heap.size ≤ g := (HXB.out g rfl).1
    have HC := Lib.hid (show Ob.One D.toObj (.pointer (some a2)) wc w3 S (Dk.of 64 L) S w3 from ⟨hat, Mod.refl _ _, fun _ h => .inl h, HB2.out.trans (hb3.mono HB2.out.size), fun b hb => Nat.le_trans HB2.out.size (hS b hb)⟩)
    have HSG : Hid (∀ b, S b → b ≠ g) := fun b hb e => by have := hS b hb; omega
    have HR3 : Hid (Rd w3 (some ⟨g, 0, none⟩) L) := HR.out.below hb3
    have HPK : Hid (Poked w3 g L.length c w3) := ⟨L, rfl, Ob.own_mod (own_base HO.out) (Mod.of_below hb3 (fun _ => False)) (fun _ _ h => h), Mod.refl _ _⟩
    have hstr := Ob.str_run w3 _ L c HR3.out
    clear hat hS hb3 HR HO HXB
    obtain ⟨n, hn⟩ : ∃ n, n = L.length := ⟨_, rfl⟩
    rw [← hn] at HPK hstr
    have HN := Lib.hid hn
    have hn2 : n = 8192 := by rw [hn, HLL.out]
    have HN2 := Lib.hid hn2
    rw [← hn]
    clear hn hn2
    go_wp2_with fail
    clear hstr
    go_loopw [10] (fun t wr => ∃ j : Nat, t = .int .i64 (j : Nat) ∧ j ≤ n + 7 ∧ Hid (Poked w3 g n c wr)) (fun t _ => n + 7 - (intOf t).toNat)
    case atStart => exact ⟨0, rfl, by omega, HPK⟩
    case round =>
      obtain ⟨j, rfl, hj, HP1⟩ := hrel
      by_cases hlt : j < n
      · obtain ⟨x, hx, cx, fx, hp2⟩ := HP1.out.cell j hlt
        have hu := u8_more x hx
        have HP2 := Lib.hid hp2
        clear hp2 HP1 HPK
        have hn3 := HN2.out
        go_wp2_with fail
        go_roundw
        case rel => exact ⟨j + 7, by go_num, by omega, HP2⟩
        case measure => simp [intOf]; omega
      · obtain ⟨l', hl', _, hm⟩ := HP1.out
        have HC2 := Lib.hid (HC.out.poke (w' := wr) (hm.mono fun k _ hk => ⟨fun h => HSG.out k h hk, by rw [hk]; exact hgw⟩))
        have HT2 := Lib.hid (HT.out.later HC2.out.low)
        clear hm hl' HP1 HPK HC
        go_wp2_with fail
        refine (D.read HT2.out.at_ 0 (by omega) (by omega)).mono ?_
        rintro e w4 ⟨x, rfl, hf, hb⟩
        obtain ⟨r, hr⟩ : ∃ r, r = (st.read 0).1 := ⟨_, rfl⟩
        have hrl : r.length = 128 := by rw [hr]; exact (D.ok HT.out.at_).read_len 0 (by rw [HD.out]; omega)
        rw [← hr] at hf
        obtain ⟨X2, c2, rfl, hc2, hr2, hX2⟩ := hf.form
        rw [hrl] at hf ⊢
        obtain ⟨g2, rfl⟩ := own_addr (show w4.ownsRow 0 5 1 (.slice X2 128 c2) 128 (Lib.byteCells r) from by have := own_base hf; rwa [hrl] at this) (by omega)
        have hg2 : wr.heap.size ≤ g2 := (hX2 g2 rfl).1
        have HPK : Hid (Poked w4 g2 128 c2 w4) := ⟨r, hrl, by have := own_base hf; rwa [hrl] at this, Mod.refl _ _⟩
        have HB4 := Lib.hid hb
        clear hf hr2 hX2 hb hr hrl hc2
        go_wp2_with fail
        go_loopw [13] (fun t wr => ∃ j : Nat, t = .int .i64 (j : Nat) ∧ j ≤ 129 ∧ Hid (Poked w4 g2 128 c2 wr)) (fun t _ => 129 - (intOf t).toNat)
        case atStart => exact ⟨0, rfl, by omega, HPK⟩
        case round =>
          obtain ⟨j2, rfl, hj2, HP1⟩ := hrel
          by_cases hlt2 : j2 < 128
          · obtain ⟨x, hx, cx, fx, hp2⟩ := HP1.out.cell j2 hlt2
            have hu := u8_more x hx
            have HP2 := Lib.hid hp2
            clear hp2 HP1 HPK
            go_wp2_with fail
            go_roundw
            case rel => exact ⟨j2 + 1, by go_num, by omega, HP2⟩
            case measure => simp [intOf]; omega
          · obtain ⟨l2, _, _, hm⟩ := HP1.out
            have hlow := Ob.low_more HB4.out hm (fun k hk => by rw [hk]; exact hg2)
            have HC3 := Lib.hid (HC2.out.later hlow)
            clear hm hlow HP1 HPK HC2 HT2 HB4
            obtain ⟨s5, hs5⟩ : ∃ s5, s5 = (Dk.of 64 L).crash [] 0 0 := ⟨_, rfl⟩
            have HIM5 : Hid (s5.image = L) := by show _ = _; rw [hs5]; exact of_crash 64 L [] 0 0 HLL.out
            have HD5 : Hid (s5.dirty.length = 64) := by
              show _ = _
              rw [hs5]
              show (List.replicate (List.replicate 64 false).length false).length = 64
              rw [List.length_replicate, List.length_replicate]
            go_wp2_with fail
            refine (D.crash HC3.out.at_ none [] 0 0 0 (rdb_nil _ _) (fun _ h => by cases h) (by simp) (by simp) (by omega) (by omega) (by omega) (by omega)).mono ?_
            rintro e w5 ⟨x, rfl, B5, hat, hm, hs⟩
            rw [← hs5] at hat
            have HC4 := Lib.hid (HC3.out.turn hat hm hs)
            have HT4 := Lib.hid (HT.out.later HC4.out.low)
            clear hat hm hs HC3 hs5
            go_wp2_with fail
            refine (D.image HC4.out.at_).mono ?_
            rintro e w6 ⟨x, rfl, hf, hb⟩
            rw [HIM5.out] at hf
            obtain ⟨X3, c3, rfl, hc3, hr3, _⟩ := hf.form
            have hstr := Ob.str_run w6 X3 L c3 hr3
            have HC5 := Lib.hid (HC4.out.later hb)
            have HT5 := Lib.hid (HT4.out.later hb)
            clear hf hr3 hb hc3 HC4 HT4
            go_wp2_with fail
            clear hstr
            refine (D.image HT5.out.at_).mono ?_
            rintro e w7 ⟨x, rfl, hf, hb⟩
            rw [← HLE.out] at hf
            obtain ⟨X4, c4, rfl, hc4, hr4, _⟩ := hf.form
            have hstr := Ob.str_run w7 X4 L c4 hr4
            have HC6 := Lib.hid (HC5.out.later hb)
            have HT6 := Lib.hid (HT5.out.later hb)
            clear hf hr4 hb hc4 HC5 HT5
            go_wp2_with fail
            clear hstr
            have hq := D.sectors HC6.out.at_
            rw [HD5.out] at hq
            refine hq.mono ?_
            rintro e w8 ⟨rfl, hb⟩
            have HT7 := Lib.hid (HT6.out.later hb)
            clear hb hq HC6 HT6
            go_wp2_with fail
            have hq := D.sectors HT7.out.at_
            rw [HD.out] at hq
            refine hq.mono ?_
            rintro e w9 ⟨rfl, hb⟩
            have HT8 := Lib.hid (HT7.out.later hb)
            clear hb hq HT7
            go_wp2_with fail
            refine (known5_any D w9).mono ?_
            rintro e w10 ⟨rfl, hb⟩
            have HT9 := Lib.hid (HT8.out.later hb).low
            clear hb HT8
            go_wp2_with fail
            go_ret
            exact ⟨rfl, HT9.out⟩
end Go.Proofs.Ytenedgapjbmpgaa

/-
  OWN WORK. The law DiskSafe, walked, given what the program's own disk does.
-/
import Derived.Test.YtenedgapjbmpgaaDiKnown
import Derived.Test.YtenedgapjbmpgaaDiArgs
import Derived.Test.YtenedgapjbmpgaaDiSafeP
import Derived.Test.YtenedgapjbmpgaaBaWithin
import Derived.Deep.CutBlock
namespace Go.Proofs.Ytenedgapjbmpgaa
open Go.RowKit Rc Di

theorem rdi_mod {w w' : World} {A : Option Addr} {l : List Int} {S : Nat → Prop} (h : RdI w A l) (hm : Mod w w' S) (hA : ∀ b, A.map (·.block) = some b → ¬ S b) : RdI w' A l := fun j x hj => by
  obtain ⟨h1, b, off, rfl, h3, h4⟩ := h j x hj
  refine ⟨h1, b, off, rfl, Nat.lt_of_lt_of_le h3 hm.size, ?_⟩
  rw [← h4]
  unfold World.cell?
  rw [hm.block b h3 (hA b rfl)]
theorem rdb_below {w w' : World} {A : Option Addr} {l : List Bool} (h : RdB w A l) (hb : Below w.heap.size w w') : RdB w' A l := fun j x hj => by
  obtain ⟨a, rfl, h2, h3⟩ := h j x hj
  exact ⟨a, rfl, Nat.lt_of_lt_of_le h2 hb.size, (hb.cell (by rw [block_of_add]; exact h2)).trans h3⟩
/-- A sector of an image. -/
theorem sec_at (S : List (List UInt8)) (hS : ∀ x ∈ S, x.length = 128) (h64 : S.length = 64) (A : Option Addr) (cap : Nat) (hc : 8192 ≤ cap) (i : Nat) (hi : i < 64) :
    ∃ A' c', Hid (∀ W, (Instr.sliceAt 27 (.slice A 8192 cap) (some (.int .i64 ((128 * i : Nat) : Int))) (some (.int .i64 ((128 * i + 128 : Nat) : Int))) none).run Try.prog W = .ok (.slice A' 128 c') W) ∧ Hid (∀ W, Rd W A S.flatten → Rd W A' (S.getD i [])) ∧ (S.getD i []).length = 128 := by
  have hl : S.flatten.length = 8192 := by rw [flat_length S hS, h64]
  obtain ⟨A', r, c', h1, _, h3, _, h5, _, h7⟩ := part_lh A S.flatten cap (128 * i) (128 * i + 128) (by omega) (by omega) (by omega)
  have hi2 : i < S.length := by omega
  have hr : r = S.getD i [] := by
    have e : S.flatten.take (128 * i + 128) = S.flatten.take (128 * i) ++ (S.flatten.drop (128 * i)).take 128 := List.take_add
    have e2 := h5.out
    rw [e] at e2
    rw [← List.append_cancel_left e2, flat_at S i hS hi2, List.getD_eq_getElem?_getD, List.getElem?_eq_getElem hi2]
    rfl
  have hrl : r.length = 128 := by omega
  refine ⟨A', c', fun W => ?_, fun W h => ?_, by rw [← hr]; exact hrl⟩
  · have := h1.out W
    rw [hl, hrl] at this
    exact this
  · rw [← hr]; exact h3.out W h
theorem str_ne {x y : List UInt8} (h : ¬ (strOf x).toList = (strOf y).toList) : x ≠ y := fun e => h (by rw [e])

set_option maxHeartbeats 8000000 in
set_option maxRecDepth 100000 in
theorem safe_any (D : DSaid) (w : World) (ps qs : List AskD) (ks : List Bool) (A1 A2 KA : Option Addr) (c1 c2 kc : Nat) (hp : AsksIn w A1 ps) (hpl : ps.length ≤ 9223372036854775807) (hq : AsksIn w A2 qs) (hql : qs.length ≤ 9223372036854775807) (hk : RdB w KA ks) (hkc : ks.length ≤ kc) (hkl : ks.length ≤ 9223372036854775807) (torn cut : Int) (ht : In64 torn) (hc : In64 cut) :
    Calls Try.prog 5 #[.slice A1 ps.length c1, .slice A2 qs.length c2, .slice KA ks.length kc, .int .i64 torn, .int .i64 cut] w fun e w' => e = .returned (.bool true) ∧ Below w.heap.size w w' := by
  have HP := Lib.hid hp
  have HPL := Lib.hid hpl
  have HQ := Lib.hid hq
  have HQL := Lib.hid hql
  have HKS := Lib.hid hk
  have HKC := Lib.hid hkc
  have HKL := Lib.hid hkl
  have HTO := Lib.hid ht
  have HCU := Lib.hid hc
  clear hp hpl hq hql hk hkc hkl ht hc
  go_enter Try.func5, Try.ntmps5
  go_wp2_with fail
  refine (D.new64 w).mono ?_
  rintro e w1 ⟨a, B0, rfl, HT0⟩
  have HI0 : Hid (∃ st B, Ob.One D.toObj (.pointer (some a)) w w1 B st B w1 ∧ st.writes ≤ 0 ∧ st.dirty.length = 64) := ⟨_, B0, HT0.out, Nat.le_refl _, new_dirty 64⟩
  clear HT0
  go_upto_block 0 with (fail)
  go_cut [13] (fun t13 wx => ∃ i : Nat, t13 = .int .i64 (i : Nat) ∧ Hid (∃ st B, Ob.One D.toObj (.pointer (some a)) w wx B st B wx ∧ st.writes ≤ 20 ∧ st.dirty.length = 64))
  case first =>
    go_wp2_with fail
    go_loopw [13] (fun t13 wr => ∃ j : Nat, j ≤ ps.length ∧ j ≤ 20 ∧ t13 = .int .i64 (j : Nat) ∧ Hid (∃ st B, Ob.One D.toObj (.pointer (some a)) w wr B st B wr ∧ st.writes ≤ j ∧ st.dirty.length = 64)) (fun t13 _ => 20 - (intOf t13).toNat)
    case atStart => exact ⟨0, by omega, by omega, rfl, HI0⟩
    case round =>
      obtain ⟨j, hj, hj40, rfl, HI⟩ := hrel
      by_cases hlt : j < ps.length
      · by_cases hlt2 : j < 20
        · obtain ⟨b, off, rfl, hok⟩ := HP.out.plain (by omega)
          obtain ⟨p, hpj⟩ : ∃ p, ps[j]? = some p := ⟨_, List.getElem?_eq_getElem hlt⟩
          obtain ⟨st, B, h1, hw, hd⟩ := HI.out
          have HT := Lib.hid h1
          have HK := Lib.hid (hok j p hpj)
          have HW := Lib.hid hw
          have HD := Lib.hid hd
          have hlt1 := hlt
          clear hok hpj h1 hw hd HI HI0
          go_upto_region 7 with (fail)
          have one := HT.out
          refine Rc.wp_region (by kernel_rfl) (fun opn => List.getD [Rc.val (.pointer (some a)), Rc.val (.slice (some ⟨b, off, none⟩) ps.length c1), Rc.val (.int .i64 ((j : Nat) : Int)), Rc.val (.pointer (some ⟨b, off + j * 6, none⟩)), Rc.val (.pointer (some ⟨b, off + j * 6 + 1, none⟩)), Rc.val (.int .i64 p.i), Rc.val (.int .i64 ((within0 p.i 63 : Nat) : Int)), Rc.val (.slice (some ⟨b, off, none⟩) ps.length c1), Rc.val (.int .i64 ((j : Nat) : Int)), Rc.val (.pointer (some ⟨b, off + j * 6, none⟩)), Rc.val (.pointer (some ⟨b, off + j * 6 + 2, none⟩)), Rc.val (.slice p.A p.x.length p.c), Ob.frow (sized 128 p.x), Ob.turned D.toObj (.pointer (some a)) (Ob.Ups B wr) (.int .i64 0) (st.put (within0 p.i 63) (sized 128 p.x)), Ob.turned D.toObj (.pointer (some a)) (Ob.Ups B wr) undef st] opn Rc.any) 1 [] [[], [], [], [(1, 47), (2, 48)], [(3, 49)], [(4, 50)], [(5, 51)], [], [], [(7, 53), (8, 54)], [(9, 55)], [(10, 56)], [(11, 57)], [(0, 46), (6, 52), (12, 58)]] [[], [], [], [1, 2], [1, 2, 3], [1, 2, 3, 4], [1, 2, 3, 4, 5], [], [], [7, 8], [7, 8, 9], [7, 8, 9, 10], [1, 2, 3, 4, 5, 6, 7, 8, 9, 10, 11], [0, 1, 2, 3, 4, 5, 6, 7, 8, 9, 10, 11, 12]] [[], [], [], [1, 2], [3], [4], [5], [], [], [7, 8], [9], [10], [11], [0, 6, 12, 14]] [(13, 14)] (by kernel_rfl) (by rfl) (by kernel_rfl) B (fun _ b => B b) (Ob.one_inv D.toObj one.at_ _ _ 14 rfl) ?_ ?_
          · intro fr ha
            have hz : fr.tmps.size = 192 := by rw [ha]; rfl
            have y11 : fr.eval (.tmp 11) = .pointer (some a) := by rw [ha]; rfl
            have y0 : fr.eval (.tmp 0) = .slice (some ⟨b, off, none⟩) ps.length c1 := by rw [ha]; rfl
            have y13 : fr.eval (.tmp 13) = .int .i64 ((j : Nat) : Int) := by rw [ha]; rfl
            clear ha
            refine .cons ?_ (.cons ?_ (.cons ?_ (.cons ?_ (.cons ?_ (.cons ?_ (.cons ?_ (.cons ?_ (.cons ?_ (.cons ?_ (.cons ?_ (.cons ?_ (.cons ?_ (.cons ?_ (.nil))))))))))))))
            · intro V S w2 HM HU HE
              have HM : Mod wr w2 B := HM
              have tb11 : (Rg.putUse V [] fr).eval (.tmp 11) = .pointer (some a) := (Rg.use_eval V fr 11 [] (by simp only [hz]; decide)).trans y11
              show Rg.Does1 _ _ V (Rg.putUse V [] fr) w2 _
              exact Ob.rc_mv (.pointer (some a)) (by simp only [execOp, tb11]; go_simp) rfl rfl True.intro
            · intro V S w2 HM HU HE
              have HM : Mod wr w2 B := HM
              have tb0 : (Rg.putUse V [] fr).eval (.tmp 0) = .slice (some ⟨b, off, none⟩) ps.length c1 := (Rg.use_eval V fr 0 [] (by simp only [hz]; decide)).trans y0
              show Rg.Does1 _ _ V (Rg.putUse V [] fr) w2 _
              exact Ob.rc_mv (.slice (some ⟨b, off, none⟩) ps.length c1) (by simp only [execOp, tb0]; go_simp) rfl rfl True.intro
            · intro V S w2 HM HU HE
              have HM : Mod wr w2 B := HM
              have tb13 : (Rg.putUse V [] fr).eval (.tmp 13) = .int .i64 ((j : Nat) : Int) := (Rg.use_eval V fr 13 [] (by simp only [hz]; decide)).trans y13
              show Rg.Does1 _ _ V (Rg.putUse V [] fr) w2 _
              exact Ob.rc_mv (.int .i64 ((j : Nat) : Int)) (by simp only [execOp, tb13]; go_simp) rfl rfl True.intro
            · intro V S w2 HM HU HE
              have HM : Mod wr w2 B := HM
              have h1 : V 1 = .slice (some ⟨b, off, none⟩) ps.length c1 := HU.holds 1 (by decide)
              have tb47 : (Rg.putUse V [(1, 47), (2, 48)] fr).eval (.tmp 47) = .slice (some ⟨b, off, none⟩) ps.length c1 := (Rg.use_eval V fr 47 [(1, 47), (2, 48)] (by simp only [hz]; decide)).trans h1
              have h2 : V 2 = .int .i64 ((j : Nat) : Int) := HU.holds 2 (by decide)
              have tb48 : (Rg.putUse V [(1, 47), (2, 48)] fr).eval (.tmp 48) = .int .i64 ((j : Nat) : Int) := (Rg.use_eval V fr 48 [(1, 47), (2, 48)] (by simp only [hz]; decide)).trans h2
              show Rg.Does1 _ _ V (Rg.putUse V [(1, 47), (2, 48)] fr) w2 _
              have b1 := hlt1
              exact Ob.rc_mv (.pointer (some ⟨b, off + j * 6, none⟩)) (by simp only [execOp, tb47, tb48]; go_simp) rfl rfl True.intro
            · intro V S w2 HM HU HE
              have HM : Mod wr w2 B := HM
              have h3 : V 3 = .pointer (some ⟨b, off + j * 6, none⟩) := HU.holds 3 (by decide)
              have tb49 : (Rg.putUse V [(3, 49)] fr).eval (.tmp 49) = .pointer (some ⟨b, off + j * 6, none⟩) := (Rg.use_eval V fr 49 [(3, 49)] (by simp only [hz]; decide)).trans h3
              show Rg.Does1 _ _ V (Rg.putUse V [(3, 49)] fr) w2 _
              exact Ob.rc_mv (.pointer (some ⟨b, off + j * 6 + 1, none⟩)) (by simp only [execOp, tb49]; go_simp) rfl rfl True.intro
            · intro V S w2 HM HU HE
              have HM : Mod wr w2 B := HM
              have h4 : V 4 = .pointer (some ⟨b, off + j * 6 + 1, none⟩) := HU.holds 4 (by decide)
              have tb50 : (Rg.putUse V [(4, 50)] fr).eval (.tmp 50) = .pointer (some ⟨b, off + j * 6 + 1, none⟩) := (Rg.use_eval V fr 50 [(4, 50)] (by simp only [hz]; decide)).trans h4
              show Rg.Does1 _ _ V (Rg.putUse V [(4, 50)] fr) w2 _
              have lw : Below w.heap.size w w2 := Ob.low_more one.low HM one.up
              have cc := HK.out.six lw
              obtain ⟨d0, d1, d2, d3, d4, d5⟩ := cc
              exact Ob.rc_mv (.int .i64 p.i) (by simp only [execOp, tb50]; go_simp) rfl rfl True.intro
            · intro V S w2 HM HU HE
              have HM : Mod wr w2 B := HM
              have h5 : V 5 = .int .i64 p.i := HU.holds 5 (by decide)
              have tb51 : (Rg.putUse V [(5, 51)] fr).eval (.tmp 51) = .int .i64 p.i := (Rg.use_eval V fr 51 [(5, 51)] (by simp only [hz]; decide)).trans h5
              show Rg.Does1 _ _ V (Rg.putUse V [(5, 51)] fr) w2 _
              exact Ob.step_tell (.int .i64 ((within0 p.i 63 : Nat) : Int)) #[.int .i64 p.i, .int .i64 0, .int .i64 63] (fun args w => Rg.call_enter Try.func20 (by kernel_rfl) (by kernel_rfl) args w) rfl (by simp only [List.map_toArray, List.map_cons, List.map_nil, Rg.eval_const, tb51]) rfl (fun x => Rg.alias_none rfl V x) True.intro ((within_any p.i 63 w2 (by omega) HK.out.ii.1 HK.out.ii.2).mono fun e w' ⟨h3, h4⟩ => ⟨h3, h4 ▸ Below.refl _ _⟩)
            · intro V S w2 HM HU HE
              have HM : Mod wr w2 B := HM
              have tb0 : (Rg.putUse V [] fr).eval (.tmp 0) = .slice (some ⟨b, off, none⟩) ps.length c1 := (Rg.use_eval V fr 0 [] (by simp only [hz]; decide)).trans y0
              show Rg.Does1 _ _ V (Rg.putUse V [] fr) w2 _
              exact Ob.rc_mv (.slice (some ⟨b, off, none⟩) ps.length c1) (by simp only [execOp, tb0]; go_simp) rfl rfl True.intro
            · intro V S w2 HM HU HE
              have HM : Mod wr w2 B := HM
              have tb13 : (Rg.putUse V [] fr).eval (.tmp 13) = .int .i64 ((j : Nat) : Int) := (Rg.use_eval V fr 13 [] (by simp only [hz]; decide)).trans y13
              show Rg.Does1 _ _ V (Rg.putUse V [] fr) w2 _
              exact Ob.rc_mv (.int .i64 ((j : Nat) : Int)) (by simp only [execOp, tb13]; go_simp) rfl rfl True.intro
            · intro V S w2 HM HU HE
              have HM : Mod wr w2 B := HM
              have h7 : V 7 = .slice (some ⟨b, off, none⟩) ps.length c1 := HU.holds 7 (by decide)
              have tb53 : (Rg.putUse V [(7, 53), (8, 54)] fr).eval (.tmp 53) = .slice (some ⟨b, off, none⟩) ps.length c1 := (Rg.use_eval V fr 53 [(7, 53), (8, 54)] (by simp only [hz]; decide)).trans h7
              have h8 : V 8 = .int .i64 ((j : Nat) : Int) := HU.holds 8 (by decide)
              have tb54 : (Rg.putUse V [(7, 53), (8, 54)] fr).eval (.tmp 54) = .int .i64 ((j : Nat) : Int) := (Rg.use_eval V fr 54 [(7, 53), (8, 54)] (by simp only [hz]; decide)).trans h8
              show Rg.Does1 _ _ V (Rg.putUse V [(7, 53), (8, 54)] fr) w2 _
              have b1 := hlt1
              exact Ob.rc_mv (.pointer (some ⟨b, off + j * 6, none⟩)) (by simp only [execOp, tb53, tb54]; go_simp) rfl rfl True.intro
            · intro V S w2 HM HU HE
              have HM : Mod wr w2 B := HM
              have h9 : V 9 = .pointer (some ⟨b, off + j * 6, none⟩) := HU.holds 9 (by decide)
              have tb55 : (Rg.putUse V [(9, 55)] fr).eval (.tmp 55) = .pointer (some ⟨b, off + j * 6, none⟩) := (Rg.use_eval V fr 55 [(9, 55)] (by simp only [hz]; decide)).trans h9
              show Rg.Does1 _ _ V (Rg.putUse V [(9, 55)] fr) w2 _
              exact Ob.rc_mv (.pointer (some ⟨b, off + j * 6 + 2, none⟩)) (by simp only [execOp, tb55]; go_simp) rfl rfl True.intro
            · intro V S w2 HM HU HE
              have HM : Mod wr w2 B := HM
              have h10 : V 10 = .pointer (some ⟨b, off + j * 6 + 2, none⟩) := HU.holds 10 (by decide)
              have tb56 : (Rg.putUse V [(10, 56)] fr).eval (.tmp 56) = .pointer (some ⟨b, off + j * 6 + 2, none⟩) := (Rg.use_eval V fr 56 [(10, 56)] (by simp only [hz]; decide)).trans h10
              show Rg.Does1 _ _ V (Rg.putUse V [(10, 56)] fr) w2 _
              have lw : Below w.heap.size w w2 := Ob.low_more one.low HM one.up
              have cc := HK.out.six lw
              obtain ⟨d0, d1, d2, d3, d4, d5⟩ := cc
              exact Ob.rc_mv (.slice p.A p.x.length p.c) (by simp only [execOp, tb56]; go_simp) rfl rfl True.intro
            · intro V S w2 HM HU HE
              have HM : Mod wr w2 B := HM
              have h11 : V 11 = .slice p.A p.x.length p.c := HU.holds 11 (by decide)
              have tb57 : (Rg.putUse V [(11, 57)] fr).eval (.tmp 57) = .slice p.A p.x.length p.c := (Rg.use_eval V fr 57 [(11, 57)] (by simp only [hz]; decide)).trans h11
              show Rg.Does1 _ _ V (Rg.putUse V [(11, 57)] fr) w2 _
              have lw : Below w.heap.size w w2 := Ob.low_more one.low HM one.up
              exact Ob.step_frow (sized 128 p.x) #[.slice p.A p.x.length p.c, .int .i64 128] (fun args w => Rg.call_enter Try.func11 (by kernel_rfl) (by kernel_rfl) args w) rfl (by simp only [List.map_toArray, List.map_cons, List.map_nil, Rg.eval_const, tb57]) rfl (fun x => Rg.alias_none rfl V x) True.intro (sized_any w2 p.x p.A p.c 128 (HK.out.rd.below lw) HK.out.fits HK.out.long (by omega))
            · intro V S w2 HM HU HE
              have HM : Mod wr w2 B := HM
              have h0 : V 0 = .pointer (some a) := HU.holds 0 (by decide)
              have tb46 : (Rg.putUse V [(0, 46), (6, 52), (12, 58)] fr).eval (.tmp 46) = .pointer (some a) := (Rg.use_eval V fr 46 [(0, 46), (6, 52), (12, 58)] (by simp only [hz]; decide)).trans h0
              have h6 : V 6 = .int .i64 ((within0 p.i 63 : Nat) : Int) := HU.holds 6 (by decide)
              have tb52 : (Rg.putUse V [(0, 46), (6, 52), (12, 58)] fr).eval (.tmp 52) = .int .i64 ((within0 p.i 63 : Nat) : Int) := (Rg.use_eval V fr 52 [(0, 46), (6, 52), (12, 58)] (by simp only [hz]; decide)).trans h6
              obtain ⟨X12, k12, e12, hc12, hr12, hX12⟩ := HU.holds 12 (by decide)
              have tb58 : (Rg.putUse V [(0, 46), (6, 52), (12, 58)] fr).eval (.tmp 58) = .slice X12 (sized 128 p.x).length k12 := (Rg.use_eval V fr 58 [(0, 46), (6, 52), (12, 58)] (by simp only [hz]; decide)).trans e12
              show Rg.Does1 _ _ V (Rg.putUse V [(0, 46), (6, 52), (12, 58)] fr) w2 _
              exact Ob.step_turn (s := st) D.toObj #[.pointer (some a), .int .i64 ((within0 p.i 63 : Nat) : Int), .slice X12 (sized 128 p.x).length k12] (fun args w => Rg.call_enter Try.func19 (by kernel_rfl) (by kernel_rfl) args w) rfl (by simp only [List.map_toArray, List.map_cons, List.map_nil, tb46, tb52, tb58]) rfl (by decide) (HU.holds 14 (by decide)).2 (fun x => Rg.alias_none rfl V x) True.intro HM.size (fun S1 hat hsub hup => by have hq := within0_le p.i 63; have := D.write hat (by have := HW.out; omega) ((within0 p.i 63 : Nat) : Int) X12 (sized 128 p.x) k12 (by omega) (by omega) ⟨hr12, fun _ b hA hB => HU.sep 14 (by decide) 12 (by decide) (by decide) b (hsub b hB) (hX12 b hA)⟩ hc12 (by rw [sized_length]; omega); rw [Dk.write_to st _ _ (by rw [HD.out]; omega) (sized_length _ _)] at this; exact this)
          · intro V S w2 HI
            have hb : V 13 = .int .i64 0 := (HI.get 13 (by decide) (by rfl)).1
            have HT2 := Lib.hid (one.after HI.mod.undrew (HI.get 13 (by decide) (by rfl)).2)
            have HM2 : Hid (Mod wr w2 B) := HI.mod.undrew
            simp only [Rg.putList, Act.put, List.setIfInBounds_toArray, List.set_cons_zero, List.set_cons_succ, Nat.zero_add, Nat.reduceAdd]
            rw [hb]
            clear HI hb one HT
            obtain ⟨B2, h2⟩ := HT2.out
            have HI2 : Hid (∃ st B, Ob.One D.toObj (.pointer (some a)) w w2 B st B w2 ∧ st.writes ≤ j + 1 ∧ st.dirty.length = 64) := ⟨_, B2, h2.now, by show st.writes + 1 ≤ j + 1; have := HW.out; omega, by rw [put_dirty, HD.out]⟩
            clear h2 HT2 HM2
            go_wp2_with fail
            go_roundw
            case rel => exact ⟨j + 1, by omega, by omega, by go_num, HI2⟩
            case measure => simp [intOf]; omega
        · go_wp2_with fail
          go_meet
          case rel => exact ⟨j, rfl, by obtain ⟨st, B, h1, hw, h2⟩ := HI.out; exact ⟨st, B, h1, by omega, h2⟩⟩
      · go_wp2_with fail
        go_meet
        case rel => exact ⟨j, rfl, by obtain ⟨st, B, h1, hw, h2⟩ := HI.out; exact ⟨st, B, h1, by omega, h2⟩⟩
  case rest =>
    clear HI0
    obtain ⟨i0, rfl, HI⟩ := hcut
    obtain ⟨st, B, h1, hw, hd⟩ := HI.out
    have HT := Lib.hid h1
    have HW := Lib.hid hw
    have HD := Lib.hid hd
    clear h1 hd hw HI
    go_wp2_with fail
    refine (D.flush HT.out.at_).mono ?_
    rintro e w2 ⟨x, rfl, B1, hat, hm, hs⟩
    have HT1 := Lib.hid (HT.out.turn hat hm hs)
    obtain ⟨sO, hO⟩ : ∃ sO, sO = st.now := ⟨_, rfl⟩
    have HOL : Hid (sO.length = 64) := by show _ = _; rw [hO, (D.ok HT.out.at_).now, HD.out]
    have HOS : Hid (∀ x ∈ sO, x.length = 128) := by rw [hO]; exact (D.ok HT.out.at_).snow
    have HOF : Hid (sO.flatten.length = 8192) := by show _ = _; rw [flat_length _ HOS.out, HOL.out]
    have HIM : Hid (st.flush.image = sO.flatten) := by show _ = _; rw [hO]; rfl
    have HCL : Hid (Di.Clean st.flush sO) := by rw [hO]; exact Di.Clean.flush st
    have HD1 : Hid (st.flush.dirty.length = 64) := by show (List.replicate st.dirty.length false).length = 64; rw [List.length_replicate, HD.out]
    have HW1 : Hid (st.flush.writes ≤ 20) := HW.out
    clear hat hm hs HT HD HW hO
    go_wp2_with fail
    refine (D.image HT1.out.at_).mono ?_
    rintro e w3 ⟨x, rfl, hf, hb⟩
    rw [HIM.out] at hf
    obtain ⟨X0, c0, rfl, hc0, k0⟩ := HT1.out.fresh hb hf
    rw [HOF.out] at hc0 ⊢
    have HI0 : Hid (∃ s2 B, Ob.One D.toObj (.pointer (some a)) w w3 B s2 B w3 ∧ s2.writes ≤ 20 + 0 ∧ s2.dirty.length = 64 ∧ Di.Clean s2 sO ∧ Ob.Kept w3 B X0 sO.flatten) := ⟨_, B1, (HT1.out.later hb).now, HW1.out, HD1.out, HCL.out, k0⟩
    clear hf hb k0 HT1 HIM HCL HD1 HW1
    go_upto_block 2 with (fail)
    go_cut [15] (fun t15 wx => ∃ i : Nat, t15 = .int .i64 (i : Nat) ∧ Hid (∃ s2 B, Ob.One D.toObj (.pointer (some a)) w wx B s2 B wx ∧ s2.dirty.length = 64 ∧ Di.Clean s2 sO ∧ Ob.Kept wx B X0 sO.flatten))
    case first =>
      go_wp2_with fail
      go_loopw [15] (fun t15 wr => ∃ j : Nat, j ≤ qs.length ∧ j ≤ 20 ∧ t15 = .int .i64 (j : Nat) ∧ Hid (∃ s2 B, Ob.One D.toObj (.pointer (some a)) w wr B s2 B wr ∧ s2.writes ≤ 20 + j ∧ s2.dirty.length = 64 ∧ Di.Clean s2 sO ∧ Ob.Kept wr B X0 sO.flatten)) (fun t15 _ => 20 - (intOf t15).toNat)
      case atStart => exact ⟨0, by omega, by omega, rfl, HI0⟩
      case round =>
        obtain ⟨j, hj, hj40, rfl, HI⟩ := hrel
        by_cases hlt : j < qs.length
        · by_cases hlt2 : j < 20
          · obtain ⟨b, off, rfl, hok⟩ := HQ.out.plain (by omega)
            obtain ⟨p, hpj⟩ : ∃ p, qs[j]? = some p := ⟨_, List.getElem?_eq_getElem hlt⟩
            obtain ⟨st, B, h1, hw, hd, hcl, hk0⟩ := HI.out
            have HT := Lib.hid h1
            have HK := Lib.hid (hok j p hpj)
            have HW : Hid (st.writes ≤ 40) := by show _ ≤ _; omega
            have HW2 := Lib.hid hw
            have HD := Lib.hid hd
            have HCL := Lib.hid hcl
            have HK0 := Lib.hid hk0
            have hlt1 := hlt
            clear hok hpj h1 hw hd hcl hk0 HI HI0
            go_upto_region 13 with (fail)
            have one := HT.out
            refine Rc.wp_region (by kernel_rfl) (fun opn => List.getD [Rc.val (.pointer (some a)), Rc.val (.slice (some ⟨b, off, none⟩) qs.length c2), Rc.val (.int .i64 ((j : Nat) : Int)), Rc.val (.pointer (some ⟨b, off + j * 6, none⟩)), Rc.val (.pointer (some ⟨b, off + j * 6 + 1, none⟩)), Rc.val (.int .i64 p.i), Rc.val (.int .i64 ((within0 p.i 63 : Nat) : Int)), Rc.val (.slice (some ⟨b, off, none⟩) qs.length c2), Rc.val (.int .i64 ((j : Nat) : Int)), Rc.val (.pointer (some ⟨b, off + j * 6, none⟩)), Rc.val (.pointer (some ⟨b, off + j * 6 + 2, none⟩)), Rc.val (.slice p.A p.x.length p.c), Ob.frow (sized 128 p.x), Ob.turned D.toObj (.pointer (some a)) (Ob.Ups B wr) (.int .i64 0) (st.put (within0 p.i 63) (sized 128 p.x)), Ob.turned D.toObj (.pointer (some a)) (Ob.Ups B wr) undef st] opn Rc.any) 1 [] [[], [], [], [(1, 75), (2, 76)], [(3, 77)], [(4, 78)], [(5, 79)], [], [], [(7, 81), (8, 82)], [(9, 83)], [(10, 84)], [(11, 85)], [(0, 74), (6, 80), (12, 86)]] [[], [], [], [1, 2], [1, 2, 3], [1, 2, 3, 4], [1, 2, 3, 4, 5], [], [], [7, 8], [7, 8, 9], [7, 8, 9, 10], [1, 2, 3, 4, 5, 6, 7, 8, 9, 10, 11], [0, 1, 2, 3, 4, 5, 6, 7, 8, 9, 10, 11, 12]] [[], [], [], [1, 2], [3], [4], [5], [], [], [7, 8], [9], [10], [11], [0, 6, 12, 14]] [(13, 14)] (by kernel_rfl) (by rfl) (by kernel_rfl) B (fun _ b => B b) (Ob.one_inv D.toObj one.at_ _ _ 14 rfl) ?_ ?_
            · intro fr ha
              have hz : fr.tmps.size = 192 := by rw [ha]; rfl
              have y11 : fr.eval (.tmp 11) = .pointer (some a) := by rw [ha]; rfl
              have y1 : fr.eval (.tmp 1) = .slice (some ⟨b, off, none⟩) qs.length c2 := by rw [ha]; rfl
              have y15 : fr.eval (.tmp 15) = .int .i64 ((j : Nat) : Int) := by rw [ha]; rfl
              clear ha
              refine .cons ?_ (.cons ?_ (.cons ?_ (.cons ?_ (.cons ?_ (.cons ?_ (.cons ?_ (.cons ?_ (.cons ?_ (.cons ?_ (.cons ?_ (.cons ?_ (.cons ?_ (.cons ?_ (.nil))))))))))))))
              · intro V S w2 HM HU HE
                have HM : Mod wr w2 B := HM
                have tb11 : (Rg.putUse V [] fr).eval (.tmp 11) = .pointer (some a) := (Rg.use_eval V fr 11 [] (by simp only [hz]; decide)).trans y11
                show Rg.Does1 _ _ V (Rg.putUse V [] fr) w2 _
                exact Ob.rc_mv (.pointer (some a)) (by simp only [execOp, tb11]; go_simp) rfl rfl True.intro
              · intro V S w2 HM HU HE
                have HM : Mod wr w2 B := HM
                have tb1 : (Rg.putUse V [] fr).eval (.tmp 1) = .slice (some ⟨b, off, none⟩) qs.length c2 := (Rg.use_eval V fr 1 [] (by simp only [hz]; decide)).trans y1
                show Rg.Does1 _ _ V (Rg.putUse V [] fr) w2 _
                exact Ob.rc_mv (.slice (some ⟨b, off, none⟩) qs.length c2) (by simp only [execOp, tb1]; go_simp) rfl rfl True.intro
              · intro V S w2 HM HU HE
                have HM : Mod wr w2 B := HM
                have tb15 : (Rg.putUse V [] fr).eval (.tmp 15) = .int .i64 ((j : Nat) : Int) := (Rg.use_eval V fr 15 [] (by simp only [hz]; decide)).trans y15
                show Rg.Does1 _ _ V (Rg.putUse V [] fr) w2 _
                exact Ob.rc_mv (.int .i64 ((j : Nat) : Int)) (by simp only [execOp, tb15]; go_simp) rfl rfl True.intro
              · intro V S w2 HM HU HE
                have HM : Mod wr w2 B := HM
                have h1 : V 1 = .slice (some ⟨b, off, none⟩) qs.length c2 := HU.holds 1 (by decide)
                have tb75 : (Rg.putUse V [(1, 75), (2, 76)] fr).eval (.tmp 75) = .slice (some ⟨b, off, none⟩) qs.length c2 := (Rg.use_eval V fr 75 [(1, 75), (2, 76)] (by simp only [hz]; decide)).trans h1
                have h2 : V 2 = .int .i64 ((j : Nat) : Int) := HU.holds 2 (by decide)
                have tb76 : (Rg.putUse V [(1, 75), (2, 76)] fr).eval (.tmp 76) = .int .i64 ((j : Nat) : Int) := (Rg.use_eval V fr 76 [(1, 75), (2, 76)] (by simp only [hz]; decide)).trans h2
                show Rg.Does1 _ _ V (Rg.putUse V [(1, 75), (2, 76)] fr) w2 _
                have b1 := hlt1
                exact Ob.rc_mv (.pointer (some ⟨b, off + j * 6, none⟩)) (by simp only [execOp, tb75, tb76]; go_simp) rfl rfl True.intro
              · intro V S w2 HM HU HE
                have HM : Mod wr w2 B := HM
                have h3 : V 3 = .pointer (some ⟨b, off + j * 6, none⟩) := HU.holds 3 (by decide)
                have tb77 : (Rg.putUse V [(3, 77)] fr).eval (.tmp 77) = .pointer (some ⟨b, off + j * 6, none⟩) := (Rg.use_eval V fr 77 [(3, 77)] (by simp only [hz]; decide)).trans h3
                show Rg.Does1 _ _ V (Rg.putUse V [(3, 77)] fr) w2 _
                exact Ob.rc_mv (.pointer (some ⟨b, off + j * 6 + 1, none⟩)) (by simp only [execOp, tb77]; go_simp) rfl rfl True.intro
              · intro V S w2 HM HU HE
                have HM : Mod wr w2 B := HM
                have h4 : V 4 = .pointer (some ⟨b, off + j * 6 + 1, none⟩) := HU.holds 4 (by decide)
                have tb78 : (Rg.putUse V [(4, 78)] fr).eval (.tmp 78) = .pointer (some ⟨b, off + j * 6 + 1, none⟩) := (Rg.use_eval V fr 78 [(4, 78)] (by simp only [hz]; decide)).trans h4
                show Rg.Does1 _ _ V (Rg.putUse V [(4, 78)] fr) w2 _
                have lw : Below w.heap.size w w2 := Ob.low_more one.low HM one.up
                have cc := HK.out.six lw
                obtain ⟨d0, d1, d2, d3, d4, d5⟩ := cc
                exact Ob.rc_mv (.int .i64 p.i) (by simp only [execOp, tb78]; go_simp) rfl rfl True.intro
              · intro V S w2 HM HU HE
                have HM : Mod wr w2 B := HM
                have h5 : V 5 = .int .i64 p.i := HU.holds 5 (by decide)
                have tb79 : (Rg.putUse V [(5, 79)] fr).eval (.tmp 79) = .int .i64 p.i := (Rg.use_eval V fr 79 [(5, 79)] (by simp only [hz]; decide)).trans h5
                show Rg.Does1 _ _ V (Rg.putUse V [(5, 79)] fr) w2 _
                exact Ob.step_tell (.int .i64 ((within0 p.i 63 : Nat) : Int)) #[.int .i64 p.i, .int .i64 0, .int .i64 63] (fun args w => Rg.call_enter Try.func20 (by kernel_rfl) (by kernel_rfl) args w) rfl (by simp only [List.map_toArray, List.map_cons, List.map_nil, Rg.eval_const, tb79]) rfl (fun x => Rg.alias_none rfl V x) True.intro ((within_any p.i 63 w2 (by omega) HK.out.ii.1 HK.out.ii.2).mono fun e w' ⟨h3, h4⟩ => ⟨h3, h4 ▸ Below.refl _ _⟩)
              · intro V S w2 HM HU HE
                have HM : Mod wr w2 B := HM
                have tb1 : (Rg.putUse V [] fr).eval (.tmp 1) = .slice (some ⟨b, off, none⟩) qs.length c2 := (Rg.use_eval V fr 1 [] (by simp only [hz]; decide)).trans y1
                show Rg.Does1 _ _ V (Rg.putUse V [] fr) w2 _
                exact Ob.rc_mv (.slice (some ⟨b, off, none⟩) qs.length c2) (by simp only [execOp, tb1]; go_simp) rfl rfl True.intro
              · intro V S w2 HM HU HE
                have HM : Mod wr w2 B := HM
                have tb15 : (Rg.putUse V [] fr).eval (.tmp 15) = .int .i64 ((j : Nat) : Int) := (Rg.use_eval V fr 15 [] (by simp only [hz]; decide)).trans y15
                show Rg.Does1 _ _ V (Rg.putUse V [] fr) w2 _
                exact Ob.rc_mv (.int .i64 ((j : Nat) : Int)) (by simp only [execOp, tb15]; go_simp) rfl rfl True.intro
              · intro V S w2 HM HU HE
                have HM : Mod wr w2 B := HM
                have h7 : V 7 = .slice (some ⟨b, off, none⟩) qs.length c2 := HU.holds 7 (by decide)
                have tb81 : (Rg.putUse V [(7, 81), (8, 82)] fr).eval (.tmp 81) = .slice (some ⟨b, off, none⟩) qs.length c2 := (Rg.use_eval V fr 81 [(7, 81), (8, 82)] (by simp only [hz]; decide)).trans h7
                have h8 : V 8 = .int .i64 ((j : Nat) : Int) := HU.holds 8 (by decide)
                have tb82 : (Rg.putUse V [(7, 81), (8, 82)] fr).eval (.tmp 82) = .int .i64 ((j : Nat) : Int) := (Rg.use_eval V fr 82 [(7, 81), (8, 82)] (by simp only [hz]; decide)).trans h8
                show Rg.Does1 _ _ V (Rg.putUse V [(7, 81), (8, 82)] fr) w2 _
                have b1 := hlt1
                exact Ob.rc_mv (.pointer (some ⟨b, off + j * 6, none⟩)) (by simp only [execOp, tb81, tb82]; go_simp) rfl rfl True.intro
              · intro V S w2 HM HU HE
                have HM : Mod wr w2 B := HM
                have h9 : V 9 = .pointer (some ⟨b, off + j * 6, none⟩) := HU.holds 9 (by decide)
                have tb83 : (Rg.putUse V [(9, 83)] fr).eval (.tmp 83) = .pointer (some ⟨b, off + j * 6, none⟩) := (Rg.use_eval V fr 83 [(9, 83)] (by simp only [hz]; decide)).trans h9
                show Rg.Does1 _ _ V (Rg.putUse V [(9, 83)] fr) w2 _
                exact Ob.rc_mv (.pointer (some ⟨b, off + j * 6 + 2, none⟩)) (by simp only [execOp, tb83]; go_simp) rfl rfl True.intro
              · intro V S w2 HM HU HE
                have HM : Mod wr w2 B := HM
                have h10 : V 10 = .pointer (some ⟨b, off + j * 6 + 2, none⟩) := HU.holds 10 (by decide)
                have tb84 : (Rg.putUse V [(10, 84)] fr).eval (.tmp 84) = .pointer (some ⟨b, off + j * 6 + 2, none⟩) := (Rg.use_eval V fr 84 [(10, 84)] (by simp only [hz]; decide)).trans h10
                show Rg.Does1 _ _ V (Rg.putUse V [(10, 84)] fr) w2 _
                have lw : Below w.heap.size w w2 := Ob.low_more one.low HM one.up
                have cc := HK.out.six lw
                obtain ⟨d0, d1, d2, d3, d4, d5⟩ := cc
                exact Ob.rc_mv (.slice p.A p.x.length p.c) (by simp only [execOp, tb84]; go_simp) rfl rfl True.intro
              · intro V S w2 HM HU HE
                have HM : Mod wr w2 B := HM
                have h11 : V 11 = .slice p.A p.x.length p.c := HU.holds 11 (by decide)
                have tb85 : (Rg.putUse V [(11, 85)] fr).eval (.tmp 85) = .slice p.A p.x.length p.c := (Rg.use_eval V fr 85 [(11, 85)] (by simp only [hz]; decide)).trans h11
                show Rg.Does1 _ _ V (Rg.putUse V [(11, 85)] fr) w2 _
                have lw : Below w.heap.size w w2 := Ob.low_more one.low HM one.up
                exact Ob.step_frow (sized 128 p.x) #[.slice p.A p.x.length p.c, .int .i64 128] (fun args w => Rg.call_enter Try.func11 (by kernel_rfl) (by kernel_rfl) args w) rfl (by simp only [List.map_toArray, List.map_cons, List.map_nil, Rg.eval_const, tb85]) rfl (fun x => Rg.alias_none rfl V x) True.intro (sized_any w2 p.x p.A p.c 128 (HK.out.rd.below lw) HK.out.fits HK.out.long (by omega))
              · intro V S w2 HM HU HE
                have HM : Mod wr w2 B := HM
                have h0 : V 0 = .pointer (some a) := HU.holds 0 (by decide)
                have tb74 : (Rg.putUse V [(0, 74), (6, 80), (12, 86)] fr).eval (.tmp 74) = .pointer (some a) := (Rg.use_eval V fr 74 [(0, 74), (6, 80), (12, 86)] (by simp only [hz]; decide)).trans h0
                have h6 : V 6 = .int .i64 ((within0 p.i 63 : Nat) : Int) := HU.holds 6 (by decide)
                have tb80 : (Rg.putUse V [(0, 74), (6, 80), (12, 86)] fr).eval (.tmp 80) = .int .i64 ((within0 p.i 63 : Nat) : Int) := (Rg.use_eval V fr 80 [(0, 74), (6, 80), (12, 86)] (by simp only [hz]; decide)).trans h6
                obtain ⟨X12, k12, e12, hc12, hr12, hX12⟩ := HU.holds 12 (by decide)
                have tb86 : (Rg.putUse V [(0, 74), (6, 80), (12, 86)] fr).eval (.tmp 86) = .slice X12 (sized 128 p.x).length k12 := (Rg.use_eval V fr 86 [(0, 74), (6, 80), (12, 86)] (by simp only [hz]; decide)).trans e12
                show Rg.Does1 _ _ V (Rg.putUse V [(0, 74), (6, 80), (12, 86)] fr) w2 _
                exact Ob.step_turn (s := st) D.toObj #[.pointer (some a), .int .i64 ((within0 p.i 63 : Nat) : Int), .slice X12 (sized 128 p.x).length k12] (fun args w => Rg.call_enter Try.func19 (by kernel_rfl) (by kernel_rfl) args w) rfl (by simp only [List.map_toArray, List.map_cons, List.map_nil, tb74, tb80, tb86]) rfl (by decide) (HU.holds 14 (by decide)).2 (fun x => Rg.alias_none rfl V x) True.intro HM.size (fun S1 hat hsub hup => by have hq := within0_le p.i 63; have := D.write hat (by have := HW.out; omega) ((within0 p.i 63 : Nat) : Int) X12 (sized 128 p.x) k12 (by omega) (by omega) ⟨hr12, fun _ b hA hB => HU.sep 14 (by decide) 12 (by decide) (by decide) b (hsub b hB) (hX12 b hA)⟩ hc12 (by rw [sized_length]; omega); rw [Dk.write_to st _ _ (by rw [HD.out]; omega) (sized_length _ _)] at this; exact this)
            · intro V S w2 HI
              have hb : V 13 = .int .i64 0 := (HI.get 13 (by decide) (by rfl)).1
              have HT2 := Lib.hid (one.after HI.mod.undrew (HI.get 13 (by decide) (by rfl)).2)
              have HM2 : Hid (Mod wr w2 B) := HI.mod.undrew
              simp only [Rg.putList, Act.put, List.setIfInBounds_toArray, List.set_cons_zero, List.set_cons_succ, Nat.zero_add, Nat.reduceAdd]
              rw [hb]
              clear HI hb one HT
              obtain ⟨B2, h2⟩ := HT2.out
              have HI2 : Hid (∃ s2 B, Ob.One D.toObj (.pointer (some a)) w w2 B s2 B w2 ∧ s2.writes ≤ 20 + (j + 1) ∧ s2.dirty.length = 64 ∧ Di.Clean s2 sO ∧ Ob.Kept w2 B X0 sO.flatten) := ⟨_, B2, h2.now, by show st.writes + 1 ≤ 20 + (j + 1); have := HW2.out; omega, by rw [put_dirty, HD.out], HCL.out.put _ _, h2.kept HK0.out⟩
              clear h2 HT2 HM2 HK0
              go_wp2_with fail
              go_roundw
              case rel => exact ⟨j + 1, by omega, by omega, by go_num, HI2⟩
              case measure => simp [intOf]; omega
          · go_wp2_with fail
            go_meet
            case rel => exact ⟨j, rfl, by obtain ⟨s2, B, h1, _, h2⟩ := HI.out; exact ⟨s2, B, h1, h2⟩⟩
        · go_wp2_with fail
          go_meet
          case rel => exact ⟨j, rfl, by obtain ⟨s2, B, h1, _, h2⟩ := HI.out; exact ⟨s2, B, h1, h2⟩⟩
    case rest =>
      clear HI0
      obtain ⟨i1, rfl, HI⟩ := hcut
      obtain ⟨s2, B2, h1, hd, hcl, hk0⟩ := HI.out
      have HT := Lib.hid h1
      have HD := Lib.hid hd
      have HCL := Lib.hid hcl
      have HK0 := Lib.hid hk0
      have HOK := Lib.hid (D.ok h1.at_)
      clear h1 hd hcl hk0 HI
      obtain ⟨sN, hN⟩ : ∃ sN, sN = s2.now := ⟨_, rfl⟩
      have HNL : Hid (sN.length = 64) := by show _ = _; rw [hN, HOK.out.now, HD.out]
      have HNS : Hid (∀ x ∈ sN, x.length = 128) := by rw [hN]; exact HOK.out.snow
      have HNF : Hid (sN.flatten.length = 8192) := by show _ = _; rw [flat_length _ HNS.out, HNL.out]
      have HNE := Lib.hid hN
      have HIM : Hid (s2.image = sN.flatten) := by show _ = _; rw [hN]; rfl
      clear hN
      go_wp2_with fail
      refine (D.image HT.out.at_).mono ?_
      rintro e w4 ⟨x, rfl, hf, hb⟩
      rw [HIM.out] at hf
      obtain ⟨X1, c3, rfl, hc3, k1⟩ := HT.out.fresh hb hf
      rw [HNF.out] at hc3 ⊢
      have HT1 := Lib.hid (HT.out.later hb)
      have HA1 := Lib.hid (HK0.out.more hb)
      have HB1 := Lib.hid k1
      clear hf hb k1 HT HK0 HIM
      go_wp2_with fail
      refine (D.dirty HT1.out.at_).mono ?_
      rintro e w5 ⟨x, rfl, ⟨X2, c4, rfl, hc4, hri, hrX⟩, hb⟩
      obtain ⟨dl, hdl⟩ : ∃ dl, dl = s2.dirtyL := ⟨_, rfl⟩
      rw [← hdl] at hri hc4 ⊢
      have HDL := Lib.hid hdl
      have HRI := Lib.hid hri
      have hdl64 : dl.length ≤ 64 := by rw [hdl, ← HD.out]; exact dirty_len _ _
      have HRX : Hid (∀ b, X2.map (·.block) = some b → ¬ B2 b) := fun b hA hB => by have := (hrX b hA).1; have := D.toObj.lt HT1.out.at_ b hB; omega
      have HT2 := Lib.hid (HT1.out.later hb).now
      have HA2 := Lib.hid (HA1.out.more hb)
      have HB2 := Lib.hid (HB1.out.more hb)
      clear hri hrX hb HT1 HA1 HB1 hdl
      go_wp2_with fail
      refine (D.crash HT2.out.at_ KA ks kc torn cut (rdb_below HKS.out HT2.out.low) (fun a' hA h0 hB => by
        obtain ⟨a2, e2, h2, _⟩ := HKS.out 0 _ (List.getElem?_eq_getElem h0)
        rw [hA] at e2
        injection e2 with e2
        subst e2
        have := HT2.out.up _ hB
        omega) HKC.out HKL.out HTO.out.1 HTO.out.2 HCU.out.1 HCU.out.2).mono ?_
      rintro e w6 ⟨x, rfl, B3, hat, hm, hs⟩
      have HT3 := Lib.hid (HT2.out.turn hat hm hs)
      have HA3 := Lib.hid (HT3.out.kept HA2.out)
      have HB3 := Lib.hid (HT3.out.kept HB2.out)
      have HR3 := Lib.hid (rdi_mod HRI.out hm HRX.out)
      obtain ⟨s3, hs3⟩ : ∃ s3, s3 = s2.crash ks torn cut := ⟨_, rfl⟩
      rw [← hs3] at HT3
      obtain ⟨sG, hG⟩ : ∃ sG, sG = left ks torn (clamp cut) 0 s2.now s2.safe s2.dirty := ⟨_, rfl⟩
      have HGL : Hid (sG.length = 64) := by show _ = _; rw [hG, left_length _ _ _ _ _ _ _ HOK.out.now HOK.out.safe, HD.out]
      have HGS : Hid (∀ x ∈ sG, x.length = 128) := by rw [hG]; exact left_secs _ _ _ (clamp_le cut) _ _ _ _ HOK.out.snow HOK.out.ssafe
      have HGF : Hid (sG.flatten.length = 8192) := by show _ = _; rw [flat_length _ HGS.out, HGL.out]
      have HIM : Hid (s3.image = sG.flatten) := by show _ = _; rw [hs3, hG]; rfl
      have HD3 : Hid (s3.dirtyL = []) := by show _ = _; rw [hs3]; exact dirty_none _ _
      have HOFF : Hid (∀ i : Nat, s2.dirty[i]? = some false → sG[i]? = sO[i]? ∧ sN[i]? = sO[i]?) := fun i hi => by
        refine ⟨?_, by rw [HNE.out]; exact HCL.out.eq i hi⟩
        rw [hG, left_false _ _ _ _ _ _ _ HOK.out.now HOK.out.safe i hi, HCL.out.safe]
      obtain ⟨t, htt⟩ := left_one ks torn (clamp cut) s2.dirty 0 s2.now s2.safe HOK.out.now HOK.out.safe
      rw [← hG, HCL.out.safe, ← HNE.out] at htt
      have HTT := Lib.hid htt
      clear hat hm hs HT2 HA2 HB2 HRI HRX hs3 hG htt
      go_wp2_with fail
      refine (D.image HT3.out.at_).mono ?_
      rintro e w7 ⟨x, rfl, hf, hb⟩
      rw [HIM.out] at hf
      obtain ⟨X3, c5, rfl, hc5, k3⟩ := HT3.out.fresh hb hf
      rw [HGF.out] at hc5 ⊢
      have HT4 := Lib.hid (HT3.out.later hb)
      have HA4 := Lib.hid (HA3.out.more hb)
      have HB4 := Lib.hid (HB3.out.more hb)
      have HC4 := Lib.hid k3
      have HR4 : Hid (RdI w7 X2 dl) := rdi_mod HR3.out (Mod.of_below hb (fun _ => False)) (fun _ _ h => h)
      clear hf hb k3 HT3 HA3 HB3 HR3 HIM
      go_wp2_with fail
      refine (D.dirty HT4.out.at_).mono ?_
      rintro e w8 ⟨x, rfl, ⟨X5, c6, rfl, _, _, _⟩, hb⟩
      rw [HD3.out]
      have HT5 := Lib.hid (HT4.out.later hb)
      have HA := Lib.hid (HA4.out.more hb)
      have HB := Lib.hid (HB4.out.more hb)
      have HC := Lib.hid (HC4.out.more hb)
      have HR : Hid (RdI w8 X2 dl) := rdi_mod HR4.out (Mod.of_below hb (fun _ => False)) (fun _ _ h => h)
      clear hb HT4 HA4 HB4 HC4 HR4 HD3
      go_wp2_with fail
      have HBL0 : Hid (Below w8.heap.size w8 w8) := Below.refl _ _
      go_loopw [19, 20] (fun t19 t20 wr => ∃ (i mx : Nat), i ≤ 64 ∧ t20 = .int .i64 (i : Nat) ∧ t19 = .int .i64 (mx : Nat) ∧ mx ≤ 1 ∧ Hid (mx = 0 ∨ t < i) ∧ Hid (Below w8.heap.size w8 wr)) (fun _ t20 _ => 64 - (intOf t20).toNat)
      case atStart => exact ⟨0, 0, by omega, rfl, rfl, by omega, .inl rfl, HBL0⟩
      case round =>
        obtain ⟨i, mx, hi, rfl, rfl, hmx, HMX, HBL⟩ := hrel
        by_cases hlt : i < 64
        · obtain ⟨Yo, yo, HSO, HRO, hol⟩ := sec_at sO HOS.out HOL.out X0 c0 hc0 i hlt
          obtain ⟨Yn, yn, HSN, HRN, hnl⟩ := sec_at sN HNS.out HNL.out X1 c3 hc3 i hlt
          obtain ⟨Yg, yg, HSG, HRG, hgl⟩ := sec_at sG HGS.out HGL.out X3 c5 hc5 i hlt
          have hoe : sO[i]? = some (sO.getD i []) := by rw [List.getD_eq_getElem?_getD, List.getElem?_eq_getElem (by rw [HOL.out]; exact hlt)]; rfl
          have hne : sN[i]? = some (sN.getD i []) := by rw [List.getD_eq_getElem?_getD, List.getElem?_eq_getElem (by rw [HNL.out]; exact hlt)]; rfl
          have hge : sG[i]? = some (sG.getD i []) := by rw [List.getD_eq_getElem?_getD, List.getElem?_eq_getElem (by rw [HGL.out]; exact hlt)]; rfl
          obtain ⟨o, ho⟩ : ∃ o, o = sO.getD i [] := ⟨_, rfl⟩
          obtain ⟨nn, hnn⟩ : ∃ n, n = sN.getD i [] := ⟨_, rfl⟩
          obtain ⟨g, hg⟩ : ∃ g, g = sG.getD i [] := ⟨_, rfl⟩
          rw [← ho] at HRO hol hoe
          rw [← hnn] at HRN hnl hne
          rw [← hg] at HRG hgl hge
          have HOE := Lib.hid hoe
          have HNE2 := Lib.hid hne
          have HGE := Lib.hid hge
          have HOLN := Lib.hid hol
          have HNLN := Lib.hid hnl
          have HGLN := Lib.hid hgl
          have hsec : s2.dirty[i]? = some true ∨ s2.dirty[i]? = some false := by
            have h2 : i < s2.dirty.length := by rw [HD.out]; exact hlt
            rw [List.getElem?_eq_getElem h2]
            cases s2.dirty[i]
            · exact .inr rfl
            · exact .inl rfl
          have HSEC := Lib.hid hsec
          obtain ⟨lo, hlo⟩ : ∃ lo : Nat, lo = 128 * i := ⟨_, rfl⟩
          obtain ⟨hi2, hhi⟩ : ∃ hi : Nat, hi = 128 * i + 128 := ⟨_, rfl⟩
          rw [← hhi, ← hlo] at HSO HSN HSG
          have HLO : Hid (IntKind.i64.wrap (((i : Nat) : Int) * 128) = ((lo : Nat) : Int)) := by
            show _ = _
            rw [IntWalk.i64_in _ (by omega)]; omega
          have HHI : Hid (IntKind.i64.wrap (((lo : Nat) : Int) + 128) = ((hi2 : Nat) : Int)) := by
            show _ = _
            rw [IntWalk.i64_in _ (by omega)]; omega
          have HT := Lib.hid (Ob.nil_one a wr)
          have HA6 := Lib.hid (HA.out.more HBL.out)
          have HB6 := Lib.hid (HB.out.more HBL.out)
          have HC6 := Lib.hid (HC.out.more HBL.out)
          clear hol hnl hgl hoe hne hge ho hnn hg hsec hlo hhi HBL0
          have d64 : decide (((i : Nat) : Int) < 64) = true := by simp only [decide_eq_true_eq]; omega
          go_upto_region 24 with (fail)
          have one := HT.out
          refine Rc.wp_region (by kernel_rfl) (fun opn => List.getD [Rc.val (.slice X0 8192 c0), Rc.val (.int .i64 ((i : Nat) : Int)), Rc.val (.int .i64 ((lo : Nat) : Int)), Rc.val (.int .i64 ((i : Nat) : Int)), Rc.val (.int .i64 ((lo : Nat) : Int)), Rc.val (.int .i64 ((hi2 : Nat) : Int)), Rc.val (.slice Yo 128 yo), Rc.val (.string (strOf (o))), Rc.val (.slice X1 8192 c3), Rc.val (.int .i64 ((i : Nat) : Int)), Rc.val (.int .i64 ((lo : Nat) : Int)), Rc.val (.int .i64 ((i : Nat) : Int)), Rc.val (.int .i64 ((lo : Nat) : Int)), Rc.val (.int .i64 ((hi2 : Nat) : Int)), Rc.val (.slice Yn 128 yn), Rc.val (.string (strOf (nn))), Rc.val (.slice X3 8192 c5), Rc.val (.int .i64 ((i : Nat) : Int)), Rc.val (.int .i64 ((lo : Nat) : Int)), Rc.val (.int .i64 ((i : Nat) : Int)), Rc.val (.int .i64 ((lo : Nat) : Int)), Rc.val (.int .i64 ((hi2 : Nat) : Int)), Rc.val (.slice Yg 128 yg), Rc.val (.string (strOf (g))), Rc.val (.string (strOf (o))), Rc.val (.string (strOf (nn))), Rc.val (.string (strOf (g))), Ob.turned Ob.nil (.pointer (some a)) (Ob.Ups (fun _ => False) wr) undef ()] opn Rc.any) 1 [] [[], [], [(1, 127)], [], [(3, 129)], [(4, 130)], [(0, 126), (2, 128), (5, 131)], [(6, 132)], [], [], [(9, 135)], [], [(11, 137)], [(12, 138)], [(8, 134), (10, 136), (13, 139)], [(14, 140)], [], [], [(17, 143)], [], [(19, 145)], [(20, 146)], [(16, 142), (18, 144), (21, 147)], [(22, 148)], [(7, 133)], [(15, 141)], [(23, 149)]] [[], [], [1], [], [3], [3, 4], [0, 1, 2, 3, 4, 5], [0, 1, 2, 3, 4, 5, 6], [], [], [9], [], [11], [11, 12], [8, 9, 10, 11, 12, 13], [8, 9, 10, 11, 12, 13, 14], [], [], [17], [], [19], [19, 20], [16, 17, 18, 19, 20, 21], [16, 17, 18, 19, 20, 21, 22], [0, 1, 2, 3, 4, 5, 6, 7], [0, 1, 2, 3, 4, 5, 6, 7, 8, 9, 10, 11, 12, 13, 14, 15, 24], [0, 1, 2, 3, 4, 5, 6, 7, 8, 9, 10, 11, 12, 13, 14, 15, 16, 17, 18, 19, 20, 21, 22, 23, 24, 25]] [[], [], [1], [], [3], [4], [0, 2, 5], [6], [], [], [9], [], [11], [12], [8, 10, 13], [14], [], [], [17], [], [19], [20], [16, 18, 21], [22], [7], [15], [23]] [] (by kernel_rfl) (by rfl) (by kernel_rfl) (fun _ => False) (fun _ b => (fun _ => False) b) (Ob.one_inv Ob.nil one.at_ _ _ 27 rfl) ?_ ?_
          · intro fr ha
            have hz : fr.tmps.size = 192 := by rw [ha]; rfl
            have y14 : fr.eval (.tmp 14) = .slice X0 8192 c0 := by rw [ha]; rfl
            have y20 : fr.eval (.tmp 20) = .int .i64 ((i : Nat) : Int) := by rw [ha]; rfl
            have y16 : fr.eval (.tmp 16) = .slice X1 8192 c3 := by rw [ha]; rfl
            have y18 : fr.eval (.tmp 18) = .slice X3 8192 c5 := by rw [ha]; rfl
            clear ha
            refine .cons ?_ (.cons ?_ (.cons ?_ (.cons ?_ (.cons ?_ (.cons ?_ (.cons ?_ (.cons ?_ (.cons ?_ (.cons ?_ (.cons ?_ (.cons ?_ (.cons ?_ (.cons ?_ (.cons ?_ (.cons ?_ (.cons ?_ (.cons ?_ (.cons ?_ (.cons ?_ (.cons ?_ (.cons ?_ (.cons ?_ (.cons ?_ (.cons ?_ (.cons ?_ (.cons ?_ (.nil)))))))))))))))))))))))))))
            · intro V S w2 HM HU HE
              have HM : Mod wr w2 (fun _ => False) := HM
              have tb14 : (Rg.putUse V [] fr).eval (.tmp 14) = .slice X0 8192 c0 := (Rg.use_eval V fr 14 [] (by simp only [hz]; decide)).trans y14
              show Rg.Does1 _ _ V (Rg.putUse V [] fr) w2 _
              exact Ob.rc_mv (.slice X0 8192 c0) (by simp only [execOp, tb14]; go_simp) rfl rfl True.intro
            · intro V S w2 HM HU HE
              have HM : Mod wr w2 (fun _ => False) := HM
              have tb20 : (Rg.putUse V [] fr).eval (.tmp 20) = .int .i64 ((i : Nat) : Int) := (Rg.use_eval V fr 20 [] (by simp only [hz]; decide)).trans y20
              show Rg.Does1 _ _ V (Rg.putUse V [] fr) w2 _
              exact Ob.rc_mv (.int .i64 ((i : Nat) : Int)) (by simp only [execOp, tb20]; go_simp) rfl rfl True.intro
            · intro V S w2 HM HU HE
              have HM : Mod wr w2 (fun _ => False) := HM
              have h1 : V 1 = .int .i64 ((i : Nat) : Int) := HU.holds 1 (by decide)
              have tb127 : (Rg.putUse V [(1, 127)] fr).eval (.tmp 127) = .int .i64 ((i : Nat) : Int) := (Rg.use_eval V fr 127 [(1, 127)] (by simp only [hz]; decide)).trans h1
              show Rg.Does1 _ _ V (Rg.putUse V [(1, 127)] fr) w2 _
              have h9 := HLO.out
              exact Ob.rc_mv (.int .i64 ((lo : Nat) : Int)) (by simp only [execOp, tb127]; go_simp) rfl rfl True.intro
            · intro V S w2 HM HU HE
              have HM : Mod wr w2 (fun _ => False) := HM
              have tb20 : (Rg.putUse V [] fr).eval (.tmp 20) = .int .i64 ((i : Nat) : Int) := (Rg.use_eval V fr 20 [] (by simp only [hz]; decide)).trans y20
              show Rg.Does1 _ _ V (Rg.putUse V [] fr) w2 _
              exact Ob.rc_mv (.int .i64 ((i : Nat) : Int)) (by simp only [execOp, tb20]; go_simp) rfl rfl True.intro
            · intro V S w2 HM HU HE
              have HM : Mod wr w2 (fun _ => False) := HM
              have h3 : V 3 = .int .i64 ((i : Nat) : Int) := HU.holds 3 (by decide)
              have tb129 : (Rg.putUse V [(3, 129)] fr).eval (.tmp 129) = .int .i64 ((i : Nat) : Int) := (Rg.use_eval V fr 129 [(3, 129)] (by simp only [hz]; decide)).trans h3
              show Rg.Does1 _ _ V (Rg.putUse V [(3, 129)] fr) w2 _
              have h9 := HLO.out
              exact Ob.rc_mv (.int .i64 ((lo : Nat) : Int)) (by simp only [execOp, tb129]; go_simp) rfl rfl True.intro
            · intro V S w2 HM HU HE
              have HM : Mod wr w2 (fun _ => False) := HM
              have h4 : V 4 = .int .i64 ((lo : Nat) : Int) := HU.holds 4 (by decide)
              have tb130 : (Rg.putUse V [(4, 130)] fr).eval (.tmp 130) = .int .i64 ((lo : Nat) : Int) := (Rg.use_eval V fr 130 [(4, 130)] (by simp only [hz]; decide)).trans h4
              show Rg.Does1 _ _ V (Rg.putUse V [(4, 130)] fr) w2 _
              have h9 := HHI.out
              exact Ob.rc_mv (.int .i64 ((hi2 : Nat) : Int)) (by simp only [execOp, tb130]; go_simp) rfl rfl True.intro
            · intro V S w2 HM HU HE
              have HM : Mod wr w2 (fun _ => False) := HM
              have h0 : V 0 = .slice X0 8192 c0 := HU.holds 0 (by decide)
              have tb126 : (Rg.putUse V [(0, 126), (2, 128), (5, 131)] fr).eval (.tmp 126) = .slice X0 8192 c0 := (Rg.use_eval V fr 126 [(0, 126), (2, 128), (5, 131)] (by simp only [hz]; decide)).trans h0
              have h2 : V 2 = .int .i64 ((lo : Nat) : Int) := HU.holds 2 (by decide)
              have tb128 : (Rg.putUse V [(0, 126), (2, 128), (5, 131)] fr).eval (.tmp 128) = .int .i64 ((lo : Nat) : Int) := (Rg.use_eval V fr 128 [(0, 126), (2, 128), (5, 131)] (by simp only [hz]; decide)).trans h2
              have h5 : V 5 = .int .i64 ((hi2 : Nat) : Int) := HU.holds 5 (by decide)
              have tb131 : (Rg.putUse V [(0, 126), (2, 128), (5, 131)] fr).eval (.tmp 131) = .int .i64 ((hi2 : Nat) : Int) := (Rg.use_eval V fr 131 [(0, 126), (2, 128), (5, 131)] (by simp only [hz]; decide)).trans h5
              show Rg.Does1 _ _ V (Rg.putUse V [(0, 126), (2, 128), (5, 131)] fr) w2 _
              exact Ob.rc_sllh rfl tb126 tb128 tb131 (HSO.out w2) rfl rfl True.intro
            · intro V S w2 HM HU HE
              have HM : Mod wr w2 (fun _ => False) := HM
              have h6 : V 6 = .slice Yo 128 yo := HU.holds 6 (by decide)
              have tb132 : (Rg.putUse V [(6, 132)] fr).eval (.tmp 132) = .slice Yo 128 yo := (Rg.use_eval V fr 132 [(6, 132)] (by simp only [hz]; decide)).trans h6
              show Rg.Does1 _ _ V (Rg.putUse V [(6, 132)] fr) w2 _
              exact Ob.rc_str (o) rfl tb132 HOLN.out (HRO.out _ (Ob.rd_mod HA6.out.1 HM (fun _ _ _ h => h))) rfl rfl True.intro
            · intro V S w2 HM HU HE
              have HM : Mod wr w2 (fun _ => False) := HM
              have tb16 : (Rg.putUse V [] fr).eval (.tmp 16) = .slice X1 8192 c3 := (Rg.use_eval V fr 16 [] (by simp only [hz]; decide)).trans y16
              show Rg.Does1 _ _ V (Rg.putUse V [] fr) w2 _
              exact Ob.rc_mv (.slice X1 8192 c3) (by simp only [execOp, tb16]; go_simp) rfl rfl True.intro
            · intro V S w2 HM HU HE
              have HM : Mod wr w2 (fun _ => False) := HM
              have tb20 : (Rg.putUse V [] fr).eval (.tmp 20) = .int .i64 ((i : Nat) : Int) := (Rg.use_eval V fr 20 [] (by simp only [hz]; decide)).trans y20
              show Rg.Does1 _ _ V (Rg.putUse V [] fr) w2 _
              exact Ob.rc_mv (.int .i64 ((i : Nat) : Int)) (by simp only [execOp, tb20]; go_simp) rfl rfl True.intro
            · intro V S w2 HM HU HE
              have HM : Mod wr w2 (fun _ => False) := HM
              have h9 : V 9 = .int .i64 ((i : Nat) : Int) := HU.holds 9 (by decide)
              have tb135 : (Rg.putUse V [(9, 135)] fr).eval (.tmp 135) = .int .i64 ((i : Nat) : Int) := (Rg.use_eval V fr 135 [(9, 135)] (by simp only [hz]; decide)).trans h9
              show Rg.Does1 _ _ V (Rg.putUse V [(9, 135)] fr) w2 _
              have h9 := HLO.out
              exact Ob.rc_mv (.int .i64 ((lo : Nat) : Int)) (by simp only [execOp, tb135]; go_simp) rfl rfl True.intro
            · intro V S w2 HM HU HE
              have HM : Mod wr w2 (fun _ => False) := HM
              have tb20 : (Rg.putUse V [] fr).eval (.tmp 20) = .int .i64 ((i : Nat) : Int) := (Rg.use_eval V fr 20 [] (by simp only [hz]; decide)).trans y20
              show Rg.Does1 _ _ V (Rg.putUse V [] fr) w2 _
              exact Ob.rc_mv (.int .i64 ((i : Nat) : Int)) (by simp only [execOp, tb20]; go_simp) rfl rfl True.intro
            · intro V S w2 HM HU HE
              have HM : Mod wr w2 (fun _ => False) := HM
              have h11 : V 11 = .int .i64 ((i : Nat) : Int) := HU.holds 11 (by decide)
              have tb137 : (Rg.putUse V [(11, 137)] fr).eval (.tmp 137) = .int .i64 ((i : Nat) : Int) := (Rg.use_eval V fr 137 [(11, 137)] (by simp only [hz]; decide)).trans h11
              show Rg.Does1 _ _ V (Rg.putUse V [(11, 137)] fr) w2 _
              have h9 := HLO.out
              exact Ob.rc_mv (.int .i64 ((lo : Nat) : Int)) (by simp only [execOp, tb137]; go_simp) rfl rfl True.intro
            · intro V S w2 HM HU HE
              have HM : Mod wr w2 (fun _ => False) := HM
              have h12 : V 12 = .int .i64 ((lo : Nat) : Int) := HU.holds 12 (by decide)
              have tb138 : (Rg.putUse V [(12, 138)] fr).eval (.tmp 138) = .int .i64 ((lo : Nat) : Int) := (Rg.use_eval V fr 138 [(12, 138)] (by simp only [hz]; decide)).trans h12
              show Rg.Does1 _ _ V (Rg.putUse V [(12, 138)] fr) w2 _
              have h9 := HHI.out
              exact Ob.rc_mv (.int .i64 ((hi2 : Nat) : Int)) (by simp only [execOp, tb138]; go_simp) rfl rfl True.intro
            · intro V S w2 HM HU HE
              have HM : Mod wr w2 (fun _ => False) := HM
              have h8 : V 8 = .slice X1 8192 c3 := HU.holds 8 (by decide)
              have tb134 : (Rg.putUse V [(8, 134), (10, 136), (13, 139)] fr).eval (.tmp 134) = .slice X1 8192 c3 := (Rg.use_eval V fr 134 [(8, 134), (10, 136), (13, 139)] (by simp only [hz]; decide)).trans h8
              have h10 : V 10 = .int .i64 ((lo : Nat) : Int) := HU.holds 10 (by decide)
              have tb136 : (Rg.putUse V [(8, 134), (10, 136), (13, 139)] fr).eval (.tmp 136) = .int .i64 ((lo : Nat) : Int) := (Rg.use_eval V fr 136 [(8, 134), (10, 136), (13, 139)] (by simp only [hz]; decide)).trans h10
              have h13 : V 13 = .int .i64 ((hi2 : Nat) : Int) := HU.holds 13 (by decide)
              have tb139 : (Rg.putUse V [(8, 134), (10, 136), (13, 139)] fr).eval (.tmp 139) = .int .i64 ((hi2 : Nat) : Int) := (Rg.use_eval V fr 139 [(8, 134), (10, 136), (13, 139)] (by simp only [hz]; decide)).trans h13
              show Rg.Does1 _ _ V (Rg.putUse V [(8, 134), (10, 136), (13, 139)] fr) w2 _
              exact Ob.rc_sllh rfl tb134 tb136 tb139 (HSN.out w2) rfl rfl True.intro
            · intro V S w2 HM HU HE
              have HM : Mod wr w2 (fun _ => False) := HM
              have h14 : V 14 = .slice Yn 128 yn := HU.holds 14 (by decide)
              have tb140 : (Rg.putUse V [(14, 140)] fr).eval (.tmp 140) = .slice Yn 128 yn := (Rg.use_eval V fr 140 [(14, 140)] (by simp only [hz]; decide)).trans h14
              show Rg.Does1 _ _ V (Rg.putUse V [(14, 140)] fr) w2 _
              exact Ob.rc_str (nn) rfl tb140 HNLN.out (HRN.out _ (Ob.rd_mod HB6.out.1 HM (fun _ _ _ h => h))) rfl rfl True.intro
            · intro V S w2 HM HU HE
              have HM : Mod wr w2 (fun _ => False) := HM
              have tb18 : (Rg.putUse V [] fr).eval (.tmp 18) = .slice X3 8192 c5 := (Rg.use_eval V fr 18 [] (by simp only [hz]; decide)).trans y18
              show Rg.Does1 _ _ V (Rg.putUse V [] fr) w2 _
              exact Ob.rc_mv (.slice X3 8192 c5) (by simp only [execOp, tb18]; go_simp) rfl rfl True.intro
            · intro V S w2 HM HU HE
              have HM : Mod wr w2 (fun _ => False) := HM
              have tb20 : (Rg.putUse V [] fr).eval (.tmp 20) = .int .i64 ((i : Nat) : Int) := (Rg.use_eval V fr 20 [] (by simp only [hz]; decide)).trans y20
              show Rg.Does1 _ _ V (Rg.putUse V [] fr) w2 _
              exact Ob.rc_mv (.int .i64 ((i : Nat) : Int)) (by simp only [execOp, tb20]; go_simp) rfl rfl True.intro
            · intro V S w2 HM HU HE
              have HM : Mod wr w2 (fun _ => False) := HM
              have h17 : V 17 = .int .i64 ((i : Nat) : Int) := HU.holds 17 (by decide)
              have tb143 : (Rg.putUse V [(17, 143)] fr).eval (.tmp 143) = .int .i64 ((i : Nat) : Int) := (Rg.use_eval V fr 143 [(17, 143)] (by simp only [hz]; decide)).trans h17
              show Rg.Does1 _ _ V (Rg.putUse V [(17, 143)] fr) w2 _
              have h9 := HLO.out
              exact Ob.rc_mv (.int .i64 ((lo : Nat) : Int)) (by simp only [execOp, tb143]; go_simp) rfl rfl True.intro
            · intro V S w2 HM HU HE
              have HM : Mod wr w2 (fun _ => False) := HM
              have tb20 : (Rg.putUse V [] fr).eval (.tmp 20) = .int .i64 ((i : Nat) : Int) := (Rg.use_eval V fr 20 [] (by simp only [hz]; decide)).trans y20
              show Rg.Does1 _ _ V (Rg.putUse V [] fr) w2 _
              exact Ob.rc_mv (.int .i64 ((i : Nat) : Int)) (by simp only [execOp, tb20]; go_simp) rfl rfl True.intro
            · intro V S w2 HM HU HE
              have HM : Mod wr w2 (fun _ => False) := HM
              have h19 : V 19 = .int .i64 ((i : Nat) : Int) := HU.holds 19 (by decide)
              have tb145 : (Rg.putUse V [(19, 145)] fr).eval (.tmp 145) = .int .i64 ((i : Nat) : Int) := (Rg.use_eval V fr 145 [(19, 145)] (by simp only [hz]; decide)).trans h19
              show Rg.Does1 _ _ V (Rg.putUse V [(19, 145)] fr) w2 _
              have h9 := HLO.out
              exact Ob.rc_mv (.int .i64 ((lo : Nat) : Int)) (by simp only [execOp, tb145]; go_simp) rfl rfl True.intro
            · intro V S w2 HM HU HE
              have HM : Mod wr w2 (fun _ => False) := HM
              have h20 : V 20 = .int .i64 ((lo : Nat) : Int) := HU.holds 20 (by decide)
              have tb146 : (Rg.putUse V [(20, 146)] fr).eval (.tmp 146) = .int .i64 ((lo : Nat) : Int) := (Rg.use_eval V fr 146 [(20, 146)] (by simp only [hz]; decide)).trans h20
              show Rg.Does1 _ _ V (Rg.putUse V [(20, 146)] fr) w2 _
              have h9 := HHI.out
              exact Ob.rc_mv (.int .i64 ((hi2 : Nat) : Int)) (by simp only [execOp, tb146]; go_simp) rfl rfl True.intro
            · intro V S w2 HM HU HE
              have HM : Mod wr w2 (fun _ => False) := HM
              have h16 : V 16 = .slice X3 8192 c5 := HU.holds 16 (by decide)
              have tb142 : (Rg.putUse V [(16, 142), (18, 144), (21, 147)] fr).eval (.tmp 142) = .slice X3 8192 c5 := (Rg.use_eval V fr 142 [(16, 142), (18, 144), (21, 147)] (by simp only [hz]; decide)).trans h16
              have h18 : V 18 = .int .i64 ((lo : Nat) : Int) := HU.holds 18 (by decide)
              have tb144 : (Rg.putUse V [(16, 142), (18, 144), (21, 147)] fr).eval (.tmp 144) = .int .i64 ((lo : Nat) : Int) := (Rg.use_eval V fr 144 [(16, 142), (18, 144), (21, 147)] (by simp only [hz]; decide)).trans h18
              have h21 : V 21 = .int .i64 ((hi2 : Nat) : Int) := HU.holds 21 (by decide)
              have tb147 : (Rg.putUse V [(16, 142), (18, 144), (21, 147)] fr).eval (.tmp 147) = .int .i64 ((hi2 : Nat) : Int) := (Rg.use_eval V fr 147 [(16, 142), (18, 144), (21, 147)] (by simp only [hz]; decide)).trans h21
              show Rg.Does1 _ _ V (Rg.putUse V [(16, 142), (18, 144), (21, 147)] fr) w2 _
              exact Ob.rc_sllh rfl tb142 tb144 tb147 (HSG.out w2) rfl rfl True.intro
            · intro V S w2 HM HU HE
              have HM : Mod wr w2 (fun _ => False) := HM
              have h22 : V 22 = .slice Yg 128 yg := HU.holds 22 (by decide)
              have tb148 : (Rg.putUse V [(22, 148)] fr).eval (.tmp 148) = .slice Yg 128 yg := (Rg.use_eval V fr 148 [(22, 148)] (by simp only [hz]; decide)).trans h22
              show Rg.Does1 _ _ V (Rg.putUse V [(22, 148)] fr) w2 _
              exact Ob.rc_str (g) rfl tb148 HGLN.out (HRG.out _ (Ob.rd_mod HC6.out.1 HM (fun _ _ _ h => h))) rfl rfl True.intro
            · intro V S w2 HM HU HE
              have HM : Mod wr w2 (fun _ => False) := HM
              have h7 : V 7 = .string (strOf (o)) := HU.holds 7 (by decide)
              have tb133 : (Rg.putUse V [(7, 133)] fr).eval (.tmp 133) = .string (strOf (o)) := (Rg.use_eval V fr 133 [(7, 133)] (by simp only [hz]; decide)).trans h7
              show Rg.Does1 _ _ V (Rg.putUse V [(7, 133)] fr) w2 _
              exact Ob.rc_mv (.string (strOf (o))) (by simp only [execOp, tb133]; go_simp) rfl rfl True.intro
            · intro V S w2 HM HU HE
              have HM : Mod wr w2 (fun _ => False) := HM
              have h15 : V 15 = .string (strOf (nn)) := HU.holds 15 (by decide)
              have tb141 : (Rg.putUse V [(15, 141)] fr).eval (.tmp 141) = .string (strOf (nn)) := (Rg.use_eval V fr 141 [(15, 141)] (by simp only [hz]; decide)).trans h15
              show Rg.Does1 _ _ V (Rg.putUse V [(15, 141)] fr) w2 _
              exact Ob.rc_mv (.string (strOf (nn))) (by simp only [execOp, tb141]; go_simp) rfl rfl True.intro
            · intro V S w2 HM HU HE
              have HM : Mod wr w2 (fun _ => False) := HM
              have h23 : V 23 = .string (strOf (g)) := HU.holds 23 (by decide)
              have tb149 : (Rg.putUse V [(23, 149)] fr).eval (.tmp 149) = .string (strOf (g)) := (Rg.use_eval V fr 149 [(23, 149)] (by simp only [hz]; decide)).trans h23
              show Rg.Does1 _ _ V (Rg.putUse V [(23, 149)] fr) w2 _
              exact Ob.rc_mv (.string (strOf (g))) (by simp only [execOp, tb149]; go_simp) rfl rfl True.intro
          · intro V S w2 HI
            have hb : V 26 = .string (strOf (g)) := HI.get 26 (by decide) (by rfl)
            have HT2 := Lib.hid (one.after HI.mod.undrew (HI.get 27 (by decide) (by rfl)).2)
            have HM2 : Hid (Mod wr w2 (fun _ => False)) := HI.mod.undrew
            have hw24 : V 24 = .string (strOf (o)) := HI.get 24 (by decide) (by rfl)
            have hw25 : V 25 = .string (strOf (nn)) := HI.get 25 (by decide) (by rfl)
            simp only [Rg.putList, Act.put, List.setIfInBounds_toArray, List.set_cons_zero, List.set_cons_succ, Nat.zero_add, Nat.reduceAdd]
            rw [hb, hw24, hw25]
            clear HI hb one HT hw24 hw25
            have HBL2 : Hid (Below w8.heap.size w8 w2) := HBL.out.trans ((HM2.out.below (fun b hb => hb.elim)).mono HBL.out.size)
            clear HM2 HT2 HA6 HB6 HC6 HBL
            go_wp2_with fail
            go_loopw [24, 25] (fun t24 t25 wr => ∃ (k : Nat) (was : Bool), k ≤ dl.length ∧ t25 = .int .i64 (k : Nat) ∧ t24 = .bool was ∧ Hid (was = true ↔ ∃ j, j < k ∧ dl[j]? = some ((i : Nat) : Int)) ∧ Hid (Below w8.heap.size w8 wr)) (fun _ t25 _ => dl.length - (intOf t25).toNat)
            case atStart => exact ⟨0, false, by omega, rfl, rfl, ⟨fun h => (by cases h), fun ⟨j, h, _⟩ => (by omega)⟩, HBL2⟩
            case round =>
              obtain ⟨k, was, hk, rfl, rfl, HWAS, HWE⟩ := hrel
              have HRW := Lib.hid (rdi_mod HR.out (Mod.of_below HWE.out (fun _ => False)) (fun _ _ h => h))
              by_cases hlt3 : k < dl.length
              · obtain ⟨x, hx⟩ : ∃ x, dl[k]? = some x := ⟨_, List.getElem?_eq_getElem hlt3⟩
                have HLT3 := Lib.hid hlt3
                cases was
                · obtain ⟨_, b5, o5, rfl, _, d5⟩ := HRW.out k x hx
                  have HX := Lib.hid hx
                  clear hx
                  by_cases hxi : x = ((i : Nat) : Int)
                  · subst hxi
                    have HN3 : Hid (true = true ↔ ∃ j, j < k + 1 ∧ dl[j]? = some ((i : Nat) : Int)) := ⟨fun _ => ⟨k, by omega, HX.out⟩, fun _ => rfl⟩
                    go_wp2_with fail
                    go_roundw
                    case rel => exact ⟨k + 1, true, by have := HLT3.out; omega, by go_num, rfl, HN3, HWE⟩
                    case measure => (have := HLT3.out); simp [intOf]; omega
                  · have HN3 : Hid (false = true ↔ ∃ j, j < k + 1 ∧ dl[j]? = some ((i : Nat) : Int)) := ⟨fun h => (by cases h), fun ⟨j, h1, h2⟩ => by
                      by_cases e : j = k
                      · subst e; rw [HX.out] at h2; exact absurd (Option.some.inj h2) hxi
                      · exact HWAS.out.2 ⟨j, by omega, h2⟩⟩
                    have hxb : (x == ((i : Nat) : Int)) = false := by simpa using hxi
                    go_wp2_with fail
                    go_roundw
                    case rel => exact ⟨k + 1, false, by have := HLT3.out; omega, by go_num, rfl, HN3, HWE⟩
                    case measure => (have := HLT3.out); simp [intOf]; omega
                · have HN3 : Hid (true = true ↔ ∃ j, j < k + 1 ∧ dl[j]? = some ((i : Nat) : Int)) := ⟨fun _ => by obtain ⟨j, h1, h2⟩ := HWAS.out.1 rfl; exact ⟨j, by omega, h2⟩, fun _ => rfl⟩
                  clear hx
                  go_wp2_with fail
                  go_roundw
                  case rel => exact ⟨k + 1, true, by have := HLT3.out; omega, by go_num, rfl, HN3, HWE⟩
                  case measure => (have := HLT3.out); simp [intOf]; omega
              · have HWD : Hid (was = true ↔ s2.dirty[i]? = some true) := by
                  have h1 := mem_dirty s2.dirty 0 i
                  rw [Nat.zero_add] at h1
                  show _ ↔ _
                  rw [HWAS.out, ← h1]
                  have h2 : dl = dirtyFrom 0 s2.dirty := HDL.out
                  rw [← h2, List.mem_iff_getElem?]
                  exact ⟨fun ⟨j, _, h⟩ => ⟨j, h⟩, fun ⟨j, h⟩ => ⟨j, by have := (List.getElem?_eq_some_iff.1 h).1; omega, h⟩⟩
                cases was
                · have hdf : s2.dirty[i]? = some false := (HSEC.out).resolve_left (fun h => by have := HWD.out.2 h; cases this)
                  obtain ⟨q1, q2⟩ := HOFF.out i hdf
                  rw [HGE.out, HOE.out] at q1
                  rw [HNE2.out, HOE.out] at q2
                  obtain rfl := Option.some.inj q1
                  obtain rfl := Option.some.inj q2
                  clear q1 q2 hdf
                  have HMX2 : Hid (mx = 0 ∨ t < i + 1) := HMX.out.imp id (fun h => by omega)
                  go_wp2_with fail
                  go_roundw
                  case rel => exact ⟨i + 1, mx, by omega, by go_num, rfl, hmx, HMX2, HWE⟩
                  case measure => simp [intOf]; omega
                · by_cases h1 : (strOf g).toList = (strOf o).toList
                  · have e1 : ((strOf g).toList == (strOf o).toList) = true := by simp [h1]
                    have HMX2 : Hid (mx = 0 ∨ t < i + 1) := HMX.out.imp id (fun h => by omega)
                    go_wp2_with fail
                    go_roundw
                    case rel => exact ⟨i + 1, mx, by omega, by go_num, rfl, hmx, HMX2, HWE⟩
                    case measure => simp [intOf]; omega
                  · by_cases h2 : (strOf g).toList = (strOf nn).toList
                    · have e1 : ((strOf g).toList == (strOf o).toList) = false := by simpa using h1
                      have e2 : ((strOf g).toList == (strOf nn).toList) = true := by simp [h2]
                      have HMX2 : Hid (mx = 0 ∨ t < i + 1) := HMX.out.imp id (fun h => by omega)
                      clear h2
                      go_wp2_with fail
                      go_roundw
                      case rel => exact ⟨i + 1, mx, by omega, by go_num, rfl, hmx, HMX2, HWE⟩
                      case measure => simp [intOf]; omega
                    · have e1 : ((strOf g).toList == (strOf o).toList) = false := by simpa using h1
                      have e2 : ((strOf g).toList == (strOf nn).toList) = false := by simpa using h2
                      have hit : i = t := Classical.byContradiction fun hne => by
                        rcases HTT.out i hne with h | h
                        · rw [HGE.out, HOE.out] at h
                          exact str_ne h1 (Option.some.inj h)
                        · rw [HGE.out, HNE2.out] at h
                          exact str_ne h2 (Option.some.inj h)
                      have hm0 : mx = 0 := HMX.out.resolve_right (fun h => by omega)
                      have HMX2 : Hid (mx + 1 = 0 ∨ t < i + 1) := .inr (by omega)
                      have HM0 := Lib.hid hm0
                      clear hit hm0
                      go_wp2_with fail
                      go_roundw
                      case rel => exact ⟨i + 1, mx + 1, by omega, by go_num, by go_num, by have := HM0.out; omega, HMX2, HWE⟩
                      case measure => simp [intOf]; omega
        · obtain rfl : i = 64 := by omega
          have HBF := Lib.hid (HT5.out.later HBL.out).low
          have hle : decide (((mx : Nat) : Int) ≤ 1) = true := by simp only [decide_eq_true_eq]; omega
          clear HBL0
          go_wp2_with fail
          refine (known5_any D wr).mono ?_
          rintro e w9 ⟨rfl, hb⟩
          have HB9 := Lib.hid (HBF.out.trans (hb.mono HBF.out.size))
          clear hb
          go_wp2_with fail
          go_ret
          exact ⟨rfl, HB9.out⟩
end Go.Proofs.Ytenedgapjbmpgaa

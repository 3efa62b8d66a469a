/-
  OWN WORK. The law DiskPlays, walked, given what the program's own disk does.
-/
import Derived.Test.YtenedgapjbmpgaaDiDo
import Derived.Test.YtenedgapjbmpgaaDiKnown
namespace Go.Proofs.Ytenedgapjbmpgaa
open Go.RowKit Rc Di

/-- Both disks are new. -/
theorem pair_new {D : DSaid} {v : Value} {w w1 w2 : World} {B0 : Nat → Prop} {r : Value} {n : Nat} {s : Dk} (h : Ob.One D.toObj v w w1 B0 s B0 w1) (hr : RefNew w1 n r w2) : ∃ g N B, r = .pointer (some ⟨g, 0, none⟩) ∧ Ob.One (pairObj D N (.pointer (some ⟨g, 0, none⟩))) v w w2 B (s, Dk.new n) B w2 := by
  obtain ⟨N, S, hat, hb, hS⟩ := hr
  have hat2 := hat
  obtain ⟨g, gs, gn, gd, rfl, _⟩ := hat
  have h2 := h.later hb
  have hlt := D.lt h.at_
  refine ⟨g, N, fun b => B0 b ∨ S b, rfl, ⟨⟨B0, S, h2.at_, hat2, fun b hb0 hs => ?_, rfl⟩, Mod.refl _ _, fun _ h => .inl h, h2.low, ?_⟩⟩
  · have := hlt b hb0
    have := hS b hs
    omega
  · rintro b (hb0 | hb0)
    · exact h.up b hb0
    · exact Nat.le_trans h.low.size (hS b hb0)
/-- A call out of a list that lay there first. -/
theorem AskD.Ok.beside {D : DSaid} {N : Nat} {r v : Value} {st : Dk × Dk} {w wr : World} {B : Nat → Prop} {p : AskD} {a : Addr} {j : Nat} (h : p.Ok w a j) (h1 : Ob.One (pairObj D N r) v w wr B st B wr) (hl : p.x.length ≤ 140737488351232) : p.Beside wr B :=
  ⟨h1.arg h.rd, h.fits, hl, fun k x hx => by
    obtain ⟨a', h2, h3, h4⟩ := h.rk k x hx
    exact ⟨a', h2, Nat.lt_of_lt_of_le h3 h1.low.size, (World.cell?_of_block (by rw [block_of_add]; exact h1.low.block a'.block h3)).trans h4⟩, fun a' ha hl hB => by
    obtain ⟨a2, h2, h3, _⟩ := h.rk 0 (p.ks[0]'hl) (List.getElem?_eq_getElem hl)
    rw [ha] at h2
    obtain rfl := Option.some.inj h2
    exact Nat.not_lt.2 (h1.up _ hB) h3, h.kfits, h.klong, h.ii, h.it, h.ic⟩
theorem step_writes (s : Dk) (p : AskD) : (step s p).writes ≤ s.writes + 1 := by
  unfold step
  split
  · unfold Dk.write
    split
    · exact Nat.le_refl _
    · exact Nat.le_succ _
  · split
    · exact Nat.le_succ _
    · exact Nat.le_succ _
theorem step_len (s : Dk) (p : AskD) : (step s p).dirty.length = s.dirty.length := by
  unfold step
  split
  · unfold Dk.write
    split
    · exact put_dirty _ _ _
    · rfl
  · split
    · exact List.length_replicate
    · exact List.length_replicate
/-- Both disks, after so many calls. -/
def PlI (D : DSaid) (N : Nat) (v : Value) (g : Nat) (w : World) (k : Nat) (wr : World) : Prop := ∃ B st, Ob.One (pairObj D N (.pointer (some ⟨g, 0, none⟩))) v w wr B (st, st) B wr ∧ st.writes ≤ k ∧ st.dirty.length = 64
set_option maxHeartbeats 8000000 in
set_option maxRecDepth 100000 in
theorem plays_any (D : DSaid) (w : World) (ps : List AskD) (A : Option Addr) (c1 : Nat) (hp : AsksIn w A ps) (hl : ps.length ≤ 9223372036854775807) (hx : ∀ p ∈ ps, p.x.length ≤ 140737488351232) :
    Calls Try.prog 4 #[.slice A ps.length c1] w fun e w' => e = .returned (.bool true) ∧ Below w.heap.size w w' := by
  have HP := Lib.hid hp
  have HX := Lib.hid hx
  clear hp hx
  go_enter Try.func4, Try.ntmps4
  go_wp2_with fail
  refine (D.new64 w).mono ?_
  rintro e w1 ⟨a0, B0, rfl, HT0⟩
  go_wp2_with fail
  refine (refNew_any w1 64 (by omega) (by omega)).mono ?_
  rintro e w2 ⟨r, rfl, hr⟩
  obtain ⟨g, N, B, rfl, hone⟩ := pair_new HT0.out hr
  have HSTART : Hid (PlI D N (.pointer (some a0)) g w 0 w2) := ⟨B, _, hone, Nat.le_refl _, new_dirty 64⟩
  clear HT0 hr hone
  go_upto_block 0 with (fail)
  go_cut [] (fun wx => ∃ WX, WX = wx ∧ Hid (∃ k, PlI D N (.pointer (some a0)) g w k WX))
  case first =>
    go_wp2_with fail
    go_loopw [6] (fun t6 wr => ∃ j : Nat, j ≤ ps.length ∧ j ≤ 60 ∧ t6 = .int .i64 (j : Nat) ∧ Hid (PlI D N (.pointer (some a0)) g w j wr)) (fun t6 _ => 60 - (intOf t6).toNat)
    case atStart => exact ⟨0, by omega, by omega, rfl, HSTART⟩
    case round =>
      clear HSTART
      obtain ⟨j, hj, hj60, rfl, HJ⟩ := hrel
      by_cases hlt : j < ps.length
      · by_cases hlt2 : j < 60
        · obtain ⟨p, hpj⟩ : ∃ p, ps[j]? = some p := ⟨_, List.getElem?_eq_getElem hlt⟩
          obtain ⟨b, off, rfl, hok⟩ := HP.out.plain (by omega)
          obtain ⟨B, st, hone, hw, hd⟩ := HJ.out
          have hb := (hok j p hpj).beside hone (HX.out p (List.mem_of_getElem? hpj))
          have HDO := Lib.hid (do_any D hone.at_ (by show st.writes ≤ 1000; omega) p hb)
          have HCELLS : Hid (∀ i v, (boxed p)[i]? = some v → wr.cell? ((⟨b, off + j * 6, none⟩ : Addr).add i) = some v) := fun i v hv => by
            rw [add_plain]
            obtain ⟨e0, e1, e2, e3, e4, e5⟩ := (hok j p hpj).six hone.low
            match i, hv with
            | 0, hv => rw [← hv]; exact e0
            | 1, hv => rw [← hv]; exact e1
            | 2, hv => rw [← hv]; exact e2
            | 3, hv => rw [← hv]; exact e3
            | 4, hv => rw [← hv]; exact e4
            | 5, hv => rw [← hv]; exact e5
            | i + 6, hv => simp [boxed] at hv
          have HONE := Lib.hid hone
          have HWD := Lib.hid (And.intro hw hd)
          clear hok hb hone hw hd hpj
          go_wp2_with (refine wpList_load_part rfl 33 (.tmp 32) rfl ⟨b, off + j * 6, none⟩ rfl (boxed p) _ HCELLS.out Try.underlying33 rfl (by kernel_rfl) ?_)
          refine HDO.out.mono ?_
          rintro e w3 ⟨rfl, B3, hat, hm, hs⟩
          have HNEXT : Hid (PlI D N (.pointer (some a0)) g w (j + 1) w3) := ⟨B3, step st p, (HONE.out.turn hat hm hs).now, Nat.le_trans (step_writes st p) (by have := HWD.out.1; omega), by rw [step_len]; exact HWD.out.2⟩
          clear hat hm hs HONE HDO
          go_wp2_with fail
          go_roundw
          case rel => exact ⟨j + 1, by omega, by omega, by go_num, HNEXT⟩
          case measure => simp [intOf]; omega
        · go_wp2_with fail
          go_meet
          case rel => exact ⟨_, rfl, ⟨j, HJ.out⟩⟩
      · go_wp2_with fail
        go_meet
        case rel => exact ⟨_, rfl, ⟨j, HJ.out⟩⟩
  case rest =>
    obtain ⟨WX, rfl, HC⟩ := hcut
    obtain ⟨k, B, st, hone, hw, hd⟩ := HC.out
    obtain ⟨gd, e1, _, _, e4, _, lg, lgn, _, hok⟩ := pair_row hone.at_
    obtain ⟨S1, hd1⟩ := pair_d hone.at_
    have hlen : st.now.flatten.length = 128 * st.dirty.length := by rw [flat_length _ hok.snow, hok.now]
    obtain ⟨L, hL⟩ : ∃ L, L = st.now.flatten := ⟨_, rfl⟩
    have HE1 : Hid (WX.cell? ⟨g, 1, none⟩ = some (.slice (some ⟨N, 0, none⟩) L.length L.length)) := by rw [hL, hlen]; exact e1
    have HE4 : Hid (Rd WX (some ⟨N, 0, none⟩) L) := by rw [hL]; exact e4
    have HL : Hid (st.image = L) := hL.symm
    have HD1 := Lib.hid hd1
    have HLOW := Lib.hid hone.low
    have HLG := Lib.hid lg
    have HT := Lib.hid (Ob.nil_one a0 WX)
    clear hone hw hd e1 e4 lg lgn hok hd1 hlen hL HC HSTART
    go_upto_region 10 with (fail)
    have one := HT.out
    refine Rc.wp_region (by kernel_rfl) (fun opn => List.getD [Rc.val (.pointer (some a0)), Ob.frow (L), Rc.val (.string (strOf (L))), Rc.val (.pointer (some ⟨g, 0, none⟩)), Rc.val (.pointer (some ⟨g, 0, none⟩)), Rc.val (.pointer (some ⟨g, 1, none⟩)), Rc.val (.slice (some ⟨N, 0, none⟩) L.length L.length), Rc.val (.string (strOf (L))), Rc.val (.bool true), Rc.val (.bool true), Rc.val (.bool true), Rc.val (.bool true), Rc.val (.bool true), Ob.turned Ob.nil (.pointer (some a0)) (Ob.Ups (fun _ => False) WX) undef ()] opn Rc.any) 1 [] [[], [(0, 36)], [(1, 37)], [], [(3, 39)], [(4, 40)], [(5, 41)], [(6, 42)], [(2, 38), (7, 43)], [(8, 44)], [(9, 45)], [(9, 45), (10, 46)], [(11, 47)]] [[], [0], [0, 1], [], [3], [3, 4], [3, 4, 5], [3, 4, 5, 6], [0, 1, 2, 3, 4, 5, 6, 7], [0, 1, 2, 3, 4, 5, 6, 7, 8], [0, 1, 2, 3, 4, 5, 6, 7, 8, 9], [0, 1, 2, 3, 4, 5, 6, 7, 8, 9, 10], [0, 1, 2, 3, 4, 5, 6, 7, 8, 9, 10, 11]] [[], [0], [1], [], [3], [4], [5], [6], [2, 7], [8], [9], [9, 10], [11]] [] (by kernel_rfl) (by rfl) (by kernel_rfl) (fun _ => False) (fun _ b => (fun _ => False) b) (Ob.one_inv Ob.nil one.at_ _ _ 13 rfl) ?_ ?_
    · intro fr ha
      have hz : fr.tmps.size = 48 := by rw [ha]; rfl
      have y3 : fr.eval (.tmp 3) = .pointer (some a0) := by rw [ha]; rfl
      have y5 : fr.eval (.tmp 5) = .pointer (some ⟨g, 0, none⟩) := by rw [ha]; rfl
      clear ha
      refine .cons ?_ (.cons ?_ (.cons ?_ (.cons ?_ (.cons ?_ (.cons ?_ (.cons ?_ (.cons ?_ (.cons ?_ (.cons ?_ (.cons ?_ (.cons ?_ (.cons ?_ (.nil)))))))))))))
      · intro V S w2 HM HU HE
        have HM : Mod WX w2 (fun _ => False) := HM
        have tb3 : (Rg.putUse V [] fr).eval (.tmp 3) = .pointer (some a0) := (Rg.use_eval V fr 3 [] (by simp only [hz]; decide)).trans y3
        show Rg.Does1 _ _ V (Rg.putUse V [] fr) w2 _
        exact Ob.rc_mv (.pointer (some a0)) (by simp only [execOp, tb3]; go_simp) rfl rfl True.intro
      · intro V S w2 HM HU HE
        have HM : Mod WX w2 (fun _ => False) := HM
        have h0 : V 0 = .pointer (some a0) := HU.holds 0 (by decide)
        have tb36 : (Rg.putUse V [(0, 36)] fr).eval (.tmp 36) = .pointer (some a0) := (Rg.use_eval V fr 36 [(0, 36)] (by simp only [hz]; decide)).trans h0
        show Rg.Does1 _ _ V (Rg.putUse V [(0, 36)] fr) w2 _
        exact Ob.step_frow (L) #[.pointer (some a0)] (fun args w => Rg.call_enter Try.func14 (by kernel_rfl) (by kernel_rfl) args w) rfl (by simp only [List.map_toArray, List.map_cons, List.map_nil, tb36]) rfl (fun x => Rg.alias_none rfl V x) True.intro (by have h9 := D.image (D.keep HD1.out HM.size (fun b hb => HM.block b (D.lt HD1.out b hb) (fun h => h))); rw [HL.out] at h9; exact h9)
      · intro V S w2 HM HU HE
        have HM : Mod WX w2 (fun _ => False) := HM
        obtain ⟨X1, k1, e1, hc1, hr1, hX1⟩ := HU.holds 1 (by decide)
        have tb37 : (Rg.putUse V [(1, 37)] fr).eval (.tmp 37) = .slice X1 (L).length k1 := (Rg.use_eval V fr 37 [(1, 37)] (by simp only [hz]; decide)).trans e1
        show Rg.Does1 _ _ V (Rg.putUse V [(1, 37)] fr) w2 _
        exact Ob.rc_str (L) rfl tb37 (by first | rfl | simp) hr1 rfl rfl True.intro
      · intro V S w2 HM HU HE
        have HM : Mod WX w2 (fun _ => False) := HM
        have tb5 : (Rg.putUse V [] fr).eval (.tmp 5) = .pointer (some ⟨g, 0, none⟩) := (Rg.use_eval V fr 5 [] (by simp only [hz]; decide)).trans y5
        show Rg.Does1 _ _ V (Rg.putUse V [] fr) w2 _
        exact Ob.rc_mv (.pointer (some ⟨g, 0, none⟩)) (by simp only [execOp, tb5]; go_simp) rfl rfl True.intro
      · intro V S w2 HM HU HE
        have HM : Mod WX w2 (fun _ => False) := HM
        have h3 : V 3 = .pointer (some ⟨g, 0, none⟩) := HU.holds 3 (by decide)
        have tb39 : (Rg.putUse V [(3, 39)] fr).eval (.tmp 39) = .pointer (some ⟨g, 0, none⟩) := (Rg.use_eval V fr 39 [(3, 39)] (by simp only [hz]; decide)).trans h3
        show Rg.Does1 _ _ V (Rg.putUse V [(3, 39)] fr) w2 _
        exact Ob.rc_mv (.pointer (some ⟨g, 0, none⟩)) (by simp only [execOp, tb39]; go_simp) rfl rfl True.intro
      · intro V S w2 HM HU HE
        have HM : Mod WX w2 (fun _ => False) := HM
        have h4 : V 4 = .pointer (some ⟨g, 0, none⟩) := HU.holds 4 (by decide)
        have tb40 : (Rg.putUse V [(4, 40)] fr).eval (.tmp 40) = .pointer (some ⟨g, 0, none⟩) := (Rg.use_eval V fr 40 [(4, 40)] (by simp only [hz]; decide)).trans h4
        show Rg.Does1 _ _ V (Rg.putUse V [(4, 40)] fr) w2 _
        exact Ob.rc_mv (.pointer (some ⟨g, 1, none⟩)) (by simp only [execOp, tb40]; go_simp) rfl rfl True.intro
      · intro V S w2 HM HU HE
        have HM : Mod WX w2 (fun _ => False) := HM
        have h5 : V 5 = .pointer (some ⟨g, 1, none⟩) := HU.holds 5 (by decide)
        have tb41 : (Rg.putUse V [(5, 41)] fr).eval (.tmp 41) = .pointer (some ⟨g, 1, none⟩) := (Rg.use_eval V fr 41 [(5, 41)] (by simp only [hz]; decide)).trans h5
        show Rg.Does1 _ _ V (Rg.putUse V [(5, 41)] fr) w2 _
        have cb : w2.cell? ⟨g, 1, none⟩ = some (.slice (some ⟨N, 0, none⟩) L.length L.length) := ((Mod.below HM (fun _ h => h.elim)).cell (p := ⟨g, 1, none⟩) HLG.out).trans HE1.out
        exact Ob.rc_mv (.slice (some ⟨N, 0, none⟩) L.length L.length) (by simp only [execOp, tb41]; go_simp) rfl rfl True.intro
      · intro V S w2 HM HU HE
        have HM : Mod WX w2 (fun _ => False) := HM
        have h6 : V 6 = .slice (some ⟨N, 0, none⟩) L.length L.length := HU.holds 6 (by decide)
        have tb42 : (Rg.putUse V [(6, 42)] fr).eval (.tmp 42) = .slice (some ⟨N, 0, none⟩) L.length L.length := (Rg.use_eval V fr 42 [(6, 42)] (by simp only [hz]; decide)).trans h6
        show Rg.Does1 _ _ V (Rg.putUse V [(6, 42)] fr) w2 _
        exact Ob.rc_str (L) rfl tb42 (by first | rfl | simp) (HE4.out.below (Mod.below HM (fun _ h => h.elim))) rfl rfl True.intro
      · intro V S w2 HM HU HE
        have HM : Mod WX w2 (fun _ => False) := HM
        have h2 : V 2 = .string (strOf (L)) := HU.holds 2 (by decide)
        have tb38 : (Rg.putUse V [(2, 38), (7, 43)] fr).eval (.tmp 38) = .string (strOf (L)) := (Rg.use_eval V fr 38 [(2, 38), (7, 43)] (by simp only [hz]; decide)).trans h2
        have h7 : V 7 = .string (strOf (L)) := HU.holds 7 (by decide)
        have tb43 : (Rg.putUse V [(2, 38), (7, 43)] fr).eval (.tmp 43) = .string (strOf (L)) := (Rg.use_eval V fr 43 [(2, 38), (7, 43)] (by simp only [hz]; decide)).trans h7
        show Rg.Does1 _ _ V (Rg.putUse V [(2, 38), (7, 43)] fr) w2 _
        exact Ob.rc_mv (.bool true) (by simp only [execOp, tb38, tb43]; go_simp) rfl rfl True.intro
      · intro V S w2 HM HU HE
        have HM : Mod WX w2 (fun _ => False) := HM
        have h8 : V 8 = .bool true := HU.holds 8 (by decide)
        have tb44 : (Rg.putUse V [(8, 44)] fr).eval (.tmp 44) = .bool true := (Rg.use_eval V fr 44 [(8, 44)] (by simp only [hz]; decide)).trans h8
        show Rg.Does1 _ _ V (Rg.putUse V [(8, 44)] fr) w2 _
        exact Ob.rc_mv (.bool true) (by simp only [execOp, tb44]; go_simp) rfl rfl True.intro
      · intro V S w2 HM HU HE
        have HM : Mod WX w2 (fun _ => False) := HM
        have h9 : V 9 = .bool true := HU.holds 9 (by decide)
        show Rg.Does1 _ _ V (Rg.putUse V [(9, 45)] fr) w2 _
        exact Ob.step_tell (.bool true) #[] (fun args w => Rg.call_enter Try.func18 (by kernel_rfl) (by kernel_rfl) args w) rfl (by simp only [List.map_toArray, List.map_cons, List.map_nil]) rfl (fun x => Rg.alias_none rfl V x) h9 (known5_any D w2)
      · intro V S w2 HM HU HE
        have HM : Mod WX w2 (fun _ => False) := HM
        have h9 : V 9 = .bool true := HU.holds 9 (by decide)
        have tb45 : (Rg.putUse V [(9, 45), (10, 46)] fr).eval (.tmp 45) = .bool true := (Rg.use_eval V fr 45 [(9, 45), (10, 46)] (by simp only [hz]; decide)).trans h9
        have h10 : V 10 = .bool true := HU.holds 10 (by decide)
        have tb46 : (Rg.putUse V [(9, 45), (10, 46)] fr).eval (.tmp 46) = .bool true := (Rg.use_eval V fr 46 [(9, 45), (10, 46)] (by simp only [hz]; decide)).trans h10
        show Rg.Does1 _ _ V (Rg.putUse V [(9, 45), (10, 46)] fr) w2 _
        exact Ob.rc_mv (.bool true) (by simp only [execOp, tb45, tb46]; go_simp) rfl rfl True.intro
      · intro V S w2 HM HU HE
        have HM : Mod WX w2 (fun _ => False) := HM
        have h11 : V 11 = .bool true := HU.holds 11 (by decide)
        have tb47 : (Rg.putUse V [(11, 47)] fr).eval (.tmp 47) = .bool true := (Rg.use_eval V fr 47 [(11, 47)] (by simp only [hz]; decide)).trans h11
        show Rg.Does1 _ _ V (Rg.putUse V [(11, 47)] fr) w2 _
        exact Ob.rc_mv (.bool true) (by simp only [execOp, tb47]; go_simp) rfl rfl True.intro
    · intro V S w2 HI
      have hb : V 12 = .bool true := HI.get 12 (by decide) (by rfl)
      have HT2 := Lib.hid (one.after HI.mod.undrew (HI.get 13 (by decide) (by rfl)).2)
      have HM2 : Hid (Mod WX w2 (fun _ => False)) := HI.mod.undrew
      simp only [Rg.putList, Act.put, List.setIfInBounds_toArray, List.set_cons_zero, List.set_cons_succ, Nat.zero_add, Nat.reduceAdd]
      rw [hb]
      clear HI hb one HT
      have HEND : Hid (Below w.heap.size w w2) := HLOW.out.trans ((Mod.below HM2.out (fun _ h => h.elim)).mono HLOW.out.size)
      clear HT2 HM2 HD1
      go_wp2_with fail
      go_ret
      exact ⟨rfl, HEND.out⟩
end Go.Proofs.Ytenedgapjbmpgaa

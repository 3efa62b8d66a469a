/-
  OWN WORK. Two lists of rows that are the same, told so.
-/
import Derived.Test.YtjeclmbableacaaDoorMkLen
import Derived.Test.YtjeclmbableacaaDoorBaSet
namespace Go.Proofs.YtjeclmbableacaaDoor
open Go.RowKit Rc

set_option maxHeartbeats 8000000 in
set_option maxRecDepth 100000 in
theorem lists_same (w : World) (P : List (List UInt8)) (A B : Option Addr) (c d : Nat) (ha : RdL w A P) (hb : RdL w B P) (hn : P.length ≤ 1000000) :
    Calls Tryd.prog 13 #[.slice A P.length c, .slice B P.length d] w fun e w' => e = .returned (.bool true) ∧ Below w.heap.size w w' := by
  have HA := Lib.hid ha
  have HB := Lib.hid hb
  clear ha hb
  go_enter Tryd.func13, Tryd.ntmps13
  go_wp2_with fail
  go_loopw [5] (fun t5 wr => ∃ k : Nat, t5 = .int .i64 (k : Nat) ∧ k ≤ P.length ∧ Hid (Below w.heap.size w wr)) (fun t5 _ => P.length - (intOf t5).toNat)
  case atStart => exact ⟨0, rfl, by omega, Below.refl _ _⟩
  case round =>
    obtain ⟨k, rfl, hk, HW⟩ := hrel
    by_cases h1 : k < P.length
    · obtain ⟨b, off, y, YA, yc, rfl, hy, hcell, hyc, hyr⟩ := (HA.out.below HW.out).at_ k h1
      obtain ⟨b2, off2, z, ZA, zc, rfl, hz, hcell2, hzc, hzr⟩ := (HB.out.below HW.out).at_ k h1
      obtain rfl : y = z := Option.some.inj (hy.symm.trans hz)
      have HY := Lib.hid hyr
      have HZ := Lib.hid hzr
      have HBL : Hid (b < wr.heap.size) := World.block_lt_of_cell? wr ⟨b, _, none⟩ hcell
      have HBL2 : Hid (b2 < wr.heap.size) := World.block_lt_of_cell? wr ⟨b2, _, none⟩ hcell2
      have k0 : (0 : Int) ≤ (k : Int) := by omega
      have k1 : (k : Int) < (P.length : Int) := by omega
      clear hyr hzr hy hz
      go_wp2_with fail
      go_upto_region 6 with (fail)
      refine Rc.wp_region (by kernel_rfl) (fun opn => List.getD [Rc.val (.slice (some ⟨b, off, none⟩) P.length c), Rc.val (.int .i64 ((k : Nat) : Int)), Rc.val (.pointer (some ⟨b, off + k, none⟩)), Rc.val (.slice YA y.length yc), Rc.val (.string (strOf (y))), Rc.val (.slice (some ⟨b2, off2, none⟩) P.length d), Rc.val (.int .i64 ((k : Nat) : Int)), Rc.val (.pointer (some ⟨b2, off2 + k, none⟩)), Rc.val (.slice ZA y.length zc), Rc.val (.string (strOf (y))), Rc.val (.bool false)] opn Rc.any) 0 [] [[], [], [(0, 17), (1, 18)], [(2, 19)], [(3, 20)], [], [], [(5, 22), (6, 23)], [(7, 24)], [(8, 25)], [(4, 21), (9, 26)]] [[], [], [0, 1], [0, 1, 2], [0, 1, 2, 3], [], [], [5, 6], [5, 6, 7], [5, 6, 7, 8], [0, 1, 2, 3, 4, 5, 6, 7, 8, 9]] [[], [], [0, 1], [2], [3], [], [], [5, 6], [7], [8], [4, 9]] [] (by kernel_rfl) (by rfl) (by kernel_rfl) (fun _ => False) (fun _ _ => False) Rc.Inv.none ?_ ?_
      · intro fr ha
        have hz : fr.tmps.size = 28 := by rw [ha]; rfl
        have y0 : fr.eval (.tmp 0) = .slice (some ⟨b, off, none⟩) P.length c := by rw [ha]; rfl
        have y1 : fr.eval (.tmp 1) = .slice (some ⟨b2, off2, none⟩) P.length d := by rw [ha]; rfl
        have y5 : fr.eval (.tmp 5) = .int .i64 ((k : Nat) : Int) := by rw [ha]; rfl
        clear ha
        refine .cons ?_ (.cons ?_ (.cons ?_ (.cons ?_ (.cons ?_ (.cons ?_ (.cons ?_ (.cons ?_ (.cons ?_ (.cons ?_ (.cons ?_ (.nil)))))))))))
        · intro V S w2 HM HU HE
          have lw : Below wr.heap.size wr w2 := Rc.Mod.below HM (fun _ h => h.elim)
          have tb0 : (Rg.putUse V [] fr).eval (.tmp 0) = .slice (some ⟨b, off, none⟩) P.length c := (Rg.use_eval V fr 0 [] (by simp only [hz]; decide)).trans y0
          show Rg.Does1 _ _ V (Rg.putUse V [] fr) w2 _
          exact Ob.rc_mv (.slice (some ⟨b, off, none⟩) P.length c) (by simp only [execOp, tb0]; go_simp) rfl rfl True.intro
        · intro V S w2 HM HU HE
          have lw : Below wr.heap.size wr w2 := Rc.Mod.below HM (fun _ h => h.elim)
          have tb5 : (Rg.putUse V [] fr).eval (.tmp 5) = .int .i64 ((k : Nat) : Int) := (Rg.use_eval V fr 5 [] (by simp only [hz]; decide)).trans y5
          show Rg.Does1 _ _ V (Rg.putUse V [] fr) w2 _
          exact Ob.rc_mv (.int .i64 ((k : Nat) : Int)) (by simp only [execOp, tb5]; go_simp) rfl rfl True.intro
        · intro V S w2 HM HU HE
          have lw : Below wr.heap.size wr w2 := Rc.Mod.below HM (fun _ h => h.elim)
          have h0 : V 0 = .slice (some ⟨b, off, none⟩) P.length c := HU.holds 0 (by decide)
          have tb17 : (Rg.putUse V [(0, 17), (1, 18)] fr).eval (.tmp 17) = .slice (some ⟨b, off, none⟩) P.length c := (Rg.use_eval V fr 17 [(0, 17), (1, 18)] (by simp only [hz]; decide)).trans h0
          have h1 : V 1 = .int .i64 ((k : Nat) : Int) := HU.holds 1 (by decide)
          have tb18 : (Rg.putUse V [(0, 17), (1, 18)] fr).eval (.tmp 18) = .int .i64 ((k : Nat) : Int) := (Rg.use_eval V fr 18 [(0, 17), (1, 18)] (by simp only [hz]; decide)).trans h1
          show Rg.Does1 _ _ V (Rg.putUse V [(0, 17), (1, 18)] fr) w2 _
          exact Ob.rc_mv (.pointer (some ⟨b, off + k, none⟩)) (by simp only [execOp, tb17, tb18]; go_simp; try (intro h; exfalso; omega)) rfl rfl True.intro
        · intro V S w2 HM HU HE
          have lw : Below wr.heap.size wr w2 := Rc.Mod.below HM (fun _ h => h.elim)
          have h2 : V 2 = .pointer (some ⟨b, off + k, none⟩) := HU.holds 2 (by decide)
          have tb19 : (Rg.putUse V [(2, 19)] fr).eval (.tmp 19) = .pointer (some ⟨b, off + k, none⟩) := (Rg.use_eval V fr 19 [(2, 19)] (by simp only [hz]; decide)).trans h2
          show Rg.Does1 _ _ V (Rg.putUse V [(2, 19)] fr) w2 _
          have cu := (lw.cell (p := ⟨b, off + k, none⟩) HBL.out).trans hcell
          exact Ob.rc_mv (.slice YA y.length yc) (by simp only [execOp, tb19]; go_simp) rfl rfl True.intro
        · intro V S w2 HM HU HE
          have lw : Below wr.heap.size wr w2 := Rc.Mod.below HM (fun _ h => h.elim)
          have h3 : V 3 = .slice YA y.length yc := HU.holds 3 (by decide)
          have tb20 : (Rg.putUse V [(3, 20)] fr).eval (.tmp 20) = .slice YA y.length yc := (Rg.use_eval V fr 20 [(3, 20)] (by simp only [hz]; decide)).trans h3
          show Rg.Does1 _ _ V (Rg.putUse V [(3, 20)] fr) w2 _
          exact Ob.rc_str (y) rfl tb20 (by first | rfl | simp) (HY.out.below lw) rfl rfl True.intro
        · intro V S w2 HM HU HE
          have lw : Below wr.heap.size wr w2 := Rc.Mod.below HM (fun _ h => h.elim)
          have tb1 : (Rg.putUse V [] fr).eval (.tmp 1) = .slice (some ⟨b2, off2, none⟩) P.length d := (Rg.use_eval V fr 1 [] (by simp only [hz]; decide)).trans y1
          show Rg.Does1 _ _ V (Rg.putUse V [] fr) w2 _
          exact Ob.rc_mv (.slice (some ⟨b2, off2, none⟩) P.length d) (by simp only [execOp, tb1]; go_simp) rfl rfl True.intro
        · intro V S w2 HM HU HE
          have lw : Below wr.heap.size wr w2 := Rc.Mod.below HM (fun _ h => h.elim)
          have tb5 : (Rg.putUse V [] fr).eval (.tmp 5) = .int .i64 ((k : Nat) : Int) := (Rg.use_eval V fr 5 [] (by simp only [hz]; decide)).trans y5
          show Rg.Does1 _ _ V (Rg.putUse V [] fr) w2 _
          exact Ob.rc_mv (.int .i64 ((k : Nat) : Int)) (by simp only [execOp, tb5]; go_simp) rfl rfl True.intro
        · intro V S w2 HM HU HE
          have lw : Below wr.heap.size wr w2 := Rc.Mod.below HM (fun _ h => h.elim)
          have h5 : V 5 = .slice (some ⟨b2, off2, none⟩) P.length d := HU.holds 5 (by decide)
          have tb22 : (Rg.putUse V [(5, 22), (6, 23)] fr).eval (.tmp 22) = .slice (some ⟨b2, off2, none⟩) P.length d := (Rg.use_eval V fr 22 [(5, 22), (6, 23)] (by simp only [hz]; decide)).trans h5
          have h6 : V 6 = .int .i64 ((k : Nat) : Int) := HU.holds 6 (by decide)
          have tb23 : (Rg.putUse V [(5, 22), (6, 23)] fr).eval (.tmp 23) = .int .i64 ((k : Nat) : Int) := (Rg.use_eval V fr 23 [(5, 22), (6, 23)] (by simp only [hz]; decide)).trans h6
          show Rg.Does1 _ _ V (Rg.putUse V [(5, 22), (6, 23)] fr) w2 _
          exact Ob.rc_mv (.pointer (some ⟨b2, off2 + k, none⟩)) (by simp only [execOp, tb22, tb23]; go_simp; try (intro h; exfalso; omega)) rfl rfl True.intro
        · intro V S w2 HM HU HE
          have lw : Below wr.heap.size wr w2 := Rc.Mod.below HM (fun _ h => h.elim)
          have h7 : V 7 = .pointer (some ⟨b2, off2 + k, none⟩) := HU.holds 7 (by decide)
          have tb24 : (Rg.putUse V [(7, 24)] fr).eval (.tmp 24) = .pointer (some ⟨b2, off2 + k, none⟩) := (Rg.use_eval V fr 24 [(7, 24)] (by simp only [hz]; decide)).trans h7
          show Rg.Does1 _ _ V (Rg.putUse V [(7, 24)] fr) w2 _
          have cu := (lw.cell (p := ⟨b2, off2 + k, none⟩) HBL2.out).trans hcell2
          exact Ob.rc_mv (.slice ZA y.length zc) (by simp only [execOp, tb24]; go_simp) rfl rfl True.intro
        · intro V S w2 HM HU HE
          have lw : Below wr.heap.size wr w2 := Rc.Mod.below HM (fun _ h => h.elim)
          have h8 : V 8 = .slice ZA y.length zc := HU.holds 8 (by decide)
          have tb25 : (Rg.putUse V [(8, 25)] fr).eval (.tmp 25) = .slice ZA y.length zc := (Rg.use_eval V fr 25 [(8, 25)] (by simp only [hz]; decide)).trans h8
          show Rg.Does1 _ _ V (Rg.putUse V [(8, 25)] fr) w2 _
          exact Ob.rc_str (y) rfl tb25 (by first | rfl | simp) (HZ.out.below lw) rfl rfl True.intro
        · intro V S w2 HM HU HE
          have lw : Below wr.heap.size wr w2 := Rc.Mod.below HM (fun _ h => h.elim)
          have h4 : V 4 = .string (strOf (y)) := HU.holds 4 (by decide)
          have tb21 : (Rg.putUse V [(4, 21), (9, 26)] fr).eval (.tmp 21) = .string (strOf (y)) := (Rg.use_eval V fr 21 [(4, 21), (9, 26)] (by simp only [hz]; decide)).trans h4
          have h9 : V 9 = .string (strOf (y)) := HU.holds 9 (by decide)
          have tb26 : (Rg.putUse V [(4, 21), (9, 26)] fr).eval (.tmp 26) = .string (strOf (y)) := (Rg.use_eval V fr 26 [(4, 21), (9, 26)] (by simp only [hz]; decide)).trans h9
          show Rg.Does1 _ _ V (Rg.putUse V [(4, 21), (9, 26)] fr) w2 _
          exact Ob.rc_mv (.bool false) (by simp only [execOp, tb21, tb26]; go_simp) rfl rfl True.intro
      · intro V S w2 HI
        have HL2 : Hid (Below wr.heap.size wr w2) := Rc.Mod.below HI.mod.undrew (fun _ h => h.elim)
        have hw10 : V 10 = .bool false := HI.get 10 (by decide) (by rfl)
        simp only [Rg.putList, Act.put, List.setIfInBounds_toArray, List.set_cons_zero, List.set_cons_succ, Nat.zero_add, Nat.reduceAdd]
        rw [hw10]
        clear HI hw10
        have HW2 : Hid (Below w.heap.size w w2) := HW.out.trans (HL2.out.mono HW.out.size)
        clear HL2 HW
        go_wp2_with fail
        go_roundw
        case rel => exact ⟨k + 1, by go_num, by omega, HW2⟩
        case measure => simp [intOf]; omega
    · obtain rfl : k = P.length := by omega
      go_wp2_with fail
      go_ret
      exact ⟨rfl, HW.out⟩
end Go.Proofs.YtjeclmbableacaaDoor
namespace Go.Proofs.YtjeclmbableacaaDoor
open Go.RowKit Rc

theorem LOwn.blk {B : Nat} {O : Option Addr → List UInt8 → Prop} {x : Value} {L : List (List UInt8)} {S : Nat → Prop} {w : World} (h : LOwn B O x L S w) (hp : 0 < L.length) :
    ∃ g cap cur, x = .slice (some ⟨g, 0, none⟩) L.length cap ∧ L.length ≤ cap ∧ S g ∧ Blk w g 23 cur := by
  obtain ⟨xs, h1, h2, h3⟩ := h
  rcases h1.2 with ⟨_, h0⟩ | ⟨g, cap, cur, rfl, h4, h5, h6, _⟩
  · omega
  · exact ⟨g, cap, cur.toList, rfl, h6, h2 g rfl, by unfold Blk; rw [h5]⟩
theorem LOwn.turned {B g c k cc : Nat} {L : List (List UInt8)} {y : List UInt8} {A : Option Addr} {S S2 : Nat → Prop} {w w3 : World} (h : LOwn B noOld (.slice (some ⟨g, 0, none⟩) L.length c) L S w) (hk : k < L.length)
    (hs : w.heap.size ≤ w3.heap.size) (hb : ∀ b, S b → b ≠ g → w3.heap[b]? = w.heap[b]?) (hg : ∀ cur, Blk w g 23 cur → Blk w3 g 23 (cur.set k (.slice A y.length cc)))
    (hcc : y.length ≤ cc) (hr : Rd w3 A y) (hA : ∀ b, A.map (·.block) = some b → S2 b ∧ b ≠ g) :
    LOwn B noOld (.slice (some ⟨g, 0, none⟩) L.length c) (L.set k y) (fun b => S b ∨ S2 b) w3 := by
  obtain ⟨xs, h1, h2, h3⟩ := h
  rcases h1.2 with ⟨h0, _⟩ | ⟨g', cap, cur, e, h4, h5, h6, h7, h8, h9⟩
  · cases h0
  · injection e with e1 _ e3
    injection e1 with e1
    injection e1 with e1
    subst e1 e3
    have hx := h1.1
    have hB : Blk w g 23 cur.toList := by unfold Blk; rw [h5]
    refine ⟨xs.set k (.slice A y.length cc), ⟨by rw [List.length_set, List.length_set]; exact hx, .inr ⟨g, c, (cur.toList.set k (.slice A y.length cc)).toArray, by rw [List.length_set], h4, hg _ hB, by rw [List.length_set]; exact h6, h7, by simpa using h8, by rw [List.length_set, ← h9, List.take_set]⟩⟩, fun b hb => .inl (h2 b hb), fun j z hj => ?_⟩
    by_cases hjk : j = k
    · subst hjk
      rw [List.getElem?_set_self hk] at hj
      obtain rfl := Option.some.inj hj
      refine ⟨A, cc, List.getElem?_set_self (by omega), hcc, .inl ⟨hr, fun b hb => ⟨.inr (hA b hb).1, fun e => (hA b hb).2 ?_⟩⟩⟩
      injection e with e
      exact e.symm
    · rw [List.getElem?_set_ne (fun e => hjk e.symm)] at hj
      obtain ⟨A', c', q1, q2, q3⟩ := h3 j z hj
      refine ⟨A', c', by rw [List.getElem?_set_ne (fun e => hjk e.symm)]; exact q1, q2, q3.imp (fun q => ⟨q.1.keep (fun p _ e => World.cell?_of_block (hb p.block (q.2 _ e).1 fun e2 => (q.2 _ e).2 (by rw [e2]; rfl))) hs, fun b hb => ⟨.inl (q.2 b hb).1, (q.2 b hb).2⟩⟩) id⟩
/-- All that is seen of the world behind a turn: w, the new row appended (wA), put in its place, one of its bytes set. -/
theorem turned_in {B B0 g c k cc h j : Nat} {L : List (List UInt8)} {x : List UInt8} {S : Nat → Prop} {w0 w wA : World} {u : UInt8} {X : Int} (hL : LOwn B noOld (.slice (some ⟨g, 0, none⟩) L.length c) L S w) (hSg : S g) (hS : ∀ b, S b → b < w.heap.size) (hSB : ∀ b, S b → B0 ≤ b) (hk : k < L.length)
    (hA : Later w wA) (own : wA.ownsRow w.heap.size 5 1 (.slice (some ⟨h, 0, none⟩) x.length cc) x.length (Lib.byteCells x)) (hj : j < x.length) (hX : X = u.toNat) (h0 : Below B0 w0 w) (hB0 : B0 ≤ w.heap.size) :
    LOwn B noOld (.slice (some ⟨g, 0, none⟩) L.length c) (L.set k (x.set j u)) (fun b => S b ∨ (w.heap.size ≤ b ∧ b < ((wA.setCell ⟨g, k, none⟩ (.slice (some ⟨h, 0, none⟩) x.length cc)).drew.setCell ⟨h, j, none⟩ (.int .u8 X)).heap.size)) ((wA.setCell ⟨g, k, none⟩ (.slice (some ⟨h, 0, none⟩) x.length cc)).drew.setCell ⟨h, j, none⟩ (.int .u8 X)) ∧
    Below B0 w0 ((wA.setCell ⟨g, k, none⟩ (.slice (some ⟨h, 0, none⟩) x.length cc)).drew.setCell ⟨h, j, none⟩ (.int .u8 X)) ∧
    Keeps w ((wA.setCell ⟨g, k, none⟩ (.slice (some ⟨h, 0, none⟩) x.length cc)).drew.setCell ⟨h, j, none⟩ (.int .u8 X)) g := by
  have hgw : g < w.heap.size := hS g hSg
  have hhw : w.heap.size ≤ h := own.ownBlock_ge h rfl
  have hne : h ≠ g := by omega
  have o1 := own_far own ⟨g, k, none⟩ (by intro e; injection e with e; exact hne e) (.slice (some ⟨h, 0, none⟩) x.length cc)
  have o2 : ((wA.setCell ⟨g, k, none⟩ (.slice (some ⟨h, 0, none⟩) x.length cc)).drew).ownsRow w.heap.size 5 1 (.slice (some ⟨h, 0, none⟩) x.length cc) x.length (Lib.byteCells x) := o1
  have o3 := own_set o2 j hj u X hX
  have hl : (x.set j u).length = x.length := List.length_set
  obtain ⟨hr, hlen, hcc⟩ := rd_of_own o3
  have hlt := hr.lt (by omega)
  have hK : Keeps w ((wA.setCell ⟨g, k, none⟩ (.slice (some ⟨h, 0, none⟩) x.length cc)).drew.setCell ⟨h, j, none⟩ (.int .u8 X)) g := by
    have k1 := ((Keeps.of_below (g := g) hA).setCell k (.slice (some ⟨h, 0, none⟩) x.length cc)).drew
    refine ⟨k1.os, k1.tape, k1.output, ?_, fun b hb hbg => ?_⟩
    · have := k1.size; simpa [World.setCell] using this
    · rw [Below.heap_setCell _ _ _ b (by show b ≠ h; omega)]
      exact k1.block b hb hbg
  refine ⟨?_, Keeps.below h0 hK (hSB g hSg) hB0, hK⟩
  generalize hW : ((wA.setCell ⟨g, k, none⟩ (.slice (some ⟨h, 0, none⟩) x.length cc)).drew.setCell ⟨h, j, none⟩ (.int .u8 X)) = W at *
  refine hL.turned (S2 := fun b => w.heap.size ≤ b ∧ b < W.heap.size) hk (y := x.set j u) (A := some ⟨h, 0, none⟩) (cc := cc) hK.size (fun b hb hbg => hK.block b (hS b hb) (fun e => hbg (by injection e))) (fun cur hc => ?_) (by omega) hr (fun b hb => ?_)
  · rw [hl, ← hW]
    refine Blk.far ?_ (by show g ≠ h; omega) _
    exact ((hc.below (B := w.heap.size) hA hgw).set_ k _).drew
  · have e : h = b := by simpa using hb
    subst e
    exact ⟨⟨hhw, hlt⟩, hne⟩
theorem Mk.bits_xor_u8 (a b : Nat) (ha : a < 256) (hb : b < 256) : bits .xor .u8 (a : Int) (b : Int) = ((a ^^^ b : Nat) : Int) := by
  show IntKind.u8.wrap ((BitVec.ofInt 8 (a : Int) ^^^ BitVec.ofInt 8 (b : Int)).toNat : Int) = _
  rw [IntKind.wrap_u8', BitVec.toNat_xor, BitVec.ofInt_natCast, BitVec.ofInt_natCast, BitVec.toNat_ofNat, BitVec.toNat_ofNat, Nat.mod_eq_of_lt ha, Nat.mod_eq_of_lt hb]
  have : a ^^^ b < 2 ^ 8 := Nat.xor_lt_two_pow ha hb
  omega
theorem info_u8 : ∃ i0, Tryd.prog.info? 5 = some i0 ∧ i0.zero = some (.int .u8 0) ∧ i0.size = 1 ∧ i0.bytes = 1 := by
  have h := Tryd.infoU8
  simp only [Option.map_eq_some_iff, Prod.mk.injEq] at h
  obtain ⟨i0, h1, h2, h3, h4⟩ := h
  exact ⟨i0, h1, h2, h3, h4⟩
/-- A new row that is a copy of another, behind its append. -/
theorem appended_new {w wA : World} {v1 u : Value} {y : List UInt8} {g kk : Nat} (hO : wA.ownsRow w.heap.size 5 1 v1 (0 + y.length) (Lib.byteCells [] ++ Lib.byteCells y)) (hG : (w.alloc (.cells #[] 5)).grownBy wA (Value.slice (some ⟨w.heap.size, 0, none⟩) 0 0).ownBlock) (hy : y.length = 32) (hg : g < w.heap.size) (hf : w.frozen? ⟨g, kk, none⟩ = false) (hc : w.cell? ⟨g, kk, none⟩ = some u) :
    ∃ h cc, v1 = .slice (some ⟨h, 0, none⟩) y.length cc ∧ Hid (wA.ownsRow w.heap.size 5 1 (.slice (some ⟨h, 0, none⟩) y.length cc) y.length (Lib.byteCells y)) ∧ Hid (Later w wA) ∧ wA.frozen? ⟨g, kk, none⟩ = false ∧ wA.cell? ⟨g, kk, none⟩ = some u := by
  rw [Nat.zero_add] at hO
  have hO2 : wA.ownsRow w.heap.size 5 1 v1 y.length (Lib.byteCells y) := hO
  obtain ⟨h, cc, rfl, _, _, _, _, _⟩ := rd_own hO2 (by omega)
  have hL : Later w wA := (below_new w (.cells #[] 5)).grown hG (by rw [World.size_alloc]; omega) (fun k hk => by have hk2 : some w.heap.size = some k := hk; injection hk2 with hk2; omega)
  exact ⟨h, cc, rfl, hO2, hL, by simpa [World.frozen?, hL.block g hg] using hf, (hL.cell (p := ⟨g, kk, none⟩) hg).trans hc⟩
end Go.Proofs.YtjeclmbableacaaDoor

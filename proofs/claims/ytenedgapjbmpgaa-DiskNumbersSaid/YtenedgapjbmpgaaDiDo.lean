/-
  OWN WORK. Law 5's do: one call of both disks, and what is told of it.
-/
import Derived.Test.YtenedgapjbmpgaaDiPair
import Derived.Test.YtenedgapjbmpgaaBaRoomy
import Derived.Test.YtenedgapjbmpgaaBaSameI
import Derived.Test.YtenedgapjbmpgaaBaTurn
import Derived.Deep.CutBlock
namespace Go.Proofs.Ytenedgapjbmpgaa
open Go.RowKit Rc Di

namespace Ob
/-- A row of numbers of the call's own. -/
def irow (l : List Int) : Rc.Fact :=
  ⟨fun x w S => ∃ X c, x = .slice X l.length c ∧ l.length ≤ c ∧ RdI w X l ∧ ∀ b, X.map (·.block) = some b → S b,
   fun x w w' S h hs hb => by
    obtain ⟨X, c, h1, h2, h3, h4⟩ := h
    refine ⟨X, c, h1, h2, fun j y hj => ?_, h4⟩
    obtain ⟨h5, b, off, rfl, h6, h7⟩ := h3 j y hj
    refine ⟨h5, b, off, rfl, Nat.lt_of_lt_of_le h6 hs, ?_⟩
    exact (World.cell?_of_block (a := ⟨b, off + j, none⟩) (hb b (h4 b rfl))).trans h7⟩
section
variable {F : Nat → Rc.Fact} {cons : List (Nat × Nat)} {E : Nat → (Nat → Value) → Value → Prop} {V : Nat → Value} {S : Nat → Nat → Prop} {j : Nat} {o : Oper} {b : Act} {w : World}
theorem step_irow (l : List Int) {fn : FuncId} {xs : Array Operand} {ts : Array TypeId} (args : Array Value) (hent : ∀ args w, (callFunc fn args).run Try.prog w = .ok (.enter fn args) w)
    (hop : o.op = .call { callee := .value (.func fn), args := xs, argTypes := ts }) (hargs : xs.map b.eval = args) (hF : F j = irow l) (hE : ∀ v, E j V v) (hg : Rg.Open o V)
    (hcall : Calls Try.prog fn args w fun e w' => ∃ x, e = .returned x ∧ FreshI l w x w' ∧ Below w.heap.size w w') : Rg.Does1 Try.prog o V b w (Rc.Good F cons E V S j w) := by
  refine Rc.step_call args hent hop hargs hE hg (hcall.mono ?_)
  rintro e w' ⟨x, rfl, hf, hb⟩
  obtain ⟨X, c, rfl, hc, hr, hX⟩ := hf
  refine ⟨_, fun k => X.map (·.block) = some k, rfl, Mod.of_below hb _, ?_, fun k hk => ⟨.inr (hX k hk).1, (hX k hk).2⟩⟩
  rw [hF]; exact ⟨X, c, rfl, hc, hr, fun _ h => h⟩
end
end Ob
theorem rdi_below {w w' : World} {A : Option Addr} {l : List Int} (h : RdI w A l) (hb : Below w.heap.size w w') : RdI w' A l := fun j x hj => by
  obtain ⟨h1, b, off, h2, h3, h4⟩ := h j x hj
  exact ⟨h1, b, off, h2, Nat.lt_of_lt_of_le h3 hb.size, (hb.cell (p := ⟨b, off + j, none⟩) h3).trans h4⟩
/-- A row that lay beside the object before the region. -/
theorem kept_up {w w2 : World} {B S1 : Nat → Prop} {A : Option Addr} {l : List UInt8} (k : Ob.Kept w B A l) (hm : Mod w w2 B) (hup : ∀ b, S1 b → Ob.Ups B w b) : Ob.Kept w2 S1 A l :=
  ⟨Ob.rd_mod k.1 hm k.2, fun hl b hA hS => by
    rcases hup b hS with h1 | h1
    · exact k.2 hl b hA h1
    · have := Ob.rd_lt k.1 hl hA
      omega⟩
def emptied (w : World) : World := { w with heap := #[] }
theorem one_of {σ : Type} {O : Ob.Obj σ} {v : Value} {s : σ} {S : Nat → Prop} {w : World} (h : O.At v s S w) : Ob.One O v (emptied w) w S s S w :=
  ⟨h, Mod.refl _ _, fun _ h => .inl h, ⟨rfl, rfl, rfl, Nat.zero_le _, fun k hk => absurd hk (Nat.not_lt_zero k)⟩, fun _ _ => Nat.zero_le _⟩
theorem asked_le (p : AskD) (h : p.x.length ≤ 140737488351232) : (asked p).length ≤ 140737488351232 := by
  unfold asked
  split
  · rw [sized_length]; omega
  · exact h
theorem pair_row {D : DSaid} {N : Nat} {v : Value} {g : Nat} {s : Dk × Dk} {B : Nat → Prop} {w : World} (h : (pairObj D N (.pointer (some ⟨g, 0, none⟩))).At v s B w) :
    ∃ gd, w.cell? ⟨g, 1, none⟩ = some (.slice (some ⟨N, 0, none⟩) (128 * s.2.dirty.length) (128 * s.2.dirty.length)) ∧ w.cell? ⟨g, 2, none⟩ = some (.slice (some ⟨gd, 0, none⟩) s.2.dirty.length s.2.dirty.length) ∧ w.cell? ⟨g, 3, none⟩ = some (.int .i64 (s.2.writes : Nat)) ∧
      Rd w (some ⟨N, 0, none⟩) s.2.now.flatten ∧ (∀ i (hi : i < s.2.dirty.length), w.cell? ⟨gd, i, none⟩ = some (.bool s.2.dirty[i])) ∧ g < w.heap.size ∧ N < w.heap.size ∧ gd < w.heap.size ∧ s.2.Ok := by
  obtain ⟨S1, S2, h1, ⟨g', gs, gn, gd, e, k1, k2, k3, k4, _, hok, _, rfl⟩, _, _⟩ := h
  injection e with e
  injection e with e
  injection e with e
  subst e
  refine ⟨gd, k1.cell 1, k1.cell 2, k1.cell 3, rd_of_blk k3, fun i hi => ?_, k1.lt, k3.lt, k4.lt, hok⟩
  rw [k4.cell, List.getElem?_map, List.getElem?_eq_getElem hi]; rfl
theorem pair_d {D : DSaid} {N : Nat} {r v : Value} {s : Dk × Dk} {B : Nat → Prop} {w : World} (h : (pairObj D N r).At v s B w) : ∃ S1, D.At v s.1 S1 w := by
  obtain ⟨S1, S2, h1, _⟩ := h
  exact ⟨S1, h1⟩
theorem pair_r {D : DSaid} {N : Nat} {r v : Value} {s : Dk × Dk} {B : Nat → Prop} {w : World} (h : (pairObj D N r).At v s B w) : ∃ S2, RefAt N r s.2 S2 w := by
  obtain ⟨S1, S2, _, h2, _⟩ := h
  exact ⟨S2, h2⟩
/-- A call that is taken by value lies in a block of its own. -/
def boxed (p : AskD) : List Value := [.int .i64 p.kd, .int .i64 p.i, .slice p.A p.x.length p.c, .slice p.KA p.ks.length p.kc, .int .i64 p.torn, .int .i64 p.cut]
structure DoAt (D : DSaid) (N : Nat) (v r : Value) (w1 : World) (S : Nat → Prop) (g0 : Nat) (p : AskD) (st : Dk × Dk) (B : Nat → Prop) (wx : World) : Prop where
  one : Ob.One (pairObj D N r) v (emptied w1) w1 S st B wx
  box : Blk wx g0 33 (boxed p)
  out : ¬ B g0
  bes : p.Beside wx B
section
variable {D : DSaid} {N : Nat} {v r : Value} {w1 : World} {S B : Nat → Prop} {g0 : Nat} {p : AskD} {st st' : Dk × Dk} {wx w' : World}
theorem DoAt.turn {x : Value} {e : Ending} (h : DoAt D N v r w1 S g0 p st B wx) (ht : Ob.Turns (pairObj D N r) v st' x B wx e w') : e = .returned x ∧ ∃ B', DoAt D N v r w1 S g0 p st' B' w' := by
  obtain ⟨he, T, hat, hm, hT⟩ := ht
  refine ⟨he, T, h.one.turn hat hm hT, (hm.block g0 h.box.lt h.out).trans h.box, fun hg => ?_, h.bes.later hm hT⟩
  rcases hT g0 hg with h1 | h1
  · exact h.out h1
  · exact Nat.not_lt.2 h1 h.box.lt
theorem DoAt.later (h : DoAt D N v r w1 S g0 p st B wx) (hb : Below wx.heap.size wx w') : DoAt D N v r w1 S g0 p st B w' :=
  ⟨h.one.later hb, h.box.below hb h.box.lt, h.out, h.bes.later (Mod.of_below hb B) (fun _ h => .inl h)⟩
theorem DoAt.after (h : DoAt D N v r w1 S g0 p st B wx) (hm : Mod wx w' B) (h1 : Ob.Own (pairObj D N r) v (emptied w1) w1 S st' w') (hT : ∀ b, ¬ B b → b < wx.heap.size → ∀ B', Ob.One (pairObj D N r) v (emptied w1) w1 S st' B' w' → ¬ B' b) : True := trivial
theorem DoAt.of (h0 : DoAt D N v r w1 S g0 p st S w1) (h : Ob.One (pairObj D N r) v (emptied w1) w1 S st' B wx) : DoAt D N v r w1 S g0 p st' B wx :=
  ⟨h, (h.mod.block g0 h0.box.lt h0.out).trans h0.box, fun hg => by
    rcases h.sub g0 hg with h1 | h1
    · exact h0.out h1
    · exact Nat.not_lt.2 h1 h0.box.lt, h0.bes.later h.mod h.sub⟩
theorem below_drewN2 (w : World) (n : Nat) : Below w.heap.size w (w.drewN n) := ⟨rfl, rfl, rfl, Nat.le_refl _, fun _ _ => rfl⟩
theorem DoAt.ask {w2 : World} (h : DoAt D N v r w1 S g0 p st B wx) (hm : Mod wx w2 B) : w2.cell? ⟨g0, 1, none⟩ = some (.int .i64 p.i) := by
  have : Blk w2 g0 33 (boxed p) := (hm.block g0 h.box.lt h.out).trans h.box
  exact this.cell 1
theorem DoAt.cells (h : DoAt D N v r w1 S g0 p st B wx) : wx.cell? ⟨g0, 0, none⟩ = some (.int .i64 p.kd) ∧ wx.cell? ⟨g0, 1, none⟩ = some (.int .i64 p.i) ∧ wx.cell? ⟨g0, 2, none⟩ = some (.slice p.A p.x.length p.c) ∧ wx.cell? ⟨g0, 3, none⟩ = some (.slice p.KA p.ks.length p.kc) ∧ wx.cell? ⟨g0, 4, none⟩ = some (.int .i64 p.torn) ∧ wx.cell? ⟨g0, 5, none⟩ = some (.int .i64 p.cut) :=
  ⟨h.box.cell 0, h.box.cell 1, h.box.cell 2, h.box.cell 3, h.box.cell 4, h.box.cell 5⟩
end
set_option maxHeartbeats 8000000 in
set_option maxRecDepth 100000 in
theorem do_any (D : DSaid) {N : Nat} {v : Value} {g : Nat} {s : Dk} {Z : Nat → Prop} {w : World} (h : (pairObj D N (.pointer (some ⟨g, 0, none⟩))).At v (s, s) Z w) (hw : s.writes ≤ 1000) (p : AskD) (hp : p.Beside w Z) :
    Calls Try.prog 13 #[v, .pointer (some ⟨g, 0, none⟩), p.val] w (Ob.Turns (pairObj D N (.pointer (some ⟨g, 0, none⟩))) v (step s p, step s p) (.bool true) Z w) := by
  obtain ⟨a0, rfl⟩ := (pairObj D N (.pointer (some ⟨g, 0, none⟩))).ptr h
  obtain ⟨w1, hw1⟩ : ∃ w1, w1 = w.alloc (.cells (boxed p).toArray 33) := ⟨_, rfl⟩
  have hb0 : Below w.heap.size w w1 := by rw [hw1]; exact below_new _ _
  have hlt := (pairObj D N (.pointer (some ⟨g, 0, none⟩))).lt h
  have HT1 : Hid (DoAt D N (.pointer (some a0)) (.pointer (some ⟨g, 0, none⟩)) w1 Z w.heap.size p (s, s) Z w1) := by
    refine ⟨one_of ((pairObj D N (.pointer (some ⟨g, 0, none⟩))).keep h hb0.size (fun b hb => hb0.block b (hlt b hb))), ?_, fun hg => Nat.lt_irrefl _ (hlt _ hg), hp.later (Mod.of_below hb0 Z) (fun _ h => .inl h)⟩
    rw [hw1]; exact Blk.new w _ _
  have HB0 := Lib.hid hb0
  have HW := Lib.hid hw
  have HII := Lib.hid (And.intro hp.ii (And.intro hp.it hp.ic))
  have HLONG := Lib.hid hp.long
  have HW1 := Lib.hid hw1
  obtain ⟨k0, k1, k2, k3, k4, k5⟩ := HT1.out.cells
  obtain ⟨i0, i1⟩ := hp.ii
  obtain ⟨t0, t1⟩ := hp.it
  obtain ⟨q0, q1⟩ := hp.ic
  obtain ⟨s2, hs2⟩ : ∃ s2, s2 = step s p := ⟨_, rfl⟩
  rw [← hs2]
  have HS2 := Lib.hid hs2
  obtain ⟨kd, hkd⟩ : ∃ kd, kd = p.kd := ⟨_, rfl⟩
  have hw1' : w.alloc (.cells #[.int .i64 kd, .int .i64 p.i, .slice p.A p.x.length p.c, .slice p.KA p.ks.length p.kc, .int .i64 p.torn, .int .i64 p.cut] 33) = w1 := by rw [hw1, hkd]; rfl
  have HW1' := Lib.hid hw1'
  have HKD := Lib.hid hkd
  rw [← hkd] at k0
  unfold AskD.val
  rw [← hkd]
  clear h hw hp hb0 hlt hw1 hs2 hkd hw1'
  go_enter Try.func13, Try.ntmps13
  go_upto_region 1 with (fail)
  rw [HW1'.out]
  go_upto_block 0 with (fail)
  go_cut [] (fun wx => Hid (Ob.Own (pairObj D N (.pointer (some ⟨g, 0, none⟩))) (.pointer (some a0)) (emptied w1) w1 Z (s2, s2) wx))
  case first =>
    by_cases b1 : kd = 1
    · have b1' : p.kd = 1 := by rw [← HKD.out]; exact b1
      have B1 := Lib.hid b1'
      subst b1
      clear b1'
      go_upto_if 40 with (fail)
      go_cut [7] (fun t7 wx => ∃ A c, t7 = .slice A (asked p).length c ∧ Hid (∃ B, Ob.One (pairObj D N (.pointer (some ⟨g, 0, none⟩))) (.pointer (some a0)) (emptied w1) w1 Z (s, s) B wx ∧ Ob.Kept wx B A (asked p) ∧ (asked p).length ≤ c))
      case first =>
        by_cases b2 : 0 < p.x.length % 3
        · have ha : asked p = sized 128 p.x := by unfold asked; rw [if_pos b2]
          have HA := Lib.hid ha
          have b3 : (0 : Int) < (p.x.length : Int) % 3 := by omega
          clear ha b2
          go_wp2_with fail
          refine (sized_any w1 p.x p.A p.c 128 HT1.out.bes.rd.1 HT1.out.bes.fits (by have := HLONG.out; omega) (by omega)).mono ?_
          rintro e w2 ⟨x, rfl, hf, hb⟩
          obtain ⟨X, c, rfl, hc, hk⟩ := HT1.out.one.fresh hb hf
          have HREL : Hid (∃ A c', (Value.slice X (sized 128 p.x).length c) = .slice A (asked p).length c' ∧ Hid (∃ B, Ob.One (pairObj D N (.pointer (some ⟨g, 0, none⟩))) (.pointer (some a0)) (emptied w1) w1 Z (s, s) B w2 ∧ Ob.Kept w2 B A (asked p) ∧ (asked p).length ≤ c')) := by
            rw [HA.out]
            exact ⟨X, c, rfl, Z, HT1.out.one.later hb, hk, hc⟩
          clear hf hb hc hk
          go_wp2_with fail
          go_meet
          case rel => exact HREL.out
        · have ha : asked p = p.x := by unfold asked; rw [if_neg b2]
          have b3 : ¬ (0 : Int) < (p.x.length : Int) % 3 := by omega
          have HREL : Hid (∃ A c', (Value.slice p.A p.x.length p.c) = .slice A (asked p).length c' ∧ Hid (∃ B, Ob.One (pairObj D N (.pointer (some ⟨g, 0, none⟩))) (.pointer (some a0)) (emptied w1) w1 Z (s, s) B w1 ∧ Ob.Kept w1 B A (asked p) ∧ (asked p).length ≤ c')) := by
            rw [ha]
            exact ⟨p.A, p.c, rfl, Z, HT1.out.one, HT1.out.bes.rd, HT1.out.bes.fits⟩
          clear ha b2
          go_wp2_with fail
          go_meet
          case rel => exact HREL.out
      case rest =>
        clear k0 k1 k2 k3 k4 k5
        obtain ⟨A, c, rfl, HQ⟩ := hcut
        obtain ⟨B, hone, hkb, hcb⟩ := HQ.out
        have hle := asked_le p HLONG.out
        obtain ⟨b, hbb⟩ : ∃ b, b = asked p := ⟨_, rfl⟩
        rw [← hbb] at hkb hcb hle ⊢
        obtain ⟨nn, s3, hws⟩ : ∃ nn s3, s.write p.i b = (nn, s3) := ⟨_, _, rfl⟩
        have HS3 : Hid (s2 = s3) := by show _ = _; rw [HS2.out]; unfold step; rw [if_pos B1.out, ← hbb, hws]
        have HWS := Lib.hid hws
        have HLE := Lib.hid hle
        clear HQ hbb hle hws
        go_wp2_with fail
        refine (roomy_any b A c _ hkb.1 HLE.out).mono ?_
        rintro e w3 ⟨gf, rfl, hroom⟩
        have HT : Hid (Ob.One (pairObj D N (.pointer (some ⟨g, 0, none⟩))) (.pointer (some a0)) (emptied w1) w1 Z (s, s) B w3) := hone.later hroom.2.1
        have hgf : ¬ B gf := fun hB => by
          have h1 := (pairObj D N (.pointer (some ⟨g, 0, none⟩))).lt hone.at_ gf hB
          have h2 := hroom.2.2
          omega
        have HKA : Hid (Ob.Kept w3 B A b) := hkb.more hroom.2.1
        have HKF : Hid (Ob.Kept w3 B (some ⟨gf, 0, none⟩) (b ++ List.replicate 80 165)) := ⟨room_rd hroom, fun _ x hx => by simp only [Option.map_some, Option.some.injEq] at hx; rw [← hx]; exact hgf⟩
        have HKG : Hid (Ob.Kept w3 B (some ⟨gf, 0, none⟩) b) := ⟨by have := (room_rd hroom).take b.length; rw [take_app] at this; exact this, fun _ x hx => by simp only [Option.map_some, Option.some.injEq] at hx; rw [← hx]; exact hgf⟩
        have HDA : Hid (DoAt D N (.pointer (some a0)) (.pointer (some ⟨g, 0, none⟩)) w1 Z w.heap.size p (s, s) B w3) := HT1.out.of HT.out
        have HCB := Lib.hid hcb
        clear hone hkb hcb hroom hgf
        go_upto_region 9 with (fail)
        have one := HT.out
        refine Rc.wp_region (by kernel_rfl) (fun opn => List.getD [Rc.val (.pointer (some a0)), Rc.val (.pointer (some ⟨w.heap.size, 1, none⟩)), Rc.val (.int .i64 p.i), Rc.val (.slice (some ⟨gf, 0, none⟩) (b.length + 80) (b.length + 80)), Rc.val (.slice A b.length c), Rc.val (.int .i64 ((b.length : Nat) : Int)), Rc.val (.slice (some ⟨gf, 0, none⟩) b.length (b.length + 80)), Ob.turned (pairObj D N (.pointer (some ⟨g, 0, none⟩))) (.pointer (some a0)) (Ob.Ups B w3) (.int .i64 ((nn : Nat) : Int)) (s3, s), Rc.val (.pointer (some ⟨g, 0, none⟩)), Rc.val (.pointer (some ⟨w.heap.size, 1, none⟩)), Rc.val (.int .i64 p.i), Rc.val (.slice A b.length c), Ob.turned (pairObj D N (.pointer (some ⟨g, 0, none⟩))) (.pointer (some a0)) (Ob.Ups B w3) (.int .i64 ((nn : Nat) : Int)) (s3, s3), Rc.val (.bool false), Rc.val (.bool false), Rc.val (.slice (some ⟨gf, 0, none⟩) (b.length + 80) (b.length + 80)), Rc.val (.slice A b.length c), Rc.val (.bool true), Rc.val (.bool false), Rc.val (.bool false), Ob.turned (pairObj D N (.pointer (some ⟨g, 0, none⟩))) (.pointer (some a0)) (Ob.Ups B w3) undef (s, s)] opn Rc.any) 1 [(7, 0, fun _ => .int .i64 ((nn : Nat) : Int))] [[], [], [(1, 46)], [], [], [(4, 49)], [(3, 48), (5, 50)], [(0, 45), (2, 47), (6, 51)], [], [], [(9, 54)], [], [(8, 53), (10, 55), (11, 56)], [(7, 52), (12, 57)], [(13, 58)], [(14, 59)], [(14, 59)], [(14, 59), (15, 60), (16, 61)], [(14, 59), (17, 62)], [(14, 59), (18, 63)]] [[], [], [1], [], [], [4], [3, 4, 5], [0, 1, 2, 3, 4, 5, 6], [], [], [9], [], [0, 1, 2, 3, 4, 5, 6, 7, 8, 9, 10, 11], [0, 1, 2, 3, 4, 5, 6, 7, 8, 9, 10, 11, 12], [0, 1, 2, 3, 4, 5, 6, 7, 8, 9, 10, 11, 12, 13], [0, 1, 2, 3, 4, 5, 6, 7, 8, 9, 10, 11, 12, 13, 14], [0, 1, 2, 3, 4, 5, 6, 7, 8, 9, 10, 11, 12, 13, 14], [0, 1, 2, 3, 4, 5, 6, 7, 8, 9, 10, 11, 12, 13, 14, 15, 16], [0, 1, 2, 3, 4, 5, 6, 7, 8, 9, 10, 11, 12, 13, 14, 15, 16, 17], [0, 1, 2, 3, 4, 5, 6, 7, 8, 9, 10, 11, 12, 13, 14, 15, 16, 17, 18]] [[], [], [1], [], [], [4], [3, 5], [0, 2, 6, 20], [], [], [9], [], [8, 10, 11, 7], [12], [13], [14], [14], [14, 15, 16], [14, 17], [14, 18]] [(7, 20), (12, 7)] (by kernel_rfl) (by rfl) (by kernel_rfl) B (fun _ b => B b) (Ob.one_inv_al (pairObj D N (.pointer (some ⟨g, 0, none⟩))) one.at_ _ _ 20 rfl rfl) ?_ ?_
        · intro fr ha
          have hz : fr.tmps.size = 128 := by rw [ha]; rfl
          have y0 : fr.eval (.tmp 0) = .pointer (some a0) := by rw [ha]; rfl
          have y1 : fr.eval (.tmp 1) = .pointer (some ⟨g, 0, none⟩) := by rw [ha]; rfl
          have y5 : fr.eval (.tmp 5) = .pointer (some ⟨w.heap.size, 0, none⟩) := by rw [ha]; rfl
          have y7 : fr.eval (.tmp 7) = .slice A b.length c := by rw [ha]; rfl
          have y8 : fr.eval (.tmp 8) = .slice (some ⟨gf, 0, none⟩) (b.length + 80) (b.length + 80) := by rw [ha]; rfl
          clear ha
          refine .cons ?_ (.cons ?_ (.cons ?_ (.cons ?_ (.cons ?_ (.cons ?_ (.cons ?_ (.cons ?_ (.cons ?_ (.cons ?_ (.cons ?_ (.cons ?_ (.cons ?_ (.cons ?_ (.cons ?_ (.cons ?_ (.cons ?_ (.cons ?_ (.cons ?_ (.cons ?_ (.nil))))))))))))))))))))
          · intro V S w2 HM HU HE
            have HM : Mod w3 w2 B := HM
            have tb0 : (Rg.putUse V [] fr).eval (.tmp 0) = .pointer (some a0) := (Rg.use_eval V fr 0 [] (by simp only [hz]; decide)).trans y0
            show Rg.Does1 _ _ V (Rg.putUse V [] fr) w2 _
            exact Ob.rc_mv (.pointer (some a0)) (by simp only [execOp, tb0]; go_simp) rfl rfl True.intro
          · intro V S w2 HM HU HE
            have HM : Mod w3 w2 B := HM
            have tb5 : (Rg.putUse V [] fr).eval (.tmp 5) = .pointer (some ⟨w.heap.size, 0, none⟩) := (Rg.use_eval V fr 5 [] (by simp only [hz]; decide)).trans y5
            show Rg.Does1 _ _ V (Rg.putUse V [] fr) w2 _
            exact Ob.rc_mv (.pointer (some ⟨w.heap.size, 1, none⟩)) (by simp only [execOp, tb5]; go_simp) rfl rfl True.intro
          · intro V S w2 HM HU HE
            have HM : Mod w3 w2 B := HM
            have h1 : V 1 = .pointer (some ⟨w.heap.size, 1, none⟩) := HU.holds 1 (by decide)
            have tb46 : (Rg.putUse V [(1, 46)] fr).eval (.tmp 46) = .pointer (some ⟨w.heap.size, 1, none⟩) := (Rg.use_eval V fr 46 [(1, 46)] (by simp only [hz]; decide)).trans h1
            show Rg.Does1 _ _ V (Rg.putUse V [(1, 46)] fr) w2 _
            have cb := HDA.out.ask HM
            exact Ob.rc_mv (.int .i64 p.i) (by simp only [execOp, tb46]; go_simp) rfl rfl True.intro
          · intro V S w2 HM HU HE
            have HM : Mod w3 w2 B := HM
            have tb8 : (Rg.putUse V [] fr).eval (.tmp 8) = .slice (some ⟨gf, 0, none⟩) (b.length + 80) (b.length + 80) := (Rg.use_eval V fr 8 [] (by simp only [hz]; decide)).trans y8
            show Rg.Does1 _ _ V (Rg.putUse V [] fr) w2 _
            exact Ob.rc_mv (.slice (some ⟨gf, 0, none⟩) (b.length + 80) (b.length + 80)) (by simp only [execOp, tb8]; go_simp) rfl rfl True.intro
          · intro V S w2 HM HU HE
            have HM : Mod w3 w2 B := HM
            have tb7 : (Rg.putUse V [] fr).eval (.tmp 7) = .slice A b.length c := (Rg.use_eval V fr 7 [] (by simp only [hz]; decide)).trans y7
            show Rg.Does1 _ _ V (Rg.putUse V [] fr) w2 _
            exact Ob.rc_mv (.slice A b.length c) (by simp only [execOp, tb7]; go_simp) rfl rfl True.intro
          · intro V S w2 HM HU HE
            have HM : Mod w3 w2 B := HM
            have h4 : V 4 = .slice A b.length c := HU.holds 4 (by decide)
            have tb49 : (Rg.putUse V [(4, 49)] fr).eval (.tmp 49) = .slice A b.length c := (Rg.use_eval V fr 49 [(4, 49)] (by simp only [hz]; decide)).trans h4
            show Rg.Does1 _ _ V (Rg.putUse V [(4, 49)] fr) w2 _
            exact Ob.rc_mv (.int .i64 ((b.length : Nat) : Int)) (by simp only [execOp, resolve, List.map_toArray, List.map_cons, List.map_nil, tb49]; go_simp) rfl rfl True.intro
          · intro V S w2 HM HU HE
            have HM : Mod w3 w2 B := HM
            have h3 : V 3 = .slice (some ⟨gf, 0, none⟩) (b.length + 80) (b.length + 80) := HU.holds 3 (by decide)
            have tb48 : (Rg.putUse V [(3, 48), (5, 50)] fr).eval (.tmp 48) = .slice (some ⟨gf, 0, none⟩) (b.length + 80) (b.length + 80) := (Rg.use_eval V fr 48 [(3, 48), (5, 50)] (by simp only [hz]; decide)).trans h3
            have h5 : V 5 = .int .i64 ((b.length : Nat) : Int) := HU.holds 5 (by decide)
            have tb50 : (Rg.putUse V [(3, 48), (5, 50)] fr).eval (.tmp 50) = .int .i64 ((b.length : Nat) : Int) := (Rg.use_eval V fr 50 [(3, 48), (5, 50)] (by simp only [hz]; decide)).trans h5
            show Rg.Does1 _ _ V (Rg.putUse V [(3, 48), (5, 50)] fr) w2 _
            exact Ob.rc_slh rfl tb48 tb50 (sl_h w2 (some ⟨gf, 0, none⟩) (b.length + 80) (b.length + 80) b.length (by omega)) rfl rfl True.intro
          · intro V S w2 HM HU HE
            have HM : Mod w3 w2 B := HM
            have h0 : V 0 = .pointer (some a0) := HU.holds 0 (by decide)
            have tb45 : (Rg.putUse V [(0, 45), (2, 47), (6, 51)] fr).eval (.tmp 45) = .pointer (some a0) := (Rg.use_eval V fr 45 [(0, 45), (2, 47), (6, 51)] (by simp only [hz]; decide)).trans h0
            have h2 : V 2 = .int .i64 p.i := HU.holds 2 (by decide)
            have tb47 : (Rg.putUse V [(0, 45), (2, 47), (6, 51)] fr).eval (.tmp 47) = .int .i64 p.i := (Rg.use_eval V fr 47 [(0, 45), (2, 47), (6, 51)] (by simp only [hz]; decide)).trans h2
            have h6 : V 6 = .slice (some ⟨gf, 0, none⟩) b.length (b.length + 80) := HU.holds 6 (by decide)
            have tb51 : (Rg.putUse V [(0, 45), (2, 47), (6, 51)] fr).eval (.tmp 51) = .slice (some ⟨gf, 0, none⟩) b.length (b.length + 80) := (Rg.use_eval V fr 51 [(0, 45), (2, 47), (6, 51)] (by simp only [hz]; decide)).trans h6
            show Rg.Does1 _ _ V (Rg.putUse V [(0, 45), (2, 47), (6, 51)] fr) w2 _
            exact Ob.step_turn1 (s := (s, s)) (pairObj D N (.pointer (some ⟨g, 0, none⟩))) #[.pointer (some a0), .int .i64 p.i, .slice (some ⟨gf, 0, none⟩) b.length (b.length + 80)] (fun args w => Rg.call_enter Try.func19 (by kernel_rfl) (by kernel_rfl) args w) rfl (by simp only [List.map_toArray, List.map_cons, List.map_nil, tb45, tb47, tb51]) rfl (by decide) (HU.holds 20 (by decide)).2 Ob.alias_one True.intro HM.size (fun S1 hat hsub hup => by have h9 := pair_write hat (by have := HW.out; show s.writes ≤ 1000000; omega) p.i (some ⟨gf, 0, none⟩) b (b.length + 80) HII.out.1.1 HII.out.1.2 (kept_up HKG.out HM hup) (by omega) HLE.out; simp only [HWS.out] at h9; exact h9)
          · intro V S w2 HM HU HE
            have HM : Mod w3 w2 B := HM
            have tb1 : (Rg.putUse V [] fr).eval (.tmp 1) = .pointer (some ⟨g, 0, none⟩) := (Rg.use_eval V fr 1 [] (by simp only [hz]; decide)).trans y1
            show Rg.Does1 _ _ V (Rg.putUse V [] fr) w2 _
            exact Ob.rc_mv (.pointer (some ⟨g, 0, none⟩)) (by simp only [execOp, tb1]; go_simp) rfl rfl True.intro
          · intro V S w2 HM HU HE
            have HM : Mod w3 w2 B := HM
            have tb5 : (Rg.putUse V [] fr).eval (.tmp 5) = .pointer (some ⟨w.heap.size, 0, none⟩) := (Rg.use_eval V fr 5 [] (by simp only [hz]; decide)).trans y5
            show Rg.Does1 _ _ V (Rg.putUse V [] fr) w2 _
            exact Ob.rc_mv (.pointer (some ⟨w.heap.size, 1, none⟩)) (by simp only [execOp, tb5]; go_simp) rfl rfl True.intro
          · intro V S w2 HM HU HE
            have HM : Mod w3 w2 B := HM
            have h9 : V 9 = .pointer (some ⟨w.heap.size, 1, none⟩) := HU.holds 9 (by decide)
            have tb54 : (Rg.putUse V [(9, 54)] fr).eval (.tmp 54) = .pointer (some ⟨w.heap.size, 1, none⟩) := (Rg.use_eval V fr 54 [(9, 54)] (by simp only [hz]; decide)).trans h9
            show Rg.Does1 _ _ V (Rg.putUse V [(9, 54)] fr) w2 _
            have cb := HDA.out.ask HM
            exact Ob.rc_mv (.int .i64 p.i) (by simp only [execOp, tb54]; go_simp) rfl rfl True.intro
          · intro V S w2 HM HU HE
            have HM : Mod w3 w2 B := HM
            have tb7 : (Rg.putUse V [] fr).eval (.tmp 7) = .slice A b.length c := (Rg.use_eval V fr 7 [] (by simp only [hz]; decide)).trans y7
            show Rg.Does1 _ _ V (Rg.putUse V [] fr) w2 _
            exact Ob.rc_mv (.slice A b.length c) (by simp only [execOp, tb7]; go_simp) rfl rfl True.intro
          · intro V S w2 HM HU HE
            have HM : Mod w3 w2 B := HM
            have h8 : V 8 = .pointer (some ⟨g, 0, none⟩) := HU.holds 8 (by decide)
            have tb53 : (Rg.putUse V [(8, 53), (10, 55), (11, 56)] fr).eval (.tmp 53) = .pointer (some ⟨g, 0, none⟩) := (Rg.use_eval V fr 53 [(8, 53), (10, 55), (11, 56)] (by simp only [hz]; decide)).trans h8
            have h10 : V 10 = .int .i64 p.i := HU.holds 10 (by decide)
            have tb55 : (Rg.putUse V [(8, 53), (10, 55), (11, 56)] fr).eval (.tmp 55) = .int .i64 p.i := (Rg.use_eval V fr 55 [(8, 53), (10, 55), (11, 56)] (by simp only [hz]; decide)).trans h10
            have h11 : V 11 = .slice A b.length c := HU.holds 11 (by decide)
            have tb56 : (Rg.putUse V [(8, 53), (10, 55), (11, 56)] fr).eval (.tmp 56) = .slice A b.length c := (Rg.use_eval V fr 56 [(8, 53), (10, 55), (11, 56)] (by simp only [hz]; decide)).trans h11
            show Rg.Does1 _ _ V (Rg.putUse V [(8, 53), (10, 55), (11, 56)] fr) w2 _
            exact Ob.step_turn (s := (s3, s)) (pairObj D N (.pointer (some ⟨g, 0, none⟩))) #[.pointer (some ⟨g, 0, none⟩), .int .i64 p.i, .slice A b.length c] (fun args w => Rg.call_enter Try.func27 (by kernel_rfl) (by kernel_rfl) args w) rfl (by simp only [List.map_toArray, List.map_cons, List.map_nil, tb53, tb55, tb56]) rfl (by decide) (HU.holds 7 (by decide)).2 (fun x => Rg.alias_none rfl V x) True.intro HM.size (fun S1 hat hsub hup => by have h9 := pair_refWrite hat (by have := HW.out; show s.writes ≤ 1000000; omega) p.i A b c HII.out.1.1 HII.out.1.2 (kept_up HKA.out HM hup) HCB.out HLE.out; simp only [HWS.out] at h9; exact h9)
          · intro V S w2 HM HU HE
            have HM : Mod w3 w2 B := HM
            have h7 : V 7 = .int .i64 ((nn : Nat) : Int) := HE 7 (by decide) 0 _ (.head _)
            have tb52 : (Rg.putUse V [(7, 52), (12, 57)] fr).eval (.tmp 52) = .int .i64 ((nn : Nat) : Int) := (Rg.use_eval V fr 52 [(7, 52), (12, 57)] (by simp only [hz]; decide)).trans h7
            have h12 : V 12 = .int .i64 ((nn : Nat) : Int) := (HU.holds 12 (by decide)).1
            have tb57 : (Rg.putUse V [(7, 52), (12, 57)] fr).eval (.tmp 57) = .int .i64 ((nn : Nat) : Int) := (Rg.use_eval V fr 57 [(7, 52), (12, 57)] (by simp only [hz]; decide)).trans h12
            show Rg.Does1 _ _ V (Rg.putUse V [(7, 52), (12, 57)] fr) w2 _
            exact Ob.rc_mv (.bool false) (by simp only [execOp, tb52, tb57]; go_simp) rfl rfl True.intro
          · intro V S w2 HM HU HE
            have HM : Mod w3 w2 B := HM
            have h13 : V 13 = .bool false := HU.holds 13 (by decide)
            have tb58 : (Rg.putUse V [(13, 58)] fr).eval (.tmp 58) = .bool false := (Rg.use_eval V fr 58 [(13, 58)] (by simp only [hz]; decide)).trans h13
            show Rg.Does1 _ _ V (Rg.putUse V [(13, 58)] fr) w2 _
            exact Ob.rc_mv (.bool false) (by simp only [execOp, tb58]; go_simp) rfl rfl True.intro
          · intro V S w2 HM HU HE
            have HM : Mod w3 w2 B := HM
            have h14 : V 14 = .bool false := HU.holds 14 (by decide)
            have tb8 : (Rg.putUse V [(14, 59)] fr).eval (.tmp 8) = .slice (some ⟨gf, 0, none⟩) (b.length + 80) (b.length + 80) := (Rg.use_eval V fr 8 [(14, 59)] (by simp only [hz]; decide)).trans y8
            show Rg.Does1 _ _ V (Rg.putUse V [(14, 59)] fr) w2 _
            exact Ob.rc_mv (.slice (some ⟨gf, 0, none⟩) (b.length + 80) (b.length + 80)) (by simp only [execOp, tb8]; go_simp) rfl rfl h14
          · intro V S w2 HM HU HE
            have HM : Mod w3 w2 B := HM
            have h14 : V 14 = .bool false := HU.holds 14 (by decide)
            have tb7 : (Rg.putUse V [(14, 59)] fr).eval (.tmp 7) = .slice A b.length c := (Rg.use_eval V fr 7 [(14, 59)] (by simp only [hz]; decide)).trans y7
            show Rg.Does1 _ _ V (Rg.putUse V [(14, 59)] fr) w2 _
            exact Ob.rc_mv (.slice A b.length c) (by simp only [execOp, tb7]; go_simp) rfl rfl h14
          · intro V S w2 HM HU HE
            have HM : Mod w3 w2 B := HM
            have h14 : V 14 = .bool false := HU.holds 14 (by decide)
            have h15 : V 15 = .slice (some ⟨gf, 0, none⟩) (b.length + 80) (b.length + 80) := HU.holds 15 (by decide)
            have tb60 : (Rg.putUse V [(14, 59), (15, 60), (16, 61)] fr).eval (.tmp 60) = .slice (some ⟨gf, 0, none⟩) (b.length + 80) (b.length + 80) := (Rg.use_eval V fr 60 [(14, 59), (15, 60), (16, 61)] (by simp only [hz]; decide)).trans h15
            have h16 : V 16 = .slice A b.length c := HU.holds 16 (by decide)
            have tb61 : (Rg.putUse V [(14, 59), (15, 60), (16, 61)] fr).eval (.tmp 61) = .slice A b.length c := (Rg.use_eval V fr 61 [(14, 59), (15, 60), (16, 61)] (by simp only [hz]; decide)).trans h16
            show Rg.Does1 _ _ V (Rg.putUse V [(14, 59), (15, 60), (16, 61)] fr) w2 _
            exact Ob.step_tell (.bool true) #[.slice (some ⟨gf, 0, none⟩) (b.length + 80) (b.length + 80), .slice A b.length c, .int .u8 165] (fun args w => Rg.call_enter Try.func28 (by kernel_rfl) (by kernel_rfl) args w) rfl (by simp only [List.map_toArray, List.map_cons, List.map_nil, Rg.eval_const, tb60, tb61]) rfl (fun x => Rg.alias_none rfl V x) h14 ((intact_any b (some ⟨gf, 0, none⟩) A (b.length + 80) c w2 (Ob.rd_mod HKF.out.1 HM HKF.out.2) (by omega) (Ob.rd_mod HKA.out.1 HM HKA.out.2) HLE.out).mono fun e w' ⟨h3, n, h4⟩ => ⟨h3, h4 ▸ below_drewN2 _ _⟩)
          · intro V S w2 HM HU HE
            have HM : Mod w3 w2 B := HM
            have h14 : V 14 = .bool false := HU.holds 14 (by decide)
            have h17 : V 17 = .bool true := HU.holds 17 (by decide)
            have tb62 : (Rg.putUse V [(14, 59), (17, 62)] fr).eval (.tmp 62) = .bool true := (Rg.use_eval V fr 62 [(14, 59), (17, 62)] (by simp only [hz]; decide)).trans h17
            show Rg.Does1 _ _ V (Rg.putUse V [(14, 59), (17, 62)] fr) w2 _
            exact Ob.rc_mv (.bool false) (by simp only [execOp, tb62]; go_simp) rfl rfl h14
          · intro V S w2 HM HU HE
            have HM : Mod w3 w2 B := HM
            have h14 : V 14 = .bool false := HU.holds 14 (by decide)
            have tb59 : (Rg.putUse V [(14, 59), (18, 63)] fr).eval (.tmp 59) = .bool false := (Rg.use_eval V fr 59 [(14, 59), (18, 63)] (by simp only [hz]; decide)).trans h14
            have h18 : V 18 = .bool false := HU.holds 18 (by decide)
            have tb63 : (Rg.putUse V [(14, 59), (18, 63)] fr).eval (.tmp 63) = .bool false := (Rg.use_eval V fr 63 [(14, 59), (18, 63)] (by simp only [hz]; decide)).trans h18
            show Rg.Does1 _ _ V (Rg.putUse V [(14, 59), (18, 63)] fr) w2 _
            exact Ob.rc_mv (.bool false) (by simp only [execOp, tb59, tb63]; go_simp) rfl rfl True.intro
        · intro V S w2 HI
          have hb : V 19 = .bool false := HI.get 19 (by decide) (by rfl)
          have HT2 := Lib.hid (one.after HI.mod.undrew (HI.get 12 (by decide) (by rfl)).2)
          have HM2 : Hid (Mod w3 w2 B) := HI.mod.undrew
          simp only [Rg.putList, Act.put, List.setIfInBounds_toArray, List.set_cons_zero, List.set_cons_succ, Nat.zero_add, Nat.reduceAdd]
          rw [hb]
          clear HI hb one HT
          have HREL : Hid (Ob.Own (pairObj D N (.pointer (some ⟨g, 0, none⟩))) (.pointer (some a0)) (emptied w1) w1 Z (s2, s2) w2) := by rw [HS3.out]; exact HT2.out
          clear HT2 HM2 HDA HKA HKF HKG
          go_wp2_with fail
          go_meet
          case rel => exact HREL
    · by_cases b2 : kd = 2
      · have HS3 : Hid (s2 = s.flush) := by show _ = _; rw [HS2.out]; unfold step; rw [← HKD.out, if_neg b1, if_pos b2]
        subst b2
        go_wp2_with fail
        refine (pair_flush HT1.out.one.at_).mono ?_
        rintro e w2 ⟨x, ht⟩
        obtain ⟨rfl, B2, hd2⟩ := HT1.out.turn ht
        have HD2 := Lib.hid hd2
        clear ht hd2
        go_wp2_with fail
        refine (pair_refFlush HD2.out.one.at_).mono ?_
        rintro e w3 ⟨x2, ht⟩
        obtain ⟨rfl, B3, hd3⟩ := HD2.out.turn ht
        have HREL : Hid (Ob.Own (pairObj D N (.pointer (some ⟨g, 0, none⟩))) (.pointer (some a0)) (emptied w1) w1 Z (s2, s2) w3) := by
          rw [HS3.out]; exact hd3.one.own
        clear ht hd3 HD2
        go_wp2_with fail
        go_meet
        case rel => exact HREL
      · have HS3 : Hid (s2 = s.crash p.ks p.torn p.cut) := by show _ = _; rw [HS2.out]; unfold step; rw [← HKD.out, if_neg b1, if_neg b2]
        go_wp2_with fail
        refine (pair_crash HT1.out.one.at_ p.KA p.ks p.kc p.torn p.cut HT1.out.bes.rk HT1.out.bes.ka HT1.out.bes.kfits HT1.out.bes.klong t0 t1 q0 q1).mono ?_
        rintro e w2 ⟨x, ht⟩
        obtain ⟨rfl, B2, hd2⟩ := HT1.out.turn ht
        have HD2 := Lib.hid hd2
        obtain ⟨c0, c1, c2, c3, c4, c5⟩ := HD2.out.cells
        clear ht hd2
        go_wp2_with fail
        refine (pair_refCrash HD2.out.one.at_ p.KA p.ks p.kc p.torn p.cut HD2.out.bes.rk HD2.out.bes.ka HD2.out.bes.kfits HD2.out.bes.klong t0 t1 q0 q1).mono ?_
        rintro e w3 ⟨x2, ht⟩
        obtain ⟨rfl, B3, hd3⟩ := HD2.out.turn ht
        have HREL : Hid (Ob.Own (pairObj D N (.pointer (some ⟨g, 0, none⟩))) (.pointer (some a0)) (emptied w1) w1 Z (s2, s2) w3) := by
          rw [HS3.out]; exact hd3.one.own
        clear ht hd3 HD2 c0 c1 c2 c3 c4 c5
        go_wp2_with fail
        go_meet
        case rel => exact HREL
  case rest =>
    clear k0 k1 k2 k3 k4 k5
    obtain ⟨B, hone⟩ := hcut.out
    have HD := Lib.hid (HT1.out.of hone)
    obtain ⟨c0, c1, c2, c3, c4, c5⟩ := HD.out.cells
    obtain ⟨S1, hd1⟩ := pair_d hone.at_
    obtain ⟨rl, rn, hrr⟩ : ∃ rl rn, s2.read p.i = (rl, rn) := ⟨_, _, rfl⟩
    have hdr := D.read hd1 p.i i0 i1
    rw [hrr] at hdr
    have HRR := Lib.hid hrr
    clear hone hd1 hrr hcut
    go_wp2_with fail
    refine hdr.mono ?_
    rintro e w2 ⟨x, rfl, hf, hb⟩
    obtain ⟨X, c, rfl, hc, hrx, _⟩ := hf.form
    have HD2 := Lib.hid (HD.out.later hb)
    have hrr := HRR.out
    obtain ⟨S2, hd2⟩ := pair_r HD2.out.one.at_
    have hdr2 := refRead_any hd2 p.i i0 i1
    rw [hrr] at hdr2
    obtain ⟨k0, k1, k2, k3, k4, k5⟩ := HD2.out.cells
    have HX := Lib.hid hrx
    clear hf hb hdr hrr hrx hd2 HD c0 c1 c2 c3 c4 c5
    go_wp2_with fail
    refine hdr2.mono ?_
    rintro e w2' ⟨Y, yc, rfl, hyc, hry, rfl⟩
    have hs1 := Ob.str_run w2 X rl c HX.out
    have hs2 := Ob.str_run w2 Y rl yc hry
    have hss : ((strOf rl).toList == (strOf rl).toList) = true := by simp
    clear hdr2
    go_wp2_with fail
    have HW2 : Hid (Below w2.heap.size w2 w2) := Below.refl _ _
    obtain ⟨gd, e1, e2, e3, _, e5, lg, lgn, lgd, hok2⟩ := pair_row HD2.out.one.at_
    obtain ⟨n, hn⟩ : ∃ n, n = s2.dirty.length := ⟨_, rfl⟩
    have hn4 : n ≤ 4096 := by rw [hn]; exact hok2.hi
    have HN := Lib.hid hn
    have HE2 : Hid (w2.cell? ⟨g, 2, none⟩ = some (.slice (some ⟨gd, 0, none⟩) n n)) := by rw [hn]; exact e2
    have HE3 : Hid (w2.cell? ⟨g, 3, none⟩ = some (.int .i64 (s2.writes : Nat))) := e3
    have HE5 : Hid (∀ i (hi : i < n), w2.cell? ⟨gd, i, none⟩ = some (.bool (s2.dirty[i]'(by rw [← HN.out]; exact hi)))) := fun i hi => e5 i (by rw [hn] at hi; exact hi)
    have HLT := Lib.hid (And.intro lg lgd)
    have HSTART : Hid (∃ l, IAt w2.heap.size (.slice none 0 0) l w2 w2 ∧ l ++ dirtyFrom 0 (s2.dirty.drop 0) = dirtyFrom 0 s2.dirty ∧ l.length ≤ 0) := ⟨[], IAt.nil w2, rfl, Nat.le_refl _⟩
    clear e1 e2 e3 e5 lg lgn lgd hok2 hn k0 k1 k2 k3 k4 k5 hs1 hs2 hss hry hyc HRR HX HW2
    go_loopw [13, 14] (fun t13 t14 wr => ∃ i : Nat, i ≤ n ∧ t14 = .int .i64 (i : Nat) ∧ Hid (∃ l, IAt w2.heap.size t13 l w2 wr ∧ l ++ dirtyFrom i (s2.dirty.drop i) = dirtyFrom 0 s2.dirty ∧ l.length ≤ i)) (fun _ t14 _ => n - (intOf t14).toNat)
    case atStart => exact ⟨0, by omega, rfl, HSTART⟩
    case round =>
      clear HSTART
      obtain ⟨i, hi, rfl, HR⟩ := hrel
      obtain ⟨l, hI, hl, hli⟩ := HR.out
      obtain ⟨Xl, xc, rfl⟩ := hI.form
      have HI := Lib.hid hI
      have HL := Lib.hid hl
      have c2 : wr.cell? ⟨g, 2, none⟩ = some (.slice (some ⟨gd, 0, none⟩) n n) := (hI.2.1.cell (p := ⟨g, 2, none⟩) HLT.out.1).trans HE2.out
      clear HR hI hl
      by_cases hlt : i < n
      · have cd : wr.cell? ⟨gd, i, none⟩ = some (.bool (s2.dirty[i]'(by rw [← HN.out]; exact hlt))) := (HI.out.2.1.cell (p := ⟨gd, i, none⟩) HLT.out.2).trans (HE5.out i hlt)
        have hdr : s2.dirty.drop i = (s2.dirty[i]'(by rw [← HN.out]; exact hlt)) :: s2.dirty.drop (i + 1) := List.drop_eq_getElem_cons (by rw [← HN.out]; exact hlt)
        obtain ⟨d, hd⟩ : ∃ d, d = (s2.dirty[i]'(by rw [← HN.out]; exact hlt)) := ⟨_, rfl⟩
        rw [← hd] at cd hdr
        have HDR := Lib.hid hdr
        clear hd hdr
        cases d with
        | false =>
          have HNEXT : Hid (∃ l2, IAt w2.heap.size (.slice Xl l.length xc) l2 w2 wr ∧ l2 ++ dirtyFrom (i + 1) (s2.dirty.drop (i + 1)) = dirtyFrom 0 s2.dirty ∧ l2.length ≤ i + 1) := by
            refine ⟨l, HI.out, ?_, by omega⟩
            have := HL.out
            rw [HDR.out] at this
            exact this
          go_wp2_with fail
          go_roundw
          case rel => exact ⟨i + 1, by omega, by go_num, HNEXT⟩
          case measure => simp [intOf]; omega
        | true =>
          go_wp2_with (at_builtin; refine wpList_append_num rfl (.tmp 111) (.tmp 113) rfl (i : Int) rfl HI.out wr.heap.size 3 rfl rfl rfl (by omega) ?_; intro v' w' HI2)
          have HNEXT : Hid (∃ l2, IAt w2.heap.size v' l2 w2 w' ∧ l2 ++ dirtyFrom (i + 1) (s2.dirty.drop (i + 1)) = dirtyFrom 0 s2.dirty ∧ l2.length ≤ i + 1) := by
            refine ⟨l ++ [(i : Int)], HI2.out, ?_, by rw [List.length_append, List.length_singleton]; omega⟩
            have := HL.out
            rw [HDR.out] at this
            rw [List.append_assoc]
            exact this
          clear HI2
          go_roundw
          case rel => exact ⟨i + 1, by omega, by go_num, HNEXT⟩
          case measure => simp [intOf]; omega
      · obtain rfl : i = n := by omega
        have hle : l = dirtyFrom 0 s2.dirty := by
          have := HL.out
          rw [HN.out, List.drop_length] at this
          simpa [dirtyFrom] using this
        have HFI : Hid (FreshI l w2 (.slice Xl l.length xc) wr) := HI.out.fresh fun x hx => by
          rw [hle] at hx
          have := dirty_in _ _ x hx
          rw [← HN.out] at this
          omega
        have HDW := Lib.hid (HD2.out.later HI.out.2.1)
        obtain ⟨Sd, hSd⟩ := pair_d HDW.out.one.at_
        have HSD := Lib.hid hSd
        have HRI : Hid (RdI wr Xl l) := by
          obtain ⟨X', c', e', _, hr', _⟩ := HFI.out
          injection e' with e'
          subst e'
          exact hr'
        have HE3W : Hid (wr.cell? ⟨g, 3, none⟩ = some (.int .i64 (s2.writes : Nat)) ∧ g < wr.heap.size) := ⟨(HI.out.2.1.cell (p := ⟨g, 3, none⟩) HLT.out.1).trans HE3.out, Nat.lt_of_lt_of_le HLT.out.1 HI.out.2.1.size⟩
        have HLE := Lib.hid hle
        have HWR : Hid (s2.writes ≤ 1000000) := by
          have h1 := HW.out
          show _ ≤ _
          rw [HS2.out]
          unfold step
          split
          · unfold Dk.write
            split
            · show s.writes + 1 ≤ _; omega
            · show s.writes ≤ _; omega
          · split
            · show s.writes ≤ _; omega
            · show s.writes ≤ _; omega
        have HLL : Hid (l.length ≤ 9223372036854775807) := by show _ ≤ _; omega
        have HT := Lib.hid (Ob.nil_one a0 wr)
        go_upto_region 24 with (fail)
        have one := HT.out
        refine Rc.wp_region (by kernel_rfl) (fun opn => List.getD [Rc.val (.pointer (some a0)), Ob.irow (l), Rc.val (.slice Xl l.length xc), Rc.val (.bool true), Rc.val (.bool true), Rc.val (.pointer (some a0)), Rc.val (.int .i64 ((s2.writes : Nat) : Int)), Rc.val (.pointer (some ⟨g, 0, none⟩)), Rc.val (.pointer (some ⟨g, 0, none⟩)), Rc.val (.pointer (some ⟨g, 3, none⟩)), Rc.val (.int .i64 ((s2.writes : Nat) : Int)), Rc.val (.bool true), Rc.val (.bool true), Rc.val (.bool true), Ob.turned Ob.nil (.pointer (some a0)) (Ob.Ups (fun _ => False) wr) undef ()] opn Rc.any) 1 [] [[], [(0, 115)], [], [(1, 116), (2, 117)], [(3, 118)], [(4, 119)], [(4, 119), (5, 120)], [(4, 119)], [(4, 119), (7, 122)], [(4, 119), (8, 123)], [(4, 119), (9, 124)], [(4, 119), (6, 121), (10, 125)], [(4, 119), (11, 126)], [(12, 127)]] [[], [0], [], [0, 1, 2], [0, 1, 2, 3], [0, 1, 2, 3, 4], [0, 1, 2, 3, 4, 5], [0, 1, 2, 3, 4], [0, 1, 2, 3, 4, 7], [0, 1, 2, 3, 4, 7, 8], [0, 1, 2, 3, 4, 7, 8, 9], [0, 1, 2, 3, 4, 5, 6, 7, 8, 9, 10], [0, 1, 2, 3, 4, 5, 6, 7, 8, 9, 10, 11], [0, 1, 2, 3, 4, 5, 6, 7, 8, 9, 10, 11, 12]] [[], [0], [], [1, 2], [3], [4], [4, 5], [4], [4, 7], [4, 8], [4, 9], [4, 6, 10], [4, 11], [12]] [] (by kernel_rfl) (by rfl) (by kernel_rfl) (fun _ => False) (fun _ b => (fun _ => False) b) (Ob.one_inv Ob.nil one.at_ _ _ 14 rfl) ?_ ?_
        · intro fr ha
          have hz : fr.tmps.size = 128 := by rw [ha]; rfl
          have y0 : fr.eval (.tmp 0) = .pointer (some a0) := by rw [ha]; rfl
          have y1 : fr.eval (.tmp 1) = .pointer (some ⟨g, 0, none⟩) := by rw [ha]; rfl
          have y13 : fr.eval (.tmp 13) = .slice Xl l.length xc := by rw [ha]; rfl
          clear ha
          refine .cons ?_ (.cons ?_ (.cons ?_ (.cons ?_ (.cons ?_ (.cons ?_ (.cons ?_ (.cons ?_ (.cons ?_ (.cons ?_ (.cons ?_ (.cons ?_ (.cons ?_ (.cons ?_ (.nil))))))))))))))
          · intro V S w2 HM HU HE
            have HM : Mod wr w2 (fun _ => False) := HM
            have tb0 : (Rg.putUse V [] fr).eval (.tmp 0) = .pointer (some a0) := (Rg.use_eval V fr 0 [] (by simp only [hz]; decide)).trans y0
            show Rg.Does1 _ _ V (Rg.putUse V [] fr) w2 _
            exact Ob.rc_mv (.pointer (some a0)) (by simp only [execOp, tb0]; go_simp) rfl rfl True.intro
          · intro V S w2 HM HU HE
            have HM : Mod wr w2 (fun _ => False) := HM
            have h0 : V 0 = .pointer (some a0) := HU.holds 0 (by decide)
            have tb115 : (Rg.putUse V [(0, 115)] fr).eval (.tmp 115) = .pointer (some a0) := (Rg.use_eval V fr 115 [(0, 115)] (by simp only [hz]; decide)).trans h0
            show Rg.Does1 _ _ V (Rg.putUse V [(0, 115)] fr) w2 _
            exact Ob.step_irow (l) #[.pointer (some a0)] (fun args w => Rg.call_enter Try.func17 (by kernel_rfl) (by kernel_rfl) args w) rfl (by simp only [List.map_toArray, List.map_cons, List.map_nil, tb115]) rfl (fun x => Rg.alias_none rfl V x) True.intro (by have h9 := D.dirty (D.keep HSD.out HM.size (fun b hb => HM.block b (D.lt HSD.out b hb) (fun h => h))); unfold Dk.dirtyL at h9; rw [← HLE.out] at h9; exact h9)
          · intro V S w2 HM HU HE
            have HM : Mod wr w2 (fun _ => False) := HM
            have tb13 : (Rg.putUse V [] fr).eval (.tmp 13) = .slice Xl l.length xc := (Rg.use_eval V fr 13 [] (by simp only [hz]; decide)).trans y13
            show Rg.Does1 _ _ V (Rg.putUse V [] fr) w2 _
            exact Ob.rc_mv (.slice Xl l.length xc) (by simp only [execOp, tb13]; go_simp) rfl rfl True.intro
          · intro V S w2 HM HU HE
            have HM : Mod wr w2 (fun _ => False) := HM
            obtain ⟨X1, k1, e1, hc1, hr1, hX1⟩ := HU.holds 1 (by decide)
            have tb116 : (Rg.putUse V [(1, 116), (2, 117)] fr).eval (.tmp 116) = .slice X1 (l).length k1 := (Rg.use_eval V fr 116 [(1, 116), (2, 117)] (by simp only [hz]; decide)).trans e1
            have h2 : V 2 = .slice Xl l.length xc := HU.holds 2 (by decide)
            have tb117 : (Rg.putUse V [(1, 116), (2, 117)] fr).eval (.tmp 117) = .slice Xl l.length xc := (Rg.use_eval V fr 117 [(1, 116), (2, 117)] (by simp only [hz]; decide)).trans h2
            show Rg.Does1 _ _ V (Rg.putUse V [(1, 116), (2, 117)] fr) w2 _
            exact Ob.step_tell (.bool true) #[.slice X1 l.length k1, .slice Xl l.length xc] (fun args w => Rg.call_enter Try.func23 (by kernel_rfl) (by kernel_rfl) args w) rfl (by simp only [List.map_toArray, List.map_cons, List.map_nil, tb116, tb117]) rfl (fun x => Rg.alias_none rfl V x) True.intro ((same_ints l X1 Xl k1 xc w2 hr1 (rdi_below HRI.out (Mod.below HM (fun _ h => h.elim))) HLL.out).mono fun e w' ⟨h3, n, h4⟩ => ⟨h3, h4 ▸ below_drewN2 _ _⟩)
          · intro V S w2 HM HU HE
            have HM : Mod wr w2 (fun _ => False) := HM
            have h3 : V 3 = .bool true := HU.holds 3 (by decide)
            have tb118 : (Rg.putUse V [(3, 118)] fr).eval (.tmp 118) = .bool true := (Rg.use_eval V fr 118 [(3, 118)] (by simp only [hz]; decide)).trans h3
            show Rg.Does1 _ _ V (Rg.putUse V [(3, 118)] fr) w2 _
            exact Ob.rc_mv (.bool true) (by simp only [execOp, tb118]; go_simp) rfl rfl True.intro
          · intro V S w2 HM HU HE
            have HM : Mod wr w2 (fun _ => False) := HM
            have h4 : V 4 = .bool true := HU.holds 4 (by decide)
            have tb0 : (Rg.putUse V [(4, 119)] fr).eval (.tmp 0) = .pointer (some a0) := (Rg.use_eval V fr 0 [(4, 119)] (by simp only [hz]; decide)).trans y0
            show Rg.Does1 _ _ V (Rg.putUse V [(4, 119)] fr) w2 _
            exact Ob.rc_mv (.pointer (some a0)) (by simp only [execOp, tb0]; go_simp) rfl rfl h4
          · intro V S w2 HM HU HE
            have HM : Mod wr w2 (fun _ => False) := HM
            have h4 : V 4 = .bool true := HU.holds 4 (by decide)
            have h5 : V 5 = .pointer (some a0) := HU.holds 5 (by decide)
            have tb120 : (Rg.putUse V [(4, 119), (5, 120)] fr).eval (.tmp 120) = .pointer (some a0) := (Rg.use_eval V fr 120 [(4, 119), (5, 120)] (by simp only [hz]; decide)).trans h5
            show Rg.Does1 _ _ V (Rg.putUse V [(4, 119), (5, 120)] fr) w2 _
            exact Ob.step_tell (.int .i64 ((s2.writes : Nat) : Int)) #[.pointer (some a0)] (fun args w => Rg.call_enter Try.func24 (by kernel_rfl) (by kernel_rfl) args w) rfl (by simp only [List.map_toArray, List.map_cons, List.map_nil, tb120]) rfl (fun x => Rg.alias_none rfl V x) h4 (D.writes (D.keep HSD.out HM.size (fun b hb => HM.block b (D.lt HSD.out b hb) (fun h => h))) HWR.out)
          · intro V S w2 HM HU HE
            have HM : Mod wr w2 (fun _ => False) := HM
            have h4 : V 4 = .bool true := HU.holds 4 (by decide)
            have tb1 : (Rg.putUse V [(4, 119)] fr).eval (.tmp 1) = .pointer (some ⟨g, 0, none⟩) := (Rg.use_eval V fr 1 [(4, 119)] (by simp only [hz]; decide)).trans y1
            show Rg.Does1 _ _ V (Rg.putUse V [(4, 119)] fr) w2 _
            exact Ob.rc_mv (.pointer (some ⟨g, 0, none⟩)) (by simp only [execOp, tb1]; go_simp) rfl rfl h4
          · intro V S w2 HM HU HE
            have HM : Mod wr w2 (fun _ => False) := HM
            have h4 : V 4 = .bool true := HU.holds 4 (by decide)
            have h7 : V 7 = .pointer (some ⟨g, 0, none⟩) := HU.holds 7 (by decide)
            have tb122 : (Rg.putUse V [(4, 119), (7, 122)] fr).eval (.tmp 122) = .pointer (some ⟨g, 0, none⟩) := (Rg.use_eval V fr 122 [(4, 119), (7, 122)] (by simp only [hz]; decide)).trans h7
            show Rg.Does1 _ _ V (Rg.putUse V [(4, 119), (7, 122)] fr) w2 _
            exact Ob.rc_mv (.pointer (some ⟨g, 0, none⟩)) (by simp only [execOp, tb122]; go_simp) rfl rfl h4
          · intro V S w2 HM HU HE
            have HM : Mod wr w2 (fun _ => False) := HM
            have h4 : V 4 = .bool true := HU.holds 4 (by decide)
            have h8 : V 8 = .pointer (some ⟨g, 0, none⟩) := HU.holds 8 (by decide)
            have tb123 : (Rg.putUse V [(4, 119), (8, 123)] fr).eval (.tmp 123) = .pointer (some ⟨g, 0, none⟩) := (Rg.use_eval V fr 123 [(4, 119), (8, 123)] (by simp only [hz]; decide)).trans h8
            show Rg.Does1 _ _ V (Rg.putUse V [(4, 119), (8, 123)] fr) w2 _
            exact Ob.rc_mv (.pointer (some ⟨g, 3, none⟩)) (by simp only [execOp, tb123]; go_simp) rfl rfl h4
          · intro V S w2 HM HU HE
            have HM : Mod wr w2 (fun _ => False) := HM
            have h4 : V 4 = .bool true := HU.holds 4 (by decide)
            have h9 : V 9 = .pointer (some ⟨g, 3, none⟩) := HU.holds 9 (by decide)
            have tb124 : (Rg.putUse V [(4, 119), (9, 124)] fr).eval (.tmp 124) = .pointer (some ⟨g, 3, none⟩) := (Rg.use_eval V fr 124 [(4, 119), (9, 124)] (by simp only [hz]; decide)).trans h9
            show Rg.Does1 _ _ V (Rg.putUse V [(4, 119), (9, 124)] fr) w2 _
            have cb : w2.cell? ⟨g, 3, none⟩ = some (.int .i64 (s2.writes : Nat)) := ((Mod.below HM (fun _ h => h.elim)).cell (p := ⟨g, 3, none⟩) HE3W.out.2).trans HE3W.out.1
            exact Ob.rc_mv (.int .i64 ((s2.writes : Nat) : Int)) (by simp only [execOp, tb124]; go_simp) rfl rfl h4
          · intro V S w2 HM HU HE
            have HM : Mod wr w2 (fun _ => False) := HM
            have h4 : V 4 = .bool true := HU.holds 4 (by decide)
            have h6 : V 6 = .int .i64 ((s2.writes : Nat) : Int) := HU.holds 6 (by decide)
            have tb121 : (Rg.putUse V [(4, 119), (6, 121), (10, 125)] fr).eval (.tmp 121) = .int .i64 ((s2.writes : Nat) : Int) := (Rg.use_eval V fr 121 [(4, 119), (6, 121), (10, 125)] (by simp only [hz]; decide)).trans h6
            have h10 : V 10 = .int .i64 ((s2.writes : Nat) : Int) := HU.holds 10 (by decide)
            have tb125 : (Rg.putUse V [(4, 119), (6, 121), (10, 125)] fr).eval (.tmp 125) = .int .i64 ((s2.writes : Nat) : Int) := (Rg.use_eval V fr 125 [(4, 119), (6, 121), (10, 125)] (by simp only [hz]; decide)).trans h10
            show Rg.Does1 _ _ V (Rg.putUse V [(4, 119), (6, 121), (10, 125)] fr) w2 _
            exact Ob.rc_mv (.bool true) (by simp only [execOp, tb121, tb125]; go_simp) rfl rfl h4
          · intro V S w2 HM HU HE
            have HM : Mod wr w2 (fun _ => False) := HM
            have h4 : V 4 = .bool true := HU.holds 4 (by decide)
            have tb119 : (Rg.putUse V [(4, 119), (11, 126)] fr).eval (.tmp 119) = .bool true := (Rg.use_eval V fr 119 [(4, 119), (11, 126)] (by simp only [hz]; decide)).trans h4
            have h11 : V 11 = .bool true := HU.holds 11 (by decide)
            have tb126 : (Rg.putUse V [(4, 119), (11, 126)] fr).eval (.tmp 126) = .bool true := (Rg.use_eval V fr 126 [(4, 119), (11, 126)] (by simp only [hz]; decide)).trans h11
            show Rg.Does1 _ _ V (Rg.putUse V [(4, 119), (11, 126)] fr) w2 _
            exact Ob.rc_mv (.bool true) (by simp only [execOp, tb119, tb126]; go_simp) rfl rfl True.intro
          · intro V S w2 HM HU HE
            have HM : Mod wr w2 (fun _ => False) := HM
            have h12 : V 12 = .bool true := HU.holds 12 (by decide)
            have tb127 : (Rg.putUse V [(12, 127)] fr).eval (.tmp 127) = .bool true := (Rg.use_eval V fr 127 [(12, 127)] (by simp only [hz]; decide)).trans h12
            show Rg.Does1 _ _ V (Rg.putUse V [(12, 127)] fr) w2 _
            exact Ob.rc_mv (.bool true) (by simp only [execOp, tb127]; go_simp) rfl rfl True.intro
        · intro V S w2 HI
          have hb : V 13 = .bool true := HI.get 13 (by decide) (by rfl)
          have HT2 := Lib.hid (one.after HI.mod.undrew (HI.get 14 (by decide) (by rfl)).2)
          have HM2 : Hid (Mod wr w2 (fun _ => False)) := HI.mod.undrew
          simp only [Rg.putList, Act.put, List.setIfInBounds_toArray, List.set_cons_zero, List.set_cons_succ, Nat.zero_add, Nat.reduceAdd]
          rw [hb]
          clear HI hb one HT
          have HEND : Hid (Ob.Turns (pairObj D N (.pointer (some ⟨g, 0, none⟩))) (.pointer (some a0)) (s2, s2) (.bool true) Z w (.returned (.bool true)) w2) := by
            have hlast := HDW.out.one.later (Mod.below HM2.out (fun _ h => h.elim))
            refine ⟨rfl, _, hlast.at_, (Mod.of_below HB0.out Z).trans hlast.mod, fun b hb => (hlast.sub b hb).imp id (fun h => Nat.le_trans HB0.out.size h)⟩
          clear HT2 HM2 HDW HSD HRI HFI
          go_wp2_with fail
          go_ret
          exact HEND.out
end Go.Proofs.Ytenedgapjbmpgaa

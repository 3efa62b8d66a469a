/-
  OWN WORK. Law 10's NodeFields, walked: nodes that differ in one field have unlike bytes, and come back unlike.
-/
import Derived.Test.YtopcipaaffpiaaaNoEql
import Derived.Test.YtopcipaaffpiaaaBaWithin
import Derived.Test.YtopcipaaffpiaaaBaPoke
import Derived.Test.YtopcipaaffpiaaaBaCell
namespace Go.Proofs.Ytopcipaaffpiaaa
open Go.RowKit Rc

theorem nd_neq (a b : Nd) (h : a ≠ b) (w : World) : (binOp .neq 25 a.val b.val).run Try.prog w = .ok (.bool true) w := by
  obtain ⟨ia, ka, la, za, ta, sa⟩ := a
  obtain ⟨ib, kb, lb, zb, tb, sb⟩ := b
  show (binOp .neq 25 (.agg #[.int .i64 ia, .int .i64 ka, .int .i64 la, .int .i64 za, .int .u64 (ta : Nat), .bool sa]) (.agg #[.int .i64 ib, .int .i64 kb, .int .i64 lb, .int .i64 zb, .int .u64 (tb : Nat), .bool sb])).run Try.prog w = _
  by_cases h1 : ia = ib
  · subst h1
    by_cases h2 : ka = kb
    · subst h2
      by_cases h3 : la = lb
      · subst h3
        by_cases h4 : za = zb
        · subst h4
          by_cases h5 : ta = tb
          · subst h5
            have h6 : sa ≠ sb := fun e => h (by rw [e])
            clear h
            cases sa <;> cases sb <;> first | exact absurd rfl h6 | go_simp
          · have h5i : ((ta : Nat) : Int) ≠ (tb : Nat) := by omega
            clear h
            go_simp
        · clear h
          go_simp
      · clear h
        go_simp
    · clear h
      go_simp
  · clear h
    go_simp
theorem within_still (n : Int) (m : Nat) (w : World) (h2 : m ≤ 1000000) (hn : In64 n) {k : Nat} (hk : k = within0 n m) : Calls Try.prog 11 #[.int .i64 n, .int .i64 0, .int .i64 m] w fun e w' => e = .returned (.int .i64 (k : Nat)) ∧ w' = w := by
  subst hk
  exact (within_any n m w h2 hn.1 hn.2).mono fun e w' ⟨h1, h2⟩ => ⟨h1, h2.symm⟩

set_option maxHeartbeats 16000000 in
set_option maxRecDepth 100000 in
theorem fields_any (C : WSaid) (R : RSaid codecFns) (hM : RMake R) (n : Nd) (hok : n.Ok) (w : World) (which : Int) (hw0 : -9223372036854775808 ≤ which) (hw1 : which ≤ 9223372036854775807) (by_ : Int) (hb0 : -9223372036854775808 ≤ by_) (hb1 : by_ ≤ 9223372036854775807) :
    Calls Try.prog 6 #[n.val, .int .i64 which, .int .i64 by_] w fun e w' => e = .returned (.bool true) ∧ Below w.heap.size w w' := by
  obtain ⟨id, kind, links, size, till, shut⟩ := n
  have b0 : Hid (In64 id) := hok.id
  have b2 : Hid (In64 links) := hok.links
  have b3 : Hid (In64 size) := hok.size
  have b4 : till ≤ 18446744073709551615 := hok.till
  have bw : Hid (In64 which) := ⟨hw0, hw1⟩
  have bb : Hid (In64 by_) := ⟨hb0, hb1⟩
  clear hok hw0 hw1 hb0 hb1
  obtain ⟨p1, hp1⟩ : ∃ k, k = within0 id 60000 := ⟨_, rfl⟩
  obtain ⟨p2, hp2⟩ : ∃ k, k = within0 links 60000 := ⟨_, rfl⟩
  obtain ⟨p3, hp3⟩ : ∃ k, k = within0 size 4000 := ⟨_, rfl⟩
  obtain ⟨q, hq⟩ : ∃ k, k = within0 which 4 := ⟨_, rfl⟩
  obtain ⟨r, hr⟩ : ∃ k, k = within0 by_ 90 := ⟨_, rfl⟩
  obtain ⟨t1, ht1⟩ : ∃ k, k = till % 1000 := ⟨_, rfl⟩
  have l1 : p1 ≤ 60000 := by rw [hp1]; exact within0_le _ _
  have l2 : p2 ≤ 60000 := by rw [hp2]; exact within0_le _ _
  have l3 : p3 ≤ 4000 := by rw [hp3]; exact within0_le _ _
  have lq : q ≤ 4 := by rw [hq]; exact within0_le _ _
  have lr : r ≤ 90 := by rw [hr]; exact within0_le _ _
  have lt1 : t1 < 1000 := by rw [ht1]; omega
  have P1 := Lib.hid hp1
  have P2 := Lib.hid hp2
  have P3 := Lib.hid hp3
  have PQ := Lib.hid hq
  have PR := Lib.hid hr
  have et : ((till : Nat) : Int).tmod 1000 = ((t1 : Nat) : Int) := by rw [Int.tmod_eq_emod_of_nonneg (by omega)]; omega
  clear hp1 hp2 hp3 hq hr ht1 b4
  show Calls _ _ #[.agg #[.int .i64 id, .int .i64 kind, .int .i64 links, .int .i64 size, .int .u64 (till : Nat), .bool shut], .int .i64 which, .int .i64 by_] w _
  have XA : Hid (Blk (w.alloc (.cells #[.int .i64 id, .int .i64 kind, .int .i64 links, .int .i64 size, .int .u64 (till : Nat), .bool shut] 25)) w.heap.size 25 [.int .i64 id, .int .i64 kind, .int .i64 links, .int .i64 size, .int .u64 (till : Nat), .bool shut]) := Blk.new w _ _
  have HW : Hid (Below w.heap.size w (w.alloc (.cells #[.int .i64 id, .int .i64 kind, .int .i64 links, .int .i64 size, .int .u64 (till : Nat), .bool shut] 25))) := below_new w _
  go_enter Try.func6, Try.ntmps6
  go_upto_region 1 with (fail)
  refine wp_world (fun W => Hid (Blk W w.heap.size 25 [.int .i64 id, .int .i64 kind, .int .i64 links, .int .i64 size, .int .u64 (till : Nat), .bool shut]) ∧ Hid (Below w.heap.size w W)) ⟨XA, HW⟩ ?_
  clear XA HW
  rintro w0 ⟨XA, HW⟩
  have HT : Hid (Ob.One (Ob.blk 25) (.pointer (some ⟨w.heap.size, 0, none⟩)) w w (fun _ => False) [.int .i64 id, .int .i64 kind, .int .i64 links, .int .i64 size, .int .u64 (till : Nat), .bool shut] (Ob.onlyB w.heap.size) w0) := Ob.blk_one XA.out HW.out (Nat.le_refl _)
  clear XA HW
  have one := HT.out
  refine Rc.wp_region (by kernel_rfl) (fun opn => List.getD [Rc.val (.pointer (some ⟨w.heap.size, 0, none⟩)), Rc.val (.int .i64 id), Rc.val (.int .i64 (p1 : Nat)), Rc.val (.pointer (some ⟨w.heap.size, 2, none⟩)), Rc.val (.int .i64 links), Rc.val (.int .i64 (p2 : Nat)), Rc.val (.pointer (some ⟨w.heap.size, 3, none⟩)), Rc.val (.int .i64 size), Rc.val (.int .i64 (p3 : Nat)), Rc.val (.pointer (some ⟨w.heap.size, 4, none⟩)), Rc.val (.int .u64 (till : Nat)), Rc.val (.int .u64 (t1 : Nat)), Rc.val (.pointer (some ⟨w.heap.size, 0, none⟩)), Ob.turned (Ob.blk 25) (.pointer (some ⟨w.heap.size, 0, none⟩)) (Ob.Ups (Ob.onlyB w.heap.size) w0) (undef) [.int .i64 (p1 : Nat), .int .i64 kind, .int .i64 links, .int .i64 size, .int .u64 (till : Nat), .bool shut], Rc.val (.pointer (some ⟨w.heap.size, 1, none⟩)), Ob.turned (Ob.blk 25) (.pointer (some ⟨w.heap.size, 0, none⟩)) (Ob.Ups (Ob.onlyB w.heap.size) w0) (undef) [.int .i64 (p1 : Nat), .int .i64 1, .int .i64 links, .int .i64 size, .int .u64 (till : Nat), .bool shut], Rc.val (.pointer (some ⟨w.heap.size, 2, none⟩)), Ob.turned (Ob.blk 25) (.pointer (some ⟨w.heap.size, 0, none⟩)) (Ob.Ups (Ob.onlyB w.heap.size) w0) (undef) [.int .i64 (p1 : Nat), .int .i64 1, .int .i64 (p2 : Nat), .int .i64 size, .int .u64 (till : Nat), .bool shut], Rc.val (.pointer (some ⟨w.heap.size, 3, none⟩)), Ob.turned (Ob.blk 25) (.pointer (some ⟨w.heap.size, 0, none⟩)) (Ob.Ups (Ob.onlyB w.heap.size) w0) (undef) [.int .i64 (p1 : Nat), .int .i64 1, .int .i64 (p2 : Nat), .int .i64 (p3 : Nat), .int .u64 (till : Nat), .bool shut], Rc.val (.pointer (some ⟨w.heap.size, 4, none⟩)), Ob.turned (Ob.blk 25) (.pointer (some ⟨w.heap.size, 0, none⟩)) (Ob.Ups (Ob.onlyB w.heap.size) w0) (undef) [.int .i64 (p1 : Nat), .int .i64 1, .int .i64 (p2 : Nat), .int .i64 (p3 : Nat), .int .u64 (t1 : Nat), .bool shut], Ob.turned (Ob.blk 25) (.pointer (some ⟨w.heap.size, 0, none⟩)) (Ob.Ups (Ob.onlyB w.heap.size) w0) undef [.int .i64 id, .int .i64 kind, .int .i64 links, .int .i64 size, .int .u64 (till : Nat), .bool shut]] opn Rc.any) 1 [] [[], [(0, 17)], [(1, 18)], [], [(3, 20)], [(4, 21)], [], [(6, 23)], [(7, 24)], [], [(9, 26)], [(10, 27)], [], [(12, 29), (2, 19)], [], [(14, 30)], [], [(16, 31), (5, 22)], [], [(18, 32), (8, 25)], [], [(20, 33), (11, 28)]] [[], [0], [0, 1], [], [3], [0, 1, 2, 3, 4], [], [6], [0, 1, 2, 3, 4, 5, 6, 7], [], [9], [9, 10], [0, 1, 2, 3, 4, 6, 7, 9, 10], [0, 1, 2, 3, 4, 5, 6, 7, 8, 9, 10, 12], [0, 1, 2, 3, 4, 5, 6, 7, 8, 9, 10, 12, 13], [0, 1, 2, 3, 4, 5, 6, 7, 8, 9, 10, 12, 13, 14], [0, 1, 2, 3, 4, 5, 6, 7, 8, 9, 10, 12, 13, 14, 15], [0, 1, 2, 3, 4, 5, 6, 7, 8, 9, 10, 12, 13, 14, 15, 16], [0, 1, 2, 3, 4, 5, 6, 7, 8, 9, 10, 12, 13, 14, 15, 16, 17], [0, 1, 2, 3, 4, 5, 6, 7, 8, 9, 10, 12, 13, 14, 15, 16, 17, 18], [0, 1, 2, 3, 4, 5, 6, 7, 8, 9, 10, 11, 12, 13, 14, 15, 16, 17, 18, 19], [0, 1, 2, 3, 4, 5, 6, 7, 8, 9, 10, 11, 12, 13, 14, 15, 16, 17, 18, 19, 20]] [[], [0, 22], [1], [], [3, 22], [4], [], [6, 22], [7], [], [9, 22], [10], [], [12, 2, 22], [], [14, 13], [], [16, 5, 15], [], [18, 8, 17], [], [20, 11, 19]] [(13, 22), (15, 13), (17, 15), (19, 17), (21, 19)] (by kernel_rfl) (by rfl) (by kernel_rfl) (Ob.onlyB w.heap.size) (fun _ b => (Ob.onlyB w.heap.size) b) (Ob.one_inv (Ob.blk 25) one.at_ _ _ 22 rfl) ?_ ?_
  · intro fr ha
    have hz : fr.tmps.size = 132 := by rw [ha]; rfl
    have y3 : fr.eval (.tmp 3) = .pointer (some ⟨w.heap.size, 0, none⟩) := by rw [ha]; rfl
    clear ha
    refine .cons ?_ (.cons ?_ (.cons ?_ (.cons ?_ (.cons ?_ (.cons ?_ (.cons ?_ (.cons ?_ (.cons ?_ (.cons ?_ (.cons ?_ (.cons ?_ (.cons ?_ (.cons ?_ (.cons ?_ (.cons ?_ (.cons ?_ (.cons ?_ (.cons ?_ (.cons ?_ (.cons ?_ (.cons ?_ (.nil))))))))))))))))))))))
    · intro V S w2 HM HU HE
      have HM : Mod w0 w2 (Ob.onlyB w.heap.size) := HM
      have tb3 : (Rg.putUse V [] fr).eval (.tmp 3) = .pointer (some ⟨w.heap.size, 0, none⟩) := (Rg.use_eval V fr 3 [] (by simp only [hz]; decide)).trans y3
      show Rg.Does1 _ _ V (Rg.putUse V [] fr) w2 _
      exact Ob.rc_mv (.pointer (some ⟨w.heap.size, 0, none⟩)) (by simp only [execOp, tb3]; go_simp) rfl rfl True.intro
    · intro V S w2 HM HU HE
      have HM : Mod w0 w2 (Ob.onlyB w.heap.size) := HM
      have h0 : V 0 = .pointer (some ⟨w.heap.size, 0, none⟩) := HU.holds 0 (by decide)
      have tb17 : (Rg.putUse V [(0, 17)] fr).eval (.tmp 17) = .pointer (some ⟨w.heap.size, 0, none⟩) := (Rg.use_eval V fr 17 [(0, 17)] (by simp only [hz]; decide)).trans h0
      show Rg.Does1 _ _ V (Rg.putUse V [(0, 17)] fr) w2 _
      obtain ⟨S1, hat, _, _⟩ := (HU.holds 22 (by decide)).2
      have cl : w2.cell? ⟨w.heap.size, 0, none⟩ = some (.int .i64 id) := (Ob.blk_at hat).1.cell 0
      exact Ob.rc_mv (.int .i64 id) (by simp only [execOp, tb17]; go_simp) rfl rfl True.intro
    · intro V S w2 HM HU HE
      have HM : Mod w0 w2 (Ob.onlyB w.heap.size) := HM
      have h1 : V 1 = .int .i64 id := HU.holds 1 (by decide)
      have tb18 : (Rg.putUse V [(1, 18)] fr).eval (.tmp 18) = .int .i64 id := (Rg.use_eval V fr 18 [(1, 18)] (by simp only [hz]; decide)).trans h1
      show Rg.Does1 _ _ V (Rg.putUse V [(1, 18)] fr) w2 _
      exact Ob.step_tell (.int .i64 (p1 : Nat)) #[.int .i64 id, .int .i64 0, .int .i64 60000] (fun args w => Rg.call_enter Try.func11 (by kernel_rfl) (by kernel_rfl) args w) rfl (by simp only [List.map_toArray, List.map_cons, List.map_nil, Rg.eval_const, tb18]) rfl (fun x => Rg.alias_none rfl V x) True.intro ((within_still _ 60000 w2 (by decide) b0.out P1.out).mono fun e w4 ⟨g1, g2⟩ => ⟨g1, g2 ▸ Below.refl _ _⟩)
    · intro V S w2 HM HU HE
      have HM : Mod w0 w2 (Ob.onlyB w.heap.size) := HM
      have tb3 : (Rg.putUse V [] fr).eval (.tmp 3) = .pointer (some ⟨w.heap.size, 0, none⟩) := (Rg.use_eval V fr 3 [] (by simp only [hz]; decide)).trans y3
      show Rg.Does1 _ _ V (Rg.putUse V [] fr) w2 _
      exact Ob.rc_mv (.pointer (some ⟨w.heap.size, 2, none⟩)) (by simp only [execOp, tb3]; go_simp) rfl rfl True.intro
    · intro V S w2 HM HU HE
      have HM : Mod w0 w2 (Ob.onlyB w.heap.size) := HM
      have h3 : V 3 = .pointer (some ⟨w.heap.size, 2, none⟩) := HU.holds 3 (by decide)
      have tb20 : (Rg.putUse V [(3, 20)] fr).eval (.tmp 20) = .pointer (some ⟨w.heap.size, 2, none⟩) := (Rg.use_eval V fr 20 [(3, 20)] (by simp only [hz]; decide)).trans h3
      show Rg.Does1 _ _ V (Rg.putUse V [(3, 20)] fr) w2 _
      obtain ⟨S1, hat, _, _⟩ := (HU.holds 22 (by decide)).2
      have cl : w2.cell? ⟨w.heap.size, 2, none⟩ = some (.int .i64 links) := (Ob.blk_at hat).1.cell 2
      exact Ob.rc_mv (.int .i64 links) (by simp only [execOp, tb20]; go_simp) rfl rfl True.intro
    · intro V S w2 HM HU HE
      have HM : Mod w0 w2 (Ob.onlyB w.heap.size) := HM
      have h4 : V 4 = .int .i64 links := HU.holds 4 (by decide)
      have tb21 : (Rg.putUse V [(4, 21)] fr).eval (.tmp 21) = .int .i64 links := (Rg.use_eval V fr 21 [(4, 21)] (by simp only [hz]; decide)).trans h4
      show Rg.Does1 _ _ V (Rg.putUse V [(4, 21)] fr) w2 _
      exact Ob.step_tell (.int .i64 (p2 : Nat)) #[.int .i64 links, .int .i64 0, .int .i64 60000] (fun args w => Rg.call_enter Try.func11 (by kernel_rfl) (by kernel_rfl) args w) rfl (by simp only [List.map_toArray, List.map_cons, List.map_nil, Rg.eval_const, tb21]) rfl (fun x => Rg.alias_none rfl V x) True.intro ((within_still _ 60000 w2 (by decide) b2.out P2.out).mono fun e w4 ⟨g1, g2⟩ => ⟨g1, g2 ▸ Below.refl _ _⟩)
    · intro V S w2 HM HU HE
      have HM : Mod w0 w2 (Ob.onlyB w.heap.size) := HM
      have tb3 : (Rg.putUse V [] fr).eval (.tmp 3) = .pointer (some ⟨w.heap.size, 0, none⟩) := (Rg.use_eval V fr 3 [] (by simp only [hz]; decide)).trans y3
      show Rg.Does1 _ _ V (Rg.putUse V [] fr) w2 _
      exact Ob.rc_mv (.pointer (some ⟨w.heap.size, 3, none⟩)) (by simp only [execOp, tb3]; go_simp) rfl rfl True.intro
    · intro V S w2 HM HU HE
      have HM : Mod w0 w2 (Ob.onlyB w.heap.size) := HM
      have h6 : V 6 = .pointer (some ⟨w.heap.size, 3, none⟩) := HU.holds 6 (by decide)
      have tb23 : (Rg.putUse V [(6, 23)] fr).eval (.tmp 23) = .pointer (some ⟨w.heap.size, 3, none⟩) := (Rg.use_eval V fr 23 [(6, 23)] (by simp only [hz]; decide)).trans h6
      show Rg.Does1 _ _ V (Rg.putUse V [(6, 23)] fr) w2 _
      obtain ⟨S1, hat, _, _⟩ := (HU.holds 22 (by decide)).2
      have cl : w2.cell? ⟨w.heap.size, 3, none⟩ = some (.int .i64 size) := (Ob.blk_at hat).1.cell 3
      exact Ob.rc_mv (.int .i64 size) (by simp only [execOp, tb23]; go_simp) rfl rfl True.intro
    · intro V S w2 HM HU HE
      have HM : Mod w0 w2 (Ob.onlyB w.heap.size) := HM
      have h7 : V 7 = .int .i64 size := HU.holds 7 (by decide)
      have tb24 : (Rg.putUse V [(7, 24)] fr).eval (.tmp 24) = .int .i64 size := (Rg.use_eval V fr 24 [(7, 24)] (by simp only [hz]; decide)).trans h7
      show Rg.Does1 _ _ V (Rg.putUse V [(7, 24)] fr) w2 _
      exact Ob.step_tell (.int .i64 (p3 : Nat)) #[.int .i64 size, .int .i64 0, .int .i64 4000] (fun args w => Rg.call_enter Try.func11 (by kernel_rfl) (by kernel_rfl) args w) rfl (by simp only [List.map_toArray, List.map_cons, List.map_nil, Rg.eval_const, tb24]) rfl (fun x => Rg.alias_none rfl V x) True.intro ((within_still _ 4000 w2 (by decide) b3.out P3.out).mono fun e w4 ⟨g1, g2⟩ => ⟨g1, g2 ▸ Below.refl _ _⟩)
    · intro V S w2 HM HU HE
      have HM : Mod w0 w2 (Ob.onlyB w.heap.size) := HM
      have tb3 : (Rg.putUse V [] fr).eval (.tmp 3) = .pointer (some ⟨w.heap.size, 0, none⟩) := (Rg.use_eval V fr 3 [] (by simp only [hz]; decide)).trans y3
      show Rg.Does1 _ _ V (Rg.putUse V [] fr) w2 _
      exact Ob.rc_mv (.pointer (some ⟨w.heap.size, 4, none⟩)) (by simp only [execOp, tb3]; go_simp) rfl rfl True.intro
    · intro V S w2 HM HU HE
      have HM : Mod w0 w2 (Ob.onlyB w.heap.size) := HM
      have h9 : V 9 = .pointer (some ⟨w.heap.size, 4, none⟩) := HU.holds 9 (by decide)
      have tb26 : (Rg.putUse V [(9, 26)] fr).eval (.tmp 26) = .pointer (some ⟨w.heap.size, 4, none⟩) := (Rg.use_eval V fr 26 [(9, 26)] (by simp only [hz]; decide)).trans h9
      show Rg.Does1 _ _ V (Rg.putUse V [(9, 26)] fr) w2 _
      obtain ⟨S1, hat, _, _⟩ := (HU.holds 22 (by decide)).2
      have cl : w2.cell? ⟨w.heap.size, 4, none⟩ = some (.int .u64 (till : Nat)) := (Ob.blk_at hat).1.cell 4
      exact Ob.rc_mv (.int .u64 (till : Nat)) (by simp only [execOp, tb26]; go_simp) rfl rfl True.intro
    · intro V S w2 HM HU HE
      have HM : Mod w0 w2 (Ob.onlyB w.heap.size) := HM
      have h10 : V 10 = .int .u64 (till : Nat) := HU.holds 10 (by decide)
      have tb27 : (Rg.putUse V [(10, 27)] fr).eval (.tmp 27) = .int .u64 (till : Nat) := (Rg.use_eval V fr 27 [(10, 27)] (by simp only [hz]; decide)).trans h10
      show Rg.Does1 _ _ V (Rg.putUse V [(10, 27)] fr) w2 _
      have et1 := et
      exact Ob.rc_mv (.int .u64 (t1 : Nat)) (by simp only [execOp, tb27]; go_simp) rfl rfl True.intro
    · intro V S w2 HM HU HE
      have HM : Mod w0 w2 (Ob.onlyB w.heap.size) := HM
      have tb3 : (Rg.putUse V [] fr).eval (.tmp 3) = .pointer (some ⟨w.heap.size, 0, none⟩) := (Rg.use_eval V fr 3 [] (by simp only [hz]; decide)).trans y3
      show Rg.Does1 _ _ V (Rg.putUse V [] fr) w2 _
      exact Ob.rc_mv (.pointer (some ⟨w.heap.size, 0, none⟩)) (by simp only [execOp, tb3]; go_simp) rfl rfl True.intro
    · intro V S w2 HM HU HE
      have HM : Mod w0 w2 (Ob.onlyB w.heap.size) := HM
      have h12 : V 12 = .pointer (some ⟨w.heap.size, 0, none⟩) := HU.holds 12 (by decide)
      have tb29 : (Rg.putUse V [(12, 29), (2, 19)] fr).eval (.tmp 29) = .pointer (some ⟨w.heap.size, 0, none⟩) := (Rg.use_eval V fr 29 [(12, 29), (2, 19)] (by simp only [hz]; decide)).trans h12
      have h2 : V 2 = .int .i64 (p1 : Nat) := HU.holds 2 (by decide)
      have tb19 : (Rg.putUse V [(12, 29), (2, 19)] fr).eval (.tmp 19) = .int .i64 (p1 : Nat) := (Rg.use_eval V fr 19 [(12, 29), (2, 19)] (by simp only [hz]; decide)).trans h2
      show Rg.Does1 _ _ V (Rg.putUse V [(12, 29), (2, 19)] fr) w2 _
      obtain ⟨S1, hat, hsub, hup⟩ := (HU.holds 22 (by decide)).2
      have hbk := (Ob.blk_at hat).1
      have cl := hbk.cell 0
      have fl := hbk.frozen 0
      exact Ob.step_poke (k := 0) (s := [.int .i64 id, .int .i64 kind, .int .i64 links, .int .i64 size, .int .u64 (till : Nat), .bool shut]) (.int .i64 (p1 : Nat)) rfl (by decide) ⟨S1, hat, hsub, hup⟩ (fun x => Rg.alias_none rfl V x) True.intro (by simp only [execOp, tb29, tb19]; go_simp)
    · intro V S w2 HM HU HE
      have HM : Mod w0 w2 (Ob.onlyB w.heap.size) := HM
      have tb3 : (Rg.putUse V [] fr).eval (.tmp 3) = .pointer (some ⟨w.heap.size, 0, none⟩) := (Rg.use_eval V fr 3 [] (by simp only [hz]; decide)).trans y3
      show Rg.Does1 _ _ V (Rg.putUse V [] fr) w2 _
      exact Ob.rc_mv (.pointer (some ⟨w.heap.size, 1, none⟩)) (by simp only [execOp, tb3]; go_simp) rfl rfl True.intro
    · intro V S w2 HM HU HE
      have HM : Mod w0 w2 (Ob.onlyB w.heap.size) := HM
      have h14 : V 14 = .pointer (some ⟨w.heap.size, 1, none⟩) := HU.holds 14 (by decide)
      have tb30 : (Rg.putUse V [(14, 30)] fr).eval (.tmp 30) = .pointer (some ⟨w.heap.size, 1, none⟩) := (Rg.use_eval V fr 30 [(14, 30)] (by simp only [hz]; decide)).trans h14
      show Rg.Does1 _ _ V (Rg.putUse V [(14, 30)] fr) w2 _
      obtain ⟨S1, hat, hsub, hup⟩ := (HU.holds 13 (by decide)).2
      have hbk := (Ob.blk_at hat).1
      have cl := hbk.cell 1
      have fl := hbk.frozen 1
      exact Ob.step_poke (k := 1) (s := [.int .i64 (p1 : Nat), .int .i64 kind, .int .i64 links, .int .i64 size, .int .u64 (till : Nat), .bool shut]) (.int .i64 1) rfl (by decide) ⟨S1, hat, hsub, hup⟩ (fun x => Rg.alias_none rfl V x) True.intro (by simp only [execOp, tb30]; go_simp)
    · intro V S w2 HM HU HE
      have HM : Mod w0 w2 (Ob.onlyB w.heap.size) := HM
      have tb3 : (Rg.putUse V [] fr).eval (.tmp 3) = .pointer (some ⟨w.heap.size, 0, none⟩) := (Rg.use_eval V fr 3 [] (by simp only [hz]; decide)).trans y3
      show Rg.Does1 _ _ V (Rg.putUse V [] fr) w2 _
      exact Ob.rc_mv (.pointer (some ⟨w.heap.size, 2, none⟩)) (by simp only [execOp, tb3]; go_simp) rfl rfl True.intro
    · intro V S w2 HM HU HE
      have HM : Mod w0 w2 (Ob.onlyB w.heap.size) := HM
      have h16 : V 16 = .pointer (some ⟨w.heap.size, 2, none⟩) := HU.holds 16 (by decide)
      have tb31 : (Rg.putUse V [(16, 31), (5, 22)] fr).eval (.tmp 31) = .pointer (some ⟨w.heap.size, 2, none⟩) := (Rg.use_eval V fr 31 [(16, 31), (5, 22)] (by simp only [hz]; decide)).trans h16
      have h5 : V 5 = .int .i64 (p2 : Nat) := HU.holds 5 (by decide)
      have tb22 : (Rg.putUse V [(16, 31), (5, 22)] fr).eval (.tmp 22) = .int .i64 (p2 : Nat) := (Rg.use_eval V fr 22 [(16, 31), (5, 22)] (by simp only [hz]; decide)).trans h5
      show Rg.Does1 _ _ V (Rg.putUse V [(16, 31), (5, 22)] fr) w2 _
      obtain ⟨S1, hat, hsub, hup⟩ := (HU.holds 15 (by decide)).2
      have hbk := (Ob.blk_at hat).1
      have cl := hbk.cell 2
      have fl := hbk.frozen 2
      exact Ob.step_poke (k := 2) (s := [.int .i64 (p1 : Nat), .int .i64 1, .int .i64 links, .int .i64 size, .int .u64 (till : Nat), .bool shut]) (.int .i64 (p2 : Nat)) rfl (by decide) ⟨S1, hat, hsub, hup⟩ (fun x => Rg.alias_none rfl V x) True.intro (by simp only [execOp, tb31, tb22]; go_simp)
    · intro V S w2 HM HU HE
      have HM : Mod w0 w2 (Ob.onlyB w.heap.size) := HM
      have tb3 : (Rg.putUse V [] fr).eval (.tmp 3) = .pointer (some ⟨w.heap.size, 0, none⟩) := (Rg.use_eval V fr 3 [] (by simp only [hz]; decide)).trans y3
      show Rg.Does1 _ _ V (Rg.putUse V [] fr) w2 _
      exact Ob.rc_mv (.pointer (some ⟨w.heap.size, 3, none⟩)) (by simp only [execOp, tb3]; go_simp) rfl rfl True.intro
    · intro V S w2 HM HU HE
      have HM : Mod w0 w2 (Ob.onlyB w.heap.size) := HM
      have h18 : V 18 = .pointer (some ⟨w.heap.size, 3, none⟩) := HU.holds 18 (by decide)
      have tb32 : (Rg.putUse V [(18, 32), (8, 25)] fr).eval (.tmp 32) = .pointer (some ⟨w.heap.size, 3, none⟩) := (Rg.use_eval V fr 32 [(18, 32), (8, 25)] (by simp only [hz]; decide)).trans h18
      have h8 : V 8 = .int .i64 (p3 : Nat) := HU.holds 8 (by decide)
      have tb25 : (Rg.putUse V [(18, 32), (8, 25)] fr).eval (.tmp 25) = .int .i64 (p3 : Nat) := (Rg.use_eval V fr 25 [(18, 32), (8, 25)] (by simp only [hz]; decide)).trans h8
      show Rg.Does1 _ _ V (Rg.putUse V [(18, 32), (8, 25)] fr) w2 _
      obtain ⟨S1, hat, hsub, hup⟩ := (HU.holds 17 (by decide)).2
      have hbk := (Ob.blk_at hat).1
      have cl := hbk.cell 3
      have fl := hbk.frozen 3
      exact Ob.step_poke (k := 3) (s := [.int .i64 (p1 : Nat), .int .i64 1, .int .i64 (p2 : Nat), .int .i64 size, .int .u64 (till : Nat), .bool shut]) (.int .i64 (p3 : Nat)) rfl (by decide) ⟨S1, hat, hsub, hup⟩ (fun x => Rg.alias_none rfl V x) True.intro (by simp only [execOp, tb32, tb25]; go_simp)
    · intro V S w2 HM HU HE
      have HM : Mod w0 w2 (Ob.onlyB w.heap.size) := HM
      have tb3 : (Rg.putUse V [] fr).eval (.tmp 3) = .pointer (some ⟨w.heap.size, 0, none⟩) := (Rg.use_eval V fr 3 [] (by simp only [hz]; decide)).trans y3
      show Rg.Does1 _ _ V (Rg.putUse V [] fr) w2 _
      exact Ob.rc_mv (.pointer (some ⟨w.heap.size, 4, none⟩)) (by simp only [execOp, tb3]; go_simp) rfl rfl True.intro
    · intro V S w2 HM HU HE
      have HM : Mod w0 w2 (Ob.onlyB w.heap.size) := HM
      have h20 : V 20 = .pointer (some ⟨w.heap.size, 4, none⟩) := HU.holds 20 (by decide)
      have tb33 : (Rg.putUse V [(20, 33), (11, 28)] fr).eval (.tmp 33) = .pointer (some ⟨w.heap.size, 4, none⟩) := (Rg.use_eval V fr 33 [(20, 33), (11, 28)] (by simp only [hz]; decide)).trans h20
      have h11 : V 11 = .int .u64 (t1 : Nat) := HU.holds 11 (by decide)
      have tb28 : (Rg.putUse V [(20, 33), (11, 28)] fr).eval (.tmp 28) = .int .u64 (t1 : Nat) := (Rg.use_eval V fr 28 [(20, 33), (11, 28)] (by simp only [hz]; decide)).trans h11
      show Rg.Does1 _ _ V (Rg.putUse V [(20, 33), (11, 28)] fr) w2 _
      obtain ⟨S1, hat, hsub, hup⟩ := (HU.holds 19 (by decide)).2
      have hbk := (Ob.blk_at hat).1
      have cl := hbk.cell 4
      have fl := hbk.frozen 4
      exact Ob.step_poke (k := 4) (s := [.int .i64 (p1 : Nat), .int .i64 1, .int .i64 (p2 : Nat), .int .i64 (p3 : Nat), .int .u64 (till : Nat), .bool shut]) (.int .u64 (t1 : Nat)) rfl (by decide) ⟨S1, hat, hsub, hup⟩ (fun x => Rg.alias_none rfl V x) True.intro (by simp only [execOp, tb33, tb28]; go_simp)
  · intro V S w2 HI
    have hb : V 21 = undef := (HI.get 21 (by decide) (by rfl)).1
    have HT2 := Lib.hid (one.after HI.mod.undrew (HI.get 21 (by decide) (by rfl)).2)
    have HM2 : Hid (Mod w0 w2 (Ob.onlyB w.heap.size)) := HI.mod.undrew
    clear HM2
    simp only [Rg.putList, Act.put, List.setIfInBounds_toArray, List.set_cons_zero, List.set_cons_succ, Nat.zero_add, Nat.reduceAdd]
    skip
    clear HI hb one HT
    obtain ⟨B2, one2⟩ := HT2.out
    have XA2 : Hid (Blk w2 w.heap.size 25 [.int .i64 (p1 : Nat), .int .i64 1, .int .i64 (p2 : Nat), .int .i64 (p3 : Nat), .int .u64 (t1 : Nat), .bool shut]) := (Ob.blk_at one2.at_).1
    have HW2 : Hid (Below w.heap.size w w2) := one2.low
    clear HT2 one2
    have c0 : w2.cell? ⟨w.heap.size, 0, none⟩ = some (.int .i64 (p1 : Nat)) := XA2.out.cell 0
    have c1 : w2.cell? ⟨w.heap.size, 1, none⟩ = some (.int .i64 1) := XA2.out.cell 1
    have c2 : w2.cell? ⟨w.heap.size, 2, none⟩ = some (.int .i64 (p2 : Nat)) := XA2.out.cell 2
    have c3 : w2.cell? ⟨w.heap.size, 3, none⟩ = some (.int .i64 (p3 : Nat)) := XA2.out.cell 3
    have c4 : w2.cell? ⟨w.heap.size, 4, none⟩ = some (.int .u64 (t1 : Nat)) := XA2.out.cell 4
    have c5 : w2.cell? ⟨w.heap.size, 5, none⟩ = some (.bool shut) := XA2.out.cell 5
    have HG1 : Hid (Blk (w2.alloc (.cells #[.int .i64 0, .int .i64 0, .int .i64 0, .int .i64 0, .int .u64 0, .bool false] 25)) w2.heap.size 25 [.int .i64 0, .int .i64 0, .int .i64 0, .int .i64 0, .int .u64 0, .bool false]) := Blk.new w2 _ _
    go_upto_region 3 with (refine wpList_store_row rfl 25 (.tmp 7) (.tmp 34) rfl w2.heap.size #[.int .i64 (p1 : Nat), .int .i64 1, .int .i64 (p2 : Nat), .int .i64 (p3 : Nat), .int .u64 (t1 : Nat), .bool shut] rfl rfl 25 #[.int .i64 0, .int .i64 0, .int .i64 0, .int .i64 0, .int .u64 0, .bool false] HG1.out rfl rfl rfl ?_)
    have XM : Hid (Blk (w2.alloc (.cells #[.int .i64 (p1 : Nat), .int .i64 1, .int .i64 (p2 : Nat), .int .i64 (p3 : Nat), .int .u64 (t1 : Nat), .bool shut] 25)) w2.heap.size 25 [.int .i64 (p1 : Nat), .int .i64 1, .int .i64 (p2 : Nat), .int .i64 (p3 : Nat), .int .u64 (t1 : Nat), .bool shut]) := Blk.new w2 _ _
    have XA : Hid (Blk (w2.alloc (.cells #[.int .i64 (p1 : Nat), .int .i64 1, .int .i64 (p2 : Nat), .int .i64 (p3 : Nat), .int .u64 (t1 : Nat), .bool shut] 25)) w.heap.size 25 [.int .i64 (p1 : Nat), .int .i64 1, .int .i64 (p2 : Nat), .int .i64 (p3 : Nat), .int .u64 (t1 : Nat), .bool shut]) := XA2.out.alloc _
    have HW : Hid (Below w.heap.size w (w2.alloc (.cells #[.int .i64 (p1 : Nat), .int .i64 1, .int .i64 (p2 : Nat), .int .i64 (p3 : Nat), .int .u64 (t1 : Nat), .bool shut] 25))) := HW2.out.trans ((below_new w2 _).mono HW2.out.size)
    have HNE : Hid (w.heap.size ≠ w2.heap.size) := Nat.ne_of_lt XA2.out.lt
    have HGE : Hid (w.heap.size ≤ w2.heap.size) := Nat.le_of_lt XA2.out.lt
    refine wp_world (fun W => Hid (Blk W w2.heap.size 25 [.int .i64 (p1 : Nat), .int .i64 1, .int .i64 (p2 : Nat), .int .i64 (p3 : Nat), .int .u64 (t1 : Nat), .bool shut]) ∧ Hid (Blk W w.heap.size 25 [.int .i64 (p1 : Nat), .int .i64 1, .int .i64 (p2 : Nat), .int .i64 (p3 : Nat), .int .u64 (t1 : Nat), .bool shut]) ∧ Hid (Below w.heap.size w W)) ⟨XM, XA, HW⟩ ?_
    clear XM XA HW XA2 HW2 HG1 c0 c1 c2 c3 c4 c5
    rintro w3 ⟨XM, XA, HW⟩
    go_wp2_with fail
    refine (within_still by_ 90 _ (by decide) bb.out PR.out).mono ?_
    rintro e wz ⟨rfl, hz⟩
    obtain rfl := hz.symm
    clear hz
    go_wp2_with fail
    refine (within_still which 4 _ (by decide) bw.out PQ.out).mono ?_
    rintro e wz ⟨rfl, hz⟩
    obtain rfl := hz.symm
    clear hz
    clear b0 b2 b3 bw bb P1 P2 P3 PQ PR et
    have c0 : w3.cell? ⟨w2.heap.size, 0, none⟩ = some (.int .i64 (p1 : Nat)) := XM.out.cell 0
    have c1 : w3.cell? ⟨w2.heap.size, 1, none⟩ = some (.int .i64 1) := XM.out.cell 1
    have c2 : w3.cell? ⟨w2.heap.size, 2, none⟩ = some (.int .i64 (p2 : Nat)) := XM.out.cell 2
    have c3 : w3.cell? ⟨w2.heap.size, 3, none⟩ = some (.int .i64 (p3 : Nat)) := XM.out.cell 3
    have c4 : w3.cell? ⟨w2.heap.size, 4, none⟩ = some (.int .u64 (t1 : Nat)) := XM.out.cell 4
    have c5 : w3.cell? ⟨w2.heap.size, 5, none⟩ = some (.bool shut) := XM.out.cell 5
    have f0 := XM.out.frozen 0
    have f1 := XM.out.frozen 1
    have f2 := XM.out.frozen 2
    have f3 := XM.out.frozen 3
    have f4 := XM.out.frozen 4
    have f5 := XM.out.frozen 5
    rcases (show q = 0 ∨ q = 1 ∨ q = 2 ∨ q = 3 ∨ q = 4 by omega) with rfl | rfl | rfl | rfl | rfl
    · clear lq
      have HRN : Hid (Nd.Right ⟨(p1 : Nat), 1, (p2 : Nat), (p3 : Nat), t1, shut⟩) := ⟨by dsimp only; omega, by dsimp only; omega, by dsimp only; omega, by dsimp only; omega, by dsimp only; omega, by dsimp only; omega, by dsimp only; omega, .inl rfl⟩
      have HRM : Hid (Nd.Right ⟨((p1 : Nat) : Int) + (1 + ((r : Nat) : Int)), 1, (p2 : Nat), (p3 : Nat), t1, shut⟩) := ⟨by dsimp only; omega, by dsimp only; omega, by dsimp only; omega, by dsimp only; omega, by dsimp only; omega, by dsimp only; omega, by dsimp only; omega, .inl rfl⟩
      have hne : (⟨(p1 : Nat), 1, (p2 : Nat), (p3 : Nat), t1, shut⟩ : Nd) ≠ ⟨((p1 : Nat) : Int) + (1 + ((r : Nat) : Int)), 1, (p2 : Nat), (p3 : Nat), t1, shut⟩ := by
        intro e
        injection e with e1 e2 e3 e4 e5 e6
        omega
      obtain ⟨yn, hyn⟩ : ∃ y, Nd.bytes ⟨(p1 : Nat), 1, (p2 : Nat), (p3 : Nat), t1, shut⟩ = y := ⟨_, rfl⟩
      obtain ⟨ym, hym⟩ : ∃ y, Nd.bytes ⟨((p1 : Nat) : Int) + (1 + ((r : Nat) : Int)), 1, (p2 : Nat), (p3 : Nat), t1, shut⟩ = y := ⟨_, rfl⟩
      have HYN := Lib.hid hyn
      have HYM := Lib.hid hym
      have HNQ : Hid (∀ w, (binOp .neq 25 (.agg #[.int .i64 (p1 : Nat), .int .i64 1, .int .i64 (p2 : Nat), .int .i64 (p3 : Nat), .int .u64 (t1 : Nat), .bool shut]) (.agg #[.int .i64 (((p1 : Nat) : Int) + (1 + ((r : Nat) : Int))), .int .i64 1, .int .i64 (p2 : Nat), .int .i64 (p3 : Nat), .int .u64 (t1 : Nat), .bool shut])).run Try.prog w = .ok (.bool true) w) := fun w => nd_neq ⟨(p1 : Nat), 1, (p2 : Nat), (p3 : Nat), t1, shut⟩ ⟨((p1 : Nat) : Int) + (1 + ((r : Nat) : Int)), 1, (p2 : Nat), (p3 : Nat), t1, shut⟩ hne w
      have HNS : Hid (((strOf yn).toList == (strOf ym).toList) = false) := str_ne (by subst hyn hym; exact fun e => hne (Nd.bytes_inj HRN.out HRM.out e))
      have HDN : Hid (ndDec yn = (⟨(p1 : Nat), 1, (p2 : Nat), (p3 : Nat), t1, shut⟩, 0)) := by show _ = _; rw [← hyn]; exact ndDec_bytes _ HRN.out
      have HDM : Hid (ndDec ym = (⟨((p1 : Nat) : Int) + (1 + ((r : Nat) : Int)), 1, (p2 : Nat), (p3 : Nat), t1, shut⟩, 0)) := by show _ = _; rw [← hym]; exact ndDec_bytes _ HRM.out
      have LN : Hid (yn.length = 16) := by show _ = _; rw [← hyn]; exact Nd.bytes_length _
      have LM : Hid (ym.length = 16) := by show _ = _; rw [← hym]; exact Nd.bytes_length _
      clear hyn hym hne
      go_upto_region 14 with (fail)
      clear c0 c1 c2 c3 c4 c5 f0 f1 f2 f3 f4 f5
      have XM4 : Hid (Blk (w3.setCell ⟨w2.heap.size, 0, none⟩ (.int .i64 (((p1 : Nat) : Int) + (1 + ((r : Nat) : Int))))) w2.heap.size 25 [.int .i64 (((p1 : Nat) : Int) + (1 + ((r : Nat) : Int))), .int .i64 1, .int .i64 (p2 : Nat), .int .i64 (p3 : Nat), .int .u64 (t1 : Nat), .bool shut]) := by
        have hh := XM.out.set_ 0 (.int .i64 (((p1 : Nat) : Int) + (1 + ((r : Nat) : Int))))
        exact hh
      have XA4 : Hid (Blk (w3.setCell ⟨w2.heap.size, 0, none⟩ (.int .i64 (((p1 : Nat) : Int) + (1 + ((r : Nat) : Int))))) w.heap.size 25 [.int .i64 (p1 : Nat), .int .i64 1, .int .i64 (p2 : Nat), .int .i64 (p3 : Nat), .int .u64 (t1 : Nat), .bool shut]) := XA.out.far HNE.out _
      have HW4 : Hid (Below w.heap.size w (w3.setCell ⟨w2.heap.size, 0, none⟩ (.int .i64 (((p1 : Nat) : Int) + (1 + ((r : Nat) : Int)))))) := below_set1 HW.out HGE.out _ _
      refine wp_world (fun W => Hid (Blk W w2.heap.size 25 [.int .i64 (((p1 : Nat) : Int) + (1 + ((r : Nat) : Int))), .int .i64 1, .int .i64 (p2 : Nat), .int .i64 (p3 : Nat), .int .u64 (t1 : Nat), .bool shut]) ∧ Hid (Blk W w.heap.size 25 [.int .i64 (p1 : Nat), .int .i64 1, .int .i64 (p2 : Nat), .int .i64 (p3 : Nat), .int .u64 (t1 : Nat), .bool shut]) ∧ Hid (Below w.heap.size w W)) ⟨XM4, XA4, HW4⟩ ?_
      clear XM4 XA4 HW4 XM XA HW
      rintro w4 ⟨XM4, XA4, HW4⟩
      have c0 : w4.cell? ⟨w.heap.size, 0, none⟩ = some (.int .i64 (p1 : Nat)) := XA4.out.cell 0
      have c1 : w4.cell? ⟨w.heap.size, 1, none⟩ = some (.int .i64 1) := XA4.out.cell 1
      have c2 : w4.cell? ⟨w.heap.size, 2, none⟩ = some (.int .i64 (p2 : Nat)) := XA4.out.cell 2
      have c3 : w4.cell? ⟨w.heap.size, 3, none⟩ = some (.int .i64 (p3 : Nat)) := XA4.out.cell 3
      have c4 : w4.cell? ⟨w.heap.size, 4, none⟩ = some (.int .u64 (t1 : Nat)) := XA4.out.cell 4
      have c5 : w4.cell? ⟨w.heap.size, 5, none⟩ = some (.bool shut) := XA4.out.cell 5
      go_wp2_with fail
      clear c0 c1 c2 c3 c4 c5
      refine (enc_list C _ HRN.out HYN.out).mono ?_
      rintro e w5 ⟨P1, k1, rfl, hc1, RA5, B5⟩
      have XA5 := Lib.hid (XA4.out.below B5.out XA4.out.lt)
      have XM5 := Lib.hid (XM4.out.below B5.out XM4.out.lt)
      have HW5 := Lib.hid (HW4.out.trans (B5.out.mono HW4.out.size))
      clear B5 XA4 XM4 HW4
      have c0 : w5.cell? ⟨w2.heap.size, 0, none⟩ = some (.int .i64 (((p1 : Nat) : Int) + (1 + ((r : Nat) : Int)))) := XM5.out.cell 0
      have c1 : w5.cell? ⟨w2.heap.size, 1, none⟩ = some (.int .i64 1) := XM5.out.cell 1
      have c2 : w5.cell? ⟨w2.heap.size, 2, none⟩ = some (.int .i64 (p2 : Nat)) := XM5.out.cell 2
      have c3 : w5.cell? ⟨w2.heap.size, 3, none⟩ = some (.int .i64 (p3 : Nat)) := XM5.out.cell 3
      have c4 : w5.cell? ⟨w2.heap.size, 4, none⟩ = some (.int .u64 (t1 : Nat)) := XM5.out.cell 4
      have c5 : w5.cell? ⟨w2.heap.size, 5, none⟩ = some (.bool shut) := XM5.out.cell 5
      go_wp2_with fail
      clear c0 c1 c2 c3 c4 c5
      refine (enc_list C _ HRM.out HYM.out).mono ?_
      rintro e w6 ⟨P2, k2, rfl, hc2, RB6, B6⟩
      have XA6 := Lib.hid (XA5.out.below B6.out XA5.out.lt)
      have XM6 := Lib.hid (XM5.out.below B6.out XM5.out.lt)
      have RA6 := Lib.hid (RA5.out.below B6.out)
      have HW6 := Lib.hid (HW5.out.trans (B6.out.mono HW5.out.size))
      clear B6 XA5 XM5 HW5 RA5
      go_wp2_with fail
      refine (dec_as R hM _ P1 yn k1 RA6.out hc1 (by have := LN.out; omega) HDN.out).mono ?_
      rintro e w7 ⟨rfl, B7⟩
      have XA7 := Lib.hid (XA6.out.below B7.out XA6.out.lt)
      have XM7 := Lib.hid (XM6.out.below B7.out XM6.out.lt)
      have RA7 := Lib.hid (RA6.out.below B7.out)
      have RB7 := Lib.hid (RB6.out.below B7.out)
      have HW7 := Lib.hid (HW6.out.trans (B7.out.mono HW6.out.size))
      clear B7 XA6 XM6 HW6 RA6 RB6
      have HG1 : Hid (Blk (w7.alloc (.cells #[.int .i64 0, .int .i64 0, .int .i64 0, .int .i64 0, .int .u64 0, .bool false] 25)) w7.heap.size 25 [.int .i64 0, .int .i64 0, .int .i64 0, .int .i64 0, .int .u64 0, .bool false]) := Blk.new w7 _ _
      go_upto_region 17 with (refine wpList_store_row rfl 25 (.tmp 13) (.tmp 86) rfl w7.heap.size #[.int .i64 (p1 : Nat), .int .i64 1, .int .i64 (p2 : Nat), .int .i64 (p3 : Nat), .int .u64 (t1 : Nat), .bool shut] rfl rfl 25 #[.int .i64 0, .int .i64 0, .int .i64 0, .int .i64 0, .int .u64 0, .bool false] HG1.out rfl rfl rfl ?_)
      clear HG1
      have B8 : Hid (Below w7.heap.size w7 (w7.alloc (.cells #[.int .i64 (p1 : Nat), .int .i64 1, .int .i64 (p2 : Nat), .int .i64 (p3 : Nat), .int .u64 (t1 : Nat), .bool shut] 25))) := below_new w7 _
      have XX8 : Hid (Blk (w7.alloc (.cells #[.int .i64 (p1 : Nat), .int .i64 1, .int .i64 (p2 : Nat), .int .i64 (p3 : Nat), .int .u64 (t1 : Nat), .bool shut] 25)) w7.heap.size 25 [.int .i64 (p1 : Nat), .int .i64 1, .int .i64 (p2 : Nat), .int .i64 (p3 : Nat), .int .u64 (t1 : Nat), .bool shut]) := Blk.new w7 _ _
      have XA8 := Lib.hid (XA7.out.below B8.out XA7.out.lt)
      have XM8 := Lib.hid (XM7.out.below B8.out XM7.out.lt)
      have RA8 := Lib.hid (RA7.out.below B8.out)
      have RB8 := Lib.hid (RB7.out.below B8.out)
      have HW8 := Lib.hid (HW7.out.trans (B8.out.mono HW7.out.size))
      clear B8 XA7 XM7 HW7 RA7 RB7
      refine wp_world (fun W => Hid (Blk W w7.heap.size 25 [.int .i64 (p1 : Nat), .int .i64 1, .int .i64 (p2 : Nat), .int .i64 (p3 : Nat), .int .u64 (t1 : Nat), .bool shut]) ∧ Hid (Blk W w2.heap.size 25 [.int .i64 (((p1 : Nat) : Int) + (1 + ((r : Nat) : Int))), .int .i64 1, .int .i64 (p2 : Nat), .int .i64 (p3 : Nat), .int .u64 (t1 : Nat), .bool shut]) ∧ Hid (Blk W w.heap.size 25 [.int .i64 (p1 : Nat), .int .i64 1, .int .i64 (p2 : Nat), .int .i64 (p3 : Nat), .int .u64 (t1 : Nat), .bool shut]) ∧ Hid (Below w.heap.size w W) ∧ Hid (Rd W P1 yn) ∧ Hid (Rd W P2 ym)) ⟨XX8, XM8, XA8, HW8, RA8, RB8⟩ ?_
      clear XX8 XM8 XA8 HW8 RA8 RB8
      rintro w9 ⟨XX9, XM9, XA9, HW9, RA9, RB9⟩
      go_wp2_with fail
      refine (dec_as R hM _ P2 ym k2 RB9.out hc2 (by have := LM.out; omega) HDM.out).mono ?_
      rintro e w10 ⟨rfl, B10⟩
      have XA10 := Lib.hid (XA9.out.below B10.out XA9.out.lt)
      have XM10 := Lib.hid (XM9.out.below B10.out XM9.out.lt)
      have XX10 := Lib.hid (XX9.out.below B10.out XX9.out.lt)
      have RA10 := Lib.hid (RA9.out.below B10.out)
      have RB10 := Lib.hid (RB9.out.below B10.out)
      have HW10 := Lib.hid (HW9.out.trans (B10.out.mono HW9.out.size))
      clear B10 XA9 XM9 HW9 XX9 RA9 RB9
      have HG1 : Hid (Blk (w10.alloc (.cells #[.int .i64 0, .int .i64 0, .int .i64 0, .int .i64 0, .int .u64 0, .bool false] 25)) w10.heap.size 25 [.int .i64 0, .int .i64 0, .int .i64 0, .int .i64 0, .int .u64 0, .bool false]) := Blk.new w10 _ _
      go_upto_region 18 with (refine wpList_store_row rfl 25 (.tmp 15) (.tmp 91) rfl w10.heap.size #[.int .i64 (((p1 : Nat) : Int) + (1 + ((r : Nat) : Int))), .int .i64 1, .int .i64 (p2 : Nat), .int .i64 (p3 : Nat), .int .u64 (t1 : Nat), .bool shut] rfl rfl 25 #[.int .i64 0, .int .i64 0, .int .i64 0, .int .i64 0, .int .u64 0, .bool false] HG1.out rfl rfl rfl ?_)
      clear HG1
      have B11 : Hid (Below w10.heap.size w10 (w10.alloc (.cells #[.int .i64 (((p1 : Nat) : Int) + (1 + ((r : Nat) : Int))), .int .i64 1, .int .i64 (p2 : Nat), .int .i64 (p3 : Nat), .int .u64 (t1 : Nat), .bool shut] 25))) := below_new w10 _
      have XY11 : Hid (Blk (w10.alloc (.cells #[.int .i64 (((p1 : Nat) : Int) + (1 + ((r : Nat) : Int))), .int .i64 1, .int .i64 (p2 : Nat), .int .i64 (p3 : Nat), .int .u64 (t1 : Nat), .bool shut] 25)) w10.heap.size 25 [.int .i64 (((p1 : Nat) : Int) + (1 + ((r : Nat) : Int))), .int .i64 1, .int .i64 (p2 : Nat), .int .i64 (p3 : Nat), .int .u64 (t1 : Nat), .bool shut]) := Blk.new w10 _ _
      have XA11 := Lib.hid (XA10.out.below B11.out XA10.out.lt)
      have XM11 := Lib.hid (XM10.out.below B11.out XM10.out.lt)
      have XX11 := Lib.hid (XX10.out.below B11.out XX10.out.lt)
      have RA11 := Lib.hid (RA10.out.below B11.out)
      have RB11 := Lib.hid (RB10.out.below B11.out)
      have HW11 := Lib.hid (HW10.out.trans (B11.out.mono HW10.out.size))
      clear B11 XA10 XM10 HW10 XX10 RA10 RB10
      refine wp_world (fun W => Hid (Blk W w10.heap.size 25 [.int .i64 (((p1 : Nat) : Int) + (1 + ((r : Nat) : Int))), .int .i64 1, .int .i64 (p2 : Nat), .int .i64 (p3 : Nat), .int .u64 (t1 : Nat), .bool shut]) ∧ Hid (Blk W w7.heap.size 25 [.int .i64 (p1 : Nat), .int .i64 1, .int .i64 (p2 : Nat), .int .i64 (p3 : Nat), .int .u64 (t1 : Nat), .bool shut]) ∧ Hid (Blk W w2.heap.size 25 [.int .i64 (((p1 : Nat) : Int) + (1 + ((r : Nat) : Int))), .int .i64 1, .int .i64 (p2 : Nat), .int .i64 (p3 : Nat), .int .u64 (t1 : Nat), .bool shut]) ∧ Hid (Blk W w.heap.size 25 [.int .i64 (p1 : Nat), .int .i64 1, .int .i64 (p2 : Nat), .int .i64 (p3 : Nat), .int .u64 (t1 : Nat), .bool shut]) ∧ Hid (Below w.heap.size w W) ∧ Hid (Rd W P1 yn) ∧ Hid (Rd W P2 ym)) ⟨XY11, XX11, XM11, XA11, HW11, RA11, RB11⟩ ?_
      clear XY11 XX11 XM11 XA11 HW11 RA11 RB11
      rintro w12 ⟨XY, XX, XM, XA, HW, RA, RB⟩
      have c0 : w12.cell? ⟨w.heap.size, 0, none⟩ = some (.int .i64 (p1 : Nat)) := XA.out.cell 0
      have c1 : w12.cell? ⟨w.heap.size, 1, none⟩ = some (.int .i64 1) := XA.out.cell 1
      have c2 : w12.cell? ⟨w.heap.size, 2, none⟩ = some (.int .i64 (p2 : Nat)) := XA.out.cell 2
      have c3 : w12.cell? ⟨w.heap.size, 3, none⟩ = some (.int .i64 (p3 : Nat)) := XA.out.cell 3
      have c4 : w12.cell? ⟨w.heap.size, 4, none⟩ = some (.int .u64 (t1 : Nat)) := XA.out.cell 4
      have c5 : w12.cell? ⟨w.heap.size, 5, none⟩ = some (.bool shut) := XA.out.cell 5
      have d0 : w12.cell? ⟨w2.heap.size, 0, none⟩ = some (.int .i64 (((p1 : Nat) : Int) + (1 + ((r : Nat) : Int)))) := XM.out.cell 0
      have d1 : w12.cell? ⟨w2.heap.size, 1, none⟩ = some (.int .i64 1) := XM.out.cell 1
      have d2 : w12.cell? ⟨w2.heap.size, 2, none⟩ = some (.int .i64 (p2 : Nat)) := XM.out.cell 2
      have d3 : w12.cell? ⟨w2.heap.size, 3, none⟩ = some (.int .i64 (p3 : Nat)) := XM.out.cell 3
      have d4 : w12.cell? ⟨w2.heap.size, 4, none⟩ = some (.int .u64 (t1 : Nat)) := XM.out.cell 4
      have d5 : w12.cell? ⟨w2.heap.size, 5, none⟩ = some (.bool shut) := XM.out.cell 5
      have h0 : w12.cell? ⟨w7.heap.size, 0, none⟩ = some (.int .i64 (p1 : Nat)) := XX.out.cell 0
      have h1 : w12.cell? ⟨w7.heap.size, 1, none⟩ = some (.int .i64 1) := XX.out.cell 1
      have h2 : w12.cell? ⟨w7.heap.size, 2, none⟩ = some (.int .i64 (p2 : Nat)) := XX.out.cell 2
      have h3 : w12.cell? ⟨w7.heap.size, 3, none⟩ = some (.int .i64 (p3 : Nat)) := XX.out.cell 3
      have h4 : w12.cell? ⟨w7.heap.size, 4, none⟩ = some (.int .u64 (t1 : Nat)) := XX.out.cell 4
      have h5 : w12.cell? ⟨w7.heap.size, 5, none⟩ = some (.bool shut) := XX.out.cell 5
      have g0 : w12.cell? ⟨w10.heap.size, 0, none⟩ = some (.int .i64 (((p1 : Nat) : Int) + (1 + ((r : Nat) : Int)))) := XY.out.cell 0
      have g1 : w12.cell? ⟨w10.heap.size, 1, none⟩ = some (.int .i64 1) := XY.out.cell 1
      have g2 : w12.cell? ⟨w10.heap.size, 2, none⟩ = some (.int .i64 (p2 : Nat)) := XY.out.cell 2
      have g3 : w12.cell? ⟨w10.heap.size, 3, none⟩ = some (.int .i64 (p3 : Nat)) := XY.out.cell 3
      have g4 : w12.cell? ⟨w10.heap.size, 4, none⟩ = some (.int .u64 (t1 : Nat)) := XY.out.cell 4
      have g5 : w12.cell? ⟨w10.heap.size, 5, none⟩ = some (.bool shut) := XY.out.cell 5
      have hs1 := str_any w12 P1 yn k1 RA.out
      have hs2 := str_any w12 P2 ym k2 RB.out
      have hns := HNS.out
      have hnq := HNQ.out
      have cz : ((0 : Nat) : Int) = 0 := rfl
      clear XY XX XM XA RA RB HRN HRM HYN HYM HNQ HNS HDN HDM LN LM
      go_wp2_with fail
      clear hs1 hs2 hns hnq c0 c1 c2 c3 c4 c5 d0 d1 d2 d3 d4 d5 h0 h1 h2 h3 h4 h5 g0 g1 g2 g3 g4 g5
      refine (known10_any C _).mono ?_
      rintro e w13 ⟨rfl, hb⟩
      have HF := Lib.hid (HW.out.trans (hb.mono HW.out.size))
      clear hb
      go_wp2_with fail
      go_ret
      exact ⟨rfl, HF.out⟩
    · clear lq
      have HRN : Hid (Nd.Right ⟨(p1 : Nat), 1, (p2 : Nat), (p3 : Nat), t1, shut⟩) := ⟨by dsimp only; omega, by dsimp only; omega, by dsimp only; omega, by dsimp only; omega, by dsimp only; omega, by dsimp only; omega, by dsimp only; omega, .inl rfl⟩
      have HRM : Hid (Nd.Right ⟨(p1 : Nat), 1, ((p2 : Nat) : Int) + (1 + ((r : Nat) : Int)), (p3 : Nat), t1, shut⟩) := ⟨by dsimp only; omega, by dsimp only; omega, by dsimp only; omega, by dsimp only; omega, by dsimp only; omega, by dsimp only; omega, by dsimp only; omega, .inl rfl⟩
      have hne : (⟨(p1 : Nat), 1, (p2 : Nat), (p3 : Nat), t1, shut⟩ : Nd) ≠ ⟨(p1 : Nat), 1, ((p2 : Nat) : Int) + (1 + ((r : Nat) : Int)), (p3 : Nat), t1, shut⟩ := by
        intro e
        injection e with e1 e2 e3 e4 e5 e6
        omega
      obtain ⟨yn, hyn⟩ : ∃ y, Nd.bytes ⟨(p1 : Nat), 1, (p2 : Nat), (p3 : Nat), t1, shut⟩ = y := ⟨_, rfl⟩
      obtain ⟨ym, hym⟩ : ∃ y, Nd.bytes ⟨(p1 : Nat), 1, ((p2 : Nat) : Int) + (1 + ((r : Nat) : Int)), (p3 : Nat), t1, shut⟩ = y := ⟨_, rfl⟩
      have HYN := Lib.hid hyn
      have HYM := Lib.hid hym
      have HNQ : Hid (∀ w, (binOp .neq 25 (.agg #[.int .i64 (p1 : Nat), .int .i64 1, .int .i64 (p2 : Nat), .int .i64 (p3 : Nat), .int .u64 (t1 : Nat), .bool shut]) (.agg #[.int .i64 (p1 : Nat), .int .i64 1, .int .i64 (((p2 : Nat) : Int) + (1 + ((r : Nat) : Int))), .int .i64 (p3 : Nat), .int .u64 (t1 : Nat), .bool shut])).run Try.prog w = .ok (.bool true) w) := fun w => nd_neq ⟨(p1 : Nat), 1, (p2 : Nat), (p3 : Nat), t1, shut⟩ ⟨(p1 : Nat), 1, ((p2 : Nat) : Int) + (1 + ((r : Nat) : Int)), (p3 : Nat), t1, shut⟩ hne w
      have HNS : Hid (((strOf yn).toList == (strOf ym).toList) = false) := str_ne (by subst hyn hym; exact fun e => hne (Nd.bytes_inj HRN.out HRM.out e))
      have HDN : Hid (ndDec yn = (⟨(p1 : Nat), 1, (p2 : Nat), (p3 : Nat), t1, shut⟩, 0)) := by show _ = _; rw [← hyn]; exact ndDec_bytes _ HRN.out
      have HDM : Hid (ndDec ym = (⟨(p1 : Nat), 1, ((p2 : Nat) : Int) + (1 + ((r : Nat) : Int)), (p3 : Nat), t1, shut⟩, 0)) := by show _ = _; rw [← hym]; exact ndDec_bytes _ HRM.out
      have LN : Hid (yn.length = 16) := by show _ = _; rw [← hyn]; exact Nd.bytes_length _
      have LM : Hid (ym.length = 16) := by show _ = _; rw [← hym]; exact Nd.bytes_length _
      clear hyn hym hne
      go_upto_region 14 with (fail)
      clear c0 c1 c2 c3 c4 c5 f0 f1 f2 f3 f4 f5
      have XM4 : Hid (Blk (w3.setCell ⟨w2.heap.size, 2, none⟩ (.int .i64 (((p2 : Nat) : Int) + (1 + ((r : Nat) : Int))))) w2.heap.size 25 [.int .i64 (p1 : Nat), .int .i64 1, .int .i64 (((p2 : Nat) : Int) + (1 + ((r : Nat) : Int))), .int .i64 (p3 : Nat), .int .u64 (t1 : Nat), .bool shut]) := by
        have hh := XM.out.set_ 2 (.int .i64 (((p2 : Nat) : Int) + (1 + ((r : Nat) : Int))))
        exact hh
      have XA4 : Hid (Blk (w3.setCell ⟨w2.heap.size, 2, none⟩ (.int .i64 (((p2 : Nat) : Int) + (1 + ((r : Nat) : Int))))) w.heap.size 25 [.int .i64 (p1 : Nat), .int .i64 1, .int .i64 (p2 : Nat), .int .i64 (p3 : Nat), .int .u64 (t1 : Nat), .bool shut]) := XA.out.far HNE.out _
      have HW4 : Hid (Below w.heap.size w (w3.setCell ⟨w2.heap.size, 2, none⟩ (.int .i64 (((p2 : Nat) : Int) + (1 + ((r : Nat) : Int)))))) := below_set1 HW.out HGE.out _ _
      refine wp_world (fun W => Hid (Blk W w2.heap.size 25 [.int .i64 (p1 : Nat), .int .i64 1, .int .i64 (((p2 : Nat) : Int) + (1 + ((r : Nat) : Int))), .int .i64 (p3 : Nat), .int .u64 (t1 : Nat), .bool shut]) ∧ Hid (Blk W w.heap.size 25 [.int .i64 (p1 : Nat), .int .i64 1, .int .i64 (p2 : Nat), .int .i64 (p3 : Nat), .int .u64 (t1 : Nat), .bool shut]) ∧ Hid (Below w.heap.size w W)) ⟨XM4, XA4, HW4⟩ ?_
      clear XM4 XA4 HW4 XM XA HW
      rintro w4 ⟨XM4, XA4, HW4⟩
      have c0 : w4.cell? ⟨w.heap.size, 0, none⟩ = some (.int .i64 (p1 : Nat)) := XA4.out.cell 0
      have c1 : w4.cell? ⟨w.heap.size, 1, none⟩ = some (.int .i64 1) := XA4.out.cell 1
      have c2 : w4.cell? ⟨w.heap.size, 2, none⟩ = some (.int .i64 (p2 : Nat)) := XA4.out.cell 2
      have c3 : w4.cell? ⟨w.heap.size, 3, none⟩ = some (.int .i64 (p3 : Nat)) := XA4.out.cell 3
      have c4 : w4.cell? ⟨w.heap.size, 4, none⟩ = some (.int .u64 (t1 : Nat)) := XA4.out.cell 4
      have c5 : w4.cell? ⟨w.heap.size, 5, none⟩ = some (.bool shut) := XA4.out.cell 5
      go_wp2_with fail
      clear c0 c1 c2 c3 c4 c5
      refine (enc_list C _ HRN.out HYN.out).mono ?_
      rintro e w5 ⟨P1, k1, rfl, hc1, RA5, B5⟩
      have XA5 := Lib.hid (XA4.out.below B5.out XA4.out.lt)
      have XM5 := Lib.hid (XM4.out.below B5.out XM4.out.lt)
      have HW5 := Lib.hid (HW4.out.trans (B5.out.mono HW4.out.size))
      clear B5 XA4 XM4 HW4
      have c0 : w5.cell? ⟨w2.heap.size, 0, none⟩ = some (.int .i64 (p1 : Nat)) := XM5.out.cell 0
      have c1 : w5.cell? ⟨w2.heap.size, 1, none⟩ = some (.int .i64 1) := XM5.out.cell 1
      have c2 : w5.cell? ⟨w2.heap.size, 2, none⟩ = some (.int .i64 (((p2 : Nat) : Int) + (1 + ((r : Nat) : Int)))) := XM5.out.cell 2
      have c3 : w5.cell? ⟨w2.heap.size, 3, none⟩ = some (.int .i64 (p3 : Nat)) := XM5.out.cell 3
      have c4 : w5.cell? ⟨w2.heap.size, 4, none⟩ = some (.int .u64 (t1 : Nat)) := XM5.out.cell 4
      have c5 : w5.cell? ⟨w2.heap.size, 5, none⟩ = some (.bool shut) := XM5.out.cell 5
      go_wp2_with fail
      clear c0 c1 c2 c3 c4 c5
      refine (enc_list C _ HRM.out HYM.out).mono ?_
      rintro e w6 ⟨P2, k2, rfl, hc2, RB6, B6⟩
      have XA6 := Lib.hid (XA5.out.below B6.out XA5.out.lt)
      have XM6 := Lib.hid (XM5.out.below B6.out XM5.out.lt)
      have RA6 := Lib.hid (RA5.out.below B6.out)
      have HW6 := Lib.hid (HW5.out.trans (B6.out.mono HW5.out.size))
      clear B6 XA5 XM5 HW5 RA5
      go_wp2_with fail
      refine (dec_as R hM _ P1 yn k1 RA6.out hc1 (by have := LN.out; omega) HDN.out).mono ?_
      rintro e w7 ⟨rfl, B7⟩
      have XA7 := Lib.hid (XA6.out.below B7.out XA6.out.lt)
      have XM7 := Lib.hid (XM6.out.below B7.out XM6.out.lt)
      have RA7 := Lib.hid (RA6.out.below B7.out)
      have RB7 := Lib.hid (RB6.out.below B7.out)
      have HW7 := Lib.hid (HW6.out.trans (B7.out.mono HW6.out.size))
      clear B7 XA6 XM6 HW6 RA6 RB6
      have HG1 : Hid (Blk (w7.alloc (.cells #[.int .i64 0, .int .i64 0, .int .i64 0, .int .i64 0, .int .u64 0, .bool false] 25)) w7.heap.size 25 [.int .i64 0, .int .i64 0, .int .i64 0, .int .i64 0, .int .u64 0, .bool false]) := Blk.new w7 _ _
      go_upto_region 17 with (refine wpList_store_row rfl 25 (.tmp 13) (.tmp 86) rfl w7.heap.size #[.int .i64 (p1 : Nat), .int .i64 1, .int .i64 (p2 : Nat), .int .i64 (p3 : Nat), .int .u64 (t1 : Nat), .bool shut] rfl rfl 25 #[.int .i64 0, .int .i64 0, .int .i64 0, .int .i64 0, .int .u64 0, .bool false] HG1.out rfl rfl rfl ?_)
      clear HG1
      have B8 : Hid (Below w7.heap.size w7 (w7.alloc (.cells #[.int .i64 (p1 : Nat), .int .i64 1, .int .i64 (p2 : Nat), .int .i64 (p3 : Nat), .int .u64 (t1 : Nat), .bool shut] 25))) := below_new w7 _
      have XX8 : Hid (Blk (w7.alloc (.cells #[.int .i64 (p1 : Nat), .int .i64 1, .int .i64 (p2 : Nat), .int .i64 (p3 : Nat), .int .u64 (t1 : Nat), .bool shut] 25)) w7.heap.size 25 [.int .i64 (p1 : Nat), .int .i64 1, .int .i64 (p2 : Nat), .int .i64 (p3 : Nat), .int .u64 (t1 : Nat), .bool shut]) := Blk.new w7 _ _
      have XA8 := Lib.hid (XA7.out.below B8.out XA7.out.lt)
      have XM8 := Lib.hid (XM7.out.below B8.out XM7.out.lt)
      have RA8 := Lib.hid (RA7.out.below B8.out)
      have RB8 := Lib.hid (RB7.out.below B8.out)
      have HW8 := Lib.hid (HW7.out.trans (B8.out.mono HW7.out.size))
      clear B8 XA7 XM7 HW7 RA7 RB7
      refine wp_world (fun W => Hid (Blk W w7.heap.size 25 [.int .i64 (p1 : Nat), .int .i64 1, .int .i64 (p2 : Nat), .int .i64 (p3 : Nat), .int .u64 (t1 : Nat), .bool shut]) ∧ Hid (Blk W w2.heap.size 25 [.int .i64 (p1 : Nat), .int .i64 1, .int .i64 (((p2 : Nat) : Int) + (1 + ((r : Nat) : Int))), .int .i64 (p3 : Nat), .int .u64 (t1 : Nat), .bool shut]) ∧ Hid (Blk W w.heap.size 25 [.int .i64 (p1 : Nat), .int .i64 1, .int .i64 (p2 : Nat), .int .i64 (p3 : Nat), .int .u64 (t1 : Nat), .bool shut]) ∧ Hid (Below w.heap.size w W) ∧ Hid (Rd W P1 yn) ∧ Hid (Rd W P2 ym)) ⟨XX8, XM8, XA8, HW8, RA8, RB8⟩ ?_
      clear XX8 XM8 XA8 HW8 RA8 RB8
      rintro w9 ⟨XX9, XM9, XA9, HW9, RA9, RB9⟩
      go_wp2_with fail
      refine (dec_as R hM _ P2 ym k2 RB9.out hc2 (by have := LM.out; omega) HDM.out).mono ?_
      rintro e w10 ⟨rfl, B10⟩
      have XA10 := Lib.hid (XA9.out.below B10.out XA9.out.lt)
      have XM10 := Lib.hid (XM9.out.below B10.out XM9.out.lt)
      have XX10 := Lib.hid (XX9.out.below B10.out XX9.out.lt)
      have RA10 := Lib.hid (RA9.out.below B10.out)
      have RB10 := Lib.hid (RB9.out.below B10.out)
      have HW10 := Lib.hid (HW9.out.trans (B10.out.mono HW9.out.size))
      clear B10 XA9 XM9 HW9 XX9 RA9 RB9
      have HG1 : Hid (Blk (w10.alloc (.cells #[.int .i64 0, .int .i64 0, .int .i64 0, .int .i64 0, .int .u64 0, .bool false] 25)) w10.heap.size 25 [.int .i64 0, .int .i64 0, .int .i64 0, .int .i64 0, .int .u64 0, .bool false]) := Blk.new w10 _ _
      go_upto_region 18 with (refine wpList_store_row rfl 25 (.tmp 15) (.tmp 91) rfl w10.heap.size #[.int .i64 (p1 : Nat), .int .i64 1, .int .i64 (((p2 : Nat) : Int) + (1 + ((r : Nat) : Int))), .int .i64 (p3 : Nat), .int .u64 (t1 : Nat), .bool shut] rfl rfl 25 #[.int .i64 0, .int .i64 0, .int .i64 0, .int .i64 0, .int .u64 0, .bool false] HG1.out rfl rfl rfl ?_)
      clear HG1
      have B11 : Hid (Below w10.heap.size w10 (w10.alloc (.cells #[.int .i64 (p1 : Nat), .int .i64 1, .int .i64 (((p2 : Nat) : Int) + (1 + ((r : Nat) : Int))), .int .i64 (p3 : Nat), .int .u64 (t1 : Nat), .bool shut] 25))) := below_new w10 _
      have XY11 : Hid (Blk (w10.alloc (.cells #[.int .i64 (p1 : Nat), .int .i64 1, .int .i64 (((p2 : Nat) : Int) + (1 + ((r : Nat) : Int))), .int .i64 (p3 : Nat), .int .u64 (t1 : Nat), .bool shut] 25)) w10.heap.size 25 [.int .i64 (p1 : Nat), .int .i64 1, .int .i64 (((p2 : Nat) : Int) + (1 + ((r : Nat) : Int))), .int .i64 (p3 : Nat), .int .u64 (t1 : Nat), .bool shut]) := Blk.new w10 _ _
      have XA11 := Lib.hid (XA10.out.below B11.out XA10.out.lt)
      have XM11 := Lib.hid (XM10.out.below B11.out XM10.out.lt)
      have XX11 := Lib.hid (XX10.out.below B11.out XX10.out.lt)
      have RA11 := Lib.hid (RA10.out.below B11.out)
      have RB11 := Lib.hid (RB10.out.below B11.out)
      have HW11 := Lib.hid (HW10.out.trans (B11.out.mono HW10.out.size))
      clear B11 XA10 XM10 HW10 XX10 RA10 RB10
      refine wp_world (fun W => Hid (Blk W w10.heap.size 25 [.int .i64 (p1 : Nat), .int .i64 1, .int .i64 (((p2 : Nat) : Int) + (1 + ((r : Nat) : Int))), .int .i64 (p3 : Nat), .int .u64 (t1 : Nat), .bool shut]) ∧ Hid (Blk W w7.heap.size 25 [.int .i64 (p1 : Nat), .int .i64 1, .int .i64 (p2 : Nat), .int .i64 (p3 : Nat), .int .u64 (t1 : Nat), .bool shut]) ∧ Hid (Blk W w2.heap.size 25 [.int .i64 (p1 : Nat), .int .i64 1, .int .i64 (((p2 : Nat) : Int) + (1 + ((r : Nat) : Int))), .int .i64 (p3 : Nat), .int .u64 (t1 : Nat), .bool shut]) ∧ Hid (Blk W w.heap.size 25 [.int .i64 (p1 : Nat), .int .i64 1, .int .i64 (p2 : Nat), .int .i64 (p3 : Nat), .int .u64 (t1 : Nat), .bool shut]) ∧ Hid (Below w.heap.size w W) ∧ Hid (Rd W P1 yn) ∧ Hid (Rd W P2 ym)) ⟨XY11, XX11, XM11, XA11, HW11, RA11, RB11⟩ ?_
      clear XY11 XX11 XM11 XA11 HW11 RA11 RB11
      rintro w12 ⟨XY, XX, XM, XA, HW, RA, RB⟩
      have c0 : w12.cell? ⟨w.heap.size, 0, none⟩ = some (.int .i64 (p1 : Nat)) := XA.out.cell 0
      have c1 : w12.cell? ⟨w.heap.size, 1, none⟩ = some (.int .i64 1) := XA.out.cell 1
      have c2 : w12.cell? ⟨w.heap.size, 2, none⟩ = some (.int .i64 (p2 : Nat)) := XA.out.cell 2
      have c3 : w12.cell? ⟨w.heap.size, 3, none⟩ = some (.int .i64 (p3 : Nat)) := XA.out.cell 3
      have c4 : w12.cell? ⟨w.heap.size, 4, none⟩ = some (.int .u64 (t1 : Nat)) := XA.out.cell 4
      have c5 : w12.cell? ⟨w.heap.size, 5, none⟩ = some (.bool shut) := XA.out.cell 5
      have d0 : w12.cell? ⟨w2.heap.size, 0, none⟩ = some (.int .i64 (p1 : Nat)) := XM.out.cell 0
      have d1 : w12.cell? ⟨w2.heap.size, 1, none⟩ = some (.int .i64 1) := XM.out.cell 1
      have d2 : w12.cell? ⟨w2.heap.size, 2, none⟩ = some (.int .i64 (((p2 : Nat) : Int) + (1 + ((r : Nat) : Int)))) := XM.out.cell 2
      have d3 : w12.cell? ⟨w2.heap.size, 3, none⟩ = some (.int .i64 (p3 : Nat)) := XM.out.cell 3
      have d4 : w12.cell? ⟨w2.heap.size, 4, none⟩ = some (.int .u64 (t1 : Nat)) := XM.out.cell 4
      have d5 : w12.cell? ⟨w2.heap.size, 5, none⟩ = some (.bool shut) := XM.out.cell 5
      have h0 : w12.cell? ⟨w7.heap.size, 0, none⟩ = some (.int .i64 (p1 : Nat)) := XX.out.cell 0
      have h1 : w12.cell? ⟨w7.heap.size, 1, none⟩ = some (.int .i64 1) := XX.out.cell 1
      have h2 : w12.cell? ⟨w7.heap.size, 2, none⟩ = some (.int .i64 (p2 : Nat)) := XX.out.cell 2
      have h3 : w12.cell? ⟨w7.heap.size, 3, none⟩ = some (.int .i64 (p3 : Nat)) := XX.out.cell 3
      have h4 : w12.cell? ⟨w7.heap.size, 4, none⟩ = some (.int .u64 (t1 : Nat)) := XX.out.cell 4
      have h5 : w12.cell? ⟨w7.heap.size, 5, none⟩ = some (.bool shut) := XX.out.cell 5
      have g0 : w12.cell? ⟨w10.heap.size, 0, none⟩ = some (.int .i64 (p1 : Nat)) := XY.out.cell 0
      have g1 : w12.cell? ⟨w10.heap.size, 1, none⟩ = some (.int .i64 1) := XY.out.cell 1
      have g2 : w12.cell? ⟨w10.heap.size, 2, none⟩ = some (.int .i64 (((p2 : Nat) : Int) + (1 + ((r : Nat) : Int)))) := XY.out.cell 2
      have g3 : w12.cell? ⟨w10.heap.size, 3, none⟩ = some (.int .i64 (p3 : Nat)) := XY.out.cell 3
      have g4 : w12.cell? ⟨w10.heap.size, 4, none⟩ = some (.int .u64 (t1 : Nat)) := XY.out.cell 4
      have g5 : w12.cell? ⟨w10.heap.size, 5, none⟩ = some (.bool shut) := XY.out.cell 5
      have hs1 := str_any w12 P1 yn k1 RA.out
      have hs2 := str_any w12 P2 ym k2 RB.out
      have hns := HNS.out
      have hnq := HNQ.out
      have cz : ((0 : Nat) : Int) = 0 := rfl
      clear XY XX XM XA RA RB HRN HRM HYN HYM HNQ HNS HDN HDM LN LM
      go_wp2_with fail
      clear hs1 hs2 hns hnq c0 c1 c2 c3 c4 c5 d0 d1 d2 d3 d4 d5 h0 h1 h2 h3 h4 h5 g0 g1 g2 g3 g4 g5
      refine (known10_any C _).mono ?_
      rintro e w13 ⟨rfl, hb⟩
      have HF := Lib.hid (HW.out.trans (hb.mono HW.out.size))
      clear hb
      go_wp2_with fail
      go_ret
      exact ⟨rfl, HF.out⟩
    · clear lq
      have HRN : Hid (Nd.Right ⟨(p1 : Nat), 1, (p2 : Nat), (p3 : Nat), t1, shut⟩) := ⟨by dsimp only; omega, by dsimp only; omega, by dsimp only; omega, by dsimp only; omega, by dsimp only; omega, by dsimp only; omega, by dsimp only; omega, .inl rfl⟩
      have HRM : Hid (Nd.Right ⟨(p1 : Nat), 1, (p2 : Nat), ((p3 : Nat) : Int) + (1 + ((r : Nat) : Int)), t1, shut⟩) := ⟨by dsimp only; omega, by dsimp only; omega, by dsimp only; omega, by dsimp only; omega, by dsimp only; omega, by dsimp only; omega, by dsimp only; omega, .inl rfl⟩
      have hne : (⟨(p1 : Nat), 1, (p2 : Nat), (p3 : Nat), t1, shut⟩ : Nd) ≠ ⟨(p1 : Nat), 1, (p2 : Nat), ((p3 : Nat) : Int) + (1 + ((r : Nat) : Int)), t1, shut⟩ := by
        intro e
        injection e with e1 e2 e3 e4 e5 e6
        omega
      obtain ⟨yn, hyn⟩ : ∃ y, Nd.bytes ⟨(p1 : Nat), 1, (p2 : Nat), (p3 : Nat), t1, shut⟩ = y := ⟨_, rfl⟩
      obtain ⟨ym, hym⟩ : ∃ y, Nd.bytes ⟨(p1 : Nat), 1, (p2 : Nat), ((p3 : Nat) : Int) + (1 + ((r : Nat) : Int)), t1, shut⟩ = y := ⟨_, rfl⟩
      have HYN := Lib.hid hyn
      have HYM := Lib.hid hym
      have HNQ : Hid (∀ w, (binOp .neq 25 (.agg #[.int .i64 (p1 : Nat), .int .i64 1, .int .i64 (p2 : Nat), .int .i64 (p3 : Nat), .int .u64 (t1 : Nat), .bool shut]) (.agg #[.int .i64 (p1 : Nat), .int .i64 1, .int .i64 (p2 : Nat), .int .i64 (((p3 : Nat) : Int) + (1 + ((r : Nat) : Int))), .int .u64 (t1 : Nat), .bool shut])).run Try.prog w = .ok (.bool true) w) := fun w => nd_neq ⟨(p1 : Nat), 1, (p2 : Nat), (p3 : Nat), t1, shut⟩ ⟨(p1 : Nat), 1, (p2 : Nat), ((p3 : Nat) : Int) + (1 + ((r : Nat) : Int)), t1, shut⟩ hne w
      have HNS : Hid (((strOf yn).toList == (strOf ym).toList) = false) := str_ne (by subst hyn hym; exact fun e => hne (Nd.bytes_inj HRN.out HRM.out e))
      have HDN : Hid (ndDec yn = (⟨(p1 : Nat), 1, (p2 : Nat), (p3 : Nat), t1, shut⟩, 0)) := by show _ = _; rw [← hyn]; exact ndDec_bytes _ HRN.out
      have HDM : Hid (ndDec ym = (⟨(p1 : Nat), 1, (p2 : Nat), ((p3 : Nat) : Int) + (1 + ((r : Nat) : Int)), t1, shut⟩, 0)) := by show _ = _; rw [← hym]; exact ndDec_bytes _ HRM.out
      have LN : Hid (yn.length = 16) := by show _ = _; rw [← hyn]; exact Nd.bytes_length _
      have LM : Hid (ym.length = 16) := by show _ = _; rw [← hym]; exact Nd.bytes_length _
      clear hyn hym hne
      go_upto_region 14 with (fail)
      clear c0 c1 c2 c3 c4 c5 f0 f1 f2 f3 f4 f5
      have XM4 : Hid (Blk (w3.setCell ⟨w2.heap.size, 3, none⟩ (.int .i64 (((p3 : Nat) : Int) + (1 + ((r : Nat) : Int))))) w2.heap.size 25 [.int .i64 (p1 : Nat), .int .i64 1, .int .i64 (p2 : Nat), .int .i64 (((p3 : Nat) : Int) + (1 + ((r : Nat) : Int))), .int .u64 (t1 : Nat), .bool shut]) := by
        have hh := XM.out.set_ 3 (.int .i64 (((p3 : Nat) : Int) + (1 + ((r : Nat) : Int))))
        exact hh
      have XA4 : Hid (Blk (w3.setCell ⟨w2.heap.size, 3, none⟩ (.int .i64 (((p3 : Nat) : Int) + (1 + ((r : Nat) : Int))))) w.heap.size 25 [.int .i64 (p1 : Nat), .int .i64 1, .int .i64 (p2 : Nat), .int .i64 (p3 : Nat), .int .u64 (t1 : Nat), .bool shut]) := XA.out.far HNE.out _
      have HW4 : Hid (Below w.heap.size w (w3.setCell ⟨w2.heap.size, 3, none⟩ (.int .i64 (((p3 : Nat) : Int) + (1 + ((r : Nat) : Int)))))) := below_set1 HW.out HGE.out _ _
      refine wp_world (fun W => Hid (Blk W w2.heap.size 25 [.int .i64 (p1 : Nat), .int .i64 1, .int .i64 (p2 : Nat), .int .i64 (((p3 : Nat) : Int) + (1 + ((r : Nat) : Int))), .int .u64 (t1 : Nat), .bool shut]) ∧ Hid (Blk W w.heap.size 25 [.int .i64 (p1 : Nat), .int .i64 1, .int .i64 (p2 : Nat), .int .i64 (p3 : Nat), .int .u64 (t1 : Nat), .bool shut]) ∧ Hid (Below w.heap.size w W)) ⟨XM4, XA4, HW4⟩ ?_
      clear XM4 XA4 HW4 XM XA HW
      rintro w4 ⟨XM4, XA4, HW4⟩
      have c0 : w4.cell? ⟨w.heap.size, 0, none⟩ = some (.int .i64 (p1 : Nat)) := XA4.out.cell 0
      have c1 : w4.cell? ⟨w.heap.size, 1, none⟩ = some (.int .i64 1) := XA4.out.cell 1
      have c2 : w4.cell? ⟨w.heap.size, 2, none⟩ = some (.int .i64 (p2 : Nat)) := XA4.out.cell 2
      have c3 : w4.cell? ⟨w.heap.size, 3, none⟩ = some (.int .i64 (p3 : Nat)) := XA4.out.cell 3
      have c4 : w4.cell? ⟨w.heap.size, 4, none⟩ = some (.int .u64 (t1 : Nat)) := XA4.out.cell 4
      have c5 : w4.cell? ⟨w.heap.size, 5, none⟩ = some (.bool shut) := XA4.out.cell 5
      go_wp2_with fail
      clear c0 c1 c2 c3 c4 c5
      refine (enc_list C _ HRN.out HYN.out).mono ?_
      rintro e w5 ⟨P1, k1, rfl, hc1, RA5, B5⟩
      have XA5 := Lib.hid (XA4.out.below B5.out XA4.out.lt)
      have XM5 := Lib.hid (XM4.out.below B5.out XM4.out.lt)
      have HW5 := Lib.hid (HW4.out.trans (B5.out.mono HW4.out.size))
      clear B5 XA4 XM4 HW4
      have c0 : w5.cell? ⟨w2.heap.size, 0, none⟩ = some (.int .i64 (p1 : Nat)) := XM5.out.cell 0
      have c1 : w5.cell? ⟨w2.heap.size, 1, none⟩ = some (.int .i64 1) := XM5.out.cell 1
      have c2 : w5.cell? ⟨w2.heap.size, 2, none⟩ = some (.int .i64 (p2 : Nat)) := XM5.out.cell 2
      have c3 : w5.cell? ⟨w2.heap.size, 3, none⟩ = some (.int .i64 (((p3 : Nat) : Int) + (1 + ((r : Nat) : Int)))) := XM5.out.cell 3
      have c4 : w5.cell? ⟨w2.heap.size, 4, none⟩ = some (.int .u64 (t1 : Nat)) := XM5.out.cell 4
      have c5 : w5.cell? ⟨w2.heap.size, 5, none⟩ = some (.bool shut) := XM5.out.cell 5
      go_wp2_with fail
      clear c0 c1 c2 c3 c4 c5
      refine (enc_list C _ HRM.out HYM.out).mono ?_
      rintro e w6 ⟨P2, k2, rfl, hc2, RB6, B6⟩
      have XA6 := Lib.hid (XA5.out.below B6.out XA5.out.lt)
      have XM6 := Lib.hid (XM5.out.below B6.out XM5.out.lt)
      have RA6 := Lib.hid (RA5.out.below B6.out)
      have HW6 := Lib.hid (HW5.out.trans (B6.out.mono HW5.out.size))
      clear B6 XA5 XM5 HW5 RA5
      go_wp2_with fail
      refine (dec_as R hM _ P1 yn k1 RA6.out hc1 (by have := LN.out; omega) HDN.out).mono ?_
      rintro e w7 ⟨rfl, B7⟩
      have XA7 := Lib.hid (XA6.out.below B7.out XA6.out.lt)
      have XM7 := Lib.hid (XM6.out.below B7.out XM6.out.lt)
      have RA7 := Lib.hid (RA6.out.below B7.out)
      have RB7 := Lib.hid (RB6.out.below B7.out)
      have HW7 := Lib.hid (HW6.out.trans (B7.out.mono HW6.out.size))
      clear B7 XA6 XM6 HW6 RA6 RB6
      have HG1 : Hid (Blk (w7.alloc (.cells #[.int .i64 0, .int .i64 0, .int .i64 0, .int .i64 0, .int .u64 0, .bool false] 25)) w7.heap.size 25 [.int .i64 0, .int .i64 0, .int .i64 0, .int .i64 0, .int .u64 0, .bool false]) := Blk.new w7 _ _
      go_upto_region 17 with (refine wpList_store_row rfl 25 (.tmp 13) (.tmp 86) rfl w7.heap.size #[.int .i64 (p1 : Nat), .int .i64 1, .int .i64 (p2 : Nat), .int .i64 (p3 : Nat), .int .u64 (t1 : Nat), .bool shut] rfl rfl 25 #[.int .i64 0, .int .i64 0, .int .i64 0, .int .i64 0, .int .u64 0, .bool false] HG1.out rfl rfl rfl ?_)
      clear HG1
      have B8 : Hid (Below w7.heap.size w7 (w7.alloc (.cells #[.int .i64 (p1 : Nat), .int .i64 1, .int .i64 (p2 : Nat), .int .i64 (p3 : Nat), .int .u64 (t1 : Nat), .bool shut] 25))) := below_new w7 _
      have XX8 : Hid (Blk (w7.alloc (.cells #[.int .i64 (p1 : Nat), .int .i64 1, .int .i64 (p2 : Nat), .int .i64 (p3 : Nat), .int .u64 (t1 : Nat), .bool shut] 25)) w7.heap.size 25 [.int .i64 (p1 : Nat), .int .i64 1, .int .i64 (p2 : Nat), .int .i64 (p3 : Nat), .int .u64 (t1 : Nat), .bool shut]) := Blk.new w7 _ _
      have XA8 := Lib.hid (XA7.out.below B8.out XA7.out.lt)
      have XM8 := Lib.hid (XM7.out.below B8.out XM7.out.lt)
      have RA8 := Lib.hid (RA7.out.below B8.out)
      have RB8 := Lib.hid (RB7.out.below B8.out)
      have HW8 := Lib.hid (HW7.out.trans (B8.out.mono HW7.out.size))
      clear B8 XA7 XM7 HW7 RA7 RB7
      refine wp_world (fun W => Hid (Blk W w7.heap.size 25 [.int .i64 (p1 : Nat), .int .i64 1, .int .i64 (p2 : Nat), .int .i64 (p3 : Nat), .int .u64 (t1 : Nat), .bool shut]) ∧ Hid (Blk W w2.heap.size 25 [.int .i64 (p1 : Nat), .int .i64 1, .int .i64 (p2 : Nat), .int .i64 (((p3 : Nat) : Int) + (1 + ((r : Nat) : Int))), .int .u64 (t1 : Nat), .bool shut]) ∧ Hid (Blk W w.heap.size 25 [.int .i64 (p1 : Nat), .int .i64 1, .int .i64 (p2 : Nat), .int .i64 (p3 : Nat), .int .u64 (t1 : Nat), .bool shut]) ∧ Hid (Below w.heap.size w W) ∧ Hid (Rd W P1 yn) ∧ Hid (Rd W P2 ym)) ⟨XX8, XM8, XA8, HW8, RA8, RB8⟩ ?_
      clear XX8 XM8 XA8 HW8 RA8 RB8
      rintro w9 ⟨XX9, XM9, XA9, HW9, RA9, RB9⟩
      go_wp2_with fail
      refine (dec_as R hM _ P2 ym k2 RB9.out hc2 (by have := LM.out; omega) HDM.out).mono ?_
      rintro e w10 ⟨rfl, B10⟩
      have XA10 := Lib.hid (XA9.out.below B10.out XA9.out.lt)
      have XM10 := Lib.hid (XM9.out.below B10.out XM9.out.lt)
      have XX10 := Lib.hid (XX9.out.below B10.out XX9.out.lt)
      have RA10 := Lib.hid (RA9.out.below B10.out)
      have RB10 := Lib.hid (RB9.out.below B10.out)
      have HW10 := Lib.hid (HW9.out.trans (B10.out.mono HW9.out.size))
      clear B10 XA9 XM9 HW9 XX9 RA9 RB9
      have HG1 : Hid (Blk (w10.alloc (.cells #[.int .i64 0, .int .i64 0, .int .i64 0, .int .i64 0, .int .u64 0, .bool false] 25)) w10.heap.size 25 [.int .i64 0, .int .i64 0, .int .i64 0, .int .i64 0, .int .u64 0, .bool false]) := Blk.new w10 _ _
      go_upto_region 18 with (refine wpList_store_row rfl 25 (.tmp 15) (.tmp 91) rfl w10.heap.size #[.int .i64 (p1 : Nat), .int .i64 1, .int .i64 (p2 : Nat), .int .i64 (((p3 : Nat) : Int) + (1 + ((r : Nat) : Int))), .int .u64 (t1 : Nat), .bool shut] rfl rfl 25 #[.int .i64 0, .int .i64 0, .int .i64 0, .int .i64 0, .int .u64 0, .bool false] HG1.out rfl rfl rfl ?_)
      clear HG1
      have B11 : Hid (Below w10.heap.size w10 (w10.alloc (.cells #[.int .i64 (p1 : Nat), .int .i64 1, .int .i64 (p2 : Nat), .int .i64 (((p3 : Nat) : Int) + (1 + ((r : Nat) : Int))), .int .u64 (t1 : Nat), .bool shut] 25))) := below_new w10 _
      have XY11 : Hid (Blk (w10.alloc (.cells #[.int .i64 (p1 : Nat), .int .i64 1, .int .i64 (p2 : Nat), .int .i64 (((p3 : Nat) : Int) + (1 + ((r : Nat) : Int))), .int .u64 (t1 : Nat), .bool shut] 25)) w10.heap.size 25 [.int .i64 (p1 : Nat), .int .i64 1, .int .i64 (p2 : Nat), .int .i64 (((p3 : Nat) : Int) + (1 + ((r : Nat) : Int))), .int .u64 (t1 : Nat), .bool shut]) := Blk.new w10 _ _
      have XA11 := Lib.hid (XA10.out.below B11.out XA10.out.lt)
      have XM11 := Lib.hid (XM10.out.below B11.out XM10.out.lt)
      have XX11 := Lib.hid (XX10.out.below B11.out XX10.out.lt)
      have RA11 := Lib.hid (RA10.out.below B11.out)
      have RB11 := Lib.hid (RB10.out.below B11.out)
      have HW11 := Lib.hid (HW10.out.trans (B11.out.mono HW10.out.size))
      clear B11 XA10 XM10 HW10 XX10 RA10 RB10
      refine wp_world (fun W => Hid (Blk W w10.heap.size 25 [.int .i64 (p1 : Nat), .int .i64 1, .int .i64 (p2 : Nat), .int .i64 (((p3 : Nat) : Int) + (1 + ((r : Nat) : Int))), .int .u64 (t1 : Nat), .bool shut]) ∧ Hid (Blk W w7.heap.size 25 [.int .i64 (p1 : Nat), .int .i64 1, .int .i64 (p2 : Nat), .int .i64 (p3 : Nat), .int .u64 (t1 : Nat), .bool shut]) ∧ Hid (Blk W w2.heap.size 25 [.int .i64 (p1 : Nat), .int .i64 1, .int .i64 (p2 : Nat), .int .i64 (((p3 : Nat) : Int) + (1 + ((r : Nat) : Int))), .int .u64 (t1 : Nat), .bool shut]) ∧ Hid (Blk W w.heap.size 25 [.int .i64 (p1 : Nat), .int .i64 1, .int .i64 (p2 : Nat), .int .i64 (p3 : Nat), .int .u64 (t1 : Nat), .bool shut]) ∧ Hid (Below w.heap.size w W) ∧ Hid (Rd W P1 yn) ∧ Hid (Rd W P2 ym)) ⟨XY11, XX11, XM11, XA11, HW11, RA11, RB11⟩ ?_
      clear XY11 XX11 XM11 XA11 HW11 RA11 RB11
      rintro w12 ⟨XY, XX, XM, XA, HW, RA, RB⟩
      have c0 : w12.cell? ⟨w.heap.size, 0, none⟩ = some (.int .i64 (p1 : Nat)) := XA.out.cell 0
      have c1 : w12.cell? ⟨w.heap.size, 1, none⟩ = some (.int .i64 1) := XA.out.cell 1
      have c2 : w12.cell? ⟨w.heap.size, 2, none⟩ = some (.int .i64 (p2 : Nat)) := XA.out.cell 2
      have c3 : w12.cell? ⟨w.heap.size, 3, none⟩ = some (.int .i64 (p3 : Nat)) := XA.out.cell 3
      have c4 : w12.cell? ⟨w.heap.size, 4, none⟩ = some (.int .u64 (t1 : Nat)) := XA.out.cell 4
      have c5 : w12.cell? ⟨w.heap.size, 5, none⟩ = some (.bool shut) := XA.out.cell 5
      have d0 : w12.cell? ⟨w2.heap.size, 0, none⟩ = some (.int .i64 (p1 : Nat)) := XM.out.cell 0
      have d1 : w12.cell? ⟨w2.heap.size, 1, none⟩ = some (.int .i64 1) := XM.out.cell 1
      have d2 : w12.cell? ⟨w2.heap.size, 2, none⟩ = some (.int .i64 (p2 : Nat)) := XM.out.cell 2
      have d3 : w12.cell? ⟨w2.heap.size, 3, none⟩ = some (.int .i64 (((p3 : Nat) : Int) + (1 + ((r : Nat) : Int)))) := XM.out.cell 3
      have d4 : w12.cell? ⟨w2.heap.size, 4, none⟩ = some (.int .u64 (t1 : Nat)) := XM.out.cell 4
      have d5 : w12.cell? ⟨w2.heap.size, 5, none⟩ = some (.bool shut) := XM.out.cell 5
      have h0 : w12.cell? ⟨w7.heap.size, 0, none⟩ = some (.int .i64 (p1 : Nat)) := XX.out.cell 0
      have h1 : w12.cell? ⟨w7.heap.size, 1, none⟩ = some (.int .i64 1) := XX.out.cell 1
      have h2 : w12.cell? ⟨w7.heap.size, 2, none⟩ = some (.int .i64 (p2 : Nat)) := XX.out.cell 2
      have h3 : w12.cell? ⟨w7.heap.size, 3, none⟩ = some (.int .i64 (p3 : Nat)) := XX.out.cell 3
      have h4 : w12.cell? ⟨w7.heap.size, 4, none⟩ = some (.int .u64 (t1 : Nat)) := XX.out.cell 4
      have h5 : w12.cell? ⟨w7.heap.size, 5, none⟩ = some (.bool shut) := XX.out.cell 5
      have g0 : w12.cell? ⟨w10.heap.size, 0, none⟩ = some (.int .i64 (p1 : Nat)) := XY.out.cell 0
      have g1 : w12.cell? ⟨w10.heap.size, 1, none⟩ = some (.int .i64 1) := XY.out.cell 1
      have g2 : w12.cell? ⟨w10.heap.size, 2, none⟩ = some (.int .i64 (p2 : Nat)) := XY.out.cell 2
      have g3 : w12.cell? ⟨w10.heap.size, 3, none⟩ = some (.int .i64 (((p3 : Nat) : Int) + (1 + ((r : Nat) : Int)))) := XY.out.cell 3
      have g4 : w12.cell? ⟨w10.heap.size, 4, none⟩ = some (.int .u64 (t1 : Nat)) := XY.out.cell 4
      have g5 : w12.cell? ⟨w10.heap.size, 5, none⟩ = some (.bool shut) := XY.out.cell 5
      have hs1 := str_any w12 P1 yn k1 RA.out
      have hs2 := str_any w12 P2 ym k2 RB.out
      have hns := HNS.out
      have hnq := HNQ.out
      have cz : ((0 : Nat) : Int) = 0 := rfl
      clear XY XX XM XA RA RB HRN HRM HYN HYM HNQ HNS HDN HDM LN LM
      go_wp2_with fail
      clear hs1 hs2 hns hnq c0 c1 c2 c3 c4 c5 d0 d1 d2 d3 d4 d5 h0 h1 h2 h3 h4 h5 g0 g1 g2 g3 g4 g5
      refine (known10_any C _).mono ?_
      rintro e w13 ⟨rfl, hb⟩
      have HF := Lib.hid (HW.out.trans (hb.mono HW.out.size))
      clear hb
      go_wp2_with fail
      go_ret
      exact ⟨rfl, HF.out⟩
    · clear lq
      have HRN : Hid (Nd.Right ⟨(p1 : Nat), 1, (p2 : Nat), (p3 : Nat), t1, shut⟩) := ⟨by dsimp only; omega, by dsimp only; omega, by dsimp only; omega, by dsimp only; omega, by dsimp only; omega, by dsimp only; omega, by dsimp only; omega, .inl rfl⟩
      have HRM : Hid (Nd.Right ⟨(p1 : Nat), 1, (p2 : Nat), (p3 : Nat), t1 + (1 + r), shut⟩) := ⟨by dsimp only; omega, by dsimp only; omega, by dsimp only; omega, by dsimp only; omega, by dsimp only; omega, by dsimp only; omega, by dsimp only; omega, .inl rfl⟩
      have hne : (⟨(p1 : Nat), 1, (p2 : Nat), (p3 : Nat), t1, shut⟩ : Nd) ≠ ⟨(p1 : Nat), 1, (p2 : Nat), (p3 : Nat), t1 + (1 + r), shut⟩ := by
        intro e
        injection e with e1 e2 e3 e4 e5 e6
        omega
      obtain ⟨yn, hyn⟩ : ∃ y, Nd.bytes ⟨(p1 : Nat), 1, (p2 : Nat), (p3 : Nat), t1, shut⟩ = y := ⟨_, rfl⟩
      obtain ⟨ym, hym⟩ : ∃ y, Nd.bytes ⟨(p1 : Nat), 1, (p2 : Nat), (p3 : Nat), t1 + (1 + r), shut⟩ = y := ⟨_, rfl⟩
      have HYN := Lib.hid hyn
      have HYM := Lib.hid hym
      have HNQ : Hid (∀ w, (binOp .neq 25 (.agg #[.int .i64 (p1 : Nat), .int .i64 1, .int .i64 (p2 : Nat), .int .i64 (p3 : Nat), .int .u64 (t1 : Nat), .bool shut]) (.agg #[.int .i64 (p1 : Nat), .int .i64 1, .int .i64 (p2 : Nat), .int .i64 (p3 : Nat), .int .u64 ((t1 + (1 + r) : Nat) : Int), .bool shut])).run Try.prog w = .ok (.bool true) w) := fun w => nd_neq ⟨(p1 : Nat), 1, (p2 : Nat), (p3 : Nat), t1, shut⟩ ⟨(p1 : Nat), 1, (p2 : Nat), (p3 : Nat), t1 + (1 + r), shut⟩ hne w
      have HNS : Hid (((strOf yn).toList == (strOf ym).toList) = false) := str_ne (by subst hyn hym; exact fun e => hne (Nd.bytes_inj HRN.out HRM.out e))
      have HDN : Hid (ndDec yn = (⟨(p1 : Nat), 1, (p2 : Nat), (p3 : Nat), t1, shut⟩, 0)) := by show _ = _; rw [← hyn]; exact ndDec_bytes _ HRN.out
      have HDM : Hid (ndDec ym = (⟨(p1 : Nat), 1, (p2 : Nat), (p3 : Nat), t1 + (1 + r), shut⟩, 0)) := by show _ = _; rw [← hym]; exact ndDec_bytes _ HRM.out
      have LN : Hid (yn.length = 16) := by show _ = _; rw [← hyn]; exact Nd.bytes_length _
      have LM : Hid (ym.length = 16) := by show _ = _; rw [← hym]; exact Nd.bytes_length _
      clear hyn hym hne
      go_upto_region 14 with (fail)
      clear c0 c1 c2 c3 c4 c5 f0 f1 f2 f3 f4 f5
      have XM4 : Hid (Blk (w3.setCell ⟨w2.heap.size, 4, none⟩ (.int .u64 (((t1 : Nat) : Int) + (1 + ((r : Nat) : Int))))) w2.heap.size 25 [.int .i64 (p1 : Nat), .int .i64 1, .int .i64 (p2 : Nat), .int .i64 (p3 : Nat), .int .u64 ((t1 + (1 + r) : Nat) : Int), .bool shut]) := by
        have hh := XM.out.set_ 4 (.int .u64 (((t1 : Nat) : Int) + (1 + ((r : Nat) : Int))))
        rw [show (((t1 : Nat) : Int) + (1 + ((r : Nat) : Int)) : Int) = ((t1 + (1 + r) : Nat) : Int) by omega] at hh ⊢
        exact hh
      have XA4 : Hid (Blk (w3.setCell ⟨w2.heap.size, 4, none⟩ (.int .u64 (((t1 : Nat) : Int) + (1 + ((r : Nat) : Int))))) w.heap.size 25 [.int .i64 (p1 : Nat), .int .i64 1, .int .i64 (p2 : Nat), .int .i64 (p3 : Nat), .int .u64 (t1 : Nat), .bool shut]) := XA.out.far HNE.out _
      have HW4 : Hid (Below w.heap.size w (w3.setCell ⟨w2.heap.size, 4, none⟩ (.int .u64 (((t1 : Nat) : Int) + (1 + ((r : Nat) : Int)))))) := below_set1 HW.out HGE.out _ _
      refine wp_world (fun W => Hid (Blk W w2.heap.size 25 [.int .i64 (p1 : Nat), .int .i64 1, .int .i64 (p2 : Nat), .int .i64 (p3 : Nat), .int .u64 ((t1 + (1 + r) : Nat) : Int), .bool shut]) ∧ Hid (Blk W w.heap.size 25 [.int .i64 (p1 : Nat), .int .i64 1, .int .i64 (p2 : Nat), .int .i64 (p3 : Nat), .int .u64 (t1 : Nat), .bool shut]) ∧ Hid (Below w.heap.size w W)) ⟨XM4, XA4, HW4⟩ ?_
      clear XM4 XA4 HW4 XM XA HW
      rintro w4 ⟨XM4, XA4, HW4⟩
      have c0 : w4.cell? ⟨w.heap.size, 0, none⟩ = some (.int .i64 (p1 : Nat)) := XA4.out.cell 0
      have c1 : w4.cell? ⟨w.heap.size, 1, none⟩ = some (.int .i64 1) := XA4.out.cell 1
      have c2 : w4.cell? ⟨w.heap.size, 2, none⟩ = some (.int .i64 (p2 : Nat)) := XA4.out.cell 2
      have c3 : w4.cell? ⟨w.heap.size, 3, none⟩ = some (.int .i64 (p3 : Nat)) := XA4.out.cell 3
      have c4 : w4.cell? ⟨w.heap.size, 4, none⟩ = some (.int .u64 (t1 : Nat)) := XA4.out.cell 4
      have c5 : w4.cell? ⟨w.heap.size, 5, none⟩ = some (.bool shut) := XA4.out.cell 5
      go_wp2_with fail
      clear c0 c1 c2 c3 c4 c5
      refine (enc_list C _ HRN.out HYN.out).mono ?_
      rintro e w5 ⟨P1, k1, rfl, hc1, RA5, B5⟩
      have XA5 := Lib.hid (XA4.out.below B5.out XA4.out.lt)
      have XM5 := Lib.hid (XM4.out.below B5.out XM4.out.lt)
      have HW5 := Lib.hid (HW4.out.trans (B5.out.mono HW4.out.size))
      clear B5 XA4 XM4 HW4
      have c0 : w5.cell? ⟨w2.heap.size, 0, none⟩ = some (.int .i64 (p1 : Nat)) := XM5.out.cell 0
      have c1 : w5.cell? ⟨w2.heap.size, 1, none⟩ = some (.int .i64 1) := XM5.out.cell 1
      have c2 : w5.cell? ⟨w2.heap.size, 2, none⟩ = some (.int .i64 (p2 : Nat)) := XM5.out.cell 2
      have c3 : w5.cell? ⟨w2.heap.size, 3, none⟩ = some (.int .i64 (p3 : Nat)) := XM5.out.cell 3
      have c4 : w5.cell? ⟨w2.heap.size, 4, none⟩ = some (.int .u64 ((t1 + (1 + r) : Nat) : Int)) := XM5.out.cell 4
      have c5 : w5.cell? ⟨w2.heap.size, 5, none⟩ = some (.bool shut) := XM5.out.cell 5
      go_wp2_with fail
      clear c0 c1 c2 c3 c4 c5
      refine (enc_list C _ HRM.out HYM.out).mono ?_
      rintro e w6 ⟨P2, k2, rfl, hc2, RB6, B6⟩
      have XA6 := Lib.hid (XA5.out.below B6.out XA5.out.lt)
      have XM6 := Lib.hid (XM5.out.below B6.out XM5.out.lt)
      have RA6 := Lib.hid (RA5.out.below B6.out)
      have HW6 := Lib.hid (HW5.out.trans (B6.out.mono HW5.out.size))
      clear B6 XA5 XM5 HW5 RA5
      go_wp2_with fail
      refine (dec_as R hM _ P1 yn k1 RA6.out hc1 (by have := LN.out; omega) HDN.out).mono ?_
      rintro e w7 ⟨rfl, B7⟩
      have XA7 := Lib.hid (XA6.out.below B7.out XA6.out.lt)
      have XM7 := Lib.hid (XM6.out.below B7.out XM6.out.lt)
      have RA7 := Lib.hid (RA6.out.below B7.out)
      have RB7 := Lib.hid (RB6.out.below B7.out)
      have HW7 := Lib.hid (HW6.out.trans (B7.out.mono HW6.out.size))
      clear B7 XA6 XM6 HW6 RA6 RB6
      have HG1 : Hid (Blk (w7.alloc (.cells #[.int .i64 0, .int .i64 0, .int .i64 0, .int .i64 0, .int .u64 0, .bool false] 25)) w7.heap.size 25 [.int .i64 0, .int .i64 0, .int .i64 0, .int .i64 0, .int .u64 0, .bool false]) := Blk.new w7 _ _
      go_upto_region 17 with (refine wpList_store_row rfl 25 (.tmp 13) (.tmp 86) rfl w7.heap.size #[.int .i64 (p1 : Nat), .int .i64 1, .int .i64 (p2 : Nat), .int .i64 (p3 : Nat), .int .u64 (t1 : Nat), .bool shut] rfl rfl 25 #[.int .i64 0, .int .i64 0, .int .i64 0, .int .i64 0, .int .u64 0, .bool false] HG1.out rfl rfl rfl ?_)
      clear HG1
      have B8 : Hid (Below w7.heap.size w7 (w7.alloc (.cells #[.int .i64 (p1 : Nat), .int .i64 1, .int .i64 (p2 : Nat), .int .i64 (p3 : Nat), .int .u64 (t1 : Nat), .bool shut] 25))) := below_new w7 _
      have XX8 : Hid (Blk (w7.alloc (.cells #[.int .i64 (p1 : Nat), .int .i64 1, .int .i64 (p2 : Nat), .int .i64 (p3 : Nat), .int .u64 (t1 : Nat), .bool shut] 25)) w7.heap.size 25 [.int .i64 (p1 : Nat), .int .i64 1, .int .i64 (p2 : Nat), .int .i64 (p3 : Nat), .int .u64 (t1 : Nat), .bool shut]) := Blk.new w7 _ _
      have XA8 := Lib.hid (XA7.out.below B8.out XA7.out.lt)
      have XM8 := Lib.hid (XM7.out.below B8.out XM7.out.lt)
      have RA8 := Lib.hid (RA7.out.below B8.out)
      have RB8 := Lib.hid (RB7.out.below B8.out)
      have HW8 := Lib.hid (HW7.out.trans (B8.out.mono HW7.out.size))
      clear B8 XA7 XM7 HW7 RA7 RB7
      refine wp_world (fun W => Hid (Blk W w7.heap.size 25 [.int .i64 (p1 : Nat), .int .i64 1, .int .i64 (p2 : Nat), .int .i64 (p3 : Nat), .int .u64 (t1 : Nat), .bool shut]) ∧ Hid (Blk W w2.heap.size 25 [.int .i64 (p1 : Nat), .int .i64 1, .int .i64 (p2 : Nat), .int .i64 (p3 : Nat), .int .u64 ((t1 + (1 + r) : Nat) : Int), .bool shut]) ∧ Hid (Blk W w.heap.size 25 [.int .i64 (p1 : Nat), .int .i64 1, .int .i64 (p2 : Nat), .int .i64 (p3 : Nat), .int .u64 (t1 : Nat), .bool shut]) ∧ Hid (Below w.heap.size w W) ∧ Hid (Rd W P1 yn) ∧ Hid (Rd W P2 ym)) ⟨XX8, XM8, XA8, HW8, RA8, RB8⟩ ?_
      clear XX8 XM8 XA8 HW8 RA8 RB8
      rintro w9 ⟨XX9, XM9, XA9, HW9, RA9, RB9⟩
      go_wp2_with fail
      refine (dec_as R hM _ P2 ym k2 RB9.out hc2 (by have := LM.out; omega) HDM.out).mono ?_
      rintro e w10 ⟨rfl, B10⟩
      have XA10 := Lib.hid (XA9.out.below B10.out XA9.out.lt)
      have XM10 := Lib.hid (XM9.out.below B10.out XM9.out.lt)
      have XX10 := Lib.hid (XX9.out.below B10.out XX9.out.lt)
      have RA10 := Lib.hid (RA9.out.below B10.out)
      have RB10 := Lib.hid (RB9.out.below B10.out)
      have HW10 := Lib.hid (HW9.out.trans (B10.out.mono HW9.out.size))
      clear B10 XA9 XM9 HW9 XX9 RA9 RB9
      have HG1 : Hid (Blk (w10.alloc (.cells #[.int .i64 0, .int .i64 0, .int .i64 0, .int .i64 0, .int .u64 0, .bool false] 25)) w10.heap.size 25 [.int .i64 0, .int .i64 0, .int .i64 0, .int .i64 0, .int .u64 0, .bool false]) := Blk.new w10 _ _
      go_upto_region 18 with (refine wpList_store_row rfl 25 (.tmp 15) (.tmp 91) rfl w10.heap.size #[.int .i64 (p1 : Nat), .int .i64 1, .int .i64 (p2 : Nat), .int .i64 (p3 : Nat), .int .u64 ((t1 + (1 + r) : Nat) : Int), .bool shut] rfl rfl 25 #[.int .i64 0, .int .i64 0, .int .i64 0, .int .i64 0, .int .u64 0, .bool false] HG1.out rfl rfl rfl ?_)
      clear HG1
      have B11 : Hid (Below w10.heap.size w10 (w10.alloc (.cells #[.int .i64 (p1 : Nat), .int .i64 1, .int .i64 (p2 : Nat), .int .i64 (p3 : Nat), .int .u64 ((t1 + (1 + r) : Nat) : Int), .bool shut] 25))) := below_new w10 _
      have XY11 : Hid (Blk (w10.alloc (.cells #[.int .i64 (p1 : Nat), .int .i64 1, .int .i64 (p2 : Nat), .int .i64 (p3 : Nat), .int .u64 ((t1 + (1 + r) : Nat) : Int), .bool shut] 25)) w10.heap.size 25 [.int .i64 (p1 : Nat), .int .i64 1, .int .i64 (p2 : Nat), .int .i64 (p3 : Nat), .int .u64 ((t1 + (1 + r) : Nat) : Int), .bool shut]) := Blk.new w10 _ _
      have XA11 := Lib.hid (XA10.out.below B11.out XA10.out.lt)
      have XM11 := Lib.hid (XM10.out.below B11.out XM10.out.lt)
      have XX11 := Lib.hid (XX10.out.below B11.out XX10.out.lt)
      have RA11 := Lib.hid (RA10.out.below B11.out)
      have RB11 := Lib.hid (RB10.out.below B11.out)
      have HW11 := Lib.hid (HW10.out.trans (B11.out.mono HW10.out.size))
      clear B11 XA10 XM10 HW10 XX10 RA10 RB10
      refine wp_world (fun W => Hid (Blk W w10.heap.size 25 [.int .i64 (p1 : Nat), .int .i64 1, .int .i64 (p2 : Nat), .int .i64 (p3 : Nat), .int .u64 ((t1 + (1 + r) : Nat) : Int), .bool shut]) ∧ Hid (Blk W w7.heap.size 25 [.int .i64 (p1 : Nat), .int .i64 1, .int .i64 (p2 : Nat), .int .i64 (p3 : Nat), .int .u64 (t1 : Nat), .bool shut]) ∧ Hid (Blk W w2.heap.size 25 [.int .i64 (p1 : Nat), .int .i64 1, .int .i64 (p2 : Nat), .int .i64 (p3 : Nat), .int .u64 ((t1 + (1 + r) : Nat) : Int), .bool shut]) ∧ Hid (Blk W w.heap.size 25 [.int .i64 (p1 : Nat), .int .i64 1, .int .i64 (p2 : Nat), .int .i64 (p3 : Nat), .int .u64 (t1 : Nat), .bool shut]) ∧ Hid (Below w.heap.size w W) ∧ Hid (Rd W P1 yn) ∧ Hid (Rd W P2 ym)) ⟨XY11, XX11, XM11, XA11, HW11, RA11, RB11⟩ ?_
      clear XY11 XX11 XM11 XA11 HW11 RA11 RB11
      rintro w12 ⟨XY, XX, XM, XA, HW, RA, RB⟩
      have c0 : w12.cell? ⟨w.heap.size, 0, none⟩ = some (.int .i64 (p1 : Nat)) := XA.out.cell 0
      have c1 : w12.cell? ⟨w.heap.size, 1, none⟩ = some (.int .i64 1) := XA.out.cell 1
      have c2 : w12.cell? ⟨w.heap.size, 2, none⟩ = some (.int .i64 (p2 : Nat)) := XA.out.cell 2
      have c3 : w12.cell? ⟨w.heap.size, 3, none⟩ = some (.int .i64 (p3 : Nat)) := XA.out.cell 3
      have c4 : w12.cell? ⟨w.heap.size, 4, none⟩ = some (.int .u64 (t1 : Nat)) := XA.out.cell 4
      have c5 : w12.cell? ⟨w.heap.size, 5, none⟩ = some (.bool shut) := XA.out.cell 5
      have d0 : w12.cell? ⟨w2.heap.size, 0, none⟩ = some (.int .i64 (p1 : Nat)) := XM.out.cell 0
      have d1 : w12.cell? ⟨w2.heap.size, 1, none⟩ = some (.int .i64 1) := XM.out.cell 1
      have d2 : w12.cell? ⟨w2.heap.size, 2, none⟩ = some (.int .i64 (p2 : Nat)) := XM.out.cell 2
      have d3 : w12.cell? ⟨w2.heap.size, 3, none⟩ = some (.int .i64 (p3 : Nat)) := XM.out.cell 3
      have d4 : w12.cell? ⟨w2.heap.size, 4, none⟩ = some (.int .u64 ((t1 + (1 + r) : Nat) : Int)) := XM.out.cell 4
      have d5 : w12.cell? ⟨w2.heap.size, 5, none⟩ = some (.bool shut) := XM.out.cell 5
      have h0 : w12.cell? ⟨w7.heap.size, 0, none⟩ = some (.int .i64 (p1 : Nat)) := XX.out.cell 0
      have h1 : w12.cell? ⟨w7.heap.size, 1, none⟩ = some (.int .i64 1) := XX.out.cell 1
      have h2 : w12.cell? ⟨w7.heap.size, 2, none⟩ = some (.int .i64 (p2 : Nat)) := XX.out.cell 2
      have h3 : w12.cell? ⟨w7.heap.size, 3, none⟩ = some (.int .i64 (p3 : Nat)) := XX.out.cell 3
      have h4 : w12.cell? ⟨w7.heap.size, 4, none⟩ = some (.int .u64 (t1 : Nat)) := XX.out.cell 4
      have h5 : w12.cell? ⟨w7.heap.size, 5, none⟩ = some (.bool shut) := XX.out.cell 5
      have g0 : w12.cell? ⟨w10.heap.size, 0, none⟩ = some (.int .i64 (p1 : Nat)) := XY.out.cell 0
      have g1 : w12.cell? ⟨w10.heap.size, 1, none⟩ = some (.int .i64 1) := XY.out.cell 1
      have g2 : w12.cell? ⟨w10.heap.size, 2, none⟩ = some (.int .i64 (p2 : Nat)) := XY.out.cell 2
      have g3 : w12.cell? ⟨w10.heap.size, 3, none⟩ = some (.int .i64 (p3 : Nat)) := XY.out.cell 3
      have g4 : w12.cell? ⟨w10.heap.size, 4, none⟩ = some (.int .u64 ((t1 + (1 + r) : Nat) : Int)) := XY.out.cell 4
      have g5 : w12.cell? ⟨w10.heap.size, 5, none⟩ = some (.bool shut) := XY.out.cell 5
      have hs1 := str_any w12 P1 yn k1 RA.out
      have hs2 := str_any w12 P2 ym k2 RB.out
      have hns := HNS.out
      have hnq := HNQ.out
      have cz : ((0 : Nat) : Int) = 0 := rfl
      clear XY XX XM XA RA RB HRN HRM HYN HYM HNQ HNS HDN HDM LN LM
      go_wp2_with fail
      clear hs1 hs2 hns hnq c0 c1 c2 c3 c4 c5 d0 d1 d2 d3 d4 d5 h0 h1 h2 h3 h4 h5 g0 g1 g2 g3 g4 g5
      refine (known10_any C _).mono ?_
      rintro e w13 ⟨rfl, hb⟩
      have HF := Lib.hid (HW.out.trans (hb.mono HW.out.size))
      clear hb
      go_wp2_with fail
      go_ret
      exact ⟨rfl, HF.out⟩
    · clear lq
      have HRN : Hid (Nd.Right ⟨(p1 : Nat), 1, (p2 : Nat), (p3 : Nat), t1, shut⟩) := ⟨by dsimp only; omega, by dsimp only; omega, by dsimp only; omega, by dsimp only; omega, by dsimp only; omega, by dsimp only; omega, by dsimp only; omega, .inl rfl⟩
      have HRM : Hid (Nd.Right ⟨(p1 : Nat), 1, (p2 : Nat), (p3 : Nat), t1, !shut⟩) := ⟨by dsimp only; omega, by dsimp only; omega, by dsimp only; omega, by dsimp only; omega, by dsimp only; omega, by dsimp only; omega, by dsimp only; omega, .inl rfl⟩
      have hne : (⟨(p1 : Nat), 1, (p2 : Nat), (p3 : Nat), t1, shut⟩ : Nd) ≠ ⟨(p1 : Nat), 1, (p2 : Nat), (p3 : Nat), t1, !shut⟩ := by
        intro e
        injection e with e1 e2 e3 e4 e5 e6
        cases shut <;> cases e6
      obtain ⟨yn, hyn⟩ : ∃ y, Nd.bytes ⟨(p1 : Nat), 1, (p2 : Nat), (p3 : Nat), t1, shut⟩ = y := ⟨_, rfl⟩
      obtain ⟨ym, hym⟩ : ∃ y, Nd.bytes ⟨(p1 : Nat), 1, (p2 : Nat), (p3 : Nat), t1, !shut⟩ = y := ⟨_, rfl⟩
      have HYN := Lib.hid hyn
      have HYM := Lib.hid hym
      have HNQ : Hid (∀ w, (binOp .neq 25 (.agg #[.int .i64 (p1 : Nat), .int .i64 1, .int .i64 (p2 : Nat), .int .i64 (p3 : Nat), .int .u64 (t1 : Nat), .bool shut]) (.agg #[.int .i64 (p1 : Nat), .int .i64 1, .int .i64 (p2 : Nat), .int .i64 (p3 : Nat), .int .u64 (t1 : Nat), .bool (!shut)])).run Try.prog w = .ok (.bool true) w) := fun w => nd_neq ⟨(p1 : Nat), 1, (p2 : Nat), (p3 : Nat), t1, shut⟩ ⟨(p1 : Nat), 1, (p2 : Nat), (p3 : Nat), t1, !shut⟩ hne w
      have HNS : Hid (((strOf yn).toList == (strOf ym).toList) = false) := str_ne (by subst hyn hym; exact fun e => hne (Nd.bytes_inj HRN.out HRM.out e))
      have HDN : Hid (ndDec yn = (⟨(p1 : Nat), 1, (p2 : Nat), (p3 : Nat), t1, shut⟩, 0)) := by show _ = _; rw [← hyn]; exact ndDec_bytes _ HRN.out
      have HDM : Hid (ndDec ym = (⟨(p1 : Nat), 1, (p2 : Nat), (p3 : Nat), t1, !shut⟩, 0)) := by show _ = _; rw [← hym]; exact ndDec_bytes _ HRM.out
      have LN : Hid (yn.length = 16) := by show _ = _; rw [← hyn]; exact Nd.bytes_length _
      have LM : Hid (ym.length = 16) := by show _ = _; rw [← hym]; exact Nd.bytes_length _
      clear hyn hym hne
      go_upto_region 14 with (fail)
      clear c0 c1 c2 c3 c4 c5 f0 f1 f2 f3 f4 f5
      have XM4 : Hid (Blk (w3.setCell ⟨w2.heap.size, 5, none⟩ (.bool (!shut))) w2.heap.size 25 [.int .i64 (p1 : Nat), .int .i64 1, .int .i64 (p2 : Nat), .int .i64 (p3 : Nat), .int .u64 (t1 : Nat), .bool (!shut)]) := by
        have hh := XM.out.set_ 5 (.bool (!shut))
        exact hh
      have XA4 : Hid (Blk (w3.setCell ⟨w2.heap.size, 5, none⟩ (.bool (!shut))) w.heap.size 25 [.int .i64 (p1 : Nat), .int .i64 1, .int .i64 (p2 : Nat), .int .i64 (p3 : Nat), .int .u64 (t1 : Nat), .bool shut]) := XA.out.far HNE.out _
      have HW4 : Hid (Below w.heap.size w (w3.setCell ⟨w2.heap.size, 5, none⟩ (.bool (!shut)))) := below_set1 HW.out HGE.out _ _
      refine wp_world (fun W => Hid (Blk W w2.heap.size 25 [.int .i64 (p1 : Nat), .int .i64 1, .int .i64 (p2 : Nat), .int .i64 (p3 : Nat), .int .u64 (t1 : Nat), .bool (!shut)]) ∧ Hid (Blk W w.heap.size 25 [.int .i64 (p1 : Nat), .int .i64 1, .int .i64 (p2 : Nat), .int .i64 (p3 : Nat), .int .u64 (t1 : Nat), .bool shut]) ∧ Hid (Below w.heap.size w W)) ⟨XM4, XA4, HW4⟩ ?_
      clear XM4 XA4 HW4 XM XA HW
      rintro w4 ⟨XM4, XA4, HW4⟩
      have c0 : w4.cell? ⟨w.heap.size, 0, none⟩ = some (.int .i64 (p1 : Nat)) := XA4.out.cell 0
      have c1 : w4.cell? ⟨w.heap.size, 1, none⟩ = some (.int .i64 1) := XA4.out.cell 1
      have c2 : w4.cell? ⟨w.heap.size, 2, none⟩ = some (.int .i64 (p2 : Nat)) := XA4.out.cell 2
      have c3 : w4.cell? ⟨w.heap.size, 3, none⟩ = some (.int .i64 (p3 : Nat)) := XA4.out.cell 3
      have c4 : w4.cell? ⟨w.heap.size, 4, none⟩ = some (.int .u64 (t1 : Nat)) := XA4.out.cell 4
      have c5 : w4.cell? ⟨w.heap.size, 5, none⟩ = some (.bool shut) := XA4.out.cell 5
      go_wp2_with fail
      clear c0 c1 c2 c3 c4 c5
      refine (enc_list C _ HRN.out HYN.out).mono ?_
      rintro e w5 ⟨P1, k1, rfl, hc1, RA5, B5⟩
      have XA5 := Lib.hid (XA4.out.below B5.out XA4.out.lt)
      have XM5 := Lib.hid (XM4.out.below B5.out XM4.out.lt)
      have HW5 := Lib.hid (HW4.out.trans (B5.out.mono HW4.out.size))
      clear B5 XA4 XM4 HW4
      have c0 : w5.cell? ⟨w2.heap.size, 0, none⟩ = some (.int .i64 (p1 : Nat)) := XM5.out.cell 0
      have c1 : w5.cell? ⟨w2.heap.size, 1, none⟩ = some (.int .i64 1) := XM5.out.cell 1
      have c2 : w5.cell? ⟨w2.heap.size, 2, none⟩ = some (.int .i64 (p2 : Nat)) := XM5.out.cell 2
      have c3 : w5.cell? ⟨w2.heap.size, 3, none⟩ = some (.int .i64 (p3 : Nat)) := XM5.out.cell 3
      have c4 : w5.cell? ⟨w2.heap.size, 4, none⟩ = some (.int .u64 (t1 : Nat)) := XM5.out.cell 4
      have c5 : w5.cell? ⟨w2.heap.size, 5, none⟩ = some (.bool (!shut)) := XM5.out.cell 5
      go_wp2_with fail
      clear c0 c1 c2 c3 c4 c5
      refine (enc_list C _ HRM.out HYM.out).mono ?_
      rintro e w6 ⟨P2, k2, rfl, hc2, RB6, B6⟩
      have XA6 := Lib.hid (XA5.out.below B6.out XA5.out.lt)
      have XM6 := Lib.hid (XM5.out.below B6.out XM5.out.lt)
      have RA6 := Lib.hid (RA5.out.below B6.out)
      have HW6 := Lib.hid (HW5.out.trans (B6.out.mono HW5.out.size))
      clear B6 XA5 XM5 HW5 RA5
      go_wp2_with fail
      refine (dec_as R hM _ P1 yn k1 RA6.out hc1 (by have := LN.out; omega) HDN.out).mono ?_
      rintro e w7 ⟨rfl, B7⟩
      have XA7 := Lib.hid (XA6.out.below B7.out XA6.out.lt)
      have XM7 := Lib.hid (XM6.out.below B7.out XM6.out.lt)
      have RA7 := Lib.hid (RA6.out.below B7.out)
      have RB7 := Lib.hid (RB6.out.below B7.out)
      have HW7 := Lib.hid (HW6.out.trans (B7.out.mono HW6.out.size))
      clear B7 XA6 XM6 HW6 RA6 RB6
      have HG1 : Hid (Blk (w7.alloc (.cells #[.int .i64 0, .int .i64 0, .int .i64 0, .int .i64 0, .int .u64 0, .bool false] 25)) w7.heap.size 25 [.int .i64 0, .int .i64 0, .int .i64 0, .int .i64 0, .int .u64 0, .bool false]) := Blk.new w7 _ _
      go_upto_region 17 with (refine wpList_store_row rfl 25 (.tmp 13) (.tmp 86) rfl w7.heap.size #[.int .i64 (p1 : Nat), .int .i64 1, .int .i64 (p2 : Nat), .int .i64 (p3 : Nat), .int .u64 (t1 : Nat), .bool shut] rfl rfl 25 #[.int .i64 0, .int .i64 0, .int .i64 0, .int .i64 0, .int .u64 0, .bool false] HG1.out rfl rfl rfl ?_)
      clear HG1
      have B8 : Hid (Below w7.heap.size w7 (w7.alloc (.cells #[.int .i64 (p1 : Nat), .int .i64 1, .int .i64 (p2 : Nat), .int .i64 (p3 : Nat), .int .u64 (t1 : Nat), .bool shut] 25))) := below_new w7 _
      have XX8 : Hid (Blk (w7.alloc (.cells #[.int .i64 (p1 : Nat), .int .i64 1, .int .i64 (p2 : Nat), .int .i64 (p3 : Nat), .int .u64 (t1 : Nat), .bool shut] 25)) w7.heap.size 25 [.int .i64 (p1 : Nat), .int .i64 1, .int .i64 (p2 : Nat), .int .i64 (p3 : Nat), .int .u64 (t1 : Nat), .bool shut]) := Blk.new w7 _ _
      have XA8 := Lib.hid (XA7.out.below B8.out XA7.out.lt)
      have XM8 := Lib.hid (XM7.out.below B8.out XM7.out.lt)
      have RA8 := Lib.hid (RA7.out.below B8.out)
      have RB8 := Lib.hid (RB7.out.below B8.out)
      have HW8 := Lib.hid (HW7.out.trans (B8.out.mono HW7.out.size))
      clear B8 XA7 XM7 HW7 RA7 RB7
      refine wp_world (fun W => Hid (Blk W w7.heap.size 25 [.int .i64 (p1 : Nat), .int .i64 1, .int .i64 (p2 : Nat), .int .i64 (p3 : Nat), .int .u64 (t1 : Nat), .bool shut]) ∧ Hid (Blk W w2.heap.size 25 [.int .i64 (p1 : Nat), .int .i64 1, .int .i64 (p2 : Nat), .int .i64 (p3 : Nat), .int .u64 (t1 : Nat), .bool (!shut)]) ∧ Hid (Blk W w.heap.size 25 [.int .i64 (p1 : Nat), .int .i64 1, .int .i64 (p2 : Nat), .int .i64 (p3 : Nat), .int .u64 (t1 : Nat), .bool shut]) ∧ Hid (Below w.heap.size w W) ∧ Hid (Rd W P1 yn) ∧ Hid (Rd W P2 ym)) ⟨XX8, XM8, XA8, HW8, RA8, RB8⟩ ?_
      clear XX8 XM8 XA8 HW8 RA8 RB8
      rintro w9 ⟨XX9, XM9, XA9, HW9, RA9, RB9⟩
      go_wp2_with fail
      refine (dec_as R hM _ P2 ym k2 RB9.out hc2 (by have := LM.out; omega) HDM.out).mono ?_
      rintro e w10 ⟨rfl, B10⟩
      have XA10 := Lib.hid (XA9.out.below B10.out XA9.out.lt)
      have XM10 := Lib.hid (XM9.out.below B10.out XM9.out.lt)
      have XX10 := Lib.hid (XX9.out.below B10.out XX9.out.lt)
      have RA10 := Lib.hid (RA9.out.below B10.out)
      have RB10 := Lib.hid (RB9.out.below B10.out)
      have HW10 := Lib.hid (HW9.out.trans (B10.out.mono HW9.out.size))
      clear B10 XA9 XM9 HW9 XX9 RA9 RB9
      have HG1 : Hid (Blk (w10.alloc (.cells #[.int .i64 0, .int .i64 0, .int .i64 0, .int .i64 0, .int .u64 0, .bool false] 25)) w10.heap.size 25 [.int .i64 0, .int .i64 0, .int .i64 0, .int .i64 0, .int .u64 0, .bool false]) := Blk.new w10 _ _
      go_upto_region 18 with (refine wpList_store_row rfl 25 (.tmp 15) (.tmp 91) rfl w10.heap.size #[.int .i64 (p1 : Nat), .int .i64 1, .int .i64 (p2 : Nat), .int .i64 (p3 : Nat), .int .u64 (t1 : Nat), .bool (!shut)] rfl rfl 25 #[.int .i64 0, .int .i64 0, .int .i64 0, .int .i64 0, .int .u64 0, .bool false] HG1.out rfl rfl rfl ?_)
      clear HG1
      have B11 : Hid (Below w10.heap.size w10 (w10.alloc (.cells #[.int .i64 (p1 : Nat), .int .i64 1, .int .i64 (p2 : Nat), .int .i64 (p3 : Nat), .int .u64 (t1 : Nat), .bool (!shut)] 25))) := below_new w10 _
      have XY11 : Hid (Blk (w10.alloc (.cells #[.int .i64 (p1 : Nat), .int .i64 1, .int .i64 (p2 : Nat), .int .i64 (p3 : Nat), .int .u64 (t1 : Nat), .bool (!shut)] 25)) w10.heap.size 25 [.int .i64 (p1 : Nat), .int .i64 1, .int .i64 (p2 : Nat), .int .i64 (p3 : Nat), .int .u64 (t1 : Nat), .bool (!shut)]) := Blk.new w10 _ _
      have XA11 := Lib.hid (XA10.out.below B11.out XA10.out.lt)
      have XM11 := Lib.hid (XM10.out.below B11.out XM10.out.lt)
      have XX11 := Lib.hid (XX10.out.below B11.out XX10.out.lt)
      have RA11 := Lib.hid (RA10.out.below B11.out)
      have RB11 := Lib.hid (RB10.out.below B11.out)
      have HW11 := Lib.hid (HW10.out.trans (B11.out.mono HW10.out.size))
      clear B11 XA10 XM10 HW10 XX10 RA10 RB10
      refine wp_world (fun W => Hid (Blk W w10.heap.size 25 [.int .i64 (p1 : Nat), .int .i64 1, .int .i64 (p2 : Nat), .int .i64 (p3 : Nat), .int .u64 (t1 : Nat), .bool (!shut)]) ∧ Hid (Blk W w7.heap.size 25 [.int .i64 (p1 : Nat), .int .i64 1, .int .i64 (p2 : Nat), .int .i64 (p3 : Nat), .int .u64 (t1 : Nat), .bool shut]) ∧ Hid (Blk W w2.heap.size 25 [.int .i64 (p1 : Nat), .int .i64 1, .int .i64 (p2 : Nat), .int .i64 (p3 : Nat), .int .u64 (t1 : Nat), .bool (!shut)]) ∧ Hid (Blk W w.heap.size 25 [.int .i64 (p1 : Nat), .int .i64 1, .int .i64 (p2 : Nat), .int .i64 (p3 : Nat), .int .u64 (t1 : Nat), .bool shut]) ∧ Hid (Below w.heap.size w W) ∧ Hid (Rd W P1 yn) ∧ Hid (Rd W P2 ym)) ⟨XY11, XX11, XM11, XA11, HW11, RA11, RB11⟩ ?_
      clear XY11 XX11 XM11 XA11 HW11 RA11 RB11
      rintro w12 ⟨XY, XX, XM, XA, HW, RA, RB⟩
      have c0 : w12.cell? ⟨w.heap.size, 0, none⟩ = some (.int .i64 (p1 : Nat)) := XA.out.cell 0
      have c1 : w12.cell? ⟨w.heap.size, 1, none⟩ = some (.int .i64 1) := XA.out.cell 1
      have c2 : w12.cell? ⟨w.heap.size, 2, none⟩ = some (.int .i64 (p2 : Nat)) := XA.out.cell 2
      have c3 : w12.cell? ⟨w.heap.size, 3, none⟩ = some (.int .i64 (p3 : Nat)) := XA.out.cell 3
      have c4 : w12.cell? ⟨w.heap.size, 4, none⟩ = some (.int .u64 (t1 : Nat)) := XA.out.cell 4
      have c5 : w12.cell? ⟨w.heap.size, 5, none⟩ = some (.bool shut) := XA.out.cell 5
      have d0 : w12.cell? ⟨w2.heap.size, 0, none⟩ = some (.int .i64 (p1 : Nat)) := XM.out.cell 0
      have d1 : w12.cell? ⟨w2.heap.size, 1, none⟩ = some (.int .i64 1) := XM.out.cell 1
      have d2 : w12.cell? ⟨w2.heap.size, 2, none⟩ = some (.int .i64 (p2 : Nat)) := XM.out.cell 2
      have d3 : w12.cell? ⟨w2.heap.size, 3, none⟩ = some (.int .i64 (p3 : Nat)) := XM.out.cell 3
      have d4 : w12.cell? ⟨w2.heap.size, 4, none⟩ = some (.int .u64 (t1 : Nat)) := XM.out.cell 4
      have d5 : w12.cell? ⟨w2.heap.size, 5, none⟩ = some (.bool (!shut)) := XM.out.cell 5
      have h0 : w12.cell? ⟨w7.heap.size, 0, none⟩ = some (.int .i64 (p1 : Nat)) := XX.out.cell 0
      have h1 : w12.cell? ⟨w7.heap.size, 1, none⟩ = some (.int .i64 1) := XX.out.cell 1
      have h2 : w12.cell? ⟨w7.heap.size, 2, none⟩ = some (.int .i64 (p2 : Nat)) := XX.out.cell 2
      have h3 : w12.cell? ⟨w7.heap.size, 3, none⟩ = some (.int .i64 (p3 : Nat)) := XX.out.cell 3
      have h4 : w12.cell? ⟨w7.heap.size, 4, none⟩ = some (.int .u64 (t1 : Nat)) := XX.out.cell 4
      have h5 : w12.cell? ⟨w7.heap.size, 5, none⟩ = some (.bool shut) := XX.out.cell 5
      have g0 : w12.cell? ⟨w10.heap.size, 0, none⟩ = some (.int .i64 (p1 : Nat)) := XY.out.cell 0
      have g1 : w12.cell? ⟨w10.heap.size, 1, none⟩ = some (.int .i64 1) := XY.out.cell 1
      have g2 : w12.cell? ⟨w10.heap.size, 2, none⟩ = some (.int .i64 (p2 : Nat)) := XY.out.cell 2
      have g3 : w12.cell? ⟨w10.heap.size, 3, none⟩ = some (.int .i64 (p3 : Nat)) := XY.out.cell 3
      have g4 : w12.cell? ⟨w10.heap.size, 4, none⟩ = some (.int .u64 (t1 : Nat)) := XY.out.cell 4
      have g5 : w12.cell? ⟨w10.heap.size, 5, none⟩ = some (.bool (!shut)) := XY.out.cell 5
      have hs1 := str_any w12 P1 yn k1 RA.out
      have hs2 := str_any w12 P2 ym k2 RB.out
      have hns := HNS.out
      have hnq := HNQ.out
      have cz : ((0 : Nat) : Int) = 0 := rfl
      clear XY XX XM XA RA RB HRN HRM HYN HYM HNQ HNS HDN HDM LN LM
      go_wp2_with fail
      clear hs1 hs2 hns hnq c0 c1 c2 c3 c4 c5 d0 d1 d2 d3 d4 d5 h0 h1 h2 h3 h4 h5 g0 g1 g2 g3 g4 g5
      refine (known10_any C _).mono ?_
      rintro e w13 ⟨rfl, hb⟩
      have HF := Lib.hid (HW.out.trans (hb.mono HW.out.size))
      clear hb
      go_wp2_with fail
      go_ret
      exact ⟨rfl, HF.out⟩
end Go.Proofs.Ytopcipaaffpiaaa

/-
  OWN WORK. TsSave, TrHang, Arg, ReCode, ReFrame, CrRef, CrEnv, BaCut, BaWithin, CrSaid, CrHalf, CrLaid, CrCode, ReRefP, ReRefW, ReSize, ReRefEnc
-/
import Derived.Test.YtmcbpgbiephllaaDoorW02
import Derived.Test.YtmcbpgbiephllaaDoorW03
import Derived.Test.YtmcbpgbiephllaaDoorWCpWCode
import Derived.Lib.ConvBytes
import Derived.Test.YtmcbpgbiephllaaDoorW01

namespace Go.Proofs.YtmcbpgbiephllaaDoor
open Go.RowKit Rc
open Tr (Nm En T)
namespace Tr
end Tr
namespace Tm
variable {p : Nat} {av : Value} {gs : List Nat} {S : Nat → Prop} {t : T} {w : World}
end Tm
end Go.Proofs.YtmcbpgbiephllaaDoor

namespace Go.Proofs.YtmcbpgbiephllaaDoor
open Go.RowKit Rc
open Tr (Nm En T)
namespace Tm
def SOwn (w : World) (v : Value) (l : List Bs) : Prop := w.ownsRow 0 9 1 v l.length (txtCells l)
theorem SOwn.nil (w : World) : SOwn w (.slice none 0 0) [] := ⟨rfl, .inl ⟨rfl, rfl⟩⟩
theorem SOwn.keep {w w' : World} {v : Value} {l : List Bs} (h : SOwn w v l) (hb : ∀ b, v.ownBlock = some b → w'.heap[b]? = w.heap[b]?) : SOwn w' v l := own_keep h hb
theorem SOwn.lt {w : World} {v : Value} {l : List Bs} (h : SOwn w v l) {b : Nat} (hb : v.ownBlock = some b) : b < w.heap.size := (own_blk h hb).2.1
end Tm
end Go.Proofs.YtmcbpgbiephllaaDoor

namespace Go.Proofs.YtmcbpgbiephllaaDoor
open Go.RowKit Rc
namespace Ag
section
variable {F : Nat → Rc.Fact} {cons : List (Nat × Nat)} {E : Nat → (Nat → Value) → Value → Prop} {V : Nat → Value} {S : Nat → Nat → Prop} {j : Nat} {o : Oper} {b : Act} {w : World}
end
end Ag
end Go.Proofs.YtmcbpgbiephllaaDoor

namespace Go.Proofs.YtmcbpgbiephllaaDoor
open Go.RowKit Rc
namespace Re
def val (r : Rec) (A : Option Addr) (c : Nat) : Value := .agg #[.int .i64 r.kind, .int .u64 (r.seq : Nat), .slice A r.body.length c]
theorem isKind_any (k : Int) (w : World) : Calls Tryd.prog 35 #[.int .i64 k] w fun e w' => e = .returned (.bool (decide (k = 1 ∨ k = 2))) ∧ w = w' := by
  by_cases h1 : k = 1
  · subst h1
    go_enter Tryd.func35, Tryd.ntmps35
    go_wp2
    go_ret
    exact ⟨rfl, rfl⟩
  · by_cases h2 : k = 2
    · subst h2
      go_enter Tryd.func35, Tryd.ntmps35
      go_wp2
      go_ret
      exact ⟨rfl, rfl⟩
    · have hd : decide (k = 1 ∨ k = 2) = false := by simp [h1, h2]
      have hd2 : (k == 1 || k == 2) = false := by simp [h1, h2]
      rw [hd]
      go_enter Tryd.func35, Tryd.ntmps35
      go_wp2
      go_ret
      exact ⟨rfl, rfl⟩
def most (k : Int) : Int := if k = 2 then 0 else 900
theorem mostBody_any (k : Int) (w : World) : Calls Tryd.prog 41 #[.int .i64 k] w fun e w' => e = .returned (.int .i64 (most k)) ∧ w = w' := by
  by_cases h2 : k = 2
  · subst h2
    go_enter Tryd.func41, Tryd.ntmps41
    go_wp2
    go_ret
    exact ⟨rfl, rfl⟩
  · have hm : most k = 900 := if_neg h2
    rw [hm]
    go_enter Tryd.func41, Tryd.ntmps41
    go_wp2
    go_ret
    exact ⟨rfl, rfl⟩
set_option maxHeartbeats 2000000 in
set_option maxRecDepth 100000 in
theorem re_right_any (r : Rec) (A : Option Addr) (c : Nat) (w : World) : Calls Tryd.prog 23 #[val r A c] w fun e w' => e = .returned (.bool (decide (Right r))) ∧ Below w.heap.size w w' := by
  obtain ⟨k, q, b⟩ := r
  have HYY : Hid (∀ h : Bool, (h = true ↔ Right ⟨k, q, b⟩) → decide (Right ⟨k, q, b⟩) = h) := fun h hh => by
    rw [Bool.eq_iff_iff]; simpa using hh.symm
  unfold val
  dsimp only
  obtain ⟨W0, hW0⟩ : ∃ W0, W0 = w.alloc (.cells #[.int .i64 k, .int .u64 (q : Nat), .slice A b.length c] 27) := ⟨_, rfl⟩
  obtain ⟨g, hg⟩ : ∃ g, g = w.heap.size := ⟨_, rfl⟩
  have HB0 : Hid (Blk W0 g 27 [.int .i64 k, .int .u64 (q : Nat), .slice A b.length c]) := by show Blk _ _ _ _; rw [hW0, hg]; exact Blk.new w _ _
  have HBW : Hid (Below w.heap.size w W0) := by show Below _ _ _; rw [hW0]; exact below_new w _
  have HIK : Hid (∀ W, Calls Tryd.prog 35 #[.int .i64 k] W fun e w' => e = .returned (.bool (decide (k = 1 ∨ k = 2))) ∧ Below W.heap.size W w') := fun W => (isKind_any k W).mono fun e w' ⟨h, hw⟩ => by subst hw; exact ⟨h, Below.refl _ _⟩
  have HMB : Hid (∀ W, Calls Tryd.prog 41 #[.int .i64 k] W fun e w' => e = .returned (.int .i64 (most k)) ∧ Below W.heap.size W w') := fun W => (mostBody_any k W).mono fun e w' ⟨h, hw⟩ => by subst hw; exact ⟨h, Below.refl _ _⟩
  have HMO : Hid (most k = if k = 2 then 0 else 900) := rfl
  go_enter Tryd.func23, Tryd.ntmps23
  go_upto_region 1 with (fail)
  rw [← hW0, ← hg]
  clear hW0 hg
  by_cases hk : k = 1 ∨ k = 2
  · rw [decide_eq_true hk] at HIK
    have HK := Lib.hid hk
    clear hk
    by_cases hq : (q : Int) ≤ 1099511627776
    · have HQ := Lib.hid hq
      clear hq
      refine Rc.wp_region (by kernel_rfl) (fun opn => List.getD [Rc.val (.pointer (some ⟨g, 0, none⟩)), Rc.val (.int .i64 k), Rc.val (.bool true), Rc.val (.bool true), Rc.val (.pointer (some ⟨g, 1, none⟩)), Rc.val (.int .u64 (q : Nat)), Rc.val (.bool true), Rc.val (.bool true), Rc.val (.bool true), Rc.val (.pointer (some ⟨g, 2, none⟩)), Rc.val (.slice A b.length c), Rc.val (.int .i64 (b.length : Nat)), Rc.val (.pointer (some ⟨g, 0, none⟩)), Rc.val (.int .i64 k), Rc.val (.int .i64 (most k)), Rc.val (.bool (decide ((b.length : Int) ≤ most k))), Rc.val (.bool (decide ((b.length : Int) ≤ most k))), Rc.val (.bool (decide ((b.length : Int) ≤ most k)))] opn Rc.any) 0 [] [[], [(0, 3)], [(1, 4)], [(2, 5)], [(3, 6)], [(3, 6), (4, 7)], [(3, 6), (5, 8)], [(3, 6), (6, 9)], [(7, 10)], [(8, 11)], [(8, 11), (9, 12)], [(8, 11), (10, 13)], [(8, 11)], [(8, 11), (12, 15)], [(8, 11), (13, 16)], [(8, 11), (11, 14), (14, 17)], [(8, 11), (15, 18)], [(16, 19)]] [[], [0], [1], [2], [3], [3, 4], [3, 5], [3, 6], [7], [8], [8, 9], [8, 10], [8], [8, 12], [8, 13], [8, 11, 14], [8, 15], [16]] [[], [0], [1], [2], [3], [3, 4], [3, 5], [3, 6], [7], [8], [8, 9], [8, 10], [8], [8, 12], [8, 13], [8, 11, 14], [8, 15], [16]] [] (by kernel_rfl) (by rfl) (by kernel_rfl) (fun _ => False) (fun _ _ => False) Rc.Inv.none ?_ ?_
      · intro fr ha
        have hz : fr.tmps.size = 20 := by rw [ha]; rfl
        have y1 : fr.eval (.tmp 1) = .pointer (some ⟨g, 0, none⟩) := by rw [ha]; rfl
        have y2 : fr.eval (.tmp 2) = .bool false := by rw [ha]; rfl
        clear ha
        refine .cons ?_ (.cons ?_ (.cons ?_ (.cons ?_ (.cons ?_ (.cons ?_ (.cons ?_ (.cons ?_ (.cons ?_ (.cons ?_ (.cons ?_ (.cons ?_ (.cons ?_ (.cons ?_ (.cons ?_ (.cons ?_ (.cons ?_ (.cons ?_ (.nil))))))))))))))))))
        · intro V S w2 HM HU HE
          have lw : Below W0.heap.size W0 w2 := Rc.Mod.below HM (fun _ h => h.elim)
          have tb1 : (Rg.putUse V [] fr).eval (.tmp 1) = .pointer (some ⟨g, 0, none⟩) := (Rg.use_eval V fr 1 [] (by simp only [hz]; decide)).trans y1
          show Rg.Does1 _ _ V (Rg.putUse V [] fr) w2 _
          exact Ob.rc_mv (.pointer (some ⟨g, 0, none⟩)) (by simp only [execOp, tb1]; go_simp) rfl rfl True.intro
        · intro V S w2 HM HU HE
          have lw : Below W0.heap.size W0 w2 := Rc.Mod.below HM (fun _ h => h.elim)
          have h0 : V 0 = .pointer (some ⟨g, 0, none⟩) := HU.holds 0 (by decide)
          have tb3 : (Rg.putUse V [(0, 3)] fr).eval (.tmp 3) = .pointer (some ⟨g, 0, none⟩) := (Rg.use_eval V fr 3 [(0, 3)] (by simp only [hz]; decide)).trans h0
          show Rg.Does1 _ _ V (Rg.putUse V [(0, 3)] fr) w2 _
          have cl := (lw.cell (p := ⟨g, 0, none⟩) HB0.out.lt).trans (HB0.out.cell 0)
          exact Ob.rc_mv (.int .i64 k) (by simp only [execOp, tb3]; go_simp) rfl rfl True.intro
        · intro V S w2 HM HU HE
          have lw : Below W0.heap.size W0 w2 := Rc.Mod.below HM (fun _ h => h.elim)
          have h1 : V 1 = .int .i64 k := HU.holds 1 (by decide)
          have tb4 : (Rg.putUse V [(1, 4)] fr).eval (.tmp 4) = .int .i64 k := (Rg.use_eval V fr 4 [(1, 4)] (by simp only [hz]; decide)).trans h1
          show Rg.Does1 _ _ V (Rg.putUse V [(1, 4)] fr) w2 _
          exact Ob.step_tell (.bool true) #[.int .i64 k] (fun args w => Rg.call_enter Tryd.func35 (by kernel_rfl) (by kernel_rfl) args w) rfl (by simp only [List.map_toArray, List.map_cons, List.map_nil, tb4]) rfl (fun x => Rg.alias_none rfl V x) True.intro (HIK.out w2)
        · intro V S w2 HM HU HE
          have lw : Below W0.heap.size W0 w2 := Rc.Mod.below HM (fun _ h => h.elim)
          have h2 : V 2 = .bool true := HU.holds 2 (by decide)
          have tb5 : (Rg.putUse V [(2, 5)] fr).eval (.tmp 5) = .bool true := (Rg.use_eval V fr 5 [(2, 5)] (by simp only [hz]; decide)).trans h2
          show Rg.Does1 _ _ V (Rg.putUse V [(2, 5)] fr) w2 _
          exact Ob.rc_mv (.bool true) (by simp only [execOp, tb5]; go_simp) rfl rfl True.intro
        · intro V S w2 HM HU HE
          have lw : Below W0.heap.size W0 w2 := Rc.Mod.below HM (fun _ h => h.elim)
          have h3 : V 3 = .bool true := HU.holds 3 (by decide)
          have tb1 : (Rg.putUse V [(3, 6)] fr).eval (.tmp 1) = .pointer (some ⟨g, 0, none⟩) := (Rg.use_eval V fr 1 [(3, 6)] (by simp only [hz]; decide)).trans y1
          show Rg.Does1 _ _ V (Rg.putUse V [(3, 6)] fr) w2 _
          exact Ob.rc_mv (.pointer (some ⟨g, 1, none⟩)) (by simp only [execOp, tb1]; go_simp) rfl rfl h3
        · intro V S w2 HM HU HE
          have lw : Below W0.heap.size W0 w2 := Rc.Mod.below HM (fun _ h => h.elim)
          have h3 : V 3 = .bool true := HU.holds 3 (by decide)
          have h4 : V 4 = .pointer (some ⟨g, 1, none⟩) := HU.holds 4 (by decide)
          have tb7 : (Rg.putUse V [(3, 6), (4, 7)] fr).eval (.tmp 7) = .pointer (some ⟨g, 1, none⟩) := (Rg.use_eval V fr 7 [(3, 6), (4, 7)] (by simp only [hz]; decide)).trans h4
          show Rg.Does1 _ _ V (Rg.putUse V [(3, 6), (4, 7)] fr) w2 _
          have cl := (lw.cell (p := ⟨g, 1, none⟩) HB0.out.lt).trans (HB0.out.cell 1)
          exact Ob.rc_mv (.int .u64 (q : Nat)) (by simp only [execOp, tb7]; go_simp) rfl rfl h3
        · intro V S w2 HM HU HE
          have lw : Below W0.heap.size W0 w2 := Rc.Mod.below HM (fun _ h => h.elim)
          have h3 : V 3 = .bool true := HU.holds 3 (by decide)
          have h5 : V 5 = .int .u64 (q : Nat) := HU.holds 5 (by decide)
          have tb8 : (Rg.putUse V [(3, 6), (5, 8)] fr).eval (.tmp 8) = .int .u64 (q : Nat) := (Rg.use_eval V fr 8 [(3, 6), (5, 8)] (by simp only [hz]; decide)).trans h5
          show Rg.Does1 _ _ V (Rg.putUse V [(3, 6), (5, 8)] fr) w2 _
          have hq := HQ.out
          exact Ob.rc_mv (.bool true) (by simp only [execOp, tb8]; go_simp) rfl rfl h3
        · intro V S w2 HM HU HE
          have lw : Below W0.heap.size W0 w2 := Rc.Mod.below HM (fun _ h => h.elim)
          have h3 : V 3 = .bool true := HU.holds 3 (by decide)
          have tb6 : (Rg.putUse V [(3, 6), (6, 9)] fr).eval (.tmp 6) = .bool true := (Rg.use_eval V fr 6 [(3, 6), (6, 9)] (by simp only [hz]; decide)).trans h3
          have h6 : V 6 = .bool true := HU.holds 6 (by decide)
          have tb9 : (Rg.putUse V [(3, 6), (6, 9)] fr).eval (.tmp 9) = .bool true := (Rg.use_eval V fr 9 [(3, 6), (6, 9)] (by simp only [hz]; decide)).trans h6
          show Rg.Does1 _ _ V (Rg.putUse V [(3, 6), (6, 9)] fr) w2 _
          exact Ob.rc_mv (.bool true) (by simp only [execOp, tb6, tb9]; go_simp) rfl rfl True.intro
        · intro V S w2 HM HU HE
          have lw : Below W0.heap.size W0 w2 := Rc.Mod.below HM (fun _ h => h.elim)
          have h7 : V 7 = .bool true := HU.holds 7 (by decide)
          have tb10 : (Rg.putUse V [(7, 10)] fr).eval (.tmp 10) = .bool true := (Rg.use_eval V fr 10 [(7, 10)] (by simp only [hz]; decide)).trans h7
          show Rg.Does1 _ _ V (Rg.putUse V [(7, 10)] fr) w2 _
          exact Ob.rc_mv (.bool true) (by simp only [execOp, tb10]; go_simp) rfl rfl True.intro
        · intro V S w2 HM HU HE
          have lw : Below W0.heap.size W0 w2 := Rc.Mod.below HM (fun _ h => h.elim)
          have h8 : V 8 = .bool true := HU.holds 8 (by decide)
          have tb1 : (Rg.putUse V [(8, 11)] fr).eval (.tmp 1) = .pointer (some ⟨g, 0, none⟩) := (Rg.use_eval V fr 1 [(8, 11)] (by simp only [hz]; decide)).trans y1
          show Rg.Does1 _ _ V (Rg.putUse V [(8, 11)] fr) w2 _
          exact Ob.rc_mv (.pointer (some ⟨g, 2, none⟩)) (by simp only [execOp, tb1]; go_simp) rfl rfl h8
        · intro V S w2 HM HU HE
          have lw : Below W0.heap.size W0 w2 := Rc.Mod.below HM (fun _ h => h.elim)
          have h8 : V 8 = .bool true := HU.holds 8 (by decide)
          have h9 : V 9 = .pointer (some ⟨g, 2, none⟩) := HU.holds 9 (by decide)
          have tb12 : (Rg.putUse V [(8, 11), (9, 12)] fr).eval (.tmp 12) = .pointer (some ⟨g, 2, none⟩) := (Rg.use_eval V fr 12 [(8, 11), (9, 12)] (by simp only [hz]; decide)).trans h9
          show Rg.Does1 _ _ V (Rg.putUse V [(8, 11), (9, 12)] fr) w2 _
          have cl := (lw.cell (p := ⟨g, 2, none⟩) HB0.out.lt).trans (HB0.out.cell 2)
          exact Ob.rc_mv (.slice A b.length c) (by simp only [execOp, tb12]; go_simp) rfl rfl h8
        · intro V S w2 HM HU HE
          have lw : Below W0.heap.size W0 w2 := Rc.Mod.below HM (fun _ h => h.elim)
          have h8 : V 8 = .bool true := HU.holds 8 (by decide)
          have h10 : V 10 = .slice A b.length c := HU.holds 10 (by decide)
          have tb13 : (Rg.putUse V [(8, 11), (10, 13)] fr).eval (.tmp 13) = .slice A b.length c := (Rg.use_eval V fr 13 [(8, 11), (10, 13)] (by simp only [hz]; decide)).trans h10
          show Rg.Does1 _ _ V (Rg.putUse V [(8, 11), (10, 13)] fr) w2 _
          exact Ob.rc_mv (.int .i64 (b.length : Nat)) (by simp only [execOp, resolve, List.map_toArray, List.map_cons, List.map_nil, tb13]; go_simp) rfl rfl h8
        · intro V S w2 HM HU HE
          have lw : Below W0.heap.size W0 w2 := Rc.Mod.below HM (fun _ h => h.elim)
          have h8 : V 8 = .bool true := HU.holds 8 (by decide)
          have tb1 : (Rg.putUse V [(8, 11)] fr).eval (.tmp 1) = .pointer (some ⟨g, 0, none⟩) := (Rg.use_eval V fr 1 [(8, 11)] (by simp only [hz]; decide)).trans y1
          show Rg.Does1 _ _ V (Rg.putUse V [(8, 11)] fr) w2 _
          exact Ob.rc_mv (.pointer (some ⟨g, 0, none⟩)) (by simp only [execOp, tb1]; go_simp) rfl rfl h8
        · intro V S w2 HM HU HE
          have lw : Below W0.heap.size W0 w2 := Rc.Mod.below HM (fun _ h => h.elim)
          have h8 : V 8 = .bool true := HU.holds 8 (by decide)
          have h12 : V 12 = .pointer (some ⟨g, 0, none⟩) := HU.holds 12 (by decide)
          have tb15 : (Rg.putUse V [(8, 11), (12, 15)] fr).eval (.tmp 15) = .pointer (some ⟨g, 0, none⟩) := (Rg.use_eval V fr 15 [(8, 11), (12, 15)] (by simp only [hz]; decide)).trans h12
          show Rg.Does1 _ _ V (Rg.putUse V [(8, 11), (12, 15)] fr) w2 _
          have cl := (lw.cell (p := ⟨g, 0, none⟩) HB0.out.lt).trans (HB0.out.cell 0)
          exact Ob.rc_mv (.int .i64 k) (by simp only [execOp, tb15]; go_simp) rfl rfl h8
        · intro V S w2 HM HU HE
          have lw : Below W0.heap.size W0 w2 := Rc.Mod.below HM (fun _ h => h.elim)
          have h8 : V 8 = .bool true := HU.holds 8 (by decide)
          have h13 : V 13 = .int .i64 k := HU.holds 13 (by decide)
          have tb16 : (Rg.putUse V [(8, 11), (13, 16)] fr).eval (.tmp 16) = .int .i64 k := (Rg.use_eval V fr 16 [(8, 11), (13, 16)] (by simp only [hz]; decide)).trans h13
          show Rg.Does1 _ _ V (Rg.putUse V [(8, 11), (13, 16)] fr) w2 _
          exact Ob.step_tell (.int .i64 (most k)) #[.int .i64 k] (fun args w => Rg.call_enter Tryd.func41 (by kernel_rfl) (by kernel_rfl) args w) rfl (by simp only [List.map_toArray, List.map_cons, List.map_nil, tb16]) rfl (fun x => Rg.alias_none rfl V x) h8 (HMB.out w2)
        · intro V S w2 HM HU HE
          have lw : Below W0.heap.size W0 w2 := Rc.Mod.below HM (fun _ h => h.elim)
          have h8 : V 8 = .bool true := HU.holds 8 (by decide)
          have h11 : V 11 = .int .i64 (b.length : Nat) := HU.holds 11 (by decide)
          have tb14 : (Rg.putUse V [(8, 11), (11, 14), (14, 17)] fr).eval (.tmp 14) = .int .i64 (b.length : Nat) := (Rg.use_eval V fr 14 [(8, 11), (11, 14), (14, 17)] (by simp only [hz]; decide)).trans h11
          have h14 : V 14 = .int .i64 (most k) := HU.holds 14 (by decide)
          have tb17 : (Rg.putUse V [(8, 11), (11, 14), (14, 17)] fr).eval (.tmp 17) = .int .i64 (most k) := (Rg.use_eval V fr 17 [(8, 11), (11, 14), (14, 17)] (by simp only [hz]; decide)).trans h14
          show Rg.Does1 _ _ V (Rg.putUse V [(8, 11), (11, 14), (14, 17)] fr) w2 _
          exact Ob.rc_mv (.bool (decide ((b.length : Int) ≤ most k))) (by simp only [execOp, tb14, tb17]; go_simp) rfl rfl h8
        · intro V S w2 HM HU HE
          have lw : Below W0.heap.size W0 w2 := Rc.Mod.below HM (fun _ h => h.elim)
          have h8 : V 8 = .bool true := HU.holds 8 (by decide)
          have tb11 : (Rg.putUse V [(8, 11), (15, 18)] fr).eval (.tmp 11) = .bool true := (Rg.use_eval V fr 11 [(8, 11), (15, 18)] (by simp only [hz]; decide)).trans h8
          have h15 : V 15 = .bool (decide ((b.length : Int) ≤ most k)) := HU.holds 15 (by decide)
          have tb18 : (Rg.putUse V [(8, 11), (15, 18)] fr).eval (.tmp 18) = .bool (decide ((b.length : Int) ≤ most k)) := (Rg.use_eval V fr 18 [(8, 11), (15, 18)] (by simp only [hz]; decide)).trans h15
          show Rg.Does1 _ _ V (Rg.putUse V [(8, 11), (15, 18)] fr) w2 _
          exact Ob.rc_mv (.bool (decide ((b.length : Int) ≤ most k))) (by simp only [execOp, tb11, tb18]; go_simp) rfl rfl True.intro
        · intro V S w2 HM HU HE
          have lw : Below W0.heap.size W0 w2 := Rc.Mod.below HM (fun _ h => h.elim)
          have h16 : V 16 = .bool (decide ((b.length : Int) ≤ most k)) := HU.holds 16 (by decide)
          have tb19 : (Rg.putUse V [(16, 19)] fr).eval (.tmp 19) = .bool (decide ((b.length : Int) ≤ most k)) := (Rg.use_eval V fr 19 [(16, 19)] (by simp only [hz]; decide)).trans h16
          show Rg.Does1 _ _ V (Rg.putUse V [(16, 19)] fr) w2 _
          exact Ob.rc_mv (.bool (decide ((b.length : Int) ≤ most k))) (by simp only [execOp, tb19]; go_simp) rfl rfl True.intro
      intro V S w2 HI
      have HL2 : Hid (Below W0.heap.size W0 w2) := Rc.Mod.below HI.mod.undrew (fun _ h => h.elim)
      have hw17 : V 17 = .bool (decide ((b.length : Int) ≤ most k)) := HI.get 17 (by decide) (by rfl)
      simp only [Rg.putList, Act.put, List.setIfInBounds_toArray, List.set_cons_zero, List.set_cons_succ, Nat.zero_add, Nat.reduceAdd]
      rw [hw17]
      clear HI hw17

      go_wp2_with fail
      go_ret
      refine ⟨congrArg (fun b => Ending.returned (Value.bool b)) (HYY.out ((decide ((b.length : Int) ≤ most k))) ?_).symm, Later.trans HBW.out HL2.out⟩
      · have := HK.out
        have := HQ.out
        rw [HMO.out]
        unfold Right
        dsimp only
        rcases HK.out with h | h
        · subst h; simp; omega
        · subst h; simp; omega
    · have HQ := Lib.hid hq
      clear hq
      refine Rc.wp_region (by kernel_rfl) (fun opn => List.getD [Rc.val (.pointer (some ⟨g, 0, none⟩)), Rc.val (.int .i64 k), Rc.val (.bool true), Rc.val (.bool true), Rc.val (.pointer (some ⟨g, 1, none⟩)), Rc.val (.int .u64 (q : Nat)), Rc.val (.bool false), Rc.val (.bool false), Rc.val (.bool false), Rc.val (undef), Rc.val (undef), Rc.val (undef), Rc.val (undef), Rc.val (undef), Rc.val (undef), Rc.val (undef), Rc.val (.bool false), Rc.val (.bool false)] opn Rc.any) 0 [] [[], [(0, 3)], [(1, 4)], [(2, 5)], [(3, 6)], [(3, 6), (4, 7)], [(3, 6), (5, 8)], [(3, 6), (6, 9)], [(7, 10)], [(8, 11)], [(8, 11), (9, 12)], [(8, 11), (10, 13)], [(8, 11)], [(8, 11), (12, 15)], [(8, 11), (13, 16)], [(8, 11), (11, 14), (14, 17)], [(8, 11), (15, 18)], [(16, 19)]] [[], [0], [1], [2], [3], [3, 4], [3, 5], [3, 6], [7], [8], [8, 9], [8, 10], [8], [8, 12], [8, 13], [8, 11, 14], [8, 15], [16]] [[], [0], [1], [2], [3], [3, 4], [3, 5], [3, 6], [7], [8], [8, 9], [8, 10], [8], [8, 12], [8, 13], [8, 11, 14], [8, 15], [16]] [] (by kernel_rfl) (by rfl) (by kernel_rfl) (fun _ => False) (fun _ _ => False) Rc.Inv.none ?_ ?_
      · intro fr ha
        have hz : fr.tmps.size = 20 := by rw [ha]; rfl
        have y1 : fr.eval (.tmp 1) = .pointer (some ⟨g, 0, none⟩) := by rw [ha]; rfl
        have y2 : fr.eval (.tmp 2) = .bool false := by rw [ha]; rfl
        clear ha
        refine .cons ?_ (.cons ?_ (.cons ?_ (.cons ?_ (.cons ?_ (.cons ?_ (.cons ?_ (.cons ?_ (.cons ?_ (.cons ?_ (.cons ?_ (.cons ?_ (.cons ?_ (.cons ?_ (.cons ?_ (.cons ?_ (.cons ?_ (.cons ?_ (.nil))))))))))))))))))
        · intro V S w2 HM HU HE
          have lw : Below W0.heap.size W0 w2 := Rc.Mod.below HM (fun _ h => h.elim)
          have tb1 : (Rg.putUse V [] fr).eval (.tmp 1) = .pointer (some ⟨g, 0, none⟩) := (Rg.use_eval V fr 1 [] (by simp only [hz]; decide)).trans y1
          show Rg.Does1 _ _ V (Rg.putUse V [] fr) w2 _
          exact Ob.rc_mv (.pointer (some ⟨g, 0, none⟩)) (by simp only [execOp, tb1]; go_simp) rfl rfl True.intro
        · intro V S w2 HM HU HE
          have lw : Below W0.heap.size W0 w2 := Rc.Mod.below HM (fun _ h => h.elim)
          have h0 : V 0 = .pointer (some ⟨g, 0, none⟩) := HU.holds 0 (by decide)
          have tb3 : (Rg.putUse V [(0, 3)] fr).eval (.tmp 3) = .pointer (some ⟨g, 0, none⟩) := (Rg.use_eval V fr 3 [(0, 3)] (by simp only [hz]; decide)).trans h0
          show Rg.Does1 _ _ V (Rg.putUse V [(0, 3)] fr) w2 _
          have cl := (lw.cell (p := ⟨g, 0, none⟩) HB0.out.lt).trans (HB0.out.cell 0)
          exact Ob.rc_mv (.int .i64 k) (by simp only [execOp, tb3]; go_simp) rfl rfl True.intro
        · intro V S w2 HM HU HE
          have lw : Below W0.heap.size W0 w2 := Rc.Mod.below HM (fun _ h => h.elim)
          have h1 : V 1 = .int .i64 k := HU.holds 1 (by decide)
          have tb4 : (Rg.putUse V [(1, 4)] fr).eval (.tmp 4) = .int .i64 k := (Rg.use_eval V fr 4 [(1, 4)] (by simp only [hz]; decide)).trans h1
          show Rg.Does1 _ _ V (Rg.putUse V [(1, 4)] fr) w2 _
          exact Ob.step_tell (.bool true) #[.int .i64 k] (fun args w => Rg.call_enter Tryd.func35 (by kernel_rfl) (by kernel_rfl) args w) rfl (by simp only [List.map_toArray, List.map_cons, List.map_nil, tb4]) rfl (fun x => Rg.alias_none rfl V x) True.intro (HIK.out w2)
        · intro V S w2 HM HU HE
          have lw : Below W0.heap.size W0 w2 := Rc.Mod.below HM (fun _ h => h.elim)
          have h2 : V 2 = .bool true := HU.holds 2 (by decide)
          have tb5 : (Rg.putUse V [(2, 5)] fr).eval (.tmp 5) = .bool true := (Rg.use_eval V fr 5 [(2, 5)] (by simp only [hz]; decide)).trans h2
          show Rg.Does1 _ _ V (Rg.putUse V [(2, 5)] fr) w2 _
          exact Ob.rc_mv (.bool true) (by simp only [execOp, tb5]; go_simp) rfl rfl True.intro
        · intro V S w2 HM HU HE
          have lw : Below W0.heap.size W0 w2 := Rc.Mod.below HM (fun _ h => h.elim)
          have h3 : V 3 = .bool true := HU.holds 3 (by decide)
          have tb1 : (Rg.putUse V [(3, 6)] fr).eval (.tmp 1) = .pointer (some ⟨g, 0, none⟩) := (Rg.use_eval V fr 1 [(3, 6)] (by simp only [hz]; decide)).trans y1
          show Rg.Does1 _ _ V (Rg.putUse V [(3, 6)] fr) w2 _
          exact Ob.rc_mv (.pointer (some ⟨g, 1, none⟩)) (by simp only [execOp, tb1]; go_simp) rfl rfl h3
        · intro V S w2 HM HU HE
          have lw : Below W0.heap.size W0 w2 := Rc.Mod.below HM (fun _ h => h.elim)
          have h3 : V 3 = .bool true := HU.holds 3 (by decide)
          have h4 : V 4 = .pointer (some ⟨g, 1, none⟩) := HU.holds 4 (by decide)
          have tb7 : (Rg.putUse V [(3, 6), (4, 7)] fr).eval (.tmp 7) = .pointer (some ⟨g, 1, none⟩) := (Rg.use_eval V fr 7 [(3, 6), (4, 7)] (by simp only [hz]; decide)).trans h4
          show Rg.Does1 _ _ V (Rg.putUse V [(3, 6), (4, 7)] fr) w2 _
          have cl := (lw.cell (p := ⟨g, 1, none⟩) HB0.out.lt).trans (HB0.out.cell 1)
          exact Ob.rc_mv (.int .u64 (q : Nat)) (by simp only [execOp, tb7]; go_simp) rfl rfl h3
        · intro V S w2 HM HU HE
          have lw : Below W0.heap.size W0 w2 := Rc.Mod.below HM (fun _ h => h.elim)
          have h3 : V 3 = .bool true := HU.holds 3 (by decide)
          have h5 : V 5 = .int .u64 (q : Nat) := HU.holds 5 (by decide)
          have tb8 : (Rg.putUse V [(3, 6), (5, 8)] fr).eval (.tmp 8) = .int .u64 (q : Nat) := (Rg.use_eval V fr 8 [(3, 6), (5, 8)] (by simp only [hz]; decide)).trans h5
          show Rg.Does1 _ _ V (Rg.putUse V [(3, 6), (5, 8)] fr) w2 _
          have hq := HQ.out
          exact Ob.rc_mv (.bool false) (by simp only [execOp, tb8]; go_simp) rfl rfl h3
        · intro V S w2 HM HU HE
          have lw : Below W0.heap.size W0 w2 := Rc.Mod.below HM (fun _ h => h.elim)
          have h3 : V 3 = .bool true := HU.holds 3 (by decide)
          have tb6 : (Rg.putUse V [(3, 6), (6, 9)] fr).eval (.tmp 6) = .bool true := (Rg.use_eval V fr 6 [(3, 6), (6, 9)] (by simp only [hz]; decide)).trans h3
          have h6 : V 6 = .bool false := HU.holds 6 (by decide)
          have tb9 : (Rg.putUse V [(3, 6), (6, 9)] fr).eval (.tmp 9) = .bool false := (Rg.use_eval V fr 9 [(3, 6), (6, 9)] (by simp only [hz]; decide)).trans h6
          show Rg.Does1 _ _ V (Rg.putUse V [(3, 6), (6, 9)] fr) w2 _
          exact Ob.rc_mv (.bool false) (by simp only [execOp, tb6, tb9]; go_simp) rfl rfl True.intro
        · intro V S w2 HM HU HE
          have lw : Below W0.heap.size W0 w2 := Rc.Mod.below HM (fun _ h => h.elim)
          have h7 : V 7 = .bool false := HU.holds 7 (by decide)
          have tb10 : (Rg.putUse V [(7, 10)] fr).eval (.tmp 10) = .bool false := (Rg.use_eval V fr 10 [(7, 10)] (by simp only [hz]; decide)).trans h7
          show Rg.Does1 _ _ V (Rg.putUse V [(7, 10)] fr) w2 _
          exact Ob.rc_mv (.bool false) (by simp only [execOp, tb10]; go_simp) rfl rfl True.intro
        · intro V S w2 HM HU HE
          have lw : Below W0.heap.size W0 w2 := Rc.Mod.below HM (fun _ h => h.elim)
          have h8 : V 8 = .bool false := HU.holds 8 (by decide)
          exact Rc.step_not rfl h8 (Rg.alias_none rfl V _) rfl
        · intro V S w2 HM HU HE
          have lw : Below W0.heap.size W0 w2 := Rc.Mod.below HM (fun _ h => h.elim)
          have h8 : V 8 = .bool false := HU.holds 8 (by decide)
          have h9 : V 9 = undef := HU.holds 9 (by decide)
          have tb12 : (Rg.putUse V [(8, 11), (9, 12)] fr).eval (.tmp 12) = undef := (Rg.use_eval V fr 12 [(8, 11), (9, 12)] (by simp only [hz]; decide)).trans h9
          exact Rc.step_not rfl h8 (Rg.alias_none rfl V _) rfl
        · intro V S w2 HM HU HE
          have lw : Below W0.heap.size W0 w2 := Rc.Mod.below HM (fun _ h => h.elim)
          have h8 : V 8 = .bool false := HU.holds 8 (by decide)
          have h10 : V 10 = undef := HU.holds 10 (by decide)
          have tb13 : (Rg.putUse V [(8, 11), (10, 13)] fr).eval (.tmp 13) = undef := (Rg.use_eval V fr 13 [(8, 11), (10, 13)] (by simp only [hz]; decide)).trans h10
          exact Rc.step_not rfl h8 (Rg.alias_none rfl V _) rfl
        · intro V S w2 HM HU HE
          have lw : Below W0.heap.size W0 w2 := Rc.Mod.below HM (fun _ h => h.elim)
          have h8 : V 8 = .bool false := HU.holds 8 (by decide)
          exact Rc.step_not rfl h8 (Rg.alias_none rfl V _) rfl
        · intro V S w2 HM HU HE
          have lw : Below W0.heap.size W0 w2 := Rc.Mod.below HM (fun _ h => h.elim)
          have h8 : V 8 = .bool false := HU.holds 8 (by decide)
          have h12 : V 12 = undef := HU.holds 12 (by decide)
          have tb15 : (Rg.putUse V [(8, 11), (12, 15)] fr).eval (.tmp 15) = undef := (Rg.use_eval V fr 15 [(8, 11), (12, 15)] (by simp only [hz]; decide)).trans h12
          exact Rc.step_not rfl h8 (Rg.alias_none rfl V _) rfl
        · intro V S w2 HM HU HE
          have lw : Below W0.heap.size W0 w2 := Rc.Mod.below HM (fun _ h => h.elim)
          have h8 : V 8 = .bool false := HU.holds 8 (by decide)
          have h13 : V 13 = undef := HU.holds 13 (by decide)
          have tb16 : (Rg.putUse V [(8, 11), (13, 16)] fr).eval (.tmp 16) = undef := (Rg.use_eval V fr 16 [(8, 11), (13, 16)] (by simp only [hz]; decide)).trans h13
          exact Rc.step_not rfl h8 (Rg.alias_none rfl V _) rfl
        · intro V S w2 HM HU HE
          have lw : Below W0.heap.size W0 w2 := Rc.Mod.below HM (fun _ h => h.elim)
          have h8 : V 8 = .bool false := HU.holds 8 (by decide)
          have h11 : V 11 = undef := HU.holds 11 (by decide)
          have tb14 : (Rg.putUse V [(8, 11), (11, 14), (14, 17)] fr).eval (.tmp 14) = undef := (Rg.use_eval V fr 14 [(8, 11), (11, 14), (14, 17)] (by simp only [hz]; decide)).trans h11
          have h14 : V 14 = undef := HU.holds 14 (by decide)
          have tb17 : (Rg.putUse V [(8, 11), (11, 14), (14, 17)] fr).eval (.tmp 17) = undef := (Rg.use_eval V fr 17 [(8, 11), (11, 14), (14, 17)] (by simp only [hz]; decide)).trans h14
          exact Rc.step_not rfl h8 (Rg.alias_none rfl V _) rfl
        · intro V S w2 HM HU HE
          have lw : Below W0.heap.size W0 w2 := Rc.Mod.below HM (fun _ h => h.elim)
          have h8 : V 8 = .bool false := HU.holds 8 (by decide)
          have tb11 : (Rg.putUse V [(8, 11), (15, 18)] fr).eval (.tmp 11) = .bool false := (Rg.use_eval V fr 11 [(8, 11), (15, 18)] (by simp only [hz]; decide)).trans h8
          have h15 : V 15 = undef := HU.holds 15 (by decide)
          have tb18 : (Rg.putUse V [(8, 11), (15, 18)] fr).eval (.tmp 18) = undef := (Rg.use_eval V fr 18 [(8, 11), (15, 18)] (by simp only [hz]; decide)).trans h15
          show Rg.Does1 _ _ V (Rg.putUse V [(8, 11), (15, 18)] fr) w2 _
          exact Ob.rc_mv (.bool false) (by simp only [execOp, tb11, tb18]; go_simp) rfl rfl True.intro
        · intro V S w2 HM HU HE
          have lw : Below W0.heap.size W0 w2 := Rc.Mod.below HM (fun _ h => h.elim)
          have h16 : V 16 = .bool false := HU.holds 16 (by decide)
          have tb19 : (Rg.putUse V [(16, 19)] fr).eval (.tmp 19) = .bool false := (Rg.use_eval V fr 19 [(16, 19)] (by simp only [hz]; decide)).trans h16
          show Rg.Does1 _ _ V (Rg.putUse V [(16, 19)] fr) w2 _
          exact Ob.rc_mv (.bool false) (by simp only [execOp, tb19]; go_simp) rfl rfl True.intro
      intro V S w2 HI
      have HL2 : Hid (Below W0.heap.size W0 w2) := Rc.Mod.below HI.mod.undrew (fun _ h => h.elim)
      have hw17 : V 17 = .bool false := HI.get 17 (by decide) (by rfl)
      simp only [Rg.putList, Act.put, List.setIfInBounds_toArray, List.set_cons_zero, List.set_cons_succ, Nat.zero_add, Nat.reduceAdd]
      rw [hw17]
      clear HI hw17

      go_wp2_with fail
      go_ret
      refine ⟨congrArg (fun b => Ending.returned (Value.bool b)) (HYY.out (false) ?_).symm, Later.trans HBW.out HL2.out⟩
      · have := HQ.out
        unfold Right
        dsimp only
        simp; omega
  · rw [decide_eq_false hk] at HIK
    have HK := Lib.hid hk
    clear hk
    refine Rc.wp_region (by kernel_rfl) (fun opn => List.getD [Rc.val (.pointer (some ⟨g, 0, none⟩)), Rc.val (.int .i64 k), Rc.val (.bool false), Rc.val (.bool false), Rc.val (undef), Rc.val (undef), Rc.val (undef), Rc.val (.bool false), Rc.val (.bool false), Rc.val (undef), Rc.val (undef), Rc.val (undef), Rc.val (undef), Rc.val (undef), Rc.val (undef), Rc.val (undef), Rc.val (.bool false), Rc.val (.bool false)] opn Rc.any) 0 [] [[], [(0, 3)], [(1, 4)], [(2, 5)], [(3, 6)], [(3, 6), (4, 7)], [(3, 6), (5, 8)], [(3, 6), (6, 9)], [(7, 10)], [(8, 11)], [(8, 11), (9, 12)], [(8, 11), (10, 13)], [(8, 11)], [(8, 11), (12, 15)], [(8, 11), (13, 16)], [(8, 11), (11, 14), (14, 17)], [(8, 11), (15, 18)], [(16, 19)]] [[], [0], [1], [2], [3], [3, 4], [3, 5], [3, 6], [7], [8], [8, 9], [8, 10], [8], [8, 12], [8, 13], [8, 11, 14], [8, 15], [16]] [[], [0], [1], [2], [3], [3, 4], [3, 5], [3, 6], [7], [8], [8, 9], [8, 10], [8], [8, 12], [8, 13], [8, 11, 14], [8, 15], [16]] [] (by kernel_rfl) (by rfl) (by kernel_rfl) (fun _ => False) (fun _ _ => False) Rc.Inv.none ?_ ?_
    · intro fr ha
      have hz : fr.tmps.size = 20 := by rw [ha]; rfl
      have y1 : fr.eval (.tmp 1) = .pointer (some ⟨g, 0, none⟩) := by rw [ha]; rfl
      have y2 : fr.eval (.tmp 2) = .bool false := by rw [ha]; rfl
      clear ha
      refine .cons ?_ (.cons ?_ (.cons ?_ (.cons ?_ (.cons ?_ (.cons ?_ (.cons ?_ (.cons ?_ (.cons ?_ (.cons ?_ (.cons ?_ (.cons ?_ (.cons ?_ (.cons ?_ (.cons ?_ (.cons ?_ (.cons ?_ (.cons ?_ (.nil))))))))))))))))))
      · intro V S w2 HM HU HE
        have lw : Below W0.heap.size W0 w2 := Rc.Mod.below HM (fun _ h => h.elim)
        have tb1 : (Rg.putUse V [] fr).eval (.tmp 1) = .pointer (some ⟨g, 0, none⟩) := (Rg.use_eval V fr 1 [] (by simp only [hz]; decide)).trans y1
        show Rg.Does1 _ _ V (Rg.putUse V [] fr) w2 _
        exact Ob.rc_mv (.pointer (some ⟨g, 0, none⟩)) (by simp only [execOp, tb1]; go_simp) rfl rfl True.intro
      · intro V S w2 HM HU HE
        have lw : Below W0.heap.size W0 w2 := Rc.Mod.below HM (fun _ h => h.elim)
        have h0 : V 0 = .pointer (some ⟨g, 0, none⟩) := HU.holds 0 (by decide)
        have tb3 : (Rg.putUse V [(0, 3)] fr).eval (.tmp 3) = .pointer (some ⟨g, 0, none⟩) := (Rg.use_eval V fr 3 [(0, 3)] (by simp only [hz]; decide)).trans h0
        show Rg.Does1 _ _ V (Rg.putUse V [(0, 3)] fr) w2 _
        have cl := (lw.cell (p := ⟨g, 0, none⟩) HB0.out.lt).trans (HB0.out.cell 0)
        exact Ob.rc_mv (.int .i64 k) (by simp only [execOp, tb3]; go_simp) rfl rfl True.intro
      · intro V S w2 HM HU HE
        have lw : Below W0.heap.size W0 w2 := Rc.Mod.below HM (fun _ h => h.elim)
        have h1 : V 1 = .int .i64 k := HU.holds 1 (by decide)
        have tb4 : (Rg.putUse V [(1, 4)] fr).eval (.tmp 4) = .int .i64 k := (Rg.use_eval V fr 4 [(1, 4)] (by simp only [hz]; decide)).trans h1
        show Rg.Does1 _ _ V (Rg.putUse V [(1, 4)] fr) w2 _
        exact Ob.step_tell (.bool false) #[.int .i64 k] (fun args w => Rg.call_enter Tryd.func35 (by kernel_rfl) (by kernel_rfl) args w) rfl (by simp only [List.map_toArray, List.map_cons, List.map_nil, tb4]) rfl (fun x => Rg.alias_none rfl V x) True.intro (HIK.out w2)
      · intro V S w2 HM HU HE
        have lw : Below W0.heap.size W0 w2 := Rc.Mod.below HM (fun _ h => h.elim)
        have h2 : V 2 = .bool false := HU.holds 2 (by decide)
        have tb5 : (Rg.putUse V [(2, 5)] fr).eval (.tmp 5) = .bool false := (Rg.use_eval V fr 5 [(2, 5)] (by simp only [hz]; decide)).trans h2
        show Rg.Does1 _ _ V (Rg.putUse V [(2, 5)] fr) w2 _
        exact Ob.rc_mv (.bool false) (by simp only [execOp, tb5]; go_simp) rfl rfl True.intro
      · intro V S w2 HM HU HE
        have lw : Below W0.heap.size W0 w2 := Rc.Mod.below HM (fun _ h => h.elim)
        have h3 : V 3 = .bool false := HU.holds 3 (by decide)
        exact Rc.step_not rfl h3 (Rg.alias_none rfl V _) rfl
      · intro V S w2 HM HU HE
        have lw : Below W0.heap.size W0 w2 := Rc.Mod.below HM (fun _ h => h.elim)
        have h3 : V 3 = .bool false := HU.holds 3 (by decide)
        have h4 : V 4 = undef := HU.holds 4 (by decide)
        have tb7 : (Rg.putUse V [(3, 6), (4, 7)] fr).eval (.tmp 7) = undef := (Rg.use_eval V fr 7 [(3, 6), (4, 7)] (by simp only [hz]; decide)).trans h4
        exact Rc.step_not rfl h3 (Rg.alias_none rfl V _) rfl
      · intro V S w2 HM HU HE
        have lw : Below W0.heap.size W0 w2 := Rc.Mod.below HM (fun _ h => h.elim)
        have h3 : V 3 = .bool false := HU.holds 3 (by decide)
        have h5 : V 5 = undef := HU.holds 5 (by decide)
        have tb8 : (Rg.putUse V [(3, 6), (5, 8)] fr).eval (.tmp 8) = undef := (Rg.use_eval V fr 8 [(3, 6), (5, 8)] (by simp only [hz]; decide)).trans h5
        exact Rc.step_not rfl h3 (Rg.alias_none rfl V _) rfl
      · intro V S w2 HM HU HE
        have lw : Below W0.heap.size W0 w2 := Rc.Mod.below HM (fun _ h => h.elim)
        have h3 : V 3 = .bool false := HU.holds 3 (by decide)
        have tb6 : (Rg.putUse V [(3, 6), (6, 9)] fr).eval (.tmp 6) = .bool false := (Rg.use_eval V fr 6 [(3, 6), (6, 9)] (by simp only [hz]; decide)).trans h3
        have h6 : V 6 = undef := HU.holds 6 (by decide)
        have tb9 : (Rg.putUse V [(3, 6), (6, 9)] fr).eval (.tmp 9) = undef := (Rg.use_eval V fr 9 [(3, 6), (6, 9)] (by simp only [hz]; decide)).trans h6
        show Rg.Does1 _ _ V (Rg.putUse V [(3, 6), (6, 9)] fr) w2 _
        exact Ob.rc_mv (.bool false) (by simp only [execOp, tb6, tb9]; go_simp) rfl rfl True.intro
      · intro V S w2 HM HU HE
        have lw : Below W0.heap.size W0 w2 := Rc.Mod.below HM (fun _ h => h.elim)
        have h7 : V 7 = .bool false := HU.holds 7 (by decide)
        have tb10 : (Rg.putUse V [(7, 10)] fr).eval (.tmp 10) = .bool false := (Rg.use_eval V fr 10 [(7, 10)] (by simp only [hz]; decide)).trans h7
        show Rg.Does1 _ _ V (Rg.putUse V [(7, 10)] fr) w2 _
        exact Ob.rc_mv (.bool false) (by simp only [execOp, tb10]; go_simp) rfl rfl True.intro
      · intro V S w2 HM HU HE
        have lw : Below W0.heap.size W0 w2 := Rc.Mod.below HM (fun _ h => h.elim)
        have h8 : V 8 = .bool false := HU.holds 8 (by decide)
        exact Rc.step_not rfl h8 (Rg.alias_none rfl V _) rfl
      · intro V S w2 HM HU HE
        have lw : Below W0.heap.size W0 w2 := Rc.Mod.below HM (fun _ h => h.elim)
        have h8 : V 8 = .bool false := HU.holds 8 (by decide)
        have h9 : V 9 = undef := HU.holds 9 (by decide)
        have tb12 : (Rg.putUse V [(8, 11), (9, 12)] fr).eval (.tmp 12) = undef := (Rg.use_eval V fr 12 [(8, 11), (9, 12)] (by simp only [hz]; decide)).trans h9
        exact Rc.step_not rfl h8 (Rg.alias_none rfl V _) rfl
      · intro V S w2 HM HU HE
        have lw : Below W0.heap.size W0 w2 := Rc.Mod.below HM (fun _ h => h.elim)
        have h8 : V 8 = .bool false := HU.holds 8 (by decide)
        have h10 : V 10 = undef := HU.holds 10 (by decide)
        have tb13 : (Rg.putUse V [(8, 11), (10, 13)] fr).eval (.tmp 13) = undef := (Rg.use_eval V fr 13 [(8, 11), (10, 13)] (by simp only [hz]; decide)).trans h10
        exact Rc.step_not rfl h8 (Rg.alias_none rfl V _) rfl
      · intro V S w2 HM HU HE
        have lw : Below W0.heap.size W0 w2 := Rc.Mod.below HM (fun _ h => h.elim)
        have h8 : V 8 = .bool false := HU.holds 8 (by decide)
        exact Rc.step_not rfl h8 (Rg.alias_none rfl V _) rfl
      · intro V S w2 HM HU HE
        have lw : Below W0.heap.size W0 w2 := Rc.Mod.below HM (fun _ h => h.elim)
        have h8 : V 8 = .bool false := HU.holds 8 (by decide)
        have h12 : V 12 = undef := HU.holds 12 (by decide)
        have tb15 : (Rg.putUse V [(8, 11), (12, 15)] fr).eval (.tmp 15) = undef := (Rg.use_eval V fr 15 [(8, 11), (12, 15)] (by simp only [hz]; decide)).trans h12
        exact Rc.step_not rfl h8 (Rg.alias_none rfl V _) rfl
      · intro V S w2 HM HU HE
        have lw : Below W0.heap.size W0 w2 := Rc.Mod.below HM (fun _ h => h.elim)
        have h8 : V 8 = .bool false := HU.holds 8 (by decide)
        have h13 : V 13 = undef := HU.holds 13 (by decide)
        have tb16 : (Rg.putUse V [(8, 11), (13, 16)] fr).eval (.tmp 16) = undef := (Rg.use_eval V fr 16 [(8, 11), (13, 16)] (by simp only [hz]; decide)).trans h13
        exact Rc.step_not rfl h8 (Rg.alias_none rfl V _) rfl
      · intro V S w2 HM HU HE
        have lw : Below W0.heap.size W0 w2 := Rc.Mod.below HM (fun _ h => h.elim)
        have h8 : V 8 = .bool false := HU.holds 8 (by decide)
        have h11 : V 11 = undef := HU.holds 11 (by decide)
        have tb14 : (Rg.putUse V [(8, 11), (11, 14), (14, 17)] fr).eval (.tmp 14) = undef := (Rg.use_eval V fr 14 [(8, 11), (11, 14), (14, 17)] (by simp only [hz]; decide)).trans h11
        have h14 : V 14 = undef := HU.holds 14 (by decide)
        have tb17 : (Rg.putUse V [(8, 11), (11, 14), (14, 17)] fr).eval (.tmp 17) = undef := (Rg.use_eval V fr 17 [(8, 11), (11, 14), (14, 17)] (by simp only [hz]; decide)).trans h14
        exact Rc.step_not rfl h8 (Rg.alias_none rfl V _) rfl
      · intro V S w2 HM HU HE
        have lw : Below W0.heap.size W0 w2 := Rc.Mod.below HM (fun _ h => h.elim)
        have h8 : V 8 = .bool false := HU.holds 8 (by decide)
        have tb11 : (Rg.putUse V [(8, 11), (15, 18)] fr).eval (.tmp 11) = .bool false := (Rg.use_eval V fr 11 [(8, 11), (15, 18)] (by simp only [hz]; decide)).trans h8
        have h15 : V 15 = undef := HU.holds 15 (by decide)
        have tb18 : (Rg.putUse V [(8, 11), (15, 18)] fr).eval (.tmp 18) = undef := (Rg.use_eval V fr 18 [(8, 11), (15, 18)] (by simp only [hz]; decide)).trans h15
        show Rg.Does1 _ _ V (Rg.putUse V [(8, 11), (15, 18)] fr) w2 _
        exact Ob.rc_mv (.bool false) (by simp only [execOp, tb11, tb18]; go_simp) rfl rfl True.intro
      · intro V S w2 HM HU HE
        have lw : Below W0.heap.size W0 w2 := Rc.Mod.below HM (fun _ h => h.elim)
        have h16 : V 16 = .bool false := HU.holds 16 (by decide)
        have tb19 : (Rg.putUse V [(16, 19)] fr).eval (.tmp 19) = .bool false := (Rg.use_eval V fr 19 [(16, 19)] (by simp only [hz]; decide)).trans h16
        show Rg.Does1 _ _ V (Rg.putUse V [(16, 19)] fr) w2 _
        exact Ob.rc_mv (.bool false) (by simp only [execOp, tb19]; go_simp) rfl rfl True.intro
    intro V S w2 HI
    have HL2 : Hid (Below W0.heap.size W0 w2) := Rc.Mod.below HI.mod.undrew (fun _ h => h.elim)
    have hw17 : V 17 = .bool false := HI.get 17 (by decide) (by rfl)
    simp only [Rg.putList, Act.put, List.setIfInBounds_toArray, List.set_cons_zero, List.set_cons_succ, Nat.zero_add, Nat.reduceAdd]
    rw [hw17]
    clear HI hw17

    go_wp2_with fail
    go_ret
    refine ⟨congrArg (fun b => Ending.returned (Value.bool b)) (HYY.out (false) ?_).symm, Later.trans HBW.out HL2.out⟩
    · have := HK.out
      unfold Right
      dsimp only
      simp; omega
end Re
end Go.Proofs.YtmcbpgbiephllaaDoor

namespace Go.Proofs.YtmcbpgbiephllaaDoor
open Go.ChangeShapes Go.WideShapes Go.RowKit Go.Deep
namespace Re
end Re
end Go.Proofs.YtmcbpgbiephllaaDoor

namespace Go.Proofs.YtmcbpgbiephllaaDoor
open Go.RowKit
namespace Cr
theorem stps_snoc : ∀ (n c : Nat), stps (n + 1) c = stp (stps n c)
  | 0, _ => rfl
  | n + 1, c => stps_snoc n (stp c)
theorem run_snoc (c : Nat) (l : List UInt8) (k : Nat) (h : k < l.length) : run c (l.take (k + 1)) = byt (run c (l.take k) ^^^ (l.getD k 0).toNat) := by
  rw [List.take_succ_eq_append_getElem h, run_append]
  simp [run, List.getD, List.getElem?_eq_getElem h]
theorem bits_xor_nat (a b : Nat) (ha : a < 4294967296) (hb : b < 4294967296) : bits .xor .u32 (a : Int) (b : Int) = ((a ^^^ b : Nat) : Int) := by
  show IntKind.u32.wrap ((BitVec.ofInt 32 (a : Int) ^^^ BitVec.ofInt 32 (b : Int)).toNat : Int) = _
  rw [IntKind.wrap_u32', BitVec.toNat_xor, BitVec.ofInt_natCast, BitVec.ofInt_natCast, BitVec.toNat_ofNat, BitVec.toNat_ofNat, Nat.mod_eq_of_lt ha, Nat.mod_eq_of_lt hb]
  have : a ^^^ b < 2 ^ 32 := Nat.xor_lt_two_pow ha hb
  omega
theorem bits_and_one (a : Nat) (ha : a < 4294967296) : bits .and .u32 (a : Int) 1 = ((a % 2 : Nat) : Int) := by
  show IntKind.u32.wrap ((BitVec.ofInt 32 (a : Int) &&& BitVec.ofInt 32 (1 : Int)).toNat : Int) = _
  rw [IntKind.wrap_u32', BitVec.toNat_and, BitVec.ofInt_natCast, BitVec.toNat_ofNat, Nat.mod_eq_of_lt ha, show (BitVec.ofInt 32 (1 : Int)).toNat = 1 by decide, Nat.and_one_is_mod]
  omega
end Cr
open Cr

set_option maxHeartbeats 1000000 in
set_option maxRecDepth 100000 in
theorem refSum_any (w : World) (l : List UInt8) (A : Option Addr) (cap : Nat) (hr : Rd w A l) (hl : l.length ≤ 1099511627776) :
    Calls Tryd.prog 21 #[.slice A l.length cap] w fun e w' => e = .returned (.int .u32 (Cr.sum l : Nat)) ∧ w = w' := by
  have HR : Hid (Rd w A l) := hr
  clear hr
  go_enter Tryd.func21, Tryd.ntmps21
  go_wp2_with fail
  go_loop [3, 4] (fun t3 t4 => ∃ (k c : Nat), k ≤ l.length ∧ t4 = .int .i64 (k : Nat) ∧ t3 = .int .u32 (c : Nat) ∧ Hid (c = run ones (l.take k))) (fun _ t4 => l.length - (intOf t4).toNat)
  case atStart => exact ⟨0, ones, by omega, rfl, rfl, rfl⟩
  case round =>
    obtain ⟨k, c, hk, rfl, rfl, HC⟩ := hrel
    have hc : c < 4294967296 := by rw [HC.out]; exact run_lt _ ones_lt
    by_cases hlt : k < l.length
    · obtain ⟨b, off, rfl, _, hcell⟩ := HR.out.at_ (by omega)
      have c0 := hcell k hlt
      obtain ⟨x, hx⟩ : ∃ x : Nat, x = (l.getD k 0).toNat := ⟨_, rfl⟩
      have hx8 : x < 256 := by rw [hx]; exact (l.getD k 0).toNat_lt
      rw [← hx] at c0
      have HX := Lib.hid hx
      have hxor := bits_xor_nat c x hc (by omega)
      clear hcell hx
      go_wp2_with fail
      go_loop [3, 5] (fun t3 t5 => ∃ (j d : Nat), j ≤ 8 ∧ t5 = .int .i64 (j : Nat) ∧ t3 = .int .u32 (d : Nat) ∧ Hid (d = stps j (c ^^^ x))) (fun _ t5 => 8 - (intOf t5).toNat)
      case atStart => exact ⟨0, c ^^^ x, by omega, rfl, rfl, rfl⟩
      case round =>
        obtain ⟨j, d, hj, rfl, rfl, HD⟩ := hrel
        have hd : d < 4294967296 := by rw [HD.out]; exact stps_lt j (Nat.xor_lt_two_pow hc (by omega))
        clear hxor
        by_cases hj8 : j < 8
        · have hand := bits_and_one d hd
          obtain ⟨e, he⟩ : ∃ e : Nat, e = d / 2 := ⟨_, rfl⟩
          have hd2 : ((d : Int) / 2) = (e : Int) := by omega
          have hp := bits_xor_nat e poly (by omega) (by decide)
          by_cases hodd : d % 2 = 1
          · rw [hodd] at hand
            have HS : Hid (stp d = e ^^^ poly) := by show _ = _; unfold stp; rw [if_pos hodd, he]
            have hpp : ((poly : Nat) : Int) = 3988292384 := rfl
            rw [hpp] at hp
            clear hpp hodd he
            go_wp2_with fail
            go_round
            case rel => exact ⟨j + 1, _, by omega, by go_num, rfl, by show _ = _; rw [stps_snoc, ← HD.out, HS.out]⟩
            case measure => simp [intOf]; omega
          · have hz : d % 2 = 0 := by omega
            rw [hz] at hand
            have HS : Hid (stp d = e) := by show _ = _; unfold stp; rw [if_neg hodd, he]
            clear hp hodd hz he
            go_wp2_with fail
            go_round
            case rel => exact ⟨j + 1, _, by omega, by go_num, rfl, by show _ = _; rw [stps_snoc, ← HD.out, HS.out]⟩
            case measure => simp [intOf]; omega
        · obtain rfl : j = 8 := by omega
          go_wp2_with fail
          go_round
          case rel => exact ⟨k + 1, d, by omega, by go_num, rfl, by show _ = _; rw [run_snoc _ _ _ hlt, ← HC.out, ← HX.out, HD.out]; rfl⟩
          case measure => simp [intOf]; omega
    · obtain rfl : k = l.length := by omega
      have hp := bits_xor_nat c ones hc (by decide)
      have hpp : ((ones : Nat) : Int) = 4294967295 := rfl
      rw [hpp] at hp
      have HCS : Hid (c ^^^ ones = Cr.sum l) := by show _ = _; rw [HC.out, List.take_length]; rfl
      clear hpp
      go_wp2_with fail
      go_ret
      exact ⟨by rw [← HCS.out]; rfl, rfl⟩
end Go.Proofs.YtmcbpgbiephllaaDoor

namespace Go.Proofs.YtmcbpgbiephllaaDoor
open Go.RowKit
def halvesL : List Int := [0, 498536548, 997073096, 651767980, 1994146192, 1802195444, 1303535960, 1342533948, 3988292384, 4027552580, 3604390888, 3412177804, 2607071920, 2262029012, 2685067896, 3183342108]
def Env (w : World) : Prop := ∀ i, i < 16 → w.cell? ⟨0, i, none⟩ = some (.int .u32 (halvesL.getD i 0))
theorem Env.pos {w : World} (h : Env w) : 0 < w.heap.size := by
  have := h 0 (by omega)
  rcases Nat.lt_or_ge 0 w.heap.size with hlt | hge
  · exact hlt
  · exfalso
    simp only [World.cell?] at this
    rw [Array.getElem?_eq_none hge] at this
    cases this
theorem Env.under {B : Nat} {w w' : World} (h : Env w) (hb : Below B w w') (hB : 0 < B) : Env w' := fun i hi => (hb.cell hB).trans (h i hi)
end Go.Proofs.YtmcbpgbiephllaaDoor

namespace Go.Proofs.YtmcbpgbiephllaaDoor
open Go.RowKit

end Go.Proofs.YtmcbpgbiephllaaDoor

namespace Go.Proofs.YtmcbpgbiephllaaDoor
open Go.RowKit

end Go.Proofs.YtmcbpgbiephllaaDoor

namespace Go.Proofs.YtmcbpgbiephllaaDoor
open Go.RowKit Cr

def SumSaid : Prop := ∀ (w : World) (l : List UInt8) (A : Option Addr) (cap : Nat), Env w → Rd w A l → l.length ≤ cap → l.length ≤ 1000000 →
    Calls Tryd.prog 30 #[.slice A l.length cap] w fun e w' => e = .returned (.int .u32 (Cr.sum l : Nat)) ∧ Below w.heap.size w w'
def MoreSaid : Prop := ∀ (w : World) (c : Nat) (l : List UInt8) (A : Option Addr) (cap : Nat), c < 4294967296 → Env w → Rd w A l → l.length ≤ cap → l.length ≤ 1000000 →
    Calls Tryd.prog 48 #[.int .u32 (c : Nat), .slice A l.length cap] w fun e w' => e = .returned (.int .u32 (Cr.more c l : Nat)) ∧ Below w.heap.size w w'
end Go.Proofs.YtmcbpgbiephllaaDoor

namespace Go.Proofs.YtmcbpgbiephllaaDoor
open Go.RowKit
namespace Cr
theorem halves_stps : ∀ i, i < 16 → halvesL.getD i 0 = ((stps 4 i : Nat) : Int) := by decide
theorem split16 (c : Nat) : c = 16 * (c / 16) ^^^ c % 16 := by
  have h := Nat.two_pow_add_eq_or_of_lt (i := 4) (b := c % 16) (by omega) (c / 16)
  have hx : 2 ^ 4 * (c / 16) ^^^ c % 16 = 2 ^ 4 * (c / 16) + c % 16 := by
    rw [h]
    apply Nat.eq_of_testBit_eq
    intro i
    rw [Nat.testBit_xor, Nat.testBit_or, Nat.testBit_two_pow_mul]
    by_cases hi : 4 ≤ i
    · have : (c % 16).testBit i = false := Nat.testBit_lt_two_pow (Nat.lt_of_lt_of_le (show c % 16 < 2 ^ 4 by omega) (Nat.pow_le_pow_right (by decide) hi))
      simp [this]
    · simp [hi]
  show c = 2 ^ 4 * (c / 16) ^^^ c % 16
  rw [hx]; omega
theorem stps_half (c : Nat) : stps 4 c = c / 16 ^^^ stps 4 (c % 16) := by
  conv => lhs; rw [split16 c]
  rw [stps_xor, show 16 * (c / 16) = 2 ^ 4 * (c / 16) from rfl, stps_pow]
theorem stps_add : ∀ (m n c : Nat), stps (m + n) c = stps n (stps m c)
  | 0, n, c => by rw [Nat.zero_add]; rfl
  | m + 1, n, c => by rw [Nat.add_right_comm]; exact stps_add m n (stp c)
theorem byt_half (c : Nat) : byt c = stps 4 (stps 4 c) := stps_add 4 4 c
theorem bits_and_15 (a : Nat) (ha : a < 4294967296) : bits .and .u32 (a : Int) 15 = ((a % 16 : Nat) : Int) := by
  show IntKind.u32.wrap ((BitVec.ofInt 32 (a : Int) &&& BitVec.ofInt 32 (15 : Int)).toNat : Int) = _
  rw [IntKind.wrap_u32', BitVec.toNat_and, BitVec.ofInt_natCast, BitVec.toNat_ofNat, Nat.mod_eq_of_lt ha, show (BitVec.ofInt 32 (15 : Int)).toNat = 2 ^ 4 - 1 by decide, Nat.and_two_pow_sub_one_eq_mod]
  omega
theorem not_is (c : Nat) (h : c < 4294967296) : c ^^^ ones = 4294967295 - c := by
  have e : (BitVec.ofNat 32 c ^^^ BitVec.allOnes 32) = ~~~ (BitVec.ofNat 32 c) := BitVec.xor_allOnes
  have h1 := congrArg BitVec.toNat e
  rw [BitVec.toNat_xor, BitVec.toNat_not, BitVec.toNat_ofNat, BitVec.toNat_allOnes, Nat.mod_eq_of_lt h] at h1
  exact h1
end Cr
end Go.Proofs.YtmcbpgbiephllaaDoor

namespace Go.Proofs.YtmcbpgbiephllaaDoor
open Go.ChangeShapes Go.WideShapes Go.RowKit Go.Deep

theorem Tryd.kname : Tryd.prog.globalNamed "permafrost/crc.halves" = some 0 := by kernel_rfl
theorem Tryd.ktype : (Tryd.prog.globals[0]?).map (·.type) = some 81 := by kernel_rfl
theorem Tryd.cellsU32 : Tryd.prog.cellsOf 49 = 1 := by kernel_rfl
theorem laid_is : (Rows.laid_permafrost_crc_halves : DataW Unit) = .agg (halvesL.map fun n => .lit (.int .u32 n)) := by rfl

theorem env_of (W : World) (h : laidMetH Tryd.prog [("permafrost/crc.halves", Rows.laid_permafrost_crc_halves)] W) : Env W := by
  have h' : laidMet Tryd.prog [("permafrost/crc.halves", Rows.laid_permafrost_crc_halves)] W := h
  obtain ⟨ps, ⟨g, t, cs, fuel, p, q, e1, e2, e3, e4, _, _⟩, _⟩ := h'
  obtain rfl := Option.some.inj (Tryd.kname.symm.trans e1)
  obtain rfl := Option.some.inj (Tryd.ktype.symm.trans e2)
  obtain ⟨xs, m, _, hx, hcl, hxl, hi⟩ := DataW.trod_array Tryd.underlying81 e4
  simp only [Prod.mk.injEq] at hx
  rw [laid_is] at hx
  have hx1 : halvesL.map (fun n => (DataW.lit (.int .u32 n) : DataW Unit)) = xs.map (·.1) := by
    have := hx.1
    injection this
  intro i hlt
  have h1 := hi i hlt
  rw [Tryd.cellsU32, Nat.mul_one] at h1
  have hxi : xs[i]? = some (xs[i]'(by omega)) := List.getElem?_eq_getElem _
  rw [hxi] at h1
  obtain ⟨n, hn1, hn2, _⟩ := DataW.trod_int Tryd.underlying49 h1
  have hk : (halvesL.map (fun n => (DataW.lit (.int .u32 n) : DataW Unit)))[i]? = (xs.map (·.1))[i]? := by rw [hx1]
  rw [List.getElem?_map, List.getElem?_map, hxi, hn2] at hk
  have hlen : halvesL.length = 16 := rfl
  have hr : halvesL[i]? = some (halvesL[i]'(by omega)) := List.getElem?_eq_getElem _
  rw [hr] at hk
  simp only [Option.map_some, Option.some.injEq, DataW.lit.injEq, Lit.int.injEq, true_and] at hk
  rw [World.var?_cell e1 e3 i]
  have h2 : (cs.toList.drop i)[0]? = some (.int .u32 n) := by
    have : ((cs.toList.drop i).take 1)[0]? = some (.int .u32 n) := by rw [hn1]; rfl
    rwa [List.getElem?_take_of_lt (by omega)] at this
  simp only [List.getElem?_drop, Nat.add_zero, Array.getElem?_toList] at h2
  rw [h2, ← hk]
  simp [List.getD, hr]

noncomputable def laidWorld (os : Os) : World :=
  let w0 := World.holding Tryd.prog os ⟨#[], #[], []⟩
  { w0 with heap := w0.heap.modify 0 fun
      | .cells _ t frozen => .cells (halvesL.map (fun n => Value.int .u32 n)).toArray t frozen
      | o => o }
theorem laidWorld_met (os : Os) (args : Array Value) : laidMetH Tryd.prog [("permafrost/crc.halves", Rows.laid_permafrost_crc_halves)] ((laidWorld os).forCall (fun _ _ => 0) ⟨#[], args, []⟩).memory :=
  laidMet_of_run' 8 (by kernel_rfl) (by kernel_rfl)
end Go.Proofs.YtmcbpgbiephllaaDoor

namespace Go.Proofs.YtmcbpgbiephllaaDoor
open Go.RowKit Cr

theorem not_bits (c : Nat) (hc : c < 4294967296) : bits .xor .u32 IntKind.u32.max (c : Int) = ((4294967295 - c : Nat) : Int) := by
  have h := bits_xor_nat ones c (by decide) hc
  have e : IntKind.u32.max = ((ones : Nat) : Int) := by decide
  rw [e, h, Nat.xor_comm, not_is c hc]
theorem xor32 {a b : Nat} (ha : a < 4294967296) (hb : b < 4294967296) : a ^^^ b < 4294967296 := Nat.xor_lt_two_pow (n := 32) ha hb
theorem unsigned : ¬ IntKind.u32.signed = true := by decide

set_option maxHeartbeats 1000000 in
set_option maxRecDepth 100000 in
theorem more_said : MoreSaid := by
  intro w c l A cap hc he hr hcap hl
  have HR : Hid (Rd w A l) := hr
  have HE : Hid (Env w) := he
  clear hr he
  have hs := unsigned
  have hnot := not_bits c hc
  obtain ⟨n, hn⟩ : ∃ n : Nat, n = 4294967295 - c := ⟨_, rfl⟩
  rw [← hn] at hnot
  have HN : Hid (n = c ^^^ ones) := by show _ = _; rw [not_is c hc, hn]
  clear hn
  go_enter Tryd.func48, Tryd.ntmps48
  go_wp2_with fail
  go_loop [0, 11] (fun t0 t11 => ∃ (k d : Nat), k ≤ l.length ∧ t11 = .int .i64 (k : Nat) ∧ t0 = .int .u32 (d : Nat) ∧ Hid (d = run n (l.take k))) (fun _ t11 => l.length - (intOf t11).toNat)
  case atStart => exact ⟨0, n, by omega, rfl, rfl, rfl⟩
  case round =>
    clear hnot
    obtain ⟨k, d, hk, rfl, rfl, HD⟩ := hrel
    have hd : d < 4294967296 := by rw [HD.out]; exact run_lt _ (by rw [HN.out]; exact Nat.xor_lt_two_pow hc ones_lt)
    by_cases hlt : k < l.length
    · obtain ⟨b, off, rfl, _, hcell⟩ := HR.out.at_ (by omega)
      have c0 := hcell k hlt
      obtain ⟨x, hx⟩ : ∃ x : Nat, x = (l.getD k 0).toNat := ⟨_, rfl⟩
      have hx8 : x < 256 := by rw [hx]; exact (l.getD k 0).toNat_lt
      rw [← hx] at c0
      have HX := Lib.hid hx
      clear hcell hx hs
      have hxor := bits_xor_nat d x hd (by omega)
      obtain ⟨f, hf⟩ : ∃ f : Nat, f = d ^^^ x := ⟨_, rfl⟩
      have hf32 : f < 4294967296 := by rw [hf]; exact xor32 hd (by omega)
      rw [← hf] at hxor
      have HF := Lib.hid hf
      clear hf
      -- the first half
      have hand := bits_and_15 f hf32
      obtain ⟨i, hi⟩ : ∃ i : Nat, i = f % 16 := ⟨_, rfl⟩
      have hi16 : i < 16 := by omega
      rw [← hi] at hand
      obtain ⟨e, he⟩ : ∃ e : Nat, e = f / 16 := ⟨_, rfl⟩
      have hd2 : ((f : Int) / 16) = (e : Int) := by omega
      have ct := HE.out i hi16
      rw [halves_stps i hi16] at ct
      obtain ⟨s, hsx⟩ : ∃ s : Nat, s = stps 4 i := ⟨_, rfl⟩
      have hs32 : s < 4294967296 := by rw [hsx]; exact stps_lt 4 (Nat.lt_trans hi16 (by decide))
      rw [← hsx] at ct
      have hx2 := bits_xor_nat e s (by omega) hs32
      obtain ⟨g, hg⟩ : ∃ g : Nat, g = e ^^^ s := ⟨_, rfl⟩
      have hg32 : g < 4294967296 := by rw [hg]; exact xor32 (by omega) hs32
      rw [← hg] at hx2
      have HG : Hid (g = stps 4 f) := by show _ = _; rw [stps_half f, hg, he, hsx, hi]
      -- the second half
      have hand' := bits_and_15 g hg32
      obtain ⟨i', hi'⟩ : ∃ i : Nat, i = g % 16 := ⟨_, rfl⟩
      have hi16' : i' < 16 := by omega
      rw [← hi'] at hand'
      obtain ⟨e', he'⟩ : ∃ e : Nat, e = g / 16 := ⟨_, rfl⟩
      have hd2' : ((g : Int) / 16) = (e' : Int) := by omega
      have ct' := HE.out i' hi16'
      rw [halves_stps i' hi16'] at ct'
      obtain ⟨s', hsx'⟩ : ∃ s : Nat, s = stps 4 i' := ⟨_, rfl⟩
      have hs32' : s' < 4294967296 := by rw [hsx']; exact stps_lt 4 (Nat.lt_trans hi16' (by decide))
      rw [← hsx'] at ct'
      have hx2' := bits_xor_nat e' s' (by omega) hs32'
      obtain ⟨g', hg'⟩ : ∃ g : Nat, g = e' ^^^ s' := ⟨_, rfl⟩
      rw [← hg'] at hx2'
      have HG' : Hid (g' = stps 4 g) := by show _ = _; rw [stps_half g, hg', he', hsx', hi']
      clear hg hg' hsx hsx' hi hi' he he'
      go_wp2_with fail
      go_round
      case rel => exact ⟨k + 1, g', by omega, by go_num, rfl, by show _ = _; rw [run_snoc _ _ _ hlt, ← HD.out, ← HX.out, byt_half, ← HF.out, HG'.out, HG.out]⟩
      case measure => simp [intOf]; omega
    · obtain rfl : k = l.length := by omega
      have hlast := not_bits d hd
      obtain ⟨m, hm⟩ : ∃ m : Nat, m = 4294967295 - d := ⟨_, rfl⟩
      rw [← hm] at hlast
      have HM : Hid (m = more c l) := by show _ = _; unfold more; rw [hm, ← not_is d hd, HD.out, List.take_length, HN.out]
      clear hm
      go_wp2_with fail
      go_ret
      exact ⟨by rw [← HM.out]; rfl, Below.refl _ _⟩

set_option maxHeartbeats 1000000 in
set_option maxRecDepth 100000 in
theorem sum_said : SumSaid := by
  intro w l A cap he hr hcap hl
  have HM := Lib.hid (more_said w 0 l A cap (by decide) he hr hcap hl)
  clear he hr
  go_enter Tryd.func30, Tryd.ntmps30
  go_wp2_with fail
  refine HM.out.mono ?_
  rintro e w' ⟨rfl, hb⟩
  rw [more_zero]
  have HB : Hid (Below w.heap.size w w') := hb
  clear hb HM
  go_wp2_with fail
  go_ret
  exact ⟨rfl, HB.out⟩
end Go.Proofs.YtmcbpgbiephllaaDoor

namespace Go.Proofs.YtmcbpgbiephllaaDoor
open Go.RowKit
open Co hiding bytes
namespace Re
theorem rs_eta (s : Rs) (l : List UInt8) (h : s.why = 0) (hr : s.rem = l) : s = ⟨l, 0⟩ := by
  obtain ⟨a, b⟩ := s
  dsimp only at h hr
  rw [h, hr]
theorem raw4_of (s : Rs) : ((num 2 (num 2 s).2).2.why = 0 → (raw 4 s).2.why = 0 ∧ (raw 4 s).1 = four ((num 2 s).1 * 65536 + (num 2 (num 2 s).2).1) ∧ (raw 4 s).2.rem = (num 2 (num 2 s).2).2.rem) ∧ ((num 2 (num 2 s).2).2.why ≠ 0 → (raw 4 s).2.why ≠ 0) := by
  constructor
  · intro h
    obtain ⟨h1, h2, h3⟩ := short_inv (num 2 s).2 h
    obtain ⟨h4, h5, h6⟩ := short_inv s h1
    obtain ⟨m, hm⟩ : ∃ m, m = (num 2 (num 2 s).2).2.rem := ⟨_, rfl⟩
    obtain ⟨a, ha⟩ : ∃ a, a = (num 2 s).1 := ⟨_, rfl⟩
    obtain ⟨b, hb⟩ : ∃ b, b = (num 2 (num 2 s).2).1 := ⟨_, rfl⟩
    rw [← hm, ← hb] at h3
    rw [← hb] at h2
    rw [← ha] at h5 h6
    rw [← hm, ← ha, ← hb]
    have he := rs_eta s ((wShort a ++ wShort b) ++ m) h4 (by rw [h6, h3, List.append_assoc])
    have hr : raw 4 s = (wShort a ++ wShort b, ⟨m, 0⟩) := by rw [he]; exact raw_app _ _ 4 rfl (by omega)
    have hf := four_of a b
    rw [Nat.mod_eq_of_lt h2] at hf
    rw [hr, hf]
    exact ⟨rfl, rfl, rfl⟩
  · intro h h0
    refine h ?_
    obtain ⟨h1, h2, h3⟩ := raw_inv 4 s (by omega) h0
    obtain ⟨x, hx⟩ : ∃ x, x = (raw ((4 : Nat) : Int) s).1 := ⟨_, rfl⟩
    obtain ⟨m, hm⟩ : ∃ m, m = (raw ((4 : Nat) : Int) s).2.rem := ⟨_, rfl⟩
    rw [← hx] at h2 h3
    rw [← hm] at h3
    have e : x ++ m = x.take 2 ++ (x.drop 2 ++ m) := by rw [← List.append_assoc, List.take_append_drop]
    rw [rs_eta s _ h1 (h3.trans e), num_app (x.take 2) _ 2 (by rw [List.length_take]; omega) (by omega)]
    dsimp only
    rw [num_app (x.drop 2) _ 2 (by rw [List.length_drop]; omega) (by omega)]
theorem at3 (L : List UInt8) (h : (Co.bytes (num 8 (num 1 ⟨L, 0⟩).2).2).2.why = 0) : (Co.bytes (num 8 (num 1 ⟨L, 0⟩).2).2).1.length ≤ 65535 ∧ L.length = 11 + (Co.bytes (num 8 (num 1 ⟨L, 0⟩).2).2).1.length + (Co.bytes (num 8 (num 1 ⟨L, 0⟩).2).2).2.rem.length := by
  obtain ⟨h1, h2, h3⟩ := bytes_inv _ h
  obtain ⟨h4, h5, h6⟩ := long_inv _ h1
  obtain ⟨h7, h8, h9⟩ := byte_inv _ h4
  refine ⟨h2, ?_⟩
  have e1 := congrArg List.length h3
  have e2 := congrArg List.length h6
  have e3 := congrArg List.length h9
  rw [wBytes_is h2, List.length_append, List.length_append] at e1
  rw [List.length_append, wLong_length] at e2
  rw [List.length_append] at e3
  have e4 : ∀ n, (wShort n).length = 2 := fun _ => rfl
  have e5 : ∀ n, (wByte n).length = 1 := fun _ => rfl
  rw [e4] at e1
  rw [e5] at e3
  have e6 : (⟨L, 0⟩ : Rs).rem.length = L.length := rfl
  omega
theorem why_up (s : Rs) (n : Int) (h : (raw n s).2.why = 0) : s.why = 0 := by
  unfold raw at h
  split at h
  · exact h
  · split at h
    · exact absurd h (by simp)
    · exact h
theorem first_why (L : List UInt8) : ((num 1 ⟨L, 0⟩).2.why = 0 ↔ 0 < L.length) := by
  cases L with
  | nil => simp [num, raw]
  | cons b r => rw [num_one]; simp
end Re
end Go.Proofs.YtmcbpgbiephllaaDoor

namespace Go.Proofs.YtmcbpgbiephllaaDoor
open Go.RowKit
namespace Re
theorem cells_four (c : Nat) : Lib.byteCells (four c) = [.int .u8 (IntKind.u8.wrap ((c : Int) / 16777216)), .int .u8 (IntKind.u8.wrap ((c : Int) / 65536)), .int .u8 (IntKind.u8.wrap ((c : Int) / 256)), .int .u8 (IntKind.u8.wrap (c : Int))] := by
  simp only [four, Co.wShort, Lib.byteCells, List.map_cons, List.map_nil, List.cons_append, List.nil_append, u8_cast, IntKind.wrap_u8]
  have h1 : ((c / 65536 / 256 : Nat) : Int) % 256 = (c : Int) / 16777216 % 256 := by omega
  have h2 : ((c / 65536 : Nat) : Int) % 256 = (c : Int) / 65536 % 256 := by omega
  have h3 : ((c / 256 : Nat) : Int) % 256 = (c : Int) / 256 % 256 := by omega
  rw [h1, h2, h3]
set_option maxHeartbeats 1000000 in
set_option maxRecDepth 100000 in
theorem refSum4_any (w : World) (l : List UInt8) (A : Option Addr) (cap c : Nat) (hr : Rd w A l) (hl : l.length ≤ 1099511620000) :
    Calls Tryd.prog 20 #[.slice A l.length cap, .int .u32 (c : Nat)] w fun e w' => ∃ v, e = .returned v ∧ w'.ownsRow w.heap.size 5 1 v (l.length + 4) (Lib.byteCells (l ++ four c)) ∧ Below w.heap.size w w' := by
  obtain ⟨i0, hi, hz0, hz1, hz2⟩ := info_parts Tryd.infoU8
  have HI0 := Lib.hid hi
  have HZ0 := Lib.hid hz0
  have HZ1 := Lib.hid hz1
  have HZ2 := Lib.hid hz2
  have H0 : Hid (MAt w.heap.size (.slice (some ⟨w.heap.size, 0, none⟩) 0 0) [] w (w.alloc (.cells #[] 5))) := MAt.empty w
  have HRW : Hid (Rd (w.alloc (.cells #[] 5)) A l) := hr.below (below_new w _)
  clear hi hz0 hz1 hz2 hr
  go_enter Tryd.func20, Tryd.ntmps20
  go_wp2_with (first
    | (at_builtin; refine wpList_append_rd rfl (.tmp 5) (.tmp 6) 25 rfl w.heap.size 5 i0 Tryd.underlying25 HI0.out HZ0.out HZ1.out HZ2.out _ 0 [] rfl H0.out.1 A l l.length cap rfl rfl HRW.out (by omega) (by rw [World.size_alloc]; omega) ?_; intro v1 w1 HO1 HG1; have H1 : Hid (MAt w.heap.size v1 l w w1) := H0.out.push (Below.refl _ _) HO1.out HG1.out)
    | (at_builtin; refine wpList_append_rd rfl (.tmp 7) (.tmp 19) 25 rfl w.heap.size 5 i0 Tryd.underlying25 HI0.out HZ0.out HZ1.out HZ2.out v1 l.length (Lib.byteCells l) rfl (H1.out.own (below_new w1 _)) (some ⟨w1.heap.size, 0, none⟩) (four c) 4 4 rfl rfl (rd_cells w1 (four c) _ _ _ (by rw [cells_four]; simp [IntKind.wrap_u8])) (by simp [four, Co.wShort]; omega) (by rw [World.size_alloc]; have := H1.out.2.1.size; omega) ?_; intro v2 w2 HO2 HG2; have H2 : Hid (MAt w.heap.size v2 (l ++ four c) w w2) := H1.out.push (below_new w1 _) HO2.out HG2.out))
  clear HO1 HG1 HO2 HG2
  go_ret
  refine ⟨_, rfl, ?_, H2.out.2.1⟩
  have := H2.out.1
  rw [List.length_append] at this
  exact this
theorem wBytes_len {x : List UInt8} (h : x.length ≤ 65535) : (Co.wBytes x).length = 2 + x.length := by
  rw [wBytes_is h, List.length_append]
  rfl
theorem bytes_frow {w : World} {l x : List UInt8} {A A2 : Option Addr} {c c2 : Nat} (hr : Rd w A l) (hr2 : Rd w A2 x) (hl : l.length ≤ 1099511500000) (hx : x.length ≤ 65535) :
    Calls Tryd.prog 17 #[.slice A l.length c, .slice A2 x.length c2] w fun e w' => ∃ v, e = .returned v ∧ Ob.Fresh (l ++ Co.wBytes x) w v w' ∧ Below w.heap.size w w' := by
  refine (refBytes_any w l x A A2 c c2 hr hr2 hl hx).mono ?_
  rintro e w' ⟨v, h1, h2, h3⟩
  refine ⟨v, h1, ?_, h3⟩
  unfold Ob.Fresh
  rw [List.length_append, wBytes_len hx, ← Nat.add_assoc]
  exact h2
theorem long_frow {w : World} {l : List UInt8} {A : Option Addr} {c n : Nat} (hr : Rd w A l) (hl : l.length ≤ 1099511620000) (hn : n ≤ 18446744073709551615) :
    Calls Tryd.prog 18 #[.slice A l.length c, .int .u64 (n : Nat)] w fun e w' => ∃ v, e = .returned v ∧ Ob.Fresh (l ++ Co.wLong n) w v w' ∧ Below w.heap.size w w' := by
  refine (refLong_any w l A c n hr hl hn).mono ?_
  rintro e w' ⟨v, h1, h2, h3⟩
  refine ⟨v, h1, ?_, h3⟩
  unfold Ob.Fresh
  rw [List.length_append, Co.wLong_length]
  exact h2
theorem byte_frow {w : World} {n : Int} (hn0 : -9223372036854775808 ≤ n) (hn : n ≤ 9223372036854775807) :
    Calls Tryd.prog 19 #[.slice none 0 0, .int .i64 n] w fun e w' => ∃ v, e = .returned v ∧ Ob.Fresh (Co.wByte (n % 256).toNat) w v w' ∧ Below w.heap.size w w' := by
  refine (refByte_int w [] none 0 n (Rd.nil _ _) (by simp) hn0 hn).mono ?_
  rintro e w' ⟨v, h1, h2, h3⟩
  exact ⟨v, h1, h2, h3⟩
end Re
end Go.Proofs.YtmcbpgbiephllaaDoor

namespace Go.Proofs.YtmcbpgbiephllaaDoor
open Go.RowKit Rc
namespace Re
set_option maxHeartbeats 1000000 in
set_option maxRecDepth 100000 in
theorem re_size_any (r : Rec) (A : Option Addr) (c : Nat) (w : World) : Calls Tryd.prog 16 #[val r A c] w fun e w' => e = .returned (.int .i64 (size r : Nat)) ∧ Below w.heap.size w w' := by
  obtain ⟨k, q, b⟩ := r
  have HRT : Hid (∀ W, Calls Tryd.prog 23 #[.agg #[.int .i64 k, .int .u64 (q : Nat), .slice A b.length c]] W fun e w' => e = .returned (.bool (decide (Right ⟨k, q, b⟩))) ∧ Below W.heap.size W w') := fun W => re_right_any ⟨k, q, b⟩ A c W
  obtain ⟨z, hz⟩ : ∃ z, z = size ⟨k, q, b⟩ := ⟨_, rfl⟩
  have HNO : Hid (¬ Right ⟨k, q, b⟩ → z = 0) := fun h => hz.trans (if_neg h)
  have HYES : Hid (Right ⟨k, q, b⟩ → z = 15 + b.length ∧ b.length ≤ 900) := fun h => ⟨hz.trans (if_pos h), right_len h⟩
  rw [← hz]
  clear hz
  unfold val
  dsimp only
  obtain ⟨W0, hW0⟩ : ∃ W0, W0 = w.alloc (.cells #[.int .i64 k, .int .u64 (q : Nat), .slice A b.length c] 27) := ⟨_, rfl⟩
  obtain ⟨g, hg⟩ : ∃ g, g = w.heap.size := ⟨_, rfl⟩
  have HB0 : Hid (Blk W0 g 27 [.int .i64 k, .int .u64 (q : Nat), .slice A b.length c]) := by show Blk _ _ _ _; rw [hW0, hg]; exact Blk.new w _ _
  have HBW : Hid (Below w.heap.size w W0) := by show Below _ _ _; rw [hW0]; exact below_new w _
  go_enter Tryd.func16, Tryd.ntmps16
  go_upto_region 1 with (fail)
  rw [← hW0, ← hg]
  clear hW0 hg
  have c0 := HB0.out.cell 0
  have c1 := HB0.out.cell 1
  have c2 := HB0.out.cell 2
  go_wp2_with fail
  refine (HRT.out W0).mono ?_
  rintro e w1 ⟨rfl, hb1⟩
  have HB1 : Hid (Blk w1 g 27 [.int .i64 k, .int .u64 (q : Nat), .slice A b.length c]) := HB0.out.below hb1 HB0.out.lt
  have HBW1 : Hid (Below w.heap.size w w1) := Later.trans HBW.out hb1
  clear hb1 c0 c1 c2 HB0 HBW
  by_cases hri : Right ⟨k, q, b⟩
  · rw [decide_eq_true hri]
    obtain ⟨e1, e2⟩ := HYES.out hri
    have HZ := Lib.hid e1
    clear hri HYES HNO e1
    have c2 := HB1.out.cell 2
    go_wp2_with fail
    go_ret
    refine ⟨congrArg (fun n => Ending.returned (Value.int .i64 n)) ?_, HBW1.out⟩
    have := HZ.out
    omega
  · rw [decide_eq_false hri]
    have HZ := Lib.hid (HNO.out hri)
    clear hri HYES HNO
    go_wp2_with fail
    go_ret
    refine ⟨congrArg (fun n => Ending.returned (Value.int .i64 n)) ?_, HBW1.out⟩
    rw [HZ.out]
    rfl
set_option maxHeartbeats 2000000 in
set_option maxRecDepth 100000 in
theorem re_refRight_any (r : Rec) (A : Option Addr) (c : Nat) (w : World) : Calls Tryd.prog 22 #[val r A c] w fun e w' => e = .returned (.bool (decide (Right r))) ∧ Below w.heap.size w w' := by
  obtain ⟨k, q, b⟩ := r
  obtain ⟨n, hn⟩ : ∃ n, n = b.length := ⟨_, rfl⟩
  obtain ⟨d, hd⟩ : ∃ d, d = decide (Right ⟨k, q, b⟩) := ⟨_, rfl⟩
  have HYY : Hid (∀ h : Bool, (h = true ↔ ((k = 1 ∧ n ≤ 900) ∨ (k = 2 ∧ n = 0)) ∧ q ≤ 1099511627776) → d = h) := fun h hh => by
    subst hn
    rw [hd, Bool.eq_iff_iff]; simpa [Right] using hh.symm
  unfold val
  dsimp only
  rw [← hn, ← hd]
  clear hn hd
  have HBW : Hid (Below w.heap.size w (w.alloc (.cells #[.int .i64 k, .int .u64 (q : Nat), .slice A n c] 29))) := below_new w _
  have hk : k = 1 ∨ k = 2 ∨ (k ≠ 1 ∧ k ≠ 2) := by omega
  have hl : (n : Int) = 0 ∨ (n : Int) ≠ 0 := by omega
  have hl9 : (n : Int) ≤ 900 ∨ ¬ (n : Int) ≤ 900 := by omega
  have hq : (q : Int) ≤ 1099511627776 ∨ ¬ (q : Int) ≤ 1099511627776 := by omega
  rcases hk with rfl | rfl | ⟨hk1, hk2⟩
  · rcases hl9 with hl9 | hl9
    · rcases hq with hq | hq
      all_goals
        go_enter Tryd.func22, Tryd.ntmps22
        go_wp2_with fail
        go_ret
        refine ⟨congrArg (fun b => Ending.returned (Value.bool b)) (HYY.out _ ?_).symm, HBW.out⟩
        simp; omega
    · go_enter Tryd.func22, Tryd.ntmps22
      go_wp2_with fail
      go_ret
      refine ⟨congrArg (fun b => Ending.returned (Value.bool b)) (HYY.out _ ?_).symm, HBW.out⟩
      simp; omega
  · rcases hl with hl | hl
    · rcases hq with hq | hq
      all_goals
        go_enter Tryd.func22, Tryd.ntmps22
        go_wp2_with fail
        go_ret
        refine ⟨congrArg (fun b => Ending.returned (Value.bool b)) (HYY.out _ ?_).symm, HBW.out⟩
        simp; omega
    · go_enter Tryd.func22, Tryd.ntmps22
      go_wp2_with fail
      go_ret
      refine ⟨congrArg (fun b => Ending.returned (Value.bool b)) (HYY.out _ ?_).symm, HBW.out⟩
      simp; omega
  · go_enter Tryd.func22, Tryd.ntmps22
    go_wp2_with fail
    go_ret
    refine ⟨congrArg (fun b => Ending.returned (Value.bool b)) (HYY.out _ ?_).symm, HBW.out⟩
    simp; omega
end Re
end Go.Proofs.YtmcbpgbiephllaaDoor

namespace Go.Proofs.YtmcbpgbiephllaaDoor
open Go.RowKit Rc
namespace Re
def headI (r : Rec) : List UInt8 := Co.wByte (r.kind % 256).toNat ++ Co.wLong r.seq ++ Co.wBytes r.body
def formI (r : Rec) : List UInt8 := headI r ++ four (Cr.sum (headI r))
theorem formI_is (r : Rec) (h : Right r) : formI r = form r := by
  have hk := right_kind h
  unfold formI form
  have : headI r = head r := by
    unfold headI head
    rw [show r.kind % 256 = r.kind from by omega, List.append_assoc]
  rw [this]
theorem headI_length {r : Rec} (h : r.body.length ≤ 65535) : (headI r).length = 11 + r.body.length := by
  unfold headI
  rw [wBytes_is h]
  simp only [List.length_append, Co.wLong_length, Co.wByte, Co.wShort, List.length_cons, List.length_nil]
  omega
theorem formI_length {r : Rec} (h : r.body.length ≤ 65535) : (formI r).length = 15 + r.body.length := by
  unfold formI
  rw [List.length_append, headI_length h, four_length]
  omega
set_option maxHeartbeats 2000000 in
set_option maxRecDepth 100000 in
theorem re_refEnc_any (r : Rec) (hk0 : -9223372036854775808 ≤ r.kind) (hk1 : r.kind ≤ 9223372036854775807) (hq : r.seq ≤ 18446744073709551615) (hb : r.body.length ≤ 65535) (w : World) (A : Option Addr) (c : Nat) (hr : Rd w A r.body) :
    Calls Tryd.prog 7 #[val r A c] w fun e w' => ∃ v, e = .returned v ∧ w'.ownsRow w.heap.size 5 1 v (formI r).length (Lib.byteCells (formI r)) ∧ Below w.heap.size w w' := by
  obtain ⟨k, q, b⟩ := r
  dsimp only at hk0 hk1 hq hb hr
  have HFL : Hid ((formI ⟨k, q, b⟩).length = 15 + b.length) := formI_length hb
  have HFD : Hid (formI ⟨k, q, b⟩ = headI ⟨k, q, b⟩ ++ four (Cr.sum (headI ⟨k, q, b⟩))) := rfl
  have HHL : Hid ((headI ⟨k, q, b⟩).length = 11 + b.length) := headI_length hb
  obtain ⟨fo, hfo⟩ : ∃ x, x = formI ⟨k, q, b⟩ := ⟨_, rfl⟩
  obtain ⟨hd, hhd⟩ : ∃ x, x = headI ⟨k, q, b⟩ := ⟨_, rfl⟩
  rw [← hfo, ← hhd] at HFD
  rw [← hfo] at HFL ⊢
  rw [← hhd] at HHL
  have HHD : Hid (Co.wByte (k % 256).toNat ++ Co.wLong q ++ Co.wBytes b = hd) := hhd.symm
  clear hfo hhd
  unfold val
  dsimp only
  obtain ⟨W0, hW0⟩ : ∃ W0, W0 = w.alloc (.cells #[.int .i64 k, .int .u64 (q : Nat), .slice A b.length c] 29) := ⟨_, rfl⟩
  obtain ⟨g, hg⟩ : ∃ g, g = w.heap.size := ⟨_, rfl⟩
  have HB0 : Hid (Blk W0 g 29 [.int .i64 k, .int .u64 (q : Nat), .slice A b.length c]) := by show Blk _ _ _ _; rw [hW0, hg]; exact Blk.new w _ _
  have hbw : Below w.heap.size w W0 := by rw [hW0]; exact below_new w _
  have HBW := Lib.hid hbw
  have HR0 : Hid (Rd W0 A b) := hr.below hbw
  have HK0 := Lib.hid hk0
  have HK1 := Lib.hid hk1
  have HQ := Lib.hid hq
  have HBL := Lib.hid hb
  clear hbw hr hk0 hk1 hq hb
  go_enter Tryd.func7, Tryd.ntmps7
  go_upto_region 1 with (fail)
  rw [← hW0, ← hg]
  clear hW0 hg
  refine Rc.wp_region (by kernel_rfl) (fun opn => List.getD [Rc.val (.pointer (some ⟨g, 0, none⟩)), Rc.val (.int .i64 k), Ob.frow (Co.wByte (k % 256).toNat), Rc.val (.pointer (some ⟨g, 1, none⟩)), Rc.val (.int .u64 (q : Nat)), Ob.frow (Co.wByte (k % 256).toNat ++ Co.wLong q), Rc.val (.pointer (some ⟨g, 2, none⟩)), Rc.val (.slice A b.length c), Ob.frow (Co.wByte (k % 256).toNat ++ Co.wLong q ++ Co.wBytes b), Rc.any] opn Rc.any) 0 [(9, 8, fun v => v)] [[], [(0, 4)], [(1, 5)], [], [(3, 7)], [(2, 6), (4, 8)], [], [(6, 10)], [(5, 9), (7, 11)], [(8, 12)]] [[], [0], [1], [], [3], [2, 4], [], [6], [5, 7], [8]] [[], [0], [1], [], [3], [2, 4], [], [6], [5, 7], [8]] [] (by kernel_rfl) (by rfl) (by kernel_rfl) (fun _ => False) (fun _ _ => False) Rc.Inv.none ?_ ?_
  · intro fr ha
    have hz : fr.tmps.size = 17 := by rw [ha]; rfl
    have y1 : fr.eval (.tmp 1) = .pointer (some ⟨g, 0, none⟩) := by rw [ha]; rfl
    clear ha
    refine .cons ?_ (.cons ?_ (.cons ?_ (.cons ?_ (.cons ?_ (.cons ?_ (.cons ?_ (.cons ?_ (.cons ?_ (.cons ?_ (.nil))))))))))
    · intro V S w2 HM HU HE
      have lw : Below W0.heap.size W0 w2 := Rc.Mod.below HM (fun _ h => h.elim)
      have tb1 : (Rg.putUse V [] fr).eval (.tmp 1) = .pointer (some ⟨g, 0, none⟩) := (Rg.use_eval V fr 1 [] (by simp only [hz]; decide)).trans y1
      show Rg.Does1 _ _ V (Rg.putUse V [] fr) w2 _
      exact Ob.rc_mv (.pointer (some ⟨g, 0, none⟩)) (by simp only [execOp, tb1]; go_simp) rfl rfl True.intro
    · intro V S w2 HM HU HE
      have lw : Below W0.heap.size W0 w2 := Rc.Mod.below HM (fun _ h => h.elim)
      have h0 : V 0 = .pointer (some ⟨g, 0, none⟩) := HU.holds 0 (by decide)
      have tb4 : (Rg.putUse V [(0, 4)] fr).eval (.tmp 4) = .pointer (some ⟨g, 0, none⟩) := (Rg.use_eval V fr 4 [(0, 4)] (by simp only [hz]; decide)).trans h0
      show Rg.Does1 _ _ V (Rg.putUse V [(0, 4)] fr) w2 _
      have cl := (lw.cell (p := ⟨g, 0, none⟩) HB0.out.lt).trans (HB0.out.cell 0)
      exact Ob.rc_mv (.int .i64 k) (by simp only [execOp, tb4]; go_simp) rfl rfl True.intro
    · intro V S w2 HM HU HE
      have lw : Below W0.heap.size W0 w2 := Rc.Mod.below HM (fun _ h => h.elim)
      have h1 : V 1 = .int .i64 k := HU.holds 1 (by decide)
      have tb5 : (Rg.putUse V [(1, 5)] fr).eval (.tmp 5) = .int .i64 k := (Rg.use_eval V fr 5 [(1, 5)] (by simp only [hz]; decide)).trans h1
      show Rg.Does1 _ _ V (Rg.putUse V [(1, 5)] fr) w2 _
      exact Ob.step_frow (Co.wByte (k % 256).toNat) #[.slice none 0 0, .int .i64 k] (fun args w => Rg.call_enter Tryd.func19 (by kernel_rfl) (by kernel_rfl) args w) rfl (by simp only [List.map_toArray, List.map_cons, List.map_nil, Rg.eval_const, tb5]) rfl (fun x => Rg.alias_none rfl V x) True.intro (byte_frow HK0.out HK1.out)
    · intro V S w2 HM HU HE
      have lw : Below W0.heap.size W0 w2 := Rc.Mod.below HM (fun _ h => h.elim)
      have tb1 : (Rg.putUse V [] fr).eval (.tmp 1) = .pointer (some ⟨g, 0, none⟩) := (Rg.use_eval V fr 1 [] (by simp only [hz]; decide)).trans y1
      show Rg.Does1 _ _ V (Rg.putUse V [] fr) w2 _
      exact Ob.rc_mv (.pointer (some ⟨g, 1, none⟩)) (by simp only [execOp, tb1]; go_simp) rfl rfl True.intro
    · intro V S w2 HM HU HE
      have lw : Below W0.heap.size W0 w2 := Rc.Mod.below HM (fun _ h => h.elim)
      have h3 : V 3 = .pointer (some ⟨g, 1, none⟩) := HU.holds 3 (by decide)
      have tb7 : (Rg.putUse V [(3, 7)] fr).eval (.tmp 7) = .pointer (some ⟨g, 1, none⟩) := (Rg.use_eval V fr 7 [(3, 7)] (by simp only [hz]; decide)).trans h3
      show Rg.Does1 _ _ V (Rg.putUse V [(3, 7)] fr) w2 _
      have cl := (lw.cell (p := ⟨g, 1, none⟩) HB0.out.lt).trans (HB0.out.cell 1)
      exact Ob.rc_mv (.int .u64 (q : Nat)) (by simp only [execOp, tb7]; go_simp) rfl rfl True.intro
    · intro V S w2 HM HU HE
      have lw : Below W0.heap.size W0 w2 := Rc.Mod.below HM (fun _ h => h.elim)
      obtain ⟨X2, k2, e2, hc2, hr2, hX2⟩ := HU.holds 2 (by decide)
      have tb6 : (Rg.putUse V [(2, 6), (4, 8)] fr).eval (.tmp 6) = .slice X2 (Co.wByte (k % 256).toNat).length k2 := (Rg.use_eval V fr 6 [(2, 6), (4, 8)] (by simp only [hz]; decide)).trans e2
      have h4 : V 4 = .int .u64 (q : Nat) := HU.holds 4 (by decide)
      have tb8 : (Rg.putUse V [(2, 6), (4, 8)] fr).eval (.tmp 8) = .int .u64 (q : Nat) := (Rg.use_eval V fr 8 [(2, 6), (4, 8)] (by simp only [hz]; decide)).trans h4
      show Rg.Does1 _ _ V (Rg.putUse V [(2, 6), (4, 8)] fr) w2 _
      exact Ob.step_frow (Co.wByte (k % 256).toNat ++ Co.wLong q) #[.slice X2 (Co.wByte (k % 256).toNat).length k2, .int .u64 (q : Nat)] (fun args w => Rg.call_enter Tryd.func18 (by kernel_rfl) (by kernel_rfl) args w) rfl (by simp only [List.map_toArray, List.map_cons, List.map_nil, tb6, tb8]) rfl (fun x => Rg.alias_none rfl V x) True.intro (long_frow hr2 (by simp [Co.wByte]) HQ.out)
    · intro V S w2 HM HU HE
      have lw : Below W0.heap.size W0 w2 := Rc.Mod.below HM (fun _ h => h.elim)
      have tb1 : (Rg.putUse V [] fr).eval (.tmp 1) = .pointer (some ⟨g, 0, none⟩) := (Rg.use_eval V fr 1 [] (by simp only [hz]; decide)).trans y1
      show Rg.Does1 _ _ V (Rg.putUse V [] fr) w2 _
      exact Ob.rc_mv (.pointer (some ⟨g, 2, none⟩)) (by simp only [execOp, tb1]; go_simp) rfl rfl True.intro
    · intro V S w2 HM HU HE
      have lw : Below W0.heap.size W0 w2 := Rc.Mod.below HM (fun _ h => h.elim)
      have h6 : V 6 = .pointer (some ⟨g, 2, none⟩) := HU.holds 6 (by decide)
      have tb10 : (Rg.putUse V [(6, 10)] fr).eval (.tmp 10) = .pointer (some ⟨g, 2, none⟩) := (Rg.use_eval V fr 10 [(6, 10)] (by simp only [hz]; decide)).trans h6
      show Rg.Does1 _ _ V (Rg.putUse V [(6, 10)] fr) w2 _
      have cl := (lw.cell (p := ⟨g, 2, none⟩) HB0.out.lt).trans (HB0.out.cell 2)
      exact Ob.rc_mv (.slice A b.length c) (by simp only [execOp, tb10]; go_simp) rfl rfl True.intro
    · intro V S w2 HM HU HE
      have lw : Below W0.heap.size W0 w2 := Rc.Mod.below HM (fun _ h => h.elim)
      obtain ⟨X5, k5, e5, hc5, hr5, hX5⟩ := HU.holds 5 (by decide)
      have tb9 : (Rg.putUse V [(5, 9), (7, 11)] fr).eval (.tmp 9) = .slice X5 (Co.wByte (k % 256).toNat ++ Co.wLong q).length k5 := (Rg.use_eval V fr 9 [(5, 9), (7, 11)] (by simp only [hz]; decide)).trans e5
      have h7 : V 7 = .slice A b.length c := HU.holds 7 (by decide)
      have tb11 : (Rg.putUse V [(5, 9), (7, 11)] fr).eval (.tmp 11) = .slice A b.length c := (Rg.use_eval V fr 11 [(5, 9), (7, 11)] (by simp only [hz]; decide)).trans h7
      show Rg.Does1 _ _ V (Rg.putUse V [(5, 9), (7, 11)] fr) w2 _
      exact Ob.step_frow (Co.wByte (k % 256).toNat ++ Co.wLong q ++ Co.wBytes b) #[.slice X5 (Co.wByte (k % 256).toNat ++ Co.wLong q).length k5, .slice A b.length c] (fun args w => Rg.call_enter Tryd.func17 (by kernel_rfl) (by kernel_rfl) args w) rfl (by simp only [List.map_toArray, List.map_cons, List.map_nil, tb9, tb11]) rfl (fun x => Rg.alias_none rfl V x) True.intro (bytes_frow hr5 (HR0.out.below lw) (by simp [Co.wByte, Co.wLong_length]) HBL.out)
    · intro V S w2 HM HU HE
      have lw : Below W0.heap.size W0 w2 := Rc.Mod.below HM (fun _ h => h.elim)
      obtain ⟨X8, k8, e8, hc8, hr8, hX8⟩ := HU.holds 8 (by decide)
      have tb12 : (Rg.putUse V [(8, 12)] fr).eval (.tmp 12) = .slice X8 (Co.wByte (k % 256).toNat ++ Co.wLong q ++ Co.wBytes b).length k8 := (Rg.use_eval V fr 12 [(8, 12)] (by simp only [hz]; decide)).trans e8
      show Rg.Does1 _ _ V (Rg.putUse V [(8, 12)] fr) w2 _
      exact Rc.step_val _ (Rg.alias_one rfl V) True.intro (by simp only [execOp, tb12, ← e8]; go_simp) True.intro
  intro V S w2 HI
  have HL2 : Hid (Below W0.heap.size W0 w2) := Rc.Mod.below HI.mod.undrew (fun _ h => h.elim)
  have ha9 : V 9 = V 8 := HI.same 9 8 (fun v => v) (by decide) (by simp)
  obtain ⟨X8, k8, hw8, hc8, hr8, hX8⟩ := HI.get 8 (by decide) (by rfl)
  have HR8 : Hid (Rd w2 X8 (Co.wByte (k % 256).toNat ++ Co.wLong q ++ Co.wBytes b)) := hr8
  clear hr8 hX8
  simp only [Rg.putList, Act.put, List.setIfInBounds_toArray, List.set_cons_zero, List.set_cons_succ, Nat.zero_add, Nat.reduceAdd]
  rw [ha9, hw8]
  clear HI ha9 hw8
  rw [HHD.out] at hc8 HR8 ⊢
  have HBW2 : Hid (Below w.heap.size w w2) := Later.trans HBW.out HL2.out
  clear HL2 hc8
  go_wp2_with fail
  refine (refSum_any w2 hd X8 k8 HR8.out (by have := HHL.out; have := HBL.out; omega)).mono ?_
  rintro e _ ⟨rfl, rfl⟩
  go_wp2_with fail
  refine (refSum4_any w2 hd X8 k8 (Cr.sum hd) HR8.out (by have := HHL.out; have := HBL.out; omega)).mono ?_
  rintro e w4 ⟨v, rfl, ho, hb4⟩
  have HEND : Hid (w4.ownsRow w.heap.size 5 1 v fo.length (Lib.byteCells fo) ∧ Below w.heap.size w w4) := by
    refine ⟨?_, Later.trans HBW2.out hb4⟩
    have hl : hd.length + 4 = fo.length := by have := HHL.out; have := HFL.out; omega
    rw [hl, ← HFD.out] at ho
    exact own_up (own_base ho) fun b hb => Nat.le_trans HBW2.out.size (own_lt ho hb).1
  clear ho hb4
  go_wp2_with fail
  go_ret
  exact ⟨_, rfl, HEND.out.1, HEND.out.2⟩
end Re
end Go.Proofs.YtmcbpgbiephllaaDoor

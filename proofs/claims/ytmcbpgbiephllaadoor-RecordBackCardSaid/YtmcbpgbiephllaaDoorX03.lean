/-
  OWN WORK. TsSave, TrHang, Arg, ReCode, ReFrame, CrRef, CrEnv, BaCut, BaWithin, CrSaid, CrHalf, CrLaid, CrCode, ReArgs, ReBackP, ReRows, ReRefP, ReRefW, ReSize, ReRefEnc
-/
import Derived.Test.YtmcbpgbiephllaaDoorX02
import Derived.Test.YtmcbpgbiephllaaDoorXCpWCode
import Derived.Lib.ConvBytes
import Derived.Test.YtmcbpgbiephllaaDoorX01

namespace Go.Proofs.YtmcbpgbiephllaaDoor
open Go.RowKit Rc
open Tr (Nm En T)
namespace Tr
end Tr
namespace Tm
variable {p : Nat} {av : Value} {gs : List Nat} {S : Nat → Prop} {t : T} {w : World}
end Tm
end Go.Proofs.YtmcbpgbiephllaaDoor

namespace Go.Proofs.YtmcbpgbiephllaaDoor
open Go.RowKit Rc
open Tr (Nm En T)
namespace Tm
def SOwn (w : World) (v : Value) (l : List Bs) : Prop := w.ownsRow 0 9 1 v l.length (txtCells l)
theorem SOwn.nil (w : World) : SOwn w (.slice none 0 0) [] := ⟨rfl, .inl ⟨rfl, rfl⟩⟩
theorem SOwn.keep {w w' : World} {v : Value} {l : List Bs} (h : SOwn w v l) (hb : ∀ b, v.ownBlock = some b → w'.heap[b]? = w.heap[b]?) : SOwn w' v l := own_keep h hb
theorem SOwn.lt {w : World} {v : Value} {l : List Bs} (h : SOwn w v l) {b : Nat} (hb : v.ownBlock = some b) : b < w.heap.size := (own_blk h hb).2.1
end Tm
end Go.Proofs.YtmcbpgbiephllaaDoor

namespace Go.Proofs.YtmcbpgbiephllaaDoor
open Go.RowKit Rc
namespace Ag
section
variable {F : Nat → Rc.Fact} {cons : List (Nat × Nat)} {E : Nat → (Nat → Value) → Value → Prop} {V : Nat → Value} {S : Nat → Nat → Prop} {j : Nat} {o : Oper} {b : Act} {w : World}
end
end Ag
end Go.Proofs.YtmcbpgbiephllaaDoor

namespace Go.Proofs.YtmcbpgbiephllaaDoor
open Go.RowKit Rc
namespace Re
def val (r : Rec) (A : Option Addr) (c : Nat) : Value := .agg #[.int .i64 r.kind, .int .u64 (r.seq : Nat), .slice A r.body.length c]
theorem isKind_any (k : Int) (w : World) : Calls Tryd.prog 35 #[.int .i64 k] w fun e w' => e = .returned (.bool (decide (k = 1 ∨ k = 2))) ∧ w = w' := by
  by_cases h1 : k = 1
  · subst h1
    go_enter Tryd.func35, Tryd.ntmps35
    go_wp2
    go_ret
    exact ⟨rfl, rfl⟩
  · by_cases h2 : k = 2
    · subst h2
      go_enter Tryd.func35, Tryd.ntmps35
      go_wp2
      go_ret
      exact ⟨rfl, rfl⟩
    · have hd : decide (k = 1 ∨ k = 2) = false := by simp [h1, h2]
      have hd2 : (k == 1 || k == 2) = false := by simp [h1, h2]
      rw [hd]
      go_enter Tryd.func35, Tryd.ntmps35
      go_wp2
      go_ret
      exact ⟨rfl, rfl⟩
def most (k : Int) : Int := if k = 2 then 0 else 900
theorem mostBody_any (k : Int) (w : World) : Calls Tryd.prog 41 #[.int .i64 k] w fun e w' => e = .returned (.int .i64 (most k)) ∧ w = w' := by
  by_cases h2 : k = 2
  · subst h2
    go_enter Tryd.func41, Tryd.ntmps41
    go_wp2
    go_ret
    exact ⟨rfl, rfl⟩
  · have hm : most k = 900 := if_neg h2
    rw [hm]
    go_enter Tryd.func41, Tryd.ntmps41
    go_wp2
    go_ret
    exact ⟨rfl, rfl⟩
set_option maxHeartbeats 2000000 in
set_option maxRecDepth 100000 in
theorem re_right_any (r : Rec) (A : Option Addr) (c : Nat) (w : World) : Calls Tryd.prog 23 #[val r A c] w fun e w' => e = .returned (.bool (decide (Right r))) ∧ Below w.heap.size w w' := by
  obtain ⟨k, q, b⟩ := r
  have HYY : Hid (∀ h : Bool, (h = true ↔ Right ⟨k, q, b⟩) → decide (Right ⟨k, q, b⟩) = h) := fun h hh => by
    rw [Bool.eq_iff_iff]; simpa using hh.symm
  unfold val
  dsimp only
  obtain ⟨W0, hW0⟩ : ∃ W0, W0 = w.alloc (.cells #[.int .i64 k, .int .u64 (q : Nat), .slice A b.length c] 27) := ⟨_, rfl⟩
  obtain ⟨g, hg⟩ : ∃ g, g = w.heap.size := ⟨_, rfl⟩
  have HB0 : Hid (Blk W0 g 27 [.int .i64 k, .int .u64 (q : Nat), .slice A b.length c]) := by show Blk _ _ _ _; rw [hW0, hg]; exact Blk.new w _ _
  have HBW : Hid (Below w.heap.size w W0) := by show Below _ _ _; rw [hW0]; exact below_new w _
  have HIK : Hid (∀ W, Calls Tryd.prog 35 #[.int .i64 k] W fun e w' => e = .returned (.bool (decide (k = 1 ∨ k = 2))) ∧ Below W.heap.size W w') := fun W => (isKind_any k W).mono fun e w' ⟨h, hw⟩ => by subst hw; exact ⟨h, Below.refl _ _⟩
  have HMB : Hid (∀ W, Calls Tryd.prog 41 #[.int .i64 k] W fun e w' => e = .returned (.int .i64 (most k)) ∧ Below W.heap.size W w') := fun W => (mostBody_any k W).mono fun e w' ⟨h, hw⟩ => by subst hw; exact ⟨h, Below.refl _ _⟩
  have HMO : Hid (most k = if k = 2 then 0 else 900) := rfl
  go_enter Tryd.func23, Tryd.ntmps23
  go_upto_region 1 with (fail)
  rw [← hW0, ← hg]
  clear hW0 hg
  by_cases hk : k = 1 ∨ k = 2
  · rw [decide_eq_true hk] at HIK
    have HK := Lib.hid hk
    clear hk
    by_cases hq : (q : Int) ≤ 1099511627776
    · have HQ := Lib.hid hq
      clear hq
      refine Rc.wp_region (by kernel_rfl) (fun opn => List.getD [Rc.val (.pointer (some ⟨g, 0, none⟩)), Rc.val (.int .i64 k), Rc.val (.bool true), Rc.val (.bool true), Rc.val (.pointer (some ⟨g, 1, none⟩)), Rc.val (.int .u64 (q : Nat)), Rc.val (.bool true), Rc.val (.bool true), Rc.val (.bool true), Rc.val (.pointer (some ⟨g, 2, none⟩)), Rc.val (.slice A b.length c), Rc.val (.int .i64 (b.length : Nat)), Rc.val (.pointer (some ⟨g, 0, none⟩)), Rc.val (.int .i64 k), Rc.val (.int .i64 (most k)), Rc.val (.bool (decide ((b.length : Int) ≤ most k))), Rc.val (.bool (decide ((b.length : Int) ≤ most k))), Rc.val (.bool (decide ((b.length : Int) ≤ most k)))] opn Rc.any) 0 [] [[], [(0, 3)], [(1, 4)], [(2, 5)], [(3, 6)], [(3, 6), (4, 7)], [(3, 6), (5, 8)], [(3, 6), (6, 9)], [(7, 10)], [(8, 11)], [(8, 11), (9, 12)], [(8, 11), (10, 13)], [(8, 11)], [(8, 11), (12, 15)], [(8, 11), (13, 16)], [(8, 11), (11, 14), (14, 17)], [(8, 11), (15, 18)], [(16, 19)]] [[], [0], [1], [2], [3], [3, 4], [3, 5], [3, 6], [7], [8], [8, 9], [8, 10], [8], [8, 12], [8, 13], [8, 11, 14], [8, 15], [16]] [[], [0], [1], [2], [3], [3, 4], [3, 5], [3, 6], [7], [8], [8, 9], [8, 10], [8], [8, 12], [8, 13], [8, 11, 14], [8, 15], [16]] [] (by kernel_rfl) (by rfl) (by kernel_rfl) (fun _ => False) (fun _ _ => False) Rc.Inv.none ?_ ?_
      · intro fr ha
        have hz : fr.tmps.size = 20 := by rw [ha]; rfl
        have y1 : fr.eval (.tmp 1) = .pointer (some ⟨g, 0, none⟩) := by rw [ha]; rfl
        have y2 : fr.eval (.tmp 2) = .bool false := by rw [ha]; rfl
        clear ha
        refine .cons ?_ (.cons ?_ (.cons ?_ (.cons ?_ (.cons ?_ (.cons ?_ (.cons ?_ (.cons ?_ (.cons ?_ (.cons ?_ (.cons ?_ (.cons ?_ (.cons ?_ (.cons ?_ (.cons ?_ (.cons ?_ (.cons ?_ (.cons ?_ (.nil))))))))))))))))))
        · intro V S w2 HM HU HE
          have lw : Below W0.heap.size W0 w2 := Rc.Mod.below HM (fun _ h => h.elim)
          have tb1 : (Rg.putUse V [] fr).eval (.tmp 1) = .pointer (some ⟨g, 0, none⟩) := (Rg.use_eval V fr 1 [] (by simp only [hz]; decide)).trans y1
          show Rg.Does1 _ _ V (Rg.putUse V [] fr) w2 _
          exact Ob.rc_mv (.pointer (some ⟨g, 0, none⟩)) (by simp only [execOp, tb1]; go_simp) rfl rfl True.intro
        · intro V S w2 HM HU HE
          have lw : Below W0.heap.size W0 w2 := Rc.Mod.below HM (fun _ h => h.elim)
          have h0 : V 0 = .pointer (some ⟨g, 0, none⟩) := HU.holds 0 (by decide)
          have tb3 : (Rg.putUse V [(0, 3)] fr).eval (.tmp 3) = .pointer (some ⟨g, 0, none⟩) := (Rg.use_eval V fr 3 [(0, 3)] (by simp only [hz]; decide)).trans h0
          show Rg.Does1 _ _ V (Rg.putUse V [(0, 3)] fr) w2 _
          have cl := (lw.cell (p := ⟨g, 0, none⟩) HB0.out.lt).trans (HB0.out.cell 0)
          exact Ob.rc_mv (.int .i64 k) (by simp only [execOp, tb3]; go_simp) rfl rfl True.intro
        · intro V S w2 HM HU HE
          have lw : Below W0.heap.size W0 w2 := Rc.Mod.below HM (fun _ h => h.elim)
          have h1 : V 1 = .int .i64 k := HU.holds 1 (by decide)
          have tb4 : (Rg.putUse V [(1, 4)] fr).eval (.tmp 4) = .int .i64 k := (Rg.use_eval V fr 4 [(1, 4)] (by simp only [hz]; decide)).trans h1
          show Rg.Does1 _ _ V (Rg.putUse V [(1, 4)] fr) w2 _
          exact Ob.step_tell (.bool true) #[.int .i64 k] (fun args w => Rg.call_enter Tryd.func35 (by kernel_rfl) (by kernel_rfl) args w) rfl (by simp only [List.map_toArray, List.map_cons, List.map_nil, tb4]) rfl (fun x => Rg.alias_none rfl V x) True.intro (HIK.out w2)
        · intro V S w2 HM HU HE
          have lw : Below W0.heap.size W0 w2 := Rc.Mod.below HM (fun _ h => h.elim)
          have h2 : V 2 = .bool true := HU.holds 2 (by decide)
          have tb5 : (Rg.putUse V [(2, 5)] fr).eval (.tmp 5) = .bool true := (Rg.use_eval V fr 5 [(2, 5)] (by simp only [hz]; decide)).trans h2
          show Rg.Does1 _ _ V (Rg.putUse V [(2, 5)] fr) w2 _
          exact Ob.rc_mv (.bool true) (by simp only [execOp, tb5]; go_simp) rfl rfl True.intro
        · intro V S w2 HM HU HE
          have lw : Below W0.heap.size W0 w2 := Rc.Mod.below HM (fun _ h => h.elim)
          have h3 : V 3 = .bool true := HU.holds 3 (by decide)
          have tb1 : (Rg.putUse V [(3, 6)] fr).eval (.tmp 1) = .pointer (some ⟨g, 0, none⟩) := (Rg.use_eval V fr 1 [(3, 6)] (by simp only [hz]; decide)).trans y1
          show Rg.Does1 _ _ V (Rg.putUse V [(3, 6)] fr) w2 _
          exact Ob.rc_mv (.pointer (some ⟨g, 1, none⟩)) (by simp only [execOp, tb1]; go_simp) rfl rfl h3
        · intro V S w2 HM HU HE
          have lw : Below W0.heap.size W0 w2 := Rc.Mod.below HM (fun _ h => h.elim)
          have h3 : V 3 = .bool true := HU.holds 3 (by decide)
          have h4 : V 4 = .pointer (some ⟨g, 1, none⟩) := HU.holds 4 (by decide)
          have tb7 : (Rg.putUse V [(3, 6), (4, 7)] fr).eval (.tmp 7) = .pointer (some ⟨g, 1, none⟩) := (Rg.use_eval V fr 7 [(3, 6), (4, 7)] (by simp only [hz]; decide)).trans h4
          show Rg.Does1 _ _ V (Rg.putUse V [(3, 6), (4, 7)] fr) w2 _
          have cl := (lw.cell (p := ⟨g, 1, none⟩) HB0.out.lt).trans (HB0.out.cell 1)
          exact Ob.rc_mv (.int .u64 (q : Nat)) (by simp only [execOp, tb7]; go_simp) rfl rfl h3
        · intro V S w2 HM HU HE
          have lw : Below W0.heap.size W0 w2 := Rc.Mod.below HM (fun _ h => h.elim)
          have h3 : V 3 = .bool true := HU.holds 3 (by decide)
          have h5 : V 5 = .int .u64 (q : Nat) := HU.holds 5 (by decide)
          have tb8 : (Rg.putUse V [(3, 6), (5, 8)] fr).eval (.tmp 8) = .int .u64 (q : Nat) := (Rg.use_eval V fr 8 [(3, 6), (5, 8)] (by simp only [hz]; decide)).trans h5
          show Rg.Does1 _ _ V (Rg.putUse V [(3, 6), (5, 8)] fr) w2 _
          have hq := HQ.out
          exact Ob.rc_mv (.bool true) (by simp only [execOp, tb8]; go_simp) rfl rfl h3
        · intro V S w2 HM HU HE
          have lw : Below W0.heap.size W0 w2 := Rc.Mod.below HM (fun _ h => h.elim)
          have h3 : V 3 = .bool true := HU.holds 3 (by decide)
          have tb6 : (Rg.putUse V [(3, 6), (6, 9)] fr).eval (.tmp 6) = .bool true := (Rg.use_eval V fr 6 [(3, 6), (6, 9)] (by simp only [hz]; decide)).trans h3
          have h6 : V 6 = .bool true := HU.holds 6 (by decide)
          have tb9 : (Rg.putUse V [(3, 6), (6, 9)] fr).eval (.tmp 9) = .bool true := (Rg.use_eval V fr 9 [(3, 6), (6, 9)] (by simp only [hz]; decide)).trans h6
          show Rg.Does1 _ _ V (Rg.putUse V [(3, 6), (6, 9)] fr) w2 _
          exact Ob.rc_mv (.bool true) (by simp only [execOp, tb6, tb9]; go_simp) rfl rfl True.intro
        · intro V S w2 HM HU HE
          have lw : Below W0.heap.size W0 w2 := Rc.Mod.below HM (fun _ h => h.elim)
          have h7 : V 7 = .bool true := HU.holds 7 (by decide)
          have tb10 : (Rg.putUse V [(7, 10)] fr).eval (.tmp 10) = .bool true := (Rg.use_eval V fr 10 [(7, 10)] (by simp only [hz]; decide)).trans h7
          show Rg.Does1 _ _ V (Rg.putUse V [(7, 10)] fr) w2 _
          exact Ob.rc_mv (.bool true) (by simp only [execOp, tb10]; go_simp) rfl rfl True.intro
        · intro V S w2 HM HU HE
          have lw : Below W0.heap.size W0 w2 := Rc.Mod.below HM (fun _ h => h.elim)
          have h8 : V 8 = .bool true := HU.holds 8 (by decide)
          have tb1 : (Rg.putUse V [(8, 11)] fr).eval (.tmp 1) = .pointer (some ⟨g, 0, none⟩) := (Rg.use_eval V fr 1 [(8, 11)] (by simp only [hz]; decide)).trans y1
          show Rg.Does1 _ _ V (Rg.putUse V [(8, 11)] fr) w2 _
          exact Ob.rc_mv (.pointer (some ⟨g, 2, none⟩)) (by simp only [execOp, tb1]; go_simp) rfl rfl h8
        · intro V S w2 HM HU HE
          have lw : Below W0.heap.size W0 w2 := Rc.Mod.below HM (fun _ h => h.elim)
          have h8 : V 8 = .bool true := HU.holds 8 (by decide)
          have h9 : V 9 = .pointer (some ⟨g, 2, none⟩) := HU.holds 9 (by decide)
          have tb12 : (Rg.putUse V [(8, 11), (9, 12)] fr).eval (.tmp 12) = .pointer (some ⟨g, 2, none⟩) := (Rg.use_eval V fr 12 [(8, 11), (9, 12)] (by simp only [hz]; decide)).trans h9
          show Rg.Does1 _ _ V (Rg.putUse V [(8, 11), (9, 12)] fr) w2 _
          have cl := (lw.cell (p := ⟨g, 2, none⟩) HB0.out.lt).trans (HB0.out.cell 2)
          exact Ob.rc_mv (.slice A b.length c) (by simp only [execOp, tb12]; go_simp) rfl rfl h8
        · intro V S w2 HM HU HE
          have lw : Below W0.heap.size W0 w2 := Rc.Mod.below HM (fun _ h => h.elim)
          have h8 : V 8 = .bool true := HU.holds 8 (by decide)
          have h10 : V 10 = .slice A b.length c := HU.holds 10 (by decide)
          have tb13 : (Rg.putUse V [(8, 11), (10, 13)] fr).eval (.tmp 13) = .slice A b.length c := (Rg.use_eval V fr 13 [(8, 11), (10, 13)] (by simp only [hz]; decide)).trans h10
          show Rg.Does1 _ _ V (Rg.putUse V [(8, 11), (10, 13)] fr) w2 _
          exact Ob.rc_mv (.int .i64 (b.length : Nat)) (by simp only [execOp, resolve, List.map_toArray, List.map_cons, List.map_nil, tb13]; go_simp) rfl rfl h8
        · intro V S w2 HM HU HE
          have lw : Below W0.heap.size W0 w2 := Rc.Mod.below HM (fun _ h => h.elim)
          have h8 : V 8 = .bool true := HU.holds 8 (by decide)
          have tb1 : (Rg.putUse V [(8, 11)] fr).eval (.tmp 1) = .pointer (some ⟨g, 0, none⟩) := (Rg.use_eval V fr 1 [(8, 11)] (by simp only [hz]; decide)).trans y1
          show Rg.Does1 _ _ V (Rg.putUse V [(8, 11)] fr) w2 _
          exact Ob.rc_mv (.pointer (some ⟨g, 0, none⟩)) (by simp only [execOp, tb1]; go_simp) rfl rfl h8
        · intro V S w2 HM HU HE
          have lw : Below W0.heap.size W0 w2 := Rc.Mod.below HM (fun _ h => h.elim)
          have h8 : V 8 = .bool true := HU.holds 8 (by decide)
          have h12 : V 12 = .pointer (some ⟨g, 0, none⟩) := HU.holds 12 (by decide)
          have tb15 : (Rg.putUse V [(8, 11), (12, 15)] fr).eval (.tmp 15) = .pointer (some ⟨g, 0, none⟩) := (Rg.use_eval V fr 15 [(8, 11), (12, 15)] (by simp only [hz]; decide)).trans h12
          show Rg.Does1 _ _ V (Rg.putUse V [(8, 11), (12, 15)] fr) w2 _
          have cl := (lw.cell (p := ⟨g, 0, none⟩) HB0.out.lt).trans (HB0.out.cell 0)
          exact Ob.rc_mv (.int .i64 k) (by simp only [execOp, tb15]; go_simp) rfl rfl h8
        · intro V S w2 HM HU HE
          have lw : Below W0.heap.size W0 w2 := Rc.Mod.below HM (fun _ h => h.elim)
          have h8 : V 8 = .bool true := HU.holds 8 (by decide)
          have h13 : V 13 = .int .i64 k := HU.holds 13 (by decide)
          have tb16 : (Rg.putUse V [(8, 11), (13, 16)] fr).eval (.tmp 16) = .int .i64 k := (Rg.use_eval V fr 16 [(8, 11), (13, 16)] (by simp only [hz]; decide)).trans h13
          show Rg.Does1 _ _ V (Rg.putUse V [(8, 11), (13, 16)] fr) w2 _
          exact Ob.step_tell (.int .i64 (most k)) #[.int .i64 k] (fun args w => Rg.call_enter Tryd.func41 (by kernel_rfl) (by kernel_rfl) args w) rfl (by simp only [List.map_toArray, List.map_cons, List.map_nil, tb16]) rfl (fun x => Rg.alias_none rfl V x) h8 (HMB.out w2)
        · intro V S w2 HM HU HE
          have lw : Below W0.heap.size W0 w2 := Rc.Mod.below HM (fun _ h => h.elim)
          have h8 : V 8 = .bool true := HU.holds 8 (by decide)
          have h11 : V 11 = .int .i64 (b.length : Nat) := HU.holds 11 (by decide)
          have tb14 : (Rg.putUse V [(8, 11), (11, 14), (14, 17)] fr).eval (.tmp 14) = .int .i64 (b.length : Nat) := (Rg.use_eval V fr 14 [(8, 11), (11, 14), (14, 17)] (by simp only [hz]; decide)).trans h11
          have h14 : V 14 = .int .i64 (most k) := HU.holds 14 (by decide)
          have tb17 : (Rg.putUse V [(8, 11), (11, 14), (14, 17)] fr).eval (.tmp 17) = .int .i64 (most k) := (Rg.use_eval V fr 17 [(8, 11), (11, 14), (14, 17)] (by simp only [hz]; decide)).trans h14
          show Rg.Does1 _ _ V (Rg.putUse V [(8, 11), (11, 14), (14, 17)] fr) w2 _
          exact Ob.rc_mv (.bool (decide ((b.length : Int) ≤ most k))) (by simp only [execOp, tb14, tb17]; go_simp) rfl rfl h8
        · intro V S w2 HM HU HE
          have lw : Below W0.heap.size W0 w2 := Rc.Mod.below HM (fun _ h => h.elim)
          have h8 : V 8 = .bool true := HU.holds 8 (by decide)
          have tb11 : (Rg.putUse V [(8, 11), (15, 18)] fr).eval (.tmp 11) = .bool true := (Rg.use_eval V fr 11 [(8, 11), (15, 18)] (by simp only [hz]; decide)).trans h8
          have h15 : V 15 = .bool (decide ((b.length : Int) ≤ most k)) := HU.holds 15 (by decide)
          have tb18 : (Rg.putUse V [(8, 11), (15, 18)] fr).eval (.tmp 18) = .bool (decide ((b.length : Int) ≤ most k)) := (Rg.use_eval V fr 18 [(8, 11), (15, 18)] (by simp only [hz]; decide)).trans h15
          show Rg.Does1 _ _ V (Rg.putUse V [(8, 11), (15, 18)] fr) w2 _
          exact Ob.rc_mv (.bool (decide ((b.length : Int) ≤ most k))) (by simp only [execOp, tb11, tb18]; go_simp) rfl rfl True.intro
        · intro V S w2 HM HU HE
          have lw : Below W0.heap.size W0 w2 := Rc.Mod.below HM (fun _ h => h.elim)
          have h16 : V 16 = .bool (decide ((b.length : Int) ≤ most k)) := HU.holds 16 (by decide)
          have tb19 : (Rg.putUse V [(16, 19)] fr).eval (.tmp 19) = .bool (decide ((b.length : Int) ≤ most k)) := (Rg.use_eval V fr 19 [(16, 19)] (by simp only [hz]; decide)).trans h16
          show Rg.Does1 _ _ V (Rg.putUse V [(16, 19)] fr) w2 _
          exact Ob.rc_mv (.bool (decide ((b.length : Int) ≤ most k))) (by simp only [execOp, tb19]; go_simp) rfl rfl True.intro
      intro V S w2 HI
      have HL2 : Hid (Below W0.heap.size W0 w2) := Rc.Mod.below HI.mod.undrew (fun _ h => h.elim)
      have hw17 : V 17 = .bool (decide ((b.length : Int) ≤ most k)) := HI.get 17 (by decide) (by rfl)
      simp only [Rg.putList, Act.put, List.setIfInBounds_toArray, List.set_cons_zero, List.set_cons_succ, Nat.zero_add, Nat.reduceAdd]
      rw [hw17]
      clear HI hw17

      go_wp2_with fail
      go_ret
      refine ⟨congrArg (fun b => Ending.returned (Value.bool b)) (HYY.out ((decide ((b.length : Int) ≤ most k))) ?_).symm, Later.trans HBW.out HL2.out⟩
      · have := HK.out
        have := HQ.out
        rw [HMO.out]
        unfold Right
        dsimp only
        rcases HK.out with h | h
        · subst h; simp; omega
        · subst h; simp; omega
    · have HQ := Lib.hid hq
      clear hq
      refine Rc.wp_region (by kernel_rfl) (fun opn => List.getD [Rc.val (.pointer (some ⟨g, 0, none⟩)), Rc.val (.int .i64 k), Rc.val (.bool true), Rc.val (.bool true), Rc.val (.pointer (some ⟨g, 1, none⟩)), Rc.val (.int .u64 (q : Nat)), Rc.val (.bool false), Rc.val (.bool false), Rc.val (.bool false), Rc.val (undef), Rc.val (undef), Rc.val (undef), Rc.val (undef), Rc.val (undef), Rc.val (undef), Rc.val (undef), Rc.val (.bool false), Rc.val (.bool false)] opn Rc.any) 0 [] [[], [(0, 3)], [(1, 4)], [(2, 5)], [(3, 6)], [(3, 6), (4, 7)], [(3, 6), (5, 8)], [(3, 6), (6, 9)], [(7, 10)], [(8, 11)], [(8, 11), (9, 12)], [(8, 11), (10, 13)], [(8, 11)], [(8, 11), (12, 15)], [(8, 11), (13, 16)], [(8, 11), (11, 14), (14, 17)], [(8, 11), (15, 18)], [(16, 19)]] [[], [0], [1], [2], [3], [3, 4], [3, 5], [3, 6], [7], [8], [8, 9], [8, 10], [8], [8, 12], [8, 13], [8, 11, 14], [8, 15], [16]] [[], [0], [1], [2], [3], [3, 4], [3, 5], [3, 6], [7], [8], [8, 9], [8, 10], [8], [8, 12], [8, 13], [8, 11, 14], [8, 15], [16]] [] (by kernel_rfl) (by rfl) (by kernel_rfl) (fun _ => False) (fun _ _ => False) Rc.Inv.none ?_ ?_
      · intro fr ha
        have hz : fr.tmps.size = 20 := by rw [ha]; rfl
        have y1 : fr.eval (.tmp 1) = .pointer (some ⟨g, 0, none⟩) := by rw [ha]; rfl
        have y2 : fr.eval (.tmp 2) = .bool false := by rw [ha]; rfl
        clear ha
        refine .cons ?_ (.cons ?_ (.cons ?_ (.cons ?_ (.cons ?_ (.cons ?_ (.cons ?_ (.cons ?_ (.cons ?_ (.cons ?_ (.cons ?_ (.cons ?_ (.cons ?_ (.cons ?_ (.cons ?_ (.cons ?_ (.cons ?_ (.cons ?_ (.nil))))))))))))))))))
        · intro V S w2 HM HU HE
          have lw : Below W0.heap.size W0 w2 := Rc.Mod.below HM (fun _ h => h.elim)
          have tb1 : (Rg.putUse V [] fr).eval (.tmp 1) = .pointer (some ⟨g, 0, none⟩) := (Rg.use_eval V fr 1 [] (by simp only [hz]; decide)).trans y1
          show Rg.Does1 _ _ V (Rg.putUse V [] fr) w2 _
          exact Ob.rc_mv (.pointer (some ⟨g, 0, none⟩)) (by simp only [execOp, tb1]; go_simp) rfl rfl True.intro
        · intro V S w2 HM HU HE
          have lw : Below W0.heap.size W0 w2 := Rc.Mod.below HM (fun _ h => h.elim)
          have h0 : V 0 = .pointer (some ⟨g, 0, none⟩) := HU.holds 0 (by decide)
          have tb3 : (Rg.putUse V [(0, 3)] fr).eval (.tmp 3) = .pointer (some ⟨g, 0, none⟩) := (Rg.use_eval V fr 3 [(0, 3)] (by simp only [hz]; decide)).trans h0
          show Rg.Does1 _ _ V (Rg.putUse V [(0, 3)] fr) w2 _
          have cl := (lw.cell (p := ⟨g, 0, none⟩) HB0.out.lt).trans (HB0.out.cell 0)
          exact Ob.rc_mv (.int .i64 k) (by simp only [execOp, tb3]; go_simp) rfl rfl True.intro
        · intro V S w2 HM HU HE
          have lw : Below W0.heap.size W0 w2 := Rc.Mod.below HM (fun _ h => h.elim)
          have h1 : V 1 = .int .i64 k := HU.holds 1 (by decide)
          have tb4 : (Rg.putUse V [(1, 4)] fr).eval (.tmp 4) = .int .i64 k := (Rg.use_eval V fr 4 [(1, 4)] (by simp only [hz]; decide)).trans h1
          show Rg.Does1 _ _ V (Rg.putUse V [(1, 4)] fr) w2 _
          exact Ob.step_tell (.bool true) #[.int .i64 k] (fun args w => Rg.call_enter Tryd.func35 (by kernel_rfl) (by kernel_rfl) args w) rfl (by simp only [List.map_toArray, List.map_cons, List.map_nil, tb4]) rfl (fun x => Rg.alias_none rfl V x) True.intro (HIK.out w2)
        · intro V S w2 HM HU HE
          have lw : Below W0.heap.size W0 w2 := Rc.Mod.below HM (fun _ h => h.elim)
          have h2 : V 2 = .bool true := HU.holds 2 (by decide)
          have tb5 : (Rg.putUse V [(2, 5)] fr).eval (.tmp 5) = .bool true := (Rg.use_eval V fr 5 [(2, 5)] (by simp only [hz]; decide)).trans h2
          show Rg.Does1 _ _ V (Rg.putUse V [(2, 5)] fr) w2 _
          exact Ob.rc_mv (.bool true) (by simp only [execOp, tb5]; go_simp) rfl rfl True.intro
        · intro V S w2 HM HU HE
          have lw : Below W0.heap.size W0 w2 := Rc.Mod.below HM (fun _ h => h.elim)
          have h3 : V 3 = .bool true := HU.holds 3 (by decide)
          have tb1 : (Rg.putUse V [(3, 6)] fr).eval (.tmp 1) = .pointer (some ⟨g, 0, none⟩) := (Rg.use_eval V fr 1 [(3, 6)] (by simp only [hz]; decide)).trans y1
          show Rg.Does1 _ _ V (Rg.putUse V [(3, 6)] fr) w2 _
          exact Ob.rc_mv (.pointer (some ⟨g, 1, none⟩)) (by simp only [execOp, tb1]; go_simp) rfl rfl h3
        · intro V S w2 HM HU HE
          have lw : Below W0.heap.size W0 w2 := Rc.Mod.below HM (fun _ h => h.elim)
          have h3 : V 3 = .bool true := HU.holds 3 (by decide)
          have h4 : V 4 = .pointer (some ⟨g, 1, none⟩) := HU.holds 4 (by decide)
          have tb7 : (Rg.putUse V [(3, 6), (4, 7)] fr).eval (.tmp 7) = .pointer (some ⟨g, 1, none⟩) := (Rg.use_eval V fr 7 [(3, 6), (4, 7)] (by simp only [hz]; decide)).trans h4
          show Rg.Does1 _ _ V (Rg.putUse V [(3, 6), (4, 7)] fr) w2 _
          have cl := (lw.cell (p := ⟨g, 1, none⟩) HB0.out.lt).trans (HB0.out.cell 1)
          exact Ob.rc_mv (.int .u64 (q : Nat)) (by simp only [execOp, tb7]; go_simp) rfl rfl h3
        · intro V S w2 HM HU HE
          have lw : Below W0.heap.size W0 w2 := Rc.Mod.below HM (fun _ h => h.elim)
          have h3 : V 3 = .bool true := HU.holds 3 (by decide)
          have h5 : V 5 = .int .u64 (q : Nat) := HU.holds 5 (by decide)
          have tb8 : (Rg.putUse V [(3, 6), (5, 8)] fr).eval (.tmp 8) = .int .u64 (q : Nat) := (Rg.use_eval V fr 8 [(3, 6), (5, 8)] (by simp only [hz]; decide)).trans h5
          show Rg.Does1 _ _ V (Rg.putUse V [(3, 6), (5, 8)] fr) w2 _
          have hq := HQ.out
          exact Ob.rc_mv (.bool false) (by simp only [execOp, tb8]; go_simp) rfl rfl h3
        · intro V S w2 HM HU HE
          have lw : Below W0.heap.size W0 w2 := Rc.Mod.below HM (fun _ h => h.elim)
          have h3 : V 3 = .bool true := HU.holds 3 (by decide)
          have tb6 : (Rg.putUse V [(3, 6), (6, 9)] fr).eval (.tmp 6) = .bool true := (Rg.use_eval V fr 6 [(3, 6), (6, 9)] (by simp only [hz]; decide)).trans h3
          have h6 : V 6 = .bool false := HU.holds 6 (by decide)
          have tb9 : (Rg.putUse V [(3, 6), (6, 9)] fr).eval (.tmp 9) = .bool false := (Rg.use_eval V fr 9 [(3, 6), (6, 9)] (by simp only [hz]; decide)).trans h6
          show Rg.Does1 _ _ V (Rg.putUse V [(3, 6), (6, 9)] fr) w2 _
          exact Ob.rc_mv (.bool false) (by simp only [execOp, tb6, tb9]; go_simp) rfl rfl True.intro
        · intro V S w2 HM HU HE
          have lw : Below W0.heap.size W0 w2 := Rc.Mod.below HM (fun _ h => h.elim)
          have h7 : V 7 = .bool false := HU.holds 7 (by decide)
          have tb10 : (Rg.putUse V [(7, 10)] fr).eval (.tmp 10) = .bool false := (Rg.use_eval V fr 10 [(7, 10)] (by simp only [hz]; decide)).trans h7
          show Rg.Does1 _ _ V (Rg.putUse V [(7, 10)] fr) w2 _
          exact Ob.rc_mv (.bool false) (by simp only [execOp, tb10]; go_simp) rfl rfl True.intro
        · intro V S w2 HM HU HE
          have lw : Below W0.heap.size W0 w2 := Rc.Mod.below HM (fun _ h => h.elim)
          have h8 : V 8 = .bool false := HU.holds 8 (by decide)
          exact Rc.step_not rfl h8 (Rg.alias_none rfl V _) rfl
        · intro V S w2 HM HU HE
          have lw : Below W0.heap.size W0 w2 := Rc.Mod.below HM (fun _ h => h.elim)
          have h8 : V 8 = .bool false := HU.holds 8 (by decide)
          have h9 : V 9 = undef := HU.holds 9 (by decide)
          have tb12 : (Rg.putUse V [(8, 11), (9, 12)] fr).eval (.tmp 12) = undef := (Rg.use_eval V fr 12 [(8, 11), (9, 12)] (by simp only [hz]; decide)).trans h9
          exact Rc.step_not rfl h8 (Rg.alias_none rfl V _) rfl
        · intro V S w2 HM HU HE
          have lw : Below W0.heap.size W0 w2 := Rc.Mod.below HM (fun _ h => h.elim)
          have h8 : V 8 = .bool false := HU.holds 8 (by decide)
          have h10 : V 10 = undef := HU.holds 10 (by decide)
          have tb13 : (Rg.putUse V [(8, 11), (10, 13)] fr).eval (.tmp 13) = undef := (Rg.use_eval V fr 13 [(8, 11), (10, 13)] (by simp only [hz]; decide)).trans h10
          exact Rc.step_not rfl h8 (Rg.alias_none rfl V _) rfl
        · intro V S w2 HM HU HE
          have lw : Below W0.heap.size W0 w2 := Rc.Mod.below HM (fun _ h => h.elim)
          have h8 : V 8 = .bool false := HU.holds 8 (by decide)
          exact Rc.step_not rfl h8 (Rg.alias_none rfl V _) rfl
        · intro V S w2 HM HU HE
          have lw : Below W0.heap.size W0 w2 := Rc.Mod.below HM (fun _ h => h.elim)
          have h8 : V 8 = .bool false := HU.holds 8 (by decide)
          have h12 : V 12 = undef := HU.holds 12 (by decide)
          have tb15 : (Rg.putUse V [(8, 11), (12, 15)] fr).eval (.tmp 15) = undef := (Rg.use_eval V fr 15 [(8, 11), (12, 15)] (by simp only [hz]; decide)).trans h12
          exact Rc.step_not rfl h8 (Rg.alias_none rfl V _) rfl
        · intro V S w2 HM HU HE
          have lw : Below W0.heap.size W0 w2 := Rc.Mod.below HM (fun _ h => h.elim)
          have h8 : V 8 = .bool false := HU.holds 8 (by decide)
          have h13 : V 13 = undef := HU.holds 13 (by decide)
          have tb16 : (Rg.putUse V [(8, 11), (13, 16)] fr).eval (.tmp 16) = undef := (Rg.use_eval V fr 16 [(8, 11), (13, 16)] (by simp only [hz]; decide)).trans h13
          exact Rc.step_not rfl h8 (Rg.alias_none rfl V _) rfl
        · intro V S w2 HM HU HE
          have lw : Below W0.heap.size W0 w2 := Rc.Mod.below HM (fun _ h => h.elim)
          have h8 : V 8 = .bool false := HU.holds 8 (by decide)
          have h11 : V 11 = undef := HU.holds 11 (by decide)
          have tb14 : (Rg.putUse V [(8, 11), (11, 14), (14, 17)] fr).eval (.tmp 14) = undef := (Rg.use_eval V fr 14 [(8, 11), (11, 14), (14, 17)] (by simp only [hz]; decide)).trans h11
          have h14 : V 14 = undef := HU.holds 14 (by decide)
          have tb17 : (Rg.putUse V [(8, 11), (11, 14), (14, 17)] fr).eval (.tmp 17) = undef := (Rg.use_eval V fr 17 [(8, 11), (11, 14), (14, 17)] (by simp only [hz]; decide)).trans h14
          exact Rc.step_not rfl h8 (Rg.alias_none rfl V _) rfl
        · intro V S w2 HM HU HE
          have lw : Below W0.heap.size W0 w2 := Rc.Mod.below HM (fun _ h => h.elim)
          have h8 : V 8 = .bool false := HU.holds 8 (by decide)
          have tb11 : (Rg.putUse V [(8, 11), (15, 18)] fr).eval (.tmp 11) = .bool false := (Rg.use_eval V fr 11 [(8, 11), (15, 18)] (by simp only [hz]; decide)).trans h8
          have h15 : V 15 = undef := HU.holds 15 (by decide)
          have tb18 : (Rg.putUse V [(8, 11), (15, 18)] fr).eval (.tmp 18) = undef := (Rg.use_eval V fr 18 [(8, 11), (15, 18)] (by simp only [hz]; decide)).trans h15
          show Rg.Does1 _ _ V (Rg.putUse V [(8, 11), (15, 18)] fr) w2 _
          exact Ob.rc_mv (.bool false) (by simp only [execOp, tb11, tb18]; go_simp) rfl rfl True.intro
        · intro V S w2 HM HU HE
          have lw : Below W0.heap.size W0 w2 := Rc.Mod.below HM (fun _ h => h.elim)
          have h16 : V 16 = .bool false := HU.holds 16 (by decide)
          have tb19 : (Rg.putUse V [(16, 19)] fr).eval (.tmp 19) = .bool false := (Rg.use_eval V fr 19 [(16, 19)] (by simp only [hz]; decide)).trans h16
          show Rg.Does1 _ _ V (Rg.putUse V [(16, 19)] fr) w2 _
          exact Ob.rc_mv (.bool false) (by simp only [execOp, tb19]; go_simp) rfl rfl True.intro
      intro V S w2 HI
      have HL2 : Hid (Below W0.heap.size W0 w2) := Rc.Mod.below HI.mod.undrew (fun _ h => h.elim)
      have hw17 : V 17 = .bool false := HI.get 17 (by decide) (by rfl)
      simp only [Rg.putList, Act.put, List.setIfInBounds_toArray, List.set_cons_zero, List.set_cons_succ, Nat.zero_add, Nat.reduceAdd]
      rw [hw17]
      clear HI hw17

      go_wp2_with fail
      go_ret
      refine ⟨congrArg (fun b => Ending.returned (Value.bool b)) (HYY.out (false) ?_).symm, Later.trans HBW.out HL2.out⟩
      · have := HQ.out
        unfold Right
        dsimp only
        simp; omega
  · rw [decide_eq_false hk] at HIK
    have HK := Lib.hid hk
    clear hk
    refine Rc.wp_region (by kernel_rfl) (fun opn => List.getD [Rc.val (.pointer (some ⟨g, 0, none⟩)), Rc.val (.int .i64 k), Rc.val (.bool false), Rc.val (.bool false), Rc.val (undef), Rc.val (undef), Rc.val (undef), Rc.val (.bool false), Rc.val (.bool false), Rc.val (undef), Rc.val (undef), Rc.val (undef), Rc.val (undef), Rc.val (undef), Rc.val (undef), Rc.val (undef), Rc.val (.bool false), Rc.val (.bool false)] opn Rc.any) 0 [] [[], [(0, 3)], [(1, 4)], [(2, 5)], [(3, 6)], [(3, 6), (4, 7)], [(3, 6), (5, 8)], [(3, 6), (6, 9)], [(7, 10)], [(8, 11)], [(8, 11), (9, 12)], [(8, 11), (10, 13)], [(8, 11)], [(8, 11), (12, 15)], [(8, 11), (13, 16)], [(8, 11), (11, 14), (14, 17)], [(8, 11), (15, 18)], [(16, 19)]] [[], [0], [1], [2], [3], [3, 4], [3, 5], [3, 6], [7], [8], [8, 9], [8, 10], [8], [8, 12], [8, 13], [8, 11, 14], [8, 15], [16]] [[], [0], [1], [2], [3], [3, 4], [3, 5], [3, 6], [7], [8], [8, 9], [8, 10], [8], [8, 12], [8, 13], [8, 11, 14], [8, 15], [16]] [] (by kernel_rfl) (by rfl) (by kernel_rfl) (fun _ => False) (fun _ _ => False) Rc.Inv.none ?_ ?_
    · intro fr ha
      have hz : fr.tmps.size = 20 := by rw [ha]; rfl
      have y1 : fr.eval (.tmp 1) = .pointer (some ⟨g, 0, none⟩) := by rw [ha]; rfl
      have y2 : fr.eval (.tmp 2) = .bool false := by rw [ha]; rfl
      clear ha
      refine .cons ?_ (.cons ?_ (.cons ?_ (.cons ?_ (.cons ?_ (.cons ?_ (.cons ?_ (.cons ?_ (.cons ?_ (.cons ?_ (.cons ?_ (.cons ?_ (.cons ?_ (.cons ?_ (.cons ?_ (.cons ?_ (.cons ?_ (.cons ?_ (.nil))))))))))))))))))
      · intro V S w2 HM HU HE
        have lw : Below W0.heap.size W0 w2 := Rc.Mod.below HM (fun _ h => h.elim)
        have tb1 : (Rg.putUse V [] fr).eval (.tmp 1) = .pointer (some ⟨g, 0, none⟩) := (Rg.use_eval V fr 1 [] (by simp only [hz]; decide)).trans y1
        show Rg.Does1 _ _ V (Rg.putUse V [] fr) w2 _
        exact Ob.rc_mv (.pointer (some ⟨g, 0, none⟩)) (by simp only [execOp, tb1]; go_simp) rfl rfl True.intro
      · intro V S w2 HM HU HE
        have lw : Below W0.heap.size W0 w2 := Rc.Mod.below HM (fun _ h => h.elim)
        have h0 : V 0 = .pointer (some ⟨g, 0, none⟩) := HU.holds 0 (by decide)
        have tb3 : (Rg.putUse V [(0, 3)] fr).eval (.tmp 3) = .pointer (some ⟨g, 0, none⟩) := (Rg.use_eval V fr 3 [(0, 3)] (by simp only [hz]; decide)).trans h0
        show Rg.Does1 _ _ V (Rg.putUse V [(0, 3)] fr) w2 _
        have cl := (lw.cell (p := ⟨g, 0, none⟩) HB0.out.lt).trans (HB0.out.cell 0)
        exact Ob.rc_mv (.int .i64 k) (by simp only [execOp, tb3]; go_simp) rfl rfl True.intro
      · intro V S w2 HM HU HE
        have lw : Below W0.heap.size W0 w2 := Rc.Mod.below HM (fun _ h => h.elim)
        have h1 : V 1 = .int .i64 k := HU.holds 1 (by decide)
        have tb4 : (Rg.putUse V [(1, 4)] fr).eval (.tmp 4) = .int .i64 k := (Rg.use_eval V fr 4 [(1, 4)] (by simp only [hz]; decide)).trans h1
        show Rg.Does1 _ _ V (Rg.putUse V [(1, 4)] fr) w2 _
        exact Ob.step_tell (.bool false) #[.int .i64 k] (fun args w => Rg.call_enter Tryd.func35 (by kernel_rfl) (by kernel_rfl) args w) rfl (by simp only [List.map_toArray, List.map_cons, List.map_nil, tb4]) rfl (fun x => Rg.alias_none rfl V x) True.intro (HIK.out w2)
      · intro V S w2 HM HU HE
        have lw : Below W0.heap.size W0 w2 := Rc.Mod.below HM (fun _ h => h.elim)
        have h2 : V 2 = .bool false := HU.holds 2 (by decide)
        have tb5 : (Rg.putUse V [(2, 5)] fr).eval (.tmp 5) = .bool false := (Rg.use_eval V fr 5 [(2, 5)] (by simp only [hz]; decide)).trans h2
        show Rg.Does1 _ _ V (Rg.putUse V [(2, 5)] fr) w2 _
        exact Ob.rc_mv (.bool false) (by simp only [execOp, tb5]; go_simp) rfl rfl True.intro
      · intro V S w2 HM HU HE
        have lw : Below W0.heap.size W0 w2 := Rc.Mod.below HM (fun _ h => h.elim)
        have h3 : V 3 = .bool false := HU.holds 3 (by decide)
        exact Rc.step_not rfl h3 (Rg.alias_none rfl V _) rfl
      · intro V S w2 HM HU HE
        have lw : Below W0.heap.size W0 w2 := Rc.Mod.below HM (fun _ h => h.elim)
        have h3 : V 3 = .bool false := HU.holds 3 (by decide)
        have h4 : V 4 = undef := HU.holds 4 (by decide)
        have tb7 : (Rg.putUse V [(3, 6), (4, 7)] fr).eval (.tmp 7) = undef := (Rg.use_eval V fr 7 [(3, 6), (4, 7)] (by simp only [hz]; decide)).trans h4
        exact Rc.step_not rfl h3 (Rg.alias_none rfl V _) rfl
      · intro V S w2 HM HU HE
        have lw : Below W0.heap.size W0 w2 := Rc.Mod.below HM (fun _ h => h.elim)
        have h3 : V 3 = .bool false := HU.holds 3 (by decide)
        have h5 : V 5 = undef := HU.holds 5 (by decide)
        have tb8 : (Rg.putUse V [(3, 6), (5, 8)] fr).eval (.tmp 8) = undef := (Rg.use_eval V fr 8 [(3, 6), (5, 8)] (by simp only [hz]; decide)).trans h5
        exact Rc.step_not rfl h3 (Rg.alias_none rfl V _) rfl
      · intro V S w2 HM HU HE
        have lw : Below W0.heap.size W0 w2 := Rc.Mod.below HM (fun _ h => h.elim)
        have h3 : V 3 = .bool false := HU.holds 3 (by decide)
        have tb6 : (Rg.putUse V [(3, 6), (6, 9)] fr).eval (.tmp 6) = .bool false := (Rg.use_eval V fr 6 [(3, 6), (6, 9)] (by simp only [hz]; decide)).trans h3
        have h6 : V 6 = undef := HU.holds 6 (by decide)
        have tb9 : (Rg.putUse V [(3, 6), (6, 9)] fr).eval (.tmp 9) = undef := (Rg.use_eval V fr 9 [(3, 6), (6, 9)] (by simp only [hz]; decide)).trans h6
        show Rg.Does1 _ _ V (Rg.putUse V [(3, 6), (6, 9)] fr) w2 _
        exact Ob.rc_mv (.bool false) (by simp only [execOp, tb6, tb9]; go_simp) rfl rfl True.intro
      · intro V S w2 HM HU HE
        have lw : Below W0.heap.size W0 w2 := Rc.Mod.below HM (fun _ h => h.elim)
        have h7 : V 7 = .bool false := HU.holds 7 (by decide)
        have tb10 : (Rg.putUse V [(7, 10)] fr).eval (.tmp 10) = .bool false := (Rg.use_eval V fr 10 [(7, 10)] (by simp only [hz]; decide)).trans h7
        show Rg.Does1 _ _ V (Rg.putUse V [(7, 10)] fr) w2 _
        exact Ob.rc_mv (.bool false) (by simp only [execOp, tb10]; go_simp) rfl rfl True.intro
      · intro V S w2 HM HU HE
        have lw : Below W0.heap.size W0 w2 := Rc.Mod.below HM (fun _ h => h.elim)
        have h8 : V 8 = .bool false := HU.holds 8 (by decide)
        exact Rc.step_not rfl h8 (Rg.alias_none rfl V _) rfl
      · intro V S w2 HM HU HE
        have lw : Below W0.heap.size W0 w2 := Rc.Mod.below HM (fun _ h => h.elim)
        have h8 : V 8 = .bool false := HU.holds 8 (by decide)
        have h9 : V 9 = undef := HU.holds 9 (by decide)
        have tb12 : (Rg.putUse V [(8, 11), (9, 12)] fr).eval (.tmp 12) = undef := (Rg.use_eval V fr 12 [(8, 11), (9, 12)] (by simp only [hz]; decide)).trans h9
        exact Rc.step_not rfl h8 (Rg.alias_none rfl V _) rfl
      · intro V S w2 HM HU HE
        have lw : Below W0.heap.size W0 w2 := Rc.Mod.below HM (fun _ h => h.elim)
        have h8 : V 8 = .bool false := HU.holds 8 (by decide)
        have h10 : V 10 = undef := HU.holds 10 (by decide)
        have tb13 : (Rg.putUse V [(8, 11), (10, 13)] fr).eval (.tmp 13) = undef := (Rg.use_eval V fr 13 [(8, 11), (10, 13)] (by simp only [hz]; decide)).trans h10
        exact Rc.step_not rfl h8 (Rg.alias_none rfl V _) rfl
      · intro V S w2 HM HU HE
        have lw : Below W0.heap.size W0 w2 := Rc.Mod.below HM (fun _ h => h.elim)
        have h8 : V 8 = .bool false := HU.holds 8 (by decide)
        exact Rc.step_not rfl h8 (Rg.alias_none rfl V _) rfl
      · intro V S w2 HM HU HE
        have lw : Below W0.heap.size W0 w2 := Rc.Mod.below HM (fun _ h => h.elim)
        have h8 : V 8 = .bool false := HU.holds 8 (by decide)
        have h12 : V 12 = undef := HU.holds 12 (by decide)
        have tb15 : (Rg.putUse V [(8, 11), (12, 15)] fr).eval (.tmp 15) = undef := (Rg.use_eval V fr 15 [(8, 11), (12, 15)] (by simp only [hz]; decide)).trans h12
        exact Rc.step_not rfl h8 (Rg.alias_none rfl V _) rfl
      · intro V S w2 HM HU HE
        have lw : Below W0.heap.size W0 w2 := Rc.Mod.below HM (fun _ h => h.elim)
        have h8 : V 8 = .bool false := HU.holds 8 (by decide)
        have h13 : V 13 = undef := HU.holds 13 (by decide)
        have tb16 : (Rg.putUse V [(8, 11), (13, 16)] fr).eval (.tmp 16) = undef := (Rg.use_eval V fr 16 [(8, 11), (13, 16)] (by simp only [hz]; decide)).trans h13
        exact Rc.step_not rfl h8 (Rg.alias_none rfl V _) rfl
      · intro V S w2 HM HU HE
        have lw : Below W0.heap.size W0 w2 := Rc.Mod.below HM (fun _ h => h.elim)
        have h8 : V 8 = .bool false := HU.holds 8 (by decide)
        have h11 : V 11 = undef := HU.holds 11 (by decide)
        have tb14 : (Rg.putUse V [(8, 11), (11, 14), (14, 17)] fr).eval (.tmp 14) = undef := (Rg.use_eval V fr 14 [(8, 11), (11, 14), (14, 17)] (by simp only [hz]; decide)).trans h11
        have h14 : V 14 = undef := HU.holds 14 (by decide)
        have tb17 : (Rg.putUse V [(8, 11), (11, 14), (14, 17)] fr).eval (.tmp 17) = undef := (Rg.use_eval V fr 17 [(8, 11), (11, 14), (14, 17)] (by simp only [hz]; decide)).trans h14
        exact Rc.step_not rfl h8 (Rg.alias_none rfl V _) rfl
      · intro V S w2 HM HU HE
        have lw : Below W0.heap.size W0 w2 := Rc.Mod.below HM (fun _ h => h.elim)
        have h8 : V 8 = .bool false := HU.holds 8 (by decide)
        have tb11 : (Rg.putUse V [(8, 11), (15, 18)] fr).eval (.tmp 11) = .bool false := (Rg.use_eval V fr 11 [(8, 11), (15, 18)] (by simp only [hz]; decide)).trans h8
        have h15 : V 15 = undef := HU.holds 15 (by decide)
        have tb18 : (Rg.putUse V [(8, 11), (15, 18)] fr).eval (.tmp 18) = undef := (Rg.use_eval V fr 18 [(8, 11), (15, 18)] (by simp only [hz]; decide)).trans h15
        show Rg.Does1 _ _ V (Rg.putUse V [(8, 11), (15, 18)] fr) w2 _
        exact Ob.rc_mv (.bool false) (by simp only [execOp, tb11, tb18]; go_simp) rfl rfl True.intro
      · intro V S w2 HM HU HE
        have lw : Below W0.heap.size W0 w2 := Rc.Mod.below HM (fun _ h => h.elim)
        have h16 : V 16 = .bool false := HU.holds 16 (by decide)
        have tb19 : (Rg.putUse V [(16, 19)] fr).eval (.tmp 19) = .bool false := (Rg.use_eval V fr 19 [(16, 19)] (by simp only [hz]; decide)).trans h16
        show Rg.Does1 _ _ V (Rg.putUse V [(16, 19)] fr) w2 _
        exact Ob.rc_mv (.bool false) (by simp only [execOp, tb19]; go_simp) rfl rfl True.intro
    intro V S w2 HI
    have HL2 : Hid (Below W0.heap.size W0 w2) := Rc.Mod.below HI.mod.undrew (fun _ h => h.elim)
    have hw17 : V 17 = .bool false := HI.get 17 (by decide) (by rfl)
    simp only [Rg.putList, Act.put, List.setIfInBounds_toArray, List.set_cons_zero, List.set_cons_succ, Nat.zero_add, Nat.reduceAdd]
    rw [hw17]
    clear HI hw17

    go_wp2_with fail
    go_ret
    refine ⟨congrArg (fun b => Ending.returned (Value.bool b)) (HYY.out (false) ?_).symm, Later.trans HBW.out HL2.out⟩
    · have := HK.out
      unfold Right
      dsimp only
      simp; omega
end Re
end Go.Proofs.YtmcbpgbiephllaaDoor

namespace Go.Proofs.YtmcbpgbiephllaaDoor
open Go.ChangeShapes Go.WideShapes Go.RowKit Go.Deep
namespace Re
end Re
end Go.Proofs.YtmcbpgbiephllaaDoor

namespace Go.Proofs.YtmcbpgbiephllaaDoor
open Go.RowKit
namespace Cr
theorem run_snoc (c : Nat) (l : List UInt8) (k : Nat) (h : k < l.length) : run c (l.take (k + 1)) = byt (run c (l.take k) ^^^ (l.getD k 0).toNat) := by
  rw [List.take_succ_eq_append_getElem h, run_append]
  simp [run, List.getD, List.getElem?_eq_getElem h]
theorem bits_xor_nat (a b : Nat) (ha : a < 4294967296) (hb : b < 4294967296) : bits .xor .u32 (a : Int) (b : Int) = ((a ^^^ b : Nat) : Int) := by
  show IntKind.u32.wrap ((BitVec.ofInt 32 (a : Int) ^^^ BitVec.ofInt 32 (b : Int)).toNat : Int) = _
  rw [IntKind.wrap_u32', BitVec.toNat_xor, BitVec.ofInt_natCast, BitVec.ofInt_natCast, BitVec.toNat_ofNat, BitVec.toNat_ofNat, Nat.mod_eq_of_lt ha, Nat.mod_eq_of_lt hb]
  have : a ^^^ b < 2 ^ 32 := Nat.xor_lt_two_pow ha hb
  omega
theorem bits_xor_u8 (a b : Nat) (ha : a < 256) (hb : b < 256) : bits .xor .u8 (a : Int) (b : Int) = ((a ^^^ b : Nat) : Int) := by
  show IntKind.u8.wrap ((BitVec.ofInt 8 (a : Int) ^^^ BitVec.ofInt 8 (b : Int)).toNat : Int) = _
  rw [IntKind.wrap_u8', BitVec.toNat_xor, BitVec.ofInt_natCast, BitVec.ofInt_natCast, BitVec.toNat_ofNat, BitVec.toNat_ofNat, Nat.mod_eq_of_lt ha, Nat.mod_eq_of_lt hb]
  have : a ^^^ b < 2 ^ 8 := Nat.xor_lt_two_pow ha hb
  omega
end Cr
open Cr

end Go.Proofs.YtmcbpgbiephllaaDoor

namespace Go.Proofs.YtmcbpgbiephllaaDoor
open Go.RowKit
def halvesL : List Int := [0, 498536548, 997073096, 651767980, 1994146192, 1802195444, 1303535960, 1342533948, 3988292384, 4027552580, 3604390888, 3412177804, 2607071920, 2262029012, 2685067896, 3183342108]
def Env (w : World) : Prop := ∀ i, i < 16 → w.cell? ⟨0, i, none⟩ = some (.int .u32 (halvesL.getD i 0))
theorem Env.pos {w : World} (h : Env w) : 0 < w.heap.size := by
  have := h 0 (by omega)
  rcases Nat.lt_or_ge 0 w.heap.size with hlt | hge
  · exact hlt
  · exfalso
    simp only [World.cell?] at this
    rw [Array.getElem?_eq_none hge] at this
    cases this
theorem Env.under {B : Nat} {w w' : World} (h : Env w) (hb : Below B w w') (hB : 0 < B) : Env w' := fun i hi => (hb.cell hB).trans (h i hi)
end Go.Proofs.YtmcbpgbiephllaaDoor

namespace Go.Proofs.YtmcbpgbiephllaaDoor
open Go.RowKit

theorem cut_any (A : Option Addr) (l : List UInt8) (cap n : Nat) (hc : l.length ≤ cap) (_hn : n ≤ 1000000) (_hl : l.length ≤ 9223372036854775807) (w : World) :
    Calls Tryd.prog 12 #[.slice A l.length cap, .int .i64 n] w fun e w' => e = .returned (.slice A (l.take n).length cap) ∧ w = w' := by
  by_cases h : n < l.length
  · have HD : Hid ((l.take n).length = n) := by show _ = _; rw [List.length_take]; omega
    have hsl := fun W => sl_h W A l.length cap n (by omega)
    go_enter Tryd.func12, Tryd.ntmps12
    go_wp2
    go_ret
    exact ⟨by rw [HD.out]; rfl, rfl⟩
  · have HD : Hid ((l.take n).length = l.length) := by show _ = _; rw [List.length_take]; omega
    go_enter Tryd.func12, Tryd.ntmps12
    go_wp2
    go_ret
    exact ⟨by rw [HD.out]; rfl, rfl⟩

end Go.Proofs.YtmcbpgbiephllaaDoor

namespace Go.Proofs.YtmcbpgbiephllaaDoor
open Go.RowKit

theorem emod_of_tmod (n d : Int) (h : 0 < d) : (n.tmod d < 0 → n % d = n.tmod d + d) ∧ (¬ n.tmod d < 0 → n % d = n.tmod d) := by
  have l1 := Int.lt_tmod_of_pos n h
  have l2 := Int.tmod_lt_of_pos n h
  have e : n.tmod d % d = n % d := by rw [Int.tmod_def, Int.sub_mul_emod_self_left]
  constructor
  · intro hn
    rw [← e, ← Int.add_emod_right]
    exact Int.emod_eq_of_lt (by omega) (by omega)
  · intro hn
    rw [← e]
    exact Int.emod_eq_of_lt (by omega) (by omega)

def withinI (n lo hi : Int) : Int := lo + n % (hi - lo + 1)

theorem withinI_ge (n lo hi : Int) (h : lo ≤ hi) : lo ≤ withinI n lo hi := by
  have := Int.emod_nonneg n (b := hi - lo + 1) (by omega)
  unfold withinI; omega

theorem withinI_le (n lo hi : Int) (h : lo ≤ hi) : withinI n lo hi ≤ hi := by
  have := Int.emod_lt_of_pos n (b := hi - lo + 1) (by omega)
  unfold withinI; omega

theorem withinI_any (n lo hi : Int) (w : World) (h0 : 0 ≤ lo) (h1 : lo ≤ hi) (h2 : hi ≤ 1000000) (_hn0 : -9223372036854775808 ≤ n) (_hn1 : n ≤ 9223372036854775807) :
    Calls Tryd.prog 13 #[.int .i64 n, .int .i64 lo, .int .i64 hi] w fun e w' => e = .returned (.int .i64 (withinI n lo hi)) ∧ w = w' := by
  have l1 := Int.lt_tmod_of_pos n (b := hi - lo + 1) (by omega)
  have l2 := Int.tmod_lt_of_pos n (b := hi - lo + 1) (by omega)
  have em := emod_of_tmod n (hi - lo + 1) (by omega)
  by_cases hn : n.tmod (hi - lo + 1) < 0
  · have HD : Hid (withinI n lo hi = lo + (n.tmod (hi - lo + 1) + hi - lo + 1)) := by
      show withinI n lo hi = _
      unfold withinI
      rw [em.1 hn]
      omega
    clear em
    go_enter Tryd.func13, Tryd.ntmps13
    go_wp2
    go_ret
    exact ⟨ret_num HD.out, rfl⟩
  · have HD : Hid (withinI n lo hi = lo + n.tmod (hi - lo + 1)) := by
      show withinI n lo hi = _
      unfold withinI
      rw [em.2 hn]
    clear em
    go_enter Tryd.func13, Tryd.ntmps13
    go_wp2
    go_ret
    exact ⟨ret_num HD.out, rfl⟩

theorem within_nat (n x y : Int) (lo hi : Nat) (w : World) (hx : x = lo) (hy : y = hi) (h : lo ≤ hi) (h2 : hi ≤ 1000000) (hn0 : -9223372036854775808 ≤ n) (hn1 : n ≤ 9223372036854775807) :
    Calls Tryd.prog 13 #[.int .i64 n, .int .i64 x, .int .i64 y] w fun e w' => ∃ k : Nat, lo ≤ k ∧ k ≤ hi ∧ e = .returned (.int .i64 k) ∧ w = w' := by
  subst hx hy
  have h3 := withinI_ge n lo hi (by omega)
  have h4 := withinI_le n lo hi (by omega)
  refine (withinI_any n lo hi w (by omega) (by omega) (by omega) hn0 hn1).mono fun e w' ⟨h5, h6⟩ => ?_
  obtain ⟨k, hk⟩ : ∃ k : Nat, withinI n lo hi = k := ⟨(withinI n lo hi).toNat, by omega⟩
  exact ⟨k, by omega, by omega, by rw [h5, hk], h6⟩
end Go.Proofs.YtmcbpgbiephllaaDoor

namespace Go.Proofs.YtmcbpgbiephllaaDoor
open Go.RowKit Cr

def SumSaid : Prop := ∀ (w : World) (l : List UInt8) (A : Option Addr) (cap : Nat), Env w → Rd w A l → l.length ≤ cap → l.length ≤ 1000000 →
    Calls Tryd.prog 30 #[.slice A l.length cap] w fun e w' => e = .returned (.int .u32 (Cr.sum l : Nat)) ∧ Below w.heap.size w w'
def MoreSaid : Prop := ∀ (w : World) (c : Nat) (l : List UInt8) (A : Option Addr) (cap : Nat), c < 4294967296 → Env w → Rd w A l → l.length ≤ cap → l.length ≤ 1000000 →
    Calls Tryd.prog 48 #[.int .u32 (c : Nat), .slice A l.length cap] w fun e w' => e = .returned (.int .u32 (Cr.more c l : Nat)) ∧ Below w.heap.size w w'
end Go.Proofs.YtmcbpgbiephllaaDoor

namespace Go.Proofs.YtmcbpgbiephllaaDoor
open Go.RowKit
namespace Cr
theorem halves_stps : ∀ i, i < 16 → halvesL.getD i 0 = ((stps 4 i : Nat) : Int) := by decide
theorem split16 (c : Nat) : c = 16 * (c / 16) ^^^ c % 16 := by
  have h := Nat.two_pow_add_eq_or_of_lt (i := 4) (b := c % 16) (by omega) (c / 16)
  have hx : 2 ^ 4 * (c / 16) ^^^ c % 16 = 2 ^ 4 * (c / 16) + c % 16 := by
    rw [h]
    apply Nat.eq_of_testBit_eq
    intro i
    rw [Nat.testBit_xor, Nat.testBit_or, Nat.testBit_two_pow_mul]
    by_cases hi : 4 ≤ i
    · have : (c % 16).testBit i = false := Nat.testBit_lt_two_pow (Nat.lt_of_lt_of_le (show c % 16 < 2 ^ 4 by omega) (Nat.pow_le_pow_right (by decide) hi))
      simp [this]
    · simp [hi]
  show c = 2 ^ 4 * (c / 16) ^^^ c % 16
  rw [hx]; omega
theorem stps_half (c : Nat) : stps 4 c = c / 16 ^^^ stps 4 (c % 16) := by
  conv => lhs; rw [split16 c]
  rw [stps_xor, show 16 * (c / 16) = 2 ^ 4 * (c / 16) from rfl, stps_pow]
theorem stps_add : ∀ (m n c : Nat), stps (m + n) c = stps n (stps m c)
  | 0, n, c => by rw [Nat.zero_add]; rfl
  | m + 1, n, c => by rw [Nat.add_right_comm]; exact stps_add m n (stp c)
theorem byt_half (c : Nat) : byt c = stps 4 (stps 4 c) := stps_add 4 4 c
theorem bits_and_15 (a : Nat) (ha : a < 4294967296) : bits .and .u32 (a : Int) 15 = ((a % 16 : Nat) : Int) := by
  show IntKind.u32.wrap ((BitVec.ofInt 32 (a : Int) &&& BitVec.ofInt 32 (15 : Int)).toNat : Int) = _
  rw [IntKind.wrap_u32', BitVec.toNat_and, BitVec.ofInt_natCast, BitVec.toNat_ofNat, Nat.mod_eq_of_lt ha, show (BitVec.ofInt 32 (15 : Int)).toNat = 2 ^ 4 - 1 by decide, Nat.and_two_pow_sub_one_eq_mod]
  omega
theorem not_is (c : Nat) (h : c < 4294967296) : c ^^^ ones = 4294967295 - c := by
  have e : (BitVec.ofNat 32 c ^^^ BitVec.allOnes 32) = ~~~ (BitVec.ofNat 32 c) := BitVec.xor_allOnes
  have h1 := congrArg BitVec.toNat e
  rw [BitVec.toNat_xor, BitVec.toNat_not, BitVec.toNat_ofNat, BitVec.toNat_allOnes, Nat.mod_eq_of_lt h] at h1
  exact h1
end Cr
end Go.Proofs.YtmcbpgbiephllaaDoor

namespace Go.Proofs.YtmcbpgbiephllaaDoor
open Go.ChangeShapes Go.WideShapes Go.RowKit Go.Deep

theorem Tryd.kname : Tryd.prog.globalNamed "permafrost/crc.halves" = some 0 := by kernel_rfl
theorem Tryd.ktype : (Tryd.prog.globals[0]?).map (·.type) = some 81 := by kernel_rfl
theorem Tryd.cellsU32 : Tryd.prog.cellsOf 49 = 1 := by kernel_rfl
theorem laid_is : (Rows.laid_permafrost_crc_halves : DataW Unit) = .agg (halvesL.map fun n => .lit (.int .u32 n)) := by rfl

theorem env_of (W : World) (h : laidMetH Tryd.prog [("permafrost/crc.halves", Rows.laid_permafrost_crc_halves)] W) : Env W := by
  have h' : laidMet Tryd.prog [("permafrost/crc.halves", Rows.laid_permafrost_crc_halves)] W := h
  obtain ⟨ps, ⟨g, t, cs, fuel, p, q, e1, e2, e3, e4, _, _⟩, _⟩ := h'
  obtain rfl := Option.some.inj (Tryd.kname.symm.trans e1)
  obtain rfl := Option.some.inj (Tryd.ktype.symm.trans e2)
  obtain ⟨xs, m, _, hx, hcl, hxl, hi⟩ := DataW.trod_array Tryd.underlying81 e4
  simp only [Prod.mk.injEq] at hx
  rw [laid_is] at hx
  have hx1 : halvesL.map (fun n => (DataW.lit (.int .u32 n) : DataW Unit)) = xs.map (·.1) := by
    have := hx.1
    injection this
  intro i hlt
  have h1 := hi i hlt
  rw [Tryd.cellsU32, Nat.mul_one] at h1
  have hxi : xs[i]? = some (xs[i]'(by omega)) := List.getElem?_eq_getElem _
  rw [hxi] at h1
  obtain ⟨n, hn1, hn2, _⟩ := DataW.trod_int Tryd.underlying49 h1
  have hk : (halvesL.map (fun n => (DataW.lit (.int .u32 n) : DataW Unit)))[i]? = (xs.map (·.1))[i]? := by rw [hx1]
  rw [List.getElem?_map, List.getElem?_map, hxi, hn2] at hk
  have hlen : halvesL.length = 16 := rfl
  have hr : halvesL[i]? = some (halvesL[i]'(by omega)) := List.getElem?_eq_getElem _
  rw [hr] at hk
  simp only [Option.map_some, Option.some.injEq, DataW.lit.injEq, Lit.int.injEq, true_and] at hk
  rw [World.var?_cell e1 e3 i]
  have h2 : (cs.toList.drop i)[0]? = some (.int .u32 n) := by
    have : ((cs.toList.drop i).take 1)[0]? = some (.int .u32 n) := by rw [hn1]; rfl
    rwa [List.getElem?_take_of_lt (by omega)] at this
  simp only [List.getElem?_drop, Nat.add_zero, Array.getElem?_toList] at h2
  rw [h2, ← hk]
  simp [List.getD, hr]

noncomputable def laidWorld (os : Os) : World :=
  let w0 := World.holding Tryd.prog os ⟨#[], #[], []⟩
  { w0 with heap := w0.heap.modify 0 fun
      | .cells _ t frozen => .cells (halvesL.map (fun n => Value.int .u32 n)).toArray t frozen
      | o => o }
theorem laidWorld_met (os : Os) (args : Array Value) : laidMetH Tryd.prog [("permafrost/crc.halves", Rows.laid_permafrost_crc_halves)] ((laidWorld os).forCall (fun _ _ => 0) ⟨#[], args, []⟩).memory :=
  laidMet_of_run' 8 (by kernel_rfl) (by kernel_rfl)
end Go.Proofs.YtmcbpgbiephllaaDoor

namespace Go.Proofs.YtmcbpgbiephllaaDoor
open Go.RowKit Cr

theorem not_bits (c : Nat) (hc : c < 4294967296) : bits .xor .u32 IntKind.u32.max (c : Int) = ((4294967295 - c : Nat) : Int) := by
  have h := bits_xor_nat ones c (by decide) hc
  have e : IntKind.u32.max = ((ones : Nat) : Int) := by decide
  rw [e, h, Nat.xor_comm, not_is c hc]
theorem xor32 {a b : Nat} (ha : a < 4294967296) (hb : b < 4294967296) : a ^^^ b < 4294967296 := Nat.xor_lt_two_pow (n := 32) ha hb
theorem unsigned : ¬ IntKind.u32.signed = true := by decide

set_option maxHeartbeats 1000000 in
set_option maxRecDepth 100000 in
theorem more_said : MoreSaid := by
  intro w c l A cap hc he hr hcap hl
  have HR : Hid (Rd w A l) := hr
  have HE : Hid (Env w) := he
  clear hr he
  have hs := unsigned
  have hnot := not_bits c hc
  obtain ⟨n, hn⟩ : ∃ n : Nat, n = 4294967295 - c := ⟨_, rfl⟩
  rw [← hn] at hnot
  have HN : Hid (n = c ^^^ ones) := by show _ = _; rw [not_is c hc, hn]
  clear hn
  go_enter Tryd.func48, Tryd.ntmps48
  go_wp2_with fail
  go_loop [0, 11] (fun t0 t11 => ∃ (k d : Nat), k ≤ l.length ∧ t11 = .int .i64 (k : Nat) ∧ t0 = .int .u32 (d : Nat) ∧ Hid (d = run n (l.take k))) (fun _ t11 => l.length - (intOf t11).toNat)
  case atStart => exact ⟨0, n, by omega, rfl, rfl, rfl⟩
  case round =>
    clear hnot
    obtain ⟨k, d, hk, rfl, rfl, HD⟩ := hrel
    have hd : d < 4294967296 := by rw [HD.out]; exact run_lt _ (by rw [HN.out]; exact Nat.xor_lt_two_pow hc ones_lt)
    by_cases hlt : k < l.length
    · obtain ⟨b, off, rfl, _, hcell⟩ := HR.out.at_ (by omega)
      have c0 := hcell k hlt
      obtain ⟨x, hx⟩ : ∃ x : Nat, x = (l.getD k 0).toNat := ⟨_, rfl⟩
      have hx8 : x < 256 := by rw [hx]; exact (l.getD k 0).toNat_lt
      rw [← hx] at c0
      have HX := Lib.hid hx
      clear hcell hx hs
      have hxor := bits_xor_nat d x hd (by omega)
      obtain ⟨f, hf⟩ : ∃ f : Nat, f = d ^^^ x := ⟨_, rfl⟩
      have hf32 : f < 4294967296 := by rw [hf]; exact xor32 hd (by omega)
      rw [← hf] at hxor
      have HF := Lib.hid hf
      clear hf
      -- the first half
      have hand := bits_and_15 f hf32
      obtain ⟨i, hi⟩ : ∃ i : Nat, i = f % 16 := ⟨_, rfl⟩
      have hi16 : i < 16 := by omega
      rw [← hi] at hand
      obtain ⟨e, he⟩ : ∃ e : Nat, e = f / 16 := ⟨_, rfl⟩
      have hd2 : ((f : Int) / 16) = (e : Int) := by omega
      have ct := HE.out i hi16
      rw [halves_stps i hi16] at ct
      obtain ⟨s, hsx⟩ : ∃ s : Nat, s = stps 4 i := ⟨_, rfl⟩
      have hs32 : s < 4294967296 := by rw [hsx]; exact stps_lt 4 (Nat.lt_trans hi16 (by decide))
      rw [← hsx] at ct
      have hx2 := bits_xor_nat e s (by omega) hs32
      obtain ⟨g, hg⟩ : ∃ g : Nat, g = e ^^^ s := ⟨_, rfl⟩
      have hg32 : g < 4294967296 := by rw [hg]; exact xor32 (by omega) hs32
      rw [← hg] at hx2
      have HG : Hid (g = stps 4 f) := by show _ = _; rw [stps_half f, hg, he, hsx, hi]
      -- the second half
      have hand' := bits_and_15 g hg32
      obtain ⟨i', hi'⟩ : ∃ i : Nat, i = g % 16 := ⟨_, rfl⟩
      have hi16' : i' < 16 := by omega
      rw [← hi'] at hand'
      obtain ⟨e', he'⟩ : ∃ e : Nat, e = g / 16 := ⟨_, rfl⟩
      have hd2' : ((g : Int) / 16) = (e' : Int) := by omega
      have ct' := HE.out i' hi16'
      rw [halves_stps i' hi16'] at ct'
      obtain ⟨s', hsx'⟩ : ∃ s : Nat, s = stps 4 i' := ⟨_, rfl⟩
      have hs32' : s' < 4294967296 := by rw [hsx']; exact stps_lt 4 (Nat.lt_trans hi16' (by decide))
      rw [← hsx'] at ct'
      have hx2' := bits_xor_nat e' s' (by omega) hs32'
      obtain ⟨g', hg'⟩ : ∃ g : Nat, g = e' ^^^ s' := ⟨_, rfl⟩
      rw [← hg'] at hx2'
      have HG' : Hid (g' = stps 4 g) := by show _ = _; rw [stps_half g, hg', he', hsx', hi']
      clear hg hg' hsx hsx' hi hi' he he'
      go_wp2_with fail
      go_round
      case rel => exact ⟨k + 1, g', by omega, by go_num, rfl, by show _ = _; rw [run_snoc _ _ _ hlt, ← HD.out, ← HX.out, byt_half, ← HF.out, HG'.out, HG.out]⟩
      case measure => simp [intOf]; omega
    · obtain rfl : k = l.length := by omega
      have hlast := not_bits d hd
      obtain ⟨m, hm⟩ : ∃ m : Nat, m = 4294967295 - d := ⟨_, rfl⟩
      rw [← hm] at hlast
      have HM : Hid (m = more c l) := by show _ = _; unfold more; rw [hm, ← not_is d hd, HD.out, List.take_length, HN.out]
      clear hm
      go_wp2_with fail
      go_ret
      exact ⟨by rw [← HM.out]; rfl, Below.refl _ _⟩

set_option maxHeartbeats 1000000 in
set_option maxRecDepth 100000 in
theorem sum_said : SumSaid := by
  intro w l A cap he hr hcap hl
  have HM := Lib.hid (more_said w 0 l A cap (by decide) he hr hcap hl)
  clear he hr
  go_enter Tryd.func30, Tryd.ntmps30
  go_wp2_with fail
  refine HM.out.mono ?_
  rintro e w' ⟨rfl, hb⟩
  rw [more_zero]
  have HB : Hid (Below w.heap.size w w') := hb
  clear hb HM
  go_wp2_with fail
  go_ret
  exact ⟨rfl, HB.out⟩
end Go.Proofs.YtmcbpgbiephllaaDoor

namespace Go.Proofs.YtmcbpgbiephllaaDoor
open Go.ChangeShapes Go.WideShapes Go.RowKit Go.Deep

structure AskR where
  kind : Int
  seq : Nat
  Xbody : Option Addr
  body : List UInt8
  cbody : Nat
def In64R (i : Int) : Prop := -9223372036854775808 ≤ i ∧ i ≤ 9223372036854775807
def AskR.cells (p : AskR) : List Value := [.int .i64 p.kind, .int .u64 (p.seq : Nat), .slice p.Xbody p.body.length p.cbody]
structure AskR.Fits (w : World) (p : AskR) : Prop where
  ikind : In64R p.kind
  iseq : p.seq ≤ 18446744073709551615
  rbody : Rd w p.Xbody p.body
  fbody : p.body.length ≤ p.cbody
  lbody : p.body.length ≤ 9223372036854775807
structure AskR.Ok (w : World) (a : Addr) (j : Nat) (p : AskR) : Prop where
  cells : ∀ k u, p.cells[k]? = some u → w.cell? (a.add (j * 3 + k)) = some u
  fit : p.Fits w
  lt : a.block < w.heap.size
def AsksR (w : World) (A : Option Addr) (ps : List AskR) : Prop := 0 < ps.length → ∃ a, A = some a ∧ ∀ (j : Nat) (p : AskR), ps[j]? = some p → p.Ok w a j
theorem AsksR.plain {w : World} {A : Option Addr} {ps : List AskR} (h : AsksR w A ps) (h0 : 0 < ps.length) : ∃ b off, A = some ⟨b, off, none⟩ ∧ ∀ (i : Nat) (p : AskR), ps[i]? = some p → p.Ok w ⟨b, off, none⟩ i := by
  obtain ⟨a, rfl, hok⟩ := h h0
  have hs := World.cell?_spot ((hok 0 _ (List.getElem?_eq_getElem h0)).cells 0 _ rfl)
  obtain ⟨b, off, spot⟩ := a
  have : spot = none := by simpa [Addr.add] using hs
  subst this
  exact ⟨b, off, rfl, hok⟩
theorem AskR.Fits.later {w w' : World} {p : AskR} (h : p.Fits w) (hb : Below w.heap.size w w') : p.Fits w' := { h with rbody := h.rbody.below hb }
theorem AskR.Ok.at_ {w w' : World} {b off j : Nat} {p : AskR} (h : p.Ok w ⟨b, off, none⟩ j) (hb : Below w.heap.size w w') (k : Nat) (u : Value) (hu : p.cells[k]? = some u) : w'.cell? ⟨b, off + j * 3 + k, none⟩ = some u := by
  have c := h.cells k u hu
  simp only [add_plain] at c
  rw [Nat.add_assoc]
  exact (hb.cell (p := ⟨b, off + (j * 3 + k), none⟩) h.lt).trans c
theorem Tryd.cellsAskR : Tryd.prog.cellsOf 27 = 3 := by kernel_rfl
theorem Tryd.cellsBytesR : Tryd.prog.cellsOf 25 = 1 := by kernel_rfl
theorem Tryd.cellsIntR : Tryd.prog.cellsOf 3 = 1 := by kernel_rfl
theorem Tryd.cellsU64R : Tryd.prog.cellsOf 23 = 1 := by kernel_rfl
set_option maxRecDepth 100000 in
set_option maxHeartbeats 1000000 in
theorem asksR_of {H : Type} {enc : TypeId × Value → H} {W : World} {fuel : Nat} {v : Value} {x : DataW H × List MemPlace}
    (h : DataW.trod enc Tryd.prog W 0 (fun _ => true) true fuel 37 [v] = some x) :
    ∃ (ps : List AskR) (A : Option Addr) (cap : Nat), v = .slice A ps.length cap ∧ ps.length ≤ cap ∧ ps.length ≤ 9223372036854775807 ∧ AsksR W A ps := by
  rcases open_slice Tryd.underlying37 h with ⟨hcs, _⟩ | ⟨a, len, cap, m, n, D, Pl, hcs, _, hl, hm, hmm, hx, hi⟩
  · simp only [List.cons.injEq, and_true] at hcs
    exact ⟨[], none, 0, hcs, by simp, by simp, fun h0 => absurd h0 (by simp)⟩
  · simp only [List.cons.injEq, and_true] at hcs
    subst hcs
    simp only [if_true] at hmm
    have key : ∀ i : Fin len, ∃ p : AskR, p.Ok W a i := fun i => by
      obtain ⟨cs, hc, ht⟩ := hi i (by have := i.2; omega)
      rw [Tryd.cellsAskR] at hc
      obtain ⟨_, hlen, hat⟩ := World.cells?_some hc
      obtain ⟨ys, n', _, hys, _, hyl, hf⟩ := DataW.trod_struct Tryd.underlying27 ht
      match cs, hlen, ys, hyl with
      | [v0, v1, v2], _, [y0, y1, y2], _ =>
        have h0 : DataW.trod enc Tryd.prog W 0 (fun _ => true) true n' 3 ((List.drop 0 [v0, v1, v2]).take (Tryd.prog.cellsOf 3)) = some y0 := hf 0 _ rfl
        rw [Tryd.cellsIntR] at h0
        have h1 : DataW.trod enc Tryd.prog W 0 (fun _ => true) true n' 23 ((List.drop 1 [v0, v1, v2]).take (Tryd.prog.cellsOf 23)) = some y1 := hf 1 _ rfl
        rw [Tryd.cellsU64R] at h1
        have h2 : DataW.trod enc Tryd.prog W 0 (fun _ => true) true n' 25 ((List.drop 2 [v0, v1, v2]).take (Tryd.prog.cellsOf 25)) = some y2 := hf 2 _ rfl
        rw [Tryd.cellsBytesR] at h2
        have at_ : ∀ k u, [v0, v1, v2][k]? = some u → W.cell? ((a.add (i * 3)).add k) = some u := fun k u hu => match k, hu with
          | 0, hu => (show W.cell? ((a.add (i * 3)).add 0) = some v0 from hat 0 (by omega)).trans hu
          | 1, hu => (show W.cell? ((a.add (i * 3)).add 1) = some v1 from hat 1 (by omega)).trans hu
          | 2, hu => (show W.cell? ((a.add (i * 3)).add 2) = some v2 from hat 2 (by omega)).trans hu
          | k + 3, hu => by simp at hu
        obtain ⟨k0, e0, _, w0⟩ := DataW.trod_int (cs := [v0]) Tryd.underlying3 h0
        obtain ⟨k1, e1, _, w1⟩ := DataW.trod_int (cs := [v1]) Tryd.underlying23 h1
        obtain ⟨l2, A2, c2, e2, hlc2, hll2, hr2⟩ := bytes_of (v := v2) h2
        simp only [List.cons.injEq, and_true] at e0 e1
        have hu1 : 0 ≤ k1 ∧ k1 ≤ 18446744073709551615 := bounds_u64 w1
        obtain ⟨u1, rfl⟩ : ∃ u : Nat, k1 = (u : Int) := ⟨k1.toNat, by omega⟩
        subst e0 e1 e2
        have lt : a.block < W.heap.size := by
          have a0 := at_ 0 _ rfl
          rcases Nat.lt_or_ge ((a.add (i * 3)).add 0).block W.heap.size with h | h
          · rwa [block_of_add, block_of_add] at h
          · simp [World.cell?, Array.getElem?_eq_none h] at a0
        exact ⟨⟨k0, u1, A2, l2, c2⟩, ⟨fun k x hx => by rw [← add_of_add]; exact at_ k x hx, ⟨bounds_i64 w0, by show u1 ≤ 18446744073709551615; omega, hr2, hlc2, hll2⟩, lt⟩⟩
    obtain ⟨f, hf⟩ := Classical.axiomOfChoice key
    refine ⟨List.ofFn f, some a, cap, by rw [List.length_ofFn], by rw [List.length_ofFn]; exact hl, by rw [List.length_ofFn]; exact max_le (Nat.le_trans hl hm), fun _ => ⟨a, rfl, fun i p hp => ?_⟩⟩
    have hjl : i < len := by
      have := (List.getElem?_eq_some_iff.1 hp).1
      simpa using this
    have e : p = f ⟨i, hjl⟩ := by
      rw [List.getElem?_ofFn, dif_pos hjl] at hp
      exact (Option.some.inj hp).symm
    subst e
    exact hf ⟨i, hjl⟩
end Go.Proofs.YtmcbpgbiephllaaDoor

namespace Go.Proofs.YtmcbpgbiephllaaDoor
open Go.RowKit
namespace Re
def cutA (p : AskR) : AskR := { p with body := p.body.take 80 }
def recA (p : AskR) : Rec := ⟨p.kind, p.seq, p.body⟩
def goods (l : List AskR) : List AskR := (l.map cutA).filter (fun p => decide (Right (recA p)))
def flat (l : List AskR) : List UInt8 := (l.map (fun p => form (recA p))).flatten
def ends (l : List AskR) : List Int := (List.range l.length).map (fun j => ((flat (l.take (j + 1))).length : Int))
def rcells (l : List AskR) : List Value := (l.map AskR.cells).flatten
theorem goods_snoc (l : List AskR) (p : AskR) : goods (l ++ [p]) = goods l ++ (if Right (recA (cutA p)) then [cutA p] else []) := by
  unfold goods
  rw [List.map_append, List.filter_append]
  by_cases h : Right (recA (cutA p)) <;> simp [h]
theorem flat_snoc (l : List AskR) (p : AskR) : flat (l ++ [p]) = flat l ++ form (recA p) := by
  unfold flat
  simp
theorem rcells_snoc (l : List AskR) (p : AskR) : rcells (l ++ [p]) = rcells l ++ p.cells := by
  unfold rcells
  simp
theorem ends_length (l : List AskR) : (ends l).length = l.length := by simp [ends]
theorem ends_at (l : List AskR) (j : Nat) (h : j < l.length) : (ends l)[j]? = some (((flat (l.take (j + 1))).length : Nat) : Int) := by
  unfold ends
  rw [List.getElem?_map, List.getElem?_range h]
  rfl
theorem ends_snoc (l : List AskR) (p : AskR) : ends (l ++ [p]) = ends l ++ [((flat (l ++ [p])).length : Int)] := by
  apply List.ext_getElem?
  intro j
  rcases Nat.lt_or_ge j l.length with h | h
  · rw [List.getElem?_append_left (by rw [ends_length]; exact h), ends_at l j h, ends_at _ j (by simp; omega), List.take_append_of_le_length (by omega)]
  · rw [List.getElem?_append_right (by rw [ends_length]; exact h), ends_length]
    rcases Nat.eq_or_lt_of_le h with h2 | h2
    · subst h2
      rw [ends_at _ _ (by simp), List.take_of_length_le (by simp)]
      simp
    · rw [List.getElem?_eq_none (by rw [ends_length]; simp; omega), List.getElem?_eq_none (by simp; omega)]
theorem rcells_at (l : List AskR) (j k : Nat) (p : AskR) (h : l[j]? = some p) (hk : k < 3) : (rcells l)[j * 3 + k]? = p.cells[k]? := by
  induction l generalizing j with
  | nil => simp at h
  | cons q l ih =>
    have e : rcells (q :: l) = q.cells ++ rcells l := rfl
    have hq : q.cells.length = 3 := rfl
    rw [e]
    cases j with
    | zero =>
      simp at h
      subst h
      rw [List.getElem?_append_left (by rw [hq]; omega)]
      simp
    | succ j =>
      rw [List.getElem?_append_right (by rw [hq]; omega), hq, show (j + 1) * 3 + k - 3 = j * 3 + k from by omega]
      exact ih j (by simpa using h)
theorem flat_split (l : List AskR) (j : Nat) (p : AskR) (h : l[j]? = some p) : flat l = flat (l.take j) ++ (form (recA p) ++ flat (l.drop (j + 1))) := by
  obtain ⟨hj, rfl⟩ := List.getElem?_eq_some_iff.1 h
  have e : l = l.take j ++ (l[j] :: l.drop (j + 1)) := by
    rw [← List.drop_eq_getElem_cons hj, List.take_append_drop]
  have h1 : ∀ a b : List AskR, flat (a ++ b) = flat a ++ flat b := fun a b => by unfold flat; simp
  have h2 : flat (l[j] :: l.drop (j + 1)) = form (recA l[j]) ++ flat (l.drop (j + 1)) := rfl
  exact (congrArg flat e).trans (by rw [h1, h2])
theorem flat_take_succ (l : List AskR) (j : Nat) (p : AskR) (h : l[j]? = some p) : flat (l.take (j + 1)) = flat (l.take j) ++ form (recA p) := by
  obtain ⟨hj, rfl⟩ := List.getElem?_eq_some_iff.1 h
  rw [List.take_succ_eq_append_getElem hj, flat_snoc]
theorem goods_mem {l : List AskR} {p : AskR} (h : p ∈ goods l) : Right (recA p) ∧ p.body.length ≤ 80 ∧ ∃ q ∈ l, p = cutA q := by
  unfold goods at h
  rw [List.mem_filter, List.mem_map] at h
  obtain ⟨⟨q, hq, rfl⟩, h2⟩ := h
  exact ⟨of_decide_eq_true h2, List.length_take_le _ _, q, hq, rfl⟩
theorem goods_length (l : List AskR) : (goods l).length ≤ l.length := by
  unfold goods
  exact Nat.le_trans (List.length_filter_le _ _) (by simp)
theorem flat_length (l : List AskR) (h : ∀ p ∈ l, Right (recA p) ∧ p.body.length ≤ 80) : (flat l).length ≤ 95 * l.length := by
  induction l with
  | nil => simp [flat]
  | cons p l ih =>
    have e : flat (p :: l) = form (recA p) ++ flat l := rfl
    have h1 := h p List.mem_cons_self
    have h2 := ih fun q hq => h q (List.mem_cons_of_mem _ hq)
    have h3 : (form (recA p)).length = 15 + p.body.length := form_length (by show p.body.length ≤ _; omega)
    rw [e, List.length_append, h3, List.length_cons]
    omega
theorem take_succ' {l : List AskR} {i : Nat} {p : AskR} (h : l[i]? = some p) : l.take (i + 1) = l.take i ++ [p] := by
  obtain ⟨hj, rfl⟩ := List.getElem?_eq_some_iff.1 h
  exact List.take_succ_eq_append_getElem hj
theorem turn_read (r : Rec) (h : Right r) (n : Nat) (hn : n < (form r).length) (h9 : n ≠ 9) (h10 : n ≠ 10) (tb : UInt8) (ht : tb ≠ 0) : (dec ((form r).set n ((form r).getD n 0 ^^^ tb))).2.2 ≠ 0 := by
  obtain ⟨F, hF⟩ : ∃ F, F = form r := ⟨_, rfl⟩
  rw [← hF] at hn ⊢
  have hg : F.getD n 0 = F[n] := by rw [List.getD_eq_getElem?_getD, List.getElem?_eq_getElem hn]; rfl
  have e1 : F = F.take n ++ F[n] :: F.drop (n + 1) := by rw [← List.drop_eq_getElem_cons hn, List.take_append_drop]
  have e2 : F.set n (F.getD n 0 ^^^ tb) = F.take n ++ (F[n] ^^^ tb) :: F.drop (n + 1) := by rw [hg, List.set_eq_take_append_cons_drop, if_pos hn]
  rw [e2]
  refine dec_turn r h (F.take n) (F.drop (n + 1)) F[n] (F[n] ^^^ tb) (hF.symm.trans e1) (fun h0 => ht ?_) ?_
  · have h1 := congrArg (F[n] ^^^ ·) h0
    simp only [UInt8.xor_self, ← UInt8.xor_assoc, UInt8.zero_xor] at h1
    exact h1.symm
  · rw [List.length_take]
    omega
theorem set_mid (P F M : List UInt8) (n : Nat) (x : UInt8) (hn : n < F.length) : (P ++ (F ++ M)).set (P.length + n) x = P ++ (F.set n x ++ M) := by
  rw [List.set_append_right _ _ (by omega), show P.length + n - P.length = n from by omega, List.set_append_left _ _ hn]
theorem getD_mid (P F M : List UInt8) (n : Nat) (hn : n < F.length) : (P ++ (F ++ M)).getD (P.length + n) 0 = F.getD n 0 := by
  rw [List.getD_eq_getElem?_getD, List.getElem?_append_right (by omega), show P.length + n - P.length = n from by omega, List.getElem?_append_left hn, List.getD_eq_getElem?_getD]
end Re
end Go.Proofs.YtmcbpgbiephllaaDoor

namespace Go.Proofs.YtmcbpgbiephllaaDoor
open Go.RowKit
namespace Re
def GAt (T : TypeId) (m : Nat) (v : Value) (n : Nat) (xs : List Value) (w0 wr : World) : Prop := wr.ownsRow w0.heap.size T m v n xs ∧ Below w0.heap.size w0 wr
variable {T T' : TypeId} {m m' n n' : Nat} {v v' : Value} {xs xs' : List Value} {w0 w wr w' : World}
theorem GAt.nil (T : TypeId) (m : Nat) (w : World) : GAt T m (.slice none 0 0) 0 [] w w := ⟨⟨by simp, .inl ⟨rfl, rfl⟩⟩, Below.refl _ _⟩
theorem own_keep {B : Nat} (h : w.ownsRow B T m v n xs) (hk : ∀ k, v.ownBlock = some k → k < w.heap.size → w'.heap[k]? = w.heap[k]?) : w'.ownsRow B T m v n xs := by
  refine ⟨h.1, ?_⟩
  rcases h.2 with h2 | ⟨g, cap, cur, rfl, h4, h5, h6⟩
  · exact .inl h2
  · refine .inr ⟨g, cap, cur, rfl, h4, (hk g rfl ?_).trans h5, h6⟩
    rcases Nat.lt_or_ge g w.heap.size with hlt | hge
    · exact hlt
    · rw [Array.getElem?_eq_none hge] at h5; cases h5
theorem GAt.below (h : GAt T m v n xs w0 wr) (hb : Below wr.heap.size wr w') : GAt T m v n xs w0 w' := ⟨own_keep h.1 fun k _ hk => hb.block k hk, Later.trans h.2 hb⟩
theorem own_ne {B B' : Nat} (h1 : w.ownsRow B T m v n xs) (h2 : w.ownsRow B' T' m' v' n' xs') (hT : T ≠ T') : ∀ k, v.ownBlock = some k → v'.ownBlock ≠ some k := by
  intro k hk hk'
  rcases h1.2 with ⟨rfl, _⟩ | ⟨g, cap, cur, rfl, _, h5, _⟩
  · simp [Value.ownBlock] at hk
  · rcases h2.2 with ⟨rfl, _⟩ | ⟨g', cap', cur', rfl, _, h5', _⟩
    · simp [Value.ownBlock] at hk'
    · simp [Value.ownBlock] at hk hk'
      subst hk
      subst hk'
      rw [h5] at h5'
      injection h5' with h9
      injection h9 with _ h10 _
      exact hT h10
theorem own_ne_blk {B g : Nat} {cs : List Value} (h1 : w.ownsRow B T m v n xs) (h2 : Blk w g T' cs) (hT : T' ≠ T) : some g ≠ v.ownBlock := by
  intro hk
  rcases h1.2 with ⟨rfl, _⟩ | ⟨g', cap, cur, rfl, _, h5, _⟩
  · simp [Value.ownBlock] at hk
  · simp [Value.ownBlock] at hk
    subst hk
    unfold Blk at h2
    rw [h2] at h5
    injection h5 with h9
    injection h9 with _ h10 _
    exact hT h10
theorem GAt.grown {T2 : TypeId} {m2 n2 : Nat} {v2 : Value} {xs2 : List Value} (h : GAt T m v n xs w0 wr) (h2 : GAt T2 m2 v2 n2 xs2 w0 wr) (hT : T2 ≠ T) {wa : World} (ha : Below wr.heap.size wr wa) (hg : wa.grownBy w' v2.ownBlock) : GAt T m v n xs w0 w' := by
  have hv := own_ne (h2.below ha).1 (h.below ha).1 hT
  refine ⟨own_keep (h.below ha).1 fun k hk hlt => hg.block k hlt fun e => hv k e.symm hk, ?_⟩
  exact (h.below ha).2.grown hg (h.below ha).2.size fun k hk => (h2.below ha).1.ownBlock_ge k hk
theorem GAt.push {ys : List Value} {k : Nat} (h : GAt T m v n xs w0 wr) {wa : World} (ha : Below wr.heap.size wr wa) (hown : w'.ownsRow w0.heap.size T m v' (n + k) (xs ++ ys)) (hg : wa.grownBy w' v.ownBlock) : GAt T m v' (n + k) (xs ++ ys) w0 w' :=
  ⟨hown, (h.below ha).2.grown hg (h.below ha).2.size fun k hk => (h.below ha).1.ownBlock_ge k hk⟩
theorem GAt.form (h : GAt T m v n xs w0 wr) : ∃ A c, v = .slice A n c ∧ n ≤ c := by
  rcases h.1.2 with ⟨rfl, h0⟩ | ⟨g, cap, cur, rfl, _, _, h6, _⟩
  · exact ⟨none, 0, by rw [h0], by omega⟩
  · exact ⟨_, cap, rfl, h6⟩
theorem GAt.addr {A : Option Addr} {c : Nat} (h : GAt T m (.slice A n c) n xs w0 wr) (hn : 0 < n) : ∃ g, A = some ⟨g, 0, none⟩ ∧ w0.heap.size ≤ g ∧ g < wr.heap.size ∧ ∀ i u, xs[i]? = some u → wr.cell? ⟨g, i, none⟩ = some u := by
  rcases h.1.2 with ⟨e, h0⟩ | ⟨g, cap, cur, e, hB, h5, h6, _, h8, h9⟩
  · omega
  · injection e with e _ _
    refine ⟨g, e, hB, (Array.getElem?_eq_some_iff.1 h5).1, fun i u hu => ?_⟩
    have hi := (List.getElem?_eq_some_iff.1 hu).1
    rw [h.1.1] at hi
    rw [cell_of_row wr g _ cur T (0, 0) h5]
    rw [← h9, List.getElem?_take_of_lt hi] at hu
    simpa using hu
end Re
end Go.Proofs.YtmcbpgbiephllaaDoor

namespace Go.Proofs.YtmcbpgbiephllaaDoor
open Go.RowKit
open Co hiding bytes
namespace Re
end Re
end Go.Proofs.YtmcbpgbiephllaaDoor

namespace Go.Proofs.YtmcbpgbiephllaaDoor
open Go.RowKit
namespace Re
end Re
end Go.Proofs.YtmcbpgbiephllaaDoor

namespace Go.Proofs.YtmcbpgbiephllaaDoor
open Go.RowKit Rc
namespace Re
set_option maxHeartbeats 1000000 in
set_option maxRecDepth 100000 in
theorem re_size_any (r : Rec) (A : Option Addr) (c : Nat) (w : World) : Calls Tryd.prog 16 #[val r A c] w fun e w' => e = .returned (.int .i64 (size r : Nat)) ∧ Below w.heap.size w w' := by
  obtain ⟨k, q, b⟩ := r
  have HRT : Hid (∀ W, Calls Tryd.prog 23 #[.agg #[.int .i64 k, .int .u64 (q : Nat), .slice A b.length c]] W fun e w' => e = .returned (.bool (decide (Right ⟨k, q, b⟩))) ∧ Below W.heap.size W w') := fun W => re_right_any ⟨k, q, b⟩ A c W
  obtain ⟨z, hz⟩ : ∃ z, z = size ⟨k, q, b⟩ := ⟨_, rfl⟩
  have HNO : Hid (¬ Right ⟨k, q, b⟩ → z = 0) := fun h => hz.trans (if_neg h)
  have HYES : Hid (Right ⟨k, q, b⟩ → z = 15 + b.length ∧ b.length ≤ 900) := fun h => ⟨hz.trans (if_pos h), right_len h⟩
  rw [← hz]
  clear hz
  unfold val
  dsimp only
  obtain ⟨W0, hW0⟩ : ∃ W0, W0 = w.alloc (.cells #[.int .i64 k, .int .u64 (q : Nat), .slice A b.length c] 27) := ⟨_, rfl⟩
  obtain ⟨g, hg⟩ : ∃ g, g = w.heap.size := ⟨_, rfl⟩
  have HB0 : Hid (Blk W0 g 27 [.int .i64 k, .int .u64 (q : Nat), .slice A b.length c]) := by show Blk _ _ _ _; rw [hW0, hg]; exact Blk.new w _ _
  have HBW : Hid (Below w.heap.size w W0) := by show Below _ _ _; rw [hW0]; exact below_new w _
  go_enter Tryd.func16, Tryd.ntmps16
  go_upto_region 1 with (fail)
  rw [← hW0, ← hg]
  clear hW0 hg
  have c0 := HB0.out.cell 0
  have c1 := HB0.out.cell 1
  have c2 := HB0.out.cell 2
  go_wp2_with fail
  refine (HRT.out W0).mono ?_
  rintro e w1 ⟨rfl, hb1⟩
  have HB1 : Hid (Blk w1 g 27 [.int .i64 k, .int .u64 (q : Nat), .slice A b.length c]) := HB0.out.below hb1 HB0.out.lt
  have HBW1 : Hid (Below w.heap.size w w1) := Later.trans HBW.out hb1
  clear hb1 c0 c1 c2 HB0 HBW
  by_cases hri : Right ⟨k, q, b⟩
  · rw [decide_eq_true hri]
    obtain ⟨e1, e2⟩ := HYES.out hri
    have HZ := Lib.hid e1
    clear hri HYES HNO e1
    have c2 := HB1.out.cell 2
    go_wp2_with fail
    go_ret
    refine ⟨congrArg (fun n => Ending.returned (Value.int .i64 n)) ?_, HBW1.out⟩
    have := HZ.out
    omega
  · rw [decide_eq_false hri]
    have HZ := Lib.hid (HNO.out hri)
    clear hri HYES HNO
    go_wp2_with fail
    go_ret
    refine ⟨congrArg (fun n => Ending.returned (Value.int .i64 n)) ?_, HBW1.out⟩
    rw [HZ.out]
    rfl
end Re
end Go.Proofs.YtmcbpgbiephllaaDoor

namespace Go.Proofs.YtmcbpgbiephllaaDoor
open Go.RowKit Rc
namespace Re
end Re
end Go.Proofs.YtmcbpgbiephllaaDoor

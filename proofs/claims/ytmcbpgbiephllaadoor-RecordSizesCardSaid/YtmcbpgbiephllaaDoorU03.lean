/-
  OWN WORK. TsSave, TrHang, Arg, ReCode, ReFrame, CrRef, CrEnv, BaCut, BaWithin, CrSaid, CrHalf, CrLaid, CrCode, ReRefP, ReRefW, ReSize, ReRefEnc, CpRCode
-/
import Derived.Test.YtmcbpgbiephllaaDoorU02
import Derived.Test.YtmcbpgbiephllaaDoorUCpWCode
import Derived.Lib.ConvBytes
import Derived.Test.YtmcbpgbiephllaaDoorU01

namespace Go.Proofs.YtmcbpgbiephllaaDoor
open Go.RowKit Rc
open Tr (Nm En T)
namespace Tr
end Tr
namespace Tm
variable {p : Nat} {av : Value} {gs : List Nat} {S : Nat → Prop} {t : T} {w : World}
end Tm
end Go.Proofs.YtmcbpgbiephllaaDoor

namespace Go.Proofs.YtmcbpgbiephllaaDoor
open Go.RowKit Rc
open Tr (Nm En T)
namespace Tm
def SOwn (w : World) (v : Value) (l : List Bs) : Prop := w.ownsRow 0 9 1 v l.length (txtCells l)
theorem SOwn.nil (w : World) : SOwn w (.slice none 0 0) [] := ⟨rfl, .inl ⟨rfl, rfl⟩⟩
theorem SOwn.keep {w w' : World} {v : Value} {l : List Bs} (h : SOwn w v l) (hb : ∀ b, v.ownBlock = some b → w'.heap[b]? = w.heap[b]?) : SOwn w' v l := own_keep h hb
theorem SOwn.lt {w : World} {v : Value} {l : List Bs} (h : SOwn w v l) {b : Nat} (hb : v.ownBlock = some b) : b < w.heap.size := (own_blk h hb).2.1
end Tm
end Go.Proofs.YtmcbpgbiephllaaDoor

namespace Go.Proofs.YtmcbpgbiephllaaDoor
open Go.RowKit Rc
namespace Ag
section
variable {F : Nat → Rc.Fact} {cons : List (Nat × Nat)} {E : Nat → (Nat → Value) → Value → Prop} {V : Nat → Value} {S : Nat → Nat → Prop} {j : Nat} {o : Oper} {b : Act} {w : World}
end
end Ag
end Go.Proofs.YtmcbpgbiephllaaDoor

namespace Go.Proofs.YtmcbpgbiephllaaDoor
open Go.RowKit Rc
namespace Re
def val (r : Rec) (A : Option Addr) (c : Nat) : Value := .agg #[.int .i64 r.kind, .int .u64 (r.seq : Nat), .slice A r.body.length c]
theorem isKind_any (k : Int) (w : World) : Calls Tryd.prog 35 #[.int .i64 k] w fun e w' => e = .returned (.bool (decide (k = 1 ∨ k = 2))) ∧ w = w' := by
  by_cases h1 : k = 1
  · subst h1
    go_enter Tryd.func35, Tryd.ntmps35
    go_wp2
    go_ret
    exact ⟨rfl, rfl⟩
  · by_cases h2 : k = 2
    · subst h2
      go_enter Tryd.func35, Tryd.ntmps35
      go_wp2
      go_ret
      exact ⟨rfl, rfl⟩
    · have hd : decide (k = 1 ∨ k = 2) = false := by simp [h1, h2]
      have hd2 : (k == 1 || k == 2) = false := by simp [h1, h2]
      rw [hd]
      go_enter Tryd.func35, Tryd.ntmps35
      go_wp2
      go_ret
      exact ⟨rfl, rfl⟩
def most (k : Int) : Int := if k = 2 then 0 else 900
theorem mostBody_any (k : Int) (w : World) : Calls Tryd.prog 41 #[.int .i64 k] w fun e w' => e = .returned (.int .i64 (most k)) ∧ w = w' := by
  by_cases h2 : k = 2
  · subst h2
    go_enter Tryd.func41, Tryd.ntmps41
    go_wp2
    go_ret
    exact ⟨rfl, rfl⟩
  · have hm : most k = 900 := if_neg h2
    rw [hm]
    go_enter Tryd.func41, Tryd.ntmps41
    go_wp2
    go_ret
    exact ⟨rfl, rfl⟩
set_option maxHeartbeats 2000000 in
set_option maxRecDepth 100000 in
theorem re_right_any (r : Rec) (A : Option Addr) (c : Nat) (w : World) : Calls Tryd.prog 23 #[val r A c] w fun e w' => e = .returned (.bool (decide (Right r))) ∧ Below w.heap.size w w' := by
  obtain ⟨k, q, b⟩ := r
  have HYY : Hid (∀ h : Bool, (h = true ↔ Right ⟨k, q, b⟩) → decide (Right ⟨k, q, b⟩) = h) := fun h hh => by
    rw [Bool.eq_iff_iff]; simpa using hh.symm
  unfold val
  dsimp only
  obtain ⟨W0, hW0⟩ : ∃ W0, W0 = w.alloc (.cells #[.int .i64 k, .int .u64 (q : Nat), .slice A b.length c] 27) := ⟨_, rfl⟩
  obtain ⟨g, hg⟩ : ∃ g, g = w.heap.size := ⟨_, rfl⟩
  have HB0 : Hid (Blk W0 g 27 [.int .i64 k, .int .u64 (q : Nat), .slice A b.length c]) := by show Blk _ _ _ _; rw [hW0, hg]; exact Blk.new w _ _
  have HBW : Hid (Below w.heap.size w W0) := by show Below _ _ _; rw [hW0]; exact below_new w _
  have HIK : Hid (∀ W, Calls Tryd.prog 35 #[.int .i64 k] W fun e w' => e = .returned (.bool (decide (k = 1 ∨ k = 2))) ∧ Below W.heap.size W w') := fun W => (isKind_any k W).mono fun e w' ⟨h, hw⟩ => by subst hw; exact ⟨h, Below.refl _ _⟩
  have HMB : Hid (∀ W, Calls Tryd.prog 41 #[.int .i64 k] W fun e w' => e = .returned (.int .i64 (most k)) ∧ Below W.heap.size W w') := fun W => (mostBody_any k W).mono fun e w' ⟨h, hw⟩ => by subst hw; exact ⟨h, Below.refl _ _⟩
  have HMO : Hid (most k = if k = 2 then 0 else 900) := rfl
  go_enter Tryd.func23, Tryd.ntmps23
  go_upto_region 1 with (fail)
  rw [← hW0, ← hg]
  clear hW0 hg
  by_cases hk : k = 1 ∨ k = 2
  · rw [decide_eq_true hk] at HIK
    have HK := Lib.hid hk
    clear hk
    by_cases hq : (q : Int) ≤ 1099511627776
    · have HQ := Lib.hid hq
      clear hq
      refine Rc.wp_region (by kernel_rfl) (fun opn => List.getD [Rc.val (.pointer (some ⟨g, 0, none⟩)), Rc.val (.int .i64 k), Rc.val (.bool true), Rc.val (.bool true), Rc.val (.pointer (some ⟨g, 1, none⟩)), Rc.val (.int .u64 (q : Nat)), Rc.val (.bool true), Rc.val (.bool true), Rc.val (.bool true), Rc.val (.pointer (some ⟨g, 2, none⟩)), Rc.val (.slice A b.length c), Rc.val (.int .i64 (b.length : Nat)), Rc.val (.pointer (some ⟨g, 0, none⟩)), Rc.val (.int .i64 k), Rc.val (.int .i64 (most k)), Rc.val (.bool (decide ((b.length : Int) ≤ most k))), Rc.val (.bool (decide ((b.length : Int) ≤ most k))), Rc.val (.bool (decide ((b.length : Int) ≤ most k)))] opn Rc.any) 0 [] [[], [(0, 3)], [(1, 4)], [(2, 5)], [(3, 6)], [(3, 6), (4, 7)], [(3, 6), (5, 8)], [(3, 6), (6, 9)], [(7, 10)], [(8, 11)], [(8, 11), (9, 12)], [(8, 11), (10, 13)], [(8, 11)], [(8, 11), (12, 15)], [(8, 11), (13, 16)], [(8, 11), (11, 14), (14, 17)], [(8, 11), (15, 18)], [(16, 19)]] [[], [0], [1], [2], [3], [3, 4], [3, 5], [3, 6], [7], [8], [8, 9], [8, 10], [8], [8, 12], [8, 13], [8, 11, 14], [8, 15], [16]] [[], [0], [1], [2], [3], [3, 4], [3, 5], [3, 6], [7], [8], [8, 9], [8, 10], [8], [8, 12], [8, 13], [8, 11, 14], [8, 15], [16]] [] (by kernel_rfl) (by rfl) (by kernel_rfl) (fun _ => False) (fun _ _ => False) Rc.Inv.none ?_ ?_
      · intro fr ha
        have hz : fr.tmps.size = 20 := by rw [ha]; rfl
        have y1 : fr.eval (.tmp 1) = .pointer (some ⟨g, 0, none⟩) := by rw [ha]; rfl
        have y2 : fr.eval (.tmp 2) = .bool false := by rw [ha]; rfl
        clear ha
        refine .cons ?_ (.cons ?_ (.cons ?_ (.cons ?_ (.cons ?_ (.cons ?_ (.cons ?_ (.cons ?_ (.cons ?_ (.cons ?_ (.cons ?_ (.cons ?_ (.cons ?_ (.cons ?_ (.cons ?_ (.cons ?_ (.cons ?_ (.cons ?_ (.nil))))))))))))))))))
        · intro V S w2 HM HU HE
          have lw : Below W0.heap.size W0 w2 := Rc.Mod.below HM (fun _ h => h.elim)
          have tb1 : (Rg.putUse V [] fr).eval (.tmp 1) = .pointer (some ⟨g, 0, none⟩) := (Rg.use_eval V fr 1 [] (by simp only [hz]; decide)).trans y1
          show Rg.Does1 _ _ V (Rg.putUse V [] fr) w2 _
          exact Ob.rc_mv (.pointer (some ⟨g, 0, none⟩)) (by simp only [execOp, tb1]; go_simp) rfl rfl True.intro
        · intro V S w2 HM HU HE
          have lw : Below W0.heap.size W0 w2 := Rc.Mod.below HM (fun _ h => h.elim)
          have h0 : V 0 = .pointer (some ⟨g, 0, none⟩) := HU.holds 0 (by decide)
          have tb3 : (Rg.putUse V [(0, 3)] fr).eval (.tmp 3) = .pointer (some ⟨g, 0, none⟩) := (Rg.use_eval V fr 3 [(0, 3)] (by simp only [hz]; decide)).trans h0
          show Rg.Does1 _ _ V (Rg.putUse V [(0, 3)] fr) w2 _
          have cl := (lw.cell (p := ⟨g, 0, none⟩) HB0.out.lt).trans (HB0.out.cell 0)
          exact Ob.rc_mv (.int .i64 k) (by simp only [execOp, tb3]; go_simp) rfl rfl True.intro
        · intro V S w2 HM HU HE
          have lw : Below W0.heap.size W0 w2 := Rc.Mod.below HM (fun _ h => h.elim)
          have h1 : V 1 = .int .i64 k := HU.holds 1 (by decide)
          have tb4 : (Rg.putUse V [(1, 4)] fr).eval (.tmp 4) = .int .i64 k := (Rg.use_eval V fr 4 [(1, 4)] (by simp only [hz]; decide)).trans h1
          show Rg.Does1 _ _ V (Rg.putUse V [(1, 4)] fr) w2 _
          exact Ob.step_tell (.bool true) #[.int .i64 k] (fun args w => Rg.call_enter Tryd.func35 (by kernel_rfl) (by kernel_rfl) args w) rfl (by simp only [List.map_toArray, List.map_cons, List.map_nil, tb4]) rfl (fun x => Rg.alias_none rfl V x) True.intro (HIK.out w2)
        · intro V S w2 HM HU HE
          have lw : Below W0.heap.size W0 w2 := Rc.Mod.below HM (fun _ h => h.elim)
          have h2 : V 2 = .bool true := HU.holds 2 (by decide)
          have tb5 : (Rg.putUse V [(2, 5)] fr).eval (.tmp 5) = .bool true := (Rg.use_eval V fr 5 [(2, 5)] (by simp only [hz]; decide)).trans h2
          show Rg.Does1 _ _ V (Rg.putUse V [(2, 5)] fr) w2 _
          exact Ob.rc_mv (.bool true) (by simp only [execOp, tb5]; go_simp) rfl rfl True.intro
        · intro V S w2 HM HU HE
          have lw : Below W0.heap.size W0 w2 := Rc.Mod.below HM (fun _ h => h.elim)
          have h3 : V 3 = .bool true := HU.holds 3 (by decide)
          have tb1 : (Rg.putUse V [(3, 6)] fr).eval (.tmp 1) = .pointer (some ⟨g, 0, none⟩) := (Rg.use_eval V fr 1 [(3, 6)] (by simp only [hz]; decide)).trans y1
          show Rg.Does1 _ _ V (Rg.putUse V [(3, 6)] fr) w2 _
          exact Ob.rc_mv (.pointer (some ⟨g, 1, none⟩)) (by simp only [execOp, tb1]; go_simp) rfl rfl h3
        · intro V S w2 HM HU HE
          have lw : Below W0.heap.size W0 w2 := Rc.Mod.below HM (fun _ h => h.elim)
          have h3 : V 3 = .bool true := HU.holds 3 (by decide)
          have h4 : V 4 = .pointer (some ⟨g, 1, none⟩) := HU.holds 4 (by decide)
          have tb7 : (Rg.putUse V [(3, 6), (4, 7)] fr).eval (.tmp 7) = .pointer (some ⟨g, 1, none⟩) := (Rg.use_eval V fr 7 [(3, 6), (4, 7)] (by simp only [hz]; decide)).trans h4
          show Rg.Does1 _ _ V (Rg.putUse V [(3, 6), (4, 7)] fr) w2 _
          have cl := (lw.cell (p := ⟨g, 1, none⟩) HB0.out.lt).trans (HB0.out.cell 1)
          exact Ob.rc_mv (.int .u64 (q : Nat)) (by simp only [execOp, tb7]; go_simp) rfl rfl h3
        · intro V S w2 HM HU HE
          have lw : Below W0.heap.size W0 w2 := Rc.Mod.below HM (fun _ h => h.elim)
          have h3 : V 3 = .bool true := HU.holds 3 (by decide)
          have h5 : V 5 = .int .u64 (q : Nat) := HU.holds 5 (by decide)
          have tb8 : (Rg.putUse V [(3, 6), (5, 8)] fr).eval (.tmp 8) = .int .u64 (q : Nat) := (Rg.use_eval V fr 8 [(3, 6), (5, 8)] (by simp only [hz]; decide)).trans h5
          show Rg.Does1 _ _ V (Rg.putUse V [(3, 6), (5, 8)] fr) w2 _
          have hq := HQ.out
          exact Ob.rc_mv (.bool true) (by simp only [execOp, tb8]; go_simp) rfl rfl h3
        · intro V S w2 HM HU HE
          have lw : Below W0.heap.size W0 w2 := Rc.Mod.below HM (fun _ h => h.elim)
          have h3 : V 3 = .bool true := HU.holds 3 (by decide)
          have tb6 : (Rg.putUse V [(3, 6), (6, 9)] fr).eval (.tmp 6) = .bool true := (Rg.use_eval V fr 6 [(3, 6), (6, 9)] (by simp only [hz]; decide)).trans h3
          have h6 : V 6 = .bool true := HU.holds 6 (by decide)
          have tb9 : (Rg.putUse V [(3, 6), (6, 9)] fr).eval (.tmp 9) = .bool true := (Rg.use_eval V fr 9 [(3, 6), (6, 9)] (by simp only [hz]; decide)).trans h6
          show Rg.Does1 _ _ V (Rg.putUse V [(3, 6), (6, 9)] fr) w2 _
          exact Ob.rc_mv (.bool true) (by simp only [execOp, tb6, tb9]; go_simp) rfl rfl True.intro
        · intro V S w2 HM HU HE
          have lw : Below W0.heap.size W0 w2 := Rc.Mod.below HM (fun _ h => h.elim)
          have h7 : V 7 = .bool true := HU.holds 7 (by decide)
          have tb10 : (Rg.putUse V [(7, 10)] fr).eval (.tmp 10) = .bool true := (Rg.use_eval V fr 10 [(7, 10)] (by simp only [hz]; decide)).trans h7
          show Rg.Does1 _ _ V (Rg.putUse V [(7, 10)] fr) w2 _
          exact Ob.rc_mv (.bool true) (by simp only [execOp, tb10]; go_simp) rfl rfl True.intro
        · intro V S w2 HM HU HE
          have lw : Below W0.heap.size W0 w2 := Rc.Mod.below HM (fun _ h => h.elim)
          have h8 : V 8 = .bool true := HU.holds 8 (by decide)
          have tb1 : (Rg.putUse V [(8, 11)] fr).eval (.tmp 1) = .pointer (some ⟨g, 0, none⟩) := (Rg.use_eval V fr 1 [(8, 11)] (by simp only [hz]; decide)).trans y1
          show Rg.Does1 _ _ V (Rg.putUse V [(8, 11)] fr) w2 _
          exact Ob.rc_mv (.pointer (some ⟨g, 2, none⟩)) (by simp only [execOp, tb1]; go_simp) rfl rfl h8
        · intro V S w2 HM HU HE
          have lw : Below W0.heap.size W0 w2 := Rc.Mod.below HM (fun _ h => h.elim)
          have h8 : V 8 = .bool true := HU.holds 8 (by decide)
          have h9 : V 9 = .pointer (some ⟨g, 2, none⟩) := HU.holds 9 (by decide)
          have tb12 : (Rg.putUse V [(8, 11), (9, 12)] fr).eval (.tmp 12) = .pointer (some ⟨g, 2, none⟩) := (Rg.use_eval V fr 12 [(8, 11), (9, 12)] (by simp only [hz]; decide)).trans h9
          show Rg.Does1 _ _ V (Rg.putUse V [(8, 11), (9, 12)] fr) w2 _
          have cl := (lw.cell (p := ⟨g, 2, none⟩) HB0.out.lt).trans (HB0.out.cell 2)
          exact Ob.rc_mv (.slice A b.length c) (by simp only [execOp, tb12]; go_simp) rfl rfl h8
        · intro V S w2 HM HU HE
          have lw : Below W0.heap.size W0 w2 := Rc.Mod.below HM (fun _ h => h.elim)
          have h8 : V 8 = .bool true := HU.holds 8 (by decide)
          have h10 : V 10 = .slice A b.length c := HU.holds 10 (by decide)
          have tb13 : (Rg.putUse V [(8, 11), (10, 13)] fr).eval (.tmp 13) = .slice A b.length c := (Rg.use_eval V fr 13 [(8, 11), (10, 13)] (by simp only [hz]; decide)).trans h10
          show Rg.Does1 _ _ V (Rg.putUse V [(8, 11), (10, 13)] fr) w2 _
          exact Ob.rc_mv (.int .i64 (b.length : Nat)) (by simp only [execOp, resolve, List.map_toArray, List.map_cons, List.map_nil, tb13]; go_simp) rfl rfl h8
        · intro V S w2 HM HU HE
          have lw : Below W0.heap.size W0 w2 := Rc.Mod.below HM (fun _ h => h.elim)
          have h8 : V 8 = .bool true := HU.holds 8 (by decide)
          have tb1 : (Rg.putUse V [(8, 11)] fr).eval (.tmp 1) = .pointer (some ⟨g, 0, none⟩) := (Rg.use_eval V fr 1 [(8, 11)] (by simp only [hz]; decide)).trans y1
          show Rg.Does1 _ _ V (Rg.putUse V [(8, 11)] fr) w2 _
          exact Ob.rc_mv (.pointer (some ⟨g, 0, none⟩)) (by simp only [execOp, tb1]; go_simp) rfl rfl h8
        · intro V S w2 HM HU HE
          have lw : Below W0.heap.size W0 w2 := Rc.Mod.below HM (fun _ h => h.elim)
          have h8 : V 8 = .bool true := HU.holds 8 (by decide)
          have h12 : V 12 = .pointer (some ⟨g, 0, none⟩) := HU.holds 12 (by decide)
          have tb15 : (Rg.putUse V [(8, 11), (12, 15)] fr).eval (.tmp 15) = .pointer (some ⟨g, 0, none⟩) := (Rg.use_eval V fr 15 [(8, 11), (12, 15)] (by simp only [hz]; decide)).trans h12
          show Rg.Does1 _ _ V (Rg.putUse V [(8, 11), (12, 15)] fr) w2 _
          have cl := (lw.cell (p := ⟨g, 0, none⟩) HB0.out.lt).trans (HB0.out.cell 0)
          exact Ob.rc_mv (.int .i64 k) (by simp only [execOp, tb15]; go_simp) rfl rfl h8
        · intro V S w2 HM HU HE
          have lw : Below W0.heap.size W0 w2 := Rc.Mod.below HM (fun _ h => h.elim)
          have h8 : V 8 = .bool true := HU.holds 8 (by decide)
          have h13 : V 13 = .int .i64 k := HU.holds 13 (by decide)
          have tb16 : (Rg.putUse V [(8, 11), (13, 16)] fr).eval (.tmp 16) = .int .i64 k := (Rg.use_eval V fr 16 [(8, 11), (13, 16)] (by simp only [hz]; decide)).trans h13
          show Rg.Does1 _ _ V (Rg.putUse V [(8, 11), (13, 16)] fr) w2 _
          exact Ob.step_tell (.int .i64 (most k)) #[.int .i64 k] (fun args w => Rg.call_enter Tryd.func41 (by kernel_rfl) (by kernel_rfl) args w) rfl (by simp only [List.map_toArray, List.map_cons, List.map_nil, tb16]) rfl (fun x => Rg.alias_none rfl V x) h8 (HMB.out w2)
        · intro V S w2 HM HU HE
          have lw : Below W0.heap.size W0 w2 := Rc.Mod.below HM (fun _ h => h.elim)
          have h8 : V 8 = .bool true := HU.holds 8 (by decide)
          have h11 : V 11 = .int .i64 (b.length : Nat) := HU.holds 11 (by decide)
          have tb14 : (Rg.putUse V [(8, 11), (11, 14), (14, 17)] fr).eval (.tmp 14) = .int .i64 (b.length : Nat) := (Rg.use_eval V fr 14 [(8, 11), (11, 14), (14, 17)] (by simp only [hz]; decide)).trans h11
          have h14 : V 14 = .int .i64 (most k) := HU.holds 14 (by decide)
          have tb17 : (Rg.putUse V [(8, 11), (11, 14), (14, 17)] fr).eval (.tmp 17) = .int .i64 (most k) := (Rg.use_eval V fr 17 [(8, 11), (11, 14), (14, 17)] (by simp only [hz]; decide)).trans h14
          show Rg.Does1 _ _ V (Rg.putUse V [(8, 11), (11, 14), (14, 17)] fr) w2 _
          exact Ob.rc_mv (.bool (decide ((b.length : Int) ≤ most k))) (by simp only [execOp, tb14, tb17]; go_simp) rfl rfl h8
        · intro V S w2 HM HU HE
          have lw : Below W0.heap.size W0 w2 := Rc.Mod.below HM (fun _ h => h.elim)
          have h8 : V 8 = .bool true := HU.holds 8 (by decide)
          have tb11 : (Rg.putUse V [(8, 11), (15, 18)] fr).eval (.tmp 11) = .bool true := (Rg.use_eval V fr 11 [(8, 11), (15, 18)] (by simp only [hz]; decide)).trans h8
          have h15 : V 15 = .bool (decide ((b.length : Int) ≤ most k)) := HU.holds 15 (by decide)
          have tb18 : (Rg.putUse V [(8, 11), (15, 18)] fr).eval (.tmp 18) = .bool (decide ((b.length : Int) ≤ most k)) := (Rg.use_eval V fr 18 [(8, 11), (15, 18)] (by simp only [hz]; decide)).trans h15
          show Rg.Does1 _ _ V (Rg.putUse V [(8, 11), (15, 18)] fr) w2 _
          exact Ob.rc_mv (.bool (decide ((b.length : Int) ≤ most k))) (by simp only [execOp, tb11, tb18]; go_simp) rfl rfl True.intro
        · intro V S w2 HM HU HE
          have lw : Below W0.heap.size W0 w2 := Rc.Mod.below HM (fun _ h => h.elim)
          have h16 : V 16 = .bool (decide ((b.length : Int) ≤ most k)) := HU.holds 16 (by decide)
          have tb19 : (Rg.putUse V [(16, 19)] fr).eval (.tmp 19) = .bool (decide ((b.length : Int) ≤ most k)) := (Rg.use_eval V fr 19 [(16, 19)] (by simp only [hz]; decide)).trans h16
          show Rg.Does1 _ _ V (Rg.putUse V [(16, 19)] fr) w2 _
          exact Ob.rc_mv (.bool (decide ((b.length : Int) ≤ most k))) (by simp only [execOp, tb19]; go_simp) rfl rfl True.intro
      intro V S w2 HI
      have HL2 : Hid (Below W0.heap.size W0 w2) := Rc.Mod.below HI.mod.undrew (fun _ h => h.elim)
      have hw17 : V 17 = .bool (decide ((b.length : Int) ≤ most k)) := HI.get 17 (by decide) (by rfl)
      simp only [Rg.putList, Act.put, List.setIfInBounds_toArray, List.set_cons_zero, List.set_cons_succ, Nat.zero_add, Nat.reduceAdd]
      rw [hw17]
      clear HI hw17

      go_wp2_with fail
      go_ret
      refine ⟨congrArg (fun b => Ending.returned (Value.bool b)) (HYY.out ((decide ((b.length : Int) ≤ most k))) ?_).symm, Later.trans HBW.out HL2.out⟩
      · have := HK.out
        have := HQ.out
        rw [HMO.out]
        unfold Right
        dsimp only
        rcases HK.out with h | h
        · subst h; simp; omega
        · subst h; simp; omega
    · have HQ := Lib.hid hq
      clear hq
      refine Rc.wp_region (by kernel_rfl) (fun opn => List.getD [Rc.val (.pointer (some ⟨g, 0, none⟩)), Rc.val (.int .i64 k), Rc.val (.bool true), Rc.val (.bool true), Rc.val (.pointer (some ⟨g, 1, none⟩)), Rc.val (.int .u64 (q : Nat)), Rc.val (.bool false), Rc.val (.bool false), Rc.val (.bool false), Rc.val (undef), Rc.val (undef), Rc.val (undef), Rc.val (undef), Rc.val (undef), Rc.val (undef), Rc.val (undef), Rc.val (.bool false), Rc.val (.bool false)] opn Rc.any) 0 [] [[], [(0, 3)], [(1, 4)], [(2, 5)], [(3, 6)], [(3, 6), (4, 7)], [(3, 6), (5, 8)], [(3, 6), (6, 9)], [(7, 10)], [(8, 11)], [(8, 11), (9, 12)], [(8, 11), (10, 13)], [(8, 11)], [(8, 11), (12, 15)], [(8, 11), (13, 16)], [(8, 11), (11, 14), (14, 17)], [(8, 11), (15, 18)], [(16, 19)]] [[], [0], [1], [2], [3], [3, 4], [3, 5], [3, 6], [7], [8], [8, 9], [8, 10], [8], [8, 12], [8, 13], [8, 11, 14], [8, 15], [16]] [[], [0], [1], [2], [3], [3, 4], [3, 5], [3, 6], [7], [8], [8, 9], [8, 10], [8], [8, 12], [8, 13], [8, 11, 14], [8, 15], [16]] [] (by kernel_rfl) (by rfl) (by kernel_rfl) (fun _ => False) (fun _ _ => False) Rc.Inv.none ?_ ?_
      · intro fr ha
        have hz : fr.tmps.size = 20 := by rw [ha]; rfl
        have y1 : fr.eval (.tmp 1) = .pointer (some ⟨g, 0, none⟩) := by rw [ha]; rfl
        have y2 : fr.eval (.tmp 2) = .bool false := by rw [ha]; rfl
        clear ha
        refine .cons ?_ (.cons ?_ (.cons ?_ (.cons ?_ (.cons ?_ (.cons ?_ (.cons ?_ (.cons ?_ (.cons ?_ (.cons ?_ (.cons ?_ (.cons ?_ (.cons ?_ (.cons ?_ (.cons ?_ (.cons ?_ (.cons ?_ (.cons ?_ (.nil))))))))))))))))))
        · intro V S w2 HM HU HE
          have lw : Below W0.heap.size W0 w2 := Rc.Mod.below HM (fun _ h => h.elim)
          have tb1 : (Rg.putUse V [] fr).eval (.tmp 1) = .pointer (some ⟨g, 0, none⟩) := (Rg.use_eval V fr 1 [] (by simp only [hz]; decide)).trans y1
          show Rg.Does1 _ _ V (Rg.putUse V [] fr) w2 _
          exact Ob.rc_mv (.pointer (some ⟨g, 0, none⟩)) (by simp only [execOp, tb1]; go_simp) rfl rfl True.intro
        · intro V S w2 HM HU HE
          have lw : Below W0.heap.size W0 w2 := Rc.Mod.below HM (fun _ h => h.elim)
          have h0 : V 0 = .pointer (some ⟨g, 0, none⟩) := HU.holds 0 (by decide)
          have tb3 : (Rg.putUse V [(0, 3)] fr).eval (.tmp 3) = .pointer (some ⟨g, 0, none⟩) := (Rg.use_eval V fr 3 [(0, 3)] (by simp only [hz]; decide)).trans h0
          show Rg.Does1 _ _ V (Rg.putUse V [(0, 3)] fr) w2 _
          have cl := (lw.cell (p := ⟨g, 0, none⟩) HB0.out.lt).trans (HB0.out.cell 0)
          exact Ob.rc_mv (.int .i64 k) (by simp only [execOp, tb3]; go_simp) rfl rfl True.intro
        · intro V S w2 HM HU HE
          have lw : Below W0.heap.size W0 w2 := Rc.Mod.below HM (fun _ h => h.elim)
          have h1 : V 1 = .int .i64 k := HU.holds 1 (by decide)
          have tb4 : (Rg.putUse V [(1, 4)] fr).eval (.tmp 4) = .int .i64 k := (Rg.use_eval V fr 4 [(1, 4)] (by simp only [hz]; decide)).trans h1
          show Rg.Does1 _ _ V (Rg.putUse V [(1, 4)] fr) w2 _
          exact Ob.step_tell (.bool true) #[.int .i64 k] (fun args w => Rg.call_enter Tryd.func35 (by kernel_rfl) (by kernel_rfl) args w) rfl (by simp only [List.map_toArray, List.map_cons, List.map_nil, tb4]) rfl (fun x => Rg.alias_none rfl V x) True.intro (HIK.out w2)
        · intro V S w2 HM HU HE
          have lw : Below W0.heap.size W0 w2 := Rc.Mod.below HM (fun _ h => h.elim)
          have h2 : V 2 = .bool true := HU.holds 2 (by decide)
          have tb5 : (Rg.putUse V [(2, 5)] fr).eval (.tmp 5) = .bool true := (Rg.use_eval V fr 5 [(2, 5)] (by simp only [hz]; decide)).trans h2
          show Rg.Does1 _ _ V (Rg.putUse V [(2, 5)] fr) w2 _
          exact Ob.rc_mv (.bool true) (by simp only [execOp, tb5]; go_simp) rfl rfl True.intro
        · intro V S w2 HM HU HE
          have lw : Below W0.heap.size W0 w2 := Rc.Mod.below HM (fun _ h => h.elim)
          have h3 : V 3 = .bool true := HU.holds 3 (by decide)
          have tb1 : (Rg.putUse V [(3, 6)] fr).eval (.tmp 1) = .pointer (some ⟨g, 0, none⟩) := (Rg.use_eval V fr 1 [(3, 6)] (by simp only [hz]; decide)).trans y1
          show Rg.Does1 _ _ V (Rg.putUse V [(3, 6)] fr) w2 _
          exact Ob.rc_mv (.pointer (some ⟨g, 1, none⟩)) (by simp only [execOp, tb1]; go_simp) rfl rfl h3
        · intro V S w2 HM HU HE
          have lw : Below W0.heap.size W0 w2 := Rc.Mod.below HM (fun _ h => h.elim)
          have h3 : V 3 = .bool true := HU.holds 3 (by decide)
          have h4 : V 4 = .pointer (some ⟨g, 1, none⟩) := HU.holds 4 (by decide)
          have tb7 : (Rg.putUse V [(3, 6), (4, 7)] fr).eval (.tmp 7) = .pointer (some ⟨g, 1, none⟩) := (Rg.use_eval V fr 7 [(3, 6), (4, 7)] (by simp only [hz]; decide)).trans h4
          show Rg.Does1 _ _ V (Rg.putUse V [(3, 6), (4, 7)] fr) w2 _
          have cl := (lw.cell (p := ⟨g, 1, none⟩) HB0.out.lt).trans (HB0.out.cell 1)
          exact Ob.rc_mv (.int .u64 (q : Nat)) (by simp only [execOp, tb7]; go_simp) rfl rfl h3
        · intro V S w2 HM HU HE
          have lw : Below W0.heap.size W0 w2 := Rc.Mod.below HM (fun _ h => h.elim)
          have h3 : V 3 = .bool true := HU.holds 3 (by decide)
          have h5 : V 5 = .int .u64 (q : Nat) := HU.holds 5 (by decide)
          have tb8 : (Rg.putUse V [(3, 6), (5, 8)] fr).eval (.tmp 8) = .int .u64 (q : Nat) := (Rg.use_eval V fr 8 [(3, 6), (5, 8)] (by simp only [hz]; decide)).trans h5
          show Rg.Does1 _ _ V (Rg.putUse V [(3, 6), (5, 8)] fr) w2 _
          have hq := HQ.out
          exact Ob.rc_mv (.bool false) (by simp only [execOp, tb8]; go_simp) rfl rfl h3
        · intro V S w2 HM HU HE
          have lw : Below W0.heap.size W0 w2 := Rc.Mod.below HM (fun _ h => h.elim)
          have h3 : V 3 = .bool true := HU.holds 3 (by decide)
          have tb6 : (Rg.putUse V [(3, 6), (6, 9)] fr).eval (.tmp 6) = .bool true := (Rg.use_eval V fr 6 [(3, 6), (6, 9)] (by simp only [hz]; decide)).trans h3
          have h6 : V 6 = .bool false := HU.holds 6 (by decide)
          have tb9 : (Rg.putUse V [(3, 6), (6, 9)] fr).eval (.tmp 9) = .bool false := (Rg.use_eval V fr 9 [(3, 6), (6, 9)] (by simp only [hz]; decide)).trans h6
          show Rg.Does1 _ _ V (Rg.putUse V [(3, 6), (6, 9)] fr) w2 _
          exact Ob.rc_mv (.bool false) (by simp only [execOp, tb6, tb9]; go_simp) rfl rfl True.intro
        · intro V S w2 HM HU HE
          have lw : Below W0.heap.size W0 w2 := Rc.Mod.below HM (fun _ h => h.elim)
          have h7 : V 7 = .bool false := HU.holds 7 (by decide)
          have tb10 : (Rg.putUse V [(7, 10)] fr).eval (.tmp 10) = .bool false := (Rg.use_eval V fr 10 [(7, 10)] (by simp only [hz]; decide)).trans h7
          show Rg.Does1 _ _ V (Rg.putUse V [(7, 10)] fr) w2 _
          exact Ob.rc_mv (.bool false) (by simp only [execOp, tb10]; go_simp) rfl rfl True.intro
        · intro V S w2 HM HU HE
          have lw : Below W0.heap.size W0 w2 := Rc.Mod.below HM (fun _ h => h.elim)
          have h8 : V 8 = .bool false := HU.holds 8 (by decide)
          exact Rc.step_not rfl h8 (Rg.alias_none rfl V _) rfl
        · intro V S w2 HM HU HE
          have lw : Below W0.heap.size W0 w2 := Rc.Mod.below HM (fun _ h => h.elim)
          have h8 : V 8 = .bool false := HU.holds 8 (by decide)
          have h9 : V 9 = undef := HU.holds 9 (by decide)
          have tb12 : (Rg.putUse V [(8, 11), (9, 12)] fr).eval (.tmp 12) = undef := (Rg.use_eval V fr 12 [(8, 11), (9, 12)] (by simp only [hz]; decide)).trans h9
          exact Rc.step_not rfl h8 (Rg.alias_none rfl V _) rfl
        · intro V S w2 HM HU HE
          have lw : Below W0.heap.size W0 w2 := Rc.Mod.below HM (fun _ h => h.elim)
          have h8 : V 8 = .bool false := HU.holds 8 (by decide)
          have h10 : V 10 = undef := HU.holds 10 (by decide)
          have tb13 : (Rg.putUse V [(8, 11), (10, 13)] fr).eval (.tmp 13) = undef := (Rg.use_eval V fr 13 [(8, 11), (10, 13)] (by simp only [hz]; decide)).trans h10
          exact Rc.step_not rfl h8 (Rg.alias_none rfl V _) rfl
        · intro V S w2 HM HU HE
          have lw : Below W0.heap.size W0 w2 := Rc.Mod.below HM (fun _ h => h.elim)
          have h8 : V 8 = .bool false := HU.holds 8 (by decide)
          exact Rc.step_not rfl h8 (Rg.alias_none rfl V _) rfl
        · intro V S w2 HM HU HE
          have lw : Below W0.heap.size W0 w2 := Rc.Mod.below HM (fun _ h => h.elim)
          have h8 : V 8 = .bool false := HU.holds 8 (by decide)
          have h12 : V 12 = undef := HU.holds 12 (by decide)
          have tb15 : (Rg.putUse V [(8, 11), (12, 15)] fr).eval (.tmp 15) = undef := (Rg.use_eval V fr 15 [(8, 11), (12, 15)] (by simp only [hz]; decide)).trans h12
          exact Rc.step_not rfl h8 (Rg.alias_none rfl V _) rfl
        · intro V S w2 HM HU HE
          have lw : Below W0.heap.size W0 w2 := Rc.Mod.below HM (fun _ h => h.elim)
          have h8 : V 8 = .bool false := HU.holds 8 (by decide)
          have h13 : V 13 = undef := HU.holds 13 (by decide)
          have tb16 : (Rg.putUse V [(8, 11), (13, 16)] fr).eval (.tmp 16) = undef := (Rg.use_eval V fr 16 [(8, 11), (13, 16)] (by simp only [hz]; decide)).trans h13
          exact Rc.step_not rfl h8 (Rg.alias_none rfl V _) rfl
        · intro V S w2 HM HU HE
          have lw : Below W0.heap.size W0 w2 := Rc.Mod.below HM (fun _ h => h.elim)
          have h8 : V 8 = .bool false := HU.holds 8 (by decide)
          have h11 : V 11 = undef := HU.holds 11 (by decide)
          have tb14 : (Rg.putUse V [(8, 11), (11, 14), (14, 17)] fr).eval (.tmp 14) = undef := (Rg.use_eval V fr 14 [(8, 11), (11, 14), (14, 17)] (by simp only [hz]; decide)).trans h11
          have h14 : V 14 = undef := HU.holds 14 (by decide)
          have tb17 : (Rg.putUse V [(8, 11), (11, 14), (14, 17)] fr).eval (.tmp 17) = undef := (Rg.use_eval V fr 17 [(8, 11), (11, 14), (14, 17)] (by simp only [hz]; decide)).trans h14
          exact Rc.step_not rfl h8 (Rg.alias_none rfl V _) rfl
        · intro V S w2 HM HU HE
          have lw : Below W0.heap.size W0 w2 := Rc.Mod.below HM (fun _ h => h.elim)
          have h8 : V 8 = .bool false := HU.holds 8 (by decide)
          have tb11 : (Rg.putUse V [(8, 11), (15, 18)] fr).eval (.tmp 11) = .bool false := (Rg.use_eval V fr 11 [(8, 11), (15, 18)] (by simp only [hz]; decide)).trans h8
          have h15 : V 15 = undef := HU.holds 15 (by decide)
          have tb18 : (Rg.putUse V [(8, 11), (15, 18)] fr).eval (.tmp 18) = undef := (Rg.use_eval V fr 18 [(8, 11), (15, 18)] (by simp only [hz]; decide)).trans h15
          show Rg.Does1 _ _ V (Rg.putUse V [(8, 11), (15, 18)] fr) w2 _
          exact Ob.rc_mv (.bool false) (by simp only [execOp, tb11, tb18]; go_simp) rfl rfl True.intro
        · intro V S w2 HM HU HE
          have lw : Below W0.heap.size W0 w2 := Rc.Mod.below HM (fun _ h => h.elim)
          have h16 : V 16 = .bool false := HU.holds 16 (by decide)
          have tb19 : (Rg.putUse V [(16, 19)] fr).eval (.tmp 19) = .bool false := (Rg.use_eval V fr 19 [(16, 19)] (by simp only [hz]; decide)).trans h16
          show Rg.Does1 _ _ V (Rg.putUse V [(16, 19)] fr) w2 _
          exact Ob.rc_mv (.bool false) (by simp only [execOp, tb19]; go_simp) rfl rfl True.intro
      intro V S w2 HI
      have HL2 : Hid (Below W0.heap.size W0 w2) := Rc.Mod.below HI.mod.undrew (fun _ h => h.elim)
      have hw17 : V 17 = .bool false := HI.get 17 (by decide) (by rfl)
      simp only [Rg.putList, Act.put, List.setIfInBounds_toArray, List.set_cons_zero, List.set_cons_succ, Nat.zero_add, Nat.reduceAdd]
      rw [hw17]
      clear HI hw17

      go_wp2_with fail
      go_ret
      refine ⟨congrArg (fun b => Ending.returned (Value.bool b)) (HYY.out (false) ?_).symm, Later.trans HBW.out HL2.out⟩
      · have := HQ.out
        unfold Right
        dsimp only
        simp; omega
  · rw [decide_eq_false hk] at HIK
    have HK := Lib.hid hk
    clear hk
    refine Rc.wp_region (by kernel_rfl) (fun opn => List.getD [Rc.val (.pointer (some ⟨g, 0, none⟩)), Rc.val (.int .i64 k), Rc.val (.bool false), Rc.val (.bool false), Rc.val (undef), Rc.val (undef), Rc.val (undef), Rc.val (.bool false), Rc.val (.bool false), Rc.val (undef), Rc.val (undef), Rc.val (undef), Rc.val (undef), Rc.val (undef), Rc.val (undef), Rc.val (undef), Rc.val (.bool false), Rc.val (.bool false)] opn Rc.any) 0 [] [[], [(0, 3)], [(1, 4)], [(2, 5)], [(3, 6)], [(3, 6), (4, 7)], [(3, 6), (5, 8)], [(3, 6), (6, 9)], [(7, 10)], [(8, 11)], [(8, 11), (9, 12)], [(8, 11), (10, 13)], [(8, 11)], [(8, 11), (12, 15)], [(8, 11), (13, 16)], [(8, 11), (11, 14), (14, 17)], [(8, 11), (15, 18)], [(16, 19)]] [[], [0], [1], [2], [3], [3, 4], [3, 5], [3, 6], [7], [8], [8, 9], [8, 10], [8], [8, 12], [8, 13], [8, 11, 14], [8, 15], [16]] [[], [0], [1], [2], [3], [3, 4], [3, 5], [3, 6], [7], [8], [8, 9], [8, 10], [8], [8, 12], [8, 13], [8, 11, 14], [8, 15], [16]] [] (by kernel_rfl) (by rfl) (by kernel_rfl) (fun _ => False) (fun _ _ => False) Rc.Inv.none ?_ ?_
    · intro fr ha
      have hz : fr.tmps.size = 20 := by rw [ha]; rfl
      have y1 : fr.eval (.tmp 1) = .pointer (some ⟨g, 0, none⟩) := by rw [ha]; rfl
      have y2 : fr.eval (.tmp 2) = .bool false := by rw [ha]; rfl
      clear ha
      refine .cons ?_ (.cons ?_ (.cons ?_ (.cons ?_ (.cons ?_ (.cons ?_ (.cons ?_ (.cons ?_ (.cons ?_ (.cons ?_ (.cons ?_ (.cons ?_ (.cons ?_ (.cons ?_ (.cons ?_ (.cons ?_ (.cons ?_ (.cons ?_ (.nil))))))))))))))))))
      · intro V S w2 HM HU HE
        have lw : Below W0.heap.size W0 w2 := Rc.Mod.below HM (fun _ h => h.elim)
        have tb1 : (Rg.putUse V [] fr).eval (.tmp 1) = .pointer (some ⟨g, 0, none⟩) := (Rg.use_eval V fr 1 [] (by simp only [hz]; decide)).trans y1
        show Rg.Does1 _ _ V (Rg.putUse V [] fr) w2 _
        exact Ob.rc_mv (.pointer (some ⟨g, 0, none⟩)) (by simp only [execOp, tb1]; go_simp) rfl rfl True.intro
      · intro V S w2 HM HU HE
        have lw : Below W0.heap.size W0 w2 := Rc.Mod.below HM (fun _ h => h.elim)
        have h0 : V 0 = .pointer (some ⟨g, 0, none⟩) := HU.holds 0 (by decide)
        have tb3 : (Rg.putUse V [(0, 3)] fr).eval (.tmp 3) = .pointer (some ⟨g, 0, none⟩) := (Rg.use_eval V fr 3 [(0, 3)] (by simp only [hz]; decide)).trans h0
        show Rg.Does1 _ _ V (Rg.putUse V [(0, 3)] fr) w2 _
        have cl := (lw.cell (p := ⟨g, 0, none⟩) HB0.out.lt).trans (HB0.out.cell 0)
        exact Ob.rc_mv (.int .i64 k) (by simp only [execOp, tb3]; go_simp) rfl rfl True.intro
      · intro V S w2 HM HU HE
        have lw : Below W0.heap.size W0 w2 := Rc.Mod.below HM (fun _ h => h.elim)
        have h1 : V 1 = .int .i64 k := HU.holds 1 (by decide)
        have tb4 : (Rg.putUse V [(1, 4)] fr).eval (.tmp 4) = .int .i64 k := (Rg.use_eval V fr 4 [(1, 4)] (by simp only [hz]; decide)).trans h1
        show Rg.Does1 _ _ V (Rg.putUse V [(1, 4)] fr) w2 _
        exact Ob.step_tell (.bool false) #[.int .i64 k] (fun args w => Rg.call_enter Tryd.func35 (by kernel_rfl) (by kernel_rfl) args w) rfl (by simp only [List.map_toArray, List.map_cons, List.map_nil, tb4]) rfl (fun x => Rg.alias_none rfl V x) True.intro (HIK.out w2)
      · intro V S w2 HM HU HE
        have lw : Below W0.heap.size W0 w2 := Rc.Mod.below HM (fun _ h => h.elim)
        have h2 : V 2 = .bool false := HU.holds 2 (by decide)
        have tb5 : (Rg.putUse V [(2, 5)] fr).eval (.tmp 5) = .bool false := (Rg.use_eval V fr 5 [(2, 5)] (by simp only [hz]; decide)).trans h2
        show Rg.Does1 _ _ V (Rg.putUse V [(2, 5)] fr) w2 _
        exact Ob.rc_mv (.bool false) (by simp only [execOp, tb5]; go_simp) rfl rfl True.intro
      · intro V S w2 HM HU HE
        have lw : Below W0.heap.size W0 w2 := Rc.Mod.below HM (fun _ h => h.elim)
        have h3 : V 3 = .bool false := HU.holds 3 (by decide)
        exact Rc.step_not rfl h3 (Rg.alias_none rfl V _) rfl
      · intro V S w2 HM HU HE
        have lw : Below W0.heap.size W0 w2 := Rc.Mod.below HM (fun _ h => h.elim)
        have h3 : V 3 = .bool false := HU.holds 3 (by decide)
        have h4 : V 4 = undef := HU.holds 4 (by decide)
        have tb7 : (Rg.putUse V [(3, 6), (4, 7)] fr).eval (.tmp 7) = undef := (Rg.use_eval V fr 7 [(3, 6), (4, 7)] (by simp only [hz]; decide)).trans h4
        exact Rc.step_not rfl h3 (Rg.alias_none rfl V _) rfl
      · intro V S w2 HM HU HE
        have lw : Below W0.heap.size W0 w2 := Rc.Mod.below HM (fun _ h => h.elim)
        have h3 : V 3 = .bool false := HU.holds 3 (by decide)
        have h5 : V 5 = undef := HU.holds 5 (by decide)
        have tb8 : (Rg.putUse V [(3, 6), (5, 8)] fr).eval (.tmp 8) = undef := (Rg.use_eval V fr 8 [(3, 6), (5, 8)] (by simp only [hz]; decide)).trans h5
        exact Rc.step_not rfl h3 (Rg.alias_none rfl V _) rfl
      · intro V S w2 HM HU HE
        have lw : Below W0.heap.size W0 w2 := Rc.Mod.below HM (fun _ h => h.elim)
        have h3 : V 3 = .bool false := HU.holds 3 (by decide)
        have tb6 : (Rg.putUse V [(3, 6), (6, 9)] fr).eval (.tmp 6) = .bool false := (Rg.use_eval V fr 6 [(3, 6), (6, 9)] (by simp only [hz]; decide)).trans h3
        have h6 : V 6 = undef := HU.holds 6 (by decide)
        have tb9 : (Rg.putUse V [(3, 6), (6, 9)] fr).eval (.tmp 9) = undef := (Rg.use_eval V fr 9 [(3, 6), (6, 9)] (by simp only [hz]; decide)).trans h6
        show Rg.Does1 _ _ V (Rg.putUse V [(3, 6), (6, 9)] fr) w2 _
        exact Ob.rc_mv (.bool false) (by simp only [execOp, tb6, tb9]; go_simp) rfl rfl True.intro
      · intro V S w2 HM HU HE
        have lw : Below W0.heap.size W0 w2 := Rc.Mod.below HM (fun _ h => h.elim)
        have h7 : V 7 = .bool false := HU.holds 7 (by decide)
        have tb10 : (Rg.putUse V [(7, 10)] fr).eval (.tmp 10) = .bool false := (Rg.use_eval V fr 10 [(7, 10)] (by simp only [hz]; decide)).trans h7
        show Rg.Does1 _ _ V (Rg.putUse V [(7, 10)] fr) w2 _
        exact Ob.rc_mv (.bool false) (by simp only [execOp, tb10]; go_simp) rfl rfl True.intro
      · intro V S w2 HM HU HE
        have lw : Below W0.heap.size W0 w2 := Rc.Mod.below HM (fun _ h => h.elim)
        have h8 : V 8 = .bool false := HU.holds 8 (by decide)
        exact Rc.step_not rfl h8 (Rg.alias_none rfl V _) rfl
      · intro V S w2 HM HU HE
        have lw : Below W0.heap.size W0 w2 := Rc.Mod.below HM (fun _ h => h.elim)
        have h8 : V 8 = .bool false := HU.holds 8 (by decide)
        have h9 : V 9 = undef := HU.holds 9 (by decide)
        have tb12 : (Rg.putUse V [(8, 11), (9, 12)] fr).eval (.tmp 12) = undef := (Rg.use_eval V fr 12 [(8, 11), (9, 12)] (by simp only [hz]; decide)).trans h9
        exact Rc.step_not rfl h8 (Rg.alias_none rfl V _) rfl
      · intro V S w2 HM HU HE
        have lw : Below W0.heap.size W0 w2 := Rc.Mod.below HM (fun _ h => h.elim)
        have h8 : V 8 = .bool false := HU.holds 8 (by decide)
        have h10 : V 10 = undef := HU.holds 10 (by decide)
        have tb13 : (Rg.putUse V [(8, 11), (10, 13)] fr).eval (.tmp 13) = undef := (Rg.use_eval V fr 13 [(8, 11), (10, 13)] (by simp only [hz]; decide)).trans h10
        exact Rc.step_not rfl h8 (Rg.alias_none rfl V _) rfl
      · intro V S w2 HM HU HE
        have lw : Below W0.heap.size W0 w2 := Rc.Mod.below HM (fun _ h => h.elim)
        have h8 : V 8 = .bool false := HU.holds 8 (by decide)
        exact Rc.step_not rfl h8 (Rg.alias_none rfl V _) rfl
      · intro V S w2 HM HU HE
        have lw : Below W0.heap.size W0 w2 := Rc.Mod.below HM (fun _ h => h.elim)
        have h8 : V 8 = .bool false := HU.holds 8 (by decide)
        have h12 : V 12 = undef := HU.holds 12 (by decide)
        have tb15 : (Rg.putUse V [(8, 11), (12, 15)] fr).eval (.tmp 15) = undef := (Rg.use_eval V fr 15 [(8, 11), (12, 15)] (by simp only [hz]; decide)).trans h12
        exact Rc.step_not rfl h8 (Rg.alias_none rfl V _) rfl
      · intro V S w2 HM HU HE
        have lw : Below W0.heap.size W0 w2 := Rc.Mod.below HM (fun _ h => h.elim)
        have h8 : V 8 = .bool false := HU.holds 8 (by decide)
        have h13 : V 13 = undef := HU.holds 13 (by decide)
        have tb16 : (Rg.putUse V [(8, 11), (13, 16)] fr).eval (.tmp 16) = undef := (Rg.use_eval V fr 16 [(8, 11), (13, 16)] (by simp only [hz]; decide)).trans h13
        exact Rc.step_not rfl h8 (Rg.alias_none rfl V _) rfl
      · intro V S w2 HM HU HE
        have lw : Below W0.heap.size W0 w2 := Rc.Mod.below HM (fun _ h => h.elim)
        have h8 : V 8 = .bool false := HU.holds 8 (by decide)
        have h11 : V 11 = undef := HU.holds 11 (by decide)
        have tb14 : (Rg.putUse V [(8, 11), (11, 14), (14, 17)] fr).eval (.tmp 14) = undef := (Rg.use_eval V fr 14 [(8, 11), (11, 14), (14, 17)] (by simp only [hz]; decide)).trans h11
        have h14 : V 14 = undef := HU.holds 14 (by decide)
        have tb17 : (Rg.putUse V [(8, 11), (11, 14), (14, 17)] fr).eval (.tmp 17) = undef := (Rg.use_eval V fr 17 [(8, 11), (11, 14), (14, 17)] (by simp only [hz]; decide)).trans h14
        exact Rc.step_not rfl h8 (Rg.alias_none rfl V _) rfl
      · intro V S w2 HM HU HE
        have lw : Below W0.heap.size W0 w2 := Rc.Mod.below HM (fun _ h => h.elim)
        have h8 : V 8 = .bool false := HU.holds 8 (by decide)
        have tb11 : (Rg.putUse V [(8, 11), (15, 18)] fr).eval (.tmp 11) = .bool false := (Rg.use_eval V fr 11 [(8, 11), (15, 18)] (by simp only [hz]; decide)).trans h8
        have h15 : V 15 = undef := HU.holds 15 (by decide)
        have tb18 : (Rg.putUse V [(8, 11), (15, 18)] fr).eval (.tmp 18) = undef := (Rg.use_eval V fr 18 [(8, 11), (15, 18)] (by simp only [hz]; decide)).trans h15
        show Rg.Does1 _ _ V (Rg.putUse V [(8, 11), (15, 18)] fr) w2 _
        exact Ob.rc_mv (.bool false) (by simp only [execOp, tb11, tb18]; go_simp) rfl rfl True.intro
      · intro V S w2 HM HU HE
        have lw : Below W0.heap.size W0 w2 := Rc.Mod.below HM (fun _ h => h.elim)
        have h16 : V 16 = .bool false := HU.holds 16 (by decide)
        have tb19 : (Rg.putUse V [(16, 19)] fr).eval (.tmp 19) = .bool false := (Rg.use_eval V fr 19 [(16, 19)] (by simp only [hz]; decide)).trans h16
        show Rg.Does1 _ _ V (Rg.putUse V [(16, 19)] fr) w2 _
        exact Ob.rc_mv (.bool false) (by simp only [execOp, tb19]; go_simp) rfl rfl True.intro
    intro V S w2 HI
    have HL2 : Hid (Below W0.heap.size W0 w2) := Rc.Mod.below HI.mod.undrew (fun _ h => h.elim)
    have hw17 : V 17 = .bool false := HI.get 17 (by decide) (by rfl)
    simp only [Rg.putList, Act.put, List.setIfInBounds_toArray, List.set_cons_zero, List.set_cons_succ, Nat.zero_add, Nat.reduceAdd]
    rw [hw17]
    clear HI hw17

    go_wp2_with fail
    go_ret
    refine ⟨congrArg (fun b => Ending.returned (Value.bool b)) (HYY.out (false) ?_).symm, Later.trans HBW.out HL2.out⟩
    · have := HK.out
      unfold Right
      dsimp only
      simp; omega
end Re
end Go.Proofs.YtmcbpgbiephllaaDoor

namespace Go.Proofs.YtmcbpgbiephllaaDoor
open Go.ChangeShapes Go.WideShapes Go.RowKit Go.Deep
namespace Re
structure RecOk (W : World) (r : Rec) (A : Option Addr) (c : Nat) : Prop where
  k0 : -9223372036854775808 ≤ r.kind
  k1 : r.kind ≤ 9223372036854775807
  q : r.seq ≤ 18446744073709551615
  fit : r.body.length ≤ c
  len : r.body.length ≤ 9223372036854775807
  rd : Rd W A r.body
theorem cellsRec : Tryd.prog.cellsOf 27 = 3 := by kernel_rfl
theorem cellsI : Tryd.prog.cellsOf 3 = 1 := by kernel_rfl
theorem cellsQ : Tryd.prog.cellsOf 23 = 1 := by kernel_rfl
theorem cellsB : Tryd.prog.cellsOf 25 = 1 := by kernel_rfl
theorem rec_of {H : Type} {enc : TypeId × Value → H} {W : World} {r : Reach} {b0 : Nat} {v : Value} {d : DataW H} {p : List MemPlace} (hval : Value.okWide Tryd.prog W r b0 27 v)
    (h : DataW.Trod enc Tryd.prog W 0 (fun _ => true) true 27 v d p) : ∃ (x : Rec) (A : Option Addr) (c : Nat), RecOk W x A c ∧ v = val x A c := by
  have hv : ∃ cs, v = .agg cs ∧ cs.size = Tryd.prog.cellsOf 27 ∧ Row.okWide Tryd.prog W r b0 27 cs := by
    have h1 := hval
    unfold Value.okWide at h1
    rw [Tryd.underlying27] at h1
    exact h1
  obtain ⟨⟨cs⟩, rfl, hsz, _⟩ := hv
  obtain ⟨fuel, hf⟩ := h
  have hf2 : DataW.trod enc Tryd.prog W 0 (fun _ => true) true fuel 27 cs = some (d, p) := by simpa [Value.cells] using hf
  rw [cellsRec] at hsz
  obtain ⟨ys, n', _, _, _, hyl, hfl⟩ := DataW.trod_struct Tryd.underlying27 hf2
  match cs, hsz, ys, hyl with
  | [v0, v1, v2], _, [y0, y1, y2], _ =>
    have h0 : DataW.trod enc Tryd.prog W 0 (fun _ => true) true n' 3 ((List.drop 0 [v0, v1, v2]).take (Tryd.prog.cellsOf 3)) = some y0 := hfl 0 _ rfl
    rw [cellsI] at h0
    have h1 : DataW.trod enc Tryd.prog W 0 (fun _ => true) true n' 23 ((List.drop 1 [v0, v1, v2]).take (Tryd.prog.cellsOf 23)) = some y1 := hfl 1 _ rfl
    rw [cellsQ] at h1
    have h2 : DataW.trod enc Tryd.prog W 0 (fun _ => true) true n' 25 ((List.drop 2 [v0, v1, v2]).take (Tryd.prog.cellsOf 25)) = some y2 := hfl 2 _ rfl
    rw [cellsB] at h2
    obtain ⟨k0, e0, _, w0⟩ := DataW.trod_int (cs := [v0]) Tryd.underlying3 h0
    obtain ⟨k1, e1, _, w1⟩ := DataW.trod_int (cs := [v1]) Tryd.underlying23 h1
    obtain ⟨l, A, c, rfl, hc, hb, hr⟩ := bytes_of (v := v2) h2
    simp only [List.cons.injEq, and_true] at e0 e1
    subst e0 e1
    have b1 := bounds_u64 w1
    have b0 := bounds_i64 w0
    refine ⟨⟨k0, k1.toNat, l⟩, A, c, ⟨b0.1, b0.2, by show k1.toNat ≤ _; omega, hc, hb, hr⟩, ?_⟩
    show Value.agg _ = Value.agg #[.int .i64 k0, .int .u64 ((k1.toNat : Nat) : Int), .slice A l.length c]
    rw [Int.toNat_of_nonneg b1.1]
end Re
end Go.Proofs.YtmcbpgbiephllaaDoor

namespace Go.Proofs.YtmcbpgbiephllaaDoor
open Go.RowKit
namespace Cr
theorem run_snoc (c : Nat) (l : List UInt8) (k : Nat) (h : k < l.length) : run c (l.take (k + 1)) = byt (run c (l.take k) ^^^ (l.getD k 0).toNat) := by
  rw [List.take_succ_eq_append_getElem h, run_append]
  simp [run, List.getD, List.getElem?_eq_getElem h]
theorem bits_xor_nat (a b : Nat) (ha : a < 4294967296) (hb : b < 4294967296) : bits .xor .u32 (a : Int) (b : Int) = ((a ^^^ b : Nat) : Int) := by
  show IntKind.u32.wrap ((BitVec.ofInt 32 (a : Int) ^^^ BitVec.ofInt 32 (b : Int)).toNat : Int) = _
  rw [IntKind.wrap_u32', BitVec.toNat_xor, BitVec.ofInt_natCast, BitVec.ofInt_natCast, BitVec.toNat_ofNat, BitVec.toNat_ofNat, Nat.mod_eq_of_lt ha, Nat.mod_eq_of_lt hb]
  have : a ^^^ b < 2 ^ 32 := Nat.xor_lt_two_pow ha hb
  omega
end Cr
open Cr

end Go.Proofs.YtmcbpgbiephllaaDoor

namespace Go.Proofs.YtmcbpgbiephllaaDoor
open Go.RowKit
def halvesL : List Int := [0, 498536548, 997073096, 651767980, 1994146192, 1802195444, 1303535960, 1342533948, 3988292384, 4027552580, 3604390888, 3412177804, 2607071920, 2262029012, 2685067896, 3183342108]
def Env (w : World) : Prop := ∀ i, i < 16 → w.cell? ⟨0, i, none⟩ = some (.int .u32 (halvesL.getD i 0))
theorem Env.pos {w : World} (h : Env w) : 0 < w.heap.size := by
  have := h 0 (by omega)
  rcases Nat.lt_or_ge 0 w.heap.size with hlt | hge
  · exact hlt
  · exfalso
    simp only [World.cell?] at this
    rw [Array.getElem?_eq_none hge] at this
    cases this
theorem Env.under {B : Nat} {w w' : World} (h : Env w) (hb : Below B w w') (hB : 0 < B) : Env w' := fun i hi => (hb.cell hB).trans (h i hi)
end Go.Proofs.YtmcbpgbiephllaaDoor

namespace Go.Proofs.YtmcbpgbiephllaaDoor
open Go.RowKit

theorem cut_any (A : Option Addr) (l : List UInt8) (cap n : Nat) (hc : l.length ≤ cap) (_hn : n ≤ 1000000) (_hl : l.length ≤ 9223372036854775807) (w : World) :
    Calls Tryd.prog 12 #[.slice A l.length cap, .int .i64 n] w fun e w' => e = .returned (.slice A (l.take n).length cap) ∧ w = w' := by
  by_cases h : n < l.length
  · have HD : Hid ((l.take n).length = n) := by show _ = _; rw [List.length_take]; omega
    have hsl := fun W => sl_h W A l.length cap n (by omega)
    go_enter Tryd.func12, Tryd.ntmps12
    go_wp2
    go_ret
    exact ⟨by rw [HD.out]; rfl, rfl⟩
  · have HD : Hid ((l.take n).length = l.length) := by show _ = _; rw [List.length_take]; omega
    go_enter Tryd.func12, Tryd.ntmps12
    go_wp2
    go_ret
    exact ⟨by rw [HD.out]; rfl, rfl⟩

end Go.Proofs.YtmcbpgbiephllaaDoor

namespace Go.Proofs.YtmcbpgbiephllaaDoor
open Go.RowKit

theorem emod_of_tmod (n d : Int) (h : 0 < d) : (n.tmod d < 0 → n % d = n.tmod d + d) ∧ (¬ n.tmod d < 0 → n % d = n.tmod d) := by
  have l1 := Int.lt_tmod_of_pos n h
  have l2 := Int.tmod_lt_of_pos n h
  have e : n.tmod d % d = n % d := by rw [Int.tmod_def, Int.sub_mul_emod_self_left]
  constructor
  · intro hn
    rw [← e, ← Int.add_emod_right]
    exact Int.emod_eq_of_lt (by omega) (by omega)
  · intro hn
    rw [← e]
    exact Int.emod_eq_of_lt (by omega) (by omega)

def withinI (n lo hi : Int) : Int := lo + n % (hi - lo + 1)

theorem withinI_ge (n lo hi : Int) (h : lo ≤ hi) : lo ≤ withinI n lo hi := by
  have := Int.emod_nonneg n (b := hi - lo + 1) (by omega)
  unfold withinI; omega

theorem withinI_le (n lo hi : Int) (h : lo ≤ hi) : withinI n lo hi ≤ hi := by
  have := Int.emod_lt_of_pos n (b := hi - lo + 1) (by omega)
  unfold withinI; omega

theorem withinI_any (n lo hi : Int) (w : World) (h0 : 0 ≤ lo) (h1 : lo ≤ hi) (h2 : hi ≤ 1000000) (_hn0 : -9223372036854775808 ≤ n) (_hn1 : n ≤ 9223372036854775807) :
    Calls Tryd.prog 13 #[.int .i64 n, .int .i64 lo, .int .i64 hi] w fun e w' => e = .returned (.int .i64 (withinI n lo hi)) ∧ w = w' := by
  have l1 := Int.lt_tmod_of_pos n (b := hi - lo + 1) (by omega)
  have l2 := Int.tmod_lt_of_pos n (b := hi - lo + 1) (by omega)
  have em := emod_of_tmod n (hi - lo + 1) (by omega)
  by_cases hn : n.tmod (hi - lo + 1) < 0
  · have HD : Hid (withinI n lo hi = lo + (n.tmod (hi - lo + 1) + hi - lo + 1)) := by
      show withinI n lo hi = _
      unfold withinI
      rw [em.1 hn]
      omega
    clear em
    go_enter Tryd.func13, Tryd.ntmps13
    go_wp2
    go_ret
    exact ⟨ret_num HD.out, rfl⟩
  · have HD : Hid (withinI n lo hi = lo + n.tmod (hi - lo + 1)) := by
      show withinI n lo hi = _
      unfold withinI
      rw [em.2 hn]
    clear em
    go_enter Tryd.func13, Tryd.ntmps13
    go_wp2
    go_ret
    exact ⟨ret_num HD.out, rfl⟩

theorem within_nat (n x y : Int) (lo hi : Nat) (w : World) (hx : x = lo) (hy : y = hi) (h : lo ≤ hi) (h2 : hi ≤ 1000000) (hn0 : -9223372036854775808 ≤ n) (hn1 : n ≤ 9223372036854775807) :
    Calls Tryd.prog 13 #[.int .i64 n, .int .i64 x, .int .i64 y] w fun e w' => ∃ k : Nat, lo ≤ k ∧ k ≤ hi ∧ e = .returned (.int .i64 k) ∧ w = w' := by
  subst hx hy
  have h3 := withinI_ge n lo hi (by omega)
  have h4 := withinI_le n lo hi (by omega)
  refine (withinI_any n lo hi w (by omega) (by omega) (by omega) hn0 hn1).mono fun e w' ⟨h5, h6⟩ => ?_
  obtain ⟨k, hk⟩ : ∃ k : Nat, withinI n lo hi = k := ⟨(withinI n lo hi).toNat, by omega⟩
  exact ⟨k, by omega, by omega, by rw [h5, hk], h6⟩
end Go.Proofs.YtmcbpgbiephllaaDoor

namespace Go.Proofs.YtmcbpgbiephllaaDoor
open Go.RowKit Cr

def SumSaid : Prop := ∀ (w : World) (l : List UInt8) (A : Option Addr) (cap : Nat), Env w → Rd w A l → l.length ≤ cap → l.length ≤ 1000000 →
    Calls Tryd.prog 30 #[.slice A l.length cap] w fun e w' => e = .returned (.int .u32 (Cr.sum l : Nat)) ∧ Below w.heap.size w w'
def MoreSaid : Prop := ∀ (w : World) (c : Nat) (l : List UInt8) (A : Option Addr) (cap : Nat), c < 4294967296 → Env w → Rd w A l → l.length ≤ cap → l.length ≤ 1000000 →
    Calls Tryd.prog 48 #[.int .u32 (c : Nat), .slice A l.length cap] w fun e w' => e = .returned (.int .u32 (Cr.more c l : Nat)) ∧ Below w.heap.size w w'
end Go.Proofs.YtmcbpgbiephllaaDoor

namespace Go.Proofs.YtmcbpgbiephllaaDoor
open Go.RowKit
namespace Cr
theorem halves_stps : ∀ i, i < 16 → halvesL.getD i 0 = ((stps 4 i : Nat) : Int) := by decide
theorem split16 (c : Nat) : c = 16 * (c / 16) ^^^ c % 16 := by
  have h := Nat.two_pow_add_eq_or_of_lt (i := 4) (b := c % 16) (by omega) (c / 16)
  have hx : 2 ^ 4 * (c / 16) ^^^ c % 16 = 2 ^ 4 * (c / 16) + c % 16 := by
    rw [h]
    apply Nat.eq_of_testBit_eq
    intro i
    rw [Nat.testBit_xor, Nat.testBit_or, Nat.testBit_two_pow_mul]
    by_cases hi : 4 ≤ i
    · have : (c % 16).testBit i = false := Nat.testBit_lt_two_pow (Nat.lt_of_lt_of_le (show c % 16 < 2 ^ 4 by omega) (Nat.pow_le_pow_right (by decide) hi))
      simp [this]
    · simp [hi]
  show c = 2 ^ 4 * (c / 16) ^^^ c % 16
  rw [hx]; omega
theorem stps_half (c : Nat) : stps 4 c = c / 16 ^^^ stps 4 (c % 16) := by
  conv => lhs; rw [split16 c]
  rw [stps_xor, show 16 * (c / 16) = 2 ^ 4 * (c / 16) from rfl, stps_pow]
theorem stps_add : ∀ (m n c : Nat), stps (m + n) c = stps n (stps m c)
  | 0, n, c => by rw [Nat.zero_add]; rfl
  | m + 1, n, c => by rw [Nat.add_right_comm]; exact stps_add m n (stp c)
theorem byt_half (c : Nat) : byt c = stps 4 (stps 4 c) := stps_add 4 4 c
theorem bits_and_15 (a : Nat) (ha : a < 4294967296) : bits .and .u32 (a : Int) 15 = ((a % 16 : Nat) : Int) := by
  show IntKind.u32.wrap ((BitVec.ofInt 32 (a : Int) &&& BitVec.ofInt 32 (15 : Int)).toNat : Int) = _
  rw [IntKind.wrap_u32', BitVec.toNat_and, BitVec.ofInt_natCast, BitVec.toNat_ofNat, Nat.mod_eq_of_lt ha, show (BitVec.ofInt 32 (15 : Int)).toNat = 2 ^ 4 - 1 by decide, Nat.and_two_pow_sub_one_eq_mod]
  omega
theorem not_is (c : Nat) (h : c < 4294967296) : c ^^^ ones = 4294967295 - c := by
  have e : (BitVec.ofNat 32 c ^^^ BitVec.allOnes 32) = ~~~ (BitVec.ofNat 32 c) := BitVec.xor_allOnes
  have h1 := congrArg BitVec.toNat e
  rw [BitVec.toNat_xor, BitVec.toNat_not, BitVec.toNat_ofNat, BitVec.toNat_allOnes, Nat.mod_eq_of_lt h] at h1
  exact h1
end Cr
end Go.Proofs.YtmcbpgbiephllaaDoor

namespace Go.Proofs.YtmcbpgbiephllaaDoor
open Go.ChangeShapes Go.WideShapes Go.RowKit Go.Deep

theorem Tryd.kname : Tryd.prog.globalNamed "permafrost/crc.halves" = some 0 := by kernel_rfl
theorem Tryd.ktype : (Tryd.prog.globals[0]?).map (·.type) = some 81 := by kernel_rfl
theorem Tryd.cellsU32 : Tryd.prog.cellsOf 49 = 1 := by kernel_rfl
theorem laid_is : (Rows.laid_permafrost_crc_halves : DataW Unit) = .agg (halvesL.map fun n => .lit (.int .u32 n)) := by rfl

theorem env_of (W : World) (h : laidMetH Tryd.prog [("permafrost/crc.halves", Rows.laid_permafrost_crc_halves)] W) : Env W := by
  have h' : laidMet Tryd.prog [("permafrost/crc.halves", Rows.laid_permafrost_crc_halves)] W := h
  obtain ⟨ps, ⟨g, t, cs, fuel, p, q, e1, e2, e3, e4, _, _⟩, _⟩ := h'
  obtain rfl := Option.some.inj (Tryd.kname.symm.trans e1)
  obtain rfl := Option.some.inj (Tryd.ktype.symm.trans e2)
  obtain ⟨xs, m, _, hx, hcl, hxl, hi⟩ := DataW.trod_array Tryd.underlying81 e4
  simp only [Prod.mk.injEq] at hx
  rw [laid_is] at hx
  have hx1 : halvesL.map (fun n => (DataW.lit (.int .u32 n) : DataW Unit)) = xs.map (·.1) := by
    have := hx.1
    injection this
  intro i hlt
  have h1 := hi i hlt
  rw [Tryd.cellsU32, Nat.mul_one] at h1
  have hxi : xs[i]? = some (xs[i]'(by omega)) := List.getElem?_eq_getElem _
  rw [hxi] at h1
  obtain ⟨n, hn1, hn2, _⟩ := DataW.trod_int Tryd.underlying49 h1
  have hk : (halvesL.map (fun n => (DataW.lit (.int .u32 n) : DataW Unit)))[i]? = (xs.map (·.1))[i]? := by rw [hx1]
  rw [List.getElem?_map, List.getElem?_map, hxi, hn2] at hk
  have hlen : halvesL.length = 16 := rfl
  have hr : halvesL[i]? = some (halvesL[i]'(by omega)) := List.getElem?_eq_getElem _
  rw [hr] at hk
  simp only [Option.map_some, Option.some.injEq, DataW.lit.injEq, Lit.int.injEq, true_and] at hk
  rw [World.var?_cell e1 e3 i]
  have h2 : (cs.toList.drop i)[0]? = some (.int .u32 n) := by
    have : ((cs.toList.drop i).take 1)[0]? = some (.int .u32 n) := by rw [hn1]; rfl
    rwa [List.getElem?_take_of_lt (by omega)] at this
  simp only [List.getElem?_drop, Nat.add_zero, Array.getElem?_toList] at h2
  rw [h2, ← hk]
  simp [List.getD, hr]

noncomputable def laidWorld (os : Os) : World :=
  let w0 := World.holding Tryd.prog os ⟨#[], #[], []⟩
  { w0 with heap := w0.heap.modify 0 fun
      | .cells _ t frozen => .cells (halvesL.map (fun n => Value.int .u32 n)).toArray t frozen
      | o => o }
theorem laidWorld_met (os : Os) (args : Array Value) : laidMetH Tryd.prog [("permafrost/crc.halves", Rows.laid_permafrost_crc_halves)] ((laidWorld os).forCall (fun _ _ => 0) ⟨#[], args, []⟩).memory :=
  laidMet_of_run' 8 (by kernel_rfl) (by kernel_rfl)
end Go.Proofs.YtmcbpgbiephllaaDoor

namespace Go.Proofs.YtmcbpgbiephllaaDoor
open Go.RowKit Cr

theorem not_bits (c : Nat) (hc : c < 4294967296) : bits .xor .u32 IntKind.u32.max (c : Int) = ((4294967295 - c : Nat) : Int) := by
  have h := bits_xor_nat ones c (by decide) hc
  have e : IntKind.u32.max = ((ones : Nat) : Int) := by decide
  rw [e, h, Nat.xor_comm, not_is c hc]
theorem xor32 {a b : Nat} (ha : a < 4294967296) (hb : b < 4294967296) : a ^^^ b < 4294967296 := Nat.xor_lt_two_pow (n := 32) ha hb
theorem unsigned : ¬ IntKind.u32.signed = true := by decide

set_option maxHeartbeats 1000000 in
set_option maxRecDepth 100000 in
theorem more_said : MoreSaid := by
  intro w c l A cap hc he hr hcap hl
  have HR : Hid (Rd w A l) := hr
  have HE : Hid (Env w) := he
  clear hr he
  have hs := unsigned
  have hnot := not_bits c hc
  obtain ⟨n, hn⟩ : ∃ n : Nat, n = 4294967295 - c := ⟨_, rfl⟩
  rw [← hn] at hnot
  have HN : Hid (n = c ^^^ ones) := by show _ = _; rw [not_is c hc, hn]
  clear hn
  go_enter Tryd.func48, Tryd.ntmps48
  go_wp2_with fail
  go_loop [0, 11] (fun t0 t11 => ∃ (k d : Nat), k ≤ l.length ∧ t11 = .int .i64 (k : Nat) ∧ t0 = .int .u32 (d : Nat) ∧ Hid (d = run n (l.take k))) (fun _ t11 => l.length - (intOf t11).toNat)
  case atStart => exact ⟨0, n, by omega, rfl, rfl, rfl⟩
  case round =>
    clear hnot
    obtain ⟨k, d, hk, rfl, rfl, HD⟩ := hrel
    have hd : d < 4294967296 := by rw [HD.out]; exact run_lt _ (by rw [HN.out]; exact Nat.xor_lt_two_pow hc ones_lt)
    by_cases hlt : k < l.length
    · obtain ⟨b, off, rfl, _, hcell⟩ := HR.out.at_ (by omega)
      have c0 := hcell k hlt
      obtain ⟨x, hx⟩ : ∃ x : Nat, x = (l.getD k 0).toNat := ⟨_, rfl⟩
      have hx8 : x < 256 := by rw [hx]; exact (l.getD k 0).toNat_lt
      rw [← hx] at c0
      have HX := Lib.hid hx
      clear hcell hx hs
      have hxor := bits_xor_nat d x hd (by omega)
      obtain ⟨f, hf⟩ : ∃ f : Nat, f = d ^^^ x := ⟨_, rfl⟩
      have hf32 : f < 4294967296 := by rw [hf]; exact xor32 hd (by omega)
      rw [← hf] at hxor
      have HF := Lib.hid hf
      clear hf
      -- the first half
      have hand := bits_and_15 f hf32
      obtain ⟨i, hi⟩ : ∃ i : Nat, i = f % 16 := ⟨_, rfl⟩
      have hi16 : i < 16 := by omega
      rw [← hi] at hand
      obtain ⟨e, he⟩ : ∃ e : Nat, e = f / 16 := ⟨_, rfl⟩
      have hd2 : ((f : Int) / 16) = (e : Int) := by omega
      have ct := HE.out i hi16
      rw [halves_stps i hi16] at ct
      obtain ⟨s, hsx⟩ : ∃ s : Nat, s = stps 4 i := ⟨_, rfl⟩
      have hs32 : s < 4294967296 := by rw [hsx]; exact stps_lt 4 (Nat.lt_trans hi16 (by decide))
      rw [← hsx] at ct
      have hx2 := bits_xor_nat e s (by omega) hs32
      obtain ⟨g, hg⟩ : ∃ g : Nat, g = e ^^^ s := ⟨_, rfl⟩
      have hg32 : g < 4294967296 := by rw [hg]; exact xor32 (by omega) hs32
      rw [← hg] at hx2
      have HG : Hid (g = stps 4 f) := by show _ = _; rw [stps_half f, hg, he, hsx, hi]
      -- the second half
      have hand' := bits_and_15 g hg32
      obtain ⟨i', hi'⟩ : ∃ i : Nat, i = g % 16 := ⟨_, rfl⟩
      have hi16' : i' < 16 := by omega
      rw [← hi'] at hand'
      obtain ⟨e', he'⟩ : ∃ e : Nat, e = g / 16 := ⟨_, rfl⟩
      have hd2' : ((g : Int) / 16) = (e' : Int) := by omega
      have ct' := HE.out i' hi16'
      rw [halves_stps i' hi16'] at ct'
      obtain ⟨s', hsx'⟩ : ∃ s : Nat, s = stps 4 i' := ⟨_, rfl⟩
      have hs32' : s' < 4294967296 := by rw [hsx']; exact stps_lt 4 (Nat.lt_trans hi16' (by decide))
      rw [← hsx'] at ct'
      have hx2' := bits_xor_nat e' s' (by omega) hs32'
      obtain ⟨g', hg'⟩ : ∃ g : Nat, g = e' ^^^ s' := ⟨_, rfl⟩
      rw [← hg'] at hx2'
      have HG' : Hid (g' = stps 4 g) := by show _ = _; rw [stps_half g, hg', he', hsx', hi']
      clear hg hg' hsx hsx' hi hi' he he'
      go_wp2_with fail
      go_round
      case rel => exact ⟨k + 1, g', by omega, by go_num, rfl, by show _ = _; rw [run_snoc _ _ _ hlt, ← HD.out, ← HX.out, byt_half, ← HF.out, HG'.out, HG.out]⟩
      case measure => simp [intOf]; omega
    · obtain rfl : k = l.length := by omega
      have hlast := not_bits d hd
      obtain ⟨m, hm⟩ : ∃ m : Nat, m = 4294967295 - d := ⟨_, rfl⟩
      rw [← hm] at hlast
      have HM : Hid (m = more c l) := by show _ = _; unfold more; rw [hm, ← not_is d hd, HD.out, List.take_length, HN.out]
      clear hm
      go_wp2_with fail
      go_ret
      exact ⟨by rw [← HM.out]; rfl, Below.refl _ _⟩

set_option maxHeartbeats 1000000 in
set_option maxRecDepth 100000 in
theorem sum_said : SumSaid := by
  intro w l A cap he hr hcap hl
  have HM := Lib.hid (more_said w 0 l A cap (by decide) he hr hcap hl)
  clear he hr
  go_enter Tryd.func30, Tryd.ntmps30
  go_wp2_with fail
  refine HM.out.mono ?_
  rintro e w' ⟨rfl, hb⟩
  rw [more_zero]
  have HB : Hid (Below w.heap.size w w') := hb
  clear hb HM
  go_wp2_with fail
  go_ret
  exact ⟨rfl, HB.out⟩
end Go.Proofs.YtmcbpgbiephllaaDoor

namespace Go.Proofs.YtmcbpgbiephllaaDoor
open Go.RowKit
open Co hiding bytes
namespace Re
end Re
end Go.Proofs.YtmcbpgbiephllaaDoor

namespace Go.Proofs.YtmcbpgbiephllaaDoor
open Go.RowKit
namespace Re
end Re
end Go.Proofs.YtmcbpgbiephllaaDoor

namespace Go.Proofs.YtmcbpgbiephllaaDoor
open Go.RowKit Rc
namespace Re
set_option maxHeartbeats 1000000 in
set_option maxRecDepth 100000 in
theorem re_size_any (r : Rec) (A : Option Addr) (c : Nat) (w : World) : Calls Tryd.prog 16 #[val r A c] w fun e w' => e = .returned (.int .i64 (size r : Nat)) ∧ Below w.heap.size w w' := by
  obtain ⟨k, q, b⟩ := r
  have HRT : Hid (∀ W, Calls Tryd.prog 23 #[.agg #[.int .i64 k, .int .u64 (q : Nat), .slice A b.length c]] W fun e w' => e = .returned (.bool (decide (Right ⟨k, q, b⟩))) ∧ Below W.heap.size W w') := fun W => re_right_any ⟨k, q, b⟩ A c W
  obtain ⟨z, hz⟩ : ∃ z, z = size ⟨k, q, b⟩ := ⟨_, rfl⟩
  have HNO : Hid (¬ Right ⟨k, q, b⟩ → z = 0) := fun h => hz.trans (if_neg h)
  have HYES : Hid (Right ⟨k, q, b⟩ → z = 15 + b.length ∧ b.length ≤ 900) := fun h => ⟨hz.trans (if_pos h), right_len h⟩
  rw [← hz]
  clear hz
  unfold val
  dsimp only
  obtain ⟨W0, hW0⟩ : ∃ W0, W0 = w.alloc (.cells #[.int .i64 k, .int .u64 (q : Nat), .slice A b.length c] 27) := ⟨_, rfl⟩
  obtain ⟨g, hg⟩ : ∃ g, g = w.heap.size := ⟨_, rfl⟩
  have HB0 : Hid (Blk W0 g 27 [.int .i64 k, .int .u64 (q : Nat), .slice A b.length c]) := by show Blk _ _ _ _; rw [hW0, hg]; exact Blk.new w _ _
  have HBW : Hid (Below w.heap.size w W0) := by show Below _ _ _; rw [hW0]; exact below_new w _
  go_enter Tryd.func16, Tryd.ntmps16
  go_upto_region 1 with (fail)
  rw [← hW0, ← hg]
  clear hW0 hg
  have c0 := HB0.out.cell 0
  have c1 := HB0.out.cell 1
  have c2 := HB0.out.cell 2
  go_wp2_with fail
  refine (HRT.out W0).mono ?_
  rintro e w1 ⟨rfl, hb1⟩
  have HB1 : Hid (Blk w1 g 27 [.int .i64 k, .int .u64 (q : Nat), .slice A b.length c]) := HB0.out.below hb1 HB0.out.lt
  have HBW1 : Hid (Below w.heap.size w w1) := Later.trans HBW.out hb1
  clear hb1 c0 c1 c2 HB0 HBW
  by_cases hri : Right ⟨k, q, b⟩
  · rw [decide_eq_true hri]
    obtain ⟨e1, e2⟩ := HYES.out hri
    have HZ := Lib.hid e1
    clear hri HYES HNO e1
    have c2 := HB1.out.cell 2
    go_wp2_with fail
    go_ret
    refine ⟨congrArg (fun n => Ending.returned (Value.int .i64 n)) ?_, HBW1.out⟩
    have := HZ.out
    omega
  · rw [decide_eq_false hri]
    have HZ := Lib.hid (HNO.out hri)
    clear hri HYES HNO
    go_wp2_with fail
    go_ret
    refine ⟨congrArg (fun n => Ending.returned (Value.int .i64 n)) ?_, HBW1.out⟩
    rw [HZ.out]
    rfl
end Re
end Go.Proofs.YtmcbpgbiephllaaDoor

namespace Go.Proofs.YtmcbpgbiephllaaDoor
open Go.RowKit Rc
namespace Re
end Re
end Go.Proofs.YtmcbpgbiephllaaDoor

namespace Go.Proofs.YtmcbpgbiephllaaDoor
open Go.RowKit Rc

structure RrIn (g : Nat) (X : Option Addr) (cap : Nat) (r : List UInt8) (why : Nat) (w : World) : Prop where
  blk : Blk w g 79 [.slice X r.length cap, .int .i64 (why : Nat)]
  fits : r.length ≤ cap
  small : r.length ≤ 140737488355328
  rd : Rd w X r
  off : ∀ b, X.map (·.block) = some b → b ≠ g ∧ b < w.heap.size
def RrS (g : Nat) (X : Option Addr) : Nat → Prop := fun b => b = g ∨ X.map (·.block) = some b
def RrAt (v : Value) (s : Co.Rs) (S : Nat → Prop) (w : World) : Prop :=
  ∃ g X cap r, v = .pointer (some ⟨g, 0, none⟩) ∧ RrIn g X cap r s.why w ∧ r = (if s.why = 0 then s.rem else []) ∧ s.why ≤ 1000 ∧ S = RrS g X
def TakeOut (g : Nat) (X : Option Addr) (n : Int) (s : Co.Rs) (w : World) (e : Ending) (w' : World) : Prop :=
  ∃ X1 l c1 X2 r2 c2, e = .returned (.slice X1 (List.length l) c1) ∧ l = (Co.raw n s).1 ∧ l.length ≤ c1 ∧ Rd w' X1 l ∧ RrIn g X2 c2 r2 (Co.raw n s).2.why w' ∧ r2 = (if (Co.raw n s).2.why = 0 then (Co.raw n s).2.rem else []) ∧
    (∀ b, X2.map (·.block) = some b → X.map (·.block) = some b) ∧ (∀ b, 0 < l.length → X1.map (·.block) = some b → X.map (·.block) = some b) ∧ Keeps w w' g

set_option maxHeartbeats 1000000 in
theorem refuse_any {g : Nat} {X : Option Addr} {cap : Nat} {r : List UInt8} {why : Nat} {w : World} (h : RrIn g X cap r why w) (y : Nat) (_hy : y ≤ 1000) :
    Calls Tryd.prog 55 #[.pointer (some ⟨g, 0, none⟩), .int .i64 (y : Nat)] w fun e w' => e = .returned (.tuple #[]) ∧ RrIn g none 0 [] (if why = 0 then y else why) w' ∧ Keeps w w' g := by
  have c1 : w.cell? ⟨g, 1, none⟩ = some (.int .i64 (why : Nat)) := h.blk.cell 1
  have c0 : w.cell? ⟨g, 0, none⟩ = some (.slice X r.length cap) := h.blk.cell 0
  have f0 := h.blk.frozen 0
  have f1 := h.blk.frozen 1
  have HB := Lib.hid h.blk
  clear h
  by_cases h1 : why = 0
  · subst h1
    go_enter Tryd.func55, Tryd.ntmps55
    go_wp2_with fail
    go_end0
    exact ⟨rfl, ⟨(HB.out.set_ 1 _).set_ 0 _, by simp, by simp, Rd.nil _ _, by simp⟩, ((Keeps.refl _ _).setCell _ _).setCell _ _⟩
  · have hw : ((why : Nat) : Int) ≠ 0 := by omega
    go_enter Tryd.func55, Tryd.ntmps55
    go_wp2_with fail
    go_end0
    exact ⟨rfl, ⟨HB.out.set_ 0 _, by simp, by simp, Rd.nil _ _, by simp⟩, (Keeps.refl _ _).setCell _ _⟩

set_option maxHeartbeats 1000000 in
set_option maxRecDepth 100000 in
theorem take_any {g : Nat} {X : Option Addr} {cap : Nat} {r : List UInt8} {s : Co.Rs} {w : World} (h : RrIn g X cap r s.why w) (hr : r = if s.why = 0 then s.rem else []) (n : Int) (hn : n ≤ 140737488355328) (hn0 : -140737488355328 ≤ n) :
    Calls Tryd.prog 54 #[.pointer (some ⟨g, 0, none⟩), .int .i64 n] w (TakeOut g X n s w) := by
  have H := Lib.hid h
  have HRR := Lib.hid hr
  have c0 : w.cell? ⟨g, 0, none⟩ = some (.slice X r.length cap) := h.blk.cell 0
  have f0 := h.blk.frozen 0
  have hsm := h.small
  have hfit := h.fits
  clear h hr
  by_cases h1 : n < 1
  · go_enter Tryd.func54, Tryd.ntmps54
    go_wp2_with fail
    go_ret
    have e : Co.raw n s = ([], s) := by unfold Co.raw; rw [if_pos (.inr h1)]
    refine ⟨none, [], 0, X, r, cap, rfl, by rw [e], by simp, Rd.nil _ _, ?_, ?_, fun b h => h, fun b h => absurd h (by simp), Keeps.refl _ _⟩
    · rw [e]; exact H.out
    · rw [e]; exact HRR.out
  · by_cases h2 : ((r.length : Nat) : Int) < n
    · go_enter Tryd.func54, Tryd.ntmps54
      go_wp2_with fail
      refine (refuse_any H.out 10 (by omega)).mono ?_
      rintro e w1 ⟨rfl, hin, hk⟩
      have HI := Lib.hid hin
      have HK := Lib.hid hk
      clear hin hk
      go_wp2_with fail
      go_ret
      have e : (Co.raw n s).1 = [] ∧ (Co.raw n s).2.why = (if s.why = 0 then 10 else s.why) := by
        have := HRR.out
        unfold Co.raw
        by_cases hw : s.why = 0
        · rw [if_pos hw] at this
          subst this
          rw [if_neg (by simp [hw]; omega), if_pos h2, if_pos hw]
          exact ⟨rfl, rfl⟩
        · rw [if_pos (.inl hw), if_neg hw]
          exact ⟨rfl, rfl⟩
      have ew : (Co.raw n s).2.why ≠ 0 := by rw [e.2]; split <;> omega
      refine ⟨none, [], 0, none, [], 0, rfl, e.1.symm, by simp, Rd.nil _ _, ?_, by rw [if_neg ew], fun b h => (by cases h), fun b h => absurd h (by simp), HK.out⟩
      rw [e.2]
      exact HI.out
    · obtain ⟨q, rfl⟩ : ∃ q : Nat, n = (q : Nat) := ⟨n.toNat, by omega⟩
      go_enter Tryd.func54, Tryd.ntmps54
      have hqr : q ≤ r.length := by omega
      have hslh := fun W => sl_h W X r.length cap q (by omega)
      have hsll := fun W => sl_l W X r.length cap q hqr
      have HW : Hid (s.why = 0 ∧ r = s.rem) := by
        have h3 := HRR.out
        by_cases hw : s.why = 0
        · rw [if_pos hw] at h3; exact ⟨hw, h3⟩
        · rw [if_neg hw] at h3; subst h3; simp at hqr; omega
      clear hslh
      go_wp2_with fail
      go_ret
      obtain ⟨hw, hrr⟩ := HW.out
      have e : Co.raw (q : Int) s = (r.take q, ⟨r.drop q, s.why⟩) := by
        unfold Co.raw
        rw [if_neg (by simp [hw]; omega), if_neg (by rw [← hrr]; omega), ← hrr]
        rfl
      have hcb : ∀ b, (cutA X q cap).map (·.block) = some b → X.map (·.block) = some b := fun b hb => by
        unfold cutA at hb
        split at hb
        · exact hb
        · cases X with
          | none => exact hb
          | some a => simp only [Option.map_some, block_of_add] at hb; exact hb
      have hk : Keeps w (w.setCell ⟨g, 0, none⟩ (.slice (cutA X q cap) (r.length - q) (cap - q))) g := (Keeps.refl _ _).setCell _ _
      have hne : X.map (·.block) ≠ some g := fun e => (H.out.off g e).1 rfl
      have hl1 : (r.take q).length = q := by rw [List.length_take]; omega
      have hl2 : (r.drop q).length = r.length - q := List.length_drop
      refine ⟨X, r.take q, cap, cutA X q cap, r.drop q, cap - q, by rw [hl1]; rfl, by rw [e], by omega, (H.out.rd.take q).keeps hk (fun _ => hne), ?_, by rw [e]; simp [hw], hcb, fun b _ h => h, hk⟩
      rw [e]
      refine ⟨?_, by omega, by omega, (H.out.rd.cut q cap hfit).keeps hk (fun _ e => hne (hcb g e)), fun b hb => ?_⟩
      · rw [hl2]; exact H.out.blk.set_ 0 _
      · have := H.out.off b (hcb b hb)
        exact ⟨this.1, Nat.lt_of_lt_of_le this.2 hk.size⟩

def RrNext (g : Nat) (X : Option Addr) (s' : Co.Rs) (w w' : World) : Prop :=
  ∃ X2 c2 r2, RrIn g X2 c2 r2 s'.why w' ∧ r2 = (if s'.why = 0 then s'.rem else []) ∧ (∀ b, X2.map (·.block) = some b → X.map (·.block) = some b) ∧ Keeps w w' g
theorem RrNext.below {g : Nat} {X : Option Addr} {s' : Co.Rs} {w w' w2 : World} (h : RrNext g X s' w w') (hb : Below w'.heap.size w' w2) : RrNext g X s' w w2 := by
  obtain ⟨X2, c2, r2, h1, h2, h3, h4⟩ := h
  exact ⟨X2, c2, r2, ⟨h1.blk.below hb h1.blk.lt, h1.fits, h1.small, h1.rd.below hb, fun b h => ⟨(h1.off b h).1, Nat.lt_of_lt_of_le (h1.off b h).2 hb.size⟩⟩, h2, h3, h4.trans (Keeps.of_below hb)⟩
theorem RrNext.then {g : Nat} {X X2 : Option Addr} {s' : Co.Rs} {w w' w2 : World} (h4 : Keeps w w' g) (h3 : ∀ b, X2.map (·.block) = some b → X.map (·.block) = some b) (h : RrNext g X2 s' w' w2) : RrNext g X s' w w2 := by
  obtain ⟨X3, c3, r3, k1, k2, k3, k4⟩ := h
  exact ⟨X3, c3, r3, k1, k2, fun b hb => h3 b (k3 b hb), h4.trans k4⟩
theorem raw_len (n : Int) (s : Co.Rs) : (Co.raw n s).1.length ≤ s.rem.length := by
  unfold Co.raw
  split
  · simp
  · split
    · simp
    · show (s.rem.take _).length ≤ _
      rw [List.length_take]; omega

set_option maxHeartbeats 1000000 in
set_option maxRecDepth 100000 in
theorem rnumber_any {g : Nat} {X : Option Addr} {cap : Nat} {r : List UInt8} {s : Co.Rs} {w : World} (h : RrIn g X cap r s.why w) (hr : r = if s.why = 0 then s.rem else []) (n : Int) (hn : n ≤ 140737488355328) (hn0 : -140737488355328 ≤ n) :
    Calls Tryd.prog 50 #[.pointer (some ⟨g, 0, none⟩), .int .i64 n] w fun e w' => e = .returned (.int .u64 ((Co.num n s).1 : Nat)) ∧ RrNext g X (Co.num n s).2 w w' := by
  have H := Lib.hid h
  have HR := Lib.hid hr
  clear h hr
  go_enter Tryd.func50, Tryd.ntmps50
  go_wp2_with fail
  refine (take_any H.out HR.out n hn hn0).mono ?_
  rintro e w1 ⟨X1, l, c1, X2, r2, c2, rfl, hl, hlc, hrd, hin, hr2, hX2, hX1, hk⟩
  have HL := Lib.hid hl
  have HRD := Lib.hid hrd
  have HN : Hid (RrNext g X (Co.num n s).2 w w1) := ⟨X2, c2, r2, hin, hr2, hX2, hk⟩
  have hsm : l.length ≤ 140737488355328 := by
    rw [hl]
    by_cases hw : s.why = 0
    · have e := HR.out
      rw [if_pos hw] at e
      have h5 := raw_len n s
      have h6 := H.out.small
      rw [← e] at h5
      omega
    · unfold Co.raw
      rw [if_pos (.inl hw)]
      simp
  clear hl hrd hin hr2 hX2 hX1 hk hlc H HR
  go_wp2_with fail
  go_loop [5, 12] (fun t5 t12 => ∃ (k x : Nat), k ≤ l.length ∧ t12 = .int .i64 (k : Nat) ∧ t5 = .int .u64 (x : Nat) ∧ Hid (x = Co.beVal (l.take k))) (fun _ t12 => l.length - (intOf t12).toNat)
  case atStart => exact ⟨0, 0, by omega, rfl, rfl, rfl⟩
  case round =>
    obtain ⟨k, x, hk, rfl, rfl, HX⟩ := hrel
    by_cases hlt : k < l.length
    · obtain ⟨b, off, rfl, _, hcell⟩ := HRD.out.at_ (by omega)
      have c0 := hcell k hlt
      obtain ⟨y, hy⟩ : ∃ y : Nat, y = (l.getD k 0).toNat := ⟨_, rfl⟩
      have hy8 : y < 256 := by rw [hy]; exact (l.getD k 0).toNat_lt
      rw [← hy] at c0
      have HY := Lib.hid hy
      have hor := Co.bits_or64 x y hy8
      obtain ⟨z, hz⟩ : ∃ z : Nat, z = (x * 256 + y) % 18446744073709551616 := ⟨_, rfl⟩
      rw [← hz] at hor
      have HZ := Lib.hid hz
      clear hcell hy hz
      go_wp2_with fail
      go_round
      case rel => exact ⟨k + 1, z, by omega, by go_num, rfl, by show _ = _; rw [Co.beVal_snoc _ _ hlt, ← HX.out, ← HY.out, HZ.out]⟩
      case measure => simp [intOf]; omega
    · obtain rfl : k = l.length := by omega
      have HF : Hid (x = Co.beVal l) := by show _ = _; rw [HX.out, List.take_length]
      clear HX
      go_wp2_with fail
      go_ret
      refine ⟨?_, HN.out⟩
      rw [HF.out, HL.out]
      rfl

theorem num_why (n : Int) (s : Co.Rs) (h : s.why ≤ 1000) : (Co.num n s).2.why ≤ 1000 := by
  unfold Co.num Co.raw
  split
  · exact h
  · split
    · show 10 ≤ 1000; omega
    · exact h
theorem RrNext.out {g : Nat} {X : Option Addr} {A : Option Addr} {L : List UInt8} {x : Value} {s' : Co.Rs} {w w' : World} (h : RrNext g X s' w w') (hs : s'.why ≤ 1000) : ROut (fun v _ _ s S w => RrAt v s S w) (.pointer (some ⟨g, 0, none⟩)) A L x s' (RrS g X) w (.returned x) w' := by
  obtain ⟨X2, c2, r2, h1, h2, h3, h4⟩ := h
  refine ⟨rfl, RrS g X2, ⟨g, X2, c2, r2, rfl, h1, h2, hs, rfl⟩, ⟨h4.os, h4.tape, h4.output, h4.size, fun k hk hn => h4.block k hk fun e => hn (.inl (by injection e))⟩, fun b hb => ?_⟩
  rcases hb with h | h
  · exact .inl (.inl h)
  · exact .inl (.inr (h3 b h))
set_option maxHeartbeats 1000000 in
theorem rbyte_any {g : Nat} {X : Option Addr} {cap : Nat} {r : List UInt8} {s : Co.Rs} {w : World} (h : RrIn g X cap r s.why w) (hr : r = if s.why = 0 then s.rem else []) :
    Calls Tryd.prog 34 #[.pointer (some ⟨g, 0, none⟩)] w fun e w' => e = .returned (.int .i64 ((Co.num 1 s).1 : Nat)) ∧ RrNext g X (Co.num 1 s).2 w w' := by
  have H := Lib.hid h
  have HR := Lib.hid hr
  have hs := num_small1 s
  clear h hr
  go_enter Tryd.func34, Tryd.ntmps34
  go_wp2_with fail
  refine (rnumber_any H.out HR.out 1 (by omega) (by omega)).mono ?_
  rintro e w1 ⟨rfl, hn⟩
  have HN := Lib.hid hn
  obtain ⟨x, hx⟩ : ∃ x, x = (Co.num 1 s).1 := ⟨_, rfl⟩
  rw [← hx] at hs ⊢
  have HX := Lib.hid hx
  clear hn hx
  have hw : IntKind.i64.wrap (x : Int) = (x : Int) := IntWalk.i64_in _ (by omega)
  go_wp2_with fail
  go_ret
  exact ⟨by rw [← HX.out]; rfl, HN.out⟩
set_option maxHeartbeats 1000000 in
theorem rshort_any {g : Nat} {X : Option Addr} {cap : Nat} {r : List UInt8} {s : Co.Rs} {w : World} (h : RrIn g X cap r s.why w) (hr : r = if s.why = 0 then s.rem else []) :
    Calls Tryd.prog 38 #[.pointer (some ⟨g, 0, none⟩)] w fun e w' => e = .returned (.int .i64 ((Co.num 2 s).1 : Nat)) ∧ RrNext g X (Co.num 2 s).2 w w' := by
  have H := Lib.hid h
  have HR := Lib.hid hr
  have hs := num_small2 s
  clear h hr
  go_enter Tryd.func38, Tryd.ntmps38
  go_wp2_with fail
  refine (rnumber_any H.out HR.out 2 (by omega) (by omega)).mono ?_
  rintro e w1 ⟨rfl, hn⟩
  have HN := Lib.hid hn
  obtain ⟨x, hx⟩ : ∃ x, x = (Co.num 2 s).1 := ⟨_, rfl⟩
  rw [← hx] at hs ⊢
  have HX := Lib.hid hx
  clear hn hx
  have hw : IntKind.i64.wrap (x : Int) = (x : Int) := IntWalk.i64_in _ (by omega)
  go_wp2_with fail
  go_ret
  exact ⟨by rw [← HX.out]; rfl, HN.out⟩
set_option maxHeartbeats 1000000 in
theorem rlong_any {g : Nat} {X : Option Addr} {cap : Nat} {r : List UInt8} {s : Co.Rs} {w : World} (h : RrIn g X cap r s.why w) (hr : r = if s.why = 0 then s.rem else []) :
    Calls Tryd.prog 36 #[.pointer (some ⟨g, 0, none⟩)] w fun e w' => e = .returned (.int .u64 ((Co.num 8 s).1 : Nat)) ∧ RrNext g X (Co.num 8 s).2 w w' := by
  have H := Lib.hid h
  have HR := Lib.hid hr
  clear h hr
  go_enter Tryd.func36, Tryd.ntmps36
  go_wp2_with fail
  refine (rnumber_any H.out HR.out 8 (by omega) (by omega)).mono ?_
  rintro e w1 ⟨rfl, hn⟩
  have HN := Lib.hid hn
  obtain ⟨x, hx⟩ : ∃ x, x = (Co.num 8 s).1 := ⟨_, rfl⟩
  rw [← hx] at ⊢
  have HX := Lib.hid hx
  clear hn hx
  go_wp2_with fail
  go_ret
  exact ⟨by rw [← HX.out]; rfl, HN.out⟩
def RrRow (g : Nat) (X : Option Addr) (p : List UInt8 × Co.Rs) (w : World) (e : Ending) (w' : World) : Prop :=
  ∃ v, e = .returned v ∧ w'.ownsRow w.heap.size 5 1 v p.1.length (Lib.byteCells p.1) ∧ RrNext g X p.2 w w'
set_option maxHeartbeats 1000000 in
theorem rraw_any {g : Nat} {X : Option Addr} {cap : Nat} {r : List UInt8} {s : Co.Rs} {w : World} (h : RrIn g X cap r s.why w) (hr : r = if s.why = 0 then s.rem else []) (n : Int) (hn : n ≤ 140737488355328) (hn0 : -140737488355328 ≤ n) :
    Calls Tryd.prog 51 #[.pointer (some ⟨g, 0, none⟩), .int .i64 n] w (RrRow g X (Co.raw n s) w) := by
  have H := Lib.hid h
  have HR := Lib.hid hr
  clear h hr
  go_enter Tryd.func51, Tryd.ntmps51
  go_wp2_with fail
  refine (take_any H.out HR.out n hn hn0).mono ?_
  rintro e w1 ⟨X1, l, c1, X2, r2, c2, rfl, hl, hlc, hrd, hin, hr2, hX2, hX1, hk⟩
  have HL := Lib.hid hl
  have HRD := Lib.hid hrd
  have HN : Hid (RrNext g X (Co.raw n s).2 w w1) := ⟨X2, c2, r2, hin, hr2, hX2, hk⟩
  have HS := Lib.hid hk.size
  have hsm : l.length ≤ 140737488355328 := by
    rw [hl]
    by_cases hw : s.why = 0
    · have e := HR.out
      rw [if_pos hw] at e
      have h5 := raw_len n s
      have h6 := H.out.small
      rw [← e] at h5
      omega
    · unfold Co.raw
      rw [if_pos (.inl hw)]
      simp
  clear hl hrd hin hr2 hX2 hX1 hk hlc H HR
  go_wp2_with fail
  refine (clone_any w1 X1 l c1 HRD.out (by omega)).mono ?_
  rintro e w2 ⟨v, rfl, hown, hb⟩
  have HF : Hid (RrRow g X (Co.raw n s) w (.returned v) w2) := ⟨v, rfl, by rw [← HL.out]; exact own_mono hown HS.out, HN.out.below hb⟩
  clear hown hb
  go_wp2_with fail
  go_ret
  exact HF.out
set_option maxHeartbeats 1000000 in
theorem rbytes_any {g : Nat} {X : Option Addr} {cap : Nat} {r : List UInt8} {s : Co.Rs} {w : World} (h : RrIn g X cap r s.why w) (hr : r = if s.why = 0 then s.rem else []) :
    Calls Tryd.prog 37 #[.pointer (some ⟨g, 0, none⟩)] w (RrRow g X (Co.bytes s) w) := by
  have H := Lib.hid h
  have HR := Lib.hid hr
  have hs := num_small2 s
  clear h hr
  go_enter Tryd.func37, Tryd.ntmps37
  go_wp2_with fail
  refine (rshort_any H.out HR.out).mono ?_
  rintro e w1 ⟨rfl, hn⟩
  obtain ⟨X2, c2, r2, hin, hr2, hX2, hk⟩ := hn
  have HI := Lib.hid hin
  have HR2 := Lib.hid hr2
  have HK := Lib.hid hk
  have HX2 := Lib.hid hX2
  obtain ⟨x, hx⟩ : ∃ x, x = (Co.num 2 s).1 := ⟨_, rfl⟩
  rw [← hx] at hs ⊢
  have HX := Lib.hid hx
  clear hin hr2 hX2 hk hx H HR
  go_wp2_with fail
  refine (rraw_any HI.out HR2.out (x : Int) (by omega) (by omega)).mono ?_
  rintro e w2 ⟨v, rfl, hown, hn⟩
  have HF : Hid (RrRow g X (Co.bytes s) w (.returned v) w2) := by
    refine ⟨v, rfl, ?_, ?_⟩
    · have := own_mono hown HK.out.size
      rw [HX.out] at this
      exact this
    · have := RrNext.then HK.out HX2.out hn
      rw [HX.out] at this
      exact this
  clear hown hn
  go_wp2_with fail
  go_ret
  exact HF.out
theorem raw_why (n : Int) (s : Co.Rs) (h : s.why ≤ 1000) : (Co.raw n s).2.why ≤ 1000 := num_why n s h
theorem bytes_why (s : Co.Rs) (h : s.why ≤ 1000) : (Co.bytes s).2.why ≤ 1000 := raw_why _ _ (num_why 2 s h)
theorem RrRow.out {g : Nat} {X : Option Addr} {A : Option Addr} {L : List UInt8} {p : List UInt8 × Co.Rs} {w : World} {e : Ending} {w' : World} (h : RrRow g X p w e w') (hs : p.2.why ≤ 1000) : RRow (fun v _ _ s S w => RrAt v s S w) (.pointer (some ⟨g, 0, none⟩)) A L p (RrS g X) w e w' := by
  obtain ⟨v, rfl, hown, hn⟩ := h
  obtain ⟨Y, c, rfl, hc, hrow, hlt⟩ := RowS.of_own A L hown rfl
  obtain ⟨_, S', h1, h2, h3⟩ := RrNext.out (A := A) (L := L) (x := .slice Y p.1.length c) hn hs
  exact ⟨Y, c, S', _, rfl, hc, hrow, h1, h2, h3, fun b hb => ⟨.inr (hlt b hb).1, (hlt b hb).2⟩⟩
set_option maxHeartbeats 1000000 in
theorem rend_any {g : Nat} {X : Option Addr} {cap : Nat} {r : List UInt8} {s : Co.Rs} {w : World} (h : RrIn g X cap r s.why w) (hr : r = if s.why = 0 then s.rem else []) :
    Calls Tryd.prog 39 #[.pointer (some ⟨g, 0, none⟩)] w fun e w' => e = .returned (.int .i64 (Co.fin s : Nat)) ∧ Below w.heap.size w w' := by
  have c0 : w.cell? ⟨g, 0, none⟩ = some (.slice X r.length cap) := h.blk.cell 0
  have c1 : w.cell? ⟨g, 1, none⟩ = some (.int .i64 (s.why : Nat)) := h.blk.cell 1
  obtain ⟨rem, why⟩ := s
  simp only at c1 hr
  clear h
  by_cases h1 : why = 0
  · subst h1
    rw [if_pos rfl] at hr
    subst hr
    by_cases h2 : 0 < r.length
    · have HF : Hid (Co.fin ⟨r, 0⟩ = 11) := by show _ = _; unfold Co.fin; simp [h2]
      have h3 : (0 : Int) < (r.length : Int) := by omega
      go_enter Tryd.func39, Tryd.ntmps39
      go_wp2_with fail
      go_ret
      exact ⟨by rw [HF.out]; rfl, Below.refl _ _⟩
    · have HF : Hid (Co.fin ⟨r, 0⟩ = 0) := by show _ = _; unfold Co.fin; simp [h2]
      go_enter Tryd.func39, Tryd.ntmps39
      go_wp2_with fail
      go_ret
      exact ⟨by rw [HF.out]; rfl, Below.refl _ _⟩
  · have hw : ((why : Nat) : Int) ≠ 0 := by omega
    have HF : Hid (Co.fin ⟨rem, why⟩ = why) := by show _ = _; unfold Co.fin; simp [h1]
    go_enter Tryd.func39, Tryd.ntmps39
    go_wp2_with fail
    go_ret
    exact ⟨by rw [HF.out]; rfl, Below.refl _ _⟩
set_option maxHeartbeats 1000000 in
theorem rnew_any (w : World) (A : Option Addr) (L : List UInt8) (cap : Nat) (hr : Rd w A L) (hl : L.length ≤ 140737488351232) : Calls Tryd.prog 33 #[.slice A L.length cap] w fun e w' => ∃ v S, e = .returned v ∧ RrAt v ⟨L, 0⟩ S w' ∧ Below w.heap.size w w' ∧ ∀ b, S b → w.heap.size ≤ b := by
  have HR := Lib.hid hr
  clear hr
  go_enter Tryd.func33, Tryd.ntmps33
  go_wp2_with fail
  refine (clone_any w A L cap HR.out (by omega)).mono ?_
  rintro e w1 ⟨v, rfl, hown, hb⟩
  have ho : ∀ b, v.ownBlock = some b → w.heap.size ≤ b ∧ b < w1.heap.size := fun b h => own_lt hown h
  obtain ⟨X, c, rfl, hc, hrd⟩ := own_form hown
  have hX : ∀ b, X.map (·.block) = some b → w.heap.size ≤ b ∧ b < w1.heap.size := fun b h => ho b (by cases X with | none => cases h | some a => simpa [Value.ownBlock] using h)
  have HF : Hid (RrAt (.pointer (some ⟨w1.heap.size, 0, none⟩)) ⟨L, 0⟩ (RrS w1.heap.size X) (w1.alloc (.cells #[.slice X L.length c, .int .i64 0] 79)) ∧ Below w.heap.size w (w1.alloc (.cells #[.slice X L.length c, .int .i64 0] 79)) ∧ ∀ b, RrS w1.heap.size X b → w.heap.size ≤ b) := by
    refine ⟨⟨_, X, c, L, rfl, ⟨Blk.new w1 _ _, hc, by omega, hrd.below (below_new _ _), fun b h => ?_⟩, rfl, by show 0 ≤ 1000; omega, rfl⟩, hb.trans ((below_new w1 _).mono hb.size), fun b h => ?_⟩
    · have := hX b h
      rw [World.size_alloc]
      omega
    · rcases h with rfl | h
      · exact hb.size
      · exact (hX b h).1
  clear hown hb ho hc hrd hX
  go_wp2_with fail
  go_ret
  exact ⟨_, _, rfl, HF.out⟩

theorem RrAt.keep {v : Value} {s : Co.Rs} {S : Nat → Prop} {w w' : World} (h : RrAt v s S w) (hs : w.heap.size ≤ w'.heap.size) (hb : ∀ b, S b → w'.heap[b]? = w.heap[b]?) : RrAt v s S w' := by
  obtain ⟨g, X, cap, r, rfl, h1, h2, h3, rfl⟩ := h
  refine ⟨g, X, cap, r, rfl, ⟨(hb g (.inl rfl)).trans h1.blk, h1.fits, h1.small, h1.rd.keep (fun p hp e => ?_) hs, fun b h => ⟨(h1.off b h).1, Nat.lt_of_lt_of_le (h1.off b h).2 hs⟩⟩, h2, h3, rfl⟩
  unfold World.cell?
  rw [hb p.block (.inr e)]
theorem RrAt.lt {v : Value} {s : Co.Rs} {S : Nat → Prop} {w : World} (h : RrAt v s S w) : ∀ b, S b → b < w.heap.size := by
  obtain ⟨g, X, cap, r, rfl, h1, h2, h3, rfl⟩ := h
  rintro b (rfl | hb)
  · exact h1.blk.lt
  · exact (h1.off b hb).2
end Go.Proofs.YtmcbpgbiephllaaDoor

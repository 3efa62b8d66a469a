/-
  OWN WORK. The program's directories: a name is dropped, a node's names are forgotten.
-/
import Derived.Test.YtombmeppdhhjhaaSTrPut
import Derived.Shelf.Abstract
namespace Go.Proofs.Ytombmeppdhhjhaa
open Go.RowKit Rc
open Tr (Nm En T)
namespace Tm

set_option maxHeartbeats 1000000 in
set_option maxRecDepth 100000 in
theorem drop1_any (W : World) (b : Nat) (x : Bs) (m : Nm) (hc : W.cell? ⟨b, 0, none⟩ = some (.string (strOf x))) :
    Calls Try.prog 68 #[.agg #[.string (strOf m.1), .int .i64 m.2], .pointer (some ⟨b, 0, none⟩)] W fun e w' => e = .returned (.bool (m.1 == x)) ∧ Below W.heap.size W w' := by
  have hc2 := cell_alloc (.cells #[.string (strOf m.1), .int .i64 m.2] 87) hc
  have HB := Lib.hid (below_new W (.cells #[.string (strOf m.1), .int .i64 m.2] 87))
  obtain ⟨q, hq⟩ : ∃ q, q = (m.1 == x) := ⟨_, rfl⟩
  have HQ := Lib.hid hq
  have hb : ((strOf m.1).toList == (strOf x).toList) = q := by rw [hq]; rw [strOf_beq]; by_cases h : m.1 = x <;> simp [h]
  rw [← hq]
  clear hc hq
  go_enter Try.func68, Try.ntmps68
  go_wp2_with fail
  go_ret
  exact ⟨rfl, HB.out⟩

set_option maxHeartbeats 1000000 in
set_option maxRecDepth 100000 in
theorem drop_any {g : Nat} {e : En} {S : Nat → Prop} {w : World} (h : EAt g e S w) (x : Bs) (hlt : e.names.length ≤ 1000000000) :
    Calls Try.prog 36 #[.pointer (some ⟨g, 0, none⟩), .string (strOf x)] w (ETurn g { e with names := Tr.del e.names x } S w) := by
  obtain ⟨dv, nv, hE, rfl⟩ := h
  obtain ⟨wb, hwb⟩ : ∃ wb, wb = w.alloc (.cells #[.string (strOf x)] 9) := ⟨_, rfl⟩
  have hbw : Below w.heap.size w wb := by rw [hwb]; exact below_new w _
  have hEb := hE.keep (fun b hb => hbw.block b (hE.kind hb).1)
  have hblk : Blk wb w.heap.size 9 [.string (strOf x)] := by rw [hwb]; exact Blk.new w _ _
  have c0 : wb.cell? ⟨g, 7, none⟩ = some nv := hEb.box.cell 7
  have hnf : nv.ownBlock ≠ some w.heap.size := fun e2 => by have := (own_blk hE.names e2).2.1; omega
  have hgn : some g ≠ nv.ownBlock := fun e2 => by
    obtain ⟨_, _, cs, h1⟩ := own_blk hE.names e2.symm
    exact absurd rfl (h1.ne_ hE.box (by decide))
  have hent : ∀ (args : Array Value) (w : World), (callFunc 68 args).run Try.prog w = .ok (.enter 68 args) w := enters_of Try.func68 (by kernel_rfl) rfl
  have hdel := deleteNm_any wb nv e.names 68 #[.pointer (some ⟨w.heap.size, 0, none⟩)] (fun m => m.1 == x) hent hEb.names hlt (fun W hW m _ => by
    refine drop1_any W w.heap.size x m ?_
    have h1 := hW.block w.heap.size hblk.lt (fun e2 => hnf e2.symm)
    have h2 : Blk W w.heap.size 9 [.string (strOf x)] := h1.trans hblk
    exact h2.cell 0)
  have HEND : Hid (∀ nv' w2, NOwn w2 0 nv' (Tr.del e.names x) → wb.grownBy w2 nv.ownBlock → nv'.ownBlock = nv.ownBlock → ∃ S', EAt g { e with names := Tr.del e.names x } S' (w2.setCell ⟨g, 7, none⟩ nv') ∧ Mod w (w2.setCell ⟨g, 7, none⟩ nv') (EnS g dv nv) ∧ ∀ b, S' b → EnS g dv nv b ∨ w.heap.size ≤ b) := fun nv' w2 ho hg hb => by
    obtain ⟨S', h1, h2, h3⟩ := hEb.names_to (Tr.del e.names x) ho hg (fun b h => .inl (hb ▸ h))
    refine ⟨S', h1, (Mod.of_below hbw _).trans h2, fun b hb2 => (h3 b hb2).imp id fun h => Nat.le_trans hbw.size h⟩
  have HFR : Hid (∀ w2, wb.grownBy w2 nv.ownBlock → w2.cell? ⟨g, 7, none⟩ = some nv ∧ w2.frozen? ⟨g, 7, none⟩ = false) := fun w2 hg => by
    have h2 : Blk w2 g 65 (enCells e dv nv) := (hg.block g hEb.box.lt hgn).trans hEb.box
    exact ⟨h2.cell 7, h2.frozen 7⟩
  have HDEL := Lib.hid hdel
  obtain ⟨A, c, hnv, _, _⟩ := hE.names.form
  subst hnv
  have HWB := Lib.hid hwb
  clear hdel hEb hE hbw hblk hnf hgn hent
  subst hwb
  go_enter Try.func36, Try.ntmps36
  go_wp2_with fail
  refine HDEL.out.mono ?_
  rintro r w2 ⟨nv', rfl, ho, hg, hb⟩
  have ho' : NOwn w2 0 nv' (Tr.del e.names x) := ho
  obtain ⟨A9, c9, rfl, _, _⟩ := ho'.form
  have HO := Lib.hid ho'
  have HG := Lib.hid hg
  have HB := Lib.hid hb
  obtain ⟨hc2, hf2⟩ := HFR.out w2 hg
  clear ho ho' hg hb
  go_wp2_with fail
  refine bodyPost_end (results_none rfl _ _ _) rfl ?_
  exact ⟨rfl, HEND.out _ w2 HO.out HG.out HB.out⟩

set_option maxHeartbeats 1000000 in
set_option maxRecDepth 100000 in
theorem forget1_any (W : World) (b : Nat) (x : Int) (m : Nm) (hc : W.cell? ⟨b, 0, none⟩ = some (.int .i64 x)) :
    Calls Try.prog 71 #[.agg #[.string (strOf m.1), .int .i64 m.2], .pointer (some ⟨b, 0, none⟩)] W fun e w' => e = .returned (.bool (m.2 == x)) ∧ Below W.heap.size W w' := by
  have hc2 := cell_alloc (.cells #[.string (strOf m.1), .int .i64 m.2] 87) hc
  have HB := Lib.hid (below_new W (.cells #[.string (strOf m.1), .int .i64 m.2] 87))
  obtain ⟨q, hq⟩ : ∃ q, q = (m.2 == x) := ⟨_, rfl⟩
  have HQ := Lib.hid hq
  have hb : (m.2 == x) = q := by rw [hq]
  rw [← hq]
  clear hc hq
  go_enter Try.func71, Try.ntmps71
  go_wp2_with fail
  go_ret
  exact ⟨rfl, HB.out⟩

set_option maxHeartbeats 1000000 in
set_option maxRecDepth 100000 in
theorem forget_any {g : Nat} {e : En} {S : Nat → Prop} {w : World} (h : EAt g e S w) (x : Int) (hlt : e.names.length ≤ 1000000000) :
    Calls Try.prog 38 #[.pointer (some ⟨g, 0, none⟩), .int .i64 x] w (ETurn g { e with names := Tr.strike e.names x } S w) := by
  obtain ⟨dv, nv, hE, rfl⟩ := h
  obtain ⟨wb, hwb⟩ : ∃ wb, wb = w.alloc (.cells #[.int .i64 x] 3) := ⟨_, rfl⟩
  have hbw : Below w.heap.size w wb := by rw [hwb]; exact below_new w _
  have hEb := hE.keep (fun b hb => hbw.block b (hE.kind hb).1)
  have hblk : Blk wb w.heap.size 3 [.int .i64 x] := by rw [hwb]; exact Blk.new w _ _
  have c0 : wb.cell? ⟨g, 7, none⟩ = some nv := hEb.box.cell 7
  have hnf : nv.ownBlock ≠ some w.heap.size := fun e2 => by have := (own_blk hE.names e2).2.1; omega
  have hgn : some g ≠ nv.ownBlock := fun e2 => by
    obtain ⟨_, _, cs, h1⟩ := own_blk hE.names e2.symm
    exact absurd rfl (h1.ne_ hE.box (by decide))
  have hent : ∀ (args : Array Value) (w : World), (callFunc 71 args).run Try.prog w = .ok (.enter 71 args) w := enters_of Try.func71 (by kernel_rfl) rfl
  have hdel := deleteNm_any wb nv e.names 71 #[.pointer (some ⟨w.heap.size, 0, none⟩)] (fun m => m.2 == x) hent hEb.names hlt (fun W hW m _ => by
    refine forget1_any W w.heap.size x m ?_
    have h1 := hW.block w.heap.size hblk.lt (fun e2 => hnf e2.symm)
    have h2 : Blk W w.heap.size 3 [.int .i64 x] := h1.trans hblk
    exact h2.cell 0)
  have HEND : Hid (∀ nv' w2, NOwn w2 0 nv' (Tr.strike e.names x) → wb.grownBy w2 nv.ownBlock → nv'.ownBlock = nv.ownBlock → ∃ S', EAt g { e with names := Tr.strike e.names x } S' (w2.setCell ⟨g, 7, none⟩ nv') ∧ Mod w (w2.setCell ⟨g, 7, none⟩ nv') (EnS g dv nv) ∧ ∀ b, S' b → EnS g dv nv b ∨ w.heap.size ≤ b) := fun nv' w2 ho hg hb => by
    obtain ⟨S', h1, h2, h3⟩ := hEb.names_to (Tr.strike e.names x) ho hg (fun b h => .inl (hb ▸ h))
    refine ⟨S', h1, (Mod.of_below hbw _).trans h2, fun b hb2 => (h3 b hb2).imp id fun h => Nat.le_trans hbw.size h⟩
  have HFR : Hid (∀ w2, wb.grownBy w2 nv.ownBlock → w2.cell? ⟨g, 7, none⟩ = some nv ∧ w2.frozen? ⟨g, 7, none⟩ = false) := fun w2 hg => by
    have h2 : Blk w2 g 65 (enCells e dv nv) := (hg.block g hEb.box.lt hgn).trans hEb.box
    exact ⟨h2.cell 7, h2.frozen 7⟩
  have HDEL := Lib.hid hdel
  obtain ⟨A, c, hnv, _, _⟩ := hE.names.form
  subst hnv
  have HWB := Lib.hid hwb
  clear hdel hEb hE hbw hblk hnf hgn hent
  subst hwb
  go_enter Try.func38, Try.ntmps38
  go_wp2_with fail
  refine HDEL.out.mono ?_
  rintro r w2 ⟨nv', rfl, ho, hg, hb⟩
  have ho' : NOwn w2 0 nv' (Tr.strike e.names x) := ho
  obtain ⟨A9, c9, rfl, _, _⟩ := ho'.form
  have HO := Lib.hid ho'
  have HG := Lib.hid hg
  have HB := Lib.hid hb
  obtain ⟨hc2, hf2⟩ := HFR.out w2 hg
  clear ho ho' hg hb
  go_wp2_with fail
  refine bodyPost_end (results_none rfl _ _ _) rfl ?_
  exact ⟨rfl, HEND.out _ w2 HO.out HG.out HB.out⟩
end Tm
end Go.Proofs.Ytombmeppdhhjhaa

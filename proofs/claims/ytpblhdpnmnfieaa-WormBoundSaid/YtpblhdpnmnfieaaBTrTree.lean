/-
  OWN WORK. The program's tree: one is made; a node is turned, put in, taken out; files by their ID.
-/
import Derived.Test.YtpblhdpnmnfieaaBTrAt
import Derived.Test.YtpblhdpnmnfieaaBTrDrop
import Derived.Test.YtpblhdpnmnfieaaBTrInsE
import Derived.Test.YtpblhdpnmnfieaaBTrDelE
namespace Go.Proofs.Ytpblhdpnmnfieaa
open Go.RowKit Rc
open Tr (Nm En T)
namespace Tm
variable {p : Nat} {av : Value} {gs : List Nat} {S : Nat → Prop} {t : T} {w : World}
/-- The tree is turned. -/
def TTurn (p : Nat) (t' : T) (x : Value) (S : Nat → Prop) (w : World) (e : Ending) (w' : World) : Prop :=
  e = .returned x ∧ ∃ S', TAt (.pointer (some ⟨p, 0, none⟩)) t' S' w' ∧ Mod w w' S ∧ ∀ b, S' b → S b ∨ w.heap.size ≤ b
theorem TTurn.stay (h : TIn p av gs S t w) {x : Value} {w' : World} (hb : Below w.heap.size w w') : TTurn p t x (TrS p av S) w (.returned x) w' :=
  ⟨rfl, TrS p av S, (h.below hb).at_, Mod.of_below hb _, fun _ h => .inl h⟩
/-- The node of an ID, and how it is turned. -/
theorem TIn.turnAt (h : TIn p av gs S t w) (hr : Tr.Ris t) {i : Int} {e : En} (hf : Tr.find t i = some e) : ∃ g S1, ptrOf gs t i = .pointer (some ⟨g, 0, none⟩) ∧ EAt g e S1 w ∧ (∀ b, S1 b → S b) ∧
    (∀ w' (f : En → En) S1', EAt g (f e) S1' w' → Mod w w' S1 → (∀ b, S1' b → S1 b ∨ w.heap.size ≤ b) → ∃ S', TIn p av gs S' (Tr.upd t i f) w' ∧ Mod w w' (TrS p av S) ∧ ∀ b, TrS p av S' b → TrS p av S b ∨ w.heap.size ≤ b) := by
  obtain ⟨A, B, rfl, he, hA, hB⟩ := hr.split hf
  obtain ⟨ga, g, gb, S1, hgs, hl, h1, h2, h3⟩ := h.turn
  refine ⟨g, S1, by rw [hgs]; exact ptrOf_mid hl (fun a ha => by have := hA a ha; omega) he, h1, h2, fun w' f S1' k1 k2 k3 => ?_⟩
  rw [Tr.upd_split he hA hB]
  exact h3 w' (f e) S1' k1 k2 k3
/-- A cell of a node is written. -/
theorem EIn.poke {g : Nat} {dv nv : Value} {e e' : En} {i : Nat} {u : Value} (h : EIn g dv nv e w) (hc : (enCells e dv nv).set i u = enCells e' dv nv) (hd : e'.data = e.data) (hn : e'.names = e.names) : EAt g e' (EnS g dv nv) (w.setCell ⟨g, i, none⟩ u) ∧ Mod w (w.setCell ⟨g, i, none⟩ u) (EnS g dv nv) := by
  have hdg : ∀ b, dv.ownBlock = some b → b ≠ g := fun b hb2 => by
    obtain ⟨_, _, cs, h1⟩ := own_blk h.data hb2
    exact h1.ne_ h.box (by decide)
  have hng : ∀ b, nv.ownBlock = some b → b ≠ g := fun b hb2 => by
    obtain ⟨_, _, cs, h1⟩ := own_blk h.names hb2
    exact h1.ne_ h.box (by decide)
  refine ⟨⟨dv, nv, ⟨by rw [← hc]; exact h.box.set_ i u, ?_, ?_⟩, rfl⟩, ⟨rfl, rfl, rfl, by simp [World.setCell], fun k _ hk => Below.heap_setCell _ _ _ _ (fun e2 => hk (.inl e2))⟩⟩
  · rw [hd]; exact own_keep h.data fun b hb => Below.heap_setCell _ _ _ _ (hdg b hb)
  · rw [hn]; exact own_keep h.names fun b hb => Below.heap_setCell _ _ _ _ (hng b hb)

set_option maxHeartbeats 1000000 in
set_option maxRecDepth 100000 in
theorem new_any (w : World) : Calls Try.prog 12 #[] w fun e w' => ∃ p av gs S, e = .returned (.pointer (some ⟨p, 0, none⟩)) ∧ TIn p av gs S Tr.new w' ∧ Below w.heap.size w w' ∧ ∀ b, TrS p av S b → w.heap.size ≤ b := by
  have HF := Lib.hid (fresh_any w 0 2)
  go_enter Try.func12, Try.ntmps12
  go_wp2_with fail
  refine HF.out.mono ?_
  rintro e w1 ⟨g, rfl, hE, rfl, hb⟩
  have HE := Lib.hid hE
  have HB := Lib.hid hb
  clear hE hb
  go_wp2_with fail
  go_ret
  have hb2 : Below w1.heap.size w1 (w1.alloc (.cells #[.pointer (some ⟨w.heap.size, 0, none⟩)] 50)) := below_new _ _
  have hrow : Blk (w1.alloc (.cells #[.pointer (some ⟨w.heap.size, 0, none⟩)] 50)) w1.heap.size 50 [.pointer (some ⟨w.heap.size, 0, none⟩)] := Blk.new w1 _ _
  obtain ⟨w2, hw2⟩ : ∃ w2, w2 = w1.alloc (.cells #[.pointer (some ⟨w.heap.size, 0, none⟩)] 50) := ⟨_, rfl⟩
  have hsz : w2.heap.size = w1.heap.size + 1 := by rw [hw2, World.size_alloc]
  have hE2 := HE.out.keep (fun b hb => hb2.block b (HE.out.kind hb).1)
  rw [← hw2] at hb2 hrow hE2 ⊢
  have hb3 : Below w2.heap.size w2 (w2.alloc (.cells #[.slice (some ⟨w1.heap.size, 0, none⟩) 1 1] 54)) := below_new _ _
  refine ⟨w2.heap.size, .slice (some ⟨w1.heap.size, 0, none⟩) 1 1, [w.heap.size], EnS w.heap.size (.slice none 0 0) (.slice none 0 0), ?_, ⟨Blk.new w2 _ _, ⟨rfl, .inr ⟨w1.heap.size, 1, #[.pointer (some ⟨w.heap.size, 0, none⟩)], rfl, Nat.zero_le _, ?_, Nat.le_refl _, by unfold maxLen; omega, rfl, rfl⟩⟩, ?_⟩, ?_, ?_⟩
  · rw [hsz]; rfl
  · exact hrow.below hb3 hrow.lt
  · exact ⟨_, fun _ => False, (hE2.keep fun b hb => hb3.block b (hE2.kind hb).1).at_, fun _ h => h, fun b hb h => h, fun b => ⟨.inl, fun h => h.elim id False.elim⟩⟩
  · exact HB.out.trans ((hb2.mono HB.out.size).trans (hb3.mono (by have := HB.out.size; omega)))
  · have := HB.out.size
    rintro b (rfl | hb | rfl | hb | hb)
    · omega
    · simp [Value.ownBlock] at hb; omega
    · omega
    · simp [Value.ownBlock] at hb
    · simp [Value.ownBlock] at hb
/-! Taken out. -/
theorem EsAt.in_ : ∀ {gs : List Nat} {t : T} {S : Nat → Prop} {w : World}, EsAt gs t S w → ∀ {g : Nat}, g ∈ gs → S g ∧ ∃ e ∈ t, ∃ S1, EAt g e S1 w ∧ ∀ b, S1 b → S b
  | [], [], _, _, _, _, h => by cases h
  | g :: gs, e :: t, _, _, ⟨S1, S2, h1, h2, h3, h4⟩, g', h => by
    rcases List.mem_cons.1 h with rfl | h
    · exact ⟨(h4 _).2 (.inl h1.self), e, .head _, S1, h1, fun b hb => (h4 b).2 (.inl hb)⟩
    · obtain ⟨k1, e', k2, S', k3, k4⟩ := EsAt.in_ h2 h
      exact ⟨(h4 _).2 (.inr k1), e', .tail _ k2, S', k3, fun b hb => (h4 b).2 (.inr (k4 b hb))⟩
  | [], _ :: _, _, _, h, _, _ => h.elim
  | _ :: _, [], _, _, h, _, _ => h.elim

set_option maxHeartbeats 1000000 in
set_option maxRecDepth 100000 in
theorem remove1_any (W : World) (b g : Nat) (i k : Int) (hc : W.cell? ⟨b, 0, none⟩ = some (.int .i64 i)) (hg : W.cell? ⟨g, 0, none⟩ = some (.int .i64 k)) :
    Calls Try.prog 45 #[.pointer (some ⟨g, 0, none⟩), .pointer (some ⟨b, 0, none⟩)] W fun e w' => e = .returned (.bool (k == i)) ∧ Below W.heap.size W w' := by
  obtain ⟨q, hq⟩ : ∃ q, q = (k == i) := ⟨_, rfl⟩
  have hb : (k == i) = q := hq.symm
  rw [← hq]
  clear hq
  go_enter Try.func45, Try.ntmps45
  go_wp2_with fail
  go_quiet (fail)
  go_wp2_with fail
  go_ret
  exact ⟨rfl, ⟨rfl, rfl, rfl, Nat.le_refl _, fun _ _ => rfl⟩⟩

set_option maxHeartbeats 2000000 in
set_option maxRecDepth 100000 in
theorem remove_any (h : TIn p av gs S t w) (hr : Tr.Ris t) (hlt : t.length ≤ 1000000) {i : Int} {e : En} (hf : Tr.find t i = some e) :
    Calls Try.prog 30 #[.pointer (some ⟨p, 0, none⟩), .int .i64 i] w (TTurn p (Tr.remove t i) (.tuple #[]) (TrS p av S) w) := by
  obtain ⟨wb, hwb⟩ : ∃ wb, wb = w.alloc (.cells #[.int .i64 i] 3) := ⟨_, rfl⟩
  have hbw : Below w.heap.size w wb := by rw [hwb]; exact below_new w _
  have hIb := h.below hbw
  have hblk : Blk wb w.heap.size 3 [.int .i64 i] := by rw [hwb]; exact Blk.new w _ _
  have c0 : wb.cell? ⟨p, 0, none⟩ = some av := hIb.box.cell 0
  have hnf : av.ownBlock ≠ some w.heap.size := fun e2 => by have := (own_blk h.row e2).2.1; omega
  have hap := hIb.apart
  have hent : ∀ (args : Array Value) (w : World), (callFunc 45 args).run Try.prog w = .ok (.enter 45 args) w := enters_of Try.func45 (by kernel_rfl) rfl
  obtain ⟨A, B, rfl, he, hA, hB⟩ := hr.split hf
  have hsp := hIb.each.split
  obtain ⟨ga, gb', SA, SB, hgs, k1, k2, k3, k4⟩ := hsp
  cases gb' with
  | nil => exact k2.elim
  | cons g gb =>
  obtain ⟨S1, S2, m1, m2, m3, m4⟩ := k2
  have hgl := hIb.each.len
  have hdel := deletePt_any wb av gs 45 #[.pointer (some ⟨w.heap.size, 0, none⟩)] (fun x => x == g) hent hIb.row (by omega) (fun W hW x hx => by
    have hcb : W.cell? ⟨w.heap.size, 0, none⟩ = some (.int .i64 i) := by
      have h1 := hW.block w.heap.size hblk.lt (fun e2 => hnf e2.symm)
      have h2 : Blk W w.heap.size 3 [.int .i64 i] := h1.trans hblk
      exact h2.cell 0
    have hkeep : ∀ {x : Nat} {e' : En} {S' : Nat → Prop}, EAt x e' S' wb → (∀ b, S' b → S b) → W.cell? ⟨x, 0, none⟩ = some (.int .i64 e'.nd.id) := fun {x e' S'} hE hS => by
      refine (hE.keep (w' := W) fun b hb => hW.block b (hE.kind hb).1 fun e2 => ?_).cells.1
      exact (hap.2 b e2.symm).1 (hS b hb)
    by_cases hxg : x = g
    · subst hxg
      have h1 := remove1_any W w.heap.size x i e.nd.id hcb (hkeep m1 fun b hb => (k4 b).2 (.inr ((m4 b).2 (.inl hb))))
      rw [show (e.nd.id == i) = true by simpa using he] at h1
      simpa using h1
    · have hin : ∃ e', e'.nd.id ≠ i ∧ ∃ S', EAt x e' S' wb ∧ ∀ b, S' b → S b := by
        rw [hgs, List.mem_append, List.mem_cons] at hx
        rcases hx with hx | hx | hx
        · obtain ⟨_, e', h2, S', h3, h4⟩ := k1.in_ hx
          exact ⟨e', by have := hA e' h2; omega, S', h3, fun b hb => (k4 b).2 (.inl (h4 b hb))⟩
        · exact absurd hx hxg
        · obtain ⟨_, e', h2, S', h3, h4⟩ := m2.in_ hx
          exact ⟨e', by have := hB e' h2; omega, S', h3, fun b hb => (k4 b).2 (.inr ((m4 b).2 (.inr (h4 b hb))))⟩
      obtain ⟨e', h1, S', h2, h3⟩ := hin
      have h4 := remove1_any W w.heap.size x i e'.nd.id hcb (hkeep h2 h3)
      rw [show (e'.nd.id == i) = false by simpa using h1] at h4
      show Calls _ _ _ W fun e w' => e = .returned (.bool (x == g)) ∧ _
      rw [show (x == g) = false by simpa using hxg]
      exact h4)
  have hfil : (gs.filter fun x => !(x == g)) = ga ++ gb := by
    rw [hgs, List.filter_append, List.filter_cons, if_neg (by simp)]
    have hga : ∀ x ∈ ga, x ≠ g := fun x hx e2 => by
      have h1 := (k1.in_ hx).1
      rw [e2] at h1
      exact k3 g h1 ((m4 g).2 (.inl m1.self))
    have hgb : ∀ x ∈ gb, x ≠ g := fun x hx e2 => by
      have h1 := (m2.in_ hx).1
      rw [e2] at h1
      exact m3 g m1.self h1
    rw [List.filter_eq_self.2 (fun x hx => by simpa using hga x hx), List.filter_eq_self.2 (fun x hx => by simpa using hgb x hx)]
  have HEND : Hid (∀ av' w2, w2.ownsRow 0 50 1 av' (ga ++ gb).length (ptrCells (ga ++ gb)) → wb.grownBy w2 av.ownBlock → av'.ownBlock = av.ownBlock → ∃ S', TAt (.pointer (some ⟨p, 0, none⟩)) (Tr.remove (A ++ e :: B) i) S' (w2.setCell ⟨p, 0, none⟩ av') ∧ Mod w (w2.setCell ⟨p, 0, none⟩ av') (TrS p av S) ∧ ∀ b, S' b → TrS p av S b ∨ w.heap.size ≤ b) := fun av' w2 ho hg hb => by
    have hpn : some p ≠ av.ownBlock := fun e2 => (hap.2 p e2.symm).2 rfl
    have hbox : Blk w2 p 54 [av] := (hg.block p hIb.box.lt hpn).trans hIb.box
    have hSp : ∀ b, (SA b ∨ S2 b) → S b := fun b hb2 => hb2.elim (fun h2 => (k4 b).2 (.inl h2)) fun h2 => (k4 b).2 (.inr ((m4 b).2 (.inr h2)))
    have hes : EsAt (ga ++ gb) (A ++ B) (fun b => SA b ∨ S2 b) (w2.setCell ⟨p, 0, none⟩ av') := (k1.app m2 fun b h1 h2 => k3 b h1 ((m4 b).2 (.inr h2))).keep fun b hb2 => by
      have hS := hSp b hb2
      rw [Below.heap_setCell _ _ _ _ (show b ≠ p from fun e2 => hap.1 (e2 ▸ hS))]
      exact hg.block b (hIb.each.kind hS).1 fun e2 => (hap.2 b e2.symm).1 hS
    have hn : ∀ b, av'.ownBlock = some b → b ≠ p := fun b hb2 => (hap.2 b (hb ▸ hb2)).2
    refine ⟨TrS p av' (fun b => SA b ∨ S2 b), ⟨p, av', ga ++ gb, _, rfl, ⟨hbox.set_ 0 av', own_keep ho fun b hb2 => Below.heap_setCell _ _ _ _ (hn b hb2), ?_⟩, rfl⟩, ⟨hg.os.trans hbw.os, hg.tape.trans hbw.tape, hg.output.trans hbw.output, by have h1 := hg.size; have h2 := hbw.size; simp only [World.setCell, Array.size_modify]; omega, fun k hk hn2 => ?_⟩, ?_⟩
    · rw [Tr.remove_split he hA hB]; exact hes
    · rw [Below.heap_setCell _ _ _ _ (fun e2 => hn2 (.inl e2))]
      exact (hg.block k (Nat.lt_of_lt_of_le hk hbw.size) fun e2 => hn2 (.inr (.inl e2.symm))).trans (hbw.block k hk)
    · rintro b (rfl | hb2 | hb2)
      · exact .inl (.inl rfl)
      · exact .inl (.inr (.inl (hb ▸ hb2)))
      · exact .inl (.inr (.inr (hSp b hb2)))
  rw [show DelPt av gs (fun x => x == g) wb = fun e w' => ∃ v', e = .returned v' ∧ w'.ownsRow 0 50 1 v' (ga ++ gb).length (ptrCells (ga ++ gb)) ∧ wb.grownBy w' av.ownBlock ∧ v'.ownBlock = av.ownBlock by unfold DelPt; rw [hfil]] at hdel
  have HFR : Hid (∀ w2, wb.grownBy w2 av.ownBlock → w2.cell? ⟨p, 0, none⟩ = some av ∧ w2.frozen? ⟨p, 0, none⟩ = false) := fun w2 hg => by
    have h2 : Blk w2 p 54 [av] := (hg.block p hIb.box.lt (fun e2 => (hap.2 p e2.symm).2 rfl)).trans hIb.box
    exact ⟨h2.cell 0, h2.frozen 0⟩
  have HDEL := Lib.hid hdel
  obtain ⟨A0, c, hav, _, _⟩ := own_form h.row
  subst hav
  clear hdel hIb h hbw hblk hnf hap hent hr hf he hA hB hgs k1 k3 k4 m1 m2 m3 m4 hfil hgl hlt
  subst hwb
  go_enter Try.func30, Try.ntmps30
  go_wp2_with fail
  refine HDEL.out.mono ?_
  rintro r w2 ⟨av', rfl, ho, hg, hb⟩
  obtain ⟨A9, c9, rfl, _, _⟩ := own_form ho
  have HO := Lib.hid ho
  have HG := Lib.hid hg
  have HB := Lib.hid hb
  obtain ⟨hc2, hf2⟩ := HFR.out w2 hg
  clear ho hg hb
  go_wp2_with fail
  refine bodyPost_end (results_none rfl _ _ _) rfl ?_
  have hend := HEND.out _ w2 HO.out HG.out HB.out
  simp only [List.length_append] at hend
  exact ⟨rfl, hend⟩
end Tm
end Go.Proofs.Ytpblhdpnmnfieaa

/-
  OWN WORK. Cut of the program: what it answers.
-/
import Derived.Test.YtkjkmdhbodjeeaaBmRows
import Derived.Test.YtkjkmdhbodjeeaaBmCode
namespace Go.Proofs.Ytkjkmdhbodjeeaa
open Go.RowKit Go.Shelf

attribute [local go_sem] Oper.semAt_some

set_option maxRecDepth 100000 in
set_option maxHeartbeats 4000000 in
theorem cutP_any (w : World) (A : Option Addr) (b : List UInt8) (cap : Nat) (hr : Rd w A b) (hcap : b.length ≤ cap) (hb : b.length ≤ 1000000) :
    Calls Try.prog 19 #[.slice A b.length cap] w fun e w' => ∃ X c, e = .returned (.slice X (Bm.pieces b).length c) ∧ (Bm.pieces b).length ≤ c ∧ RdL w' X (Bm.pieces b) ∧ Below w.heap.size w w' := by
  refine (callsIn_wide (n := 5)).1 ?_
  refine callsIn_of_wp_marks Try.func19 rfl trivial ?_ rfl
  simp only [Try.ntmps19, List.size_toArray, List.length_cons, List.length_nil, Nat.reduceAdd, Nat.reduceSub, Array.replicate_succ, Array.replicate_zero, List.push_toArray, List.append_toArray, List.nil_append, List.cons_append]
  obtain ⟨i0, hi, hz0, hz1, hz2⟩ := info_sl
  have HI0 := Lib.hid hi
  have HZ0 := Lib.hid hz0
  have HZ1 := Lib.hid hz1
  have HZ2 := Lib.hid hz2
  have HR := Lib.hid hr
  clear hi hz0 hz1 hz2 hr
  have hN : (Bm.bl (b.length : Int)) = (Bm.nb b.length : Nat) := Bm.bl_nb _
  have hNb : Bm.nb b.length ≤ 10000 := by unfold Bm.nb; omega
  gi_wp2_with (first
    | (refine ⟨trivial, ?_⟩; gi_at_call 14; refine (callsIn_wide.2 (blocks_any _ (b.length : Int) (by omega))).mono ?_; rintro e w' ⟨rfl, hw⟩; obtain rfl := hw.symm; rw [hN])
    | (gi_at_make; refine wpListIn_make_own _ rfl _ _ _ rfl w.heap.size 36 i0 (.slice none 0 0) 1 rows_under2 HI0.out HZ0.out HZ1.out .i64 .i64 _ (Bm.nb b.length) rfl rfl rfl (by rw [HZ2.out]; omega) (by unfold maxLen; omega) (Nat.le_refl _) ?_; intro w1 hown1 hgrow1))
  clear hN
  refine ⟨trivial, ?_⟩
  refine (callsIn_wide.2 (chunk_any _ A b.length cap)).mono ?_
  rintro e wc ⟨rfl, hwc⟩
  obtain ⟨B, hB⟩ : ∃ B, B = w1.heap.size := ⟨_, rfl⟩
  rw [World.size_alloc, ← hB]
  have c0 := Boxed.new w1 38 (.slice (some ⟨w.heap.size, 0, none⟩) 0 (Bm.nb b.length))
  have c1 := Boxed.new (w1.alloc (.cells #[.slice (some ⟨w.heap.size, 0, none⟩) 0 (Bm.nb b.length)] 38)) 36 (.slice A b.length cap)
  have c2 := Boxed.new ((w1.alloc (.cells #[.slice (some ⟨w.heap.size, 0, none⟩) 0 (Bm.nb b.length)] 38)).alloc (.cells #[.slice A b.length cap] 36)) 3 (.int .i64 128)
  simp only [World.size_alloc, ← hB] at c0 c1 c2
  have hlt : w.heap.size < B := by
    rcases hown1.2 with ⟨h, _⟩ | ⟨g, cap, cur, h, _, hg, _⟩
    · cases h
    · injection h with h
      injection h with h
      injection h with h
      rw [hB, h]
      exact (Array.getElem?_eq_some_iff.1 hg).1
  have hbel : Below w.heap.size w wc := by
    rw [hwc]
    exact (((((Below.refl _ w).grown hgrow1 (Nat.le_refl _) (fun k e => by cases e)).alloc (by omega) _).alloc (by simp; omega) _).alloc (by simp; omega) _)
  have hsz : wc.heap.size = B + 3 := by rw [hwc]; simp [← hB]
  have hown : wc.ownsRow w.heap.size 36 1 (.slice (some ⟨w.heap.size, 0, none⟩) 0 (Bm.nb b.length)) ([] : List (List UInt8)).length [] := by
    have h3 := hown1.kept (w' := wc) (row := none) ?_ (.inr (by simp [Value.ownBlock]))
    · exact h3
    · rw [hwc]
      exact ((World.grownBy_alloc _ _ none).trans (World.grownBy_alloc _ _ none)).trans (World.grownBy_alloc _ _ none)
  have HB0 : Hid (CBox w.heap.size B w wc []) := ⟨⟨_, by rw [hwc]; exact (c0.alloc _).alloc _, ⟨[], hown, fun g hg => by simp [Value.ownBlock] at hg; omega, fun j y hj => by simp at hj⟩⟩, hbel, by omega⟩
  have H1 : wc.cell? ⟨B + 1, 0, none⟩ = some (.slice A b.length cap) := by rw [hwc]; exact (c1.alloc _).cell
  have H2 : wc.cell? ⟨B + 2, 0, none⟩ = some (.int .i64 128) := by rw [hwc]; exact c2.cell
  clear hwc c0 c1 c2 hown1 hgrow1 HI0 HZ0 HZ1 HZ2
  gi_wp2
  rw [← hB, show B + 1 + 1 = B + 2 from rfl]
  have hnB : w.heap.size ≤ B := by omega
  clear hB hown hlt
  refine wpIn_rangeFunc_ownF (F := Fence.wide) rfl (by omega) (gf := 27) (lb := #[.pointer (some ⟨B + 1, 0, none⟩), .pointer (some ⟨B + 2, 0, none⟩)]) rfl trivial (enters_of Try.func27 (by kernel_rfl) rfl)
    (encs := fun x : { j : Nat // j < Bm.nb b.length } => #[encP A b x.1]) (Kp := KpC (B + 1) (B + 2)) (S := fun ys => ys.map (·.1) = List.range (Bm.nb b.length)) (Sp := fun _ => True) (N := Bm.nb b.length) (w0 := wc)
    (fun l J Jx W hW hJ _ hY h0 => chunk1_in Fence.wide 4 trivial rfl (by omega) l (B + 1) (B + 2) A b cap hcap hb J Jx hY (fun pre X hj => hJ _ _ _ none hj ⟨rfl, rfl, rfl, Nat.le_refl _, fun _ _ _ => rfl⟩ (fun r e => by cases e)) W ((hW.cell (p := ⟨B + 1, 0, none⟩) (by show B + 1 < _; omega)).trans H1) ((hW.cell (p := ⟨B + 2, 0, none⟩) (by show B + 2 < _; omega)).trans H2) h0)
    KpC.trans ?kb (Below.refl _ _) (fun _ => rfl)
    (fun pre W => CBox w.heap.size B w W (pre.map fun x => Bm.piece b x.1)) (fun _ _ _ => False) (CBox.from (Nat.le_refl _) hbel.size _) (fun _ _ _ _ _ hs _ _ => hs) HB0.out
    (fun x => { tmps := #[.slice A b.length cap, undef, .slice none 0 0, .pointer (some ⟨B, 0, none⟩), encP A b x.1, .slice A b.length cap, .int .i64 b.length, .int .i64 (Bm.nb b.length), .slice (some ⟨w.heap.size, 0, none⟩) 0 (Bm.nb b.length), .slice A b.length cap, .func (.func 27) #[] #[.pointer (some ⟨B + 1, 0, none⟩), .pointer (some ⟨B + 2, 0, none⟩)], encP A b x.1, undef, undef, undef, undef, undef, undef], defers := [] }) ?assign ?body ?done ?stop
  case kb =>
    intro W l o o' hl ho _ _
    exact ⟨World.cell?_of_block (w := W) (World.putObj_heap_other (by show B + 1 ≠ l; omega)), World.cell?_of_block (w := W) (World.putObj_heap_other (by show B + 2 ≠ l; omega))⟩
  case assign =>
    intro l x W K hK
    gi_wp2
    exact hK
  case body =>
    rintro l pre x W ⟨⟨v, hv, hrows⟩, hB2, hB3⟩ hpre
    have hry : Rd W (A.map (·.add (128 * x.1))) (Bm.piece b x.1) := rd_piece (HR.out.below hB2) x.2
    have hym : (Bm.piece b x.1).length ≤ 128 := by rw [Bm.piece_len]; omega
    have hpl : (pre.map fun x => Bm.piece b x.1).length = pre.length := by simp
    unfold encP
    obtain ⟨y, hy⟩ : ∃ y, y = Bm.piece b x.1 := ⟨_, rfl⟩
    obtain ⟨A1, hA1⟩ : ∃ A1, A1 = A.map (·.add (128 * x.1)) := ⟨_, rfl⟩
    obtain ⟨L, hL⟩ : ∃ L, L = pre.map fun x => Bm.piece b x.1 := ⟨_, rfl⟩
    have hL2 : ((pre ++ [x]).map fun x => Bm.piece b x.1) = L ++ [y] := by rw [List.map_append, hL, hy]; rfl
    rw [← hy] at hry hym ⊢
    rw [← hA1] at hry ⊢
    rw [← hL] at hrows hpl
    have hc := hv.cell
    have hryd : Rd W.drew A1 y := hry
    have hmix : Try.prog.follows .mixedOrders = true := by kernel_rfl
    have hym2 : y.length ≤ 1099511627776 := by omega
    have hy0 : 0 < y.length := by rw [hy, Bm.piece_len]; have := Bm.lt_nb.1 x.2; omega
    have hpl2 : L.length + 1 ≤ 1000000000 := by omega
    clear hL hA1 hy
    have HL2 := Lib.hid hL2
    clear hpre hL2 hpl
    gi_wp2
    refine wpIn_region_any hmix ?_
    change wpAnyIn _ _ _ _ _ _ _ _ _ (World.drew _)
    refine wpAnyIn_ready (rs := [0, 1]) (by kernel_rfl) (by simp) ?_
    refine AllReadyIn.cons rfl (fun K hK => ?_) (AllReadyIn.cons rfl (fun K hK => ?_) (AllReadyIn.nil))
    · go_simp
      refine hK _ _ ?_
      clear hK K
      refine wpAnyIn_ready (rs := [1]) (by kernel_rfl) (by simp) ?_
      refine AllReadyIn.cons rfl (fun K hK => ?_) (AllReadyIn.nil)
      go_simp
      refine hK _ _ ?_
      clear hK K
      refine wpAnyIn_ready (rs := [2]) (by kernel_rfl) (by simp) ?_
      refine AllReadyIn.cons rfl (fun K hK => ?_) (AllReadyIn.nil)
      go_simp
      refine ⟨trivial, (CallsIn.inRound l (callsIn_wide.2 (clone_any W.drew A1 y y.length hryd hym2))).mono ?_⟩
      rintro e w1 ⟨u, rfl, hown, hb1⟩
      obtain ⟨g, c, rfl, hyc, hgW, hg1, _⟩ := rd_own hown hy0
      have hr1 := (rd_of_own hown).1
      have hc1 : w1.cell? ⟨B, 0, none⟩ = some v := (hb1.cell (p := ⟨B, 0, none⟩) (by show B < W.heap.size; omega)).trans hc
      have hc2 : ∀ o, (w1.alloc o).cell? ⟨B, 0, none⟩ = some v := fun o => ((below_new w1 o).cell (p := ⟨B, 0, none⟩) (Nat.lt_of_lt_of_le (show B < W.heap.size by omega) hb1.size)).trans hc1
      clear hown
      refine hK _ _ ?_
      clear hK K
      refine wpAnyIn_ready (rs := [3]) (by kernel_rfl) (by simp) ?_
      refine AllReadyIn.cons rfl (fun K hK => ?_) (AllReadyIn.nil)
      go_simp
      refine hK _ _ ?_
      clear hK K
      obtain ⟨v', w3, hrun, hr3, hg3, X, k3, rfl⟩ := cut_push hrows hB3 hnB hb1 hyc hgW hg1 hr1 hpl2 38
      obtain ⟨hv3, hk1, hk2, hk3⟩ := cut_round hv hrows hB2 hB3 hnB hb1 hg3 hr3
      have hc3 := hv3.cell
      have hf3 := hv3.frozen
      have HK1 := Lib.hid hk1
      have HK2 := Lib.hid hk2
      have HK3 := Lib.hid hk3
      clear hk1 hk2 hk3 hr3 hg3 hb1 hgW hg1 hr1 hc1 hc2
      refine wpAnyIn_ready (rs := [4]) (by kernel_rfl) (by simp) ?_
      refine AllReadyIn.cons rfl (fun K hK => ?_) AllReadyIn.nil
      refine ready_append rfl (.tmp 12) (.tmp 15) 38 rfl rfl rfl hrun (hK _ _ ?_)
      clear hK K
      refine wpAnyIn_ready (rs := [5]) (by kernel_rfl) (by simp) ?_
      refine AllReadyIn.cons rfl (fun K hK => ?_) AllReadyIn.nil
      go_simp
      refine hK _ _ ?_
      clear hK K
      refine wpAnyIn_done (by kernel_rfl) ?_ _
      exact ⟨HK1.out, HK2.out, by show CBox _ _ _ _ ((pre ++ [x]).map fun x => Bm.piece b x.1); rw [HL2.out]; exact HK3.out⟩
    · go_simp
      refine hK _ _ ?_
      clear hK K
      refine wpAnyIn_ready (rs := [0, 2]) (by kernel_rfl) (by simp) ?_
      refine AllReadyIn.cons rfl (fun K hK => ?_) (AllReadyIn.cons rfl (fun K hK => ?_) (AllReadyIn.nil))
      · go_simp
        refine hK _ _ ?_
        clear hK K
        refine wpAnyIn_ready (rs := [2]) (by kernel_rfl) (by simp) ?_
        refine AllReadyIn.cons rfl (fun K hK => ?_) (AllReadyIn.nil)
        go_simp
        refine ⟨trivial, (CallsIn.inRound l (callsIn_wide.2 (clone_any W.drew A1 y y.length hryd hym2))).mono ?_⟩
        rintro e w1 ⟨u, rfl, hown, hb1⟩
        obtain ⟨g, c, rfl, hyc, hgW, hg1, _⟩ := rd_own hown hy0
        have hr1 := (rd_of_own hown).1
        have hc1 : w1.cell? ⟨B, 0, none⟩ = some v := (hb1.cell (p := ⟨B, 0, none⟩) (by show B < W.heap.size; omega)).trans hc
        have hc2 : ∀ o, (w1.alloc o).cell? ⟨B, 0, none⟩ = some v := fun o => ((below_new w1 o).cell (p := ⟨B, 0, none⟩) (Nat.lt_of_lt_of_le (show B < W.heap.size by omega) hb1.size)).trans hc1
        clear hown
        refine hK _ _ ?_
        clear hK K
        refine wpAnyIn_ready (rs := [3]) (by kernel_rfl) (by simp) ?_
        refine AllReadyIn.cons rfl (fun K hK => ?_) (AllReadyIn.nil)
        go_simp
        refine hK _ _ ?_
        clear hK K
        obtain ⟨v', w3, hrun, hr3, hg3, X, k3, rfl⟩ := cut_push hrows hB3 hnB hb1 hyc hgW hg1 hr1 hpl2 38
        obtain ⟨hv3, hk1, hk2, hk3⟩ := cut_round hv hrows hB2 hB3 hnB hb1 hg3 hr3
        have hc3 := hv3.cell
        have hf3 := hv3.frozen
        have HK1 := Lib.hid hk1
        have HK2 := Lib.hid hk2
        have HK3 := Lib.hid hk3
        clear hk1 hk2 hk3 hr3 hg3 hb1 hgW hg1 hr1 hc1 hc2
        refine wpAnyIn_ready (rs := [4]) (by kernel_rfl) (by simp) ?_
        refine AllReadyIn.cons rfl (fun K hK => ?_) AllReadyIn.nil
        refine ready_append rfl (.tmp 12) (.tmp 15) 38 rfl rfl rfl hrun (hK _ _ ?_)
        clear hK K
        refine wpAnyIn_ready (rs := [5]) (by kernel_rfl) (by simp) ?_
        refine AllReadyIn.cons rfl (fun K hK => ?_) AllReadyIn.nil
        go_simp
        refine hK _ _ ?_
        clear hK K
        refine wpAnyIn_done (by kernel_rfl) ?_ _
        exact ⟨HK1.out, HK2.out, by show CBox _ _ _ _ ((pre ++ [x]).map fun x => Bm.piece b x.1); rw [HL2.out]; exact HK3.out⟩
      · go_simp
        refine ⟨trivial, (CallsIn.inRound l (callsIn_wide.2 (clone_any W.drew A1 y y.length hryd hym2))).mono ?_⟩
        rintro e w1 ⟨u, rfl, hown, hb1⟩
        obtain ⟨g, c, rfl, hyc, hgW, hg1, _⟩ := rd_own hown hy0
        have hr1 := (rd_of_own hown).1
        have hc1 : w1.cell? ⟨B, 0, none⟩ = some v := (hb1.cell (p := ⟨B, 0, none⟩) (by show B < W.heap.size; omega)).trans hc
        have hc2 : ∀ o, (w1.alloc o).cell? ⟨B, 0, none⟩ = some v := fun o => ((below_new w1 o).cell (p := ⟨B, 0, none⟩) (Nat.lt_of_lt_of_le (show B < W.heap.size by omega) hb1.size)).trans hc1
        clear hown
        refine hK _ _ ?_
        clear hK K
        refine wpAnyIn_ready (rs := [0, 3]) (by kernel_rfl) (by simp) ?_
        refine AllReadyIn.cons rfl (fun K hK => ?_) (AllReadyIn.cons rfl (fun K hK => ?_) (AllReadyIn.nil))
        · go_simp
          refine hK _ _ ?_
          clear hK K
          refine wpAnyIn_ready (rs := [3]) (by kernel_rfl) (by simp) ?_
          refine AllReadyIn.cons rfl (fun K hK => ?_) (AllReadyIn.nil)
          go_simp
          refine hK _ _ ?_
          clear hK K
          obtain ⟨v', w3, hrun, hr3, hg3, X, k3, rfl⟩ := cut_push hrows hB3 hnB hb1 hyc hgW hg1 hr1 hpl2 38
          obtain ⟨hv3, hk1, hk2, hk3⟩ := cut_round hv hrows hB2 hB3 hnB hb1 hg3 hr3
          have hc3 := hv3.cell
          have hf3 := hv3.frozen
          have HK1 := Lib.hid hk1
          have HK2 := Lib.hid hk2
          have HK3 := Lib.hid hk3
          clear hk1 hk2 hk3 hr3 hg3 hb1 hgW hg1 hr1 hc1 hc2
          refine wpAnyIn_ready (rs := [4]) (by kernel_rfl) (by simp) ?_
          refine AllReadyIn.cons rfl (fun K hK => ?_) AllReadyIn.nil
          refine ready_append rfl (.tmp 12) (.tmp 15) 38 rfl rfl rfl hrun (hK _ _ ?_)
          clear hK K
          refine wpAnyIn_ready (rs := [5]) (by kernel_rfl) (by simp) ?_
          refine AllReadyIn.cons rfl (fun K hK => ?_) AllReadyIn.nil
          go_simp
          refine hK _ _ ?_
          clear hK K
          refine wpAnyIn_done (by kernel_rfl) ?_ _
          exact ⟨HK1.out, HK2.out, by show CBox _ _ _ _ ((pre ++ [x]).map fun x => Bm.piece b x.1); rw [HL2.out]; exact HK3.out⟩
        · go_simp
          refine hK _ _ ?_
          clear hK K
          refine wpAnyIn_ready (rs := [0]) (by kernel_rfl) (by simp) ?_
          refine AllReadyIn.cons rfl (fun K hK => ?_) (AllReadyIn.nil)
          go_simp
          refine hK _ _ ?_
          clear hK K
          obtain ⟨v', w3, hrun, hr3, hg3, X, k3, rfl⟩ := cut_push hrows hB3 hnB hb1 hyc hgW hg1 hr1 hpl2 38
          obtain ⟨hv3, hk1, hk2, hk3⟩ := cut_round hv hrows hB2 hB3 hnB hb1 hg3 hr3
          have hc3 := hv3.cell
          have hf3 := hv3.frozen
          have HK1 := Lib.hid hk1
          have HK2 := Lib.hid hk2
          have HK3 := Lib.hid hk3
          clear hk1 hk2 hk3 hr3 hg3 hb1 hgW hg1 hr1 hc1 hc2
          refine wpAnyIn_ready (rs := [4]) (by kernel_rfl) (by simp) ?_
          refine AllReadyIn.cons rfl (fun K hK => ?_) AllReadyIn.nil
          refine ready_append rfl (.tmp 12) (.tmp 15) 38 rfl rfl rfl hrun (hK _ _ ?_)
          clear hK K
          refine wpAnyIn_ready (rs := [5]) (by kernel_rfl) (by simp) ?_
          refine AllReadyIn.cons rfl (fun K hK => ?_) AllReadyIn.nil
          go_simp
          refine hK _ _ ?_
          clear hK K
          refine wpAnyIn_done (by kernel_rfl) ?_ _
          exact ⟨HK1.out, HK2.out, by show CBox _ _ _ _ ((pre ++ [x]).map fun x => Bm.piece b x.1); rw [HL2.out]; exact HK3.out⟩
  case done =>
    rintro D ys W hD hS ⟨⟨v, hv, hrows⟩, hB2, hB3⟩ hK
    have hc := hv.cell
    gi_wp2
    refine ⟨by simp, .inl ⟨_, _, rfl, run_takeDeferred hK, ?_⟩⟩
    have e : ys.map (fun x => Bm.piece b x.1) = Bm.pieces b := by
      have := congrArg (List.map (Bm.piece b)) hS
      rw [List.map_map] at this
      exact this
    rw [e] at hrows
    obtain ⟨X, c, rfl, h1, h2⟩ := (hrows.other (grownBy_putObj' W D (.deferred none)) (fun r e => by cases e; exact ⟨_, hK, rfl⟩)).rd
    exact ⟨_, results_tmp rfl _ _ _, X, c, rfl, h1, h2, hB2.trans (belowK_b (w := w) (Nat.le_refl _) W D _ _ (by have := hbel.size; omega) hK rfl rfl)⟩
  case stop =>
    rintro D c pre W _ _ h _
    exact h.elim
end Go.Proofs.Ytkjkmdhbodjeeaa

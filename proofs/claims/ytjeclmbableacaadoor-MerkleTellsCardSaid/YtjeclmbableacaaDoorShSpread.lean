/-
  OWN WORK. SHA-256: the words of the rounds.
-/
import Derived.Test.YtjeclmbableacaaDoorShRot
import Derived.Test.YtjeclmbableacaaDoorShBytes
import Derived.Deep.WholeRow
import Derived.Deep.RegionLaw
import Derived.RegionTactic
import Derived.BigRegion
import Derived.Deep.QuietTactic
import Derived.BigQuiet
import Derived.Lib.Hide
import Derived.Deep.Cut
namespace Go.Proofs.YtjeclmbableacaaDoor
open Go.RowKit Sh

theorem spread_start (b : List Int) (hb : b.length = 16) : splice (noughts 64) 0 (words32 b) = words32 (spreadTo b 0 ++ List.replicate 48 0) := by
  simp [splice, noughts, spreadTo, words32, hb]
theorem words32_append_noughts (l : List Int) (n : Nat) : words32 (l ++ List.replicate n 0) = words32 l ++ noughts n := by simp [words32, noughts]

/-- Where the words of the rounds stand behind so many. -/
def SpreadAt (b : List Int) (B : Nat) (w0 wr : World) (i : Nat) : Prop :=
  16 ≤ i ∧ b.length = 16 ∧ Blk wr (B + 1 + 1) 60 (words32 (spreadTo b (i - 16)) ++ noughts (64 - i)) ∧ Blk wr (B + 1) 60 (noughts 64) ∧ Below B w0 wr
theorem SpreadAt.cell {b : List Int} {B : Nat} {w0 wr : World} {i : Nat} (h : SpreadAt b B w0 wr i) (j : Nat) (hj : j < i) : wr.cell? ⟨B + 1 + 1, j, none⟩ = some (.int .u32 ((spreadTo b (i - 16)).getD j 0)) := by
  obtain ⟨h0, hb, h1, _⟩ := h
  have hl : j < (spreadTo b (i - 16)).length := by rw [spreadTo_length]; omega
  rw [h1.cell, List.getElem?_append_left (by simpa using hl), words32_get _ _ hl]
theorem SpreadAt.room {b : List Int} {B : Nat} {w0 wr : World} {i : Nat} (h : SpreadAt b B w0 wr i) (hi : i < 64) : wr.cell? ⟨B + 1 + 1, i, none⟩ = some (.int .u32 0) := by
  obtain ⟨h0, hb, h1, _⟩ := h
  have hl : (words32 (spreadTo b (i - 16))).length = i := by rw [words32_length, spreadTo_length]; omega
  rw [h1.cell, List.getElem?_append_right (by omega), hl, Nat.sub_self]
  unfold noughts
  rw [words32_get _ _ (by simp; omega)]
  obtain ⟨m, hm⟩ : ∃ m, 64 - i = m + 1 := ⟨63 - i, by omega⟩
  rw [hm]; rfl
theorem SpreadAt.frozen {b : List Int} {B : Nat} {w0 wr : World} {i : Nat} (h : SpreadAt b B w0 wr i) (j : Nat) : wr.frozen? ⟨B + 1 + 1, j, none⟩ = false := h.2.2.1.frozen j
theorem SpreadAt.drewN {b : List Int} {B : Nat} {w0 wr : World} {i : Nat} (h : SpreadAt b B w0 wr i) (n : Nat) : SpreadAt b B w0 (wr.drewN n) i := ⟨h.1, h.2.1, h.2.2.1, h.2.2.2.1, ⟨h.2.2.2.2.os, h.2.2.2.2.tape, h.2.2.2.2.output, h.2.2.2.2.size, h.2.2.2.2.block⟩⟩
theorem SpreadAt.drew {b : List Int} {B : Nat} {w0 wr : World} {i : Nat} (h : SpreadAt b B w0 wr i) : SpreadAt b B w0 wr.drew i := ⟨h.1, h.2.1, h.2.2.1, h.2.2.2.1, h.2.2.2.2.drew⟩
theorem SpreadAt.step {b : List Int} {B : Nat} {w0 wr : World} {i : Nat} (h : SpreadAt b B w0 wr i) (hi : i < 64) (x : Int) (hx : x = more (spreadTo b (i - 16)) i) : SpreadAt b B w0 (wr.setCell ⟨B + 1 + 1, i, none⟩ (.int .u32 x)) (i + 1) := by
  obtain ⟨h0, hb, h1, h2, h3⟩ := h
  refine ⟨by omega, hb, ?_, h2.far (by simp) _, h3.setCell (by simp; omega) _⟩
  have h4 := h1.set_ i (.int .u32 x)
  have hl : (words32 (spreadTo b (i - 16))).length = i := by rw [words32_length, spreadTo_length]; omega
  obtain ⟨n, rfl⟩ : ∃ n, i = 16 + n := ⟨i - 16, by omega⟩
  have e1 : 16 + n - 16 = n := by omega
  have e2 : 16 + n + 1 - 16 = n + 1 := by omega
  rw [e1] at hl hx h4
  rw [e2]
  have e3 : noughts (64 - (16 + n)) = .int .u32 0 :: noughts (64 - (16 + n + 1)) := by
    have : 64 - (16 + n) = (64 - (16 + n + 1)) + 1 := by omega
    rw [this]; rfl
  rw [e3] at h4
  have e4 : (words32 (spreadTo b n) ++ Value.int IntKind.u32 0 :: noughts (64 - (16 + n + 1))).set (16 + n) (.int .u32 x) = words32 (spreadTo b (n + 1)) ++ noughts (64 - (16 + n + 1)) := by
    rw [List.set_append_right _ _ (by omega), hl, Nat.sub_self, List.set_cons_zero, spreadTo, words32_append, hx]
    simp [words32]
  rw [e4] at h4
  exact h4

theorem spread_facts (b : List Int) (hb : b.length = 16) : Hid ((Tryd.prog.info? 60).map (·.size) = some (words32 (spread b)).toArray.size) ∧ Hid ((words32 (spread b)).toArray.all (·.oneCell') = true) ∧ Hid ((noughts 64).toArray.size = (words32 (spread b)).toArray.size) := by
  have hsz : (words32 (spread b)).toArray.size = 64 := by simp [spread_length b hb]
  refine ⟨?_, ?_, ?_⟩
  · show _ = _
    rw [hsz]; kernel_rfl
  · show _ = _
    rw [Array.all_eq_true]
    intro j hj
    exact words32_one (spread b) _ (by simp)
  · show _ = _
    rw [hsz]; rfl

set_option maxHeartbeats 1000000 in
set_option maxRecDepth 100000 in
theorem spread_any (b : List Int) (hb : b.length = 16) (w : World) :
    Calls Tryd.prog 52 #[.agg (words32 b).toArray] w fun e w' => e = .returned (.agg (words32 (spread b)).toArray) ∧ Below w.heap.size w w' := by
  have HB := Lib.hid hb
  clear hb
  go_enter Tryd.func52, Tryd.ntmps52
  go_wp2
  refine wp_world (fun W => Hid (Blk W (w.heap.size + 1 + 1) 60 (noughts 64)) ∧ Hid (Blk W (w.heap.size + 1) 60 (noughts 64)) ∧ Hid (Blk W w.heap.size 68 (words32 b)) ∧ Hid (Below w.heap.size w W)) ?_ ?_
  · have e1 := Blk.new w 68 (words32 b)
    have e2 := Blk.new (w.alloc (.cells (words32 b).toArray 68)) 60 (noughts 64)
    have e3 := Blk.new ((w.alloc (.cells (words32 b).toArray 68)).alloc (.cells (noughts 64).toArray 60)) 60 (noughts 64)
    rw [World.size_alloc] at e2
    rw [World.size_alloc, World.size_alloc] at e3
    exact ⟨e3, e2.alloc _, (e1.alloc _).alloc _, (((Below.refl _ _).alloc (Nat.le_refl _) _).alloc (by simp) _).alloc (by simp; omega) _⟩
  rintro W ⟨h1, h2, h3, h4⟩
  have hn : Hid ((words32 b).length = Nat.min 16 64) := by show (words32 b).length = 16; rw [words32_length]; exact HB.out
  have hf : Hid (0 + (words32 b).length ≤ (noughts 64).length) := by show 0 + (words32 b).length ≤ (noughts 64).length; rw [words32_length, noughts_length, HB.out]; decide
  go_region_law (refine step_copy_splice rfl (.tmp 7) (.tmp 8) 76 76 rfl 58 Tryd.underlying76 (by kernel_rfl) (some ⟨w.heap.size + 1 + 1, 0, none⟩) (some ⟨w.heap.size, 0, none⟩) 64 64 16 16 rfl rfl (w.heap.size + 1 + 1) 0 (noughts 64) 60 h1.out (words32 b) hn.out (fun _ => ⟨rfl, _, rfl, fun j v hv => (Blk.drew h3.out).src0 hv⟩) hf.out (words32_one b) (w.heap.size + 1 + 1) W.drew (Below.refl _ _) (Nat.le_refl _) ?_; intro w1 hg1 hb1)
  have HS : Hid (SpreadAt b w.heap.size w w1 16) := ⟨by decide, HB.out, by have := hg1.out; rw [spread_start b HB.out] at this; rw [words32_append_noughts] at this; exact this, h2.out.below (w := W.drew) hb1 (by omega), (Below.drew h4.out).trans (hb1.mono (by omega))⟩
  clear hg1 hb1 h1 h2 h3 h4 hn hf
  go_wp2
  go_loopw [4] (fun v wr => ∃ i : Nat, 16 ≤ i ∧ i ≤ 64 ∧ v = .int .i64 i ∧ Hid (SpreadAt b w.heap.size w wr i)) (fun v _ => 64 - (intOf v).toNat)
  case atStart => exact ⟨16, by omega, by omega, rfl, HS⟩
  case round =>
    obtain ⟨i, h16, h64, rfl, H⟩ := hrel
    by_cases hlt : i < 64
    · have c15 := H.out.cell (i - 15) (by omega)
      have c2 := H.out.cell (i - 2) (by omega)
      have c16 := H.out.cell (i - 16) (by omega)
      have c7 := H.out.cell (i - 7) (by omega)
      have cr := H.out.room hlt
      have cf := H.out.frozen i
      have HM : Hid (more (spreadTo b (i - 16)) i = ((spreadTo b (i - 16)).getD (i - 16) 0 + small0 ((spreadTo b (i - 16)).getD (i - 15) 0) + (spreadTo b (i - 16)).getD (i - 7) 0 + small1 ((spreadTo b (i - 16)).getD (i - 2) 0)) % 4294967296) := show _ = _ from rfl
      generalize (spreadTo b (i - 16)).getD (i - 15) 0 = x15 at *
      generalize (spreadTo b (i - 16)).getD (i - 2) 0 = x2 at *
      generalize (spreadTo b (i - 16)).getD (i - 16) 0 = x16 at *
      generalize (spreadTo b (i - 16)).getD (i - 7) 0 = x7 at *
      go_wp2_with fail
      go_quiet (fail)
      go_wp2_with fail
      refine (rot7_any x15 _).mono ?_
      rintro e w' ⟨rfl, rfl⟩
      go_wp2_with fail
      refine (rot18_any x15 _).mono ?_
      rintro e w' ⟨rfl, rfl⟩
      go_wp2_with fail
      refine (rot17_any x2 _).mono ?_
      rintro e w' ⟨rfl, rfl⟩
      go_wp2_with fail
      refine (rot19_any x2 _).mono ?_
      rintro e w' ⟨rfl, rfl⟩
      go_wp2_with fail
      go_region
      all_goals
        go_wp2
        go_roundw
        case rel => exact ⟨i + 1, by omega, by omega, by go_num, ((H.out.step hlt _ HM.out.symm).drewN nq).drew⟩
        case measure => simp [intOf]; omega
    · go_upto_region 10 with (fail)
      have HL : Hid (Blk wr (w.heap.size + 1 + 1) 60 (words32 (spread b))) := by
        have hi : i = 64 := by omega
        have := H.out.2.2.1
        rw [hi] at this
        show Blk wr _ _ _
        simpa [noughts, spread, words32] using this
      have HR : Hid (Blk wr (w.heap.size + 1) 60 (noughts 64)) := H.out.2.2.2.1
      have HW : Hid (Below w.heap.size w wr) := H.out.2.2.2.2
      obtain ⟨HI, HA, HZ⟩ := spread_facts b HB.out
      clear H h16 h64 hlt
      go_wp2_with (first
        | (refine wpList_load_row rfl 60 (.tmp 3) rfl (w.heap.size + 1 + 1) rfl 60 (words32 (spread b)).toArray (0, 0) _ HL.out Tryd.underlying60 rfl HI.out ?_)
        | (refine wpList_store_row rfl 60 (.tmp 2) (.tmp 53) rfl (w.heap.size + 1) (words32 (spread b)).toArray rfl rfl 60 (noughts 64).toArray HR.out HI.out HZ.out HA.out ?_))
      exact bodyPost_ret (v := .agg (words32 (spread b)).toArray) (results_cell_row rfl _ _ (w.heap.size + 1) 60 (words32 (spread b)).toArray (0, 0) _ rfl (Blk.row HR.out _) Tryd.underlying60 rfl HI.out) rfl ⟨rfl, below_setRow HW.out (by omega) _⟩
end Go.Proofs.YtjeclmbableacaaDoor

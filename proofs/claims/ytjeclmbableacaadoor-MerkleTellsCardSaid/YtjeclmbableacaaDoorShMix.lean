/-
  OWN WORK. SHA-256: one block is mixed in.
-/
import Derived.Test.YtjeclmbableacaaDoorShSpread
namespace Go.Proofs.YtjeclmbableacaaDoor
open Go.RowKit Sh

/-- The words of the rounds lie where the program has them. -/
def KAt (w : World) : Prop := ∀ i, i < 64 → w.cell? ⟨0, i, none⟩ = some (.int .u32 (roundK.getD i 0))
theorem KAt.pos {w : World} (h : KAt w) : 0 < w.heap.size := by
  have := h 0 (by omega)
  rcases Nat.lt_or_ge 0 w.heap.size with hlt | hge
  · exact hlt
  · exfalso
    simp only [World.cell?] at this
    rw [Array.getElem?_eq_none hge] at this
    cases this
theorem KAt.below {B : Nat} {w w' : World} (h : KAt w) (hb : Below B w w') (hB : 0 < B) : KAt w' := fun i hi => (hb.cell hB).trans (h i hi)
theorem KAt.keeps {g : Nat} {w w' : World} (h : KAt w) (hb : Keeps w w' g) (hg : 0 < g) : KAt w' := fun i hi => (hb.cell h.pos (by simp only [ne_eq]; omega)).trans (h i hi)
theorem KAt.drewN {w : World} (h : KAt w) (n : Nat) : KAt (w.drewN n) := h

/-- So many of the words are added up. -/
def addTo (h r : List Int) : Nat → List Int
  | 0 => h
  | k + 1 => (addTo h r k).set k (((addTo h r k).getD k 0 + r.getD k 0) % 4294967296)
theorem addTo_length (h r : List Int) (k : Nat) : (addTo h r k).length = h.length := by
  induction k with
  | zero => rfl
  | succ k ih => simp [addTo, ih]
theorem addTo_all (h r : List Int) (hh : h.length = 8) (hr : r.length = 8) : addTo h r 8 = List.zipWith (fun x y => (x + y) % 4294967296) h r := by
  match h, r, hh, hr with
  | [a0, a1, a2, a3, a4, a5, a6, a7], [b0, b1, b2, b3, b4, b5, b6, b7], _, _ => rfl

def MixAt (B T n2 : Nat) (tail : List Value) (h ws : List Int) (w0 wr : World) : Prop :=
  Blk wr B T (words32 h ++ tail) ∧ Blk wr n2 60 (words32 ws) ∧ KAt wr ∧ Keeps w0 wr B
theorem MixAt.drewN {B T n2 : Nat} {tail : List Value} {h ws : List Int} {w0 wr : World} (x : MixAt B T n2 tail h ws w0 wr) (n : Nat) : MixAt B T n2 tail h ws w0 (wr.drewN n) := ⟨x.1, x.2.1, x.2.2.1, x.2.2.2.drewN n⟩
theorem MixAt.drew {B T n2 : Nat} {tail : List Value} {h ws : List Int} {w0 wr : World} (x : MixAt B T n2 tail h ws w0 wr) : MixAt B T n2 tail h ws w0 wr.drew := ⟨x.1, x.2.1, x.2.2.1, x.2.2.2.drew⟩
theorem MixAt.cell {B T n2 : Nat} {tail : List Value} {h ws : List Int} {w0 wr : World} (x : MixAt B T n2 tail h ws w0 wr) (i : Nat) (hi : i < h.length) : wr.cell? ⟨B, i, none⟩ = some (.int .u32 (h.getD i 0)) := by
  rw [x.1.cell, List.getElem?_append_left (by simpa using hi), words32_get _ _ hi]
theorem MixAt.word {B T n2 : Nat} {tail : List Value} {h ws : List Int} {w0 wr : World} (x : MixAt B T n2 tail h ws w0 wr) (i : Nat) (hi : i < ws.length) : wr.cell? ⟨n2, i, none⟩ = some (.int .u32 (ws.getD i 0)) := by
  rw [x.2.1.cell, words32_get _ _ hi]
theorem MixAt.set_ {B T n2 : Nat} {tail : List Value} {h ws : List Int} {w0 wr : World} (x : MixAt B T n2 tail h ws w0 wr) (hne : n2 ≠ B) (hB : 0 < B) (i : Nat) (hi : i < h.length) (v : Int) :
    MixAt B T n2 tail (h.set i v) ws w0 (wr.setCell ⟨B, i, none⟩ (.int .u32 v)) := by
  refine ⟨?_, x.2.1.far hne _, x.2.2.1.keeps ((Keeps.refl wr B).setCell i _) hB, x.2.2.2.setCell i _⟩
  have := x.1.set_ i (.int .u32 v)
  rw [List.set_append_left _ _ (by simpa using hi)] at this
  have e : (words32 h).set i (.int .u32 v) = words32 (h.set i v) := by simp [words32, List.map_set]
  rw [e] at this
  exact this

theorem block_facts (b : List Int) (hb : b.length = 16) : Hid ((Tryd.prog.info? 68).map (·.size) = some (words32 b).toArray.size) := by
  have hsz : (words32 b).toArray.size = 16 := by simp [hb]
  show _ = _
  rw [hsz]; kernel_rfl

set_option maxHeartbeats 2000000 in
set_option maxRecDepth 100000 in
theorem mix_any (h : List Int) (hh : h.length = 8) (tail : List Value) (blk : List Int) (hb : blk.length = 16) (B T : Nat) (w : World) (hB : Blk w B T (words32 h ++ tail)) (hK : KAt w) (h0 : 0 < B) :
    Calls Tryd.prog 47 #[.pointer (some ⟨B, 0, none⟩), .agg (words32 blk).toArray] w fun e w' => e = .returned (.tuple #[]) ∧ Blk w' B T (words32 (Sh.mix h blk) ++ tail) ∧ Keeps w w' B := by
  have HH := Lib.hid hh
  have HB := Lib.hid hb
  have HBLK : Hid (Blk w B T (words32 h ++ tail)) := hB
  have HK : Hid (KAt w) := hK
  have hlt := hB.lt
  clear hh hb hB hK
  go_enter Tryd.func47, Tryd.ntmps47
  go_upto_region 1 with (fail)
  obtain ⟨HI, HA, HZ⟩ := spread_facts blk HB.out
  have HJ := block_facts blk HB.out
  have h1 : Hid (Blk (w.alloc (.cells (words32 blk).toArray 68)) w.heap.size 68 (words32 blk)) := Blk.new w _ _
  go_wp2_with (first
    | (refine wpList_load_row rfl 68 (.tmp 3) rfl w.heap.size rfl 68 (words32 blk).toArray (0, 0) _ h1.out Tryd.underlying68 rfl HJ.out ?_))
  refine (spread_any blk HB.out _).mono ?_
  rintro e w1 ⟨rfl, hb1⟩
  have HB1 : Hid (Below (w.heap.size + 1) (w.alloc (.cells (words32 blk).toArray 68)) w1) := by rw [World.size_alloc] at hb1; exact hb1
  have hs1 : w.heap.size < w1.heap.size := by have := HB1.out.size; rw [World.size_alloc] at this; omega
  clear hb1
  have h2 : Hid (Blk (w1.alloc (.cells (noughts 64).toArray 60)) w1.heap.size 60 (noughts 64)) := Blk.new w1 _ _
  go_wp2_with (first
    | (refine wpList_store_row rfl 60 (.tmp 4) (.tmp 21) rfl w1.heap.size (words32 (spread blk)).toArray rfl rfl 60 (noughts 64).toArray h2.out HI.out HZ.out HA.out ?_))
  refine wp_world (fun W => Hid (MixAt B T w1.heap.size tail h (spread blk) w W)) ?_ ?_
  · have k1 : Keeps w w1 B := (Keeps.of_below ((Below.refl _ _).alloc (Nat.le_refl _) _)).trans (Keeps.of_below (by rw [World.size_alloc]; exact HB1.out))
    have k2 : Keeps w ((w1.alloc (.cells (noughts 64).toArray 60)).setRow w1.heap.size (words32 (spread blk)).toArray) B :=
      k1.trans (Keeps.of_below (below_setRow ((Below.refl _ _).alloc (Nat.le_refl _) _) (Nat.le_refl _) _))
    refine ⟨?_, h2.out.row _, HK.out.keeps k2 h0, k2⟩
    exact ((((HBLK.out.alloc _).below HB1.out (by omega))).alloc _).rowFar (by omega) _
  intro W HM
  obtain ⟨a, b, c, d, e5, f, g, h8, rfl⟩ : ∃ a b c d e5 f g h8, h = [a, b, c, d, e5, f, g, h8] := by
    match h, HH.out with
    | [a, b, c, d, e5, f, g, h8], _ => exact ⟨a, b, c, d, e5, f, g, h8, rfl⟩
  have c0 := HM.out.cell 0 (by simp)
  have c1 := HM.out.cell 1 (by simp)
  have c2 := HM.out.cell 2 (by simp)
  have c3 := HM.out.cell 3 (by simp)
  have c4 := HM.out.cell 4 (by simp)
  have c5 := HM.out.cell 5 (by simp)
  have c6 := HM.out.cell 6 (by simp)
  have c7 := HM.out.cell 7 (by simp)
  simp only [List.getD_cons_zero, List.getD_cons_succ] at c0 c1 c2 c3 c4 c5 c6 c7
  clear HI HA HZ HJ h1 h2
  go_quiet (fail)
  go_wp2_with fail
  have HM2 : Hid (MixAt B T w1.heap.size tail [a, b, c, d, e5, f, g, h8] (spread blk) w (W.drewN nq)) := HM.out.drewN nq
  clear c0 c1 c2 c3 c4 c5 c6 c7 HM
  have hne : w1.heap.size ≠ B := by omega
  have HNE := Lib.hid hne
  clear hne
  generalize w1.heap.size = n2 at *
  go_loopw [5, 6, 7, 8, 9, 10, 11, 12, 54] (fun t5 t6 t7 t8 t9 t10 t11 t12 t54 wr => ∃ (k : Nat) (R : Reg), k ≤ 64 ∧ t54 = .int .i64 k ∧ Hid (R = regs (spread blk) (Reg.of [a, b, c, d, e5, f, g, h8]) k) ∧ t5 = .int .u32 R.a ∧ t6 = .int .u32 R.b ∧ t7 = .int .u32 R.c ∧ t8 = .int .u32 R.d ∧ t9 = .int .u32 R.e ∧ t10 = .int .u32 R.f ∧ t11 = .int .u32 R.g ∧ t12 = .int .u32 R.h ∧ Hid (MixAt B T n2 tail [a, b, c, d, e5, f, g, h8] (spread blk) w wr)) (fun _ _ _ _ _ _ _ _ t54 _ => 64 - (intOf t54).toNat)
  case atStart => exact ⟨0, Reg.of [a, b, c, d, e5, f, g, h8], by omega, rfl, rfl, rfl, rfl, rfl, rfl, rfl, rfl, rfl, rfl, HM2⟩
  case round =>
    obtain ⟨k, ⟨x0, x1, x2, x3, x4, x5, x6, x7⟩, hk, rfl, HR, rfl, rfl, rfl, rfl, rfl, rfl, rfl, rfl, HM⟩ := hrel
    by_cases hlt : k < 64
    · have cw := HM.out.word k (by rw [spread_length blk HB.out]; exact hlt)
      have ck := HM.out.2.2.1 k hlt
      have HN : Hid (regs (spread blk) (Reg.of [a, b, c, d, e5, f, g, h8]) (k + 1) = (regs (spread blk) (Reg.of [a, b, c, d, e5, f, g, h8]) k).next (roundK.getD k 0) ((spread blk).getD k 0)) := rfl
      generalize (spread blk).getD k 0 = xw at *
      generalize roundK.getD k 0 = xk at *
      go_wp2_with fail
      refine (rot6_any x4 _).mono ?_
      rintro e w' ⟨rfl, rfl⟩
      go_wp2_with fail
      refine (rot11_any x4 _).mono ?_
      rintro e w' ⟨rfl, rfl⟩
      go_wp2_with fail
      refine (rot25_any x4 _).mono ?_
      rintro e w' ⟨rfl, rfl⟩
      go_wp2_with fail
      go_quiet (fail)
      go_wp2_with fail
      refine (rot2_any x0 _).mono ?_
      rintro e w' ⟨rfl, rfl⟩
      go_wp2_with fail
      refine (rot13_any x0 _).mono ?_
      rintro e w' ⟨rfl, rfl⟩
      go_wp2_with fail
      refine (rot22_any x0 _).mono ?_
      rintro e w' ⟨rfl, rfl⟩
      go_wp2_with fail
      go_roundw
      case rel =>
        exact ⟨k + 1, Reg.next ⟨x0, x1, x2, x3, x4, x5, x6, x7⟩ xk xw, by omega, by go_num, by show _ = _; rw [HN.out, ← HR.out], congrArg _ (next_a x0 x1 x2 x3 x4 x5 x6 x7 xk xw), rfl, rfl, rfl, rfl, rfl, rfl, rfl, HM.out.drewN nq⟩
      case measure => simp [intOf]; omega
    · go_upto_region 13 with (fail)
      have HR8 : Hid (Sh.mix [a, b, c, d, e5, f, g, h8] blk = addTo [a, b, c, d, e5, f, g, h8] [x0, x1, x2, x3, x4, x5, x6, x7] 8) := by
        show _ = _
        have hk64 : k = 64 := by omega
        rw [addTo_all _ _ rfl rfl]
        unfold Sh.mix
        have := HR.out
        rw [hk64] at this
        rw [← this]
        rfl
      clear HR hlt hk
      have hidx : ∀ (j : Nat) (w : World), j < 8 → (Instr.index 62 (.agg #[.int .u32 x0, .int .u32 x1, .int .u32 x2, .int .u32 x3, .int .u32 x4, .int .u32 x5, .int .u32 x6, .int .u32 x7]) (.int .i64 j)).run Tryd.prog w = .ok (.int .u32 ([x0, x1, x2, x3, x4, x5, x6, x7].getD j 0)) w := by
        intro j w hj
        obtain rfl | rfl | rfl | rfl | rfl | rfl | rfl | rfl : j = 0 ∨ j = 1 ∨ j = 2 ∨ j = 3 ∨ j = 4 ∨ j = 5 ∨ j = 6 ∨ j = 7 := by omega
        all_goals kernel_rfl
      have HIDX := Lib.hid hidx
      clear hidx
      go_wp2_with fail
      go_loopw [129] (fun t wr2 => ∃ j : Nat, j ≤ 8 ∧ t = .int .i64 j ∧ Hid (MixAt B T n2 tail (addTo [a, b, c, d, e5, f, g, h8] [x0, x1, x2, x3, x4, x5, x6, x7] j) (spread blk) w wr2)) (fun t _ => 8 - (intOf t).toNat)
      case atStart => exact ⟨0, by omega, rfl, HM⟩
      case round =>
        obtain ⟨j, hj, rfl, HJ⟩ := hrel
        by_cases hlt2 : j < 8
        · have hlen : j < (addTo [a, b, c, d, e5, f, g, h8] [x0, x1, x2, x3, x4, x5, x6, x7] j).length := by rw [addTo_length]; exact hlt2
          have cj := HJ.out.cell j hlen
          have cf := HJ.out.1.frozen j
          have hix := fun w => HIDX.out j w hlt2
          have HA : Hid (addTo [a, b, c, d, e5, f, g, h8] [x0, x1, x2, x3, x4, x5, x6, x7] (j + 1) = (addTo [a, b, c, d, e5, f, g, h8] [x0, x1, x2, x3, x4, x5, x6, x7] j).set j (((addTo [a, b, c, d, e5, f, g, h8] [x0, x1, x2, x3, x4, x5, x6, x7] j).getD j 0 + [x0, x1, x2, x3, x4, x5, x6, x7].getD j 0) % 4294967296)) := rfl
          have HL := Lib.hid hlen
          clear hlen
          generalize (addTo [a, b, c, d, e5, f, g, h8] [x0, x1, x2, x3, x4, x5, x6, x7] j).getD j 0 = y at *
          generalize [x0, x1, x2, x3, x4, x5, x6, x7].getD j 0 = z at *
          go_wp2_with fail
          go_region
          all_goals
            go_wp2_with fail
            go_roundw
            case rel => exact ⟨j + 1, by omega, by go_num, by show MixAt _ _ _ _ _ _ _ _; rw [HA.out]; exact (HJ.out.set_ HNE.out h0 j HL.out _).drew⟩
            case measure => simp [intOf]; omega
        · obtain rfl : j = 8 := by omega
          have HF : Hid (Blk wr B T (words32 (Sh.mix [a, b, c, d, e5, f, g, h8] blk) ++ tail) ∧ Keeps w wr B) := by
            show _ ∧ _
            rw [HR8.out]
            exact ⟨HJ.out.1, HJ.out.2.2.2⟩
          clear HJ HR8
          go_wp2_with fail
          go_end0
          exact ⟨rfl, HF.out⟩
end Go.Proofs.YtjeclmbableacaaDoor

/-
  OWN WORK. The law DiskNumbers, walked, given what the program's own disk does.
-/
import Derived.Test.YtenedgapjbmpgaaDiPlays
namespace Go.Proofs.Ytenedgapjbmpgaa
open Go.RowKit Rc Di

/-- The chapter's calls. -/
def calls5 (h : Nat) (X1 X2 : Option Addr) (b1 b2 b3 : List UInt8) (c1 c2 : Nat) : List AskD := [⟨1, (-1), X1, b1, c1, none, [], 0, 0, 0⟩, ⟨1, 64, X1, b1, c1, none, [], 0, 0, 0⟩, ⟨1, 0, X1, b3, c1, none, [], 0, 0, 0⟩, ⟨1, 63, X1, b1, c1, none, [], 0, 0, 0⟩, ⟨1, 5, X1, b1, c1, none, [], 0, 0, 0⟩, ⟨1, 5, X2, b2, c2, none, [], 0, 0, 0⟩, ⟨3, 0, none, [], 0, (some ⟨h, 0, none⟩), [false, true], 2, 0, 2⟩, ⟨1, 7, X2, b2, c2, none, [], 0, 0, 0⟩, ⟨2, 0, none, [], 0, none, [], 0, 0, 0⟩, ⟨1, 7, X1, b1, c1, none, [], 0, 0, 0⟩, ⟨3, 7, none, [], 0, none, [], 0, 0, 2⟩, ⟨1, 7, X1, b1, c1, none, [], 0, 0, 0⟩, ⟨1, 8, X1, b1, c1, none, [], 0, 0, 0⟩, ⟨3, 7, none, [], 0, (some ⟨h + 1, 0, none⟩), [true, true, true], 3, 1, (-5)⟩, ⟨1, 9, X1, b1, c1, none, [], 0, 0, 0⟩, ⟨3, 9, none, [], 0, none, [], 0, 0, 500⟩, ⟨3, 0, none, [], 0, none, [], 0, 0, 0⟩]
theorem rdb_alloc (w : World) (l : List Bool) (g : Nat) (hg : w.heap[g]? = some (.cells (l.map Value.bool).toArray 4 (0, 0))) : RdB w (some ⟨g, 0, none⟩) l := fun j x hx => by
  refine ⟨⟨g, 0, none⟩, rfl, (Array.getElem?_eq_some_iff.1 hg).1, ?_⟩
  rw [add_plain, Nat.zero_add, cell_of_row w g j _ _ _ hg]
  simp [hx]
theorem chain3 (w : World) (o1 o2 o3 : Go.Obj) : (((w.alloc o1).alloc o2).alloc o3).heap[w.heap.size]? = some o1 ∧ (((w.alloc o1).alloc o2).alloc o3).heap[w.heap.size + 1]? = some o2 ∧ (((w.alloc o1).alloc o2).alloc o3).heap[w.heap.size + 1 + 1]? = some o3 ∧ Below w.heap.size w (((w.alloc o1).alloc o2).alloc o3) := by
  have s1 : (w.alloc o1).heap.size = w.heap.size + 1 := World.size_alloc _ _
  have s2 : ((w.alloc o1).alloc o2).heap.size = w.heap.size + 1 + 1 := by rw [World.size_alloc, s1]
  have k1 : (w.alloc o1).heap[w.heap.size]? = some o1 := heap_alloc_new w o1
  have k2 : ((w.alloc o1).alloc o2).heap[w.heap.size + 1]? = some o2 := by have := heap_alloc_new (w.alloc o1) o2; rw [s1] at this; exact this
  have k3 : (((w.alloc o1).alloc o2).alloc o3).heap[w.heap.size + 1 + 1]? = some o3 := by have := heap_alloc_new ((w.alloc o1).alloc o2) o3; rw [s2] at this; exact this
  have b2 := fun g hg => Below.heap_alloc (w.alloc o1) o2 g hg
  have b3 := fun g hg => Below.heap_alloc ((w.alloc o1).alloc o2) o3 g hg
  refine ⟨?_, ?_, k3, (((Below.refl _ _).alloc (Nat.le_refl _) o1).alloc (by rw [s1]; omega) o2).alloc (by rw [s2]; omega) o3⟩
  · rw [b3 _ (by rw [s2]; omega), b2 _ (by rw [s1]; omega)]; exact k1
  · rw [b3 _ (by rw [s2]; omega)]; exact k2
theorem flat6 : ∀ (ps : List AskD) (k i : Nat) (hk : k < ps.length), i < 6 → (ps.flatMap boxed)[k * 6 + i]? = (boxed ps[k])[i]?
  | p :: ps, 0, i, _, hi => by
    rw [Nat.zero_mul, Nat.zero_add, List.flatMap_cons, List.getElem?_append_left (by show i < 6; exact hi)]
    rfl
  | p :: ps, k + 1, i, hk, hi => by
    rw [List.flatMap_cons, List.getElem?_append_right (by show 6 ≤ _; omega)]
    have ih := flat6 ps k i (by simpa using hk) hi
    rw [show (k + 1) * 6 + i - (boxed p).length = k * 6 + i by show (k + 1) * 6 + i - 6 = _; omega, ih]
    rfl
theorem in64 {n : Int} (h0 : -1000 ≤ n) (h1 : n ≤ 1000) : In64 n := ⟨by omega, by omega⟩
theorem kept_nil (w : World) (B : Nat → Prop) (A : Option Addr) : Ob.Kept w B A [] := ⟨Rd.nil _ _, fun h => absurd h (by simp)⟩
theorem bes_w {w : World} {B : Nat → Prop} (kd i : Int) {A : Option Addr} {x : List UInt8} {c : Nat} (hk : Ob.Kept w B A x) (hc : x.length ≤ c) (hl : x.length ≤ 128) (h0 : -1000 ≤ i) (h1 : i ≤ 1000) : (⟨kd, i, A, x, c, none, [], 0, 0, 0⟩ : AskD).Beside w B :=
  ⟨hk, hc, by show x.length ≤ _; omega, rdb_nil _ _, fun a ha => (by cases ha), Nat.le_refl _, by simp, in64 h0 h1, in64 (n := 0) (by omega) (by omega), in64 (n := 0) (by omega) (by omega)⟩
theorem bes_k {w : World} {B : Nat → Prop} (kd i torn cut : Int) {KA : Option Addr} {ks : List Bool} (hk : RdB w KA ks) (ha : ∀ a, KA = some a → 0 < ks.length → ¬ B a.block) (kc : Nat) (hkc : ks.length = kc) (hl : kc ≤ 3) (h0 : -1000 ≤ i) (h1 : i ≤ 1000) (h2 : -1000 ≤ torn) (h3 : torn ≤ 1000) (h4 : -1000 ≤ cut) (h5 : cut ≤ 1000) : (⟨kd, i, none, [], 0, KA, ks, kc, torn, cut⟩ : AskD).Beside w B :=
  ⟨kept_nil _ _ _, Nat.le_refl _, by simp, hk, ha, Nat.le_of_eq hkc, by show ks.length ≤ _; omega, in64 h0 h1, in64 h2 h3, in64 h4 h5⟩
theorem rd_marked (w : World) (l : List UInt8) (fr : Nat × Nat) : Rd (w.alloc (.cells (Lib.byteCells l).toArray 5 fr)) (some ⟨w.heap.size, 0, none⟩) l := fun _ => by
  refine ⟨w.heap.size, 0, rfl, by rw [World.size_alloc]; omega, fun j x hx => ?_⟩
  rw [cell_of_row _ _ _ _ _ _ (heap_alloc_new w (.cells (Lib.byteCells l).toArray 5 fr)), Nat.zero_add]
  simp [Lib.byteCells, hx]
set_option maxHeartbeats 8000000 in
set_option maxRecDepth 100000 in
theorem numbers_any (D : DSaid) (w : World) : Calls Try.prog 3 #[] w fun e w' => e = .returned (.bool true) ∧ Below w.heap.size w w' := by
  go_enter Try.func3, Try.ntmps3
  go_wp2_with fail
  refine (D.new w 63 (by omega) (by omega)).mono ?_
  rintro e w1 ⟨hb, _, h2⟩
  obtain ⟨x1, rfl⟩ := h2 (by omega)
  have HL1 : Hid (Below w.heap.size w w1) := hb
  clear hb h2
  go_wp2_with fail
  refine (D.new w1 4097 (by omega) (by omega)).mono ?_
  rintro e w2 ⟨hb, _, h2⟩
  obtain ⟨x2, rfl⟩ := h2 (by omega)
  have HL2 : Hid (Below w.heap.size w w2) := HL1.out.trans (hb.mono HL1.out.size)
  clear hb h2 HL1
  obtain ⟨w3, z3, hm3, hb3, hz3, hr3, _⟩ := Ob.make_row w2 8191 (by omega)
  have hmk3 : (Instr.makeSlice 27 (.int .i64 8191) (.int .i64 8191)).run Try.prog w2 = .ok (.slice (some ⟨w2.heap.size, 0, none⟩) 8191 8191) w3 := hm3
  have hzl3 : z3.length = 8191 := by rw [hz3, List.length_replicate]
  have hc3 := D.of_ w3 (some ⟨w2.heap.size, 0, none⟩) z3 8191 hr3 (by omega) (by omega)
  rw [hzl3] at hc3
  have HL3 : Hid (Below w.heap.size w w3) := HL2.out.trans (hb3.mono HL2.out.size)
  have HC3 := Lib.hid hc3
  clear hm3 hb3 hz3 hr3 hzl3 hc3 HL2
  go_wp2_with fail
  refine HC3.out.mono ?_
  rintro e w4 ⟨hb, _, h2⟩
  obtain ⟨x3, rfl⟩ := h2 (fun n _ _ => by omega)
  have HL4 : Hid (Below w.heap.size w w4) := HL3.out.trans (hb.mono HL3.out.size)
  clear hb h2 HL3 HC3 hmk3
  obtain ⟨w5, z5, hm5, hb5, hz5, hr5, _⟩ := Ob.make_row w4 8064 (by omega)
  have hmk5 : (Instr.makeSlice 27 (.int .i64 8064) (.int .i64 8064)).run Try.prog w4 = .ok (.slice (some ⟨w4.heap.size, 0, none⟩) 8064 8064) w5 := hm5
  have hzl5 : z5.length = 8064 := by rw [hz5, List.length_replicate]
  have hc5 := D.of_ w5 (some ⟨w4.heap.size, 0, none⟩) z5 8064 hr5 (by omega) (by omega)
  rw [hzl5] at hc5
  have HL5 : Hid (Below w.heap.size w w5) := HL4.out.trans (hb5.mono HL4.out.size)
  have HC5 := Lib.hid hc5
  clear hm5 hb5 hz5 hr5 hzl5 hc5 HL4
  go_wp2_with fail
  refine HC5.out.mono ?_
  rintro e w6 ⟨hb, _, h2⟩
  obtain ⟨x4, rfl⟩ := h2 (fun n h63 h64 => by omega)
  have HL6 : Hid (Below w.heap.size w w6) := HL5.out.trans (hb.mono HL5.out.size)
  clear hb h2 HL5 HC5 hmk5
  have hcv := Lib.run_convert_bytes_const (P := Try.prog) w6 27 5 #[.int .u8 105, .int .u8 109, .int .u8 97, .int .u8 103, .int .u8 101] 5 5 Try.underlying27 Try.underlying5
  go_wp2_with fail
  obtain ⟨w6', hw6'⟩ : ∃ x, x = w6.alloc (.cells #[.int .u8 105, .int .u8 109, .int .u8 97, .int .u8 103, .int .u8 101] 5 (5, 6)) := ⟨_, rfl⟩
  have hr6 : Rd w6' (some ⟨w6.heap.size, 0, none⟩) [105, 109, 97, 103, 101] := by rw [hw6']; exact rd_marked w6 [105, 109, 97, 103, 101] (5, 6)
  have HL6' : Hid (Below w.heap.size w w6') := HL6.out.trans ((show Below w6.heap.size w6 w6' by rw [hw6']; exact below_new _ _).mono HL6.out.size)
  rw [← hw6']
  clear hcv hw6' HL6
  refine (sized_any w6' [105, 109, 97, 103, 101] (some ⟨w6.heap.size, 0, none⟩) 5 8320 hr6 (by simp) (by simp) (by omega)).mono ?_
  rintro e w7 ⟨xi, rfl, hf, hb⟩
  obtain ⟨Xi, ci, rfl, hci, hri, _⟩ := hf.form
  obtain ⟨im, him⟩ : ∃ im, im = sized 8320 [105, 109, 97, 103, 101] := ⟨_, rfl⟩
  rw [← him] at hci hri ⊢
  have hil : im.length = 8320 := by rw [him, sized_length]
  have HIM := Lib.hid him
  have HL7 : Hid (Below w.heap.size w w7) := HL6'.out.trans (hb.mono HL6'.out.size)
  have HC7 := Lib.hid (D.of_ w7 Xi im ci hri hci (by omega))
  have HIL := Lib.hid hil
  clear hr6 HL6' hf hb hri him hil
  go_wp2_with fail
  refine HC7.out.mono ?_
  rintro e w8 ⟨hb, h1, _⟩
  obtain ⟨vx, Sx, rfl, hatx, _⟩ := h1 65 (by omega) (by omega) (by rw [HIL.out])
  obtain ⟨ax, rfl⟩ := D.ptr hatx
  have HL8 : Hid (Below w.heap.size w w8) := HL7.out.trans (hb.mono HL7.out.size)
  have HX8 := Lib.hid hatx
  clear hb h1 hatx HL7 HC7 hci
  go_wp2_with fail
  refine (D.new64 w8).mono ?_
  rintro e w9 ⟨a0, B0, rfl, HT9⟩
  go_wp2_with fail
  refine (refNew_any w9 64 (by omega) (by omega)).mono ?_
  rintro e w10 ⟨r, rfl, hr⟩
  obtain ⟨g, N, B, rfl, hone⟩ := pair_new HT9.out hr
  have HT10 := Lib.hid hone
  clear HT9 hr hone
  go_wp2_with fail
  obtain ⟨w10', hw10'⟩ : ∃ x, x = w10.alloc (.cells #[.int .u8 1] 5) := ⟨_, rfl⟩
  have hr10 : Rd w10' (some ⟨w10.heap.size, 0, none⟩) [1] := by rw [hw10']; exact rd_alloc w10 [1] _ _
  have HT10' := Lib.hid (HT10.out.later (show Below w10.heap.size w10 w10' by rw [hw10']; exact below_new _ _)).now
  rw [← hw10']
  clear hw10'
  refine (sized_any w10' [1] (some ⟨w10.heap.size, 0, none⟩) 1 128 hr10 (by simp) (by simp) (by omega)).mono ?_
  rintro e w11 ⟨x, rfl, hf, hb⟩
  obtain ⟨X1, c1, rfl, hc1, hk1⟩ := HT10'.out.fresh hb hf
  obtain ⟨b1, hb1⟩ : ∃ b1, b1 = sized 128 [1] := ⟨_, rfl⟩
  rw [← hb1] at hc1 hk1 ⊢
  have hbl1 : b1.length = 128 := by rw [hb1, sized_length]
  have HT11 := Lib.hid (HT10'.out.later hb).now
  have HK1 := Lib.hid hk1
  have HBL1 := Lib.hid hbl1
  have hc1' : 128 ≤ c1 := by rw [← hbl1]; exact hc1
  have HC1 := Lib.hid hc1
  clear hf hb hk1 hb1 hbl1 hr10 HT10' hc1
  go_wp2_with fail
  obtain ⟨w11', hw11'⟩ : ∃ x, x = w11.alloc (.cells #[.int .u8 2, .int .u8 2, .int .u8 2] 5) := ⟨_, rfl⟩
  have hb11 : Below w11.heap.size w11 w11' := by rw [hw11']; exact below_new _ _
  have hr11 : Rd w11' (some ⟨w11.heap.size, 0, none⟩) [2, 2, 2] := by rw [hw11']; exact rd_alloc w11 [2, 2, 2] _ _
  have HT11' := Lib.hid (HT11.out.later hb11).now
  have HK1' := Lib.hid (HK1.out.more hb11)
  rw [← hw11']
  clear hw11' hb11 HK1
  refine (sized_any w11' [2, 2, 2] (some ⟨w11.heap.size, 0, none⟩) 3 128 hr11 (by simp) (by simp) (by omega)).mono ?_
  rintro e w12 ⟨x, rfl, hf, hb⟩
  obtain ⟨X2, c2, rfl, hc2, hk2⟩ := HT11'.out.fresh hb hf
  obtain ⟨b2, hb2⟩ : ∃ b2, b2 = sized 128 [2, 2, 2] := ⟨_, rfl⟩
  rw [← hb2] at hc2 hk2 ⊢
  have hbl2 : b2.length = 128 := by rw [hb2, sized_length]
  have HT12 := Lib.hid (HT11'.out.later hb).now
  have HK12 := Lib.hid (HK1'.out.more hb)
  have HK2 := Lib.hid hk2
  have HBL2 := Lib.hid hbl2
  have HC2 := Lib.hid hc2
  obtain ⟨b3, hb3⟩ : ∃ b3, b3 = b1.take 126 := ⟨_, rfl⟩
  have hbl3 : b3.length = 126 := by rw [hb3, List.length_take, HBL1.out]; rfl
  have HB3 := Lib.hid hb3
  have HBL3 := Lib.hid hbl3
  have hsl : ∀ W : World, (Instr.sliceAt 27 (.slice X1 b1.length c1) none (some (.int .i64 126)) none).run Try.prog W = .ok (.slice X1 b3.length c1) W := fun W => by
    rw [hbl3]; exact sl_h W X1 b1.length c1 126 (by omega)
  clear hf hb hk2 hb2 hbl2 hr11 HT11' HK1' hc2 hb3 hbl3
  go_upto_block 0 with (fail)
  obtain ⟨ps, hps⟩ : ∃ ps, ps = calls5 w12.heap.size X1 X2 b1 b2 b3 c1 c2 := ⟨_, rfl⟩
  have hpl : ps.length = 17 := by rw [hps]; rfl
  refine wp_world (fun wx => Hid (Below w12.heap.size w12 wx ∧ wx.heap[w12.heap.size]? = some (.cells ([false, true].map Value.bool).toArray 4 (0, 0)) ∧ wx.heap[w12.heap.size + 1]? = some (.cells ([true, true, true].map Value.bool).toArray 4 (0, 0)) ∧ Blk wx (w12.heap.size + 1 + 1) 33 (ps.flatMap boxed))) ?_ ?_
  · rw [hps]
    exact ⟨(chain3 _ _ _ _).2.2.2, (chain3 _ _ _ _).1, (chain3 _ _ _ _).2.1, (chain3 _ _ _ _).2.2.1⟩
  intro w13 HF
  have hsz := HF.out.1.size
  have hBlt := (pairObj D N (.pointer (some ⟨g, 0, none⟩))).lt HT12.out.at_
  have HT13 := Lib.hid (HT12.out.later HF.out.1).now
  have HBES : Hid (∀ p ∈ ps, p.Beside w13 B) := by
    have k1 := HK12.out.more HF.out.1
    have k2 := HK2.out.more HF.out.1
    have k3 : Ob.Kept w13 B X1 b3 := by
      refine ⟨by rw [HB3.out]; exact k1.1.take 126, fun hl => k1.2 (by rw [HBL1.out]; omega)⟩
    have r1 := rdb_alloc w13 [false, true] w12.heap.size HF.out.2.1
    have r2 := rdb_alloc w13 [true, true, true] (w12.heap.size + 1) HF.out.2.2.1
    have l1 := HBL1.out
    have l2 := HBL2.out
    have l3 := HBL3.out
    have lc1 := HC1.out
    have lc2 := HC2.out
    intro p hp
    rw [hps] at hp
    simp only [calls5, List.mem_cons, List.not_mem_nil, or_false] at hp
    rcases hp with rfl | rfl | rfl | rfl | rfl | rfl | rfl | rfl | rfl | rfl | rfl | rfl | rfl | rfl | rfl | rfl | rfl
    · exact bes_w 1 (-1) k1 (by omega) (by omega) (by omega) (by omega)
    · exact bes_w 1 64 k1 (by omega) (by omega) (by omega) (by omega)
    · exact bes_w 1 0 k3 (by omega) (by omega) (by omega) (by omega)
    · exact bes_w 1 63 k1 (by omega) (by omega) (by omega) (by omega)
    · exact bes_w 1 5 k1 (by omega) (by omega) (by omega) (by omega)
    · exact bes_w 1 5 k2 (by omega) (by omega) (by omega) (by omega)
    · exact bes_k 3 0 0 2 r1 (fun a ha _ hB => by obtain rfl := Option.some.inj ha; have := hBlt _ hB; simp at this) 2 rfl (by omega) (by omega) (by omega) (by omega) (by omega) (by omega) (by omega)
    · exact bes_w 1 7 k2 (by omega) (by omega) (by omega) (by omega)
    · exact bes_k 2 0 0 0 (rdb_nil _ _) (fun a ha => by cases ha) 0 rfl (by omega) (by omega) (by omega) (by omega) (by omega) (by omega) (by omega)
    · exact bes_w 1 7 k1 (by omega) (by omega) (by omega) (by omega)
    · exact bes_k 3 7 0 2 (rdb_nil _ _) (fun a ha => by cases ha) 0 rfl (by omega) (by omega) (by omega) (by omega) (by omega) (by omega) (by omega)
    · exact bes_w 1 7 k1 (by omega) (by omega) (by omega) (by omega)
    · exact bes_w 1 8 k1 (by omega) (by omega) (by omega) (by omega)
    · exact bes_k 3 7 1 (-5) r2 (fun a ha _ hB => by obtain rfl := Option.some.inj ha; have := hBlt _ hB; simp at this; omega) 3 rfl (by omega) (by omega) (by omega) (by omega) (by omega) (by omega) (by omega)
    · exact bes_w 1 9 k1 (by omega) (by omega) (by omega) (by omega)
    · exact bes_k 3 9 0 500 (rdb_nil _ _) (fun a ha => by cases ha) 0 rfl (by omega) (by omega) (by omega) (by omega) (by omega) (by omega) (by omega)
    · exact bes_k 3 0 0 0 (rdb_nil _ _) (fun a ha => by cases ha) 0 rfl (by omega) (by omega) (by omega) (by omega) (by omega) (by omega) (by omega)
  have HPS := Lib.hid hps
  have HPL := Lib.hid hpl
  have HGL : Hid (¬ B (w12.heap.size + 1 + 1)) := fun h => by
    have := hBlt _ h
    omega
  have HSTART : Hid (∃ st B', Ob.One (pairObj D N (.pointer (some ⟨g, 0, none⟩))) (.pointer (some a0)) w8 w13 B (st, st) B' w13 ∧ st.writes ≤ 0 ∧ st.dirty.length = 64) := ⟨_, B, HT13.out, Nat.le_refl _, new_dirty 64⟩
  clear hps hpl hsz hBlt HT12 HK12 HK2 hsl
  go_wp2_with fail
  go_loopw [101] (fun t101 wr => ∃ k : Nat, k ≤ 17 ∧ t101 = .int .i64 (k : Nat) ∧ Hid (∃ st B', Ob.One (pairObj D N (.pointer (some ⟨g, 0, none⟩))) (.pointer (some a0)) w8 w13 B (st, st) B' wr ∧ st.writes ≤ k ∧ st.dirty.length = 64)) (fun t101 _ => 17 - (intOf t101).toNat)
  case atStart => exact ⟨0, by omega, rfl, HSTART⟩
  case round =>
    clear HSTART
    obtain ⟨k, hk, rfl, HJ⟩ := hrel
    by_cases hlt : k < 17
    · have hkp : k < ps.length := by rw [HPL.out]; exact hlt
      obtain ⟨p, hp⟩ : ∃ p, p = ps[k] := ⟨_, rfl⟩
      obtain ⟨st, B', hone, hw, hd⟩ := HJ.out
      have hbx : Blk wr (w12.heap.size + 1 + 1) 33 (ps.flatMap boxed) := (hone.mod.block _ HF.out.2.2.2.lt HGL.out).trans HF.out.2.2.2
      have HCELLS : Hid (∀ i v, (boxed p)[i]? = some v → wr.cell? ((⟨w12.heap.size + 1 + 1, k * 6, none⟩ : Addr).add i) = some v) := fun i v hv => by
        have hi : i < 6 := (List.getElem?_eq_some_iff.1 hv).1
        rw [add_plain, hbx.cell, flat6 ps k i hkp hi, ← hp]; exact hv
      have hbes := (HBES.out p (by rw [hp]; exact List.getElem_mem hkp)).later hone.mod hone.sub
      have HONE := Lib.hid hone
      have HBS := Lib.hid hbes
      have HWD := Lib.hid (And.intro hw hd)
      clear hone hw hd hbx hbes hp hkp
      obtain ⟨w14, h14⟩ : ∃ w14, w14 = (wr.alloc (.cells #[.int .i64 0, .int .i64 0, .slice none 0 0, .slice none 0 0, .int .i64 0, .int .i64 0] 33)).setRow wr.heap.size (boxed p).toArray := ⟨_, rfl⟩
      have hst := run_storeCells_at Try.prog wr.heap.size 0 33 (boxed p) 0 #[.int .i64 0, .int .i64 0, .slice none 0 0, .slice none 0 0, .int .i64 0, .int .i64 0] (wr.alloc (.cells #[.int .i64 0, .int .i64 0, .slice none 0 0, .slice none 0 0, .int .i64 0, .int .i64 0] 33)) (heap_alloc_new wr _) (by simp [boxed]) (fun v hv => by simp only [boxed, List.mem_cons, List.not_mem_nil, or_false] at hv; rcases hv with rfl | rfl | rfl | rfl | rfl | rfl <;> rfl)
      rw [show ((#[.int .i64 0, .int .i64 0, .slice none 0 0, .slice none 0 0, .int .i64 0, .int .i64 0] : Array Value).toList.take (0 + 0) ++ boxed p ++ (#[.int .i64 0, .int .i64 0, .slice none 0 0, .slice none 0 0, .int .i64 0, .int .i64 0] : Array Value).toList.drop (0 + 0 + (boxed p).length)) = boxed p by simp [boxed], ← h14] at hst
      have HB14 : Hid (Below wr.heap.size wr w14 ∧ Blk w14 wr.heap.size 33 (boxed p)) := by
        refine ⟨?_, by rw [h14]; exact (Blk.new wr _ _).row _⟩
        rw [h14]
        have k0 : Keeps (wr.alloc (.cells #[.int .i64 0, .int .i64 0, .slice none 0 0, .slice none 0 0, .int .i64 0, .int .i64 0] 33)) ((wr.alloc (.cells #[.int .i64 0, .int .i64 0, .slice none 0 0, .slice none 0 0, .int .i64 0, .int .i64 0] 33)).setRow wr.heap.size (boxed p).toArray) wr.heap.size := (Keeps.refl _ _).setRow _
        exact Keeps.below (below_new wr _) k0 (Nat.le_refl _) (below_new wr _).size
      clear h14
      go_upto_region 15 with (refine wpList_load_part rfl 33 (.tmp 103) rfl ⟨w12.heap.size + 1 + 1, k * 6, none⟩ rfl (boxed p) _ HCELLS.out Try.underlying33 rfl (by kernel_rfl) ?_)
      have HT := Lib.hid (HONE.out.later HB14.out.1)
      have HBS2 := Lib.hid (HBS.out.later (Mod.of_below HB14.out.1 B') (fun _ h => .inl h))
      have HOUT : Hid (¬ B' wr.heap.size) := fun h => Nat.lt_irrefl _ ((pairObj D N (.pointer (some ⟨g, 0, none⟩))).lt HONE.out.at_ _ h)
      have HW : Hid (st.writes ≤ 1000) := by have := HWD.out.1; show _ ≤ _; omega
      have HOK2 : Hid (step st p).Ok := by
        obtain ⟨gd, _, _, _, _, _, _, _, _, hok⟩ := pair_row HONE.out.at_
        show (step st p).Ok
        unfold step
        split
        · unfold Dk.write
          split
          · rename_i hq
            exact Dk.Ok.put hok _ _ hq.2
          · exact hok
        · split
          · exact hok.flush
          · exact hok.crash _ _ _
      obtain ⟨st2, hst2⟩ : ∃ st2, st2 = step st p := ⟨_, rfl⟩
      have HST2 := Lib.hid hst2
      rw [← hst2] at HOK2
      obtain ⟨L, hL⟩ : ∃ L, L = st2.now.flatten := ⟨_, rfl⟩
      have HL := Lib.hid hL
      have HLL : Hid (128 * st2.dirty.length = L.length) := by show _ = _; rw [hL, flat_length _ HOK2.out.snow, HOK2.out.now]
      clear hst hst2 hL HCELLS HBS HONE
      have one := HT.out
      refine Rc.wp_region (by kernel_rfl) (fun opn => List.getD [Rc.val (.pointer (some a0)), Rc.val (.pointer (some ⟨g, 0, none⟩)), Rc.val (p.val), Ob.turned (pairObj D N (.pointer (some ⟨g, 0, none⟩))) (.pointer (some a0)) (Ob.Ups B' w14) (.bool true) (st2, st2), Rc.val (.bool false), Rc.val (.bool false), Rc.val (.pointer (some a0)), Ob.frow (L), Rc.val (.string (strOf (L))), Rc.val (.pointer (some ⟨g, 0, none⟩)), Rc.val (.pointer (some ⟨g, 0, none⟩)), Rc.val (.pointer (some ⟨g, 1, none⟩)), Rc.val (.slice (some ⟨N, 0, none⟩) L.length L.length), Rc.val (.string (strOf (L))), Rc.val (.bool false), Rc.val (.bool false), Ob.turned (pairObj D N (.pointer (some ⟨g, 0, none⟩))) (.pointer (some a0)) (Ob.Ups B' w14) undef (st, st)] opn Rc.any) 1 [] [[], [], [], [(0, 105), (1, 106), (2, 107)], [(3, 108)], [(4, 109)], [(5, 110)], [(5, 110), (6, 111)], [(5, 110), (7, 112)], [(5, 110)], [(5, 110), (9, 114)], [(5, 110), (10, 115)], [(5, 110), (11, 116)], [(5, 110), (12, 117)], [(5, 110), (8, 113), (13, 118)], [(5, 110), (14, 119)]] [[], [], [], [0, 1, 2], [0, 1, 2, 3], [0, 1, 2, 3, 4], [0, 1, 2, 3, 4, 5], [0, 1, 2, 3, 4, 5, 6], [0, 1, 2, 3, 4, 5, 6, 7], [0, 1, 2, 3, 4, 5], [0, 1, 2, 3, 4, 5, 9], [0, 1, 2, 3, 4, 5, 9, 10], [0, 1, 2, 3, 4, 5, 9, 10, 11], [0, 1, 2, 3, 4, 5, 9, 10, 11, 12], [0, 1, 2, 3, 4, 5, 6, 7, 8, 9, 10, 11, 12, 13], [0, 1, 2, 3, 4, 5, 6, 7, 8, 9, 10, 11, 12, 13, 14]] [[], [], [], [0, 1, 2, 16], [3], [4], [5], [5, 6, 3], [5, 7], [5], [5, 9], [5, 10], [5, 11, 3], [5, 12, 3], [5, 8, 13], [5, 14]] [(3, 16)] (by kernel_rfl) (by rfl) (by kernel_rfl) B' (fun _ b => B' b) (Ob.one_inv (pairObj D N (.pointer (some ⟨g, 0, none⟩))) one.at_ _ _ 16 rfl) ?_ ?_
      · intro fr ha
        have hz : fr.tmps.size = 170 := by rw [ha]; rfl
        have y11 : fr.eval (.tmp 11) = .pointer (some a0) := by rw [ha]; rfl
        have y13 : fr.eval (.tmp 13) = .pointer (some ⟨g, 0, none⟩) := by rw [ha]; rfl
        have y17 : fr.eval (.tmp 17) = .pointer (some ⟨wr.heap.size, 0, none⟩) := by rw [ha]; rfl
        clear ha
        refine .cons ?_ (.cons ?_ (.cons ?_ (.cons ?_ (.cons ?_ (.cons ?_ (.cons ?_ (.cons ?_ (.cons ?_ (.cons ?_ (.cons ?_ (.cons ?_ (.cons ?_ (.cons ?_ (.cons ?_ (.cons ?_ (.nil))))))))))))))))
        · intro V S w2 HM HU HE
          have HM : Mod w14 w2 B' := HM
          have tb11 : (Rg.putUse V [] fr).eval (.tmp 11) = .pointer (some a0) := (Rg.use_eval V fr 11 [] (by simp only [hz]; decide)).trans y11
          show Rg.Does1 _ _ V (Rg.putUse V [] fr) w2 _
          exact Ob.rc_mv (.pointer (some a0)) (by simp only [execOp, tb11]; go_simp) rfl rfl True.intro
        · intro V S w2 HM HU HE
          have HM : Mod w14 w2 B' := HM
          have tb13 : (Rg.putUse V [] fr).eval (.tmp 13) = .pointer (some ⟨g, 0, none⟩) := (Rg.use_eval V fr 13 [] (by simp only [hz]; decide)).trans y13
          show Rg.Does1 _ _ V (Rg.putUse V [] fr) w2 _
          exact Ob.rc_mv (.pointer (some ⟨g, 0, none⟩)) (by simp only [execOp, tb13]; go_simp) rfl rfl True.intro
        · intro V S w2 HM HU HE
          have HM : Mod w14 w2 B' := HM
          have tb17 : (Rg.putUse V [] fr).eval (.tmp 17) = .pointer (some ⟨wr.heap.size, 0, none⟩) := (Rg.use_eval V fr 17 [] (by simp only [hz]; decide)).trans y17
          show Rg.Does1 _ _ V (Rg.putUse V [] fr) w2 _
          have cb : (Instr.loadAt 33 (.pointer (some ⟨wr.heap.size, 0, none⟩))).run Try.prog w2 = .ok p.val w2 := run_loadAt_mid w2 wr.heap.size 0 33 (boxed p) _ (Blk.range ((HM.block _ HB14.out.2.lt HOUT.out).trans HB14.out.2) 0 _ (fun j v hv => by rw [Nat.zero_add]; exact hv)) Try.underlying33 rfl (by kernel_rfl)
          exact Ob.rc_mv (p.val) (by simp only [execOp, tb17]; simp [cb, Result.andThen]) rfl rfl True.intro
        · intro V S w2 HM HU HE
          have HM : Mod w14 w2 B' := HM
          have h0 : V 0 = .pointer (some a0) := HU.holds 0 (by decide)
          have tb105 : (Rg.putUse V [(0, 105), (1, 106), (2, 107)] fr).eval (.tmp 105) = .pointer (some a0) := (Rg.use_eval V fr 105 [(0, 105), (1, 106), (2, 107)] (by simp only [hz]; decide)).trans h0
          have h1 : V 1 = .pointer (some ⟨g, 0, none⟩) := HU.holds 1 (by decide)
          have tb106 : (Rg.putUse V [(0, 105), (1, 106), (2, 107)] fr).eval (.tmp 106) = .pointer (some ⟨g, 0, none⟩) := (Rg.use_eval V fr 106 [(0, 105), (1, 106), (2, 107)] (by simp only [hz]; decide)).trans h1
          have h2 : V 2 = p.val := HU.holds 2 (by decide)
          have tb107 : (Rg.putUse V [(0, 105), (1, 106), (2, 107)] fr).eval (.tmp 107) = p.val := (Rg.use_eval V fr 107 [(0, 105), (1, 106), (2, 107)] (by simp only [hz]; decide)).trans h2
          show Rg.Does1 _ _ V (Rg.putUse V [(0, 105), (1, 106), (2, 107)] fr) w2 _
          exact Ob.step_turn (s := (st, st)) (pairObj D N (.pointer (some ⟨g, 0, none⟩))) #[.pointer (some a0), .pointer (some ⟨g, 0, none⟩), p.val] (fun args w => Rg.call_enter Try.func13 (by kernel_rfl) (by kernel_rfl) args w) rfl (by simp only [List.map_toArray, List.map_cons, List.map_nil, tb105, tb106, tb107]) rfl (by decide) (HU.holds 16 (by decide)).2 (fun x => Rg.alias_none rfl V x) True.intro HM.size (fun S1 hat hsub hup => by have h9 := do_any D hat HW.out p (HBS2.out.later HM hup); rw [← HST2.out] at h9; exact h9)
        · intro V S w2 HM HU HE
          have HM : Mod w14 w2 B' := HM
          have h3 : V 3 = .bool true := (HU.holds 3 (by decide)).1
          have tb108 : (Rg.putUse V [(3, 108)] fr).eval (.tmp 108) = .bool true := (Rg.use_eval V fr 108 [(3, 108)] (by simp only [hz]; decide)).trans h3
          show Rg.Does1 _ _ V (Rg.putUse V [(3, 108)] fr) w2 _
          exact Ob.rc_mv (.bool false) (by simp only [execOp, tb108]; go_simp) rfl rfl True.intro
        · intro V S w2 HM HU HE
          have HM : Mod w14 w2 B' := HM
          have h4 : V 4 = .bool false := HU.holds 4 (by decide)
          have tb109 : (Rg.putUse V [(4, 109)] fr).eval (.tmp 109) = .bool false := (Rg.use_eval V fr 109 [(4, 109)] (by simp only [hz]; decide)).trans h4
          show Rg.Does1 _ _ V (Rg.putUse V [(4, 109)] fr) w2 _
          exact Ob.rc_mv (.bool false) (by simp only [execOp, tb109]; go_simp) rfl rfl True.intro
        · intro V S w2 HM HU HE
          have HM : Mod w14 w2 B' := HM
          have h5 : V 5 = .bool false := HU.holds 5 (by decide)
          have tb11 : (Rg.putUse V [(5, 110)] fr).eval (.tmp 11) = .pointer (some a0) := (Rg.use_eval V fr 11 [(5, 110)] (by simp only [hz]; decide)).trans y11
          show Rg.Does1 _ _ V (Rg.putUse V [(5, 110)] fr) w2 _
          exact Ob.rc_mv (.pointer (some a0)) (by simp only [execOp, tb11]; go_simp) rfl rfl h5
        · intro V S w2 HM HU HE
          have HM : Mod w14 w2 B' := HM
          have h5 : V 5 = .bool false := HU.holds 5 (by decide)
          have h6 : V 6 = .pointer (some a0) := HU.holds 6 (by decide)
          have tb111 : (Rg.putUse V [(5, 110), (6, 111)] fr).eval (.tmp 111) = .pointer (some a0) := (Rg.use_eval V fr 111 [(5, 110), (6, 111)] (by simp only [hz]; decide)).trans h6
          show Rg.Does1 _ _ V (Rg.putUse V [(5, 110), (6, 111)] fr) w2 _
          obtain ⟨S1, hat, _, _⟩ := (HU.holds 3 (by decide)).2
          exact Ob.step_frow (L) #[.pointer (some a0)] (fun args w => Rg.call_enter Try.func14 (by kernel_rfl) (by kernel_rfl) args w) rfl (by simp only [List.map_toArray, List.map_cons, List.map_nil, tb111]) rfl (fun x => Rg.alias_none rfl V x) h5 (by obtain ⟨S2, hd2⟩ := pair_d hat; have h9 := D.image hd2; unfold Dk.image at h9; rw [← HL.out] at h9; exact h9)
        · intro V S w2 HM HU HE
          have HM : Mod w14 w2 B' := HM
          have h5 : V 5 = .bool false := HU.holds 5 (by decide)
          obtain ⟨X7, k7, e7, hc7, hr7, hX7⟩ := HU.holds 7 (by decide)
          have tb112 : (Rg.putUse V [(5, 110), (7, 112)] fr).eval (.tmp 112) = .slice X7 (L).length k7 := (Rg.use_eval V fr 112 [(5, 110), (7, 112)] (by simp only [hz]; decide)).trans e7
          show Rg.Does1 _ _ V (Rg.putUse V [(5, 110), (7, 112)] fr) w2 _
          exact Ob.rc_str (L) rfl tb112 (by first | rfl | simp) hr7 rfl rfl h5
        · intro V S w2 HM HU HE
          have HM : Mod w14 w2 B' := HM
          have h5 : V 5 = .bool false := HU.holds 5 (by decide)
          have tb13 : (Rg.putUse V [(5, 110)] fr).eval (.tmp 13) = .pointer (some ⟨g, 0, none⟩) := (Rg.use_eval V fr 13 [(5, 110)] (by simp only [hz]; decide)).trans y13
          show Rg.Does1 _ _ V (Rg.putUse V [(5, 110)] fr) w2 _
          exact Ob.rc_mv (.pointer (some ⟨g, 0, none⟩)) (by simp only [execOp, tb13]; go_simp) rfl rfl h5
        · intro V S w2 HM HU HE
          have HM : Mod w14 w2 B' := HM
          have h5 : V 5 = .bool false := HU.holds 5 (by decide)
          have h9 : V 9 = .pointer (some ⟨g, 0, none⟩) := HU.holds 9 (by decide)
          have tb114 : (Rg.putUse V [(5, 110), (9, 114)] fr).eval (.tmp 114) = .pointer (some ⟨g, 0, none⟩) := (Rg.use_eval V fr 114 [(5, 110), (9, 114)] (by simp only [hz]; decide)).trans h9
          show Rg.Does1 _ _ V (Rg.putUse V [(5, 110), (9, 114)] fr) w2 _
          exact Ob.rc_mv (.pointer (some ⟨g, 0, none⟩)) (by simp only [execOp, tb114]; go_simp) rfl rfl h5
        · intro V S w2 HM HU HE
          have HM : Mod w14 w2 B' := HM
          have h5 : V 5 = .bool false := HU.holds 5 (by decide)
          have h10 : V 10 = .pointer (some ⟨g, 0, none⟩) := HU.holds 10 (by decide)
          have tb115 : (Rg.putUse V [(5, 110), (10, 115)] fr).eval (.tmp 115) = .pointer (some ⟨g, 0, none⟩) := (Rg.use_eval V fr 115 [(5, 110), (10, 115)] (by simp only [hz]; decide)).trans h10
          show Rg.Does1 _ _ V (Rg.putUse V [(5, 110), (10, 115)] fr) w2 _
          exact Ob.rc_mv (.pointer (some ⟨g, 1, none⟩)) (by simp only [execOp, tb115]; go_simp) rfl rfl h5
        · intro V S w2 HM HU HE
          have HM : Mod w14 w2 B' := HM
          have h5 : V 5 = .bool false := HU.holds 5 (by decide)
          have h11 : V 11 = .pointer (some ⟨g, 1, none⟩) := HU.holds 11 (by decide)
          have tb116 : (Rg.putUse V [(5, 110), (11, 116)] fr).eval (.tmp 116) = .pointer (some ⟨g, 1, none⟩) := (Rg.use_eval V fr 116 [(5, 110), (11, 116)] (by simp only [hz]; decide)).trans h11
          show Rg.Does1 _ _ V (Rg.putUse V [(5, 110), (11, 116)] fr) w2 _
          obtain ⟨S1, hat, _, _⟩ := (HU.holds 3 (by decide)).2
          obtain ⟨gd, e1, _⟩ := pair_row hat
          rw [HLL.out] at e1
          exact Ob.rc_mv (.slice (some ⟨N, 0, none⟩) L.length L.length) (by simp only [execOp, tb116]; go_simp) rfl rfl h5
        · intro V S w2 HM HU HE
          have HM : Mod w14 w2 B' := HM
          have h5 : V 5 = .bool false := HU.holds 5 (by decide)
          have h12 : V 12 = .slice (some ⟨N, 0, none⟩) L.length L.length := HU.holds 12 (by decide)
          have tb117 : (Rg.putUse V [(5, 110), (12, 117)] fr).eval (.tmp 117) = .slice (some ⟨N, 0, none⟩) L.length L.length := (Rg.use_eval V fr 117 [(5, 110), (12, 117)] (by simp only [hz]; decide)).trans h12
          show Rg.Does1 _ _ V (Rg.putUse V [(5, 110), (12, 117)] fr) w2 _
          obtain ⟨S1, hat, _, _⟩ := (HU.holds 3 (by decide)).2
          exact Ob.rc_str (L) rfl tb117 (by first | rfl | simp) (by obtain ⟨gd, _, _, _, e4, _⟩ := pair_row hat; rw [← HL.out] at e4; exact e4) rfl rfl h5
        · intro V S w2 HM HU HE
          have HM : Mod w14 w2 B' := HM
          have h5 : V 5 = .bool false := HU.holds 5 (by decide)
          have h8 : V 8 = .string (strOf (L)) := HU.holds 8 (by decide)
          have tb113 : (Rg.putUse V [(5, 110), (8, 113), (13, 118)] fr).eval (.tmp 113) = .string (strOf (L)) := (Rg.use_eval V fr 113 [(5, 110), (8, 113), (13, 118)] (by simp only [hz]; decide)).trans h8
          have h13 : V 13 = .string (strOf (L)) := HU.holds 13 (by decide)
          have tb118 : (Rg.putUse V [(5, 110), (8, 113), (13, 118)] fr).eval (.tmp 118) = .string (strOf (L)) := (Rg.use_eval V fr 118 [(5, 110), (8, 113), (13, 118)] (by simp only [hz]; decide)).trans h13
          show Rg.Does1 _ _ V (Rg.putUse V [(5, 110), (8, 113), (13, 118)] fr) w2 _
          exact Ob.rc_mv (.bool false) (by simp only [execOp, tb113, tb118]; go_simp) rfl rfl h5
        · intro V S w2 HM HU HE
          have HM : Mod w14 w2 B' := HM
          have h5 : V 5 = .bool false := HU.holds 5 (by decide)
          have tb110 : (Rg.putUse V [(5, 110), (14, 119)] fr).eval (.tmp 110) = .bool false := (Rg.use_eval V fr 110 [(5, 110), (14, 119)] (by simp only [hz]; decide)).trans h5
          have h14 : V 14 = .bool false := HU.holds 14 (by decide)
          have tb119 : (Rg.putUse V [(5, 110), (14, 119)] fr).eval (.tmp 119) = .bool false := (Rg.use_eval V fr 119 [(5, 110), (14, 119)] (by simp only [hz]; decide)).trans h14
          show Rg.Does1 _ _ V (Rg.putUse V [(5, 110), (14, 119)] fr) w2 _
          exact Ob.rc_mv (.bool false) (by simp only [execOp, tb110, tb119]; go_simp) rfl rfl True.intro
      · intro V S w2 HI
        have hb : V 15 = .bool false := HI.get 15 (by decide) (by rfl)
        have HT2 := Lib.hid (one.after HI.mod.undrew (HI.get 3 (by decide) (by rfl)).2)
        have HM2 : Hid (Mod w14 w2 B') := HI.mod.undrew
        simp only [Rg.putList, Act.put, List.setIfInBounds_toArray, List.set_cons_zero, List.set_cons_succ, Nat.zero_add, Nat.reduceAdd]
        rw [hb]
        clear HI hb one HT
        obtain ⟨B2, h2⟩ := HT2.out
        have HNEXT : Hid (∃ st B2, Ob.One (pairObj D N (.pointer (some ⟨g, 0, none⟩))) (.pointer (some a0)) w8 w13 B (st, st) B2 w2 ∧ st.writes ≤ k + 1 ∧ st.dirty.length = 64) := ⟨st2, B2, h2, by rw [HST2.out]; exact Nat.le_trans (step_writes st p) (by have := HWD.out.1; omega), by rw [HST2.out, step_len]; exact HWD.out.2⟩
        clear h2 HT2 HM2 HB14 HBS2
        go_wp2_with fail
        go_roundw
        case rel => exact ⟨k + 1, by omega, by go_num, HNEXT⟩
        case measure => simp [intOf]; omega
    · obtain rfl : k = 17 := by omega
      obtain ⟨st, B', hone, hw, hd⟩ := HJ.out
      have hatx : D.At (.pointer (some ax)) (Dk.of 65 im) Sx wr := D.keep HX8.out hone.low.size (fun b hb => hone.low.block b (D.lt HX8.out b hb))
      have HATX := Lib.hid hatx
      have HLW : Hid (Below w.heap.size w wr) := HL8.out.trans (hone.low.mono HL8.out.size)
      obtain ⟨y, hy⟩ : ∃ y, y = im.take 128 := ⟨_, rfl⟩
      have hyl : y.length = 128 := by rw [hy, List.length_take, HIL.out]; rfl
      have hrd : (Dk.of 65 im).read 0 = (y, 0) := by
        refine (Dk.read_to (Dk.of 65 im) 0 (by show 0 < (List.replicate 65 false).length; rw [List.length_replicate]; omega)).trans ?_
        rw [hy]; rfl
      have hy5 : y.take 5 = [105, 109, 97, 103, 101] := by
        rw [hy, HIM.out, List.take_take]; rfl
      have hcr := D.read hatx 0 (by omega) (by omega)
      rw [hrd] at hcr
      have HCR := Lib.hid hcr
      have HYL := Lib.hid hyl
      have HY5 := Lib.hid hy5
      clear hone hw hd hatx hy hyl hrd hy5 hcr HJ HBES HF HT13 HX8 HL8
      go_wp2_with fail
      refine HCR.out.mono ?_
      rintro e w15 ⟨xy, rfl, hf, hb⟩
      obtain ⟨Y, cy, rfl, hcy, hry, _⟩ := hf.form
      have HAX15 : Hid (D.At (.pointer (some ax)) (Dk.of 65 im) Sx w15) := D.keep HATX.out hb.size (fun b hbb => hb.block b (D.lt HATX.out b hbb))
      have HL15 : Hid (Below w.heap.size w w15) := HLW.out.trans (hb.mono HLW.out.size)
      have HRY := Lib.hid hry
      have hcy5 : 128 ≤ cy := by rw [← HYL.out]; exact hcy
      have hyl2 : (y.length : Int) = 128 := by have := HYL.out; omega
      clear hf hb hry hcy HATX HLW HCR
      go_wp2_with fail
      have hcs := D.sectors HAX15.out
      rw [show (Dk.of 65 im).dirty.length = 65 from List.length_replicate] at hcs
      refine hcs.mono ?_
      rintro e w16 ⟨rfl, hb⟩
      have HAX16 : Hid (D.At (.pointer (some ax)) (Dk.of 65 im) Sx w16) := D.keep HAX15.out hb.size (fun b hbb => hb.block b (D.lt HAX15.out b hbb))
      have HL16 : Hid (Below w.heap.size w w16) := HL15.out.trans (hb.mono HL15.out.size)
      have hst : (convert 27 9 (.slice Y 5 cy)).run Try.prog w16 = .ok (.string ⟨#[105, 109, 97, 103, 101]⟩) w16 := Ob.str_run w16 Y [105, 109, 97, 103, 101] cy (by have := (HRY.out.below hb).take 5; rw [HY5.out] at this; exact this)
      clear hb hcs HL15 HAX15
      go_wp2_with fail
      have hcd := D.dirty HAX16.out
      rw [show (Dk.of 65 im).dirtyL = [] from dirty_none 65 0] at hcd
      refine hcd.mono ?_
      rintro e w17 ⟨xd, rfl, hf, hb⟩
      obtain ⟨Xd, cd, rfl, _⟩ := hf
      have HL17 : Hid (Below w.heap.size w w17) := HL16.out.trans (hb.mono HL16.out.size)
      clear hb hcd HL16 HAX16 hst
      go_wp2_with fail
      refine (known5_any D w17).mono ?_
      rintro e w18 ⟨rfl, hb⟩
      have HL18 : Hid (Below w.heap.size w w18) := HL17.out.trans (hb.mono HL17.out.size)
      clear hb HL17
      go_wp2_with fail
      go_ret
      exact ⟨rfl, HL18.out⟩
end Go.Proofs.Ytenedgapjbmpgaa

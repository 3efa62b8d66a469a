/-
  OWN WORK. The law CodecNumbers, walked, given what the program's own writer and reader do.
-/
import Derived.Test.YtpnnikifaalkoaaCoNew
import Derived.Deep.CutBlock
namespace Go.Proofs.Ytpnnikifaalkoaa
open Go.RowKit Rc

theorem row_new {w : World} {n : Nat} (hs : w.heap.size = n) (l : List UInt8) (cs : Array Value) (t : TypeId) (fz : Nat × Nat) (h : cs = (Lib.byteCells l).toArray) : Rd (w.alloc (.cells cs t fz)) (some ⟨n, 0, none⟩) l := by
  subst hs; exact rd_cells w l cs t fz h
theorem cell_lt {w : World} {g i : Nat} {v : Value} (h : w.cell? ⟨g, i, none⟩ = some v) : g < w.heap.size := by
  rcases Nat.lt_or_ge g w.heap.size with hlt | hge
  · exact hlt
  · exfalso
    simp only [World.cell?] at h
    rw [Array.getElem?_eq_none hge] at h
    cases h
/-- The law's own rows: each can be read. -/
def Table (W : World) (g : Nat) : Prop := ∀ i, i < 9 → ∃ (A : Option Addr) (l : List UInt8), W.cell? ⟨g, i, none⟩ = some (.slice A l.length l.length) ∧ Rd W A l ∧ l.length ≤ 8

/-- A row of noughts that is made. -/
theorem make_row (w : World) (n : Nat) (hn : n ≤ 1000000) : ∃ w' z, (Instr.makeSlice 22 (.int .i64 (n : Int)) (.int .i64 (n : Int))).run Try.prog w = .ok (.slice (some ⟨w.heap.size, 0, none⟩) n n) w' ∧ Below w.heap.size w w' ∧ z.length = n ∧ Rd w' (some ⟨w.heap.size, 0, none⟩) z := by
  obtain ⟨i0, hi, hz0, hz1, hz2⟩ := info_parts Try.infoU8
  obtain ⟨w5, hrun, r1, r2⟩ := run_make_full (P := Try.prog) w w.heap.size 22 5 i0 (.int .u8 0) 1 Try.underlying22 hi hz0 hz1 .i64 .i64 n (by rw [hz2]; omega) (by unfold maxLen; omega) (Nat.le_refl _)
  rw [made_bytes] at r1
  obtain ⟨z, hz⟩ : ∃ z : List UInt8, z = List.replicate n 0 := ⟨_, rfl⟩
  have hzl : z.length = n := by rw [hz, List.length_replicate]
  rw [← hz] at r1
  obtain ⟨X', c', e, _, hr⟩ := own_form (l := z) (by rw [hzl]; exact own_base r1)
  injection e with e1
  subst e1
  exact ⟨w5, z, hrun, (Below.refl _ _).grown r2 (Nat.le_refl _) (fun k hk => by cases hk), hzl, hr⟩

set_option maxHeartbeats 4000000 in
set_option maxRecDepth 100000 in
theorem numbers_any (C : WSaid) (R : RSaid codecFns) (hM : RMake R) (w : World) :
    Calls Try.prog 3 #[] w fun e w' => e = .returned (.bool true) ∧ Below w.heap.size w w' := by
  go_enter Try.func3, Try.ntmps3
  go_upto_block 0 with (fail)
  obtain ⟨w1, hw1⟩ : ∃ x, x = w.alloc (.cells #[.int .u8 0] 5) := ⟨_, rfl⟩
  rw [← hw1]
  have s1 : w1.heap.size = w.heap.size + 1 := by rw [hw1, World.size_alloc]
  have r1 : Rd w1 (some ⟨w.heap.size, 0, none⟩) [0] := by rw [hw1]; exact row_new rfl [0] _ _ _ rfl
  have b1 : Below w.heap.size w w1 := by rw [hw1]; exact below_new _ _
  obtain ⟨w2, hw2⟩ : ∃ x, x = w1.alloc (.cells #[.int .u8 1] 5) := ⟨_, rfl⟩
  rw [← hw2]
  have s2 : w2.heap.size = w.heap.size + 1 + 1 := by rw [hw2, World.size_alloc, s1]
  have r2 : Rd w2 (some ⟨w.heap.size + 1, 0, none⟩) [1] := by rw [hw2]; exact row_new s1 [1] _ _ _ rfl
  have b2 : Below w1.heap.size w1 w2 := by rw [hw2]; exact below_new _ _
  have B2 : Below w.heap.size w w2 := b1.trans (b2.mono (by omega))
  obtain ⟨w3, hw3⟩ : ∃ x, x = w2.alloc (.cells #[.int .u8 2] 5) := ⟨_, rfl⟩
  rw [← hw3]
  have s3 : w3.heap.size = w.heap.size + 1 + 1 + 1 := by rw [hw3, World.size_alloc, s2]
  have r3 : Rd w3 (some ⟨w.heap.size + 1 + 1, 0, none⟩) [2] := by rw [hw3]; exact row_new s2 [2] _ _ _ rfl
  have b3 : Below w2.heap.size w2 w3 := by rw [hw3]; exact below_new _ _
  have B3 : Below w.heap.size w w3 := B2.trans (b3.mono (by omega))
  obtain ⟨w4, hw4⟩ : ∃ x, x = w3.alloc (.cells #[.int .u8 0, .int .u8 3, .int .u8 1, .int .u8 2] 5) := ⟨_, rfl⟩
  rw [← hw4]
  have s4 : w4.heap.size = w.heap.size + 1 + 1 + 1 + 1 := by rw [hw4, World.size_alloc, s3]
  have r4 : Rd w4 (some ⟨w.heap.size + 1 + 1 + 1, 0, none⟩) [0, 3, 1, 2] := by rw [hw4]; exact row_new s3 [0, 3, 1, 2] _ _ _ rfl
  have b4 : Below w3.heap.size w3 w4 := by rw [hw4]; exact below_new _ _
  have B4 : Below w.heap.size w w4 := B3.trans (b4.mono (by omega))
  obtain ⟨w5, hw5⟩ : ∃ x, x = w4.alloc (.cells #[.int .u8 0, .int .u8 3, .int .u8 1, .int .u8 2, .int .u8 3] 5) := ⟨_, rfl⟩
  rw [← hw5]
  have s5 : w5.heap.size = w.heap.size + 1 + 1 + 1 + 1 + 1 := by rw [hw5, World.size_alloc, s4]
  have r5 : Rd w5 (some ⟨w.heap.size + 1 + 1 + 1 + 1, 0, none⟩) [0, 3, 1, 2, 3] := by rw [hw5]; exact row_new s4 [0, 3, 1, 2, 3] _ _ _ rfl
  have b5 : Below w4.heap.size w4 w5 := by rw [hw5]; exact below_new _ _
  have B5 : Below w.heap.size w w5 := B4.trans (b5.mono (by omega))
  obtain ⟨w6, hw6⟩ : ∃ x, x = w5.alloc (.cells #[.int .u8 1, .int .u8 2, .int .u8 3, .int .u8 4, .int .u8 5, .int .u8 6, .int .u8 7] 5) := ⟨_, rfl⟩
  rw [← hw6]
  have s6 : w6.heap.size = w.heap.size + 1 + 1 + 1 + 1 + 1 + 1 := by rw [hw6, World.size_alloc, s5]
  have r6 : Rd w6 (some ⟨w.heap.size + 1 + 1 + 1 + 1 + 1, 0, none⟩) [1, 2, 3, 4, 5, 6, 7] := by rw [hw6]; exact row_new s5 [1, 2, 3, 4, 5, 6, 7] _ _ _ rfl
  have b6 : Below w5.heap.size w5 w6 := by rw [hw6]; exact below_new _ _
  have B6 : Below w.heap.size w w6 := B5.trans (b6.mono (by omega))
  obtain ⟨w7, hw7⟩ : ∃ x, x = w6.alloc (.cells #[.int .u8 1, .int .u8 2, .int .u8 3, .int .u8 4, .int .u8 5, .int .u8 6, .int .u8 7, .int .u8 8] 5) := ⟨_, rfl⟩
  rw [← hw7]
  have s7 : w7.heap.size = w.heap.size + 1 + 1 + 1 + 1 + 1 + 1 + 1 := by rw [hw7, World.size_alloc, s6]
  have r7 : Rd w7 (some ⟨w.heap.size + 1 + 1 + 1 + 1 + 1 + 1, 0, none⟩) [1, 2, 3, 4, 5, 6, 7, 8] := by rw [hw7]; exact row_new s6 [1, 2, 3, 4, 5, 6, 7, 8] _ _ _ rfl
  have b7 : Below w6.heap.size w6 w7 := by rw [hw7]; exact below_new _ _
  have B7 : Below w.heap.size w w7 := B6.trans (b7.mono (by omega))
  obtain ⟨w8, hw8⟩ : ∃ x, x = w7.alloc (.cells #[.int .u8 255, .int .u8 255, .int .u8 1] 5) := ⟨_, rfl⟩
  rw [← hw8]
  have s8 : w8.heap.size = w.heap.size + 1 + 1 + 1 + 1 + 1 + 1 + 1 + 1 := by rw [hw8, World.size_alloc, s7]
  have r8 : Rd w8 (some ⟨w.heap.size + 1 + 1 + 1 + 1 + 1 + 1 + 1, 0, none⟩) [255, 255, 1] := by rw [hw8]; exact row_new s7 [255, 255, 1] _ _ _ rfl
  have b8 : Below w7.heap.size w7 w8 := by rw [hw8]; exact below_new _ _
  have B8 : Below w.heap.size w w8 := B7.trans (b8.mono (by omega))
  obtain ⟨W, hW⟩ : ∃ x, x = w8.alloc (.cells #[.slice none 0 0, .slice (some ⟨w.heap.size, 0, none⟩) 1 1, .slice (some ⟨w.heap.size + 1, 0, none⟩) 1 1, .slice (some ⟨w.heap.size + 1 + 1, 0, none⟩) 1 1, .slice (some ⟨w.heap.size + 1 + 1 + 1, 0, none⟩) 4 4, .slice (some ⟨w.heap.size + 1 + 1 + 1 + 1, 0, none⟩) 5 5, .slice (some ⟨w.heap.size + 1 + 1 + 1 + 1 + 1, 0, none⟩) 7 7, .slice (some ⟨w.heap.size + 1 + 1 + 1 + 1 + 1 + 1, 0, none⟩) 8 8, .slice (some ⟨w.heap.size + 1 + 1 + 1 + 1 + 1 + 1 + 1, 0, none⟩) 3 3] 22) := ⟨_, rfl⟩
  rw [← hW]
  have b9 : Below w8.heap.size w8 W := by rw [hW]; exact below_new _ _
  have B9 : Hid (Below w.heap.size w W) := B8.trans (b9.mono (by omega))
  have bl : Blk W (w.heap.size + 1 + 1 + 1 + 1 + 1 + 1 + 1 + 1) 22 [.slice none 0 0, .slice (some ⟨w.heap.size, 0, none⟩) 1 1, .slice (some ⟨w.heap.size + 1, 0, none⟩) 1 1, .slice (some ⟨w.heap.size + 1 + 1, 0, none⟩) 1 1, .slice (some ⟨w.heap.size + 1 + 1 + 1, 0, none⟩) 4 4, .slice (some ⟨w.heap.size + 1 + 1 + 1 + 1, 0, none⟩) 5 5, .slice (some ⟨w.heap.size + 1 + 1 + 1 + 1 + 1, 0, none⟩) 7 7, .slice (some ⟨w.heap.size + 1 + 1 + 1 + 1 + 1 + 1, 0, none⟩) 8 8, .slice (some ⟨w.heap.size + 1 + 1 + 1 + 1 + 1 + 1 + 1, 0, none⟩) 3 3] := by rw [hW, ← s8]; exact Blk.new _ _ _
  have HTB : Hid (Table W (w.heap.size + 1 + 1 + 1 + 1 + 1 + 1 + 1 + 1)) := by
    intro i hi
    match i, hi with
    | 0, _ => exact ⟨none, [], by rw [bl.cell]; rfl, Rd.nil _ _, by decide⟩
    | 1, _ => exact ⟨some ⟨w.heap.size, 0, none⟩, [0], by rw [bl.cell]; rfl, ((((((((r1).below b2).below b3).below b4).below b5).below b6).below b7).below b8).below b9, by decide⟩
    | 2, _ => exact ⟨some ⟨w.heap.size + 1, 0, none⟩, [1], by rw [bl.cell]; rfl, (((((((r2).below b3).below b4).below b5).below b6).below b7).below b8).below b9, by decide⟩
    | 3, _ => exact ⟨some ⟨w.heap.size + 1 + 1, 0, none⟩, [2], by rw [bl.cell]; rfl, ((((((r3).below b4).below b5).below b6).below b7).below b8).below b9, by decide⟩
    | 4, _ => exact ⟨some ⟨w.heap.size + 1 + 1 + 1, 0, none⟩, [0, 3, 1, 2], by rw [bl.cell]; rfl, (((((r4).below b5).below b6).below b7).below b8).below b9, by decide⟩
    | 5, _ => exact ⟨some ⟨w.heap.size + 1 + 1 + 1 + 1, 0, none⟩, [0, 3, 1, 2, 3], by rw [bl.cell]; rfl, ((((r5).below b6).below b7).below b8).below b9, by decide⟩
    | 6, _ => exact ⟨some ⟨w.heap.size + 1 + 1 + 1 + 1 + 1, 0, none⟩, [1, 2, 3, 4, 5, 6, 7], by rw [bl.cell]; rfl, (((r6).below b7).below b8).below b9, by decide⟩
    | 7, _ => exact ⟨some ⟨w.heap.size + 1 + 1 + 1 + 1 + 1 + 1, 0, none⟩, [1, 2, 3, 4, 5, 6, 7, 8], by rw [bl.cell]; rfl, ((r7).below b8).below b9, by decide⟩
    | 8, _ => exact ⟨some ⟨w.heap.size + 1 + 1 + 1 + 1 + 1 + 1 + 1, 0, none⟩, [255, 255, 1], by rw [bl.cell]; rfl, (r8).below b9, by decide⟩
    | _ + 9, h => omega
  clear bl b9 hW r8 b8 hw8 s8 r7 b7 hw7 s7 r6 b6 hw6 s6 r5 b5 hw5 s5 r4 b4 hw4 s4 r3 b3 hw3 s3 r2 b2 hw2 s2 r1 b1 hw1 s1 B8 B7 B6 B5 B4 B3 B2
  obtain ⟨g, hg⟩ : ∃ g, g = w.heap.size + 1 + 1 + 1 + 1 + 1 + 1 + 1 + 1 := ⟨_, rfl⟩
  rw [← hg] at HTB ⊢
  clear hg
  go_cut [17] (fun t17 wx => Hid (Below W.heap.size W wx))
  case first =>
    have H0 : Hid (Below W.heap.size W W) := Below.refl _ _
    go_wp2_with fail
    go_loopw [17] (fun t17 wr => ∃ i : Nat, i ≤ 9 ∧ t17 = .int .i64 (i : Nat) ∧ Hid (Below W.heap.size W wr)) (fun t17 _ => 9 - (intOf t17).toNat)
    case atStart => exact ⟨0, by omega, rfl, H0⟩
    case round =>
      obtain ⟨i, hi, rfl, HB⟩ := hrel
      by_cases hlt : i < 9
      · obtain ⟨A, l, hc, hr, hl⟩ := HTB.out i hlt
        have hgl : g < W.heap.size := cell_lt hc
        have c0 := (HB.out.cell (p := ⟨g, i, none⟩) hgl).trans hc
        have HR := Lib.hid hr
        clear hc hr
        have d9 : decide ((i : Int) < 9) = true := by simp only [decide_eq_true_eq]; omega
        go_wp2_with fail
        go_loopw [3] (fun t3 wr => ∃ k : Nat, 1 ≤ k ∧ k ≤ 7 ∧ t3 = .int .i64 (k : Nat) ∧ Hid (Below W.heap.size W wr)) (fun t3 _ => 7 - (intOf t3).toNat)
        case atStart => exact ⟨1, by omega, by omega, rfl, HB⟩
        case round =>
          clear c0
          obtain ⟨k, hk0, hk, rfl, HB2⟩ := hrel
          by_cases hlt2 : k ≤ 6
          · have HR2 : Hid (Rd wr A l) := HR.out.below HB2.out
            go_wp2_with fail
            refine (hM.new wr A l l.length HR2.out (Nat.le_refl _) (by omega)).mono ?_
            rintro e w3 ⟨v, S7, rfl, hat7, hb7, hS7⟩
            obtain ⟨ar, rfl⟩ := R.ptr hat7
            have HTW := Lib.hid (two_new R (c4 := l.length) hat7 hb7 hS7 HR2.out HR2.out (Nat.le_refl _) (by omega))
            have HB3 := Lib.hid (HB2.out.trans (hb7.mono HB2.out.size))
            have HX8 := Lib.hid (fun k (hk : S7 k ∨ k = w3.heap.size) => (show W.heap.size ≤ k from hk.elim (fun h => Nat.le_trans HB2.out.size (hS7 k h)) (fun h => by have := HB3.out.size; omega)))
            have HB8 := Lib.hid (HB3.out.trans ((below_new w3 (.cells #[.slice A l.length l.length, .int .i64 0, .int .i64 0] 28)).mono HB3.out.size))
            clear hat7 hb7 hS7 HR2 HB3
            go_wp2_with fail
            refine (get_any R _ _ _ _ l _ _ _ _ _ _ HTW.out (((k : Nat) : Int)) 5 (by omega) none 0 0).mono ?_
            intro e w4 hget
            obtain ⟨rfl, HT0⟩ := hget.to
            clear hget
            obtain ⟨t0, D0, E0, htw0⟩ := HT0.out
            have HW0 := Lib.hid htw0
            clear htw0
            go_wp2_with fail
            refine (get_any R _ _ _ _ l _ _ _ _ _ _ HW0.out (1) 0 (by omega) none 0 0).mono ?_
            intro e w5 hget
            obtain ⟨rfl, HT1⟩ := hget.to
            clear hget
            obtain ⟨t1, D1, E1, htw1⟩ := HT1.out
            have HW1 := Lib.hid htw1
            clear htw1
            go_wp2_with fail
            refine (get_any R _ _ _ _ l _ _ _ _ _ _ HW1.out (4) 0 (by omega) none 0 0).mono ?_
            intro e w6 hget
            obtain ⟨rfl, HT2⟩ := hget.to
            clear hget
            obtain ⟨t2, D2, E2, htw2⟩ := HT2.out
            have HW2 := Lib.hid htw2
            clear htw2
            go_wp2_with fail
            refine (get_any R _ _ _ _ l _ _ _ _ _ _ HW2.out (5) 0 (by omega) none 0 0).mono ?_
            intro e w7 hget
            obtain ⟨rfl, HT3⟩ := hget.to
            clear hget
            obtain ⟨t3, D3, E3, htw3⟩ := HT3.out
            have HB9 : Hid (Below W.heap.size W w7) := wout_below HB8.out HX8.out htw3.mod
            clear htw3 HT3 HW0 HW1 HW2 HT0 HT1 HT2 HTW
            go_wp2_with fail
            go_roundw
            case rel => exact ⟨k + 1, by omega, by omega, by go_num, HB9⟩
            case measure => simp [intOf]; omega
          · obtain rfl : k = 7 := by omega
            go_wp2_with fail
            go_roundw
            case rel => exact ⟨i + 1, by omega, by go_num, HB2⟩
            case measure => simp [intOf]; omega
      · obtain rfl : i = 9 := by omega
        go_wp2_with fail
        go_meet
        case rel => exact HB
  case rest =>
    have HB1 := Lib.hid (B9.out.trans (hcut.out.mono B9.out.size))
    go_wp2_with fail
    refine (WAt.new C wc).mono ?_
    rintro e w4 ⟨a, rfl, HW⟩
    obtain ⟨w5, z, hrun, hB5, hzl, hr⟩ := make_row w4 70000 (by omega)
    have hrun2 : (Instr.makeSlice 22 (.int .i64 70000) (.int .i64 70000)).run Try.prog w4 = .ok (.slice (some ⟨w4.heap.size, 0, none⟩) 70000 70000) w5 := hrun
    have HR := Lib.hid hr
    have HB5 := Lib.hid hB5
    have HZ := Lib.hid hzl
    clear hzl hB5 hr hrun
    go_wp2_with fail
    have hby := HW.out.bytes2 (by simp) HB5.out _ z 70000 HR.out (fun b hb => by simp at hb; omega) (by rw [HZ.out]; omega) (by rw [HZ.out]; omega)
    rw [HZ.out] at hby
    refine hby.mono ?_
    rintro e w6 ⟨⟨x, rfl⟩, HW2⟩
    have HBL : Hid (([] ++ Co.wBytes z : List UInt8).length = 65537) := by
      show _ = _
      simp only [List.nil_append, Co.wBytes, List.length_append, Co.wShort, List.length_cons, List.length_nil, List.length_take]
      rw [HZ.out, Nat.min_eq_left (by omega)]
    clear hby hrun2 HW HR HB5
    go_wp2_with fail
    refine HW2.out.done.mono ?_
    rintro e w7 ⟨X, c, rfl, hc, _, _, _, HW3⟩
    rw [HBL.out]
    have HB6 := Lib.hid (HB1.out.trans (HW3.out.low.mono HB1.out.size))
    clear HW2 HW3 hc
    go_wp2_with fail
    refine (known4_any C w7).mono ?_
    rintro e w8 ⟨rfl, hb⟩
    have HB7 := Lib.hid (HB6.out.trans (hb.mono HB6.out.size))
    clear hb
    go_wp2_with fail
    go_ret
    exact ⟨rfl, HB7.out⟩
end Go.Proofs.Ytpnnikifaalkoaa

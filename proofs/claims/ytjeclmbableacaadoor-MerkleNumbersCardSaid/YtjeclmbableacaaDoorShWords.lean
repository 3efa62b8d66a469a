/-
  OWN WORK. SHA-256: a block's words, by its contract.
-/
import Derived.Test.YtjeclmbableacaaDoorShLast
namespace Go.Proofs.YtjeclmbableacaaDoor
open Go.RowKit Sh

/-- Where a block's words stand behind so many. -/
def WordsAt (l : List UInt8) (B : Nat) (w0 wr : World) (i : Nat) : Prop :=
  i ≤ 16 ∧ Blk wr (B + 1) 68 (words32 ((List.range i).map (wordAt (l ++ [128]))) ++ noughts (16 - i)) ∧ Blk wr B 68 (noughts 16) ∧ Below B w0 wr
theorem WordsAt.step {l : List UInt8} {B : Nat} {w0 wr : World} {i : Nat} (h : WordsAt l B w0 wr i) (hi : i < 16) (x : Int) (hx : x = wordAt (l ++ [128]) i) : WordsAt l B w0 (wr.setCell ⟨B + 1, i, none⟩ (.int .u32 x)) (i + 1) := by
  obtain ⟨h0, h1, h2, h3⟩ := h
  refine ⟨by omega, ?_, h2.far (by simp) _, h3.setCell (by simp) _⟩
  have h4 := h1.set_ i (.int .u32 x)
  have hl : (words32 ((List.range i).map (wordAt (l ++ [128])))).length = i := by simp
  have e3 : noughts (16 - i) = .int .u32 0 :: noughts (16 - (i + 1)) := by
    have : 16 - i = (16 - (i + 1)) + 1 := by omega
    rw [this]; rfl
  rw [e3] at h4
  have e4 : (words32 ((List.range i).map (wordAt (l ++ [128]))) ++ Value.int IntKind.u32 0 :: noughts (16 - (i + 1))).set i (.int .u32 x) = words32 ((List.range (i + 1)).map (wordAt (l ++ [128]))) ++ noughts (16 - (i + 1)) := by
    rw [List.set_append_right _ _ (by omega), hl, Nat.sub_self, List.set_cons_zero, List.range_succ, List.map_append, words32_append, hx]
    simp [words32]
  rw [e4] at h4
  exact h4
theorem WordsAt.drew {l : List UInt8} {B : Nat} {w0 wr : World} {i : Nat} (h : WordsAt l B w0 wr i) : WordsAt l B w0 wr.drew i := ⟨h.1, h.2.1, h.2.2.1, h.2.2.2.drew⟩
theorem WordsAt.room {l : List UInt8} {B : Nat} {w0 wr : World} {i : Nat} (h : WordsAt l B w0 wr i) (hi : i < 16) : wr.cell? ⟨B + 1, i, none⟩ = some (.int .u32 0) := by
  obtain ⟨h0, h1, _⟩ := h
  have hl : (words32 ((List.range i).map (wordAt (l ++ [128])))).length = i := by simp
  rw [h1.cell, List.getElem?_append_right (by omega), hl, Nat.sub_self]
  unfold noughts
  rw [words32_get _ _ (by simp; omega)]
  obtain ⟨m, hm⟩ : ∃ m, 16 - i = m + 1 := ⟨15 - i, by omega⟩
  rw [hm]; rfl
theorem WordsAt.full {l : List UInt8} {B : Nat} {w0 wr : World} {i : Nat} (h : WordsAt l B w0 wr i) (hl : l.length + 1 ≤ 4 * i ∨ i = 16) : Blk wr (B + 1) 68 (words32 (wordsOf l)) := by
  obtain ⟨h0, h1, _⟩ := h
  have e : words32 (wordsOf l) = words32 ((List.range i).map (wordAt (l ++ [128]))) ++ noughts (16 - i) := by
    unfold wordsOf
    rw [show (16 : Nat) = i + (16 - i) by omega, List.range_add, List.map_append, words32_append, Nat.add_sub_cancel_left]
    congr 1
    unfold noughts
    congr 1
    apply List.ext_getElem
    · simp
    · intro k hk1 hk2
      simp only [List.length_map, List.length_range] at hk1
      simp only [List.getElem_map, List.getElem_range, List.getElem_replicate]
      exact wordAt_far _ _ (by simp; omega)
  rw [e]; exact h1
theorem words_facts (l : List UInt8) : Hid ((Tryd.prog.info? 68).map (·.size) = some (words32 (wordsOf l)).toArray.size) ∧ Hid ((words32 (wordsOf l)).toArray.all (·.oneCell') = true) ∧ Hid ((noughts 16).toArray.size = (words32 (wordsOf l)).toArray.size) := by
  have hsz : (words32 (wordsOf l)).toArray.size = 16 := by simp [wordsOf_length]
  refine ⟨?_, ?_, ?_⟩
  · show _ = _
    rw [hsz]; kernel_rfl
  · show _ = _
    rw [Array.all_eq_true]
    intro j hj
    exact words32_one (wordsOf l) _ (by simp)
  · show _ = _
    rw [hsz]; rfl

def lenOf : Value → Nat | .slice _ n _ => n | _ => 0

set_option maxHeartbeats 1000000 in
set_option maxRecDepth 100000 in
theorem words_any (l : List UInt8) (hl : l.length ≤ 64) (A : Option Addr) (cap : Nat) (hcap : l.length ≤ cap) (w : World) (hr : Rd w A l) :
    Calls Tryd.prog 48 #[.slice A l.length cap] w fun e w' => e = .returned (.agg (words32 (wordsOf l)).toArray) ∧ Below w.heap.size w w' := by
  have HR : Hid (Rd w A l) := hr
  clear hr
  go_enter Tryd.func48, Tryd.ntmps48
  go_upto_region 2 with (fail)
  refine wp_world (fun W => Hid (WordsAt l w.heap.size w W 0)) ?_ ?_
  · have e1 := Blk.new w 68 (noughts 16)
    have e2 := Blk.new (w.alloc (.cells (noughts 16).toArray 68)) 68 (noughts 16)
    rw [World.size_alloc] at e2
    have hb : Below w.heap.size w ((w.alloc (.cells (noughts 16).toArray 68)).alloc (.cells (noughts 16).toArray 68)) := ((Below.refl _ _).alloc (Nat.le_refl _) _).alloc (by simp) _
    exact ⟨by omega, e2, e1.alloc _, hb⟩
  intro W HW
  go_wp2_with fail
  go_loopw [0, 4] (fun t0 t4 wr => ∃ (i : Nat) (A' : Option Addr) (r : List UInt8) (c : Nat), t4 = .int .i64 i ∧ t0 = .slice A' r.length c ∧ r.length ≤ c ∧ Hid (Rd w A' r) ∧ Hid (r = l.drop (4 * i)) ∧ 4 * i + r.length ≤ 64 ∧ Hid (WordsAt l w.heap.size w wr i) ∧ Hid (4 * i + r.length = l.length)) (fun t0 _ _ => lenOf t0)
  case atStart => exact ⟨0, A, l, cap, rfl, rfl, hcap, HR, rfl, by omega, HW, show _ = _ by omega⟩
  case round =>
    obtain ⟨i, A', r, c, rfl, rfl, hc, HRD, HE, h64, HW, HL⟩ := hrel
    by_cases hlt : 4 ≤ r.length
    · obtain ⟨b, off, rfl, hb, hcell⟩ := (HRD.out.below HW.out.2.2.2).at_ (by omega)
      have c0 := hcell 0 (by omega)
      have c1 := hcell 1 (by omega)
      have c2 := hcell 2 (by omega)
      have c3 := hcell 3 (by omega)
      rw [Nat.add_zero] at c0
      have HX : Hid (word4 (r.getD 0 0) (r.getD 1 0) (r.getD 2 0) (r.getD 3 0) = wordAt (l ++ [128]) i) := by
        show _ = _
        have e : wordAt r 0 = wordAt (l ++ [128]) i := by
          rw [HE.out, wordAt_drop, wordAt_append _ _ _ (by have := HL.out; omega), Nat.add_zero]
        exact e
      have u0 := (r.getD 0 0).toNat_lt
      have u1 := (r.getD 1 0).toNat_lt
      have u2 := (r.getD 2 0).toNat_lt
      have u3 := (r.getD 3 0).toNat_lt
      generalize r.getD 0 0 = x0 at *
      generalize r.getD 1 0 = x1 at *
      generalize r.getD 2 0 = x2 at *
      generalize r.getD 3 0 = x3 at *
      have cr := HW.out.room (by omega)
      have cf := HW.out.2.1.frozen i
      have HN : Hid (r.drop 4 = l.drop (4 * (i + 1))) := by
        show _ = _
        rw [HE.out, List.drop_drop]
        congr 1
      have hln : r.length - 4 = (r.drop 4).length := by simp
      have HLN := Lib.hid hln
      have HRN : Hid (Rd w (if c = 4 then some ⟨b, off, none⟩ else (some (⟨b, off, none⟩ : Addr)).map (·.add 4)) (r.drop 4)) := HRD.out.cut 4 c hc
      have HL2 : Hid (4 * (i + 1) + (r.drop 4).length = l.length) := by show _ = _; have := HL.out; rw [← hln]; omega
      have HWN : Hid (WordsAt l w.heap.size w (wr.setCell ⟨w.heap.size + 1, i, none⟩ (.int .u32 (word4 x0 x1 x2 x3))) (i + 1)) := HW.out.step (by omega) _ HX.out
      clear hcell hln
      by_cases hc4 : c = 4
      · subst hc4
        have hr4 : r.length = 4 := by omega
        have HRN3 : Hid (Rd w (some ⟨b, off, none⟩) (r.drop 4)) := by have := HRN.out; rw [if_pos rfl] at this; exact this
        have H0 : Hid ((r.drop 4).length = 0) := by show _ = _; simp; omega
        go_wp2_with fail
        go_region
        all_goals
          go_wp2_with fail
          go_roundw
          case rel => exact ⟨i + 1, _, r.drop 4, 0, by go_num, by rw [H0.out], by rw [H0.out]; omega, HRN3, HN, by rw [H0.out]; omega, HWN.out.drew, HL2⟩
          case measure => simp [lenOf]; omega
      · have HRN2 : Hid (Rd w (some ⟨b, off + 4, none⟩) (r.drop 4)) := by
          have := HRN.out
          rw [if_neg hc4] at this
          simp only [Option.map_some, add_plain] at this
          exact this
        go_wp2_with fail
        go_region
        all_goals
          go_wp2_with fail
          go_roundw
          case rel => exact ⟨i + 1, _, r.drop 4, c - 4, by go_num, by rw [HLN.out], by rw [← HLN.out]; omega, HRN2, HN, by rw [← HLN.out]; omega, HWN.out.drew, HL2⟩
          case measure => simp [lenOf]; omega
    · go_upto_region 7 with (fail)
      have hB : Hid (Below w.heap.size w wr) := HW.out.2.2.2
      obtain ⟨HI, HA, HZ⟩ := words_facts l
      by_cases hi : i < 16
      · have HX : Hid (wordAt (r ++ [128]) 0 = wordAt (l ++ [128]) i) := by
          show _ = _
          have e : r ++ [128] = (l ++ [128]).drop (4 * i) := by
            rw [List.drop_append_of_le_length (by have := HL.out; omega), HE.out]
          rw [e, wordAt_drop, Nat.add_zero]
        have cr := HW.out.room hi
        have cf := HW.out.2.1.frozen i
        have HN := HW.out.step hi _ HX.out
        have HB2 : Hid (Blk (wr.setCell ⟨w.heap.size + 1, i, none⟩ (.int .u32 (wordAt (r ++ [128]) 0))) (w.heap.size + 1) 68 (words32 (wordsOf l))) := HN.full (.inl (by have := HL.out; omega))
        have HR2 : Hid (Blk (wr.setCell ⟨w.heap.size + 1, i, none⟩ (.int .u32 (wordAt (r ++ [128]) 0))) w.heap.size 68 (noughts 16)) := HN.2.2.1
        have HW2 : Hid (Below w.heap.size w (wr.setCell ⟨w.heap.size + 1, i, none⟩ (.int .u32 (wordAt (r ++ [128]) 0)))) := HN.2.2.2
        clear HN
        go_wp2_with fail
        refine (lastWord_any r (by omega) _ _ _ (HRD.out.below hB.out)).mono ?_
        rintro e w' ⟨rfl, rfl⟩
        go_wp2_with (first
          | (refine wpList_load_row rfl 68 (.tmp 3) rfl (w.heap.size + 1) rfl 68 (words32 (wordsOf l)).toArray (0, 0) _ HB2.out Tryd.underlying68 rfl HI.out ?_)
          | (refine wpList_store_row rfl 68 (.tmp 2) (.tmp 42) rfl w.heap.size (words32 (wordsOf l)).toArray rfl rfl 68 (noughts 16).toArray HR2.out HI.out HZ.out HA.out ?_))
        exact bodyPost_ret (v := .agg (words32 (wordsOf l)).toArray) (results_cell_row rfl _ _ w.heap.size 68 (words32 (wordsOf l)).toArray (0, 0) _ rfl (Blk.row HR2.out _) Tryd.underlying68 rfl HI.out) rfl ⟨rfl, below_setRow HW2.out (by omega) _⟩
      · have HB2 : Hid (Blk wr (w.heap.size + 1) 68 (words32 (wordsOf l))) := HW.out.full (.inr (by have := HW.out.1; omega))
        have HR2 : Hid (Blk wr w.heap.size 68 (noughts 16)) := HW.out.2.2.1
        go_wp2_with (first
          | (refine wpList_load_row rfl 68 (.tmp 3) rfl (w.heap.size + 1) rfl 68 (words32 (wordsOf l)).toArray (0, 0) _ HB2.out Tryd.underlying68 rfl HI.out ?_)
          | (refine wpList_store_row rfl 68 (.tmp 2) (.tmp 42) rfl w.heap.size (words32 (wordsOf l)).toArray rfl rfl 68 (noughts 16).toArray HR2.out HI.out HZ.out HA.out ?_))
        exact bodyPost_ret (v := .agg (words32 (wordsOf l)).toArray) (results_cell_row rfl _ _ w.heap.size 68 (words32 (wordsOf l)).toArray (0, 0) _ rfl (Blk.row HR2.out _) Tryd.underlying68 rfl HI.out) rfl ⟨rfl, below_setRow hB.out (by omega) _⟩
end Go.Proofs.YtjeclmbableacaaDoor

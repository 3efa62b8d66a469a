/-
  OWN WORK. SHA-256: what a stream's Sum tells.
-/
import Derived.Test.YtjeclmbableacaaDoorShState
import Derived.Deep.RegionHeld3
import Derived.Deep.DeepCutAuto
import Derived.Maps.RangeWalk
namespace Go.Proofs.YtjeclmbableacaaDoor
open Go.RowKit Sh

theorem hash_facts (h : List Int) (hh : h.length = 8) : Hid ((Tryd.prog.info? 62).map (·.size) = some (words32 h).length) ∧ Hid ((Tryd.prog.info? 62).map (·.size) = some (words32 h).toArray.size) ∧ Hid ((words32 h).toArray.all (·.oneCell') = true) ∧ Hid ((noughts 8).toArray.size = (words32 h).toArray.size) := by
  have hl : (words32 h).length = 8 := by simp [hh]
  have hsz : (words32 h).toArray.size = 8 := by simp [hh]
  refine ⟨?_, ?_, ?_, ?_⟩
  · show _ = _
    rw [hl]; kernel_rfl
  · show _ = _
    rw [hsz]; kernel_rfl
  · show _ = _
    rw [Array.all_eq_true]
    intro j hj
    exact words32_one h _ (by simp)
  · show _ = _
    rw [hsz]; rfl
theorem Cells.src {h : List Int} {b : List UInt8} {hd al : Nat} {w : World} {B T : Nat} (hB : Blk w B T (Cells h b hd al)) : ∀ j v, (words32 h)[j]? = some v → w.cell? ((⟨B, 0, none⟩ : Addr).add j) = some v := by
  intro j v hv
  refine hB.src0 ?_
  have hj := (List.getElem?_eq_some_iff.1 hv).1
  rw [Cells, List.getElem?_append_left hj]
  exact hv

/-- What Sum goes on with: the stream, a copy of its hash, the words of its rest. -/
structure SumAt (l : List UInt8) (B n : Nat) (h : List Int) (w0 wr : World) : Prop where
  st : St wr B l
  hash : Blk wr n 62 (words32 h)
  k : KAt wr
  below : Below w0.heap.size w0 wr

/-- The same behind the block that may have been full: what is left is to put the length's words in, and to mix once more. -/
structure EndAt (l : List UInt8) (B n n4 : Nat) (h b : List Int) (w0 wr : World) : Prop where
  st : St wr B l
  hash : Blk wr n 62 (words32 h)
  blk : Blk wr n4 68 (words32 b)
  k : KAt wr
  below : Below w0.heap.size w0 wr
  hh : h.length = 8
  hb : b.length = 16
  sum : sumW l = Sh.mix h (ended b l.length)
theorem words_set (l : List Int) (i : Nat) (x : Int) : (words32 l).set i (.int .u32 x) = words32 (l.set i x) := by simp [words32, List.map_set]
theorem EndAt.ended {l : List UInt8} {B n n4 : Nat} {h b : List Int} {w0 wr : World} (x : EndAt l B n n4 h b w0 wr) : Blk ((wr.setCell ⟨n4, 14, none⟩ (.int .u32 (bitsHi l.length))).setCell ⟨n4, 15, none⟩ (.int .u32 (bitsLo l.length))) n4 68 (words32 (Sh.ended b l.length)) := by
  have := (x.blk.set_ 14 (.int .u32 (bitsHi l.length))).set_ 15 (.int .u32 (bitsLo l.length))
  rw [words_set, words_set] at this
  exact this
theorem EndAt.cell {l : List UInt8} {B n n4 : Nat} {h b : List Int} {w0 wr : World} (x : EndAt l B n n4 h b w0 wr) (i : Nat) (hi : i < 16) : wr.cell? ⟨n4, i, none⟩ = some (.int .u32 (b.getD i 0)) := by
  rw [x.blk.cell, words32_get _ _ (by rw [x.hb]; exact hi)]
theorem noughts_all (n : Nat) : (noughts n).toArray.all (·.oneCell') = true := by
  rw [Array.all_eq_true]
  intro j hj
  exact words32_one (List.replicate n 0) _ (by simp [noughts])
theorem ended_length (b : List Int) (n : Nat) (hb : b.length = 16) : (Sh.ended b n).length = 16 := by simp [Sh.ended, hb]
theorem bitsHi_eq (n : Nat) (h : n ≤ 1099511627776) : (n : Int) * 8 / 4294967296 = bitsHi n := by unfold bitsHi; omega

theorem SumAt.later {l : List UInt8} {B n : Nat} {h : List Int} {w0 W W' : World} (x : SumAt l B n h w0 W) (hb : Below W.heap.size W W') : SumAt l B n h w0 W' :=
  ⟨x.st.below hb, x.hash.below hb x.hash.lt, x.k.below hb x.k.pos, x.below.trans (hb.mono x.below.size)⟩
theorem fill16 {w : World} {g : Nat} {t : TypeId} (h : Blk w g t (noughts 16)) (x0 x1 x2 x3 x4 x5 x6 x7 x8 x9 xa xb xc xd xe xf : Int) :
    Blk ((((((((((((((((w.setCell ⟨g, 0, none⟩ (.int .u32 x0)).setCell ⟨g, 1, none⟩ (.int .u32 x1)).setCell ⟨g, 2, none⟩ (.int .u32 x2)).setCell ⟨g, 3, none⟩ (.int .u32 x3)).setCell ⟨g, 4, none⟩ (.int .u32 x4)).setCell ⟨g, 5, none⟩ (.int .u32 x5)).setCell ⟨g, 6, none⟩ (.int .u32 x6)).setCell ⟨g, 7, none⟩ (.int .u32 x7)).setCell ⟨g, 8, none⟩ (.int .u32 x8)).setCell ⟨g, 9, none⟩ (.int .u32 x9)).setCell ⟨g, 10, none⟩ (.int .u32 xa)).setCell ⟨g, 11, none⟩ (.int .u32 xb)).setCell ⟨g, 12, none⟩ (.int .u32 xc)).setCell ⟨g, 13, none⟩ (.int .u32 xd)).setCell ⟨g, 14, none⟩ (.int .u32 xe)).setCell ⟨g, 15, none⟩ (.int .u32 xf)) g t (words32 [x0, x1, x2, x3, x4, x5, x6, x7, x8, x9, xa, xb, xc, xd, xe, xf]) := by
  have := (((((((((((((((h.set_ 0 (.int .u32 x0)).set_ 1 (.int .u32 x1)).set_ 2 (.int .u32 x2)).set_ 3 (.int .u32 x3)).set_ 4 (.int .u32 x4)).set_ 5 (.int .u32 x5)).set_ 6 (.int .u32 x6)).set_ 7 (.int .u32 x7)).set_ 8 (.int .u32 x8)).set_ 9 (.int .u32 x9)).set_ 10 (.int .u32 xa)).set_ 11 (.int .u32 xb)).set_ 12 (.int .u32 xc)).set_ 13 (.int .u32 xd)).set_ 14 (.int .u32 xe)).set_ 15 (.int .u32 xf)
  exact this
theorem below16 {w0 w : World} {b g : Nat} (h : Below b w0 w) (hg : b ≤ g) (x0 x1 x2 x3 x4 x5 x6 x7 x8 x9 xa xb xc xd xe xf : Int) :
    Below b w0 ((((((((((((((((w.setCell ⟨g, 0, none⟩ (.int .u32 x0)).setCell ⟨g, 1, none⟩ (.int .u32 x1)).setCell ⟨g, 2, none⟩ (.int .u32 x2)).setCell ⟨g, 3, none⟩ (.int .u32 x3)).setCell ⟨g, 4, none⟩ (.int .u32 x4)).setCell ⟨g, 5, none⟩ (.int .u32 x5)).setCell ⟨g, 6, none⟩ (.int .u32 x6)).setCell ⟨g, 7, none⟩ (.int .u32 x7)).setCell ⟨g, 8, none⟩ (.int .u32 x8)).setCell ⟨g, 9, none⟩ (.int .u32 x9)).setCell ⟨g, 10, none⟩ (.int .u32 xa)).setCell ⟨g, 11, none⟩ (.int .u32 xb)).setCell ⟨g, 12, none⟩ (.int .u32 xc)).setCell ⟨g, 13, none⟩ (.int .u32 xd)).setCell ⟨g, 14, none⟩ (.int .u32 xe)).setCell ⟨g, 15, none⟩ (.int .u32 xf)) :=
  (((((((((((((((h.setCell hg _).setCell hg _).setCell hg _).setCell hg _).setCell hg _).setCell hg _).setCell hg _).setCell hg _).setCell hg _).setCell hg _).setCell hg _).setCell hg _).setCell hg _).setCell hg _).setCell hg _).setCell hg _

set_option maxHeartbeats 2000000 in
set_option maxRecDepth 100000 in
theorem streamSum_any (w : World) (B : Nat) (l : List UInt8) (hs : St w B l) (hK : KAt w) (hl : l.length ≤ 1099511627776) :
    Calls Tryd.prog 43 #[.pointer (some ⟨B, 0, none⟩)] w fun e w' => ∃ v, e = .returned v ∧ w'.ownsRow w.heap.size 5 1 v 32 (Lib.byteCells (sum l)) ∧ Below w.heap.size w w' := by
  have HS : Hid (St w B l) := hs
  have HK : Hid (KAt w) := hK
  have hlt := hs.lt
  clear hs hK
  obtain ⟨HI0, HI, HA, HZ⟩ := hash_facts (hashTo l (l.length / 64)) (hashTo_length _ _)
  have HSRC : Hid (∀ j v, (words32 (hashTo l (l.length / 64)))[j]? = some v → w.cell? ((⟨B, 0, none⟩ : Addr).add j) = some v) := by
    obtain ⟨junk, hj, hB⟩ := HS.out
    exact Cells.src hB
  have HN : Hid (Blk (w.alloc (.cells (noughts 8).toArray 62)) w.heap.size 62 (noughts 8)) := Blk.new w _ _
  go_enter Tryd.func43, Tryd.ntmps43
  go_upto_region 1 with (fail)
  go_wp2_with (first
    | (refine wpList_load_part rfl 62 (.tmp 8) rfl ⟨B, 0, none⟩ rfl (words32 (hashTo l (l.length / 64))) _ HSRC.out Tryd.underlying62 rfl HI0.out ?_)
    | (refine wpList_store_row rfl 62 (.tmp 3) (.tmp 9) rfl w.heap.size (words32 (hashTo l (l.length / 64))).toArray rfl rfl 62 (noughts 8).toArray HN.out HI.out HZ.out HA.out ?_))
  refine wp_world (fun W => Hid (SumAt l B w.heap.size (hashTo l (l.length / 64)) w W)) ?_ ?_
  · have hb : Below w.heap.size w ((w.alloc (.cells (noughts 8).toArray 62)).setRow w.heap.size (words32 (hashTo l (l.length / 64))).toArray) := below_setRow ((Below.refl _ _).alloc (Nat.le_refl _) _) (Nat.le_refl _) _
    exact ⟨HS.out.below hb, HN.out.row _, HK.out.below hb HK.out.pos, hb⟩
  intro W HW
  clear HI HA HZ HSRC HN
  have c72 : W.cell? ⟨B, 72, none⟩ = some (.int .i64 (rest l).length) := by
    obtain ⟨junk, hj, hB⟩ := HW.out.st
    rw [rest_length]
    exact Cells.held hB (hashTo_length _ _) (by rw [List.length_append]; exact hj)
  have hr64 : (rest l).length < 64 := by rw [rest_length]; omega
  have HRD : Hid (∀ W', Below W.heap.size W W' → Rd W' (some ⟨B, 8, none⟩) (rest l)) := by
    intro W' hb
    obtain ⟨junk, hj, hB⟩ := HW.out.st
    have h1 := Cells.rd (hB.below hb hB.lt) (hashTo_length _ _) (rest l).length
    rw [List.take_left] at h1
    exact h1
  have hBW : B < W.heap.size := HW.out.st.lt
  obtain ⟨x0, x1, x2, x3, x4, x5, x6, x7, x8, x9, xa, xb, xc, xd, xe, xf, hx⟩ : ∃ x0 x1 x2 x3 x4 x5 x6 x7 x8 x9 xa xb xc xd xe xf, wordsOf (rest l) = [x0, x1, x2, x3, x4, x5, x6, x7, x8, x9, xa, xb, xc, xd, xe, xf] := ⟨_, _, _, _, _, _, _, _, _, _, _, _, _, _, _, _, rfl⟩
  have HX := Lib.hid hx
  clear hx
  have HCALL : Hid (∀ W', Below W.heap.size W W' → Calls Tryd.prog 48 #[.slice (some ⟨B, 8, none⟩) (rest l).length 64] W' fun e w' => e = .returned (.agg #[.int .u32 x0, .int .u32 x1, .int .u32 x2, .int .u32 x3, .int .u32 x4, .int .u32 x5, .int .u32 x6, .int .u32 x7, .int .u32 x8, .int .u32 x9, .int .u32 xa, .int .u32 xb, .int .u32 xc, .int .u32 xd, .int .u32 xe, .int .u32 xf]) ∧ Below W'.heap.size W' w') := by
    intro W' hb
    have := words_any (rest l) (by omega) (some ⟨B, 8, none⟩) 64 (by omega) W' (HRD.out W' hb)
    rw [HX.out] at this
    exact this
  have hsl := fun W => arr64_h W B 8 (rest l).length (by omega)
  go_frame
  go_cut [4] (fun t4 wx => ∃ n4, t4 = .pointer (some ⟨n4, 0, none⟩) ∧ Hid (w.heap.size < n4) ∧ Hid (Blk wx n4 68 (words32 (wordsOf (rest l)))) ∧ Hid (SumAt l B w.heap.size (hashTo l (l.length / 64)) w wx))
  case first =>
    have hwW : w.heap.size < W.heap.size := HW.out.hash.lt
    go_region_with (go_at_call 48; refine (HCALL.out _ ?_).mono ?_; (first | exact (Below.refl _ W).drew | exact ((Below.refl _ W).alloc (Nat.le_refl _) _).drew); rintro e w1 ⟨rfl, hb1⟩; obtain ⟨hc1, hf1⟩ := bcell hb1)
    all_goals
      go_wp2_with fail
      go_meet
      rw [HX.out]
    · have hb2 : Below W.heap.size W w1 := undrew hb1
      have hsz := hb2.size
      exact ⟨_, rfl, Nat.lt_of_lt_of_le hwW hsz, Blk.new _ _ _, HW.out.later (hb2.alloc hsz _)⟩
    all_goals
      have hb2 : Below (W.heap.size + 1) (W.alloc (.cells (noughts 16).toArray 68)) w1 := by
        have h4 := undrew hb1
        rw [show ∀ w : World, w.drew.heap.size = w.heap.size from fun _ => rfl, World.size_alloc] at h4
        exact h4
      have hbk : Blk w1 W.heap.size 68 (noughts 16) := (Blk.new W 68 (noughts 16)).below hb2 (by omega)
      have hb3 : Below W.heap.size W w1 := ((Below.refl _ W).alloc (Nat.le_refl _) _).trans (hb2.mono (by omega))
      exact ⟨_, rfl, hwW, fill16 hbk _ _ _ _ _ _ _ _ _ _ _ _ _ _ _ _, HW.out.later (below16 hb3 (Nat.le_refl _) _ _ _ _ _ _ _ _ _ _ _ _ _ _ _ _)⟩
  case rest =>
    clear HCALL HRD HX hsl c72 HW hBW
    obtain ⟨n4, rfl, hn4, HB4, HW⟩ := hcut
    have c72 : wc.cell? ⟨B, 72, none⟩ = some (.int .i64 (rest l).length) := by
      obtain ⟨junk, hj, hB⟩ := HW.out.st
      rw [rest_length]
      exact Cells.held hB (hashTo_length _ _) (by rw [List.length_append]; exact hj)
    go_upto_if 23 with (fail)
    go_cut [] (fun wx => ∃ h b, Hid (EndAt l B w.heap.size n4 h b w wx))
    case first =>
      by_cases h56 : 56 ≤ (rest l).length
      · go_upto_region 4 with (fail)
        have HJ := block_facts (wordsOf (rest l)) (wordsOf_length _)
        have hG : 0 < w.heap.size := HK.out.pos
        have HM : Hid (sumW l = Sh.mix (Sh.mix (hashTo l (l.length / 64)) (wordsOf (rest l))) (ended (List.replicate 16 0) l.length)) := by
          show _ = _
          unfold sumW
          rw [if_pos h56]
        clear c72 h56
        go_wp2_with (first
          | (refine wpList_load_row rfl 68 (.tmp 4) rfl n4 rfl 68 (words32 (wordsOf (rest l))).toArray (0, 0) _ HB4.out Tryd.underlying68 rfl HJ.out ?_))
        have HH0 : Hid (Blk wc w.heap.size 62 (words32 (hashTo l (l.length / 64)) ++ [])) := by
          show Blk _ _ _ _
          rw [List.append_nil]
          exact HW.out.hash
        refine (mix_any (hashTo l (l.length / 64)) (hashTo_length _ _) [] (wordsOf (rest l)) (wordsOf_length _) w.heap.size 62 wc HH0.out HW.out.k hG).mono ?_
        rintro e w2 ⟨rfl, hb2, hk2⟩
        have HB2 : Hid (Blk w2 w.heap.size 62 (words32 (Sh.mix (hashTo l (l.length / 64)) (wordsOf (rest l))))) := by
          show Blk _ _ _ _
          rw [List.append_nil] at hb2
          exact hb2
        have HK2 : Hid (Keeps wc w2 w.heap.size) := hk2
        have HB42 : Hid (Blk w2 n4 68 (words32 (wordsOf (rest l)))) := HB4.out.grown hk2 (by have := hn4.out; simp; omega)
        have HZ16 : Hid ((words32 (wordsOf (rest l))).toArray.size = (noughts 16).toArray.size) := by show _ = _; simp [wordsOf_length, noughts_length]
        have HI16 : Hid ((Tryd.prog.info? 68).map (·.size) = some (noughts 16).toArray.size) := by show _ = _; kernel_rfl
        have HA16 : Hid ((noughts 16).toArray.all (·.oneCell') = true) := noughts_all 16
        clear hb2 hk2 HJ HH0
        go_wp2_with (first
          | (refine wpList_store_row rfl 68 (.tmp 4) (.tmp 26) rfl n4 (noughts 16).toArray rfl rfl 68 (words32 (wordsOf (rest l))).toArray HB42.out HI16.out HZ16.out HA16.out ?_))
        go_meet
        have hk3 : Keeps w2 (w2.setRow n4 (noughts 16).toArray) n4 := (Keeps.refl w2 n4).setRow _
        have hst2 : St w2 B l := HW.out.st.keeps HK2.out (by omega)
        refine ⟨Sh.mix (hashTo l (l.length / 64)) (wordsOf (rest l)), List.replicate 16 0, hst2.keeps hk3 (by have := hn4.out; omega), HB2.out.rowFar (by have := hn4.out; omega) _, HB42.out.row _, (HW.out.k.keeps HK2.out hG).keeps hk3 (by have := hn4.out; omega), below_setRow (Keeps.below HW.out.below HK2.out (Nat.le_refl _) (HW.out.below.size)) (by have := hn4.out; omega) _, mix_length _ _ (hashTo_length _ _), rfl, HM.out⟩
      · have HE : Hid (EndAt l B w.heap.size n4 (hashTo l (l.length / 64)) (wordsOf (rest l)) w wc) := ⟨HW.out.st, HW.out.hash, HB4.out, HW.out.k, HW.out.below, hashTo_length _ _, wordsOf_length _, by unfold sumW; rw [if_neg h56]⟩
        go_wp2_with fail
        go_meet
        exact ⟨_, _, HE⟩
    case rest =>
      clear c72 HW HB4
      obtain ⟨h, b, HE⟩ := hcut
      have c73 : wc.cell? ⟨B, 73, none⟩ = some (.int .i64 l.length) := by
        obtain ⟨junk, hj, hB⟩ := HE.out.st
        exact Cells.all hB (hashTo_length _ _) (by rw [List.length_append]; exact hj)
      have e14 := HE.out.cell 14 (by omega)
      have e15 := HE.out.cell 15 (by omega)
      have f14 := HE.out.blk.frozen 14
      have f15 := HE.out.blk.frozen 15
      generalize b.getD 14 0 = y14 at e14
      generalize b.getD 15 0 = y15 at e15
      have hG : 0 < w.heap.size := HK.out.pos
      have HHI := Lib.hid (bitsHi_eq l.length hl)
      go_upto_region 9 with (fail)
      refine wp_world (fun W => Hid (Blk W n4 68 (words32 (ended b l.length))) ∧ Hid (Blk W w.heap.size 62 (words32 h ++ [])) ∧ Hid (KAt W) ∧ Hid (Below w.heap.size w W)) ?_ ?_
      · have hb1 := HE.out.ended
        have hne := hn4.out
        rw [← HHI.out] at hb1
        refine ⟨hb1, ?_, ?_, ?_⟩
        · show Blk _ _ _ _
          rw [List.append_nil]
          exact (HE.out.hash.far (by simp; omega) _).far (by simp; omega) _
        · exact HE.out.k.below (((Below.refl n4 wc).setCell (Nat.le_refl _) _).setCell (Nat.le_refl _) _) (by omega)
        · exact (HE.out.below.setCell (by simp; omega) _).setCell (by simp; omega) _
      rintro W2 ⟨HB, HHS, HKW, HBW⟩
      have HJ := block_facts (ended b l.length) (ended_length b _ HE.out.hb)
      have HSUM := Lib.hid HE.out.sum
      have HHH := Lib.hid HE.out.hh
      have HBB := Lib.hid HE.out.hb
      clear c73 e14 e15 f14 f15 HHI HE
      go_wp2_with (first
        | (refine wpList_load_row rfl 68 (.tmp 4) rfl n4 rfl 68 (words32 (ended b l.length)).toArray (0, 0) _ HB.out Tryd.underlying68 rfl HJ.out ?_))
      refine (mix_any h HHH.out [] (ended b l.length) (ended_length b _ HBB.out) w.heap.size 62 W2 HHS.out HKW.out hG).mono ?_
      rintro e w3 ⟨rfl, hb3, hk3⟩
      have HB3 : Hid (Blk w3 w.heap.size 62 (words32 (sumW l) ++ [])) := by rw [HSUM.out]; exact hb3
      have HBW3 : Hid (Below w.heap.size w w3) := Keeps.below HBW.out hk3 (Nat.le_refl _) HBW.out.size
      clear hb3 hk3 HJ HHS HKW HBW HB
      go_wp2_with fail
      refine (bytes_any (sumW l) (sumW_length l) [] w.heap.size 62 w3 HB3.out).mono ?_
      rintro e w4 ⟨v, rfl, hown, hb4⟩
      have HF : Hid (w4.ownsRow w.heap.size 5 1 v 32 (Lib.byteCells (Sh.sum l)) ∧ Below w.heap.size w w4) := ⟨own_mono hown HBW3.out.size, HBW3.out.trans (hb4.mono HBW3.out.size)⟩
      clear hown hb4
      go_wp2_with fail
      go_ret
      exact ⟨_, rfl, HF.out⟩
end Go.Proofs.YtjeclmbableacaaDoor

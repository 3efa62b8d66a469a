/-
  OWN WORK. The document's tree: how deep it goes below a node.
-/
import Derived.Test.YtombmeppdhhjhaaRRfUnl
namespace Go.Proofs.Ytombmeppdhhjhaa
open Go.RowKit Rc
open Tr (Nm En T)
namespace Rf
variable {p : Nat} {nv dv ev : Value} {D : Nat → Prop} {t t' : T} {w w1 w2 : World}
theorem fold_bound (t : T) (n b : Nat) (h : ∀ i, Tr.high t n i ≤ n) : ∀ (l : List Nm) (m : Nat), m ≤ n + 1 → l.foldl (fun m k => max m (1 + Tr.high t n k.2)) m ≤ n + 1
  | [], _, hm => hm
  | k :: l, m, hm => by
    rw [List.foldl_cons]
    exact fold_bound t n b h l _ (by have := h k.2; omega)
theorem high_le (t : T) : ∀ (n : Nat) (i : Int), Tr.high t n i ≤ n
  | 0, _ => Nat.le_refl _
  | n + 1, i => by
    rw [Tr.high]
    exact fold_bound t n 0 (high_le t n) _ 0 (by omega)
theorem high_file (hG : Tr.Good t) (n : Nat) {i : Int} (h : Tr.kindOf t i ≠ 2) : Tr.high t n i = 0 := by
  cases n with
  | zero => rfl
  | succ n => rw [Tr.high, hG.file_kids h]; rfl
set_option maxHeartbeats 2000000 in
set_option maxRecDepth 100000 in
theorem deep_step (h : RA p nv dv ev D t w) (hG : Tr.Good t) (n : Nat) (hn : n ≤ 64) (i : Int) (hrec : ∀ k ∈ Tr.kids t i, Tr.kindOf t k.2 = 2 → ∀ W, Below w.heap.size w W → Calls Try.prog 92 #[.pointer (some ⟨p, 0, none⟩), .int .i64 k.2] W fun e w' => e = .returned (.int .i64 (Tr.high t n k.2 : Nat)) ∧ Below W.heap.size W w') :
    Calls Try.prog 92 #[.pointer (some ⟨p, 0, none⟩), .int .i64 i] w fun e w' => e = .returned (.int .i64 (Tr.high t (n + 1) i : Nat)) ∧ Below w.heap.size w w' := by
  have hhigh : Tr.high t (n + 1) i = (((Tr.flat t).filter fun y => y.1 == i).map (·.2)).foldl (fun m k => max m (1 + Tr.high t n k.2)) 0 := by
    rw [Tr.high, flat_kids hG.ris i]
  rw [hhigh]
  have HND : Hid (∀ W k, Below w.heap.size w W → Calls Try.prog 63 #[.pointer (some ⟨p, 0, none⟩), .int .i64 k] W fun e w' => e = .returned (.tuple #[(Tr.node t k).1.val, .bool (Tr.node t k).2]) ∧ Below W.heap.size W w') := fun W k hW => node_any (h.below hW).in_ (h.below hW).low k (by have := hG.few; omega)
  have HFH : Hid (∀ k, Tr.kindOf t k ≠ 2 → Tr.high t n k = 0) := fun k hk => high_file hG n hk
  have HHL : Hid (∀ k, Tr.high t n k ≤ n) := high_le t n
  have HKD : Hid (∀ y ∈ Tr.flat t, y.1 = i → y.2 ∈ Tr.kids t i) := fun y hy hyi => by
    rw [← flat_kids hG.ris i]
    exact List.mem_map.2 ⟨y, List.mem_filter.2 ⟨hy, by simpa using hyi⟩, rfl⟩
  have hfew := hG.flat_le
  have HRC := Lib.hid hrec
  obtain ⟨A, c, hev, _, hA⟩ := Tm.own_form h.in_.ents
  have HC2 : Hid (∀ W, Below w.heap.size w W → W.cell? ⟨p, 2, none⟩ = some ev) := fun W hW => (h.below hW).in_.box.cell 2
  obtain ⟨l, hl⟩ : ∃ l, l = Tr.flat t := ⟨_, rfl⟩
  rw [← hl] at hev hA hfew HKD ⊢
  have HA := Lib.hid hA
  subst hev
  clear h hG hrec hA hl hhigh
  go_enter Try.func92, Try.ntmps92
  go_wp2_with fail
  go_loopw [5, 6, 7, 8, 9] (fun t5 t6 t7 t8 t9 wr => ∃ (j m : Nat) (v7 v8 v9 : Value), t5 = .int .i64 m ∧ t6 = .int .i64 j ∧ t7 = v7 ∧ t8 = v8 ∧ t9 = v9 ∧ j ≤ l.length ∧ m ≤ 65 ∧ Hid (m = (((l.take j).filter fun y => y.1 == i).map (·.2)).foldl (fun m k => max m (1 + Tr.high t n k.2)) 0) ∧ Hid (Below w.heap.size w wr)) (fun _ t6 _ _ _ _ => l.length - (match t6 with | .int _ k => k.toNat | _ => 0))
  case atStart => exact ⟨0, 0, _, _, _, rfl, rfl, rfl, rfl, rfl, Nat.zero_le _, by omega, rfl, Below.refl _ _⟩
  case round =>
    obtain ⟨j, m, v7, v8, v9, rfl, rfl, rfl, rfl, rfl, hj, hm65, HM, HB⟩ := hrel
    have cE := HC2.out _ HB.out
    by_cases hk : j < l.length
    · obtain ⟨y, hy⟩ : ∃ y, l[j]? = some y := ⟨_, List.getElem?_eq_getElem hk⟩
      obtain ⟨q, rfl, _, _, hql, hcell⟩ := HA.out (by omega)
      have HD2 : Hid (∀ W, Below w.heap.size w W → W.cell? ⟨q, j * 3 + 2, none⟩ = some (.int .i64 y.2.2)) := fun W hW => (hW.cell (p := ⟨q, j * 3 + 2, none⟩) hql).trans (hcell _ _ (fl_get hy 2 (by omega)))
      have d0 : wr.cell? ⟨q, j * 3, none⟩ = some (.int .i64 y.1) := (HB.out.cell (p := ⟨q, j * 3, none⟩) hql).trans (hcell _ _ (fl_get hy 0 (by omega)))
      have d2 := HD2.out _ HB.out
      have hlt2 : (j : Int) < (l.length : Int) := by omega
      have HTK : Hid (((l.take (j + 1)).filter fun y => y.1 == i).map (·.2) = ((l.take j).filter fun y => y.1 == i).map (·.2) ++ if y.1 = i then [y.2] else []) := by
        have htk : l.take (j + 1) = l.take j ++ [y] := by
          rw [List.take_succ_eq_append_getElem hk]
          rw [List.getElem?_eq_getElem hk] at hy
          injection hy with hy
          rw [hy]
        show _ = _
        rw [htk, List.filter_append, List.map_append]
        congr 1
        by_cases h : y.1 = i
        · rw [if_pos h, List.filter_cons, if_pos (by simpa using h)]; rfl
        · rw [if_neg h, List.filter_cons, if_neg (by simpa using h)]; rfl
      have hym : y ∈ l := List.mem_of_getElem? hy
      have HYM := Lib.hid hym
      have HKY := Lib.hid (fun e => HKD.out y hym e)
      obtain ⟨y1, y2, y3⟩ := y
      simp only at d0 d2 HTK HKY HD2
      clear hy hcell hql hym
      by_cases h1 : y1 = i
      case neg =>
        have hb : (y1 == i) = false := by rw [beq_eq_false_iff_ne]; exact h1
        have HNX : Hid (m = (((l.take (j + 1)).filter fun y => y.1 == i).map (·.2)).foldl (fun m k => max m (1 + Tr.high t n k.2)) 0) := by
          show _ = _
          rw [HTK.out, if_neg h1, List.append_nil]; exact HM.out
        clear HTK h1
        go_wp2_with fail
        go_roundw
        case rel => exact ⟨j + 1, m, _, _, _, rfl, by go_num, rfl, rfl, rfl, by omega, hm65, HNX.out, HB.out⟩
        case measure => simp; omega
      subst h1
      have HNX : Hid (max m (1 + Tr.high t n y3) = (((l.take (j + 1)).filter fun y => y.1 == y1).map (·.2)).foldl (fun m k => max m (1 + Tr.high t n k.2)) 0) := by
        show _ = _
        rw [HTK.out, if_pos rfl, List.foldl_append, ← show m = _ from HM.out]; rfl
      have HND1 := Lib.hid (HND.out wr y3 HB.out)
      have e0 : Tr.node t y3 = (Tr.ndOf t y3, (Tr.find t y3).isSome) := rfl
      rw [e0] at HND1
      have HKI : Hid (Tr.kindOf t y3 = (Tr.ndOf t y3).kind) := rfl
      obtain ⟨fo, hfo⟩ : ∃ fo, fo = (Tr.find t y3).isSome := ⟨_, rfl⟩
      rw [← hfo] at HND1
      obtain ⟨⟨a1, a2, a3, a4, a5, a6⟩, hnd⟩ : ∃ nd, nd = Tr.ndOf t y3 := ⟨_, rfl⟩
      rw [← hnd] at HND1 HKI
      unfold Nd.val at HND1
      simp only at HND1 HKI
      have hh65 := HHL.out y3
      have HRC1 : Hid (a2 = 2 → ∀ W, Below w.heap.size w W → Calls Try.prog 92 #[.pointer (some ⟨p, 0, none⟩), .int .i64 y3] W fun e w' => e = .returned (.int .i64 (Tr.high t n y3 : Nat)) ∧ Below W.heap.size W w') := fun ha W hW => HRC.out (y2, y3) (HKY.out rfl) (by rw [show Tr.kindOf t y3 = a2 from HKI.out]; exact ha) W hW
      have HF0 : Hid (a2 ≠ 2 → Tr.high t n y3 = 0) := fun ha => HFH.out y3 (by rw [show Tr.kindOf t y3 = a2 from HKI.out]; exact ha)
      obtain ⟨x, hx⟩ : ∃ x, x = Tr.high t n y3 := ⟨_, rfl⟩
      rw [← hx] at HNX HRC1 HF0 hh65
      clear HTK e0 hfo hnd HKI hx
      go_wp2_with fail
      refine HND1.out.mono ?_
      rintro e w3 ⟨rfl, hb3⟩
      have HB3 : Hid (Below w.heap.size w w3) := HB.out.trans (hb3.mono HB.out.size)
      obtain ⟨wb, hwb⟩ : ∃ wb, wb = w3.alloc (.cells #[.int .i64 a1, .int .i64 a2, .int .i64 a3, .int .i64 a4, .int .u64 (a5 : Nat), .bool a6] 38) := ⟨_, rfl⟩
      have HB4 : Hid (Below w.heap.size w wb) := by show Below _ _ _; rw [hwb]; exact HB3.out.alloc HB3.out.size _
      have HBK : Hid (Blk wb w3.heap.size 38 [.int .i64 a1, .int .i64 a2, .int .i64 a3, .int .i64 a4, .int .u64 (a5 : Nat), .bool a6]) := by show Blk _ _ _ _; rw [hwb]; exact Blk.new w3 _ _
      clear hb3 HND1
      go_upto_region 8 with (fail)
      rw [← hwb]
      clear hwb d0 d2 cE
      have c1 : wb.cell? ⟨w3.heap.size, 1, none⟩ = some (.int .i64 a2) := HBK.out.cell 1
      have cE := HC2.out _ HB4.out
      have d2 := HD2.out _ HB4.out
      by_cases h2 : a2 = 2
      · have HRC2 := Lib.hid (HRC1.out h2 wb HB4.out)
        subst h2
        have hw1 : IntKind.i64.wrap (1 + (x : Int)) = ((1 + x : Nat) : Int) := by rw [IntKind.wrap_i64]; omega
        obtain ⟨x1, hx1⟩ : ∃ x1, x1 = 1 + x := ⟨_, rfl⟩
        rw [← hx1] at hw1 HNX
        have hx165 : x1 ≤ 65 := by omega
        clear hx1
        go_wp2_with fail
        refine HRC2.out.mono ?_
        rintro e w5 ⟨rfl, hb5⟩
        have HB5 : Hid (Below w.heap.size w w5) := HB4.out.trans (hb5.mono HB4.out.size)
        clear hb5 HRC2 c1
        by_cases hgt : (m : Int) < (x1 : Int)
        · have HN2 : Hid (x1 = (((l.take (j + 1)).filter fun y => y.1 == y1).map (·.2)).foldl (fun m k => max m (1 + Tr.high t n k.2)) 0) := by
            have := HNX.out
            rw [Nat.max_eq_right (by omega)] at this
            exact this
          clear HNX
          go_wp2_with fail
          go_roundw
          case rel => exact ⟨j + 1, x1, _, _, _, rfl, by go_num, rfl, rfl, rfl, by omega, hx165, HN2.out, HB5.out⟩
          case measure => simp; omega
        · have HN2 : Hid (m = (((l.take (j + 1)).filter fun y => y.1 == y1).map (·.2)).foldl (fun m k => max m (1 + Tr.high t n k.2)) 0) := by
            have := HNX.out
            rw [Nat.max_eq_left (by omega)] at this
            exact this
          clear HNX
          go_wp2_with fail
          go_roundw
          case rel => exact ⟨j + 1, m, _, _, _, rfl, by go_num, rfl, rfl, rfl, by omega, hm65, HN2.out, HB5.out⟩
          case measure => simp; omega
      · have h2b : (a2 == 2) = false := by rw [beq_eq_false_iff_ne]; exact h2
        have hx0 := HF0.out h2
        subst hx0
        clear h2
        by_cases hgt : (m : Int) < 1
        · have HN2 : Hid (1 = (((l.take (j + 1)).filter fun y => y.1 == y1).map (·.2)).foldl (fun m k => max m (1 + Tr.high t n k.2)) 0) := by
            have := HNX.out
            rw [Nat.max_eq_right (by omega)] at this
            exact this
          clear HNX
          go_wp2_with fail
          go_roundw
          case rel => exact ⟨j + 1, 1, _, _, _, rfl, by go_num, rfl, rfl, rfl, by omega, by omega, HN2.out, HB4.out⟩
          case measure => simp; omega
        · have HN2 : Hid (m = (((l.take (j + 1)).filter fun y => y.1 == y1).map (·.2)).foldl (fun m k => max m (1 + Tr.high t n k.2)) 0) := by
            have := HNX.out
            rw [Nat.max_eq_left (by omega)] at this
            exact this
          clear HNX
          go_wp2_with fail
          go_roundw
          case rel => exact ⟨j + 1, m, _, _, _, rfl, by go_num, rfl, rfl, rfl, by omega, hm65, HN2.out, HB4.out⟩
          case measure => simp; omega
    · obtain rfl : j = l.length := by omega
      have HEND : Hid (m = ((l.filter fun y => y.1 == i).map (·.2)).foldl (fun m k => max m (1 + Tr.high t n k.2)) 0) := by
        have := HM.out
        rw [List.take_length] at this
        exact this
      go_wp2_with fail
      go_ret
      exact ⟨by rw [← show m = _ from HEND.out]; rfl, HB.out⟩
theorem deep_any (h : RA p nv dv ev D t w) (hG : Tr.Good t) (i : Int) :
    Calls Try.prog 92 #[.pointer (some ⟨p, 0, none⟩), .int .i64 i] w fun e w' => e = .returned (.int .i64 (Tr.high t 64 i : Nat)) ∧ Below w.heap.size w w' := by
  obtain ⟨dep, hd0, hd⟩ := hG.deep
  have key : ∀ (n : Nat), n ≤ 63 → ∀ (i : Int), (Tr.kindOf t i = 2 → 9 ≤ dep i + n) → ∀ W, Below w.heap.size w W → Calls Try.prog 92 #[.pointer (some ⟨p, 0, none⟩), .int .i64 i] W fun e w' => e = .returned (.int .i64 (Tr.high t (n + 1) i : Nat)) ∧ Below W.heap.size W w' := by
    intro n
    induction n with
    | zero =>
      intro _ i hi W hW
      refine deep_step (h.below hW) hG 0 (by omega) i fun k hk hkd => ?_
      obtain ⟨e, he, hke⟩ := Tr.kids_mem hk
      have h1 := hd e (Tr.find_some he).1 k hke
      rw [(Tr.find_some he).2] at h1
      have h2 : Tr.kindOf t i = 2 := by
        by_cases hki : Tr.kindOf t i = 2
        · exact hki
        · rw [hG.file_kids hki] at hk; cases hk
      have := hi h2
      omega
    | succ n ih =>
      intro hn i hi W hW
      refine deep_step (h.below hW) hG (n + 1) (by omega) i fun k hk hkd W2 hW2 => ih (by omega) k.2 (fun _ => ?_) W2 (hW.trans (hW2.mono hW.size))
      obtain ⟨e, he, hke⟩ := Tr.kids_mem hk
      have h1 := hd e (Tr.find_some he).1 k hke
      rw [(Tr.find_some he).2] at h1
      have h2 : Tr.kindOf t i = 2 := by
        by_cases hki : Tr.kindOf t i = 2
        · exact hki
        · rw [hG.file_kids hki] at hk; cases hk
      have h3 := hi h2
      have h4 := h1.2 hkd
      omega
  exact key 63 (Nat.le_refl _) i (fun _ => by omega) w (Below.refl _ _)
end Rf
end Go.Proofs.Ytombmeppdhhjhaa

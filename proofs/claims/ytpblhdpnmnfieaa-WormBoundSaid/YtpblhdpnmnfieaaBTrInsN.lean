/-
  OWN WORK. slices.Insert of one element into an own row (names).
-/
import Derived.Test.YtpblhdpnmnfieaaBTrMem
namespace Go.Proofs.Ytpblhdpnmnfieaa
open Go.RowKit Rc
namespace Tm

theorem Try.infoNm : (Try.prog.info? 80).map (fun i => (i.zero, i.size, i.bytes)) = some (some (.agg #[.string .empty, .int .i64 0]), 2, 24) := by kernel_rfl
theorem underNm : Try.prog.underlying 61 = some (.slice (Try.prog.elem 61)) := by kernel_rfl
theorem elemNm : Try.prog.elem 61 = 80 := by kernel_rfl
theorem undereNm : Try.prog.underlying 61 = some (.slice 80) := by kernel_rfl
theorem sizeNm (w : World) : (sizeOf (Try.prog.elem 61)).run Try.prog w = .ok 2 w := by kernel_rfl
theorem sizeeNm (w : World) : (Go.sizeOf 80).run Try.prog w = .ok 2 w := by kernel_rfl
theorem iszNm : (Try.prog.info? 80).map (·.size) = some 2 := by kernel_rfl
/-- Where a cut begins. -/
def cutNm (A : Option Addr) (n cap : Nat) : Option Addr := if cap = n then A else A.map (·.add (n * 2))
theorem slNm_l (w : World) (A : Option Addr) (len cap n : Nat) (h : n ≤ len) : (Instr.sliceAt 61 (.slice A len cap) (some (.int .i64 n)) none none).run Try.prog w = .ok (.slice (cutNm A n cap) (len - n) (cap - n)) w := by
  rw [run_sliceAt_slice w _ _ _ _ _ underNm, run_slice_l w _ _ _ _ underNm .i64 n (by omega) (by omega), sizeNm]
  simp [Result.andThen, sliced, cutNm]
theorem slNm_h (w : World) (A : Option Addr) (len cap n : Nat) (h : n ≤ cap) : (Instr.sliceAt 61 (.slice A len cap) none (some (.int .i64 n)) none).run Try.prog w = .ok (.slice A n cap) w := by
  rw [run_sliceAt_slice w _ _ _ _ _ underNm, run_slice_h w _ _ _ _ underNm .i64 n (by omega) (by omega), sizeNm]
  have e : ∀ a : Addr, a.add 0 = a := fun a => by unfold Addr.add; simp
  cases A <;> simp [Result.andThen, sliced, e]
theorem cutNm_at (g n cap : Nat) (h : n < cap) : cutNm (some ⟨g, 0, none⟩) n cap = some ⟨g, n * 2, none⟩ := by
  unfold cutNm
  rw [if_neg (by omega)]
  simp [add_plain]
theorem slNm_l1 (w : World) (g len cap n : Nat) (h : n ≤ len) (h2 : n < cap) : (Instr.sliceAt 61 (.slice (some ⟨g, 0, none⟩) len cap) (some (.int .i64 n)) none none).run Try.prog w = .ok (.slice (some ⟨g, n * 2, none⟩) (len - n) (cap - n)) w := by
  rw [slNm_l w _ len cap n h, cutNm_at g n cap h2]
/-- What is answered: the row with the element in it. -/
def InsNm (B : Nat) (v : Value) (n i : Nat) (xs ys : List Value) (w : World) (e : Ending) (w' : World) : Prop :=
  ∃ v', e = .returned v' ∧ w'.ownsRow B 80 2 v' (n + 1) (xs.take (i * 2) ++ (ys ++ xs.drop (i * 2))) ∧ w.grownBy w' v.ownBlock ∧ ∀ b, v'.ownBlock = some b → v.ownBlock = some b ∨ w.heap.size ≤ b

set_option maxHeartbeats 1000000 in
set_option maxRecDepth 100000 in
/-- At the end. -/
theorem insNm_end (w : World) (B : Nat) (v : Value) (n : Nat) (xs ys : List Value) (hown : w.ownsRow B 80 2 v n xs) (hB : B ≤ w.heap.size) (hn : n ≤ 1000000000) (g : Nat) (hg : Blk w g 80 ys) (hy : ys.length = 2) (hy1 : ∀ u ∈ ys, u.oneCell' = true) :
    Calls Try.prog 41 #[v, .int .i64 (n : Nat), .slice (some ⟨g, 0, none⟩) 1 1] w (InsNm B v n n xs ys w) := by
  obtain ⟨i0, hi, hz0, hz1, hz2⟩ := info_parts Try.infoNm
  have HI0 := Lib.hid hi
  have HZ0 := Lib.hid hz0
  have HZ1 := Lib.hid hz1
  have HZ2 := Lib.hid hz2
  have HO := Lib.hid hown
  have HG := Lib.hid hg
  have HB := Lib.hid hB
  have HY : Hid (ys.length = 1 * 2) := by show _ = _; rw [hy]
  have HY1 := Lib.hid hy1
  have HSRC : Hid (∀ j u, ys[j]? = some u → w.cell? ((⟨g, 0, none⟩ : Addr).add j) = some u) := fun j u hj => hg.src0 hj
  have HXT : Hid (xs.take (n * 2) ++ (ys ++ xs.drop (n * 2)) = xs ++ ys) := by
    show _ = _
    have hx0 := hown.1
    rw [List.take_of_length_le (by omega), List.drop_eq_nil_of_le (by omega), List.append_nil]
  obtain ⟨A, c, rfl, hc, hh⟩ := own_form hown
  clear hh hown hg hi hz0 hz1 hz2 hy hy1 hB
  have q1 := fun w' => slNm_l w' A n c n (Nat.le_refl _)
  go_enter Try.func41, Try.ntmps41
  go_wp2_with (at_builtin; refine wpList_append_own_at _ rfl (.tmp 23) (.tmp 24) 61 rfl B 80 i0 _ 2 24 undereNm HI0.out HZ0.out HZ1.out HZ2.out rfl (by decide) _ n xs rfl HO.out ⟨g, 0, none⟩ 1 1 ys rfl HY.out HSRC.out HY1.out (by unfold maxLen; omega) (by omega) HB.out ?_; intro v1 w1 h1 h2 h3 h4; have HO1 := Lib.hid h1; have HG1 := Lib.hid h2; have HL1 := Lib.hid h4; clear h1 h2 h3 h4)
  go_ret
  exact ⟨_, rfl, by rw [HXT.out]; exact HO1.out, HG1.out, fun b hb => by
    rcases HL1.out with h | h
    · exact .inl (h.symm.trans hb)
    · exact .inr (by have e := h.symm.trans hb; injection e with e; omega)⟩

theorem overNm (w : World) (g b o l1 l2 c1 c2 : Nat) (hne : g ≠ b) (cs cs2 : List Value) (t2 : TypeId) (h1 : Blk w g 80 cs) (h2 : Blk w b t2 cs2) (h3 : cs2.length ≠ 0) :
    (callFunc 49 #[.slice (some ⟨g, 0, none⟩) l1 c1, .slice (some ⟨b, o, none⟩) l2 c2]).run Try.prog w = .ok (.value (.bool false)) w := by
  have sh : ∀ {x : Nat} {t : TypeId} {c : List Value}, Blk w x t c → w.shape? x = some (t, c.length) := fun {x t c} h => by
    unfold Blk at h
    simp [World.shape?, h]
  rw [run_callFunc_extern Try.func49 (by kernel_rfl) (by kernel_rfl) (by kernel_rfl) (e := Extern.SlicesOverlaps.overlaps #[61, 61] #[4]) (by kernel_rfl),
    Lib.run_overlaps_apart w 61 4 80 undereNm 2 sizeeNm ⟨g, 0, none⟩ ⟨b, o, none⟩ l1 c1 l2 c2 hne 80 t2 cs.length cs2.length (sh h1) (sh h2) h3 (h1.frozen 0) (h1.frozen cs.length)]
  rfl

set_option maxHeartbeats 1000000 in
set_option maxRecDepth 100000 in
/-- There is room. -/
theorem insNm_room (w : World) (B g n cap i : Nat) (cur xs ys : List Value) (hr : Blk w g 80 cur) (hBg : B ≤ g) (hin : i < n) (hnc : n + 1 ≤ cap) (hcl : cur.length = cap * 2) (hcm : cap ≤ maxLen) (htk : cur.take (n * 2) = xs) (hx1 : ∀ u ∈ xs, u.oneCell' = true)
    (b : Nat) (hb : Blk w b 80 ys) (hne : b ≠ g) (hy : ys.length = 2) (hy1 : ∀ u ∈ ys, u.oneCell' = true) :
    Calls Try.prog 41 #[.slice (some ⟨g, 0, none⟩) n cap, .int .i64 (i : Nat), .slice (some ⟨b, 0, none⟩) 1 1] w (InsNm B (.slice (some ⟨g, 0, none⟩) n cap) n i xs ys w) := by
  have hxl : xs.length = n * 2 := by rw [← htk, List.length_take]; omega
  have hm63 : cap ≤ 9223372036854775807 := by unfold maxLen at hcm; omega
  have HR := Lib.hid hr
  have HBK := Lib.hid hb
  have HX1 : Hid (∀ u ∈ xs.drop (i * 2), u.oneCell' = true) := fun u hu => hx1 u (List.mem_of_mem_drop hu)
  have HY1 := Lib.hid hy1
  have HNE := Lib.hid hne
  have HROW := Lib.hid (ins_row cur xs ys (i * 2) 2 (n * 2) htk (by omega) (by omega) hy)
  have HDL : Hid ((xs.drop (i * 2)).length = (n - i) * 2) := by show _ = _; rw [List.length_drop, hxl]; omega
  have HYL : Hid (ys.length = 1 * 2) := by show _ = _; rw [hy]
  have HC0 : Hid (cur.length = cap * 2) := hcl
  have HCM := Lib.hid hcm
  have HSRC : Hid (∀ j v, (xs.drop (i * 2))[j]? = some v → w.drew.cell? ((⟨g, i * 2, none⟩ : Addr).add j) = some v) := fun j v hj => by
    rw [add_plain]
    have e : w.cell? ⟨g, i * 2 + j, none⟩ = cur[i * 2 + j]? := hr.cell _
    show w.cell? _ = _
    rw [e]
    rw [List.getElem?_drop, ← htk, List.getElem?_take] at hj
    split at hj
    · exact hj
    · cases hj
  have hov : ∀ l2 c1 c2, (callFunc 49 #[.slice (some ⟨b, 0, none⟩) 1 c1, .slice (some ⟨g, (i + 1) * 2, none⟩) l2 c2]).run Try.prog w = .ok (.value (.bool false)) w := fun l2 c1 c2 => overNm w b g _ 1 l2 c1 c2 hne ys cur _ hb hr (by omega)
  have q1 := fun w' => slNm_l1 w' g n cap i (by omega) (by omega)
  have q2 : ∀ w', (Instr.sliceAt 61 (.slice (some ⟨g, 0, none⟩) n cap) none (some (.int .i64 ((n : Int) + 1))) none).run Try.prog w' = .ok (.slice (some ⟨g, 0, none⟩) (n + 1) cap) w' := fun w' => slNm_h w' (some ⟨g, 0, none⟩) n cap (n + 1) hnc
  have q3 : ∀ w', (Instr.sliceAt 61 (.slice (some ⟨g, 0, none⟩) (n + 1) cap) (some (.int .i64 ((i : Int) + 1))) none none).run Try.prog w' = .ok (.slice (some ⟨g, (i + 1) * 2, none⟩) (n - i) (cap - (i + 1))) w' := fun w' => by
    have h := slNm_l1 w' g (n + 1) cap (i + 1) (by omega) (by omega)
    rw [show n + 1 - (i + 1) = n - i by omega] at h
    exact h
  have q4 : ∀ w', (Instr.sliceAt 61 (.slice (some ⟨g, 0, none⟩) (n + 1) cap) (some (.int .i64 (i : Int))) none none).run Try.prog w' = .ok (.slice (some ⟨g, i * 2, none⟩) (n + 1 - i) (cap - i)) w' := fun w' => slNm_l1 w' g (n + 1) cap i (by omega) (by omega)
  have w1 : IntKind.i64.wrap ((n : Int) + 1) = (n : Int) + 1 := by rw [IntKind.wrap_i64]; omega
  have w2 : IntKind.i64.wrap ((i : Int) + 1) = (i : Int) + 1 := by rw [IntKind.wrap_i64]; omega
  have g1 : ¬ ((i : Int) = (n : Int)) := by omega
  have g2 : ¬ ((cap : Int) < (n : Int) + 1) := by omega
  have HMIN : Hid (n - i = Nat.min (n + 1 - i) (n - i)) := (Nat.min_eq_right (by omega)).symm
  have HMIN2 : Hid (1 = Nat.min 1 (n + 1 - i)) := (Nat.min_eq_left (by omega)).symm
  have HFIT1 : Hid ((i + 1) * 2 + (xs.drop (i * 2)).length ≤ cur.length) := by show _ ≤ _; rw [HDL.out, hcl]; omega
  have HFIT2 : Hid (i * 2 + ys.length ≤ (splice cur (i * 2 + 2) (xs.drop (i * 2))).length) := by
    show _ ≤ _
    rw [splice_length _ _ _ (by rw [HDL.out, hcl]; omega), hy, hcl]; omega
  have HE : Hid ((i + 1) * 2 = i * 2 + 2) := by show _ = _; omega
  have HIN : Hid (i < n ∧ n + 1 ≤ cap ∧ B ≤ g) := ⟨hin, hnc, hBg⟩
  clear hr hb hx1 hy1 hne hcl hcm htk hy hxl hBg
  go_enter Try.func41, Try.ntmps41
  go_upto_region 15 with (simp only [hov])
  obtain ⟨W1, hcp, hb1, hk1⟩ := run_copy_k (P := Try.prog) w.drew 61 61 3 80 2 undereNm iszNm g ((i + 1) * 2) (n - i) (cap - (i + 1)) ⟨g, i * 2, none⟩ (n + 1 - i) (cap - i) cur 80 HR.out.drew (xs.drop (i * 2)) (n - i) HMIN.out HDL.out HSRC.out HFIT1.out HX1.out
  rw [HE.out] at hb1
  have HCP := Lib.hid hcp
  have HB1 := Lib.hid hb1
  have HK1 := Lib.hid hk1
  clear hcp hb1 hk1
  have HSRC2 : Hid (∀ j v, ys[j]? = some v → W1.cell? ((⟨b, 0, none⟩ : Addr).add j) = some v) := fun j v hj => by
    have h := HBK.out.src0 hj
    rw [add_plain] at h ⊢
    exact (HK1.out.cell (p := ⟨b, 0 + j, none⟩) HBK.out.lt HNE.out).trans h
  go_still_tail 8, (by kernel_rfl)
  obtain ⟨W2, hcp2, hb2, hk2⟩ := run_copy_k (P := Try.prog) W1 61 61 3 80 2 undereNm iszNm g (i * 2) (n + 1 - i) (cap - i) ⟨b, 0, none⟩ 1 1 _ 80 HB1.out ys 1 HMIN2.out HYL.out HSRC2.out HFIT2.out HY1.out
  have HB2 := Lib.hid hb2
  have HK2 := Lib.hid hk2
  clear hb2 hk2
  have hcp := HCP.out
  go_wp2_with fail
  go_ret
  refine ⟨_, rfl, ⟨?_, .inr ⟨g, cap, _, rfl, HIN.out.2.2, HB2.out, HIN.out.2.1, HCM.out, ?_, ?_⟩⟩, ?_, ?_⟩
  · have h := congrArg List.length HROW.out.2
    rw [← h, List.length_take, HROW.out.1, HC0.out]
    have := HIN.out.2.1
    omega
  · have h := HROW.out.1
    rw [HC0.out] at h
    simpa using h
  · have h := HROW.out.2
    rw [show n * 2 + 2 = (n + 1) * 2 by omega] at h
    simpa using h
  · exact Keeps.trans (Keeps.trans ((Keeps.refl w g).drew) HK1.out) HK2.out
  · exact fun b hb => .inl hb

set_option maxHeartbeats 1000000 in
set_option maxRecDepth 100000 in
/-- There is none. -/
theorem insNm_grow (w : World) (B g n i : Nat) (cur xs ys : List Value) (hr : Blk w g 80 cur) (hBw : B ≤ w.heap.size) (hin : i < n) (hn : n ≤ 1000000000) (hcl : cur.length = n * 2) (htk : cur.take (n * 2) = xs) (hx1 : ∀ u ∈ xs, u.oneCell' = true)
    (b : Nat) (hb : Blk w b 80 ys) (hy : ys.length = 2) (hy1 : ∀ u ∈ ys, u.oneCell' = true) :
    Calls Try.prog 41 #[.slice (some ⟨g, 0, none⟩) n n, .int .i64 (i : Nat), .slice (some ⟨b, 0, none⟩) 1 1] w (InsNm B (.slice (some ⟨g, 0, none⟩) n n) n i xs ys w) := by
  have hxe : xs = cur := by rw [← htk, List.take_of_length_le (by omega)]
  subst hxe
  obtain ⟨i0, hi, hz0, hz1, hz2⟩ := info_parts Try.infoNm
  have hxl : xs.length = n * 2 := hcl
  have hold : (Builtin.firstCells i0.size i (.slice (some ⟨g, 0, none⟩) i n)).run Try.prog w.drew = .ok (xs.take (i * 2)).toArray w.drew := by
    rw [hz1]
    refine run_firstCells_some w.drew 2 i ⟨g, 0, none⟩ i n (xs.take (i * 2)) (by rw [List.length_take]; omega) (fun j v hj => ?_)
    rw [List.getElem?_take] at hj
    split at hj
    · exact (hr.drew).src0 hj
    · cases hj
  have hrz : ∀ ty, (Builtin.append_ #[61, 3] ty #[.slice (some ⟨g, 0, none⟩) i n, .int .i64 ((n : Int) + 1 - (i : Int))]).run Try.prog w = .ok (.slice (some ⟨w.heap.size, 0, none⟩) (n + 1) (grownCap w (n + 1) n 80)) (w.drew.alloc (.cells ((xs.take (i * 2)).toArray ++ Builtin.zeroCells (.agg #[.string .empty, .int .i64 0] : Value).cells (n + 1 - i) ++ Builtin.zeroCells (.agg #[.string .empty, .int .i64 0] : Value).cells (grownCap w (n + 1) n 80 - (n + 1))) 80)) := fun ty => by
    have h := Lib.run_append_grow_zeros (P := Try.prog) w 61 3 ty 80 i0 _ .i64 .i64 undereNm (by kernel_rfl) hi hz0 (some ⟨g, 0, none⟩) i n (xs.take (i * 2)) hold (n + 1 - i) (by omega) (by rw [hz1]; omega) (by omega) (by omega) (by rw [hz2]; omega) (by rw [hz2]; exact growslice_fits (by omega) (by omega))
    rw [show i + (n + 1 - i) = n + 1 by omega] at h
    rw [show (n : Int) + 1 - (i : Int) = ((n + 1 - i : Nat) : Int) by omega]
    exact h
  obtain ⟨G, hG⟩ : ∃ G, G = grownCap w (n + 1) n 80 := ⟨_, rfl⟩
  rw [← hG] at hrz
  have hGn : n + 1 ≤ G := by rw [hG]; exact grownCap_ge w _ _ _
  have hGm : G ≤ maxLen := by rw [hG]; exact grownCap_le_maxLen w (n + 1) n 80 (by unfold maxLen; omega)
  have hG63 : G ≤ 9223372036854775807 := by unfold maxLen at hGm; omega
  obtain ⟨ROW, hROW⟩ : ∃ ROW : Array Value, ROW = (xs.take (i * 2)).toArray ++ Builtin.zeroCells (.agg #[.string .empty, .int .i64 0] : Value).cells (n + 1 - i) ++ Builtin.zeroCells (.agg #[.string .empty, .int .i64 0] : Value).cells (G - (n + 1)) := ⟨_, rfl⟩
  rw [← hROW] at hrz
  have hRl : ROW.toList.length = G * 2 := by
    rw [hROW]
    simp [Builtin.zeroCells, Value.cells, hxl]
    omega
  have hRt : ROW.toList.take (i * 2) = xs.take (i * 2) := by
    rw [hROW]
    simp only [Array.toList_append, List.append_assoc]
    rw [List.take_append_of_le_length (by rw [List.length_take]; omega), List.take_of_length_le (by rw [List.length_take]; omega)]
  obtain ⟨W0, hW0⟩ : ∃ W0, W0 = w.drew.alloc (.cells ROW 80) := ⟨_, rfl⟩
  rw [← hW0] at hrz
  have hB0 : Blk W0 w.heap.size 80 ROW.toList := by rw [hW0]; simpa using Blk.new w.drew 80 ROW.toList
  have hK0 : Below w.heap.size w W0 := by rw [hW0]; exact undrew (below_new w.drew (.cells ROW 80))
  have HRZ := Lib.hid hrz
  have HB0 := Lib.hid hB0
  have HK0 := Lib.hid hK0
  have HX1 : Hid (∀ u ∈ xs.drop (i * 2), u.oneCell' = true) := fun u hu => hx1 u (List.mem_of_mem_drop hu)
  have HY1 := Lib.hid hy1
  have HROW := Lib.hid (ins_new ROW.toList xs ys (i * 2) 2 (n * 2) hxl hRt (by rw [hRl]; omega) (by omega) hy)
  have HDL : Hid ((xs.drop (i * 2)).length = (n - i) * 2) := by show _ = _; rw [List.length_drop, hxl]; omega
  have HYL : Hid (ys.length = 1 * 2) := by show _ = _; rw [hy]
  have HC0 : Hid (ROW.toList.length = G * 2) := hRl
  have HCM := Lib.hid hGm
  have HSY : Hid (∀ j v, ys[j]? = some v → W0.cell? ((⟨b, 0, none⟩ : Addr).add j) = some v) := fun j v hj => by
    have h := hb.src0 hj
    rw [add_plain] at h ⊢
    exact (hK0.cell (p := ⟨b, 0 + j, none⟩) hb.lt).trans h
  have HSX : Hid (∀ W, Keeps W0 W w.heap.size → ∀ j v, (xs.drop (i * 2))[j]? = some v → W.drew.cell? ((⟨g, i * 2, none⟩ : Addr).add j) = some v) := fun W hK j v hj => by
    rw [add_plain]
    have hgl := hr.lt
    have e1 : W.cell? ⟨g, i * 2 + j, none⟩ = W0.cell? ⟨g, i * 2 + j, none⟩ := hK.cell (p := ⟨g, i * 2 + j, none⟩) (Nat.lt_of_lt_of_le hgl hK0.size) (by show g ≠ _; omega)
    have e2 : W0.cell? ⟨g, i * 2 + j, none⟩ = w.cell? ⟨g, i * 2 + j, none⟩ := hK0.cell (p := ⟨g, i * 2 + j, none⟩) hgl
    show W.cell? _ = _
    rw [e1, e2, hr.cell]
    rw [List.getElem?_drop] at hj
    exact hj
  have q1 := fun w' => slNm_l1 w' g n n i (by omega) (by omega)
  have q2 := fun w' => slNm_h w' (some ⟨g, 0, none⟩) n n i (by omega)
  have q3 : ∀ w', (Instr.sliceAt 61 (.slice (some ⟨w.heap.size, 0, none⟩) (n + 1) G) (some (.int .i64 (i : Int))) none none).run Try.prog w' = .ok (.slice (some ⟨w.heap.size, i * 2, none⟩) (n + 1 - i) (G - i)) w' := fun w' => slNm_l1 w' w.heap.size (n + 1) G i (by omega) (by omega)
  have q4 : ∀ w', (Instr.sliceAt 61 (.slice (some ⟨w.heap.size, 0, none⟩) (n + 1) G) (some (.int .i64 ((i : Int) + 1))) none none).run Try.prog w' = .ok (.slice (some ⟨w.heap.size, (i + 1) * 2, none⟩) (n - i) (G - (i + 1))) w' := fun w' => by
    have h := slNm_l w' (some ⟨w.heap.size, 0, none⟩) (n + 1) G (i + 1) (by omega)
    rw [show n + 1 - (i + 1) = n - i by omega] at h
    rw [show cutNm (some ⟨w.heap.size, 0, none⟩) (i + 1) G = some ⟨w.heap.size, (i + 1) * 2, none⟩ from cutNm_at _ _ _ (by omega)] at h
    exact h
  have w1 : IntKind.i64.wrap ((n : Int) + 1) = (n : Int) + 1 := by rw [IntKind.wrap_i64]; omega
  have w2 : IntKind.i64.wrap ((i : Int) + 1) = (i : Int) + 1 := by rw [IntKind.wrap_i64]; omega
  have w3 : IntKind.i64.wrap ((n : Int) + 1 - (i : Int)) = (n : Int) + 1 - (i : Int) := by rw [IntKind.wrap_i64]; omega
  have g1 : ¬ ((i : Int) = (n : Int)) := by omega
  have g2 : (n : Int) < (n : Int) + 1 := by omega
  have HMIN : Hid (n - i = Nat.min (n - i) (n - i)) := (Nat.min_self _).symm
  have HMIN2 : Hid (1 = Nat.min 1 (n + 1 - i)) := (Nat.min_eq_left (by omega)).symm
  have HFIT1 : Hid (i * 2 + ys.length ≤ ROW.toList.length) := by show _ ≤ _; rw [hRl, hy]; omega
  have HFIT2 : Hid ((i + 1) * 2 + (xs.drop (i * 2)).length ≤ (splice ROW.toList (i * 2) ys).length) := by
    show _ ≤ _
    rw [splice_length _ _ _ (by rw [hRl, hy]; omega), HDL.out, hRl]; omega
  have HE : Hid ((i + 1) * 2 = i * 2 + 2) := by show _ = _; omega
  have HIN : Hid (i < n ∧ n + 1 ≤ G ∧ B ≤ w.heap.size) := ⟨hin, hGn, hBw⟩
  clear hrz hB0 hK0 hW0 hROW hRl hRt hr hb hx1 hy1 hcl htk hy hxl hold hi hz0 hz1 hz2 hG hBw
  go_enter Try.func41, Try.ntmps41
  obtain ⟨W1, hcp1, hb1, hk1⟩ := run_copy_k (P := Try.prog) W0 61 61 3 80 2 undereNm iszNm w.heap.size (i * 2) (n + 1 - i) (G - i) ⟨b, 0, none⟩ 1 1 ROW.toList 80 HB0.out ys 1 HMIN2.out HYL.out HSY.out HFIT1.out HY1.out
  have HB1 := Lib.hid hb1
  have HK1 := Lib.hid hk1
  clear hb1 hk1
  go_upto_region 11 with (at_builtin; refine Lib.wpList_append_run _ rfl _ _ _ _ rfl _ _ rfl rfl _ _ (HRZ.out _) ?_)
  obtain ⟨W2, hcp, hb2, hk2⟩ := run_copy_k (P := Try.prog) W1.drew 61 61 3 80 2 undereNm iszNm w.heap.size ((i + 1) * 2) (n - i) (G - (i + 1)) ⟨g, i * 2, none⟩ (n - i) (n - i) _ 80 HB1.out.drew (xs.drop (i * 2)) (n - i) HMIN.out HDL.out (HSX.out W1 HK1.out) HFIT2.out HX1.out
  rw [HE.out] at hb2
  have HCP := Lib.hid hcp
  have HB2 := Lib.hid hb2
  have HK2 := Lib.hid hk2
  clear hcp hb2 hk2
  go_still_tail 8, (by kernel_rfl)
  have hcp := HCP.out
  go_wp2_with fail
  go_ret
  refine ⟨_, rfl, ⟨?_, .inr ⟨w.heap.size, G, _, rfl, HIN.out.2.2, HB2.out, HIN.out.2.1, HCM.out, ?_, ?_⟩⟩, ?_, ?_⟩
  · have h := congrArg List.length HROW.out.2
    rw [← h, List.length_take, HROW.out.1, HC0.out]
    have := HIN.out.2.1
    omega
  · have h := HROW.out.1
    rw [HC0.out] at h
    simpa using h
  · have h := HROW.out.2
    rw [show n * 2 + 2 = (n + 1) * 2 by omega] at h
    simpa using h
  · have h := Keeps.below HK0.out ((HK1.out.drew).trans HK2.out) (Nat.le_refl _) HK0.out.size
    exact ⟨h.os, h.tape, h.output, h.size, fun j hj _ => h.block j hj⟩
  · intro b hb
    have e : w.heap.size = b := by simpa [Value.ownBlock] using hb
    exact .inr (by omega)

/-- One element into an own row. -/
theorem insNm_any (w : World) (B : Nat) (v : Value) (n i : Nat) (xs ys : List Value) (hown : w.ownsRow B 80 2 v n xs) (hB : B ≤ w.heap.size) (hin : i ≤ n) (hn : n ≤ 1000000000) (hx1 : ∀ u ∈ xs, u.oneCell' = true) (g : Nat) (hg : Blk w g 80 ys) (hne : v.ownBlock ≠ some g) (hy : ys.length = 2) (hy1 : ∀ u ∈ ys, u.oneCell' = true) :
    Calls Try.prog 41 #[v, .int .i64 (i : Nat), .slice (some ⟨g, 0, none⟩) 1 1] w (InsNm B v n i xs ys w) := by
  rcases Nat.lt_or_ge i n with h | h
  · rcases hown.2 with ⟨rfl, rfl⟩ | ⟨b, cap, cur, rfl, h1, h2, h3, h4, h5, h6⟩
    · omega
    · have hb : Blk w b 80 cur.toList := by simpa [Blk] using h2
      have hl : cur.toList.length = cap * 2 := by simpa using h5
      rcases Nat.lt_or_ge n cap with h7 | h7
      · exact insNm_room w B b n cap i cur.toList xs ys hb h1 h h7 (by omega) h4 (by simpa using h6) hx1 g hg (fun e => hne (by simp [Value.ownBlock, e])) hy hy1
      · obtain rfl : cap = n := by omega
        exact insNm_grow w B b cap i cur.toList xs ys hb hB h hn (by omega) (by simpa using h6) hx1 g hg hy hy1
  · obtain rfl : i = n := by omega
    exact insNm_end w B v i xs ys hown hB hn g hg hy hy1
end Tm
end Go.Proofs.Ytpblhdpnmnfieaa

/-
  OWN WORK. slices.IndexFunc, slices.DeleteFunc over an own row (nodes' pointers).
-/
import Derived.Test.YtpblhdpnmnfieaaBTrInsE
import Derived.RangeFuncBox
namespace Go.Proofs.Ytpblhdpnmnfieaa
open Go.RowKit Rc
open Tr (Nm En T)
namespace Tm

def idxPt (p : Nat → Bool) : List Nat → Nat → Int
  | [], _ => -1
  | x :: l, i => if p x then (i : Int) else idxPt p l (i + 1)
theorem idxPt_split (p : Nat → Bool) : ∀ (l : List Nat) (i : Nat), (idxPt p l i = -1 ∧ ∀ x ∈ l, p x = false) ∨ ∃ j x, j < l.length ∧ idxPt p l i = ((i + j : Nat) : Int) ∧ l[j]? = some x ∧ p x = true ∧ ∀ y ∈ l.take j, p y = false
  | [], i => .inl ⟨rfl, fun x h => by simp at h⟩
  | x :: l, i => by
    unfold idxPt
    cases hx : p x
    · rcases idxPt_split p l (i + 1) with ⟨h1, h2⟩ | ⟨j, y, h1, h2, h3, h4, h5⟩
      · exact .inl ⟨by simpa using h1, fun y hy => by rcases List.mem_cons.1 hy with rfl | hy; exact hx; exact h2 y hy⟩
      · refine .inr ⟨j + 1, y, by simp only [List.length_cons]; omega, by simp only [Bool.false_eq_true, if_false]; rw [h2]; congr 1; omega, by simpa using h3, h4, fun z hz => ?_⟩
        rw [List.take_succ_cons] at hz
        rcases List.mem_cons.1 hz with rfl | hz
        · exact hx
        · exact h5 z hz
    · exact .inr ⟨0, x, by simp, by simp, rfl, hx, fun y hy => by simp at hy⟩
theorem idxPt_step (p : Nat → Bool) (l : List Nat) (j i : Nat) (h : ∀ y ∈ l.take j, p y = false) : idxPt p l i = idxPt p (l.drop j) (i + j) := by
  induction j generalizing l i with
  | zero => simp
  | succ j ih =>
    cases l with
    | nil => simp [idxPt]
    | cons x l =>
      rw [List.take_succ_cons] at h
      rw [List.drop_succ_cons, idxPt, if_neg (by rw [h x (.head _)]; simp), ih l (i + 1) fun y hy => h y (.tail _ hy)]
      congr 1; omega
/-- What the function that is handed in tells. -/
def ToldPt (v : Value) (w : World) (f : FuncId) (cb : Array Value) (p : Nat → Bool) (l : List Nat) : Prop :=
  ∀ W, w.grownBy W v.ownBlock → ∀ x ∈ l, Calls Try.prog f (#[.pointer (some ⟨x, 0, none⟩)] ++ cb) W fun e w' => e = .returned (.bool (p x)) ∧ Below W.heap.size W w'
theorem grown_below {w wr w' : World} {row : Option Nat} (h : w.grownBy wr row) (hb : Below wr.heap.size wr w') : w.grownBy w' row :=
  ⟨hb.os.trans h.os, hb.tape.trans h.tape, hb.output.trans h.output, Nat.le_trans h.size hb.size, fun b hlt hne => (hb.block b (Nat.lt_of_lt_of_le hlt h.size)).trans (h.block b hlt hne)⟩
theorem below_grown {w wr : World} (h : Below w.heap.size w wr) (row : Option Nat) : w.grownBy wr row := ⟨h.os, h.tape, h.output, h.size, fun b hlt _ => h.block b hlt⟩

set_option maxHeartbeats 1000000 in
set_option maxRecDepth 100000 in
theorem indexPt_any (w : World) (v : Value) (l : List Nat) (f : FuncId) (cb : Array Value) (p : Nat → Bool) (hent : ∀ (args : Array Value) (w : World), (callFunc f args).run Try.prog w = .ok (.enter f args) w)
    (hown : w.ownsRow 0 50 1 v l.length (ptrCells l)) (hl : l.length ≤ 1000000000) (hp : ToldPt v w f cb p l) :
    Calls Try.prog 52 #[v, .func (.func f) #[] cb] w fun e w' => e = .returned (.int .i64 (idxPt p l 0)) ∧ Below w.heap.size w w' := by
  have HP := Lib.hid hp
  have HO := Lib.hid hown
  obtain ⟨A, c, rfl, hc, hA⟩ := own_form hown
  have HA := Lib.hid hA
  clear hp hown hA
  go_enter Try.func52, Try.ntmps52
  go_wp2_with fail
  go_loopw [8] (fun t8 wr => ∃ j : Nat, t8 = .int .i64 j ∧ j ≤ l.length ∧ Hid (∀ y ∈ l.take j, p y = false) ∧ Hid (Below w.heap.size w wr)) (fun t8 _ => l.length - (match t8 with | .int _ k => k.toNat | _ => 0))
  case atStart => exact ⟨0, rfl, Nat.zero_le _, fun y hy => by simp at hy, Below.refl _ _⟩
  case round =>
    obtain ⟨j, rfl, hj, HN, HB⟩ := hrel
    by_cases hk : j < l.length
    · obtain ⟨x, hx⟩ : ∃ x, l[j]? = some x := ⟨_, List.getElem?_eq_getElem hk⟩
      have hlt : (j : Int) < (l.length : Int) := by omega
      obtain ⟨g, hAg, hob, _, hgl, hcell⟩ := HA.out (by omega)
      subst hAg
      have c0 : wr.cell? ⟨g, j, none⟩ = some (.pointer (some ⟨x, 0, none⟩)) := (HB.out.cell (p := ⟨g, j, none⟩) hgl).trans (hcell _ _ (by simp [ptrCells, hx]))
      have HX := Lib.hid hx
      have HC := HP.out wr (below_grown HB.out _) x (List.mem_of_getElem? hx)
      have HCC := Lib.hid HC
      clear hx hcell HC hob hgl
      go_wp2_with fail
      refine HCC.out.mono ?_
      rintro e w1 ⟨rfl, hb⟩
      have HB1 : Hid (Below w.heap.size w w1) := HB.out.trans (hb.mono HB.out.size)
      clear hb
      cases hpx : p x
      · have HN1 : Hid (∀ y ∈ l.take (j + 1), p y = false) := fun y hy => by
          rw [List.take_succ_eq_append_getElem hk, List.mem_append] at hy
          rcases hy with hy | hy
          · exact HN.out y hy
          · have e : l[j] = x := (List.getElem?_eq_some_iff.1 HX.out).2
            simp only [List.mem_singleton] at hy
            rw [hy, e]; exact hpx
        go_wp2_with fail
        go_roundw
        case rel => exact ⟨j + 1, by go_num, by omega, HN1.out, HB1.out⟩
        case measure => simp; omega
      · have HI : Hid (idxPt p l 0 = (j : Int)) := by
          show _ = _
          rw [idxPt_step p l j 0 HN.out, List.drop_eq_getElem_cons hk]
          have e : l[j] = x := (List.getElem?_eq_some_iff.1 HX.out).2
          rw [idxPt, e, if_pos hpx, Nat.zero_add]
        go_wp2_with fail
        go_ret
        exact ⟨by rw [HI.out]; rfl, HB1.out⟩
    · obtain rfl : j = l.length := by omega
      have HI : Hid (idxPt p l 0 = -1) := by
        show _ = _
        rcases idxPt_split p l 0 with h | ⟨j, x, h1, _, h3, h4, _⟩
        · exact h.1
        · have h5 := HN.out x (by rw [List.take_length]; exact List.mem_of_getElem? h3)
          rw [h5] at h4; cases h4
      go_wp2_with fail
      go_ret
      exact ⟨by rw [HI.out]; rfl, HB.out⟩

/-- A row half gone through: what stays stands ahead, what is still to come where it was. -/
structure HalfPt (l : List Nat) (p : Nat → Bool) (cap i j : Nat) (cur : List Value) : Prop where
  cnt : ((l.take j).filter fun x => !p x).length = i
  len : cur.length = cap * 1
  done : cur.take (i) = ptrCells ((l.take j).filter fun x => !p x)
  rest : (cur.drop (j)).take ((l.length - j) * 1) = ptrCells (l.drop j)
theorem HalfPt.le {l : List Nat} {p : Nat → Bool} {cap i j : Nat} {cur : List Value} (h : HalfPt l p cap i j cur) : i ≤ j := by
  rw [← h.cnt]
  exact Nat.le_trans (List.length_filter_le _ _) (by rw [List.length_take]; omega)
theorem take_next {α : Type} {l : List α} {j : Nat} {x : α} (hx : l[j]? = some x) : l.take (j + 1) = l.take j ++ [x] := by
  have hj := (List.getElem?_eq_some_iff.1 hx).1
  rw [List.take_succ_eq_append_getElem hj, (List.getElem?_eq_some_iff.1 hx).2]
theorem HalfPt.out {l : List Nat} {p : Nat → Bool} {cap i j : Nat} {cur : List Value} (h : HalfPt l p cap i j cur) {x : Nat} (hx : l[j]? = some x) (hp : p x = true) : HalfPt l p cap i (j + 1) cur := by
  have e : ((l.take (j + 1)).filter fun x => !p x) = (l.take j).filter fun x => !p x := by
    rw [take_next hx, List.filter_append]; simp [hp]
  refine ⟨by rw [e]; exact h.cnt, h.len, by rw [e]; exact h.done, ?_⟩
  have hr := congrArg (List.drop 1) h.rest
  rw [List.drop_take, List.drop_drop] at hr
  have hd : l.drop j = x :: l.drop (j + 1) := by
    have hj := (List.getElem?_eq_some_iff.1 hx).1
    rw [List.drop_eq_getElem_cons hj, (List.getElem?_eq_some_iff.1 hx).2]
  rw [hd] at hr
  rw [show j + 1 = j + 1 by omega, show (l.length - (j + 1)) * 1 = (l.length - j) * 1 - 1 by omega]
  exact hr
theorem HalfPt.keep {l : List Nat} {p : Nat → Bool} {cap i j : Nat} {cur : List Value} (h : HalfPt l p cap i j cur) (hc : l.length ≤ cap) {x : Nat} (hx : l[j]? = some x) (hp : p x = false) : HalfPt l p cap (i + 1) (j + 1) (cur.set i (.pointer (some ⟨x, 0, none⟩))) := by
  have hj := (List.getElem?_eq_some_iff.1 hx).1
  have hij := h.le
  have e : ((l.take (j + 1)).filter fun x => !p x) = ((l.take j).filter fun x => !p x) ++ [x] := by
    rw [take_next hx, List.filter_append]; simp [hp]
  have hd : l.drop j = x :: l.drop (j + 1) := by
    rw [List.drop_eq_getElem_cons hj, (List.getElem?_eq_some_iff.1 hx).2]
  refine ⟨by rw [e, List.length_append, h.cnt]; rfl, by simp [h.len], ?_, ?_⟩
  · rw [e, ptrCells_append, ← h.done]
    have hlt : i < (cur.set i (.pointer (some ⟨x, 0, none⟩))).length := by simp [h.len]; omega
    rw [List.take_succ_eq_append_getElem hlt, List.take_set_of_le (Nat.le_refl _)]
    simp [List.getElem_set, ptrCells]
  · have hr := congrArg (List.drop 1) h.rest
    rw [List.drop_take, List.drop_drop, hd] at hr
    rw [show (l.length - (j + 1)) * 1 = (l.length - j) * 1 - 1 by omega]
    have e2 : (cur.set i (.pointer (some ⟨x, 0, none⟩))).drop (j + 1) = cur.drop (j + 1) := by
      rw [List.drop_set_of_lt (by omega)]
    rw [e2, show j + 1 = j + 1 by omega]
    exact hr
theorem HalfPt.cell {l : List Nat} {p : Nat → Bool} {cap i j : Nat} {cur : List Value} (h : HalfPt l p cap i j cur) {x : Nat} (hx : l[j]? = some x) : cur[j]? = some (.pointer (some ⟨x, 0, none⟩)) := by
  have hj := (List.getElem?_eq_some_iff.1 hx).1
  have hd : l.drop j = x :: l.drop (j + 1) := by
    rw [List.drop_eq_getElem_cons hj, (List.getElem?_eq_some_iff.1 hx).2]
  have key : ∀ m, m < 1 → cur[j + m]? = (ptrCells (x :: l.drop (j + 1)))[m]? := fun m hm => by
    rw [← hd, ← h.rest, List.getElem?_take_of_lt (by omega), List.getElem?_drop]
  exact key 0 (by omega)
def DelPt (v : Value) (l : List Nat) (p : Nat → Bool) (w : World) (e : Ending) (w' : World) : Prop :=
  ∃ v', e = .returned v' ∧ w'.ownsRow 0 50 1 v' (l.filter fun x => !p x).length (ptrCells (l.filter fun x => !p x)) ∧ w.grownBy w' v.ownBlock ∧ (v'.ownBlock = v.ownBlock)
theorem zeroPt (w : World) : (zeroValue 50).run Try.prog w = .ok (.pointer none) w := by kernel_rfl

set_option maxHeartbeats 2000000 in
set_option maxRecDepth 100000 in
theorem deletePt_any (w : World) (v : Value) (l : List Nat) (f : FuncId) (cb : Array Value) (p : Nat → Bool) (hent : ∀ (args : Array Value) (w : World), (callFunc f args).run Try.prog w = .ok (.enter f args) w)
    (hown : w.ownsRow 0 50 1 v l.length (ptrCells l)) (hl : l.length ≤ 1000000000) (hp : ToldPt v w f cb p l) :
    Calls Try.prog 44 #[v, .func (.func f) #[] cb] w (DelPt v l p w) := by
  have HI := Lib.hid (indexPt_any w v l f cb p hent hown hl hp)
  rcases idxPt_split p l 0 with ⟨h1, h2⟩ | ⟨m, x0, hm, h1, h3, h4, h5⟩
  · rw [h1] at HI
    have HOWN := Lib.hid hown
    have HF : Hid ((l.filter fun x => !p x) = l) := by
      show _ = _
      rw [List.filter_eq_self]
      intro x hx
      rw [h2 x hx]; rfl
    clear hown hp h1 h2
    go_enter Try.func44, Try.ntmps44
    go_wp2_with fail
    refine HI.out.mono ?_
    rintro e w1 ⟨rfl, hb⟩
    have HB := Lib.hid hb
    clear hb
    go_wp2_with fail
    go_ret
    refine ⟨_, rfl, by rw [HF.out]; exact own_keep HOWN.out fun b hb => HB.out.block b (own_blk HOWN.out hb).2.1, below_grown HB.out _, rfl⟩
  · rw [h1, Nat.zero_add] at HI
    rcases hown.2 with ⟨_, h0⟩ | ⟨g, cap, cur0, rfl, hB, hg, hnc, hcm, hsz, htk⟩
    · omega
    have hblk : Blk w g 50 cur0.toList := by simpa [Blk] using hg
    have hlen0 : cur0.toList.length = cap * 1 := by simpa using hsz
    have hhalf : HalfPt l p cap m (m + 1) cur0.toList := by
      have e : ((l.take (m + 1)).filter fun x => !p x) = l.take m := by
        rw [take_next h3, List.filter_append]
        simp only [List.filter_cons, h4, Bool.not_true, Bool.false_eq_true, if_false, List.filter_nil, List.append_nil]
        rw [List.filter_eq_self]
        intro x hx
        rw [h5 x hx]; rfl
      refine ⟨by rw [e, List.length_take]; omega, hlen0, ?_, ?_⟩
      · rw [e, ptrCells_take, ← htk, List.take_take, Nat.min_eq_left (by omega)]
      · rw [ptrCells_drop, ← htk, List.drop_take]
        congr 1; omega
    have HP := Lib.hid hp
    have HH0 := Lib.hid hhalf
    have HBL := Lib.hid hblk
    have HCAP : Hid (l.length ≤ cap ∧ cap ≤ maxLen) := ⟨hnc, hcm⟩
    have hc63 : cap ≤ 9223372036854775807 := by unfold maxLen at hcm; omega
    have hcl := hnc
    have q1 : ∀ w' (i : Nat), i ≤ l.length → (Instr.sliceAt 52 (.slice (some ⟨g, 0, none⟩) l.length cap) (some (.int .i64 (i : Int))) none none).run Try.prog w' = .ok (.slice (cutPt (some ⟨g, 0, none⟩) i cap) (l.length - i) (cap - i)) w' := fun w' i hi => slPt_l w' (some ⟨g, 0, none⟩) l.length cap i hi
    have q2 : ∀ w' (i : Nat), i ≤ cap → (Instr.sliceAt 52 (.slice (some ⟨g, 0, none⟩) l.length cap) none (some (.int .i64 (i : Int))) none).run Try.prog w' = .ok (.slice (some ⟨g, 0, none⟩) i cap) w' := fun w' i hi => slPt_h w' (some ⟨g, 0, none⟩) l.length cap i hi
    have Q1 := Lib.hid q1
    have Q2 := Lib.hid q2
    clear q1 q2 hown hp h1 h3 h4 h5 hg hnc hcm hsz htk hblk hlen0 hhalf hB
    go_enter Try.func44, Try.ntmps44
    go_wp2_with fail
    refine HI.out.mono ?_
    rintro e w1 ⟨rfl, hb⟩
    have HB1 : Hid (w.grownBy w1 (some g)) := below_grown hb _
    have HBL1 : Hid (Blk w1 g 50 cur0.toList) := HBL.out.below hb HBL.out.lt
    clear hb HBL
    have wm : IntKind.i64.wrap ((m : Int) + 1) = (m : Int) + 1 := by rw [IntKind.wrap_i64]; omega
    have hmm : ((m : Int) == -1) = false := by rw [beq_eq_false_iff_ne]; omega
    go_wp2_with fail
    go_loopw [5, 6, 7] (fun t5 t6 t7 wr => ∃ (i j : Nat) (v7 : Value) (cur : List Value), t5 = .int .i64 i ∧ t6 = .int .i64 j ∧ t7 = v7 ∧ j ≤ l.length ∧ i < j ∧ Hid (HalfPt l p cap i j cur) ∧ Hid (Blk wr g 50 cur) ∧ Hid (w.grownBy wr (some g))) (fun _ t6 _ _ => l.length - (match t6 with | .int _ k => k.toNat | _ => 0))
    case atStart => exact ⟨m, m + 1, _, _, rfl, by simp, rfl, by omega, by omega, HH0.out, HBL1.out, HB1.out⟩
    case round =>
      obtain ⟨i, j, v7, cur, rfl, rfl, rfl, hj, hij, HH, HBL, HB⟩ := hrel
      by_cases hk : j < l.length
      · obtain ⟨x, hx⟩ : ∃ x, l[j]? = some x := ⟨_, List.getElem?_eq_getElem hk⟩
        have hlt : (j : Int) < (l.length : Int) := by omega
        have c0 : wr.cell? ⟨g, j, none⟩ = some (.pointer (some ⟨x, 0, none⟩)) := (HBL.out.cell _).trans (HH.out.cell hx)
        have wj : IntKind.i64.wrap ((j : Int) + 1) = (j : Int) + 1 := by rw [IntKind.wrap_i64]; omega
        have wi : IntKind.i64.wrap ((i : Int) + 1) = (i : Int) + 1 := by rw [IntKind.wrap_i64]; omega
        have HX := Lib.hid hx
        have HC := HP.out wr HB.out x (List.mem_of_getElem? hx)
        have HCC := Lib.hid HC
        clear HC
        clear hx
        go_wp2_with fail
        refine HCC.out.mono ?_
        rintro e w2 ⟨rfl, hb⟩
        have HB2 : Hid (w.grownBy w2 (some g)) := grown_below HB.out hb
        have HBL2 : Hid (Blk w2 g 50 cur) := HBL.out.below hb HBL.out.lt
        clear hb
        cases hpx : p x
        · have HHN := Lib.hid (HH.out.keep HCAP.out.1 HX.out hpx)
          obtain ⟨y0, s0⟩ : ∃ y, w2.cell? ⟨g, i, none⟩ = some y := ⟨_, by rw [HBL2.out.cell, List.getElem?_eq_getElem (by rw [HH.out.len]; have := HCAP.out.1; omega)]⟩
          have f0 : w2.frozen? ⟨g, i, none⟩ = false := HBL2.out.frozen _
          go_wp2_with fail
          go_roundw
          case rel => exact ⟨i + 1, j + 1, _, _, by go_num, by go_num, rfl, by omega, by omega, HHN.out, HBL2.out.set_ _ _, Keeps.setCell (g := g) HB2.out _ _⟩
          case measure => simp; omega
        · have HHN := Lib.hid (HH.out.out HX.out hpx)
          go_wp2_with fail
          go_roundw
          case rel => exact ⟨i, j + 1, _, _, rfl, by go_num, rfl, by omega, by omega, HHN.out, HBL2.out, HB2.out⟩
          case measure => simp; omega
      · obtain rfl : j = l.length := by omega
        have hlt : ¬ ((l.length : Int) < (l.length : Int)) := by omega
        have hi1 : i ≤ l.length := by omega
        obtain ⟨w3, cs, hcl3, hb3, hk3, hl3⟩ := run_clear_k (P := Try.prog) wr 52 50 0 (.pointer none) underePt (zeroPt wr) g (i) (l.length - i) (cap - i) cur 50 HBL.out (by rw [HH.out.len]; simp [Value.cells]; omega) (by intro v hv; simp [Value.cells] at hv; first | (rcases hv with rfl | rfl <;> rfl) | (rw [hv]; rfl))
        have q1 : (Instr.sliceAt 52 (.slice (some ⟨g, 0, none⟩) l.length cap) (some (.int .i64 (i : Int))) none none).run Try.prog wr = .ok (.slice (some ⟨g, i, none⟩) (l.length - i) (cap - i)) wr := by rw [Q1.out wr i hi1, cutPt_at g i cap (by omega)]
        have q2 : ∀ w', (Instr.sliceAt 52 (.slice (some ⟨g, 0, none⟩) l.length cap) none (some (.int .i64 (i : Int))) none).run Try.prog w' = .ok (.slice (some ⟨g, 0, none⟩) i cap) w' := fun w' => Q2.out w' i (by omega)
        have HB3 := Lib.hid hb3
        have HK3 := Lib.hid hk3
        have HL3 := Lib.hid hl3
        clear hb3 hk3 hl3
        go_wp2_with fail
        go_ret
        have hf : (l.filter fun x => !p x).length = i := by rw [← HH.out.cnt, List.take_length]
        have hdone := HH.out.done
        rw [List.take_length] at hdone
        refine ⟨_, rfl, ?_, ?_, rfl⟩
        · rw [hf]
          refine ⟨?_, .inr ⟨g, cap, (splice cur (i) cs).toArray, rfl, Nat.zero_le _, HB3.out, by have := HCAP.out.1; omega, HCAP.out.2, ?_, ?_⟩⟩
          · rw [← hdone, List.length_take, HH.out.len]; have := HCAP.out.1; omega
          · have hlz : cs.length = (l.length - i) * 1 := by rw [HL3.out]; rfl
            rw [List.size_toArray, splice_length _ _ _ (by rw [hlz, HH.out.len]; have := HCAP.out.1; omega), HH.out.len]
          · rw [← hdone]
            have hle : i ≤ cur.length := by rw [HH.out.len]; have := HCAP.out.1; omega
            have h9 := splice_take cur (i) cs hle
            simpa using h9
        · exact Keeps.trans HB.out HK3.out
end Tm
end Go.Proofs.Ytpblhdpnmnfieaa

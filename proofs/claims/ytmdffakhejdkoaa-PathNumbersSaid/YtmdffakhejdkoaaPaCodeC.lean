/-
  OWN WORK. Names: Join, Parent, Within, the program's; slices.Clone of texts.
-/
import Derived.Test.YtmdffakhejdkoaaPaCodeB
import Derived.Test.YtmdffakhejdkoaaPaBuild
import Derived.Lib.SliceRun
namespace Go.Proofs.Ytmdffakhejdkoaa
open Go.RowKit

/-- What is joined of these names. -/
def joined (l : List Bs) : Bs := l.flatMap (47 :: ·)
theorem joined_snoc (l : List Bs) (x : Bs) : joined (l ++ [x]) = joined l ++ 47 :: x := by simp [joined]
theorem joined_take_le (l : List Bs) (k : Nat) : (joined (l.take k)).length ≤ (joined l).length := by
  conv => rhs; rw [← List.take_append_drop k l]
  unfold joined
  rw [List.flatMap_append, List.length_append]
  omega
theorem join_of {l : List Bs} (h : l ≠ []) : Pa.join l = joined l := by unfold Pa.join joined; rw [if_neg h]
theorem take_snoc {α : Type} {l : List α} {k : Nat} {x : α} (h : l[k]? = some x) : l.take (k + 1) = l.take k ++ [x] := by
  obtain ⟨hk, e⟩ := List.getElem?_eq_some_iff.1 h
  rw [List.take_succ_eq_append_getElem hk, e]
/-- Where Join stands. -/
structure JIn (l : List Bs) (k : Nat) (w wr : World) : Prop where
  le : k ≤ l.length
  text : Lib.IsBuilder 42 5 w.heap.size w.heap.size (Lib.byteCells (joined (l.take k))) wr
  later : Below w.heap.size w wr

set_option maxHeartbeats 4000000 in
set_option maxRecDepth 100000 in
theorem join_any (l : List Bs) (A : Option Addr) (cap : Nat) (w : World) (hr : RdS w A l) (hl : (joined l).length ≤ 140737488355328) : Calls Try.prog 13 #[.slice A l.length cap] w fun e w' => e = .returned (.string (strOf (Pa.join l))) ∧ Below w.heap.size w w' := by
  by_cases h0 : l = []
  · subst h0
    go_enter Try.func13, Try.ntmps13
    go_wp2
    go_ret
    exact ⟨rfl, Below.refl _ _⟩
  have hp : 0 < l.length := List.length_pos_iff.2 h0
  have hll : l.length ≤ (joined l).length := by
    clear hl hp h0 hr
    induction l with
    | nil => simp [joined]
    | cons x l ih => unfold joined at ih ⊢; rw [List.flatMap_cons, List.length_append, List.length_cons, List.length_cons]; omega
  have hlen0 : ((l.length : Int) == 0) = false := by simp; omega
  have HE : Hid (Pa.join l = joined l) := join_of h0
  have HS : Hid (∀ wr, Below w.heap.size w wr → RdS wr A l) := fun wr h => hr.below h
  obtain ⟨b, off, rfl, hblt, _⟩ := hr hp
  have HL := Lib.hid hl
  have hlm : l.length ≤ 140737488355328 := by omega
  clear hr hl hll
  have H0 : Hid (JIn l 0 w (w.alloc (.cells #[.pointer none, .slice none 0 0] 42))) := ⟨Nat.zero_le _, .inl ⟨Nat.le_refl _, _, heap_alloc_new w _, ⟨rfl, .inl ⟨rfl, rfl⟩⟩, by simp [Value.ownBlock]⟩, below_new w _⟩
  go_enter Try.func13, Try.ntmps13
  go_wp2
  go_loopw [11] (fun t11 wr => ∃ k : Nat, t11 = .int .i64 k ∧ Hid (JIn l k w wr)) (fun t11 _ => l.length - (match t11 with | .int _ k => k.toNat | _ => 0))
  case atStart => exact ⟨0, rfl, H0⟩
  case round =>
    obtain ⟨k, rfl, HJ⟩ := hrel
    by_cases hk : k < l.length
    · obtain ⟨x, hx⟩ : ∃ x, l[k]? = some x := ⟨_, List.getElem?_eq_getElem hk⟩
      have hcell : wr.cell? ⟨b, off + k, none⟩ = some (.string (strOf x)) := by
        obtain ⟨b', off', e, h⟩ := (HS.out wr HJ.out.later).at_ hx
        cases e
        exact h
      have HT : Hid (l.take (k + 1) = l.take k ++ [x]) := take_snoc hx
      have HN : Hid ((joined (l.take k)).length + 1 + x.length ≤ 140737488355328) := by
        have h1 := joined_take_le l (k + 1)
        have h2 := HL.out
        rw [HT.out, joined_snoc, List.length_append, List.length_cons] at h1
        show _ ≤ _
        omega
      have HBS : Hid (w.heap.size ≤ wr.heap.size) := HJ.out.later.size
      clear hx
      go_wp2_with fail
      refine (writeByte_any w.heap.size w.heap.size _ 47 _ HJ.out.text (by rw [Lib.byteCells_length]; have := HN.out; omega) HBS.out).mono ?_
      rintro e w1 ⟨rfl, hb1, hl1⟩
      have HB1 : Hid (Lib.IsBuilder 42 5 w.heap.size w.heap.size (Lib.byteCells (joined (l.take k) ++ [47])) w1) := .inr (by rw [Lib.byteCells_append]; exact hb1)
      have HL1 : Hid (Below w.heap.size w w1) := HJ.out.later.trans hl1
      have HBS1 : Hid (w.heap.size ≤ w1.heap.size) := HL1.out.size
      clear hb1 hl1
      go_wp2_with fail
      refine (writeString_any w.heap.size w.heap.size _ x _ HB1.out (by rw [Lib.byteCells_length, List.length_append]; have := HN.out; simp only [List.length_singleton]; omega) HBS1.out).mono ?_
      rintro e w2 ⟨rfl, hb2, hl2⟩
      have HJ2 : Hid (JIn l (k + 1) w w2) := by
        refine ⟨hk, .inr ?_, HL1.out.trans hl2⟩
        rw [HT.out, joined_snoc, show joined (l.take k) ++ 47 :: x = (joined (l.take k) ++ [47]) ++ x by simp, Lib.byteCells_append]
        exact hb2
      clear hb2 hl2
      go_wp2_with fail
      go_roundw
      case rel => exact ⟨k + 1, rfl, HJ2⟩
      case measure => simp; omega
    · obtain rfl : k = l.length := by have := HJ.out.le; omega
      have HB1 : Hid (Lib.IsBuilder 42 5 w.heap.size w.heap.size (Lib.byteCells (joined l)) wr) := by
        have h := HJ.out.text
        rw [List.take_length] at h
        exact h
      go_wp2_with fail
      refine (text_any w.heap.size w.heap.size _ _ HB1.out HJ.out.later.size).mono ?_
      rintro e w1 ⟨rfl, hl1⟩
      have HL1 : Hid (Below w.heap.size w w1) := HJ.out.later.trans hl1
      clear hl1
      go_wp2_with fail
      go_ret
      exact ⟨by rw [HE.out]; rfl, HL1.out⟩

set_option maxHeartbeats 1000000 in
set_option maxRecDepth 100000 in
theorem cloneS_any (w : World) (A : Option Addr) (x : List Bs) (cap : Nat) (hr : RdS w A x) (hx : x.length ≤ 68719476736) :
    Calls Try.prog 20 #[.slice A x.length cap] w fun e w' => ∃ v, e = .returned v ∧ TAt w.heap.size v x w w' := by
  have q22 : ∀ (w : World) (a : Option Addr) (n c n' c' : Nat), (binOp .eql 22 (.slice a n c) (.slice none n' c')).run Try.prog w = .ok (.bool a.isNone) w := fun w a n c n' c' => Lib.run_eql_slice_nil w _ _ a n c n' c' Try.underlying22
  cases A with
  | none =>
    obtain rfl : x = [] := by
      rcases Nat.eq_zero_or_pos x.length with h | h
      · exact List.eq_nil_of_length_eq_zero h
      · obtain ⟨b, off, h1, _⟩ := hr h
        cases h1
    go_enter Try.func20, Try.ntmps20
    go_wp2_with fail
    go_ret
    exact ⟨_, rfl, TAt.nil w⟩
  | some ad =>
    have H0 : Hid (TAt w.heap.size (.slice (some ⟨w.heap.size, 0, none⟩) 0 0) [] w (w.alloc (.cells #[] 9))) := TAt.empty w
    have HRW : Hid (RdS (w.alloc (.cells #[] 9)) (some ad) x) := hr.below (below_new w _)
    have HN : Hid (([] : List Bs).length + x.length ≤ 68719476736) := by show 0 + _ ≤ _; omega
    clear hr
    go_enter Try.func20, Try.ntmps20
    go_wp2_with (at_builtin; refine wpList_append_txts rfl (.tmp 5) (.tmp 6) rfl rfl H0.out (Below.refl _ _) (some ad) x x.length cap rfl rfl HRW.out HN.out ?_; intro v1 w1 HO1 HG1)
    clear HG1
    go_ret
    exact ⟨_, rfl, HO1.out⟩

set_option maxHeartbeats 1000000 in
set_option maxRecDepth 100000 in
theorem within_names (w : World) (l o : List Bs) (A B : Option Addr) (c d : Nat) (hr : RdS w A l) (hs : RdS w B o) (_hl : l.length ≤ 1000000) (ho : o.length ≤ 1000000) :
    Calls Try.prog 10 #[.slice A l.length c, .slice B o.length d] w fun e w' => e = .returned (.bool (decide (o = l.take o.length))) ∧ w = w' := by
  by_cases hgt : l.length < o.length
  · have HF : Hid (decide (o = l.take o.length) = false) := decide_eq_false fun e => by have := congrArg List.length e; rw [List.length_take] at this; omega
    go_enter Try.func10, Try.ntmps10
    go_wp2
    go_ret
    exact ⟨by rw [HF.out]; rfl, rfl⟩
  have HR := Lib.hid hr
  have HS := Lib.hid hs
  clear hr hs
  go_enter Try.func10, Try.ntmps10
  go_wp2
  go_loopw [14] (fun t14 wr => ∃ k : Nat, t14 = .int .i64 k ∧ k ≤ o.length ∧ Hid (o.take k = l.take k) ∧ wr = w) (fun t14 _ => o.length - (match t14 with | .int _ k => k.toNat | _ => 0))
  case atStart => exact ⟨0, rfl, Nat.zero_le _, rfl, rfl⟩
  case round =>
    obtain ⟨k, rfl, hko, HK, rfl⟩ := hrel
    by_cases hk : k < o.length
    · obtain ⟨x, hx⟩ : ∃ x, o[k]? = some x := ⟨_, List.getElem?_eq_getElem hk⟩
      obtain ⟨y, hy⟩ : ∃ y, l[k]? = some y := ⟨_, List.getElem?_eq_getElem (by omega)⟩
      obtain ⟨b1, off1, rfl, hc1⟩ := HS.out.at_ hx
      obtain ⟨b2, off2, rfl, hc2⟩ := HR.out.at_ hy
      have HX : Hid (o.take (k + 1) = o.take k ++ [x] ∧ l.take (k + 1) = l.take k ++ [y]) := ⟨take_snoc hx, take_snoc hy⟩
      have HXY : Hid (o[k]? = some x ∧ l[k]? = some y) := ⟨hx, hy⟩
      clear hx hy
      by_cases he : y = x
      · have e1 : ((strOf y).toList == (strOf x).toList) = true := by rw [strOf_beq]; exact decide_eq_true he
        go_wp2
        go_roundw
        case rel => exact ⟨k + 1, rfl, by omega, by show _ = _; rw [HX.out.1, HX.out.2, HK.out, he], by first | rfl | trivial⟩
        case measure => simp; omega
      · have e1 : ((strOf y).toList == (strOf x).toList) = false := by rw [strOf_beq]; exact decide_eq_false he
        have HF : Hid (decide (o = l.take o.length) = false) := decide_eq_false fun e => he (by
          have h1 := HXY.out.1
          rw [e, List.getElem?_take_of_lt hk, HXY.out.2] at h1
          exact Option.some.inj h1)
        go_wp2
        go_ret
        exact ⟨by rw [HF.out]; rfl, rfl⟩
    · obtain rfl : k = o.length := by omega
      have HF : Hid (decide (o = l.take o.length) = true) := decide_eq_true (by have := HK.out; rw [List.take_length] at this; exact this)
      go_wp2
      go_ret
      exact ⟨by rw [HF.out]; rfl, rfl⟩
end Go.Proofs.Ytmdffakhejdkoaa

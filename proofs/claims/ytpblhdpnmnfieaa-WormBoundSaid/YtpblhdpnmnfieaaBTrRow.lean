/-
  OWN WORK. Rows of whatever elements: copies into them, their ends cleared; names and nodes as they lie in memory.
-/
import Derived.Test.YtpblhdpnmnfieaaBTrLaw
import Derived.Test.YtpblhdpnmnfieaaBCpClone
import Derived.Test.YtpblhdpnmnfieaaBBaObj
import Derived.Lib.AppendZerosOnto
import Derived.Lib.Overlaps
import Derived.Laws.Externs
namespace Go.Proofs.Ytpblhdpnmnfieaa
open Go.RowKit
/-! Rows of elements of k cells. -/
/-- A copy into a known block, elements of k cells. -/
theorem run_copy_k {P : Program} (w : World) (dT sT ty elem : TypeId) (k : Nat) (hu : P.underlying dT = some (.slice elem)) (hsz : (P.info? elem).map (·.size) = some k)
    (g o dLen dCap : Nat) (ad : Addr) (sLen sCap : Nat) (cur : List Value) (t : TypeId) (hg : Blk w g t cur) (cs : List Value) (n : Nat) (hn : n = Nat.min sLen dLen) (hl : cs.length = n * k)
    (hsrc : ∀ j v, cs[j]? = some v → w.cell? (ad.add j) = some v) (hfit : o + cs.length ≤ cur.length) (h1 : ∀ v ∈ cs, v.oneCell' = true) :
    ∃ w', (Builtin.copy_ #[dT, sT] ty #[.slice (some ⟨g, o, none⟩) dLen dCap, .slice (some ad) sLen sCap]).run P w = .ok (goInt n) w' ∧ Blk w' g t (splice cur o cs) ∧ Keeps w w' g := by
  have hld := run_firstCells_some (P := P) w k n ad sLen sCap cs hl hsrc
  have hst := run_storeCells_at P g o t cs 0 cur.toArray w hg (by simpa using hfit) h1
  refine ⟨w.setRow g (cur.toArray.toList.take o ++ cs ++ cur.toArray.toList.drop (o + cs.length)).toArray, ?_, ?_, (Keeps.refl w g).setRow _⟩
  · cases hq : P.info? elem with
    | none => simp [hq] at hsz
    | some i =>
      have hi : i.size = k := by simpa [hq] using hsz
      subst hi
      simp [Builtin.copy_, run_underlying hu, Builtin.lenOf, sizeOf, typeInfo, hq, ← hn, hld, hst]
  · have e : cur.toArray.toList.take o ++ cs ++ cur.toArray.toList.drop (o + cs.length) = splice cur o cs := by simp [splice]
    rw [e]
    exact hg.row _
/-- The end of a known block cleared. -/
theorem run_clear_k {P : Program} (w : World) (t0 elem ty : TypeId) (z : Value) (ht : P.underlying t0 = some (.slice elem)) (hz : (zeroValue elem).run P w = .ok z w)
    (g o n cap : Nat) (cur : List Value) (t : TypeId) (hg : Blk w g t cur) (hfit : o + n * z.cells.size ≤ cur.length) (h1 : ∀ v ∈ z.cells.toList, v.oneCell' = true) :
    ∃ w' cs, (Builtin.clear_ #[t0] ty #[.slice (some ⟨g, o, none⟩) n cap]).run P w = .ok (.tuple #[]) w' ∧ Blk w' g t (splice cur o cs) ∧ Keeps w w' g ∧ cs.length = n * z.cells.size := by
  cases n with
  | zero => exact ⟨w, [], by simp [Builtin.clear_, run_underlying ht], by simpa [splice] using hg, Keeps.refl w g, by simp⟩
  | succ m =>
    obtain ⟨cs, hcs⟩ : ∃ cs, cs = (Builtin.zeroCells z.cells (m + 1)).toList := ⟨_, rfl⟩
    have hl : cs.length = (m + 1) * z.cells.size := by rw [hcs]; simp [Builtin.zeroCells]
    have hone : ∀ v ∈ cs, v.oneCell' = true := by
      intro v hv
      rw [hcs] at hv
      simp only [Builtin.zeroCells, Array.toList_map, List.mem_map, Array.toList_range, List.mem_range] at hv
      obtain ⟨i, hi, rfl⟩ := hv
      have hz0 : 0 < z.cells.size := by
        rcases Nat.eq_zero_or_pos z.cells.size with h | h
        · rw [h] at hi; omega
        · exact h
      have hs := Nat.mod_lt i hz0
      refine h1 _ ?_
      rw [getElem!_pos z.cells (i % z.cells.size) hs]
      exact Array.getElem_mem_toList hs
    have hst := run_storeCells_at P g o t cs 0 cur.toArray w hg (by rw [hl]; simpa using hfit) hone
    refine ⟨w.setRow g (cur.toArray.toList.take o ++ cs ++ cur.toArray.toList.drop (o + cs.length)).toArray, cs, ?_, ?_, (Keeps.refl w g).setRow _, hl⟩
    · simp [Builtin.clear_, run_underlying ht, hz, ← hcs, hst]
    · have e : cur.toArray.toList.take o ++ cs ++ cur.toArray.toList.drop (o + cs.length) = splice cur o cs := by simp [splice]
      rw [e]
      exact hg.row _
theorem step_copy_k {P : Program} {ops : Array Oper} {o : Oper} {a : Act} {w : World} {K : Act → World → Prop} {Q : Exit → Act → World → Prop} {E : Prop} (hgd : o.guard = none) (d s : Operand) (dT sT : TypeId)
    (ho : o.op = .call { callee := .builtin .copy, args := #[d, s], argTypes := #[dT, sT] }) (elem : TypeId) (k : Nat) (hu : P.underlying dT = some (.slice elem)) (hsz : (P.info? elem).map (·.size) = some k)
    (g off dLen dCap : Nat) (ad : Addr) (sLen sCap : Nat) (hd : a.eval d = .slice (some ⟨g, off, none⟩) dLen dCap) (hs : a.eval s = .slice (some ad) sLen sCap)
    (cur : List Value) (t : TypeId) (hg : Blk w g t cur) (cs : List Value) (n : Nat) (hn : n = Nat.min sLen dLen) (hl : cs.length = n * k)
    (hsrc : ∀ j v, cs[j]? = some v → w.cell? (ad.add j) = some v) (hfit : off + cs.length ≤ cur.length) (h1 : ∀ v ∈ cs, v.oneCell' = true)
    (h : ∀ w', Hid (Blk w' g t (splice cur off cs)) → Hid (Keeps w w' g) → K (a.put o.dst (goInt n)) w') :
    if Region.wanted o (yielded ops a.tmps) = true then Oper.wp P o a w K Q else E := by
  rw [if_pos (show Region.wanted o (yielded ops a.tmps) = true by simp [Region.wanted, hgd])]
  obtain ⟨w', hrun, hb, hk⟩ := run_copy_k w dT sT o.type elem k hu hsz g off dLen dCap ad sLen sCap cur t hg cs n hn hl hsrc hfit h1
  unfold Oper.wp
  simp [execOp, ho, resolve, invoke, builtin, hd, hs, hrun, Result.andThen]
  exact h w' hb hk
theorem wpList_copy_k {P : Program} {w : World} {ops : Array Oper} {rest : List Oper} {o : Oper} {a : Act} {Q : Exit → Act → World → Prop} (hgd : o.guard = none) (d s : Operand) (dT sT : TypeId)
    (ho : o.op = .call { callee := .builtin .copy, args := #[d, s], argTypes := #[dT, sT] }) (elem : TypeId) (k : Nat) (hu : P.underlying dT = some (.slice elem)) (hsz : (P.info? elem).map (·.size) = some k)
    (g off dLen dCap : Nat) (ad : Addr) (sLen sCap : Nat) (hd : a.eval d = .slice (some ⟨g, off, none⟩) dLen dCap) (hs : a.eval s = .slice (some ad) sLen sCap)
    (cur : List Value) (t : TypeId) (hg : Blk w g t cur) (cs : List Value) (n : Nat) (hn : n = Nat.min sLen dLen) (hl : cs.length = n * k)
    (hsrc : ∀ j v, cs[j]? = some v → w.cell? (ad.add j) = some v) (hfit : off + cs.length ≤ cur.length) (h1 : ∀ v ∈ cs, v.oneCell' = true)
    (h : ∀ w', Hid (Blk w' g t (splice cur off cs)) → Hid (Keeps w w' g) → wpList P ops Q rest (a.put o.dst (goInt n)) w') : wpList P ops Q (o :: rest) a w := by
  refine wpList_plain hgd fun K hK => ?_
  obtain ⟨w', hrun, hb, hk⟩ := run_copy_k w dT sT o.type elem k hu hsz g off dLen dCap ad sLen sCap cur t hg cs n hn hl hsrc hfit h1
  unfold Oper.wp
  simp [execOp, ho, resolve, invoke, builtin, hd, hs, hrun, Result.andThen]
  exact hK _ _ (h w' hb hk)
/-! What an insertion does to a row. -/
theorem splice_length {α : Type} (L : List α) (o : Nat) (cs : List α) (h : o + cs.length ≤ L.length) : (splice L o cs).length = L.length := by
  unfold splice
  rw [List.length_append, List.length_append, List.length_take, List.length_drop]; omega
theorem splice_take {α : Type} (L : List α) (o : Nat) (cs : List α) (h : o ≤ L.length) : (splice L o cs).take o = L.take o := by
  unfold splice
  rw [List.take_append_of_le_length (by rw [List.length_take]; omega), List.take_take, Nat.min_self]
theorem splice_drop {α : Type} (L : List α) (o : Nat) (cs : List α) (h : o ≤ L.length) : (splice L o cs).drop (o + cs.length) = L.drop (o + cs.length) := by
  unfold splice
  rw [← List.append_assoc, List.drop_append_of_le_length (by rw [List.length_append, List.length_take]; omega), List.drop_eq_nil_of_le (by rw [List.length_append, List.length_take]; omega), List.nil_append]
theorem splice_cut {α : Type} (L : List α) (o : Nat) (cs : List α) (h : o ≤ L.length) : (splice L o cs).drop o = cs ++ L.drop (o + cs.length) := by
  unfold splice
  rw [List.drop_append_of_le_length (by rw [List.length_take]; omega), List.drop_eq_nil_of_le (by rw [List.length_take]; omega), List.nil_append]
/-- In place. -/
theorem ins_row {α : Type} (cur xs ys : List α) (a k N : Nat) (hx : cur.take N = xs) (hN : N + k ≤ cur.length) (ha : a ≤ N) (hy : ys.length = k) :
    (splice (splice cur (a + k) (xs.drop a)) a ys).length = cur.length ∧ (splice (splice cur (a + k) (xs.drop a)) a ys).take (N + k) = xs.take a ++ (ys ++ xs.drop a) := by
  have hxl : xs.length = N := by rw [← hx, List.length_take]; omega
  have hdl : (xs.drop a).length = N - a := by rw [List.length_drop, hxl]
  have l1 := splice_length cur (a + k) (xs.drop a) (by rw [hdl]; omega)
  refine ⟨by rw [splice_length _ _ _ (by rw [l1, hy]; omega), l1], ?_⟩
  have e1 : (splice cur (a + k) (xs.drop a)).take a = xs.take a := by
    have h := splice_take cur (a + k) (xs.drop a) (by omega)
    have h2 := congrArg (List.take a) h
    rw [List.take_take, List.take_take, Nat.min_eq_left (by omega)] at h2
    rw [h2, ← hx, List.take_take, Nat.min_eq_left ha]
  have e2 : (splice cur (a + k) (xs.drop a)).drop (a + ys.length) = xs.drop a ++ cur.drop (N + k) := by
    rw [hy, splice_cut _ _ _ (by omega), hdl]
    congr 2; omega
  have e3 : splice (splice cur (a + k) (xs.drop a)) a ys = xs.take a ++ (ys ++ (xs.drop a ++ cur.drop (N + k))) := by
    unfold splice at e1 e2 ⊢
    rw [e1, e2]
  rw [e3, ← List.append_assoc, ← List.append_assoc, ← List.append_assoc, List.take_append_of_le_length (by simp only [List.length_append, List.length_take, hdl, hy, hxl]; omega), List.take_of_length_le (by simp only [List.length_append, List.length_take, hdl, hy, hxl]; omega), List.append_assoc]
/-- In a new row. -/
theorem ins_new {α : Type} (cur xs ys : List α) (a k N : Nat) (hxl : xs.length = N) (hx : cur.take a = xs.take a) (hN : N + k ≤ cur.length) (ha : a ≤ N) (hy : ys.length = k) :
    (splice (splice cur a ys) (a + k) (xs.drop a)).length = cur.length ∧ (splice (splice cur a ys) (a + k) (xs.drop a)).take (N + k) = xs.take a ++ (ys ++ xs.drop a) := by
  have hdl : (xs.drop a).length = N - a := by rw [List.length_drop, hxl]
  have l1 := splice_length cur a ys (by rw [hy]; omega)
  refine ⟨by rw [splice_length _ _ _ (by rw [l1, hdl]; omega), l1], ?_⟩
  have e1 : (splice cur a ys).take (a + k) = xs.take a ++ ys := by
    unfold splice
    rw [← List.append_assoc, List.take_append_of_le_length (by rw [List.length_append, List.length_take, hy]; omega), List.take_of_length_le (by rw [List.length_append, List.length_take, hy]; omega), hx]
  have e2 : (splice (splice cur a ys) (a + k) (xs.drop a)) = (xs.take a ++ ys) ++ (xs.drop a ++ (splice cur a ys).drop (a + k + (xs.drop a).length)) := by
    conv => lhs; unfold splice
    rw [show List.take a cur ++ (ys ++ List.drop (a + ys.length) cur) = splice cur a ys from rfl, e1]
  rw [e2, ← List.append_assoc, List.take_append_of_le_length (by simp only [List.length_append, List.length_take, hdl, hy, hxl]; omega), List.take_of_length_le (by simp only [List.length_append, List.length_take, hdl, hy, hxl]; omega), List.append_assoc]
end Go.Proofs.Ytpblhdpnmnfieaa

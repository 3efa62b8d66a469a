/-
  OWN WORK. fault.search: the walk.
-/
import Derived.Test.YtbidhljigeoooaaDoorFaSearch
import Derived.Test.YtbidhljigeoooaaDoorFaAgain
namespace Go.Proofs.YtbidhljigeoooaaDoor
open Go.RowKit Go.Stop

/-- An array that is part of a block, loaded whole. -/
theorem run_loadVar_part {P : Program} (w : World) (ad : Addr) (ty : TypeId) (cs : List Value) (d : TypeDesc) (hc : ∀ j v, cs[j]? = some v → w.cell? (ad.add j) = some v)
    (hu : P.underlying ty = some d) (hd : (match d with | .struct _ | .array _ _ => true | _ => false) = true) (hi : (P.info? ty).map (·.size) = some cs.length) :
    (loadVar ty ad).run P w = .ok (.agg cs.toArray) w := by
  have hl : (loadCells ad cs.length).run P w = .ok cs.toArray w := run_loadCells_list (P := P) w ad cs hc
  cases hq : P.info? ty with
  | none => simp [hq] at hi
  | some i =>
    have hs : i.size = cs.length := by simpa [hq] using hi
    have hagg : (isAgg ty).run P w = .ok true w := by
      unfold isAgg
      rw [Sem.run_bind, run_underlying hu w]
      cases d <;> simp_all
    simp [loadVar, Sem.run_bind, hagg, sizeOf, typeInfo, hq, hs, hl]

theorem wpList_load_part {P : Program} {w : World} {ops : Array Oper} {rest : List Oper} {o : Oper} {a : Act} {Q : Exit → Act → World → Prop} (hgd : o.guard = none) (ty : TypeId) (x : Operand) (ho : o.op = .load ty x)
    (ad : Addr) (hx : a.eval x = .pointer (some ad)) (cs : List Value) (d : TypeDesc) (hc : ∀ j v, cs[j]? = some v → w.cell? (ad.add j) = some v)
    (hu : P.underlying ty = some d) (hd : (match d with | .struct _ | .array _ _ => true | _ => false) = true) (hi : (P.info? ty).map (·.size) = some cs.length)
    (h : wpList P ops Q rest (a.put o.dst (.agg cs.toArray)) w) : wpList P ops Q (o :: rest) a w := by
  refine wpList_plain hgd fun K hK => ?_
  unfold Oper.wp execOp
  simp only [ho, hx, Instr.loadAt, Instr.sureAddr, Sem.run_bind, Sem.run_pure, Result.andThen_ok, run_loadVar_part w ad ty cs d hc hu hd hi]
  exact hK _ _ h

theorem step_cells {w : World} {g : Nat} {x : Value} {d : Int} (h0 : w.cell? ⟨g, 0, none⟩ = some x) (h1 : w.cell? ⟨g, 1, none⟩ = some (.int .i64 d)) (j : Nat) (v : Value) (h : ([x, .int .i64 d] : List Value)[j]? = some v) : w.cell? ((⟨g, 0, none⟩ : Addr).add j) = some v := by
  have e : (⟨g, 0, none⟩ : Addr).add j = ⟨g, j, none⟩ := by unfold Addr.add; split <;> simp_all
  rw [e]
  match j, h with
  | 0, h => simpa using (by simpa using h : x = v) ▸ h0
  | 1, h => simpa using (by simpa using h : Value.int .i64 d = v) ▸ h1

theorem cell_of_row' {w : World} {g : Nat} {cur : Array Value} {t : TypeId} {fz : Nat × Nat} {j : Nat} (h : w.heap[g]? = some (.cells cur t fz)) : w.cell? ⟨g, j, none⟩ = cur[j]? := by
  simp [World.cell?, h]
theorem SetAt.same {w w' : World} {B : Nat} {ks : List Nat} (h : SetAt w B ks) (hs : w'.heap[B]? = w.heap[B]?) : SetAt w' B ks := by
  obtain ⟨es, clock, h1, h2⟩ := h
  exact ⟨es, clock, hs.trans h1, h2⟩
/-- One step in a block of the search's own, or none. -/
def Todo (wr : World) (B : Nat) (v x : Value) (d : Int) (m : Nat) : Prop := wr.ownsRow B 101 2 v m (if m = 0 then [] else [x, .int .i64 d]) ∧ ∃ g cap, v = .slice (some ⟨g, 0, none⟩) m cap
theorem Todo.open1 {wr : World} {B : Nat} {v x : Value} {d : Int} (h : Todo wr B v x d 1) : ∃ g cap, v = .slice (some ⟨g, 0, none⟩) 1 cap ∧ wr.cell? ⟨g, 0, none⟩ = some x ∧ wr.cell? ⟨g, 1, none⟩ = some (.int .i64 d) ∧ wr.ownsRow B 101 2 (.slice (some ⟨g, 0, none⟩) 0 cap) 0 [] ∧ 1 ≤ cap := by
  obtain ⟨hr, g, cap, rfl⟩ := h
  rcases hr.2 with ⟨h, _⟩ | ⟨g', cap', cur, he, hb, hg, hn, hm, hsz, hx⟩
  · cases h
  · injection he with he1 he2 he3
    injection he1 with he1
    injection he1 with he1
    subst he1 he3
    have hc : ∀ j v, j < 2 → ([x, .int .i64 d] : List Value)[j]? = some v → wr.cell? ⟨g, j, none⟩ = some v := fun j v hj hv => by
      rw [show (if (1 : Nat) = 0 then [] else [x, .int .i64 d]) = [x, .int .i64 d] from rfl] at hx
      rw [cell_of_row' hg]
      rw [← hx, List.getElem?_take, if_pos (by omega)] at hv
      simpa using hv
    exact ⟨g, cap, rfl, hc 0 _ (by omega) rfl, hc 1 _ (by omega) rfl, ⟨rfl, .inr ⟨g, cap, cur, rfl, hb, hg, by omega, hm, hsz, by simp⟩⟩, hn⟩

/-- What stays as a search goes on. -/
def SInv (H : FuncId) (p : Value) (w wr : World) (ks : List Nat) : Prop :=
  Below w.heap.size w wr ∧ SetAt wr (w.heap.size + 2) ks ∧ wr.heap[w.heap.size]? = some (.cells #[.func (Fn.func H) #[] #[p]] 78 (0, 0)) ∧ w.heap.size + 3 < wr.heap.size
section
variable {H : FuncId} {p : Value} {w W W' : World} {ks ks' : List Nat}
theorem SInv.step (h : SInv H p w W ks) (hb : Below W.heap.size W W') : SInv H p w W' ks := by
  obtain ⟨h1, h2, h3, h4⟩ := h
  exact ⟨h1.trans (hb.mono h1.size), h2.same (hb.block _ (by omega)), (hb.block _ (by omega)).trans h3, Nat.lt_of_lt_of_le h4 hb.size⟩
theorem SInv.again (h : SInv H p w W ks) (hg : W.grownBy W' (some (w.heap.size + 2))) (hk : SetAt W' (w.heap.size + 2) ks') : SInv H p w W' ks' := by
  obtain ⟨h1, h2, h3, h4⟩ := h
  exact ⟨h1.grown hg h1.size (fun k e => by cases e; omega), hk, (hg.block _ (by omega) (by simp)).trans h3, Nat.lt_of_lt_of_le h4 hg.size⟩
theorem SInv.row (h : SInv H p w W ks) {v : Value} {k : Nat} {xs : List Value} (ho : W.ownsRow (w.heap.size + 1) 101 2 v k xs) (hg : W.grownBy W' v.ownBlock) : SInv H p w W' ks := by
  obtain ⟨h1, h2, h3, h4⟩ := h
  have hne : ∀ k, v.ownBlock = some k → w.heap.size + 1 ≤ k ∧ k ≠ w.heap.size + 2 := fun k e => by
    rcases ho.2 with ⟨rfl, _⟩ | ⟨g, cap, cur, rfl, hb, hgh, _⟩
    · cases e
    · simp only [Value.ownBlock, Option.some.injEq] at e
      subst e
      refine ⟨hb, ?_⟩
      rintro rfl
      obtain ⟨es, clock, h5, _⟩ := h2
      rw [hgh] at h5
      cases h5
  exact ⟨h1.grown hg h1.size (fun k e => by have := (hne k e).1; omega), h2.same (hg.block _ (by omega) (fun e => (hne _ e.symm).2 rfl)), (hg.block _ (by omega) (fun e => by have := (hne _ e.symm).1; omega)).trans h3, Nat.lt_of_lt_of_le h4 hg.size⟩
end
/-- Behind a search's question that was answered in vain. -/
theorem holds_miss {bf : Nat} {o0 o1 : Obj} {w w' : World} (hbf : w.heap[bf]? = some o0) (h : HoldsPost (Told bf o0 o1 false (w.alloc (.cells #[.bool false] 4))) w false w') : Below w.heap.size w w' := by
  obtain ⟨w1, ⟨hg, h1⟩, _, rfl⟩ := h
  have hlt := (Array.getElem?_eq_some_iff.1 hbf).1
  have hB : Below w.heap.size w w1 := by
   refine ⟨hg.os, hg.tape, hg.output, Nat.le_trans (by simp) hg.size, fun k hk => ?_⟩
   by_cases e : k = bf
   · subst e; rw [h1, hbf]; rfl
   · rw [hg.block k (by simp; omega) (by simpa using e)]; exact Below.heap_alloc _ _ _ hk
  exact hB.setCell (p := ⟨w.heap.size, 0, none⟩) (Nat.le_refl _) _
/-- .. and by yes. -/
theorem holds_hit {bf : Nat} {o0 o1 : Obj} {w0 w w' : World} (hb : Below w0.heap.size w0 w) (hbf : bf < w0.heap.size) (h : HoldsPost (Told bf o0 o1 true (w.alloc (.cells #[.bool false] 4))) w true w') : Told bf o0 o1 true w0 w' := by
  obtain ⟨w1, ⟨hg, h1⟩, _, rfl⟩ := h
  have hs := hb.size
  refine ⟨⟨hg.os.trans hb.os, hg.tape.trans hb.tape, hg.output.trans hb.output, ?_, fun k hk hne => ?_⟩, ?_⟩
  · have := hg.size; simp [World.setCell] at this ⊢; omega
  · have e1 : (w1.setCell ⟨w.heap.size, 0, none⟩ (.bool true)).heap[k]? = w1.heap[k]? := Below.heap_setCell _ _ _ _ (by show k ≠ w.heap.size; omega)
    rw [e1, hg.block k (by simp; omega) hne, Below.heap_alloc _ _ _ (by omega)]
    exact hb.block k hk
  · have e1 : (w1.setCell ⟨w.heap.size, 0, none⟩ (.bool true)).heap[bf]? = w1.heap[bf]? := Below.heap_setCell _ _ _ _ (by show bf ≠ w.heap.size; omega)
    rw [e1]; exact h1

def Base.ask (hb : Bool) : Base → Bool
  | .none => false
  | _ => hb
def Base.more : Base → Nat
  | .none => 0
  | _ => 1
theorem answer_ask (hf hb : Bool) (l : List (ByteArray × ByteArray)) (base : Base) (h : l = [] ∨ hf = false) : answer hf hb l base = base.ask hb := by
  unfold answer Base.ask
  rcases h with rfl | rfl
  · cases base <;> simp
  · cases base <;> simp
theorem answer_first (hb : Bool) (l : List (ByteArray × ByteArray)) (base : Base) (h : l ≠ []) : answer true hb l base = true := by
  unfold answer
  cases base <;> simp [h]

/-- Where a search stands: what is still to come. -/
def SAt (hf hb : Bool) (l : List (ByteArray × ByteArray)) (base : Base) (v : Value) (w : World) (r : List (ByteArray × ByteArray)) (base' : Base) (x : Value) (n m : Nat) (ks : List Nat) : Prop :=
  m ≤ 1 ∧ ks.length ≤ n ∧ n ≤ l.length + 2 ∧ ((l = [] ∨ hf = false) → answer hf hb l base = (m == 1 && base'.ask hb)) ∧
  (m = 1 → (n + r.length + base'.more ≤ l.length + 1 ∧ r.length ≤ l.length) ∧ Chain w r base' x ∧ (∀ k ∈ ks, ∃ r' b', r.length < r'.length ∧ Chain w r' b' (.iface 28 (.pointer (some ⟨k, 0, none⟩)))) ∧ (base' = base ∨ (r = [] ∧ base' = .none)) ∧ (hf = true → l ≠ [] → n = 0 ∧ x = v ∧ r = l)) ∧ (hf = true → l ≠ [] → m = 1)

theorem new_cells (w : World) (cs : List Value) (t : TypeId) (j : Nat) (u : Value) (h : cs[j]? = some u) : (w.alloc (.cells cs.toArray t)).cell? ((⟨w.heap.size, 0, none⟩ : Addr).add j) = some u := by
  have e : (⟨w.heap.size, 0, none⟩ : Addr).add j = ⟨w.heap.size, j, none⟩ := by unfold Addr.add; split <;> simp_all
  rw [e, cell_of_row' (heap_alloc_new w _)]
  simpa using h
theorem start_at (H : FuncId) (p : Value) (w : World) (v : Value) (W0 : World) (hW : W0 = (((w.alloc (.cells #[.func (Fn.func H) #[] #[p]] 78)).alloc (.cells #[v, .int .i64 1] 101)).alloc (.map #[] 0)).alloc (.map #[] 0)) :
    Todo W0 (w.heap.size + 1) (.slice (some ⟨w.heap.size + 1, 0, none⟩) 1 1) v 1 1 ∧ SInv H p w W0 [] := by
  have h1 : W0.heap[w.heap.size]? = some (.cells #[.func (Fn.func H) #[] #[p]] 78 (0, 0)) := by
    rw [hW, Below.heap_alloc _ _ _ (by simp <;> omega), Below.heap_alloc _ _ _ (by simp <;> omega), Below.heap_alloc _ _ _ (by simp)]; exact heap_alloc_new _ _
  have h2 : W0.heap[w.heap.size + 1]? = some (.cells #[v, .int .i64 1] 101 (0, 0)) := by
    rw [hW, Below.heap_alloc _ _ _ (by simp <;> omega), Below.heap_alloc _ _ _ (by simp)]
    have := heap_alloc_new (w.alloc (.cells #[.func (Fn.func H) #[] #[p]] 78)) (.cells #[v, .int .i64 1] 101)
    simpa using this
  have h3 : W0.heap[w.heap.size + 2]? = some (.map #[] 0) := by
    rw [hW, Below.heap_alloc _ _ _ (by simp)]
    have := heap_alloc_new ((w.alloc (.cells #[.func (Fn.func H) #[] #[p]] 78)).alloc (.cells #[v, .int .i64 1] 101)) (.map #[] 0)
    simpa using this
  have h4 : w.heap.size + 3 < W0.heap.size := by rw [hW]; simp
  have h5 : Below w.heap.size w W0 := by
    rw [hW]; exact ((((Below.refl _ _).alloc (Nat.le_refl _) _).alloc (by simp) _).alloc (by simp <;> omega) _).alloc (by simp <;> omega) _
  exact ⟨⟨⟨rfl, .inr ⟨_, 1, _, rfl, Nat.le_refl _, h2, Nat.le_refl _, by unfold maxLen; omega, rfl, rfl⟩⟩, _, _, rfl⟩, h5, ⟨#[], 0, h3, rfl⟩, h1, h4⟩
theorem below_new1 (w : World) (o : Obj) : Below w.heap.size w (w.alloc o) := (Below.refl _ _).alloc (Nat.le_refl _) o
theorem own_step {W W' : World} {B k : Nat} {v : Value} {xs : List Value} (h : W.ownsRow B 101 2 v k xs) (hb : Below W.heap.size W W') : W'.ownsRow B 101 2 v k xs :=
  h.kept (row := none) ⟨hb.os, hb.tape, hb.output, hb.size, fun k hk _ => hb.block k hk⟩ (by cases v.ownBlock <;> simp)
theorem own_not_map {W : World} {B k M : Nat} {v : Value} {xs : List Value} {ks : List Nat} (h : W.ownsRow B 101 2 v k xs) (hm : SetAt W M ks) : v.ownBlock ≠ some M := fun e => by
  obtain ⟨es, clock, h5, _⟩ := hm
  rcases h.2 with ⟨rfl, _⟩ | ⟨g, cap, cur, rfl, hb, hgh, _⟩
  · cases e
  · simp only [Value.ownBlock, Option.some.injEq] at e
    subst e
    rw [hgh] at h5
    cases h5
theorem told_box {bf : Nat} {o0 o1 o : Obj} {t : Bool} {w w' : World} (hbf : bf < w.heap.size) (h : Told bf o0 o1 t (w.alloc o) w') : w'.heap[w.heap.size]? = some o :=
  (h.1.block _ (by simp) (fun e => by cases e; omega)).trans (heap_alloc_new w o)
theorem enter_code {f : FuncId} {fn : Func} {c : Code} (hf : Tryd.prog.funcs[f]? = some fn) (hname : (fn.name == "runtime.NumGoroutine") = false) (hb : fn.body = some c) (args : Array Value) (w : World) :
    (callFunc f args).run Tryd.prog w = .ok (.enter f args) w := by
  have h1 : fn.name ≠ "runtime.NumGoroutine" := by simpa using hname
  simp [callFunc, hf, h1, hb]

end Go.Proofs.YtbidhljigeoooaaDoor

/-
  OWN WORK. BaBig, Rc, CpClone, BaRgStr, BaObj, TrRow, TrMem
-/
import Derived.Test.YtombmeppdhhjhaaR01
import Derived.Test.YtombmeppdhhjhaaR02
import Derived.Lib.SliceRun
import Derived.Lib.AppendZerosOnto
import Derived.Lib.Overlaps
import Derived.Laws.Externs

/-
  OWN WORK. Appends of bytes, of up to 2^47 together.
-/
namespace Go.Proofs.Ytombmeppdhhjhaa
open Go.RowKit

theorem run_append_big {P : Program} (w : World) (base : Nat) (t ty e : TypeId) (i : TypeInfo) (ht : P.underlying t = some (.slice e)) (hi : P.info? e = some i) (hz : i.zero = some (.int .u8 0)) (hsize : i.size = 1) (hby : i.bytes = 1)
    (v : Value) (n : Nat) (xs : List Value) (hown : w.ownsRow base e 1 v n xs) (A : Option Addr) (l : List UInt8) (c : Nat) (hr : Rd w A l) (hn : n + l.length ≤ 140737488355328) (hbase : base ≤ w.heap.size) :
    ∃ v' w', (Builtin.append_ #[t, t] ty #[v, .slice A l.length c]).run P w = .ok v' w' ∧ w'.ownsRow base e 1 v' (n + l.length) (xs ++ Lib.byteCells l) ∧ w.grownBy w' v.ownBlock := by
  cases A with
  | none =>
    have hl : l = [] := by
      rcases Nat.eq_zero_or_pos l.length with h | h
      · exact List.eq_nil_of_length_eq_zero h
      · obtain ⟨b, off, h1, _⟩ := hr h
        cases h1
    subst hl
    refine ⟨v, w, ?_, by simpa [Lib.byteCells] using hown, ⟨rfl, rfl, rfl, Nat.le_refl _, fun _ _ _ => rfl⟩⟩
    show (Builtin.append_ #[t, t] ty #[v, .slice none 0 c]).run P w = .ok v w
    rcases hown.2 with ⟨rfl, rfl⟩ | ⟨g, cap, cur, rfl, _, _, hnc, _⟩
    · simp [Builtin.append_, run_underlying ht, sizeOf, typeInfo, hi, Builtin.lenOf, Builtin.firstCells]
    · simp [Builtin.append_, run_underlying ht, sizeOf, typeInfo, hi, Builtin.lenOf, Builtin.firstCells, hnc, storeCells]
  | some ad =>
    have hc : ∀ j u, (Lib.byteCells l)[j]? = some u → w.cell? (ad.add j) = some u := by
      intro j u hu
      simp only [Lib.byteCells, List.getElem?_map, Option.map_eq_some_iff] at hu
      obtain ⟨x, hx, rfl⟩ := hu
      obtain ⟨b, off, h1, _, h2⟩ := hr (by have := (List.getElem?_eq_some_iff.1 hx).1; omega)
      obtain rfl : ad = ⟨b, off, none⟩ := by injection h1
      rw [add_plain]
      exact h2 j x hx
    obtain ⟨v', w', h1, h2, h3, _⟩ := run_append_own (P := P) (w := w) base t ty e i (.int .u8 0) 1 1 ht hi hz hsize hby rfl (by decide) v n xs hown ad l.length c (Lib.byteCells l) (by simp [Lib.byteCells_length]) hc (bytes_one l) (by unfold maxLen; omega) (by omega) hbase
    exact ⟨v', w', h1, h2, h3⟩

theorem wpList_append_big {P : Program} {w : World} {ops : Array Oper} {rest : List Oper} {o : Oper} {a : Act} {Q : Exit → Act → World → Prop} (hgd : o.guard = none) (s x : Operand) (t : TypeId)
    (ho : o.op = .call { callee := .builtin .append, args := #[s, x], argTypes := #[t, t] })
    (base : Nat) (e : TypeId) (i : TypeInfo) (ht : P.underlying t = some (.slice e)) (hi : P.info? e = some i) (hz : i.zero = some (.int .u8 0)) (hsize : i.size = 1) (hby : i.bytes = 1)
    (v : Value) (n : Nat) (xs : List Value) (hs : a.eval s = v) (hown : w.ownsRow base e 1 v n xs) (A : Option Addr) (l : List UInt8) (m c : Nat) (hm : l.length = m) (hx : a.eval x = .slice A m c) (hr : Rd w A l) (hn : n + l.length ≤ 140737488355328) (hbase : base ≤ w.heap.size)
    (h : ∀ v' w', Hid (w'.ownsRow base e 1 v' (n + l.length) (xs ++ Lib.byteCells l)) → Hid (w.grownBy w' v.ownBlock) → wpList P ops Q rest (a.put o.dst v') w') : wpList P ops Q (o :: rest) a w := by
  subst hm
  refine wpList_plain hgd fun K hK => ?_
  obtain ⟨v', w', hrun, h1, h2⟩ := run_append_big w base t o.type e i ht hi hz hsize hby v n xs hown A l c hr hn hbase
  unfold Oper.wp
  simp [execOp, ho, resolve, invoke, builtin, hs, hx, hrun, Result.andThen]
  exact hK _ _ (h v' w' h1 h2)
end Go.Proofs.Ytombmeppdhhjhaa

/-
  OWN WORK. Regions that draw their order, by facts with what they stand on: an operation may take over what others' results, or objects that were there, stand on, and may turn it; all else stays.
-/
namespace Go.Proofs.Ytombmeppdhhjhaa.Rc
open Go Go.RowKit Go.Proofs.Ytombmeppdhhjhaa.Rg

/-- What was there stays, but for these blocks. -/
structure Mod (w w' : World) (X : Nat → Prop) : Prop where
  os : w'.os = w.os
  tape : w'.tape = w.tape
  output : w'.output = w.output
  size : w.heap.size ≤ w'.heap.size
  block : ∀ k, k < w.heap.size → ¬ X k → w'.heap[k]? = w.heap[k]?
theorem Mod.refl (w : World) (X : Nat → Prop) : Mod w w X := ⟨rfl, rfl, rfl, Nat.le_refl _, fun _ _ _ => rfl⟩
theorem Mod.trans {a b c : World} {X : Nat → Prop} (h : Mod a b X) (k : Mod b c X) : Mod a c X :=
  ⟨k.os.trans h.os, k.tape.trans h.tape, k.output.trans h.output, Nat.le_trans h.size k.size, fun i hi hn => (k.block i (Nat.lt_of_lt_of_le hi h.size) hn).trans (h.block i hi hn)⟩
theorem Mod.mono {a b : World} {X Y : Nat → Prop} (h : Mod a b X) (hXY : ∀ k, k < a.heap.size → X k → Y k) : Mod a b Y := ⟨h.os, h.tape, h.output, h.size, fun k hk hn => h.block k hk fun hx => hn (hXY k hk hx)⟩
theorem Mod.of_below {a b : World} (h : Below a.heap.size a b) (X : Nat → Prop) : Mod a b X := ⟨h.os, h.tape, h.output, h.size, fun k hk _ => h.block k hk⟩
theorem Mod.below {a b : World} {X : Nat → Prop} (h : Mod a b X) (hX : ∀ k, X k → a.heap.size ≤ k) : Below a.heap.size a b := ⟨h.os, h.tape, h.output, h.size, fun k hk => h.block k hk fun hx => Nat.not_lt.2 (hX k hx) hk⟩
theorem Mod.drew {a b : World} {X : Nat → Prop} (h : Mod a b X) : Mod a b.drew X := ⟨h.os, h.tape, h.output, h.size, h.block⟩
theorem Mod.undrew {a b : World} {X : Nat → Prop} (h : Mod a.drew b X) : Mod a b X := ⟨h.os, h.tape, h.output, h.size, h.block⟩

structure Fact where
  holds : Value → World → (Nat → Prop) → Prop
  keep : ∀ v w w' S, holds v w S → w.heap.size ≤ w'.heap.size → (∀ b, S b → w'.heap[b]? = w.heap[b]?) → holds v w' S

def Live (cons : List (Nat × Nat)) (L : Nat → Prop) (i : Nat) : Prop := L i ∧ ∀ k, L k → (k, i) ∉ cons
structure Inv (F : Nat → Fact) (cons : List (Nat × Nat)) (E : Nat → (Nat → Value) → Value → Prop) (W0 : World) (X0 : Nat → Prop) (L : Nat → Prop) (V : Nat → Value) (S : Nat → Nat → Prop) (w : World) : Prop where
  mod : Mod W0 w X0
  holds : ∀ i, Live cons L i → (F i).holds (V i) w (S i)
  lt : ∀ i b, Live cons L i → S i b → b < w.heap.size ∧ (X0 b ∨ W0.heap.size ≤ b)
  sep : ∀ i j b, Live cons L i → Live cons L j → i ≠ j → S i b → ¬ S j b
  eqs : ∀ j, L j → E j V (V j)
def Taken (cons : List (Nat × Nat)) (S : Nat → Nat → Prop) (j : Nat) (b : Nat) : Prop := ∃ i, (j, i) ∈ cons ∧ S i b
def Good (F : Nat → Fact) (cons : List (Nat × Nat)) (E : Nat → (Nat → Value) → Value → Prop) (V : Nat → Value) (S : Nat → Nat → Prop) (j : Nat) (w : World) (v : Value) (w' : World) : Prop :=
  ∃ T : Nat → Prop, Mod w w' (Taken cons S j) ∧ (F j).holds v w' T ∧ (∀ b, T b → (Taken cons S j b ∨ w.heap.size ≤ b) ∧ b < w'.heap.size) ∧ E j V v

section
variable {P : Program} {ops : Array Oper} {Q : Exit → Act → World → Prop} {F : Nat → Fact} {cons : List (Nat × Nat)} {E : Nat → (Nat → Value) → Value → Prop}
theorem Inv.step {W0 : World} {X0 : Nat → Prop} {L : Nat → Prop} {V : Nat → Value} {S : Nat → Nat → Prop} {w w' : World} {j : Nat} {v : Value} (h : Inv F cons E W0 X0 L V S w) (hj : ¬ L j) (hc : ∀ i, (j, i) ∈ cons → Live cons L i) (hnc : ∀ k, L k → (k, j) ∉ cons) (hjj : (j, j) ∉ cons)
    (hse : ∀ k, L k → ∀ V', (∀ i, L i → V i = V' i) → E k V (V k) → E k V' (V k)) (hsj : ∀ V', (∀ i, L i → V i = V' i) → E j V v → E j V' v) (hg : Good F cons E V S j w v w') :
    ∃ T, Inv F cons E W0 X0 (fun k => k = j ∨ L k) (fun k => if k = j then v else V k) (fun k => if k = j then T else S k) w' := by
  obtain ⟨T, hg, hf, ho, heq⟩ := hg
  have live : ∀ k, k ≠ j → Live cons (fun k => k = j ∨ L k) k → Live cons L k ∧ (j, k) ∉ cons := fun k hk ⟨h1, h2⟩ => ⟨⟨h1.resolve_left hk, fun m hm => h2 m (.inr hm)⟩, h2 j (.inl rfl)⟩
  have far : ∀ k, k ≠ j → Live cons (fun k => k = j ∨ L k) k → ∀ b, S k b → b < w.heap.size ∧ ¬ Taken cons S j b := fun k hk hl b hb => by
    obtain ⟨h1, h2⟩ := live k hk hl
    refine ⟨(h.lt k b h1 hb).1, fun ⟨i, hi, hib⟩ => ?_⟩
    exact h.sep k i b h1 (hc i hi) (fun e => h2 (by rw [e]; exact hi)) hb hib
  have agree : ∀ i, L i → V i = (fun k => if k = j then v else V k) i := fun i hi => by
    have : i ≠ j := fun e => hj (e ▸ hi)
    simp [this]
  refine ⟨T, ?_, fun k hk => ?_, fun k b hk hb => ?_, fun i k b hi hk hne hib hkb => ?_, fun k hk => ?_⟩
  · refine ⟨hg.os.trans h.mod.os, hg.tape.trans h.mod.tape, hg.output.trans h.mod.output, Nat.le_trans h.mod.size hg.size, fun k hk hn => ?_⟩
    refine (hg.block k (Nat.lt_of_lt_of_le hk h.mod.size) fun ⟨i, hi, hib⟩ => ?_).trans (h.mod.block k hk hn)
    rcases (h.lt i k (hc i hi) hib).2 with h1 | h1
    · exact hn h1
    · omega
  · by_cases e : k = j
    · subst e; simp only [if_true]; exact hf
    · simp only [if_neg e]
      refine (F k).keep _ _ _ _ (h.holds k (live k e hk).1) hg.size fun b hb => ?_
      have := far k e hk b hb
      exact hg.block b this.1 this.2
  · by_cases e : k = j
    · subst e
      simp only [if_true] at hb
      obtain ⟨h1, h2⟩ := ho b hb
      refine ⟨h2, ?_⟩
      rcases h1 with ⟨i, hi, hib⟩ | h1
      · exact (h.lt i b (hc i hi) hib).2
      · exact .inr (Nat.le_trans h.mod.size h1)
    · simp only [if_neg e] at hb
      have := h.lt k b (live k e hk).1 hb
      exact ⟨Nat.lt_of_lt_of_le this.1 hg.size, this.2⟩
  · by_cases ei : i = j
    · subst ei
      simp only [if_true] at hib
      simp only [if_neg (Ne.symm hne)] at hkb
      obtain ⟨h1, h2⟩ := far k (Ne.symm hne) hk b hkb
      rcases (ho b hib).1 with h3 | h3
      · exact h2 h3
      · omega
    · simp only [if_neg ei] at hib
      by_cases ek : k = j
      · subst ek
        simp only [if_true] at hkb
        obtain ⟨h1, h2⟩ := far i ei hi b hib
        rcases (ho b hkb).1 with h3 | h3
        · exact h2 h3
        · omega
      · simp only [if_neg ek] at hkb
        exact h.sep i k b (live i ei hi).1 (live k ek hk).1 hne hib hkb
  · by_cases e : k = j
    · subst e
      simp only [if_true]
      exact hsj _ agree heq
    · simp only [if_neg e]
      have hk2 := hk.resolve_left e
      exact hse k hk2 _ agree (h.eqs k hk2)

/-- What the kernel reckons of a region. -/
def check (ops : Array Oper) (nv : Nat) (use : List (List (Nat × Nat))) (bef reads : List (List Nat)) (cons : List (Nat × Nat)) : Bool :=
  Rg.distinct ops && Region.noSelect ops &&
  (List.range ops.size).all (fun j => match ops[j]? with
    | none => false
    | some o =>
      (use.getD j []).all (fun i => (ops[i.1]?).bind (·.dst) == some i.2 && (bef.getD j []).contains i.1) &&
      (bef.getD j []).all (fun i => decide (i < j) && o.after.any (fun e => Region.binds .any e && (e.on == i || (bef.getD e.on []).contains i))) &&
      o.after.all (fun e => !Region.binds .any e || decide (e.on < j)) &&
      (o.looksAt ops).all (fun t => (List.range ops.size).all fun i => (nums use j).contains i || (match ops[i]? with | some x => x.dst != some t | none => true)) &&
      decide ((nums use j).Nodup) &&
      (reads.getD j []).all (fun i => ((bef.getD j []).contains i || (decide (ops.size ≤ i) && decide (i < ops.size + nv))) && cons.all (fun x => x.2 != i || x.1 == j || (bef.getD x.1 []).contains j)) &&
      (match o.guard with | some (g, _) => (nums use j).contains g | none => true)) &&
  cons.all (fun x => (reads.getD x.1 []).contains x.2 && decide (x.1 < ops.size))
/-- The facts that an operation may lean on. -/
structure Use (F : Nat → Fact) (V : Nat → Value) (S : Nat → Nat → Prop) (w : World) (l : List Nat) : Prop where
  holds : ∀ i, i ∈ l → (F i).holds (V i) w (S i)
  lt : ∀ i, i ∈ l → ∀ b, S i b → b < w.heap.size
  sep : ∀ i, i ∈ l → ∀ k, k ∈ l → i ≠ k → ∀ b, S i b → ¬ S k b

theorem run_all (nv : Nat) (use : List (List (Nat × Nat))) (bef reads : List (List Nat)) (hchk : Rc.check ops nv use bef reads cons = true) (hE : ∀ j V V' v, (∀ i ∈ nums use j, V i = V' i) → E j V v → E j V' v) (a0 : Act) (W0 : World) (X0 : Nat → Prop)
    (hE0 : ∀ j, ops.size ≤ j → ∀ V v, E j V v)
    (hstep : ∀ j o, ops[j]? = some o → ∀ V S w, Mod W0 w X0 → Use F V S w (reads.getD j []) → (∀ i ∈ nums use j, E i V (V i)) → Does P ops o (putUse V (use.getD j []) a0) w (Good F cons E V S j w))
    (hend : ∀ V S w a, Inv F cons E W0 X0 (fun i => i < ops.size + nv) V S w → Frm ops (fun i => i < ops.size) V a0 a → Q .normal a w) :
    ∀ (fuel : Nat) (listed : Array Bool) (V : Nat → Value) (S : Nat → Nat → Prop) (a : Act) (w : World), listed.size = ops.size → (listed.toList.filter (!·)).length ≤ fuel →
      (∀ k o, ops[k]? = some o → listed.getD k false = true → ∀ e ∈ o.after, Region.binds .any e = true → listed.getD e.on false = true) →
      Inv F cons E W0 X0 (fun i => listed.getD i false = true ∨ (ops.size ≤ i ∧ i < ops.size + nv)) V S w → Frm ops (fun i => listed.getD i false = true) V a0 a → wpAny P .any ops Q fuel listed a w := by
  simp only [Rc.check, Bool.and_eq_true] at hchk
  obtain ⟨⟨⟨hdis, hsel⟩, hops⟩, hcons⟩ := hchk
  have hO : ∀ j o, ops[j]? = some o → (∀ x ∈ use.getD j [], (ops[x.1]?).bind (·.dst) = some x.2 ∧ x.1 ∈ bef.getD j []) ∧ (∀ i ∈ bef.getD j [], i < j ∧ ∃ e ∈ o.after, Region.binds .any e = true ∧ (e.on = i ∨ i ∈ bef.getD e.on [])) ∧ (∀ e ∈ o.after, Region.binds .any e = true → e.on < j) ∧
      (∀ t ∈ o.looksAt ops, ∀ i x, ops[i]? = some x → x.dst = some t → i ∈ nums use j) ∧ (nums use j).Nodup ∧ (∀ i ∈ reads.getD j [], (i ∈ bef.getD j [] ∨ (ops.size ≤ i ∧ i < ops.size + nv)) ∧ ∀ x ∈ cons, x.2 = i → x.1 = j ∨ j ∈ bef.getD x.1 []) := by
    intro j o ho
    have h := List.all_eq_true.1 hops j (List.mem_range.2 (Array.getElem?_eq_some_iff.1 ho).1)
    simp only [ho, Bool.and_eq_true] at h
    obtain ⟨⟨⟨⟨⟨⟨h1, h2⟩, h3⟩, h4⟩, h5⟩, h6⟩, _⟩ := h
    refine ⟨fun x hx => ?_, fun i hi => ?_, fun e he hb => ?_, fun t ht i x hx hd => ?_, by simpa using h5, fun i hi => ?_⟩
    · have := List.all_eq_true.1 h1 x hx
      simp only [Bool.and_eq_true, beq_iff_eq] at this
      exact ⟨this.1, by simpa using this.2⟩
    · have := List.all_eq_true.1 h2 i hi
      simp only [Bool.and_eq_true, decide_eq_true_eq] at this
      obtain ⟨e, he, hb⟩ := Array.any_eq_true'.1 this.2
      simp only [Bool.and_eq_true, Bool.or_eq_true, beq_iff_eq] at hb
      exact ⟨this.1, e, he, hb.1, hb.2.imp id (fun h => by simpa using h)⟩
    · have := Array.all_eq_true_iff_forall_mem.1 h3 e he
      simpa [hb] using this
    · have := List.all_eq_true.1 (List.all_eq_true.1 h4 t ht) i (List.mem_range.2 (Array.getElem?_eq_some_iff.1 hx).1)
      simpa [hx, hd] using this
    · have := List.all_eq_true.1 h6 i hi
      simp only [Bool.and_eq_true, Bool.or_eq_true, decide_eq_true_eq] at this
      refine ⟨this.1.imp (fun h => by simpa using h) id, fun x hx e => ?_⟩
      have h7 := List.all_eq_true.1 this.2 x hx
      simpa [e] using h7
  have hC : ∀ j i, (j, i) ∈ cons → i ∈ reads.getD j [] ∧ j < ops.size := fun j i h => by
    have := List.all_eq_true.1 hcons _ h
    simpa using this
  intro fuel
  have all_of : ∀ listed : Array Bool, listed.size = ops.size → Region.ready .any ops listed = [] → ∀ k, k < ops.size → listed.getD k false = true := by
    intro listed hsz hr k
    induction k using Nat.strongRecOn with
    | _ k ih =>
      intro hk
      by_cases hl : listed.getD k false = true
      · exact hl
      · exfalso
        have : k ∈ Region.ready .any ops listed := mem_ready.2 ⟨by
          simp only [Array.getD_eq_getD_getElem?] at hl ⊢
          rw [Array.getElem?_eq_getElem (by omega)] at hl ⊢
          simpa using hl, _, Array.getElem?_eq_getElem hk, fun e he hb => ih e.on ((hO k _ (Array.getElem?_eq_getElem hk)).2.2.1 e he hb) (Nat.lt_trans ((hO k _ (Array.getElem?_eq_getElem hk)).2.2.1 e he hb) hk)⟩
        rw [hr] at this
        cases this
  have lis_lt : ∀ (listed : Array Bool), listed.size = ops.size → ∀ i, listed.getD i false = true → i < ops.size := fun listed hsz i h => by
    rcases Nat.lt_or_ge i ops.size with h1 | h1
    · exact h1
    · simp [Array.getD_eq_getD_getElem?, Array.getElem?_eq_none (show listed.size ≤ i by omega)] at h
  have fin : ∀ (listed : Array Bool) (V : Nat → Value) (S : Nat → Nat → Prop) (a : Act) (w : World), listed.size = ops.size → Region.ready .any ops listed = [] →
      Inv F cons E W0 X0 (fun i => listed.getD i false = true ∨ (ops.size ≤ i ∧ i < ops.size + nv)) V S w → Frm ops (fun i => listed.getD i false = true) V a0 a → Q .normal a w := by
    intro listed V S a w hsz hr hi hf
    have hall := all_of listed hsz hr
    have heq : ∀ i, (listed.getD i false = true) ↔ i < ops.size := fun i => ⟨lis_lt listed hsz i, hall i⟩
    refine hend V S w a ?_ (hf.congr heq fun _ _ => rfl)
    have : (fun i => listed.getD i false = true ∨ (ops.size ≤ i ∧ i < ops.size + nv)) = (fun i => i < ops.size + nv) := funext fun i => propext (by rw [heq]; omega)
    rwa [this] at hi
  /- what is listed has all that comes before it listed -/
  have befL : ∀ listed : Array Bool, (∀ k o, ops[k]? = some o → listed.getD k false = true → ∀ e ∈ o.after, Region.binds .any e = true → listed.getD e.on false = true) →
      ∀ j o, ops[j]? = some o → (∀ e ∈ o.after, Region.binds .any e = true → listed.getD e.on false = true) → ∀ i ∈ bef.getD j [], listed.getD i false = true := by
    intro listed hcl j
    induction j using Nat.strongRecOn with
    | _ j ih =>
      intro o ho haft i hi
      obtain ⟨_, e, he, hb, h⟩ := (hO j o ho).2.1 i hi
      have hel := haft e he hb
      rcases h with rfl | h
      · exact hel
      · have hlt := (hO j o ho).2.2.1 e he hb
        have hon : e.on < ops.size := Nat.lt_trans hlt (Array.getElem?_eq_some_iff.1 ho).1
        exact ih e.on hlt _ (Array.getElem?_eq_getElem hon) (hcl _ _ (Array.getElem?_eq_getElem hon) hel) i h
  induction fuel with
  | zero =>
    intro listed V S a w hsz hfu hcl hi hf
    have hr : Region.ready .any ops listed = [] := by
      apply List.eq_nil_iff_forall_not_mem.2
      intro j hj
      obtain ⟨h1, o, ho, _⟩ := mem_ready.1 hj
      have h2 := left_none listed.toList (by omega) j (by simp; rw [hsz]; exact (Array.getElem?_eq_some_iff.1 ho).1)
      simp only [Array.getElem?_toList] at h2
      simp [Array.getD_eq_getD_getElem?, h2] at h1
    exact ⟨hr, fin listed V S a w hsz hr hi hf⟩
  | succ fuel ih =>
    intro listed V S a w hsz hfu hcl hi hf
    refine ⟨fun hr => fin listed V S a w hsz hr hi hf, fun j hj => ?_⟩
    obtain ⟨hjf, o, ho, haft⟩ := mem_ready.1 hj
    have hjlt : j < ops.size := (Array.getElem?_eq_some_iff.1 ho).1
    have hjs : listed[j]? = some false := by
      simp only [Array.getD_eq_getD_getElem?, Array.getElem?_eq_getElem (show j < listed.size by omega), Option.getD_some] at hjf ⊢
      rw [hjf]
    have hjn : ¬ listed.getD j false = true := by simp [Array.getD_eq_getD_getElem?, hjs]
    obtain ⟨h0, h1, h2, h3, h4, h5⟩ := hO j o ho
    have hBL := befL listed hcl j o ho haft
    have hUL : ∀ i, i ∈ nums use j → listed.getD i false = true := fun i hi => by
      obtain ⟨x, hx, rfl⟩ := List.mem_map.1 hi
      exact hBL _ (h0 x hx).2
    have hjL : ¬ (listed.getD j false = true ∨ (ops.size ≤ j ∧ j < ops.size + nv)) := by
      rintro (h | h)
      · exact hjn h
      · omega
    have kL : ∀ k, (listed.getD k false = true ∨ (ops.size ≤ k ∧ k < ops.size + nv)) → k < ops.size → listed.getD k false = true := fun k hk hlt => hk.resolve_right (by omega)
    have jbef : ∀ k, k < ops.size → listed.getD k false = true → ¬ j ∈ bef.getD k [] := fun k hkl hk hb =>
      hjn (befL listed hcl k _ (Array.getElem?_eq_getElem hkl) (hcl k _ (Array.getElem?_eq_getElem hkl) hk) j hb)
    have hlive : ∀ i, i ∈ reads.getD j [] → Live cons (fun i => listed.getD i false = true ∨ (ops.size ≤ i ∧ i < ops.size + nv)) i := fun i hir => by
      obtain ⟨h6, h7⟩ := h5 i hir
      refine ⟨h6.imp (hBL i) id, fun k hk hck => ?_⟩
      have hkl := (hC k i hck).2
      rcases h7 _ hck rfl with h8 | h8
      · simp only at h8
        subst h8
        exact hjL hk
      · exact jbef k hkl (kL k hk hkl) h8
    have hd := hstep j o ho V S w hi.mod ⟨fun i hir => hi.holds i (hlive i hir), fun i hir b hb => (hi.lt i b (hlive i hir) hb).1, fun i hir k hkr hne b hib => hi.sep i k b (hlive i hir) (hlive k hkr) hne hib⟩ (fun i hiu => hi.eqs i (.inl (hUL i hiu)))
    have hb := Frm.putUse (V := V) (a0 := a0) hdis (use.getD j []) (fun x hx => (h0 x hx).1) h4
    refine Does.at_ ho (Region.noSelect_spec hsel j o · · ho) (hf.size.trans hb.size.symm) (fun t ht => hf.at_ hb t (fun i x hx hd => ?_)) hd (fun v w' hg => ?_)
    · exact ⟨fun _ => h3 t ht i x hx hd, fun h => hUL i h⟩
    · have hus : ∀ k, (listed.getD k false = true ∨ (ops.size ≤ k ∧ k < ops.size + nv)) → ∀ i ∈ nums use k, k < ops.size → listed.getD i false = true := fun k hk i hik hkl => by
        obtain ⟨x, hx, rfl⟩ := List.mem_map.1 hik
        exact befL listed hcl k _ (Array.getElem?_eq_getElem hkl) (hcl k _ (Array.getElem?_eq_getElem hkl) (kL k hk hkl)) _ ((hO k _ (Array.getElem?_eq_getElem hkl)).1 x hx).2
      obtain ⟨T, h6⟩ := hi.step (v := v) hjL (fun i hci => hlive i (hC j i hci).1) (fun k hk hck => by
          have hkl : k < ops.size := (hC k j hck).2
          have := (hO k _ (Array.getElem?_eq_getElem hkl)).2.2.2.2.2 j (hC k j hck).1
          rcases this.1 with h7 | h7
          · exact jbef k hkl (kL k hk hkl) h7
          · omega) (fun hcj => by
          have := (h5 j (hC j j hcj).1).1
          rcases this with h7 | h7
          · exact Nat.lt_irrefl j (h1 j h7).1
          · omega) (fun k hk V' hV h => by
          rcases Nat.lt_or_ge k ops.size with hkl | hkl
          · exact hE k V V' _ (fun i hik => hV i (.inl (hus k hk i hik hkl))) h
          · exact hE0 k hkl _ _) (fun V' hV => hE j V V' _ (fun i hij => hV i (.inl (hUL i hij)))) hg
      refine ih (listed.setIfInBounds j true) (fun k => if k = j then v else V k) (fun k => if k = j then T else S k) (a.put o.dst v) w' (by simpa using hsz) ?_ ?_ ?_ ?_
      · have := left_set listed.toList j (by simpa using hjs)
        rw [Array.toList_setIfInBounds]
        omega
      · intro k ok hok hk e he hb2
        rw [getD_set] at hk ⊢
        rcases hk with ⟨rfl, _⟩ | hk
        · obtain rfl : ok = o := by rw [ho] at hok; exact (Option.some.inj hok).symm
          exact .inr (haft e he hb2)
        · exact .inr (hcl k ok hok hk e he hb2)
      · have e : (fun i => (listed.setIfInBounds j true).getD i false = true ∨ (ops.size ≤ i ∧ i < ops.size + nv)) = (fun k => k = j ∨ (listed.getD k false = true ∨ (ops.size ≤ k ∧ k < ops.size + nv))) := funext fun k => propext (by
          rw [getD_set]; constructor
          · rintro ((⟨h, _⟩ | h) | h)
            · exact .inl h
            · exact .inr (.inl h)
            · exact .inr (.inr h)
          · rintro (h | h | h)
            · exact .inl (.inl ⟨h, by omega⟩)
            · exact .inl (.inr h)
            · exact .inr h)
        rw [e]; exact h6
      · refine (hf.step hdis j o ho hjn v).congr (fun k => ?_) (fun _ _ => rfl)
        rw [getD_set]; constructor
        · rintro (h | h)
          · exact .inl ⟨h, by omega⟩
          · exact .inr h
        · rintro (⟨h, _⟩ | h)
          · exact .inl h
          · exact .inr h

/-- **A region that draws its order, by facts.** -/
theorem wp_region {id : Nat} {a0 : Act} {w0 : World} (hm : P.follows .mixedOrders = true) (F : Nat → Fact) (nv : Nat) (al : List (Nat × Nat × (Value → Value))) (use : List (List (Nat × Nat))) (bef reads : List (List Nat)) (cons : List (Nat × Nat)) (hchk : Rc.check ops nv use bef reads cons = true)
    (hal : (al.all fun x => decide (x.1 < ops.size) && (nums use x.1).contains x.2.1) = true) (hsz : (ops.all fun o => (o.dst.map fun d => decide (d < a0.tmps.size)).getD true) = true)
    (X0 : Nat → Prop) (S0 : Nat → Nat → Prop) (h0 : Inv F cons (alias al) w0.drew X0 (fun i => ops.size ≤ i ∧ i < ops.size + nv) (fun _ => undef) S0 w0.drew)
    (hstep : ∀ a1, a1 = a0 → Rg.Steps (fun j o => ∀ V S w, Mod w0 w X0 → Use F V S w (reads.getD j []) → (∀ i ∈ nums use j, alias al i V (V i)) → Does1 P o V (putUse V (use.getD j []) a1) w (Good F cons (alias al) V S j w)) 0 ops.toList)
    (hend : ∀ V S w, Inv F cons (alias al) w0.drew X0 (fun i => i < ops.size + nv) V S w → Q .normal (putList ops.toList 0 V a0) w) : (Code.region id ops true).wp P Q a0 w0 := by
  refine wp_region_any hm ?_
  have hchk0 := hchk
  simp only [Rc.check, Bool.and_eq_true] at hchk
  obtain ⟨⟨⟨hdis, _⟩, hops⟩, _⟩ := hchk
  have hal2 : (al.all fun x => (nums use x.1).contains x.2.1) = true := List.all_eq_true.2 fun x hx => by
    have := List.all_eq_true.1 hal x hx
    simp only [Bool.and_eq_true] at this
    exact this.2
  have no : ∀ i, ¬ ((Array.replicate ops.size false).getD i false = true) := fun i h => by
    simp [Array.getD_eq_getD_getElem?, Array.getElem?_replicate] at h
    split at h <;> simp at h
  refine run_all (F := F) (cons := cons) nv use bef reads hchk0 (alias_dep hal2) a0 w0.drew X0 (fun j hj V v i f hm => ?_) (fun j o ho => ?_) (fun V S w a hi hf => ?_) _ _ (fun _ => undef) S0 _ _ (by simp) ?_ ?_ ?_ ?_
  · have := List.all_eq_true.1 hal _ hm
    simp only [Bool.and_eq_true, decide_eq_true_eq] at this
    omega
  · intro V S w hl hh he
    have h1 := (hstep a0 rfl).get j o (by simpa using ho) V S w hl.undrew (by simpa using hh) (by simpa using he)
    simp only [Nat.zero_add] at h1
    unfold Does1 at h1
    unfold Does
    cases hgd : o.guard with
    | none =>
      rw [hgd] at h1
      exact .inr ⟨by unfold Region.wanted; rw [hgd], h1⟩
    | some gw =>
      obtain ⟨g, want⟩ := gw
      rw [hgd] at h1
      simp only at h1
      have hy : ∀ x, V g = .bool x → yielded ops (putUse V (use.getD j []) a0).tmps g = some x := by
        intro x hx
        have h := List.all_eq_true.1 hops j (List.mem_range.2 (Array.getElem?_eq_some_iff.1 ho).1)
        simp only [ho, Bool.and_eq_true, hgd] at h
        obtain ⟨⟨⟨⟨⟨⟨h1, _⟩, _⟩, _⟩, h4⟩, _⟩, h6⟩ := h
        have h0 : ∀ x ∈ use.getD j [], (ops[x.1]?).bind (·.dst) = some x.2 := fun x hx => by
          have := List.all_eq_true.1 h1 x hx
          simp only [Bool.and_eq_true, beq_iff_eq] at this
          exact this.1
        have hb := Frm.putUse (V := V) (a0 := a0) hdis (use.getD j []) h0 (by simpa [nums] using h4)
        have h6 : g ∈ nums use j := by simpa using h6
        obtain ⟨y, hy, rfl⟩ := List.mem_map.1 h6
        obtain ⟨og, hog, hdg⟩ := Option.bind_eq_some_iff.1 (h0 y hy)
        have hlt := Array.all_eq_true_iff_forall_mem.1 hsz og (Array.mem_of_getElem? hog)
        simp only [hdg, Option.map_some, Option.getD_some, decide_eq_true_eq] at hlt
        have h7 := hb.put y.1 og y.2 hog hdg h6
        rw [if_pos hlt, hx] at h7
        unfold yielded
        rw [h0 y hy]
        simp only [Option.bind_some]
        rw [h7]
      rcases h1 with ⟨h1, h2⟩ | ⟨h1, h2⟩
      · exact .inr ⟨by unfold Region.wanted; rw [hgd]; simp only []; rw [hy _ h1]; exact beq_self_eq_true _, h2⟩
      · refine .inl ⟨?_, h2⟩
        unfold Region.wanted; rw [hgd]; simp only []; rw [hy _ h1]
        cases want <;> rfl
  · have h1 := Frm.putList (V := V) (a0 := a0) hdis ops.toList 0 a0 (fun k _ => by simp) ((Frm.refl ops V a0).congr (fun i => by simp) fun _ _ => rfl)
    have h2 : a = putList ops.toList 0 V a0 := hf.uniq (h1.congr (fun i => by simp) fun _ _ => rfl)
    rw [h2]; exact hend V S w hi
  · exact Nat.le_trans (List.length_filter_le _ _) (by simp)
  · intro k o _ hk
    exact absurd hk (no k)
  · have e : (fun i => (Array.replicate ops.size false).getD i false = true ∨ (ops.size ≤ i ∧ i < ops.size + nv)) = (fun i => ops.size ≤ i ∧ i < ops.size + nv) := funext fun i => propext ⟨fun h => h.resolve_left (no i), .inr⟩
    rw [e]; exact h0
  · exact (Frm.refl ops _ a0).congr (fun i => ⟨fun h => h.elim, fun h => absurd h (no i)⟩) fun _ _ => rfl
end

/-- What stands at the end. -/
theorem Inv.get {F : Nat → Fact} {cons : List (Nat × Nat)} {E : Nat → (Nat → Value) → Value → Prop} {W0 : World} {X0 : Nat → Prop} {V : Nat → Value} {S : Nat → Nat → Prop} {w : World} {n : Nat} (h : Inv F cons E W0 X0 (fun i => i < n) V S w) (i : Nat) (hi : i < n) (hc : cons.all (fun x => x.2 != i) = true) : (F i).holds (V i) w (S i) :=
  h.holds i ⟨hi, fun k _ hk => by have := List.all_eq_true.1 hc _ hk; simp at this⟩
theorem Inv.same {F : Nat → Fact} {cons : List (Nat × Nat)} {al : List (Nat × Nat × (Value → Value))} {W0 : World} {X0 : Nat → Prop} {V : Nat → Value} {S : Nat → Nat → Prop} {w : World} {n : Nat} (h : Inv F cons (alias al) W0 X0 (fun i => i < n) V S w) (j i : Nat) (f : Value → Value) (hj : j < n) (hm : (j, i, f) ∈ al) : V j = f (V i) := h.eqs j hj i f hm
/-- No objects of the caller's at the beginning. -/
theorem Inv.none {F : Nat → Fact} {cons : List (Nat × Nat)} {E : Nat → (Nat → Value) → Value → Prop} {w : World} {n : Nat} : Inv F cons E w (fun _ => False) (fun i => n ≤ i ∧ i < n + 0) (fun _ => undef) (fun _ _ => False) w :=
  ⟨Mod.refl _ _, fun i h => by have := h.1; omega, fun i b h => by have := h.1; omega, fun i j b h => by have := h.1; omega, fun j h => by omega⟩

/-- An exact value. -/
def val (x : Value) : Fact := ⟨fun v _ _ => v = x, fun _ _ _ _ h _ _ => h⟩
/-- Nothing. -/
def any : Fact := ⟨fun _ _ _ => True, fun _ _ _ _ h _ _ => h⟩
/-- A value, and an object that stands on these blocks. -/
def obj (x : Value) (B : Nat → Prop) (p : World → Prop) (hp : ∀ w w' : World, p w → w.heap.size ≤ w'.heap.size → (∀ b, B b → w'.heap[b]? = w.heap[b]?) → p w') : Fact :=
  ⟨fun v w S => v = x ∧ p w ∧ S = B, fun _ w w' S h hs hb => ⟨h.1, hp w w' h.2.1 hs (by rw [← h.2.2]; exact hb), h.2.2⟩⟩

section
variable {P : Program} {F : Nat → Fact} {cons : List (Nat × Nat)} {E : Nat → (Nat → Value) → Value → Prop} {V : Nat → Value} {S : Nat → Nat → Prop} {j : Nat} {o : Oper} {b : Act} {w : World}
/-- A value alone. -/
theorem step_val (x : Value) (hE : E j V x) (hg : Rg.Open o V) (h : (execOp b.eval o).run P w = .ok (.value x) w) (hf : (F j).holds x w (fun _ => False)) : Does1 P o V b w (Good F cons E V S j w) :=
  .of hg fun K hK => by unfold Oper.wp; rw [h]; exact hK x w ⟨_, Mod.refl _ _, hf, fun b hb => hb.elim, hE⟩
theorem step_not {i : Nat} {want : Bool} (hgd : o.guard = some (i, want)) (hV : V i = .bool (!want)) (hE : E j V undef) (hf : (F j).holds undef w (fun _ => False)) : Does1 P o V b w (Good F cons E V S j w) := by
  unfold Does1
  rw [hgd]
  exact .inr ⟨hV, _, Mod.refl _ _, hf, fun b hb => hb.elim, hE⟩
/-- New memory. -/
theorem step_new (v : Value) (w' : World) (T : Nat → Prop) (hE : E j V v) (hg : Rg.Open o V) (h : (execOp b.eval o).run P w = .ok (.value v) w') (hb : Below w.heap.size w w') (hf : (F j).holds v w' T) (ho : ∀ k, T k → w.heap.size ≤ k ∧ k < w'.heap.size) : Does1 P o V b w (Good F cons E V S j w) :=
  .of hg fun K hK => by
    unfold Oper.wp; rw [h]
    exact hK v w' ⟨T, Mod.of_below hb _, hf, fun k hk => ⟨.inr (ho k hk).1, (ho k hk).2⟩, hE⟩
/-- A call. -/
theorem step_call {f : FuncId} {xs : Array Operand} {ts : Array TypeId} (args : Array Value) (hent : ∀ args w, (callFunc f args).run P w = .ok (.enter f args) w) (hop : o.op = .call { callee := .value (.func f), args := xs, argTypes := ts }) (hargs : xs.map b.eval = args) (hE : ∀ v, E j V v) (hg : Rg.Open o V)
    (h : Calls P f args w fun e w' => ∃ v T, e = .returned v ∧ Mod w w' (Taken cons S j) ∧ (F j).holds v w' T ∧ ∀ k, T k → (Taken cons S j k ∨ w.heap.size ≤ k) ∧ k < w'.heap.size) : Does1 P o V b w (Good F cons E V S j w) :=
  .of hg fun K hK => by
    have he : (execOp b.eval o).run P w = .ok (.enter f args) w := by
      subst hargs
      have : execOp b.eval o = callFunc f (#[] ++ xs.map b.eval ++ #[]) := by
        obtain ⟨dst, op, ty, pos, after, guard⟩ := o
        simp only at hop
        subst hop
        rfl
      rw [this, hent]
      simp
    unfold Oper.wp; rw [he]
    refine h.mono ?_
    rintro e w' ⟨v, T, rfl, hb, hf, ho⟩
    exact hK v w' ⟨T, hb, hf, ho, hE v⟩
end
end Go.Proofs.Ytombmeppdhhjhaa.Rc

/-
  OWN WORK. What bytes.Clone answers.
-/
namespace Go.Proofs.Ytombmeppdhhjhaa
open Go.RowKit Rc

set_option maxHeartbeats 1000000 in
set_option maxRecDepth 100000 in
theorem clone_any (w : World) (A : Option Addr) (x : List UInt8) (cap : Nat) (hr : Rd w A x) (hx : x.length ≤ 140737488355328) :
    Calls Try.prog 30 #[.slice A x.length cap] w fun e w' => ∃ v, e = .returned v ∧ w'.ownsRow w.heap.size 5 1 v x.length (Lib.byteCells x) ∧ Below w.heap.size w w' := by
  have q22 : ∀ (w : World) (a : Option Addr) (n c n' c' : Nat), (binOp .eql 29 (.slice a n c) (.slice none n' c')).run Try.prog w = .ok (.bool a.isNone) w := fun w a n c n' c' => Lib.run_eql_slice_nil w _ _ a n c n' c' Try.underlying29
  cases A with
  | none =>
    obtain rfl : x = [] := by
      rcases Nat.eq_zero_or_pos x.length with h | h
      · exact List.eq_nil_of_length_eq_zero h
      · obtain ⟨b, off, h1, _⟩ := hr h
        cases h1
    go_enter Try.func30, Try.ntmps30
    go_wp2_with fail
    go_ret
    exact ⟨_, rfl, own_nil _ _, Below.refl _ _⟩
  | some ad =>
    obtain ⟨i0, hi, hz0, hz1, hz2⟩ := info_parts Try.infoU8
    have HI0 := Lib.hid hi
    have HZ0 := Lib.hid hz0
    have HZ1 := Lib.hid hz1
    have HZ2 := Lib.hid hz2
    have H0 : Hid (MAt w.heap.size (.slice (some ⟨w.heap.size, 0, none⟩) 0 0) [] w (w.alloc (.cells #[] 5))) := MAt.empty w
    have HRW : Hid (Rd (w.alloc (.cells #[] 5)) (some ad) x) := hr.below (below_new w _)
    clear hi hz0 hz1 hz2 hr
    go_enter Try.func30, Try.ntmps30
    go_wp2_with (at_builtin; refine wpList_append_big rfl (.tmp 5) (.tmp 6) 29 rfl w.heap.size 5 i0 Try.underlying29 HI0.out HZ0.out HZ1.out HZ2.out _ 0 [] rfl H0.out.1 (some ad) x x.length cap rfl rfl HRW.out (by omega) (by rw [World.size_alloc]; omega) ?_; intro v1 w1 HO1 HG1; have H1 : Hid (MAt w.heap.size v1 x w w1) := H0.out.push (Below.refl _ _) HO1.out HG1.out)
    clear HO1 HG1
    go_ret
    exact ⟨_, rfl, H1.out.1, H1.out.2.1⟩

/-- An append behind an own row: what stays, and where the new row lies. -/
theorem wpList_append_at_rd {P : Program} {w : World} {ops : Array Oper} {rest : List Oper} {o : Oper} {a : Act} {Q : Exit → Act → World → Prop} (hgd : o.guard = none) (s x : Operand) (t : TypeId)
    (ho : o.op = .call { callee := .builtin .append, args := #[s, x], argTypes := #[t, t] })
    (base : Nat) (e : TypeId) (i : TypeInfo) (ht : P.underlying t = some (.slice e)) (hi : P.info? e = some i) (hz : i.zero = some (.int .u8 0)) (hsize : i.size = 1) (hby : i.bytes = 1)
    (v : Value) (n : Nat) (xs : List Value) (hs : a.eval s = v) (hown : w.ownsRow base e 1 v n xs) (A : Option Addr) (l : List UInt8) (m c : Nat) (hm : l.length = m) (hx : a.eval x = .slice A m c) (hr : Rd w A l) (hn : n + l.length ≤ 1099511627776) (hbase : base ≤ w.heap.size)
    (h : ∀ v' w', Hid (w'.ownsRow base e 1 v' (n + l.length) (xs ++ Lib.byteCells l)) → Hid (w.grownBy w' v.ownBlock) → Hid (v'.ownBlock = v.ownBlock ∨ v'.ownBlock = some w.heap.size) → wpList P ops Q rest (a.put o.dst v') w') : wpList P ops Q (o :: rest) a w :=
  wpList_plain hgd fun _ hK => wp_append_at s x t ho base e i ht hi hz hsize hby v n xs hs hown A l m c hm hx hr hn hbase fun v' w' h1 h2 h3 => hK _ _ (h v' w' h1 h2 h3)

theorem step_append_rd {P : Program} {ops : Array Oper} {o : Oper} {a : Act} {w : World} {K : Act → World → Prop} {Q : Exit → Act → World → Prop} {E : Prop} (hgd : o.guard = none) (s x : Operand) (t : TypeId)
    (ho : o.op = .call { callee := .builtin .append, args := #[s, x], argTypes := #[t, t] })
    (base : Nat) (e : TypeId) (i : TypeInfo) (ht : P.underlying t = some (.slice e)) (hi : P.info? e = some i) (hz : i.zero = some (.int .u8 0)) (hsize : i.size = 1) (hby : i.bytes = 1)
    (v : Value) (n : Nat) (xs : List Value) (hs : a.eval s = v) (hown : w.ownsRow base e 1 v n xs) (A : Option Addr) (l : List UInt8) (m c : Nat) (hm : l.length = m) (hx : a.eval x = .slice A m c) (hr : Rd w A l) (hn : n + l.length ≤ 1099511627776) (hbase : base ≤ w.heap.size)
    (h : ∀ v' w', Hid (w'.ownsRow base e 1 v' (n + l.length) (xs ++ Lib.byteCells l)) → Hid (w.grownBy w' v.ownBlock) → Hid (v'.ownBlock = v.ownBlock ∨ v'.ownBlock = some w.heap.size) → K (a.put o.dst v') w') :
    if Region.wanted o (yielded ops a.tmps) = true then Oper.wp P o a w K Q else E := by
  rw [if_pos (show Region.wanted o (yielded ops a.tmps) = true by simp [Region.wanted, hgd])]
  exact wp_append_at s x t ho base e i ht hi hz hsize hby v n xs hs hown A l m c hm hx hr hn hbase h
end Go.Proofs.Ytombmeppdhhjhaa

/-
  OWN WORK. Regions by facts: texts of bytes.
-/
namespace Go.Proofs.Ytombmeppdhhjhaa
open Go.RowKit

section
variable {F : Nat → Rg.Fact} {cons : List (Nat × Nat)} {al : List (Nat × Nat × (Value → Value))} {W0 : World} {V : Nat → Value} {j : Nat} {o : Oper} {b : Act} {w : World}
theorem step_str (l : List UInt8) {x : Operand} {A : Option Addr} {m c : Nat} (hop : o.op = .convert 29 9 x) (hx : b.eval x = .slice A m c) (hm : l.length = m) (hr : Rd w A l) (hF : F j = Rg.val (.string (strOf l))) (ha : (al.all fun x => x.1 != j) = true) (hc : Rg.consOf cons j = none) (hg : Rg.Open o V) :
    Rg.Does1 Try.prog o V b w (Rg.Good F (Rg.consOf cons) (Rg.alias al) W0 V j w) := by
  subst hm
  refine Rg.step_val (.string (strOf l)) (Rg.alias_none ha V _) hc hg ?_ (by rw [hF]; rfl) (by rw [hF]; rfl)
  have := str_any w A l c hr
  obtain ⟨dst, op, ty, pos, after, guard⟩ := o
  simp only at hop
  subst hop
  simp only [execOp, hx]
  go_simp
end
end Go.Proofs.Ytombmeppdhhjhaa

/-
  OWN WORK. Objects of whatever form: what stays while one is turned; rows that are kept beside it; its calls in regions that draw.
-/
namespace Go.Proofs.Ytombmeppdhhjhaa
open Go.RowKit Rc
namespace Ob

/-- An object: a value, what it is, and the blocks that it stands on. -/
structure Obj (σ : Type) where
  At : Value → σ → (Nat → Prop) → World → Prop
  keep : ∀ {v s S w w'}, At v s S w → w.heap.size ≤ w'.heap.size → (∀ b, S b → w'.heap[b]? = w.heap[b]?) → At v s S w'
  lt : ∀ {v s S w}, At v s S w → ∀ b, S b → b < w.heap.size
  ptr : ∀ {v s S w}, At v s S w → ∃ a, v = .pointer (some a)
/-- A call that turns it. -/
def Turns {σ : Type} (O : Obj σ) (v : Value) (s' : σ) (x : Value) (S : Nat → Prop) (w : World) (e : Ending) (w' : World) : Prop :=
  e = .returned x ∧ ∃ S', O.At v s' S' w' ∧ Mod w w' S ∧ ∀ b, S' b → S b ∨ w.heap.size ≤ b
/-- A row of bytes, apart from these blocks. -/
def Kept (W : World) (X : Nat → Prop) (A : Option Addr) (l : List UInt8) : Prop := Rd W A l ∧ (0 < l.length → ∀ b, A.map (·.block) = some b → ¬ X b)
/-- A row of bytes of a call's own: it may be written. -/
def Fresh (l : List UInt8) (w : World) (x : Value) (w' : World) : Prop := w'.ownsRow w.heap.size 5 1 x l.length (Lib.byteCells l)
theorem Fresh.form {l : List UInt8} {w : World} {x : Value} {w' : World} (h : Fresh l w x w') : ∃ X c, x = .slice X l.length c ∧ l.length ≤ c ∧ Rd w' X l ∧ (∀ b, X.map (·.block) = some b → w.heap.size ≤ b ∧ b < w'.heap.size) := by
  have h0 := own_base h
  rcases h.2 with ⟨rfl, h1⟩ | ⟨g, cap, cur, rfl, hb, hh, _⟩
  · have : l = [] := List.eq_nil_of_length_eq_zero (by omega)
    subst this
    exact ⟨none, 0, rfl, Nat.le_refl _, Rd.nil _ _, fun b hb => by simp at hb⟩
  · obtain ⟨X, c, e, hc, hr⟩ := bRow_form (show (bRow l).holds _ w' from h0)
    injection e with e1 e2 e3
    subst e1 e3
    refine ⟨_, _, rfl, hc, hr, fun b hb2 => ?_⟩
    simp only [Option.map_some, Option.some.injEq] at hb2
    subst hb2
    exact ⟨hb, (Array.getElem?_eq_some_iff.1 hh).1⟩
theorem Fresh.of_own {w w' : World} {l : List UInt8} {x : Value} {n : Nat} (h : w'.ownsRow w.heap.size 5 1 x n (Lib.byteCells l)) (hn : l.length = n) : Fresh l w x w' := by
  subst hn; exact h
theorem rd_mod {w w' : World} {A : Option Addr} {l : List UInt8} {S : Nat → Prop} (h : Rd w A l) (hm : Mod w w' S) (hA : 0 < l.length → ∀ b, A.map (·.block) = some b → ¬ S b) : Rd w' A l := by
  intro hl
  exact h.keep (fun p hp hb => by unfold World.cell?; rw [hm.block p.block hp (hA hl _ hb)]) hm.size hl
theorem rd_lt {w : World} {A : Option Addr} {l : List UInt8} (h : Rd w A l) (hl : 0 < l.length) {b : Nat} (hb : A.map (·.block) = some b) : b < w.heap.size := by
  obtain ⟨b', off, rfl, hlt, _⟩ := h hl
  simp at hb
  omega
theorem own_mod {w w' : World} {B n : Nat} {v : Value} {xs : List Value} {S : Nat → Prop} (h : w.ownsRow B 5 1 v n xs) (hm : Mod w w' S) (hv : ∀ b, v.ownBlock = some b → ¬ S b) : w'.ownsRow B 5 1 v n xs := by
  refine ⟨h.1, ?_⟩
  rcases h.2 with h2 | ⟨g, cap, cur, rfl, h4, h5, h6⟩
  · exact .inl h2
  · exact .inr ⟨g, cap, cur, rfl, h4, (hm.block g (Array.getElem?_eq_some_iff.1 h5).1 (hv g rfl)).trans h5, h6⟩
theorem str_run (w : World) (A : Option Addr) (l : List UInt8) (cap : Nat) (hr : Rd w A l) : (convert 29 9 (.slice A l.length cap)).run Try.prog w = .ok (.string (strOf l)) w := str_any w A l cap hr
/-- An object made behind a world w0, seen from W0. -/
structure One {σ : Type} (O : Obj σ) (v : Value) (w0 W0 : World) (X0 : Nat → Prop) (s : σ) (B : Nat → Prop) (w : World) : Prop where
  at_ : O.At v s B w
  mod : Mod W0 w X0
  sub : ∀ b, B b → X0 b ∨ W0.heap.size ≤ b
  low : Below w0.heap.size w0 w
  up : ∀ b, B b → w0.heap.size ≤ b
def Own {σ : Type} (O : Obj σ) (v : Value) (w0 W0 : World) (X0 : Nat → Prop) (s : σ) (w : World) : Prop := ∃ B, One O v w0 W0 X0 s B w
section
variable {σ : Type} {O : Obj σ} {v : Value} {w0 W0 : World} {X0 B : Nat → Prop} {s s' : σ} {w w' : World}
theorem mod_more {X : Nat → Prop} (h : Mod W0 w X0) (hm : Mod w w' X) (hX : ∀ b, X b → X0 b ∨ W0.heap.size ≤ b) : Mod W0 w' X0 :=
  ⟨hm.os.trans h.os, hm.tape.trans h.tape, hm.output.trans h.output, Nat.le_trans h.size hm.size, fun k hk hn => (hm.block k (Nat.lt_of_lt_of_le hk h.size) fun hx => by
    rcases hX k hx with h1 | h1
    · exact hn h1
    · omega).trans (h.block k hk hn)⟩
theorem low_more {X : Nat → Prop} (h : Below w0.heap.size w0 w) (hm : Mod w w' X) (hX : ∀ b, X b → w0.heap.size ≤ b) : Below w0.heap.size w0 w' := ((Mod.of_below h X).trans hm).below hX
theorem One.turn {S' : Nat → Prop} (h : One O v w0 W0 X0 s B w) (ha : O.At v s' S' w') (hm : Mod w w' B) (hs : ∀ b, S' b → B b ∨ w.heap.size ≤ b) : One O v w0 W0 X0 s' S' w' :=
  ⟨ha, mod_more h.mod hm h.sub, fun b hB => (hs b hB).elim (h.sub b) (fun h1 => .inr (Nat.le_trans h.mod.size h1)), low_more h.low hm h.up, fun b hB => (hs b hB).elim (h.up b) (fun h1 => Nat.le_trans h.low.size h1)⟩
theorem One.later (h : One O v w0 W0 X0 s B w) (hb : Below w.heap.size w w') : One O v w0 W0 X0 s B w' :=
  ⟨O.keep h.at_ hb.size (fun b hB => hb.block b (O.lt h.at_ b hB)), mod_more h.mod (Mod.of_below hb (fun _ => False)) (fun _ h => h.elim), h.sub, h.low.trans (hb.mono h.low.size), h.up⟩
/-- Seen from now. -/
theorem One.now (h : One O v w0 W0 X0 s B w) : One O v w0 w B s B w := ⟨h.at_, Mod.refl _ _, fun _ h => .inl h, h.low, h.up⟩
theorem One.kept (h : One O v w0 W0 X0 s B w) {A : Option Addr} {l : List UInt8} (k : Kept W0 X0 A l) : Kept w B A l :=
  ⟨rd_mod k.1 h.mod k.2, fun hl b hA hB => by
    rcases h.sub b hB with h1 | h1
    · exact k.2 hl b hA h1
    · have := rd_lt k.1 hl hA
      omega⟩
/-- A row that lay there before the object was made. -/
theorem One.arg (h : One O v w0 W0 X0 s B w) {A : Option Addr} {l : List UInt8} (k : Rd w0 A l) : Kept w B A l :=
  ⟨k.below h.low, fun hl b hA hB => by
    have := rd_lt k hl hA
    have := h.up b hB
    omega⟩
/-- A row made since. -/
theorem One.fresh (h : One O v w0 W0 X0 s B w) (_hb : Below w.heap.size w w') {l : List UInt8} {x : Value} (hf : Fresh l w x w') : ∃ X c, x = .slice X l.length c ∧ l.length ≤ c ∧ Kept w' B X l := by
  obtain ⟨X, c, rfl, hc, hr, hX⟩ := hf.form
  exact ⟨X, c, rfl, hc, hr, fun _ b hA hB => by
    have := (hX b hA).1
    have := O.lt h.at_ b hB
    omega⟩
theorem Kept.more {A : Option Addr} {l : List UInt8} (k : Kept w B A l) (hb : Below w.heap.size w w') : Kept w' B A l := ⟨k.1.below hb, k.2⟩
/-- A byte of a row beside it is written. -/
theorem One.poke (h : One O v w0 W0 X0 s B w) (hm : Mod w w' (fun k => ¬ B k ∧ w0.heap.size ≤ k)) : One O v w0 w' B s B w' :=
  ⟨O.keep h.at_ hm.size (fun b hB => hm.block b (O.lt h.at_ b hB) (fun hx => hx.1 hB)), Mod.refl _ _, fun _ h => .inl h, low_more h.low hm (fun _ hk => hk.2), h.up⟩
theorem One.own (h : One O v w0 W0 X0 s B w) : Own O v w0 W0 X0 s w := ⟨B, h⟩
end

/-- An object's blocks: those that it had, and new ones. -/
def Ups (B : Nat → Prop) (w0 : World) : Nat → Prop := fun b => B b ∨ w0.heap.size ≤ b
/-- A value, and the object behind it. -/
def turned {σ : Type} (O : Obj σ) (v : Value) (P : Nat → Prop) (x : Value) (s : σ) : Rc.Fact :=
  ⟨fun y w S => y = x ∧ ∃ S1, O.At v s S1 w ∧ (∀ b, S1 b → S b) ∧ ∀ b, S1 b → P b,
   fun y w w' S h hs hb => by
    obtain ⟨h1, S1, h2, h3, h4⟩ := h
    exact ⟨h1, S1, O.keep h2 hs (fun b h => hb b (h3 b h)), h3, h4⟩⟩
/-- A row of the call's own. -/
def frow (l : List UInt8) : Rc.Fact :=
  ⟨fun x w S => ∃ X c, x = .slice X l.length c ∧ l.length ≤ c ∧ Rd w X l ∧ ∀ b, X.map (·.block) = some b → S b,
   fun x w w' S h hs hb => by
    obtain ⟨X, c, h1, h2, h3, h4⟩ := h
    exact ⟨X, c, h1, h2, h3.keep (fun p hp hA => by unfold World.cell?; rw [hb p.block (h4 _ hA)]) hs, h4⟩⟩
section
variable {σ : Type} {F : Nat → Rc.Fact} {cons : List (Nat × Nat)} {E : Nat → (Nat → Value) → Value → Prop} {V : Nat → Value} {S : Nat → Nat → Prop} {j : Nat} {o : Oper} {b : Act} {w w0 : World} {B : Nat → Prop}
theorem step_turn (O : Obj σ) {v x : Value} {s s' : σ} {i : Nat} {fn : FuncId} {xs : Array Operand} {ts : Array TypeId} (args : Array Value) (hent : ∀ args w, (callFunc fn args).run Try.prog w = .ok (.enter fn args) w)
    (hop : o.op = .call { callee := .value (.func fn), args := xs, argTypes := ts }) (hargs : xs.map b.eval = args) (hF : F j = turned O v (Ups B w0) x s') (hi : (j, i) ∈ cons) (hu : ∃ S1, O.At v s S1 w ∧ (∀ b, S1 b → S i b) ∧ ∀ b, S1 b → Ups B w0 b)
    (hE : ∀ v, E j V v) (hg : Rg.Open o V) (hw : w0.heap.size ≤ w.heap.size) (hcall : ∀ S1, O.At v s S1 w → (∀ b, S1 b → S i b) → (∀ b, S1 b → Ups B w0 b) → Calls Try.prog fn args w (Turns O v s' x S1 w)) : Rg.Does1 Try.prog o V b w (Rc.Good F cons E V S j w) := by
  obtain ⟨S1, hat, hsub, hup⟩ := hu
  refine Rc.step_call args hent hop hargs hE hg ((hcall S1 hat hsub hup).mono ?_)
  rintro e w' ⟨rfl, S', hat', hm, hS'⟩
  have ht : ∀ b, S1 b → Taken cons S j b := fun b hb => ⟨i, hi, hsub b hb⟩
  refine ⟨_, S', rfl, hm.mono fun k _ hk => ht k hk, ?_, fun k hk => ⟨(hS' k hk).imp (ht k) id, O.lt hat' k hk⟩⟩
  rw [hF]
  exact ⟨rfl, S', hat', fun _ h => h, fun b hb => (hS' b hb).elim (hup b) (fun h => .inr (Nat.le_trans hw h))⟩
/-- A call that makes a row of its own. -/
theorem step_frow (l : List UInt8) {fn : FuncId} {xs : Array Operand} {ts : Array TypeId} (args : Array Value) (hent : ∀ args w, (callFunc fn args).run Try.prog w = .ok (.enter fn args) w)
    (hop : o.op = .call { callee := .value (.func fn), args := xs, argTypes := ts }) (hargs : xs.map b.eval = args) (hF : F j = frow l) (hE : ∀ v, E j V v) (hg : Rg.Open o V)
    (hcall : Calls Try.prog fn args w fun e w' => ∃ x, e = .returned x ∧ Fresh l w x w' ∧ Below w.heap.size w w') : Rg.Does1 Try.prog o V b w (Rc.Good F cons E V S j w) := by
  refine Rc.step_call args hent hop hargs hE hg (hcall.mono ?_)
  rintro e w' ⟨x, rfl, hf, hb⟩
  obtain ⟨X, c, rfl, hc, hr, hX⟩ := hf.form
  refine ⟨_, fun k => X.map (·.block) = some k, rfl, Mod.of_below hb _, ?_, fun k hk => ⟨.inr (hX k hk).1, (hX k hk).2⟩⟩
  rw [hF]; exact ⟨X, c, rfl, hc, hr, fun _ h => h⟩
/-- A call that tells a value, and makes at most memory that nobody has. -/
theorem step_tell (x : Value) {fn : FuncId} {xs : Array Operand} {ts : Array TypeId} (args : Array Value) (hent : ∀ args w, (callFunc fn args).run Try.prog w = .ok (.enter fn args) w)
    (hop : o.op = .call { callee := .value (.func fn), args := xs, argTypes := ts }) (hargs : xs.map b.eval = args) (hF : F j = Rc.val x) (hE : ∀ v, E j V v) (hg : Rg.Open o V) (hcall : Calls Try.prog fn args w fun e w' => e = .returned x ∧ Below w.heap.size w w') : Rg.Does1 Try.prog o V b w (Rc.Good F cons E V S j w) := by
  refine Rc.step_call args hent hop hargs hE hg (hcall.mono ?_)
  rintro e w' ⟨rfl, hb⟩
  exact ⟨x, fun _ => False, rfl, Mod.of_below hb _, by rw [hF]; rfl, fun _ h => h.elim⟩
/-- A row of noughts that is made. -/
theorem make_row (w : World) (n : Nat) (hn : n ≤ 1000000) : ∃ w' z, (Instr.makeSlice 29 (.int .i64 (n : Int)) (.int .i64 (n : Int))).run Try.prog w = .ok (.slice (some ⟨w.heap.size, 0, none⟩) n n) w' ∧ Below w.heap.size w w' ∧ z = List.replicate n 0 ∧ Rd w' (some ⟨w.heap.size, 0, none⟩) z ∧ w.heap.size < w'.heap.size := by
  obtain ⟨i0, hi, hz0, hz1, hz2⟩ := info_parts Try.infoU8
  obtain ⟨w5, hrun, r1, r2⟩ := run_make_full (P := Try.prog) w w.heap.size 29 5 i0 (.int .u8 0) 1 Try.underlying29 hi hz0 hz1 .i64 .i64 n (by rw [hz2]; omega) (by unfold maxLen; omega) (Nat.le_refl _)
  rw [made_bytes] at r1
  have hl := own_lt r1 rfl
  obtain ⟨z, hz⟩ : ∃ z : List UInt8, z = List.replicate n 0 := ⟨_, rfl⟩
  have hzl : z.length = n := by rw [hz, List.length_replicate]
  rw [← hz] at r1
  obtain ⟨X', c', e, _, hr⟩ := bRow_form (v := .slice (some ⟨w.heap.size, 0, none⟩) n n) (l := z) (show _ by rw [← hzl] at r1; show w5.ownsRow 0 _ 1 _ z.length _; rw [hzl]; rw [hzl] at r1; exact own_base r1)
  injection e with e1
  subst e1
  exact ⟨w5, z, hrun, (Below.refl _ _).grown r2 (Nat.le_refl _) (fun k hk => by cases hk), hz, hr, hl.2⟩
/-- A slice of which the length alone is known. -/
def slen (n : Nat) : Rc.Fact := ⟨fun x _ _ => ∃ X c, x = .slice X n c, fun _ _ _ _ h _ _ => h⟩
theorem step_slen (n : Nat) {fn : FuncId} {xs : Array Operand} {ts : Array TypeId} (args : Array Value) (hent : ∀ args w, (callFunc fn args).run Try.prog w = .ok (.enter fn args) w)
    (hop : o.op = .call { callee := .value (.func fn), args := xs, argTypes := ts }) (hargs : xs.map b.eval = args) (hF : F j = slen n) (hE : ∀ v, E j V v) (hg : Rg.Open o V) (hcall : Calls Try.prog fn args w fun e w' => ∃ X c, e = .returned (.slice X n c) ∧ Below w.heap.size w w') : Rg.Does1 Try.prog o V b w (Rc.Good F cons E V S j w) := by
  refine Rc.step_call args hent hop hargs hE hg (hcall.mono ?_)
  rintro e w' ⟨X, c, rfl, hb⟩
  exact ⟨_, fun _ => False, rfl, Mod.of_below hb _, by rw [hF]; exact ⟨X, c, rfl⟩, fun _ h => h.elim⟩
theorem rc_mv (x : Value) {al : List (Nat × Nat × (Value → Value))} (h : (execOp b.eval o).run Try.prog w = .ok (.value x) w) (hF : F j = Rc.val x) (ha : (al.all fun x => x.1 != j) = true) (hg : Rg.Open o V) : Rg.Does1 Try.prog o V b w (Rc.Good F cons (Rg.alias al) V S j w) :=
  Rc.step_val x (Rg.alias_none ha V _) hg h (by rw [hF]; rfl)
theorem rc_slh {al : List (Nat × Nat × (Value → Value))} {t : TypeId} {x y : Operand} {X Y v : Value} (hop : o.op = .slice t x none (some y) none) (hx : b.eval x = X) (hy : b.eval y = Y) (h : (Instr.sliceAt t X none (some Y) none).run Try.prog w = .ok v w) (hF : F j = Rc.val v) (ha : (al.all fun x => x.1 != j) = true) (hg : Rg.Open o V) :
    Rg.Does1 Try.prog o V b w (Rc.Good F cons (Rg.alias al) V S j w) := by
  refine rc_mv v ?_ hF ha hg
  obtain ⟨dst, op, ty, pos, after, guard⟩ := o
  simp only at hop
  subst hop
  simp only [execOp, Option.map_some, Option.map_none, hx, hy]
  simp [h, Result.andThen]
theorem rc_sll {al : List (Nat × Nat × (Value → Value))} {t : TypeId} {x y : Operand} {X Y v : Value} (hop : o.op = .slice t x (some y) none none) (hx : b.eval x = X) (hy : b.eval y = Y) (h : (Instr.sliceAt t X (some Y) none none).run Try.prog w = .ok v w) (hF : F j = Rc.val v) (ha : (al.all fun x => x.1 != j) = true) (hg : Rg.Open o V) :
    Rg.Does1 Try.prog o V b w (Rc.Good F cons (Rg.alias al) V S j w) := by
  refine rc_mv v ?_ hF ha hg
  obtain ⟨dst, op, ty, pos, after, guard⟩ := o
  simp only at hop
  subst hop
  simp only [execOp, Option.map_some, Option.map_none, hx, hy]
  simp [h, Result.andThen]
theorem rc_sllh {al : List (Nat × Nat × (Value → Value))} {t : TypeId} {x y z : Operand} {X Y Z v : Value} (hop : o.op = .slice t x (some y) (some z) none) (hx : b.eval x = X) (hy : b.eval y = Y) (hz : b.eval z = Z) (h : (Instr.sliceAt t X (some Y) (some Z) none).run Try.prog w = .ok v w) (hF : F j = Rc.val v) (ha : (al.all fun x => x.1 != j) = true) (hg : Rg.Open o V) :
    Rg.Does1 Try.prog o V b w (Rc.Good F cons (Rg.alias al) V S j w) := by
  refine rc_mv v ?_ hF ha hg
  obtain ⟨dst, op, ty, pos, after, guard⟩ := o
  simp only at hop
  subst hop
  simp only [execOp, Option.map_some, Option.map_none, hx, hy, hz]
  simp [h, Result.andThen]
theorem rc_str (l : List UInt8) {al : List (Nat × Nat × (Value → Value))} {x : Operand} {A : Option Addr} {m c : Nat} (hop : o.op = .convert 29 9 x) (hx : b.eval x = .slice A m c) (hm : l.length = m) (hr : Rd w A l) (hF : F j = Rc.val (.string (strOf l))) (ha : (al.all fun x => x.1 != j) = true) (hg : Rg.Open o V) :
    Rg.Does1 Try.prog o V b w (Rc.Good F cons (Rg.alias al) V S j w) := by
  subst hm
  refine rc_mv (.string (strOf l)) ?_ hF ha hg
  have := str_any w A l c hr
  obtain ⟨dst, op, ty, pos, after, guard⟩ := o
  simp only at hop
  subst hop
  simp only [execOp, hx]
  go_simp
theorem step_make (n : Nat) (l : List UInt8) (hop : o.op = .makeSlice 29 (.const (.int .i64 (n : Int))) (.const (.int .i64 (n : Int)))) (hn : n ≤ 1000000) (hF : F j = frow l) (hE : ∀ v, E j V v) (hg : Rg.Open o V) (hl : l = List.replicate n 0 := by rfl) : Rg.Does1 Try.prog o V b w (Rc.Good F cons E V S j w) := by
  obtain ⟨w', z, hrun, hb, hz, hr, hlt⟩ := make_row w n hn
  rw [← hl] at hz
  subst hz
  refine Rc.step_new (.slice (some ⟨w.heap.size, 0, none⟩) n n) w' (fun k => k = w.heap.size) (hE _) hg ?_ hb ?_ (fun k hk => by subst hk; exact ⟨Nat.le_refl _, hlt⟩)
  · obtain ⟨dst, op, ty, pos, after, guard⟩ := o
    simp only at hop
    subst hop
    simp [execOp, Act.eval, hrun, Result.andThen]
  · rw [hF]
    have hzl : z.length = n := by rw [hl, List.length_replicate]
    exact ⟨_, n, by rw [hzl], by omega, hr, fun b hb => by simp at hb; exact hb.symm⟩
end
theorem one_inv {σ : Type} (O : Obj σ) {v : Value} {s : σ} {B : Nat → Prop} {w : World} (h : O.At v s B w) (F : Nat → Rc.Fact) (cons : List (Nat × Nat)) (n : Nat) (hF : F n = turned O v (Ups B w) undef s) :
    Rc.Inv F cons (Rg.alias []) w.drew B (fun i => n ≤ i ∧ i < n + 1) (fun _ => undef) (fun _ b => B b) w.drew := by
  refine ⟨Mod.refl _ _, fun i hi => ?_, fun i b hi hb => ⟨O.lt h b hb, .inl hb⟩, fun i k b hi hk hne _ => ?_, fun j _ => fun i f hm => by simp at hm⟩
  · obtain rfl : i = n := by have := hi.1; omega
    rw [hF]; exact ⟨rfl, B, O.keep h (Nat.le_refl _) (fun _ _ => rfl), fun _ h => h, fun _ h => .inl h⟩
  · have := hi.1; have := hk.1; omega
theorem One.after {σ : Type} {O : Obj σ} {v : Value} {w0 W0 : World} {X0 : Nat → Prop} {s s' : σ} {B : Nat → Prop} {w w2 : World} (h : One O v w0 W0 X0 s B w) (hm : Mod w w2 B) {S : Nat → Prop} (hu : ∃ S1, O.At v s' S1 w2 ∧ (∀ b, S1 b → S b) ∧ ∀ b, S1 b → Ups B w b) : Own O v w0 W0 X0 s' w2 := by
  obtain ⟨S1, hat, _, hup⟩ := hu
  exact ⟨S1, h.turn hat hm hup⟩
/-- No object at all: for regions that only read rows. -/
def nil : Obj Unit where
  At v _ S _ := (∃ a, v = .pointer (some a)) ∧ ∀ b, ¬ S b
  keep h _ _ := h
  lt h b hb := absurd hb (h.2 b)
  ptr h := h.1
theorem nil_one (a : Addr) (w : World) : One nil (.pointer (some a)) w w (fun _ => False) () (fun _ => False) w := ⟨⟨⟨a, rfl⟩, fun _ h => h⟩, Mod.refl _ _, fun _ h => h.elim, Below.refl _ _, fun _ h => h.elim⟩
end Ob
end Go.Proofs.Ytombmeppdhhjhaa

/-
  OWN WORK. Rows of whatever elements: copies into them, their ends cleared; names and nodes as they lie in memory.
-/
namespace Go.Proofs.Ytombmeppdhhjhaa
open Go.RowKit
/-! Rows of elements of k cells. -/
/-- A copy into a known block, elements of k cells. -/
theorem run_copy_k {P : Program} (w : World) (dT sT ty elem : TypeId) (k : Nat) (hu : P.underlying dT = some (.slice elem)) (hsz : (P.info? elem).map (·.size) = some k)
    (g o dLen dCap : Nat) (ad : Addr) (sLen sCap : Nat) (cur : List Value) (t : TypeId) (hg : Blk w g t cur) (cs : List Value) (n : Nat) (hn : n = Nat.min sLen dLen) (hl : cs.length = n * k)
    (hsrc : ∀ j v, cs[j]? = some v → w.cell? (ad.add j) = some v) (hfit : o + cs.length ≤ cur.length) (h1 : ∀ v ∈ cs, v.oneCell' = true) :
    ∃ w', (Builtin.copy_ #[dT, sT] ty #[.slice (some ⟨g, o, none⟩) dLen dCap, .slice (some ad) sLen sCap]).run P w = .ok (goInt n) w' ∧ Blk w' g t (splice cur o cs) ∧ Keeps w w' g := by
  have hld := run_firstCells_some (P := P) w k n ad sLen sCap cs hl hsrc
  have hst := run_storeCells_at P g o t cs 0 cur.toArray w hg (by simpa using hfit) h1
  refine ⟨w.setRow g (cur.toArray.toList.take o ++ cs ++ cur.toArray.toList.drop (o + cs.length)).toArray, ?_, ?_, (Keeps.refl w g).setRow _⟩
  · cases hq : P.info? elem with
    | none => simp [hq] at hsz
    | some i =>
      have hi : i.size = k := by simpa [hq] using hsz
      subst hi
      simp [Builtin.copy_, run_underlying hu, Builtin.lenOf, sizeOf, typeInfo, hq, ← hn, hld, hst]
  · have e : cur.toArray.toList.take o ++ cs ++ cur.toArray.toList.drop (o + cs.length) = splice cur o cs := by simp [splice]
    rw [e]
    exact hg.row _
/-- The end of a known block cleared. -/
theorem run_clear_k {P : Program} (w : World) (t0 elem ty : TypeId) (z : Value) (ht : P.underlying t0 = some (.slice elem)) (hz : (zeroValue elem).run P w = .ok z w)
    (g o n cap : Nat) (cur : List Value) (t : TypeId) (hg : Blk w g t cur) (hfit : o + n * z.cells.size ≤ cur.length) (h1 : ∀ v ∈ z.cells.toList, v.oneCell' = true) :
    ∃ w' cs, (Builtin.clear_ #[t0] ty #[.slice (some ⟨g, o, none⟩) n cap]).run P w = .ok (.tuple #[]) w' ∧ Blk w' g t (splice cur o cs) ∧ Keeps w w' g ∧ cs.length = n * z.cells.size := by
  cases n with
  | zero => exact ⟨w, [], by simp [Builtin.clear_, run_underlying ht], by simpa [splice] using hg, Keeps.refl w g, by simp⟩
  | succ m =>
    obtain ⟨cs, hcs⟩ : ∃ cs, cs = (Builtin.zeroCells z.cells (m + 1)).toList := ⟨_, rfl⟩
    have hl : cs.length = (m + 1) * z.cells.size := by rw [hcs]; simp [Builtin.zeroCells]
    have hone : ∀ v ∈ cs, v.oneCell' = true := by
      intro v hv
      rw [hcs] at hv
      simp only [Builtin.zeroCells, Array.toList_map, List.mem_map, Array.toList_range, List.mem_range] at hv
      obtain ⟨i, hi, rfl⟩ := hv
      have hz0 : 0 < z.cells.size := by
        rcases Nat.eq_zero_or_pos z.cells.size with h | h
        · rw [h] at hi; omega
        · exact h
      have hs := Nat.mod_lt i hz0
      refine h1 _ ?_
      rw [getElem!_pos z.cells (i % z.cells.size) hs]
      exact Array.getElem_mem_toList hs
    have hst := run_storeCells_at P g o t cs 0 cur.toArray w hg (by rw [hl]; simpa using hfit) hone
    refine ⟨w.setRow g (cur.toArray.toList.take o ++ cs ++ cur.toArray.toList.drop (o + cs.length)).toArray, cs, ?_, ?_, (Keeps.refl w g).setRow _, hl⟩
    · simp [Builtin.clear_, run_underlying ht, hz, ← hcs, hst]
    · have e : cur.toArray.toList.take o ++ cs ++ cur.toArray.toList.drop (o + cs.length) = splice cur o cs := by simp [splice]
      rw [e]
      exact hg.row _
theorem step_copy_k {P : Program} {ops : Array Oper} {o : Oper} {a : Act} {w : World} {K : Act → World → Prop} {Q : Exit → Act → World → Prop} {E : Prop} (hgd : o.guard = none) (d s : Operand) (dT sT : TypeId)
    (ho : o.op = .call { callee := .builtin .copy, args := #[d, s], argTypes := #[dT, sT] }) (elem : TypeId) (k : Nat) (hu : P.underlying dT = some (.slice elem)) (hsz : (P.info? elem).map (·.size) = some k)
    (g off dLen dCap : Nat) (ad : Addr) (sLen sCap : Nat) (hd : a.eval d = .slice (some ⟨g, off, none⟩) dLen dCap) (hs : a.eval s = .slice (some ad) sLen sCap)
    (cur : List Value) (t : TypeId) (hg : Blk w g t cur) (cs : List Value) (n : Nat) (hn : n = Nat.min sLen dLen) (hl : cs.length = n * k)
    (hsrc : ∀ j v, cs[j]? = some v → w.cell? (ad.add j) = some v) (hfit : off + cs.length ≤ cur.length) (h1 : ∀ v ∈ cs, v.oneCell' = true)
    (h : ∀ w', Hid (Blk w' g t (splice cur off cs)) → Hid (Keeps w w' g) → K (a.put o.dst (goInt n)) w') :
    if Region.wanted o (yielded ops a.tmps) = true then Oper.wp P o a w K Q else E := by
  rw [if_pos (show Region.wanted o (yielded ops a.tmps) = true by simp [Region.wanted, hgd])]
  obtain ⟨w', hrun, hb, hk⟩ := run_copy_k w dT sT o.type elem k hu hsz g off dLen dCap ad sLen sCap cur t hg cs n hn hl hsrc hfit h1
  unfold Oper.wp
  simp [execOp, ho, resolve, invoke, builtin, hd, hs, hrun, Result.andThen]
  exact h w' hb hk
theorem wpList_copy_k {P : Program} {w : World} {ops : Array Oper} {rest : List Oper} {o : Oper} {a : Act} {Q : Exit → Act → World → Prop} (hgd : o.guard = none) (d s : Operand) (dT sT : TypeId)
    (ho : o.op = .call { callee := .builtin .copy, args := #[d, s], argTypes := #[dT, sT] }) (elem : TypeId) (k : Nat) (hu : P.underlying dT = some (.slice elem)) (hsz : (P.info? elem).map (·.size) = some k)
    (g off dLen dCap : Nat) (ad : Addr) (sLen sCap : Nat) (hd : a.eval d = .slice (some ⟨g, off, none⟩) dLen dCap) (hs : a.eval s = .slice (some ad) sLen sCap)
    (cur : List Value) (t : TypeId) (hg : Blk w g t cur) (cs : List Value) (n : Nat) (hn : n = Nat.min sLen dLen) (hl : cs.length = n * k)
    (hsrc : ∀ j v, cs[j]? = some v → w.cell? (ad.add j) = some v) (hfit : off + cs.length ≤ cur.length) (h1 : ∀ v ∈ cs, v.oneCell' = true)
    (h : ∀ w', Hid (Blk w' g t (splice cur off cs)) → Hid (Keeps w w' g) → wpList P ops Q rest (a.put o.dst (goInt n)) w') : wpList P ops Q (o :: rest) a w := by
  refine wpList_plain hgd fun K hK => ?_
  obtain ⟨w', hrun, hb, hk⟩ := run_copy_k w dT sT o.type elem k hu hsz g off dLen dCap ad sLen sCap cur t hg cs n hn hl hsrc hfit h1
  unfold Oper.wp
  simp [execOp, ho, resolve, invoke, builtin, hd, hs, hrun, Result.andThen]
  exact hK _ _ (h w' hb hk)
/-! What an insertion does to a row. -/
theorem splice_length {α : Type} (L : List α) (o : Nat) (cs : List α) (h : o + cs.length ≤ L.length) : (splice L o cs).length = L.length := by
  unfold splice
  rw [List.length_append, List.length_append, List.length_take, List.length_drop]; omega
theorem splice_take {α : Type} (L : List α) (o : Nat) (cs : List α) (h : o ≤ L.length) : (splice L o cs).take o = L.take o := by
  unfold splice
  rw [List.take_append_of_le_length (by rw [List.length_take]; omega), List.take_take, Nat.min_self]
theorem splice_drop {α : Type} (L : List α) (o : Nat) (cs : List α) (h : o ≤ L.length) : (splice L o cs).drop (o + cs.length) = L.drop (o + cs.length) := by
  unfold splice
  rw [← List.append_assoc, List.drop_append_of_le_length (by rw [List.length_append, List.length_take]; omega), List.drop_eq_nil_of_le (by rw [List.length_append, List.length_take]; omega), List.nil_append]
theorem splice_cut {α : Type} (L : List α) (o : Nat) (cs : List α) (h : o ≤ L.length) : (splice L o cs).drop o = cs ++ L.drop (o + cs.length) := by
  unfold splice
  rw [List.drop_append_of_le_length (by rw [List.length_take]; omega), List.drop_eq_nil_of_le (by rw [List.length_take]; omega), List.nil_append]
/-- In place. -/
theorem ins_row {α : Type} (cur xs ys : List α) (a k N : Nat) (hx : cur.take N = xs) (hN : N + k ≤ cur.length) (ha : a ≤ N) (hy : ys.length = k) :
    (splice (splice cur (a + k) (xs.drop a)) a ys).length = cur.length ∧ (splice (splice cur (a + k) (xs.drop a)) a ys).take (N + k) = xs.take a ++ (ys ++ xs.drop a) := by
  have hxl : xs.length = N := by rw [← hx, List.length_take]; omega
  have hdl : (xs.drop a).length = N - a := by rw [List.length_drop, hxl]
  have l1 := splice_length cur (a + k) (xs.drop a) (by rw [hdl]; omega)
  refine ⟨by rw [splice_length _ _ _ (by rw [l1, hy]; omega), l1], ?_⟩
  have e1 : (splice cur (a + k) (xs.drop a)).take a = xs.take a := by
    have h := splice_take cur (a + k) (xs.drop a) (by omega)
    have h2 := congrArg (List.take a) h
    rw [List.take_take, List.take_take, Nat.min_eq_left (by omega)] at h2
    rw [h2, ← hx, List.take_take, Nat.min_eq_left ha]
  have e2 : (splice cur (a + k) (xs.drop a)).drop (a + ys.length) = xs.drop a ++ cur.drop (N + k) := by
    rw [hy, splice_cut _ _ _ (by omega), hdl]
    congr 2; omega
  have e3 : splice (splice cur (a + k) (xs.drop a)) a ys = xs.take a ++ (ys ++ (xs.drop a ++ cur.drop (N + k))) := by
    unfold splice at e1 e2 ⊢
    rw [e1, e2]
  rw [e3, ← List.append_assoc, ← List.append_assoc, ← List.append_assoc, List.take_append_of_le_length (by simp only [List.length_append, List.length_take, hdl, hy, hxl]; omega), List.take_of_length_le (by simp only [List.length_append, List.length_take, hdl, hy, hxl]; omega), List.append_assoc]
/-- In a new row. -/
theorem ins_new {α : Type} (cur xs ys : List α) (a k N : Nat) (hxl : xs.length = N) (hx : cur.take a = xs.take a) (hN : N + k ≤ cur.length) (ha : a ≤ N) (hy : ys.length = k) :
    (splice (splice cur a ys) (a + k) (xs.drop a)).length = cur.length ∧ (splice (splice cur a ys) (a + k) (xs.drop a)).take (N + k) = xs.take a ++ (ys ++ xs.drop a) := by
  have hdl : (xs.drop a).length = N - a := by rw [List.length_drop, hxl]
  have l1 := splice_length cur a ys (by rw [hy]; omega)
  refine ⟨by rw [splice_length _ _ _ (by rw [l1, hdl]; omega), l1], ?_⟩
  have e1 : (splice cur a ys).take (a + k) = xs.take a ++ ys := by
    unfold splice
    rw [← List.append_assoc, List.take_append_of_le_length (by rw [List.length_append, List.length_take, hy]; omega), List.take_of_length_le (by rw [List.length_append, List.length_take, hy]; omega), hx]
  have e2 : (splice (splice cur a ys) (a + k) (xs.drop a)) = (xs.take a ++ ys) ++ (xs.drop a ++ (splice cur a ys).drop (a + k + (xs.drop a).length)) := by
    conv => lhs; unfold splice
    rw [show List.take a cur ++ (ys ++ List.drop (a + ys.length) cur) = splice cur a ys from rfl, e1]
  rw [e2, ← List.append_assoc, List.take_append_of_le_length (by simp only [List.length_append, List.length_take, hdl, hy, hxl]; omega), List.take_of_length_le (by simp only [List.length_append, List.length_take, hdl, hy, hxl]; omega), List.append_assoc]
end Go.Proofs.Ytombmeppdhhjhaa

/-
  OWN WORK. The program's tree as it lies in memory: names, nodes, the tree.
-/
namespace Go.Proofs.Ytombmeppdhhjhaa
open Go.RowKit Rc
open Tr (Nm En T)
namespace Tm
/-! Own rows of whatever elements. -/
theorem own_low {w : World} {B e k n : Nat} {v : Value} {xs : List Value} (h : w.ownsRow B e k v n xs) : w.ownsRow 0 e k v n xs := own_mono h (Nat.zero_le _)
theorem own_blk {w : World} {B e k n : Nat} {v : Value} {xs : List Value} (h : w.ownsRow B e k v n xs) {b : Nat} (hb : v.ownBlock = some b) : B ≤ b ∧ b < w.heap.size ∧ ∃ cs, Blk w b e cs := by
  rcases h.2 with ⟨rfl, _⟩ | ⟨g, cap, cur, rfl, h1, h2, _⟩
  · cases hb
  · obtain rfl : g = b := by simpa [Value.ownBlock] using hb
    exact ⟨h1, (Array.getElem?_eq_some_iff.1 h2).1, cur.toList, by simpa [Blk] using h2⟩
theorem own_keep {w w' : World} {B e k n : Nat} {v : Value} {xs : List Value} (h : w.ownsRow B e k v n xs) (hb : ∀ b, v.ownBlock = some b → w'.heap[b]? = w.heap[b]?) : w'.ownsRow B e k v n xs := by
  refine ⟨h.1, ?_⟩
  rcases h.2 with h2 | ⟨g, cap, cur, rfl, h3, h4, h5⟩
  · exact .inl h2
  · exact .inr ⟨g, cap, cur, rfl, h3, (hb g rfl).trans h4, h5⟩
theorem own_form {w : World} {B e k n : Nat} {v : Value} {xs : List Value} (h : w.ownsRow B e k v n xs) : ∃ A c, v = .slice A n c ∧ n ≤ c ∧ (0 < n → ∃ g, A = some ⟨g, 0, none⟩ ∧ v.ownBlock = some g ∧ B ≤ g ∧ g < w.heap.size ∧ ∀ j x, xs[j]? = some x → w.cell? ⟨g, j, none⟩ = some x) := by
  rcases h.2 with ⟨rfl, rfl⟩ | ⟨g, cap, cur, rfl, h1, h2, h3, h4, h5, h6⟩
  · exact ⟨none, 0, rfl, Nat.le_refl _, fun h => absurd h (by omega)⟩
  · refine ⟨_, cap, rfl, h3, fun hn => ⟨g, rfl, rfl, h1, (Array.getElem?_eq_some_iff.1 h2).1, fun j x hx => ?_⟩⟩
    rw [cell_of_row w g j cur e (0, 0) h2]
    rw [← h6] at hx
    rw [List.getElem?_take] at hx
    split at hx
    · simpa using hx
    · cases hx
/-! Names. -/
def nmCells (l : List Nm) : List Value := l.flatMap fun n => [.string (strOf n.1), .int .i64 n.2]
theorem nmCells_cons (n : Nm) (l : List Nm) : nmCells (n :: l) = .string (strOf n.1) :: .int .i64 n.2 :: nmCells l := rfl
theorem nmCells_length : ∀ l : List Nm, (nmCells l).length = l.length * 2
  | [] => rfl
  | n :: l => by rw [nmCells_cons, List.length_cons, List.length_cons, nmCells_length l, List.length_cons]; omega
theorem nmCells_append (a b : List Nm) : nmCells (a ++ b) = nmCells a ++ nmCells b := by simp [nmCells]
theorem nmCells_take (l : List Nm) : ∀ i, nmCells (l.take i) = (nmCells l).take (i * 2) := by
  induction l with
  | nil => intro i; simp [nmCells]
  | cons n l ih =>
    intro i
    cases i with
    | zero => simp [nmCells]
    | succ i =>
      rw [List.take_succ_cons, nmCells_cons, nmCells_cons, ih, show (i + 1) * 2 = i * 2 + 1 + 1 by omega, List.take_succ_cons, List.take_succ_cons]
theorem nmCells_drop (l : List Nm) : ∀ i, nmCells (l.drop i) = (nmCells l).drop (i * 2) := by
  induction l with
  | nil => intro i; simp [nmCells]
  | cons n l ih =>
    intro i
    cases i with
    | zero => simp
    | succ i =>
      rw [List.drop_succ_cons, nmCells_cons, ih, show (i + 1) * 2 = i * 2 + 1 + 1 by omega, List.drop_succ_cons, List.drop_succ_cons]
theorem nmCells_get {l : List Nm} {j : Nat} {n : Nm} (h : l[j]? = some n) : (nmCells l)[j * 2]? = some (.string (strOf n.1)) ∧ (nmCells l)[j * 2 + 1]? = some (.int .i64 n.2) := by
  induction l generalizing j with
  | nil => simp at h
  | cons m l ih =>
    rw [nmCells_cons]
    cases j with
    | zero =>
      obtain rfl : m = n := by simpa using h
      exact ⟨rfl, rfl⟩
    | succ j =>
      have := ih (j := j) (by simpa using h)
      rw [show (j + 1) * 2 = j * 2 + 1 + 1 by omega]
      simpa using this
theorem nmCells_one (l : List Nm) : ∀ v ∈ nmCells l, v.oneCell' = true := by
  intro v hv
  simp only [nmCells, List.mem_flatMap] at hv
  obtain ⟨x, _, hx⟩ := hv
  simp at hx
  rcases hx with rfl | rfl <;> rfl
def NOwn (w : World) (B : Nat) (v : Value) (l : List Nm) : Prop := w.ownsRow B 87 2 v l.length (nmCells l)
theorem NOwn.nil (w : World) (B : Nat) : NOwn w B (.slice none 0 0) [] := ⟨rfl, .inl ⟨rfl, rfl⟩⟩
theorem NOwn.form {w : World} {B : Nat} {v : Value} {l : List Nm} (h : NOwn w B v l) : ∃ A c, v = .slice A l.length c ∧ l.length ≤ c ∧ (0 < l.length → ∃ g, A = some ⟨g, 0, none⟩ ∧ v.ownBlock = some g ∧ B ≤ g ∧ g < w.heap.size ∧ ∀ j n, l[j]? = some n → w.cell? ⟨g, j * 2, none⟩ = some (.string (strOf n.1)) ∧ w.cell? ⟨g, j * 2 + 1, none⟩ = some (.int .i64 n.2)) := by
  obtain ⟨A, c, h1, h2, h3⟩ := own_form h
  refine ⟨A, c, h1, h2, fun hl => ?_⟩
  obtain ⟨g, h4, h5, h6, h7, h8⟩ := h3 hl
  exact ⟨g, h4, h5, h6, h7, fun j n hj => ⟨h8 _ _ (nmCells_get hj).1, h8 _ _ (nmCells_get hj).2⟩⟩
/-! A node. -/
def enCells (e : En) (dv nv : Value) : List Value := [.int .i64 e.nd.id, .int .i64 e.nd.kind, .int .i64 e.nd.links, .int .i64 e.nd.size, .int .u64 (e.nd.till : Nat), .bool e.nd.shut, dv, nv]
def EnS (g : Nat) (dv nv : Value) : Nat → Prop := fun b => b = g ∨ dv.ownBlock = some b ∨ nv.ownBlock = some b
structure EIn (g : Nat) (dv nv : Value) (e : En) (w : World) : Prop where
  box : Blk w g 65 (enCells e dv nv)
  data : w.ownsRow 0 5 1 dv e.data.length (Lib.byteCells e.data)
  names : NOwn w 0 nv e.names
def EAt (g : Nat) (e : En) (S : Nat → Prop) (w : World) : Prop := ∃ dv nv, EIn g dv nv e w ∧ S = EnS g dv nv
theorem EIn.at_ {g : Nat} {dv nv : Value} {e : En} {w : World} (h : EIn g dv nv e w) : EAt g e (EnS g dv nv) w := ⟨dv, nv, h, rfl⟩
theorem EIn.keep {g : Nat} {dv nv : Value} {e : En} {w w' : World} (h : EIn g dv nv e w) (hb : ∀ b, EnS g dv nv b → w'.heap[b]? = w.heap[b]?) : EIn g dv nv e w' :=
  ⟨(hb g (.inl rfl)).trans h.box, own_keep h.data fun b h1 => hb b (.inr (.inl h1)), own_keep h.names fun b h1 => hb b (.inr (.inr h1))⟩
theorem EIn.kind {g : Nat} {dv nv : Value} {e : En} {w : World} (h : EIn g dv nv e w) {b : Nat} (hb : EnS g dv nv b) : b < w.heap.size ∧ ∃ t cs, Blk w b t cs ∧ (t = 65 ∨ t = 5 ∨ t = 87) := by
  rcases hb with rfl | hb | hb
  · exact ⟨h.box.lt, _, _, h.box, .inl rfl⟩
  · obtain ⟨_, h1, cs, h2⟩ := own_blk h.data hb
    exact ⟨h1, _, cs, h2, .inr (.inl rfl)⟩
  · obtain ⟨_, h1, cs, h2⟩ := own_blk h.names hb
    exact ⟨h1, _, cs, h2, .inr (.inr rfl)⟩
theorem EAt.keep {g : Nat} {e : En} {S : Nat → Prop} {w w' : World} (h : EAt g e S w) (hb : ∀ b, S b → w'.heap[b]? = w.heap[b]?) : EAt g e S w' := by
  obtain ⟨dv, nv, h1, rfl⟩ := h
  exact ⟨dv, nv, h1.keep hb, rfl⟩
theorem EAt.kind {g : Nat} {e : En} {S : Nat → Prop} {w : World} (h : EAt g e S w) {b : Nat} (hb : S b) : b < w.heap.size ∧ ∃ t cs, Blk w b t cs ∧ (t = 65 ∨ t = 5 ∨ t = 87) := by
  obtain ⟨dv, nv, h1, rfl⟩ := h
  exact h1.kind hb
theorem EAt.self {g : Nat} {e : En} {S : Nat → Prop} {w : World} (h : EAt g e S w) : S g := by
  obtain ⟨dv, nv, h1, rfl⟩ := h
  exact .inl rfl
def eobj : Ob.Obj En where
  At v e S w := ∃ g, v = .pointer (some ⟨g, 0, none⟩) ∧ EAt g e S w
  keep := by
    rintro v s S w w' ⟨g, rfl, h⟩ _ hb
    exact ⟨g, rfl, h.keep hb⟩
  lt := by
    rintro v s S w ⟨g, rfl, h⟩ b hb
    exact (h.kind hb).1
  ptr := by
    rintro v s S w ⟨g, rfl, h⟩
    exact ⟨_, rfl⟩
/-- The cells of a node that are asked. -/
theorem EAt.cells {g : Nat} {e : En} {S : Nat → Prop} {w : World} (h : EAt g e S w) : w.cell? ⟨g, 0, none⟩ = some (.int .i64 e.nd.id) ∧ w.cell? ⟨g, 1, none⟩ = some (.int .i64 e.nd.kind) ∧ w.cell? ⟨g, 2, none⟩ = some (.int .i64 e.nd.links) ∧ w.cell? ⟨g, 3, none⟩ = some (.int .i64 e.nd.size) ∧ w.cell? ⟨g, 4, none⟩ = some (.int .u64 (e.nd.till : Nat)) ∧ w.cell? ⟨g, 5, none⟩ = some (.bool e.nd.shut) := by
  obtain ⟨dv, nv, h1, rfl⟩ := h
  exact ⟨h1.box.cell 0, h1.box.cell 1, h1.box.cell 2, h1.box.cell 3, h1.box.cell 4, h1.box.cell 5⟩
/-! Nodes, apart from one another. -/
def EsAt : List Nat → T → (Nat → Prop) → World → Prop
  | [], [], S, _ => ∀ b, ¬ S b
  | g :: gs, e :: t, S, w => ∃ S1 S2, EAt g e S1 w ∧ EsAt gs t S2 w ∧ (∀ b, S1 b → ¬ S2 b) ∧ (∀ b, S b ↔ S1 b ∨ S2 b)
  | _, _, _, _ => False
theorem EsAt.len : ∀ {gs : List Nat} {t : T} {S : Nat → Prop} {w : World}, EsAt gs t S w → gs.length = t.length
  | [], [], _, _, _ => rfl
  | _ :: _, _ :: _, _, _, ⟨_, _, _, h, _⟩ => by simp [EsAt.len h]
  | [], _ :: _, _, _, h => h.elim
  | _ :: _, [], _, _, h => h.elim
theorem EsAt.keep : ∀ {gs : List Nat} {t : T} {S : Nat → Prop} {w w' : World}, EsAt gs t S w → (∀ b, S b → w'.heap[b]? = w.heap[b]?) → EsAt gs t S w'
  | [], [], _, _, _, h, _ => h
  | _ :: _, _ :: _, _, _, _, ⟨S1, S2, h1, h2, h3, h4⟩, hb => ⟨S1, S2, h1.keep fun b h => hb b ((h4 b).2 (.inl h)), EsAt.keep h2 fun b h => hb b ((h4 b).2 (.inr h)), h3, h4⟩
  | [], _ :: _, _, _, _, h, _ => h.elim
  | _ :: _, [], _, _, _, h, _ => h.elim
theorem EsAt.kind : ∀ {gs : List Nat} {t : T} {S : Nat → Prop} {w : World}, EsAt gs t S w → ∀ {b : Nat}, S b → b < w.heap.size ∧ ∃ t cs, Blk w b t cs ∧ (t = 65 ∨ t = 5 ∨ t = 87)
  | [], [], _, _, h, b, hb => absurd hb (h b)
  | _ :: _, _ :: _, _, _, ⟨S1, S2, h1, h2, h3, h4⟩, b, hb => ((h4 b).1 hb).elim (fun h => h1.kind h) (fun h => EsAt.kind h2 h)
  | [], _ :: _, _, _, h, _, _ => h.elim
  | _ :: _, [], _, _, h, _, _ => h.elim
theorem EsAt.same : ∀ {gs : List Nat} {t : T} {S S' : Nat → Prop} {w : World}, EsAt gs t S w → (∀ b, S b ↔ S' b) → EsAt gs t S' w
  | [], [], _, _, _, h, hS => fun b hb => h b ((hS b).2 hb)
  | _ :: _, _ :: _, _, _, _, ⟨S1, S2, h1, h2, h3, h4⟩, hS => ⟨S1, S2, h1, h2, h3, fun b => (hS b).symm.trans (h4 b)⟩
  | [], _ :: _, _, _, _, h, _ => h.elim
  | _ :: _, [], _, _, _, h, _ => h.elim
theorem EsAt.app : ∀ {ga gb : List Nat} {A B : T} {SA SB : Nat → Prop} {w : World}, EsAt ga A SA w → EsAt gb B SB w → (∀ b, SA b → ¬ SB b) → EsAt (ga ++ gb) (A ++ B) (fun b => SA b ∨ SB b) w
  | [], _, [], _, _, _, _, h, k, _ => k.same fun b => ⟨.inr, fun h1 => h1.elim (fun h2 => absurd h2 (h b)) id⟩
  | _ :: _, _, _ :: _, _, _, SB, _, ⟨S1, S2, h1, h2, h3, h4⟩, k, hd =>
    ⟨S1, fun b => S2 b ∨ SB b, h1, EsAt.app h2 k fun b h => hd b ((h4 b).2 (.inr h)), fun b h => fun h5 => h5.elim (h3 b h) (hd b ((h4 b).2 (.inl h))), fun b => by
      constructor
      · rintro (h | h)
        · exact ((h4 b).1 h).elim .inl fun h => .inr (.inl h)
        · exact .inr (.inr h)
      · rintro (h | h | h)
        · exact .inl ((h4 b).2 (.inl h))
        · exact .inl ((h4 b).2 (.inr h))
        · exact .inr h⟩
  | [], _, _ :: _, _, _, _, _, h, _, _ => h.elim
  | _ :: _, _, [], _, _, _, _, h, _, _ => h.elim
theorem EsAt.split : ∀ {A B : T} {gs : List Nat} {S : Nat → Prop} {w : World}, EsAt gs (A ++ B) S w → ∃ ga gb SA SB, gs = ga ++ gb ∧ EsAt ga A SA w ∧ EsAt gb B SB w ∧ (∀ b, SA b → ¬ SB b) ∧ (∀ b, S b ↔ SA b ∨ SB b)
  | [], _, gs, S, _, h => ⟨[], gs, fun _ => False, S, rfl, fun _ h => h, h, fun _ h => h.elim, fun b => ⟨.inr, fun h => h.elim False.elim id⟩⟩
  | e :: A, B, g :: gs, S, w, ⟨S1, S2, h1, h2, h3, h4⟩ => by
    obtain ⟨ga, gb, SA, SB, rfl, h5, h6, h7, h8⟩ := EsAt.split h2
    refine ⟨g :: ga, gb, fun b => S1 b ∨ SA b, SB, rfl, ⟨S1, SA, h1, h5, fun b hb hA => h3 b hb ((h8 b).2 (.inl hA)), fun b => Iff.rfl⟩, h6, fun b hb hB => ?_, fun b => ?_⟩
    · rcases hb with hb | hb
      · exact h3 b hb ((h8 b).2 (.inr hB))
      · exact h7 b hb hB
    · rw [h4, h8, or_assoc]
  | _ :: _, _, [], _, _, h => h.elim
/-- The node in the middle, and how it is turned. -/
theorem EsAt.mid {A B : T} {e : En} {gs : List Nat} {S : Nat → Prop} {w : World} (h : EsAt gs (A ++ e :: B) S w) : ∃ ga g gb S1, gs = ga ++ g :: gb ∧ ga.length = A.length ∧ EAt g e S1 w ∧ (∀ b, S1 b → S b) ∧
    (∀ w' e' S1', EAt g e' S1' w' → Mod w w' S1 → (∀ b, S1' b → S1 b ∨ w.heap.size ≤ b) → ∃ S', EsAt gs (A ++ e' :: B) S' w' ∧ ∀ b, S' b → S b ∨ w.heap.size ≤ b) := by
  obtain ⟨ga, gb, SA, SB, rfl, h1, h2, h3, h4⟩ := h.split
  cases gb with
  | nil => exact h2.elim
  | cons g gb =>
    obtain ⟨S1, S2, h5, h6, h7, h8⟩ := h2
    refine ⟨ga, g, gb, S1, rfl, h1.len, h5, fun b hb => (h4 b).2 (.inr ((h8 b).2 (.inl hb))), fun w' e' S1' k1 k2 k3 => ?_⟩
    have kA : EsAt ga A SA w' := h1.keep fun b hb => k2.block b (h1.kind hb).1 fun h9 => h3 b hb ((h8 b).2 (.inl h9))
    have kB : EsAt gb B S2 w' := h6.keep fun b hb => k2.block b (h6.kind hb).1 fun h9 => h7 b h9 hb
    have kE : EsAt (g :: gb) (e' :: B) (fun b => S1' b ∨ S2 b) w' := ⟨S1', S2, k1, kB, fun b hb h9 => (k3 b hb).elim (fun h => h7 b h h9) (fun h => by have := (h6.kind h9).1; omega), fun b => Iff.rfl⟩
    refine ⟨_, kA.app kE fun b hb h9 => ?_, fun b hb => ?_⟩
    · rcases h9 with h9 | h9
      · rcases k3 b h9 with h | h
        · exact h3 b hb ((h8 b).2 (.inl h))
        · have := (h1.kind hb).1; omega
      · exact h3 b hb ((h8 b).2 (.inr h9))
    · rcases hb with hb | hb | hb
      · exact .inl ((h4 b).2 (.inl hb))
      · exact (k3 b hb).imp (fun h => (h4 b).2 (.inr ((h8 b).2 (.inl h)))) id
      · exact .inl ((h4 b).2 (.inr ((h8 b).2 (.inr hb))))
/-- One node is taken out. -/
theorem EsAt.out {A B : T} {e : En} {gs : List Nat} {S : Nat → Prop} {w : World} (h : EsAt gs (A ++ e :: B) S w) : ∃ ga g gb S', gs = ga ++ g :: gb ∧ ga.length = A.length ∧ EsAt (ga ++ gb) (A ++ B) S' w ∧ ∀ b, S' b → S b := by
  obtain ⟨ga, gb, SA, SB, rfl, h1, h2, h3, h4⟩ := h.split
  cases gb with
  | nil => exact h2.elim
  | cons g gb =>
    obtain ⟨S1, S2, h5, h6, h7, h8⟩ := h2
    refine ⟨ga, g, gb, _, rfl, h1.len, h1.app h6 fun b hb h9 => h3 b hb ((h8 b).2 (.inr h9)), fun b hb => ?_⟩
    exact hb.elim (fun h => (h4 b).2 (.inl h)) fun h => (h4 b).2 (.inr ((h8 b).2 (.inr h)))
/-- One node is put in. -/
theorem EsAt.into {A B : T} {e : En} {gs : List Nat} {S S1 : Nat → Prop} {g : Nat} {w : World} (h : EsAt gs (A ++ B) S w) (he : EAt g e S1 w) (hd : ∀ b, S b → ¬ S1 b) : ∃ ga gb S', gs = ga ++ gb ∧ ga.length = A.length ∧ EsAt (ga ++ g :: gb) (A ++ e :: B) S' w ∧ ∀ b, S' b ↔ S b ∨ S1 b := by
  obtain ⟨ga, gb, SA, SB, rfl, h1, h2, h3, h4⟩ := h.split
  have k : EsAt (g :: gb) (e :: B) (fun b => S1 b ∨ SB b) w := ⟨S1, SB, he, h2, fun b hb h9 => hd b ((h4 b).2 (.inr h9)) hb, fun b => Iff.rfl⟩
  refine ⟨ga, gb, _, rfl, h1.len, h1.app k fun b hb h9 => ?_, fun b => ?_⟩
  · exact h9.elim (hd b ((h4 b).2 (.inl hb))) (h3 b hb)
  · rw [h4]
    constructor
    · rintro (h | h | h)
      · exact .inl (.inl h)
      · exact .inr h
      · exact .inl (.inr h)
    · rintro ((h | h) | h)
      · exact .inl h
      · exact .inr (.inr h)
      · exact .inr (.inl h)
/-- The pointer of the node of an ID. -/
def ptrOf : List Nat → T → Int → Value
  | g :: gs, e :: t, i => if e.nd.id = i then .pointer (some ⟨g, 0, none⟩) else ptrOf gs t i
  | _, _, _ => .pointer none
theorem ptrOf_none : ∀ {gs : List Nat} {t : T} {i : Int}, (∀ e ∈ t, e.nd.id ≠ i) → ptrOf gs t i = .pointer none
  | [], [], _, _ => rfl
  | [], _ :: _, _, _ => rfl
  | _ :: _, [], _, _ => rfl
  | g :: gs, e :: t, i, h => by
    unfold ptrOf
    rw [if_neg (h e (.head _))]
    exact ptrOf_none fun m hm => h m (.tail _ hm)
theorem ptrOf_mid : ∀ {ga gb : List Nat} {g : Nat} {A B : T} {e : En} {i : Int}, ga.length = A.length → (∀ a ∈ A, a.nd.id ≠ i) → e.nd.id = i → ptrOf (ga ++ g :: gb) (A ++ e :: B) i = .pointer (some ⟨g, 0, none⟩)
  | [], _, _, [], _, _, _, _, _, he => by show (if _ then _ else _) = _; rw [if_pos he]
  | _ :: _, _, _, a :: _, _, _, _, hl, hA, he => by
    show (if _ then _ else _) = _
    rw [if_neg (hA a (.head _))]
    exact ptrOf_mid (by simpa using hl) (fun x hx => hA x (.tail _ hx)) he
/-! The tree. -/
def ptrCells (gs : List Nat) : List Value := gs.map fun g => .pointer (some ⟨g, 0, none⟩)
theorem ptrCells_append (a b : List Nat) : ptrCells (a ++ b) = ptrCells a ++ ptrCells b := List.map_append
theorem ptrCells_take (l : List Nat) (i : Nat) : ptrCells (l.take i) = (ptrCells l).take i := List.map_take
theorem ptrCells_drop (l : List Nat) (i : Nat) : ptrCells (l.drop i) = (ptrCells l).drop i := List.map_drop
def TrS (p : Nat) (av : Value) (S : Nat → Prop) : Nat → Prop := fun b => b = p ∨ av.ownBlock = some b ∨ S b
structure TIn (p : Nat) (av : Value) (gs : List Nat) (S : Nat → Prop) (t : T) (w : World) : Prop where
  box : Blk w p 57 [av]
  row : w.ownsRow 0 53 1 av gs.length (ptrCells gs)
  each : EsAt gs t S w
def TAt (v : Value) (t : T) (S : Nat → Prop) (w : World) : Prop := ∃ p av gs S0, v = .pointer (some ⟨p, 0, none⟩) ∧ TIn p av gs S0 t w ∧ S = TrS p av S0
theorem TIn.at_ {p : Nat} {av : Value} {gs : List Nat} {S : Nat → Prop} {t : T} {w : World} (h : TIn p av gs S t w) : TAt (.pointer (some ⟨p, 0, none⟩)) t (TrS p av S) w := ⟨p, av, gs, S, rfl, h, rfl⟩
theorem TIn.keep {p : Nat} {av : Value} {gs : List Nat} {S : Nat → Prop} {t : T} {w w' : World} (h : TIn p av gs S t w) (hb : ∀ b, TrS p av S b → w'.heap[b]? = w.heap[b]?) : TIn p av gs S t w' :=
  ⟨(hb p (.inl rfl)).trans h.box, own_keep h.row fun b h1 => hb b (.inr (.inl h1)), h.each.keep fun b h1 => hb b (.inr (.inr h1))⟩
theorem TIn.lt {p : Nat} {av : Value} {gs : List Nat} {S : Nat → Prop} {t : T} {w : World} (h : TIn p av gs S t w) {b : Nat} (hb : TrS p av S b) : b < w.heap.size := by
  rcases hb with rfl | hb | hb
  · exact h.box.lt
  · exact (own_blk h.row hb).2.1
  · exact (h.each.kind hb).1
theorem TIn.below {p : Nat} {av : Value} {gs : List Nat} {S : Nat → Prop} {t : T} {w w' : World} (h : TIn p av gs S t w) (hb : Below w.heap.size w w') : TIn p av gs S t w' := h.keep fun b hb1 => hb.block b (h.lt hb1)
def tobj : Ob.Obj T where
  At := TAt
  keep := by
    rintro v s S w w' ⟨p, av, gs, S0, rfl, h, rfl⟩ _ hb
    exact ⟨p, av, gs, S0, rfl, h.keep hb, rfl⟩
  lt := by
    rintro v s S w ⟨p, av, gs, S0, rfl, h, rfl⟩ b hb
    exact h.lt hb
  ptr := by
    rintro v s S w ⟨p, av, gs, S0, rfl, h, rfl⟩
    exact ⟨_, rfl⟩
/-- The tree's box and its list of nodes are no node's blocks. -/
theorem TIn.apart {p : Nat} {av : Value} {gs : List Nat} {S : Nat → Prop} {t : T} {w : World} (h : TIn p av gs S t w) : ¬ S p ∧ (∀ b, av.ownBlock = some b → ¬ S b ∧ b ≠ p) := by
  have key : ∀ {b : Nat} {ty : TypeId} {cs : List Value}, Blk w b ty cs → S b → ty = 65 ∨ ty = 5 ∨ ty = 87 := by
    intro b ty cs h1 h2
    obtain ⟨_, t2, cs2, h3, h4⟩ := h.each.kind h2
    have e : ty = t2 := by
      unfold Blk at h1 h3
      rw [h1] at h3
      injection h3 with h3
      injection h3
    rw [e]; exact h4
  refine ⟨fun hS => by have := key h.box hS; revert this; decide, fun b hb => ⟨fun hS => ?_, ?_⟩⟩
  · obtain ⟨_, _, cs, h1⟩ := own_blk h.row hb
    have := key h1 hS
    revert this; decide
  · obtain ⟨_, _, cs, h1⟩ := own_blk h.row hb
    exact h1.ne_ h.box (by decide)
/-- One node is turned by a call on it. -/
theorem TIn.turn {p : Nat} {av : Value} {gs : List Nat} {S : Nat → Prop} {A B : T} {e : En} {w : World} (h : TIn p av gs S (A ++ e :: B) w) : ∃ ga g gb S1, gs = ga ++ g :: gb ∧ ga.length = A.length ∧ EAt g e S1 w ∧ (∀ b, S1 b → S b) ∧
    (∀ w' e' S1', EAt g e' S1' w' → Mod w w' S1 → (∀ b, S1' b → S1 b ∨ w.heap.size ≤ b) → ∃ S', TIn p av gs S' (A ++ e' :: B) w' ∧ Mod w w' (TrS p av S) ∧ ∀ b, TrS p av S' b → TrS p av S b ∨ w.heap.size ≤ b) := by
  obtain ⟨ga, g, gb, S1, h1, h2, h3, h4, h5⟩ := h.each.mid
  refine ⟨ga, g, gb, S1, h1, h2, h3, h4, fun w' e' S1' k1 k2 k3 => ?_⟩
  obtain ⟨S', h6, h7⟩ := h5 w' e' S1' k1 k2 k3
  have hap := h.apart
  refine ⟨S', ⟨(k2.block p h.box.lt fun h9 => hap.1 (h4 _ h9)).trans h.box, own_keep h.row fun b hb => k2.block b (own_blk h.row hb).2.1 fun h9 => (hap.2 b hb).1 (h4 _ h9), h6⟩, k2.mono fun b _ hb => .inr (.inr (h4 b hb)), fun b hb => ?_⟩
  rcases hb with rfl | hb | hb
  · exact .inl (.inl rfl)
  · exact .inl (.inr (.inl hb))
  · exact (h7 b hb).imp (fun h => .inr (.inr h)) id
end Tm
end Go.Proofs.Ytombmeppdhhjhaa

/-
  OWN WORK. Regions that draw their order, by facts with what they stand on: an operation may take over what others' results, or objects that were there, stand on, and may turn it; all else stays.
-/
import Derived.Test.YtpblhdpnmnfieaaB01
namespace Go.Proofs.Ytpblhdpnmnfieaa.Rc
open Go Go.RowKit Go.Proofs.Ytpblhdpnmnfieaa.Rg

/-- What was there stays, but for these blocks. -/
structure Mod (w w' : World) (X : Nat → Prop) : Prop where
  os : w'.os = w.os
  tape : w'.tape = w.tape
  output : w'.output = w.output
  size : w.heap.size ≤ w'.heap.size
  block : ∀ k, k < w.heap.size → ¬ X k → w'.heap[k]? = w.heap[k]?
theorem Mod.refl (w : World) (X : Nat → Prop) : Mod w w X := ⟨rfl, rfl, rfl, Nat.le_refl _, fun _ _ _ => rfl⟩
theorem Mod.trans {a b c : World} {X : Nat → Prop} (h : Mod a b X) (k : Mod b c X) : Mod a c X :=
  ⟨k.os.trans h.os, k.tape.trans h.tape, k.output.trans h.output, Nat.le_trans h.size k.size, fun i hi hn => (k.block i (Nat.lt_of_lt_of_le hi h.size) hn).trans (h.block i hi hn)⟩
theorem Mod.mono {a b : World} {X Y : Nat → Prop} (h : Mod a b X) (hXY : ∀ k, k < a.heap.size → X k → Y k) : Mod a b Y := ⟨h.os, h.tape, h.output, h.size, fun k hk hn => h.block k hk fun hx => hn (hXY k hk hx)⟩
theorem Mod.of_below {a b : World} (h : Below a.heap.size a b) (X : Nat → Prop) : Mod a b X := ⟨h.os, h.tape, h.output, h.size, fun k hk _ => h.block k hk⟩
theorem Mod.below {a b : World} {X : Nat → Prop} (h : Mod a b X) (hX : ∀ k, X k → a.heap.size ≤ k) : Below a.heap.size a b := ⟨h.os, h.tape, h.output, h.size, fun k hk => h.block k hk fun hx => Nat.not_lt.2 (hX k hx) hk⟩
theorem Mod.drew {a b : World} {X : Nat → Prop} (h : Mod a b X) : Mod a b.drew X := ⟨h.os, h.tape, h.output, h.size, h.block⟩
theorem Mod.undrew {a b : World} {X : Nat → Prop} (h : Mod a.drew b X) : Mod a b X := ⟨h.os, h.tape, h.output, h.size, h.block⟩

structure Fact where
  holds : Value → World → (Nat → Prop) → Prop
  keep : ∀ v w w' S, holds v w S → w.heap.size ≤ w'.heap.size → (∀ b, S b → w'.heap[b]? = w.heap[b]?) → holds v w' S

def Live (cons : List (Nat × Nat)) (L : Nat → Prop) (i : Nat) : Prop := L i ∧ ∀ k, L k → (k, i) ∉ cons
structure Inv (F : Nat → Fact) (cons : List (Nat × Nat)) (E : Nat → (Nat → Value) → Value → Prop) (W0 : World) (X0 : Nat → Prop) (L : Nat → Prop) (V : Nat → Value) (S : Nat → Nat → Prop) (w : World) : Prop where
  mod : Mod W0 w X0
  holds : ∀ i, Live cons L i → (F i).holds (V i) w (S i)
  lt : ∀ i b, Live cons L i → S i b → b < w.heap.size ∧ (X0 b ∨ W0.heap.size ≤ b)
  sep : ∀ i j b, Live cons L i → Live cons L j → i ≠ j → S i b → ¬ S j b
  eqs : ∀ j, L j → E j V (V j)
def Taken (cons : List (Nat × Nat)) (S : Nat → Nat → Prop) (j : Nat) (b : Nat) : Prop := ∃ i, (j, i) ∈ cons ∧ S i b
def Good (F : Nat → Fact) (cons : List (Nat × Nat)) (E : Nat → (Nat → Value) → Value → Prop) (V : Nat → Value) (S : Nat → Nat → Prop) (j : Nat) (w : World) (v : Value) (w' : World) : Prop :=
  ∃ T : Nat → Prop, Mod w w' (Taken cons S j) ∧ (F j).holds v w' T ∧ (∀ b, T b → (Taken cons S j b ∨ w.heap.size ≤ b) ∧ b < w'.heap.size) ∧ E j V v

section
variable {P : Program} {ops : Array Oper} {Q : Exit → Act → World → Prop} {F : Nat → Fact} {cons : List (Nat × Nat)} {E : Nat → (Nat → Value) → Value → Prop}
theorem Inv.step {W0 : World} {X0 : Nat → Prop} {L : Nat → Prop} {V : Nat → Value} {S : Nat → Nat → Prop} {w w' : World} {j : Nat} {v : Value} (h : Inv F cons E W0 X0 L V S w) (hj : ¬ L j) (hc : ∀ i, (j, i) ∈ cons → Live cons L i) (hnc : ∀ k, L k → (k, j) ∉ cons) (hjj : (j, j) ∉ cons)
    (hse : ∀ k, L k → ∀ V', (∀ i, L i → V i = V' i) → E k V (V k) → E k V' (V k)) (hsj : ∀ V', (∀ i, L i → V i = V' i) → E j V v → E j V' v) (hg : Good F cons E V S j w v w') :
    ∃ T, Inv F cons E W0 X0 (fun k => k = j ∨ L k) (fun k => if k = j then v else V k) (fun k => if k = j then T else S k) w' := by
  obtain ⟨T, hg, hf, ho, heq⟩ := hg
  have live : ∀ k, k ≠ j → Live cons (fun k => k = j ∨ L k) k → Live cons L k ∧ (j, k) ∉ cons := fun k hk ⟨h1, h2⟩ => ⟨⟨h1.resolve_left hk, fun m hm => h2 m (.inr hm)⟩, h2 j (.inl rfl)⟩
  have far : ∀ k, k ≠ j → Live cons (fun k => k = j ∨ L k) k → ∀ b, S k b → b < w.heap.size ∧ ¬ Taken cons S j b := fun k hk hl b hb => by
    obtain ⟨h1, h2⟩ := live k hk hl
    refine ⟨(h.lt k b h1 hb).1, fun ⟨i, hi, hib⟩ => ?_⟩
    exact h.sep k i b h1 (hc i hi) (fun e => h2 (by rw [e]; exact hi)) hb hib
  have agree : ∀ i, L i → V i = (fun k => if k = j then v else V k) i := fun i hi => by
    have : i ≠ j := fun e => hj (e ▸ hi)
    simp [this]
  refine ⟨T, ?_, fun k hk => ?_, fun k b hk hb => ?_, fun i k b hi hk hne hib hkb => ?_, fun k hk => ?_⟩
  · refine ⟨hg.os.trans h.mod.os, hg.tape.trans h.mod.tape, hg.output.trans h.mod.output, Nat.le_trans h.mod.size hg.size, fun k hk hn => ?_⟩
    refine (hg.block k (Nat.lt_of_lt_of_le hk h.mod.size) fun ⟨i, hi, hib⟩ => ?_).trans (h.mod.block k hk hn)
    rcases (h.lt i k (hc i hi) hib).2 with h1 | h1
    · exact hn h1
    · omega
  · by_cases e : k = j
    · subst e; simp only [if_true]; exact hf
    · simp only [if_neg e]
      refine (F k).keep _ _ _ _ (h.holds k (live k e hk).1) hg.size fun b hb => ?_
      have := far k e hk b hb
      exact hg.block b this.1 this.2
  · by_cases e : k = j
    · subst e
      simp only [if_true] at hb
      obtain ⟨h1, h2⟩ := ho b hb
      refine ⟨h2, ?_⟩
      rcases h1 with ⟨i, hi, hib⟩ | h1
      · exact (h.lt i b (hc i hi) hib).2
      · exact .inr (Nat.le_trans h.mod.size h1)
    · simp only [if_neg e] at hb
      have := h.lt k b (live k e hk).1 hb
      exact ⟨Nat.lt_of_lt_of_le this.1 hg.size, this.2⟩
  · by_cases ei : i = j
    · subst ei
      simp only [if_true] at hib
      simp only [if_neg (Ne.symm hne)] at hkb
      obtain ⟨h1, h2⟩ := far k (Ne.symm hne) hk b hkb
      rcases (ho b hib).1 with h3 | h3
      · exact h2 h3
      · omega
    · simp only [if_neg ei] at hib
      by_cases ek : k = j
      · subst ek
        simp only [if_true] at hkb
        obtain ⟨h1, h2⟩ := far i ei hi b hib
        rcases (ho b hkb).1 with h3 | h3
        · exact h2 h3
        · omega
      · simp only [if_neg ek] at hkb
        exact h.sep i k b (live i ei hi).1 (live k ek hk).1 hne hib hkb
  · by_cases e : k = j
    · subst e
      simp only [if_true]
      exact hsj _ agree heq
    · simp only [if_neg e]
      have hk2 := hk.resolve_left e
      exact hse k hk2 _ agree (h.eqs k hk2)

/-- What the kernel reckons of a region. -/
def check (ops : Array Oper) (nv : Nat) (use : List (List (Nat × Nat))) (bef reads : List (List Nat)) (cons : List (Nat × Nat)) : Bool :=
  Rg.distinct ops && Region.noSelect ops &&
  (List.range ops.size).all (fun j => match ops[j]? with
    | none => false
    | some o =>
      (use.getD j []).all (fun i => (ops[i.1]?).bind (·.dst) == some i.2 && (bef.getD j []).contains i.1) &&
      (bef.getD j []).all (fun i => decide (i < j) && o.after.any (fun e => Region.binds .any e && (e.on == i || (bef.getD e.on []).contains i))) &&
      o.after.all (fun e => !Region.binds .any e || decide (e.on < j)) &&
      (o.looksAt ops).all (fun t => (List.range ops.size).all fun i => (nums use j).contains i || (match ops[i]? with | some x => x.dst != some t | none => true)) &&
      decide ((nums use j).Nodup) &&
      (reads.getD j []).all (fun i => ((bef.getD j []).contains i || (decide (ops.size ≤ i) && decide (i < ops.size + nv))) && cons.all (fun x => x.2 != i || x.1 == j || (bef.getD x.1 []).contains j)) &&
      (match o.guard with | some (g, _) => (nums use j).contains g | none => true)) &&
  cons.all (fun x => (reads.getD x.1 []).contains x.2 && decide (x.1 < ops.size))
/-- The facts that an operation may lean on. -/
structure Use (F : Nat → Fact) (V : Nat → Value) (S : Nat → Nat → Prop) (w : World) (l : List Nat) : Prop where
  holds : ∀ i, i ∈ l → (F i).holds (V i) w (S i)
  lt : ∀ i, i ∈ l → ∀ b, S i b → b < w.heap.size
  sep : ∀ i, i ∈ l → ∀ k, k ∈ l → i ≠ k → ∀ b, S i b → ¬ S k b

theorem run_all (nv : Nat) (use : List (List (Nat × Nat))) (bef reads : List (List Nat)) (hchk : Rc.check ops nv use bef reads cons = true) (hE : ∀ j V V' v, (∀ i ∈ nums use j, V i = V' i) → E j V v → E j V' v) (a0 : Act) (W0 : World) (X0 : Nat → Prop)
    (hE0 : ∀ j, ops.size ≤ j → ∀ V v, E j V v)
    (hstep : ∀ j o, ops[j]? = some o → ∀ V S w, Mod W0 w X0 → Use F V S w (reads.getD j []) → (∀ i ∈ nums use j, E i V (V i)) → Does P ops o (putUse V (use.getD j []) a0) w (Good F cons E V S j w))
    (hend : ∀ V S w a, Inv F cons E W0 X0 (fun i => i < ops.size + nv) V S w → Frm ops (fun i => i < ops.size) V a0 a → Q .normal a w) :
    ∀ (fuel : Nat) (listed : Array Bool) (V : Nat → Value) (S : Nat → Nat → Prop) (a : Act) (w : World), listed.size = ops.size → (listed.toList.filter (!·)).length ≤ fuel →
      (∀ k o, ops[k]? = some o → listed.getD k false = true → ∀ e ∈ o.after, Region.binds .any e = true → listed.getD e.on false = true) →
      Inv F cons E W0 X0 (fun i => listed.getD i false = true ∨ (ops.size ≤ i ∧ i < ops.size + nv)) V S w → Frm ops (fun i => listed.getD i false = true) V a0 a → wpAny P .any ops Q fuel listed a w := by
  simp only [Rc.check, Bool.and_eq_true] at hchk
  obtain ⟨⟨⟨hdis, hsel⟩, hops⟩, hcons⟩ := hchk
  have hO : ∀ j o, ops[j]? = some o → (∀ x ∈ use.getD j [], (ops[x.1]?).bind (·.dst) = some x.2 ∧ x.1 ∈ bef.getD j []) ∧ (∀ i ∈ bef.getD j [], i < j ∧ ∃ e ∈ o.after, Region.binds .any e = true ∧ (e.on = i ∨ i ∈ bef.getD e.on [])) ∧ (∀ e ∈ o.after, Region.binds .any e = true → e.on < j) ∧
      (∀ t ∈ o.looksAt ops, ∀ i x, ops[i]? = some x → x.dst = some t → i ∈ nums use j) ∧ (nums use j).Nodup ∧ (∀ i ∈ reads.getD j [], (i ∈ bef.getD j [] ∨ (ops.size ≤ i ∧ i < ops.size + nv)) ∧ ∀ x ∈ cons, x.2 = i → x.1 = j ∨ j ∈ bef.getD x.1 []) := by
    intro j o ho
    have h := List.all_eq_true.1 hops j (List.mem_range.2 (Array.getElem?_eq_some_iff.1 ho).1)
    simp only [ho, Bool.and_eq_true] at h
    obtain ⟨⟨⟨⟨⟨⟨h1, h2⟩, h3⟩, h4⟩, h5⟩, h6⟩, _⟩ := h
    refine ⟨fun x hx => ?_, fun i hi => ?_, fun e he hb => ?_, fun t ht i x hx hd => ?_, by simpa using h5, fun i hi => ?_⟩
    · have := List.all_eq_true.1 h1 x hx
      simp only [Bool.and_eq_true, beq_iff_eq] at this
      exact ⟨this.1, by simpa using this.2⟩
    · have := List.all_eq_true.1 h2 i hi
      simp only [Bool.and_eq_true, decide_eq_true_eq] at this
      obtain ⟨e, he, hb⟩ := Array.any_eq_true'.1 this.2
      simp only [Bool.and_eq_true, Bool.or_eq_true, beq_iff_eq] at hb
      exact ⟨this.1, e, he, hb.1, hb.2.imp id (fun h => by simpa using h)⟩
    · have := Array.all_eq_true_iff_forall_mem.1 h3 e he
      simpa [hb] using this
    · have := List.all_eq_true.1 (List.all_eq_true.1 h4 t ht) i (List.mem_range.2 (Array.getElem?_eq_some_iff.1 hx).1)
      simpa [hx, hd] using this
    · have := List.all_eq_true.1 h6 i hi
      simp only [Bool.and_eq_true, Bool.or_eq_true, decide_eq_true_eq] at this
      refine ⟨this.1.imp (fun h => by simpa using h) id, fun x hx e => ?_⟩
      have h7 := List.all_eq_true.1 this.2 x hx
      simpa [e] using h7
  have hC : ∀ j i, (j, i) ∈ cons → i ∈ reads.getD j [] ∧ j < ops.size := fun j i h => by
    have := List.all_eq_true.1 hcons _ h
    simpa using this
  intro fuel
  have all_of : ∀ listed : Array Bool, listed.size = ops.size → Region.ready .any ops listed = [] → ∀ k, k < ops.size → listed.getD k false = true := by
    intro listed hsz hr k
    induction k using Nat.strongRecOn with
    | _ k ih =>
      intro hk
      by_cases hl : listed.getD k false = true
      · exact hl
      · exfalso
        have : k ∈ Region.ready .any ops listed := mem_ready.2 ⟨by
          simp only [Array.getD_eq_getD_getElem?] at hl ⊢
          rw [Array.getElem?_eq_getElem (by omega)] at hl ⊢
          simpa using hl, _, Array.getElem?_eq_getElem hk, fun e he hb => ih e.on ((hO k _ (Array.getElem?_eq_getElem hk)).2.2.1 e he hb) (Nat.lt_trans ((hO k _ (Array.getElem?_eq_getElem hk)).2.2.1 e he hb) hk)⟩
        rw [hr] at this
        cases this
  have lis_lt : ∀ (listed : Array Bool), listed.size = ops.size → ∀ i, listed.getD i false = true → i < ops.size := fun listed hsz i h => by
    rcases Nat.lt_or_ge i ops.size with h1 | h1
    · exact h1
    · simp [Array.getD_eq_getD_getElem?, Array.getElem?_eq_none (show listed.size ≤ i by omega)] at h
  have fin : ∀ (listed : Array Bool) (V : Nat → Value) (S : Nat → Nat → Prop) (a : Act) (w : World), listed.size = ops.size → Region.ready .any ops listed = [] →
      Inv F cons E W0 X0 (fun i => listed.getD i false = true ∨ (ops.size ≤ i ∧ i < ops.size + nv)) V S w → Frm ops (fun i => listed.getD i false = true) V a0 a → Q .normal a w := by
    intro listed V S a w hsz hr hi hf
    have hall := all_of listed hsz hr
    have heq : ∀ i, (listed.getD i false = true) ↔ i < ops.size := fun i => ⟨lis_lt listed hsz i, hall i⟩
    refine hend V S w a ?_ (hf.congr heq fun _ _ => rfl)
    have : (fun i => listed.getD i false = true ∨ (ops.size ≤ i ∧ i < ops.size + nv)) = (fun i => i < ops.size + nv) := funext fun i => propext (by rw [heq]; omega)
    rwa [this] at hi
  /- what is listed has all that comes before it listed -/
  have befL : ∀ listed : Array Bool, (∀ k o, ops[k]? = some o → listed.getD k false = true → ∀ e ∈ o.after, Region.binds .any e = true → listed.getD e.on false = true) →
      ∀ j o, ops[j]? = some o → (∀ e ∈ o.after, Region.binds .any e = true → listed.getD e.on false = true) → ∀ i ∈ bef.getD j [], listed.getD i false = true := by
    intro listed hcl j
    induction j using Nat.strongRecOn with
    | _ j ih =>
      intro o ho haft i hi
      obtain ⟨_, e, he, hb, h⟩ := (hO j o ho).2.1 i hi
      have hel := haft e he hb
      rcases h with rfl | h
      · exact hel
      · have hlt := (hO j o ho).2.2.1 e he hb
        have hon : e.on < ops.size := Nat.lt_trans hlt (Array.getElem?_eq_some_iff.1 ho).1
        exact ih e.on hlt _ (Array.getElem?_eq_getElem hon) (hcl _ _ (Array.getElem?_eq_getElem hon) hel) i h
  induction fuel with
  | zero =>
    intro listed V S a w hsz hfu hcl hi hf
    have hr : Region.ready .any ops listed = [] := by
      apply List.eq_nil_iff_forall_not_mem.2
      intro j hj
      obtain ⟨h1, o, ho, _⟩ := mem_ready.1 hj
      have h2 := left_none listed.toList (by omega) j (by simp; rw [hsz]; exact (Array.getElem?_eq_some_iff.1 ho).1)
      simp only [Array.getElem?_toList] at h2
      simp [Array.getD_eq_getD_getElem?, h2] at h1
    exact ⟨hr, fin listed V S a w hsz hr hi hf⟩
  | succ fuel ih =>
    intro listed V S a w hsz hfu hcl hi hf
    refine ⟨fun hr => fin listed V S a w hsz hr hi hf, fun j hj => ?_⟩
    obtain ⟨hjf, o, ho, haft⟩ := mem_ready.1 hj
    have hjlt : j < ops.size := (Array.getElem?_eq_some_iff.1 ho).1
    have hjs : listed[j]? = some false := by
      simp only [Array.getD_eq_getD_getElem?, Array.getElem?_eq_getElem (show j < listed.size by omega), Option.getD_some] at hjf ⊢
      rw [hjf]
    have hjn : ¬ listed.getD j false = true := by simp [Array.getD_eq_getD_getElem?, hjs]
    obtain ⟨h0, h1, h2, h3, h4, h5⟩ := hO j o ho
    have hBL := befL listed hcl j o ho haft
    have hUL : ∀ i, i ∈ nums use j → listed.getD i false = true := fun i hi => by
      obtain ⟨x, hx, rfl⟩ := List.mem_map.1 hi
      exact hBL _ (h0 x hx).2
    have hjL : ¬ (listed.getD j false = true ∨ (ops.size ≤ j ∧ j < ops.size + nv)) := by
      rintro (h | h)
      · exact hjn h
      · omega
    have kL : ∀ k, (listed.getD k false = true ∨ (ops.size ≤ k ∧ k < ops.size + nv)) → k < ops.size → listed.getD k false = true := fun k hk hlt => hk.resolve_right (by omega)
    have jbef : ∀ k, k < ops.size → listed.getD k false = true → ¬ j ∈ bef.getD k [] := fun k hkl hk hb =>
      hjn (befL listed hcl k _ (Array.getElem?_eq_getElem hkl) (hcl k _ (Array.getElem?_eq_getElem hkl) hk) j hb)
    have hlive : ∀ i, i ∈ reads.getD j [] → Live cons (fun i => listed.getD i false = true ∨ (ops.size ≤ i ∧ i < ops.size + nv)) i := fun i hir => by
      obtain ⟨h6, h7⟩ := h5 i hir
      refine ⟨h6.imp (hBL i) id, fun k hk hck => ?_⟩
      have hkl := (hC k i hck).2
      rcases h7 _ hck rfl with h8 | h8
      · simp only at h8
        subst h8
        exact hjL hk
      · exact jbef k hkl (kL k hk hkl) h8
    have hd := hstep j o ho V S w hi.mod ⟨fun i hir => hi.holds i (hlive i hir), fun i hir b hb => (hi.lt i b (hlive i hir) hb).1, fun i hir k hkr hne b hib => hi.sep i k b (hlive i hir) (hlive k hkr) hne hib⟩ (fun i hiu => hi.eqs i (.inl (hUL i hiu)))
    have hb := Frm.putUse (V := V) (a0 := a0) hdis (use.getD j []) (fun x hx => (h0 x hx).1) h4
    refine Does.at_ ho (Region.noSelect_spec hsel j o · · ho) (hf.size.trans hb.size.symm) (fun t ht => hf.at_ hb t (fun i x hx hd => ?_)) hd (fun v w' hg => ?_)
    · exact ⟨fun _ => h3 t ht i x hx hd, fun h => hUL i h⟩
    · have hus : ∀ k, (listed.getD k false = true ∨ (ops.size ≤ k ∧ k < ops.size + nv)) → ∀ i ∈ nums use k, k < ops.size → listed.getD i false = true := fun k hk i hik hkl => by
        obtain ⟨x, hx, rfl⟩ := List.mem_map.1 hik
        exact befL listed hcl k _ (Array.getElem?_eq_getElem hkl) (hcl k _ (Array.getElem?_eq_getElem hkl) (kL k hk hkl)) _ ((hO k _ (Array.getElem?_eq_getElem hkl)).1 x hx).2
      obtain ⟨T, h6⟩ := hi.step (v := v) hjL (fun i hci => hlive i (hC j i hci).1) (fun k hk hck => by
          have hkl : k < ops.size := (hC k j hck).2
          have := (hO k _ (Array.getElem?_eq_getElem hkl)).2.2.2.2.2 j (hC k j hck).1
          rcases this.1 with h7 | h7
          · exact jbef k hkl (kL k hk hkl) h7
          · omega) (fun hcj => by
          have := (h5 j (hC j j hcj).1).1
          rcases this with h7 | h7
          · exact Nat.lt_irrefl j (h1 j h7).1
          · omega) (fun k hk V' hV h => by
          rcases Nat.lt_or_ge k ops.size with hkl | hkl
          · exact hE k V V' _ (fun i hik => hV i (.inl (hus k hk i hik hkl))) h
          · exact hE0 k hkl _ _) (fun V' hV => hE j V V' _ (fun i hij => hV i (.inl (hUL i hij)))) hg
      refine ih (listed.setIfInBounds j true) (fun k => if k = j then v else V k) (fun k => if k = j then T else S k) (a.put o.dst v) w' (by simpa using hsz) ?_ ?_ ?_ ?_
      · have := left_set listed.toList j (by simpa using hjs)
        rw [Array.toList_setIfInBounds]
        omega
      · intro k ok hok hk e he hb2
        rw [getD_set] at hk ⊢
        rcases hk with ⟨rfl, _⟩ | hk
        · obtain rfl : ok = o := by rw [ho] at hok; exact (Option.some.inj hok).symm
          exact .inr (haft e he hb2)
        · exact .inr (hcl k ok hok hk e he hb2)
      · have e : (fun i => (listed.setIfInBounds j true).getD i false = true ∨ (ops.size ≤ i ∧ i < ops.size + nv)) = (fun k => k = j ∨ (listed.getD k false = true ∨ (ops.size ≤ k ∧ k < ops.size + nv))) := funext fun k => propext (by
          rw [getD_set]; constructor
          · rintro ((⟨h, _⟩ | h) | h)
            · exact .inl h
            · exact .inr (.inl h)
            · exact .inr (.inr h)
          · rintro (h | h | h)
            · exact .inl (.inl ⟨h, by omega⟩)
            · exact .inl (.inr h)
            · exact .inr h)
        rw [e]; exact h6
      · refine (hf.step hdis j o ho hjn v).congr (fun k => ?_) (fun _ _ => rfl)
        rw [getD_set]; constructor
        · rintro (h | h)
          · exact .inl ⟨h, by omega⟩
          · exact .inr h
        · rintro (⟨h, _⟩ | h)
          · exact .inl h
          · exact .inr h

/-- **A region that draws its order, by facts.** -/
theorem wp_region {id : Nat} {a0 : Act} {w0 : World} (hm : P.follows .mixedOrders = true) (F : Nat → Fact) (nv : Nat) (al : List (Nat × Nat × (Value → Value))) (use : List (List (Nat × Nat))) (bef reads : List (List Nat)) (cons : List (Nat × Nat)) (hchk : Rc.check ops nv use bef reads cons = true)
    (hal : (al.all fun x => decide (x.1 < ops.size) && (nums use x.1).contains x.2.1) = true) (hsz : (ops.all fun o => (o.dst.map fun d => decide (d < a0.tmps.size)).getD true) = true)
    (X0 : Nat → Prop) (S0 : Nat → Nat → Prop) (h0 : Inv F cons (alias al) w0.drew X0 (fun i => ops.size ≤ i ∧ i < ops.size + nv) (fun _ => undef) S0 w0.drew)
    (hstep : ∀ a1, a1 = a0 → Rg.Steps (fun j o => ∀ V S w, Mod w0 w X0 → Use F V S w (reads.getD j []) → (∀ i ∈ nums use j, alias al i V (V i)) → Does1 P o V (putUse V (use.getD j []) a1) w (Good F cons (alias al) V S j w)) 0 ops.toList)
    (hend : ∀ V S w, Inv F cons (alias al) w0.drew X0 (fun i => i < ops.size + nv) V S w → Q .normal (putList ops.toList 0 V a0) w) : (Code.region id ops true).wp P Q a0 w0 := by
  refine wp_region_any hm ?_
  have hchk0 := hchk
  simp only [Rc.check, Bool.and_eq_true] at hchk
  obtain ⟨⟨⟨hdis, _⟩, hops⟩, _⟩ := hchk
  have hal2 : (al.all fun x => (nums use x.1).contains x.2.1) = true := List.all_eq_true.2 fun x hx => by
    have := List.all_eq_true.1 hal x hx
    simp only [Bool.and_eq_true] at this
    exact this.2
  have no : ∀ i, ¬ ((Array.replicate ops.size false).getD i false = true) := fun i h => by
    simp [Array.getD_eq_getD_getElem?, Array.getElem?_replicate] at h
    split at h <;> simp at h
  refine run_all (F := F) (cons := cons) nv use bef reads hchk0 (alias_dep hal2) a0 w0.drew X0 (fun j hj V v i f hm => ?_) (fun j o ho => ?_) (fun V S w a hi hf => ?_) _ _ (fun _ => undef) S0 _ _ (by simp) ?_ ?_ ?_ ?_
  · have := List.all_eq_true.1 hal _ hm
    simp only [Bool.and_eq_true, decide_eq_true_eq] at this
    omega
  · intro V S w hl hh he
    have h1 := (hstep a0 rfl).get j o (by simpa using ho) V S w hl.undrew (by simpa using hh) (by simpa using he)
    simp only [Nat.zero_add] at h1
    unfold Does1 at h1
    unfold Does
    cases hgd : o.guard with
    | none =>
      rw [hgd] at h1
      exact .inr ⟨by unfold Region.wanted; rw [hgd], h1⟩
    | some gw =>
      obtain ⟨g, want⟩ := gw
      rw [hgd] at h1
      simp only at h1
      have hy : ∀ x, V g = .bool x → yielded ops (putUse V (use.getD j []) a0).tmps g = some x := by
        intro x hx
        have h := List.all_eq_true.1 hops j (List.mem_range.2 (Array.getElem?_eq_some_iff.1 ho).1)
        simp only [ho, Bool.and_eq_true, hgd] at h
        obtain ⟨⟨⟨⟨⟨⟨h1, _⟩, _⟩, _⟩, h4⟩, _⟩, h6⟩ := h
        have h0 : ∀ x ∈ use.getD j [], (ops[x.1]?).bind (·.dst) = some x.2 := fun x hx => by
          have := List.all_eq_true.1 h1 x hx
          simp only [Bool.and_eq_true, beq_iff_eq] at this
          exact this.1
        have hb := Frm.putUse (V := V) (a0 := a0) hdis (use.getD j []) h0 (by simpa [nums] using h4)
        have h6 : g ∈ nums use j := by simpa using h6
        obtain ⟨y, hy, rfl⟩ := List.mem_map.1 h6
        obtain ⟨og, hog, hdg⟩ := Option.bind_eq_some_iff.1 (h0 y hy)
        have hlt := Array.all_eq_true_iff_forall_mem.1 hsz og (Array.mem_of_getElem? hog)
        simp only [hdg, Option.map_some, Option.getD_some, decide_eq_true_eq] at hlt
        have h7 := hb.put y.1 og y.2 hog hdg h6
        rw [if_pos hlt, hx] at h7
        unfold yielded
        rw [h0 y hy]
        simp only [Option.bind_some]
        rw [h7]
      rcases h1 with ⟨h1, h2⟩ | ⟨h1, h2⟩
      · exact .inr ⟨by unfold Region.wanted; rw [hgd]; simp only []; rw [hy _ h1]; exact beq_self_eq_true _, h2⟩
      · refine .inl ⟨?_, h2⟩
        unfold Region.wanted; rw [hgd]; simp only []; rw [hy _ h1]
        cases want <;> rfl
  · have h1 := Frm.putList (V := V) (a0 := a0) hdis ops.toList 0 a0 (fun k _ => by simp) ((Frm.refl ops V a0).congr (fun i => by simp) fun _ _ => rfl)
    have h2 : a = putList ops.toList 0 V a0 := hf.uniq (h1.congr (fun i => by simp) fun _ _ => rfl)
    rw [h2]; exact hend V S w hi
  · exact Nat.le_trans (List.length_filter_le _ _) (by simp)
  · intro k o _ hk
    exact absurd hk (no k)
  · have e : (fun i => (Array.replicate ops.size false).getD i false = true ∨ (ops.size ≤ i ∧ i < ops.size + nv)) = (fun i => ops.size ≤ i ∧ i < ops.size + nv) := funext fun i => propext ⟨fun h => h.resolve_left (no i), .inr⟩
    rw [e]; exact h0
  · exact (Frm.refl ops _ a0).congr (fun i => ⟨fun h => h.elim, fun h => absurd h (no i)⟩) fun _ _ => rfl
end

/-- What stands at the end. -/
theorem Inv.get {F : Nat → Fact} {cons : List (Nat × Nat)} {E : Nat → (Nat → Value) → Value → Prop} {W0 : World} {X0 : Nat → Prop} {V : Nat → Value} {S : Nat → Nat → Prop} {w : World} {n : Nat} (h : Inv F cons E W0 X0 (fun i => i < n) V S w) (i : Nat) (hi : i < n) (hc : cons.all (fun x => x.2 != i) = true) : (F i).holds (V i) w (S i) :=
  h.holds i ⟨hi, fun k _ hk => by have := List.all_eq_true.1 hc _ hk; simp at this⟩
theorem Inv.same {F : Nat → Fact} {cons : List (Nat × Nat)} {al : List (Nat × Nat × (Value → Value))} {W0 : World} {X0 : Nat → Prop} {V : Nat → Value} {S : Nat → Nat → Prop} {w : World} {n : Nat} (h : Inv F cons (alias al) W0 X0 (fun i => i < n) V S w) (j i : Nat) (f : Value → Value) (hj : j < n) (hm : (j, i, f) ∈ al) : V j = f (V i) := h.eqs j hj i f hm
/-- No objects of the caller's at the beginning. -/
theorem Inv.none {F : Nat → Fact} {cons : List (Nat × Nat)} {E : Nat → (Nat → Value) → Value → Prop} {w : World} {n : Nat} : Inv F cons E w (fun _ => False) (fun i => n ≤ i ∧ i < n + 0) (fun _ => undef) (fun _ _ => False) w :=
  ⟨Mod.refl _ _, fun i h => by have := h.1; omega, fun i b h => by have := h.1; omega, fun i j b h => by have := h.1; omega, fun j h => by omega⟩

/-- An exact value. -/
def val (x : Value) : Fact := ⟨fun v _ _ => v = x, fun _ _ _ _ h _ _ => h⟩
/-- Nothing. -/
def any : Fact := ⟨fun _ _ _ => True, fun _ _ _ _ h _ _ => h⟩
/-- A value, and an object that stands on these blocks. -/
def obj (x : Value) (B : Nat → Prop) (p : World → Prop) (hp : ∀ w w' : World, p w → w.heap.size ≤ w'.heap.size → (∀ b, B b → w'.heap[b]? = w.heap[b]?) → p w') : Fact :=
  ⟨fun v w S => v = x ∧ p w ∧ S = B, fun _ w w' S h hs hb => ⟨h.1, hp w w' h.2.1 hs (by rw [← h.2.2]; exact hb), h.2.2⟩⟩

section
variable {P : Program} {F : Nat → Fact} {cons : List (Nat × Nat)} {E : Nat → (Nat → Value) → Value → Prop} {V : Nat → Value} {S : Nat → Nat → Prop} {j : Nat} {o : Oper} {b : Act} {w : World}
/-- A value alone. -/
theorem step_val (x : Value) (hE : E j V x) (hg : Rg.Open o V) (h : (execOp b.eval o).run P w = .ok (.value x) w) (hf : (F j).holds x w (fun _ => False)) : Does1 P o V b w (Good F cons E V S j w) :=
  .of hg fun K hK => by unfold Oper.wp; rw [h]; exact hK x w ⟨_, Mod.refl _ _, hf, fun b hb => hb.elim, hE⟩
theorem step_not {i : Nat} {want : Bool} (hgd : o.guard = some (i, want)) (hV : V i = .bool (!want)) (hE : E j V undef) (hf : (F j).holds undef w (fun _ => False)) : Does1 P o V b w (Good F cons E V S j w) := by
  unfold Does1
  rw [hgd]
  exact .inr ⟨hV, _, Mod.refl _ _, hf, fun b hb => hb.elim, hE⟩
/-- New memory. -/
theorem step_new (v : Value) (w' : World) (T : Nat → Prop) (hE : E j V v) (hg : Rg.Open o V) (h : (execOp b.eval o).run P w = .ok (.value v) w') (hb : Below w.heap.size w w') (hf : (F j).holds v w' T) (ho : ∀ k, T k → w.heap.size ≤ k ∧ k < w'.heap.size) : Does1 P o V b w (Good F cons E V S j w) :=
  .of hg fun K hK => by
    unfold Oper.wp; rw [h]
    exact hK v w' ⟨T, Mod.of_below hb _, hf, fun k hk => ⟨.inr (ho k hk).1, (ho k hk).2⟩, hE⟩
/-- A call. -/
theorem step_call {f : FuncId} {xs : Array Operand} {ts : Array TypeId} (args : Array Value) (hent : ∀ args w, (callFunc f args).run P w = .ok (.enter f args) w) (hop : o.op = .call { callee := .value (.func f), args := xs, argTypes := ts }) (hargs : xs.map b.eval = args) (hE : ∀ v, E j V v) (hg : Rg.Open o V)
    (h : Calls P f args w fun e w' => ∃ v T, e = .returned v ∧ Mod w w' (Taken cons S j) ∧ (F j).holds v w' T ∧ ∀ k, T k → (Taken cons S j k ∨ w.heap.size ≤ k) ∧ k < w'.heap.size) : Does1 P o V b w (Good F cons E V S j w) :=
  .of hg fun K hK => by
    have he : (execOp b.eval o).run P w = .ok (.enter f args) w := by
      subst hargs
      have : execOp b.eval o = callFunc f (#[] ++ xs.map b.eval ++ #[]) := by
        obtain ⟨dst, op, ty, pos, after, guard⟩ := o
        simp only at hop
        subst hop
        rfl
      rw [this, hent]
      simp
    unfold Oper.wp; rw [he]
    refine h.mono ?_
    rintro e w' ⟨v, T, rfl, hb, hf, ho⟩
    exact hK v w' ⟨T, hb, hf, ho, hE v⟩
end
end Go.Proofs.Ytpblhdpnmnfieaa.Rc

/-
  OWN WORK. Rc, OpAsk, OpRoom, CpSaid, CpWr, BaRgStr, BaObj, OpWr
-/
import Derived.Test.YtmcbpgbiephllaaK01
import Derived.OwnWalk
import Derived.Lib.ConvBytes

namespace Go.Proofs.Ytmcbpgbiephllaa.Rc
open Go Go.RowKit Go.Proofs.Ytmcbpgbiephllaa.Rg

structure Mod (w w' : World) (X : Nat → Prop) : Prop where
  os : w'.os = w.os
  tape : w'.tape = w.tape
  output : w'.output = w.output
  size : w.heap.size ≤ w'.heap.size
  block : ∀ k, k < w.heap.size → ¬ X k → w'.heap[k]? = w.heap[k]?
theorem Mod.refl (w : World) (X : Nat → Prop) : Mod w w X := ⟨rfl, rfl, rfl, Nat.le_refl _, fun _ _ _ => rfl⟩
theorem Mod.trans {a b c : World} {X : Nat → Prop} (h : Mod a b X) (k : Mod b c X) : Mod a c X :=
  ⟨k.os.trans h.os, k.tape.trans h.tape, k.output.trans h.output, Nat.le_trans h.size k.size, fun i hi hn => (k.block i (Nat.lt_of_lt_of_le hi h.size) hn).trans (h.block i hi hn)⟩
theorem Mod.mono {a b : World} {X Y : Nat → Prop} (h : Mod a b X) (hXY : ∀ k, k < a.heap.size → X k → Y k) : Mod a b Y := ⟨h.os, h.tape, h.output, h.size, fun k hk hn => h.block k hk fun hx => hn (hXY k hk hx)⟩
theorem Mod.of_below {a b : World} (h : Below a.heap.size a b) (X : Nat → Prop) : Mod a b X := ⟨h.os, h.tape, h.output, h.size, fun k hk _ => h.block k hk⟩
theorem Mod.below {a b : World} {X : Nat → Prop} (h : Mod a b X) (hX : ∀ k, X k → a.heap.size ≤ k) : Below a.heap.size a b := ⟨h.os, h.tape, h.output, h.size, fun k hk => h.block k hk fun hx => Nat.not_lt.2 (hX k hx) hk⟩
theorem Mod.undrew {a b : World} {X : Nat → Prop} (h : Mod a.drew b X) : Mod a b X := ⟨h.os, h.tape, h.output, h.size, h.block⟩

structure Fact where
  holds : Value → World → (Nat → Prop) → Prop
  keep : ∀ v w w' S, holds v w S → w.heap.size ≤ w'.heap.size → (∀ b, S b → w'.heap[b]? = w.heap[b]?) → holds v w' S

def Live (cons : List (Nat × Nat)) (L : Nat → Prop) (i : Nat) : Prop := L i ∧ ∀ k, L k → (k, i) ∉ cons
structure Inv (F : Nat → Fact) (cons : List (Nat × Nat)) (E : Nat → (Nat → Value) → Value → Prop) (W0 : World) (X0 : Nat → Prop) (L : Nat → Prop) (V : Nat → Value) (S : Nat → Nat → Prop) (w : World) : Prop where
  mod : Mod W0 w X0
  holds : ∀ i, Live cons L i → (F i).holds (V i) w (S i)
  lt : ∀ i b, Live cons L i → S i b → b < w.heap.size ∧ (X0 b ∨ W0.heap.size ≤ b)
  sep : ∀ i j b, Live cons L i → Live cons L j → i ≠ j → S i b → ¬ S j b
  eqs : ∀ j, L j → E j V (V j)
def Taken (cons : List (Nat × Nat)) (S : Nat → Nat → Prop) (j : Nat) (b : Nat) : Prop := ∃ i, (j, i) ∈ cons ∧ S i b
def Good (F : Nat → Fact) (cons : List (Nat × Nat)) (E : Nat → (Nat → Value) → Value → Prop) (V : Nat → Value) (S : Nat → Nat → Prop) (j : Nat) (w : World) (v : Value) (w' : World) : Prop :=
  ∃ T : Nat → Prop, Mod w w' (Taken cons S j) ∧ (F j).holds v w' T ∧ (∀ b, T b → (Taken cons S j b ∨ w.heap.size ≤ b) ∧ b < w'.heap.size) ∧ E j V v

section
variable {P : Program} {ops : Array Oper} {Q : Exit → Act → World → Prop} {F : Nat → Fact} {cons : List (Nat × Nat)} {E : Nat → (Nat → Value) → Value → Prop}
theorem Inv.step {W0 : World} {X0 : Nat → Prop} {L : Nat → Prop} {V : Nat → Value} {S : Nat → Nat → Prop} {w w' : World} {j : Nat} {v : Value} (h : Inv F cons E W0 X0 L V S w) (hj : ¬ L j) (hc : ∀ i, (j, i) ∈ cons → Live cons L i) (hnc : ∀ k, L k → (k, j) ∉ cons) (hjj : (j, j) ∉ cons)
    (hse : ∀ k, L k → ∀ V', (∀ i, L i → V i = V' i) → E k V (V k) → E k V' (V k)) (hsj : ∀ V', (∀ i, L i → V i = V' i) → E j V v → E j V' v) (hg : Good F cons E V S j w v w') :
    ∃ T, Inv F cons E W0 X0 (fun k => k = j ∨ L k) (fun k => if k = j then v else V k) (fun k => if k = j then T else S k) w' := by
  obtain ⟨T, hg, hf, ho, heq⟩ := hg
  have live : ∀ k, k ≠ j → Live cons (fun k => k = j ∨ L k) k → Live cons L k ∧ (j, k) ∉ cons := fun k hk ⟨h1, h2⟩ => ⟨⟨h1.resolve_left hk, fun m hm => h2 m (.inr hm)⟩, h2 j (.inl rfl)⟩
  have far : ∀ k, k ≠ j → Live cons (fun k => k = j ∨ L k) k → ∀ b, S k b → b < w.heap.size ∧ ¬ Taken cons S j b := fun k hk hl b hb => by
    obtain ⟨h1, h2⟩ := live k hk hl
    refine ⟨(h.lt k b h1 hb).1, fun ⟨i, hi, hib⟩ => ?_⟩
    exact h.sep k i b h1 (hc i hi) (fun e => h2 (by rw [e]; exact hi)) hb hib
  have agree : ∀ i, L i → V i = (fun k => if k = j then v else V k) i := fun i hi => by
    have : i ≠ j := fun e => hj (e ▸ hi)
    simp [this]
  refine ⟨T, ?_, fun k hk => ?_, fun k b hk hb => ?_, fun i k b hi hk hne hib hkb => ?_, fun k hk => ?_⟩
  · refine ⟨hg.os.trans h.mod.os, hg.tape.trans h.mod.tape, hg.output.trans h.mod.output, Nat.le_trans h.mod.size hg.size, fun k hk hn => ?_⟩
    refine (hg.block k (Nat.lt_of_lt_of_le hk h.mod.size) fun ⟨i, hi, hib⟩ => ?_).trans (h.mod.block k hk hn)
    rcases (h.lt i k (hc i hi) hib).2 with h1 | h1
    · exact hn h1
    · omega
  · by_cases e : k = j
    · subst e; simp only [if_true]; exact hf
    · simp only [if_neg e]
      refine (F k).keep _ _ _ _ (h.holds k (live k e hk).1) hg.size fun b hb => ?_
      have := far k e hk b hb
      exact hg.block b this.1 this.2
  · by_cases e : k = j
    · subst e
      simp only [if_true] at hb
      obtain ⟨h1, h2⟩ := ho b hb
      refine ⟨h2, ?_⟩
      rcases h1 with ⟨i, hi, hib⟩ | h1
      · exact (h.lt i b (hc i hi) hib).2
      · exact .inr (Nat.le_trans h.mod.size h1)
    · simp only [if_neg e] at hb
      have := h.lt k b (live k e hk).1 hb
      exact ⟨Nat.lt_of_lt_of_le this.1 hg.size, this.2⟩
  · by_cases ei : i = j
    · subst ei
      simp only [if_true] at hib
      simp only [if_neg (Ne.symm hne)] at hkb
      obtain ⟨h1, h2⟩ := far k (Ne.symm hne) hk b hkb
      rcases (ho b hib).1 with h3 | h3
      · exact h2 h3
      · omega
    · simp only [if_neg ei] at hib
      by_cases ek : k = j
      · subst ek
        simp only [if_true] at hkb
        obtain ⟨h1, h2⟩ := far i ei hi b hib
        rcases (ho b hkb).1 with h3 | h3
        · exact h2 h3
        · omega
      · simp only [if_neg ek] at hkb
        exact h.sep i k b (live i ei hi).1 (live k ek hk).1 hne hib hkb
  · by_cases e : k = j
    · subst e
      simp only [if_true]
      exact hsj _ agree heq
    · simp only [if_neg e]
      have hk2 := hk.resolve_left e
      exact hse k hk2 _ agree (h.eqs k hk2)

def check (ops : Array Oper) (nv : Nat) (use : List (List (Nat × Nat))) (bef reads : List (List Nat)) (cons : List (Nat × Nat)) : Bool :=
  Rg.distinct ops && Region.noSelect ops &&
  (List.range ops.size).all (fun j => match ops[j]? with
    | none => false
    | some o =>
      (use.getD j []).all (fun i => (ops[i.1]?).bind (·.dst) == some i.2 && (bef.getD j []).contains i.1) &&
      (bef.getD j []).all (fun i => decide (i < j) && o.after.any (fun e => Region.binds .any e && (e.on == i || (bef.getD e.on []).contains i))) &&
      o.after.all (fun e => !Region.binds .any e || decide (e.on < j)) &&
      (o.looksAt ops).all (fun t => (List.range ops.size).all fun i => (nums use j).contains i || (match ops[i]? with | some x => x.dst != some t | none => true)) &&
      decide ((nums use j).Nodup) &&
      (reads.getD j []).all (fun i => ((bef.getD j []).contains i || (decide (ops.size ≤ i) && decide (i < ops.size + nv))) && cons.all (fun x => x.2 != i || x.1 == j || (bef.getD x.1 []).contains j)) &&
      (match o.guard with | some (g, _) => (nums use j).contains g | none => true)) &&
  cons.all (fun x => (reads.getD x.1 []).contains x.2 && decide (x.1 < ops.size))
structure Use (F : Nat → Fact) (V : Nat → Value) (S : Nat → Nat → Prop) (w : World) (l : List Nat) : Prop where
  holds : ∀ i, i ∈ l → (F i).holds (V i) w (S i)
  lt : ∀ i, i ∈ l → ∀ b, S i b → b < w.heap.size
  sep : ∀ i, i ∈ l → ∀ k, k ∈ l → i ≠ k → ∀ b, S i b → ¬ S k b

theorem run_all (nv : Nat) (use : List (List (Nat × Nat))) (bef reads : List (List Nat)) (hchk : Rc.check ops nv use bef reads cons = true) (hE : ∀ j V V' v, (∀ i ∈ nums use j, V i = V' i) → E j V v → E j V' v) (a0 : Act) (W0 : World) (X0 : Nat → Prop)
    (hE0 : ∀ j, ops.size ≤ j → ∀ V v, E j V v)
    (hstep : ∀ j o, ops[j]? = some o → ∀ V S w, Mod W0 w X0 → Use F V S w (reads.getD j []) → (∀ i ∈ nums use j, E i V (V i)) → Does P ops o (putUse V (use.getD j []) a0) w (Good F cons E V S j w))
    (hend : ∀ V S w a, Inv F cons E W0 X0 (fun i => i < ops.size + nv) V S w → Frm ops (fun i => i < ops.size) V a0 a → Q .normal a w) :
    ∀ (fuel : Nat) (listed : Array Bool) (V : Nat → Value) (S : Nat → Nat → Prop) (a : Act) (w : World), listed.size = ops.size → (listed.toList.filter (!·)).length ≤ fuel →
      (∀ k o, ops[k]? = some o → listed.getD k false = true → ∀ e ∈ o.after, Region.binds .any e = true → listed.getD e.on false = true) →
      Inv F cons E W0 X0 (fun i => listed.getD i false = true ∨ (ops.size ≤ i ∧ i < ops.size + nv)) V S w → Frm ops (fun i => listed.getD i false = true) V a0 a → wpAny P .any ops Q fuel listed a w := by
  simp only [Rc.check, Bool.and_eq_true] at hchk
  obtain ⟨⟨⟨hdis, hsel⟩, hops⟩, hcons⟩ := hchk
  have hO : ∀ j o, ops[j]? = some o → (∀ x ∈ use.getD j [], (ops[x.1]?).bind (·.dst) = some x.2 ∧ x.1 ∈ bef.getD j []) ∧ (∀ i ∈ bef.getD j [], i < j ∧ ∃ e ∈ o.after, Region.binds .any e = true ∧ (e.on = i ∨ i ∈ bef.getD e.on [])) ∧ (∀ e ∈ o.after, Region.binds .any e = true → e.on < j) ∧
      (∀ t ∈ o.looksAt ops, ∀ i x, ops[i]? = some x → x.dst = some t → i ∈ nums use j) ∧ (nums use j).Nodup ∧ (∀ i ∈ reads.getD j [], (i ∈ bef.getD j [] ∨ (ops.size ≤ i ∧ i < ops.size + nv)) ∧ ∀ x ∈ cons, x.2 = i → x.1 = j ∨ j ∈ bef.getD x.1 []) := by
    intro j o ho
    have h := List.all_eq_true.1 hops j (List.mem_range.2 (Array.getElem?_eq_some_iff.1 ho).1)
    simp only [ho, Bool.and_eq_true] at h
    obtain ⟨⟨⟨⟨⟨⟨h1, h2⟩, h3⟩, h4⟩, h5⟩, h6⟩, _⟩ := h
    refine ⟨fun x hx => ?_, fun i hi => ?_, fun e he hb => ?_, fun t ht i x hx hd => ?_, by simpa using h5, fun i hi => ?_⟩
    · have := List.all_eq_true.1 h1 x hx
      simp only [Bool.and_eq_true, beq_iff_eq] at this
      exact ⟨this.1, by simpa using this.2⟩
    · have := List.all_eq_true.1 h2 i hi
      simp only [Bool.and_eq_true, decide_eq_true_eq] at this
      obtain ⟨e, he, hb⟩ := Array.any_eq_true'.1 this.2
      simp only [Bool.and_eq_true, Bool.or_eq_true, beq_iff_eq] at hb
      exact ⟨this.1, e, he, hb.1, hb.2.imp id (fun h => by simpa using h)⟩
    · have := Array.all_eq_true_iff_forall_mem.1 h3 e he
      simpa [hb] using this
    · have := List.all_eq_true.1 (List.all_eq_true.1 h4 t ht) i (List.mem_range.2 (Array.getElem?_eq_some_iff.1 hx).1)
      simpa [hx, hd] using this
    · have := List.all_eq_true.1 h6 i hi
      simp only [Bool.and_eq_true, Bool.or_eq_true, decide_eq_true_eq] at this
      refine ⟨this.1.imp (fun h => by simpa using h) id, fun x hx e => ?_⟩
      have h7 := List.all_eq_true.1 this.2 x hx
      simpa [e] using h7
  have hC : ∀ j i, (j, i) ∈ cons → i ∈ reads.getD j [] ∧ j < ops.size := fun j i h => by
    have := List.all_eq_true.1 hcons _ h
    simpa using this
  intro fuel
  have all_of : ∀ listed : Array Bool, listed.size = ops.size → Region.ready .any ops listed = [] → ∀ k, k < ops.size → listed.getD k false = true := by
    intro listed hsz hr k
    induction k using Nat.strongRecOn with
    | _ k ih =>
      intro hk
      by_cases hl : listed.getD k false = true
      · exact hl
      · exfalso
        have : k ∈ Region.ready .any ops listed := mem_ready.2 ⟨by
          simp only [Array.getD_eq_getD_getElem?] at hl ⊢
          rw [Array.getElem?_eq_getElem (by omega)] at hl ⊢
          simpa using hl, _, Array.getElem?_eq_getElem hk, fun e he hb => ih e.on ((hO k _ (Array.getElem?_eq_getElem hk)).2.2.1 e he hb) (Nat.lt_trans ((hO k _ (Array.getElem?_eq_getElem hk)).2.2.1 e he hb) hk)⟩
        rw [hr] at this
        cases this
  have lis_lt : ∀ (listed : Array Bool), listed.size = ops.size → ∀ i, listed.getD i false = true → i < ops.size := fun listed hsz i h => by
    rcases Nat.lt_or_ge i ops.size with h1 | h1
    · exact h1
    · simp [Array.getD_eq_getD_getElem?, Array.getElem?_eq_none (show listed.size ≤ i by omega)] at h
  have fin : ∀ (listed : Array Bool) (V : Nat → Value) (S : Nat → Nat → Prop) (a : Act) (w : World), listed.size = ops.size → Region.ready .any ops listed = [] →
      Inv F cons E W0 X0 (fun i => listed.getD i false = true ∨ (ops.size ≤ i ∧ i < ops.size + nv)) V S w → Frm ops (fun i => listed.getD i false = true) V a0 a → Q .normal a w := by
    intro listed V S a w hsz hr hi hf
    have hall := all_of listed hsz hr
    have heq : ∀ i, (listed.getD i false = true) ↔ i < ops.size := fun i => ⟨lis_lt listed hsz i, hall i⟩
    refine hend V S w a ?_ (hf.congr heq fun _ _ => rfl)
    have : (fun i => listed.getD i false = true ∨ (ops.size ≤ i ∧ i < ops.size + nv)) = (fun i => i < ops.size + nv) := funext fun i => propext (by rw [heq]; omega)
    rwa [this] at hi
  /- what is listed has all that comes before it listed -/
  have befL : ∀ listed : Array Bool, (∀ k o, ops[k]? = some o → listed.getD k false = true → ∀ e ∈ o.after, Region.binds .any e = true → listed.getD e.on false = true) →
      ∀ j o, ops[j]? = some o → (∀ e ∈ o.after, Region.binds .any e = true → listed.getD e.on false = true) → ∀ i ∈ bef.getD j [], listed.getD i false = true := by
    intro listed hcl j
    induction j using Nat.strongRecOn with
    | _ j ih =>
      intro o ho haft i hi
      obtain ⟨_, e, he, hb, h⟩ := (hO j o ho).2.1 i hi
      have hel := haft e he hb
      rcases h with rfl | h
      · exact hel
      · have hlt := (hO j o ho).2.2.1 e he hb
        have hon : e.on < ops.size := Nat.lt_trans hlt (Array.getElem?_eq_some_iff.1 ho).1
        exact ih e.on hlt _ (Array.getElem?_eq_getElem hon) (hcl _ _ (Array.getElem?_eq_getElem hon) hel) i h
  induction fuel with
  | zero =>
    intro listed V S a w hsz hfu hcl hi hf
    have hr : Region.ready .any ops listed = [] := by
      apply List.eq_nil_iff_forall_not_mem.2
      intro j hj
      obtain ⟨h1, o, ho, _⟩ := mem_ready.1 hj
      have h2 := left_none listed.toList (by omega) j (by simp; rw [hsz]; exact (Array.getElem?_eq_some_iff.1 ho).1)
      simp only [Array.getElem?_toList] at h2
      simp [Array.getD_eq_getD_getElem?, h2] at h1
    exact ⟨hr, fin listed V S a w hsz hr hi hf⟩
  | succ fuel ih =>
    intro listed V S a w hsz hfu hcl hi hf
    refine ⟨fun hr => fin listed V S a w hsz hr hi hf, fun j hj => ?_⟩
    obtain ⟨hjf, o, ho, haft⟩ := mem_ready.1 hj
    have hjlt : j < ops.size := (Array.getElem?_eq_some_iff.1 ho).1
    have hjs : listed[j]? = some false := by
      simp only [Array.getD_eq_getD_getElem?, Array.getElem?_eq_getElem (show j < listed.size by omega), Option.getD_some] at hjf ⊢
      rw [hjf]
    have hjn : ¬ listed.getD j false = true := by simp [Array.getD_eq_getD_getElem?, hjs]
    obtain ⟨h0, h1, h2, h3, h4, h5⟩ := hO j o ho
    have hBL := befL listed hcl j o ho haft
    have hUL : ∀ i, i ∈ nums use j → listed.getD i false = true := fun i hi => by
      obtain ⟨x, hx, rfl⟩ := List.mem_map.1 hi
      exact hBL _ (h0 x hx).2
    have hjL : ¬ (listed.getD j false = true ∨ (ops.size ≤ j ∧ j < ops.size + nv)) := by
      rintro (h | h)
      · exact hjn h
      · omega
    have kL : ∀ k, (listed.getD k false = true ∨ (ops.size ≤ k ∧ k < ops.size + nv)) → k < ops.size → listed.getD k false = true := fun k hk hlt => hk.resolve_right (by omega)
    have jbef : ∀ k, k < ops.size → listed.getD k false = true → ¬ j ∈ bef.getD k [] := fun k hkl hk hb =>
      hjn (befL listed hcl k _ (Array.getElem?_eq_getElem hkl) (hcl k _ (Array.getElem?_eq_getElem hkl) hk) j hb)
    have hlive : ∀ i, i ∈ reads.getD j [] → Live cons (fun i => listed.getD i false = true ∨ (ops.size ≤ i ∧ i < ops.size + nv)) i := fun i hir => by
      obtain ⟨h6, h7⟩ := h5 i hir
      refine ⟨h6.imp (hBL i) id, fun k hk hck => ?_⟩
      have hkl := (hC k i hck).2
      rcases h7 _ hck rfl with h8 | h8
      · simp only at h8
        subst h8
        exact hjL hk
      · exact jbef k hkl (kL k hk hkl) h8
    have hd := hstep j o ho V S w hi.mod ⟨fun i hir => hi.holds i (hlive i hir), fun i hir b hb => (hi.lt i b (hlive i hir) hb).1, fun i hir k hkr hne b hib => hi.sep i k b (hlive i hir) (hlive k hkr) hne hib⟩ (fun i hiu => hi.eqs i (.inl (hUL i hiu)))
    have hb := Frm.putUse (V := V) (a0 := a0) hdis (use.getD j []) (fun x hx => (h0 x hx).1) h4
    refine Does.at_ ho (Region.noSelect_spec hsel j o · · ho) (hf.size.trans hb.size.symm) (fun t ht => hf.at_ hb t (fun i x hx hd => ?_)) hd (fun v w' hg => ?_)
    · exact ⟨fun _ => h3 t ht i x hx hd, fun h => hUL i h⟩
    · have hus : ∀ k, (listed.getD k false = true ∨ (ops.size ≤ k ∧ k < ops.size + nv)) → ∀ i ∈ nums use k, k < ops.size → listed.getD i false = true := fun k hk i hik hkl => by
        obtain ⟨x, hx, rfl⟩ := List.mem_map.1 hik
        exact befL listed hcl k _ (Array.getElem?_eq_getElem hkl) (hcl k _ (Array.getElem?_eq_getElem hkl) (kL k hk hkl)) _ ((hO k _ (Array.getElem?_eq_getElem hkl)).1 x hx).2
      obtain ⟨T, h6⟩ := hi.step (v := v) hjL (fun i hci => hlive i (hC j i hci).1) (fun k hk hck => by
          have hkl : k < ops.size := (hC k j hck).2
          have := (hO k _ (Array.getElem?_eq_getElem hkl)).2.2.2.2.2 j (hC k j hck).1
          rcases this.1 with h7 | h7
          · exact jbef k hkl (kL k hk hkl) h7
          · omega) (fun hcj => by
          have := (h5 j (hC j j hcj).1).1
          rcases this with h7 | h7
          · exact Nat.lt_irrefl j (h1 j h7).1
          · omega) (fun k hk V' hV h => by
          rcases Nat.lt_or_ge k ops.size with hkl | hkl
          · exact hE k V V' _ (fun i hik => hV i (.inl (hus k hk i hik hkl))) h
          · exact hE0 k hkl _ _) (fun V' hV => hE j V V' _ (fun i hij => hV i (.inl (hUL i hij)))) hg
      refine ih (listed.setIfInBounds j true) (fun k => if k = j then v else V k) (fun k => if k = j then T else S k) (a.put o.dst v) w' (by simpa using hsz) ?_ ?_ ?_ ?_
      · have := left_set listed.toList j (by simpa using hjs)
        rw [Array.toList_setIfInBounds]
        omega
      · intro k ok hok hk e he hb2
        rw [getD_set] at hk ⊢
        rcases hk with ⟨rfl, _⟩ | hk
        · obtain rfl : ok = o := by rw [ho] at hok; exact (Option.some.inj hok).symm
          exact .inr (haft e he hb2)
        · exact .inr (hcl k ok hok hk e he hb2)
      · have e : (fun i => (listed.setIfInBounds j true).getD i false = true ∨ (ops.size ≤ i ∧ i < ops.size + nv)) = (fun k => k = j ∨ (listed.getD k false = true ∨ (ops.size ≤ k ∧ k < ops.size + nv))) := funext fun k => propext (by
          rw [getD_set]; constructor
          · rintro ((⟨h, _⟩ | h) | h)
            · exact .inl h
            · exact .inr (.inl h)
            · exact .inr (.inr h)
          · rintro (h | h | h)
            · exact .inl (.inl ⟨h, by omega⟩)
            · exact .inl (.inr h)
            · exact .inr h)
        rw [e]; exact h6
      · refine (hf.step hdis j o ho hjn v).congr (fun k => ?_) (fun _ _ => rfl)
        rw [getD_set]; constructor
        · rintro (h | h)
          · exact .inl ⟨h, by omega⟩
          · exact .inr h
        · rintro (⟨h, _⟩ | h)
          · exact .inl h
          · exact .inr h

theorem wp_region {id : Nat} {a0 : Act} {w0 : World} (hm : P.follows .mixedOrders = true) (F : Nat → Fact) (nv : Nat) (al : List (Nat × Nat × (Value → Value))) (use : List (List (Nat × Nat))) (bef reads : List (List Nat)) (cons : List (Nat × Nat)) (hchk : Rc.check ops nv use bef reads cons = true)
    (hal : (al.all fun x => decide (x.1 < ops.size) && (nums use x.1).contains x.2.1) = true) (hsz : (ops.all fun o => (o.dst.map fun d => decide (d < a0.tmps.size)).getD true) = true)
    (X0 : Nat → Prop) (S0 : Nat → Nat → Prop) (h0 : Inv F cons (alias al) w0.drew X0 (fun i => ops.size ≤ i ∧ i < ops.size + nv) (fun _ => undef) S0 w0.drew)
    (hstep : ∀ a1, a1 = a0 → Rg.Steps (fun j o => ∀ V S w, Mod w0 w X0 → Use F V S w (reads.getD j []) → (∀ i ∈ nums use j, alias al i V (V i)) → Does1 P o V (putUse V (use.getD j []) a1) w (Good F cons (alias al) V S j w)) 0 ops.toList)
    (hend : ∀ V S w, Inv F cons (alias al) w0.drew X0 (fun i => i < ops.size + nv) V S w → Q .normal (putList ops.toList 0 V a0) w) : (Code.region id ops true).wp P Q a0 w0 := by
  refine wp_region_any hm ?_
  have hchk0 := hchk
  simp only [Rc.check, Bool.and_eq_true] at hchk
  obtain ⟨⟨⟨hdis, _⟩, hops⟩, _⟩ := hchk
  have hal2 : (al.all fun x => (nums use x.1).contains x.2.1) = true := List.all_eq_true.2 fun x hx => by
    have := List.all_eq_true.1 hal x hx
    simp only [Bool.and_eq_true] at this
    exact this.2
  have no : ∀ i, ¬ ((Array.replicate ops.size false).getD i false = true) := fun i h => by
    simp [Array.getD_eq_getD_getElem?, Array.getElem?_replicate] at h
    split at h <;> simp at h
  refine run_all (F := F) (cons := cons) nv use bef reads hchk0 (alias_dep hal2) a0 w0.drew X0 (fun j hj V v i f hm => ?_) (fun j o ho => ?_) (fun V S w a hi hf => ?_) _ _ (fun _ => undef) S0 _ _ (by simp) ?_ ?_ ?_ ?_
  · have := List.all_eq_true.1 hal _ hm
    simp only [Bool.and_eq_true, decide_eq_true_eq] at this
    omega
  · intro V S w hl hh he
    have h1 := (hstep a0 rfl).get j o (by simpa using ho) V S w hl.undrew (by simpa using hh) (by simpa using he)
    simp only [Nat.zero_add] at h1
    unfold Does1 at h1
    unfold Does
    cases hgd : o.guard with
    | none =>
      rw [hgd] at h1
      exact .inr ⟨by unfold Region.wanted; rw [hgd], h1⟩
    | some gw =>
      obtain ⟨g, want⟩ := gw
      rw [hgd] at h1
      simp only at h1
      have hy : ∀ x, V g = .bool x → yielded ops (putUse V (use.getD j []) a0).tmps g = some x := by
        intro x hx
        have h := List.all_eq_true.1 hops j (List.mem_range.2 (Array.getElem?_eq_some_iff.1 ho).1)
        simp only [ho, Bool.and_eq_true, hgd] at h
        obtain ⟨⟨⟨⟨⟨⟨h1, _⟩, _⟩, _⟩, h4⟩, _⟩, h6⟩ := h
        have h0 : ∀ x ∈ use.getD j [], (ops[x.1]?).bind (·.dst) = some x.2 := fun x hx => by
          have := List.all_eq_true.1 h1 x hx
          simp only [Bool.and_eq_true, beq_iff_eq] at this
          exact this.1
        have hb := Frm.putUse (V := V) (a0 := a0) hdis (use.getD j []) h0 (by simpa [nums] using h4)
        have h6 : g ∈ nums use j := by simpa using h6
        obtain ⟨y, hy, rfl⟩ := List.mem_map.1 h6
        obtain ⟨og, hog, hdg⟩ := Option.bind_eq_some_iff.1 (h0 y hy)
        have hlt := Array.all_eq_true_iff_forall_mem.1 hsz og (Array.mem_of_getElem? hog)
        simp only [hdg, Option.map_some, Option.getD_some, decide_eq_true_eq] at hlt
        have h7 := hb.put y.1 og y.2 hog hdg h6
        rw [if_pos hlt, hx] at h7
        unfold yielded
        rw [h0 y hy]
        simp only [Option.bind_some]
        rw [h7]
      rcases h1 with ⟨h1, h2⟩ | ⟨h1, h2⟩
      · exact .inr ⟨by unfold Region.wanted; rw [hgd]; simp only []; rw [hy _ h1]; exact beq_self_eq_true _, h2⟩
      · refine .inl ⟨?_, h2⟩
        unfold Region.wanted; rw [hgd]; simp only []; rw [hy _ h1]
        cases want <;> rfl
  · have h1 := Frm.putList (V := V) (a0 := a0) hdis ops.toList 0 a0 (fun k _ => by simp) ((Frm.refl ops V a0).congr (fun i => by simp) fun _ _ => rfl)
    have h2 : a = putList ops.toList 0 V a0 := hf.uniq (h1.congr (fun i => by simp) fun _ _ => rfl)
    rw [h2]; exact hend V S w hi
  · exact Nat.le_trans (List.length_filter_le _ _) (by simp)
  · intro k o _ hk
    exact absurd hk (no k)
  · have e : (fun i => (Array.replicate ops.size false).getD i false = true ∨ (ops.size ≤ i ∧ i < ops.size + nv)) = (fun i => ops.size ≤ i ∧ i < ops.size + nv) := funext fun i => propext ⟨fun h => h.resolve_left (no i), .inr⟩
    rw [e]; exact h0
  · exact (Frm.refl ops _ a0).congr (fun i => ⟨fun h => h.elim, fun h => absurd h (no i)⟩) fun _ _ => rfl
end

theorem Inv.get {F : Nat → Fact} {cons : List (Nat × Nat)} {E : Nat → (Nat → Value) → Value → Prop} {W0 : World} {X0 : Nat → Prop} {V : Nat → Value} {S : Nat → Nat → Prop} {w : World} {n : Nat} (h : Inv F cons E W0 X0 (fun i => i < n) V S w) (i : Nat) (hi : i < n) (hc : cons.all (fun x => x.2 != i) = true) : (F i).holds (V i) w (S i) :=
  h.holds i ⟨hi, fun k _ hk => by have := List.all_eq_true.1 hc _ hk; simp at this⟩
theorem Inv.same {F : Nat → Fact} {cons : List (Nat × Nat)} {al : List (Nat × Nat × (Value → Value))} {W0 : World} {X0 : Nat → Prop} {V : Nat → Value} {S : Nat → Nat → Prop} {w : World} {n : Nat} (h : Inv F cons (alias al) W0 X0 (fun i => i < n) V S w) (j i : Nat) (f : Value → Value) (hj : j < n) (hm : (j, i, f) ∈ al) : V j = f (V i) := h.eqs j hj i f hm
theorem Inv.none {F : Nat → Fact} {cons : List (Nat × Nat)} {E : Nat → (Nat → Value) → Value → Prop} {w : World} {n : Nat} : Inv F cons E w (fun _ => False) (fun i => n ≤ i ∧ i < n + 0) (fun _ => undef) (fun _ _ => False) w :=
  ⟨Mod.refl _ _, fun i h => by have := h.1; omega, fun i b h => by have := h.1; omega, fun i j b h => by have := h.1; omega, fun j h => by omega⟩

def val (x : Value) : Fact := ⟨fun v _ _ => v = x, fun _ _ _ _ h _ _ => h⟩
def any : Fact := ⟨fun _ _ _ => True, fun _ _ _ _ h _ _ => h⟩
section
variable {P : Program} {F : Nat → Fact} {cons : List (Nat × Nat)} {E : Nat → (Nat → Value) → Value → Prop} {V : Nat → Value} {S : Nat → Nat → Prop} {j : Nat} {o : Oper} {b : Act} {w : World}
theorem step_val (x : Value) (hE : E j V x) (hg : Rg.Open o V) (h : (execOp b.eval o).run P w = .ok (.value x) w) (hf : (F j).holds x w (fun _ => False)) : Does1 P o V b w (Good F cons E V S j w) :=
  .of hg fun K hK => by unfold Oper.wp; rw [h]; exact hK x w ⟨_, Mod.refl _ _, hf, fun b hb => hb.elim, hE⟩
theorem step_new (v : Value) (w' : World) (T : Nat → Prop) (hE : E j V v) (hg : Rg.Open o V) (h : (execOp b.eval o).run P w = .ok (.value v) w') (hb : Below w.heap.size w w') (hf : (F j).holds v w' T) (ho : ∀ k, T k → w.heap.size ≤ k ∧ k < w'.heap.size) : Does1 P o V b w (Good F cons E V S j w) :=
  .of hg fun K hK => by
    unfold Oper.wp; rw [h]
    exact hK v w' ⟨T, Mod.of_below hb _, hf, fun k hk => ⟨.inr (ho k hk).1, (ho k hk).2⟩, hE⟩
theorem step_call {f : FuncId} {xs : Array Operand} {ts : Array TypeId} (args : Array Value) (hent : ∀ args w, (callFunc f args).run P w = .ok (.enter f args) w) (hop : o.op = .call { callee := .value (.func f), args := xs, argTypes := ts }) (hargs : xs.map b.eval = args) (hE : ∀ v, E j V v) (hg : Rg.Open o V)
    (h : Calls P f args w fun e w' => ∃ v T, e = .returned v ∧ Mod w w' (Taken cons S j) ∧ (F j).holds v w' T ∧ ∀ k, T k → (Taken cons S j k ∨ w.heap.size ≤ k) ∧ k < w'.heap.size) : Does1 P o V b w (Good F cons E V S j w) :=
  .of hg fun K hK => by
    have he : (execOp b.eval o).run P w = .ok (.enter f args) w := by
      subst hargs
      have : execOp b.eval o = callFunc f (#[] ++ xs.map b.eval ++ #[]) := by
        obtain ⟨dst, op, ty, pos, after, guard⟩ := o
        simp only at hop
        subst hop
        rfl
      rw [this, hent]
      simp
    unfold Oper.wp; rw [he]
    refine h.mono ?_
    rintro e w' ⟨v, T, rfl, hb, hf, ho⟩
    exact hK v w' ⟨T, hb, hf, ho, hE v⟩
end
end Go.Proofs.Ytmcbpgbiephllaa.Rc

namespace Go.Proofs.Ytmcbpgbiephllaa
open Go.RowKit Rc
open St (Opn)
namespace Op
theorem set7_blk {w : World} {g : Nat} {t : TypeId} {a0 a1 a2 a3 a4 a5 a6 : Value} (h : Blk w g t [a0, a1, a2, a3, a4, a5, a6]) (x0 x1 x2 x3 x4 x5 x6 : Value) :
    Blk (((((((w.setCell ⟨g, 0, none⟩ x0).setCell ⟨g, 1, none⟩ x1).setCell ⟨g, 2, none⟩ x2).setCell ⟨g, 3, none⟩ x3).setCell ⟨g, 4, none⟩ x4).setCell ⟨g, 5, none⟩ x5).setCell ⟨g, 6, none⟩ x6) g t [x0, x1, x2, x3, x4, x5, x6] :=
  ((((((h.set_ 0 x0).set_ 1 x1).set_ 2 x2).set_ 3 x3).set_ 4 x4).set_ 5 x5).set_ 6 x6
theorem set7_below {w0 w : World} {B g : Nat} (h : Below B w0 w) (hg : B ≤ g) (x0 x1 x2 x3 x4 x5 x6 : Value) : Below B w0 (((((((w.setCell ⟨g, 0, none⟩ x0).setCell ⟨g, 1, none⟩ x1).setCell ⟨g, 2, none⟩ x2).setCell ⟨g, 3, none⟩ x3).setCell ⟨g, 4, none⟩ x4).setCell ⟨g, 5, none⟩ x5).setCell ⟨g, 6, none⟩ x6) :=
  below_set1 (below_set1 (below_set1 (below_set1 (below_set1 (below_set1 (below_set1 h hg 0 x0) hg 1 x1) hg 2 x2) hg 3 x3) hg 4 x4) hg 5 x5) hg 6 x6
def asL (k : Int) : List Value := if Kd k then [.bool (hasPath k), .bool (hasTo k), .bool (hasFd k), .bool (hasSpan k), .bool (hasTill k), .bool (hasSnap k), .bool (hasData k)] else [.bool false, .bool false, .bool false, .bool false, .bool false, .bool false, .bool false]
def asV (k : Int) : Value := .agg (asL k).toArray
theorem kd_cases {k : Int} (h : Kd k) : k = 1 ∨ k = 2 ∨ k = 3 ∨ k = 4 ∨ k = 5 ∨ k = 6 ∨ k = 7 ∨ k = 8 ∨ k = 9 ∨ k = 10 ∨ k = 11 ∨ k = 12 ∨ k = 13 ∨ k = 14 ∨ k = 15 ∨ k = 16 ∨ k = 17 := by
  obtain ⟨h1, h2⟩ := h
  omega
set_option maxHeartbeats 4000000 in
set_option maxRecDepth 100000 in
theorem asked_any (k : Int) (w : World) : Calls Try.prog 45 #[.int .i64 k] w fun e w' => e = .returned (.tuple #[asV k, .bool (decide (Kd k))]) ∧ Below w.heap.size w w' := by
  obtain ⟨W0, hW0⟩ : ∃ W0, W0 = w.alloc (.cells #[.bool false, .bool false, .bool false, .bool false, .bool false, .bool false, .bool false] 68) := ⟨_, rfl⟩
  obtain ⟨g, hg⟩ : ∃ g, g = w.heap.size := ⟨_, rfl⟩
  have HZ0 : Hid (Blk W0 g 68 [.bool false, .bool false, .bool false, .bool false, .bool false, .bool false, .bool false]) := by show Blk _ _ _ _; rw [hW0, hg]; exact Blk.new w _ _
  have HB0 : Hid (Below w.heap.size w W0) := by show Below _ _ _; rw [hW0]; exact below_new w _
  have HGG : Hid (w.heap.size ≤ g) := Nat.le_of_eq hg.symm
  go_enter Try.func45, Try.ntmps45
  go_upto_region 1 with (fail)
  rw [← hW0, ← hg]
  clear hW0 hg
  have g0 := HZ0.out.cell 0
  have e0 := HZ0.out.frozen 0
  have g1 := HZ0.out.cell 1
  have e1 := HZ0.out.frozen 1
  have g2 := HZ0.out.cell 2
  have e2 := HZ0.out.frozen 2
  have g3 := HZ0.out.cell 3
  have e3 := HZ0.out.frozen 3
  have g4 := HZ0.out.cell 4
  have e4 := HZ0.out.frozen 4
  have g5 := HZ0.out.cell 5
  have e5 := HZ0.out.frozen 5
  have g6 := HZ0.out.cell 6
  have e6 := HZ0.out.frozen 6
  by_cases hk : Kd k
  · rcases kd_cases hk with rfl | rfl | rfl | rfl | rfl | rfl | rfl | rfl | rfl | rfl | rfl | rfl | rfl | rfl | rfl | rfl | rfl
    all_goals
      clear hk
      go_wp2_with fail
      refine bodyPost_ret (results_blk_tmp rfl _ _ g 68 _ _ rfl (set7_blk HZ0.out _ _ _ _ _ _ _) rfl rfl rfl) rfl ⟨?_, ?_⟩
      · rfl
      · exact set7_below HB0.out HGG.out _ _ _ _ _ _ _
  · have HN : Hid (asV k = .agg #[.bool false, .bool false, .bool false, .bool false, .bool false, .bool false, .bool false] ∧ decide (Kd k) = false) := ⟨by unfold asV asL; rw [if_neg hk], decide_eq_false hk⟩
    have b1 : (k == 1) = false := by rw [beq_eq_false_iff_ne]; intro h; exact hk (by unfold Kd; omega)
    have b2 : (k == 2) = false := by rw [beq_eq_false_iff_ne]; intro h; exact hk (by unfold Kd; omega)
    have b3 : (k == 3) = false := by rw [beq_eq_false_iff_ne]; intro h; exact hk (by unfold Kd; omega)
    have b4 : (k == 4) = false := by rw [beq_eq_false_iff_ne]; intro h; exact hk (by unfold Kd; omega)
    have b5 : (k == 5) = false := by rw [beq_eq_false_iff_ne]; intro h; exact hk (by unfold Kd; omega)
    have b6 : (k == 6) = false := by rw [beq_eq_false_iff_ne]; intro h; exact hk (by unfold Kd; omega)
    have b7 : (k == 7) = false := by rw [beq_eq_false_iff_ne]; intro h; exact hk (by unfold Kd; omega)
    have b8 : (k == 8) = false := by rw [beq_eq_false_iff_ne]; intro h; exact hk (by unfold Kd; omega)
    have b9 : (k == 9) = false := by rw [beq_eq_false_iff_ne]; intro h; exact hk (by unfold Kd; omega)
    have b10 : (k == 10) = false := by rw [beq_eq_false_iff_ne]; intro h; exact hk (by unfold Kd; omega)
    have b11 : (k == 11) = false := by rw [beq_eq_false_iff_ne]; intro h; exact hk (by unfold Kd; omega)
    have b12 : (k == 12) = false := by rw [beq_eq_false_iff_ne]; intro h; exact hk (by unfold Kd; omega)
    have b13 : (k == 13) = false := by rw [beq_eq_false_iff_ne]; intro h; exact hk (by unfold Kd; omega)
    have b14 : (k == 14) = false := by rw [beq_eq_false_iff_ne]; intro h; exact hk (by unfold Kd; omega)
    have b15 : (k == 15) = false := by rw [beq_eq_false_iff_ne]; intro h; exact hk (by unfold Kd; omega)
    have b16 : (k == 16) = false := by rw [beq_eq_false_iff_ne]; intro h; exact hk (by unfold Kd; omega)
    have b17 : (k == 17) = false := by rw [beq_eq_false_iff_ne]; intro h; exact hk (by unfold Kd; omega)
    clear hk
    go_wp2_with fail
    refine bodyPost_ret (results_blk_tmp rfl _ _ g 68 _ _ rfl (set7_blk HZ0.out _ _ _ _ _ _ _) rfl rfl rfl) rfl ⟨?_, ?_⟩
    · rw [HN.out.1, HN.out.2]; rfl
    · exact set7_below HB0.out HGG.out _ _ _ _ _ _ _
theorem upTo_any (x m : Int) (w : World) : Calls Try.prog 74 #[.int .i64 x, .int .i64 m] w fun e w' => e = .returned (.bool (decide (0 ≤ x ∧ x ≤ m))) ∧ Below w.heap.size w w' := by
  obtain ⟨r, hr⟩ : ∃ r, r = decide (0 ≤ x ∧ x ≤ m) := ⟨_, rfl⟩
  rw [← hr]
  go_enter Try.func74, Try.ntmps74
  by_cases h1 : 0 ≤ x
  · by_cases h2 : x ≤ m
    · have HE : Hid (r = true) := by show _ = _; rw [hr]; simp [h1, h2]
      clear hr
      go_wp2_with fail
      go_ret
      exact ⟨by rw [HE.out]; rfl, Below.refl _ _⟩
    · have HE : Hid (r = false) := by show _ = _; rw [hr]; simp [h2]
      clear hr
      go_wp2_with fail
      go_ret
      exact ⟨by rw [HE.out]; rfl, Below.refl _ _⟩
  · have HE : Hid (r = false) := by show _ = _; rw [hr]; simp [h1]
    clear hr
    go_wp2_with fail
    go_ret
    exact ⟨by rw [HE.out]; rfl, Below.refl _ _⟩
end Op
end Go.Proofs.Ytmcbpgbiephllaa

namespace Go.Proofs.Ytmcbpgbiephllaa
open Go.RowKit Rc
open St (Opn)
namespace Op
def opV (o : Opn) (dv : Value) : Value := .agg #[.int .i64 o.kind, .string (strOf o.path), .string (strOf o.dest), .int .i64 o.fd, .int .i64 o.at_, .int .i64 o.n, .int .u64 (o.till : Nat), .int .i64 o.snap, dv]
variable {w : World}
set_option maxHeartbeats 4000000 in
set_option maxRecDepth 100000 in
theorem tooLong_any (a0 a1 a2 a3 a4 a5 a6 : Bool) (o : Opn) (A0 : Option Addr) (l0 c0 : Nat) (hl : l0 = o.data.length) (w : World) :
    Calls Try.prog 46 #[.agg #[.bool a0, .bool a1, .bool a2, .bool a3, .bool a4, .bool a5, .bool a6], opV o (.slice A0 l0 c0)] w fun e w' => e = .returned (.bool ((a0 && decide (200 < o.path.length)) || (a1 && decide (200 < o.dest.length)) || (a6 && decide (600 < o.data.length)))) ∧ Below w.heap.size w w' := by
  obtain ⟨kind, path, dest, fd, at_, n, till, snap, data⟩ := o
  dsimp only at hl ⊢
  have s1 : (strOf path).size = path.length := strOf_size path
  have s2 : (strOf dest).size = dest.length := strOf_size dest
  obtain ⟨q1, hq1⟩ : ∃ q, q = decide (200 < path.length) := ⟨_, rfl⟩
  obtain ⟨q2, hq2⟩ : ∃ q, q = decide (200 < dest.length) := ⟨_, rfl⟩
  obtain ⟨q3, hq3⟩ : ∃ q, q = decide (600 < data.length) := ⟨_, rfl⟩
  rw [← hq1, ← hq2, ← hq3]
  rw [← hl] at hq3
  obtain ⟨r, hr⟩ : ∃ r, r = (a0 && q1 || a1 && q2 || a6 && q3) := ⟨_, rfl⟩
  rw [← hr]
  have d1 : decide ((200 : Int) < (path.length : Int)) = q1 := by rw [hq1]; exact decide_eq_decide.2 (by omega)
  have d2 : decide ((200 : Int) < (dest.length : Int)) = q2 := by rw [hq2]; exact decide_eq_decide.2 (by omega)
  have d3 : decide ((600 : Int) < (l0 : Int)) = q3 := by rw [hq3]; exact decide_eq_decide.2 (by omega)
  clear hq1 hq2 hq3 hl
  obtain ⟨WA, hWA⟩ : ∃ WA, WA = w.alloc (.cells #[.bool a0, .bool a1, .bool a2, .bool a3, .bool a4, .bool a5, .bool a6] 68) := ⟨_, rfl⟩
  obtain ⟨W0, hW0⟩ : ∃ W0, W0 = WA.alloc (.cells #[.int .i64 kind, .string (strOf path), .string (strOf dest), .int .i64 fd, .int .i64 at_, .int .i64 n, .int .u64 (till : Nat), .int .i64 snap, .slice A0 l0 c0] 25) := ⟨_, rfl⟩
  obtain ⟨g, hg⟩ : ∃ g, g = w.heap.size := ⟨_, rfl⟩
  have hA : Blk WA g 68 [.bool a0, .bool a1, .bool a2, .bool a3, .bool a4, .bool a5, .bool a6] := by rw [hWA, hg]; exact Blk.new w _ _
  have HA : Hid (Blk W0 g 68 [.bool a0, .bool a1, .bool a2, .bool a3, .bool a4, .bool a5, .bool a6]) := by show Blk _ _ _ _; rw [hW0]; exact hA.alloc _
  have HO : Hid (Blk W0 (g + 1) 25 [.int .i64 kind, .string (strOf path), .string (strOf dest), .int .i64 fd, .int .i64 at_, .int .i64 n, .int .u64 (till : Nat), .int .i64 snap, .slice A0 l0 c0]) := by
    show Blk _ _ _ _
    rw [hW0, show g + 1 = WA.heap.size by rw [hWA, World.size_alloc, hg]]
    exact Blk.new WA _ _
  have HB : Hid (Below w.heap.size w W0) := by show Below _ _ _; rw [hW0, hWA]; exact (below_new w _).trans ((below_new _ _).mono (by rw [World.size_alloc]; omega))
  clear hA
  go_enter Try.func46, Try.ntmps46
  go_upto_region 1 with (fail)
  unfold opV
  dsimp only
  rw [← hWA, ← hW0, ← hg]
  clear hWA hW0 hg
  have g0 := HA.out.cell 0
  have g1 := HA.out.cell 1
  have g2 := HA.out.cell 2
  have g3 := HA.out.cell 3
  have g4 := HA.out.cell 4
  have g5 := HA.out.cell 5
  have g6 := HA.out.cell 6
  have o0 := HO.out.cell 0
  have o1 := HO.out.cell 1
  have o2 := HO.out.cell 2
  have o3 := HO.out.cell 3
  have o4 := HO.out.cell 4
  have o5 := HO.out.cell 5
  have o6 := HO.out.cell 6
  have o7 := HO.out.cell 7
  have o8 := HO.out.cell 8
  cases a0 <;> cases a1 <;> cases a6 <;> cases q1 <;> cases q2 <;> cases q3
  all_goals
    have HR := Lib.hid hr
    clear hr
    go_wp2_with fail
    go_ret
    exact ⟨by rw [HR.out]; rfl, HB.out⟩
set_option maxHeartbeats 4000000 in
set_option maxRecDepth 100000 in
theorem inShorts_any (a0 a1 a2 a3 a4 a5 a6 : Bool) (o : Opn) (A0 : Option Addr) (l0 c0 : Nat) (w : World) :
    Calls Try.prog 47 #[.agg #[.bool a0, .bool a1, .bool a2, .bool a3, .bool a4, .bool a5, .bool a6], opV o (.slice A0 l0 c0)] w fun e w' => e = .returned (.bool ((!a2 || decide (sh o.fd)) && (!a5 || decide (sh o.snap)) && (!a3 || (decide (sh o.at_) && decide (sh o.n))))) ∧ Below w.heap.size w w' := by
  obtain ⟨kind, path, dest, fd, at_, n, till, snap, data⟩ := o
  dsimp only
  have U : ∀ (x : Int) (q : Bool), q = decide (sh x) → Hid (∀ W, Calls Try.prog 74 #[.int .i64 x, .int .i64 65535] W fun e w' => e = .returned (.bool q) ∧ Below W.heap.size W w') := fun x q hq W => by subst hq; exact upTo_any x 65535 W
  obtain ⟨q1, hq1⟩ : ∃ q, q = decide (sh fd) := ⟨_, rfl⟩
  obtain ⟨q2, hq2⟩ : ∃ q, q = decide (sh snap) := ⟨_, rfl⟩
  obtain ⟨q3, hq3⟩ : ∃ q, q = decide (sh at_) := ⟨_, rfl⟩
  obtain ⟨q4, hq4⟩ : ∃ q, q = decide (sh n) := ⟨_, rfl⟩
  rw [← hq1, ← hq2, ← hq3, ← hq4]
  obtain ⟨r, hr⟩ : ∃ r, r = ((!a2 || q1) && (!a5 || q2) && (!a3 || (q3 && q4))) := ⟨_, rfl⟩
  rw [← hr]
  have U1 := U _ _ hq1
  have U2 := U _ _ hq2
  have U3 := U _ _ hq3
  have U4 := U _ _ hq4
  clear hq1 hq2 hq3 hq4 U
  obtain ⟨WA, hWA⟩ : ∃ WA, WA = w.alloc (.cells #[.bool a0, .bool a1, .bool a2, .bool a3, .bool a4, .bool a5, .bool a6] 68) := ⟨_, rfl⟩
  obtain ⟨W0, hW0⟩ : ∃ W0, W0 = WA.alloc (.cells #[.int .i64 kind, .string (strOf path), .string (strOf dest), .int .i64 fd, .int .i64 at_, .int .i64 n, .int .u64 (till : Nat), .int .i64 snap, .slice A0 l0 c0] 25) := ⟨_, rfl⟩
  obtain ⟨g, hg⟩ : ∃ g, g = w.heap.size := ⟨_, rfl⟩
  have hA : Blk WA g 68 [.bool a0, .bool a1, .bool a2, .bool a3, .bool a4, .bool a5, .bool a6] := by rw [hWA, hg]; exact Blk.new w _ _
  have HA : Hid (Blk W0 g 68 [.bool a0, .bool a1, .bool a2, .bool a3, .bool a4, .bool a5, .bool a6]) := by show Blk _ _ _ _; rw [hW0]; exact hA.alloc _
  have HO : Hid (Blk W0 (g + 1) 25 [.int .i64 kind, .string (strOf path), .string (strOf dest), .int .i64 fd, .int .i64 at_, .int .i64 n, .int .u64 (till : Nat), .int .i64 snap, .slice A0 l0 c0]) := by
    show Blk _ _ _ _
    rw [hW0, show g + 1 = WA.heap.size by rw [hWA, World.size_alloc, hg]]
    exact Blk.new WA _ _
  have HB : Hid (Below w.heap.size w W0) := by show Below _ _ _; rw [hW0, hWA]; exact (below_new w _).trans ((below_new _ _).mono (by rw [World.size_alloc]; omega))
  clear hA
  go_enter Try.func47, Try.ntmps47
  go_upto_region 1 with (fail)
  unfold opV
  dsimp only
  rw [← hWA, ← hW0, ← hg]
  clear hWA hW0 hg
  have g0 := HA.out.cell 0
  have g1 := HA.out.cell 1
  have g2 := HA.out.cell 2
  have g3 := HA.out.cell 3
  have g4 := HA.out.cell 4
  have g5 := HA.out.cell 5
  have g6 := HA.out.cell 6
  have o0 := HO.out.cell 0
  have o1 := HO.out.cell 1
  have o2 := HO.out.cell 2
  have o3 := HO.out.cell 3
  have o4 := HO.out.cell 4
  have o5 := HO.out.cell 5
  have o6 := HO.out.cell 6
  have o7 := HO.out.cell 7
  have o8 := HO.out.cell 8
  clear o0 o1 o2 o6 o8 g0 g1 g4 g6
  cases a2
  · cases a5
    · cases a3
      · have HR := Lib.hid hr
        clear hr
        go_wp2_with fail
        go_ret
        exact ⟨by rw [HR.out]; rfl, HB.out⟩
      · go_wp2_with fail
        refine (U3.out _).mono ?_
        rintro e w1 ⟨rfl, hb⟩
        have HA1 : Hid (Blk w1 g 68 _) := HA.out.below hb HA.out.lt
        have HO1 : Hid (Blk w1 (g + 1) 25 _) := HO.out.below hb HO.out.lt
        have HB1 : Hid (Below w.heap.size w w1) := HB.out.trans (hb.mono HB.out.size)
        clear hb g2 g3 g5 o3 o4 o5 o7
        have g2 := HA1.out.cell 2
        have g3 := HA1.out.cell 3
        have g5 := HA1.out.cell 5
        have o3 := HO1.out.cell 3
        have o4 := HO1.out.cell 4
        have o5 := HO1.out.cell 5
        have o7 := HO1.out.cell 7
        cases q3
        · have HR := Lib.hid hr
          clear hr
          go_wp2_with fail
          go_ret
          exact ⟨by rw [HR.out]; rfl, HB1.out⟩
        · go_wp2_with fail
          refine (U4.out _).mono ?_
          rintro e w2 ⟨rfl, hb⟩
          have HA2 : Hid (Blk w2 g 68 _) := HA1.out.below hb HA1.out.lt
          have HO2 : Hid (Blk w2 (g + 1) 25 _) := HO1.out.below hb HO1.out.lt
          have HB2 : Hid (Below w.heap.size w w2) := HB1.out.trans (hb.mono HB1.out.size)
          clear hb g2 g3 g5 o3 o4 o5 o7
          have g2 := HA2.out.cell 2
          have g3 := HA2.out.cell 3
          have g5 := HA2.out.cell 5
          have o3 := HO2.out.cell 3
          have o4 := HO2.out.cell 4
          have o5 := HO2.out.cell 5
          have o7 := HO2.out.cell 7
          cases q4
          · have HR := Lib.hid hr
            clear hr
            go_wp2_with fail
            go_ret
            exact ⟨by rw [HR.out]; rfl, HB2.out⟩
          · have HR := Lib.hid hr
            clear hr
            go_wp2_with fail
            go_ret
            exact ⟨by rw [HR.out]; rfl, HB2.out⟩
    · go_wp2_with fail
      refine (U2.out _).mono ?_
      rintro e w1 ⟨rfl, hb⟩
      have HA1 : Hid (Blk w1 g 68 _) := HA.out.below hb HA.out.lt
      have HO1 : Hid (Blk w1 (g + 1) 25 _) := HO.out.below hb HO.out.lt
      have HB1 : Hid (Below w.heap.size w w1) := HB.out.trans (hb.mono HB.out.size)
      clear hb g2 g3 g5 o3 o4 o5 o7
      have g2 := HA1.out.cell 2
      have g3 := HA1.out.cell 3
      have g5 := HA1.out.cell 5
      have o3 := HO1.out.cell 3
      have o4 := HO1.out.cell 4
      have o5 := HO1.out.cell 5
      have o7 := HO1.out.cell 7
      cases q2
      · have HR := Lib.hid hr
        clear hr
        go_wp2_with fail
        go_ret
        exact ⟨by rw [HR.out]; rfl, HB1.out⟩
      · cases a3
        · have HR := Lib.hid hr
          clear hr
          go_wp2_with fail
          go_ret
          exact ⟨by rw [HR.out]; rfl, HB1.out⟩
        · go_wp2_with fail
          refine (U3.out _).mono ?_
          rintro e w2 ⟨rfl, hb⟩
          have HA2 : Hid (Blk w2 g 68 _) := HA1.out.below hb HA1.out.lt
          have HO2 : Hid (Blk w2 (g + 1) 25 _) := HO1.out.below hb HO1.out.lt
          have HB2 : Hid (Below w.heap.size w w2) := HB1.out.trans (hb.mono HB1.out.size)
          clear hb g2 g3 g5 o3 o4 o5 o7
          have g2 := HA2.out.cell 2
          have g3 := HA2.out.cell 3
          have g5 := HA2.out.cell 5
          have o3 := HO2.out.cell 3
          have o4 := HO2.out.cell 4
          have o5 := HO2.out.cell 5
          have o7 := HO2.out.cell 7
          cases q3
          · have HR := Lib.hid hr
            clear hr
            go_wp2_with fail
            go_ret
            exact ⟨by rw [HR.out]; rfl, HB2.out⟩
          · go_wp2_with fail
            refine (U4.out _).mono ?_
            rintro e w3 ⟨rfl, hb⟩
            have HA3 : Hid (Blk w3 g 68 _) := HA2.out.below hb HA2.out.lt
            have HO3 : Hid (Blk w3 (g + 1) 25 _) := HO2.out.below hb HO2.out.lt
            have HB3 : Hid (Below w.heap.size w w3) := HB2.out.trans (hb.mono HB2.out.size)
            clear hb g2 g3 g5 o3 o4 o5 o7
            have g2 := HA3.out.cell 2
            have g3 := HA3.out.cell 3
            have g5 := HA3.out.cell 5
            have o3 := HO3.out.cell 3
            have o4 := HO3.out.cell 4
            have o5 := HO3.out.cell 5
            have o7 := HO3.out.cell 7
            cases q4
            · have HR := Lib.hid hr
              clear hr
              go_wp2_with fail
              go_ret
              exact ⟨by rw [HR.out]; rfl, HB3.out⟩
            · have HR := Lib.hid hr
              clear hr
              go_wp2_with fail
              go_ret
              exact ⟨by rw [HR.out]; rfl, HB3.out⟩
  · go_wp2_with fail
    refine (U1.out _).mono ?_
    rintro e w1 ⟨rfl, hb⟩
    have HA1 : Hid (Blk w1 g 68 _) := HA.out.below hb HA.out.lt
    have HO1 : Hid (Blk w1 (g + 1) 25 _) := HO.out.below hb HO.out.lt
    have HB1 : Hid (Below w.heap.size w w1) := HB.out.trans (hb.mono HB.out.size)
    clear hb g2 g3 g5 o3 o4 o5 o7
    have g2 := HA1.out.cell 2
    have g3 := HA1.out.cell 3
    have g5 := HA1.out.cell 5
    have o3 := HO1.out.cell 3
    have o4 := HO1.out.cell 4
    have o5 := HO1.out.cell 5
    have o7 := HO1.out.cell 7
    cases q1
    · have HR := Lib.hid hr
      clear hr
      go_wp2_with fail
      go_ret
      exact ⟨by rw [HR.out]; rfl, HB1.out⟩
    · cases a5
      · cases a3
        · have HR := Lib.hid hr
          clear hr
          go_wp2_with fail
          go_ret
          exact ⟨by rw [HR.out]; rfl, HB1.out⟩
        · go_wp2_with fail
          refine (U3.out _).mono ?_
          rintro e w2 ⟨rfl, hb⟩
          have HA2 : Hid (Blk w2 g 68 _) := HA1.out.below hb HA1.out.lt
          have HO2 : Hid (Blk w2 (g + 1) 25 _) := HO1.out.below hb HO1.out.lt
          have HB2 : Hid (Below w.heap.size w w2) := HB1.out.trans (hb.mono HB1.out.size)
          clear hb g2 g3 g5 o3 o4 o5 o7
          have g2 := HA2.out.cell 2
          have g3 := HA2.out.cell 3
          have g5 := HA2.out.cell 5
          have o3 := HO2.out.cell 3
          have o4 := HO2.out.cell 4
          have o5 := HO2.out.cell 5
          have o7 := HO2.out.cell 7
          cases q3
          · have HR := Lib.hid hr
            clear hr
            go_wp2_with fail
            go_ret
            exact ⟨by rw [HR.out]; rfl, HB2.out⟩
          · go_wp2_with fail
            refine (U4.out _).mono ?_
            rintro e w3 ⟨rfl, hb⟩
            have HA3 : Hid (Blk w3 g 68 _) := HA2.out.below hb HA2.out.lt
            have HO3 : Hid (Blk w3 (g + 1) 25 _) := HO2.out.below hb HO2.out.lt
            have HB3 : Hid (Below w.heap.size w w3) := HB2.out.trans (hb.mono HB2.out.size)
            clear hb g2 g3 g5 o3 o4 o5 o7
            have g2 := HA3.out.cell 2
            have g3 := HA3.out.cell 3
            have g5 := HA3.out.cell 5
            have o3 := HO3.out.cell 3
            have o4 := HO3.out.cell 4
            have o5 := HO3.out.cell 5
            have o7 := HO3.out.cell 7
            cases q4
            · have HR := Lib.hid hr
              clear hr
              go_wp2_with fail
              go_ret
              exact ⟨by rw [HR.out]; rfl, HB3.out⟩
            · have HR := Lib.hid hr
              clear hr
              go_wp2_with fail
              go_ret
              exact ⟨by rw [HR.out]; rfl, HB3.out⟩
      · go_wp2_with fail
        refine (U2.out _).mono ?_
        rintro e w2 ⟨rfl, hb⟩
        have HA2 : Hid (Blk w2 g 68 _) := HA1.out.below hb HA1.out.lt
        have HO2 : Hid (Blk w2 (g + 1) 25 _) := HO1.out.below hb HO1.out.lt
        have HB2 : Hid (Below w.heap.size w w2) := HB1.out.trans (hb.mono HB1.out.size)
        clear hb g2 g3 g5 o3 o4 o5 o7
        have g2 := HA2.out.cell 2
        have g3 := HA2.out.cell 3
        have g5 := HA2.out.cell 5
        have o3 := HO2.out.cell 3
        have o4 := HO2.out.cell 4
        have o5 := HO2.out.cell 5
        have o7 := HO2.out.cell 7
        cases q2
        · have HR := Lib.hid hr
          clear hr
          go_wp2_with fail
          go_ret
          exact ⟨by rw [HR.out]; rfl, HB2.out⟩
        · cases a3
          · have HR := Lib.hid hr
            clear hr
            go_wp2_with fail
            go_ret
            exact ⟨by rw [HR.out]; rfl, HB2.out⟩
          · go_wp2_with fail
            refine (U3.out _).mono ?_
            rintro e w3 ⟨rfl, hb⟩
            have HA3 : Hid (Blk w3 g 68 _) := HA2.out.below hb HA2.out.lt
            have HO3 : Hid (Blk w3 (g + 1) 25 _) := HO2.out.below hb HO2.out.lt
            have HB3 : Hid (Below w.heap.size w w3) := HB2.out.trans (hb.mono HB2.out.size)
            clear hb g2 g3 g5 o3 o4 o5 o7
            have g2 := HA3.out.cell 2
            have g3 := HA3.out.cell 3
            have g5 := HA3.out.cell 5
            have o3 := HO3.out.cell 3
            have o4 := HO3.out.cell 4
            have o5 := HO3.out.cell 5
            have o7 := HO3.out.cell 7
            cases q3
            · have HR := Lib.hid hr
              clear hr
              go_wp2_with fail
              go_ret
              exact ⟨by rw [HR.out]; rfl, HB3.out⟩
            · go_wp2_with fail
              refine (U4.out _).mono ?_
              rintro e w4 ⟨rfl, hb⟩
              have HA4 : Hid (Blk w4 g 68 _) := HA3.out.below hb HA3.out.lt
              have HO4 : Hid (Blk w4 (g + 1) 25 _) := HO3.out.below hb HO3.out.lt
              have HB4 : Hid (Below w.heap.size w w4) := HB3.out.trans (hb.mono HB3.out.size)
              clear hb g2 g3 g5 o3 o4 o5 o7
              have g2 := HA4.out.cell 2
              have g3 := HA4.out.cell 3
              have g5 := HA4.out.cell 5
              have o3 := HO4.out.cell 3
              have o4 := HO4.out.cell 4
              have o5 := HO4.out.cell 5
              have o7 := HO4.out.cell 7
              cases q4
              · have HR := Lib.hid hr
                clear hr
                go_wp2_with fail
                go_ret
                exact ⟨by rw [HR.out]; rfl, HB4.out⟩
              · have HR := Lib.hid hr
                clear hr
                go_wp2_with fail
                go_ret
                exact ⟨by rw [HR.out]; rfl, HB4.out⟩
end Op
end Go.Proofs.Ytmcbpgbiephllaa

namespace Go.Proofs.Ytmcbpgbiephllaa
open Go.RowKit Rc

theorem Rd.mod {w w' : World} {A : Option Addr} {l : List UInt8} {S : Nat → Prop} (h : Rd w A l) (hm : Mod w w' S) (hA : 0 < l.length → ∀ b, A.map (·.block) = some b → ¬ S b) : Rd w' A l := by
  intro hl
  exact h.keep (fun p hp hb => by unfold World.cell?; rw [hm.block p.block hp (hA hl _ hb)]) hm.size hl
def WOut (At : Value → List UInt8 → (Nat → Prop) → World → Prop) (v : Value) (l : List UInt8) (S : Nat → Prop) (w : World) (e : Ending) (w' : World) : Prop :=
  (∃ x, e = .returned x) ∧ ∃ S', At v l S' w' ∧ Mod w w' S ∧ ∀ b, S' b → S b ∨ w.heap.size ≤ b
structure WSaid where
  At : Value → List UInt8 → (Nat → Prop) → World → Prop
  keep : ∀ {v l S w w'}, At v l S w → w.heap.size ≤ w'.heap.size → (∀ b, S b → w'.heap[b]? = w.heap[b]?) → At v l S w'
  lt : ∀ {v l S w}, At v l S w → ∀ b, S b → b < w.heap.size
  ptr : ∀ {v l S w}, At v l S w → ∃ a, v = .pointer (some a)
  new : ∀ w, Calls Try.prog 48 #[] w fun e w' => ∃ v S, e = .returned v ∧ At v [] S w' ∧ Below w.heap.size w w' ∧ ∀ b, S b → w.heap.size ≤ b
  byte : ∀ {v l S w}, At v l S w → l.length ≤ 1099511500000 → ∀ n : Nat, n ≤ 9223372036854775807 → Calls Try.prog 49 #[v, .int .i64 (n : Nat)] w (WOut At v (l ++ Co.wByte n) S w)
  short : ∀ {v l S w}, At v l S w → l.length ≤ 1099511500000 → ∀ n : Nat, n ≤ 9223372036854775807 → Calls Try.prog 57 #[v, .int .i64 (n : Nat)] w (WOut At v (l ++ Co.wShort n) S w)
  long : ∀ {v l S w}, At v l S w → l.length ≤ 1099511500000 → ∀ n : Nat, n ≤ 18446744073709551615 → Calls Try.prog 76 #[v, .int .u64 (n : Nat)] w (WOut At v (l ++ Co.wLong n) S w)
  flag : ∀ {v l S w}, At v l S w → l.length ≤ 1099511500000 → ∀ f : Bool, Calls Try.prog 59 #[v, .bool f] w (WOut At v (l ++ Co.wFlag f) S w)
  bytes : ∀ {v l S w}, At v l S w → l.length ≤ 1099511500000 → ∀ A x c, Rd w A x → x.length ≤ c → x.length ≤ 1000000 → (0 < x.length → ∀ b, A.map (·.block) = some b → ¬ S b) → Calls Try.prog 58 #[v, .slice A x.length c] w (WOut At v (l ++ Co.wBytes x) S w)
  raw : ∀ {v l S w}, At v l S w → ∀ A x c, Rd w A x → x.length ≤ c → l.length + x.length ≤ 1099511600000 → (0 < x.length → ∀ b, A.map (·.block) = some b → ¬ S b) → Calls Try.prog 81 #[v, .slice A x.length c] w (WOut At v (l ++ x) S w)
  done : ∀ {v l S w}, At v l S w → Calls Try.prog 51 #[v] w fun e w' => ∃ x, e = .returned x ∧ w'.ownsRow 0 5 1 x l.length (Lib.byteCells l) ∧ Below w.heap.size w w' ∧ ∀ b, x.ownBlock = some b → S b ∨ w.heap.size ≤ b
end Go.Proofs.Ytmcbpgbiephllaa

namespace Go.Proofs.Ytmcbpgbiephllaa
open Go.RowKit Rc

def WAt (C : WSaid) (v : Value) (w0 : World) (l : List UInt8) (w : World) : Prop := ∃ S, C.At v l S w ∧ Below w0.heap.size w0 w ∧ ∀ b, S b → w0.heap.size ≤ b
section
variable {C : WSaid} {v : Value} {w0 w : World} {l : List UInt8}
theorem WAt.more {w' : World} (h : WAt C v w0 l w) (hb : Below w.heap.size w w') : WAt C v w0 l w' := by
  obtain ⟨S, hat, hb0, hS⟩ := h
  exact ⟨S, C.keep hat hb.size (fun b hB => hb.block b (C.lt hat b hB)), hb0.trans (hb.mono hb0.size), hS⟩
theorem WAt.done (h : WAt C v w0 l w) : Calls Try.prog 51 #[v] w fun e w' => ∃ X c, e = .returned (.slice X l.length c) ∧ l.length ≤ c ∧ Hid (w'.ownsRow 0 5 1 (.slice X l.length c) l.length (Lib.byteCells l)) ∧ Hid (∀ b, (Value.slice X l.length c).ownBlock = some b → w0.heap.size ≤ b) ∧ Hid (Below w.heap.size w w') ∧ Hid (WAt C v w0 l w') := by
  have h' := h
  obtain ⟨S, hat, hb, hS⟩ := h
  refine (C.done hat).mono ?_
  rintro e w' ⟨x, rfl, hown, hb2, ho⟩
  obtain ⟨X, c, rfl, hc, hr⟩ := own_form hown
  exact ⟨X, c, rfl, hc, hown, fun b hb3 => (ho b hb3).elim (hS b) (fun h => Nat.le_trans hb.size h), hb2, h'.more hb2⟩
end
end Go.Proofs.Ytmcbpgbiephllaa

namespace Go.Proofs.Ytmcbpgbiephllaa
open Go.RowKit

section
variable {F : Nat → Rg.Fact} {cons : List (Nat × Nat)} {al : List (Nat × Nat × (Value → Value))} {W0 : World} {V : Nat → Value} {j : Nat} {o : Oper} {b : Act} {w : World}
end
end Go.Proofs.Ytmcbpgbiephllaa

namespace Go.Proofs.Ytmcbpgbiephllaa
open Go.RowKit Rc
namespace Ob

structure Obj (σ : Type) where
  At : Value → σ → (Nat → Prop) → World → Prop
  keep : ∀ {v s S w w'}, At v s S w → w.heap.size ≤ w'.heap.size → (∀ b, S b → w'.heap[b]? = w.heap[b]?) → At v s S w'
  lt : ∀ {v s S w}, At v s S w → ∀ b, S b → b < w.heap.size
  ptr : ∀ {v s S w}, At v s S w → ∃ a, v = .pointer (some a)
def Kept (W : World) (X : Nat → Prop) (A : Option Addr) (l : List UInt8) : Prop := Rd W A l ∧ (0 < l.length → ∀ b, A.map (·.block) = some b → ¬ X b)
structure One {σ : Type} (O : Obj σ) (v : Value) (w0 W0 : World) (X0 : Nat → Prop) (s : σ) (B : Nat → Prop) (w : World) : Prop where
  at_ : O.At v s B w
  mod : Mod W0 w X0
  sub : ∀ b, B b → X0 b ∨ W0.heap.size ≤ b
  low : Below w0.heap.size w0 w
  up : ∀ b, B b → w0.heap.size ≤ b
def Own {σ : Type} (O : Obj σ) (v : Value) (w0 W0 : World) (X0 : Nat → Prop) (s : σ) (w : World) : Prop := ∃ B, One O v w0 W0 X0 s B w
section
variable {σ : Type} {O : Obj σ} {v : Value} {w0 W0 : World} {X0 B : Nat → Prop} {s s' : σ} {w w' : World}
theorem mod_more {X : Nat → Prop} (h : Mod W0 w X0) (hm : Mod w w' X) (hX : ∀ b, X b → X0 b ∨ W0.heap.size ≤ b) : Mod W0 w' X0 :=
  ⟨hm.os.trans h.os, hm.tape.trans h.tape, hm.output.trans h.output, Nat.le_trans h.size hm.size, fun k hk hn => (hm.block k (Nat.lt_of_lt_of_le hk h.size) fun hx => by
    rcases hX k hx with h1 | h1
    · exact hn h1
    · omega).trans (h.block k hk hn)⟩
theorem low_more {X : Nat → Prop} (h : Below w0.heap.size w0 w) (hm : Mod w w' X) (hX : ∀ b, X b → w0.heap.size ≤ b) : Below w0.heap.size w0 w' := ((Mod.of_below h X).trans hm).below hX
theorem One.turn {S' : Nat → Prop} (h : One O v w0 W0 X0 s B w) (ha : O.At v s' S' w') (hm : Mod w w' B) (hs : ∀ b, S' b → B b ∨ w.heap.size ≤ b) : One O v w0 W0 X0 s' S' w' :=
  ⟨ha, mod_more h.mod hm h.sub, fun b hB => (hs b hB).elim (h.sub b) (fun h1 => .inr (Nat.le_trans h.mod.size h1)), low_more h.low hm h.up, fun b hB => (hs b hB).elim (h.up b) (fun h1 => Nat.le_trans h.low.size h1)⟩
theorem Kept.more {A : Option Addr} {l : List UInt8} (k : Kept w B A l) (hb : Below w.heap.size w w') : Kept w' B A l := ⟨k.1.below hb, k.2⟩
theorem One.own (h : One O v w0 W0 X0 s B w) : Own O v w0 W0 X0 s w := ⟨B, h⟩
end

def Ups (B : Nat → Prop) (w0 : World) : Nat → Prop := fun b => B b ∨ w0.heap.size ≤ b
def turned {σ : Type} (O : Obj σ) (v : Value) (P : Nat → Prop) (x : Value) (s : σ) : Rc.Fact :=
  ⟨fun y w S => y = x ∧ ∃ S1, O.At v s S1 w ∧ (∀ b, S1 b → S b) ∧ ∀ b, S1 b → P b,
   fun y w w' S h hs hb => by
    obtain ⟨h1, S1, h2, h3, h4⟩ := h
    exact ⟨h1, S1, O.keep h2 hs (fun b h => hb b (h3 b h)), h3, h4⟩⟩
section
variable {σ : Type} {F : Nat → Rc.Fact} {cons : List (Nat × Nat)} {E : Nat → (Nat → Value) → Value → Prop} {V : Nat → Value} {S : Nat → Nat → Prop} {j : Nat} {o : Oper} {b : Act} {w w0 : World} {B : Nat → Prop}
theorem step_tell (x : Value) {fn : FuncId} {xs : Array Operand} {ts : Array TypeId} (args : Array Value) (hent : ∀ args w, (callFunc fn args).run Try.prog w = .ok (.enter fn args) w)
    (hop : o.op = .call { callee := .value (.func fn), args := xs, argTypes := ts }) (hargs : xs.map b.eval = args) (hF : F j = Rc.val x) (hE : ∀ v, E j V v) (hg : Rg.Open o V) (hcall : Calls Try.prog fn args w fun e w' => e = .returned x ∧ Below w.heap.size w w') : Rg.Does1 Try.prog o V b w (Rc.Good F cons E V S j w) := by
  refine Rc.step_call args hent hop hargs hE hg (hcall.mono ?_)
  rintro e w' ⟨rfl, hb⟩
  exact ⟨x, fun _ => False, rfl, Mod.of_below hb _, by rw [hF]; rfl, fun _ h => h.elim⟩
theorem rc_mv (x : Value) {al : List (Nat × Nat × (Value → Value))} (h : (execOp b.eval o).run Try.prog w = .ok (.value x) w) (hF : F j = Rc.val x) (ha : (al.all fun x => x.1 != j) = true) (hg : Rg.Open o V) : Rg.Does1 Try.prog o V b w (Rc.Good F cons (Rg.alias al) V S j w) :=
  Rc.step_val x (Rg.alias_none ha V _) hg h (by rw [hF]; rfl)
theorem rc_str (l : List UInt8) {al : List (Nat × Nat × (Value → Value))} {x : Operand} {A : Option Addr} {m c : Nat} (hop : o.op = .convert 23 9 x) (hx : b.eval x = .slice A m c) (hm : l.length = m) (hr : Rd w A l) (hF : F j = Rc.val (.string (strOf l))) (ha : (al.all fun x => x.1 != j) = true) (hg : Rg.Open o V) :
    Rg.Does1 Try.prog o V b w (Rc.Good F cons (Rg.alias al) V S j w) := by
  subst hm
  refine rc_mv (.string (strOf l)) ?_ hF ha hg
  have := str_any w A l c hr
  obtain ⟨dst, op, ty, pos, after, guard⟩ := o
  simp only at hop
  subst hop
  simp only [execOp, hx]
  go_simp
end
theorem one_inv {σ : Type} (O : Obj σ) {v : Value} {s : σ} {B : Nat → Prop} {w : World} (h : O.At v s B w) (F : Nat → Rc.Fact) (cons : List (Nat × Nat)) (n : Nat) (hF : F n = turned O v (Ups B w) undef s) :
    Rc.Inv F cons (Rg.alias []) w.drew B (fun i => n ≤ i ∧ i < n + 1) (fun _ => undef) (fun _ b => B b) w.drew := by
  refine ⟨Mod.refl _ _, fun i hi => ?_, fun i b hi hb => ⟨O.lt h b hb, .inl hb⟩, fun i k b hi hk hne _ => ?_, fun j _ => fun i f hm => by simp at hm⟩
  · obtain rfl : i = n := by have := hi.1; omega
    rw [hF]; exact ⟨rfl, B, O.keep h (Nat.le_refl _) (fun _ _ => rfl), fun _ h => h, fun _ h => .inl h⟩
  · have := hi.1; have := hk.1; omega
theorem One.after {σ : Type} {O : Obj σ} {v : Value} {w0 W0 : World} {X0 : Nat → Prop} {s s' : σ} {B : Nat → Prop} {w w2 : World} (h : One O v w0 W0 X0 s B w) (hm : Mod w w2 B) {S : Nat → Prop} (hu : ∃ S1, O.At v s' S1 w2 ∧ (∀ b, S1 b → S b) ∧ ∀ b, S1 b → Ups B w b) : Own O v w0 W0 X0 s' w2 := by
  obtain ⟨S1, hat, _, hup⟩ := hu
  exact ⟨S1, h.turn hat hm hup⟩
end Ob
end Go.Proofs.Ytmcbpgbiephllaa

namespace Go.Proofs.Ytmcbpgbiephllaa
open Go.RowKit Rc
namespace Op
theorem conv_in (x : List UInt8) (w : World) : ∃ (c : Nat) (w' : World), (convert 9 23 (.string (strOf x))).run Try.prog w = .ok (.slice (some ⟨w.heap.size, 0, none⟩) x.length c) w' ∧ x.length ≤ c ∧ Rd w' (some ⟨w.heap.size, 0, none⟩) x ∧ Below w.heap.size w w' := by
  have h := Lib.run_convert_string_bytes w 9 23 5 (strOf x) Try.underlying9 Try.underlying23 Try.underlying5
  have hz : (strOf x).size = x.length := rfl
  rw [hz] at h
  refine ⟨_, _, h, by rw [← hz]; exact grownCap_ge _ _ _ _, fun hl => ⟨w.heap.size, 0, rfl, by rw [Lib.bytesWorld_size]; omega, fun j y hj => ?_⟩, ?_⟩
  · obtain ⟨hj1, rfl⟩ := List.getElem?_eq_some_iff.1 hj
    rw [Nat.zero_add, Lib.bytesWorld_cell w _ (strOf x) j hj1]
    simp [strOf, List.getD, hj]
  · exact ⟨rfl, rfl, rfl, by rw [Lib.bytesWorld_size]; omega, fun b hb => Lib.bytesWorld_at_old w _ _ b hb⟩
def WIn (C : WSaid) (v : Value) (l : List UInt8) (S0 : Nat → Prop) (W0 w : World) : Prop := ∃ S, C.At v l S w ∧ Mod W0 w S0 ∧ ∀ b, S b → S0 b ∨ W0.heap.size ≤ b
def WInR (C : WSaid) (v : Value) (l : List UInt8) (S0 : Nat → Prop) (W0 : World) (e : Ending) (w : World) : Prop := (∃ x, e = .returned x) ∧ Hid (WIn C v l S0 W0 w)
variable {C : WSaid} {v : Value} {l : List UInt8} {S0 : Nat → Prop} {W0 w : World}
theorem WIn.start {S : Nat → Prop} (h : C.At v l S w) : WIn C v l S w w := ⟨S, h, Mod.refl _ _, fun _ h => .inl h⟩
theorem WIn.eq {l' : List UInt8} (h : WIn C v l S0 W0 w) (e : l = l') : WIn C v l' S0 W0 w := e ▸ h
theorem WIn.mod (h : WIn C v l S0 W0 w) : Mod W0 w S0 := by obtain ⟨_, _, h, _⟩ := h; exact h
theorem WIn.block (h : WIn C v l S0 W0 w) (b : Nat) (hb : b < W0.heap.size) (hn : ¬ S0 b) : w.heap[b]? = W0.heap[b]? := h.mod.block b hb hn
theorem WIn.out {S : Nat → Prop} {l' : List UInt8} {e : Ending} {w' : World} (h2 : Mod W0 w S0) (h3 : ∀ b, S b → S0 b ∨ W0.heap.size ≤ b) (h : WOut C.At v l' S w e w') : WInR C v l' S0 W0 e w' := by
  obtain ⟨he, S', k1, k2, k3⟩ := h
  exact ⟨he, S', k1, Ob.mod_more h2 k2 h3, fun b hb => (k3 b hb).elim (h3 b) (fun h => .inr (Nat.le_trans h2.size h))⟩
theorem WIn.byte (h : WIn C v l S0 W0 w) (hl : l.length ≤ 1099511500000) (n : Nat) (hn : n ≤ 9223372036854775807) : Calls Try.prog 49 #[v, .int .i64 (n : Nat)] w (WInR C v (l ++ Co.wByte n) S0 W0) := by
  obtain ⟨S, h1, h2, h3⟩ := h
  exact (C.byte h1 hl n hn).mono fun e w' h => WIn.out h2 h3 h
theorem WIn.short (h : WIn C v l S0 W0 w) (hl : l.length ≤ 1099511500000) (n : Nat) (hn : n ≤ 9223372036854775807) : Calls Try.prog 57 #[v, .int .i64 (n : Nat)] w (WInR C v (l ++ Co.wShort n) S0 W0) := by
  obtain ⟨S, h1, h2, h3⟩ := h
  exact (C.short h1 hl n hn).mono fun e w' h => WIn.out h2 h3 h
theorem WIn.long (h : WIn C v l S0 W0 w) (hl : l.length ≤ 1099511500000) (n : Nat) (hn : n ≤ 18446744073709551615) : Calls Try.prog 76 #[v, .int .u64 (n : Nat)] w (WInR C v (l ++ Co.wLong n) S0 W0) := by
  obtain ⟨S, h1, h2, h3⟩ := h
  exact (C.long h1 hl n hn).mono fun e w' h => WIn.out h2 h3 h
theorem WIn.bytesD (h : WIn C v l S0 W0 w) (hl : l.length ≤ 1099511500000) (A : Option Addr) (x : List UInt8) (c : Nat) (hr : Rd W0 A x) (hA : 0 < x.length → ∀ b, A.map (·.block) = some b → ¬ S0 b) (hc : x.length ≤ c) (hx : x.length ≤ 1000000) : Calls Try.prog 58 #[v, .slice A x.length c] w (WInR C v (l ++ Co.wBytes x) S0 W0) := by
  obtain ⟨S, h1, h2, h3⟩ := h
  refine (C.bytes h1 hl A x c (hr.mod h2 hA) hc hx fun h0 b hb hB => ?_).mono fun e w' h => WIn.out h2 h3 h
  rcases h3 b hB with h4 | h4
  · exact hA h0 b hb h4
  · obtain ⟨b', off, rfl, hlt, _⟩ := hr h0
    simp at hb
    omega
theorem WIn.bytesN {w2 : World} (h : WIn C v l S0 W0 w) (hl : l.length ≤ 1099511500000) (hb2 : Below w.heap.size w w2) (A : Option Addr) (x : List UInt8) (c : Nat) (hr : Rd w2 A x) (hA : ∀ b, A.map (·.block) = some b → w.heap.size ≤ b) (hc : x.length ≤ c) (hx : x.length ≤ 1000000) : Calls Try.prog 58 #[v, .slice A x.length c] w2 (WInR C v (l ++ Co.wBytes x) S0 W0) := by
  obtain ⟨S, h1, h2, h3⟩ := h
  refine (C.bytes (C.keep h1 hb2.size (fun b hB => hb2.block b (C.lt h1 b hB))) hl A x c hr hc hx fun h0 b hb hB => ?_).mono fun e w' h => WIn.out (Ob.mod_more h2 (Mod.of_below hb2 (fun _ => False)) (fun _ h => h.elim)) h3 h
  have := hA b hb
  have := C.lt h1 b hB
  omega
end Op
end Go.Proofs.Ytmcbpgbiephllaa

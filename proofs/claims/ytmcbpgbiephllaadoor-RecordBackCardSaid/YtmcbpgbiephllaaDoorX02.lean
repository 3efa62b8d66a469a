/-
  OWN WORK. Rc, BaObj, BaText, BaStrs, BaIn64, NoPure, PaPure, TrPure, TrLaw, BaBig, CpClone, TrRow, TrMem, TrEnt, TrGood, PtGood, PtNames, TrWay, TrAt, NoRight, CpSaid, CpRd, CpOne, CpMake, NoDec, CpRefW, CpRefR, CpRefN, CpRefT, CpRefS, NoRefDec, CpWr, NoEnc, CpRefI, NoRefEnc, NoAs
-/
import Derived.Test.YtmcbpgbiephllaaDoorX01
import Derived.WalkSpells
import Derived.Lib.SliceRun
import Derived.Lib.AppendZerosOnto
import Derived.Lib.Overlaps
import Derived.Laws.Externs
import Derived.Deep.RegionWith
import Derived.BigRegion

namespace Go.Proofs.YtmcbpgbiephllaaDoor.Rc
open Go Go.RowKit Go.Proofs.YtmcbpgbiephllaaDoor.Rg

structure Mod (w w' : World) (X : Nat → Prop) : Prop where
  os : w'.os = w.os
  tape : w'.tape = w.tape
  output : w'.output = w.output
  size : w.heap.size ≤ w'.heap.size
  block : ∀ k, k < w.heap.size → ¬ X k → w'.heap[k]? = w.heap[k]?
theorem Mod.refl (w : World) (X : Nat → Prop) : Mod w w X := ⟨rfl, rfl, rfl, Nat.le_refl _, fun _ _ _ => rfl⟩
theorem Mod.trans {a b c : World} {X : Nat → Prop} (h : Mod a b X) (k : Mod b c X) : Mod a c X :=
  ⟨k.os.trans h.os, k.tape.trans h.tape, k.output.trans h.output, Nat.le_trans h.size k.size, fun i hi hn => (k.block i (Nat.lt_of_lt_of_le hi h.size) hn).trans (h.block i hi hn)⟩
theorem Mod.mono {a b : World} {X Y : Nat → Prop} (h : Mod a b X) (hXY : ∀ k, k < a.heap.size → X k → Y k) : Mod a b Y := ⟨h.os, h.tape, h.output, h.size, fun k hk hn => h.block k hk fun hx => hn (hXY k hk hx)⟩
theorem Mod.of_below {a b : World} (h : Below a.heap.size a b) (X : Nat → Prop) : Mod a b X := ⟨h.os, h.tape, h.output, h.size, fun k hk _ => h.block k hk⟩
theorem Mod.below {a b : World} {X : Nat → Prop} (h : Mod a b X) (hX : ∀ k, X k → a.heap.size ≤ k) : Below a.heap.size a b := ⟨h.os, h.tape, h.output, h.size, fun k hk => h.block k hk fun hx => Nat.not_lt.2 (hX k hx) hk⟩
theorem Mod.drew {a b : World} {X : Nat → Prop} (h : Mod a b X) : Mod a b.drew X := ⟨h.os, h.tape, h.output, h.size, h.block⟩
theorem Mod.undrew {a b : World} {X : Nat → Prop} (h : Mod a.drew b X) : Mod a b X := ⟨h.os, h.tape, h.output, h.size, h.block⟩

structure Fact where
  holds : Value → World → (Nat → Prop) → Prop
  keep : ∀ v w w' S, holds v w S → w.heap.size ≤ w'.heap.size → (∀ b, S b → w'.heap[b]? = w.heap[b]?) → holds v w' S

def Live (cons : List (Nat × Nat)) (L : Nat → Prop) (i : Nat) : Prop := L i ∧ ∀ k, L k → (k, i) ∉ cons
structure Inv (F : Nat → Fact) (cons : List (Nat × Nat)) (E : Nat → (Nat → Value) → Value → Prop) (W0 : World) (X0 : Nat → Prop) (L : Nat → Prop) (V : Nat → Value) (S : Nat → Nat → Prop) (w : World) : Prop where
  mod : Mod W0 w X0
  holds : ∀ i, Live cons L i → (F i).holds (V i) w (S i)
  lt : ∀ i b, Live cons L i → S i b → b < w.heap.size ∧ (X0 b ∨ W0.heap.size ≤ b)
  sep : ∀ i j b, Live cons L i → Live cons L j → i ≠ j → S i b → ¬ S j b
  eqs : ∀ j, L j → E j V (V j)
def Taken (cons : List (Nat × Nat)) (S : Nat → Nat → Prop) (j : Nat) (b : Nat) : Prop := ∃ i, (j, i) ∈ cons ∧ S i b
def Good (F : Nat → Fact) (cons : List (Nat × Nat)) (E : Nat → (Nat → Value) → Value → Prop) (V : Nat → Value) (S : Nat → Nat → Prop) (j : Nat) (w : World) (v : Value) (w' : World) : Prop :=
  ∃ T : Nat → Prop, Mod w w' (Taken cons S j) ∧ (F j).holds v w' T ∧ (∀ b, T b → (Taken cons S j b ∨ w.heap.size ≤ b) ∧ b < w'.heap.size) ∧ E j V v

section
variable {P : Program} {ops : Array Oper} {Q : Exit → Act → World → Prop} {F : Nat → Fact} {cons : List (Nat × Nat)} {E : Nat → (Nat → Value) → Value → Prop}
theorem Inv.step {W0 : World} {X0 : Nat → Prop} {L : Nat → Prop} {V : Nat → Value} {S : Nat → Nat → Prop} {w w' : World} {j : Nat} {v : Value} (h : Inv F cons E W0 X0 L V S w) (hj : ¬ L j) (hc : ∀ i, (j, i) ∈ cons → Live cons L i) (hnc : ∀ k, L k → (k, j) ∉ cons) (hjj : (j, j) ∉ cons)
    (hse : ∀ k, L k → ∀ V', (∀ i, L i → V i = V' i) → E k V (V k) → E k V' (V k)) (hsj : ∀ V', (∀ i, L i → V i = V' i) → E j V v → E j V' v) (hg : Good F cons E V S j w v w') :
    ∃ T, Inv F cons E W0 X0 (fun k => k = j ∨ L k) (fun k => if k = j then v else V k) (fun k => if k = j then T else S k) w' := by
  obtain ⟨T, hg, hf, ho, heq⟩ := hg
  have live : ∀ k, k ≠ j → Live cons (fun k => k = j ∨ L k) k → Live cons L k ∧ (j, k) ∉ cons := fun k hk ⟨h1, h2⟩ => ⟨⟨h1.resolve_left hk, fun m hm => h2 m (.inr hm)⟩, h2 j (.inl rfl)⟩
  have far : ∀ k, k ≠ j → Live cons (fun k => k = j ∨ L k) k → ∀ b, S k b → b < w.heap.size ∧ ¬ Taken cons S j b := fun k hk hl b hb => by
    obtain ⟨h1, h2⟩ := live k hk hl
    refine ⟨(h.lt k b h1 hb).1, fun ⟨i, hi, hib⟩ => ?_⟩
    exact h.sep k i b h1 (hc i hi) (fun e => h2 (by rw [e]; exact hi)) hb hib
  have agree : ∀ i, L i → V i = (fun k => if k = j then v else V k) i := fun i hi => by
    have : i ≠ j := fun e => hj (e ▸ hi)
    simp [this]
  refine ⟨T, ?_, fun k hk => ?_, fun k b hk hb => ?_, fun i k b hi hk hne hib hkb => ?_, fun k hk => ?_⟩
  · refine ⟨hg.os.trans h.mod.os, hg.tape.trans h.mod.tape, hg.output.trans h.mod.output, Nat.le_trans h.mod.size hg.size, fun k hk hn => ?_⟩
    refine (hg.block k (Nat.lt_of_lt_of_le hk h.mod.size) fun ⟨i, hi, hib⟩ => ?_).trans (h.mod.block k hk hn)
    rcases (h.lt i k (hc i hi) hib).2 with h1 | h1
    · exact hn h1
    · omega
  · by_cases e : k = j
    · subst e; simp only [if_true]; exact hf
    · simp only [if_neg e]
      refine (F k).keep _ _ _ _ (h.holds k (live k e hk).1) hg.size fun b hb => ?_
      have := far k e hk b hb
      exact hg.block b this.1 this.2
  · by_cases e : k = j
    · subst e
      simp only [if_true] at hb
      obtain ⟨h1, h2⟩ := ho b hb
      refine ⟨h2, ?_⟩
      rcases h1 with ⟨i, hi, hib⟩ | h1
      · exact (h.lt i b (hc i hi) hib).2
      · exact .inr (Nat.le_trans h.mod.size h1)
    · simp only [if_neg e] at hb
      have := h.lt k b (live k e hk).1 hb
      exact ⟨Nat.lt_of_lt_of_le this.1 hg.size, this.2⟩
  · by_cases ei : i = j
    · subst ei
      simp only [if_true] at hib
      simp only [if_neg (Ne.symm hne)] at hkb
      obtain ⟨h1, h2⟩ := far k (Ne.symm hne) hk b hkb
      rcases (ho b hib).1 with h3 | h3
      · exact h2 h3
      · omega
    · simp only [if_neg ei] at hib
      by_cases ek : k = j
      · subst ek
        simp only [if_true] at hkb
        obtain ⟨h1, h2⟩ := far i ei hi b hib
        rcases (ho b hkb).1 with h3 | h3
        · exact h2 h3
        · omega
      · simp only [if_neg ek] at hkb
        exact h.sep i k b (live i ei hi).1 (live k ek hk).1 hne hib hkb
  · by_cases e : k = j
    · subst e
      simp only [if_true]
      exact hsj _ agree heq
    · simp only [if_neg e]
      have hk2 := hk.resolve_left e
      exact hse k hk2 _ agree (h.eqs k hk2)

def check (ops : Array Oper) (nv : Nat) (use : List (List (Nat × Nat))) (bef reads : List (List Nat)) (cons : List (Nat × Nat)) : Bool :=
  Rg.distinct ops && Region.noSelect ops &&
  (List.range ops.size).all (fun j => match ops[j]? with
    | none => false
    | some o =>
      (use.getD j []).all (fun i => (ops[i.1]?).bind (·.dst) == some i.2 && (bef.getD j []).contains i.1) &&
      (bef.getD j []).all (fun i => decide (i < j) && o.after.any (fun e => Region.binds .any e && (e.on == i || (bef.getD e.on []).contains i))) &&
      o.after.all (fun e => !Region.binds .any e || decide (e.on < j)) &&
      (o.looksAt ops).all (fun t => (List.range ops.size).all fun i => (nums use j).contains i || (match ops[i]? with | some x => x.dst != some t | none => true)) &&
      decide ((nums use j).Nodup) &&
      (reads.getD j []).all (fun i => ((bef.getD j []).contains i || (decide (ops.size ≤ i) && decide (i < ops.size + nv))) && cons.all (fun x => x.2 != i || x.1 == j || (bef.getD x.1 []).contains j)) &&
      (match o.guard with | some (g, _) => (nums use j).contains g | none => true)) &&
  cons.all (fun x => (reads.getD x.1 []).contains x.2 && decide (x.1 < ops.size))
structure Use (F : Nat → Fact) (V : Nat → Value) (S : Nat → Nat → Prop) (w : World) (l : List Nat) : Prop where
  holds : ∀ i, i ∈ l → (F i).holds (V i) w (S i)
  lt : ∀ i, i ∈ l → ∀ b, S i b → b < w.heap.size
  sep : ∀ i, i ∈ l → ∀ k, k ∈ l → i ≠ k → ∀ b, S i b → ¬ S k b

theorem run_all (nv : Nat) (use : List (List (Nat × Nat))) (bef reads : List (List Nat)) (hchk : Rc.check ops nv use bef reads cons = true) (hE : ∀ j V V' v, (∀ i ∈ nums use j, V i = V' i) → E j V v → E j V' v) (a0 : Act) (W0 : World) (X0 : Nat → Prop)
    (hE0 : ∀ j, ops.size ≤ j → ∀ V v, E j V v)
    (hstep : ∀ j o, ops[j]? = some o → ∀ V S w, Mod W0 w X0 → Use F V S w (reads.getD j []) → (∀ i ∈ nums use j, E i V (V i)) → Does P ops o (putUse V (use.getD j []) a0) w (Good F cons E V S j w))
    (hend : ∀ V S w a, Inv F cons E W0 X0 (fun i => i < ops.size + nv) V S w → Frm ops (fun i => i < ops.size) V a0 a → Q .normal a w) :
    ∀ (fuel : Nat) (listed : Array Bool) (V : Nat → Value) (S : Nat → Nat → Prop) (a : Act) (w : World), listed.size = ops.size → (listed.toList.filter (!·)).length ≤ fuel →
      (∀ k o, ops[k]? = some o → listed.getD k false = true → ∀ e ∈ o.after, Region.binds .any e = true → listed.getD e.on false = true) →
      Inv F cons E W0 X0 (fun i => listed.getD i false = true ∨ (ops.size ≤ i ∧ i < ops.size + nv)) V S w → Frm ops (fun i => listed.getD i false = true) V a0 a → wpAny P .any ops Q fuel listed a w := by
  simp only [Rc.check, Bool.and_eq_true] at hchk
  obtain ⟨⟨⟨hdis, hsel⟩, hops⟩, hcons⟩ := hchk
  have hO : ∀ j o, ops[j]? = some o → (∀ x ∈ use.getD j [], (ops[x.1]?).bind (·.dst) = some x.2 ∧ x.1 ∈ bef.getD j []) ∧ (∀ i ∈ bef.getD j [], i < j ∧ ∃ e ∈ o.after, Region.binds .any e = true ∧ (e.on = i ∨ i ∈ bef.getD e.on [])) ∧ (∀ e ∈ o.after, Region.binds .any e = true → e.on < j) ∧
      (∀ t ∈ o.looksAt ops, ∀ i x, ops[i]? = some x → x.dst = some t → i ∈ nums use j) ∧ (nums use j).Nodup ∧ (∀ i ∈ reads.getD j [], (i ∈ bef.getD j [] ∨ (ops.size ≤ i ∧ i < ops.size + nv)) ∧ ∀ x ∈ cons, x.2 = i → x.1 = j ∨ j ∈ bef.getD x.1 []) := by
    intro j o ho
    have h := List.all_eq_true.1 hops j (List.mem_range.2 (Array.getElem?_eq_some_iff.1 ho).1)
    simp only [ho, Bool.and_eq_true] at h
    obtain ⟨⟨⟨⟨⟨⟨h1, h2⟩, h3⟩, h4⟩, h5⟩, h6⟩, _⟩ := h
    refine ⟨fun x hx => ?_, fun i hi => ?_, fun e he hb => ?_, fun t ht i x hx hd => ?_, by simpa using h5, fun i hi => ?_⟩
    · have := List.all_eq_true.1 h1 x hx
      simp only [Bool.and_eq_true, beq_iff_eq] at this
      exact ⟨this.1, by simpa using this.2⟩
    · have := List.all_eq_true.1 h2 i hi
      simp only [Bool.and_eq_true, decide_eq_true_eq] at this
      obtain ⟨e, he, hb⟩ := Array.any_eq_true'.1 this.2
      simp only [Bool.and_eq_true, Bool.or_eq_true, beq_iff_eq] at hb
      exact ⟨this.1, e, he, hb.1, hb.2.imp id (fun h => by simpa using h)⟩
    · have := Array.all_eq_true_iff_forall_mem.1 h3 e he
      simpa [hb] using this
    · have := List.all_eq_true.1 (List.all_eq_true.1 h4 t ht) i (List.mem_range.2 (Array.getElem?_eq_some_iff.1 hx).1)
      simpa [hx, hd] using this
    · have := List.all_eq_true.1 h6 i hi
      simp only [Bool.and_eq_true, Bool.or_eq_true, decide_eq_true_eq] at this
      refine ⟨this.1.imp (fun h => by simpa using h) id, fun x hx e => ?_⟩
      have h7 := List.all_eq_true.1 this.2 x hx
      simpa [e] using h7
  have hC : ∀ j i, (j, i) ∈ cons → i ∈ reads.getD j [] ∧ j < ops.size := fun j i h => by
    have := List.all_eq_true.1 hcons _ h
    simpa using this
  intro fuel
  have all_of : ∀ listed : Array Bool, listed.size = ops.size → Region.ready .any ops listed = [] → ∀ k, k < ops.size → listed.getD k false = true := by
    intro listed hsz hr k
    induction k using Nat.strongRecOn with
    | _ k ih =>
      intro hk
      by_cases hl : listed.getD k false = true
      · exact hl
      · exfalso
        have : k ∈ Region.ready .any ops listed := mem_ready.2 ⟨by
          simp only [Array.getD_eq_getD_getElem?] at hl ⊢
          rw [Array.getElem?_eq_getElem (by omega)] at hl ⊢
          simpa using hl, _, Array.getElem?_eq_getElem hk, fun e he hb => ih e.on ((hO k _ (Array.getElem?_eq_getElem hk)).2.2.1 e he hb) (Nat.lt_trans ((hO k _ (Array.getElem?_eq_getElem hk)).2.2.1 e he hb) hk)⟩
        rw [hr] at this
        cases this
  have lis_lt : ∀ (listed : Array Bool), listed.size = ops.size → ∀ i, listed.getD i false = true → i < ops.size := fun listed hsz i h => by
    rcases Nat.lt_or_ge i ops.size with h1 | h1
    · exact h1
    · simp [Array.getD_eq_getD_getElem?, Array.getElem?_eq_none (show listed.size ≤ i by omega)] at h
  have fin : ∀ (listed : Array Bool) (V : Nat → Value) (S : Nat → Nat → Prop) (a : Act) (w : World), listed.size = ops.size → Region.ready .any ops listed = [] →
      Inv F cons E W0 X0 (fun i => listed.getD i false = true ∨ (ops.size ≤ i ∧ i < ops.size + nv)) V S w → Frm ops (fun i => listed.getD i false = true) V a0 a → Q .normal a w := by
    intro listed V S a w hsz hr hi hf
    have hall := all_of listed hsz hr
    have heq : ∀ i, (listed.getD i false = true) ↔ i < ops.size := fun i => ⟨lis_lt listed hsz i, hall i⟩
    refine hend V S w a ?_ (hf.congr heq fun _ _ => rfl)
    have : (fun i => listed.getD i false = true ∨ (ops.size ≤ i ∧ i < ops.size + nv)) = (fun i => i < ops.size + nv) := funext fun i => propext (by rw [heq]; omega)
    rwa [this] at hi
  /- what is listed has all that comes before it listed -/
  have befL : ∀ listed : Array Bool, (∀ k o, ops[k]? = some o → listed.getD k false = true → ∀ e ∈ o.after, Region.binds .any e = true → listed.getD e.on false = true) →
      ∀ j o, ops[j]? = some o → (∀ e ∈ o.after, Region.binds .any e = true → listed.getD e.on false = true) → ∀ i ∈ bef.getD j [], listed.getD i false = true := by
    intro listed hcl j
    induction j using Nat.strongRecOn with
    | _ j ih =>
      intro o ho haft i hi
      obtain ⟨_, e, he, hb, h⟩ := (hO j o ho).2.1 i hi
      have hel := haft e he hb
      rcases h with rfl | h
      · exact hel
      · have hlt := (hO j o ho).2.2.1 e he hb
        have hon : e.on < ops.size := Nat.lt_trans hlt (Array.getElem?_eq_some_iff.1 ho).1
        exact ih e.on hlt _ (Array.getElem?_eq_getElem hon) (hcl _ _ (Array.getElem?_eq_getElem hon) hel) i h
  induction fuel with
  | zero =>
    intro listed V S a w hsz hfu hcl hi hf
    have hr : Region.ready .any ops listed = [] := by
      apply List.eq_nil_iff_forall_not_mem.2
      intro j hj
      obtain ⟨h1, o, ho, _⟩ := mem_ready.1 hj
      have h2 := left_none listed.toList (by omega) j (by simp; rw [hsz]; exact (Array.getElem?_eq_some_iff.1 ho).1)
      simp only [Array.getElem?_toList] at h2
      simp [Array.getD_eq_getD_getElem?, h2] at h1
    exact ⟨hr, fin listed V S a w hsz hr hi hf⟩
  | succ fuel ih =>
    intro listed V S a w hsz hfu hcl hi hf
    refine ⟨fun hr => fin listed V S a w hsz hr hi hf, fun j hj => ?_⟩
    obtain ⟨hjf, o, ho, haft⟩ := mem_ready.1 hj
    have hjlt : j < ops.size := (Array.getElem?_eq_some_iff.1 ho).1
    have hjs : listed[j]? = some false := by
      simp only [Array.getD_eq_getD_getElem?, Array.getElem?_eq_getElem (show j < listed.size by omega), Option.getD_some] at hjf ⊢
      rw [hjf]
    have hjn : ¬ listed.getD j false = true := by simp [Array.getD_eq_getD_getElem?, hjs]
    obtain ⟨h0, h1, h2, h3, h4, h5⟩ := hO j o ho
    have hBL := befL listed hcl j o ho haft
    have hUL : ∀ i, i ∈ nums use j → listed.getD i false = true := fun i hi => by
      obtain ⟨x, hx, rfl⟩ := List.mem_map.1 hi
      exact hBL _ (h0 x hx).2
    have hjL : ¬ (listed.getD j false = true ∨ (ops.size ≤ j ∧ j < ops.size + nv)) := by
      rintro (h | h)
      · exact hjn h
      · omega
    have kL : ∀ k, (listed.getD k false = true ∨ (ops.size ≤ k ∧ k < ops.size + nv)) → k < ops.size → listed.getD k false = true := fun k hk hlt => hk.resolve_right (by omega)
    have jbef : ∀ k, k < ops.size → listed.getD k false = true → ¬ j ∈ bef.getD k [] := fun k hkl hk hb =>
      hjn (befL listed hcl k _ (Array.getElem?_eq_getElem hkl) (hcl k _ (Array.getElem?_eq_getElem hkl) hk) j hb)
    have hlive : ∀ i, i ∈ reads.getD j [] → Live cons (fun i => listed.getD i false = true ∨ (ops.size ≤ i ∧ i < ops.size + nv)) i := fun i hir => by
      obtain ⟨h6, h7⟩ := h5 i hir
      refine ⟨h6.imp (hBL i) id, fun k hk hck => ?_⟩
      have hkl := (hC k i hck).2
      rcases h7 _ hck rfl with h8 | h8
      · simp only at h8
        subst h8
        exact hjL hk
      · exact jbef k hkl (kL k hk hkl) h8
    have hd := hstep j o ho V S w hi.mod ⟨fun i hir => hi.holds i (hlive i hir), fun i hir b hb => (hi.lt i b (hlive i hir) hb).1, fun i hir k hkr hne b hib => hi.sep i k b (hlive i hir) (hlive k hkr) hne hib⟩ (fun i hiu => hi.eqs i (.inl (hUL i hiu)))
    have hb := Frm.putUse (V := V) (a0 := a0) hdis (use.getD j []) (fun x hx => (h0 x hx).1) h4
    refine Does.at_ ho (Region.noSelect_spec hsel j o · · ho) (hf.size.trans hb.size.symm) (fun t ht => hf.at_ hb t (fun i x hx hd => ?_)) hd (fun v w' hg => ?_)
    · exact ⟨fun _ => h3 t ht i x hx hd, fun h => hUL i h⟩
    · have hus : ∀ k, (listed.getD k false = true ∨ (ops.size ≤ k ∧ k < ops.size + nv)) → ∀ i ∈ nums use k, k < ops.size → listed.getD i false = true := fun k hk i hik hkl => by
        obtain ⟨x, hx, rfl⟩ := List.mem_map.1 hik
        exact befL listed hcl k _ (Array.getElem?_eq_getElem hkl) (hcl k _ (Array.getElem?_eq_getElem hkl) (kL k hk hkl)) _ ((hO k _ (Array.getElem?_eq_getElem hkl)).1 x hx).2
      obtain ⟨T, h6⟩ := hi.step (v := v) hjL (fun i hci => hlive i (hC j i hci).1) (fun k hk hck => by
          have hkl : k < ops.size := (hC k j hck).2
          have := (hO k _ (Array.getElem?_eq_getElem hkl)).2.2.2.2.2 j (hC k j hck).1
          rcases this.1 with h7 | h7
          · exact jbef k hkl (kL k hk hkl) h7
          · omega) (fun hcj => by
          have := (h5 j (hC j j hcj).1).1
          rcases this with h7 | h7
          · exact Nat.lt_irrefl j (h1 j h7).1
          · omega) (fun k hk V' hV h => by
          rcases Nat.lt_or_ge k ops.size with hkl | hkl
          · exact hE k V V' _ (fun i hik => hV i (.inl (hus k hk i hik hkl))) h
          · exact hE0 k hkl _ _) (fun V' hV => hE j V V' _ (fun i hij => hV i (.inl (hUL i hij)))) hg
      refine ih (listed.setIfInBounds j true) (fun k => if k = j then v else V k) (fun k => if k = j then T else S k) (a.put o.dst v) w' (by simpa using hsz) ?_ ?_ ?_ ?_
      · have := left_set listed.toList j (by simpa using hjs)
        rw [Array.toList_setIfInBounds]
        omega
      · intro k ok hok hk e he hb2
        rw [getD_set] at hk ⊢
        rcases hk with ⟨rfl, _⟩ | hk
        · obtain rfl : ok = o := by rw [ho] at hok; exact (Option.some.inj hok).symm
          exact .inr (haft e he hb2)
        · exact .inr (hcl k ok hok hk e he hb2)
      · have e : (fun i => (listed.setIfInBounds j true).getD i false = true ∨ (ops.size ≤ i ∧ i < ops.size + nv)) = (fun k => k = j ∨ (listed.getD k false = true ∨ (ops.size ≤ k ∧ k < ops.size + nv))) := funext fun k => propext (by
          rw [getD_set]; constructor
          · rintro ((⟨h, _⟩ | h) | h)
            · exact .inl h
            · exact .inr (.inl h)
            · exact .inr (.inr h)
          · rintro (h | h | h)
            · exact .inl (.inl ⟨h, by omega⟩)
            · exact .inl (.inr h)
            · exact .inr h)
        rw [e]; exact h6
      · refine (hf.step hdis j o ho hjn v).congr (fun k => ?_) (fun _ _ => rfl)
        rw [getD_set]; constructor
        · rintro (h | h)
          · exact .inl ⟨h, by omega⟩
          · exact .inr h
        · rintro (⟨h, _⟩ | h)
          · exact .inl h
          · exact .inr h

theorem wp_region {id : Nat} {a0 : Act} {w0 : World} (hm : P.follows .mixedOrders = true) (F : Nat → Fact) (nv : Nat) (al : List (Nat × Nat × (Value → Value))) (use : List (List (Nat × Nat))) (bef reads : List (List Nat)) (cons : List (Nat × Nat)) (hchk : Rc.check ops nv use bef reads cons = true)
    (hal : (al.all fun x => decide (x.1 < ops.size) && (nums use x.1).contains x.2.1) = true) (hsz : (ops.all fun o => (o.dst.map fun d => decide (d < a0.tmps.size)).getD true) = true)
    (X0 : Nat → Prop) (S0 : Nat → Nat → Prop) (h0 : Inv F cons (alias al) w0.drew X0 (fun i => ops.size ≤ i ∧ i < ops.size + nv) (fun _ => undef) S0 w0.drew)
    (hstep : ∀ a1, a1 = a0 → Rg.Steps (fun j o => ∀ V S w, Mod w0 w X0 → Use F V S w (reads.getD j []) → (∀ i ∈ nums use j, alias al i V (V i)) → Does1 P o V (putUse V (use.getD j []) a1) w (Good F cons (alias al) V S j w)) 0 ops.toList)
    (hend : ∀ V S w, Inv F cons (alias al) w0.drew X0 (fun i => i < ops.size + nv) V S w → Q .normal (putList ops.toList 0 V a0) w) : (Code.region id ops true).wp P Q a0 w0 := by
  refine wp_region_any hm ?_
  have hchk0 := hchk
  simp only [Rc.check, Bool.and_eq_true] at hchk
  obtain ⟨⟨⟨hdis, _⟩, hops⟩, _⟩ := hchk
  have hal2 : (al.all fun x => (nums use x.1).contains x.2.1) = true := List.all_eq_true.2 fun x hx => by
    have := List.all_eq_true.1 hal x hx
    simp only [Bool.and_eq_true] at this
    exact this.2
  have no : ∀ i, ¬ ((Array.replicate ops.size false).getD i false = true) := fun i h => by
    simp [Array.getD_eq_getD_getElem?, Array.getElem?_replicate] at h
    split at h <;> simp at h
  refine run_all (F := F) (cons := cons) nv use bef reads hchk0 (alias_dep hal2) a0 w0.drew X0 (fun j hj V v i f hm => ?_) (fun j o ho => ?_) (fun V S w a hi hf => ?_) _ _ (fun _ => undef) S0 _ _ (by simp) ?_ ?_ ?_ ?_
  · have := List.all_eq_true.1 hal _ hm
    simp only [Bool.and_eq_true, decide_eq_true_eq] at this
    omega
  · intro V S w hl hh he
    have h1 := (hstep a0 rfl).get j o (by simpa using ho) V S w hl.undrew (by simpa using hh) (by simpa using he)
    simp only [Nat.zero_add] at h1
    unfold Does1 at h1
    unfold Does
    cases hgd : o.guard with
    | none =>
      rw [hgd] at h1
      exact .inr ⟨by unfold Region.wanted; rw [hgd], h1⟩
    | some gw =>
      obtain ⟨g, want⟩ := gw
      rw [hgd] at h1
      simp only at h1
      have hy : ∀ x, V g = .bool x → yielded ops (putUse V (use.getD j []) a0).tmps g = some x := by
        intro x hx
        have h := List.all_eq_true.1 hops j (List.mem_range.2 (Array.getElem?_eq_some_iff.1 ho).1)
        simp only [ho, Bool.and_eq_true, hgd] at h
        obtain ⟨⟨⟨⟨⟨⟨h1, _⟩, _⟩, _⟩, h4⟩, _⟩, h6⟩ := h
        have h0 : ∀ x ∈ use.getD j [], (ops[x.1]?).bind (·.dst) = some x.2 := fun x hx => by
          have := List.all_eq_true.1 h1 x hx
          simp only [Bool.and_eq_true, beq_iff_eq] at this
          exact this.1
        have hb := Frm.putUse (V := V) (a0 := a0) hdis (use.getD j []) h0 (by simpa [nums] using h4)
        have h6 : g ∈ nums use j := by simpa using h6
        obtain ⟨y, hy, rfl⟩ := List.mem_map.1 h6
        obtain ⟨og, hog, hdg⟩ := Option.bind_eq_some_iff.1 (h0 y hy)
        have hlt := Array.all_eq_true_iff_forall_mem.1 hsz og (Array.mem_of_getElem? hog)
        simp only [hdg, Option.map_some, Option.getD_some, decide_eq_true_eq] at hlt
        have h7 := hb.put y.1 og y.2 hog hdg h6
        rw [if_pos hlt, hx] at h7
        unfold yielded
        rw [h0 y hy]
        simp only [Option.bind_some]
        rw [h7]
      rcases h1 with ⟨h1, h2⟩ | ⟨h1, h2⟩
      · exact .inr ⟨by unfold Region.wanted; rw [hgd]; simp only []; rw [hy _ h1]; exact beq_self_eq_true _, h2⟩
      · refine .inl ⟨?_, h2⟩
        unfold Region.wanted; rw [hgd]; simp only []; rw [hy _ h1]
        cases want <;> rfl
  · have h1 := Frm.putList (V := V) (a0 := a0) hdis ops.toList 0 a0 (fun k _ => by simp) ((Frm.refl ops V a0).congr (fun i => by simp) fun _ _ => rfl)
    have h2 : a = putList ops.toList 0 V a0 := hf.uniq (h1.congr (fun i => by simp) fun _ _ => rfl)
    rw [h2]; exact hend V S w hi
  · exact Nat.le_trans (List.length_filter_le _ _) (by simp)
  · intro k o _ hk
    exact absurd hk (no k)
  · have e : (fun i => (Array.replicate ops.size false).getD i false = true ∨ (ops.size ≤ i ∧ i < ops.size + nv)) = (fun i => ops.size ≤ i ∧ i < ops.size + nv) := funext fun i => propext ⟨fun h => h.resolve_left (no i), .inr⟩
    rw [e]; exact h0
  · exact (Frm.refl ops _ a0).congr (fun i => ⟨fun h => h.elim, fun h => absurd h (no i)⟩) fun _ _ => rfl
end

theorem Inv.get {F : Nat → Fact} {cons : List (Nat × Nat)} {E : Nat → (Nat → Value) → Value → Prop} {W0 : World} {X0 : Nat → Prop} {V : Nat → Value} {S : Nat → Nat → Prop} {w : World} {n : Nat} (h : Inv F cons E W0 X0 (fun i => i < n) V S w) (i : Nat) (hi : i < n) (hc : cons.all (fun x => x.2 != i) = true) : (F i).holds (V i) w (S i) :=
  h.holds i ⟨hi, fun k _ hk => by have := List.all_eq_true.1 hc _ hk; simp at this⟩
theorem Inv.none {F : Nat → Fact} {cons : List (Nat × Nat)} {E : Nat → (Nat → Value) → Value → Prop} {w : World} {n : Nat} : Inv F cons E w (fun _ => False) (fun i => n ≤ i ∧ i < n + 0) (fun _ => undef) (fun _ _ => False) w :=
  ⟨Mod.refl _ _, fun i h => by have := h.1; omega, fun i b h => by have := h.1; omega, fun i j b h => by have := h.1; omega, fun j h => by omega⟩

def val (x : Value) : Fact := ⟨fun v _ _ => v = x, fun _ _ _ _ h _ _ => h⟩
def any : Fact := ⟨fun _ _ _ => True, fun _ _ _ _ h _ _ => h⟩
section
variable {P : Program} {F : Nat → Fact} {cons : List (Nat × Nat)} {E : Nat → (Nat → Value) → Value → Prop} {V : Nat → Value} {S : Nat → Nat → Prop} {j : Nat} {o : Oper} {b : Act} {w : World}
theorem step_val (x : Value) (hE : E j V x) (hg : Rg.Open o V) (h : (execOp b.eval o).run P w = .ok (.value x) w) (hf : (F j).holds x w (fun _ => False)) : Does1 P o V b w (Good F cons E V S j w) :=
  .of hg fun K hK => by unfold Oper.wp; rw [h]; exact hK x w ⟨_, Mod.refl _ _, hf, fun b hb => hb.elim, hE⟩
theorem step_not {i : Nat} {want : Bool} (hgd : o.guard = some (i, want)) (hV : V i = .bool (!want)) (hE : E j V undef) (hf : (F j).holds undef w (fun _ => False)) : Does1 P o V b w (Good F cons E V S j w) := by
  unfold Does1
  rw [hgd]
  exact .inr ⟨hV, _, Mod.refl _ _, hf, fun b hb => hb.elim, hE⟩
theorem step_call {f : FuncId} {xs : Array Operand} {ts : Array TypeId} (args : Array Value) (hent : ∀ args w, (callFunc f args).run P w = .ok (.enter f args) w) (hop : o.op = .call { callee := .value (.func f), args := xs, argTypes := ts }) (hargs : xs.map b.eval = args) (hE : ∀ v, E j V v) (hg : Rg.Open o V)
    (h : Calls P f args w fun e w' => ∃ v T, e = .returned v ∧ Mod w w' (Taken cons S j) ∧ (F j).holds v w' T ∧ ∀ k, T k → (Taken cons S j k ∨ w.heap.size ≤ k) ∧ k < w'.heap.size) : Does1 P o V b w (Good F cons E V S j w) :=
  .of hg fun K hK => by
    have he : (execOp b.eval o).run P w = .ok (.enter f args) w := by
      subst hargs
      have : execOp b.eval o = callFunc f (#[] ++ xs.map b.eval ++ #[]) := by
        obtain ⟨dst, op, ty, pos, after, guard⟩ := o
        simp only at hop
        subst hop
        rfl
      rw [this, hent]
      simp
    unfold Oper.wp; rw [he]
    refine h.mono ?_
    rintro e w' ⟨v, T, rfl, hb, hf, ho⟩
    exact hK v w' ⟨T, hb, hf, ho, hE v⟩
end
end Go.Proofs.YtmcbpgbiephllaaDoor.Rc

namespace Go.Proofs.YtmcbpgbiephllaaDoor
open Go.RowKit Rc
namespace Ob

structure Obj (σ : Type) where
  At : Value → σ → (Nat → Prop) → World → Prop
  keep : ∀ {v s S w w'}, At v s S w → w.heap.size ≤ w'.heap.size → (∀ b, S b → w'.heap[b]? = w.heap[b]?) → At v s S w'
  lt : ∀ {v s S w}, At v s S w → ∀ b, S b → b < w.heap.size
  ptr : ∀ {v s S w}, At v s S w → ∃ a, v = .pointer (some a)
def Kept (W : World) (X : Nat → Prop) (A : Option Addr) (l : List UInt8) : Prop := Rd W A l ∧ (0 < l.length → ∀ b, A.map (·.block) = some b → ¬ X b)
def Fresh (l : List UInt8) (w : World) (x : Value) (w' : World) : Prop := w'.ownsRow w.heap.size 5 1 x l.length (Lib.byteCells l)
theorem Fresh.of_own {w w' : World} {l : List UInt8} {x : Value} {n : Nat} (h : w'.ownsRow w.heap.size 5 1 x n (Lib.byteCells l)) (hn : l.length = n) : Fresh l w x w' := by
  subst hn; exact h
structure One {σ : Type} (O : Obj σ) (v : Value) (w0 W0 : World) (X0 : Nat → Prop) (s : σ) (B : Nat → Prop) (w : World) : Prop where
  at_ : O.At v s B w
  mod : Mod W0 w X0
  sub : ∀ b, B b → X0 b ∨ W0.heap.size ≤ b
  low : Below w0.heap.size w0 w
  up : ∀ b, B b → w0.heap.size ≤ b
def Own {σ : Type} (O : Obj σ) (v : Value) (w0 W0 : World) (X0 : Nat → Prop) (s : σ) (w : World) : Prop := ∃ B, One O v w0 W0 X0 s B w
section
variable {σ : Type} {O : Obj σ} {v : Value} {w0 W0 : World} {X0 B : Nat → Prop} {s s' : σ} {w w' : World}
theorem mod_more {X : Nat → Prop} (h : Mod W0 w X0) (hm : Mod w w' X) (hX : ∀ b, X b → X0 b ∨ W0.heap.size ≤ b) : Mod W0 w' X0 :=
  ⟨hm.os.trans h.os, hm.tape.trans h.tape, hm.output.trans h.output, Nat.le_trans h.size hm.size, fun k hk hn => (hm.block k (Nat.lt_of_lt_of_le hk h.size) fun hx => by
    rcases hX k hx with h1 | h1
    · exact hn h1
    · omega).trans (h.block k hk hn)⟩
theorem low_more {X : Nat → Prop} (h : Below w0.heap.size w0 w) (hm : Mod w w' X) (hX : ∀ b, X b → w0.heap.size ≤ b) : Below w0.heap.size w0 w' := ((Mod.of_below h X).trans hm).below hX
theorem One.turn {S' : Nat → Prop} (h : One O v w0 W0 X0 s B w) (ha : O.At v s' S' w') (hm : Mod w w' B) (hs : ∀ b, S' b → B b ∨ w.heap.size ≤ b) : One O v w0 W0 X0 s' S' w' :=
  ⟨ha, mod_more h.mod hm h.sub, fun b hB => (hs b hB).elim (h.sub b) (fun h1 => .inr (Nat.le_trans h.mod.size h1)), low_more h.low hm h.up, fun b hB => (hs b hB).elim (h.up b) (fun h1 => Nat.le_trans h.low.size h1)⟩
theorem One.later (h : One O v w0 W0 X0 s B w) (hb : Below w.heap.size w w') : One O v w0 W0 X0 s B w' :=
  ⟨O.keep h.at_ hb.size (fun b hB => hb.block b (O.lt h.at_ b hB)), mod_more h.mod (Mod.of_below hb (fun _ => False)) (fun _ h => h.elim), h.sub, h.low.trans (hb.mono h.low.size), h.up⟩
theorem One.now (h : One O v w0 W0 X0 s B w) : One O v w0 w B s B w := ⟨h.at_, Mod.refl _ _, fun _ h => .inl h, h.low, h.up⟩
theorem Kept.more {A : Option Addr} {l : List UInt8} (k : Kept w B A l) (hb : Below w.heap.size w w') : Kept w' B A l := ⟨k.1.below hb, k.2⟩
theorem One.own (h : One O v w0 W0 X0 s B w) : Own O v w0 W0 X0 s w := ⟨B, h⟩
end

def Ups (B : Nat → Prop) (w0 : World) : Nat → Prop := fun b => B b ∨ w0.heap.size ≤ b
section
variable {σ : Type} {F : Nat → Rc.Fact} {cons : List (Nat × Nat)} {E : Nat → (Nat → Value) → Value → Prop} {V : Nat → Value} {S : Nat → Nat → Prop} {j : Nat} {o : Oper} {b : Act} {w w0 : World} {B : Nat → Prop}
theorem step_tell (x : Value) {fn : FuncId} {xs : Array Operand} {ts : Array TypeId} (args : Array Value) (hent : ∀ args w, (callFunc fn args).run Tryd.prog w = .ok (.enter fn args) w)
    (hop : o.op = .call { callee := .value (.func fn), args := xs, argTypes := ts }) (hargs : xs.map b.eval = args) (hF : F j = Rc.val x) (hE : ∀ v, E j V v) (hg : Rg.Open o V) (hcall : Calls Tryd.prog fn args w fun e w' => e = .returned x ∧ Below w.heap.size w w') : Rg.Does1 Tryd.prog o V b w (Rc.Good F cons E V S j w) := by
  refine Rc.step_call args hent hop hargs hE hg (hcall.mono ?_)
  rintro e w' ⟨rfl, hb⟩
  exact ⟨x, fun _ => False, rfl, Mod.of_below hb _, by rw [hF]; rfl, fun _ h => h.elim⟩
theorem rc_mv (x : Value) {al : List (Nat × Nat × (Value → Value))} (h : (execOp b.eval o).run Tryd.prog w = .ok (.value x) w) (hF : F j = Rc.val x) (ha : (al.all fun x => x.1 != j) = true) (hg : Rg.Open o V) : Rg.Does1 Tryd.prog o V b w (Rc.Good F cons (Rg.alias al) V S j w) :=
  Rc.step_val x (Rg.alias_none ha V _) hg h (by rw [hF]; rfl)
theorem rc_str (l : List UInt8) {al : List (Nat × Nat × (Value → Value))} {x : Operand} {A : Option Addr} {m c : Nat} (hop : o.op = .convert 25 9 x) (hx : b.eval x = .slice A m c) (hm : l.length = m) (hr : Rd w A l) (hF : F j = Rc.val (.string (strOf l))) (ha : (al.all fun x => x.1 != j) = true) (hg : Rg.Open o V) :
    Rg.Does1 Tryd.prog o V b w (Rc.Good F cons (Rg.alias al) V S j w) := by
  subst hm
  refine rc_mv (.string (strOf l)) ?_ hF ha hg
  have := str_any w A l c hr
  obtain ⟨dst, op, ty, pos, after, guard⟩ := o
  simp only at hop
  subst hop
  simp only [execOp, hx]
  go_simp
end
theorem One.after {σ : Type} {O : Obj σ} {v : Value} {w0 W0 : World} {X0 : Nat → Prop} {s s' : σ} {B : Nat → Prop} {w w2 : World} (h : One O v w0 W0 X0 s B w) (hm : Mod w w2 B) {S : Nat → Prop} (hu : ∃ S1, O.At v s' S1 w2 ∧ (∀ b, S1 b → S b) ∧ ∀ b, S1 b → Ups B w b) : Own O v w0 W0 X0 s' w2 := by
  obtain ⟨S1, hat, _, hup⟩ := hu
  exact ⟨S1, h.turn hat hm hup⟩
def nil : Obj Unit where
  At v _ S _ := (∃ a, v = .pointer (some a)) ∧ ∀ b, ¬ S b
  keep h _ _ := h
  lt h b hb := absurd hb (h.2 b)
  ptr h := h.1
end Ob
end Go.Proofs.YtmcbpgbiephllaaDoor

namespace Go.Proofs.YtmcbpgbiephllaaDoor
open Go.RowKit

end Go.Proofs.YtmcbpgbiephllaaDoor

namespace Go.Proofs.YtmcbpgbiephllaaDoor
open Go.RowKit

abbrev Bs := List UInt8
def txtCells (l : List Bs) : List Value := l.map fun s => .string (strOf s)
def RdS (w : World) (A : Option Addr) (l : List Bs) : Prop :=
  0 < l.length → ∃ b off, A = some ⟨b, off, none⟩ ∧ b < w.heap.size ∧ ∀ j x, l[j]? = some x → w.cell? ⟨b, off + j, none⟩ = some (.string (strOf x))
theorem RdS.nil (w : World) (A : Option Addr) : RdS w A [] := fun h => absurd h (by simp)
theorem RdS.below {w w' : World} {A : Option Addr} {l : List Bs} (h : RdS w A l) (hb : Below w.heap.size w w') : RdS w' A l := fun hl => by
  obtain ⟨b, off, h1, h2, h3⟩ := h hl
  exact ⟨b, off, h1, Nat.lt_of_lt_of_le h2 hb.size, fun j x hx => (hb.cell (p := ⟨b, off + j, none⟩) h2).trans (h3 j x hx)⟩
theorem RdS.at_ {w : World} {A : Option Addr} {l : List Bs} (h : RdS w A l) {j : Nat} {x : Bs} (hj : l[j]? = some x) : ∃ b off, A = some ⟨b, off, none⟩ ∧ w.cell? ⟨b, off + j, none⟩ = some (.string (strOf x)) := by
  obtain ⟨b, off, h1, _, h3⟩ := h (by have := (List.getElem?_eq_some_iff.1 hj).1; omega)
  exact ⟨b, off, h1, h3 j x hj⟩
theorem RdS.grown {w w' : World} {A : Option Addr} {l : List Bs} {row : Option Nat} (h : RdS w A l) (hg : w.grownBy w' row) (hne : ∀ b, A.map (·.block) = some b → row ≠ some b) : RdS w' A l := fun hl => by
  obtain ⟨b, off, rfl, h2, h3⟩ := h hl
  exact ⟨b, off, rfl, Nat.lt_of_lt_of_le h2 hg.size, fun j x hx => (World.cell?_of_block (hg.block b h2 (fun e => hne b rfl e.symm))).trans (h3 j x hx)⟩
def TAt (B : Nat) (v : Value) (l : List Bs) (w0 wr : World) : Prop :=
  wr.ownsRow B 9 1 v l.length (txtCells l) ∧ Below B w0 wr ∧ B = w0.heap.size
theorem TAt.nil (w : World) : TAt w.heap.size (.slice none 0 0) [] w w := ⟨⟨rfl, .inl ⟨rfl, rfl⟩⟩, Below.refl _ _, rfl⟩
theorem owned_below {w wa : World} {B e n : Nat} {v : Value} {xs : List Value} (h : w.ownsRow B e 1 v n xs) (ha : Below w.heap.size w wa) : wa.ownsRow B e 1 v n xs := by
  refine ⟨h.1, ?_⟩
  rcases h.2 with h2 | ⟨g, cap, cur, h3, h4, h5, h6⟩
  · exact .inl h2
  · refine .inr ⟨g, cap, cur, h3, h4, (ha.block g ?_).trans h5, h6⟩
    rcases Nat.lt_or_ge g w.heap.size with hlt | hge
    · exact hlt
    · rw [Array.getElem?_eq_none hge] at h5; cases h5
theorem TAt.own {B : Nat} {v : Value} {l : List Bs} {w0 wr wa : World} (h : TAt B v l w0 wr) (ha : Below wr.heap.size wr wa) : wa.ownsRow B 9 1 v l.length (txtCells l) := owned_below h.1 ha
theorem TAt.below {B : Nat} {v : Value} {l : List Bs} {w0 wr w' : World} (h : TAt B v l w0 wr) (hb : Below wr.heap.size wr w') : TAt B v l w0 w' :=
  ⟨owned_below h.1 hb, h.2.1.trans (hb.mono (by have := h.2.1.size; have := h.2.2; omega)), h.2.2⟩
theorem TAt.later {B : Nat} {v : Value} {l : List Bs} {w0 wr : World} (h : TAt B v l w0 wr) : Below w0.heap.size w0 wr := h.2.2 ▸ h.2.1
end Go.Proofs.YtmcbpgbiephllaaDoor

namespace Go.Proofs.YtmcbpgbiephllaaDoor
open Go.RowKit
end Go.Proofs.YtmcbpgbiephllaaDoor

namespace Go.Proofs.YtmcbpgbiephllaaDoor
open Go.RowKit
structure Nd where
  id : Int
  kind : Int
  links : Int
  size : Int
  till : Nat
  shut : Bool
namespace Nd
def zero : Nd := ⟨0, 0, 0, 0, 0, false⟩
def Right (n : Nd) : Prop :=
  0 ≤ n.id ∧ n.id ≤ 65535 ∧ 0 ≤ n.links ∧ n.links ≤ 65535 ∧ 0 ≤ n.size ∧ n.size ≤ 4096 ∧ n.till ≤ 1099511627776 ∧ (n.kind = 1 ∨ n.kind = 2 ∧ n.size = 0 ∧ n.till = 0 ∧ n.shut = true)
instance (n : Nd) : Decidable n.Right := by unfold Right; infer_instance
def lo16 (x : Int) : Nat := (x % 65536).toNat
def lo8 (x : Int) : Nat := (x % 256).toNat
def bytes (n : Nd) : List UInt8 := Co.wShort (lo16 n.id) ++ (Co.wByte (lo8 n.kind) ++ (Co.wShort (lo16 n.links) ++ (Co.wShort (lo16 n.size) ++ (Co.wLong n.till ++ Co.wFlag n.shut))))
end Nd
end Go.Proofs.YtmcbpgbiephllaaDoor

namespace Go.Proofs.YtmcbpgbiephllaaDoor
namespace Pa

abbrev Bytes := List UInt8
def okByte (c : UInt8) : Bool := (97 ≤ c.toNat && c.toNat ≤ 122) || (48 ≤ c.toNat && c.toNat ≤ 57) || c == 46 || c == 45 || c == 95
def good (n : Bytes) : Bool := n.all okByte && decide (1 ≤ n.length) && decide (n.length ≤ 16) && n != [46] && n != [46, 46]
def pieces : Bytes → List Bytes
  | [] => [[]]
  | c :: s => if c = 47 then [] :: pieces s else match pieces s with
    | [] => [[c]]
    | p :: ps => (c :: p) :: ps
def split (d : Nat) (s : Bytes) : List Bytes × Nat :=
  if s = [47] then ([], 0)
  else match s with
    | [] => ([], 12)
    | c :: s => if c = 47 then
        (if (pieces s).all good then (if (pieces s).length ≤ d then (pieces s, 0) else ([], 3)) else ([], 12))
      else ([], 12)

theorem pieces_plain {p : Bytes} (h : ∀ c ∈ p, c ≠ 47) : pieces p = [p] := by
  induction p with
  | nil => rfl
  | cons c s ih =>
    unfold pieces
    rw [if_neg (h c (by simp)), ih fun d hd => h d (by simp [hd])]
theorem pieces_app {p s : Bytes} (h : ∀ c ∈ p, c ≠ 47) : pieces (p ++ 47 :: s) = p :: pieces s := by
  induction p with
  | nil => simp [pieces]
  | cons c q ih =>
    rw [List.cons_append]
    have e : ∀ x, pieces (c :: x) = (match pieces x with | [] => [[c]] | p :: ps => (c :: p) :: ps) := fun x => by rw [pieces, if_neg (h c (by simp))]
    rw [e, ih fun d hd => h d (by simp [hd])]
structure Parts (s0 t : Bytes) (c : List Bytes) : Prop where
  good : ∀ n ∈ c, good n = true
  way : ∃ u0, s0 = 47 :: u0 ∧ u0 ≠ [] ∧ (t = [] → pieces u0 = c) ∧ (t ≠ [] → ∃ u, t = 47 :: u ∧ pieces u0 = c ++ pieces u)
theorem pieces_next {p r : Bytes} (hp : ∀ x ∈ p, x ≠ 47) (hr : r = [] ∨ ∃ r', r = 47 :: r') : (r = [] → pieces (p ++ r) = [p]) ∧ (r ≠ [] → ∃ r', r = 47 :: r' ∧ pieces (p ++ r) = p :: pieces r') := by
  rcases hr with rfl | ⟨r', rfl⟩
  · exact ⟨(fun _ => by rw [List.append_nil]; exact pieces_plain hp), fun h => absurd rfl h⟩
  · exact ⟨(fun h => by cases h), fun _ => ⟨r', rfl, pieces_app hp⟩⟩
theorem Parts.step {s0 p r : Bytes} {c : List Bytes} (h : Parts s0 (47 :: (p ++ r)) c) (hp : ∀ x ∈ p, x ≠ 47) (hr : r = [] ∨ ∃ r', r = 47 :: r') (hg : Pa.good p = true) : Parts s0 r (c ++ [p]) := by
  obtain ⟨u0, e0, hu, _, h2⟩ := h.way
  obtain ⟨u, e, h3⟩ := h2 (by simp)
  simp only [List.cons.injEq, true_and] at e
  subst e
  obtain ⟨n1, n2⟩ := pieces_next hp hr
  refine ⟨fun n hn => ?_, u0, e0, hu, fun hr0 => by rw [h3, n1 hr0], fun hr0 => ?_⟩
  · rcases List.mem_append.1 hn with h4 | h4
    · exact h.good n h4
    · simp only [List.mem_singleton] at h4; rw [h4]; exact hg
  · obtain ⟨r', e', h4⟩ := n2 hr0
    exact ⟨r', e', by rw [h3, h4, List.append_assoc]; rfl⟩
theorem split_of {d : Nat} {u : Bytes} (h : u ≠ []) : split d (47 :: u) = if (pieces u).all Pa.good then (if (pieces u).length ≤ d then (pieces u, 0) else ([], 3)) else ([], 12) := by
  unfold split
  rw [if_neg (by simpa using h)]
  simp
theorem Parts.done {d : Nat} {s0 : Bytes} {c : List Bytes} (h : Parts s0 [] c) : split d s0 = if c.length ≤ d then (c, 0) else ([], 3) := by
  obtain ⟨u0, rfl, hu, h1, _⟩ := h.way
  rw [split_of hu, h1 rfl, if_pos (List.all_eq_true.2 h.good)]
end Pa
end Go.Proofs.YtmcbpgbiephllaaDoor

namespace Go.Proofs.YtmcbpgbiephllaaDoor
open Go.RowKit
namespace Tr
abbrev Nm := Bs × Int
structure En where
  nd : Nd
  data : Bs
  names : List Nm
abbrev T := List En
/-! Texts in their order. -/
def less (a b : Bs) : Bool := Op.bytesLess a b
/-! Names of one directory. -/
def ins (l : List Nm) (x : Bs) (k : Int) : List Nm :=
  match l with
  | [] => [(x, k)]
  | n :: l => if less n.1 x then n :: ins l x k else (x, k) :: n :: l
def strike (l : List Nm) (k : Int) : List Nm := l.filter fun n => !(n.2 == k)
/-! Nodes by their ID. -/
def find (t : T) (i : Int) : Option En := t.find? fun e => e.nd.id == i
def ndOf (t : T) (i : Int) : Nd := ((find t i).map (·.nd)).getD Nd.zero
def kindOf (t : T) (i : Int) : Int := (ndOf t i).kind
def upd (t : T) (i : Int) (f : En → En) : T := t.map fun e => if e.nd.id == i then f e else e
def remove (t : T) (i : Int) : T := t.filter fun e => !(e.nd.id == i)
def put (t : T) (d : Int) (x : Bs) (k : Int) : T := upd t d fun e => { e with names := ins e.names x k }
def more (t : T) (i : Int) (by_ : Int) : T := upd t i fun e => { e with nd := { e.nd with links := e.nd.links + by_ } }
/-! Paths. -/
/-! The calls. -/
def file (t : T) (i : Int) : Nat := if (find t i).isNone then 20 else if kindOf t i = 2 then 22 else 0
def append (t : T) (i : Int) (b : Bs) : Nat × T :=
  if file t i ≠ 0 then (file t i, t)
  else if (ndOf t i).shut = true then (27, t)
  else if 4096 - (ndOf t i).size < (b.length : Int) then (15, t)
  else (0, upd t i fun e => { e with data := e.data ++ b, nd := { e.nd with size := ((e.data ++ b).length : Nat) } })
def keep (t : T) (i : Int) (until_ : Nat) : Nat × T :=
  if file t i ≠ 0 then (file t i, t)
  else if (ndOf t i).shut = false then (25, t)
  else if until_ < (ndOf t i).till then (28, t)
  else if 1099511627776 < until_ then (1, t)
  else (0, upd t i fun e => { e with nd := { e.nd with till := until_ } })
def drop (t : T) (i : Int) : Nat × T :=
  if file t i ≠ 0 then (file t i, t)
  else if (ndOf t i).shut = true then (27, t)
  else (0, remove (t.map fun e => { e with names := strike e.names i }) i)
/-! As bytes. -/
/-! What is right. -/
structure EnOk (e : En) : Prop where
  nd : e.nd.Right
  size : e.nd.size = (e.data.length : Nat)
  rise : e.names.Pairwise fun a b => less a.1 b.1 = true
  good : ∀ n ∈ e.names, Pa.good n.1 = true
  file : e.nd.kind = 1 → e.names = []
def flat (t : T) : List (Int × Nm) := t.flatMap fun e => e.names.map fun n => (e.nd.id, n)
def count (t : T) (i : Int) : Nat := (flat t).countP fun x => x.2.2 == i
structure Good (t : T) : Prop where
  root : ∃ r rest, t = r :: rest ∧ r.nd.id = 0 ∧ r.nd.kind = 2
  rise : t.Pairwise fun a b => a.nd.id < b.nd.id
  few : t.length ≤ 64
  each : ∀ e ∈ t, EnOk e
  leads : ∀ e ∈ t, ∀ n ∈ e.names, n.2 ≠ 0 ∧ (find t n.2).isSome = true
  linked : ∀ e ∈ t, (count t e.nd.id : Int) + (if e.nd.id = 0 then 1 else 0) = e.nd.links
  dirs : ∀ e ∈ t, e.nd.kind = 2 → e.nd.links = 1
  shut : ∀ e ∈ t, e.nd.shut = true → e.nd.links ≠ 0
  deep : ∃ dep : Int → Nat, dep 0 = 0 ∧ ∀ e ∈ t, ∀ n ∈ e.names, dep e.nd.id + 1 ≤ 8 ∧ (kindOf t n.2 = 2 → dep n.2 = dep e.nd.id + 1)
end Tr
end Go.Proofs.YtmcbpgbiephllaaDoor

namespace Go.Proofs.YtmcbpgbiephllaaDoor
open Go.RowKit
namespace Tr
/-! Names of one directory. -/
/-! Nodes by their ID. -/
def Ris (t : T) : Prop := t.Pairwise fun a b => a.nd.id < b.nd.id
theorem find_cons (e : En) (t : T) (i : Int) : find (e :: t) i = if e.nd.id = i then some e else find t i := by
  unfold find
  rw [List.find?_cons]
  by_cases h : e.nd.id = i
  · rw [if_pos h, beq_iff_eq.2 h]
  · rw [if_neg h, beq_eq_false_iff_ne.2 h]
theorem find_some {t : T} {i : Int} {e : En} (h : find t i = some e) : e ∈ t ∧ e.nd.id = i := by
  unfold find at h
  exact ⟨List.mem_of_find?_eq_some h, by simpa using List.find?_some h⟩
theorem Ris.find {t : T} (hr : Ris t) {e : En} (h : e ∈ t) : find t e.nd.id = some e := by
  induction t with
  | nil => cases h
  | cons a t ih =>
    rw [find_cons]
    rcases List.mem_cons.1 h with rfl | h1
    · rw [if_pos rfl]
    · have := (List.pairwise_cons.1 hr).1 e h1
      rw [if_neg (by omega), ih (List.pairwise_cons.1 hr).2 h1]
theorem Ris.split {t : T} (hr : Ris t) {i : Int} {e : En} (h : Tr.find t i = some e) : ∃ A B, t = A ++ e :: B ∧ e.nd.id = i ∧ (∀ a ∈ A, a.nd.id < i) ∧ (∀ b ∈ B, i < b.nd.id) := by
  obtain ⟨hm, rfl⟩ := find_some h
  obtain ⟨A, B, rfl⟩ := List.append_of_mem hm
  have h2 := List.pairwise_append.1 hr
  exact ⟨A, B, rfl, rfl, fun a ha => h2.2.2 a ha e (.head _), (List.pairwise_cons.1 h2.2.1).1⟩
end Tr
end Go.Proofs.YtmcbpgbiephllaaDoor

namespace Go.Proofs.YtmcbpgbiephllaaDoor
open Go.RowKit

theorem run_append_big {P : Program} (w : World) (base : Nat) (t ty e : TypeId) (i : TypeInfo) (ht : P.underlying t = some (.slice e)) (hi : P.info? e = some i) (hz : i.zero = some (.int .u8 0)) (hsize : i.size = 1) (hby : i.bytes = 1)
    (v : Value) (n : Nat) (xs : List Value) (hown : w.ownsRow base e 1 v n xs) (A : Option Addr) (l : List UInt8) (c : Nat) (hr : Rd w A l) (hn : n + l.length ≤ 140737488355328) (hbase : base ≤ w.heap.size) :
    ∃ v' w', (Builtin.append_ #[t, t] ty #[v, .slice A l.length c]).run P w = .ok v' w' ∧ w'.ownsRow base e 1 v' (n + l.length) (xs ++ Lib.byteCells l) ∧ w.grownBy w' v.ownBlock := by
  cases A with
  | none =>
    have hl : l = [] := by
      rcases Nat.eq_zero_or_pos l.length with h | h
      · exact List.eq_nil_of_length_eq_zero h
      · obtain ⟨b, off, h1, _⟩ := hr h
        cases h1
    subst hl
    refine ⟨v, w, ?_, by simpa [Lib.byteCells] using hown, ⟨rfl, rfl, rfl, Nat.le_refl _, fun _ _ _ => rfl⟩⟩
    show (Builtin.append_ #[t, t] ty #[v, .slice none 0 c]).run P w = .ok v w
    rcases hown.2 with ⟨rfl, rfl⟩ | ⟨g, cap, cur, rfl, _, _, hnc, _⟩
    · simp [Builtin.append_, run_underlying ht, sizeOf, typeInfo, hi, Builtin.lenOf, Builtin.firstCells]
    · simp [Builtin.append_, run_underlying ht, sizeOf, typeInfo, hi, Builtin.lenOf, Builtin.firstCells, hnc, storeCells]
  | some ad =>
    have hc : ∀ j u, (Lib.byteCells l)[j]? = some u → w.cell? (ad.add j) = some u := by
      intro j u hu
      simp only [Lib.byteCells, List.getElem?_map, Option.map_eq_some_iff] at hu
      obtain ⟨x, hx, rfl⟩ := hu
      obtain ⟨b, off, h1, _, h2⟩ := hr (by have := (List.getElem?_eq_some_iff.1 hx).1; omega)
      obtain rfl : ad = ⟨b, off, none⟩ := by injection h1
      rw [add_plain]
      exact h2 j x hx
    obtain ⟨v', w', h1, h2, h3, _⟩ := run_append_own (P := P) (w := w) base t ty e i (.int .u8 0) 1 1 ht hi hz hsize hby rfl (by decide) v n xs hown ad l.length c (Lib.byteCells l) (by simp [Lib.byteCells_length]) hc (bytes_one l) (by unfold maxLen; omega) (by omega) hbase
    exact ⟨v', w', h1, h2, h3⟩

theorem wpList_append_big {P : Program} {w : World} {ops : Array Oper} {rest : List Oper} {o : Oper} {a : Act} {Q : Exit → Act → World → Prop} (hgd : o.guard = none) (s x : Operand) (t : TypeId)
    (ho : o.op = .call { callee := .builtin .append, args := #[s, x], argTypes := #[t, t] })
    (base : Nat) (e : TypeId) (i : TypeInfo) (ht : P.underlying t = some (.slice e)) (hi : P.info? e = some i) (hz : i.zero = some (.int .u8 0)) (hsize : i.size = 1) (hby : i.bytes = 1)
    (v : Value) (n : Nat) (xs : List Value) (hs : a.eval s = v) (hown : w.ownsRow base e 1 v n xs) (A : Option Addr) (l : List UInt8) (m c : Nat) (hm : l.length = m) (hx : a.eval x = .slice A m c) (hr : Rd w A l) (hn : n + l.length ≤ 140737488355328) (hbase : base ≤ w.heap.size)
    (h : ∀ v' w', Hid (w'.ownsRow base e 1 v' (n + l.length) (xs ++ Lib.byteCells l)) → Hid (w.grownBy w' v.ownBlock) → wpList P ops Q rest (a.put o.dst v') w') : wpList P ops Q (o :: rest) a w := by
  subst hm
  refine wpList_plain hgd fun K hK => ?_
  obtain ⟨v', w', hrun, h1, h2⟩ := run_append_big w base t o.type e i ht hi hz hsize hby v n xs hown A l c hr hn hbase
  unfold Oper.wp
  simp [execOp, ho, resolve, invoke, builtin, hs, hx, hrun, Result.andThen]
  exact hK _ _ (h v' w' h1 h2)
end Go.Proofs.YtmcbpgbiephllaaDoor

namespace Go.Proofs.YtmcbpgbiephllaaDoor
open Go.RowKit Rc

set_option maxHeartbeats 1000000 in
set_option maxRecDepth 100000 in
theorem clone_any (w : World) (A : Option Addr) (x : List UInt8) (cap : Nat) (hr : Rd w A x) (hx : x.length ≤ 140737488355328) :
    Calls Tryd.prog 49 #[.slice A x.length cap] w fun e w' => ∃ v, e = .returned v ∧ w'.ownsRow w.heap.size 5 1 v x.length (Lib.byteCells x) ∧ Below w.heap.size w w' := by
  have q22 : ∀ (w : World) (a : Option Addr) (n c n' c' : Nat), (binOp .eql 25 (.slice a n c) (.slice none n' c')).run Tryd.prog w = .ok (.bool a.isNone) w := fun w a n c n' c' => Lib.run_eql_slice_nil w _ _ a n c n' c' Tryd.underlying25
  cases A with
  | none =>
    obtain rfl : x = [] := by
      rcases Nat.eq_zero_or_pos x.length with h | h
      · exact List.eq_nil_of_length_eq_zero h
      · obtain ⟨b, off, h1, _⟩ := hr h
        cases h1
    go_enter Tryd.func49, Tryd.ntmps49
    go_wp2_with fail
    go_ret
    exact ⟨_, rfl, own_nil _ _, Below.refl _ _⟩
  | some ad =>
    obtain ⟨i0, hi, hz0, hz1, hz2⟩ := info_parts Tryd.infoU8
    have HI0 := Lib.hid hi
    have HZ0 := Lib.hid hz0
    have HZ1 := Lib.hid hz1
    have HZ2 := Lib.hid hz2
    have H0 : Hid (MAt w.heap.size (.slice (some ⟨w.heap.size, 0, none⟩) 0 0) [] w (w.alloc (.cells #[] 5))) := MAt.empty w
    have HRW : Hid (Rd (w.alloc (.cells #[] 5)) (some ad) x) := hr.below (below_new w _)
    clear hi hz0 hz1 hz2 hr
    go_enter Tryd.func49, Tryd.ntmps49
    go_wp2_with (at_builtin; refine wpList_append_big rfl (.tmp 5) (.tmp 6) 25 rfl w.heap.size 5 i0 Tryd.underlying25 HI0.out HZ0.out HZ1.out HZ2.out _ 0 [] rfl H0.out.1 (some ad) x x.length cap rfl rfl HRW.out (by omega) (by rw [World.size_alloc]; omega) ?_; intro v1 w1 HO1 HG1; have H1 : Hid (MAt w.heap.size v1 x w w1) := H0.out.push (Below.refl _ _) HO1.out HG1.out)
    clear HO1 HG1
    go_ret
    exact ⟨_, rfl, H1.out.1, H1.out.2.1⟩

theorem wpList_append_at_rd {P : Program} {w : World} {ops : Array Oper} {rest : List Oper} {o : Oper} {a : Act} {Q : Exit → Act → World → Prop} (hgd : o.guard = none) (s x : Operand) (t : TypeId)
    (ho : o.op = .call { callee := .builtin .append, args := #[s, x], argTypes := #[t, t] })
    (base : Nat) (e : TypeId) (i : TypeInfo) (ht : P.underlying t = some (.slice e)) (hi : P.info? e = some i) (hz : i.zero = some (.int .u8 0)) (hsize : i.size = 1) (hby : i.bytes = 1)
    (v : Value) (n : Nat) (xs : List Value) (hs : a.eval s = v) (hown : w.ownsRow base e 1 v n xs) (A : Option Addr) (l : List UInt8) (m c : Nat) (hm : l.length = m) (hx : a.eval x = .slice A m c) (hr : Rd w A l) (hn : n + l.length ≤ 1099511627776) (hbase : base ≤ w.heap.size)
    (h : ∀ v' w', Hid (w'.ownsRow base e 1 v' (n + l.length) (xs ++ Lib.byteCells l)) → Hid (w.grownBy w' v.ownBlock) → Hid (v'.ownBlock = v.ownBlock ∨ v'.ownBlock = some w.heap.size) → wpList P ops Q rest (a.put o.dst v') w') : wpList P ops Q (o :: rest) a w :=
  wpList_plain hgd fun _ hK => wp_append_at s x t ho base e i ht hi hz hsize hby v n xs hs hown A l m c hm hx hr hn hbase fun v' w' h1 h2 h3 => hK _ _ (h v' w' h1 h2 h3)

theorem step_append_rd {P : Program} {ops : Array Oper} {o : Oper} {a : Act} {w : World} {K : Act → World → Prop} {Q : Exit → Act → World → Prop} {E : Prop} (hgd : o.guard = none) (s x : Operand) (t : TypeId)
    (ho : o.op = .call { callee := .builtin .append, args := #[s, x], argTypes := #[t, t] })
    (base : Nat) (e : TypeId) (i : TypeInfo) (ht : P.underlying t = some (.slice e)) (hi : P.info? e = some i) (hz : i.zero = some (.int .u8 0)) (hsize : i.size = 1) (hby : i.bytes = 1)
    (v : Value) (n : Nat) (xs : List Value) (hs : a.eval s = v) (hown : w.ownsRow base e 1 v n xs) (A : Option Addr) (l : List UInt8) (m c : Nat) (hm : l.length = m) (hx : a.eval x = .slice A m c) (hr : Rd w A l) (hn : n + l.length ≤ 1099511627776) (hbase : base ≤ w.heap.size)
    (h : ∀ v' w', Hid (w'.ownsRow base e 1 v' (n + l.length) (xs ++ Lib.byteCells l)) → Hid (w.grownBy w' v.ownBlock) → Hid (v'.ownBlock = v.ownBlock ∨ v'.ownBlock = some w.heap.size) → K (a.put o.dst v') w') :
    if Region.wanted o (yielded ops a.tmps) = true then Oper.wp P o a w K Q else E := by
  rw [if_pos (show Region.wanted o (yielded ops a.tmps) = true by simp [Region.wanted, hgd])]
  exact wp_append_at s x t ho base e i ht hi hz hsize hby v n xs hs hown A l m c hm hx hr hn hbase h
end Go.Proofs.YtmcbpgbiephllaaDoor

namespace Go.Proofs.YtmcbpgbiephllaaDoor
open Go.RowKit
/-! Rows of elements of k cells. -/
/-! What an insertion does to a row. -/
end Go.Proofs.YtmcbpgbiephllaaDoor

namespace Go.Proofs.YtmcbpgbiephllaaDoor
open Go.RowKit Rc
open Tr (Nm En T)
namespace Tm
/-! Own rows of whatever elements. -/
theorem own_blk {w : World} {B e k n : Nat} {v : Value} {xs : List Value} (h : w.ownsRow B e k v n xs) {b : Nat} (hb : v.ownBlock = some b) : B ≤ b ∧ b < w.heap.size ∧ ∃ cs, Blk w b e cs := by
  rcases h.2 with ⟨rfl, _⟩ | ⟨g, cap, cur, rfl, h1, h2, _⟩
  · cases hb
  · obtain rfl : g = b := by simpa [Value.ownBlock] using hb
    exact ⟨h1, (Array.getElem?_eq_some_iff.1 h2).1, cur.toList, by simpa [Blk] using h2⟩
theorem own_keep {w w' : World} {B e k n : Nat} {v : Value} {xs : List Value} (h : w.ownsRow B e k v n xs) (hb : ∀ b, v.ownBlock = some b → w'.heap[b]? = w.heap[b]?) : w'.ownsRow B e k v n xs := by
  refine ⟨h.1, ?_⟩
  rcases h.2 with h2 | ⟨g, cap, cur, rfl, h3, h4, h5⟩
  · exact .inl h2
  · exact .inr ⟨g, cap, cur, rfl, h3, (hb g rfl).trans h4, h5⟩
theorem own_form {w : World} {B e k n : Nat} {v : Value} {xs : List Value} (h : w.ownsRow B e k v n xs) : ∃ A c, v = .slice A n c ∧ n ≤ c ∧ (0 < n → ∃ g, A = some ⟨g, 0, none⟩ ∧ v.ownBlock = some g ∧ B ≤ g ∧ g < w.heap.size ∧ ∀ j x, xs[j]? = some x → w.cell? ⟨g, j, none⟩ = some x) := by
  rcases h.2 with ⟨rfl, rfl⟩ | ⟨g, cap, cur, rfl, h1, h2, h3, h4, h5, h6⟩
  · exact ⟨none, 0, rfl, Nat.le_refl _, fun h => absurd h (by omega)⟩
  · refine ⟨_, cap, rfl, h3, fun hn => ⟨g, rfl, rfl, h1, (Array.getElem?_eq_some_iff.1 h2).1, fun j x hx => ?_⟩⟩
    rw [cell_of_row w g j cur e (0, 0) h2]
    rw [← h6] at hx
    rw [List.getElem?_take] at hx
    split at hx
    · simpa using hx
    · cases hx
/-! Names. -/
/-! A node. -/
/-! Nodes, apart from one another. -/
/-! The tree. -/
end Tm
end Go.Proofs.YtmcbpgbiephllaaDoor

namespace Go.Proofs.YtmcbpgbiephllaaDoor
open Go.RowKit Rc
open Tr (Nm En T)
namespace Tm

end Tm
end Go.Proofs.YtmcbpgbiephllaaDoor

namespace Go.Proofs.YtmcbpgbiephllaaDoor
open Go.RowKit
namespace Tr
variable {t : T}
theorem kindOf_no {i : Int} (h : find t i = none) : kindOf t i = 0 := by unfold kindOf ndOf; rw [h]; rfl
theorem Good.zero (h : Good t) : ∃ r, find t 0 = some r ∧ r.nd.kind = 2 ∧ r.nd.id = 0 := by
  obtain ⟨r, rest, rfl, h1, h2⟩ := h.root
  exact ⟨r, by rw [find_cons, if_pos h1], h2, h1⟩
theorem Good.kind (h : Good t) {e : En} (he : e ∈ t) : e.nd.kind = 1 ∨ e.nd.kind = 2 := by
  have := (h.each e he).nd
  exact this.2.2.2.2.2.2.2.imp id fun k => k.1
theorem Good.has (h : Good t) {i : Int} (hk : kindOf t i = 2) : ∃ e, find t i = some e := by
  cases hf : find t i with
  | none => rw [kindOf_no hf] at hk; omega
  | some e => exact ⟨e, rfl⟩
/-! How many names there are. -/
/-! Looking. -/
end Tr
end Go.Proofs.YtmcbpgbiephllaaDoor

namespace Go.Proofs.YtmcbpgbiephllaaDoor
open Go.RowKit

def Oks (l : Bs) (k : Nat) : Prop := k ≤ l.length ∧ ∀ (j : Nat) (c : UInt8), j < k → l[j]? = some c → Pa.okByte c = true
theorem Oks.zero (l : Bs) : Oks l 0 := ⟨Nat.zero_le _, fun j _ hj => absurd hj (Nat.not_lt_zero j)⟩
theorem Oks.step {l : Bs} {k : Nat} {c : UInt8} (h : Oks l k) (hk : l[k]? = some c) (hc : Pa.okByte c = true) : Oks l (k + 1) := by
  refine ⟨(List.getElem?_eq_some_iff.1 hk).1, fun j d hj hd => ?_⟩
  rcases Nat.lt_or_ge j k with h1 | h1
  · exact h.2 j d h1 hd
  · obtain rfl : j = k := by omega
    rw [hk] at hd
    cases hd
    exact hc
theorem Oks.all {l : Bs} (h : Oks l l.length) : l.all Pa.okByte = true := by
  rw [List.all_eq_true]
  intro c hc
  obtain ⟨j, hj, rfl⟩ := List.getElem_of_mem hc
  exact h.2 j _ hj (List.getElem?_eq_getElem hj)
end Go.Proofs.YtmcbpgbiephllaaDoor

namespace Go.Proofs.YtmcbpgbiephllaaDoor
open Go.RowKit

end Go.Proofs.YtmcbpgbiephllaaDoor

namespace Go.Proofs.YtmcbpgbiephllaaDoor
open Go.RowKit Rc
open Tr (Nm En T)
namespace Tm
end Tm
end Go.Proofs.YtmcbpgbiephllaaDoor

namespace Go.Proofs.YtmcbpgbiephllaaDoor
open Go.RowKit Rc
open Tr (Nm En T)
namespace Tm
variable {p : Nat} {av : Value} {gs : List Nat} {S : Nat → Prop} {t : T} {w : World}
end Tm
end Go.Proofs.YtmcbpgbiephllaaDoor

namespace Go.Proofs.YtmcbpgbiephllaaDoor
open Go.RowKit

end Go.Proofs.YtmcbpgbiephllaaDoor

namespace Go.Proofs.YtmcbpgbiephllaaDoor
open Go.RowKit Rc

theorem Rd.mod {w w' : World} {A : Option Addr} {l : List UInt8} {S : Nat → Prop} (h : Rd w A l) (hm : Mod w w' S) (hA : 0 < l.length → ∀ b, A.map (·.block) = some b → ¬ S b) : Rd w' A l := by
  intro hl
  exact h.keep (fun p hp hb => by unfold World.cell?; rw [hm.block p.block hp (hA hl _ hb)]) hm.size hl
def WOut (At : Value → List UInt8 → (Nat → Prop) → World → Prop) (v : Value) (l : List UInt8) (S : Nat → Prop) (w : World) (e : Ending) (w' : World) : Prop :=
  (∃ x, e = .returned x) ∧ ∃ S', At v l S' w' ∧ Mod w w' S ∧ ∀ b, S' b → S b ∨ w.heap.size ≤ b
structure WSaid where
  At : Value → List UInt8 → (Nat → Prop) → World → Prop
  keep : ∀ {v l S w w'}, At v l S w → w.heap.size ≤ w'.heap.size → (∀ b, S b → w'.heap[b]? = w.heap[b]?) → At v l S w'
  lt : ∀ {v l S w}, At v l S w → ∀ b, S b → b < w.heap.size
  ptr : ∀ {v l S w}, At v l S w → ∃ a, v = .pointer (some a)
  new : ∀ w, Calls Tryd.prog 26 #[] w fun e w' => ∃ v S, e = .returned v ∧ At v [] S w' ∧ Below w.heap.size w w' ∧ ∀ b, S b → w.heap.size ≤ b
  byte : ∀ {v l S w}, At v l S w → l.length ≤ 1099511500000 → ∀ n : Nat, n ≤ 9223372036854775807 → Calls Tryd.prog 27 #[v, .int .i64 (n : Nat)] w (WOut At v (l ++ Co.wByte n) S w)
  short : ∀ {v l S w}, At v l S w → l.length ≤ 1099511500000 → ∀ n : Nat, n ≤ 9223372036854775807 → Calls Tryd.prog 32 #[v, .int .i64 (n : Nat)] w (WOut At v (l ++ Co.wShort n) S w)
  long : ∀ {v l S w}, At v l S w → l.length ≤ 1099511500000 → ∀ n : Nat, n ≤ 18446744073709551615 → Calls Tryd.prog 28 #[v, .int .u64 (n : Nat)] w (WOut At v (l ++ Co.wLong n) S w)
  bytes : ∀ {v l S w}, At v l S w → l.length ≤ 1099511500000 → ∀ A x c, Rd w A x → x.length ≤ c → x.length ≤ 1000000 → (0 < x.length → ∀ b, A.map (·.block) = some b → ¬ S b) → Calls Tryd.prog 29 #[v, .slice A x.length c] w (WOut At v (l ++ Co.wBytes x) S w)
  raw : ∀ {v l S w}, At v l S w → ∀ A x c, Rd w A x → x.length ≤ c → l.length + x.length ≤ 1099511600000 → (0 < x.length → ∀ b, A.map (·.block) = some b → ¬ S b) → Calls Tryd.prog 47 #[v, .slice A x.length c] w (WOut At v (l ++ x) S w)
  done : ∀ {v l S w}, At v l S w → Calls Tryd.prog 31 #[v] w fun e w' => ∃ x, e = .returned x ∧ w'.ownsRow 0 5 1 x l.length (Lib.byteCells l) ∧ Below w.heap.size w w' ∧ ∀ b, x.ownBlock = some b → S b ∨ w.heap.size ≤ b
theorem wout_below {w w1 w2 : World} {S : Nat → Prop} (h : Below w.heap.size w w1) (hS : ∀ b, S b → w.heap.size ≤ b) (hm : Mod w1 w2 S) : Below w.heap.size w w2 :=
  ((Mod.of_below h S).trans hm).below hS
end Go.Proofs.YtmcbpgbiephllaaDoor

namespace Go.Proofs.YtmcbpgbiephllaaDoor
open Go.RowKit Rc

def RowS (A : Option Addr) (L l : List UInt8) (X : Option Addr) (S : Nat → Prop) (w : World) : Prop :=
  ∀ w' : World, w.heap.size ≤ w'.heap.size → (∀ b, S b → w'.heap[b]? = w.heap[b]?) → Rd w' A L → Rd w' X l
theorem RowS.keep {A : Option Addr} {L l : List UInt8} {X : Option Addr} {S : Nat → Prop} {w w' : World} (h : RowS A L l X S w) (hs : w.heap.size ≤ w'.heap.size) (hb : ∀ b, S b → w'.heap[b]? = w.heap[b]?) : RowS A L l X S w' :=
  fun w2 h2 hb2 hr => h w2 (Nat.le_trans hs h2) (fun b hS => (hb2 b hS).trans (hb b hS)) hr
theorem RowS.mono {A : Option Addr} {L l : List UInt8} {X : Option Addr} {S S' : Nat → Prop} {w : World} (h : RowS A L l X S w) (hS : ∀ b, S b → S' b) : RowS A L l X S' w :=
  fun w2 h2 hb2 hr => h w2 h2 (fun b hb => hb2 b (hS b hb)) hr
theorem RowS.now {A : Option Addr} {L l : List UInt8} {X : Option Addr} {S : Nat → Prop} {w : World} (h : RowS A L l X S w) (hr : Rd w A L) : Rd w X l := h w (Nat.le_refl _) (fun _ _ => rfl) hr
theorem RowS.of_own {w : World} {B n : Nat} {v : Value} {l : List UInt8} (A : Option Addr) (L : List UInt8) (h : w.ownsRow B 5 1 v n (Lib.byteCells l)) (hn : l.length = n) : ∃ X c, v = .slice X l.length c ∧ l.length ≤ c ∧ RowS A L l X (fun b => v.ownBlock = some b) w ∧ ∀ b, v.ownBlock = some b → B ≤ b ∧ b < w.heap.size := by
  subst hn
  obtain ⟨X, c, rfl, hc, hr⟩ := own_form h
  refine ⟨X, c, rfl, hc, fun w' hs hb _ => hr.keep (fun p hp hX => ?_) hs, fun b hb => own_lt h hb⟩
  cases X with
  | none => simp at hX
  | some a =>
    simp only [Option.map_some, Option.some.injEq] at hX
    unfold World.cell?
    rw [hb p.block (by show some a.block = _; rw [hX])]

abbrev RdAt := Value → Option Addr → List UInt8 → Co.Rs → (Nat → Prop) → World → Prop
def ROut (At : RdAt) (v : Value) (A : Option Addr) (L : List UInt8) (x : Value) (s : Co.Rs) (S : Nat → Prop) (w : World) (e : Ending) (w' : World) : Prop :=
  e = .returned x ∧ ∃ S', At v A L s S' w' ∧ Mod w w' S ∧ ∀ b, S' b → S b ∨ w.heap.size ≤ b
def RRow (At : RdAt) (v : Value) (A : Option Addr) (L : List UInt8) (r : List UInt8 × Co.Rs) (S : Nat → Prop) (w : World) (e : Ending) (w' : World) : Prop :=
  ∃ X c S' T, e = .returned (.slice X r.1.length c) ∧ r.1.length ≤ c ∧ RowS A L r.1 X T w' ∧ At v A L r.2 S' w' ∧ Mod w w' S ∧ (∀ b, S' b → S b ∨ w.heap.size ≤ b) ∧ (∀ b, T b → (S b ∨ w.heap.size ≤ b) ∧ b < w'.heap.size)
structure RFns where
  byte : Option FuncId
  short : Option FuncId
  long : Option FuncId
  flag : Option FuncId
  bytes : Option FuncId
  raw : Option FuncId
  left : Option FuncId
  fin : Option FuncId
def Apart (A : Option Addr) (L : List UInt8) (S : Nat → Prop) : Prop := 0 < L.length → ∀ b, A.map (·.block) = some b → ¬ S b
structure RSaid (f : RFns) where
  At : RdAt
  keep : ∀ {v A L s S w w'}, At v A L s S w → w.heap.size ≤ w'.heap.size → (∀ b, S b → w'.heap[b]? = w.heap[b]?) → At v A L s S w'
  lt : ∀ {v A L s S w}, At v A L s S w → ∀ b, S b → b < w.heap.size
  ptr : ∀ {v A L s S w}, At v A L s S w → ∃ a, v = .pointer (some a)
  byte : ∀ {fn}, f.byte = some fn → ∀ {v A L s S w}, At v A L s S w → Rd w A L → Apart A L S → Calls Tryd.prog fn #[v] w (ROut At v A L (.int .i64 ((Co.num 1 s).1 : Nat)) (Co.num 1 s).2 S w)
  short : ∀ {fn}, f.short = some fn → ∀ {v A L s S w}, At v A L s S w → Rd w A L → Apart A L S → Calls Tryd.prog fn #[v] w (ROut At v A L (.int .i64 ((Co.num 2 s).1 : Nat)) (Co.num 2 s).2 S w)
  long : ∀ {fn}, f.long = some fn → ∀ {v A L s S w}, At v A L s S w → Rd w A L → Apart A L S → Calls Tryd.prog fn #[v] w (ROut At v A L (.int .u64 ((Co.num 8 s).1 : Nat)) (Co.num 8 s).2 S w)
  flag : ∀ {fn}, f.flag = some fn → ∀ {v A L s S w}, At v A L s S w → Rd w A L → Apart A L S → Calls Tryd.prog fn #[v] w (ROut At v A L (.bool (Co.flag s).1) (Co.flag s).2 S w)
  bytes : ∀ {fn}, f.bytes = some fn → ∀ {v A L s S w}, At v A L s S w → Rd w A L → Apart A L S → Calls Tryd.prog fn #[v] w (RRow At v A L (Co.bytes s) S w)
  raw : ∀ {fn}, f.raw = some fn → ∀ {v A L s S w}, At v A L s S w → Rd w A L → Apart A L S → ∀ n : Int, -1000000 ≤ n → n ≤ 1000000 → Calls Tryd.prog fn #[v, .int .i64 n] w (RRow At v A L (Co.raw n s) S w)
  left : ∀ {fn}, f.left = some fn → ∀ {v A L s S w}, At v A L s S w → Rd w A L → Apart A L S → Calls Tryd.prog fn #[v] w fun e w' => e = .returned (.int .i64 (Co.left s : Nat)) ∧ Below w.heap.size w w'
  fin : ∀ {fn}, f.fin = some fn → ∀ {v A L s S w}, At v A L s S w → Rd w A L → Apart A L S → Calls Tryd.prog fn #[v] w fun e w' => e = .returned (.int .i64 (Co.fin s : Nat)) ∧ Below w.heap.size w w'

end Go.Proofs.YtmcbpgbiephllaaDoor

namespace Go.Proofs.YtmcbpgbiephllaaDoor
open Go.RowKit Rc
structure One {f : RFns} (C : RSaid f) (v : Value) (A : Option Addr) (L : List UInt8) (W0 : World) (X0 : Nat → Prop) (s : Co.Rs) (B : Nat → Prop) (w : World) : Prop where
  mod : Mod W0 w X0
  rd0 : Rd W0 A L
  ap0 : Apart A L X0
  at_ : C.At v A L s B w
  sub : ∀ b, B b → X0 b ∨ W0.heap.size ≤ b
section
variable {f : RFns} {C : RSaid f} {v : Value} {A : Option Addr} {L : List UInt8} {W0 : World} {X0 : Nat → Prop} {s : Co.Rs} {B : Nat → Prop} {w : World}
theorem One.rd (h : One C v A L W0 X0 s B w) : Rd w A L := h.rd0.mod h.mod h.ap0
theorem One.ap (h : One C v A L W0 X0 s B w) : Apart A L B := fun hl b hA hB => by
  rcases h.sub b hB with h1 | h1
  · exact h.ap0 hl b hA h1
  · obtain ⟨b', off, rfl, hlt, _⟩ := h.rd0 hl
    simp at hA
    omega
theorem One.more {w' : World} {X : Nat → Prop} (h : Mod W0 w X0) (hm : Mod w w' X) (hX : ∀ b, X b → X0 b ∨ W0.heap.size ≤ b) : Mod W0 w' X0 :=
  ⟨hm.os.trans h.os, hm.tape.trans h.tape, hm.output.trans h.output, Nat.le_trans h.size hm.size, fun k hk hn => (hm.block k (Nat.lt_of_lt_of_le hk h.size) fun hx => by
    rcases hX k hx with h1 | h1
    · exact hn h1
    · omega).trans (h.block k hk hn)⟩
theorem One.below {w' : World} (h : One C v A L W0 X0 s B w) (hb : Below w.heap.size w w') : One C v A L W0 X0 s B w' :=
  ⟨One.more h.mod (Mod.of_below hb (fun _ => False)) (fun _ h => h.elim), h.rd0, h.ap0, C.keep h.at_ hb.size (fun b hB => hb.block b (C.lt h.at_ b hB)), h.sub⟩
theorem One.step {w' : World} {s' : Co.Rs} {B' : Nat → Prop} (h : One C v A L W0 X0 s B w) (ha : C.At v A L s' B' w') (hm : Mod w w' B) (hs : ∀ b, B' b → B b ∨ w.heap.size ≤ b) : One C v A L W0 X0 s' B' w' :=
  ⟨One.more h.mod hm h.sub, h.rd0, h.ap0, ha, fun b hB => (hs b hB).elim (h.sub b) (fun h1 => .inr (Nat.le_trans h.mod.size h1))⟩
def OneAt {f : RFns} (C : RSaid f) (v : Value) (A : Option Addr) (L : List UInt8) (W0 : World) (X0 : Nat → Prop) (s : Co.Rs) (w : World) : Prop := ∃ B, One C v A L W0 X0 s B w
theorem OneAt.of_out {x : Value} {s' : Co.Rs} {e : Ending} {w' : World} (h : One C v A L W0 X0 s B w) (ho : ROut C.At v A L x s' B w e w') : e = .returned x ∧ Hid (OneAt C v A L W0 X0 s' w') := by
  obtain ⟨rfl, S', ha, hm, hs⟩ := ho
  exact ⟨rfl, S', h.step ha hm hs⟩
theorem OneAt.flag {fn : FuncId} (hf : f.flag = some fn) {r : Bool} {s' : Co.Rs} (h : OneAt C v A L W0 X0 s w) (hr : Co.flag s = (r, s')) : Calls Tryd.prog fn #[v] w fun e w' => e = .returned (.bool r) ∧ Hid (OneAt C v A L W0 X0 s' w') := by
  obtain ⟨B, h⟩ := h
  refine (C.flag hf h.at_ h.rd h.ap).mono fun e w' ho => ?_
  have := OneAt.of_out h ho
  rwa [hr] at this
theorem OneAt.byte {fn : FuncId} (hf : f.byte = some fn) {r : Nat} {s' : Co.Rs} (h : OneAt C v A L W0 X0 s w) (hr : Co.num 1 s = (r, s')) : Calls Tryd.prog fn #[v] w fun e w' => e = .returned (.int .i64 (r : Nat)) ∧ Hid (OneAt C v A L W0 X0 s' w') := by
  obtain ⟨B, h⟩ := h
  refine (C.byte hf h.at_ h.rd h.ap).mono fun e w' ho => ?_
  have := OneAt.of_out h ho
  rwa [hr] at this
theorem OneAt.short {fn : FuncId} (hf : f.short = some fn) {r : Nat} {s' : Co.Rs} (h : OneAt C v A L W0 X0 s w) (hr : Co.num 2 s = (r, s')) : Calls Tryd.prog fn #[v] w fun e w' => e = .returned (.int .i64 (r : Nat)) ∧ Hid (OneAt C v A L W0 X0 s' w') := by
  obtain ⟨B, h⟩ := h
  refine (C.short hf h.at_ h.rd h.ap).mono fun e w' ho => ?_
  have := OneAt.of_out h ho
  rwa [hr] at this
theorem OneAt.long {fn : FuncId} (hf : f.long = some fn) {r : Nat} {s' : Co.Rs} (h : OneAt C v A L W0 X0 s w) (hr : Co.num 8 s = (r, s')) : Calls Tryd.prog fn #[v] w fun e w' => e = .returned (.int .u64 (r : Nat)) ∧ Hid (OneAt C v A L W0 X0 s' w') := by
  obtain ⟨B, h⟩ := h
  refine (C.long hf h.at_ h.rd h.ap).mono fun e w' ho => ?_
  have := OneAt.of_out h ho
  rwa [hr] at this
def RowOut {f : RFns} (C : RSaid f) (v : Value) (A : Option Addr) (L : List UInt8) (W0 : World) (X0 : Nat → Prop) (l : List UInt8) (s : Co.Rs) (e : Ending) (w : World) : Prop :=
  ∃ X c, e = .returned (.slice X l.length c) ∧ l.length ≤ c ∧ Hid (Rd w X l) ∧ Hid (OneAt C v A L W0 X0 s w)
theorem OneAt.of_row {l : List UInt8} {s' : Co.Rs} {r : List UInt8 × Co.Rs} {e : Ending} {w' : World} (h : One C v A L W0 X0 s B w) (ho : RRow C.At v A L r B w e w') (hr : r = (l, s')) : RowOut C v A L W0 X0 l s' e w' := by
  subst hr
  obtain ⟨X, c, S', T, rfl, hc, hrow, ha, hm, hs, ht⟩ := ho
  have h2 := h.step ha hm hs
  exact ⟨X, c, rfl, hc, hrow.now h2.rd, S', h2⟩
theorem OneAt.bytes {fn : FuncId} (hf : f.bytes = some fn) {l : List UInt8} {s' : Co.Rs} (h : OneAt C v A L W0 X0 s w) (hr : Co.bytes s = (l, s')) : Calls Tryd.prog fn #[v] w (RowOut C v A L W0 X0 l s') := by
  obtain ⟨B, h⟩ := h
  exact (C.bytes hf h.at_ h.rd h.ap).mono fun e w' ho => OneAt.of_row h ho hr
theorem OneAt.raw {fn : FuncId} (hf : f.raw = some fn) {n : Int} {l : List UInt8} {s' : Co.Rs} (h : OneAt C v A L W0 X0 s w) (h0 : -1000000 ≤ n) (h1 : n ≤ 1000000) (hr : Co.raw n s = (l, s')) : Calls Tryd.prog fn #[v, .int .i64 n] w (RowOut C v A L W0 X0 l s') := by
  obtain ⟨B, h⟩ := h
  exact (C.raw hf h.at_ h.rd h.ap n h0 h1).mono fun e w' ho => OneAt.of_row h ho hr
theorem OneAt.left {fn : FuncId} (hf : f.left = some fn) {n : Nat} (h : OneAt C v A L W0 X0 s w) (hr : Co.left s = n) : Calls Tryd.prog fn #[v] w fun e w' => e = .returned (.int .i64 (n : Nat)) ∧ Hid (OneAt C v A L W0 X0 s w') := by
  obtain ⟨B, h⟩ := h
  exact (C.left hf h.at_ h.rd h.ap).mono fun e w' ⟨he, hb⟩ => ⟨by rw [he, hr], B, h.below hb⟩
theorem OneAt.fin {fn : FuncId} (hf : f.fin = some fn) {n : Nat} (h : OneAt C v A L W0 X0 s w) (hr : Co.fin s = n) : Calls Tryd.prog fn #[v] w fun e w' => e = .returned (.int .i64 (n : Nat)) ∧ Hid (OneAt C v A L W0 X0 s w') := by
  obtain ⟨B, h⟩ := h
  exact (C.fin hf h.at_ h.rd h.ap).mono fun e w' ⟨he, hb⟩ => ⟨by rw [he, hr], B, h.below hb⟩
theorem OneAt.later {w' : World} (h : OneAt C v A L W0 X0 s w) (hb : Below w.heap.size w w') : OneAt C v A L W0 X0 s w' := by obtain ⟨B, h⟩ := h; exact ⟨B, h.below hb⟩
theorem OneAt.mod (h : OneAt C v A L W0 X0 s w) : Mod W0 w X0 := by obtain ⟨B, h⟩ := h; exact h.mod
end
def OneP {f : RFns} (C : RSaid f) (v : Value) (A : Option Addr) (L : List UInt8) (W0 : World) (s : Co.Rs) (Q : Nat → Prop) (w : World) : Prop :=
  ∃ B, One C v A L W0 (fun _ => False) s B w ∧ ∀ b, Q b → ¬ B b ∧ b < w.heap.size
section
variable {f : RFns} {C : RSaid f} {v : Value} {A : Option Addr} {L : List UInt8} {W0 : World} {s : Co.Rs} {Q : Nat → Prop} {w : World}
theorem OneP.low (h : OneP C v A L W0 s Q w) : Below W0.heap.size W0 w := by obtain ⟨B, h, _⟩ := h; exact h.mod.below fun _ hf => hf.elim
theorem OneP.below {w' : World} (h : OneP C v A L W0 s Q w) (hb : Below w.heap.size w w') : OneP C v A L W0 s Q w' := by
  obtain ⟨B, h, hQ⟩ := h
  exact ⟨B, h.below hb, fun b hb2 => ⟨(hQ b hb2).1, Nat.lt_of_lt_of_le (hQ b hb2).2 hb.size⟩⟩
def OnePOut {f : RFns} (C : RSaid f) (v : Value) (A : Option Addr) (L : List UInt8) (W0 : World) (x : Value) (s : Co.Rs) (Q : Nat → Prop) (w : World) (e : Ending) (w' : World) : Prop :=
  e = .returned x ∧ Hid (OneP C v A L W0 s Q w') ∧ Hid (∀ b, Q b → w'.heap[b]? = w.heap[b]?)
theorem OneP.of_out {B : Nat → Prop} {x : Value} {s' : Co.Rs} {e : Ending} {w' : World} (h : One C v A L W0 (fun _ => False) s B w) (hQ : ∀ b, Q b → ¬ B b ∧ b < w.heap.size) (ho : ROut C.At v A L x s' B w e w') : OnePOut C v A L W0 x s' Q w e w' := by
  obtain ⟨rfl, S', ha, hm, hs⟩ := ho
  refine ⟨rfl, ⟨S', h.step ha hm hs, fun b hb => ⟨fun hB => ?_, Nat.lt_of_lt_of_le (hQ b hb).2 hm.size⟩⟩, fun b hb => hm.block b (hQ b hb).2 (hQ b hb).1⟩
  rcases hs b hB with h1 | h1
  · exact (hQ b hb).1 h1
  · have := (hQ b hb).2
    omega
theorem OneP.byte {fn : FuncId} (hf : f.byte = some fn) {r : Nat} {s' : Co.Rs} (h : OneP C v A L W0 s Q w) (hr : Co.num 1 s = (r, s')) : Calls Tryd.prog fn #[v] w (OnePOut C v A L W0 (.int .i64 (r : Nat)) s' Q w) := by
  obtain ⟨B, h, hQ⟩ := h
  refine (C.byte hf h.at_ h.rd h.ap).mono fun e w' ho => ?_
  have := OneP.of_out h hQ ho
  rwa [hr] at this
theorem OneP.short {fn : FuncId} (hf : f.short = some fn) {r : Nat} {s' : Co.Rs} (h : OneP C v A L W0 s Q w) (hr : Co.num 2 s = (r, s')) : Calls Tryd.prog fn #[v] w (OnePOut C v A L W0 (.int .i64 (r : Nat)) s' Q w) := by
  obtain ⟨B, h, hQ⟩ := h
  refine (C.short hf h.at_ h.rd h.ap).mono fun e w' ho => ?_
  have := OneP.of_out h hQ ho
  rwa [hr] at this
theorem OneP.long {fn : FuncId} (hf : f.long = some fn) {r : Nat} {s' : Co.Rs} (h : OneP C v A L W0 s Q w) (hr : Co.num 8 s = (r, s')) : Calls Tryd.prog fn #[v] w (OnePOut C v A L W0 (.int .u64 (r : Nat)) s' Q w) := by
  obtain ⟨B, h, hQ⟩ := h
  refine (C.long hf h.at_ h.rd h.ap).mono fun e w' ho => ?_
  have := OneP.of_out h hQ ho
  rwa [hr] at this
theorem OneP.flag {fn : FuncId} (hf : f.flag = some fn) {r : Bool} {s' : Co.Rs} (h : OneP C v A L W0 s Q w) (hr : Co.flag s = (r, s')) : Calls Tryd.prog fn #[v] w (OnePOut C v A L W0 (.bool r) s' Q w) := by
  obtain ⟨B, h, hQ⟩ := h
  refine (C.flag hf h.at_ h.rd h.ap).mono fun e w' ho => ?_
  have := OneP.of_out h hQ ho
  rwa [hr] at this
theorem OneP.fin {fn : FuncId} (hf : f.fin = some fn) {n : Nat} (h : OneP C v A L W0 s Q w) (hr : Co.fin s = n) : Calls Tryd.prog fn #[v] w fun e w' => e = .returned (.int .i64 (n : Nat)) ∧ Hid (Below w.heap.size w w') := by
  obtain ⟨B, h, hQ⟩ := h
  exact (C.fin hf h.at_ h.rd h.ap).mono fun e w' ⟨he, hb⟩ => ⟨by rw [he, hr], hb⟩
def OnePRow {f : RFns} (C : RSaid f) (v : Value) (A : Option Addr) (L : List UInt8) (W0 : World) (l : List UInt8) (s : Co.Rs) (Q : Nat → Prop) (w : World) (e : Ending) (w' : World) : Prop :=
  ∃ X c, e = .returned (.slice X l.length c) ∧ l.length ≤ c ∧ Hid (Rd w' X l) ∧ Hid (OneP C v A L W0 s Q w') ∧ Hid (∀ b, Q b → w'.heap[b]? = w.heap[b]?)
theorem OneP.of_row {B : Nat → Prop} {l : List UInt8} {s' : Co.Rs} {r : List UInt8 × Co.Rs} {e : Ending} {w' : World} (h : One C v A L W0 (fun _ => False) s B w) (hQ : ∀ b, Q b → ¬ B b ∧ b < w.heap.size) (ho : RRow C.At v A L r B w e w') (hr : r = (l, s')) : OnePRow C v A L W0 l s' Q w e w' := by
  subst hr
  obtain ⟨X, c, S', T, rfl, hc, hrow, ha, hm, hs, ht⟩ := ho
  have h2 := h.step ha hm hs
  refine ⟨X, c, rfl, hc, hrow.now h2.rd, ⟨S', h2, fun b hb => ⟨fun hB => ?_, Nat.lt_of_lt_of_le (hQ b hb).2 hm.size⟩⟩, fun b hb => hm.block b (hQ b hb).2 (hQ b hb).1⟩
  rcases hs b hB with h1 | h1
  · exact (hQ b hb).1 h1
  · have := (hQ b hb).2
    omega
theorem OneP.bytes {fn : FuncId} (hf : f.bytes = some fn) {l : List UInt8} {s' : Co.Rs} (h : OneP C v A L W0 s Q w) (hr : Co.bytes s = (l, s')) : Calls Tryd.prog fn #[v] w (OnePRow C v A L W0 l s' Q w) := by
  obtain ⟨B, h, hQ⟩ := h
  exact (C.bytes hf h.at_ h.rd h.ap).mono fun e w' ho => OneP.of_row h hQ ho hr
end
end Go.Proofs.YtmcbpgbiephllaaDoor

namespace Go.Proofs.YtmcbpgbiephllaaDoor
open Go.RowKit Rc
theorem OneAt.low {f : RFns} {C : RSaid f} {v : Value} {A : Option Addr} {L : List UInt8} {W0 w : World} {s : Co.Rs} (h : OneAt C v A L W0 (fun _ => False) s w) : Below W0.heap.size W0 w := h.mod.below fun _ hf => hf.elim
end Go.Proofs.YtmcbpgbiephllaaDoor

namespace Go.Proofs.YtmcbpgbiephllaaDoor
open Go.RowKit Rc

end Go.Proofs.YtmcbpgbiephllaaDoor

namespace Go.Proofs.YtmcbpgbiephllaaDoor
open Go.RowKit

end Go.Proofs.YtmcbpgbiephllaaDoor

namespace Go.Proofs.YtmcbpgbiephllaaDoor
open Go.RowKit
def RHd (g : Nat) (T : TypeId) (A : Option Addr) (L : List UInt8) (cap : Nat) (s : Co.Rs) (w : World) : Prop :=
  ∃ k, k ≤ L.length ∧ s.rem = L.drop k ∧ Blk w g T [.slice A L.length cap, .int .i64 (k : Nat), .int .i64 (s.why : Nat)]
end Go.Proofs.YtmcbpgbiephllaaDoor

namespace Go.Proofs.YtmcbpgbiephllaaDoor
open Go.RowKit
structure RIn (g : Nat) (T : TypeId) (A : Option Addr) (L : List UInt8) (cap : Nat) (s : Co.Rs) (w : World) : Prop where
  hd : RHd g T A L cap s w
  rd : Rd w A L
  off : 0 < L.length → A.map (·.block) ≠ some g
  fits : L.length ≤ cap
  small : L.length ≤ 1099511620000
theorem RHd.lt {g : Nat} {T : TypeId} {A : Option Addr} {L : List UInt8} {cap : Nat} {s : Co.Rs} {w : World} (h : RHd g T A L cap s w) : g < w.heap.size := by
  obtain ⟨_, _, _, h⟩ := h; exact h.lt
theorem RIn.below {g : Nat} {T : TypeId} {A : Option Addr} {L : List UInt8} {cap : Nat} {s : Co.Rs} {w w' : World} (h : RIn g T A L cap s w) (hb : Below w.heap.size w w') : RIn g T A L cap s w' := by
  obtain ⟨⟨k, h1, h2, h3⟩, h4, h5, h6, h7⟩ := h
  exact ⟨⟨k, h1, h2, h3.below hb h3.lt⟩, h4.below hb, h5, h6, h7⟩
end Go.Proofs.YtmcbpgbiephllaaDoor

namespace Go.Proofs.YtmcbpgbiephllaaDoor
open Go.RowKit

end Go.Proofs.YtmcbpgbiephllaaDoor

namespace Go.Proofs.YtmcbpgbiephllaaDoor
open Go.RowKit Rc
theorem RHd.keep {g : Nat} {T : TypeId} {A : Option Addr} {L : List UInt8} {cap : Nat} {s : Co.Rs} {w w' : World} (h : RHd g T A L cap s w) (hb : w'.heap[g]? = w.heap[g]?) : RHd g T A L cap s w' := by
  obtain ⟨k, h1, h2, h3⟩ := h
  exact ⟨k, h1, h2, hb.trans h3⟩

end Go.Proofs.YtmcbpgbiephllaaDoor

namespace Go.Proofs.YtmcbpgbiephllaaDoor
open Go.RowKit Rc

end Go.Proofs.YtmcbpgbiephllaaDoor

namespace Go.Proofs.YtmcbpgbiephllaaDoor
open Go.RowKit Rc

def WAt (C : WSaid) (v : Value) (w0 : World) (l : List UInt8) (w : World) : Prop := ∃ S, C.At v l S w ∧ Below w0.heap.size w0 w ∧ ∀ b, S b → w0.heap.size ≤ b
def WRet (C : WSaid) (v : Value) (w0 : World) (l : List UInt8) (e : Ending) (w : World) : Prop := (∃ x, e = .returned x) ∧ Hid (WAt C v w0 l w)
section
variable {C : WSaid} {v : Value} {w0 w : World} {l : List UInt8}
theorem WAt.out {S : Nat → Prop} {l' : List UInt8} {e : Ending} {w' : World} (hb : Below w0.heap.size w0 w) (hS : ∀ b, S b → w0.heap.size ≤ b) (h : WOut C.At v l' S w e w') : WRet C v w0 l' e w' := by
  obtain ⟨hx, S', hat, hm, hs⟩ := h
  exact ⟨hx, S', hat, wout_below hb hS hm, fun b h => (hs b h).elim (hS b) (fun h => Nat.le_trans hb.size h)⟩
theorem WAt.byte (h : WAt C v w0 l w) (hl : l.length ≤ 1099511500000) (n : Nat) (hn : n ≤ 9223372036854775807) : Calls Tryd.prog 27 #[v, .int .i64 (n : Nat)] w (WRet C v w0 (l ++ Co.wByte n)) := by
  obtain ⟨S, hat, hb, hS⟩ := h
  exact (C.byte hat hl n hn).mono fun e w' h => WAt.out hb hS h
theorem WAt.short (h : WAt C v w0 l w) (hl : l.length ≤ 1099511500000) (n : Nat) (hn : n ≤ 9223372036854775807) : Calls Tryd.prog 32 #[v, .int .i64 (n : Nat)] w (WRet C v w0 (l ++ Co.wShort n)) := by
  obtain ⟨S, hat, hb, hS⟩ := h
  exact (C.short hat hl n hn).mono fun e w' h => WAt.out hb hS h
theorem WAt.long (h : WAt C v w0 l w) (hl : l.length ≤ 1099511500000) (n : Nat) (hn : n ≤ 18446744073709551615) : Calls Tryd.prog 28 #[v, .int .u64 (n : Nat)] w (WRet C v w0 (l ++ Co.wLong n)) := by
  obtain ⟨S, hat, hb, hS⟩ := h
  exact (C.long hat hl n hn).mono fun e w' h => WAt.out hb hS h
theorem WAt.bytes (h : WAt C v w0 l w) (hl : l.length ≤ 1099511500000) (A : Option Addr) (x : List UInt8) (c : Nat) (hr : Rd w0 A x) (hc : x.length ≤ c) (hx : x.length ≤ 1000000) : Calls Tryd.prog 29 #[v, .slice A x.length c] w (WRet C v w0 (l ++ Co.wBytes x)) := by
  obtain ⟨S, hat, hb, hS⟩ := h
  refine (C.bytes hat hl A x c (hr.below hb) hc hx fun h0 b hA hB => ?_).mono fun e w' h => WAt.out hb hS h
  obtain ⟨b', off, rfl, hlt, _⟩ := hr h0
  simp at hA
  have := hS b hB
  omega
theorem WAt.low (h : WAt C v w0 l w) : Below w0.heap.size w0 w := by obtain ⟨_, _, h, _⟩ := h; exact h
theorem WAt.more {w' : World} (h : WAt C v w0 l w) (hb : Below w.heap.size w w') : WAt C v w0 l w' := by
  obtain ⟨S, hat, hb0, hS⟩ := h
  exact ⟨S, C.keep hat hb.size (fun b hB => hb.block b (C.lt hat b hB)), hb0.trans (hb.mono hb0.size), hS⟩
theorem WAt.done (h : WAt C v w0 l w) : Calls Tryd.prog 31 #[v] w fun e w' => ∃ X c, e = .returned (.slice X l.length c) ∧ l.length ≤ c ∧ Hid (w'.ownsRow 0 5 1 (.slice X l.length c) l.length (Lib.byteCells l)) ∧ Hid (∀ b, (Value.slice X l.length c).ownBlock = some b → w0.heap.size ≤ b) ∧ Hid (Below w.heap.size w w') ∧ Hid (WAt C v w0 l w') := by
  have h' := h
  obtain ⟨S, hat, hb, hS⟩ := h
  refine (C.done hat).mono ?_
  rintro e w' ⟨x, rfl, hown, hb2, ho⟩
  obtain ⟨X, c, rfl, hc, hr⟩ := own_form hown
  exact ⟨X, c, rfl, hc, hown, fun b hb3 => (ho b hb3).elim (hS b) (fun h => Nat.le_trans hb.size h), hb2, h'.more hb2⟩
end
end Go.Proofs.YtmcbpgbiephllaaDoor

namespace Go.Proofs.YtmcbpgbiephllaaDoor
open Go.RowKit Rc

end Go.Proofs.YtmcbpgbiephllaaDoor

namespace Go.Proofs.YtmcbpgbiephllaaDoor
open Go.RowKit

end Go.Proofs.YtmcbpgbiephllaaDoor

namespace Go.Proofs.YtmcbpgbiephllaaDoor
open Go.RowKit

end Go.Proofs.YtmcbpgbiephllaaDoor

namespace Go.Proofs.YtmcbpgbiephllaaDoor
open Go.RowKit Rc

section
variable {id kind links size : Int} {till : Nat} {shut : Bool}
end
end Go.Proofs.YtmcbpgbiephllaaDoor

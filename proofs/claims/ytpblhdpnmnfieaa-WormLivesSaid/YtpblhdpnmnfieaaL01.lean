/-
  OWN WORK. BaMem, ClFrame, ClU64s, WoArgs, BaIn64, BaRow, BaFrame, BaBools
-/
import Derived.Test.YtpblhdpnmnfieaaChecked
import Derived.WalkKit
import Derived.Outline
import Derived.WalkLawsBesides
import Derived.Below
import Derived.Laws.OwnMore
import Derived.Deep.Draws
import Derived.Laws.Rows
import Derived.Deep.AppendLies
import Derived.Laws.CopyOwn
import Derived.Laws.BitsAllLaws
import Derived.Test.YtpblhdpnmnfieaaRows
import Derived.Lib.UnsafeStr
import Derived.OwnWalk
import Derived.Laws.AppendOwn
import Derived.RegionTactic
import Derived.BigRegion
import Derived.Deep.QuietTactic
import Derived.BigQuiet
import Derived.Lib.Hide
import Derived.Deep.Cut
import Derived.Deep.WholeRow
import Derived.Laws.AppendOwnNone
import Derived.StillTailTactics
import Derived.Maps.AppendAt
import Derived.Deep.RegionHeld3
import Derived.Deep.DeepCutAuto
import Derived.Maps.RangeWalk
import Derived.Lib.SlBytesConst
import Derived.Laws.BytesArg
import Derived.IntWalk
import Derived.ChangeSame
import Derived.ChangeVars
import Derived.JoinedOf
import Derived.RowKit
import Derived.RowKitTokens
import Derived.LaidLaws
import Derived.Deep.Slices
import Derived.ProofKit
import Derived.Carry
import Derived.OpenShut

/-
  OWN WORK. Blocks that are known whole; what stays.
-/
namespace Go.Proofs.Ytpblhdpnmnfieaa
open Go.RowKit

/-- Block g is just these cells, none frozen. -/
def Blk (w : World) (g : Nat) (t : TypeId) (cs : List Value) : Prop := w.heap[g]? = some (.cells cs.toArray t (0, 0))

section
variable {w w' : World} {g : Nat} {t : TypeId} {cs : List Value}
theorem Blk.lt (h : Blk w g t cs) : g < w.heap.size := by
  rcases Nat.lt_or_ge g w.heap.size with hlt | hge
  · exact hlt
  · unfold Blk at h; rw [Array.getElem?_eq_none hge] at h; cases h

theorem Blk.cell (h : Blk w g t cs) (i : Nat) : w.cell? ⟨g, i, none⟩ = cs[i]? := by
  rw [cell_of_row w g i cs.toArray t (0, 0) h]; simp

theorem Blk.frozen (h : Blk w g t cs) (i : Nat) : w.frozen? ⟨g, i, none⟩ = false := by
  unfold Blk at h
  simp [World.frozen?, h]

theorem Blk.new (w : World) (t : TypeId) (cs : List Value) : Blk (w.alloc (.cells cs.toArray t)) w.heap.size t cs := heap_alloc_new w _

theorem Blk.drew (h : Blk w g t cs) : Blk w.drew g t cs := h

theorem Blk.drewN (h : Blk w g t cs) (n : Nat) : Blk (w.drewN n) g t cs := h

theorem Blk.alloc (h : Blk w g t cs) (o : Obj) : Blk (w.alloc o) g t cs := (Below.heap_alloc w o g h.lt).trans h

theorem Blk.set_ (h : Blk w g t cs) (i : Nat) (u : Value) : Blk (w.setCell ⟨g, i, none⟩ u) g t (cs.set i u) := by
  unfold Blk at h ⊢
  simp [World.setCell, Array.getElem?_modify, h]

theorem Blk.far (h : Blk w g t cs) {p : Addr} (hp : g ≠ p.block) (u : Value) : Blk (w.setCell p u) g t cs := (Below.heap_setCell w p u g hp).trans h

theorem Blk.row (h : Blk w g t cs) (cs' : List Value) : Blk (w.setRow g cs'.toArray) g t cs' := setRow_heap w g _ _ t _ h

theorem Blk.rowFar (h : Blk w g t cs) {k : Nat} (hk : g ≠ k) (c : Array Value) : Blk (w.setRow k c) g t cs := (setRow_other w k g c hk).trans h

theorem Blk.below {B : Nat} (h : Blk w g t cs) (hb : Below B w w') (hg : g < B) : Blk w' g t cs := (hb.block g hg).trans h

theorem Blk.grown {row : Option Nat} (h : Blk w g t cs) (hb : w.grownBy w' row) (hg : some g ≠ row) : Blk w' g t cs := (hb.block g h.lt hg).trans h

theorem Blk.ne_ {g' : Nat} {t' : TypeId} {cs' : List Value} (h : Blk w g t cs) (h' : Blk w g' t' cs') (hne : t ≠ t') : g ≠ g' := by
  rintro rfl
  unfold Blk at h h'
  rw [h] at h'
  injection h' with h'
  injection h' with _ ht
  exact hne ht
end

theorem bcell {W w1 : World} (hb : Below W.heap.size W w1) : (∀ b o, b < W.heap.size → w1.cell? ⟨b, o, none⟩ = W.cell? ⟨b, o, none⟩) ∧ (∀ b o, b < W.heap.size → w1.frozen? ⟨b, o, none⟩ = W.frozen? ⟨b, o, none⟩) :=
  ⟨fun b o h => hb.cell (p := ⟨b, o, none⟩) h, fun b o h => hb.frozen (p := ⟨b, o, none⟩) h⟩

theorem undrew {b : Nat} {w w' : World} (h : Below b w.drew w') : Below b w w' := ⟨h.os, h.tape, h.output, h.size, h.block⟩

theorem block_of_add (a : Addr) (n : Nat) : (a.add n).block = a.block := by unfold Addr.add; split <;> rfl

theorem add_of_add (a : Addr) (i j : Nat) : (a.add i).add j = a.add (i + j) := by
  unfold Addr.add
  by_cases hi : i = 0 <;> by_cases hj : j = 0 <;> simp [hi, hj, Nat.add_assoc]

/-- What was there stays, but for block g. -/
def Keeps (w w' : World) (g : Nat) : Prop := w.grownBy w' (some g)

theorem Keeps.refl (w : World) (g : Nat) : Keeps w w g := ⟨rfl, rfl, rfl, Nat.le_refl _, fun _ _ _ => rfl⟩

theorem Keeps.trans {a b c : World} {g : Nat} (h : Keeps a b g) (k : Keeps b c g) : Keeps a c g :=
  ⟨k.os.trans h.os, k.tape.trans h.tape, k.output.trans h.output, Nat.le_trans h.size k.size, fun i hi hn => (k.block i (Nat.lt_of_lt_of_le hi h.size) hn).trans (h.block i hi hn)⟩

theorem Keeps.of_below {a b : World} {g : Nat} (h : Below a.heap.size a b) : Keeps a b g := ⟨h.os, h.tape, h.output, h.size, fun i hi _ => h.block i hi⟩

theorem Keeps.below {B : Nat} {a b c : World} {g : Nat} (h : Below B a b) (k : Keeps b c g) (hg : B ≤ g) (hB : B ≤ b.heap.size) : Below B a c :=
  h.grown k hB (fun i hi => by cases hi; exact hg)

theorem Keeps.setCell {a b : World} {g : Nat} (h : Keeps a b g) (i : Nat) (u : Value) : Keeps a (b.setCell ⟨g, i, none⟩ u) g :=
  h.trans ⟨rfl, rfl, rfl, by simp [World.setCell], fun k _ hn => Below.heap_setCell _ _ _ _ (fun e => hn (by rw [e]))⟩

theorem Keeps.setRow {a b : World} {g : Nat} (h : Keeps a b g) (c : Array Value) : Keeps a (b.setRow g c) g :=
  h.trans ⟨rfl, rfl, rfl, by simp [World.setRow], fun k _ hn => setRow_other b g k c (fun e => hn (by rw [e]))⟩

theorem Keeps.drew {a b : World} {g : Nat} (h : Keeps a b g) : Keeps a b.drew g := ⟨h.os, h.tape, h.output, h.size, h.block⟩

theorem Keeps.drewN {a b : World} {g : Nat} (h : Keeps a b g) (n : Nat) : Keeps a (b.drewN n) g := ⟨h.os, h.tape, h.output, h.size, h.block⟩

theorem Keeps.cell {a b : World} {g : Nat} (h : Keeps a b g) {p : Addr} (hp : p.block < a.heap.size) (hg : p.block ≠ g) : b.cell? p = a.cell? p :=
  World.cell?_of_block (w := a) (h.block p.block hp (fun e => hg (by injection e)))

/-- The world as it stands is forgotten but for what is said of it. -/
theorem wp_world {P : Program} {c : Code} {Q : Exit → Act → World → Prop} {a : Act} {w : World} (F : World → Prop) (h : F w) (k : ∀ w', F w' → c.wp P Q a w') : c.wp P Q a w := k w h

theorem add_plain (g off j : Nat) : (⟨g, off, none⟩ : Addr).add j = ⟨g, off + j, none⟩ := by
  unfold Addr.add
  split <;> simp_all

theorem Blk.src {w : World} {g : Nat} {t : TypeId} {cs : List Value} (h : Blk w g t cs) (off : Nat) {j : Nat} {v : Value} (hv : cs[off + j]? = some v) : w.cell? ((⟨g, off, none⟩ : Addr).add j) = some v := by
  rw [add_plain, h.cell]; exact hv

theorem Blk.src0 {w : World} {g : Nat} {t : TypeId} {cs : List Value} (h : Blk w g t cs) {j : Nat} {v : Value} (hv : cs[j]? = some v) : w.cell? ((⟨g, 0, none⟩ : Addr).add j) = some v :=
  h.src 0 (by rw [Nat.zero_add]; exact hv)

/-- An array that is part of a block, loaded whole. -/
theorem run_loadVar_part {P : Program} (w : World) (ad : Addr) (ty : TypeId) (cs : List Value) (d : TypeDesc) (hc : ∀ j v, cs[j]? = some v → w.cell? (ad.add j) = some v)
    (hu : P.underlying ty = some d) (hd : (match d with | .struct _ | .array _ _ => true | _ => false) = true) (hi : (P.info? ty).map (·.size) = some cs.length) :
    (loadVar ty ad).run P w = .ok (.agg cs.toArray) w := by
  have hl : (loadCells ad cs.length).run P w = .ok cs.toArray w := run_loadCells_list (P := P) w ad cs hc
  cases hq : P.info? ty with
  | none => simp [hq] at hi
  | some i =>
    have hs : i.size = cs.length := by simpa [hq] using hi
    have hagg : (isAgg ty).run P w = .ok true w := by
      unfold isAgg
      rw [Sem.run_bind, run_underlying hu w]
      cases d <;> simp_all
    simp [loadVar, Sem.run_bind, hagg, sizeOf, typeInfo, hq, hs, hl]

theorem wpList_load_part {P : Program} {w : World} {ops : Array Oper} {rest : List Oper} {o : Oper} {a : Act} {Q : Exit → Act → World → Prop} (hgd : o.guard = none) (ty : TypeId) (x : Operand) (ho : o.op = .load ty x)
    (ad : Addr) (hx : a.eval x = .pointer (some ad)) (cs : List Value) (d : TypeDesc) (hc : ∀ j v, cs[j]? = some v → w.cell? (ad.add j) = some v)
    (hu : P.underlying ty = some d) (hd : (match d with | .struct _ | .array _ _ => true | _ => false) = true) (hi : (P.info? ty).map (·.size) = some cs.length)
    (h : wpList P ops Q rest (a.put o.dst (.agg cs.toArray)) w) : wpList P ops Q (o :: rest) a w := by
  refine wpList_plain hgd fun K hK => ?_
  unfold Oper.wp execOp
  simp only [ho, hx, Instr.loadAt, Instr.sureAddr, Sem.run_bind, Sem.run_pure, Result.andThen_ok, run_loadVar_part w ad ty cs d hc hu hd hi]
  exact hK _ _ h

theorem ret_num {k : IntKind} {a b : Int} (h : a = b) : Ending.returned (.int k b) = Ending.returned (.int k a) := by rw [h]
end Go.Proofs.Ytpblhdpnmnfieaa

/-
  OWN WORK. A list of numbers of whatever kind, as a law reads it: it lies in memory cell by cell.
-/
namespace Go.Proofs.Ytpblhdpnmnfieaa
open Go.ChangeShapes Go.WideShapes Go.RowKit Go.Deep

theorem Try.own : ownKnob Try.prog.godebug = none := by kernel_rfl

theorem Try.laidOut : laidOutB Try.prog = true := by kernel_rfl


/-- A slice of numbers, read as data, as it lies in memory. -/
theorem nums_of {H : Type} {enc : TypeId × Value → H} {W : World} {fuel : Nat} {v : Value} {x : DataW H × List MemPlace} {t e : TypeId} {k : IntKind} (ht : Try.prog.underlying t = some (.slice e)) (he : Try.prog.underlying e = some (.int k)) (hc : Try.prog.cellsOf e = 1)
    (h : DataW.trod enc Try.prog W 0 (fun _ => true) true fuel t [v] = some x) :
    ∃ (ns : List Int) (A : Option Addr) (cap : Nat), v = .slice A ns.length cap ∧ ns.length ≤ cap ∧ cap ≤ maxLen ∧ ∀ (j : Nat) (n : Int), ns[j]? = some n → (Lit.int k n).wf = true ∧ ∃ b off, A = some ⟨b, off, none⟩ ∧ b < W.heap.size ∧ W.cell? ⟨b, off + j, none⟩ = some (.int k n) := by
  rcases open_slice1 ht hc h with ⟨hcs, _⟩ | ⟨a, len, cap, m, n, V, D, Pl, hcs, _, hl, hm, hmm, _, hi⟩
  · simp only [List.cons.injEq, and_true] at hcs
    exact ⟨[], none, 0, hcs, by simp, by simp, fun j n hj => by simp at hj⟩
  · simp only [List.cons.injEq, and_true] at hcs
    subst hcs
    simp only [if_true] at hmm
    have key : ∀ i : Fin len, ∃ n : Int, W.cell? (a.add i) = some (.int k n) ∧ (Lit.int k n).wf = true := fun i => by
      obtain ⟨h1, h2⟩ := hi i (by have := i.2; omega)
      obtain ⟨n, h3, _, h4⟩ := DataW.trod_int he h2
      simp only [List.cons.injEq, and_true] at h3
      exact ⟨n, by rw [h1, h3], h4⟩
    obtain ⟨f, hf⟩ := Classical.axiomOfChoice key
    refine ⟨List.ofFn f, some a, cap, by rw [List.length_ofFn], by rw [List.length_ofFn]; exact hl, hm, fun j n hj => ?_⟩
    have hjl : j < len := by
      have := (List.getElem?_eq_some_iff.1 hj).1
      simpa using this
    have e : n = f ⟨j, hjl⟩ := by
      rw [List.getElem?_ofFn, dif_pos hjl] at hj
      exact (Option.some.inj hj).symm
    subst e
    have hp : ∃ b off, a = ⟨b, off, none⟩ := by
      have hs := World.cell?_spot (hf ⟨0, by omega⟩).1
      obtain ⟨b, off, spot⟩ := a
      have : spot = none := by
        simpa [Addr.add] using hs
      exact ⟨b, off, by rw [this]⟩
    obtain ⟨b, off, rfl⟩ := hp
    have g := hf ⟨j, hjl⟩
    simp only [add_plain] at g
    refine ⟨g.2, b, off, rfl, ?_, g.1⟩
    rcases Nat.lt_or_ge b W.heap.size with hlt | hge
    · exact hlt
    · have := g.1
      simp [World.cell?, Array.getElem?_eq_none hge] at this

theorem max_le {n : Nat} (h : n ≤ maxLen) : n ≤ 9223372036854775807 := by unfold maxLen at h; omega

end Go.Proofs.Ytpblhdpnmnfieaa

/-
  OWN WORK. A list of times, as it is read.
-/
namespace Go.Proofs.Ytpblhdpnmnfieaa
open Go.ChangeShapes Go.WideShapes Go.RowKit Go.Deep

theorem Try.cellsU64 : Try.prog.cellsOf 22 = 1 := by kernel_rfl

/-- A slice at A reads as these times. -/
def RdU (w : World) (A : Option Addr) (l : List Int) : Prop :=
  ∀ j x, l[j]? = some x → ∃ b off, A = some ⟨b, off, none⟩ ∧ b < w.heap.size ∧ w.cell? ⟨b, off + j, none⟩ = some (.int .u64 x)

theorem RdU.below {n : Nat} {w w' : World} {A : Option Addr} {l : List Int} (h : RdU w A l) (hb : Below n w w') (hn : w.heap.size ≤ n) : RdU w' A l := fun j x hj => by
  obtain ⟨b, off, h2, h3, h4⟩ := h j x hj
  have hc : w'.cell? ⟨b, off + j, none⟩ = w.cell? ⟨b, off + j, none⟩ := hb.cell (p := ⟨b, off + j, none⟩) (Nat.lt_of_lt_of_le h3 hn)
  exact ⟨b, off, h2, Nat.lt_of_lt_of_le h3 hb.size, hc.trans h4⟩

def timeCells (l : List Int) : List Value := l.map fun x => .int .u64 x
theorem rdu_alloc (w : World) (l : List Int) (t : TypeId) (fz : Nat × Nat) : RdU (w.alloc (.cells (timeCells l).toArray t fz)) (some ⟨w.heap.size, 0, none⟩) l := fun j x hx => by
  refine ⟨_, _, rfl, by rw [World.size_alloc]; omega, ?_⟩
  rw [cell_of_row _ w.heap.size (0 + j) _ _ _ (heap_alloc_new w _), Nat.zero_add]
  simp only [List.getElem?_toArray, timeCells, List.getElem?_map, hx, Option.map_some]

theorem u64s_of {H : Type} {enc : TypeId × Value → H} {W : World} {fuel : Nat} {v : Value} {x : DataW H × List MemPlace}
    (h : DataW.trod enc Try.prog W 0 (fun _ => true) true fuel 23 [v] = some x) :
    ∃ (l : List Int) (A : Option Addr) (cap : Nat), v = .slice A l.length cap ∧ l.length ≤ cap ∧ l.length ≤ 9223372036854775807 ∧ RdU W A l := by
  obtain ⟨ns, A, cap, hv, hl, hm, hn⟩ := nums_of Try.underlying23 Try.underlying22 Try.cellsU64 h
  exact ⟨ns, A, cap, hv, hl, max_le (Nat.le_trans hl hm), fun j n hj => (hn j n hj).2⟩
end Go.Proofs.Ytpblhdpnmnfieaa

/-
  OWN WORK. Lists of u64 numbers out of a law's arguments, none below zero.
-/
namespace Go.Proofs.Ytpblhdpnmnfieaa
open Go.ChangeShapes Go.WideShapes Go.RowKit Go.Deep
theorem u64s_nn {H : Type} {enc : TypeId × Value → H} {W : World} {fuel : Nat} {v : Value} {x : DataW H × List MemPlace}
    (h : DataW.trod enc Try.prog W 0 (fun _ => true) true fuel 23 [v] = some x) :
    ∃ (l : List Int) (A : Option Addr) (cap : Nat), v = .slice A l.length cap ∧ l.length ≤ cap ∧ l.length ≤ 9223372036854775807 ∧ (RdU W A l ∧ ∀ x ∈ l, 0 ≤ x) := by
  obtain ⟨ns, A, cap, hv, hl, hm, hn⟩ := nums_of Try.underlying23 Try.underlying22 Try.cellsU64 h
  refine ⟨ns, A, cap, hv, hl, max_le (Nat.le_trans hl hm), fun j n hj => (hn j n hj).2, fun x hx => ?_⟩
  obtain ⟨j, hj⟩ := List.getElem?_of_mem hx
  have := bounds_u64 (hn j x hj).1
  omega
end Go.Proofs.Ytpblhdpnmnfieaa

/-
  OWN WORK. The reach of int.
-/
namespace Go.Proofs.Ytpblhdpnmnfieaa
open Go.RowKit
def In64 (n : Int) : Prop := -9223372036854775808 ≤ n ∧ n ≤ 9223372036854775807
end Go.Proofs.Ytpblhdpnmnfieaa

/-
  OWN WORK. Rows of bytes, as they are read and as they are a call's own; lists of numbers; parts of a list.
-/
namespace Go.Proofs.Ytpblhdpnmnfieaa
open Go.RowKit

/-- A slice's address, behind which these bytes stand. -/
def Rd (w : World) (A : Option Addr) (l : List UInt8) : Prop :=
  0 < l.length → ∃ b off, A = some ⟨b, off, none⟩ ∧ b < w.heap.size ∧ ∀ j x, l[j]? = some x → w.cell? ⟨b, off + j, none⟩ = some (.int .u8 x.toNat)

theorem Rd.nil (w : World) (A : Option Addr) : Rd w A [] := fun h => absurd h (by simp)

theorem Rd.keep {w w' : World} {A : Option Addr} {l : List UInt8} (h : Rd w A l) (hb : ∀ p : Addr, p.block < w.heap.size → A.map (·.block) = some p.block → w'.cell? p = w.cell? p) (hs : w.heap.size ≤ w'.heap.size) : Rd w' A l := by
  intro hl
  obtain ⟨b, off, rfl, hlt, hc⟩ := h hl
  exact ⟨b, off, rfl, by omega, fun j x hx => (hb ⟨b, off + j, none⟩ hlt rfl).trans (hc j x hx)⟩

theorem Rd.below {w w' : World} {A : Option Addr} {l : List UInt8} (h : Rd w A l) (hb : Below w.heap.size w w') : Rd w' A l := h.keep (fun _ hp _ => hb.cell hp) hb.size

theorem Rd.keeps {w w' : World} {A : Option Addr} {l : List UInt8} {g : Nat} (h : Rd w A l) (hb : Keeps w w' g) (hg : 0 < l.length → A.map (·.block) ≠ some g) : Rd w' A l := fun hl =>
  h.keep (fun p hp e => hb.cell hp (fun e2 => hg hl (by rw [e, e2]))) hb.size hl

theorem Rd.far {w : World} {A : Option Addr} {l : List UInt8} (h : Rd w A l) {B : Nat} (hB : w.heap.size ≤ B) : 0 < l.length → A.map (·.block) ≠ some B := by
  intro hl
  obtain ⟨b, off, rfl, hb, _⟩ := h hl
  simp only [Option.map_some, ne_eq, Option.some.injEq]
  omega

theorem Rd.cut {w : World} {A : Option Addr} {l : List UInt8} (h : Rd w A l) (k cap : Nat) (hc : l.length ≤ cap) : Rd w (if cap = k then A else A.map (·.add k)) (l.drop k) := by
  intro hl
  rw [List.length_drop] at hl
  obtain ⟨b, off, rfl, hlt, hcell⟩ := h (by omega)
  rw [if_neg (by omega)]
  refine ⟨b, off + k, by simp [add_plain], hlt, fun j x hx => ?_⟩
  rw [List.getElem?_drop] at hx
  rw [Nat.add_assoc]
  exact hcell _ _ hx

theorem Rd.take {w : World} {A : Option Addr} {l : List UInt8} (h : Rd w A l) (k : Nat) : Rd w A (l.take k) := by
  intro hl
  rw [List.length_take] at hl
  obtain ⟨b, off, rfl, hlt, hcell⟩ := h (by omega)
  refine ⟨b, off, rfl, hlt, fun j x hx => hcell j x ?_⟩
  rw [List.getElem?_take] at hx
  split at hx
  · exact hx
  · cases hx

theorem Rd.at_ {w : World} {A : Option Addr} {l : List UInt8} (h : Rd w A l) (hl : 0 < l.length) : ∃ b off, A = some ⟨b, off, none⟩ ∧ b < w.heap.size ∧ ∀ j, j < l.length → w.cell? ⟨b, off + j, none⟩ = some (.int .u8 (l.getD j 0).toNat) := by
  obtain ⟨b, off, hA, hlt, hc⟩ := h hl
  refine ⟨b, off, hA, hlt, fun j hj => hc j _ ?_⟩
  simp [List.getElem?_eq_getElem hj]

theorem Try.infoU8 : (Try.prog.info? 5).map (fun i => (i.zero, i.size, i.bytes)) = some (some (.int .u8 0), 1, 1) := by kernel_rfl

theorem _root_.Go.World.ownsRow.ownBlock_ge {w : World} {base : Nat} {e : TypeId} {size n : Nat} {v : Value} {xs : List Value} (h : w.ownsRow base e size v n xs) (g : Nat) (hg : v.ownBlock = some g) : base ≤ g := by
  rcases h.2 with ⟨rfl, _⟩ | ⟨g', cap, cur, rfl, hb, _⟩
  · cases hg
  · have : g' = g := by simpa [Value.ownBlock] using hg
    omega

theorem own_mono {w : World} {base base' : Nat} {e : TypeId} {size n : Nat} {v : Value} {xs : List Value} (h : w.ownsRow base e size v n xs) (hb : base' ≤ base) : w.ownsRow base' e size v n xs := by
  refine ⟨h.1, ?_⟩
  rcases h.2 with h2 | ⟨g, cap, cur, h3, h4, h5⟩
  · exact .inl h2
  · exact .inr ⟨g, cap, cur, h3, by omega, h5⟩

/-- A copy into block g, of which the block and what stays are known. -/
theorem run_copy_keep {P : Program} (w : World) (dT sT ty elem : TypeId) (hu : P.underlying dT = some (.slice elem)) (hsz : (P.info? elem).map (·.size) = some 1)
    (dp sp : Option Addr) (dLen dCap sLen sCap : Nat) (g off : Nat) (cur : List Value) (t : TypeId) (hg : Blk w g t cur) (cs : List Value) (hn : cs.length = Nat.min sLen dLen)
    (hpos : 0 < cs.length → dp = some ⟨g, off, none⟩ ∧ ∃ ad, sp = some ad ∧ ∀ j v, cs[j]? = some v → w.cell? (ad.add j) = some v)
    (hfit : off + cs.length ≤ cur.length) (h1 : ∀ v ∈ cs, v.oneCell' = true) :
    ∃ w', (Builtin.copy_ #[dT, sT] ty #[.slice dp dLen dCap, .slice sp sLen sCap]).run P w = .ok (goInt cs.length) w' ∧ Blk w' g t (splice cur off cs) ∧ Keeps w w' g := by
  by_cases h0 : cs.length = 0
  · obtain rfl : cs = [] := List.eq_nil_of_length_eq_zero h0
    refine ⟨w, ?_, ?_, Keeps.refl w g⟩
    · exact run_copy_none w dT sT ty elem dp sp dLen dCap sLen sCap hu hsz (by rw [← hn]; rfl)
    · have e : splice cur off [] = cur := by simp [splice]
      rw [e]; exact hg
  · obtain ⟨rfl, ad, rfl, hsrc⟩ := hpos (by omega)
    refine ⟨_, run_copy_row (P := P) w dT sT ty elem g off dLen dCap ad sLen sCap cur.toArray t cs hu hsz hg hn hsrc (by simpa using hfit) h1, ?_, (Keeps.refl w g).setRow _⟩
    have e : cur.toArray.toList.take off ++ cs ++ cur.toArray.toList.drop (off + cs.length) = splice cur off cs := by simp [splice]
    rw [e]
    exact hg.row _

theorem step_copy_keep {P : Program} {ops : Array Oper} {o : Oper} {a : Act} {w : World} {K : Act → World → Prop} {Q : Exit → Act → World → Prop} {E : Prop} (hgd : o.guard = none) (d s : Operand) (dT sT : TypeId)
    (ho : o.op = .call { callee := .builtin .copy, args := #[d, s], argTypes := #[dT, sT] }) (elem : TypeId) (hu : P.underlying dT = some (.slice elem)) (hsz : (P.info? elem).map (·.size) = some 1)
    (dp sp : Option Addr) (dLen dCap sLen sCap : Nat) (hd : a.eval d = .slice dp dLen dCap) (hs : a.eval s = .slice sp sLen sCap)
    (g off : Nat) (cur : List Value) (t : TypeId) (hg : Blk w g t cur) (cs : List Value) (hn : cs.length = Nat.min sLen dLen)
    (hpos : 0 < cs.length → dp = some ⟨g, off, none⟩ ∧ ∃ ad, sp = some ad ∧ ∀ j v, cs[j]? = some v → w.cell? (ad.add j) = some v)
    (m : Nat) (hm : cs.length = m) (hfit : off + cs.length ≤ cur.length) (h1 : ∀ v ∈ cs, v.oneCell' = true)
    (h : ∀ w', Hid (Blk w' g t (splice cur off cs)) → Hid (Keeps w w' g) → K (a.put o.dst (goInt m)) w') :
    if Region.wanted o (yielded ops a.tmps) = true then Oper.wp P o a w K Q else E := by
  rw [if_pos (show Region.wanted o (yielded ops a.tmps) = true by simp [Region.wanted, hgd])]
  obtain ⟨w', hrun, hb, hk⟩ := run_copy_keep w dT sT o.type elem hu hsz dp sp dLen dCap sLen sCap g off cur t hg cs hn hpos hfit h1
  rw [hm] at hrun
  unfold Oper.wp
  simp [execOp, ho, resolve, invoke, builtin, hd, hs, hrun, Result.andThen]
  exact h w' hb hk

theorem wpList_copy_keep {P : Program} {w : World} {ops : Array Oper} {rest : List Oper} {o : Oper} {a : Act} {Q : Exit → Act → World → Prop} (hgd : o.guard = none) (d s : Operand) (dT sT : TypeId)
    (ho : o.op = .call { callee := .builtin .copy, args := #[d, s], argTypes := #[dT, sT] }) (elem : TypeId) (hu : P.underlying dT = some (.slice elem)) (hsz : (P.info? elem).map (·.size) = some 1)
    (dp sp : Option Addr) (dLen dCap sLen sCap : Nat) (hd : a.eval d = .slice dp dLen dCap) (hs : a.eval s = .slice sp sLen sCap)
    (g off : Nat) (cur : List Value) (t : TypeId) (hg : Blk w g t cur) (cs : List Value) (hn : cs.length = Nat.min sLen dLen)
    (hpos : 0 < cs.length → dp = some ⟨g, off, none⟩ ∧ ∃ ad, sp = some ad ∧ ∀ j v, cs[j]? = some v → w.cell? (ad.add j) = some v)
    (m : Nat) (hm : cs.length = m) (hfit : off + cs.length ≤ cur.length) (h1 : ∀ v ∈ cs, v.oneCell' = true)
    (h : ∀ w', Hid (Blk w' g t (splice cur off cs)) → Hid (Keeps w w' g) → wpList P ops Q rest (a.put o.dst (goInt m)) w') :
    wpList P ops Q (o :: rest) a w := by
  refine wpList_plain hgd fun K hK => ?_
  obtain ⟨w', hrun, hb, hk⟩ := run_copy_keep w dT sT o.type elem hu hsz dp sp dLen dCap sLen sCap g off cur t hg cs hn hpos hfit h1
  rw [hm] at hrun
  unfold Oper.wp
  simp [execOp, ho, resolve, invoke, builtin, hd, hs, hrun, Result.andThen]
  exact hK _ _ (h w' hb hk)

/-- Where a cut from n on begins. -/
def cutA (A : Option Addr) (n cap : Nat) : Option Addr := if cap = n then A else A.map (·.add n)

theorem byte_size (w : World) : (sizeOf (Try.prog.elem 60)).run Try.prog w = .ok 1 w := by kernel_rfl

theorem byte_under : Try.prog.underlying 60 = some (.slice (Try.prog.elem 60)) := by kernel_rfl

theorem sl_l (w : World) (A : Option Addr) (len cap n : Nat) (h : n ≤ len) : (Instr.sliceAt 60 (.slice A len cap) (some (.int .i64 n)) none none).run Try.prog w = .ok (.slice (cutA A n cap) (len - n) (cap - n)) w := by
  rw [run_sliceAt_slice w _ _ _ _ _ byte_under, run_slice_l w _ _ _ _ byte_under .i64 n (by omega) (by omega), byte_size]
  simp [Result.andThen, sliced, cutA]

theorem sl_h (w : World) (A : Option Addr) (len cap n : Nat) (h : n ≤ cap) : (Instr.sliceAt 60 (.slice A len cap) none (some (.int .i64 n)) none).run Try.prog w = .ok (.slice A n cap) w := by
  rw [run_sliceAt_slice w _ _ _ _ _ byte_under, run_slice_h w _ _ _ _ byte_under .i64 n (by omega) (by omega), byte_size]
  have e : ∀ a : Addr, a.add 0 = a := fun a => by unfold Addr.add; simp
  cases A <;> simp [Result.andThen, sliced, e]

theorem bytes_one (l : List UInt8) : ∀ v ∈ Lib.byteCells l, v.oneCell' = true := by
  intro v hv
  simp only [Lib.byteCells, List.mem_map] at hv
  obtain ⟨x, _, rfl⟩ := hv
  rfl

theorem cutA_block (A : Option Addr) (q : List UInt8) (n cap B : Nat) (h : 0 < q.length → A.map (·.block) ≠ some B) : 0 < (q.drop n).length → (cutA A n cap).map (·.block) ≠ some B := by
  intro hl
  replace h := h (by rw [List.length_drop] at hl; omega)
  unfold cutA
  split
  · exact h
  · cases A with
    | none => simp
    | some a => simpa [block_of_add] using h

/-- One byte in a block of its own. -/
theorem rd_one (w : World) (x : UInt8) (t : TypeId) : Rd (w.alloc (.cells #[.int .u8 x.toNat] t)) (some ⟨w.heap.size, 0, none⟩) [x] := by
  intro _
  refine ⟨_, _, rfl, by rw [World.size_alloc]; omega, fun j y hy => ?_⟩
  have hj : j = 0 := by
    have := (List.getElem?_eq_some_iff.1 hy).1
    simp at this
    exact this
  subst hj
  obtain rfl : x = y := by simpa using hy
  rw [World.cell?_alloc_at _ _ _ _ rfl]
  rfl

theorem rd_far {w : World} {B : Nat} (x : UInt8) (h : B < w.heap.size) : 0 < [x].length → (some (⟨w.heap.size, 0, none⟩ : Addr)).map (·.block) ≠ some B := by
  intro _
  simp only [Option.map_some, ne_eq, Option.some.injEq]
  omega

/-- A row of the call's own, as it is read. -/
theorem rd_own {w : World} {base : Nat} {v : Value} {n : Nat} {l : List UInt8} (h : w.ownsRow base 5 1 v n (Lib.byteCells l)) (hn : 0 < n) : ∃ g cap, v = .slice (some ⟨g, 0, none⟩) n cap ∧ n ≤ cap ∧ base ≤ g ∧ g < w.heap.size ∧ l.length = n ∧ Rd w (some ⟨g, 0, none⟩) l := by
  have hln : l.length = n := by have := h.1; rw [Lib.byteCells_length] at this; omega
  rcases h.2 with ⟨_, h0⟩ | ⟨g, cap, cur, rfl, hb, hg, h1, h2, h3, h4⟩
  · omega
  · have hlt : g < w.heap.size := by
      rcases Nat.lt_or_ge g w.heap.size with hlt | hge
      · exact hlt
      · rw [Array.getElem?_eq_none hge] at hg; cases hg
    refine ⟨g, cap, rfl, h1, hb, hlt, hln, fun _ => ⟨g, 0, rfl, hlt, fun j x hx => ?_⟩⟩
    rw [cell_of_row w g (0 + j) cur _ _ hg, Nat.zero_add]
    have h10 : (cur.toList.take (n * 1))[j]? = some (.int .u8 x.toNat) := by
      rw [h4]
      simp [Lib.byteCells, hx]
    rw [List.getElem?_take] at h10
    split at h10
    · simpa using h10
    · cases h10

/-- All that was there is there. -/
def Later (w w' : World) : Prop := Below w.heap.size w w'

theorem Later.refl (w : World) : Later w w := Below.refl _ _

theorem Later.trans {a b c : World} (h : Later a b) (k : Later b c) : Later a c := Below.trans h (Below.mono k h.size)

theorem Later.rd {w w' : World} (h : Later w w') {A : Option Addr} {l : List UInt8} (hr : Rd w A l) : Rd w' A l := hr.below h

theorem Later.drew (w : World) : Later w w.drew := Below.drew (Below.refl _ _)

theorem Later.alloc (w : World) (o : Obj) : Later w (w.alloc o) := (Below.refl _ _).alloc (Nat.le_refl _) o

/-- Bytes that are read, nil or not, go behind a row of the call's own. -/
theorem run_append_rd {P : Program} (w : World) (base : Nat) (t ty e : TypeId) (i : TypeInfo) (ht : P.underlying t = some (.slice e)) (hi : P.info? e = some i) (hz : i.zero = some (.int .u8 0)) (hsize : i.size = 1) (hby : i.bytes = 1)
    (v : Value) (n : Nat) (xs : List Value) (hown : w.ownsRow base e 1 v n xs) (A : Option Addr) (l : List UInt8) (c : Nat) (hr : Rd w A l) (hn : n + l.length ≤ 1099511627776) (hbase : base ≤ w.heap.size) :
    ∃ v' w', (Builtin.append_ #[t, t] ty #[v, .slice A l.length c]).run P w = .ok v' w' ∧ w'.ownsRow base e 1 v' (n + l.length) (xs ++ Lib.byteCells l) ∧ w.grownBy w' v.ownBlock := by
  cases A with
  | none =>
    have hl : l = [] := by
      rcases Nat.eq_zero_or_pos l.length with h | h
      · exact List.eq_nil_of_length_eq_zero h
      · obtain ⟨b, off, h1, _⟩ := hr h
        cases h1
    subst hl
    refine ⟨v, w, ?_, by simpa [Lib.byteCells] using hown, ⟨rfl, rfl, rfl, Nat.le_refl _, fun _ _ _ => rfl⟩⟩
    show (Builtin.append_ #[t, t] ty #[v, .slice none 0 c]).run P w = .ok v w
    rcases hown.2 with ⟨rfl, rfl⟩ | ⟨g, cap, cur, rfl, _, _, hnc, _⟩
    · simp [Builtin.append_, run_underlying ht, sizeOf, typeInfo, hi, Builtin.lenOf, Builtin.firstCells]
    · simp [Builtin.append_, run_underlying ht, sizeOf, typeInfo, hi, Builtin.lenOf, Builtin.firstCells, hnc, storeCells]
  | some ad =>
    have hc : ∀ j u, (Lib.byteCells l)[j]? = some u → w.cell? (ad.add j) = some u := by
      intro j u hu
      simp only [Lib.byteCells, List.getElem?_map, Option.map_eq_some_iff] at hu
      obtain ⟨x, hx, rfl⟩ := hu
      obtain ⟨b, off, h1, _, h2⟩ := hr (by have := (List.getElem?_eq_some_iff.1 hx).1; omega)
      obtain rfl : ad = ⟨b, off, none⟩ := by injection h1
      rw [add_plain]
      exact h2 j x hx
    obtain ⟨v', w', h1, h2, h3, _⟩ := run_append_own (P := P) (w := w) base t ty e i (.int .u8 0) 1 1 ht hi hz hsize hby rfl (by decide) v n xs hown ad l.length c (Lib.byteCells l) (by simp [Lib.byteCells_length]) hc (bytes_one l) (by unfold maxLen; omega) (by omega) hbase
    exact ⟨v', w', h1, h2, h3⟩

theorem wpList_append_rd {P : Program} {w : World} {ops : Array Oper} {rest : List Oper} {o : Oper} {a : Act} {Q : Exit → Act → World → Prop} (hgd : o.guard = none) (s x : Operand) (t : TypeId)
    (ho : o.op = .call { callee := .builtin .append, args := #[s, x], argTypes := #[t, t] })
    (base : Nat) (e : TypeId) (i : TypeInfo) (ht : P.underlying t = some (.slice e)) (hi : P.info? e = some i) (hz : i.zero = some (.int .u8 0)) (hsize : i.size = 1) (hby : i.bytes = 1)
    (v : Value) (n : Nat) (xs : List Value) (hs : a.eval s = v) (hown : w.ownsRow base e 1 v n xs) (A : Option Addr) (l : List UInt8) (m c : Nat) (hm : l.length = m) (hx : a.eval x = .slice A m c) (hr : Rd w A l) (hn : n + l.length ≤ 1099511627776) (hbase : base ≤ w.heap.size)
    (h : ∀ v' w', Hid (w'.ownsRow base e 1 v' (n + l.length) (xs ++ Lib.byteCells l)) → Hid (w.grownBy w' v.ownBlock) → wpList P ops Q rest (a.put o.dst v') w') : wpList P ops Q (o :: rest) a w := by
  subst hm
  refine wpList_plain hgd fun K hK => ?_
  obtain ⟨v', w', hrun, h1, h2⟩ := run_append_rd w base t o.type e i ht hi hz hsize hby v n xs hown A l c hr hn hbase
  unfold Oper.wp
  simp [execOp, ho, resolve, invoke, builtin, hs, hx, hrun, Result.andThen]
  exact hK _ _ (h v' w' h1 h2)

/-- A list of one byte, made by the call, as an owned row. -/
theorem own_one (w : World) (x : UInt8) : (w.alloc (.cells #[.int .u8 x.toNat] 5)).ownsRow w.heap.size 5 1 (.slice (some ⟨w.heap.size, 0, none⟩) 1 1) 1 (Lib.byteCells [x]) :=
  ⟨rfl, .inr ⟨w.heap.size, 1, #[.int .u8 x.toNat], rfl, Nat.le_refl _, heap_alloc_new w _, Nat.le_refl _, by unfold maxLen; omega, rfl, rfl⟩⟩

/-- An append behind an own row, as one operation: what stays, and where the new row lies. -/
theorem wp_append_at {P : Program} {o : Oper} {a : Act} {w : World} {K : Act → World → Prop} {Q : Exit → Act → World → Prop} (s x : Operand) (t : TypeId)
    (ho : o.op = .call { callee := .builtin .append, args := #[s, x], argTypes := #[t, t] })
    (base : Nat) (e : TypeId) (i : TypeInfo) (ht : P.underlying t = some (.slice e)) (hi : P.info? e = some i) (hz : i.zero = some (.int .u8 0)) (hsize : i.size = 1) (hby : i.bytes = 1)
    (v : Value) (n : Nat) (xs : List Value) (hs : a.eval s = v) (hown : w.ownsRow base e 1 v n xs) (A : Option Addr) (l : List UInt8) (m c : Nat) (hm : l.length = m) (hx : a.eval x = .slice A m c) (hr : Rd w A l) (hn : n + l.length ≤ 1099511627776) (hbase : base ≤ w.heap.size)
    (h : ∀ v' w', Hid (w'.ownsRow base e 1 v' (n + l.length) (xs ++ Lib.byteCells l)) → Hid (w.grownBy w' v.ownBlock) → Hid (v'.ownBlock = v.ownBlock ∨ v'.ownBlock = some w.heap.size) → K (a.put o.dst v') w') : o.wp P a w K Q := by
  subst hm
  have hrun : ∃ v' w', (Builtin.append_ #[t, t] o.type #[v, .slice A l.length c]).run P w = .ok v' w' ∧ w'.ownsRow base e 1 v' (n + l.length) (xs ++ Lib.byteCells l) ∧ w.grownBy w' v.ownBlock ∧ (v'.ownBlock = v.ownBlock ∨ v'.ownBlock = some w.heap.size) := by
    cases A with
    | none =>
      have hl : l = [] := by
        rcases Nat.eq_zero_or_pos l.length with h | h
        · exact List.eq_nil_of_length_eq_zero h
        · obtain ⟨b, off, h1, _⟩ := hr h
          cases h1
      subst hl
      refine ⟨v, w, ?_, by simpa [Lib.byteCells] using hown, ⟨rfl, rfl, rfl, Nat.le_refl _, fun _ _ _ => rfl⟩, .inl rfl⟩
      show (Builtin.append_ #[t, t] o.type #[v, .slice none 0 c]).run P w = .ok v w
      rcases hown.2 with ⟨rfl, rfl⟩ | ⟨g, cap, cur, rfl, _, _, hnc, _⟩
      · simp [Builtin.append_, run_underlying ht, sizeOf, typeInfo, hi, Builtin.lenOf, Builtin.firstCells]
      · simp [Builtin.append_, run_underlying ht, sizeOf, typeInfo, hi, Builtin.lenOf, Builtin.firstCells, hnc, storeCells]
    | some ad =>
      have hc : ∀ j u, (Lib.byteCells l)[j]? = some u → w.cell? (ad.add j) = some u := by
        intro j u hu
        simp only [Lib.byteCells, List.getElem?_map, Option.map_eq_some_iff] at hu
        obtain ⟨y, hy, rfl⟩ := hu
        obtain ⟨b, off, h1, _, h2⟩ := hr (by have := (List.getElem?_eq_some_iff.1 hy).1; omega)
        obtain rfl : ad = ⟨b, off, none⟩ := by injection h1
        rw [add_plain]
        exact h2 j y hy
      obtain ⟨v', w', h1, h2, h3, _, h4⟩ := run_append_own_at (P := P) (w := w) base t o.type e i (.int .u8 0) 1 1 ht hi hz hsize hby rfl (by decide) v n xs hown ad l.length c (Lib.byteCells l) (by simp [Lib.byteCells_length]) hc (bytes_one l) (by unfold maxLen; omega) (by omega) hbase
      exact ⟨v', w', h1, h2, h3, h4⟩
  obtain ⟨v', w', hrun, h1, h2, h3⟩ := hrun
  unfold Oper.wp
  simp [execOp, ho, resolve, invoke, builtin, hs, hx, hrun, Result.andThen]
  exact h v' w' h1 h2 h3

/-- What is read is read still, for the one row that may be written is another. -/
theorem Rd.grown {w w' : World} {A : Option Addr} {l : List UInt8} {row : Option Nat} (h : Rd w A l) (hg : w.grownBy w' row) (hne : ∀ b, A.map (·.block) = some b → row ≠ some b) : Rd w' A l :=
  h.keep (fun p hp e => World.cell?_of_block (hg.block p.block hp (fun e2 => hne _ e e2.symm))) hg.size

theorem own_later {w w' : World} {base : Nat} {v : Value} {n : Nat} {xs : List Value} (h : w.ownsRow base 5 1 v n xs) (hl : Later w w') : w'.ownsRow base 5 1 v n xs := by
  refine ⟨h.1, ?_⟩
  rcases h.2 with h2 | ⟨g, cap, cur, h3, h4, h5, h6⟩
  · exact .inl h2
  · refine .inr ⟨g, cap, cur, h3, h4, (hl.block g ?_).trans h5, h6⟩
    rcases Nat.lt_or_ge g w.heap.size with hlt | hge
    · exact hlt
    · rw [Array.getElem?_eq_none hge] at h5; cases h5

theorem own_none (w : World) : (w.alloc (.cells #[] 5)).ownsRow w.heap.size 5 1 (.slice (some ⟨w.heap.size, 0, none⟩) 0 0) 0 (Lib.byteCells []) :=
  ⟨rfl, .inr ⟨w.heap.size, 0, #[], rfl, Nat.le_refl _, heap_alloc_new w _, Nat.le_refl _, by unfold maxLen; omega, rfl, rfl⟩⟩

theorem Rd.lt {w : World} {g : Nat} {l : List UInt8} (h : Rd w (some ⟨g, 0, none⟩) l) (hl : 0 < l.length) : g < w.heap.size := by
  obtain ⟨b, off, e, hb, _⟩ := h hl
  simp only [Option.some.injEq, Addr.mk.injEq, and_true] at e
  omega

theorem rd_of_own {w : World} {base g n c : Nat} {l : List UInt8} (h : w.ownsRow base 5 1 (.slice (some ⟨g, 0, none⟩) n c) n (Lib.byteCells l)) : Rd w (some ⟨g, 0, none⟩) l ∧ l.length = n ∧ n ≤ c := by
  rcases Nat.eq_zero_or_pos n with h0 | h0
  · have hl : l.length = n := by have := h.1; rw [Lib.byteCells_length] at this; omega
    refine ⟨fun hp => absurd hp (by omega), hl, by omega⟩
  · obtain ⟨g', c', e, h1, _, _, h2, h3⟩ := rd_own h h0
    injection e with e1 _ e2
    injection e1 with e1
    injection e1 with e1
    subst e1 e2
    exact ⟨h3, h2, h1⟩

theorem Later.grown {w0 w w' : World} {v : Value} {n : Nat} {xs : List Value} (h : Later w0 w) (hg : w.grownBy w' v.ownBlock) (ho : w.ownsRow w0.heap.size 5 1 v n xs) : Later w0 w' :=
  Below.grown h hg h.size (fun k hk => ho.ownBlock_ge k hk)

/-- The message so far, as a row of the call's own. -/
def MAt (B : Nat) (v : Value) (ms : List UInt8) (w0 wr : World) : Prop :=
  wr.ownsRow B 5 1 v ms.length (Lib.byteCells ms) ∧ Below B w0 wr ∧ B = w0.heap.size

theorem MAt.form {B : Nat} {v : Value} {ms : List UInt8} {w0 wr : World} (h : MAt B v ms w0 wr) (hm : 0 < ms.length) : ∃ g cap, v = .slice (some ⟨g, 0, none⟩) ms.length cap ∧ ms.length ≤ cap := by
  rcases h.1.2 with ⟨_, h0⟩ | ⟨g, cap, cur, rfl, _, _, h1, _⟩
  · omega
  · exact ⟨g, cap, rfl, h1⟩

theorem MAt.push {B : Nat} {v v' : Value} {ms x : List UInt8} {w0 wr wa w' : World} (h : MAt B v ms w0 wr) (ha : Below wr.heap.size wr wa) (hown : w'.ownsRow B 5 1 v' (ms.length + x.length) (Lib.byteCells ms ++ Lib.byteCells x)) (hg : wa.grownBy w' v.ownBlock) : MAt B v' (ms ++ x) w0 w' := by
  refine ⟨by rw [List.length_append, Lib.byteCells_append]; exact hown, ?_, h.2.2⟩
  have hb : Below B w0 wa := h.2.1.trans (ha.mono (by have := h.2.1.size; have := h.2.2; omega))
  exact hb.grown hg (by have := h.2.1.size; have := ha.size; have := h.2.2; omega) (fun k hk => h.1.ownBlock_ge k hk)

theorem MAt.own {B : Nat} {v : Value} {ms : List UInt8} {w0 wr wa : World} (h : MAt B v ms w0 wr) (ha : Below wr.heap.size wr wa) : wa.ownsRow B 5 1 v ms.length (Lib.byteCells ms) := by
  refine ⟨h.1.1, ?_⟩
  rcases h.1.2 with h2 | ⟨g, cap, cur, h3, h4, h5, h6⟩
  · exact .inl h2
  · refine .inr ⟨g, cap, cur, h3, h4, (ha.block g ?_).trans h5, h6⟩
    rcases Nat.lt_or_ge g wr.heap.size with hlt | hge
    · exact hlt
    · rw [Array.getElem?_eq_none hge] at h5; cases h5

theorem rd_new (w : World) (b : UInt8) (X : Int) (t : TypeId) (h : ((b.toNat : Nat) : Int) = X) : Rd (w.alloc (.cells #[.int .u8 X] t)) (some ⟨w.heap.size, 0, none⟩) [b] := by
  subst h
  exact rd_one w b t

theorem below_new (w : World) (o : Obj) : Below w.heap.size w (w.alloc o) := (Below.refl _ _).alloc (Nat.le_refl _) o

theorem wpList_world {P : Program} {ops : Array Oper} {rest : List Oper} {Q : Exit → Act → World → Prop} {a : Act} {w : World} (F : World → Prop) (h : F w) (k : ∀ w', F w' → wpList P ops Q rest a w') : wpList P ops Q rest a w := k w h

theorem MAt.below {B : Nat} {v : Value} {ms : List UInt8} {w0 wr w' : World} (h : MAt B v ms w0 wr) (hb : Below wr.heap.size wr w') : MAt B v ms w0 w' :=
  ⟨h.own hb, h.2.1.trans (hb.mono (by have := h.2.1.size; have := h.2.2; omega)), h.2.2⟩

theorem later_drew {w w2 : World} (h : Below w.drew.heap.size w.drew w2) : Later w w2 := ⟨h.os, h.tape, h.output, h.size, h.block⟩

/-- Another row than those that were there: it may be written. -/
theorem Later.keeps {w0 w w' : World} {g : Nat} (h : Later w0 w) (k : Keeps w w' g) (hg : w0.heap.size ≤ g) : Later w0 w' := Keeps.below h k hg h.size

theorem own_lt {w : World} {base n k : Nat} {v : Value} {xs : List Value} (h : w.ownsRow base 5 1 v n xs) (hk : v.ownBlock = some k) : base ≤ k ∧ k < w.heap.size := by
  rcases h.2 with ⟨rfl, _⟩ | ⟨g, cap, cur, rfl, hb, hh, _⟩
  · cases hk
  · simp only [Value.ownBlock, Option.some.injEq] at hk
    subst hk
    refine ⟨hb, ?_⟩
    rcases Nat.lt_or_ge g w.heap.size with hlt | hge
    · exact hlt
    · rw [Array.getElem?_eq_none hge] at hh; cases hh

theorem own_base {w : World} {base n : Nat} {v : Value} {xs : List Value} (h : w.ownsRow base 5 1 v n xs) : w.ownsRow 0 5 1 v n xs := own_mono h (Nat.zero_le _)

theorem rd_of_blk {w : World} {g : Nat} {l : List UInt8} (h : Blk w g 5 (Lib.byteCells l)) : Rd w (some ⟨g, 0, none⟩) l := fun _ => ⟨g, 0, rfl, h.lt, fun j x hx => by
  rw [Nat.zero_add, h.cell]
  simp only [Lib.byteCells, List.getElem?_map, hx, Option.map_some]⟩

/-- A list of numbers. -/
def RdI (w : World) (A : Option Addr) (l : List Int) : Prop :=
  ∀ j x, l[j]? = some x → (-9223372036854775808 ≤ x ∧ x ≤ 9223372036854775807) ∧ ∃ b off, A = some ⟨b, off, none⟩ ∧ b < w.heap.size ∧ w.cell? ⟨b, off + j, none⟩ = some (.int .i64 x)

theorem Later.rdi {w w' : World} (h : Later w w') {A : Option Addr} {l : List Int} (hr : RdI w A l) : RdI w' A l := fun j x hj => by
  obtain ⟨h1, b, off, h2, h3, h4⟩ := hr j x hj
  exact ⟨h1, b, off, h2, Nat.lt_of_lt_of_le h3 h.size, (h.cell (p := ⟨b, off + j, none⟩) h3).trans h4⟩

theorem RdI.at_ {w : World} {A : Option Addr} {l : List Int} (h : RdI w A l) {j : Nat} (hj : j < l.length) : ∃ x b off, A = some ⟨b, off, none⟩ ∧ w.cell? ⟨b, off + j, none⟩ = some (.int .i64 x) ∧ -9223372036854775808 ≤ x ∧ x ≤ 9223372036854775807 := by
  obtain ⟨h1, b, off, h2, _, h4⟩ := h j _ (List.getElem?_eq_getElem hj)
  exact ⟨_, b, off, h2, h4, h1.1, h1.2⟩

theorem sl_lh (w : World) (A : Option Addr) (len cap lo hi : Nat) (h1 : lo ≤ hi) (h2 : hi ≤ cap) : (Instr.sliceAt 60 (.slice A len cap) (some (.int .i64 lo)) (some (.int .i64 hi)) none).run Try.prog w = .ok (.slice (cutA A lo cap) (hi - lo) (cap - lo)) w := by
  rw [run_sliceAt_slice w _ _ _ _ _ byte_under, run_slice_lh w _ _ _ _ byte_under .i64 .i64 lo hi (by omega) (by omega) (by omega), byte_size]
  simp [Result.andThen, sliced, cutA]

/-- A part of a list. -/
theorem part_lh (A : Option Addr) (l : List UInt8) (cap lo hi : Nat) (h1 : lo ≤ hi) (h2 : hi ≤ l.length) (h3 : l.length ≤ cap) : ∃ A' r c', Hid (∀ W, (Instr.sliceAt 60 (.slice A l.length cap) (some (.int .i64 lo)) (some (.int .i64 hi)) none).run Try.prog W = .ok (.slice A' (List.length r) c') W) ∧
    r.length ≤ c' ∧ Hid (∀ W, Rd W A l → Rd W A' r) ∧ Hid (∀ B, (0 < l.length → A.map (·.block) ≠ some B) → 0 < r.length → A'.map (·.block) ≠ some B) ∧ Hid (l.take hi = l.take lo ++ r) ∧ r.length ≤ l.length ∧ lo + r.length = hi := by
  have hl : ((l.drop lo).take (hi - lo)).length = hi - lo := by rw [List.length_take, List.length_drop]; omega
  refine ⟨cutA A lo cap, (l.drop lo).take (hi - lo), cap - lo, ?_, by omega, ?_, ?_, ?_, by omega, by omega⟩
  · intro W; rw [hl]; exact sl_lh W A _ cap lo hi h1 (by omega)
  · intro W hr; exact (hr.cut lo cap h3).take _
  · intro B hB h0
    exact cutA_block A l lo cap B hB (by rw [List.length_drop]; omega)
  · show _ = _
    rw [List.take_drop, Nat.add_sub_cancel' h1]
    conv => lhs; rw [← List.take_append_drop lo (l.take hi)]
    rw [List.take_take, Nat.min_eq_left h1]

theorem part_l (A : Option Addr) (l : List UInt8) (cap lo : Nat) (h1 : lo ≤ l.length) (h3 : l.length ≤ cap) : ∃ A' r c', Hid (∀ W, (Instr.sliceAt 60 (.slice A l.length cap) (some (.int .i64 lo)) none none).run Try.prog W = .ok (.slice A' (List.length r) c') W) ∧
    r.length ≤ c' ∧ Hid (∀ W, Rd W A l → Rd W A' r) ∧ Hid (∀ B, (0 < l.length → A.map (·.block) ≠ some B) → 0 < r.length → A'.map (·.block) ≠ some B) ∧ Hid (l = l.take lo ++ r) ∧ r.length ≤ l.length := by
  have hl : (l.drop lo).length = l.length - lo := by rw [List.length_drop]
  refine ⟨cutA A lo cap, l.drop lo, cap - lo, ?_, by omega, ?_, ?_, (List.take_append_drop lo l).symm, by omega⟩
  · intro W; rw [hl]; exact sl_l W A _ cap lo h1
  · intro W hr; exact hr.cut lo cap h3
  · intro B hB h0
    exact cutA_block A l lo cap B hB h0

theorem part_h (A : Option Addr) (l : List UInt8) (cap hi : Nat) (h2 : hi ≤ l.length) (h3 : l.length ≤ cap) : ∃ r, Hid (∀ W, (Instr.sliceAt 60 (.slice A l.length cap) none (some (.int .i64 hi)) none).run Try.prog W = .ok (.slice A (List.length r) cap) W) ∧
    r.length ≤ cap ∧ Hid (∀ W, Rd W A l → Rd W A r) ∧ Hid (r = l.take hi) ∧ Hid (r.length = hi) ∧ r.length ≤ l.length := by
  have hl : (l.take hi).length = hi := by rw [List.length_take]; omega
  refine ⟨l.take hi, ?_, by omega, fun W hr => hr.take _, rfl, hl, by omega⟩
  intro W; rw [hl]; exact sl_h W A _ cap hi (by omega)

/-- A row of bytes that is made as it stands. -/
theorem rd_alloc (w : World) (l : List UInt8) (t : TypeId) (fz : Nat × Nat) : Rd (w.alloc (.cells (Lib.byteCells l).toArray t fz)) (some ⟨w.heap.size, 0, none⟩) l := fun _ => by
  refine ⟨_, _, rfl, by rw [World.size_alloc]; omega, fun j x hx => ?_⟩
  rw [cell_of_row _ w.heap.size (0 + j) _ _ _ (heap_alloc_new w _), Nat.zero_add]
  simp only [List.getElem?_toArray, Lib.byteCells, List.getElem?_map, hx, Option.map_some]
end Go.Proofs.Ytpblhdpnmnfieaa

/-
  OWN WORK. A law's bytes and numbers out of its slices, as they are read.
-/
namespace Go.Proofs.Ytpblhdpnmnfieaa
open Go.ChangeShapes Go.WideShapes Go.RowKit Go.Deep

theorem Try.own_BaFrame : ownKnob Try.prog.godebug = none := by kernel_rfl

theorem Try.laidOut_BaFrame : laidOutB Try.prog = true := by kernel_rfl

theorem Try.cellsU8 : Try.prog.cellsOf 5 = 1 := by kernel_rfl

/-- A slice of numbers, read as data, as it lies in memory. -/
theorem nums_of_BaFrame {H : Type} {enc : TypeId × Value → H} {W : World} {fuel : Nat} {v : Value} {x : DataW H × List MemPlace} {t e : TypeId} {k : IntKind} (ht : Try.prog.underlying t = some (.slice e)) (he : Try.prog.underlying e = some (.int k)) (hc : Try.prog.cellsOf e = 1)
    (h : DataW.trod enc Try.prog W 0 (fun _ => true) true fuel t [v] = some x) :
    ∃ (ns : List Int) (A : Option Addr) (cap : Nat), v = .slice A ns.length cap ∧ ns.length ≤ cap ∧ cap ≤ maxLen ∧ ∀ (j : Nat) (n : Int), ns[j]? = some n → (Lit.int k n).wf = true ∧ ∃ b off, A = some ⟨b, off, none⟩ ∧ b < W.heap.size ∧ W.cell? ⟨b, off + j, none⟩ = some (.int k n) := by
  rcases open_slice1 ht hc h with ⟨hcs, _⟩ | ⟨a, len, cap, m, n, V, D, Pl, hcs, _, hl, hm, hmm, _, hi⟩
  · simp only [List.cons.injEq, and_true] at hcs
    exact ⟨[], none, 0, hcs, by simp, by simp, fun j n hj => by simp at hj⟩
  · simp only [List.cons.injEq, and_true] at hcs
    subst hcs
    simp only [if_true] at hmm
    have key : ∀ i : Fin len, ∃ n : Int, W.cell? (a.add i) = some (.int k n) ∧ (Lit.int k n).wf = true := fun i => by
      obtain ⟨h1, h2⟩ := hi i (by have := i.2; omega)
      obtain ⟨n, h3, _, h4⟩ := DataW.trod_int he h2
      simp only [List.cons.injEq, and_true] at h3
      exact ⟨n, by rw [h1, h3], h4⟩
    obtain ⟨f, hf⟩ := Classical.axiomOfChoice key
    refine ⟨List.ofFn f, some a, cap, by rw [List.length_ofFn], by rw [List.length_ofFn]; exact hl, hm, fun j n hj => ?_⟩
    have hjl : j < len := by
      have := (List.getElem?_eq_some_iff.1 hj).1
      simpa using this
    have e : n = f ⟨j, hjl⟩ := by
      rw [List.getElem?_ofFn, dif_pos hjl] at hj
      exact (Option.some.inj hj).symm
    subst e
    have hp : ∃ b off, a = ⟨b, off, none⟩ := by
      have hs := World.cell?_spot (hf ⟨0, by omega⟩).1
      obtain ⟨b, off, spot⟩ := a
      have : spot = none := by
        simpa [Addr.add] using hs
      exact ⟨b, off, by rw [this]⟩
    obtain ⟨b, off, rfl⟩ := hp
    have g := hf ⟨j, hjl⟩
    simp only [add_plain] at g
    refine ⟨g.2, b, off, rfl, ?_, g.1⟩
    rcases Nat.lt_or_ge b W.heap.size with hlt | hge
    · exact hlt
    · have := g.1
      simp [World.cell?, Array.getElem?_eq_none hge] at this

theorem max_le_BaFrame {n : Nat} (h : n ≤ maxLen) : n ≤ 9223372036854775807 := by unfold maxLen at h; omega

theorem bytes_of {H : Type} {enc : TypeId × Value → H} {W : World} {fuel : Nat} {v : Value} {x : DataW H × List MemPlace}
    (h : DataW.trod enc Try.prog W 0 (fun _ => true) true fuel 60 [v] = some x) :
    ∃ (l : List UInt8) (A : Option Addr) (cap : Nat), v = .slice A l.length cap ∧ l.length ≤ cap ∧ l.length ≤ 9223372036854775807 ∧ Rd W A l := by
  obtain ⟨ns, A, cap, hv, hl, hm, hn⟩ := nums_of_BaFrame Try.underlying60 Try.underlying5 Try.cellsU8 h
  have hlen : (ns.map fun n => UInt8.ofNat n.toNat).length = ns.length := List.length_map _
  refine ⟨ns.map fun n => UInt8.ofNat n.toNat, A, cap, by rw [hlen]; exact hv, by rw [hlen]; exact hl, by rw [hlen]; exact max_le_BaFrame (Nat.le_trans hl hm), fun hp => ?_⟩
  rw [hlen] at hp
  obtain ⟨_, b, off, hA, hb, _⟩ := hn 0 _ (List.getElem?_eq_getElem hp)
  refine ⟨b, off, hA, hb, fun j y hj => ?_⟩
  rw [List.getElem?_map, Option.map_eq_some_iff] at hj
  obtain ⟨n, hj, rfl⟩ := hj
  obtain ⟨hw, b', off', hA', _, hc⟩ := hn j n hj
  rw [hA] at hA'
  injection hA' with hA'
  injection hA' with h1 h2
  subst h1 h2
  have hbd := bounds_u8 hw
  rw [hc]
  simp only [Option.some.injEq, Value.int.injEq, true_and]
  rw [UInt8.toNat_ofNat']
  omega
end Go.Proofs.Ytpblhdpnmnfieaa

/-
  OWN WORK. A law's list of flags.
-/
namespace Go.Proofs.Ytpblhdpnmnfieaa
open Go.ChangeShapes Go.WideShapes Go.RowKit Go.Deep

/-- A list of flags. -/
def RdB (w : World) (A : Option Addr) (l : List Bool) : Prop :=
  ∀ j x, l[j]? = some x → ∃ a, A = some a ∧ a.block < w.heap.size ∧ w.cell? (a.add j) = some (.bool x)
theorem Try.cellsBool : Try.prog.cellsOf 4 = 1 := by kernel_rfl
theorem bools_of {H : Type} {enc : TypeId × Value → H} {W : World} {fuel : Nat} {v : Value} {x : DataW H × List MemPlace}
    (h : DataW.trod enc Try.prog W 0 (fun _ => true) true fuel 31 [v] = some x) :
    ∃ (l : List Bool) (A : Option Addr) (cap : Nat), v = .slice A l.length cap ∧ l.length ≤ cap ∧ l.length ≤ 9223372036854775807 ∧ RdB W A l := by
  rcases open_slice1 Try.underlying31 Try.cellsBool h with ⟨hcs, _⟩ | ⟨a, len, cap, m, n, V, D, Pl, hcs, _, hl, hm, hmm, _, hi⟩
  · simp only [List.cons.injEq, and_true] at hcs
    exact ⟨[], none, 0, hcs, by simp, by simp, fun j n hj => by simp at hj⟩
  · simp only [List.cons.injEq, and_true] at hcs
    subst hcs
    simp only [if_true] at hmm
    have key : ∀ i : Fin len, ∃ n : Bool, W.cell? (a.add i) = some (.bool n) := fun i => by
      obtain ⟨h1, h2⟩ := hi i (by have := i.2; omega)
      obtain ⟨n, h3, _⟩ := DataW.trod_bool Try.underlying4 h2
      simp only [List.cons.injEq, and_true] at h3
      exact ⟨n, by rw [h1, h3]⟩
    obtain ⟨f, hf⟩ := Classical.axiomOfChoice key
    refine ⟨List.ofFn f, some a, cap, by rw [List.length_ofFn], by rw [List.length_ofFn]; exact hl, by rw [List.length_ofFn]; exact max_le (Nat.le_trans hl hm), fun j n hj => ?_⟩
    have hjl : j < len := by
      have := (List.getElem?_eq_some_iff.1 hj).1
      simpa using this
    have e : n = f ⟨j, hjl⟩ := by
      rw [List.getElem?_ofFn, dif_pos hjl] at hj
      exact (Option.some.inj hj).symm
    subst e
    have g := hf ⟨j, hjl⟩
    refine ⟨a, rfl, ?_, g⟩
    rcases Nat.lt_or_ge (a.add j).block W.heap.size with hlt | hge
    · rwa [block_of_add] at hlt
    · simp [World.cell?, Array.getElem?_eq_none hge] at g
end Go.Proofs.Ytpblhdpnmnfieaa

/-
  OWN WORK. BaMem, BaRow, BaFrame, RgB, BaRg, BaSet, CoPure, CpNum, CpBase, CpBack, CrPure, RePure, BaCell, BaStr, BaRgStr
-/
import Derived.Test.YtmcbpgbiephllaaDoorChecked
import Derived.WalkKit
import Derived.Outline
import Derived.WalkLawsBesides
import Derived.Below
import Derived.Laws.OwnMore
import Derived.Deep.Draws
import Derived.Laws.Rows
import Derived.Deep.AppendLies
import Derived.Laws.CopyOwn
import Derived.Laws.BitsAllLaws
import Derived.Lib.UnsafeStr
import Derived.OwnWalk
import Derived.Laws.AppendOwn
import Derived.RegionTactic
import Derived.BigRegion
import Derived.Deep.QuietTactic
import Derived.BigQuiet
import Derived.Lib.Hide
import Derived.Deep.Cut
import Derived.Deep.WholeRow
import Derived.Laws.AppendOwnNone
import Derived.StillTailTactics
import Derived.Maps.AppendAt
import Derived.Deep.RegionHeld3
import Derived.Deep.DeepCutAuto
import Derived.Maps.RangeWalk
import Derived.Lib.SlBytesConst
import Derived.Laws.BytesArg
import Derived.IntWalk
import Derived.Test.YtmcbpgbiephllaaDoorRows
import Derived.ChangeSame
import Derived.ChangeVars
import Derived.JoinedOf
import Derived.RowKit
import Derived.RowKitTokens
import Derived.LaidLaws
import Derived.Deep.Slices
import Derived.ProofKit
import Derived.Carry
import Derived.OpenShut
import Derived.OrdersHeld
import Derived.Laws.ResultCell

namespace Go.Proofs.YtmcbpgbiephllaaDoor
open Go.RowKit

def Blk (w : World) (g : Nat) (t : TypeId) (cs : List Value) : Prop := w.heap[g]? = some (.cells cs.toArray t (0, 0))

section
variable {w w' : World} {g : Nat} {t : TypeId} {cs : List Value}
theorem Blk.lt (h : Blk w g t cs) : g < w.heap.size := by
  rcases Nat.lt_or_ge g w.heap.size with hlt | hge
  · exact hlt
  · unfold Blk at h; rw [Array.getElem?_eq_none hge] at h; cases h

theorem Blk.cell (h : Blk w g t cs) (i : Nat) : w.cell? ⟨g, i, none⟩ = cs[i]? := by
  rw [cell_of_row w g i cs.toArray t (0, 0) h]; simp

theorem Blk.frozen (h : Blk w g t cs) (i : Nat) : w.frozen? ⟨g, i, none⟩ = false := by
  unfold Blk at h
  simp [World.frozen?, h]

theorem Blk.new (w : World) (t : TypeId) (cs : List Value) : Blk (w.alloc (.cells cs.toArray t)) w.heap.size t cs := heap_alloc_new w _

theorem Blk.drew (h : Blk w g t cs) : Blk w.drew g t cs := h

theorem Blk.alloc (h : Blk w g t cs) (o : Obj) : Blk (w.alloc o) g t cs := (Below.heap_alloc w o g h.lt).trans h

theorem Blk.set_ (h : Blk w g t cs) (i : Nat) (u : Value) : Blk (w.setCell ⟨g, i, none⟩ u) g t (cs.set i u) := by
  unfold Blk at h ⊢
  simp [World.setCell, Array.getElem?_modify, h]

theorem Blk.far (h : Blk w g t cs) {p : Addr} (hp : g ≠ p.block) (u : Value) : Blk (w.setCell p u) g t cs := (Below.heap_setCell w p u g hp).trans h

theorem Blk.row (h : Blk w g t cs) (cs' : List Value) : Blk (w.setRow g cs'.toArray) g t cs' := setRow_heap w g _ _ t _ h

theorem Blk.below {B : Nat} (h : Blk w g t cs) (hb : Below B w w') (hg : g < B) : Blk w' g t cs := (hb.block g hg).trans h

theorem Blk.grown {row : Option Nat} (h : Blk w g t cs) (hb : w.grownBy w' row) (hg : some g ≠ row) : Blk w' g t cs := (hb.block g h.lt hg).trans h

end

theorem undrew {b : Nat} {w w' : World} (h : Below b w.drew w') : Below b w w' := ⟨h.os, h.tape, h.output, h.size, h.block⟩

theorem block_of_add (a : Addr) (n : Nat) : (a.add n).block = a.block := by unfold Addr.add; split <;> rfl

theorem add_of_add (a : Addr) (i j : Nat) : (a.add i).add j = a.add (i + j) := by
  unfold Addr.add
  by_cases hi : i = 0 <;> by_cases hj : j = 0 <;> simp [hi, hj, Nat.add_assoc]

def Keeps (w w' : World) (g : Nat) : Prop := w.grownBy w' (some g)

theorem Keeps.refl (w : World) (g : Nat) : Keeps w w g := ⟨rfl, rfl, rfl, Nat.le_refl _, fun _ _ _ => rfl⟩

theorem Keeps.trans {a b c : World} {g : Nat} (h : Keeps a b g) (k : Keeps b c g) : Keeps a c g :=
  ⟨k.os.trans h.os, k.tape.trans h.tape, k.output.trans h.output, Nat.le_trans h.size k.size, fun i hi hn => (k.block i (Nat.lt_of_lt_of_le hi h.size) hn).trans (h.block i hi hn)⟩

theorem Keeps.of_below {a b : World} {g : Nat} (h : Below a.heap.size a b) : Keeps a b g := ⟨h.os, h.tape, h.output, h.size, fun i hi _ => h.block i hi⟩

theorem Keeps.below {B : Nat} {a b c : World} {g : Nat} (h : Below B a b) (k : Keeps b c g) (hg : B ≤ g) (hB : B ≤ b.heap.size) : Below B a c :=
  h.grown k hB (fun i hi => by cases hi; exact hg)

theorem Keeps.setCell {a b : World} {g : Nat} (h : Keeps a b g) (i : Nat) (u : Value) : Keeps a (b.setCell ⟨g, i, none⟩ u) g :=
  h.trans ⟨rfl, rfl, rfl, by simp [World.setCell], fun k _ hn => Below.heap_setCell _ _ _ _ (fun e => hn (by rw [e]))⟩

theorem Keeps.setRow {a b : World} {g : Nat} (h : Keeps a b g) (c : Array Value) : Keeps a (b.setRow g c) g :=
  h.trans ⟨rfl, rfl, rfl, by simp [World.setRow], fun k _ hn => setRow_other b g k c (fun e => hn (by rw [e]))⟩

theorem Keeps.drew {a b : World} {g : Nat} (h : Keeps a b g) : Keeps a b.drew g := ⟨h.os, h.tape, h.output, h.size, h.block⟩

theorem Keeps.cell {a b : World} {g : Nat} (h : Keeps a b g) {p : Addr} (hp : p.block < a.heap.size) (hg : p.block ≠ g) : b.cell? p = a.cell? p :=
  World.cell?_of_block (w := a) (h.block p.block hp (fun e => hg (by injection e)))

theorem add_plain (g off j : Nat) : (⟨g, off, none⟩ : Addr).add j = ⟨g, off + j, none⟩ := by
  unfold Addr.add
  split <;> simp_all

theorem Blk.src {w : World} {g : Nat} {t : TypeId} {cs : List Value} (h : Blk w g t cs) (off : Nat) {j : Nat} {v : Value} (hv : cs[off + j]? = some v) : w.cell? ((⟨g, off, none⟩ : Addr).add j) = some v := by
  rw [add_plain, h.cell]; exact hv

theorem ret_num {k : IntKind} {a b : Int} (h : a = b) : Ending.returned (.int k b) = Ending.returned (.int k a) := by rw [h]
end Go.Proofs.YtmcbpgbiephllaaDoor

namespace Go.Proofs.YtmcbpgbiephllaaDoor
open Go.RowKit

def Rd (w : World) (A : Option Addr) (l : List UInt8) : Prop :=
  0 < l.length → ∃ b off, A = some ⟨b, off, none⟩ ∧ b < w.heap.size ∧ ∀ j x, l[j]? = some x → w.cell? ⟨b, off + j, none⟩ = some (.int .u8 x.toNat)

theorem Rd.nil (w : World) (A : Option Addr) : Rd w A [] := fun h => absurd h (by simp)

theorem Rd.keep {w w' : World} {A : Option Addr} {l : List UInt8} (h : Rd w A l) (hb : ∀ p : Addr, p.block < w.heap.size → A.map (·.block) = some p.block → w'.cell? p = w.cell? p) (hs : w.heap.size ≤ w'.heap.size) : Rd w' A l := by
  intro hl
  obtain ⟨b, off, rfl, hlt, hc⟩ := h hl
  exact ⟨b, off, rfl, by omega, fun j x hx => (hb ⟨b, off + j, none⟩ hlt rfl).trans (hc j x hx)⟩

theorem Rd.below {w w' : World} {A : Option Addr} {l : List UInt8} (h : Rd w A l) (hb : Below w.heap.size w w') : Rd w' A l := h.keep (fun _ hp _ => hb.cell hp) hb.size

theorem Rd.keeps {w w' : World} {A : Option Addr} {l : List UInt8} {g : Nat} (h : Rd w A l) (hb : Keeps w w' g) (hg : 0 < l.length → A.map (·.block) ≠ some g) : Rd w' A l := fun hl =>
  h.keep (fun p hp e => hb.cell hp (fun e2 => hg hl (by rw [e, e2]))) hb.size hl

theorem Rd.far {w : World} {A : Option Addr} {l : List UInt8} (h : Rd w A l) {B : Nat} (hB : w.heap.size ≤ B) : 0 < l.length → A.map (·.block) ≠ some B := by
  intro hl
  obtain ⟨b, off, rfl, hb, _⟩ := h hl
  simp only [Option.map_some, ne_eq, Option.some.injEq]
  omega

theorem Rd.cut {w : World} {A : Option Addr} {l : List UInt8} (h : Rd w A l) (k cap : Nat) (hc : l.length ≤ cap) : Rd w (if cap = k then A else A.map (·.add k)) (l.drop k) := by
  intro hl
  rw [List.length_drop] at hl
  obtain ⟨b, off, rfl, hlt, hcell⟩ := h (by omega)
  rw [if_neg (by omega)]
  refine ⟨b, off + k, by simp [add_plain], hlt, fun j x hx => ?_⟩
  rw [List.getElem?_drop] at hx
  rw [Nat.add_assoc]
  exact hcell _ _ hx

theorem Rd.take {w : World} {A : Option Addr} {l : List UInt8} (h : Rd w A l) (k : Nat) : Rd w A (l.take k) := by
  intro hl
  rw [List.length_take] at hl
  obtain ⟨b, off, rfl, hlt, hcell⟩ := h (by omega)
  refine ⟨b, off, rfl, hlt, fun j x hx => hcell j x ?_⟩
  rw [List.getElem?_take] at hx
  split at hx
  · exact hx
  · cases hx

theorem Rd.at_ {w : World} {A : Option Addr} {l : List UInt8} (h : Rd w A l) (hl : 0 < l.length) : ∃ b off, A = some ⟨b, off, none⟩ ∧ b < w.heap.size ∧ ∀ j, j < l.length → w.cell? ⟨b, off + j, none⟩ = some (.int .u8 (l.getD j 0).toNat) := by
  obtain ⟨b, off, hA, hlt, hc⟩ := h hl
  refine ⟨b, off, hA, hlt, fun j hj => hc j _ ?_⟩
  simp [List.getElem?_eq_getElem hj]

theorem Tryd.infoU8 : (Tryd.prog.info? 5).map (fun i => (i.zero, i.size, i.bytes)) = some (some (.int .u8 0), 1, 1) := by kernel_rfl

theorem _root_.Go.World.ownsRow.ownBlock_ge {w : World} {base : Nat} {e : TypeId} {size n : Nat} {v : Value} {xs : List Value} (h : w.ownsRow base e size v n xs) (g : Nat) (hg : v.ownBlock = some g) : base ≤ g := by
  rcases h.2 with ⟨rfl, _⟩ | ⟨g', cap, cur, rfl, hb, _⟩
  · cases hg
  · have : g' = g := by simpa [Value.ownBlock] using hg
    omega

theorem own_mono {w : World} {base base' : Nat} {e : TypeId} {size n : Nat} {v : Value} {xs : List Value} (h : w.ownsRow base e size v n xs) (hb : base' ≤ base) : w.ownsRow base' e size v n xs := by
  refine ⟨h.1, ?_⟩
  rcases h.2 with h2 | ⟨g, cap, cur, h3, h4, h5⟩
  · exact .inl h2
  · exact .inr ⟨g, cap, cur, h3, by omega, h5⟩

def cutA (A : Option Addr) (n cap : Nat) : Option Addr := if cap = n then A else A.map (·.add n)

theorem byte_size (w : World) : (sizeOf (Tryd.prog.elem 25)).run Tryd.prog w = .ok 1 w := by kernel_rfl

theorem byte_under : Tryd.prog.underlying 25 = some (.slice (Tryd.prog.elem 25)) := by kernel_rfl

theorem sl_l (w : World) (A : Option Addr) (len cap n : Nat) (h : n ≤ len) : (Instr.sliceAt 25 (.slice A len cap) (some (.int .i64 n)) none none).run Tryd.prog w = .ok (.slice (cutA A n cap) (len - n) (cap - n)) w := by
  rw [run_sliceAt_slice w _ _ _ _ _ byte_under, run_slice_l w _ _ _ _ byte_under .i64 n (by omega) (by omega), byte_size]
  simp [Result.andThen, sliced, cutA]

theorem sl_h (w : World) (A : Option Addr) (len cap n : Nat) (h : n ≤ cap) : (Instr.sliceAt 25 (.slice A len cap) none (some (.int .i64 n)) none).run Tryd.prog w = .ok (.slice A n cap) w := by
  rw [run_sliceAt_slice w _ _ _ _ _ byte_under, run_slice_h w _ _ _ _ byte_under .i64 n (by omega) (by omega), byte_size]
  have e : ∀ a : Addr, a.add 0 = a := fun a => by unfold Addr.add; simp
  cases A <;> simp [Result.andThen, sliced, e]

theorem bytes_one (l : List UInt8) : ∀ v ∈ Lib.byteCells l, v.oneCell' = true := by
  intro v hv
  simp only [Lib.byteCells, List.mem_map] at hv
  obtain ⟨x, _, rfl⟩ := hv
  rfl

theorem cutA_block (A : Option Addr) (q : List UInt8) (n cap B : Nat) (h : 0 < q.length → A.map (·.block) ≠ some B) : 0 < (q.drop n).length → (cutA A n cap).map (·.block) ≠ some B := by
  intro hl
  replace h := h (by rw [List.length_drop] at hl; omega)
  unfold cutA
  split
  · exact h
  · cases A with
    | none => simp
    | some a => simpa [block_of_add] using h

theorem rd_one (w : World) (x : UInt8) (t : TypeId) : Rd (w.alloc (.cells #[.int .u8 x.toNat] t)) (some ⟨w.heap.size, 0, none⟩) [x] := by
  intro _
  refine ⟨_, _, rfl, by rw [World.size_alloc]; omega, fun j y hy => ?_⟩
  have hj : j = 0 := by
    have := (List.getElem?_eq_some_iff.1 hy).1
    simp at this
    exact this
  subst hj
  obtain rfl : x = y := by simpa using hy
  rw [World.cell?_alloc_at _ _ _ _ rfl]
  rfl

theorem rd_own {w : World} {base : Nat} {v : Value} {n : Nat} {l : List UInt8} (h : w.ownsRow base 5 1 v n (Lib.byteCells l)) (hn : 0 < n) : ∃ g cap, v = .slice (some ⟨g, 0, none⟩) n cap ∧ n ≤ cap ∧ base ≤ g ∧ g < w.heap.size ∧ l.length = n ∧ Rd w (some ⟨g, 0, none⟩) l := by
  have hln : l.length = n := by have := h.1; rw [Lib.byteCells_length] at this; omega
  rcases h.2 with ⟨_, h0⟩ | ⟨g, cap, cur, rfl, hb, hg, h1, h2, h3, h4⟩
  · omega
  · have hlt : g < w.heap.size := by
      rcases Nat.lt_or_ge g w.heap.size with hlt | hge
      · exact hlt
      · rw [Array.getElem?_eq_none hge] at hg; cases hg
    refine ⟨g, cap, rfl, h1, hb, hlt, hln, fun _ => ⟨g, 0, rfl, hlt, fun j x hx => ?_⟩⟩
    rw [cell_of_row w g (0 + j) cur _ _ hg, Nat.zero_add]
    have h10 : (cur.toList.take (n * 1))[j]? = some (.int .u8 x.toNat) := by
      rw [h4]
      simp [Lib.byteCells, hx]
    rw [List.getElem?_take] at h10
    split at h10
    · simpa using h10
    · cases h10

def Later (w w' : World) : Prop := Below w.heap.size w w'

theorem Later.refl (w : World) : Later w w := Below.refl _ _

theorem Later.trans {a b c : World} (h : Later a b) (k : Later b c) : Later a c := Below.trans h (Below.mono k h.size)

theorem Later.rd {w w' : World} (h : Later w w') {A : Option Addr} {l : List UInt8} (hr : Rd w A l) : Rd w' A l := hr.below h

theorem Later.drew (w : World) : Later w w.drew := Below.drew (Below.refl _ _)

theorem run_append_rd {P : Program} (w : World) (base : Nat) (t ty e : TypeId) (i : TypeInfo) (ht : P.underlying t = some (.slice e)) (hi : P.info? e = some i) (hz : i.zero = some (.int .u8 0)) (hsize : i.size = 1) (hby : i.bytes = 1)
    (v : Value) (n : Nat) (xs : List Value) (hown : w.ownsRow base e 1 v n xs) (A : Option Addr) (l : List UInt8) (c : Nat) (hr : Rd w A l) (hn : n + l.length ≤ 1099511627776) (hbase : base ≤ w.heap.size) :
    ∃ v' w', (Builtin.append_ #[t, t] ty #[v, .slice A l.length c]).run P w = .ok v' w' ∧ w'.ownsRow base e 1 v' (n + l.length) (xs ++ Lib.byteCells l) ∧ w.grownBy w' v.ownBlock := by
  cases A with
  | none =>
    have hl : l = [] := by
      rcases Nat.eq_zero_or_pos l.length with h | h
      · exact List.eq_nil_of_length_eq_zero h
      · obtain ⟨b, off, h1, _⟩ := hr h
        cases h1
    subst hl
    refine ⟨v, w, ?_, by simpa [Lib.byteCells] using hown, ⟨rfl, rfl, rfl, Nat.le_refl _, fun _ _ _ => rfl⟩⟩
    show (Builtin.append_ #[t, t] ty #[v, .slice none 0 c]).run P w = .ok v w
    rcases hown.2 with ⟨rfl, rfl⟩ | ⟨g, cap, cur, rfl, _, _, hnc, _⟩
    · simp [Builtin.append_, run_underlying ht, sizeOf, typeInfo, hi, Builtin.lenOf, Builtin.firstCells]
    · simp [Builtin.append_, run_underlying ht, sizeOf, typeInfo, hi, Builtin.lenOf, Builtin.firstCells, hnc, storeCells]
  | some ad =>
    have hc : ∀ j u, (Lib.byteCells l)[j]? = some u → w.cell? (ad.add j) = some u := by
      intro j u hu
      simp only [Lib.byteCells, List.getElem?_map, Option.map_eq_some_iff] at hu
      obtain ⟨x, hx, rfl⟩ := hu
      obtain ⟨b, off, h1, _, h2⟩ := hr (by have := (List.getElem?_eq_some_iff.1 hx).1; omega)
      obtain rfl : ad = ⟨b, off, none⟩ := by injection h1
      rw [add_plain]
      exact h2 j x hx
    obtain ⟨v', w', h1, h2, h3, _⟩ := run_append_own (P := P) (w := w) base t ty e i (.int .u8 0) 1 1 ht hi hz hsize hby rfl (by decide) v n xs hown ad l.length c (Lib.byteCells l) (by simp [Lib.byteCells_length]) hc (bytes_one l) (by unfold maxLen; omega) (by omega) hbase
    exact ⟨v', w', h1, h2, h3⟩

theorem wpList_append_rd {P : Program} {w : World} {ops : Array Oper} {rest : List Oper} {o : Oper} {a : Act} {Q : Exit → Act → World → Prop} (hgd : o.guard = none) (s x : Operand) (t : TypeId)
    (ho : o.op = .call { callee := .builtin .append, args := #[s, x], argTypes := #[t, t] })
    (base : Nat) (e : TypeId) (i : TypeInfo) (ht : P.underlying t = some (.slice e)) (hi : P.info? e = some i) (hz : i.zero = some (.int .u8 0)) (hsize : i.size = 1) (hby : i.bytes = 1)
    (v : Value) (n : Nat) (xs : List Value) (hs : a.eval s = v) (hown : w.ownsRow base e 1 v n xs) (A : Option Addr) (l : List UInt8) (m c : Nat) (hm : l.length = m) (hx : a.eval x = .slice A m c) (hr : Rd w A l) (hn : n + l.length ≤ 1099511627776) (hbase : base ≤ w.heap.size)
    (h : ∀ v' w', Hid (w'.ownsRow base e 1 v' (n + l.length) (xs ++ Lib.byteCells l)) → Hid (w.grownBy w' v.ownBlock) → wpList P ops Q rest (a.put o.dst v') w') : wpList P ops Q (o :: rest) a w := by
  subst hm
  refine wpList_plain hgd fun K hK => ?_
  obtain ⟨v', w', hrun, h1, h2⟩ := run_append_rd w base t o.type e i ht hi hz hsize hby v n xs hown A l c hr hn hbase
  unfold Oper.wp
  simp [execOp, ho, resolve, invoke, builtin, hs, hx, hrun, Result.andThen]
  exact hK _ _ (h v' w' h1 h2)

theorem wp_append_at {P : Program} {o : Oper} {a : Act} {w : World} {K : Act → World → Prop} {Q : Exit → Act → World → Prop} (s x : Operand) (t : TypeId)
    (ho : o.op = .call { callee := .builtin .append, args := #[s, x], argTypes := #[t, t] })
    (base : Nat) (e : TypeId) (i : TypeInfo) (ht : P.underlying t = some (.slice e)) (hi : P.info? e = some i) (hz : i.zero = some (.int .u8 0)) (hsize : i.size = 1) (hby : i.bytes = 1)
    (v : Value) (n : Nat) (xs : List Value) (hs : a.eval s = v) (hown : w.ownsRow base e 1 v n xs) (A : Option Addr) (l : List UInt8) (m c : Nat) (hm : l.length = m) (hx : a.eval x = .slice A m c) (hr : Rd w A l) (hn : n + l.length ≤ 1099511627776) (hbase : base ≤ w.heap.size)
    (h : ∀ v' w', Hid (w'.ownsRow base e 1 v' (n + l.length) (xs ++ Lib.byteCells l)) → Hid (w.grownBy w' v.ownBlock) → Hid (v'.ownBlock = v.ownBlock ∨ v'.ownBlock = some w.heap.size) → K (a.put o.dst v') w') : o.wp P a w K Q := by
  subst hm
  have hrun : ∃ v' w', (Builtin.append_ #[t, t] o.type #[v, .slice A l.length c]).run P w = .ok v' w' ∧ w'.ownsRow base e 1 v' (n + l.length) (xs ++ Lib.byteCells l) ∧ w.grownBy w' v.ownBlock ∧ (v'.ownBlock = v.ownBlock ∨ v'.ownBlock = some w.heap.size) := by
    cases A with
    | none =>
      have hl : l = [] := by
        rcases Nat.eq_zero_or_pos l.length with h | h
        · exact List.eq_nil_of_length_eq_zero h
        · obtain ⟨b, off, h1, _⟩ := hr h
          cases h1
      subst hl
      refine ⟨v, w, ?_, by simpa [Lib.byteCells] using hown, ⟨rfl, rfl, rfl, Nat.le_refl _, fun _ _ _ => rfl⟩, .inl rfl⟩
      show (Builtin.append_ #[t, t] o.type #[v, .slice none 0 c]).run P w = .ok v w
      rcases hown.2 with ⟨rfl, rfl⟩ | ⟨g, cap, cur, rfl, _, _, hnc, _⟩
      · simp [Builtin.append_, run_underlying ht, sizeOf, typeInfo, hi, Builtin.lenOf, Builtin.firstCells]
      · simp [Builtin.append_, run_underlying ht, sizeOf, typeInfo, hi, Builtin.lenOf, Builtin.firstCells, hnc, storeCells]
    | some ad =>
      have hc : ∀ j u, (Lib.byteCells l)[j]? = some u → w.cell? (ad.add j) = some u := by
        intro j u hu
        simp only [Lib.byteCells, List.getElem?_map, Option.map_eq_some_iff] at hu
        obtain ⟨y, hy, rfl⟩ := hu
        obtain ⟨b, off, h1, _, h2⟩ := hr (by have := (List.getElem?_eq_some_iff.1 hy).1; omega)
        obtain rfl : ad = ⟨b, off, none⟩ := by injection h1
        rw [add_plain]
        exact h2 j y hy
      obtain ⟨v', w', h1, h2, h3, _, h4⟩ := run_append_own_at (P := P) (w := w) base t o.type e i (.int .u8 0) 1 1 ht hi hz hsize hby rfl (by decide) v n xs hown ad l.length c (Lib.byteCells l) (by simp [Lib.byteCells_length]) hc (bytes_one l) (by unfold maxLen; omega) (by omega) hbase
      exact ⟨v', w', h1, h2, h3, h4⟩
  obtain ⟨v', w', hrun, h1, h2, h3⟩ := hrun
  unfold Oper.wp
  simp [execOp, ho, resolve, invoke, builtin, hs, hx, hrun, Result.andThen]
  exact h v' w' h1 h2 h3

theorem Rd.grown {w w' : World} {A : Option Addr} {l : List UInt8} {row : Option Nat} (h : Rd w A l) (hg : w.grownBy w' row) (hne : ∀ b, A.map (·.block) = some b → row ≠ some b) : Rd w' A l :=
  h.keep (fun p hp e => World.cell?_of_block (hg.block p.block hp (fun e2 => hne _ e e2.symm))) hg.size

theorem own_later {w w' : World} {base : Nat} {v : Value} {n : Nat} {xs : List Value} (h : w.ownsRow base 5 1 v n xs) (hl : Later w w') : w'.ownsRow base 5 1 v n xs := by
  refine ⟨h.1, ?_⟩
  rcases h.2 with h2 | ⟨g, cap, cur, h3, h4, h5, h6⟩
  · exact .inl h2
  · refine .inr ⟨g, cap, cur, h3, h4, (hl.block g ?_).trans h5, h6⟩
    rcases Nat.lt_or_ge g w.heap.size with hlt | hge
    · exact hlt
    · rw [Array.getElem?_eq_none hge] at h5; cases h5

theorem Rd.lt {w : World} {g : Nat} {l : List UInt8} (h : Rd w (some ⟨g, 0, none⟩) l) (hl : 0 < l.length) : g < w.heap.size := by
  obtain ⟨b, off, e, hb, _⟩ := h hl
  simp only [Option.some.injEq, Addr.mk.injEq, and_true] at e
  omega

theorem Later.grown {w0 w w' : World} {v : Value} {n : Nat} {xs : List Value} (h : Later w0 w) (hg : w.grownBy w' v.ownBlock) (ho : w.ownsRow w0.heap.size 5 1 v n xs) : Later w0 w' :=
  Below.grown h hg h.size (fun k hk => ho.ownBlock_ge k hk)

def MAt (B : Nat) (v : Value) (ms : List UInt8) (w0 wr : World) : Prop :=
  wr.ownsRow B 5 1 v ms.length (Lib.byteCells ms) ∧ Below B w0 wr ∧ B = w0.heap.size

theorem MAt.push {B : Nat} {v v' : Value} {ms x : List UInt8} {w0 wr wa w' : World} (h : MAt B v ms w0 wr) (ha : Below wr.heap.size wr wa) (hown : w'.ownsRow B 5 1 v' (ms.length + x.length) (Lib.byteCells ms ++ Lib.byteCells x)) (hg : wa.grownBy w' v.ownBlock) : MAt B v' (ms ++ x) w0 w' := by
  refine ⟨by rw [List.length_append, Lib.byteCells_append]; exact hown, ?_, h.2.2⟩
  have hb : Below B w0 wa := h.2.1.trans (ha.mono (by have := h.2.1.size; have := h.2.2; omega))
  exact hb.grown hg (by have := h.2.1.size; have := ha.size; have := h.2.2; omega) (fun k hk => h.1.ownBlock_ge k hk)

theorem MAt.own {B : Nat} {v : Value} {ms : List UInt8} {w0 wr wa : World} (h : MAt B v ms w0 wr) (ha : Below wr.heap.size wr wa) : wa.ownsRow B 5 1 v ms.length (Lib.byteCells ms) := by
  refine ⟨h.1.1, ?_⟩
  rcases h.1.2 with h2 | ⟨g, cap, cur, h3, h4, h5, h6⟩
  · exact .inl h2
  · refine .inr ⟨g, cap, cur, h3, h4, (ha.block g ?_).trans h5, h6⟩
    rcases Nat.lt_or_ge g wr.heap.size with hlt | hge
    · exact hlt
    · rw [Array.getElem?_eq_none hge] at h5; cases h5

theorem rd_new (w : World) (b : UInt8) (X : Int) (t : TypeId) (h : ((b.toNat : Nat) : Int) = X) : Rd (w.alloc (.cells #[.int .u8 X] t)) (some ⟨w.heap.size, 0, none⟩) [b] := by
  subst h
  exact rd_one w b t

theorem below_new (w : World) (o : Obj) : Below w.heap.size w (w.alloc o) := (Below.refl _ _).alloc (Nat.le_refl _) o

theorem MAt.below {B : Nat} {v : Value} {ms : List UInt8} {w0 wr w' : World} (h : MAt B v ms w0 wr) (hb : Below wr.heap.size wr w') : MAt B v ms w0 w' :=
  ⟨h.own hb, h.2.1.trans (hb.mono (by have := h.2.1.size; have := h.2.2; omega)), h.2.2⟩

theorem own_lt {w : World} {base n k : Nat} {v : Value} {xs : List Value} (h : w.ownsRow base 5 1 v n xs) (hk : v.ownBlock = some k) : base ≤ k ∧ k < w.heap.size := by
  rcases h.2 with ⟨rfl, _⟩ | ⟨g, cap, cur, rfl, hb, hh, _⟩
  · cases hk
  · simp only [Value.ownBlock, Option.some.injEq] at hk
    subst hk
    refine ⟨hb, ?_⟩
    rcases Nat.lt_or_ge g w.heap.size with hlt | hge
    · exact hlt
    · rw [Array.getElem?_eq_none hge] at hh; cases hh

theorem own_base {w : World} {base n : Nat} {v : Value} {xs : List Value} (h : w.ownsRow base 5 1 v n xs) : w.ownsRow 0 5 1 v n xs := own_mono h (Nat.zero_le _)

def RdI (w : World) (A : Option Addr) (l : List Int) : Prop :=
  ∀ j x, l[j]? = some x → (-9223372036854775808 ≤ x ∧ x ≤ 9223372036854775807) ∧ ∃ b off, A = some ⟨b, off, none⟩ ∧ b < w.heap.size ∧ w.cell? ⟨b, off + j, none⟩ = some (.int .i64 x)

theorem RdI.at_ {w : World} {A : Option Addr} {l : List Int} (h : RdI w A l) {j : Nat} (hj : j < l.length) : ∃ x b off, A = some ⟨b, off, none⟩ ∧ w.cell? ⟨b, off + j, none⟩ = some (.int .i64 x) ∧ -9223372036854775808 ≤ x ∧ x ≤ 9223372036854775807 := by
  obtain ⟨h1, b, off, h2, _, h4⟩ := h j _ (List.getElem?_eq_getElem hj)
  exact ⟨_, b, off, h2, h4, h1.1, h1.2⟩

theorem sl_lh (w : World) (A : Option Addr) (len cap lo hi : Nat) (h1 : lo ≤ hi) (h2 : hi ≤ cap) : (Instr.sliceAt 25 (.slice A len cap) (some (.int .i64 lo)) (some (.int .i64 hi)) none).run Tryd.prog w = .ok (.slice (cutA A lo cap) (hi - lo) (cap - lo)) w := by
  rw [run_sliceAt_slice w _ _ _ _ _ byte_under, run_slice_lh w _ _ _ _ byte_under .i64 .i64 lo hi (by omega) (by omega) (by omega), byte_size]
  simp [Result.andThen, sliced, cutA]

theorem part_lh (A : Option Addr) (l : List UInt8) (cap lo hi : Nat) (h1 : lo ≤ hi) (h2 : hi ≤ l.length) (h3 : l.length ≤ cap) : ∃ A' r c', Hid (∀ W, (Instr.sliceAt 25 (.slice A l.length cap) (some (.int .i64 lo)) (some (.int .i64 hi)) none).run Tryd.prog W = .ok (.slice A' (List.length r) c') W) ∧
    r.length ≤ c' ∧ Hid (∀ W, Rd W A l → Rd W A' r) ∧ Hid (∀ B, (0 < l.length → A.map (·.block) ≠ some B) → 0 < r.length → A'.map (·.block) ≠ some B) ∧ Hid (l.take hi = l.take lo ++ r) ∧ r.length ≤ l.length ∧ lo + r.length = hi := by
  have hl : ((l.drop lo).take (hi - lo)).length = hi - lo := by rw [List.length_take, List.length_drop]; omega
  refine ⟨cutA A lo cap, (l.drop lo).take (hi - lo), cap - lo, ?_, by omega, ?_, ?_, ?_, by omega, by omega⟩
  · intro W; rw [hl]; exact sl_lh W A _ cap lo hi h1 (by omega)
  · intro W hr; exact (hr.cut lo cap h3).take _
  · intro B hB h0
    exact cutA_block A l lo cap B hB (by rw [List.length_drop]; omega)
  · show _ = _
    rw [List.take_drop, Nat.add_sub_cancel' h1]
    conv => lhs; rw [← List.take_append_drop lo (l.take hi)]
    rw [List.take_take, Nat.min_eq_left h1]

theorem part_l (A : Option Addr) (l : List UInt8) (cap lo : Nat) (h1 : lo ≤ l.length) (h3 : l.length ≤ cap) : ∃ A' r c', Hid (∀ W, (Instr.sliceAt 25 (.slice A l.length cap) (some (.int .i64 lo)) none none).run Tryd.prog W = .ok (.slice A' (List.length r) c') W) ∧
    r.length ≤ c' ∧ Hid (∀ W, Rd W A l → Rd W A' r) ∧ Hid (∀ B, (0 < l.length → A.map (·.block) ≠ some B) → 0 < r.length → A'.map (·.block) ≠ some B) ∧ Hid (l = l.take lo ++ r) ∧ r.length ≤ l.length := by
  have hl : (l.drop lo).length = l.length - lo := by rw [List.length_drop]
  refine ⟨cutA A lo cap, l.drop lo, cap - lo, ?_, by omega, ?_, ?_, (List.take_append_drop lo l).symm, by omega⟩
  · intro W; rw [hl]; exact sl_l W A _ cap lo h1
  · intro W hr; exact hr.cut lo cap h3
  · intro B hB h0
    exact cutA_block A l lo cap B hB h0

theorem part_h (A : Option Addr) (l : List UInt8) (cap hi : Nat) (h2 : hi ≤ l.length) (h3 : l.length ≤ cap) : ∃ r, Hid (∀ W, (Instr.sliceAt 25 (.slice A l.length cap) none (some (.int .i64 hi)) none).run Tryd.prog W = .ok (.slice A (List.length r) cap) W) ∧
    r.length ≤ cap ∧ Hid (∀ W, Rd W A l → Rd W A r) ∧ Hid (r = l.take hi) ∧ Hid (r.length = hi) ∧ r.length ≤ l.length := by
  have hl : (l.take hi).length = hi := by rw [List.length_take]; omega
  refine ⟨l.take hi, ?_, by omega, fun W hr => hr.take _, rfl, hl, by omega⟩
  intro W; rw [hl]; exact sl_h W A _ cap hi (by omega)

end Go.Proofs.YtmcbpgbiephllaaDoor

namespace Go.Proofs.YtmcbpgbiephllaaDoor
open Go.ChangeShapes Go.WideShapes Go.RowKit Go.Deep

theorem Tryd.own : ownKnob Tryd.prog.godebug = none := by kernel_rfl

theorem Tryd.laidOut : laidOutB Tryd.prog = true := by kernel_rfl

theorem Tryd.cellsU8 : Tryd.prog.cellsOf 5 = 1 := by kernel_rfl

theorem nums_of {H : Type} {enc : TypeId × Value → H} {W : World} {fuel : Nat} {v : Value} {x : DataW H × List MemPlace} {t e : TypeId} {k : IntKind} (ht : Tryd.prog.underlying t = some (.slice e)) (he : Tryd.prog.underlying e = some (.int k)) (hc : Tryd.prog.cellsOf e = 1)
    (h : DataW.trod enc Tryd.prog W 0 (fun _ => true) true fuel t [v] = some x) :
    ∃ (ns : List Int) (A : Option Addr) (cap : Nat), v = .slice A ns.length cap ∧ ns.length ≤ cap ∧ cap ≤ maxLen ∧ ∀ (j : Nat) (n : Int), ns[j]? = some n → (Lit.int k n).wf = true ∧ ∃ b off, A = some ⟨b, off, none⟩ ∧ b < W.heap.size ∧ W.cell? ⟨b, off + j, none⟩ = some (.int k n) := by
  rcases open_slice1 ht hc h with ⟨hcs, _⟩ | ⟨a, len, cap, m, n, V, D, Pl, hcs, _, hl, hm, hmm, _, hi⟩
  · simp only [List.cons.injEq, and_true] at hcs
    exact ⟨[], none, 0, hcs, by simp, by simp, fun j n hj => by simp at hj⟩
  · simp only [List.cons.injEq, and_true] at hcs
    subst hcs
    simp only [if_true] at hmm
    have key : ∀ i : Fin len, ∃ n : Int, W.cell? (a.add i) = some (.int k n) ∧ (Lit.int k n).wf = true := fun i => by
      obtain ⟨h1, h2⟩ := hi i (by have := i.2; omega)
      obtain ⟨n, h3, _, h4⟩ := DataW.trod_int he h2
      simp only [List.cons.injEq, and_true] at h3
      exact ⟨n, by rw [h1, h3], h4⟩
    obtain ⟨f, hf⟩ := Classical.axiomOfChoice key
    refine ⟨List.ofFn f, some a, cap, by rw [List.length_ofFn], by rw [List.length_ofFn]; exact hl, hm, fun j n hj => ?_⟩
    have hjl : j < len := by
      have := (List.getElem?_eq_some_iff.1 hj).1
      simpa using this
    have e : n = f ⟨j, hjl⟩ := by
      rw [List.getElem?_ofFn, dif_pos hjl] at hj
      exact (Option.some.inj hj).symm
    subst e
    have hp : ∃ b off, a = ⟨b, off, none⟩ := by
      have hs := World.cell?_spot (hf ⟨0, by omega⟩).1
      obtain ⟨b, off, spot⟩ := a
      have : spot = none := by
        simpa [Addr.add] using hs
      exact ⟨b, off, by rw [this]⟩
    obtain ⟨b, off, rfl⟩ := hp
    have g := hf ⟨j, hjl⟩
    simp only [add_plain] at g
    refine ⟨g.2, b, off, rfl, ?_, g.1⟩
    rcases Nat.lt_or_ge b W.heap.size with hlt | hge
    · exact hlt
    · have := g.1
      simp [World.cell?, Array.getElem?_eq_none hge] at this

theorem max_le {n : Nat} (h : n ≤ maxLen) : n ≤ 9223372036854775807 := by unfold maxLen at h; omega

theorem bytes_of {H : Type} {enc : TypeId × Value → H} {W : World} {fuel : Nat} {v : Value} {x : DataW H × List MemPlace}
    (h : DataW.trod enc Tryd.prog W 0 (fun _ => true) true fuel 25 [v] = some x) :
    ∃ (l : List UInt8) (A : Option Addr) (cap : Nat), v = .slice A l.length cap ∧ l.length ≤ cap ∧ l.length ≤ 9223372036854775807 ∧ Rd W A l := by
  obtain ⟨ns, A, cap, hv, hl, hm, hn⟩ := nums_of Tryd.underlying25 Tryd.underlying5 Tryd.cellsU8 h
  have hlen : (ns.map fun n => UInt8.ofNat n.toNat).length = ns.length := List.length_map _
  refine ⟨ns.map fun n => UInt8.ofNat n.toNat, A, cap, by rw [hlen]; exact hv, by rw [hlen]; exact hl, by rw [hlen]; exact max_le (Nat.le_trans hl hm), fun hp => ?_⟩
  rw [hlen] at hp
  obtain ⟨_, b, off, hA, hb, _⟩ := hn 0 _ (List.getElem?_eq_getElem hp)
  refine ⟨b, off, hA, hb, fun j y hj => ?_⟩
  rw [List.getElem?_map, Option.map_eq_some_iff] at hj
  obtain ⟨n, hj, rfl⟩ := hj
  obtain ⟨hw, b', off', hA', _, hc⟩ := hn j n hj
  rw [hA] at hA'
  injection hA' with hA'
  injection hA' with h1 h2
  subst h1 h2
  have hbd := bounds_u8 hw
  rw [hc]
  simp only [Option.some.injEq, Value.int.injEq, true_and]
  rw [UInt8.toNat_ofNat']
  omega
end Go.Proofs.YtmcbpgbiephllaaDoor

namespace Go.Proofs.YtmcbpgbiephllaaDoor.Rg
open Go Go.RowKit

structure Fact where
  holds : Value → World → Prop
  own : Value → Option Nat
  keep : ∀ v w w' row, holds v w → w.grownBy w' row → (∀ b, own v = some b → b < w.heap.size ∧ row ≠ some b) → holds v w'
def NoExit : Exit → Act → World → Prop := fun _ _ _ => False
theorem not_lets : ¬ LetsOut NoExit := fun ⟨_, _, h⟩ => h

structure Frm (ops : Array Oper) (L : Nat → Prop) (V : Nat → Value) (a0 a : Act) : Prop where
  defers : a.defers = a0.defers
  size : a.tmps.size = a0.tmps.size
  put : ∀ i o d, ops[i]? = some o → o.dst = some d → L i → a.tmps[d]? = if d < a0.tmps.size then some (V i) else none
  rest : ∀ t, (∀ i o, ops[i]? = some o → L i → o.dst ≠ some t) → a.tmps[t]? = a0.tmps[t]?

def distinct (ops : Array Oper) : Bool :=
  (List.range ops.size).all fun i => (List.range ops.size).all fun j => i == j || (match ops[i]?, ops[j]? with | some x, some y => x.dst.isNone || x.dst != y.dst | _, _ => true)
theorem distinct_spec {ops : Array Oper} (h : distinct ops = true) {i j : Nat} {x y : Oper} {d : Nat} (hx : ops[i]? = some x) (hy : ops[j]? = some y) (hne : i ≠ j) (hd : x.dst = some d) : y.dst ≠ some d := by
  unfold distinct at h
  rw [List.all_eq_true] at h
  have h1 := h i (List.mem_range.2 (Array.getElem?_eq_some_iff.1 hx).1)
  rw [List.all_eq_true] at h1
  have h2 := h1 j (List.mem_range.2 (Array.getElem?_eq_some_iff.1 hy).1)
  simp only [hx, hy, hd, beq_iff_eq, hne, Bool.or_eq_true, false_or, Option.isNone_some, Bool.false_eq_true, bne_iff_ne, ne_eq] at h2
  exact fun e => h2 e.symm

theorem put_size (a : Act) (d : Option Tmp) (v : Value) : (a.put d v).tmps.size = a.tmps.size := by cases d <;> simp [Act.put]
theorem put_defers' (a : Act) (d : Option Tmp) (v : Value) : (a.put d v).defers = a.defers := by cases d <;> rfl
theorem put_same (a : Act) (d : Nat) (v : Value) : (a.put (some d) v).tmps[d]? = if d < a.tmps.size then some v else none := by
  simp [Act.put, Array.getElem?_setIfInBounds]
theorem put_other (a : Act) (x : Option Tmp) (t : Nat) (v : Value) (h : x ≠ some t) : (a.put x v).tmps[t]? = a.tmps[t]? := by
  cases x with
  | none => rfl
  | some d =>
    have : d ≠ t := fun e => h (by rw [e])
    simp [Act.put, Array.getElem?_setIfInBounds_ne this]

theorem Frm.refl (ops : Array Oper) (V : Nat → Value) (a : Act) : Frm ops (fun _ => False) V a a := ⟨rfl, rfl, fun _ _ _ _ _ h => h.elim, fun _ _ => rfl⟩
theorem Frm.congr {ops : Array Oper} {L L' : Nat → Prop} {V V' : Nat → Value} {a0 a : Act} (h : Frm ops L V a0 a) (hL : ∀ i, L i ↔ L' i) (hV : ∀ i, L i → V' i = V i) : Frm ops L' V' a0 a :=
  ⟨h.defers, h.size, fun i o d ho hd hi => by rw [hV i ((hL i).2 hi)]; exact h.put i o d ho hd ((hL i).2 hi), fun t ht => h.rest t (fun i o ho hi => ht i o ho ((hL i).1 hi))⟩
theorem Frm.step {ops : Array Oper} {L : Nat → Prop} {V : Nat → Value} {a0 a : Act} (hd : distinct ops = true) (h : Frm ops L V a0 a) (i : Nat) (o : Oper) (ho : ops[i]? = some o) (_hi : ¬ L i) (v : Value) :
    Frm ops (fun k => k = i ∨ L k) (fun k => if k = i then v else V k) a0 (a.put o.dst v) := by
  refine ⟨(put_defers' _ _ _).trans h.defers, (put_size _ _ _).trans h.size, fun k ok d hok hkd hk => ?_, fun t ht => ?_⟩
  · by_cases e : k = i
    · subst e
      obtain rfl : ok = o := by rw [ho] at hok; exact (Option.some.inj hok).symm
      rw [hkd, put_same, h.size, if_pos rfl]
    · rw [put_other _ _ _ _ (distinct_spec hd hok ho e hkd), if_neg e]
      exact h.put k ok d hok hkd (hk.resolve_left e)
  · rw [put_other _ _ _ _ (ht i o ho (.inl rfl))]
    exact h.rest t (fun k ok hok hk => ht k ok hok (.inr hk))
theorem Frm.at_ {ops : Array Oper} {L U : Nat → Prop} {V : Nat → Value} {a0 a b : Act} (ha : Frm ops L V a0 a) (hb : Frm ops U V a0 b) (t : Nat) (h : ∀ i o, ops[i]? = some o → o.dst = some t → (L i ↔ U i)) : a.tmps[t]? = b.tmps[t]? := by
  by_cases hx : ∃ i o, ops[i]? = some o ∧ L i ∧ o.dst = some t
  · obtain ⟨i, o, ho, hi, hd⟩ := hx
    rw [ha.put i o t ho hd hi, hb.put i o t ho hd ((h i o ho hd).1 hi)]
  · rw [ha.rest t (fun i o ho hi hd => hx ⟨i, o, ho, hi, hd⟩), hb.rest t (fun i o ho hi hd => hx ⟨i, o, ho, (h i o ho hd).2 hi, hd⟩)]
theorem Frm.uniq {ops : Array Oper} {L : Nat → Prop} {V : Nat → Value} {a0 a b : Act} (ha : Frm ops L V a0 a) (hb : Frm ops L V a0 b) : a = b := by
  have h1 : a.tmps = b.tmps := Array.ext_getElem? fun t => ha.at_ hb t (fun _ _ _ _ => Iff.rfl)
  have h2 := ha.defers.trans hb.defers.symm
  cases a; cases b
  simp_all

def putList : List Oper → Nat → (Nat → Value) → Act → Act
  | [], _, _, a => a
  | o :: l, n, V, a => putList l (n + 1) V (a.put o.dst (V n))
theorem Frm.putList {ops : Array Oper} {V : Nat → Value} {a0 : Act} (hd : distinct ops = true) : ∀ (l : List Oper) (n : Nat) (a : Act), (∀ k, k < l.length → l[k]? = ops[n + k]?) → Frm ops (fun i => i < n) V a0 a → Frm ops (fun i => i < n + l.length) V a0 (putList l n V a)
  | [], _, _, _, h => h
  | o :: l, n, a, hl, h => by
    have h0 := hl 0 (by simp)
    simp only [List.getElem?_cons_zero, Nat.add_zero] at h0
    have h1 := (h.step hd n o h0.symm (Nat.lt_irrefl n) (V n)).congr (L' := fun i => i < n + 1) (V' := V) (fun i => by omega) (fun i _ => by by_cases e : i = n <;> simp [e])
    have h2 := Frm.putList hd l (n + 1) _ (fun k hk => by have := hl (k + 1) (by simp; omega); simp only [List.getElem?_cons_succ] at this; rw [this]; congr 1; omega) h1
    exact h2.congr (fun i => by simp only [List.length_cons]; omega) (fun _ _ => rfl)
def putUse (V : Nat → Value) : List (Nat × Nat) → Act → Act
  | [], a => a
  | x :: l, a => (putUse V l a).put (some x.2) (V x.1)
theorem Frm.putUse {ops : Array Oper} {V : Nat → Value} {a0 : Act} (hd : distinct ops = true) : ∀ (l : List (Nat × Nat)), (∀ x, x ∈ l → (ops[x.1]?).bind (·.dst) = some x.2) → (l.map (·.1)).Nodup → Frm ops (fun i => i ∈ l.map (·.1)) V a0 (putUse V l a0)
  | [], _, _ => (Frm.refl ops V a0).congr (fun i => by simp) (fun _ _ => rfl)
  | x :: l, hl, hn => by
    have hi := hl x (by simp)
    obtain ⟨o, ho, hod⟩ := Option.bind_eq_some_iff.1 hi
    have h1 := Frm.putUse (V := V) (a0 := a0) hd l (fun k hk => hl k (by simp [hk])) (List.nodup_cons.1 hn).2
    have h2 := (h1.step hd x.1 o ho (List.nodup_cons.1 hn).1 (V x.1)).congr (L' := fun k => k ∈ (x :: l).map (·.1)) (V' := V) (fun k => by simp) (fun k _ => by by_cases e : k = x.1 <;> simp [e])
    rw [hod] at h2
    exact h2
theorem use_size (V : Nat → Value) (a : Act) : ∀ l : List (Nat × Nat), (putUse V l a).tmps.size = a.tmps.size
  | [] => rfl
  | _ :: l => (put_size _ _ _).trans (use_size V a l)
theorem use_eval (V : Nat → Value) (a : Act) (t : Nat) : ∀ (l : List (Nat × Nat)), (l.all (fun x => decide (x.2 < a.tmps.size)) = true) → (putUse V l a).eval (.tmp t) = (match l.find? (fun x => x.2 == t) with | some x => V x.1 | none => a.eval (.tmp t))
  | [], _ => rfl
  | x :: l, h => by
    simp only [List.all_cons, Bool.and_eq_true, decide_eq_true_eq] at h
    have ih := use_eval V a t l h.2
    have hs := use_size V a l
    simp only [List.find?_cons]
    by_cases e : x.2 = t
    · simp only [e, beq_self_eq_true, putUse, Act.eval, Array.getD_eq_getD_getElem?]
      rw [put_same, if_pos (by rw [hs, ← e]; exact h.1)]
      rfl
    · have e2 : (x.2 == t) = false := by simpa using e
      simp only [e2, putUse]
      rw [← ih]
      simp only [Act.eval, Array.getD_eq_getD_getElem?]
      rw [put_other _ _ _ _ (by simpa using e)]

section
variable {P : Program} {ops : Array Oper} {Q : Exit → Act → World → Prop} {md : Region.Mode}

def Does (P : Program) (ops : Array Oper) (o : Oper) (b : Act) (w : World) (R : Value → World → Prop) : Prop :=
  (Region.wanted o (yielded ops b.tmps) = false ∧ R undef w) ∨
  (Region.wanted o (yielded ops b.tmps) = true ∧ ∀ K : Act → World → Prop, (∀ v w', R v w' → K (b.put o.dst v) w') → o.wp P b w K NoExit)

theorem put_inj {a b : Act} {d : Option Tmp} {u v : Value} (hs : a.tmps.size = b.tmps.size) (h : b.put d u = b.put d v) : a.put d u = a.put d v := by
  cases d with
  | none => rfl
  | some d =>
    by_cases hlt : d < b.tmps.size
    · have h1 := congrArg (fun x : Act => x.tmps[d]?) h
      simp only [put_same, hlt, if_true, Option.some.injEq] at h1
      rw [h1]
    · have e : ∀ x : Value, a.put (some d) x = a := fun x => by
        have : a.tmps.setIfInBounds d x = a.tmps := by
          apply Array.ext_getElem?
          intro t
          have h1 : a.tmps.size ≤ d := by rw [hs]; exact Nat.le_of_not_lt hlt
          rw [Array.getElem?_setIfInBounds]
          by_cases e : d = t
          · rw [if_pos e, if_neg (Nat.not_lt.2 h1), ← e, Array.getElem?_eq_none h1]
          · rw [if_neg e]
        simp [Act.put, this]
      rw [e, e]
theorem Does.at_ {o : Oper} {a b : Act} {w : World} {R : Value → World → Prop} {j : Nat} (hj : ops[j]? = some o) (hsel : ∀ cs x, o.op ≠ .select cs x) (hs : a.tmps.size = b.tmps.size) (hl : ∀ t, t ∈ o.looksAt ops → a.tmps[t]? = b.tmps[t]?)
    (h : Does P ops o b w R) {K : Act → World → Prop} (hK : ∀ v w', R v w' → K (a.put o.dst v) w') : wpOp P ops Q j K a w := by
  have he : execOp a.eval o = execOp b.eval o := execOp_congr o hsel fun x hx => by
    cases x with
    | tmp t =>
      have := hl t (List.mem_append_left _ (List.mem_filterMap.2 ⟨.tmp t, by simpa using hx, rfl⟩))
      simp only [Act.eval, Array.getD_eq_getD_getElem?, this]
    | _ => rfl
  have hw : Region.wanted o (yielded ops a.tmps) = Region.wanted o (yielded ops b.tmps) := by
    unfold Region.wanted
    cases hg : o.guard with
    | none => rfl
    | some gw =>
      obtain ⟨g, want⟩ := gw
      have : yielded ops a.tmps g = yielded ops b.tmps g := by
        unfold yielded
        cases ht : (ops[g]?).bind (·.dst) with
        | none => rfl
        | some t =>
          have := hl t (List.mem_append_right _ (by simp [hg, ht]))
          simp [this]
      simp only [this]
  unfold Go.wpOp
  simp only [hj]
  rcases h with ⟨h1, h2⟩ | ⟨h1, h2⟩
  · rw [hw, h1]
    simp only [Bool.false_eq_true, if_false]
    exact hK _ _ h2
  · rw [hw, h1]
    simp only [if_true]
    refine .inl ?_
    have h3 := h2 (fun b' w' => ∃ v, R v w' ∧ b' = b.put o.dst v) (fun v w' hr => ⟨v, hr, rfl⟩)
    unfold Oper.wp at h3 ⊢
    rw [he]
    generalize (execOp b.eval o).run P w = r at h3
    have fin : ∀ u w', (∃ v, R v w' ∧ b.put o.dst u = b.put o.dst v) → K (a.put o.dst u) w' := fun u w' ⟨v, hr, e⟩ => by
      rw [put_inj hs e]; exact hK v w' hr
    cases r with
    | ok n w' =>
      cases n <;> simp only [Oper.upon] at h3 ⊢
      case value u => exact fin _ _ h3
      case skip => exact fin _ _ h3
      case defer d =>
        obtain ⟨v, _, e⟩ := h3
        have := congrArg (fun x : Act => x.defers.length) e
        simp [put_defers'] at this
      case enter f args =>
        refine Calls.mono h3 fun e w'' he => ?_
        cases e with
        | returned u => exact fin _ _ he
        | panicked c => exact he.elim
        | outgrown => exact (not_lets he).elim
      case row row args => exact Rows.mono h3 fun u w'' he => fin _ _ he
    | halt x w' => cases x <;> simp only [Oper.upon, NoExit] at h3

theorem Does.skip {o : Oper} {b : Act} {w : World} {R : Value → World → Prop} (hw : Region.wanted o (yielded ops b.tmps) = false) (hr : R undef w) : Does P ops o b w R := .inl ⟨hw, hr⟩

/-! ### The whole region -/
variable (F : Nat → Fact) (cons : Nat → Option Nat) (E : Nat → (Nat → Value) → Value → Prop)
def Live (cons : Nat → Option Nat) (L : Nat → Prop) (i : Nat) : Prop := L i ∧ ∀ k, L k → cons k ≠ some i
structure Inv (W0 : World) (L : Nat → Prop) (V : Nat → Value) (w : World) : Prop where
  later : Below W0.heap.size W0 w
  holds : ∀ i, Live cons L i → (F i).holds (V i) w
  lt : ∀ i b, Live cons L i → (F i).own (V i) = some b → W0.heap.size ≤ b ∧ b < w.heap.size
  sep : ∀ i j b, Live cons L i → Live cons L j → i ≠ j → (F i).own (V i) = some b → (F j).own (V j) ≠ some b
  eqs : ∀ j, L j → E j V (V j)
def src (V : Nat → Value) (j : Nat) : Option Nat := (cons j).bind fun i => (F i).own (V i)
def Good (_W0 : World) (V : Nat → Value) (j : Nat) (w : World) (v : Value) (w' : World) : Prop :=
  w.grownBy w' (src F cons V j) ∧ (F j).holds v w' ∧ (∀ b, (F j).own v = some b → ((src F cons V j = some b ∨ w.heap.size ≤ b) ∧ b < w'.heap.size)) ∧ E j V v
variable {F cons E}
theorem Inv.step {W0 : World} {L : Nat → Prop} {V : Nat → Value} {w w' : World} {j : Nat} {v : Value} (h : Inv F cons E W0 L V w) (hj : ¬ L j) (hc : ∀ i, cons j = some i → Live cons L i) (hnc : ∀ k, L k → cons k ≠ some j) (hjj : cons j ≠ some j) (hse : ∀ k, L k → ∀ V', (∀ i, L i → V i = V' i) → E k V (V k) → E k V' (V k)) (hsj : ∀ V', (∀ i, L i → V i = V' i) → E j V v → E j V' v) (hg : Good F cons E W0 V j w v w') :
    Inv F cons E W0 (fun k => k = j ∨ L k) (fun k => if k = j then v else V k) w' := by
  obtain ⟨hg, hf, ho, heq⟩ := hg
  have live : ∀ k, k ≠ j → Live cons (fun k => k = j ∨ L k) k → Live cons L k ∧ cons j ≠ some k := fun k hk ⟨h1, h2⟩ => ⟨⟨h1.resolve_left hk, fun m hm => h2 m (.inr hm)⟩, h2 j (.inl rfl)⟩
  have hsrc : ∀ b, src F cons V j = some b → ∃ i, cons j = some i ∧ Live cons L i ∧ (F i).own (V i) = some b := fun b hb => by
    unfold src at hb
    cases hcj : cons j with
    | none => rw [hcj] at hb; cases hb
    | some i => rw [hcj] at hb; exact ⟨i, rfl, hc i hcj, hb⟩
  have far : ∀ k, k ≠ j → Live cons (fun k => k = j ∨ L k) k → ∀ b, (F k).own (V k) = some b → b < w.heap.size ∧ src F cons V j ≠ some b := fun k hk hl b hb => by
    obtain ⟨h1, h2⟩ := live k hk hl
    refine ⟨(h.lt k b h1 hb).2, fun e => ?_⟩
    obtain ⟨i, hi, hli, hob⟩ := hsrc b e
    exact h.sep k i b h1 hli (fun e2 => h2 (by rw [e2]; exact hi)) hb hob
  have agree : ∀ i, L i → V i = (fun k => if k = j then v else V k) i := fun i hi => by
    have : i ≠ j := fun e => hj (e ▸ hi)
    simp [this]
  refine ⟨?_, fun k hk => ?_, fun k b hk hb => ?_, fun i k b hi hk hne hib hkb => ?_, fun k hk => ?_⟩
  · exact Below.grown h.later hg h.later.size (fun k hk => by obtain ⟨i, _, hli, hob⟩ := hsrc k hk; exact (h.lt i k hli hob).1)
  · by_cases e : k = j
    · subst e; rw [if_pos rfl]; exact hf
    · rw [if_neg e]
      exact (F k).keep _ _ _ _ (h.holds k (live k e hk).1) hg (far k e hk)
  · by_cases e : k = j
    · subst e
      rw [if_pos rfl] at hb
      obtain ⟨h1, h2⟩ := ho b hb
      refine ⟨?_, h2⟩
      rcases h1 with h1 | h1
      · obtain ⟨i, _, hli, hob⟩ := hsrc b h1; exact (h.lt i b hli hob).1
      · exact Nat.le_trans h.later.size h1
    · rw [if_neg e] at hb
      have := h.lt k b (live k e hk).1 hb
      exact ⟨this.1, Nat.lt_of_lt_of_le this.2 hg.size⟩
  · by_cases ei : i = j
    · subst ei
      rw [if_pos rfl] at hib
      rw [if_neg (Ne.symm hne)] at hkb
      obtain ⟨h1, h2⟩ := far k (Ne.symm hne) hk b hkb
      rcases (ho b hib).1 with h3 | h3
      · exact h2 h3
      · omega
    · rw [if_neg ei] at hib
      by_cases ek : k = j
      · subst ek
        rw [if_pos rfl] at hkb
        obtain ⟨h1, h2⟩ := far i ei hi b hib
        rcases (ho b hkb).1 with h3 | h3
        · exact h2 h3
        · omega
      · rw [if_neg ek] at hkb
        exact h.sep i k b (live i ei hi).1 (live k ek hk).1 hne hib hkb
  · by_cases e : k = j
    · subst e
      rw [if_pos rfl]
      exact hsj _ agree heq
    · rw [if_neg e]
      have hk2 := hk.resolve_left e
      exact hse k hk2 _ agree (h.eqs k hk2)

end
section
variable {P : Program} {ops : Array Oper} {Q : Exit → Act → World → Prop}
def nums (use : List (List (Nat × Nat))) (j : Nat) : List Nat := (use.getD j []).map (·.1)
def Steps (C : Nat → Oper → Prop) : Nat → List Oper → Prop
  | _, [] => True
  | n, o :: l => C n o ∧ Steps C (n + 1) l
theorem Steps.nil {C : Nat → Oper → Prop} {n : Nat} : Steps C n [] := trivial
theorem Steps.cons {C : Nat → Oper → Prop} {n : Nat} {o : Oper} {l : List Oper} (h : C n o) (k : Steps C (n + 1) l) : Steps C n (o :: l) := ⟨h, k⟩
theorem Steps.get {C : Nat → Oper → Prop} : ∀ {l : List Oper} {n : Nat}, Steps C n l → ∀ k o, l[k]? = some o → C (n + k) o
  | [], _, _, _, _, h => by simp at h
  | x :: l, n, ⟨h1, h2⟩, k, o, h => by
    cases k with
    | zero => simp only [List.getElem?_cons_zero, Option.some.injEq] at h; subst h; exact h1
    | succ k => simp only [List.getElem?_cons_succ] at h; have := Steps.get h2 k o h; rwa [show n + 1 + k = n + (k + 1) by omega] at this
theorem getD_set (l : Array Bool) (i k : Nat) : ((l.setIfInBounds i true).getD k false = true) ↔ ((k = i ∧ i < l.size) ∨ l.getD k false = true) := by
  simp only [Array.getD_eq_getD_getElem?, Array.getElem?_setIfInBounds]
  by_cases e : i = k
  · subst e
    by_cases h : i < l.size
    · simp [h]
    · simp [h]
  · simp [e, Ne.symm e]
theorem left_set : ∀ (l : List Bool) (i : Nat), l[i]? = some false → ((l.set i true).filter (!·)).length + 1 = (l.filter (!·)).length
  | [], _, h => by simp at h
  | x :: l, 0, h => by simp only [List.getElem?_cons_zero, Option.some.injEq] at h; subst h; simp
  | x :: l, i + 1, h => by
    simp only [List.getElem?_cons_succ] at h
    have := left_set l i h
    cases x <;> simp [] <;> omega
theorem left_none : ∀ (l : List Bool), (l.filter (!·)).length = 0 → ∀ i, i < l.length → l[i]? = some true
  | [], _, i, h => by simp at h
  | x :: l, h, i, hi => by
    cases x with
    | false => simp at h
    | true =>
      cases i with
      | zero => rfl
      | succ i => simp only [List.getElem?_cons_succ]; exact left_none l (by simpa using h) i (by simpa using hi)

def Does1 (P : Program) (o : Oper) (V : Nat → Value) (b : Act) (w : World) (R : Value → World → Prop) : Prop :=
  match o.guard with
  | none => ∀ K : Act → World → Prop, (∀ v w', R v w' → K (b.put o.dst v) w') → o.wp P b w K NoExit
  | some (i, want) => (V i = .bool want ∧ ∀ K : Act → World → Prop, (∀ v w', R v w' → K (b.put o.dst v) w') → o.wp P b w K NoExit) ∨ (V i = .bool (!want) ∧ R undef w)
def alias (al : List (Nat × Nat × (Value → Value))) (j : Nat) (V : Nat → Value) (v : Value) : Prop := ∀ i f, (j, i, f) ∈ al → v = f (V i)
theorem alias_dep {al : List (Nat × Nat × (Value → Value))} {use : List (List (Nat × Nat))} (h : (al.all fun x => (nums use x.1).contains x.2.1) = true) (j : Nat) (V V' : Nat → Value) (v : Value) (he : ∀ i ∈ nums use j, V i = V' i) (ha : alias al j V v) : alias al j V' v := fun i f hm => by
  have := List.all_eq_true.1 h _ hm
  rw [← he i (by simpa using this)]
  exact ha i f hm
theorem alias_none {al : List (Nat × Nat × (Value → Value))} {j : Nat} (h : (al.all fun x => x.1 != j) = true) (V : Nat → Value) (v : Value) : alias al j V v := fun i f hm => by
  have := List.all_eq_true.1 h _ hm
  simp at this
end

def row (e : TypeId) (n : Nat) (xs : List Value) : Fact := ⟨fun v w => w.ownsRow 0 e 1 v n xs, Value.ownBlock, fun v w w' r h hg hb => by
  refine ⟨h.1, ?_⟩
  rcases h.2 with h2 | ⟨g, cap, cur, h3, h4, h5, h6⟩
  · exact .inl h2
  · subst h3
    have := hb g rfl
    exact .inr ⟨g, cap, cur, rfl, h4, (hg.block g this.1 (fun e => this.2 e.symm)).trans h5, h6⟩⟩

/-! ### The steps, a kind each -/
section
variable {P : Program} {F : Nat → Fact} {cons : List (Nat × Nat)} {E : Nat → (Nat → Value) → Value → Prop} {W0 : World} {V : Nat → Value} {j : Nat} {o : Oper} {b : Act} {w : World}
def Open (o : Oper) (V : Nat → Value) : Prop := match o.guard with | none => True | some (i, want) => V i = .bool want
theorem Does1.of {R : Value → World → Prop} (hg : Open o V) (h : ∀ K : Act → World → Prop, (∀ v w', R v w' → K (b.put o.dst v) w') → o.wp P b w K NoExit) : Does1 P o V b w R := by
  unfold Open at hg
  unfold Does1
  split <;> rename_i h0
  · exact h
  · rw [h0] at hg; exact .inl ⟨hg, h⟩
theorem call_enter {f : FuncId} {fn : Func} (hf : P.funcs[f]? = some fn) (hb : fn.body.isNone = false) (hn : (fn.name == "runtime.NumGoroutine") = false) (args : Array Value) (w : World) : (callFunc f args).run P w = .ok (.enter f args) w := by
  have hn' : ¬ fn.name = "runtime.NumGoroutine" := by simpa using hn
  have hb' : ¬ fn.body = none := by intro e; rw [e] at hb; cases hb
  unfold callFunc
  simp [hf, hn', hb', go_sem]
end
end Go.Proofs.YtmcbpgbiephllaaDoor.Rg

namespace Go.Proofs.YtmcbpgbiephllaaDoor
open Go.RowKit

def bRow (l : List UInt8) : Rg.Fact := Rg.row 5 l.length (Lib.byteCells l)

theorem bRow_form {w : World} {v : Value} {l : List UInt8} (h : (bRow l).holds v w) : ∃ A c, v = .slice A l.length c ∧ l.length ≤ c ∧ Rd w A l := by
  have h0 : w.ownsRow 0 5 1 v l.length (Lib.byteCells l) := h
  rcases Nat.eq_zero_or_pos l.length with h1 | h1
  · rcases h0.2 with ⟨rfl, _⟩ | ⟨g, cap, cur, rfl, _, _, hn, _⟩
    · exact ⟨none, 0, by rw [h1], by omega, fun hp => absurd hp (by omega)⟩
    · exact ⟨_, cap, rfl, hn, fun hp => absurd hp (by omega)⟩
  · obtain ⟨g, c, e, hc, _, _, _, hr⟩ := rd_own h0 h1
    exact ⟨_, c, e, hc, hr⟩

section
variable {F : Nat → Rg.Fact} {cons : List (Nat × Nat)} {al : List (Nat × Nat × (Value → Value))} {W0 : World} {V : Nat → Value} {j : Nat} {o : Oper} {b : Act} {w : World}
end
end Go.Proofs.YtmcbpgbiephllaaDoor

namespace Go.Proofs.YtmcbpgbiephllaaDoor
open Go.RowKit

theorem own_set {w : World} {base g c n : Nat} {l : List UInt8} (h : w.ownsRow base 5 1 (.slice (some ⟨g, 0, none⟩) n c) n (Lib.byteCells l)) (k : Nat) (_hk : k < n) (x : UInt8) (X : Int) (hX : X = x.toNat) :
    (w.setCell ⟨g, k, none⟩ (.int .u8 X)).ownsRow base 5 1 (.slice (some ⟨g, 0, none⟩) n c) n (Lib.byteCells (l.set k x)) := by
  subst hX
  refine ⟨by have := h.1; simpa [Lib.byteCells] using this, ?_⟩
  rcases h.2 with ⟨h1, _⟩ | ⟨g', cap, cur, h1, h2, h3, h4, h5, h6, h7⟩
  · cases h1
  · injection h1 with h1 h1b h1c
    injection h1 with h1
    injection h1 with h1
    subst h1
    refine .inr ⟨g, cap, cur.setIfInBounds k (.int .u8 x.toNat), by rw [h1c], h2, ?_, h4, h5, by simpa using h6, ?_⟩
    · simp [World.setCell, Array.getElem?_modify, h3]
    · rw [Array.toList_setIfInBounds, List.take_set, h7]
      simp [Lib.byteCells, List.map_set]
theorem own_far {w : World} {base n : Nat} {v : Value} {xs : List Value} (h : w.ownsRow base 5 1 v n xs) (p : Addr) (hne : v.ownBlock ≠ some p.block) (u : Value) : (w.setCell p u).ownsRow base 5 1 v n xs := by
  refine ⟨h.1, ?_⟩
  rcases h.2 with h2 | ⟨g, cap, cur, h3, h4, h5, h6⟩
  · exact .inl h2
  · subst h3
    refine .inr ⟨g, cap, cur, rfl, h4, ?_, h6⟩
    rw [Below.heap_setCell w p u g (fun e => hne (by rw [← e]; rfl))]
    exact h5
theorem own_frozen {w : World} {base g c n : Nat} {xs : List Value} (h : w.ownsRow base 5 1 (.slice (some ⟨g, 0, none⟩) n c) n xs) (k : Nat) : w.frozen? ⟨g, k, none⟩ = false := by
  rcases h.2 with ⟨h1, _⟩ | ⟨g', cap, cur, h1, h2, h3, _⟩
  · cases h1
  · injection h1 with h1
    injection h1 with h1
    injection h1 with h1
    subst h1
    simp [World.frozen?, h3]
theorem own_addr {w : World} {base n c : Nat} {X : Option Addr} {xs : List Value} (h : w.ownsRow base 5 1 (.slice X n c) n xs) (hn : 0 < n) : ∃ g, X = some ⟨g, 0, none⟩ := by
  rcases h.2 with ⟨_, h0⟩ | ⟨g, cap, cur, h1, _⟩
  · omega
  · injection h1 with h1
    exact ⟨g, h1⟩
theorem own_byte {w : World} {base g c n : Nat} {l : List UInt8} (h : w.ownsRow base 5 1 (.slice (some ⟨g, 0, none⟩) n c) n (Lib.byteCells l)) (k : Nat) (hk : k < n) : w.cell? ⟨g, k, none⟩ = some (.int .u8 (l.getD k 0).toNat) := by
  obtain ⟨g', c', e, _, _, _, hlen, hr⟩ := rd_own h (by omega)
  injection e with e
  injection e with e
  injection e with e
  subst e
  obtain ⟨b, off, e, _, hc⟩ := hr.at_ (by omega)
  injection e with e
  injection e with e1 e2
  subst e1 e2
  have := hc k (by omega)
  rwa [Nat.zero_add] at this
theorem Rd.byte {w : World} {b off : Nat} {l : List UInt8} (h : Rd w (some ⟨b, off, none⟩) l) (j : Nat) (hj : j < l.length) : w.cell? ⟨b, off + j, none⟩ = some (.int .u8 (l.getD j 0).toNat) := by
  obtain ⟨b', off', e, _, hc⟩ := h.at_ (by omega)
  injection e with e
  injection e with e1 e2
  subst e1 e2
  exact hc j hj
theorem Later.setCell {w0 w : World} (h : Later w0 w) (p : Addr) (hp : w0.heap.size ≤ p.block) (u : Value) : Later w0 (w.setCell p u) := Below.setCell h hp u
end Go.Proofs.YtmcbpgbiephllaaDoor

namespace Go.Proofs.YtmcbpgbiephllaaDoor
open Go.RowKit
namespace Co
def wByte (n : Nat) : List UInt8 := [UInt8.ofNat n]
def wShort (n : Nat) : List UInt8 := [UInt8.ofNat (n / 256), UInt8.ofNat n]
def wLong (n : Nat) : List UInt8 := (List.range 8).map fun j => UInt8.ofNat (n / 2 ^ (56 - 8 * j))
def wFlag (f : Bool) : List UInt8 := [if f then 1 else 0]
def wBytes (x : List UInt8) : List UInt8 := wShort (x.take 65535).length ++ x.take 65535
theorem wLong_length (n : Nat) : (wLong n).length = 8 := by simp [wLong]
structure Rs where
  rem : List UInt8
  why : Nat
def raw (n : Int) (s : Rs) : List UInt8 × Rs :=
  if s.why ≠ 0 ∨ n < 1 then ([], s) else if (s.rem.length : Int) < n then ([], { s with why := 10 }) else (s.rem.take n.toNat, { s with rem := s.rem.drop n.toNat })
def beVal (l : List UInt8) : Nat := l.foldl (fun x b => (x * 256 + b.toNat) % 18446744073709551616) 0
def num (n : Int) (s : Rs) : Nat × Rs := (beVal (raw n s).1, (raw n s).2)
def flag (s : Rs) : Bool × Rs := (decide ((num 1 s).1 = 1), if 1 < (num 1 s).1 then { (num 1 s).2 with why := 12 } else (num 1 s).2)
def bytes (s : Rs) : List UInt8 × Rs := raw ((num 2 s).1 : Nat) (num 2 s).2
def left (s : Rs) : Nat := if s.why ≠ 0 then 0 else s.rem.length
def fin (s : Rs) : Nat := if s.why ≠ 0 then s.why else if 0 < s.rem.length then 11 else 0
end Co
theorem MAt.empty (w : World) : MAt w.heap.size (.slice (some ⟨w.heap.size, 0, none⟩) 0 0) [] w (w.alloc (.cells #[] 5)) :=
  ⟨⟨rfl, .inr ⟨w.heap.size, 0, #[], rfl, Nat.le_refl _, heap_alloc_new w _, Nat.le_refl _, by unfold maxLen; omega, rfl, rfl⟩⟩, below_new w _, rfl⟩
theorem u8_cast (n : Nat) : (((UInt8.ofNat n).toNat : Nat) : Int) = (n : Int) % 256 := by rw [UInt8.toNat_ofNat']; omega
end Go.Proofs.YtmcbpgbiephllaaDoor

namespace Go.Proofs.YtmcbpgbiephllaaDoor
open Go.RowKit
namespace Co
theorem raw_app (x r : List UInt8) (n : Int) (h : n = x.length) (h1 : 1 ≤ n) : raw n ⟨x ++ r, 0⟩ = (x, ⟨r, 0⟩) := by
  subst h
  unfold raw
  rw [if_neg (by simp only [ne_eq, not_true_eq_false, false_or]; omega), if_neg (by simp only [List.length_append]; omega)]
  simp
theorem num_app (x r : List UInt8) (n : Int) (h : n = x.length) (h1 : 1 ≤ n) : num n ⟨x ++ r, 0⟩ = (beVal x, ⟨r, 0⟩) := by
  unfold num; rw [raw_app x r n h h1]
theorem num_byte (n : Nat) (r : List UInt8) : num 1 ⟨wByte n ++ r, 0⟩ = (n % 256, ⟨r, 0⟩) := by
  rw [num_app _ _ _ (by rfl) (by decide)]
  simp only [beVal, wByte, List.foldl_cons, List.foldl_nil, UInt8.toNat_ofNat']
  congr 1; omega
theorem num_short (n : Nat) (r : List UInt8) : num 2 ⟨wShort n ++ r, 0⟩ = (n % 65536, ⟨r, 0⟩) := by
  rw [num_app _ _ _ (by rfl) (by decide)]
  simp only [beVal, wShort, List.foldl_cons, List.foldl_nil, UInt8.toNat_ofNat']
  congr 1; omega
theorem wLong_is (n : Nat) : wLong n = [UInt8.ofNat (n / 72057594037927936), UInt8.ofNat (n / 281474976710656), UInt8.ofNat (n / 1099511627776), UInt8.ofNat (n / 4294967296), UInt8.ofNat (n / 16777216), UInt8.ofNat (n / 65536), UInt8.ofNat (n / 256), UInt8.ofNat n] := by
  have e : List.range 8 = [0, 1, 2, 3, 4, 5, 6, 7] := by decide
  unfold wLong
  rw [e]
  simp
theorem dig (n d : Nat) (hn : n ≤ 18446744073709551615) : (n / (d * 256) * 256 + n / d % 2 ^ 8) % 18446744073709551616 = n / d := by
  rw [← Nat.div_div_eq_div_mul]
  have h := Nat.div_le_self n d
  generalize n / d = q at h
  omega
theorem num_long (n : Nat) (hn : n ≤ 18446744073709551615) (r : List UInt8) : num 8 ⟨wLong n ++ r, 0⟩ = (n, ⟨r, 0⟩) := by
  rw [num_app _ _ _ (by rw [wLong_length]; rfl) (by decide)]
  simp only [beVal, wLong_is, List.foldl_cons, List.foldl_nil, UInt8.toNat_ofNat']
  have s0 : (0 * 256 + n / 72057594037927936 % 2 ^ 8) % 18446744073709551616 = n / 72057594037927936 := by
    have := Nat.div_lt_of_lt_mul (m := n) (n := 72057594037927936) (k := 256) (by omega)
    generalize n / 72057594037927936 = q at this
    omega
  have s1 := dig n 281474976710656 hn
  have s2 := dig n 1099511627776 hn
  have s3 := dig n 4294967296 hn
  have s4 := dig n 16777216 hn
  have s5 := dig n 65536 hn
  have s6 := dig n 256 hn
  have s7 := dig n 1 hn
  simp only [Nat.reduceMul, Nat.div_one] at s1 s2 s3 s4 s5 s6 s7
  rw [s0, s1, s2, s3, s4, s5, s6, s7]
theorem bytes_app (x r : List UInt8) (hx : x.length ≤ 65535) : bytes ⟨wBytes x ++ r, 0⟩ = (x, ⟨r, 0⟩) := by
  have ht : x.take 65535 = x := List.take_of_length_le hx
  unfold bytes wBytes
  rw [ht, List.append_assoc, num_short]
  show raw ((x.length % 65536 : Nat) : Int) ⟨x ++ r, 0⟩ = _
  rw [Nat.mod_eq_of_lt (by omega)]
  by_cases h : x = []
  · subst h; rfl
  · have : 0 < x.length := List.length_pos_iff.2 h
    exact raw_app x r _ rfl (by omega)
end Co
end Go.Proofs.YtmcbpgbiephllaaDoor

namespace Go.Proofs.YtmcbpgbiephllaaDoor
open Go.RowKit
namespace Co
theorem bits_or64 (x b : Nat) (hb : b < 256) : bits .or .u64 (IntKind.u64.wrap ((x : Int) * (256 : Int))) (b : Int) = (((x * 256 + b) % 18446744073709551616 : Nat) : Int) := by
  show IntKind.u64.wrap ((BitVec.ofInt 64 _ ||| BitVec.ofInt 64 _).toNat : Int) = _
  obtain ⟨y, hy⟩ : ∃ y : Nat, y = (x % 72057594037927936) <<< 8 := ⟨_, rfl⟩
  have hy2 : y = (x % 72057594037927936) * 256 := by rw [hy, Nat.shiftLeft_eq]
  have hx : IntKind.u64.wrap ((x : Int) * (256 : Int)) = (y : Int) := by rw [IntKind.wrap_u64]; omega
  have hor : y ||| b = y + b := by rw [hy]; exact (Nat.shiftLeft_add_eq_or_of_lt (by omega : b < 2 ^ 8) _).symm
  rw [hx, BitVec.ofInt_natCast, BitVec.ofInt_natCast, BitVec.toNat_or, BitVec.toNat_ofNat, BitVec.toNat_ofNat, Nat.mod_eq_of_lt (by omega), Nat.mod_eq_of_lt (by omega), hor]
  rw [IntKind.wrap_u64]
  omega
theorem beVal_snoc (l : List UInt8) (k : Nat) (h : k < l.length) : beVal (l.take (k + 1)) = (beVal (l.take k) * 256 + (l.getD k 0).toNat) % 18446744073709551616 := by
  rw [List.take_succ_eq_append_getElem h, beVal, beVal, List.foldl_append]
  simp only [List.foldl_cons, List.foldl_nil, List.getD, List.getElem?_eq_getElem h, Option.getD_some]
end Co
theorem own_nil (w : World) (B : Nat) : w.ownsRow B 5 1 (.slice none 0 0) 0 (Lib.byteCells []) := ⟨rfl, .inl ⟨rfl, rfl⟩⟩
theorem own_form {w : World} {B : Nat} {v : Value} {l : List UInt8} (h : w.ownsRow B 5 1 v l.length (Lib.byteCells l)) : ∃ X c, v = .slice X l.length c ∧ l.length ≤ c ∧ Rd w X l := bRow_form (own_base h)
theorem num_small1 (s : Co.Rs) : (Co.num 1 s).1 < 256 := by
  unfold Co.num Co.raw
  split
  · exact (by decide : Co.beVal [] < 256)
  · split
    · exact (by decide : Co.beVal [] < 256)
    · show Co.beVal (s.rem.take 1) < 256
      rcases s.rem with _ | ⟨a, t⟩
      · decide
      · have := a.toNat_lt
        simp [Co.beVal]
        omega
theorem num_small2 (s : Co.Rs) : (Co.num 2 s).1 < 65536 := by
  unfold Co.num Co.raw
  split
  · exact (by decide : Co.beVal [] < 65536)
  · split
    · exact (by decide : Co.beVal [] < 65536)
    · show Co.beVal (s.rem.take 2) < 65536
      rcases s.rem with _ | ⟨a, _ | ⟨b, t⟩⟩
      · decide
      · have := a.toNat_lt
        simp [Co.beVal]
        omega
      · have := a.toNat_lt
        have := b.toNat_lt
        simp [Co.beVal]
        omega
end Go.Proofs.YtmcbpgbiephllaaDoor

namespace Go.Proofs.YtmcbpgbiephllaaDoor
open Go.RowKit
namespace Co
theorem raw_inv (k : Nat) (s : Rs) (hk : 1 ≤ k) (h : (raw (k : Int) s).2.why = 0) : s.why = 0 ∧ (raw (k : Int) s).1.length = k ∧ s.rem = (raw (k : Int) s).1 ++ (raw (k : Int) s).2.rem := by
  unfold raw at h ⊢
  by_cases h1 : s.why ≠ 0 ∨ (k : Int) < 1
  · rw [if_pos h1] at h
    rcases h1 with h1 | h1
    · exact absurd h h1
    · omega
  · rw [if_neg h1] at h ⊢
    by_cases h2 : (s.rem.length : Int) < (k : Int)
    · rw [if_pos h2] at h
      exact absurd h (by simp)
    · rw [if_neg h2] at h ⊢
      refine ⟨h, ?_, ?_⟩
      · show (s.rem.take (k : Int).toNat).length = k
        rw [List.length_take]; omega
      · show s.rem = s.rem.take (k : Int).toNat ++ s.rem.drop (k : Int).toNat
        rw [List.take_append_drop]
theorem num_inv (k : Nat) (s : Rs) (hk : 1 ≤ k) (h : (num (k : Int) s).2.why = 0) : s.why = 0 ∧ ∃ x : List UInt8, x.length = k ∧ (num (k : Int) s).1 = beVal x ∧ s.rem = x ++ (num (k : Int) s).2.rem := by
  obtain ⟨h1, h2, h3⟩ := raw_inv k s hk h
  exact ⟨h1, _, h2, rfl, h3⟩
theorem byte_inv (s : Rs) (h : (num 1 s).2.why = 0) : s.why = 0 ∧ (num 1 s).1 < 256 ∧ s.rem = wByte (num 1 s).1 ++ (num 1 s).2.rem := by
  obtain ⟨h1, x, h2, h3, h4⟩ := num_inv 1 s (by omega) h
  have h5 : (num 1 s).1 = beVal x := h3
  have h6 : s.rem = x ++ (num 1 s).2.rem := h4
  match x, h2 with
  | [a], _ =>
    have ha := a.toNat_lt
    have e : beVal [a] = a.toNat := by
      simp only [beVal, List.foldl_cons, List.foldl_nil]
      omega
    rw [e] at h5
    refine ⟨h1, by omega, ?_⟩
    rw [h6, h5]
    simp [wByte]
theorem short_inv (s : Rs) (h : (num 2 s).2.why = 0) : s.why = 0 ∧ (num 2 s).1 < 65536 ∧ s.rem = wShort (num 2 s).1 ++ (num 2 s).2.rem := by
  obtain ⟨h1, x, h2, h3, h4⟩ := num_inv 2 s (by omega) h
  have h5 : (num 2 s).1 = beVal x := h3
  have h6 : s.rem = x ++ (num 2 s).2.rem := h4
  match x, h2 with
  | [a, b], _ =>
    have ha := a.toNat_lt
    have hb := b.toNat_lt
    have e : beVal [a, b] = a.toNat * 256 + b.toNat := by
      simp only [beVal, List.foldl_cons, List.foldl_nil]
      omega
    rw [e] at h5
    refine ⟨h1, by omega, ?_⟩
    rw [h6, h5]
    have e1 : UInt8.ofNat ((a.toNat * 256 + b.toNat) / 256) = a := by
      apply UInt8.toNat_inj.1
      rw [UInt8.toNat_ofNat']
      omega
    have e2 : UInt8.ofNat (a.toNat * 256 + b.toNat) = b := by
      apply UInt8.toNat_inj.1
      rw [UInt8.toNat_ofNat']
      omega
    simp only [wShort, e1, e2]
theorem long_inv (s : Rs) (h : (num 8 s).2.why = 0) : s.why = 0 ∧ (num 8 s).1 ≤ 18446744073709551615 ∧ s.rem = wLong (num 8 s).1 ++ (num 8 s).2.rem := by
  obtain ⟨h1, x, h2, h3, h4⟩ := num_inv 8 s (by omega) h
  have h5 : (num 8 s).1 = beVal x := h3
  have h6 : s.rem = x ++ (num 8 s).2.rem := h4
  match x, h2 with
  | [a0, a1, a2, a3, a4, a5, a6, a7], _ =>
    have b0 := a0.toNat_lt
    have b1 := a1.toNat_lt
    have b2 := a2.toNat_lt
    have b3 := a3.toNat_lt
    have b4 := a4.toNat_lt
    have b5 := a5.toNat_lt
    have b6 := a6.toNat_lt
    have b7 := a7.toNat_lt
    obtain ⟨v, hv⟩ : ∃ v, v = beVal [a0, a1, a2, a3, a4, a5, a6, a7] := ⟨_, rfl⟩
    have e : v = ((((((a0.toNat * 256 + a1.toNat) * 256 + a2.toNat) * 256 + a3.toNat) * 256 + a4.toNat) * 256 + a5.toNat) * 256 + a6.toNat) * 256 + a7.toNat := by
      rw [hv]
      simp only [beVal, List.foldl_cons, List.foldl_nil]
      omega
    rw [← hv] at h5
    refine ⟨h1, by omega, ?_⟩
    rw [h6, h5, wLong_is]
    have f : ∀ (d : Nat) (a : UInt8), v / d % 256 = a.toNat → UInt8.ofNat (v / d) = a := fun d a hh => by
      apply UInt8.toNat_inj.1
      rw [UInt8.toNat_ofNat']
      exact hh
    have f7 : UInt8.ofNat v = a7 := by
      apply UInt8.toNat_inj.1
      rw [UInt8.toNat_ofNat']
      omega
    rw [f 72057594037927936 a0 (by omega), f 281474976710656 a1 (by omega), f 1099511627776 a2 (by omega), f 4294967296 a3 (by omega), f 16777216 a4 (by omega), f 65536 a5 (by omega), f 256 a6 (by omega), f7]
end Co
end Go.Proofs.YtmcbpgbiephllaaDoor

namespace Go.Proofs.YtmcbpgbiephllaaDoor
namespace Cr

def poly : Nat := 3988292384
def stp (c : Nat) : Nat := if c % 2 = 1 then (c / 2) ^^^ poly else c / 2
def stps : Nat → Nat → Nat
  | 0, c => c
  | n + 1, c => stps n (stp c)
def byt (c : Nat) : Nat := stps 8 c
def run (c : Nat) (l : List UInt8) : Nat := l.foldl (fun c b => byt (c ^^^ b.toNat)) c
def ones : Nat := 4294967295
def sum (l : List UInt8) : Nat := run ones l ^^^ ones
def more (c : Nat) (l : List UInt8) : Nat := run (c ^^^ ones) l ^^^ ones

theorem stp_bit (c i : Nat) : (stp c).testBit i = (c.testBit (i + 1) ^^ (c.testBit 0 && poly.testBit i)) := by
  have h0 : c.testBit 0 = decide (c % 2 = 1) := Nat.testBit_zero c
  have h1 : (c / 2).testBit i = c.testBit (i + 1) := by rw [Nat.testBit_succ]
  unfold stp
  split
  · rename_i h
    rw [Nat.testBit_xor, h1, h0]
    simp [h]
  · rename_i h
    rw [h1, h0]
    simp [h]
theorem stp_xor (a b : Nat) : stp (a ^^^ b) = stp a ^^^ stp b := by
  apply Nat.eq_of_testBit_eq
  intro i
  simp only [stp_bit, Nat.testBit_xor]
  cases a.testBit (i + 1) <;> cases b.testBit (i + 1) <;> cases a.testBit 0 <;> cases b.testBit 0 <;> cases poly.testBit i <;> rfl
theorem poly_lt : poly < 2 ^ 32 := by decide
theorem stp_lt {c : Nat} (h : c < 2 ^ 32) : stp c < 2 ^ 32 := by
  unfold stp
  split
  · exact Nat.xor_lt_two_pow (by omega) poly_lt
  · omega
theorem stp_zero {c : Nat} (h : c < 2 ^ 32) (hz : stp c = 0) : c = 0 := by
  have hb : ∀ i, (c.testBit (i + 1) ^^ (c.testBit 0 && poly.testBit i)) = false := fun i => by rw [← stp_bit, hz]; exact Nat.zero_testBit i
  have h31 := hb 31
  have h32 : c.testBit 32 = false := Nat.testBit_lt_two_pow h
  have hp : poly.testBit 31 = true := by decide
  rw [h32, hp] at h31
  have h0 : c.testBit 0 = false := by simpa using h31
  apply Nat.eq_of_testBit_eq
  intro i
  rw [Nat.zero_testBit]
  cases i with
  | zero => exact h0
  | succ i => have := hb i; rw [h0] at this; simpa using this
theorem stp_even (x : Nat) : stp (2 * x) = x := by
  unfold stp
  rw [if_neg (by omega)]
  omega
theorem stps_xor : ∀ (n a b : Nat), stps n (a ^^^ b) = stps n a ^^^ stps n b
  | 0, _, _ => rfl
  | n + 1, a, b => by simp only [stps]; rw [stp_xor, stps_xor n]
theorem stps_lt : ∀ (n : Nat) {c : Nat}, c < 2 ^ 32 → stps n c < 2 ^ 32
  | 0, _, h => h
  | n + 1, _, h => stps_lt n (stp_lt h)
theorem stps_zero : ∀ (n : Nat) {c : Nat}, c < 2 ^ 32 → stps n c = 0 → c = 0
  | 0, _, _, h => h
  | n + 1, _, hl, h => stp_zero hl (stps_zero n (stp_lt hl) h)
theorem stps_pow : ∀ (n x : Nat), stps n (2 ^ n * x) = x
  | 0, x => by simp [stps]
  | n + 1, x => by
    simp only [stps]
    rw [show 2 ^ (n + 1) * x = 2 * (2 ^ n * x) by rw [Nat.pow_succ, Nat.mul_comm (2 ^ n) 2, Nat.mul_assoc], stp_even, stps_pow n]
theorem byt_xor (a b : Nat) : byt (a ^^^ b) = byt a ^^^ byt b := stps_xor 8 a b
theorem byt_lt {c : Nat} (h : c < 2 ^ 32) : byt c < 2 ^ 32 := stps_lt 8 h
theorem byt_zero {c : Nat} (h : c < 2 ^ 32) (hz : byt c = 0) : c = 0 := stps_zero 8 h hz
theorem xor_eq_zero {a b : Nat} (h : a ^^^ b = 0) : a = b := by
  apply Nat.eq_of_testBit_eq
  intro i
  have := congrArg (fun x : Nat => x.testBit i) h
  simp only [Nat.testBit_xor, Nat.zero_testBit] at this
  cases h1 : a.testBit i <;> cases h2 : b.testBit i <;> simp_all
theorem byt_inj {a b : Nat} (ha : a < 2 ^ 32) (hb : b < 2 ^ 32) (h : byt a = byt b) : a = b := by
  apply xor_eq_zero
  apply byt_zero (Nat.xor_lt_two_pow ha hb)
  rw [byt_xor, h, Nat.xor_self]
theorem u8_lt (b : UInt8) : b.toNat < 2 ^ 32 := Nat.lt_trans b.toNat_lt (by decide)
theorem run_lt : ∀ (l : List UInt8) {c : Nat}, c < 2 ^ 32 → run c l < 2 ^ 32
  | [], _, h => h
  | b :: l, c, h => run_lt l (c := byt (c ^^^ b.toNat)) (byt_lt (Nat.xor_lt_two_pow h (u8_lt b)))
theorem run_append (c : Nat) (l r : List UInt8) : run c (l ++ r) = run (run c l) r := by simp [run, List.foldl_append]
theorem run_inj : ∀ (l : List UInt8) {a b : Nat}, a < 2 ^ 32 → b < 2 ^ 32 → run a l = run b l → a = b
  | [], _, _, _, _, h => h
  | x :: l, a, b, ha, hb, h => by
    have h1 := run_inj l (a := byt (a ^^^ x.toNat)) (b := byt (b ^^^ x.toNat)) (byt_lt (Nat.xor_lt_two_pow ha (u8_lt x))) (byt_lt (Nat.xor_lt_two_pow hb (u8_lt x))) h
    have h2 := byt_inj (Nat.xor_lt_two_pow ha (u8_lt x)) (Nat.xor_lt_two_pow hb (u8_lt x)) h1
    have h3 := congrArg (· ^^^ x.toNat) h2
    simpa [Nat.xor_assoc] using h3
theorem ones_lt : ones < 2 ^ 32 := by decide
theorem sum_lt (l : List UInt8) : sum l < 2 ^ 32 := Nat.xor_lt_two_pow (run_lt l ones_lt) ones_lt
theorem more_zero (l : List UInt8) : more 0 l = sum l := by unfold more sum; rw [Nat.zero_xor]
end Cr
end Go.Proofs.YtmcbpgbiephllaaDoor

namespace Go.Proofs.YtmcbpgbiephllaaDoor
open Go.RowKit
open Co hiding bytes
namespace Re
structure Rec where
  kind : Int
  seq : Nat
  body : List UInt8
def Right (r : Rec) : Prop := ((r.kind = 1 ∧ r.body.length ≤ 900) ∨ (r.kind = 2 ∧ r.body.length = 0)) ∧ r.seq ≤ 1099511627776
instance (r : Rec) : Decidable (Right r) := by unfold Right; infer_instance
def zero : Rec := ⟨0, 0, []⟩
def head (r : Rec) : List UInt8 := wByte r.kind.toNat ++ (wLong r.seq ++ wBytes r.body)
def four (s : Nat) : List UInt8 := wShort (s / 65536) ++ wShort s
def form (r : Rec) : List UInt8 := head r ++ four (Cr.sum (head r))
def size (r : Rec) : Nat := if Right r then 15 + r.body.length else 0
def enc (r : Rec) : List UInt8 × Nat := if Right r then (form r, 0) else ([], 12)
def Kd (k : Nat) : Prop := k = 1 ∨ k = 2
instance (k : Nat) : Decidable (Kd k) := by unfold Kd; infer_instance
def fields (L : List UInt8) : Rec × Nat × Rs :=
  let p0 := num 1 ⟨L, 0⟩
  let p1 := num 8 p0.2
  let p2 := Co.bytes p1.2
  let p3 := num 2 p2.2
  let p4 := num 2 p3.2
  (⟨(p0.1 : Nat), p1.1, p2.1⟩, p3.1 * 65536 + p4.1, p4.2)
def dec (L : List UInt8) : Rec × Nat × Nat :=
  if 0 < L.length ∧ ¬ Kd (num 1 ⟨L, 0⟩).1 then (zero, 0, 12)
  else if (fields L).2.2.why ≠ 0 then (zero, 0, 10)
  else if Cr.sum (L.take (11 + (fields L).1.body.length)) ≠ (fields L).2.1 then (zero, 0, 14)
  else if ¬ Right (fields L).1 then (zero, 0, 12)
  else ((fields L).1, 15 + (fields L).1.body.length, 0)
theorem wBytes_is {x : List UInt8} (h : x.length ≤ 65535) : wBytes x = wShort x.length ++ x := by
  unfold wBytes
  rw [List.take_of_length_le h]
theorem head_length {r : Rec} (h : r.body.length ≤ 65535) : (head r).length = 11 + r.body.length := by
  unfold head
  rw [wBytes_is h]
  simp only [List.length_append, wLong_length, wByte, wShort, List.length_cons, List.length_nil]
  omega
theorem four_length (s : Nat) : (four s).length = 4 := rfl
theorem form_length {r : Rec} (h : r.body.length ≤ 65535) : (form r).length = 15 + r.body.length := by
  unfold form
  rw [List.length_append, head_length h, four_length]
  omega
theorem right_len {r : Rec} (h : Right r) : r.body.length ≤ 900 := by
  rcases h.1 with h | h <;> omega
theorem right_kind {r : Rec} (h : Right r) : r.kind = 1 ∨ r.kind = 2 := by
  rcases h.1 with h | h
  · exact .inl h.1
  · exact .inr h.1
theorem four_inj {a b : Nat} (ha : a < 4294967296) (hb : b < 4294967296) (h : four a = four b) : a = b := by
  simp only [four, wShort, List.cons_append, List.nil_append, List.cons.injEq, and_true] at h
  obtain ⟨h1, h2, h3, h4⟩ := h
  have e : ∀ x y : Nat, UInt8.ofNat x = UInt8.ofNat y → x % 256 = y % 256 := fun x y h => by
    have := congrArg UInt8.toNat h
    rwa [UInt8.toNat_ofNat', UInt8.toNat_ofNat'] at this
  have := e _ _ h1
  have := e _ _ h2
  have := e _ _ h3
  have := e _ _ h4
  omega
theorem fields_app (r : Rec) (S : Nat) (m : List UInt8) (hk : 0 ≤ r.kind ∧ r.kind < 256) (hq : r.seq ≤ 18446744073709551615) (hb : r.body.length ≤ 65535) (hS : S < 4294967296) : fields (head r ++ (four S ++ m)) = (r, S, ⟨m, 0⟩) := by
  obtain ⟨k, q, b⟩ := r
  dsimp only at hk hq hb
  obtain ⟨j, rfl⟩ : ∃ j : Nat, k = j := ⟨k.toNat, by omega⟩
  unfold fields head four
  dsimp only
  simp only [Int.toNat_natCast, List.append_assoc]
  rw [num_byte]
  dsimp only
  rw [num_long q hq]
  dsimp only
  rw [bytes_app b _ hb]
  dsimp only
  rw [num_short]
  dsimp only
  rw [num_short]
  dsimp only
  rw [show ((j % 256 : Nat) : Int) = (j : Int) from by omega, show S / 65536 % 65536 * 65536 + S % 65536 = S from by omega]
theorem first_app (r : Rec) (m : List UInt8) (hk : 0 ≤ r.kind ∧ r.kind < 256) : (num 1 ⟨head r ++ m, 0⟩).1 = r.kind.toNat := by
  unfold head
  simp only [List.append_assoc]
  rw [num_byte]
  show r.kind.toNat % 256 = _
  omega
theorem sum_lt (l : List UInt8) : Cr.sum l < 4294967296 := Cr.sum_lt l
theorem right_kd {r : Rec} (h : Right r) : Kd r.kind.toNat := by
  rcases right_kind h with h | h
  · exact .inl (by omega)
  · exact .inr (by omega)
theorem dec_form (r : Rec) (h : Right r) (m : List UInt8) : dec (form r ++ m) = (r, 15 + r.body.length, 0) := by
  have hl := right_len h
  have hk : 0 ≤ r.kind ∧ r.kind < 256 := by rcases right_kind h with h | h <;> omega
  have hq : r.seq ≤ 18446744073709551615 := by have := h.2; omega
  have hf : fields (form r ++ m) = (r, Cr.sum (head r), ⟨m, 0⟩) := by
    unfold form
    rw [List.append_assoc]
    exact fields_app r _ m hk hq (by omega) (sum_lt _)
  have h1 : (num 1 ⟨form r ++ m, 0⟩).1 = r.kind.toNat := by
    unfold form
    rw [List.append_assoc]
    exact first_app r _ hk
  have ht : (form r ++ m).take (11 + r.body.length) = head r := by
    unfold form
    rw [List.append_assoc, ← head_length (r := r) (by omega), List.take_left]
  unfold dec
  rw [h1, hf]
  dsimp only
  rw [if_neg (fun h9 => h9.2 (right_kd h)), if_neg (by simp), ht, if_neg (by simp), if_neg (fun h9 => h9 h)]
theorem raw_why (n : Int) (s : Rs) (h : s.why = 0 ∨ s.why = 10) : (raw n s).2.why = 0 ∨ (raw n s).2.why = 10 := by
  unfold raw
  split
  · exact h
  · split
    · exact .inr rfl
    · exact h
theorem num_why (n : Int) (s : Rs) (h : s.why = 0 ∨ s.why = 10) : (num n s).2.why = 0 ∨ (num n s).2.why = 10 := raw_why n s h
theorem bytes_why (s : Rs) (h : s.why = 0 ∨ s.why = 10) : (Co.bytes s).2.why = 0 ∨ (Co.bytes s).2.why = 10 := raw_why _ _ (num_why 2 s h)
theorem fields_why (L : List UInt8) : (fields L).2.2.why = 0 ∨ (fields L).2.2.why = 10 := by
  unfold fields
  dsimp only
  exact num_why 2 _ (num_why 2 _ (bytes_why _ (num_why 8 _ (num_why 1 _ (.inl rfl)))))
theorem bytes_inv (s : Rs) (h : (Co.bytes s).2.why = 0) : s.why = 0 ∧ (Co.bytes s).1.length ≤ 65535 ∧ s.rem = wBytes (Co.bytes s).1 ++ (Co.bytes s).2.rem := by
  by_cases h0 : (num 2 s).1 = 0
  · have e : Co.bytes s = ([], (num 2 s).2) := by
      unfold Co.bytes raw
      rw [h0, if_pos (.inr (by decide))]
    rw [e] at h ⊢
    obtain ⟨h1, _, h3⟩ := short_inv s h
    refine ⟨h1, by simp, ?_⟩
    rw [h3, h0]
    rfl
  · obtain ⟨h1, h2, h3⟩ := raw_inv (num 2 s).1 (num 2 s).2 (by omega) h
    obtain ⟨h4, h5, h6⟩ := short_inv s h1
    have h2' : (Co.bytes s).1.length = (num 2 s).1 := h2
    have h3' : (num 2 s).2.rem = (Co.bytes s).1 ++ (Co.bytes s).2.rem := h3
    refine ⟨h4, by omega, ?_⟩
    unfold wBytes
    rw [List.take_of_length_le (by omega), h2', List.append_assoc, ← h3']
    exact h6
theorem four_of (h l : Nat) : four (h * 65536 + l % 65536) = wShort h ++ wShort l := by
  unfold four wShort
  have e : ∀ x y : Nat, x % 256 = y % 256 → UInt8.ofNat x = UInt8.ofNat y := fun x y h => by
    apply UInt8.toNat_inj.1
    rwa [UInt8.toNat_ofNat', UInt8.toNat_ofNat']
  rw [e ((h * 65536 + l % 65536) / 65536 / 256) (h / 256) (by omega), e ((h * 65536 + l % 65536) / 65536) h (by omega), e ((h * 65536 + l % 65536) / 256) (l / 256) (by omega), e (h * 65536 + l % 65536) l (by omega)]
theorem fields_inv (L : List UInt8) (h : (fields L).2.2.why = 0) : (fields L).1.body.length ≤ 65535 ∧ (fields L).2.1 < 4294967296 ∧ L = head (fields L).1 ++ (four (fields L).2.1 ++ (fields L).2.2.rem) := by
  obtain ⟨p0, h0⟩ : ∃ p, p = num 1 ⟨L, 0⟩ := ⟨_, rfl⟩
  obtain ⟨p1, h1⟩ : ∃ p, p = num 8 p0.2 := ⟨_, rfl⟩
  obtain ⟨p2, h2⟩ : ∃ p, p = Co.bytes p1.2 := ⟨_, rfl⟩
  obtain ⟨p3, h3⟩ : ∃ p, p = num 2 p2.2 := ⟨_, rfl⟩
  obtain ⟨p4, h4⟩ : ∃ p, p = num 2 p3.2 := ⟨_, rfl⟩
  have e : fields L = (⟨(p0.1 : Nat), p1.1, p2.1⟩, p3.1 * 65536 + p4.1, p4.2) := by
    unfold fields
    simp only [← h0, ← h1, ← h2, ← h3, ← h4]
  rw [e] at h ⊢
  dsimp only at h ⊢
  have i4 := short_inv p3.2 (by rw [← h4]; exact h)
  rw [← h4] at i4
  have i3 := short_inv p2.2 (by rw [← h3]; exact i4.1)
  rw [← h3] at i3
  have i2 := bytes_inv p1.2 (by rw [← h2]; exact i3.1)
  rw [← h2] at i2
  have i1 := long_inv p0.2 (by rw [← h1]; exact i2.1)
  rw [← h1] at i1
  have i0 := byte_inv ⟨L, 0⟩ (by rw [← h0]; exact i1.1)
  rw [← h0] at i0
  refine ⟨i2.2.1, by have := i3.2.1; have := i4.2.1; omega, ?_⟩
  have hf := four_of p3.1 p4.1
  rw [Nat.mod_eq_of_lt i4.2.1] at hf
  have j0 : L = wByte p0.1 ++ p0.2.rem := i0.2.2
  rw [hf]
  unfold head
  dsimp only
  rw [Int.toNat_natCast, List.append_assoc, List.append_assoc, List.append_assoc, ← i4.2.2, ← i3.2.2, ← i2.2.2, ← i1.2.2]
  exact j0
theorem at9 (r : Rec) (m : List UInt8) (h : r.body.length ≤ 65535) : (head r ++ m)[9]? = some (UInt8.ofNat (r.body.length / 256)) ∧ (head r ++ m)[10]? = some (UInt8.ofNat r.body.length) := by
  unfold head
  rw [wBytes_is h, wLong_is]
  unfold wByte wShort
  exact ⟨rfl, rfl⟩
theorem len_of {x y : Rec} {m n : List UInt8} (hx : x.body.length ≤ 65535) (hy : y.body.length ≤ 65535) (h9 : (head x ++ m)[9]? = (head y ++ n)[9]?) (h10 : (head x ++ m)[10]? = (head y ++ n)[10]?) : x.body.length = y.body.length := by
  rw [(at9 x m hx).1, (at9 y n hy).1] at h9
  rw [(at9 x m hx).2, (at9 y n hy).2] at h10
  have e : ∀ x y : Nat, some (UInt8.ofNat x) = some (UInt8.ofNat y) → x % 256 = y % 256 := fun x y h => by
    injection h with h
    have := congrArg UInt8.toNat h
    rwa [UInt8.toNat_ofNat', UInt8.toNat_ofNat'] at this
  have := e _ _ h9
  have := e _ _ h10
  omega
theorem sum_turn (p s : List UInt8) (c d : UInt8) (h : Cr.sum (p ++ c :: s) = Cr.sum (p ++ d :: s)) : c = d := by
  have hx : Cr.run Cr.ones (p ++ c :: s) = Cr.run Cr.ones (p ++ d :: s) := by
    have := congrArg (· ^^^ Cr.ones) h
    simpa [Cr.sum, Nat.xor_assoc] using this
  rw [Cr.run_append, Cr.run_append] at hx
  have ha := Cr.run_lt p Cr.ones_lt
  have hc := Nat.xor_lt_two_pow ha (Cr.u8_lt c)
  have hd := Nat.xor_lt_two_pow ha (Cr.u8_lt d)
  have h1 := Cr.byt_inj hc hd (Cr.run_inj s (Cr.byt_lt hc) (Cr.byt_lt hd) hx)
  have h2 := congrArg (Cr.run Cr.ones p ^^^ ·) h1
  apply UInt8.toNat_inj.1
  simpa [← Nat.xor_assoc] using h2
theorem dec_turn (r : Rec) (h : Right r) (p s : List UInt8) (c d : UInt8) (hf : form r = p ++ c :: s) (hcd : c ≠ d) (hn : p.length ≠ 9 ∧ p.length ≠ 10) : (dec (p ++ d :: s)).2.2 ≠ 0 := by
  intro h0
  have hl := right_len h
  have hfl := form_length (r := r) (by omega)
  have hlen : (p ++ d :: s).length = 15 + r.body.length := by rw [← hfl, hf]; simp
  obtain ⟨L, hL⟩ : ∃ L, L = p ++ d :: s := ⟨_, rfl⟩
  rw [← hL] at h0 hlen
  unfold dec at h0
  split at h0
  · exact absurd h0 (by decide)
  · split at h0
    · exact absurd h0 (by decide)
    · rename_i hw
      split at h0
      · exact absurd h0 (by decide)
      · rename_i hs
        obtain ⟨h4, _, h5⟩ := fields_inv L (by omega)
        obtain ⟨⟨x, S, q⟩, hx⟩ : ∃ x, x = fields L := ⟨_, rfl⟩
        rw [← hx] at hs h4 h5
        dsimp only at hs h4 h5
        have hs' : Cr.sum (L.take (11 + x.body.length)) = S := by simpa using hs
        have ge : ∀ i, p.length ≠ i → L[i]? = (form r)[i]? := fun i hi => by
          rw [hL, hf, List.getElem?_append, List.getElem?_append]
          split
          · rfl
          · rw [List.getElem?_cons, List.getElem?_cons, if_neg (by omega), if_neg (by omega)]
        have h9 := ge 9 hn.1
        have h10 := ge 10 hn.2
        rw [h5] at h9 h10
        unfold form at h9 h10
        have hxl := len_of h4 (by omega) h9 h10
        have hL1 := congrArg List.length h5
        rw [List.length_append, List.length_append, head_length h4, four_length, hlen] at hL1
        have hq : q.rem = [] := List.eq_nil_of_length_eq_zero (by omega)
        rw [hq, List.append_nil] at h5
        have ht : L.take (11 + x.body.length) = head x := by rw [h5, ← head_length h4, List.take_left]
        rw [ht] at hs'
        subst hs'
        have hr' : (head r).length = (head x).length := by rw [head_length h4, head_length (by omega)]; omega
        have e1 : p ++ d :: s = head x ++ four (Cr.sum (head x)) := by rw [← hL]; exact h5
        have e2 : p ++ c :: s = head r ++ four (Cr.sum (head r)) := hf.symm
        rcases Nat.lt_or_ge p.length (head x).length with hp | hp
        · have t1 := congrArg (List.take (head x).length) e1
          have t2 := congrArg (List.take (head r).length) e2
          have d1 := congrArg (List.drop (head x).length) e1
          have d2 := congrArg (List.drop (head r).length) e2
          obtain ⟨j, hj⟩ : ∃ j, (head x).length = p.length + (j + 1) := ⟨(head x).length - p.length - 1, by omega⟩
          rw [List.take_left, hj, List.take_length_add_append, List.take_succ_cons] at t1
          rw [List.take_left, hr', hj, List.take_length_add_append, List.take_succ_cons] at t2
          rw [List.drop_left, hj, List.drop_length_add_append, List.drop_succ_cons] at d1
          rw [List.drop_left, hr', hj, List.drop_length_add_append, List.drop_succ_cons] at d2
          have hS := four_inj (sum_lt _) (sum_lt _) (d2.symm.trans d1)
          rw [← t1, ← t2] at hS
          exact hcd (sum_turn _ _ _ _ hS)
        · have t1 := congrArg (List.take (head x).length) e1
          have t2 := congrArg (List.take (head r).length) e2
          rw [List.take_left, List.take_append_of_le_length hp] at t1
          rw [List.take_left, hr', List.take_append_of_le_length hp] at t2
          rw [← t2, t1] at e2
          have := e2.trans e1.symm
          have := List.append_cancel_left this
          injection this with h8 _
          exact hcd h8
end Re
end Go.Proofs.YtmcbpgbiephllaaDoor

namespace Go.Proofs.YtmcbpgbiephllaaDoor
open Go.RowKit

theorem below_set1 {w w' : World} {B g : Nat} (h : Below B w w') (hg : B ≤ g) (i : Nat) (u : Value) : Below B w (w'.setCell ⟨g, i, none⟩ u) :=
  ⟨h.os, h.tape, h.output, by simpa [World.setCell] using h.size, fun k hk => (Below.heap_setCell w' ⟨g, i, none⟩ u k (by show k ≠ g; omega)).trans (h.block k hk)⟩
end Go.Proofs.YtmcbpgbiephllaaDoor

namespace Go.Proofs.YtmcbpgbiephllaaDoor
open Go.RowKit

def strOf (l : List UInt8) : ByteArray := ⟨l.toArray⟩

theorem str_any (w : World) (A : Option Addr) (l : List UInt8) (c : Nat) (h : Rd w A l) : (convert 25 9 (.slice A l.length c)).run Tryd.prog w = .ok (.string (strOf l)) w := by
  cases A with
  | none =>
    have hl : l = [] := by
      rcases Nat.eq_zero_or_pos l.length with h1 | h1
      · exact List.eq_nil_of_length_eq_zero h1
      · obtain ⟨b, off, h2, _⟩ := h h1
        cases h2
    subst hl
    exact run_convert_bytes_nil w 25 5 Tryd.underlying25 Tryd.underlying5 0 c 9 Tryd.underlying9
  | some ad =>
    have hl : (loadCells ad l.length).run Tryd.prog w = .ok ((l.map fun b => ((b.toNat : Nat) : Int)).map (Value.int .u8)).toArray w := by
      have := run_loadCells_list (P := Tryd.prog) w ad ((l.map fun b => ((b.toNat : Nat) : Int)).map (Value.int .u8)) (fun j v hj => by
        rw [List.map_map] at hj
        simp only [List.getElem?_map, Option.map_eq_some_iff] at hj
        obtain ⟨x, hx, rfl⟩ := hj
        obtain ⟨b, off, h1, _, h2⟩ := h (by have := (List.getElem?_eq_some_iff.1 hx).1; omega)
        obtain rfl : ad = ⟨b, off, none⟩ := by injection h1
        rw [add_plain]
        exact h2 j x hx)
      simpa using this
    rw [run_convert_bytes_string w 25 9 5 _ l.length c Tryd.underlying25 Tryd.underlying5 Tryd.underlying9, run_bytesToString w _ l.length c _ hl, foldl_push_bytes]
    congr 3
    simp [ByteArray.empty, ByteArray.emptyWithCapacity]
    have e : ((fun n : Int => UInt8.ofNat n.toNat) ∘ fun b : UInt8 => ((b.toNat : Nat) : Int)) = id := funext fun b => by simp
    rw [e, List.map_id]
    rfl
end Go.Proofs.YtmcbpgbiephllaaDoor

namespace Go.Proofs.YtmcbpgbiephllaaDoor
open Go.RowKit

section
variable {F : Nat → Rg.Fact} {cons : List (Nat × Nat)} {al : List (Nat × Nat × (Value → Value))} {W0 : World} {V : Nat → Value} {j : Nat} {o : Oper} {b : Act} {w : World}
end
end Go.Proofs.YtmcbpgbiephllaaDoor

/-
  OWN WORK. BaMem, BaRow, BaFrame, BaStr, BaText, PaPure, BaStrs, StOpn, RgB, BaRg, BaSet, CoPure, CpNum, CpBase, CpBack, OpPure, BaCell
-/
import Derived.Test.YtmcbpgbiephllaaChecked
import Derived.WalkKit
import Derived.Outline
import Derived.WalkLawsBesides
import Derived.Below
import Derived.Laws.OwnMore
import Derived.Deep.Draws
import Derived.Laws.Rows
import Derived.Deep.AppendLies
import Derived.Laws.CopyOwn
import Derived.Laws.BitsAllLaws
import Derived.Lib.UnsafeStr
import Derived.OwnWalk
import Derived.Laws.AppendOwn
import Derived.RegionTactic
import Derived.BigRegion
import Derived.Deep.QuietTactic
import Derived.BigQuiet
import Derived.Lib.Hide
import Derived.Deep.Cut
import Derived.Deep.WholeRow
import Derived.Laws.AppendOwnNone
import Derived.StillTailTactics
import Derived.Maps.AppendAt
import Derived.Deep.RegionHeld3
import Derived.Deep.DeepCutAuto
import Derived.Maps.RangeWalk
import Derived.Lib.SlBytesConst
import Derived.Laws.BytesArg
import Derived.IntWalk
import Derived.Test.YtmcbpgbiephllaaRows
import Derived.ChangeSame
import Derived.ChangeVars
import Derived.JoinedOf
import Derived.RowKit
import Derived.RowKitTokens
import Derived.LaidLaws
import Derived.Deep.Slices
import Derived.ProofKit
import Derived.Carry
import Derived.OpenShut
import Derived.WalkSpells
import Derived.OrdersHeld
import Derived.Laws.ResultCell

namespace Go.Proofs.Ytmcbpgbiephllaa
open Go.RowKit

def Blk (w : World) (g : Nat) (t : TypeId) (cs : List Value) : Prop := w.heap[g]? = some (.cells cs.toArray t (0, 0))

section
variable {w w' : World} {g : Nat} {t : TypeId} {cs : List Value}
theorem Blk.lt (h : Blk w g t cs) : g < w.heap.size := by
  rcases Nat.lt_or_ge g w.heap.size with hlt | hge
  · exact hlt
  · unfold Blk at h; rw [Array.getElem?_eq_none hge] at h; cases h

theorem Blk.cell (h : Blk w g t cs) (i : Nat) : w.cell? ⟨g, i, none⟩ = cs[i]? := by
  rw [cell_of_row w g i cs.toArray t (0, 0) h]; simp

theorem Blk.frozen (h : Blk w g t cs) (i : Nat) : w.frozen? ⟨g, i, none⟩ = false := by
  unfold Blk at h
  simp [World.frozen?, h]

theorem Blk.new (w : World) (t : TypeId) (cs : List Value) : Blk (w.alloc (.cells cs.toArray t)) w.heap.size t cs := heap_alloc_new w _

theorem Blk.alloc (h : Blk w g t cs) (o : Obj) : Blk (w.alloc o) g t cs := (Below.heap_alloc w o g h.lt).trans h

theorem Blk.set_ (h : Blk w g t cs) (i : Nat) (u : Value) : Blk (w.setCell ⟨g, i, none⟩ u) g t (cs.set i u) := by
  unfold Blk at h ⊢
  simp [World.setCell, Array.getElem?_modify, h]

theorem Blk.far (h : Blk w g t cs) {p : Addr} (hp : g ≠ p.block) (u : Value) : Blk (w.setCell p u) g t cs := (Below.heap_setCell w p u g hp).trans h

theorem Blk.row (h : Blk w g t cs) (cs' : List Value) : Blk (w.setRow g cs'.toArray) g t cs' := setRow_heap w g _ _ t _ h

theorem Blk.below {B : Nat} (h : Blk w g t cs) (hb : Below B w w') (hg : g < B) : Blk w' g t cs := (hb.block g hg).trans h

theorem Blk.grown {row : Option Nat} (h : Blk w g t cs) (hb : w.grownBy w' row) (hg : some g ≠ row) : Blk w' g t cs := (hb.block g h.lt hg).trans h

end

theorem undrew {b : Nat} {w w' : World} (h : Below b w.drew w') : Below b w w' := ⟨h.os, h.tape, h.output, h.size, h.block⟩

theorem block_of_add (a : Addr) (n : Nat) : (a.add n).block = a.block := by unfold Addr.add; split <;> rfl

def Keeps (w w' : World) (g : Nat) : Prop := w.grownBy w' (some g)

theorem Keeps.refl (w : World) (g : Nat) : Keeps w w g := ⟨rfl, rfl, rfl, Nat.le_refl _, fun _ _ _ => rfl⟩

theorem Keeps.trans {a b c : World} {g : Nat} (h : Keeps a b g) (k : Keeps b c g) : Keeps a c g :=
  ⟨k.os.trans h.os, k.tape.trans h.tape, k.output.trans h.output, Nat.le_trans h.size k.size, fun i hi hn => (k.block i (Nat.lt_of_lt_of_le hi h.size) hn).trans (h.block i hi hn)⟩

theorem Keeps.of_below {a b : World} {g : Nat} (h : Below a.heap.size a b) : Keeps a b g := ⟨h.os, h.tape, h.output, h.size, fun i hi _ => h.block i hi⟩

theorem Keeps.below {B : Nat} {a b c : World} {g : Nat} (h : Below B a b) (k : Keeps b c g) (hg : B ≤ g) (hB : B ≤ b.heap.size) : Below B a c :=
  h.grown k hB (fun i hi => by cases hi; exact hg)

theorem Keeps.setCell {a b : World} {g : Nat} (h : Keeps a b g) (i : Nat) (u : Value) : Keeps a (b.setCell ⟨g, i, none⟩ u) g :=
  h.trans ⟨rfl, rfl, rfl, by simp [World.setCell], fun k _ hn => Below.heap_setCell _ _ _ _ (fun e => hn (by rw [e]))⟩

theorem Keeps.setRow {a b : World} {g : Nat} (h : Keeps a b g) (c : Array Value) : Keeps a (b.setRow g c) g :=
  h.trans ⟨rfl, rfl, rfl, by simp [World.setRow], fun k _ hn => setRow_other b g k c (fun e => hn (by rw [e]))⟩

theorem Keeps.cell {a b : World} {g : Nat} (h : Keeps a b g) {p : Addr} (hp : p.block < a.heap.size) (hg : p.block ≠ g) : b.cell? p = a.cell? p :=
  World.cell?_of_block (w := a) (h.block p.block hp (fun e => hg (by injection e)))

theorem add_plain (g off j : Nat) : (⟨g, off, none⟩ : Addr).add j = ⟨g, off + j, none⟩ := by
  unfold Addr.add
  split <;> simp_all

theorem ret_num {k : IntKind} {a b : Int} (h : a = b) : Ending.returned (.int k b) = Ending.returned (.int k a) := by rw [h]
end Go.Proofs.Ytmcbpgbiephllaa

namespace Go.Proofs.Ytmcbpgbiephllaa
open Go.RowKit

def Rd (w : World) (A : Option Addr) (l : List UInt8) : Prop :=
  0 < l.length → ∃ b off, A = some ⟨b, off, none⟩ ∧ b < w.heap.size ∧ ∀ j x, l[j]? = some x → w.cell? ⟨b, off + j, none⟩ = some (.int .u8 x.toNat)

theorem Rd.nil (w : World) (A : Option Addr) : Rd w A [] := fun h => absurd h (by simp)

theorem Rd.keep {w w' : World} {A : Option Addr} {l : List UInt8} (h : Rd w A l) (hb : ∀ p : Addr, p.block < w.heap.size → A.map (·.block) = some p.block → w'.cell? p = w.cell? p) (hs : w.heap.size ≤ w'.heap.size) : Rd w' A l := by
  intro hl
  obtain ⟨b, off, rfl, hlt, hc⟩ := h hl
  exact ⟨b, off, rfl, by omega, fun j x hx => (hb ⟨b, off + j, none⟩ hlt rfl).trans (hc j x hx)⟩

theorem Rd.below {w w' : World} {A : Option Addr} {l : List UInt8} (h : Rd w A l) (hb : Below w.heap.size w w') : Rd w' A l := h.keep (fun _ hp _ => hb.cell hp) hb.size

theorem Rd.keeps {w w' : World} {A : Option Addr} {l : List UInt8} {g : Nat} (h : Rd w A l) (hb : Keeps w w' g) (hg : 0 < l.length → A.map (·.block) ≠ some g) : Rd w' A l := fun hl =>
  h.keep (fun p hp e => hb.cell hp (fun e2 => hg hl (by rw [e, e2]))) hb.size hl

theorem Rd.cut {w : World} {A : Option Addr} {l : List UInt8} (h : Rd w A l) (k cap : Nat) (hc : l.length ≤ cap) : Rd w (if cap = k then A else A.map (·.add k)) (l.drop k) := by
  intro hl
  rw [List.length_drop] at hl
  obtain ⟨b, off, rfl, hlt, hcell⟩ := h (by omega)
  rw [if_neg (by omega)]
  refine ⟨b, off + k, by simp [add_plain], hlt, fun j x hx => ?_⟩
  rw [List.getElem?_drop] at hx
  rw [Nat.add_assoc]
  exact hcell _ _ hx

theorem Rd.take {w : World} {A : Option Addr} {l : List UInt8} (h : Rd w A l) (k : Nat) : Rd w A (l.take k) := by
  intro hl
  rw [List.length_take] at hl
  obtain ⟨b, off, rfl, hlt, hcell⟩ := h (by omega)
  refine ⟨b, off, rfl, hlt, fun j x hx => hcell j x ?_⟩
  rw [List.getElem?_take] at hx
  split at hx
  · exact hx
  · cases hx

theorem Rd.at_ {w : World} {A : Option Addr} {l : List UInt8} (h : Rd w A l) (hl : 0 < l.length) : ∃ b off, A = some ⟨b, off, none⟩ ∧ b < w.heap.size ∧ ∀ j, j < l.length → w.cell? ⟨b, off + j, none⟩ = some (.int .u8 (l.getD j 0).toNat) := by
  obtain ⟨b, off, hA, hlt, hc⟩ := h hl
  refine ⟨b, off, hA, hlt, fun j hj => hc j _ ?_⟩
  simp [List.getElem?_eq_getElem hj]

theorem Try.infoU8 : (Try.prog.info? 5).map (fun i => (i.zero, i.size, i.bytes)) = some (some (.int .u8 0), 1, 1) := by kernel_rfl

theorem _root_.Go.World.ownsRow.ownBlock_ge {w : World} {base : Nat} {e : TypeId} {size n : Nat} {v : Value} {xs : List Value} (h : w.ownsRow base e size v n xs) (g : Nat) (hg : v.ownBlock = some g) : base ≤ g := by
  rcases h.2 with ⟨rfl, _⟩ | ⟨g', cap, cur, rfl, hb, _⟩
  · cases hg
  · have : g' = g := by simpa [Value.ownBlock] using hg
    omega

theorem own_mono {w : World} {base base' : Nat} {e : TypeId} {size n : Nat} {v : Value} {xs : List Value} (h : w.ownsRow base e size v n xs) (hb : base' ≤ base) : w.ownsRow base' e size v n xs := by
  refine ⟨h.1, ?_⟩
  rcases h.2 with h2 | ⟨g, cap, cur, h3, h4, h5⟩
  · exact .inl h2
  · exact .inr ⟨g, cap, cur, h3, by omega, h5⟩

def cutA (A : Option Addr) (n cap : Nat) : Option Addr := if cap = n then A else A.map (·.add n)

theorem byte_size (w : World) : (sizeOf (Try.prog.elem 23)).run Try.prog w = .ok 1 w := by kernel_rfl

theorem byte_under : Try.prog.underlying 23 = some (.slice (Try.prog.elem 23)) := by kernel_rfl

theorem sl_l (w : World) (A : Option Addr) (len cap n : Nat) (h : n ≤ len) : (Instr.sliceAt 23 (.slice A len cap) (some (.int .i64 n)) none none).run Try.prog w = .ok (.slice (cutA A n cap) (len - n) (cap - n)) w := by
  rw [run_sliceAt_slice w _ _ _ _ _ byte_under, run_slice_l w _ _ _ _ byte_under .i64 n (by omega) (by omega), byte_size]
  simp [Result.andThen, sliced, cutA]

theorem sl_h (w : World) (A : Option Addr) (len cap n : Nat) (h : n ≤ cap) : (Instr.sliceAt 23 (.slice A len cap) none (some (.int .i64 n)) none).run Try.prog w = .ok (.slice A n cap) w := by
  rw [run_sliceAt_slice w _ _ _ _ _ byte_under, run_slice_h w _ _ _ _ byte_under .i64 n (by omega) (by omega), byte_size]
  have e : ∀ a : Addr, a.add 0 = a := fun a => by unfold Addr.add; simp
  cases A <;> simp [Result.andThen, sliced, e]

theorem bytes_one (l : List UInt8) : ∀ v ∈ Lib.byteCells l, v.oneCell' = true := by
  intro v hv
  simp only [Lib.byteCells, List.mem_map] at hv
  obtain ⟨x, _, rfl⟩ := hv
  rfl

theorem rd_one (w : World) (x : UInt8) (t : TypeId) : Rd (w.alloc (.cells #[.int .u8 x.toNat] t)) (some ⟨w.heap.size, 0, none⟩) [x] := by
  intro _
  refine ⟨_, _, rfl, by rw [World.size_alloc]; omega, fun j y hy => ?_⟩
  have hj : j = 0 := by
    have := (List.getElem?_eq_some_iff.1 hy).1
    simp at this
    exact this
  subst hj
  obtain rfl : x = y := by simpa using hy
  rw [World.cell?_alloc_at _ _ _ _ rfl]
  rfl

theorem rd_own {w : World} {base : Nat} {v : Value} {n : Nat} {l : List UInt8} (h : w.ownsRow base 5 1 v n (Lib.byteCells l)) (hn : 0 < n) : ∃ g cap, v = .slice (some ⟨g, 0, none⟩) n cap ∧ n ≤ cap ∧ base ≤ g ∧ g < w.heap.size ∧ l.length = n ∧ Rd w (some ⟨g, 0, none⟩) l := by
  have hln : l.length = n := by have := h.1; rw [Lib.byteCells_length] at this; omega
  rcases h.2 with ⟨_, h0⟩ | ⟨g, cap, cur, rfl, hb, hg, h1, h2, h3, h4⟩
  · omega
  · have hlt : g < w.heap.size := by
      rcases Nat.lt_or_ge g w.heap.size with hlt | hge
      · exact hlt
      · rw [Array.getElem?_eq_none hge] at hg; cases hg
    refine ⟨g, cap, rfl, h1, hb, hlt, hln, fun _ => ⟨g, 0, rfl, hlt, fun j x hx => ?_⟩⟩
    rw [cell_of_row w g (0 + j) cur _ _ hg, Nat.zero_add]
    have h10 : (cur.toList.take (n * 1))[j]? = some (.int .u8 x.toNat) := by
      rw [h4]
      simp [Lib.byteCells, hx]
    rw [List.getElem?_take] at h10
    split at h10
    · simpa using h10
    · cases h10

def Later (w w' : World) : Prop := Below w.heap.size w w'

theorem Later.trans {a b c : World} (h : Later a b) (k : Later b c) : Later a c := Below.trans h (Below.mono k h.size)

theorem run_append_rd {P : Program} (w : World) (base : Nat) (t ty e : TypeId) (i : TypeInfo) (ht : P.underlying t = some (.slice e)) (hi : P.info? e = some i) (hz : i.zero = some (.int .u8 0)) (hsize : i.size = 1) (hby : i.bytes = 1)
    (v : Value) (n : Nat) (xs : List Value) (hown : w.ownsRow base e 1 v n xs) (A : Option Addr) (l : List UInt8) (c : Nat) (hr : Rd w A l) (hn : n + l.length ≤ 1099511627776) (hbase : base ≤ w.heap.size) :
    ∃ v' w', (Builtin.append_ #[t, t] ty #[v, .slice A l.length c]).run P w = .ok v' w' ∧ w'.ownsRow base e 1 v' (n + l.length) (xs ++ Lib.byteCells l) ∧ w.grownBy w' v.ownBlock := by
  cases A with
  | none =>
    have hl : l = [] := by
      rcases Nat.eq_zero_or_pos l.length with h | h
      · exact List.eq_nil_of_length_eq_zero h
      · obtain ⟨b, off, h1, _⟩ := hr h
        cases h1
    subst hl
    refine ⟨v, w, ?_, by simpa [Lib.byteCells] using hown, ⟨rfl, rfl, rfl, Nat.le_refl _, fun _ _ _ => rfl⟩⟩
    show (Builtin.append_ #[t, t] ty #[v, .slice none 0 c]).run P w = .ok v w
    rcases hown.2 with ⟨rfl, rfl⟩ | ⟨g, cap, cur, rfl, _, _, hnc, _⟩
    · simp [Builtin.append_, run_underlying ht, sizeOf, typeInfo, hi, Builtin.lenOf, Builtin.firstCells]
    · simp [Builtin.append_, run_underlying ht, sizeOf, typeInfo, hi, Builtin.lenOf, Builtin.firstCells, hnc, storeCells]
  | some ad =>
    have hc : ∀ j u, (Lib.byteCells l)[j]? = some u → w.cell? (ad.add j) = some u := by
      intro j u hu
      simp only [Lib.byteCells, List.getElem?_map, Option.map_eq_some_iff] at hu
      obtain ⟨x, hx, rfl⟩ := hu
      obtain ⟨b, off, h1, _, h2⟩ := hr (by have := (List.getElem?_eq_some_iff.1 hx).1; omega)
      obtain rfl : ad = ⟨b, off, none⟩ := by injection h1
      rw [add_plain]
      exact h2 j x hx
    obtain ⟨v', w', h1, h2, h3, _⟩ := run_append_own (P := P) (w := w) base t ty e i (.int .u8 0) 1 1 ht hi hz hsize hby rfl (by decide) v n xs hown ad l.length c (Lib.byteCells l) (by simp [Lib.byteCells_length]) hc (bytes_one l) (by unfold maxLen; omega) (by omega) hbase
    exact ⟨v', w', h1, h2, h3⟩

theorem wp_append_at {P : Program} {o : Oper} {a : Act} {w : World} {K : Act → World → Prop} {Q : Exit → Act → World → Prop} (s x : Operand) (t : TypeId)
    (ho : o.op = .call { callee := .builtin .append, args := #[s, x], argTypes := #[t, t] })
    (base : Nat) (e : TypeId) (i : TypeInfo) (ht : P.underlying t = some (.slice e)) (hi : P.info? e = some i) (hz : i.zero = some (.int .u8 0)) (hsize : i.size = 1) (hby : i.bytes = 1)
    (v : Value) (n : Nat) (xs : List Value) (hs : a.eval s = v) (hown : w.ownsRow base e 1 v n xs) (A : Option Addr) (l : List UInt8) (m c : Nat) (hm : l.length = m) (hx : a.eval x = .slice A m c) (hr : Rd w A l) (hn : n + l.length ≤ 1099511627776) (hbase : base ≤ w.heap.size)
    (h : ∀ v' w', Hid (w'.ownsRow base e 1 v' (n + l.length) (xs ++ Lib.byteCells l)) → Hid (w.grownBy w' v.ownBlock) → Hid (v'.ownBlock = v.ownBlock ∨ v'.ownBlock = some w.heap.size) → K (a.put o.dst v') w') : o.wp P a w K Q := by
  subst hm
  have hrun : ∃ v' w', (Builtin.append_ #[t, t] o.type #[v, .slice A l.length c]).run P w = .ok v' w' ∧ w'.ownsRow base e 1 v' (n + l.length) (xs ++ Lib.byteCells l) ∧ w.grownBy w' v.ownBlock ∧ (v'.ownBlock = v.ownBlock ∨ v'.ownBlock = some w.heap.size) := by
    cases A with
    | none =>
      have hl : l = [] := by
        rcases Nat.eq_zero_or_pos l.length with h | h
        · exact List.eq_nil_of_length_eq_zero h
        · obtain ⟨b, off, h1, _⟩ := hr h
          cases h1
      subst hl
      refine ⟨v, w, ?_, by simpa [Lib.byteCells] using hown, ⟨rfl, rfl, rfl, Nat.le_refl _, fun _ _ _ => rfl⟩, .inl rfl⟩
      show (Builtin.append_ #[t, t] o.type #[v, .slice none 0 c]).run P w = .ok v w
      rcases hown.2 with ⟨rfl, rfl⟩ | ⟨g, cap, cur, rfl, _, _, hnc, _⟩
      · simp [Builtin.append_, run_underlying ht, sizeOf, typeInfo, hi, Builtin.lenOf, Builtin.firstCells]
      · simp [Builtin.append_, run_underlying ht, sizeOf, typeInfo, hi, Builtin.lenOf, Builtin.firstCells, hnc, storeCells]
    | some ad =>
      have hc : ∀ j u, (Lib.byteCells l)[j]? = some u → w.cell? (ad.add j) = some u := by
        intro j u hu
        simp only [Lib.byteCells, List.getElem?_map, Option.map_eq_some_iff] at hu
        obtain ⟨y, hy, rfl⟩ := hu
        obtain ⟨b, off, h1, _, h2⟩ := hr (by have := (List.getElem?_eq_some_iff.1 hy).1; omega)
        obtain rfl : ad = ⟨b, off, none⟩ := by injection h1
        rw [add_plain]
        exact h2 j y hy
      obtain ⟨v', w', h1, h2, h3, _, h4⟩ := run_append_own_at (P := P) (w := w) base t o.type e i (.int .u8 0) 1 1 ht hi hz hsize hby rfl (by decide) v n xs hown ad l.length c (Lib.byteCells l) (by simp [Lib.byteCells_length]) hc (bytes_one l) (by unfold maxLen; omega) (by omega) hbase
      exact ⟨v', w', h1, h2, h3, h4⟩
  obtain ⟨v', w', hrun, h1, h2, h3⟩ := hrun
  unfold Oper.wp
  simp [execOp, ho, resolve, invoke, builtin, hs, hx, hrun, Result.andThen]
  exact h v' w' h1 h2 h3

theorem Rd.grown {w w' : World} {A : Option Addr} {l : List UInt8} {row : Option Nat} (h : Rd w A l) (hg : w.grownBy w' row) (hne : ∀ b, A.map (·.block) = some b → row ≠ some b) : Rd w' A l :=
  h.keep (fun p hp e => World.cell?_of_block (hg.block p.block hp (fun e2 => hne _ e e2.symm))) hg.size

theorem own_later {w w' : World} {base : Nat} {v : Value} {n : Nat} {xs : List Value} (h : w.ownsRow base 5 1 v n xs) (hl : Later w w') : w'.ownsRow base 5 1 v n xs := by
  refine ⟨h.1, ?_⟩
  rcases h.2 with h2 | ⟨g, cap, cur, h3, h4, h5, h6⟩
  · exact .inl h2
  · refine .inr ⟨g, cap, cur, h3, h4, (hl.block g ?_).trans h5, h6⟩
    rcases Nat.lt_or_ge g w.heap.size with hlt | hge
    · exact hlt
    · rw [Array.getElem?_eq_none hge] at h5; cases h5

theorem Rd.lt {w : World} {g : Nat} {l : List UInt8} (h : Rd w (some ⟨g, 0, none⟩) l) (hl : 0 < l.length) : g < w.heap.size := by
  obtain ⟨b, off, e, hb, _⟩ := h hl
  simp only [Option.some.injEq, Addr.mk.injEq, and_true] at e
  omega

theorem Later.grown {w0 w w' : World} {v : Value} {n : Nat} {xs : List Value} (h : Later w0 w) (hg : w.grownBy w' v.ownBlock) (ho : w.ownsRow w0.heap.size 5 1 v n xs) : Later w0 w' :=
  Below.grown h hg h.size (fun k hk => ho.ownBlock_ge k hk)

def MAt (B : Nat) (v : Value) (ms : List UInt8) (w0 wr : World) : Prop :=
  wr.ownsRow B 5 1 v ms.length (Lib.byteCells ms) ∧ Below B w0 wr ∧ B = w0.heap.size

theorem MAt.push {B : Nat} {v v' : Value} {ms x : List UInt8} {w0 wr wa w' : World} (h : MAt B v ms w0 wr) (ha : Below wr.heap.size wr wa) (hown : w'.ownsRow B 5 1 v' (ms.length + x.length) (Lib.byteCells ms ++ Lib.byteCells x)) (hg : wa.grownBy w' v.ownBlock) : MAt B v' (ms ++ x) w0 w' := by
  refine ⟨by rw [List.length_append, Lib.byteCells_append]; exact hown, ?_, h.2.2⟩
  have hb : Below B w0 wa := h.2.1.trans (ha.mono (by have := h.2.1.size; have := h.2.2; omega))
  exact hb.grown hg (by have := h.2.1.size; have := ha.size; have := h.2.2; omega) (fun k hk => h.1.ownBlock_ge k hk)

theorem MAt.own {B : Nat} {v : Value} {ms : List UInt8} {w0 wr wa : World} (h : MAt B v ms w0 wr) (ha : Below wr.heap.size wr wa) : wa.ownsRow B 5 1 v ms.length (Lib.byteCells ms) := by
  refine ⟨h.1.1, ?_⟩
  rcases h.1.2 with h2 | ⟨g, cap, cur, h3, h4, h5, h6⟩
  · exact .inl h2
  · refine .inr ⟨g, cap, cur, h3, h4, (ha.block g ?_).trans h5, h6⟩
    rcases Nat.lt_or_ge g wr.heap.size with hlt | hge
    · exact hlt
    · rw [Array.getElem?_eq_none hge] at h5; cases h5

theorem rd_new (w : World) (b : UInt8) (X : Int) (t : TypeId) (h : ((b.toNat : Nat) : Int) = X) : Rd (w.alloc (.cells #[.int .u8 X] t)) (some ⟨w.heap.size, 0, none⟩) [b] := by
  subst h
  exact rd_one w b t

theorem below_new (w : World) (o : Obj) : Below w.heap.size w (w.alloc o) := (Below.refl _ _).alloc (Nat.le_refl _) o

theorem MAt.below {B : Nat} {v : Value} {ms : List UInt8} {w0 wr w' : World} (h : MAt B v ms w0 wr) (hb : Below wr.heap.size wr w') : MAt B v ms w0 w' :=
  ⟨h.own hb, h.2.1.trans (hb.mono (by have := h.2.1.size; have := h.2.2; omega)), h.2.2⟩

theorem own_lt {w : World} {base n k : Nat} {v : Value} {xs : List Value} (h : w.ownsRow base 5 1 v n xs) (hk : v.ownBlock = some k) : base ≤ k ∧ k < w.heap.size := by
  rcases h.2 with ⟨rfl, _⟩ | ⟨g, cap, cur, rfl, hb, hh, _⟩
  · cases hk
  · simp only [Value.ownBlock, Option.some.injEq] at hk
    subst hk
    refine ⟨hb, ?_⟩
    rcases Nat.lt_or_ge g w.heap.size with hlt | hge
    · exact hlt
    · rw [Array.getElem?_eq_none hge] at hh; cases hh

theorem own_base {w : World} {base n : Nat} {v : Value} {xs : List Value} (h : w.ownsRow base 5 1 v n xs) : w.ownsRow 0 5 1 v n xs := own_mono h (Nat.zero_le _)

theorem part_h (A : Option Addr) (l : List UInt8) (cap hi : Nat) (h2 : hi ≤ l.length) (h3 : l.length ≤ cap) : ∃ r, Hid (∀ W, (Instr.sliceAt 23 (.slice A l.length cap) none (some (.int .i64 hi)) none).run Try.prog W = .ok (.slice A (List.length r) cap) W) ∧
    r.length ≤ cap ∧ Hid (∀ W, Rd W A l → Rd W A r) ∧ Hid (r = l.take hi) ∧ Hid (r.length = hi) ∧ r.length ≤ l.length := by
  have hl : (l.take hi).length = hi := by rw [List.length_take]; omega
  refine ⟨l.take hi, ?_, by omega, fun W hr => hr.take _, rfl, hl, by omega⟩
  intro W; rw [hl]; exact sl_h W A _ cap hi (by omega)

end Go.Proofs.Ytmcbpgbiephllaa

namespace Go.Proofs.Ytmcbpgbiephllaa
open Go.ChangeShapes Go.WideShapes Go.RowKit Go.Deep

theorem Try.own : ownKnob Try.prog.godebug = none := by kernel_rfl

theorem Try.laidOut : laidOutB Try.prog = true := by kernel_rfl

theorem Try.cellsU8 : Try.prog.cellsOf 5 = 1 := by kernel_rfl

theorem nums_of {H : Type} {enc : TypeId × Value → H} {W : World} {fuel : Nat} {v : Value} {x : DataW H × List MemPlace} {t e : TypeId} {k : IntKind} (ht : Try.prog.underlying t = some (.slice e)) (he : Try.prog.underlying e = some (.int k)) (hc : Try.prog.cellsOf e = 1)
    (h : DataW.trod enc Try.prog W 0 (fun _ => true) true fuel t [v] = some x) :
    ∃ (ns : List Int) (A : Option Addr) (cap : Nat), v = .slice A ns.length cap ∧ ns.length ≤ cap ∧ cap ≤ maxLen ∧ ∀ (j : Nat) (n : Int), ns[j]? = some n → (Lit.int k n).wf = true ∧ ∃ b off, A = some ⟨b, off, none⟩ ∧ b < W.heap.size ∧ W.cell? ⟨b, off + j, none⟩ = some (.int k n) := by
  rcases open_slice1 ht hc h with ⟨hcs, _⟩ | ⟨a, len, cap, m, n, V, D, Pl, hcs, _, hl, hm, hmm, _, hi⟩
  · simp only [List.cons.injEq, and_true] at hcs
    exact ⟨[], none, 0, hcs, by simp, by simp, fun j n hj => by simp at hj⟩
  · simp only [List.cons.injEq, and_true] at hcs
    subst hcs
    simp only [if_true] at hmm
    have key : ∀ i : Fin len, ∃ n : Int, W.cell? (a.add i) = some (.int k n) ∧ (Lit.int k n).wf = true := fun i => by
      obtain ⟨h1, h2⟩ := hi i (by have := i.2; omega)
      obtain ⟨n, h3, _, h4⟩ := DataW.trod_int he h2
      simp only [List.cons.injEq, and_true] at h3
      exact ⟨n, by rw [h1, h3], h4⟩
    obtain ⟨f, hf⟩ := Classical.axiomOfChoice key
    refine ⟨List.ofFn f, some a, cap, by rw [List.length_ofFn], by rw [List.length_ofFn]; exact hl, hm, fun j n hj => ?_⟩
    have hjl : j < len := by
      have := (List.getElem?_eq_some_iff.1 hj).1
      simpa using this
    have e : n = f ⟨j, hjl⟩ := by
      rw [List.getElem?_ofFn, dif_pos hjl] at hj
      exact (Option.some.inj hj).symm
    subst e
    have hp : ∃ b off, a = ⟨b, off, none⟩ := by
      have hs := World.cell?_spot (hf ⟨0, by omega⟩).1
      obtain ⟨b, off, spot⟩ := a
      have : spot = none := by
        simpa [Addr.add] using hs
      exact ⟨b, off, by rw [this]⟩
    obtain ⟨b, off, rfl⟩ := hp
    have g := hf ⟨j, hjl⟩
    simp only [add_plain] at g
    refine ⟨g.2, b, off, rfl, ?_, g.1⟩
    rcases Nat.lt_or_ge b W.heap.size with hlt | hge
    · exact hlt
    · have := g.1
      simp [World.cell?, Array.getElem?_eq_none hge] at this

theorem max_le {n : Nat} (h : n ≤ maxLen) : n ≤ 9223372036854775807 := by unfold maxLen at h; omega

theorem bytes_of {H : Type} {enc : TypeId × Value → H} {W : World} {fuel : Nat} {v : Value} {x : DataW H × List MemPlace}
    (h : DataW.trod enc Try.prog W 0 (fun _ => true) true fuel 23 [v] = some x) :
    ∃ (l : List UInt8) (A : Option Addr) (cap : Nat), v = .slice A l.length cap ∧ l.length ≤ cap ∧ l.length ≤ 9223372036854775807 ∧ Rd W A l := by
  obtain ⟨ns, A, cap, hv, hl, hm, hn⟩ := nums_of Try.underlying23 Try.underlying5 Try.cellsU8 h
  have hlen : (ns.map fun n => UInt8.ofNat n.toNat).length = ns.length := List.length_map _
  refine ⟨ns.map fun n => UInt8.ofNat n.toNat, A, cap, by rw [hlen]; exact hv, by rw [hlen]; exact hl, by rw [hlen]; exact max_le (Nat.le_trans hl hm), fun hp => ?_⟩
  rw [hlen] at hp
  obtain ⟨_, b, off, hA, hb, _⟩ := hn 0 _ (List.getElem?_eq_getElem hp)
  refine ⟨b, off, hA, hb, fun j y hj => ?_⟩
  rw [List.getElem?_map, Option.map_eq_some_iff] at hj
  obtain ⟨n, hj, rfl⟩ := hj
  obtain ⟨hw, b', off', hA', _, hc⟩ := hn j n hj
  rw [hA] at hA'
  injection hA' with hA'
  injection hA' with h1 h2
  subst h1 h2
  have hbd := bounds_u8 hw
  rw [hc]
  simp only [Option.some.injEq, Value.int.injEq, true_and]
  rw [UInt8.toNat_ofNat']
  omega
end Go.Proofs.Ytmcbpgbiephllaa

namespace Go.Proofs.Ytmcbpgbiephllaa
open Go.RowKit

def strOf (l : List UInt8) : ByteArray := ⟨l.toArray⟩

theorem strOf_size (l : List UInt8) : (strOf l).size = l.length := by simp [strOf, ByteArray.size]

theorem str_any (w : World) (A : Option Addr) (l : List UInt8) (c : Nat) (h : Rd w A l) : (convert 23 9 (.slice A l.length c)).run Try.prog w = .ok (.string (strOf l)) w := by
  cases A with
  | none =>
    have hl : l = [] := by
      rcases Nat.eq_zero_or_pos l.length with h1 | h1
      · exact List.eq_nil_of_length_eq_zero h1
      · obtain ⟨b, off, h2, _⟩ := h h1
        cases h2
    subst hl
    exact run_convert_bytes_nil w 23 5 Try.underlying23 Try.underlying5 0 c 9 Try.underlying9
  | some ad =>
    have hl : (loadCells ad l.length).run Try.prog w = .ok ((l.map fun b => ((b.toNat : Nat) : Int)).map (Value.int .u8)).toArray w := by
      have := run_loadCells_list (P := Try.prog) w ad ((l.map fun b => ((b.toNat : Nat) : Int)).map (Value.int .u8)) (fun j v hj => by
        rw [List.map_map] at hj
        simp only [List.getElem?_map, Option.map_eq_some_iff] at hj
        obtain ⟨x, hx, rfl⟩ := hj
        obtain ⟨b, off, h1, _, h2⟩ := h (by have := (List.getElem?_eq_some_iff.1 hx).1; omega)
        obtain rfl : ad = ⟨b, off, none⟩ := by injection h1
        rw [add_plain]
        exact h2 j x hx)
      simpa using this
    rw [run_convert_bytes_string w 23 9 5 _ l.length c Try.underlying23 Try.underlying5 Try.underlying9, run_bytesToString w _ l.length c _ hl, foldl_push_bytes]
    congr 3
    simp [ByteArray.empty, ByteArray.emptyWithCapacity]
    have e : ((fun n : Int => UInt8.ofNat n.toNat) ∘ fun b : UInt8 => ((b.toNat : Nat) : Int)) = id := funext fun b => by simp
    rw [e, List.map_id]
    rfl
end Go.Proofs.Ytmcbpgbiephllaa

namespace Go.Proofs.Ytmcbpgbiephllaa
open Go.RowKit

theorem strOf_list (l : List UInt8) : (strOf l).toList = l := ByteArray.toList_mk l
theorem strOf_beq (a b : List UInt8) : ((strOf a).toList == (strOf b).toList) = decide (a = b) := by
  rw [strOf_list, strOf_list]
  by_cases h : a = b
  · subst h; simp
  · rw [decide_eq_false h]; exact beq_eq_false_iff_ne.2 h
theorem strOf_of (s : ByteArray) : ∃ l : List UInt8, s = strOf l ∧ l.length = s.size := ⟨s.data.toList, by cases s; simp [strOf], by cases s; simp [ByteArray.size]⟩
end Go.Proofs.Ytmcbpgbiephllaa

namespace Go.Proofs.Ytmcbpgbiephllaa
namespace Pa

abbrev Bytes := List UInt8
def okByte (c : UInt8) : Bool := (97 ≤ c.toNat && c.toNat ≤ 122) || (48 ≤ c.toNat && c.toNat ≤ 57) || c == 46 || c == 45 || c == 95
def good (n : Bytes) : Bool := n.all okByte && decide (1 ≤ n.length) && decide (n.length ≤ 16) && n != [46] && n != [46, 46]
def pieces : Bytes → List Bytes
  | [] => [[]]
  | c :: s => if c = 47 then [] :: pieces s else match pieces s with
    | [] => [[c]]
    | p :: ps => (c :: p) :: ps
def split (d : Nat) (s : Bytes) : List Bytes × Nat :=
  if s = [47] then ([], 0)
  else match s with
    | [] => ([], 12)
    | c :: s => if c = 47 then
        (if (pieces s).all good then (if (pieces s).length ≤ d then (pieces s, 0) else ([], 3)) else ([], 12))
      else ([], 12)

structure Parts (s0 t : Bytes) (c : List Bytes) : Prop where
  good : ∀ n ∈ c, good n = true
  way : ∃ u0, s0 = 47 :: u0 ∧ u0 ≠ [] ∧ (t = [] → pieces u0 = c) ∧ (t ≠ [] → ∃ u, t = 47 :: u ∧ pieces u0 = c ++ pieces u)
theorem split_of {d : Nat} {u : Bytes} (h : u ≠ []) : split d (47 :: u) = if (pieces u).all Pa.good then (if (pieces u).length ≤ d then (pieces u, 0) else ([], 3)) else ([], 12) := by
  unfold split
  rw [if_neg (by simpa using h)]
  simp
theorem Parts.done {d : Nat} {s0 : Bytes} {c : List Bytes} (h : Parts s0 [] c) : split d s0 = if c.length ≤ d then (c, 0) else ([], 3) := by
  obtain ⟨u0, rfl, hu, h1, _⟩ := h.way
  rw [split_of hu, h1 rfl, if_pos (List.all_eq_true.2 h.good)]
end Pa
end Go.Proofs.Ytmcbpgbiephllaa

namespace Go.Proofs.Ytmcbpgbiephllaa
open Go.RowKit

abbrev Bs := List UInt8
def txtCells (l : List Bs) : List Value := l.map fun s => .string (strOf s)
def RdS (w : World) (A : Option Addr) (l : List Bs) : Prop :=
  0 < l.length → ∃ b off, A = some ⟨b, off, none⟩ ∧ b < w.heap.size ∧ ∀ j x, l[j]? = some x → w.cell? ⟨b, off + j, none⟩ = some (.string (strOf x))
theorem RdS.below {w w' : World} {A : Option Addr} {l : List Bs} (h : RdS w A l) (hb : Below w.heap.size w w') : RdS w' A l := fun hl => by
  obtain ⟨b, off, h1, h2, h3⟩ := h hl
  exact ⟨b, off, h1, Nat.lt_of_lt_of_le h2 hb.size, fun j x hx => (hb.cell (p := ⟨b, off + j, none⟩) h2).trans (h3 j x hx)⟩
theorem RdS.grown {w w' : World} {A : Option Addr} {l : List Bs} {row : Option Nat} (h : RdS w A l) (hg : w.grownBy w' row) (hne : ∀ b, A.map (·.block) = some b → row ≠ some b) : RdS w' A l := fun hl => by
  obtain ⟨b, off, rfl, h2, h3⟩ := h hl
  exact ⟨b, off, rfl, Nat.lt_of_lt_of_le h2 hg.size, fun j x hx => (World.cell?_of_block (hg.block b h2 (fun e => hne b rfl e.symm))).trans (h3 j x hx)⟩
def TAt (B : Nat) (v : Value) (l : List Bs) (w0 wr : World) : Prop :=
  wr.ownsRow B 9 1 v l.length (txtCells l) ∧ Below B w0 wr ∧ B = w0.heap.size
theorem owned_below {w wa : World} {B e n : Nat} {v : Value} {xs : List Value} (h : w.ownsRow B e 1 v n xs) (ha : Below w.heap.size w wa) : wa.ownsRow B e 1 v n xs := by
  refine ⟨h.1, ?_⟩
  rcases h.2 with h2 | ⟨g, cap, cur, h3, h4, h5, h6⟩
  · exact .inl h2
  · refine .inr ⟨g, cap, cur, h3, h4, (ha.block g ?_).trans h5, h6⟩
    rcases Nat.lt_or_ge g w.heap.size with hlt | hge
    · exact hlt
    · rw [Array.getElem?_eq_none hge] at h5; cases h5
theorem TAt.own {B : Nat} {v : Value} {l : List Bs} {w0 wr wa : World} (h : TAt B v l w0 wr) (ha : Below wr.heap.size wr wa) : wa.ownsRow B 9 1 v l.length (txtCells l) := owned_below h.1 ha
theorem TAt.below {B : Nat} {v : Value} {l : List Bs} {w0 wr w' : World} (h : TAt B v l w0 wr) (hb : Below wr.heap.size wr w') : TAt B v l w0 w' :=
  ⟨owned_below h.1 hb, h.2.1.trans (hb.mono (by have := h.2.1.size; have := h.2.2; omega)), h.2.2⟩
end Go.Proofs.Ytmcbpgbiephllaa

namespace Go.Proofs.Ytmcbpgbiephllaa
namespace St
structure Opn where
  kind : Int
  path : Bs
  dest : Bs
  fd : Int
  at_ : Int
  n : Int
  till : Nat
  snap : Int
  data : Bs
def asks1 (k : Int) : Bool := k == 1 || k == 2 || k == 3 || k == 8 || k == 9 || k == 11 || k == 12 || k == 13
def asks2 (k : Int) : Bool := k == 7 || k == 10
end St
end Go.Proofs.Ytmcbpgbiephllaa

namespace Go.Proofs.Ytmcbpgbiephllaa.Rg
open Go Go.RowKit

structure Fact where
  holds : Value → World → Prop
  own : Value → Option Nat
  keep : ∀ v w w' row, holds v w → w.grownBy w' row → (∀ b, own v = some b → b < w.heap.size ∧ row ≠ some b) → holds v w'
def NoExit : Exit → Act → World → Prop := fun _ _ _ => False
theorem not_lets : ¬ LetsOut NoExit := fun ⟨_, _, h⟩ => h

structure Frm (ops : Array Oper) (L : Nat → Prop) (V : Nat → Value) (a0 a : Act) : Prop where
  defers : a.defers = a0.defers
  size : a.tmps.size = a0.tmps.size
  put : ∀ i o d, ops[i]? = some o → o.dst = some d → L i → a.tmps[d]? = if d < a0.tmps.size then some (V i) else none
  rest : ∀ t, (∀ i o, ops[i]? = some o → L i → o.dst ≠ some t) → a.tmps[t]? = a0.tmps[t]?

def distinct (ops : Array Oper) : Bool :=
  (List.range ops.size).all fun i => (List.range ops.size).all fun j => i == j || (match ops[i]?, ops[j]? with | some x, some y => x.dst.isNone || x.dst != y.dst | _, _ => true)
theorem distinct_spec {ops : Array Oper} (h : distinct ops = true) {i j : Nat} {x y : Oper} {d : Nat} (hx : ops[i]? = some x) (hy : ops[j]? = some y) (hne : i ≠ j) (hd : x.dst = some d) : y.dst ≠ some d := by
  unfold distinct at h
  rw [List.all_eq_true] at h
  have h1 := h i (List.mem_range.2 (Array.getElem?_eq_some_iff.1 hx).1)
  rw [List.all_eq_true] at h1
  have h2 := h1 j (List.mem_range.2 (Array.getElem?_eq_some_iff.1 hy).1)
  simp only [hx, hy, hd, beq_iff_eq, hne, Bool.or_eq_true, false_or, Option.isNone_some, Bool.false_eq_true, bne_iff_ne, ne_eq] at h2
  exact fun e => h2 e.symm

theorem put_size (a : Act) (d : Option Tmp) (v : Value) : (a.put d v).tmps.size = a.tmps.size := by cases d <;> simp [Act.put]
theorem put_defers' (a : Act) (d : Option Tmp) (v : Value) : (a.put d v).defers = a.defers := by cases d <;> rfl
theorem put_same (a : Act) (d : Nat) (v : Value) : (a.put (some d) v).tmps[d]? = if d < a.tmps.size then some v else none := by
  simp [Act.put, Array.getElem?_setIfInBounds]
theorem put_other (a : Act) (x : Option Tmp) (t : Nat) (v : Value) (h : x ≠ some t) : (a.put x v).tmps[t]? = a.tmps[t]? := by
  cases x with
  | none => rfl
  | some d =>
    have : d ≠ t := fun e => h (by rw [e])
    simp [Act.put, Array.getElem?_setIfInBounds_ne this]

theorem Frm.refl (ops : Array Oper) (V : Nat → Value) (a : Act) : Frm ops (fun _ => False) V a a := ⟨rfl, rfl, fun _ _ _ _ _ h => h.elim, fun _ _ => rfl⟩
theorem Frm.congr {ops : Array Oper} {L L' : Nat → Prop} {V V' : Nat → Value} {a0 a : Act} (h : Frm ops L V a0 a) (hL : ∀ i, L i ↔ L' i) (hV : ∀ i, L i → V' i = V i) : Frm ops L' V' a0 a :=
  ⟨h.defers, h.size, fun i o d ho hd hi => by rw [hV i ((hL i).2 hi)]; exact h.put i o d ho hd ((hL i).2 hi), fun t ht => h.rest t (fun i o ho hi => ht i o ho ((hL i).1 hi))⟩
theorem Frm.step {ops : Array Oper} {L : Nat → Prop} {V : Nat → Value} {a0 a : Act} (hd : distinct ops = true) (h : Frm ops L V a0 a) (i : Nat) (o : Oper) (ho : ops[i]? = some o) (_hi : ¬ L i) (v : Value) :
    Frm ops (fun k => k = i ∨ L k) (fun k => if k = i then v else V k) a0 (a.put o.dst v) := by
  refine ⟨(put_defers' _ _ _).trans h.defers, (put_size _ _ _).trans h.size, fun k ok d hok hkd hk => ?_, fun t ht => ?_⟩
  · by_cases e : k = i
    · subst e
      obtain rfl : ok = o := by rw [ho] at hok; exact (Option.some.inj hok).symm
      rw [hkd, put_same, h.size, if_pos rfl]
    · rw [put_other _ _ _ _ (distinct_spec hd hok ho e hkd), if_neg e]
      exact h.put k ok d hok hkd (hk.resolve_left e)
  · rw [put_other _ _ _ _ (ht i o ho (.inl rfl))]
    exact h.rest t (fun k ok hok hk => ht k ok hok (.inr hk))
theorem Frm.at_ {ops : Array Oper} {L U : Nat → Prop} {V : Nat → Value} {a0 a b : Act} (ha : Frm ops L V a0 a) (hb : Frm ops U V a0 b) (t : Nat) (h : ∀ i o, ops[i]? = some o → o.dst = some t → (L i ↔ U i)) : a.tmps[t]? = b.tmps[t]? := by
  by_cases hx : ∃ i o, ops[i]? = some o ∧ L i ∧ o.dst = some t
  · obtain ⟨i, o, ho, hi, hd⟩ := hx
    rw [ha.put i o t ho hd hi, hb.put i o t ho hd ((h i o ho hd).1 hi)]
  · rw [ha.rest t (fun i o ho hi hd => hx ⟨i, o, ho, hi, hd⟩), hb.rest t (fun i o ho hi hd => hx ⟨i, o, ho, (h i o ho hd).2 hi, hd⟩)]
theorem Frm.uniq {ops : Array Oper} {L : Nat → Prop} {V : Nat → Value} {a0 a b : Act} (ha : Frm ops L V a0 a) (hb : Frm ops L V a0 b) : a = b := by
  have h1 : a.tmps = b.tmps := Array.ext_getElem? fun t => ha.at_ hb t (fun _ _ _ _ => Iff.rfl)
  have h2 := ha.defers.trans hb.defers.symm
  cases a; cases b
  simp_all

def putList : List Oper → Nat → (Nat → Value) → Act → Act
  | [], _, _, a => a
  | o :: l, n, V, a => putList l (n + 1) V (a.put o.dst (V n))
theorem Frm.putList {ops : Array Oper} {V : Nat → Value} {a0 : Act} (hd : distinct ops = true) : ∀ (l : List Oper) (n : Nat) (a : Act), (∀ k, k < l.length → l[k]? = ops[n + k]?) → Frm ops (fun i => i < n) V a0 a → Frm ops (fun i => i < n + l.length) V a0 (putList l n V a)
  | [], _, _, _, h => h
  | o :: l, n, a, hl, h => by
    have h0 := hl 0 (by simp)
    simp only [List.getElem?_cons_zero, Nat.add_zero] at h0
    have h1 := (h.step hd n o h0.symm (Nat.lt_irrefl n) (V n)).congr (L' := fun i => i < n + 1) (V' := V) (fun i => by omega) (fun i _ => by by_cases e : i = n <;> simp [e])
    have h2 := Frm.putList hd l (n + 1) _ (fun k hk => by have := hl (k + 1) (by simp; omega); simp only [List.getElem?_cons_succ] at this; rw [this]; congr 1; omega) h1
    exact h2.congr (fun i => by simp only [List.length_cons]; omega) (fun _ _ => rfl)
def putUse (V : Nat → Value) : List (Nat × Nat) → Act → Act
  | [], a => a
  | x :: l, a => (putUse V l a).put (some x.2) (V x.1)
theorem Frm.putUse {ops : Array Oper} {V : Nat → Value} {a0 : Act} (hd : distinct ops = true) : ∀ (l : List (Nat × Nat)), (∀ x, x ∈ l → (ops[x.1]?).bind (·.dst) = some x.2) → (l.map (·.1)).Nodup → Frm ops (fun i => i ∈ l.map (·.1)) V a0 (putUse V l a0)
  | [], _, _ => (Frm.refl ops V a0).congr (fun i => by simp) (fun _ _ => rfl)
  | x :: l, hl, hn => by
    have hi := hl x (by simp)
    obtain ⟨o, ho, hod⟩ := Option.bind_eq_some_iff.1 hi
    have h1 := Frm.putUse (V := V) (a0 := a0) hd l (fun k hk => hl k (by simp [hk])) (List.nodup_cons.1 hn).2
    have h2 := (h1.step hd x.1 o ho (List.nodup_cons.1 hn).1 (V x.1)).congr (L' := fun k => k ∈ (x :: l).map (·.1)) (V' := V) (fun k => by simp) (fun k _ => by by_cases e : k = x.1 <;> simp [e])
    rw [hod] at h2
    exact h2
theorem use_size (V : Nat → Value) (a : Act) : ∀ l : List (Nat × Nat), (putUse V l a).tmps.size = a.tmps.size
  | [] => rfl
  | _ :: l => (put_size _ _ _).trans (use_size V a l)
theorem use_eval (V : Nat → Value) (a : Act) (t : Nat) : ∀ (l : List (Nat × Nat)), (l.all (fun x => decide (x.2 < a.tmps.size)) = true) → (putUse V l a).eval (.tmp t) = (match l.find? (fun x => x.2 == t) with | some x => V x.1 | none => a.eval (.tmp t))
  | [], _ => rfl
  | x :: l, h => by
    simp only [List.all_cons, Bool.and_eq_true, decide_eq_true_eq] at h
    have ih := use_eval V a t l h.2
    have hs := use_size V a l
    simp only [List.find?_cons]
    by_cases e : x.2 = t
    · simp only [e, beq_self_eq_true, putUse, Act.eval, Array.getD_eq_getD_getElem?]
      rw [put_same, if_pos (by rw [hs, ← e]; exact h.1)]
      rfl
    · have e2 : (x.2 == t) = false := by simpa using e
      simp only [e2, putUse]
      rw [← ih]
      simp only [Act.eval, Array.getD_eq_getD_getElem?]
      rw [put_other _ _ _ _ (by simpa using e)]

section
variable {P : Program} {ops : Array Oper} {Q : Exit → Act → World → Prop} {md : Region.Mode}

def Does (P : Program) (ops : Array Oper) (o : Oper) (b : Act) (w : World) (R : Value → World → Prop) : Prop :=
  (Region.wanted o (yielded ops b.tmps) = false ∧ R undef w) ∨
  (Region.wanted o (yielded ops b.tmps) = true ∧ ∀ K : Act → World → Prop, (∀ v w', R v w' → K (b.put o.dst v) w') → o.wp P b w K NoExit)

theorem put_inj {a b : Act} {d : Option Tmp} {u v : Value} (hs : a.tmps.size = b.tmps.size) (h : b.put d u = b.put d v) : a.put d u = a.put d v := by
  cases d with
  | none => rfl
  | some d =>
    by_cases hlt : d < b.tmps.size
    · have h1 := congrArg (fun x : Act => x.tmps[d]?) h
      simp only [put_same, hlt, if_true, Option.some.injEq] at h1
      rw [h1]
    · have e : ∀ x : Value, a.put (some d) x = a := fun x => by
        have : a.tmps.setIfInBounds d x = a.tmps := by
          apply Array.ext_getElem?
          intro t
          have h1 : a.tmps.size ≤ d := by rw [hs]; exact Nat.le_of_not_lt hlt
          rw [Array.getElem?_setIfInBounds]
          by_cases e : d = t
          · rw [if_pos e, if_neg (Nat.not_lt.2 h1), ← e, Array.getElem?_eq_none h1]
          · rw [if_neg e]
        simp [Act.put, this]
      rw [e, e]
theorem Does.at_ {o : Oper} {a b : Act} {w : World} {R : Value → World → Prop} {j : Nat} (hj : ops[j]? = some o) (hsel : ∀ cs x, o.op ≠ .select cs x) (hs : a.tmps.size = b.tmps.size) (hl : ∀ t, t ∈ o.looksAt ops → a.tmps[t]? = b.tmps[t]?)
    (h : Does P ops o b w R) {K : Act → World → Prop} (hK : ∀ v w', R v w' → K (a.put o.dst v) w') : wpOp P ops Q j K a w := by
  have he : execOp a.eval o = execOp b.eval o := execOp_congr o hsel fun x hx => by
    cases x with
    | tmp t =>
      have := hl t (List.mem_append_left _ (List.mem_filterMap.2 ⟨.tmp t, by simpa using hx, rfl⟩))
      simp only [Act.eval, Array.getD_eq_getD_getElem?, this]
    | _ => rfl
  have hw : Region.wanted o (yielded ops a.tmps) = Region.wanted o (yielded ops b.tmps) := by
    unfold Region.wanted
    cases hg : o.guard with
    | none => rfl
    | some gw =>
      obtain ⟨g, want⟩ := gw
      have : yielded ops a.tmps g = yielded ops b.tmps g := by
        unfold yielded
        cases ht : (ops[g]?).bind (·.dst) with
        | none => rfl
        | some t =>
          have := hl t (List.mem_append_right _ (by simp [hg, ht]))
          simp [this]
      simp only [this]
  unfold Go.wpOp
  simp only [hj]
  rcases h with ⟨h1, h2⟩ | ⟨h1, h2⟩
  · rw [hw, h1]
    simp only [Bool.false_eq_true, if_false]
    exact hK _ _ h2
  · rw [hw, h1]
    simp only [if_true]
    refine .inl ?_
    have h3 := h2 (fun b' w' => ∃ v, R v w' ∧ b' = b.put o.dst v) (fun v w' hr => ⟨v, hr, rfl⟩)
    unfold Oper.wp at h3 ⊢
    rw [he]
    generalize (execOp b.eval o).run P w = r at h3
    have fin : ∀ u w', (∃ v, R v w' ∧ b.put o.dst u = b.put o.dst v) → K (a.put o.dst u) w' := fun u w' ⟨v, hr, e⟩ => by
      rw [put_inj hs e]; exact hK v w' hr
    cases r with
    | ok n w' =>
      cases n <;> simp only [Oper.upon] at h3 ⊢
      case value u => exact fin _ _ h3
      case skip => exact fin _ _ h3
      case defer d =>
        obtain ⟨v, _, e⟩ := h3
        have := congrArg (fun x : Act => x.defers.length) e
        simp [put_defers'] at this
      case enter f args =>
        refine Calls.mono h3 fun e w'' he => ?_
        cases e with
        | returned u => exact fin _ _ he
        | panicked c => exact he.elim
        | outgrown => exact (not_lets he).elim
      case row row args => exact Rows.mono h3 fun u w'' he => fin _ _ he
    | halt x w' => cases x <;> simp only [Oper.upon, NoExit] at h3

theorem Does.skip {o : Oper} {b : Act} {w : World} {R : Value → World → Prop} (hw : Region.wanted o (yielded ops b.tmps) = false) (hr : R undef w) : Does P ops o b w R := .inl ⟨hw, hr⟩

/-! ### The whole region -/
variable (F : Nat → Fact) (cons : Nat → Option Nat) (E : Nat → (Nat → Value) → Value → Prop)
variable {F cons E}
end
section
variable {P : Program} {ops : Array Oper} {Q : Exit → Act → World → Prop}
def nums (use : List (List (Nat × Nat))) (j : Nat) : List Nat := (use.getD j []).map (·.1)
def Steps (C : Nat → Oper → Prop) : Nat → List Oper → Prop
  | _, [] => True
  | n, o :: l => C n o ∧ Steps C (n + 1) l
theorem Steps.nil {C : Nat → Oper → Prop} {n : Nat} : Steps C n [] := trivial
theorem Steps.cons {C : Nat → Oper → Prop} {n : Nat} {o : Oper} {l : List Oper} (h : C n o) (k : Steps C (n + 1) l) : Steps C n (o :: l) := ⟨h, k⟩
theorem Steps.get {C : Nat → Oper → Prop} : ∀ {l : List Oper} {n : Nat}, Steps C n l → ∀ k o, l[k]? = some o → C (n + k) o
  | [], _, _, _, _, h => by simp at h
  | x :: l, n, ⟨h1, h2⟩, k, o, h => by
    cases k with
    | zero => simp only [List.getElem?_cons_zero, Option.some.injEq] at h; subst h; exact h1
    | succ k => simp only [List.getElem?_cons_succ] at h; have := Steps.get h2 k o h; rwa [show n + 1 + k = n + (k + 1) by omega] at this
theorem getD_set (l : Array Bool) (i k : Nat) : ((l.setIfInBounds i true).getD k false = true) ↔ ((k = i ∧ i < l.size) ∨ l.getD k false = true) := by
  simp only [Array.getD_eq_getD_getElem?, Array.getElem?_setIfInBounds]
  by_cases e : i = k
  · subst e
    by_cases h : i < l.size
    · simp [h]
    · simp [h]
  · simp [e, Ne.symm e]
theorem left_set : ∀ (l : List Bool) (i : Nat), l[i]? = some false → ((l.set i true).filter (!·)).length + 1 = (l.filter (!·)).length
  | [], _, h => by simp at h
  | x :: l, 0, h => by simp only [List.getElem?_cons_zero, Option.some.injEq] at h; subst h; simp
  | x :: l, i + 1, h => by
    simp only [List.getElem?_cons_succ] at h
    have := left_set l i h
    cases x <;> simp [] <;> omega
theorem left_none : ∀ (l : List Bool), (l.filter (!·)).length = 0 → ∀ i, i < l.length → l[i]? = some true
  | [], _, i, h => by simp at h
  | x :: l, h, i, hi => by
    cases x with
    | false => simp at h
    | true =>
      cases i with
      | zero => rfl
      | succ i => simp only [List.getElem?_cons_succ]; exact left_none l (by simpa using h) i (by simpa using hi)

def Does1 (P : Program) (o : Oper) (V : Nat → Value) (b : Act) (w : World) (R : Value → World → Prop) : Prop :=
  match o.guard with
  | none => ∀ K : Act → World → Prop, (∀ v w', R v w' → K (b.put o.dst v) w') → o.wp P b w K NoExit
  | some (i, want) => (V i = .bool want ∧ ∀ K : Act → World → Prop, (∀ v w', R v w' → K (b.put o.dst v) w') → o.wp P b w K NoExit) ∨ (V i = .bool (!want) ∧ R undef w)
def alias (al : List (Nat × Nat × (Value → Value))) (j : Nat) (V : Nat → Value) (v : Value) : Prop := ∀ i f, (j, i, f) ∈ al → v = f (V i)
theorem alias_dep {al : List (Nat × Nat × (Value → Value))} {use : List (List (Nat × Nat))} (h : (al.all fun x => (nums use x.1).contains x.2.1) = true) (j : Nat) (V V' : Nat → Value) (v : Value) (he : ∀ i ∈ nums use j, V i = V' i) (ha : alias al j V v) : alias al j V' v := fun i f hm => by
  have := List.all_eq_true.1 h _ hm
  rw [← he i (by simpa using this)]
  exact ha i f hm
theorem alias_none {al : List (Nat × Nat × (Value → Value))} {j : Nat} (h : (al.all fun x => x.1 != j) = true) (V : Nat → Value) (v : Value) : alias al j V v := fun i f hm => by
  have := List.all_eq_true.1 h _ hm
  simp at this
theorem alias_one {al : List (Nat × Nat × (Value → Value))} {j i : Nat} {f : Value → Value} (h : al.filter (fun x => x.1 == j) = [(j, i, f)]) (V : Nat → Value) : alias al j V (f (V i)) := fun i' f' hm => by
  have : (j, i', f') ∈ al.filter (fun x => x.1 == j) := List.mem_filter.2 ⟨hm, by simp⟩
  rw [h] at this
  simp only [List.mem_singleton, Prod.mk.injEq, true_and] at this
  rw [this.1, this.2]
end

def row (e : TypeId) (n : Nat) (xs : List Value) : Fact := ⟨fun v w => w.ownsRow 0 e 1 v n xs, Value.ownBlock, fun v w w' r h hg hb => by
  refine ⟨h.1, ?_⟩
  rcases h.2 with h2 | ⟨g, cap, cur, h3, h4, h5, h6⟩
  · exact .inl h2
  · subst h3
    have := hb g rfl
    exact .inr ⟨g, cap, cur, rfl, h4, (hg.block g this.1 (fun e => this.2 e.symm)).trans h5, h6⟩⟩

theorem eval_const (a : Act) (v : Value) : a.eval (.const v) = v := rfl
/-! ### The steps, a kind each -/
section
variable {P : Program} {F : Nat → Fact} {cons : List (Nat × Nat)} {E : Nat → (Nat → Value) → Value → Prop} {W0 : World} {V : Nat → Value} {j : Nat} {o : Oper} {b : Act} {w : World}
def Open (o : Oper) (V : Nat → Value) : Prop := match o.guard with | none => True | some (i, want) => V i = .bool want
theorem Does1.of {R : Value → World → Prop} (hg : Open o V) (h : ∀ K : Act → World → Prop, (∀ v w', R v w' → K (b.put o.dst v) w') → o.wp P b w K NoExit) : Does1 P o V b w R := by
  unfold Open at hg
  unfold Does1
  split <;> rename_i h0
  · exact h
  · rw [h0] at hg; exact .inl ⟨hg, h⟩
theorem call_enter {f : FuncId} {fn : Func} (hf : P.funcs[f]? = some fn) (hb : fn.body.isNone = false) (hn : (fn.name == "runtime.NumGoroutine") = false) (args : Array Value) (w : World) : (callFunc f args).run P w = .ok (.enter f args) w := by
  have hn' : ¬ fn.name = "runtime.NumGoroutine" := by simpa using hn
  have hb' : ¬ fn.body = none := by intro e; rw [e] at hb; cases hb
  unfold callFunc
  simp [hf, hn', hb', go_sem]
end
end Go.Proofs.Ytmcbpgbiephllaa.Rg

namespace Go.Proofs.Ytmcbpgbiephllaa
open Go.RowKit

def bRow (l : List UInt8) : Rg.Fact := Rg.row 5 l.length (Lib.byteCells l)

theorem bRow_form {w : World} {v : Value} {l : List UInt8} (h : (bRow l).holds v w) : ∃ A c, v = .slice A l.length c ∧ l.length ≤ c ∧ Rd w A l := by
  have h0 : w.ownsRow 0 5 1 v l.length (Lib.byteCells l) := h
  rcases Nat.eq_zero_or_pos l.length with h1 | h1
  · rcases h0.2 with ⟨rfl, _⟩ | ⟨g, cap, cur, rfl, _, _, hn, _⟩
    · exact ⟨none, 0, by rw [h1], by omega, fun hp => absurd hp (by omega)⟩
    · exact ⟨_, cap, rfl, hn, fun hp => absurd hp (by omega)⟩
  · obtain ⟨g, c, e, hc, _, _, _, hr⟩ := rd_own h0 h1
    exact ⟨_, c, e, hc, hr⟩

section
variable {F : Nat → Rg.Fact} {cons : List (Nat × Nat)} {al : List (Nat × Nat × (Value → Value))} {W0 : World} {V : Nat → Value} {j : Nat} {o : Oper} {b : Act} {w : World}
end
end Go.Proofs.Ytmcbpgbiephllaa

namespace Go.Proofs.Ytmcbpgbiephllaa
open Go.RowKit

theorem own_far {w : World} {base n : Nat} {v : Value} {xs : List Value} (h : w.ownsRow base 5 1 v n xs) (p : Addr) (hne : v.ownBlock ≠ some p.block) (u : Value) : (w.setCell p u).ownsRow base 5 1 v n xs := by
  refine ⟨h.1, ?_⟩
  rcases h.2 with h2 | ⟨g, cap, cur, h3, h4, h5, h6⟩
  · exact .inl h2
  · subst h3
    refine .inr ⟨g, cap, cur, rfl, h4, ?_, h6⟩
    rw [Below.heap_setCell w p u g (fun e => hne (by rw [← e]; rfl))]
    exact h5
theorem Rd.byte {w : World} {b off : Nat} {l : List UInt8} (h : Rd w (some ⟨b, off, none⟩) l) (j : Nat) (hj : j < l.length) : w.cell? ⟨b, off + j, none⟩ = some (.int .u8 (l.getD j 0).toNat) := by
  obtain ⟨b', off', e, _, hc⟩ := h.at_ (by omega)
  injection e with e
  injection e with e1 e2
  subst e1 e2
  exact hc j hj
end Go.Proofs.Ytmcbpgbiephllaa

namespace Go.Proofs.Ytmcbpgbiephllaa
open Go.RowKit
namespace Co
def wByte (n : Nat) : List UInt8 := [UInt8.ofNat n]
def wShort (n : Nat) : List UInt8 := [UInt8.ofNat (n / 256), UInt8.ofNat n]
def wLong (n : Nat) : List UInt8 := (List.range 8).map fun j => UInt8.ofNat (n / 2 ^ (56 - 8 * j))
def wFlag (f : Bool) : List UInt8 := [if f then 1 else 0]
def wBytes (x : List UInt8) : List UInt8 := wShort (x.take 65535).length ++ x.take 65535
theorem wLong_length (n : Nat) : (wLong n).length = 8 := by simp [wLong]
structure Rs where
  rem : List UInt8
  why : Nat
def raw (n : Int) (s : Rs) : List UInt8 × Rs :=
  if s.why ≠ 0 ∨ n < 1 then ([], s) else if (s.rem.length : Int) < n then ([], { s with why := 10 }) else (s.rem.take n.toNat, { s with rem := s.rem.drop n.toNat })
def beVal (l : List UInt8) : Nat := l.foldl (fun x b => (x * 256 + b.toNat) % 18446744073709551616) 0
def num (n : Int) (s : Rs) : Nat × Rs := (beVal (raw n s).1, (raw n s).2)
def flag (s : Rs) : Bool × Rs := (decide ((num 1 s).1 = 1), if 1 < (num 1 s).1 then { (num 1 s).2 with why := 12 } else (num 1 s).2)
def bytes (s : Rs) : List UInt8 × Rs := raw ((num 2 s).1 : Nat) (num 2 s).2
def left (s : Rs) : Nat := if s.why ≠ 0 then 0 else s.rem.length
def fin (s : Rs) : Nat := if s.why ≠ 0 then s.why else if 0 < s.rem.length then 11 else 0
end Co
theorem MAt.empty (w : World) : MAt w.heap.size (.slice (some ⟨w.heap.size, 0, none⟩) 0 0) [] w (w.alloc (.cells #[] 5)) :=
  ⟨⟨rfl, .inr ⟨w.heap.size, 0, #[], rfl, Nat.le_refl _, heap_alloc_new w _, Nat.le_refl _, by unfold maxLen; omega, rfl, rfl⟩⟩, below_new w _, rfl⟩
theorem u8_cast (n : Nat) : (((UInt8.ofNat n).toNat : Nat) : Int) = (n : Int) % 256 := by rw [UInt8.toNat_ofNat']; omega
end Go.Proofs.Ytmcbpgbiephllaa

namespace Go.Proofs.Ytmcbpgbiephllaa
open Go.RowKit
namespace Co
theorem raw_app (x r : List UInt8) (n : Int) (h : n = x.length) (h1 : 1 ≤ n) : raw n ⟨x ++ r, 0⟩ = (x, ⟨r, 0⟩) := by
  subst h
  unfold raw
  rw [if_neg (by simp only [ne_eq, not_true_eq_false, false_or]; omega), if_neg (by simp only [List.length_append]; omega)]
  simp
theorem num_app (x r : List UInt8) (n : Int) (h : n = x.length) (h1 : 1 ≤ n) : num n ⟨x ++ r, 0⟩ = (beVal x, ⟨r, 0⟩) := by
  unfold num; rw [raw_app x r n h h1]
theorem num_byte (n : Nat) (r : List UInt8) : num 1 ⟨wByte n ++ r, 0⟩ = (n % 256, ⟨r, 0⟩) := by
  rw [num_app _ _ _ (by rfl) (by decide)]
  simp only [beVal, wByte, List.foldl_cons, List.foldl_nil, UInt8.toNat_ofNat']
  congr 1; omega
theorem num_short (n : Nat) (r : List UInt8) : num 2 ⟨wShort n ++ r, 0⟩ = (n % 65536, ⟨r, 0⟩) := by
  rw [num_app _ _ _ (by rfl) (by decide)]
  simp only [beVal, wShort, List.foldl_cons, List.foldl_nil, UInt8.toNat_ofNat']
  congr 1; omega
theorem wLong_is (n : Nat) : wLong n = [UInt8.ofNat (n / 72057594037927936), UInt8.ofNat (n / 281474976710656), UInt8.ofNat (n / 1099511627776), UInt8.ofNat (n / 4294967296), UInt8.ofNat (n / 16777216), UInt8.ofNat (n / 65536), UInt8.ofNat (n / 256), UInt8.ofNat n] := by
  have e : List.range 8 = [0, 1, 2, 3, 4, 5, 6, 7] := by decide
  unfold wLong
  rw [e]
  simp
theorem dig (n d : Nat) (hn : n ≤ 18446744073709551615) : (n / (d * 256) * 256 + n / d % 2 ^ 8) % 18446744073709551616 = n / d := by
  rw [← Nat.div_div_eq_div_mul]
  have h := Nat.div_le_self n d
  generalize n / d = q at h
  omega
theorem num_long (n : Nat) (hn : n ≤ 18446744073709551615) (r : List UInt8) : num 8 ⟨wLong n ++ r, 0⟩ = (n, ⟨r, 0⟩) := by
  rw [num_app _ _ _ (by rw [wLong_length]; rfl) (by decide)]
  simp only [beVal, wLong_is, List.foldl_cons, List.foldl_nil, UInt8.toNat_ofNat']
  have s0 : (0 * 256 + n / 72057594037927936 % 2 ^ 8) % 18446744073709551616 = n / 72057594037927936 := by
    have := Nat.div_lt_of_lt_mul (m := n) (n := 72057594037927936) (k := 256) (by omega)
    generalize n / 72057594037927936 = q at this
    omega
  have s1 := dig n 281474976710656 hn
  have s2 := dig n 1099511627776 hn
  have s3 := dig n 4294967296 hn
  have s4 := dig n 16777216 hn
  have s5 := dig n 65536 hn
  have s6 := dig n 256 hn
  have s7 := dig n 1 hn
  simp only [Nat.reduceMul, Nat.div_one] at s1 s2 s3 s4 s5 s6 s7
  rw [s0, s1, s2, s3, s4, s5, s6, s7]
theorem bytes_app (x r : List UInt8) (hx : x.length ≤ 65535) : bytes ⟨wBytes x ++ r, 0⟩ = (x, ⟨r, 0⟩) := by
  have ht : x.take 65535 = x := List.take_of_length_le hx
  unfold bytes wBytes
  rw [ht, List.append_assoc, num_short]
  show raw ((x.length % 65536 : Nat) : Int) ⟨x ++ r, 0⟩ = _
  rw [Nat.mod_eq_of_lt (by omega)]
  by_cases h : x = []
  · subst h; rfl
  · have : 0 < x.length := List.length_pos_iff.2 h
    exact raw_app x r _ rfl (by omega)
end Co
end Go.Proofs.Ytmcbpgbiephllaa

namespace Go.Proofs.Ytmcbpgbiephllaa
open Go.RowKit
namespace Co
theorem bits_or64 (x b : Nat) (hb : b < 256) : bits .or .u64 (IntKind.u64.wrap ((x : Int) * (256 : Int))) (b : Int) = (((x * 256 + b) % 18446744073709551616 : Nat) : Int) := by
  show IntKind.u64.wrap ((BitVec.ofInt 64 _ ||| BitVec.ofInt 64 _).toNat : Int) = _
  obtain ⟨y, hy⟩ : ∃ y : Nat, y = (x % 72057594037927936) <<< 8 := ⟨_, rfl⟩
  have hy2 : y = (x % 72057594037927936) * 256 := by rw [hy, Nat.shiftLeft_eq]
  have hx : IntKind.u64.wrap ((x : Int) * (256 : Int)) = (y : Int) := by rw [IntKind.wrap_u64]; omega
  have hor : y ||| b = y + b := by rw [hy]; exact (Nat.shiftLeft_add_eq_or_of_lt (by omega : b < 2 ^ 8) _).symm
  rw [hx, BitVec.ofInt_natCast, BitVec.ofInt_natCast, BitVec.toNat_or, BitVec.toNat_ofNat, BitVec.toNat_ofNat, Nat.mod_eq_of_lt (by omega), Nat.mod_eq_of_lt (by omega), hor]
  rw [IntKind.wrap_u64]
  omega
theorem beVal_snoc (l : List UInt8) (k : Nat) (h : k < l.length) : beVal (l.take (k + 1)) = (beVal (l.take k) * 256 + (l.getD k 0).toNat) % 18446744073709551616 := by
  rw [List.take_succ_eq_append_getElem h, beVal, beVal, List.foldl_append]
  simp only [List.foldl_cons, List.foldl_nil, List.getD, List.getElem?_eq_getElem h, Option.getD_some]
end Co
theorem own_nil (w : World) (B : Nat) : w.ownsRow B 5 1 (.slice none 0 0) 0 (Lib.byteCells []) := ⟨rfl, .inl ⟨rfl, rfl⟩⟩
theorem own_form {w : World} {B : Nat} {v : Value} {l : List UInt8} (h : w.ownsRow B 5 1 v l.length (Lib.byteCells l)) : ∃ X c, v = .slice X l.length c ∧ l.length ≤ c ∧ Rd w X l := bRow_form (own_base h)
theorem num_small1 (s : Co.Rs) : (Co.num 1 s).1 < 256 := by
  unfold Co.num Co.raw
  split
  · exact (by decide : Co.beVal [] < 256)
  · split
    · exact (by decide : Co.beVal [] < 256)
    · show Co.beVal (s.rem.take 1) < 256
      rcases s.rem with _ | ⟨a, t⟩
      · decide
      · have := a.toNat_lt
        simp [Co.beVal]
        omega
theorem num_small2 (s : Co.Rs) : (Co.num 2 s).1 < 65536 := by
  unfold Co.num Co.raw
  split
  · exact (by decide : Co.beVal [] < 65536)
  · split
    · exact (by decide : Co.beVal [] < 65536)
    · show Co.beVal (s.rem.take 2) < 65536
      rcases s.rem with _ | ⟨a, _ | ⟨b, t⟩⟩
      · decide
      · have := a.toNat_lt
        simp [Co.beVal]
        omega
      · have := a.toNat_lt
        have := b.toNat_lt
        simp [Co.beVal]
        omega
theorem one_eq (x : Nat) : ((x : Int) == 1) = decide (x = 1) := by rw [Bool.eq_iff_iff]; simp; omega
end Go.Proofs.Ytmcbpgbiephllaa

namespace Go.Proofs.Ytmcbpgbiephllaa
open Go.RowKit
namespace Co
end Co
end Go.Proofs.Ytmcbpgbiephllaa

namespace Go.Proofs.Ytmcbpgbiephllaa
open Go.RowKit
open Co hiding bytes
namespace Co
end Co
namespace Op
open St (Opn asks1 asks2)
def hasPath (k : Int) : Bool := asks1 k || asks2 k
def hasTo (k : Int) : Bool := asks2 k
def hasFd (k : Int) : Bool := k == 4 || k == 5 || k == 6
def hasSpan (k : Int) : Bool := k == 4
def hasTill (k : Int) : Bool := k == 6 || k == 13 || k == 16
def hasSnap (k : Int) : Bool := k == 3 || k == 11 || k == 12 || k == 15
def hasData (k : Int) : Bool := k == 5
def zero : Opn := ⟨0, [], [], 0, 0, 0, 0, 0, []⟩
def asked (o : Opn) : Opn :=
  ⟨o.kind, if hasPath o.kind then o.path else [], if hasTo o.kind then o.dest else [], if hasFd o.kind then o.fd else 0, if hasSpan o.kind then o.at_ else 0, if hasSpan o.kind then o.n else 0, if hasTill o.kind then o.till else 0, if hasSnap o.kind then o.snap else 0, if hasData o.kind then o.data else []⟩
def Kd (k : Int) : Prop := 1 ≤ k ∧ k ≤ 17
instance (k : Int) : Decidable (Kd k) := by unfold Kd; infer_instance
def Long (x : Opn) : Prop := 200 < x.path.length ∨ 200 < x.dest.length ∨ 600 < x.data.length
instance (x : Opn) : Decidable (Long x) := by unfold Long; infer_instance
def sh (n : Int) : Prop := 0 ≤ n ∧ n ≤ 65535
instance (n : Int) : Decidable (sh n) := by unfold sh; infer_instance
def Shorts (x : Opn) : Prop := sh x.fd ∧ sh x.at_ ∧ sh x.n ∧ sh x.snap
instance (x : Opn) : Decidable (Shorts x) := by unfold Shorts; infer_instance
def err (o : Opn) : Nat := if ¬ Kd o.kind then 30 else if Long (asked o) then 3 else if ¬ Shorts (asked o) then 1 else 0
def put (c : Bool) (b : Bs) : Bs := if c then b else []
def form (o : Opn) : Bs :=
  wByte o.kind.toNat ++ (put (hasPath o.kind) (wBytes o.path) ++ (put (hasTo o.kind) (wBytes o.dest) ++ (put (hasFd o.kind) (wShort o.fd.toNat) ++ (put (hasSpan o.kind) (wShort o.at_.toNat) ++ (put (hasSpan o.kind) (wShort o.n.toNat) ++ (put (hasTill o.kind) (wLong o.till) ++ (put (hasSnap o.kind) (wShort o.snap.toNat) ++ put (hasData o.kind) (wBytes o.data))))))))
def enc (o : Opn) : Bs × Nat := if err o ≠ 0 then ([], err o) else (form o, 0)
def fld {α : Type} (c : Bool) (rd : Rs → α × Rs) (z : α) (s : Rs) : α × Rs := if c then rd s else (z, s)
def reads (L : Bs) : Opn × Rs :=
  let p0 := num 1 ⟨L, 0⟩
  let k : Int := (p0.1 : Nat)
  let p1 := fld (hasPath k) Co.bytes [] p0.2
  let p2 := fld (hasTo k) Co.bytes [] p1.2
  let p3 := fld (hasFd k) (num 2) 0 p2.2
  let p4 := fld (hasSpan k) (num 2) 0 p3.2
  let p5 := fld (hasSpan k) (num 2) 0 p4.2
  let p6 := fld (hasTill k) (num 8) 0 p5.2
  let p7 := fld (hasSnap k) (num 2) 0 p6.2
  let p8 := fld (hasData k) Co.bytes [] p7.2
  (⟨k, p1.1, p2.1, (p3.1 : Nat), (p4.1 : Nat), (p5.1 : Nat), p6.1, (p7.1 : Nat), p8.1⟩, p8.2)
def dec (L : Bs) : Opn × Nat :=
  if ¬ Kd (reads L).1.kind then (zero, 30) else if fin (reads L).2 ≠ 0 ∨ Long (reads L).1 then (zero, 12) else ((reads L).1, 0)
theorem asked_asked (o : Opn) : asked (asked o) = asked o := by
  obtain ⟨k, p, t, f, a, n, u, s, d⟩ := o
  unfold asked
  dsimp only
  cases hasPath k <;> cases hasTo k <;> cases hasFd k <;> cases hasSpan k <;> cases hasTill k <;> cases hasSnap k <;> cases hasData k <;> rfl
theorem form_asked (o : Opn) : form (asked o) = form o := by
  obtain ⟨k, p, t, f, a, n, u, s, d⟩ := o
  unfold form asked
  dsimp only
  cases hasPath k <;> cases hasTo k <;> cases hasFd k <;> cases hasSpan k <;> cases hasTill k <;> cases hasSnap k <;> cases hasData k <;> rfl
theorem err_asked (o : Opn) : err (asked o) = err o := by
  unfold err
  rw [asked_asked]
  rfl
theorem fld_app {α : Type} {c : Bool} {rd : Rs → α × Rs} {z x : α} {b r : Bs} (h : c = true → rd ⟨b ++ r, 0⟩ = (x, ⟨r, 0⟩)) : fld c rd z ⟨put c b ++ r, 0⟩ = (if c then x else z, ⟨r, 0⟩) := by
  cases c
  · rfl
  · exact h rfl
theorem ok_of {o : Opn} (h : err o = 0) : Kd o.kind ∧ ¬ Long (asked o) ∧ Shorts (asked o) := by
  unfold err at h
  by_cases h1 : Kd o.kind
  · rw [if_neg (fun h => h h1)] at h
    by_cases h2 : Long (asked o)
    · rw [if_pos h2] at h; exact absurd h (by decide)
    · rw [if_neg h2] at h
      by_cases h3 : Shorts (asked o)
      · exact ⟨h1, h2, h3⟩
      · rw [if_pos h3] at h; exact absurd h (by decide)
  · rw [if_pos h1] at h; exact absurd h (by decide)
theorem err_of {o : Opn} (h1 : Kd o.kind) (h2 : ¬ Long (asked o)) (h3 : Shorts (asked o)) : err o = 0 := by
  unfold err
  rw [if_neg (fun h => h h1), if_neg h2, if_neg (fun h => h h3)]
theorem reads_app (o : Opn) (h : err o = 0) (hu : o.till ≤ 18446744073709551615) (r : Bs) : reads (form o ++ r) = (asked o, ⟨r, 0⟩) := by
  obtain ⟨⟨hk1, hk2⟩, hl, hs⟩ := ok_of h
  obtain ⟨k, p, t, f, a, n, u, s, d⟩ := o
  dsimp only at hk1 hk2 hu
  obtain ⟨j, rfl⟩ : ∃ j : Nat, k = j := ⟨k.toNat, by omega⟩
  unfold Long asked at hl
  unfold Shorts asked at hs
  dsimp only at hl hs
  obtain ⟨hs1, hs2, hs3, hs4⟩ := hs
  unfold form reads asked
  dsimp only
  have e0 : ((j % 256 : Nat) : Int) = (j : Int) := by omega
  simp only [Int.toNat_natCast, List.append_assoc]
  rw [num_byte]
  dsimp only
  rw [e0]
  have sh_ : ∀ (c : Bool) (x : Int), sh (if c then x else 0) → c = true → ∀ r, num 2 ⟨wShort x.toNat ++ r, 0⟩ = (x.toNat, ⟨r, 0⟩) := fun c x h hc r => by
    rw [num_short]
    subst hc
    have := h.2
    have h1 := h.1
    simp only [if_true] at this h1
    rw [Nat.mod_eq_of_lt (by omega)]
  have by_ : ∀ (c : Bool) (x : Bs), ¬ 600 < (if c then x else []).length → c = true → ∀ r, Co.bytes ⟨wBytes x ++ r, 0⟩ = (x, ⟨r, 0⟩) := fun c x h hc r => by
    subst hc
    simp only [if_true] at h
    exact Co.bytes_app x r (by omega)
  rw [fld_app (x := p) (fun hc => by_ _ p (by omega) hc _)]
  dsimp only
  rw [fld_app (x := t) (fun hc => by_ _ t (by omega) hc _)]
  dsimp only
  rw [fld_app (x := f.toNat) (fun hc => sh_ _ f hs1 hc _)]
  dsimp only
  rw [fld_app (x := a.toNat) (fun hc => sh_ _ a hs2 hc _)]
  dsimp only
  rw [fld_app (x := n.toNat) (fun hc => sh_ _ n hs3 hc _)]
  dsimp only
  rw [fld_app (x := u) (fun _ => num_long u hu _)]
  dsimp only
  rw [fld_app (x := s.toNat) (fun hc => sh_ _ s hs4 hc _)]
  dsimp only
  rw [fld_app (x := d) (fun hc => by_ _ d (by omega) hc _)]
  dsimp only
  have cs : ∀ (c : Bool) (x : Int), sh (if c then x else 0) → (((if c then x.toNat else 0 : Nat)) : Int) = if c then x else 0 := fun c x h => by
    cases c
    · rfl
    · have := h.1
      simp only [if_true] at this ⊢
      omega
  rw [cs _ f hs1, cs _ a hs2, cs _ n hs3, cs _ s hs4]
theorem dec_enc (o : Opn) (h : err o = 0) (hu : o.till ≤ 18446744073709551615) : dec (form o) = (asked o, 0) := by
  have := reads_app o h hu []
  rw [List.append_nil] at this
  obtain ⟨h1, h2, h3⟩ := ok_of h
  unfold dec
  rw [this, if_neg (fun h => h h1), if_neg (by simpa [fin] using h2)]
theorem form_inj {o p : Opn} (ho : err o = 0) (hp : err p = 0) (uo : o.till ≤ 18446744073709551615) (up : p.till ≤ 18446744073709551615) : form o = form p ↔ asked o = asked p := by
  constructor
  · intro h
    have h1 := dec_enc o ho uo
    rw [h, dec_enc p hp up] at h1
    exact (congrArg Prod.fst h1).symm
  · intro h
    rw [← form_asked o, h, form_asked]
theorem form_pos (o : Opn) : 0 < (form o).length := by unfold form wByte; simp
end Op
end Go.Proofs.Ytmcbpgbiephllaa

namespace Go.Proofs.Ytmcbpgbiephllaa
open Go.RowKit

theorem results_blk_tmp {P : Program} {fn : Func} {p u : Tmp} {ty : TypeId} (h : fn.results = #[.cell p ty, .tmp u]) (tmps : Array Value) (w : World) (g : Nat) (t : TypeId) (cs : List Value) (d : TypeDesc)
    (hp : tmps.getD p undef = .pointer (some ⟨g, 0, none⟩)) (hb : Blk w g t cs)
    (hu : P.underlying ty = some d) (hd : (match d with | .struct _ | .array _ _ => true | _ => false) = true) (hi : (P.info? ty).map (·.size) = some cs.length) :
    (results fn tmps).run P w = .ok (.tuple #[.agg cs.toArray, tmps.getD u undef]) w := by
  rw [results_cell_tmp h, hp]
  have hl := run_loadVar_row (P := P) w g t ty cs.toArray (0, 0) d hb hu hd (by simpa using hi)
  simp [asAddr, hl, Result.andThen]
theorem below_set1 {w w' : World} {B g : Nat} (h : Below B w w') (hg : B ≤ g) (i : Nat) (u : Value) : Below B w (w'.setCell ⟨g, i, none⟩ u) :=
  ⟨h.os, h.tape, h.output, by simpa [World.setCell] using h.size, fun k hk => (Below.heap_setCell w' ⟨g, i, none⟩ u k (by show k ≠ g; omega)).trans (h.block k hk)⟩
end Go.Proofs.Ytmcbpgbiephllaa

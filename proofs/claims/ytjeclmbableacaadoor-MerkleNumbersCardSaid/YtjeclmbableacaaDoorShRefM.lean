/-
  OWN WORK. The document's own SHA-256 (permafrostref2), by its contract: what it says of memory.
-/
import Derived.Test.YtjeclmbableacaaDoorShTurn
import Derived.Test.YtjeclmbableacaaDoorShSpreadP
namespace Go.Proofs.YtjeclmbableacaaDoor
open Go.RowKit Sh

namespace Sh
def zerosN (n : Nat) : Nat := (119 - n % 64) % 64
def be8 (x : Int) : List UInt8 := (List.range 8).map fun j => byteOf (x / 2 ^ (56 - 8 * j))
def opened (l : List UInt8) (j : Nat) : List UInt8 := l ++ 128 :: List.replicate j 0
/-- The message as the document ends it. -/
def padded (l : List UInt8) : List UInt8 := opened l (zerosN l.length) ++ be8 ((l.length : Int) * 8)
theorem opened_length (l : List UInt8) (j : Nat) : (opened l j).length = l.length + 1 + j := by simp [opened]; omega
theorem opened_snoc (l : List UInt8) (j : Nat) : opened l (j + 1) = opened l j ++ [0] := by
  unfold opened
  rw [List.replicate_succ', List.append_assoc]
  rfl
theorem zerosN_lt (n : Nat) : zerosN n < 64 := by unfold zerosN; omega
theorem zerosN_mod (n : Nat) : (n + 1 + zerosN n) % 64 = 56 := by unfold zerosN; omega
theorem zerosN_least (n j : Nat) (h : j < zerosN n) : (n + 1 + j) % 64 ≠ 56 := by unfold zerosN at h; omega
theorem be8_length (x : Int) : (be8 x).length = 8 := by simp [be8]
theorem be8_take (x : Int) (j : Nat) (h : j < 8) : (be8 x).take (j + 1) = (be8 x).take j ++ [byteOf (x / 2 ^ (56 - 8 * j))] := by
  rw [List.take_succ_eq_append_getElem (by rw [be8_length]; exact h)]
  simp [be8]
theorem padded_length (l : List UInt8) : (padded l).length = l.length + 1 + zerosN l.length + 8 := by rw [padded, List.length_append, opened_length, be8_length]
theorem padded_mod (l : List UInt8) : (padded l).length % 64 = 0 := by rw [padded_length]; have := zerosN_mod l.length; omega
end Sh

theorem rd_four (w : World) (x : Int) (t : TypeId) : Rd (w.alloc (.cells #[.int .u8 (x / 16777216 % 256), .int .u8 (x / 65536 % 256), .int .u8 (x / 256 % 256), .int .u8 (x % 256)] t)).drew (some ⟨w.heap.size, 0, none⟩) (bytes4 x) := by
  intro _
  refine ⟨_, _, rfl, ?_, fun j y hy => ?_⟩
  · show _ < (w.alloc _).heap.size
    rw [World.size_alloc]; omega
  · show (w.alloc _).cell? _ = _
    rw [World.cell?_alloc_at _ _ _ _ rfl, Nat.zero_add]
    have hc : (Lib.byteCells (bytes4 x))[j]? = some (.int .u8 y.toNat) := by simp [Lib.byteCells, hy]
    rw [cells4] at hc
    simpa using hc
/-- Where the document's Sum stands: the message, the hash so far, the words of the rounds. -/
structure RAt (l : List UInt8) (B b6 b7 : Nat) (v : Value) (h : List Int) (w0 wr : World) : Prop where
  m : MAt B v (padded l) w0 wr
  h : Blk wr b6 59 (words32 h)
  k : Blk wr b7 60 (words32 roundK)
  le : B ≤ b6
  ne : b6 < b7
theorem MAt.row {B : Nat} {v : Value} {ms : List UInt8} {w0 wr w' : World} (h : MAt B v ms w0 wr) (g : Nat) (t : TypeId) (cs : List Value) (hg : Blk wr g t cs) (ht : t ≠ 5) (hk : Keeps wr w' g) (hB : B ≤ g) : MAt B v ms w0 w' := by
  refine ⟨⟨h.1.1, ?_⟩, h.2.1.grown hk (by have := h.2.1.size; have := h.2.2; omega) (fun k e => by cases e; exact hB), h.2.2⟩
  rcases h.1.2 with h2 | ⟨g', cap, cur, h3, h4, h5, h6⟩
  · exact .inl h2
  · refine .inr ⟨g', cap, cur, h3, h4, ?_, h6⟩
    have hne : g' ≠ g := by
      rintro rfl
      unfold Blk at hg
      rw [h5] at hg
      injection hg with hg
      injection hg with _ e
      exact ht e.symm
    have hlt : g' < wr.heap.size := by
      rcases Nat.lt_or_ge g' wr.heap.size with hlt | hge
      · exact hlt
      · rw [Array.getElem?_eq_none hge] at h5; cases h5
    rw [hk.block g' hlt (by simpa using hne)]
    exact h5
theorem RAt.drewN {l : List UInt8} {B b6 b7 : Nat} {v : Value} {h : List Int} {w0 wr : World} (x : RAt l B b6 b7 v h w0 wr) (n : Nat) : RAt l B b6 b7 v h w0 (wr.drewN n) :=
  ⟨⟨x.m.1, ⟨x.m.2.1.os, x.m.2.1.tape, x.m.2.1.output, x.m.2.1.size, x.m.2.1.block⟩, x.m.2.2⟩, x.h, x.k, x.le, x.ne⟩
theorem RAt.drew {l : List UInt8} {B b6 b7 : Nat} {v : Value} {h : List Int} {w0 wr : World} (x : RAt l B b6 b7 v h w0 wr) : RAt l B b6 b7 v h w0 wr.drew :=
  ⟨⟨x.m.1, x.m.2.1.drew, x.m.2.2⟩, x.h, x.k, x.le, x.ne⟩
/-- Another block of the call's own is written. -/
theorem RAt.row {l : List UInt8} {B b6 b7 : Nat} {v : Value} {h : List Int} {w0 wr w' : World} (x : RAt l B b6 b7 v h w0 wr) (g : Nat) (t : TypeId) (cs : List Value) (hg : Blk wr g t cs) (ht : t ≠ 5) (hk : Keeps wr w' g) (h7 : b7 < g) : RAt l B b6 b7 v h w0 w' :=
  ⟨x.m.row g t cs hg ht hk (by have := x.le; have := x.ne; omega), x.h.grown hk (by have := x.ne; simp; omega), x.k.grown hk (by simp; omega), x.le, x.ne⟩
theorem RAt.below {l : List UInt8} {B b6 b7 : Nat} {v : Value} {h : List Int} {w0 wr w' : World} (x : RAt l B b6 b7 v h w0 wr) (hb : Below wr.heap.size wr w') : RAt l B b6 b7 v h w0 w' :=
  ⟨x.m.below hb, x.h.below hb x.h.lt, x.k.below hb x.k.lt, x.le, x.ne⟩
/-- A byte of the message. -/
theorem MAt.byte {B g n c : Nat} {ms : List UInt8} {w0 wr : World} (h : MAt B (.slice (some ⟨g, 0, none⟩) n c) ms w0 wr) (i : Nat) (hi : i < ms.length) : wr.cell? ⟨g, i, none⟩ = some (.int .u8 (ms.getD i 0).toNat) := by
  rcases h.1.2 with ⟨h1, _⟩ | ⟨g', cap, cur, h3, h4, h5, h6, h7, h8, h9⟩
  · cases h1
  · obtain rfl : g = g' := by injection h3 with h3; injection h3 with h3; injection h3
    rw [cell_of_row wr g i cur _ _ h5]
    have h10 : (cur.toList.take (ms.length * 1))[i]? = some (.int .u8 (ms.getD i 0).toNat) := by
      rw [h9]
      simp [Lib.byteCells, List.getElem?_eq_getElem hi]
    rw [List.getElem?_take] at h10
    split at h10
    · simpa using h10
    · cases h10
theorem step_append_rd {P : Program} {ops : Array Oper} {o : Oper} {a : Act} {w : World} {K : Act → World → Prop} {Q : Exit → Act → World → Prop} {E : Prop} (hgd : o.guard = none) (s x : Operand) (t : TypeId)
    (ho : o.op = .call { callee := .builtin .append, args := #[s, x], argTypes := #[t, t] })
    (base : Nat) (e : TypeId) (i : TypeInfo) (ht : P.underlying t = some (.slice e)) (hi : P.info? e = some i) (hz : i.zero = some (.int .u8 0)) (hsize : i.size = 1) (hby : i.bytes = 1)
    (v : Value) (n : Nat) (xs : List Value) (hs : a.eval s = v) (hown : w.ownsRow base e 1 v n xs) (A : Option Addr) (l : List UInt8) (m c : Nat) (hm : l.length = m) (hx : a.eval x = .slice A m c) (hr : Rd w A l) (hn : n + l.length ≤ 1099511627776) (hbase : base ≤ w.heap.size)
    (h : ∀ v' w', Hid (w'.ownsRow base e 1 v' (n + l.length) (xs ++ Lib.byteCells l)) → Hid (w.grownBy w' v.ownBlock) → K (a.put o.dst v') w') :
    if Region.wanted o (yielded ops a.tmps) = true then Oper.wp P o a w K Q else E := by
  subst hm
  rw [if_pos (show Region.wanted o (yielded ops a.tmps) = true by simp [Region.wanted, hgd])]
  obtain ⟨v', w', hrun, h1, h2⟩ := run_append_rd w base t o.type e i ht hi hz hsize hby v n xs hown A l c hr hn hbase
  unfold Oper.wp
  simp [execOp, ho, resolve, invoke, builtin, hs, hx, hrun, Result.andThen]
  exact h v' w' h1 h2

/-- Inside a block: the words of the rounds, and the eight that are turned. -/
structure SAt (l : List UInt8) (B b6 b7 : Nat) (v : Value) (h : List Int) (w0 : World) (b9 b13 : Nat) (S : List Int) (R : List Int) (wr : World) : Prop where
  r : RAt l B b6 b7 v h w0 wr
  w : Blk wr b9 60 (words32 S)
  s : Blk wr b13 59 (words32 R)
  h9 : b7 < b9
  h13 : b9 < b13
theorem Reg.list_of (h : List Int) (hh : h.length = 8) : (Reg.of h).list = h := by
  match h, hh with
  | [a0, a1, a2, a3, a4, a5, a6, a7], _ => rfl

theorem SAt.drewN {l : List UInt8} {B b6 b7 : Nat} {v : Value} {h : List Int} {w0 : World} {b9 b13 : Nat} {S R : List Int} {wr : World} (x : SAt l B b6 b7 v h w0 b9 b13 S R wr) (n : Nat) : SAt l B b6 b7 v h w0 b9 b13 S R (wr.drewN n) :=
  ⟨x.r.drewN n, x.w, x.s, x.h9, x.h13⟩
theorem SAt.drew {l : List UInt8} {B b6 b7 : Nat} {v : Value} {h : List Int} {w0 : World} {b9 b13 : Nat} {S R : List Int} {wr : World} (x : SAt l B b6 b7 v h w0 b9 b13 S R wr) : SAt l B b6 b7 v h w0 b9 b13 S R wr.drew :=
  ⟨x.r.drew, x.w, x.s, x.h9, x.h13⟩
theorem SAt.cells {l : List UInt8} {B b6 b7 : Nat} {v : Value} {h : List Int} {w0 : World} {b9 b13 : Nat} {S : List Int} {wr : World} {x0 x1 x2 x3 x4 x5 x6 x7 : Int} (x : SAt l B b6 b7 v h w0 b9 b13 S [x0, x1, x2, x3, x4, x5, x6, x7] wr)
    (i : Nat) (hi : i < 64) (hS : S.length = 64) (xw xk : Int) (hw : xw = S.getD i 0) (hk : xk = roundK.getD i 0) :
    wr.cell? ⟨b9, i, none⟩ = some (.int .u32 xw) ∧ wr.cell? ⟨b7, i, none⟩ = some (.int .u32 xk) ∧ wr.cell? ⟨b13, 0, none⟩ = some (.int .u32 x0) ∧ wr.cell? ⟨b13, 1, none⟩ = some (.int .u32 x1) ∧ wr.cell? ⟨b13, 2, none⟩ = some (.int .u32 x2) ∧ wr.cell? ⟨b13, 3, none⟩ = some (.int .u32 x3) ∧
    wr.cell? ⟨b13, 4, none⟩ = some (.int .u32 x4) ∧ wr.cell? ⟨b13, 5, none⟩ = some (.int .u32 x5) ∧ wr.cell? ⟨b13, 6, none⟩ = some (.int .u32 x6) ∧ wr.cell? ⟨b13, 7, none⟩ = some (.int .u32 x7) := by
  subst hw hk
  refine ⟨?_, ?_, x.s.cell 0, x.s.cell 1, x.s.cell 2, x.s.cell 3, x.s.cell 4, x.s.cell 5, x.s.cell 6, x.s.cell 7⟩
  · rw [x.w.cell, words32_get _ _ (by omega)]
  · rw [x.r.k.cell, words32_get _ _ hi]
/-- One round more. -/
theorem SAt.put {l : List UInt8} {B b6 b7 : Nat} {v : Value} {h : List Int} {w0 : World} {b9 b13 : Nat} {S : List Int} {wr : World} {x0 x1 x2 x3 x4 x5 x6 x7 : Int} (x : SAt l B b6 b7 v h w0 b9 b13 S [x0, x1, x2, x3, x4, x5, x6, x7] wr)
    (a e xk xw : Int) (ha : a = (Reg.next ⟨x0, x1, x2, x3, x4, x5, x6, x7⟩ xk xw).a) (he : e = (Reg.next ⟨x0, x1, x2, x3, x4, x5, x6, x7⟩ xk xw).e) :
    SAt l B b6 b7 v h w0 b9 b13 S (Reg.next ⟨x0, x1, x2, x3, x4, x5, x6, x7⟩ xk xw).list (wr.setRow b13 #[.int .u32 a, .int .u32 x0, .int .u32 x1, .int .u32 x2, .int .u32 e, .int .u32 x4, .int .u32 x5, .int .u32 x6]) := by
  have e1 : (#[Value.int .u32 a, .int .u32 x0, .int .u32 x1, .int .u32 x2, .int .u32 e, .int .u32 x4, .int .u32 x5, .int .u32 x6] : Array Value) = (words32 (Reg.next ⟨x0, x1, x2, x3, x4, x5, x6, x7⟩ xk xw).list).toArray := by
    rw [ha, he]; rfl
  rw [e1]
  have hk : Keeps wr (wr.setRow b13 (words32 (Reg.next ⟨x0, x1, x2, x3, x4, x5, x6, x7⟩ xk xw).list).toArray) b13 := (Keeps.refl wr b13).setRow _
  exact ⟨x.r.row b13 _ _ x.s (by decide) hk (by have := x.h9; have := x.h13; omega), x.w.rowFar (by have := x.h13; omega) _, x.s.row _, x.h9, x.h13⟩
theorem RAt.set_ {l : List UInt8} {B b6 b7 : Nat} {v : Value} {h : List Int} {w0 wr : World} (x : RAt l B b6 b7 v h w0 wr) (i : Nat) (y : Int) : RAt l B b6 b7 v (h.set i y) w0 (wr.setCell ⟨b6, i, none⟩ (.int .u32 y)) := by
  refine ⟨x.m.row b6 _ _ x.h (by decide) ((Keeps.refl wr b6).setCell i _) x.le, ?_, x.k.far (by have := x.ne; simp; omega) _, x.le, x.ne⟩
  have := x.h.set_ i (.int .u32 y)
  rw [words_set] at this
  exact this
theorem RAt.hcell {l : List UInt8} {B b6 b7 : Nat} {v : Value} {h : List Int} {w0 wr : World} (x : RAt l B b6 b7 v h w0 wr) (i : Nat) (hi : i < h.length) : wr.cell? ⟨b6, i, none⟩ = some (.int .u32 (h.getD i 0)) := by
  rw [x.h.cell, words32_get _ _ hi]
/-- The words of a block so far. -/
def WdAt (b9 : Nat) (S : List Int) (wr : World) (i : Nat) : Prop := i ≤ 64 ∧ S.length = 64 ∧ Blk wr b9 60 (words32 (S.take i) ++ noughts (64 - i))
theorem WdAt.word {b9 : Nat} {S : List Int} {wr : World} {i : Nat} (h : WdAt b9 S wr i) (j : Nat) (hj : j < i) : wr.cell? ⟨b9, j, none⟩ = some (.int .u32 (S.getD j 0)) := by
  obtain ⟨h1, h2, h3⟩ := h
  have hl : j < (S.take i).length := by rw [List.length_take]; omega
  rw [h3.cell, List.getElem?_append_left (by simpa using hl), words32_get _ _ hl, getD_take _ _ _ hj]
theorem WdAt.room {b9 : Nat} {S : List Int} {wr : World} {i : Nat} (h : WdAt b9 S wr i) (hi : i < 64) : wr.cell? ⟨b9, i, none⟩ = some (.int .u32 0) := by
  obtain ⟨h1, h2, h3⟩ := h
  have hl : (words32 (S.take i)).length = i := by rw [words32_length, List.length_take]; omega
  rw [h3.cell, List.getElem?_append_right (by omega), hl, Nat.sub_self]
  unfold noughts
  rw [words32_get _ _ (by simp; omega)]
  obtain ⟨m, hm⟩ : ∃ m, 64 - i = m + 1 := ⟨63 - i, by omega⟩
  rw [hm]; rfl
theorem WdAt.step {b9 : Nat} {S : List Int} {wr : World} {i : Nat} (h : WdAt b9 S wr i) (hi : i < 64) (x : Int) (hx : x = S.getD i 0) : WdAt b9 S (wr.setCell ⟨b9, i, none⟩ (.int .u32 x)) (i + 1) := by
  obtain ⟨h1, h2, h3⟩ := h
  refine ⟨by omega, h2, ?_⟩
  have h4 := h3.set_ i (.int .u32 x)
  have hl : (words32 (S.take i)).length = i := by rw [words32_length, List.length_take]; omega
  have e3 : noughts (64 - i) = .int .u32 0 :: noughts (64 - (i + 1)) := by
    have : 64 - i = (64 - (i + 1)) + 1 := by omega
    rw [this]; rfl
  rw [e3] at h4
  have e4 : (words32 (S.take i) ++ Value.int IntKind.u32 0 :: noughts (64 - (i + 1))).set i (.int .u32 x) = words32 (S.take (i + 1)) ++ noughts (64 - (i + 1)) := by
    rw [List.set_append_right _ _ (by omega), hl, Nat.sub_self, List.set_cons_zero, take_snoc S i (by omega), words32_append, hx]
    simp [words32]
  rw [e4] at h4
  exact h4
theorem WdAt.drew {b9 : Nat} {S : List Int} {wr : World} {i : Nat} (h : WdAt b9 S wr i) : WdAt b9 S wr.drew i := h
theorem WdAt.drewN {b9 : Nat} {S : List Int} {wr : World} {i : Nat} (h : WdAt b9 S wr i) (n : Nat) : WdAt b9 S (wr.drewN n) i := h
theorem WdAt.full {b9 : Nat} {S : List Int} {wr : World} (h : WdAt b9 S wr 64) : Blk wr b9 60 (words32 S) := by
  obtain ⟨h1, h2, h3⟩ := h
  rw [List.take_of_length_le (by omega), show noughts (64 - 64) = [] from rfl, List.append_nil] at h3
  exact h3
theorem all8 (a0 a1 a2 a3 a4 a5 a6 a7 : Int) : (#[Value.int .u32 a0, .int .u32 a1, .int .u32 a2, .int .u32 a3, .int .u32 a4, .int .u32 a5, .int .u32 a6, .int .u32 a7] : Array Value).all (·.oneCell') = true := by
  show ([Value.int .u32 a0, .int .u32 a1, .int .u32 a2, .int .u32 a3, .int .u32 a4, .int .u32 a5, .int .u32 a6, .int .u32 a7] : List Value).toArray.all (·.oneCell') = true
  rw [List.all_toArray]
  rfl
theorem info8 : (Tryd.prog.info? 59).map (·.size) = some 8 := by kernel_rfl
theorem size8 (x0 x1 x2 x3 x4 x5 x6 x7 a0 a1 a2 a3 a4 a5 a6 a7 : Int) : (words32 [x0, x1, x2, x3, x4, x5, x6, x7]).toArray.size = (#[Value.int .u32 a0, .int .u32 a1, .int .u32 a2, .int .u32 a3, .int .u32 a4, .int .u32 a5, .int .u32 a6, .int .u32 a7] : Array Value).size := rfl
theorem own_ne {w : World} {base : Nat} {e : TypeId} {n : Nat} {v : Value} {xs : List Value} {g : Nat} {t : TypeId} {cs : List Value} (h : w.ownsRow base e 1 v n xs) (hg : Blk w g t cs) (hne : e ≠ t) : v.ownBlock ≠ some g := by
  rcases h.2 with ⟨rfl, _⟩ | ⟨g', cap, cur, rfl, _, hh, _⟩
  · simp [Value.ownBlock]
  · intro he
    have : g' = g := by simpa [Value.ownBlock] using he
    subst this
    unfold Blk at hg
    rw [hh] at hg
    injection hg with hg
    injection hg with _ ht
    exact hne ht
theorem grown_cell {w w' : World} {base : Nat} {e : TypeId} {n : Nat} {v : Value} {xs : List Value} {g : Nat} {t : TypeId} {cs : List Value} {o : Obj} (h : w.ownsRow base e 1 v n xs) (hg : Blk w g t cs) (hne : e ≠ t) (hgr : (w.alloc o).drew.grownBy w' v.ownBlock) (j : Nat) : w'.cell? ⟨g, j, none⟩ = w.cell? ⟨g, j, none⟩ := by
  have h1 : Blk w' g t cs := (hg.alloc o).drew.grown hgr (fun e1 => own_ne h hg hne e1.symm)
  rw [h1.cell, hg.cell]
theorem roundK_facts : Hid ((Tryd.prog.info? 60).map (·.size) = some (words32 roundK).toArray.size) ∧ Hid ((words32 roundK).toArray.all (·.oneCell') = true) ∧ Hid ((noughts 64).toArray.size = (words32 roundK).toArray.size) := by
  refine ⟨?_, ?_, ?_⟩
  · show _ = _; kernel_rfl
  · show _ = _
    rw [Array.all_eq_true]
    intro j hj
    exact words32_one roundK _ (by simp)
  · show _ = _; rfl
theorem eight_facts (h : List Int) (hh : h.length = 8) : Hid ((Tryd.prog.info? 59).map (·.size) = some (words32 h).toArray.size) ∧ Hid ((words32 h).toArray.all (·.oneCell') = true) ∧ Hid ((noughts 8).toArray.size = (words32 h).toArray.size) := by
  have hsz : (words32 h).toArray.size = 8 := by simp [hh]
  refine ⟨?_, ?_, ?_⟩
  · show _ = _
    rw [hsz]; kernel_rfl
  · show _ = _
    rw [Array.all_eq_true]
    intro j hj
    exact words32_one h _ (by simp)
  · show _ = _
    rw [hsz]; rfl

end Go.Proofs.YtjeclmbableacaaDoor

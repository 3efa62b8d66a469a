/-
  OWN WORK. BaRg, BaSet, CoPure, CpNum, CpBase, CpBack, BaIn64, NoPure, PaPure, BaStr, BaText, BaStrs, TrPure, TrLaw
-/
import Derived.Test.YtombmeppdhhjhaaR01
import Derived.WalkSpells

/-
  OWN WORK. Regions by facts: the steps of rows of bytes.
-/
namespace Go.Proofs.Ytombmeppdhhjhaa
open Go.RowKit

def bRow (l : List UInt8) : Rg.Fact := Rg.row 5 l.length (Lib.byteCells l)

theorem bRow_form {w : World} {v : Value} {l : List UInt8} (h : (bRow l).holds v w) : ∃ A c, v = .slice A l.length c ∧ l.length ≤ c ∧ Rd w A l := by
  have h0 : w.ownsRow 0 5 1 v l.length (Lib.byteCells l) := h
  rcases Nat.eq_zero_or_pos l.length with h1 | h1
  · rcases h0.2 with ⟨rfl, _⟩ | ⟨g, cap, cur, rfl, _, _, hn, _⟩
    · exact ⟨none, 0, by rw [h1], by omega, fun hp => absurd hp (by omega)⟩
    · exact ⟨_, cap, rfl, hn, fun hp => absurd hp (by omega)⟩
  · obtain ⟨g, c, e, hc, _, _, _, hr⟩ := rd_own h0 h1
    exact ⟨_, c, e, hc, hr⟩

section
variable {F : Nat → Rg.Fact} {cons : List (Nat × Nat)} {al : List (Nat × Nat × (Value → Value))} {W0 : World} {V : Nat → Value} {j : Nat} {o : Oper} {b : Act} {w : World}
theorem step_one (x : UInt8) {X : Int} (hX : X = x.toNat) (hop : o.op = .buildSlice 29 1 #[(0, .const (.int .u8 X))]) (hF : F j = bRow [x]) (ha : (al.all fun x => x.1 != j) = true) (hc : Rg.consOf cons j = none) (hg : Rg.Open o V) : Rg.Does1 Try.prog o V b w (Rg.Good F (Rg.consOf cons) (Rg.alias al) W0 V j w) := by
  subst hX
  refine Rg.step_new (.slice (some ⟨w.heap.size, 0, none⟩) 1 1) (w.alloc (.cells #[.int .u8 x.toNat] 5)) (Rg.alias_none ha V _) hc hg ?_ ((Below.refl _ _).alloc (Nat.le_refl _) _) ?_ ?_
  · obtain ⟨dst, op, ty, pos, after, guard⟩ := o
    simp only at hop
    subst hop
    go_simp
  · rw [hF]
    exact own_base (own_one w x)
  · intro k hk
    rw [hF] at hk
    exact own_lt (own_one w x) hk

theorem step_none (hop : o.op = .buildSlice 29 0 #[]) (hF : F j = bRow []) (ha : (al.all fun x => x.1 != j) = true) (hc : Rg.consOf cons j = none) (hg : Rg.Open o V) : Rg.Does1 Try.prog o V b w (Rg.Good F (Rg.consOf cons) (Rg.alias al) W0 V j w) := by
  refine Rg.step_new (.slice (some ⟨w.heap.size, 0, none⟩) 0 0) (w.alloc (.cells #[] 5)) (Rg.alias_none ha V _) hc hg ?_ ((Below.refl _ _).alloc (Nat.le_refl _) _) ?_ ?_
  · obtain ⟨dst, op, ty, pos, after, guard⟩ := o
    simp only at hop
    subst hop
    go_simp
  · rw [hF]
    exact own_base (own_none w)
  · intro k hk
    rw [hF] at hk
    exact own_lt (own_none w) hk

theorem step_app {i : Nat} (l r L : List UInt8) (hL : L = l ++ r) {s x : Operand} {A : Option Addr} {m c : Nat} (hop : o.op = .call { callee := .builtin .append, args := #[s, x], argTypes := #[29, 29] }) (hs : b.eval s = V i) (hx : b.eval x = .slice A m c)
    (hm : r.length = m) (hV : (bRow l).holds (V i) w) (hr : Rd w A r) (hn : l.length + r.length ≤ 1099511627776) (hF : F j = bRow L) (hFi : F i = bRow l) (ha : (al.all fun x => x.1 != j) = true) (hc : Rg.consOf cons j = some i) (hg : Rg.Open o V) : Rg.Does1 Try.prog o V b w (Rg.Good F (Rg.consOf cons) (Rg.alias al) W0 V j w) := by
  obtain ⟨i0, hi, hz0, hz1, hz2⟩ := info_parts Try.infoU8
  refine .of hg fun K hK => ?_
  refine wp_append_at s x 29 hop 0 5 i0 Try.underlying29 hi hz0 hz1 hz2 (V i) l.length (Lib.byteCells l) hs hV A r m c hm hx hr hn (Nat.zero_le _) ?_
  intro v' w' h1 h2 h3
  have hsrc : Rg.src F (Rg.consOf cons) V j = (V i).ownBlock := by
    unfold Rg.src
    rw [hc]
    show (F i).own (V i) = _
    rw [hFi]
    rfl
  have h4 : w'.ownsRow 0 5 1 v' L.length (Lib.byteCells L) := by
    subst hL
    rw [Lib.byteCells_append, List.length_append]
    exact h1.out
  refine hK v' w' ⟨by rw [hsrc]; exact h2.out, by rw [hF]; exact h4, fun k hk => ?_, Rg.alias_none ha V _⟩
  rw [hF] at hk
  have hk2 : v'.ownBlock = some k := hk
  refine ⟨?_, (own_lt h4 hk2).2⟩
  rcases h3.out with h5 | h5
  · left; rw [hsrc, ← h5]; exact hk2
  · right; rw [h5] at hk2; injection hk2 with hk2; omega

theorem step_row {f : FuncId} {xs : Array Operand} {ts : Array TypeId} (args : Array Value) (l : List UInt8) {n : Nat} (hent : ∀ args w, (callFunc f args).run Try.prog w = .ok (.enter f args) w) (hop : o.op = .call { callee := .value (.func f), args := xs, argTypes := ts }) (hargs : xs.map b.eval = args) (hn : l.length = n) (hF : F j = bRow l) (ha : (al.all fun x => x.1 != j) = true) (hc : Rg.consOf cons j = none) (hg : Rg.Open o V)
    (h : Calls Try.prog f args w fun e w' => ∃ v, e = .returned v ∧ w'.ownsRow w.heap.size 5 1 v n (Lib.byteCells l) ∧ Below w.heap.size w w') : Rg.Does1 Try.prog o V b w (Rg.Good F (Rg.consOf cons) (Rg.alias al) W0 V j w) := by
  subst hn
  refine Rg.step_call args hent hop hargs (fun v => Rg.alias_none ha V v) hc hg (h.mono ?_)
  rintro e w' ⟨v, rfl, h1, h2⟩
  exact ⟨v, rfl, h2, by rw [hF]; exact own_base h1, fun k hk => by rw [hF] at hk; exact own_lt h1 hk⟩

theorem step_num {f : FuncId} {xs : Array Operand} {ts : Array TypeId} (args : Array Value) (x : Value) (hent : ∀ args w, (callFunc f args).run Try.prog w = .ok (.enter f args) w) (hop : o.op = .call { callee := .value (.func f), args := xs, argTypes := ts }) (hargs : xs.map b.eval = args) (hF : F j = Rg.val x) (ha : (al.all fun x => x.1 != j) = true) (hc : Rg.consOf cons j = none) (hg : Rg.Open o V)
    (h : Calls Try.prog f args w fun e w' => e = .returned x ∧ Below w.heap.size w w') : Rg.Does1 Try.prog o V b w (Rg.Good F (Rg.consOf cons) (Rg.alias al) W0 V j w) := by
  refine Rg.step_call args hent hop hargs (fun v => Rg.alias_none ha V v) hc hg (h.mono ?_)
  rintro e w' ⟨rfl, h2⟩
  exact ⟨x, rfl, h2, by rw [hF]; rfl, fun k hk => by rw [hF] at hk; cases hk⟩

/-- A cut. -/
theorem step_slh {t : TypeId} {x y : Operand} {X Y v : Value} (hop : o.op = .slice t x none (some y) none) (hx : b.eval x = X) (hy : b.eval y = Y) (h : (Instr.sliceAt t X none (some Y) none).run Try.prog w = .ok v w) (hF : F j = Rg.val v) (ha : (al.all fun x => x.1 != j) = true) (hc : Rg.consOf cons j = none) (hg : Rg.Open o V) :
    Rg.Does1 Try.prog o V b w (Rg.Good F (Rg.consOf cons) (Rg.alias al) W0 V j w) := by
  refine Rg.step_val v (Rg.alias_none ha V _) hc hg ?_ (by rw [hF]; rfl) (by rw [hF]; rfl)
  obtain ⟨dst, op, ty, pos, after, guard⟩ := o
  simp only at hop
  subst hop
  simp only [execOp, Option.map_some, Option.map_none, hx, hy]
  simp [h, Result.andThen]

theorem step_sll {t : TypeId} {x y : Operand} {X Y v : Value} (hop : o.op = .slice t x (some y) none none) (hx : b.eval x = X) (hy : b.eval y = Y) (h : (Instr.sliceAt t X (some Y) none none).run Try.prog w = .ok v w) (hF : F j = Rg.val v) (ha : (al.all fun x => x.1 != j) = true) (hc : Rg.consOf cons j = none) (hg : Rg.Open o V) :
    Rg.Does1 Try.prog o V b w (Rg.Good F (Rg.consOf cons) (Rg.alias al) W0 V j w) := by
  refine Rg.step_val v (Rg.alias_none ha V _) hc hg ?_ (by rw [hF]; rfl) (by rw [hF]; rfl)
  obtain ⟨dst, op, ty, pos, after, guard⟩ := o
  simp only at hop
  subst hop
  simp only [execOp, Option.map_some, Option.map_none, hx, hy]
  simp [h, Result.andThen]

theorem step_sllh {t : TypeId} {x y z : Operand} {X Y Z v : Value} (hop : o.op = .slice t x (some y) (some z) none) (hx : b.eval x = X) (hy : b.eval y = Y) (hz : b.eval z = Z) (h : (Instr.sliceAt t X (some Y) (some Z) none).run Try.prog w = .ok v w) (hF : F j = Rg.val v) (ha : (al.all fun x => x.1 != j) = true) (hc : Rg.consOf cons j = none) (hg : Rg.Open o V) :
    Rg.Does1 Try.prog o V b w (Rg.Good F (Rg.consOf cons) (Rg.alias al) W0 V j w) := by
  refine Rg.step_val v (Rg.alias_none ha V _) hc hg ?_ (by rw [hF]; rfl) (by rw [hF]; rfl)
  obtain ⟨dst, op, ty, pos, after, guard⟩ := o
  simp only at hop
  subst hop
  simp only [execOp, Option.map_some, Option.map_none, hx, hy, hz]
  simp [h, Result.andThen]

/-- A value that hangs on no memory. -/
theorem step_mv (x : Value) (h : (execOp b.eval o).run Try.prog w = .ok (.value x) w) (hF : F j = Rg.val x) (ha : (al.all fun x => x.1 != j) = true) (hc : Rg.consOf cons j = none) (hg : Rg.Open o V) : Rg.Does1 Try.prog o V b w (Rg.Good F (Rg.consOf cons) (Rg.alias al) W0 V j w) :=
  Rg.step_val x (Rg.alias_none ha V _) hc hg h (by rw [hF]; rfl) (by rw [hF]; rfl)
/-- A value told out of another. -/
theorem step_as (i : Nat) (f : Value → Value) (hal : al.filter (fun x => x.1 == j) = [(j, i, f)]) (h : (execOp b.eval o).run Try.prog w = .ok (.value (f (V i))) w) (hF : F j = Rg.any) (hc : Rg.consOf cons j = none) (hg : Rg.Open o V) : Rg.Does1 Try.prog o V b w (Rg.Good F (Rg.consOf cons) (Rg.alias al) W0 V j w) :=
  Rg.step_val _ (Rg.alias_one hal V) hc hg h (by rw [hF]; trivial) (by rw [hF]; rfl)
theorem made_bytes (n : Nat) : (madeCells (Value.int .u8 0).cells (n * 1)).toList = Lib.byteCells (List.replicate n 0) := by
  apply List.ext_getElem
  · simp [madeCells, Lib.byteCells]
  · intro i h1 h2
    simp [madeCells, Lib.byteCells, Value.cells]
    rw [Nat.mod_one]; rfl
/-- A row of noughts. -/
theorem step_make (n : Nat) {x y : Operand} (hop : o.op = .makeSlice 29 x y) (hx : b.eval x = .int .i64 (n : Int)) (hy : b.eval y = .int .i64 (n : Int)) (hn : n ≤ 1099511627776) (hF : F j = bRow (List.replicate n 0)) (ha : (al.all fun x => x.1 != j) = true) (hc : Rg.consOf cons j = none) (hg : Rg.Open o V) :
    Rg.Does1 Try.prog o V b w (Rg.Good F (Rg.consOf cons) (Rg.alias al) W0 V j w) := by
  obtain ⟨i0, hi, hz0, hz1, hz2⟩ := info_parts Try.infoU8
  obtain ⟨w', hrun, r1, r2⟩ := run_make_full (P := Try.prog) w w.heap.size 29 5 i0 (.int .u8 0) 1 Try.underlying29 hi hz0 hz1 .i64 .i64 n (by rw [hz2]; omega) (by unfold maxLen; omega) (Nat.le_refl _)
  rw [made_bytes] at r1
  refine Rg.step_new (.slice (some ⟨w.heap.size, 0, none⟩) n n) w' (Rg.alias_none ha V _) hc hg ?_ ((Below.refl _ _).grown r2 (Nat.le_refl _) (fun k hk => by cases hk)) ?_ ?_
  · obtain ⟨dst, op, ty, pos, after, guard⟩ := o
    simp only at hop
    subst hop
    simp [execOp, hx, hy, hrun, Result.andThen]
  · rw [hF]
    show w'.ownsRow 0 _ 1 _ (List.replicate n (0 : UInt8)).length _
    rw [List.length_replicate]
    exact own_base r1
  · intro k hk
    rw [hF] at hk
    exact own_lt r1 hk
end
end Go.Proofs.Ytombmeppdhhjhaa

/-
  OWN WORK. Rows of a call's own that are written place by place.
-/
namespace Go.Proofs.Ytombmeppdhhjhaa
open Go.RowKit

/-- A row of the call's own, written at one place. -/
theorem own_set {w : World} {base g c n : Nat} {l : List UInt8} (h : w.ownsRow base 5 1 (.slice (some ⟨g, 0, none⟩) n c) n (Lib.byteCells l)) (k : Nat) (_hk : k < n) (x : UInt8) (X : Int) (hX : X = x.toNat) :
    (w.setCell ⟨g, k, none⟩ (.int .u8 X)).ownsRow base 5 1 (.slice (some ⟨g, 0, none⟩) n c) n (Lib.byteCells (l.set k x)) := by
  subst hX
  refine ⟨by have := h.1; simpa [Lib.byteCells] using this, ?_⟩
  rcases h.2 with ⟨h1, _⟩ | ⟨g', cap, cur, h1, h2, h3, h4, h5, h6, h7⟩
  · cases h1
  · injection h1 with h1 h1b h1c
    injection h1 with h1
    injection h1 with h1
    subst h1
    refine .inr ⟨g, cap, cur.setIfInBounds k (.int .u8 x.toNat), by rw [h1c], h2, ?_, h4, h5, by simpa using h6, ?_⟩
    · simp [World.setCell, Array.getElem?_modify, h3]
    · rw [Array.toList_setIfInBounds, List.take_set, h7]
      simp [Lib.byteCells, List.map_set]
/-- .. and one that lies elsewhere. -/
theorem own_far {w : World} {base n : Nat} {v : Value} {xs : List Value} (h : w.ownsRow base 5 1 v n xs) (p : Addr) (hne : v.ownBlock ≠ some p.block) (u : Value) : (w.setCell p u).ownsRow base 5 1 v n xs := by
  refine ⟨h.1, ?_⟩
  rcases h.2 with h2 | ⟨g, cap, cur, h3, h4, h5, h6⟩
  · exact .inl h2
  · subst h3
    refine .inr ⟨g, cap, cur, rfl, h4, ?_, h6⟩
    rw [Below.heap_setCell w p u g (fun e => hne (by rw [← e]; rfl))]
    exact h5
theorem own_frozen {w : World} {base g c n : Nat} {xs : List Value} (h : w.ownsRow base 5 1 (.slice (some ⟨g, 0, none⟩) n c) n xs) (k : Nat) : w.frozen? ⟨g, k, none⟩ = false := by
  rcases h.2 with ⟨h1, _⟩ | ⟨g', cap, cur, h1, h2, h3, _⟩
  · cases h1
  · injection h1 with h1
    injection h1 with h1
    injection h1 with h1
    subst h1
    simp [World.frozen?, h3]
theorem own_addr {w : World} {base n c : Nat} {X : Option Addr} {xs : List Value} (h : w.ownsRow base 5 1 (.slice X n c) n xs) (hn : 0 < n) : ∃ g, X = some ⟨g, 0, none⟩ := by
  rcases h.2 with ⟨_, h0⟩ | ⟨g, cap, cur, h1, _⟩
  · omega
  · injection h1 with h1
    exact ⟨g, h1⟩
/-- A byte of it. -/
theorem own_byte {w : World} {base g c n : Nat} {l : List UInt8} (h : w.ownsRow base 5 1 (.slice (some ⟨g, 0, none⟩) n c) n (Lib.byteCells l)) (k : Nat) (hk : k < n) : w.cell? ⟨g, k, none⟩ = some (.int .u8 (l.getD k 0).toNat) := by
  obtain ⟨g', c', e, _, _, _, hlen, hr⟩ := rd_own h (by omega)
  injection e with e
  injection e with e
  injection e with e
  subst e
  obtain ⟨b, off, e, _, hc⟩ := hr.at_ (by omega)
  injection e with e
  injection e with e1 e2
  subst e1 e2
  have := hc k (by omega)
  rwa [Nat.zero_add] at this
theorem Rd.byte {w : World} {b off : Nat} {l : List UInt8} (h : Rd w (some ⟨b, off, none⟩) l) (j : Nat) (hj : j < l.length) : w.cell? ⟨b, off + j, none⟩ = some (.int .u8 (l.getD j 0).toNat) := by
  obtain ⟨b', off', e, _, hc⟩ := h.at_ (by omega)
  injection e with e
  injection e with e1 e2
  subst e1 e2
  exact hc j hj
/-- A row of noughts that is filled from its beginning. -/
theorem fill_set (L : List UInt8) (k : Nat) (h : k < L.length) : (L.take k ++ List.replicate (L.length - k) 0).set k (L.getD k 0) = L.take (k + 1) ++ List.replicate (L.length - (k + 1)) 0 := by
  have hl : (L.take k).length = k := by rw [List.length_take]; omega
  rw [List.set_append_right _ _ (by omega), hl, Nat.sub_self]
  have e1 : List.replicate (L.length - k) (0 : UInt8) = 0 :: List.replicate (L.length - (k + 1)) 0 := by
    rw [show L.length - k = (L.length - (k + 1)) + 1 by omega]; rfl
  rw [e1, List.set_cons_zero, List.take_succ_eq_append_getElem h, List.append_assoc]
  simp [List.getD, List.getElem?_eq_getElem h]
theorem Later.setCell {w0 w : World} (h : Later w0 w) (p : Addr) (hp : w0.heap.size ≤ p.block) (u : Value) : Later w0 (w.setCell p u) := Below.setCell h hp u
end Go.Proofs.Ytombmeppdhhjhaa

/-
  OWN WORK. Numbers and texts as bytes: plain mathematics.
-/
namespace Go.Proofs.Ytombmeppdhhjhaa
open Go.RowKit
namespace Co
def wByte (n : Nat) : List UInt8 := [UInt8.ofNat n]
def wShort (n : Nat) : List UInt8 := [UInt8.ofNat (n / 256), UInt8.ofNat n]
def wLong (n : Nat) : List UInt8 := (List.range 8).map fun j => UInt8.ofNat (n / 2 ^ (56 - 8 * j))
def wFlag (f : Bool) : List UInt8 := [if f then 1 else 0]
def wBytes (x : List UInt8) : List UInt8 := wShort (x.take 65535).length ++ x.take 65535
theorem wLong_length (n : Nat) : (wLong n).length = 8 := by simp [wLong]
theorem wLong_take (n j : Nat) (h : j < 8) : (wLong n).take (j + 1) = (wLong n).take j ++ [UInt8.ofNat (n / 2 ^ (56 - 8 * j))] := by
  rw [List.take_succ_eq_append_getElem (by rw [wLong_length]; exact h)]
  simp [wLong]
/-- What a reader has left, and its refusal (0: none). -/
structure Rs where
  rem : List UInt8
  why : Nat
/-- n bytes, or none. -/
def raw (n : Int) (s : Rs) : List UInt8 × Rs :=
  if s.why ≠ 0 ∨ n < 1 then ([], s) else if (s.rem.length : Int) < n then ([], { s with why := 10 }) else (s.rem.take n.toNat, { s with rem := s.rem.drop n.toNat })
def beVal (l : List UInt8) : Nat := l.foldl (fun x b => (x * 256 + b.toNat) % 18446744073709551616) 0
def num (n : Int) (s : Rs) : Nat × Rs := (beVal (raw n s).1, (raw n s).2)
def flag (s : Rs) : Bool × Rs := (decide ((num 1 s).1 = 1), if 1 < (num 1 s).1 then { (num 1 s).2 with why := 12 } else (num 1 s).2)
def bytes (s : Rs) : List UInt8 × Rs := raw ((num 2 s).1 : Nat) (num 2 s).2
def left (s : Rs) : Nat := if s.why ≠ 0 then 0 else s.rem.length
def fin (s : Rs) : Nat := if s.why ≠ 0 then s.why else if 0 < s.rem.length then 11 else 0
end Co
/-- The row that is made empty. -/
theorem MAt.empty (w : World) : MAt w.heap.size (.slice (some ⟨w.heap.size, 0, none⟩) 0 0) [] w (w.alloc (.cells #[] 5)) :=
  ⟨⟨rfl, .inr ⟨w.heap.size, 0, #[], rfl, Nat.le_refl _, heap_alloc_new w _, Nat.le_refl _, by unfold maxLen; omega, rfl, rfl⟩⟩, below_new w _, rfl⟩
theorem rd_cells (w : World) (l : List UInt8) (cs : Array Value) (t : TypeId) (fz : Nat × Nat) (h : cs = (Lib.byteCells l).toArray) : Rd (w.alloc (.cells cs t fz)) (some ⟨w.heap.size, 0, none⟩) l := by
  subst h; exact rd_alloc w l t fz
theorem u8_cast (n : Nat) : (((UInt8.ofNat n).toNat : Nat) : Int) = (n : Int) % 256 := by rw [UInt8.toNat_ofNat']; omega
end Go.Proofs.Ytombmeppdhhjhaa

/-
  OWN WORK. What is read of what was written: plain mathematics.
-/
namespace Go.Proofs.Ytombmeppdhhjhaa
open Go.RowKit
namespace Co
theorem raw_app (x r : List UInt8) (n : Int) (h : n = x.length) (h1 : 1 ≤ n) : raw n ⟨x ++ r, 0⟩ = (x, ⟨r, 0⟩) := by
  subst h
  unfold raw
  rw [if_neg (by simp only [ne_eq, not_true_eq_false, false_or]; omega), if_neg (by simp only [List.length_append]; omega)]
  simp
theorem num_app (x r : List UInt8) (n : Int) (h : n = x.length) (h1 : 1 ≤ n) : num n ⟨x ++ r, 0⟩ = (beVal x, ⟨r, 0⟩) := by
  unfold num; rw [raw_app x r n h h1]
theorem num_byte (n : Nat) (r : List UInt8) : num 1 ⟨wByte n ++ r, 0⟩ = (n % 256, ⟨r, 0⟩) := by
  rw [num_app _ _ _ (by rfl) (by decide)]
  simp only [beVal, wByte, List.foldl_cons, List.foldl_nil, UInt8.toNat_ofNat']
  congr 1; omega
theorem num_short (n : Nat) (r : List UInt8) : num 2 ⟨wShort n ++ r, 0⟩ = (n % 65536, ⟨r, 0⟩) := by
  rw [num_app _ _ _ (by rfl) (by decide)]
  simp only [beVal, wShort, List.foldl_cons, List.foldl_nil, UInt8.toNat_ofNat']
  congr 1; omega
theorem wLong_is (n : Nat) : wLong n = [UInt8.ofNat (n / 72057594037927936), UInt8.ofNat (n / 281474976710656), UInt8.ofNat (n / 1099511627776), UInt8.ofNat (n / 4294967296), UInt8.ofNat (n / 16777216), UInt8.ofNat (n / 65536), UInt8.ofNat (n / 256), UInt8.ofNat n] := by
  have e : List.range 8 = [0, 1, 2, 3, 4, 5, 6, 7] := by decide
  unfold wLong
  rw [e]
  simp
theorem dig (n d : Nat) (hn : n ≤ 18446744073709551615) : (n / (d * 256) * 256 + n / d % 2 ^ 8) % 18446744073709551616 = n / d := by
  rw [← Nat.div_div_eq_div_mul]
  have h := Nat.div_le_self n d
  generalize n / d = q at h
  omega
theorem num_long (n : Nat) (hn : n ≤ 18446744073709551615) (r : List UInt8) : num 8 ⟨wLong n ++ r, 0⟩ = (n, ⟨r, 0⟩) := by
  rw [num_app _ _ _ (by rw [wLong_length]; rfl) (by decide)]
  simp only [beVal, wLong_is, List.foldl_cons, List.foldl_nil, UInt8.toNat_ofNat']
  have s0 : (0 * 256 + n / 72057594037927936 % 2 ^ 8) % 18446744073709551616 = n / 72057594037927936 := by
    have := Nat.div_lt_of_lt_mul (m := n) (n := 72057594037927936) (k := 256) (by omega)
    generalize n / 72057594037927936 = q at this
    omega
  have s1 := dig n 281474976710656 hn
  have s2 := dig n 1099511627776 hn
  have s3 := dig n 4294967296 hn
  have s4 := dig n 16777216 hn
  have s5 := dig n 65536 hn
  have s6 := dig n 256 hn
  have s7 := dig n 1 hn
  simp only [Nat.reduceMul, Nat.div_one] at s1 s2 s3 s4 s5 s6 s7
  rw [s0, s1, s2, s3, s4, s5, s6, s7]
theorem num_one (b : UInt8) (r : List UInt8) : num 1 ⟨b :: r, 0⟩ = (b.toNat, ⟨r, 0⟩) := by
  rw [show b :: r = [b] ++ r from rfl, num_app _ _ _ (by rfl) (by decide)]
  simp only [beVal, List.foldl_cons, List.foldl_nil]
  have := b.toNat_lt
  congr 1; omega
theorem flag_one (b : UInt8) (r : List UInt8) : flag ⟨b :: r, 0⟩ = (decide (b.toNat = 1), if 1 < b.toNat then ⟨r, 12⟩ else ⟨r, 0⟩) := by
  unfold flag; rw [num_one]
theorem flag_app (f : Bool) (r : List UInt8) : flag ⟨wFlag f ++ r, 0⟩ = (f, ⟨r, 0⟩) := by
  cases f
  · exact flag_one 0 r
  · exact flag_one 1 r
theorem bytes_app (x r : List UInt8) (hx : x.length ≤ 65535) : bytes ⟨wBytes x ++ r, 0⟩ = (x, ⟨r, 0⟩) := by
  have ht : x.take 65535 = x := List.take_of_length_le hx
  unfold bytes wBytes
  rw [ht, List.append_assoc, num_short]
  show raw ((x.length % 65536 : Nat) : Int) ⟨x ++ r, 0⟩ = _
  rw [Nat.mod_eq_of_lt (by omega)]
  by_cases h : x = []
  · subst h; rfl
  · have : 0 < x.length := List.length_pos_iff.2 h
    exact raw_app x r _ rfl (by omega)
theorem raw_short (n : Int) (l : List UInt8) (h1 : 1 ≤ n) (h : (l.length : Int) < n) : raw n ⟨l, 0⟩ = ([], ⟨l, 10⟩) := by
  unfold raw
  rw [if_neg (by simp only [ne_eq, not_true_eq_false, false_or]; omega), if_pos h]
theorem num_lack (n : Int) (l : List UInt8) (h1 : 1 ≤ n) (h : (l.length : Int) < n) : num n ⟨l, 0⟩ = (0, ⟨l, 10⟩) := by
  unfold num; rw [raw_short n l h1 h]; rfl
theorem raw_ref (n : Int) (s : Rs) (h : s.why ≠ 0) : raw n s = ([], s) := by
  unfold raw; rw [if_pos (.inl h)]
theorem num_ref (n : Int) (s : Rs) (h : s.why ≠ 0) : num n s = (0, s) := by
  unfold num; rw [raw_ref n s h]; rfl
theorem flag_ref (s : Rs) (h : s.why ≠ 0) : flag s = (false, s) := by
  unfold flag; rw [num_ref 1 s h]; rfl
theorem bytes_ref (s : Rs) (h : s.why ≠ 0) : bytes s = ([], s) := by
  unfold bytes; rw [num_ref 2 s h]; exact raw_ref _ _ h
theorem left_ref (s : Rs) (h : s.why ≠ 0) : left s = 0 := by unfold left; rw [if_pos h]
theorem fin_ref (s : Rs) (h : s.why ≠ 0) : fin s = s.why := by unfold fin; rw [if_pos h]
end Co
end Go.Proofs.Ytombmeppdhhjhaa

/-
  OWN WORK. Small laws that the texts of codec lean on.
-/
namespace Go.Proofs.Ytombmeppdhhjhaa
open Go.RowKit
namespace Co
theorem bits_or64 (x b : Nat) (hb : b < 256) : bits .or .u64 (IntKind.u64.wrap ((x : Int) * (256 : Int))) (b : Int) = (((x * 256 + b) % 18446744073709551616 : Nat) : Int) := by
  show IntKind.u64.wrap ((BitVec.ofInt 64 _ ||| BitVec.ofInt 64 _).toNat : Int) = _
  obtain ⟨y, hy⟩ : ∃ y : Nat, y = (x % 72057594037927936) <<< 8 := ⟨_, rfl⟩
  have hy2 : y = (x % 72057594037927936) * 256 := by rw [hy, Nat.shiftLeft_eq]
  have hx : IntKind.u64.wrap ((x : Int) * (256 : Int)) = (y : Int) := by rw [IntKind.wrap_u64]; omega
  have hor : y ||| b = y + b := by rw [hy]; exact (Nat.shiftLeft_add_eq_or_of_lt (by omega : b < 2 ^ 8) _).symm
  rw [hx, BitVec.ofInt_natCast, BitVec.ofInt_natCast, BitVec.toNat_or, BitVec.toNat_ofNat, BitVec.toNat_ofNat, Nat.mod_eq_of_lt (by omega), Nat.mod_eq_of_lt (by omega), hor]
  rw [IntKind.wrap_u64]
  omega
theorem beVal_snoc (l : List UInt8) (k : Nat) (h : k < l.length) : beVal (l.take (k + 1)) = (beVal (l.take k) * 256 + (l.getD k 0).toNat) % 18446744073709551616 := by
  rw [List.take_succ_eq_append_getElem h, beVal, beVal, List.foldl_append]
  simp only [List.foldl_cons, List.foldl_nil, List.getD, List.getElem?_eq_getElem h, Option.getD_some]
theorem beVal_lt (l : List UInt8) : beVal l < 18446744073709551616 := by
  rcases Nat.eq_zero_or_pos l.length with h | h
  · rw [List.eq_nil_of_length_eq_zero h]; decide
  · obtain ⟨k, hk⟩ : ∃ k, l.length = k + 1 := ⟨l.length - 1, by omega⟩
    rw [← List.take_length (l := l), hk, beVal_snoc l k (by omega)]
    omega
end Co
theorem below_drewN (w : World) (n : Nat) : Below w.heap.size w (w.drewN n) := ⟨rfl, rfl, rfl, Nat.le_refl _, fun _ _ => rfl⟩
theorem own_up {w : World} {B n : Nat} {v : Value} {xs : List Value} (h : w.ownsRow 0 5 1 v n xs) (hb : ∀ b, v.ownBlock = some b → B ≤ b) : w.ownsRow B 5 1 v n xs := by
  refine ⟨h.1, ?_⟩
  rcases h.2 with h2 | ⟨g, cap, cur, rfl, h4, h5⟩
  · exact .inl h2
  · exact .inr ⟨g, cap, cur, rfl, hb g rfl, h5⟩
theorem own_nil (w : World) (B : Nat) : w.ownsRow B 5 1 (.slice none 0 0) 0 (Lib.byteCells []) := ⟨rfl, .inl ⟨rfl, rfl⟩⟩
theorem own_form {w : World} {B : Nat} {v : Value} {l : List UInt8} (h : w.ownsRow B 5 1 v l.length (Lib.byteCells l)) : ∃ X c, v = .slice X l.length c ∧ l.length ≤ c ∧ Rd w X l := bRow_form (own_base h)
theorem num_small1 (s : Co.Rs) : (Co.num 1 s).1 < 256 := by
  unfold Co.num Co.raw
  split
  · exact (by decide : Co.beVal [] < 256)
  · split
    · exact (by decide : Co.beVal [] < 256)
    · show Co.beVal (s.rem.take 1) < 256
      rcases s.rem with _ | ⟨a, t⟩
      · decide
      · have := a.toNat_lt
        simp [Co.beVal]
        omega
theorem num_small2 (s : Co.Rs) : (Co.num 2 s).1 < 65536 := by
  unfold Co.num Co.raw
  split
  · exact (by decide : Co.beVal [] < 65536)
  · split
    · exact (by decide : Co.beVal [] < 65536)
    · show Co.beVal (s.rem.take 2) < 65536
      rcases s.rem with _ | ⟨a, _ | ⟨b, t⟩⟩
      · decide
      · have := a.toNat_lt
        simp [Co.beVal]
        omega
      · have := a.toNat_lt
        have := b.toNat_lt
        simp [Co.beVal]
        omega
theorem num_lt (n : Int) (s : Co.Rs) : (Co.num n s).1 < 18446744073709551616 := Co.beVal_lt _
theorem one_eq (x : Nat) : ((x : Int) == 1) = decide (x = 1) := by rw [Bool.eq_iff_iff]; simp; omega
end Go.Proofs.Ytombmeppdhhjhaa

/-
  OWN WORK. What was read is what was written: plain mathematics.
-/
namespace Go.Proofs.Ytombmeppdhhjhaa
open Go.RowKit
namespace Co
theorem raw_inv (k : Nat) (s : Rs) (hk : 1 ≤ k) (h : (raw (k : Int) s).2.why = 0) : s.why = 0 ∧ (raw (k : Int) s).1.length = k ∧ s.rem = (raw (k : Int) s).1 ++ (raw (k : Int) s).2.rem := by
  unfold raw at h ⊢
  by_cases h1 : s.why ≠ 0 ∨ (k : Int) < 1
  · rw [if_pos h1] at h
    rcases h1 with h1 | h1
    · exact absurd h h1
    · omega
  · rw [if_neg h1] at h ⊢
    by_cases h2 : (s.rem.length : Int) < (k : Int)
    · rw [if_pos h2] at h
      exact absurd h (by simp)
    · rw [if_neg h2] at h ⊢
      refine ⟨h, ?_, ?_⟩
      · show (s.rem.take (k : Int).toNat).length = k
        rw [List.length_take]; omega
      · show s.rem = s.rem.take (k : Int).toNat ++ s.rem.drop (k : Int).toNat
        rw [List.take_append_drop]
theorem num_inv (k : Nat) (s : Rs) (hk : 1 ≤ k) (h : (num (k : Int) s).2.why = 0) : s.why = 0 ∧ ∃ x : List UInt8, x.length = k ∧ (num (k : Int) s).1 = beVal x ∧ s.rem = x ++ (num (k : Int) s).2.rem := by
  obtain ⟨h1, h2, h3⟩ := raw_inv k s hk h
  exact ⟨h1, _, h2, rfl, h3⟩
theorem byte_inv (s : Rs) (h : (num 1 s).2.why = 0) : s.why = 0 ∧ (num 1 s).1 < 256 ∧ s.rem = wByte (num 1 s).1 ++ (num 1 s).2.rem := by
  obtain ⟨h1, x, h2, h3, h4⟩ := num_inv 1 s (by omega) h
  have h5 : (num 1 s).1 = beVal x := h3
  have h6 : s.rem = x ++ (num 1 s).2.rem := h4
  match x, h2 with
  | [a], _ =>
    have ha := a.toNat_lt
    have e : beVal [a] = a.toNat := by
      simp only [beVal, List.foldl_cons, List.foldl_nil]
      omega
    rw [e] at h5
    refine ⟨h1, by omega, ?_⟩
    rw [h6, h5]
    simp [wByte]
theorem short_inv (s : Rs) (h : (num 2 s).2.why = 0) : s.why = 0 ∧ (num 2 s).1 < 65536 ∧ s.rem = wShort (num 2 s).1 ++ (num 2 s).2.rem := by
  obtain ⟨h1, x, h2, h3, h4⟩ := num_inv 2 s (by omega) h
  have h5 : (num 2 s).1 = beVal x := h3
  have h6 : s.rem = x ++ (num 2 s).2.rem := h4
  match x, h2 with
  | [a, b], _ =>
    have ha := a.toNat_lt
    have hb := b.toNat_lt
    have e : beVal [a, b] = a.toNat * 256 + b.toNat := by
      simp only [beVal, List.foldl_cons, List.foldl_nil]
      omega
    rw [e] at h5
    refine ⟨h1, by omega, ?_⟩
    rw [h6, h5]
    have e1 : UInt8.ofNat ((a.toNat * 256 + b.toNat) / 256) = a := by
      apply UInt8.toNat_inj.1
      rw [UInt8.toNat_ofNat']
      omega
    have e2 : UInt8.ofNat (a.toNat * 256 + b.toNat) = b := by
      apply UInt8.toNat_inj.1
      rw [UInt8.toNat_ofNat']
      omega
    simp only [wShort, e1, e2]
theorem long_inv (s : Rs) (h : (num 8 s).2.why = 0) : s.why = 0 ∧ (num 8 s).1 ≤ 18446744073709551615 ∧ s.rem = wLong (num 8 s).1 ++ (num 8 s).2.rem := by
  obtain ⟨h1, x, h2, h3, h4⟩ := num_inv 8 s (by omega) h
  have h5 : (num 8 s).1 = beVal x := h3
  have h6 : s.rem = x ++ (num 8 s).2.rem := h4
  match x, h2 with
  | [a0, a1, a2, a3, a4, a5, a6, a7], _ =>
    have b0 := a0.toNat_lt
    have b1 := a1.toNat_lt
    have b2 := a2.toNat_lt
    have b3 := a3.toNat_lt
    have b4 := a4.toNat_lt
    have b5 := a5.toNat_lt
    have b6 := a6.toNat_lt
    have b7 := a7.toNat_lt
    obtain ⟨v, hv⟩ : ∃ v, v = beVal [a0, a1, a2, a3, a4, a5, a6, a7] := ⟨_, rfl⟩
    have e : v = ((((((a0.toNat * 256 + a1.toNat) * 256 + a2.toNat) * 256 + a3.toNat) * 256 + a4.toNat) * 256 + a5.toNat) * 256 + a6.toNat) * 256 + a7.toNat := by
      rw [hv]
      simp only [beVal, List.foldl_cons, List.foldl_nil]
      omega
    rw [← hv] at h5
    refine ⟨h1, by omega, ?_⟩
    rw [h6, h5, wLong_is]
    have f : ∀ (d : Nat) (a : UInt8), v / d % 256 = a.toNat → UInt8.ofNat (v / d) = a := fun d a hh => by
      apply UInt8.toNat_inj.1
      rw [UInt8.toNat_ofNat']
      exact hh
    have f7 : UInt8.ofNat v = a7 := by
      apply UInt8.toNat_inj.1
      rw [UInt8.toNat_ofNat']
      omega
    rw [f 72057594037927936 a0 (by omega), f 281474976710656 a1 (by omega), f 1099511627776 a2 (by omega), f 4294967296 a3 (by omega), f 16777216 a4 (by omega), f 65536 a5 (by omega), f 256 a6 (by omega), f7]
theorem flag_inv (s : Rs) (h : (flag s).2.why = 0) : s.why = 0 ∧ s.rem = wFlag (flag s).1 ++ (flag s).2.rem := by
  by_cases h1 : 1 < (num 1 s).1
  · exfalso
    unfold flag at h
    rw [if_pos h1] at h
    exact absurd h (by simp)
  · have e : flag s = (decide ((num 1 s).1 = 1), (num 1 s).2) := by unfold flag; rw [if_neg h1]
    rw [e] at h ⊢
    obtain ⟨h2, h3, h4⟩ := byte_inv s h
    refine ⟨h2, ?_⟩
    rw [h4]
    show wByte _ ++ _ = wFlag (decide ((num 1 s).1 = 1)) ++ _
    congr 1
    rcases Nat.lt_or_ge (num 1 s).1 1 with h5 | h5
    · have h6 : (num 1 s).1 = 0 := by omega
      rw [h6]; rfl
    · have h6 : (num 1 s).1 = 1 := by omega
      rw [h6]; rfl
theorem fin_inv (s : Rs) (h : fin s = 0) : s.why = 0 ∧ s.rem = [] := by
  unfold fin at h
  by_cases h1 : s.why = 0
  · rw [if_neg (by simpa using h1)] at h
    refine ⟨h1, ?_⟩
    by_cases h2 : 0 < s.rem.length
    · rw [if_pos h2] at h
      exact absurd h (by decide)
    · exact List.eq_nil_of_length_eq_zero (by omega)
  · rw [if_pos h1] at h
    exact absurd h h1
end Co
end Go.Proofs.Ytombmeppdhhjhaa

/-
  OWN WORK. The reach of int.
-/
namespace Go.Proofs.Ytombmeppdhhjhaa
open Go.RowKit
def In64 (n : Int) : Prop := -9223372036854775808 ≤ n ∧ n ≤ 9223372036854775807
end Go.Proofs.Ytombmeppdhhjhaa

/-
  OWN WORK. Nodes: plain mathematics.
-/
namespace Go.Proofs.Ytombmeppdhhjhaa
open Go.RowKit
/-- What stands at a name. -/
structure Nd where
  id : Int
  kind : Int
  links : Int
  size : Int
  till : Nat
  shut : Bool
namespace Nd
def val (n : Nd) : Value := .agg #[.int .i64 n.id, .int .i64 n.kind, .int .i64 n.links, .int .i64 n.size, .int .u64 (n.till : Nat), .bool n.shut]
def zero : Nd := ⟨0, 0, 0, 0, 0, false⟩
/-- A node of the program's numbers. -/
structure Ok (n : Nd) : Prop where
  id : In64 n.id
  kind : In64 n.kind
  links : In64 n.links
  size : In64 n.size
  till : n.till ≤ 18446744073709551615
theorem zero_ok : zero.Ok := by constructor <;> simp [zero, In64]
def Right (n : Nd) : Prop :=
  0 ≤ n.id ∧ n.id ≤ 65535 ∧ 0 ≤ n.links ∧ n.links ≤ 65535 ∧ 0 ≤ n.size ∧ n.size ≤ 4096 ∧ n.till ≤ 1099511627776 ∧ (n.kind = 1 ∨ n.kind = 2 ∧ n.size = 0 ∧ n.till = 0 ∧ n.shut = true)
instance (n : Nd) : Decidable n.Right := by unfold Right; infer_instance
def right (n : Nd) : Bool := decide n.Right
def same (a b : Nd) : Bool := a.id == b.id && (a.kind == b.kind && (a.links == b.links && (a.size == b.size && (a.till == b.till && a.shut == b.shut))))
theorem same_iff (a b : Nd) : a.same b = true ↔ a = b := by
  obtain ⟨a1, a2, a3, a4, a5, a6⟩ := a
  obtain ⟨b1, b2, b3, b4, b5, b6⟩ := b
  simp [same, Nd.mk.injEq]
theorem same_self (a : Nd) : a.same a = true := (same_iff a a).2 rfl
theorem same_no {a b : Nd} (h : a ≠ b) : a.same b = false := by
  cases h1 : a.same b
  · rfl
  · exact absurd ((same_iff a b).1 h1) h
/-- The lowest bits. -/
def lo16 (x : Int) : Nat := (x % 65536).toNat
def lo8 (x : Int) : Nat := (x % 256).toNat
def bytes (n : Nd) : List UInt8 := Co.wShort (lo16 n.id) ++ (Co.wByte (lo8 n.kind) ++ (Co.wShort (lo16 n.links) ++ (Co.wShort (lo16 n.size) ++ (Co.wLong n.till ++ Co.wFlag n.shut))))
theorem bytes_length (n : Nd) : n.bytes.length = 16 := by
  simp only [bytes, List.length_append, Co.wLong_length]
  rfl
end Nd
/-- The fields, read one behind the other. -/
def ndRead (L : List UInt8) : Nd × Co.Rs :=
  let p1 := Co.num 2 ⟨L, 0⟩
  let p2 := Co.num 1 p1.2
  let p3 := Co.num 2 p2.2
  let p4 := Co.num 2 p3.2
  let p5 := Co.num 8 p4.2
  let p6 := Co.flag p5.2
  (⟨(p1.1 : Nat), (p2.1 : Nat), (p3.1 : Nat), (p4.1 : Nat), p5.1, p6.1⟩, p6.2)
def ndDec (L : List UInt8) : Nd × Nat :=
  if Co.fin (ndRead L).2 ≠ 0 ∨ (ndRead L).1.right = false then (Nd.zero, 12) else ((ndRead L).1, 0)
theorem ndRead_ok (L : List UInt8) : (ndRead L).1.Ok := by
  have h1 := num_small2 ⟨L, 0⟩
  have h2 := num_small1 (Co.num 2 ⟨L, 0⟩).2
  have h3 := num_small2 (Co.num 1 (Co.num 2 ⟨L, 0⟩).2).2
  have h4 := num_small2 (Co.num 2 (Co.num 1 (Co.num 2 ⟨L, 0⟩).2).2).2
  have h5 := num_lt 8 (Co.num 2 (Co.num 2 (Co.num 1 (Co.num 2 ⟨L, 0⟩).2).2).2).2
  constructor
  · show In64 (((Co.num 2 ⟨L, 0⟩).1 : Nat) : Int); unfold In64; omega
  · show In64 (((Co.num 1 (Co.num 2 ⟨L, 0⟩).2).1 : Nat) : Int); unfold In64; omega
  · show In64 (((Co.num 2 (Co.num 1 (Co.num 2 ⟨L, 0⟩).2).2).1 : Nat) : Int); unfold In64; omega
  · show In64 (((Co.num 2 (Co.num 2 (Co.num 1 (Co.num 2 ⟨L, 0⟩).2).2).2).1 : Nat) : Int); unfold In64; omega
  · show (Co.num 8 (Co.num 2 (Co.num 2 (Co.num 1 (Co.num 2 ⟨L, 0⟩).2).2).2).2).1 ≤ 18446744073709551615; omega
theorem ndDec_cases (L : List UInt8) : ndDec L = (Nd.zero, 12) ∨ (ndDec L).2 = 0 := by
  unfold ndDec
  split
  · exact .inl rfl
  · exact .inr rfl
theorem ndDec_ok (L : List UInt8) : (ndDec L).1.Ok := by
  unfold ndDec
  split
  · exact Nd.zero_ok
  · exact ndRead_ok L
/-- What is read of what was written. -/
theorem ndDec_bytes (n : Nd) (h : n.Right) : ndDec n.bytes = (n, 0) := by
  have hr : n.right = true := by simpa [Nd.right] using h
  obtain ⟨h1, h2, h3, h4, h5, h6, h7, h8⟩ := h
  obtain ⟨id, kind, links, size, till, shut⟩ := n
  simp only at h1 h2 h3 h4 h5 h6 h7 h8
  have e : ndRead (Nd.bytes ⟨id, kind, links, size, till, shut⟩) = (⟨id, kind, links, size, till, shut⟩, ⟨[], 0⟩) := by
    unfold ndRead Nd.bytes
    simp only [Co.num_short, Co.num_byte, Co.num_long till (by omega)]
    have ef := Co.flag_app shut []
    rw [List.append_nil] at ef
    rw [ef]
    have e1 : ((Nd.lo16 id % 65536 : Nat) : Int) = id := by unfold Nd.lo16; omega
    have e2 : ((Nd.lo8 kind % 256 : Nat) : Int) = kind := by unfold Nd.lo8; omega
    have e3 : ((Nd.lo16 links % 65536 : Nat) : Int) = links := by unfold Nd.lo16; omega
    have e4 : ((Nd.lo16 size % 65536 : Nat) : Int) = size := by unfold Nd.lo16; omega
    rw [e1, e2, e3, e4]
  unfold ndDec
  rw [e]
  rw [if_neg (by simp [hr, Co.fin])]
/-- What is read is just what is written. -/
theorem ndDec_inv (L : List UInt8) (h : (ndDec L).2 = 0) : (ndDec L).1.Right ∧ (ndDec L).1.bytes = L := by
  by_cases h0 : Co.fin (ndRead L).2 ≠ 0 ∨ (ndRead L).1.right = false
  · unfold ndDec at h
    rw [if_pos h0] at h
    exact absurd h (by decide)
  · have e : ndDec L = ((ndRead L).1, 0) := by unfold ndDec; rw [if_neg h0]
    rw [e]
    have hf : Co.fin (ndRead L).2 = 0 := Decidable.byContradiction fun hc => h0 (.inl hc)
    have hr : (ndRead L).1.right = true := by
      cases hh : (ndRead L).1.right
      · exact absurd (.inr hh) h0
      · rfl
    refine ⟨by simpa [Nd.right] using hr, ?_⟩
    obtain ⟨w6, r6⟩ := Co.fin_inv _ hf
    obtain ⟨w5, f6⟩ := Co.flag_inv _ w6
    obtain ⟨w4, l5, f5⟩ := Co.long_inv _ w5
    obtain ⟨w3, l4, f4⟩ := Co.short_inv _ w4
    obtain ⟨w2, l3, f3⟩ := Co.short_inv _ w3
    obtain ⟨w1, l2, f2⟩ := Co.byte_inv _ w2
    obtain ⟨w0, l1, f1⟩ := Co.short_inv _ w1
    have r6' : (Co.flag (Co.num 8 (Co.num 2 (Co.num 2 (Co.num 1 (Co.num 2 ⟨L, 0⟩).2).2).2).2).2).2.rem = [] := r6
    rw [r6', List.append_nil] at f6
    have f1' : L = Co.wShort (Co.num 2 ⟨L, 0⟩).1 ++ (Co.num 2 ⟨L, 0⟩).2.rem := f1
    have k16 : ∀ x : Nat, x < 65536 → Nd.lo16 ((x : Nat) : Int) = x := fun x hx => by unfold Nd.lo16; omega
    have k8 : ∀ x : Nat, x < 256 → Nd.lo8 ((x : Nat) : Int) = x := fun x hx => by unfold Nd.lo8; omega
    dsimp only [Nd.bytes, ndRead]
    rw [k16 _ l1, k8 _ l2, k16 _ l3, k16 _ l4, ← f6, ← f5, ← f4, ← f3, ← f2, ← f1']
theorem Nd.bytes_inj {a b : Nd} (ha : a.Right) (hb : b.Right) (h : a.bytes = b.bytes) : a = b := by
  have h1 := ndDec_bytes a ha
  rw [h, ndDec_bytes b hb] at h1
  exact (congrArg Prod.fst h1).symm
end Go.Proofs.Ytombmeppdhhjhaa

/-
  OWN WORK. Chapter 7 as functions of lists of bytes: names that are good, what a path is parted into, and joined to.
-/
namespace Go.Proofs.Ytombmeppdhhjhaa
namespace Pa

abbrev Bytes := List UInt8
/-- A byte that a name may have. -/
def okByte (c : UInt8) : Bool := (97 ≤ c.toNat && c.toNat ≤ 122) || (48 ≤ c.toNat && c.toNat ≤ 57) || c == 46 || c == 45 || c == 95
def good (n : Bytes) : Bool := n.all okByte && decide (1 ≤ n.length) && decide (n.length ≤ 16) && n != [46] && n != [46, 46]
/-- What stands between the strokes, the first of them too. -/
def pieces : Bytes → List Bytes
  | [] => [[]]
  | c :: s => if c = 47 then [] :: pieces s else match pieces s with
    | [] => [[c]]
    | p :: ps => (c :: p) :: ps
def join (l : List Bytes) : Bytes := if l = [] then [47] else l.flatMap (47 :: ·)
/-- What a path is parted into, and the number of the refusal. -/
def split (d : Nat) (s : Bytes) : List Bytes × Nat :=
  if s = [47] then ([], 0)
  else match s with
    | [] => ([], 12)
    | c :: s => if c = 47 then
        (if (pieces s).all good then (if (pieces s).length ≤ d then (pieces s, 0) else ([], 3)) else ([], 12))
      else ([], 12)

theorem pieces_ne (s : Bytes) : pieces s ≠ [] := by
  induction s with
  | nil => simp [pieces]
  | cons c s ih =>
    unfold pieces
    split
    · simp
    · cases h : pieces s <;> simp
/-- The pieces, each behind a stroke, are the text behind a stroke. -/
theorem join_pieces (s : Bytes) : (pieces s).flatMap (47 :: ·) = 47 :: s := by
  induction s with
  | nil => simp [pieces]
  | cons c s ih =>
    unfold pieces
    split
    · rename_i h; rw [List.flatMap_cons, ih, h]; rfl
    · cases h : pieces s with
      | nil => exact absurd h (pieces_ne s)
      | cons p ps =>
        rw [h] at ih
        simp only [List.flatMap_cons, List.cons_append, List.cons.injEq, true_and] at ih ⊢
        rw [ih]
theorem pieces_plain {p : Bytes} (h : ∀ c ∈ p, c ≠ 47) : pieces p = [p] := by
  induction p with
  | nil => rfl
  | cons c s ih =>
    unfold pieces
    rw [if_neg (h c (by simp)), ih fun d hd => h d (by simp [hd])]
theorem pieces_app {p s : Bytes} (h : ∀ c ∈ p, c ≠ 47) : pieces (p ++ 47 :: s) = p :: pieces s := by
  induction p with
  | nil => simp [pieces]
  | cons c q ih =>
    rw [List.cons_append]
    have e : ∀ x, pieces (c :: x) = (match pieces x with | [] => [[c]] | p :: ps => (c :: p) :: ps) := fun x => by rw [pieces, if_neg (h c (by simp))]
    rw [e, ih fun d hd => h d (by simp [hd])]
theorem pieces_join {p : Bytes} {ps : List Bytes} (h : ∀ q ∈ p :: ps, ∀ c ∈ q, c ≠ 47) : pieces (p ++ ps.flatMap (47 :: ·)) = p :: ps := by
  induction ps generalizing p with
  | nil => simpa using pieces_plain (h p (by simp))
  | cons q ps ih =>
    rw [List.flatMap_cons, List.cons_append, pieces_app (h p (by simp)), ih fun x hx => h x (by simp only [List.mem_cons] at hx ⊢; exact .inr hx)]
theorem okByte_ne {c : UInt8} (h : okByte c = true) : c ≠ 47 := by
  intro e; subst e; exact absurd h (by decide)
theorem good_ne {n : Bytes} (h : good n = true) : ∀ c ∈ n, c ≠ 47 := by
  simp only [good, Bool.and_eq_true, List.all_eq_true] at h
  exact fun c hc => okByte_ne (h.1.1.1.1 c hc)
theorem good_pos {n : Bytes} (h : good n = true) : 1 ≤ n.length := by
  simp only [good, Bool.and_eq_true, decide_eq_true_eq] at h
  exact h.1.1.1.2
/-- Names that are good are parted from what is joined of them. -/
theorem split_join {d : Nat} {l : List Bytes} (h : ∀ n ∈ l, good n = true) (hd : l.length ≤ d) : split d (join l) = (l, 0) := by
  cases l with
  | nil => rfl
  | cons p ps =>
    have hp := good_pos (h p (by simp))
    have e : join (p :: ps) = 47 :: (p ++ ps.flatMap (47 :: ·)) := by simp [join]
    rw [e]
    unfold split
    have hne : ¬ (47 :: (p ++ ps.flatMap (47 :: ·)) = [47]) := by
      intro h2
      cases p with
      | nil => simp at hp
      | cons x y => simp at h2
    rw [if_neg hne]
    simp only [if_true]
    rw [pieces_join fun q hq => good_ne (h q hq), if_pos (List.all_eq_true.2 fun q hq => h q hq), if_pos hd]
/-- What is parted is joined again. -/
theorem join_split {d : Nat} {s : Bytes} (h : (split d s).2 = 0) : join (split d s).1 = s := by
  unfold split at h ⊢
  split
  · rename_i h1; rw [h1]; rfl
  · rename_i h1
    rw [if_neg h1] at h
    cases s with
    | nil => simp at h
    | cons c s =>
      simp only at h ⊢
      by_cases hc : c = 47
      · rw [if_pos hc] at h ⊢
        by_cases hg : (pieces s).all good = true
        · rw [if_pos hg] at h ⊢
          by_cases hl : (pieces s).length ≤ d
          · rw [if_pos hl]
            simp only [join, if_neg (pieces_ne s), join_pieces, hc]
          · rw [if_neg hl] at h; simp at h
        · rw [if_neg hg] at h; simp at h
      · rw [if_neg hc] at h; simp at h
theorem split_none {d : Nat} {s : Bytes} (h : (split d s).2 ≠ 0) : (split d s).1 = [] := by
  unfold split at h ⊢
  split
  · rfl
  · rename_i h1
    rw [if_neg h1] at h
    cases s with
    | nil => rfl
    | cons c s =>
      simp only at h ⊢
      by_cases hc : c = 47
      · rw [if_pos hc] at h ⊢
        by_cases hg : (pieces s).all good = true
        · rw [if_pos hg] at h ⊢
          by_cases hl : (pieces s).length ≤ d
          · rw [if_pos hl] at h; simp at h
          · rw [if_neg hl]
        · rw [if_neg hg]
      · rw [if_neg hc]
/-- Where a path is being parted: the names so far, and what is left. -/
structure Parts (s0 t : Bytes) (c : List Bytes) : Prop where
  good : ∀ n ∈ c, good n = true
  way : ∃ u0, s0 = 47 :: u0 ∧ u0 ≠ [] ∧ (t = [] → pieces u0 = c) ∧ (t ≠ [] → ∃ u, t = 47 :: u ∧ pieces u0 = c ++ pieces u)
theorem Parts.begin {u : Bytes} (h : u ≠ []) : Parts (47 :: u) (47 :: u) [] := ⟨(fun n hn => by cases hn), u, rfl, h, (fun e => by cases e), fun _ => ⟨u, rfl, rfl⟩⟩
theorem Parts.form {s0 t : Bytes} {c : List Bytes} (h : Parts s0 t c) (ht : t ≠ []) : ∃ u, t = 47 :: u := by
  obtain ⟨_, _, _, _, h2⟩ := h.way
  obtain ⟨u, e, _⟩ := h2 ht
  exact ⟨u, e⟩
theorem pieces_next {p r : Bytes} (hp : ∀ x ∈ p, x ≠ 47) (hr : r = [] ∨ ∃ r', r = 47 :: r') : (r = [] → pieces (p ++ r) = [p]) ∧ (r ≠ [] → ∃ r', r = 47 :: r' ∧ pieces (p ++ r) = p :: pieces r') := by
  rcases hr with rfl | ⟨r', rfl⟩
  · exact ⟨(fun _ => by rw [List.append_nil]; exact pieces_plain hp), fun h => absurd rfl h⟩
  · exact ⟨(fun h => by cases h), fun _ => ⟨r', rfl, pieces_app hp⟩⟩
theorem Parts.step {s0 p r : Bytes} {c : List Bytes} (h : Parts s0 (47 :: (p ++ r)) c) (hp : ∀ x ∈ p, x ≠ 47) (hr : r = [] ∨ ∃ r', r = 47 :: r') (hg : Pa.good p = true) : Parts s0 r (c ++ [p]) := by
  obtain ⟨u0, e0, hu, _, h2⟩ := h.way
  obtain ⟨u, e, h3⟩ := h2 (by simp)
  simp only [List.cons.injEq, true_and] at e
  subst e
  obtain ⟨n1, n2⟩ := pieces_next hp hr
  refine ⟨fun n hn => ?_, u0, e0, hu, fun hr0 => by rw [h3, n1 hr0], fun hr0 => ?_⟩
  · rcases List.mem_append.1 hn with h4 | h4
    · exact h.good n h4
    · simp only [List.mem_singleton] at h4; rw [h4]; exact hg
  · obtain ⟨r', e', h4⟩ := n2 hr0
    exact ⟨r', e', by rw [h3, h4, List.append_assoc]; rfl⟩
theorem split_of {d : Nat} {u : Bytes} (h : u ≠ []) : split d (47 :: u) = if (pieces u).all Pa.good then (if (pieces u).length ≤ d then (pieces u, 0) else ([], 3)) else ([], 12) := by
  unfold split
  rw [if_neg (by simpa using h)]
  simp
theorem Parts.bad {d : Nat} {s0 p r : Bytes} {c : List Bytes} (h : Parts s0 (47 :: (p ++ r)) c) (hp : ∀ x ∈ p, x ≠ 47) (hr : r = [] ∨ ∃ r', r = 47 :: r') (hg : Pa.good p = false) : split d s0 = ([], 12) := by
  obtain ⟨u0, rfl, hu, _, h2⟩ := h.way
  obtain ⟨u, e, h3⟩ := h2 (by simp)
  simp only [List.cons.injEq, true_and] at e
  subst e
  obtain ⟨n1, n2⟩ := pieces_next hp hr
  have hm : p ∈ pieces u0 := by
    rw [h3]
    by_cases hr0 : r = []
    · rw [n1 hr0]; simp
    · obtain ⟨r', _, h4⟩ := n2 hr0
      rw [h4]; simp
  rw [split_of hu, if_neg]
  rw [Bool.not_eq_true, List.all_eq_false]
  exact ⟨p, hm, by rw [hg]; decide⟩
theorem Parts.done {d : Nat} {s0 : Bytes} {c : List Bytes} (h : Parts s0 [] c) : split d s0 = if c.length ≤ d then (c, 0) else ([], 3) := by
  obtain ⟨u0, rfl, hu, h1, _⟩ := h.way
  rw [split_of hu, h1 rfl, if_pos (List.all_eq_true.2 h.good)]
/-- The first stroke from 1 on parts a text. -/
theorem part_at {u : Bytes} {k : Nat} (h1 : 1 ≤ k) (h2 : k ≤ u.length + 1) (h3 : ∀ (j : Nat) (c : UInt8), 1 ≤ j → j < k → (47 :: u)[j]? = some c → c ≠ 47) (h4 : k = u.length + 1 ∨ (47 :: u)[k]? = some 47) :
    ∃ p r, u = p ++ r ∧ (∀ c ∈ p, c ≠ 47) ∧ (r = [] ∨ ∃ r', r = 47 :: r') ∧ 1 + p.length = k := by
  obtain ⟨m, rfl⟩ : ∃ m, k = m + 1 := ⟨k - 1, by omega⟩
  refine ⟨u.take m, u.drop m, (List.take_append_drop m u).symm, fun c hc => ?_, ?_, by rw [List.length_take]; omega⟩
  · obtain ⟨j, hj, rfl⟩ := List.getElem_of_mem hc
    rw [List.length_take] at hj
    refine h3 (j + 1) _ (by omega) (by omega) ?_
    rw [List.getElem?_cons_succ, List.getElem_take, List.getElem?_eq_getElem]
  · rcases h4 with h4 | h4
    · exact .inl (List.drop_of_length_le (by omega))
    · rw [List.getElem?_cons_succ] at h4
      obtain ⟨hm, e⟩ := List.getElem?_eq_some_iff.1 h4
      exact .inr ⟨u.drop (m + 1), by rw [List.drop_eq_getElem_cons hm, e]⟩
end Pa
end Go.Proofs.Ytombmeppdhhjhaa

/-
  OWN WORK. Texts of bytes.
-/
namespace Go.Proofs.Ytombmeppdhhjhaa
open Go.RowKit

/-- A text of these bytes. -/
def strOf (l : List UInt8) : ByteArray := ⟨l.toArray⟩

theorem strOf_size (l : List UInt8) : (strOf l).size = l.length := by simp [strOf, ByteArray.size]

theorem str_any (w : World) (A : Option Addr) (l : List UInt8) (c : Nat) (h : Rd w A l) : (convert 29 9 (.slice A l.length c)).run Try.prog w = .ok (.string (strOf l)) w := by
  cases A with
  | none =>
    have hl : l = [] := by
      rcases Nat.eq_zero_or_pos l.length with h1 | h1
      · exact List.eq_nil_of_length_eq_zero h1
      · obtain ⟨b, off, h2, _⟩ := h h1
        cases h2
    subst hl
    exact run_convert_bytes_nil w 29 5 Try.underlying29 Try.underlying5 0 c 9 Try.underlying9
  | some ad =>
    have hl : (loadCells ad l.length).run Try.prog w = .ok ((l.map fun b => ((b.toNat : Nat) : Int)).map (Value.int .u8)).toArray w := by
      have := run_loadCells_list (P := Try.prog) w ad ((l.map fun b => ((b.toNat : Nat) : Int)).map (Value.int .u8)) (fun j v hj => by
        rw [List.map_map] at hj
        simp only [List.getElem?_map, Option.map_eq_some_iff] at hj
        obtain ⟨x, hx, rfl⟩ := hj
        obtain ⟨b, off, h1, _, h2⟩ := h (by have := (List.getElem?_eq_some_iff.1 hx).1; omega)
        obtain rfl : ad = ⟨b, off, none⟩ := by injection h1
        rw [add_plain]
        exact h2 j x hx)
      simpa using this
    rw [run_convert_bytes_string w 29 9 5 _ l.length c Try.underlying29 Try.underlying5 Try.underlying9, run_bytesToString w _ l.length c _ hl, foldl_push_bytes]
    congr 3
    simp [ByteArray.empty, ByteArray.emptyWithCapacity]
    have e : ((fun n : Int => UInt8.ofNat n.toNat) ∘ fun b : UInt8 => ((b.toNat : Nat) : Int)) = id := funext fun b => by simp
    rw [e, List.map_id]
    rfl
end Go.Proofs.Ytombmeppdhhjhaa

/-
  OWN WORK. Texts as lists of bytes: what a walk asks of them: held against one another, a byte, a part, one behind the other.
-/
namespace Go.Proofs.Ytombmeppdhhjhaa
open Go.RowKit

theorem strOf_list (l : List UInt8) : (strOf l).toList = l := ByteArray.toList_mk l
theorem strOf_beq (a b : List UInt8) : ((strOf a).toList == (strOf b).toList) = decide (a = b) := by
  rw [strOf_list, strOf_list]
  by_cases h : a = b
  · subst h; simp
  · rw [decide_eq_false h]; exact beq_eq_false_iff_ne.2 h
theorem strOf_lit (a b : List UInt8) : ((strOf a).toList == b) = decide (a = b) := by
  rw [strOf_list]
  by_cases h : a = b
  · subst h; simp
  · rw [decide_eq_false h]; exact beq_eq_false_iff_ne.2 h
theorem strOf_nil (l : List UInt8) : ((strOf l).toList.isEmpty) = decide (l = []) := by
  rw [strOf_list]
  cases l <;> simp
theorem strOf_of (s : ByteArray) : ∃ l : List UInt8, s = strOf l ∧ l.length = s.size := ⟨s.data.toList, by cases s; simp [strOf], by cases s; simp [ByteArray.size]⟩
/-- A byte of a text. -/
theorem str_at {l : List UInt8} {i : Nat} {c : UInt8} (h : l[i]? = some c) (w : World) : (Instr.index 9 (.string (strOf l)) (.int .i64 (i : Nat))).run Try.prog w = .ok (.int .u8 (c.toNat : Nat)) w := by
  have hi := (List.getElem?_eq_some_iff.1 h).1
  rw [run_index_string w 9 (strOf l) .i64 i Try.underlying9, dif_pos (by rw [strOf_size]; omega)]
  congr 3
  simp only [strOf, ByteArray.getElem_eq_getElem_data, Int.toNat_natCast, List.getElem_toArray]
  rw [(List.getElem?_eq_some_iff.1 h).2]
theorem str_at0 {l : List UInt8} {c : UInt8} (h : l[0]? = some c) (w : World) : (Instr.index 9 (.string (strOf l)) (.int .i64 0)).run Try.prog w = .ok (.int .u8 (c.toNat : Nat)) w := str_at h w
theorem str_extract (l : List UInt8) (a b : Nat) : (strOf l).extract a b = strOf ((l.drop a).take (b - a)) := ByteArray.extract_mk l a b
/-- A part of a text. -/
theorem str_lh (l : List UInt8) (lo hi : Nat) (h1 : lo ≤ hi) (h2 : hi ≤ l.length) (w : World) : (Instr.slice 9 (.string (strOf l)) (some (.int .i64 (lo : Nat))) (some (.int .i64 (hi : Nat))) none).run Try.prog w = .ok (.string (strOf ((l.drop lo).take (hi - lo)))) w := by
  rw [run_slice_string w 9 (strOf l) .i64 .i64 lo hi Try.underlying9 (by omega) (by omega) (by rw [strOf_size]; omega), str_extract]
  rfl
theorem str_l (l : List UInt8) (lo : Nat) (h1 : lo ≤ l.length) (w : World) : (Instr.slice 9 (.string (strOf l)) (some (.int .i64 (lo : Nat))) none none).run Try.prog w = .ok (.string (strOf (l.drop lo))) w := by
  rw [run_slice_string_from_if w 9 (strOf l) .i64 lo Try.underlying9, if_pos (by rw [strOf_size]; omega), str_extract, strOf_size]
  congr 3
  rw [Int.toNat_natCast, List.take_of_length_le (by rw [List.length_drop]; omega)]
theorem str_h (l : List UInt8) (hi : Nat) (h1 : hi ≤ l.length) (w : World) : (Instr.slice 9 (.string (strOf l)) none (some (.int .i64 (hi : Nat))) none).run Try.prog w = .ok (.string (strOf (l.take hi))) w := by
  rw [run_slice_string_to_if w 9 (strOf l) .i64 hi Try.underlying9, if_pos (by rw [strOf_size]; omega), str_extract]
  rfl
theorem strOf_append (a b : List UInt8) : strOf a ++ strOf b = strOf (a ++ b) := by
  apply ByteArray.ext
  simp [strOf]
/-- One behind the other. -/
theorem str_add (a b : List UInt8) (h : a.length + b.length ≤ 9223372036854775807) : Op.stringOp .add (strOf a) (strOf b) = pure (.string (strOf (a ++ b))) := by
  unfold Op.stringOp
  simp only [strOf_size, strOf_append]
  rw [if_neg (by show ¬ ((a.length + b.length : Nat) : Int) > 9223372036854775807; omega)]
end Go.Proofs.Ytombmeppdhhjhaa

/-
  OWN WORK. Rows of texts: as they are read, and as they are a call's own.
-/
namespace Go.Proofs.Ytombmeppdhhjhaa
open Go.RowKit

abbrev Bs := List UInt8
theorem Try.infoStr : (Try.prog.info? 9).map (fun i => (i.zero, i.size, i.bytes)) = some (some (.string .empty), 1, 16) := by kernel_rfl
def txtCells (l : List Bs) : List Value := l.map fun s => .string (strOf s)
theorem txtCells_length (l : List Bs) : (txtCells l).length = l.length := List.length_map _
theorem txtCells_append (a b : List Bs) : txtCells (a ++ b) = txtCells a ++ txtCells b := List.map_append
/-- A slice's address, behind which these texts stand. -/
def RdS (w : World) (A : Option Addr) (l : List Bs) : Prop :=
  0 < l.length → ∃ b off, A = some ⟨b, off, none⟩ ∧ b < w.heap.size ∧ ∀ j x, l[j]? = some x → w.cell? ⟨b, off + j, none⟩ = some (.string (strOf x))
theorem RdS.nil (w : World) (A : Option Addr) : RdS w A [] := fun h => absurd h (by simp)
theorem RdS.below {w w' : World} {A : Option Addr} {l : List Bs} (h : RdS w A l) (hb : Below w.heap.size w w') : RdS w' A l := fun hl => by
  obtain ⟨b, off, h1, h2, h3⟩ := h hl
  exact ⟨b, off, h1, Nat.lt_of_lt_of_le h2 hb.size, fun j x hx => (hb.cell (p := ⟨b, off + j, none⟩) h2).trans (h3 j x hx)⟩
theorem RdS.at_ {w : World} {A : Option Addr} {l : List Bs} (h : RdS w A l) {j : Nat} {x : Bs} (hj : l[j]? = some x) : ∃ b off, A = some ⟨b, off, none⟩ ∧ w.cell? ⟨b, off + j, none⟩ = some (.string (strOf x)) := by
  obtain ⟨b, off, h1, _, h3⟩ := h (by have := (List.getElem?_eq_some_iff.1 hj).1; omega)
  exact ⟨b, off, h1, h3 j x hj⟩
theorem RdS.take {w : World} {A : Option Addr} {l : List Bs} (h : RdS w A l) (k : Nat) : RdS w A (l.take k) := by
  intro hl
  rw [List.length_take] at hl
  obtain ⟨b, off, rfl, hlt, hcell⟩ := h (by omega)
  refine ⟨b, off, rfl, hlt, fun j x hx => hcell j x ?_⟩
  rw [List.getElem?_take] at hx
  split at hx
  · exact hx
  · cases hx
theorem RdS.grown {w w' : World} {A : Option Addr} {l : List Bs} {row : Option Nat} (h : RdS w A l) (hg : w.grownBy w' row) (hne : ∀ b, A.map (·.block) = some b → row ≠ some b) : RdS w' A l := fun hl => by
  obtain ⟨b, off, rfl, h2, h3⟩ := h hl
  exact ⟨b, off, rfl, Nat.lt_of_lt_of_le h2 hg.size, fun j x hx => (World.cell?_of_block (hg.block b h2 (fun e => hne b rfl e.symm))).trans (h3 j x hx)⟩
theorem txt_under : Try.prog.underlying 28 = some (.slice (Try.prog.elem 28)) := by kernel_rfl
theorem txt_size (w : World) : (sizeOf (Try.prog.elem 28)).run Try.prog w = .ok 1 w := by kernel_rfl
theorem sls_h (w : World) (A : Option Addr) (len cap n : Nat) (h : n ≤ cap) : (Instr.sliceAt 28 (.slice A len cap) none (some (.int .i64 n)) none).run Try.prog w = .ok (.slice A n cap) w := by
  rw [run_sliceAt_slice w _ _ _ _ _ txt_under, run_slice_h w _ _ _ _ txt_under .i64 n (by omega) (by omega), txt_size]
  have e : ∀ a : Addr, a.add 0 = a := fun a => by unfold Addr.add; simp
  cases A <;> simp [Result.andThen, sliced, e]
/-- The texts so far, as a row of the call's own. -/
def TAt (B : Nat) (v : Value) (l : List Bs) (w0 wr : World) : Prop :=
  wr.ownsRow B 9 1 v l.length (txtCells l) ∧ Below B w0 wr ∧ B = w0.heap.size
theorem TAt.nil (w : World) : TAt w.heap.size (.slice none 0 0) [] w w := ⟨⟨rfl, .inl ⟨rfl, rfl⟩⟩, Below.refl _ _, rfl⟩
theorem TAt.empty (w : World) : TAt w.heap.size (.slice (some ⟨w.heap.size, 0, none⟩) 0 0) [] w (w.alloc (.cells #[] 9)) :=
  ⟨⟨rfl, .inr ⟨w.heap.size, 0, #[], rfl, Nat.le_refl _, heap_alloc_new w _, Nat.le_refl _, by unfold maxLen; omega, rfl, rfl⟩⟩, below_new w _, rfl⟩
theorem owned_below {w wa : World} {B e n : Nat} {v : Value} {xs : List Value} (h : w.ownsRow B e 1 v n xs) (ha : Below w.heap.size w wa) : wa.ownsRow B e 1 v n xs := by
  refine ⟨h.1, ?_⟩
  rcases h.2 with h2 | ⟨g, cap, cur, h3, h4, h5, h6⟩
  · exact .inl h2
  · refine .inr ⟨g, cap, cur, h3, h4, (ha.block g ?_).trans h5, h6⟩
    rcases Nat.lt_or_ge g w.heap.size with hlt | hge
    · exact hlt
    · rw [Array.getElem?_eq_none hge] at h5; cases h5
theorem TAt.own {B : Nat} {v : Value} {l : List Bs} {w0 wr wa : World} (h : TAt B v l w0 wr) (ha : Below wr.heap.size wr wa) : wa.ownsRow B 9 1 v l.length (txtCells l) := owned_below h.1 ha
theorem TAt.push {B : Nat} {v v' : Value} {l x : List Bs} {w0 wr wa w' : World} (h : TAt B v l w0 wr) (ha : Below wr.heap.size wr wa) (hown : w'.ownsRow B 9 1 v' (l.length + x.length) (txtCells l ++ txtCells x)) (hg : wa.grownBy w' v.ownBlock) : TAt B v' (l ++ x) w0 w' := by
  refine ⟨by rw [List.length_append, txtCells_append]; exact hown, ?_, h.2.2⟩
  have hb : Below B w0 wa := h.2.1.trans (ha.mono (by have := h.2.1.size; have := h.2.2; omega))
  exact hb.grown hg (by have := h.2.1.size; have := ha.size; have := h.2.2; omega) (fun k hk => h.1.ownBlock_ge k hk)
theorem TAt.below {B : Nat} {v : Value} {l : List Bs} {w0 wr w' : World} (h : TAt B v l w0 wr) (hb : Below wr.heap.size wr w') : TAt B v l w0 w' :=
  ⟨owned_below h.1 hb, h.2.1.trans (hb.mono (by have := h.2.1.size; have := h.2.2; omega)), h.2.2⟩
theorem TAt.later {B : Nat} {v : Value} {l : List Bs} {w0 wr : World} (h : TAt B v l w0 wr) : Below w0.heap.size w0 wr := h.2.2 ▸ h.2.1
/-- As a slice that is read. -/
theorem TAt.form {B : Nat} {v : Value} {l : List Bs} {w0 wr : World} (h : TAt B v l w0 wr) : ∃ X c, v = .slice X l.length c ∧ l.length ≤ c ∧ RdS wr X l := by
  rcases h.1.2 with ⟨rfl, h1⟩ | ⟨g, cap, cur, rfl, hb, hh, hc, _, hcs, htk⟩
  · have : l = [] := List.eq_nil_of_length_eq_zero h1
    subst this
    exact ⟨none, 0, rfl, Nat.le_refl _, RdS.nil _ _⟩
  · refine ⟨_, cap, rfl, hc, fun _ => ⟨g, 0, rfl, (Array.getElem?_eq_some_iff.1 hh).1, fun j x hx => ?_⟩⟩
    have hj : j < l.length := (List.getElem?_eq_some_iff.1 hx).1
    rw [cell_of_row wr g _ cur 9 (0, 0) hh, Nat.zero_add]
    have e : (cur.toList.take (l.length * 1))[j]? = some (.string (strOf x)) := by
      rw [htk]; simp [txtCells, hx]
    rw [List.getElem?_take_of_lt (by omega)] at e
    simpa using e
theorem txt_one (l : List Bs) : ∀ v ∈ txtCells l, v.oneCell' = true := by
  intro v hv
  simp only [txtCells, List.mem_map] at hv
  obtain ⟨x, _, rfl⟩ := hv
  rfl
/-- Texts that are read, nil or not, go behind a row of the call's own. -/
theorem run_append_txts (w : World) (base : Nat) (v : Value) (n : Nat) (xs : List Value) (hown : w.ownsRow base 9 1 v n xs) (A : Option Addr) (l : List Bs) (c : Nat) (hr : RdS w A l) (hn : n + l.length ≤ 68719476736) (hbase : base ≤ w.heap.size) (ty : TypeId) :
    ∃ v' w', (Builtin.append_ #[28, 28] ty #[v, .slice A l.length c]).run Try.prog w = .ok v' w' ∧ w'.ownsRow base 9 1 v' (n + l.length) (xs ++ txtCells l) ∧ w.grownBy w' v.ownBlock := by
  obtain ⟨i, hi, hz, hsize, hby⟩ := info_parts Try.infoStr
  cases A with
  | none =>
    have hl : l = [] := by
      rcases Nat.eq_zero_or_pos l.length with h | h
      · exact List.eq_nil_of_length_eq_zero h
      · obtain ⟨b, off, h1, _⟩ := hr h
        cases h1
    subst hl
    refine ⟨v, w, ?_, by simpa [txtCells] using hown, ⟨rfl, rfl, rfl, Nat.le_refl _, fun _ _ _ => rfl⟩⟩
    show (Builtin.append_ #[28, 28] ty #[v, .slice none 0 c]).run Try.prog w = .ok v w
    have ht := Try.underlying28
    rcases hown.2 with ⟨rfl, rfl⟩ | ⟨g, cap, cur, rfl, _, _, hnc, _⟩
    · simp [Builtin.append_, run_underlying ht, sizeOf, typeInfo, hi, Builtin.lenOf, Builtin.firstCells]
    · simp [Builtin.append_, run_underlying ht, sizeOf, typeInfo, hi, Builtin.lenOf, Builtin.firstCells, hnc, storeCells]
  | some ad =>
    have hc : ∀ j u, (txtCells l)[j]? = some u → w.cell? (ad.add j) = some u := by
      intro j u hu
      simp only [txtCells, List.getElem?_map, Option.map_eq_some_iff] at hu
      obtain ⟨x, hx, rfl⟩ := hu
      obtain ⟨b, off, h1, _, h2⟩ := hr (by have := (List.getElem?_eq_some_iff.1 hx).1; omega)
      obtain rfl : ad = ⟨b, off, none⟩ := by injection h1
      rw [add_plain]
      exact h2 j x hx
    obtain ⟨v', w', h1, h2, h3, _⟩ := run_append_own (P := Try.prog) (w := w) base 28 ty 9 i (.string .empty) 1 16 Try.underlying28 hi hz hsize hby rfl (by decide) v n xs hown ad l.length c (txtCells l) (by simp [txtCells_length]) hc (txt_one l) (by unfold maxLen; omega) (by omega) hbase
    exact ⟨v', w', h1, h2, h3⟩
theorem wpList_append_txts {w : World} {ops : Array Oper} {rest : List Oper} {o : Oper} {a : Act} {Q : Exit → Act → World → Prop} (hgd : Region.wanted o (yielded ops a.tmps) = true) (s x : Operand)
    (ho : o.op = .call { callee := .builtin .append, args := #[s, x], argTypes := #[28, 28] })
    {B : Nat} {v : Value} {l : List Bs} {w0 wr : World} (hs : a.eval s = v) (hI : TAt B v l w0 wr) (hw : Below wr.heap.size wr w) (A : Option Addr) (y : List Bs) (m c : Nat) (hm : y.length = m) (hx : a.eval x = .slice A m c) (hr : RdS w A y) (hn : l.length + y.length ≤ 68719476736)
    (h : ∀ v' w', Hid (TAt B v' (l ++ y) w0 w') → Hid (w.grownBy w' v.ownBlock) → wpList Try.prog ops Q rest (a.put o.dst v') w') : wpList Try.prog ops Q (o :: rest) a w := by
  subst hm
  refine wpList_step fun K hK => ?_
  rw [if_pos hgd]
  obtain ⟨v', w', hrun, h1, h2⟩ := run_append_txts w B v l.length (txtCells l) (hI.own hw) A y c hr hn (by have := hI.2.1.size; have := hI.2.2; have := hw.size; omega) o.type
  unfold Oper.wp
  simp [execOp, ho, resolve, invoke, builtin, hs, hx, hrun, Result.andThen]
  exact hK _ _ (h v' w' (hI.push hw h1 h2) h2)
/-- One text in a block of its own. -/
theorem rds_one (w : World) (x : Bs) (t : TypeId) : RdS (w.alloc (.cells #[.string (strOf x)] t)) (some ⟨w.heap.size, 0, none⟩) [x] := by
  intro _
  refine ⟨_, _, rfl, by rw [World.size_alloc]; omega, fun j y hy => ?_⟩
  have hj : j = 0 := by
    have := (List.getElem?_eq_some_iff.1 hy).1
    simp at this
    exact this
  subst hj
  obtain rfl : x = y := by simpa using hy
  rw [World.cell?_alloc_at _ _ _ _ rfl]
  rfl
/-- A row of texts that is made as it stands. -/
theorem rds_alloc (w : World) (l : List Bs) (t : TypeId) (fz : Nat × Nat) : RdS (w.alloc (.cells (txtCells l).toArray t fz)) (some ⟨w.heap.size, 0, none⟩) l := fun _ => by
  refine ⟨_, _, rfl, by rw [World.size_alloc]; omega, fun j x hx => ?_⟩
  rw [cell_of_row _ w.heap.size (0 + j) _ _ _ (heap_alloc_new w _), Nat.zero_add]
  simp only [List.getElem?_toArray, txtCells, List.getElem?_map, hx, Option.map_some]
end Go.Proofs.Ytombmeppdhhjhaa

/-
  OWN WORK. Trees: plain mathematics: what each call answers and leaves.
-/
namespace Go.Proofs.Ytombmeppdhhjhaa
open Go.RowKit
namespace Tr
/-- A name, and its node. -/
abbrev Nm := Bs × Int
/-- A node, its bytes, its names. -/
structure En where
  nd : Nd
  data : Bs
  names : List Nm
abbrev T := List En
/-! Texts in their order. -/
def less (a b : Bs) : Bool := Op.bytesLess a b
theorem less_eq : ∀ (a b : Bs), less a b = decide (a < b)
  | [], [] => by simp [less, Op.bytesLess]
  | _ :: _, [] => by simp [less, Op.bytesLess]
  | [], _ :: _ => by simp [less, Op.bytesLess]
  | a :: x, b :: y => by
    have h := less_eq x y
    unfold less at h ⊢
    rw [Op.bytesLess, h]
    by_cases h1 : a < b
    · simp [h1, List.cons_lt_cons_iff]
    · by_cases h2 : a = b
      · subst h2; simp [List.cons_lt_cons_iff]
      · simp [h1, h2, List.cons_lt_cons_iff]
theorem less_self (a : Bs) : less a a = false := by rw [less_eq]; simp
theorem less_trans {a b c : Bs} (h : less a b = true) (k : less b c = true) : less a c = true := by
  rw [less_eq] at *
  simp only [decide_eq_true_eq] at *
  exact List.lt_trans h k
theorem less_asym {a b : Bs} (h : less a b = true) : less b a = false := by
  cases k : less b a
  · rfl
  · have := less_trans h k
    rw [less_self] at this
    cases this
theorem less_tri {a b : Bs} (h : less a b = false) (k : less b a = false) : a = b := by
  rw [less_eq] at *
  simp only [decide_eq_false_iff_not] at *
  exact List.le_antisymm k h
theorem less_ne {a b : Bs} (h : less a b = true) : a ≠ b := by
  rintro rfl
  rw [less_self] at h
  cases h
/-! Names of one directory. -/
def get (l : List Nm) (x : Bs) : Option Int := (l.find? fun n => n.1 == x).map (·.2)
def ins (l : List Nm) (x : Bs) (k : Int) : List Nm :=
  match l with
  | [] => [(x, k)]
  | n :: l => if less n.1 x then n :: ins l x k else (x, k) :: n :: l
def del (l : List Nm) (x : Bs) : List Nm := l.filter fun n => !(n.1 == x)
def strike (l : List Nm) (k : Int) : List Nm := l.filter fun n => !(n.2 == k)
/-! Nodes by their ID. -/
def find (t : T) (i : Int) : Option En := t.find? fun e => e.nd.id == i
def kids (t : T) (i : Int) : List Nm := ((find t i).map (·.names)).getD []
def ndOf (t : T) (i : Int) : Nd := ((find t i).map (·.nd)).getD Nd.zero
def kindOf (t : T) (i : Int) : Int := (ndOf t i).kind
def upd (t : T) (i : Int) (f : En → En) : T := t.map fun e => if e.nd.id == i then f e else e
def remove (t : T) (i : Int) : T := t.filter fun e => !(e.nd.id == i)
def insE (t : T) (n : En) : T :=
  match t with
  | [] => [n]
  | e :: t => if e.nd.id < n.nd.id then e :: insE t n else n :: e :: t
def freeFrom : Int → T → Int
  | i, [] => i
  | i, e :: t => if e.nd.id = i then freeFrom (i + 1) t else i
def free (t : T) : Int := freeFrom 0 t
def put (t : T) (d : Int) (x : Bs) (k : Int) : T := upd t d fun e => { e with names := ins e.names x k }
def cut (t : T) (d : Int) (x : Bs) : T := upd t d fun e => { e with names := del e.names x }
def more (t : T) (i : Int) (by_ : Int) : T := upd t i fun e => { e with nd := { e.nd with links := e.nd.links + by_ } }
def fresh (id kind : Int) : En := ⟨⟨id, kind, 1, 0, 0, kind == 2⟩, [], []⟩
def new : T := [fresh 0 2]
/-! Paths. -/
def formed (p : List Bs) : Nat := if p.all Pa.good then (if 8 < p.length then 3 else 0) else 12
def lookF (t : T) : Int → List Bs → Int × Nat
  | i, [] => (i, 0)
  | i, x :: p => if kindOf t i ≠ 2 then (0, 23) else match get (kids t i) x with
    | none => (0, 20)
    | some k => lookF t k p
def look (t : T) (p : List Bs) : Int × Nat := if formed p ≠ 0 then (0, formed p) else lookF t 0 p
/-- The directory of a path's last name, and that name. -/
def place (t : T) (p : List Bs) : Int × Bs × Nat :=
  if p = [] then (0, [], 1)
  else if (lookF t 0 p.dropLast).2 ≠ 0 then (0, [], (lookF t 0 p.dropLast).2)
  else if kindOf t (lookF t 0 p.dropLast).1 ≠ 2 then (0, [], 23)
  else ((lookF t 0 p.dropLast).1, p.getLastD [], 0)
/-- How deep it goes below a node. -/
def high (t : T) : Nat → Int → Nat
  | 0, _ => 0
  | n + 1, i => (kids t i).foldl (fun m k => max m (1 + high t n k.2)) 0
/-- All names below a node, those ahead of each with it. -/
def walk (t : T) : Nat → Int → List Bs → List (List Bs × Int)
  | 0, _, _ => []
  | n + 1, i, p => (kids t i).flatMap fun k => (p ++ [k.1], k.2) :: walk t n k.2 (p ++ [k.1])
def within (l of_ : List Bs) : Bool := of_.isPrefixOf l
/-- A path into a list of paths that rise by what is joined of them. -/
def insP (l : List (List Bs)) (p : List Bs) : List (List Bs) :=
  match l with
  | [] => [p]
  | q :: l => if less (Pa.join q) (Pa.join p) then q :: insP l p else p :: q :: l
def sortP (l : List (List Bs)) : List (List Bs) := l.foldl insP []
def namesOf (t : T) (i : Int) : List (List Bs) := if i = 0 then [[]] else sortP (((walk t 64 0 []).filter fun q => q.2 == i).map (·.1))
/-! The calls. -/
def make (t : T) (p : List Bs) (kind : Int) : (Int × Nat) × T :=
  if formed p ≠ 0 then ((0, formed p), t)
  else if kind ≠ 1 ∧ kind ≠ 2 then ((0, 30), t)
  else if (place t p).2.2 ≠ 0 then ((0, (place t p).2.2), t)
  else if (get (kids t (place t p).1) (place t p).2.1).isSome then ((0, 21), t)
  else if 64 ≤ t.length then ((0, 4), t)
  else ((free t, 0), put (insE t (fresh (free t) kind)) (place t p).1 (place t p).2.1 (free t))
def node (t : T) (i : Int) : Nd × Bool := (ndOf t i, (find t i).isSome)
def list (t : T) (i : Int) : List Bs × Nat :=
  if (find t i).isNone then ([], 20)
  else if kindOf t i ≠ 2 then ([], 23)
  else ((kids t i).map (·.1), 0)
def link (t : T) (p z : List Bs) : Nat × T :=
  if formed p ≠ 0 then (formed p, t)
  else if formed z ≠ 0 then (formed z, t)
  else if (lookF t 0 p).2 ≠ 0 then ((lookF t 0 p).2, t)
  else if kindOf t (lookF t 0 p).1 = 2 then (22, t)
  else if (place t z).2.2 ≠ 0 then ((place t z).2.2, t)
  else if (get (kids t (place t z).1) (place t z).2.1).isSome then (21, t)
  else if 64 ≤ (ndOf t (lookF t 0 p).1).links then (4, t)
  else (0, more (put t (place t z).1 (place t z).2.1 (lookF t 0 p).1) (lookF t 0 p).1 1)
def unlinked (t : T) (p : List Bs) : T := more (cut t (place t p).1 (place t p).2.1) (lookF t 0 p).1 (-1)
def unlink (t : T) (p : List Bs) : Nat × T :=
  if formed p ≠ 0 then (formed p, t)
  else if (lookF t 0 p).2 ≠ 0 then ((lookF t 0 p).2, t)
  else if kindOf t (lookF t 0 p).1 = 2 then (22, t)
  else if (ndOf t (lookF t 0 p).1).links = 1 ∧ (ndOf t (lookF t 0 p).1).shut = true then (0, remove (unlinked t p) (lookF t 0 p).1)
  else (0, unlinked t p)
def rmdir (t : T) (p : List Bs) : Nat × T :=
  if formed p ≠ 0 then (formed p, t)
  else if (lookF t 0 p).2 ≠ 0 then ((lookF t 0 p).2, t)
  else if kindOf t (lookF t 0 p).1 ≠ 2 then (23, t)
  else if p = [] then (1, t)
  else if kids t (lookF t 0 p).1 ≠ [] then (24, t)
  else (0, remove (cut t (place t p).1 (place t p).2.1) (lookF t 0 p).1)
def rename (t : T) (p z : List Bs) : Nat × T :=
  if formed p ≠ 0 then (formed p, t)
  else if formed z ≠ 0 then (formed z, t)
  else if (lookF t 0 p).2 ≠ 0 then ((lookF t 0 p).2, t)
  else if p = [] then (1, t)
  else if (place t z).2.2 ≠ 0 then ((place t z).2.2, t)
  else if kindOf t (lookF t 0 p).1 = 2 ∧ within z p = true then (1, t)
  else if get (kids t (place t z).1) (place t z).2.1 = some (lookF t 0 p).1 then (0, t)
  else if (get (kids t (place t z).1) (place t z).2.1).isSome then (21, t)
  else if 8 < z.length + high t 64 (lookF t 0 p).1 then (3, t)
  else (0, put (cut t (place t p).1 (place t p).2.1) (place t z).1 (place t z).2.1 (lookF t 0 p).1)
/-- The number of the refusal, if the node is no file. -/
def file (t : T) (i : Int) : Nat := if (find t i).isNone then 20 else if kindOf t i = 2 then 22 else 0
def append (t : T) (i : Int) (b : Bs) : Nat × T :=
  if file t i ≠ 0 then (file t i, t)
  else if (ndOf t i).shut = true then (27, t)
  else if 4096 - (ndOf t i).size < (b.length : Int) then (15, t)
  else (0, upd t i fun e => { e with data := e.data ++ b, nd := { e.nd with size := ((e.data ++ b).length : Nat) } })
def dataOf (t : T) (i : Int) : Bs := ((find t i).map (·.data)).getD []
def read (t : T) (i at_ n : Int) : Bs × Nat :=
  if file t i ≠ 0 then ([], file t i)
  else if at_ < 0 ∨ n < 0 then ([], 1)
  else (((dataOf t i).drop at_.toNat).take n.toNat, 0)
def shutE (until_ : Nat) (e : En) : En := { e with nd := { e.nd with shut := true, till := until_ } }
def seal_ (t : T) (i : Int) (until_ : Nat) : Nat × T :=
  if file t i ≠ 0 then (file t i, t)
  else if (ndOf t i).shut = true then (27, t)
  else if 1099511627776 < until_ then (1, t)
  else if (ndOf t i).links = 0 then (0, remove (upd t i (shutE until_)) i)
  else (0, upd t i (shutE until_))
def keep (t : T) (i : Int) (until_ : Nat) : Nat × T :=
  if file t i ≠ 0 then (file t i, t)
  else if (ndOf t i).shut = false then (25, t)
  else if until_ < (ndOf t i).till then (28, t)
  else if 1099511627776 < until_ then (1, t)
  else (0, upd t i fun e => { e with nd := { e.nd with till := until_ } })
def drop (t : T) (i : Int) : Nat × T :=
  if file t i ≠ 0 then (file t i, t)
  else if (ndOf t i).shut = true then (27, t)
  else (0, remove (t.map fun e => { e with names := strike e.names i }) i)
/-! As bytes. -/
def nameBytes (n : Nm) : Bs := Co.wBytes n.1 ++ Co.wShort (Nd.lo16 n.2)
def enBytes (e : En) : Bs := Co.wBytes e.nd.bytes ++ (Co.wBytes e.data ++ (Co.wShort e.names.length ++ e.names.flatMap nameBytes))
def save (t : T) : Bs := Co.wShort t.length ++ t.flatMap enBytes
/-! What is right. -/
structure EnOk (e : En) : Prop where
  nd : e.nd.Right
  size : e.nd.size = (e.data.length : Nat)
  rise : e.names.Pairwise fun a b => less a.1 b.1 = true
  good : ∀ n ∈ e.names, Pa.good n.1 = true
  file : e.nd.kind = 1 → e.names = []
/-- All names: the directory, the text, the node. -/
def flat (t : T) : List (Int × Nm) := t.flatMap fun e => e.names.map fun n => (e.nd.id, n)
def count (t : T) (i : Int) : Nat := (flat t).countP fun x => x.2.2 == i
structure Good (t : T) : Prop where
  root : ∃ r rest, t = r :: rest ∧ r.nd.id = 0 ∧ r.nd.kind = 2
  rise : t.Pairwise fun a b => a.nd.id < b.nd.id
  few : t.length ≤ 64
  each : ∀ e ∈ t, EnOk e
  leads : ∀ e ∈ t, ∀ n ∈ e.names, n.2 ≠ 0 ∧ (find t n.2).isSome = true
  linked : ∀ e ∈ t, (count t e.nd.id : Int) + (if e.nd.id = 0 then 1 else 0) = e.nd.links
  dirs : ∀ e ∈ t, e.nd.kind = 2 → e.nd.links = 1
  shut : ∀ e ∈ t, e.nd.shut = true → e.nd.links ≠ 0
  deep : ∃ dep : Int → Nat, dep 0 = 0 ∧ ∀ e ∈ t, ∀ n ∈ e.names, dep e.nd.id + 1 ≤ 8 ∧ (kindOf t n.2 = 2 → dep n.2 = dep e.nd.id + 1)
end Tr
end Go.Proofs.Ytombmeppdhhjhaa

/-
  OWN WORK. Trees: plain mathematics: what is found behind a change; names in their order.
-/
namespace Go.Proofs.Ytombmeppdhhjhaa
open Go.RowKit
namespace Tr
/-! Names of one directory. -/
theorem get_nil (x : Bs) : get [] x = none := rfl
theorem get_cons (n : Nm) (l : List Nm) (x : Bs) : get (n :: l) x = if n.1 = x then some n.2 else get l x := by
  unfold get
  rw [List.find?_cons]
  by_cases h : n.1 = x
  · rw [if_pos h, beq_iff_eq.2 h]; rfl
  · rw [if_neg h, beq_eq_false_iff_ne.2 h]
theorem get_mem {l : List Nm} {x : Bs} {k : Int} (h : get l x = some k) : (x, k) ∈ l := by
  induction l with
  | nil => cases h
  | cons n l ih =>
    rw [get_cons] at h
    by_cases h1 : n.1 = x
    · rw [if_pos h1] at h
      obtain ⟨a, b⟩ := n
      simp only [Option.some.injEq] at h h1
      subst h h1
      exact .head _
    · rw [if_neg h1] at h
      exact .tail _ (ih h)
def Rise (l : List Nm) : Prop := l.Pairwise fun a b => less a.1 b.1 = true
theorem get_of_mem {l : List Nm} (hr : Rise l) {n : Nm} (h : n ∈ l) : get l n.1 = some n.2 := by
  induction l with
  | nil => cases h
  | cons m l ih =>
    rw [get_cons]
    rcases List.mem_cons.1 h with rfl | h1
    · rw [if_pos rfl]
    · have := (List.pairwise_cons.1 hr).1 n h1
      rw [if_neg (less_ne this), ih (List.pairwise_cons.1 hr).2 h1]
theorem get_none {l : List Nm} {x : Bs} : get l x = none ↔ ∀ n ∈ l, n.1 ≠ x := by
  induction l with
  | nil => simp [get_nil]
  | cons m l ih =>
    rw [get_cons]
    by_cases h : m.1 = x
    · simp [h]
    · rw [if_neg h, ih]; simp [h]
theorem ins_perm (l : List Nm) (x : Bs) (k : Int) : (ins l x k).Perm ((x, k) :: l) := by
  induction l with
  | nil => exact .refl _
  | cons n l ih =>
    unfold ins
    split
    · exact (ih.cons n).trans (.swap _ _ _)
    · exact .refl _
theorem ins_mem {l : List Nm} {x : Bs} {k : Int} {n : Nm} : n ∈ ins l x k ↔ n = (x, k) ∨ n ∈ l := by
  rw [(ins_perm l x k).mem_iff, List.mem_cons]
theorem ins_rise {l : List Nm} (hr : Rise l) {x : Bs} (k : Int) (h : get l x = none) : Rise (ins l x k) := by
  induction l with
  | nil => exact List.pairwise_singleton _ _
  | cons n l ih =>
    have hr2 := List.pairwise_cons.1 hr
    have hn := get_none.1 h
    unfold ins
    split
    · rename_i h1
      refine List.pairwise_cons.2 ⟨fun m hm => ?_, ih hr2.2 (get_none.2 fun m hm => hn m (.tail _ hm))⟩
      rcases ins_mem.1 hm with rfl | hm
      · exact h1
      · exact hr2.1 m hm
    · rename_i h1
      have h2 : less x n.1 = true := by
        cases h3 : less x n.1
        · exact absurd (less_tri (by simpa using h1) h3) (hn n (.head _))
        · rfl
      refine List.pairwise_cons.2 ⟨fun m hm => ?_, hr⟩
      rcases List.mem_cons.1 hm with rfl | hm
      · exact h2
      · exact less_trans h2 (hr2.1 m hm)
theorem get_ins {l : List Nm} (hr : Rise l) {x : Bs} (k : Int) (h : get l x = none) (y : Bs) : get (ins l x k) y = if y = x then some k else get l y := by
  have hi := ins_rise hr k h
  by_cases hy : y = x
  · rw [if_pos hy, hy]
    exact get_of_mem hi (n := (x, k)) (ins_mem.2 (.inl rfl))
  · rw [if_neg hy]
    cases hg : get l y with
    | none =>
      refine get_none.2 fun n hn => ?_
      rcases ins_mem.1 hn with rfl | hn
      · exact fun e => hy e.symm
      · exact get_none.1 hg n hn
    | some j => exact get_of_mem hi (n := (y, j)) (ins_mem.2 (.inr (get_mem hg)))
theorem del_rise {l : List Nm} (hr : Rise l) (x : Bs) : Rise (del l x) := hr.filter _
theorem strike_rise {l : List Nm} (hr : Rise l) (k : Int) : Rise (strike l k) := hr.filter _
theorem get_del {l : List Nm} (x y : Bs) : get (del l x) y = if y = x then none else get l y := by
  induction l with
  | nil => simp [del, get_nil]
  | cons n l ih =>
    unfold del at ih ⊢
    rw [List.filter_cons]
    by_cases h : n.1 = x
    · rw [if_neg (by simp [h]), ih, get_cons]
      by_cases hy : y = x
      · rw [if_pos hy, if_pos hy]
      · rw [if_neg hy, if_neg hy, if_neg (by rw [h]; exact fun e => hy e.symm)]
    · rw [if_pos (by simp [h]), get_cons, ih, get_cons]
      by_cases hy : y = x
      · subst hy; rw [if_neg h, if_pos rfl, if_pos rfl]
      · rw [if_neg hy, if_neg hy]
theorem del_none {l : List Nm} {x : Bs} (h : get l x = none) : del l x = l := by
  unfold del
  rw [List.filter_eq_self]
  intro n hn
  simpa using get_none.1 h n hn
theorem del_perm {l : List Nm} (hr : Rise l) {x : Bs} {k : Int} (h : get l x = some k) : l.Perm ((x, k) :: del l x) := by
  induction l with
  | nil => cases h
  | cons n l ih =>
    have hr2 := List.pairwise_cons.1 hr
    rw [get_cons] at h
    by_cases h1 : n.1 = x
    · rw [if_pos h1] at h
      obtain ⟨a, b⟩ := n
      simp only [Option.some.injEq] at h h1
      subst h h1
      have e : del ((a, b) :: l) a = l := by
        unfold del
        rw [List.filter_cons, if_neg (by simp), List.filter_eq_self]
        intro m hm
        have := less_ne (hr2.1 m hm)
        simpa using fun e => this e.symm
      rw [e]
    · rw [if_neg h1] at h
      have e : del (n :: l) x = n :: del l x := by
        unfold del
        rw [List.filter_cons, if_pos (by simp [h1])]
      rw [e]
      exact ((ih hr2.2 h).cons n).trans (.swap _ _ _)
theorem rise_ext {l m : List Nm} (hl : Rise l) (hm : Rise m) (h : ∀ n, n ∈ l ↔ n ∈ m) : l = m := by
  induction l generalizing m with
  | nil =>
    cases m with
    | nil => rfl
    | cons y m => exact absurd ((h y).2 (.head _)) (by simp)
  | cons x l ih =>
    cases m with
    | nil => exact absurd ((h x).1 (.head _)) (by simp)
    | cons y m =>
      have a := List.pairwise_cons.1 hl
      have b := List.pairwise_cons.1 hm
      have e : x = y := by
        rcases List.mem_cons.1 ((h x).1 (.head _)) with h1 | h1
        · exact h1
        · rcases List.mem_cons.1 ((h y).2 (.head _)) with h2 | h2
          · exact h2.symm
          · have h3 := less_asym (b.1 x h1)
            rw [a.1 y h2] at h3
            cases h3
      subst e
      congr 1
      refine ih a.2 b.2 fun n => ⟨fun hn => ?_, fun hn => ?_⟩
      · rcases List.mem_cons.1 ((h n).1 (.tail _ hn)) with rfl | h1
        · have := a.1 _ hn; rw [less_self] at this; cases this
        · exact h1
      · rcases List.mem_cons.1 ((h n).2 (.tail _ hn)) with rfl | h1
        · have := b.1 _ hn; rw [less_self] at this; cases this
        · exact h1
theorem ins_del {l : List Nm} (hr : Rise l) {x : Bs} {k : Int} (h : get l x = some k) : ins (del l x) x k = l := by
  have hg : get (del l x) x = none := by rw [get_del, if_pos rfl]
  refine rise_ext (ins_rise (del_rise hr x) k hg) hr fun n => ?_
  rw [ins_mem, (del_perm hr h).mem_iff, List.mem_cons]
theorem del_ins {l : List Nm} (hr : Rise l) {x : Bs} (k : Int) (h : get l x = none) : del (ins l x k) x = l := by
  refine rise_ext (del_rise (ins_rise hr k h) x) hr fun n => ?_
  unfold del
  rw [List.mem_filter, ins_mem]
  constructor
  · rintro ⟨rfl | h1, h2⟩
    · simp at h2
    · exact h1
  · intro h1
    exact ⟨.inr h1, by simpa using get_none.1 h n h1⟩
theorem del_comm (l : List Nm) (x y : Bs) : del (del l x) y = del (del l y) x := by
  unfold del
  rw [List.filter_filter, List.filter_filter]
  congr 1
  funext n
  exact Bool.and_comm _ _
theorem ins_comm {l : List Nm} (hr : Rise l) {x y : Bs} (j k : Int) (hx : get l x = none) (hy : get l y = none) (hne : x ≠ y) : ins (ins l x j) y k = ins (ins l y k) x j := by
  have h1 : get (ins l x j) y = none := by rw [get_ins hr j hx, if_neg (fun e => hne e.symm), hy]
  have h2 : get (ins l y k) x = none := by rw [get_ins hr k hy, if_neg hne, hx]
  refine rise_ext (ins_rise (ins_rise hr j hx) k h1) (ins_rise (ins_rise hr k hy) j h2) fun n => ?_
  simp only [ins_mem]
  constructor
  · rintro (h | h | h)
    · exact .inr (.inl h)
    · exact .inl h
    · exact .inr (.inr h)
  · rintro (h | h | h)
    · exact .inr (.inl h)
    · exact .inl h
    · exact .inr (.inr h)
/-! Nodes by their ID. -/
def Ris (t : T) : Prop := t.Pairwise fun a b => a.nd.id < b.nd.id
theorem find_cons (e : En) (t : T) (i : Int) : find (e :: t) i = if e.nd.id = i then some e else find t i := by
  unfold find
  rw [List.find?_cons]
  by_cases h : e.nd.id = i
  · rw [if_pos h, beq_iff_eq.2 h]
  · rw [if_neg h, beq_eq_false_iff_ne.2 h]
theorem find_some {t : T} {i : Int} {e : En} (h : find t i = some e) : e ∈ t ∧ e.nd.id = i := by
  unfold find at h
  exact ⟨List.mem_of_find?_eq_some h, by simpa using List.find?_some h⟩
theorem find_none {t : T} {i : Int} : find t i = none ↔ ∀ e ∈ t, e.nd.id ≠ i := by
  unfold find
  rw [List.find?_eq_none]
  simp
theorem Ris.find {t : T} (hr : Ris t) {e : En} (h : e ∈ t) : find t e.nd.id = some e := by
  induction t with
  | nil => cases h
  | cons a t ih =>
    rw [find_cons]
    rcases List.mem_cons.1 h with rfl | h1
    · rw [if_pos rfl]
    · have := (List.pairwise_cons.1 hr).1 e h1
      rw [if_neg (by omega), ih (List.pairwise_cons.1 hr).2 h1]
/-- The node of an ID, what stands ahead of it and behind. -/
theorem Ris.split {t : T} (hr : Ris t) {i : Int} {e : En} (h : Tr.find t i = some e) : ∃ A B, t = A ++ e :: B ∧ e.nd.id = i ∧ (∀ a ∈ A, a.nd.id < i) ∧ (∀ b ∈ B, i < b.nd.id) := by
  obtain ⟨hm, rfl⟩ := find_some h
  obtain ⟨A, B, rfl⟩ := List.append_of_mem hm
  have h2 := List.pairwise_append.1 hr
  exact ⟨A, B, rfl, rfl, fun a ha => h2.2.2 a ha e (.head _), (List.pairwise_cons.1 h2.2.1).1⟩
theorem upd_none {t : T} {i : Int} (h : ∀ e ∈ t, e.nd.id ≠ i) (f : En → En) : upd t i f = t := by
  unfold upd
  conv => rhs; rw [← List.map_id t]
  apply List.map_congr_left
  intro e he
  rw [if_neg (by simpa using h e he)]
  rfl
theorem upd_app (A B : T) (i : Int) (f : En → En) : upd (A ++ B) i f = upd A i f ++ upd B i f := List.map_append
theorem upd_split {A B : T} {e : En} {i : Int} (he : e.nd.id = i) (hA : ∀ a ∈ A, a.nd.id < i) (hB : ∀ b ∈ B, i < b.nd.id) (f : En → En) : upd (A ++ e :: B) i f = A ++ f e :: B := by
  rw [upd_app, upd_none (fun a ha => by have := hA a ha; omega)]
  have e1 : upd (e :: B) i f = f e :: upd B i f := by
    show (if e.nd.id == i then f e else e) :: _ = _
    rw [if_pos (by simpa using he)]; rfl
  rw [e1, upd_none (fun b hb => by have := hB b hb; omega)]
theorem remove_split {A B : T} {e : En} {i : Int} (he : e.nd.id = i) (hA : ∀ a ∈ A, a.nd.id < i) (hB : ∀ b ∈ B, i < b.nd.id) : remove (A ++ e :: B) i = A ++ B := by
  unfold remove
  rw [List.filter_append, List.filter_cons, if_neg (by simp [he]), List.filter_eq_self.2 (fun a ha => by have := hA a ha; simp; omega), List.filter_eq_self.2 (fun b hb => by have := hB b hb; simp; omega)]
theorem upd_length (t : T) (i : Int) (f : En → En) : (upd t i f).length = t.length := List.length_map _
theorem find_upd {t : T} {i : Int} {f : En → En} (hf : ∀ e, (f e).nd.id = e.nd.id) (j : Int) : find (upd t i f) j = (find t j).map fun e => if j = i then f e else e := by
  induction t with
  | nil => rfl
  | cons e t ih =>
    show find ((if e.nd.id == i then f e else e) :: upd t i f) j = _
    rw [find_cons, find_cons]
    have hid : (if e.nd.id == i then f e else e).nd.id = e.nd.id := by split <;> simp [hf]
    rw [hid]
    by_cases h : e.nd.id = j
    · rw [if_pos h, if_pos h, ← h]; simp
    · rw [if_neg h, if_neg h, ih]
theorem find_remove (t : T) (i j : Int) : find (remove t i) j = if j = i then none else find t j := by
  induction t with
  | nil => simp [remove, find]
  | cons e t ih =>
    unfold remove at ih ⊢
    rw [List.filter_cons]
    by_cases h : e.nd.id = i
    · rw [if_neg (by simp [h]), ih, find_cons]
      by_cases hj : j = i
      · rw [if_pos hj, if_pos hj]
      · rw [if_neg hj, if_neg hj, if_neg (by omega)]
    · rw [if_pos (by simp [h]), find_cons, ih, find_cons]
      by_cases hj : j = i
      · rw [if_pos hj, if_pos hj, if_neg (by omega)]
      · rw [if_neg hj, if_neg hj]
theorem insE_perm (t : T) (n : En) : (insE t n).Perm (n :: t) := by
  induction t with
  | nil => exact .refl _
  | cons e t ih =>
    unfold insE
    split
    · exact (ih.cons e).trans (.swap _ _ _)
    · exact .refl _
theorem insE_mem {t : T} {n e : En} : e ∈ insE t n ↔ e = n ∨ e ∈ t := by
  rw [(insE_perm t n).mem_iff, List.mem_cons]
theorem insE_length (t : T) (n : En) : (insE t n).length = t.length + 1 := (insE_perm t n).length_eq
theorem insE_ris {t : T} (hr : Ris t) {n : En} (h : ∀ e ∈ t, e.nd.id ≠ n.nd.id) : Ris (insE t n) := by
  induction t with
  | nil => exact List.pairwise_singleton _ _
  | cons e t ih =>
    have hr2 := List.pairwise_cons.1 hr
    unfold insE
    split
    · rename_i h1
      refine List.pairwise_cons.2 ⟨fun m hm => ?_, ih hr2.2 fun m hm => h m (.tail _ hm)⟩
      rcases insE_mem.1 hm with rfl | hm
      · exact h1
      · exact hr2.1 m hm
    · rename_i h1
      have h2 : n.nd.id < e.nd.id := by have := h e (.head _); omega
      refine List.pairwise_cons.2 ⟨fun m hm => ?_, hr⟩
      rcases List.mem_cons.1 hm with rfl | hm
      · exact h2
      · have := hr2.1 m hm; omega
theorem find_insE {t : T} (hr : Ris t) {n : En} (h : ∀ e ∈ t, e.nd.id ≠ n.nd.id) (j : Int) : find (insE t n) j = if j = n.nd.id then some n else find t j := by
  have hi := insE_ris hr h
  by_cases hj : j = n.nd.id
  · rw [if_pos hj, hj]
    exact hi.find (insE_mem.2 (.inl rfl))
  · rw [if_neg hj]
    cases hg : find t j with
    | none =>
      refine find_none.2 fun e he => ?_
      rcases insE_mem.1 he with rfl | he
      · exact fun e2 => hj e2.symm
      · exact find_none.1 hg e he
    | some e =>
      obtain ⟨h1, rfl⟩ := find_some hg
      exact hi.find (insE_mem.2 (.inr h1))
/-- Where a node that has the least ID comes to stand. -/
theorem insE_at {t : T} (hr : Ris t) {n : En} (h : ∀ e ∈ t, e.nd.id ≠ n.nd.id) : ∃ A B, t = A ++ B ∧ insE t n = A ++ n :: B ∧ (∀ a ∈ A, a.nd.id < n.nd.id) ∧ (∀ b ∈ B, n.nd.id < b.nd.id) := by
  induction t with
  | nil => exact ⟨[], [], rfl, rfl, by simp, by simp⟩
  | cons e t ih =>
    have hr2 := List.pairwise_cons.1 hr
    unfold insE
    split
    · rename_i h1
      obtain ⟨A, B, h2, h3, h4, h5⟩ := ih hr2.2 fun m hm => h m (.tail _ hm)
      exact ⟨e :: A, B, by rw [h2]; rfl, by rw [h3]; rfl, fun a ha => by
        rcases List.mem_cons.1 ha with rfl | ha
        · exact h1
        · exact h4 a ha, h5⟩
    · rename_i h1
      have h2 : n.nd.id < e.nd.id := by have := h e (.head _); omega
      exact ⟨[], e :: t, rfl, rfl, by simp, fun b hb => by
        rcases List.mem_cons.1 hb with rfl | hb
        · exact h2
        · have := hr2.1 b hb; omega⟩
theorem freeFrom_spec (t : T) (hr : Ris t) (i : Int) (h : ∀ e ∈ t, i ≤ e.nd.id) : ∃ k : Nat, freeFrom i t = i + k ∧ k ≤ t.length ∧ (∀ e ∈ t, e.nd.id ≠ i + k) ∧ (∀ j : Nat, j < k → (t[j]?).map (·.nd.id) = some (i + j)) ∧ (∀ j : Nat, k ≤ j → ∀ e, t[j]? = some e → i + k < e.nd.id) := by
  induction t generalizing i with
  | nil => exact ⟨0, by simp [freeFrom], by simp, by simp, by simp, by simp⟩
  | cons e t ih =>
    have hr2 := List.pairwise_cons.1 hr
    by_cases h1 : e.nd.id = i
    · obtain ⟨k, h2, h3, h4, h5, h6⟩ := ih hr2.2 (i + 1) fun m hm => by have := hr2.1 m hm; omega
      refine ⟨k + 1, by rw [freeFrom, if_pos h1, h2]; omega, by simp only [List.length_cons]; omega, fun m hm => ?_, fun j hj => ?_, fun j hj m hm => ?_⟩
      · rcases List.mem_cons.1 hm with rfl | hm
        · omega
        · have := h4 m hm; omega
      · cases j with
        | zero => simp [h1]
        | succ j =>
          have := h5 j (by omega)
          simp only [List.getElem?_cons_succ, this]
          congr 1; omega
      · cases j with
        | zero => omega
        | succ j =>
          have := h6 j (by omega) m (by simpa using hm)
          omega
    · have h2 := h e (.head _)
      refine ⟨0, by rw [freeFrom, if_neg h1]; simp, by omega, fun m hm => ?_, fun j hj => by omega, fun j hj m hm => ?_⟩
      · rcases List.mem_cons.1 hm with rfl | hm
        · omega
        · have := hr2.1 m hm; omega
      · cases j with
        | zero =>
          obtain rfl : e = m := by simpa using hm
          omega
        | succ j =>
          have := hr2.1 m (List.mem_of_getElem? (by simpa using hm))
          omega
end Tr
end Go.Proofs.Ytombmeppdhhjhaa

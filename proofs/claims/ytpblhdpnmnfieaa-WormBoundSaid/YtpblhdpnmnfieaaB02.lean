/-
  OWN WORK. BaRg, BaSet, CoPure, CpNum, CpBase, CpBack, BaIn64, NoPure, WoCode, WoRules, WoSame, WoNums, PaPure, BaStr, BaText
-/
import Derived.Test.YtpblhdpnmnfieaaB01
import Derived.Lib.Hide
import Derived.OwnWalk
import Derived.WalkSpells

/-
  OWN WORK. Regions by facts: the steps of rows of bytes.
-/
namespace Go.Proofs.Ytpblhdpnmnfieaa
open Go.RowKit

def bRow (l : List UInt8) : Rg.Fact := Rg.row 5 l.length (Lib.byteCells l)

theorem bRow_form {w : World} {v : Value} {l : List UInt8} (h : (bRow l).holds v w) : ∃ A c, v = .slice A l.length c ∧ l.length ≤ c ∧ Rd w A l := by
  have h0 : w.ownsRow 0 5 1 v l.length (Lib.byteCells l) := h
  rcases Nat.eq_zero_or_pos l.length with h1 | h1
  · rcases h0.2 with ⟨rfl, _⟩ | ⟨g, cap, cur, rfl, _, _, hn, _⟩
    · exact ⟨none, 0, by rw [h1], by omega, fun hp => absurd hp (by omega)⟩
    · exact ⟨_, cap, rfl, hn, fun hp => absurd hp (by omega)⟩
  · obtain ⟨g, c, e, hc, _, _, _, hr⟩ := rd_own h0 h1
    exact ⟨_, c, e, hc, hr⟩

section
variable {F : Nat → Rg.Fact} {cons : List (Nat × Nat)} {al : List (Nat × Nat × (Value → Value))} {W0 : World} {V : Nat → Value} {j : Nat} {o : Oper} {b : Act} {w : World}
theorem step_one (x : UInt8) {X : Int} (hX : X = x.toNat) (hop : o.op = .buildSlice 60 1 #[(0, .const (.int .u8 X))]) (hF : F j = bRow [x]) (ha : (al.all fun x => x.1 != j) = true) (hc : Rg.consOf cons j = none) (hg : Rg.Open o V) : Rg.Does1 Try.prog o V b w (Rg.Good F (Rg.consOf cons) (Rg.alias al) W0 V j w) := by
  subst hX
  refine Rg.step_new (.slice (some ⟨w.heap.size, 0, none⟩) 1 1) (w.alloc (.cells #[.int .u8 x.toNat] 5)) (Rg.alias_none ha V _) hc hg ?_ ((Below.refl _ _).alloc (Nat.le_refl _) _) ?_ ?_
  · obtain ⟨dst, op, ty, pos, after, guard⟩ := o
    simp only at hop
    subst hop
    go_simp
  · rw [hF]
    exact own_base (own_one w x)
  · intro k hk
    rw [hF] at hk
    exact own_lt (own_one w x) hk

theorem step_none (hop : o.op = .buildSlice 60 0 #[]) (hF : F j = bRow []) (ha : (al.all fun x => x.1 != j) = true) (hc : Rg.consOf cons j = none) (hg : Rg.Open o V) : Rg.Does1 Try.prog o V b w (Rg.Good F (Rg.consOf cons) (Rg.alias al) W0 V j w) := by
  refine Rg.step_new (.slice (some ⟨w.heap.size, 0, none⟩) 0 0) (w.alloc (.cells #[] 5)) (Rg.alias_none ha V _) hc hg ?_ ((Below.refl _ _).alloc (Nat.le_refl _) _) ?_ ?_
  · obtain ⟨dst, op, ty, pos, after, guard⟩ := o
    simp only at hop
    subst hop
    go_simp
  · rw [hF]
    exact own_base (own_none w)
  · intro k hk
    rw [hF] at hk
    exact own_lt (own_none w) hk

theorem step_app {i : Nat} (l r L : List UInt8) (hL : L = l ++ r) {s x : Operand} {A : Option Addr} {m c : Nat} (hop : o.op = .call { callee := .builtin .append, args := #[s, x], argTypes := #[60, 60] }) (hs : b.eval s = V i) (hx : b.eval x = .slice A m c)
    (hm : r.length = m) (hV : (bRow l).holds (V i) w) (hr : Rd w A r) (hn : l.length + r.length ≤ 1099511627776) (hF : F j = bRow L) (hFi : F i = bRow l) (ha : (al.all fun x => x.1 != j) = true) (hc : Rg.consOf cons j = some i) (hg : Rg.Open o V) : Rg.Does1 Try.prog o V b w (Rg.Good F (Rg.consOf cons) (Rg.alias al) W0 V j w) := by
  obtain ⟨i0, hi, hz0, hz1, hz2⟩ := info_parts Try.infoU8
  refine .of hg fun K hK => ?_
  refine wp_append_at s x 60 hop 0 5 i0 Try.underlying60 hi hz0 hz1 hz2 (V i) l.length (Lib.byteCells l) hs hV A r m c hm hx hr hn (Nat.zero_le _) ?_
  intro v' w' h1 h2 h3
  have hsrc : Rg.src F (Rg.consOf cons) V j = (V i).ownBlock := by
    unfold Rg.src
    rw [hc]
    show (F i).own (V i) = _
    rw [hFi]
    rfl
  have h4 : w'.ownsRow 0 5 1 v' L.length (Lib.byteCells L) := by
    subst hL
    rw [Lib.byteCells_append, List.length_append]
    exact h1.out
  refine hK v' w' ⟨by rw [hsrc]; exact h2.out, by rw [hF]; exact h4, fun k hk => ?_, Rg.alias_none ha V _⟩
  rw [hF] at hk
  have hk2 : v'.ownBlock = some k := hk
  refine ⟨?_, (own_lt h4 hk2).2⟩
  rcases h3.out with h5 | h5
  · left; rw [hsrc, ← h5]; exact hk2
  · right; rw [h5] at hk2; injection hk2 with hk2; omega

theorem step_row {f : FuncId} {xs : Array Operand} {ts : Array TypeId} (args : Array Value) (l : List UInt8) {n : Nat} (hent : ∀ args w, (callFunc f args).run Try.prog w = .ok (.enter f args) w) (hop : o.op = .call { callee := .value (.func f), args := xs, argTypes := ts }) (hargs : xs.map b.eval = args) (hn : l.length = n) (hF : F j = bRow l) (ha : (al.all fun x => x.1 != j) = true) (hc : Rg.consOf cons j = none) (hg : Rg.Open o V)
    (h : Calls Try.prog f args w fun e w' => ∃ v, e = .returned v ∧ w'.ownsRow w.heap.size 5 1 v n (Lib.byteCells l) ∧ Below w.heap.size w w') : Rg.Does1 Try.prog o V b w (Rg.Good F (Rg.consOf cons) (Rg.alias al) W0 V j w) := by
  subst hn
  refine Rg.step_call args hent hop hargs (fun v => Rg.alias_none ha V v) hc hg (h.mono ?_)
  rintro e w' ⟨v, rfl, h1, h2⟩
  exact ⟨v, rfl, h2, by rw [hF]; exact own_base h1, fun k hk => by rw [hF] at hk; exact own_lt h1 hk⟩

theorem step_num {f : FuncId} {xs : Array Operand} {ts : Array TypeId} (args : Array Value) (x : Value) (hent : ∀ args w, (callFunc f args).run Try.prog w = .ok (.enter f args) w) (hop : o.op = .call { callee := .value (.func f), args := xs, argTypes := ts }) (hargs : xs.map b.eval = args) (hF : F j = Rg.val x) (ha : (al.all fun x => x.1 != j) = true) (hc : Rg.consOf cons j = none) (hg : Rg.Open o V)
    (h : Calls Try.prog f args w fun e w' => e = .returned x ∧ Below w.heap.size w w') : Rg.Does1 Try.prog o V b w (Rg.Good F (Rg.consOf cons) (Rg.alias al) W0 V j w) := by
  refine Rg.step_call args hent hop hargs (fun v => Rg.alias_none ha V v) hc hg (h.mono ?_)
  rintro e w' ⟨rfl, h2⟩
  exact ⟨x, rfl, h2, by rw [hF]; rfl, fun k hk => by rw [hF] at hk; cases hk⟩

/-- A cut. -/
theorem step_slh {t : TypeId} {x y : Operand} {X Y v : Value} (hop : o.op = .slice t x none (some y) none) (hx : b.eval x = X) (hy : b.eval y = Y) (h : (Instr.sliceAt t X none (some Y) none).run Try.prog w = .ok v w) (hF : F j = Rg.val v) (ha : (al.all fun x => x.1 != j) = true) (hc : Rg.consOf cons j = none) (hg : Rg.Open o V) :
    Rg.Does1 Try.prog o V b w (Rg.Good F (Rg.consOf cons) (Rg.alias al) W0 V j w) := by
  refine Rg.step_val v (Rg.alias_none ha V _) hc hg ?_ (by rw [hF]; rfl) (by rw [hF]; rfl)
  obtain ⟨dst, op, ty, pos, after, guard⟩ := o
  simp only at hop
  subst hop
  simp only [execOp, Option.map_some, Option.map_none, hx, hy]
  simp [h, Result.andThen]

theorem step_sll {t : TypeId} {x y : Operand} {X Y v : Value} (hop : o.op = .slice t x (some y) none none) (hx : b.eval x = X) (hy : b.eval y = Y) (h : (Instr.sliceAt t X (some Y) none none).run Try.prog w = .ok v w) (hF : F j = Rg.val v) (ha : (al.all fun x => x.1 != j) = true) (hc : Rg.consOf cons j = none) (hg : Rg.Open o V) :
    Rg.Does1 Try.prog o V b w (Rg.Good F (Rg.consOf cons) (Rg.alias al) W0 V j w) := by
  refine Rg.step_val v (Rg.alias_none ha V _) hc hg ?_ (by rw [hF]; rfl) (by rw [hF]; rfl)
  obtain ⟨dst, op, ty, pos, after, guard⟩ := o
  simp only at hop
  subst hop
  simp only [execOp, Option.map_some, Option.map_none, hx, hy]
  simp [h, Result.andThen]

theorem step_sllh {t : TypeId} {x y z : Operand} {X Y Z v : Value} (hop : o.op = .slice t x (some y) (some z) none) (hx : b.eval x = X) (hy : b.eval y = Y) (hz : b.eval z = Z) (h : (Instr.sliceAt t X (some Y) (some Z) none).run Try.prog w = .ok v w) (hF : F j = Rg.val v) (ha : (al.all fun x => x.1 != j) = true) (hc : Rg.consOf cons j = none) (hg : Rg.Open o V) :
    Rg.Does1 Try.prog o V b w (Rg.Good F (Rg.consOf cons) (Rg.alias al) W0 V j w) := by
  refine Rg.step_val v (Rg.alias_none ha V _) hc hg ?_ (by rw [hF]; rfl) (by rw [hF]; rfl)
  obtain ⟨dst, op, ty, pos, after, guard⟩ := o
  simp only at hop
  subst hop
  simp only [execOp, Option.map_some, Option.map_none, hx, hy, hz]
  simp [h, Result.andThen]

/-- A value that hangs on no memory. -/
theorem step_mv (x : Value) (h : (execOp b.eval o).run Try.prog w = .ok (.value x) w) (hF : F j = Rg.val x) (ha : (al.all fun x => x.1 != j) = true) (hc : Rg.consOf cons j = none) (hg : Rg.Open o V) : Rg.Does1 Try.prog o V b w (Rg.Good F (Rg.consOf cons) (Rg.alias al) W0 V j w) :=
  Rg.step_val x (Rg.alias_none ha V _) hc hg h (by rw [hF]; rfl) (by rw [hF]; rfl)
/-- A value told out of another. -/
theorem step_as (i : Nat) (f : Value → Value) (hal : al.filter (fun x => x.1 == j) = [(j, i, f)]) (h : (execOp b.eval o).run Try.prog w = .ok (.value (f (V i))) w) (hF : F j = Rg.any) (hc : Rg.consOf cons j = none) (hg : Rg.Open o V) : Rg.Does1 Try.prog o V b w (Rg.Good F (Rg.consOf cons) (Rg.alias al) W0 V j w) :=
  Rg.step_val _ (Rg.alias_one hal V) hc hg h (by rw [hF]; trivial) (by rw [hF]; rfl)
theorem made_bytes (n : Nat) : (madeCells (Value.int .u8 0).cells (n * 1)).toList = Lib.byteCells (List.replicate n 0) := by
  apply List.ext_getElem
  · simp [madeCells, Lib.byteCells]
  · intro i h1 h2
    simp [madeCells, Lib.byteCells, Value.cells]
    rw [Nat.mod_one]; rfl
/-- A row of noughts. -/
theorem step_make (n : Nat) {x y : Operand} (hop : o.op = .makeSlice 60 x y) (hx : b.eval x = .int .i64 (n : Int)) (hy : b.eval y = .int .i64 (n : Int)) (hn : n ≤ 1099511627776) (hF : F j = bRow (List.replicate n 0)) (ha : (al.all fun x => x.1 != j) = true) (hc : Rg.consOf cons j = none) (hg : Rg.Open o V) :
    Rg.Does1 Try.prog o V b w (Rg.Good F (Rg.consOf cons) (Rg.alias al) W0 V j w) := by
  obtain ⟨i0, hi, hz0, hz1, hz2⟩ := info_parts Try.infoU8
  obtain ⟨w', hrun, r1, r2⟩ := run_make_full (P := Try.prog) w w.heap.size 60 5 i0 (.int .u8 0) 1 Try.underlying60 hi hz0 hz1 .i64 .i64 n (by rw [hz2]; omega) (by unfold maxLen; omega) (Nat.le_refl _)
  rw [made_bytes] at r1
  refine Rg.step_new (.slice (some ⟨w.heap.size, 0, none⟩) n n) w' (Rg.alias_none ha V _) hc hg ?_ ((Below.refl _ _).grown r2 (Nat.le_refl _) (fun k hk => by cases hk)) ?_ ?_
  · obtain ⟨dst, op, ty, pos, after, guard⟩ := o
    simp only at hop
    subst hop
    simp [execOp, hx, hy, hrun, Result.andThen]
  · rw [hF]
    show w'.ownsRow 0 _ 1 _ (List.replicate n (0 : UInt8)).length _
    rw [List.length_replicate]
    exact own_base r1
  · intro k hk
    rw [hF] at hk
    exact own_lt r1 hk
end
end Go.Proofs.Ytpblhdpnmnfieaa

/-
  OWN WORK. Rows of a call's own that are written place by place.
-/
namespace Go.Proofs.Ytpblhdpnmnfieaa
open Go.RowKit

/-- A row of the call's own, written at one place. -/
theorem own_set {w : World} {base g c n : Nat} {l : List UInt8} (h : w.ownsRow base 5 1 (.slice (some ⟨g, 0, none⟩) n c) n (Lib.byteCells l)) (k : Nat) (_hk : k < n) (x : UInt8) (X : Int) (hX : X = x.toNat) :
    (w.setCell ⟨g, k, none⟩ (.int .u8 X)).ownsRow base 5 1 (.slice (some ⟨g, 0, none⟩) n c) n (Lib.byteCells (l.set k x)) := by
  subst hX
  refine ⟨by have := h.1; simpa [Lib.byteCells] using this, ?_⟩
  rcases h.2 with ⟨h1, _⟩ | ⟨g', cap, cur, h1, h2, h3, h4, h5, h6, h7⟩
  · cases h1
  · injection h1 with h1 h1b h1c
    injection h1 with h1
    injection h1 with h1
    subst h1
    refine .inr ⟨g, cap, cur.setIfInBounds k (.int .u8 x.toNat), by rw [h1c], h2, ?_, h4, h5, by simpa using h6, ?_⟩
    · simp [World.setCell, Array.getElem?_modify, h3]
    · rw [Array.toList_setIfInBounds, List.take_set, h7]
      simp [Lib.byteCells, List.map_set]
/-- .. and one that lies elsewhere. -/
theorem own_far {w : World} {base n : Nat} {v : Value} {xs : List Value} (h : w.ownsRow base 5 1 v n xs) (p : Addr) (hne : v.ownBlock ≠ some p.block) (u : Value) : (w.setCell p u).ownsRow base 5 1 v n xs := by
  refine ⟨h.1, ?_⟩
  rcases h.2 with h2 | ⟨g, cap, cur, h3, h4, h5, h6⟩
  · exact .inl h2
  · subst h3
    refine .inr ⟨g, cap, cur, rfl, h4, ?_, h6⟩
    rw [Below.heap_setCell w p u g (fun e => hne (by rw [← e]; rfl))]
    exact h5
theorem own_frozen {w : World} {base g c n : Nat} {xs : List Value} (h : w.ownsRow base 5 1 (.slice (some ⟨g, 0, none⟩) n c) n xs) (k : Nat) : w.frozen? ⟨g, k, none⟩ = false := by
  rcases h.2 with ⟨h1, _⟩ | ⟨g', cap, cur, h1, h2, h3, _⟩
  · cases h1
  · injection h1 with h1
    injection h1 with h1
    injection h1 with h1
    subst h1
    simp [World.frozen?, h3]
theorem own_addr {w : World} {base n c : Nat} {X : Option Addr} {xs : List Value} (h : w.ownsRow base 5 1 (.slice X n c) n xs) (hn : 0 < n) : ∃ g, X = some ⟨g, 0, none⟩ := by
  rcases h.2 with ⟨_, h0⟩ | ⟨g, cap, cur, h1, _⟩
  · omega
  · injection h1 with h1
    exact ⟨g, h1⟩
/-- A byte of it. -/
theorem own_byte {w : World} {base g c n : Nat} {l : List UInt8} (h : w.ownsRow base 5 1 (.slice (some ⟨g, 0, none⟩) n c) n (Lib.byteCells l)) (k : Nat) (hk : k < n) : w.cell? ⟨g, k, none⟩ = some (.int .u8 (l.getD k 0).toNat) := by
  obtain ⟨g', c', e, _, _, _, hlen, hr⟩ := rd_own h (by omega)
  injection e with e
  injection e with e
  injection e with e
  subst e
  obtain ⟨b, off, e, _, hc⟩ := hr.at_ (by omega)
  injection e with e
  injection e with e1 e2
  subst e1 e2
  have := hc k (by omega)
  rwa [Nat.zero_add] at this
theorem Rd.byte {w : World} {b off : Nat} {l : List UInt8} (h : Rd w (some ⟨b, off, none⟩) l) (j : Nat) (hj : j < l.length) : w.cell? ⟨b, off + j, none⟩ = some (.int .u8 (l.getD j 0).toNat) := by
  obtain ⟨b', off', e, _, hc⟩ := h.at_ (by omega)
  injection e with e
  injection e with e1 e2
  subst e1 e2
  exact hc j hj
/-- A row of noughts that is filled from its beginning. -/
theorem fill_set (L : List UInt8) (k : Nat) (h : k < L.length) : (L.take k ++ List.replicate (L.length - k) 0).set k (L.getD k 0) = L.take (k + 1) ++ List.replicate (L.length - (k + 1)) 0 := by
  have hl : (L.take k).length = k := by rw [List.length_take]; omega
  rw [List.set_append_right _ _ (by omega), hl, Nat.sub_self]
  have e1 : List.replicate (L.length - k) (0 : UInt8) = 0 :: List.replicate (L.length - (k + 1)) 0 := by
    rw [show L.length - k = (L.length - (k + 1)) + 1 by omega]; rfl
  rw [e1, List.set_cons_zero, List.take_succ_eq_append_getElem h, List.append_assoc]
  simp [List.getD, List.getElem?_eq_getElem h]
theorem Later.setCell {w0 w : World} (h : Later w0 w) (p : Addr) (hp : w0.heap.size ≤ p.block) (u : Value) : Later w0 (w.setCell p u) := Below.setCell h hp u
end Go.Proofs.Ytpblhdpnmnfieaa

/-
  OWN WORK. Numbers and texts as bytes: plain mathematics.
-/
namespace Go.Proofs.Ytpblhdpnmnfieaa
open Go.RowKit
namespace Co
def wByte (n : Nat) : List UInt8 := [UInt8.ofNat n]
def wShort (n : Nat) : List UInt8 := [UInt8.ofNat (n / 256), UInt8.ofNat n]
def wLong (n : Nat) : List UInt8 := (List.range 8).map fun j => UInt8.ofNat (n / 2 ^ (56 - 8 * j))
def wFlag (f : Bool) : List UInt8 := [if f then 1 else 0]
def wBytes (x : List UInt8) : List UInt8 := wShort (x.take 65535).length ++ x.take 65535
theorem wLong_length (n : Nat) : (wLong n).length = 8 := by simp [wLong]
theorem wLong_take (n j : Nat) (h : j < 8) : (wLong n).take (j + 1) = (wLong n).take j ++ [UInt8.ofNat (n / 2 ^ (56 - 8 * j))] := by
  rw [List.take_succ_eq_append_getElem (by rw [wLong_length]; exact h)]
  simp [wLong]
/-- What a reader has left, and its refusal (0: none). -/
structure Rs where
  rem : List UInt8
  why : Nat
/-- n bytes, or none. -/
def raw (n : Int) (s : Rs) : List UInt8 × Rs :=
  if s.why ≠ 0 ∨ n < 1 then ([], s) else if (s.rem.length : Int) < n then ([], { s with why := 10 }) else (s.rem.take n.toNat, { s with rem := s.rem.drop n.toNat })
def beVal (l : List UInt8) : Nat := l.foldl (fun x b => (x * 256 + b.toNat) % 18446744073709551616) 0
def num (n : Int) (s : Rs) : Nat × Rs := (beVal (raw n s).1, (raw n s).2)
def flag (s : Rs) : Bool × Rs := (decide ((num 1 s).1 = 1), if 1 < (num 1 s).1 then { (num 1 s).2 with why := 12 } else (num 1 s).2)
def bytes (s : Rs) : List UInt8 × Rs := raw ((num 2 s).1 : Nat) (num 2 s).2
def left (s : Rs) : Nat := if s.why ≠ 0 then 0 else s.rem.length
def fin (s : Rs) : Nat := if s.why ≠ 0 then s.why else if 0 < s.rem.length then 11 else 0
end Co
/-- The row that is made empty. -/
theorem MAt.empty (w : World) : MAt w.heap.size (.slice (some ⟨w.heap.size, 0, none⟩) 0 0) [] w (w.alloc (.cells #[] 5)) :=
  ⟨⟨rfl, .inr ⟨w.heap.size, 0, #[], rfl, Nat.le_refl _, heap_alloc_new w _, Nat.le_refl _, by unfold maxLen; omega, rfl, rfl⟩⟩, below_new w _, rfl⟩
theorem rd_cells (w : World) (l : List UInt8) (cs : Array Value) (t : TypeId) (fz : Nat × Nat) (h : cs = (Lib.byteCells l).toArray) : Rd (w.alloc (.cells cs t fz)) (some ⟨w.heap.size, 0, none⟩) l := by
  subst h; exact rd_alloc w l t fz
theorem u8_cast (n : Nat) : (((UInt8.ofNat n).toNat : Nat) : Int) = (n : Int) % 256 := by rw [UInt8.toNat_ofNat']; omega
end Go.Proofs.Ytpblhdpnmnfieaa

/-
  OWN WORK. What is read of what was written: plain mathematics.
-/
namespace Go.Proofs.Ytpblhdpnmnfieaa
open Go.RowKit
namespace Co
theorem raw_app (x r : List UInt8) (n : Int) (h : n = x.length) (h1 : 1 ≤ n) : raw n ⟨x ++ r, 0⟩ = (x, ⟨r, 0⟩) := by
  subst h
  unfold raw
  rw [if_neg (by simp only [ne_eq, not_true_eq_false, false_or]; omega), if_neg (by simp only [List.length_append]; omega)]
  simp
theorem num_app (x r : List UInt8) (n : Int) (h : n = x.length) (h1 : 1 ≤ n) : num n ⟨x ++ r, 0⟩ = (beVal x, ⟨r, 0⟩) := by
  unfold num; rw [raw_app x r n h h1]
theorem num_byte (n : Nat) (r : List UInt8) : num 1 ⟨wByte n ++ r, 0⟩ = (n % 256, ⟨r, 0⟩) := by
  rw [num_app _ _ _ (by rfl) (by decide)]
  simp only [beVal, wByte, List.foldl_cons, List.foldl_nil, UInt8.toNat_ofNat']
  congr 1; omega
theorem num_short (n : Nat) (r : List UInt8) : num 2 ⟨wShort n ++ r, 0⟩ = (n % 65536, ⟨r, 0⟩) := by
  rw [num_app _ _ _ (by rfl) (by decide)]
  simp only [beVal, wShort, List.foldl_cons, List.foldl_nil, UInt8.toNat_ofNat']
  congr 1; omega
theorem wLong_is (n : Nat) : wLong n = [UInt8.ofNat (n / 72057594037927936), UInt8.ofNat (n / 281474976710656), UInt8.ofNat (n / 1099511627776), UInt8.ofNat (n / 4294967296), UInt8.ofNat (n / 16777216), UInt8.ofNat (n / 65536), UInt8.ofNat (n / 256), UInt8.ofNat n] := by
  have e : List.range 8 = [0, 1, 2, 3, 4, 5, 6, 7] := by decide
  unfold wLong
  rw [e]
  simp
theorem dig (n d : Nat) (hn : n ≤ 18446744073709551615) : (n / (d * 256) * 256 + n / d % 2 ^ 8) % 18446744073709551616 = n / d := by
  rw [← Nat.div_div_eq_div_mul]
  have h := Nat.div_le_self n d
  generalize n / d = q at h
  omega
theorem num_long (n : Nat) (hn : n ≤ 18446744073709551615) (r : List UInt8) : num 8 ⟨wLong n ++ r, 0⟩ = (n, ⟨r, 0⟩) := by
  rw [num_app _ _ _ (by rw [wLong_length]; rfl) (by decide)]
  simp only [beVal, wLong_is, List.foldl_cons, List.foldl_nil, UInt8.toNat_ofNat']
  have s0 : (0 * 256 + n / 72057594037927936 % 2 ^ 8) % 18446744073709551616 = n / 72057594037927936 := by
    have := Nat.div_lt_of_lt_mul (m := n) (n := 72057594037927936) (k := 256) (by omega)
    generalize n / 72057594037927936 = q at this
    omega
  have s1 := dig n 281474976710656 hn
  have s2 := dig n 1099511627776 hn
  have s3 := dig n 4294967296 hn
  have s4 := dig n 16777216 hn
  have s5 := dig n 65536 hn
  have s6 := dig n 256 hn
  have s7 := dig n 1 hn
  simp only [Nat.reduceMul, Nat.div_one] at s1 s2 s3 s4 s5 s6 s7
  rw [s0, s1, s2, s3, s4, s5, s6, s7]
theorem num_one (b : UInt8) (r : List UInt8) : num 1 ⟨b :: r, 0⟩ = (b.toNat, ⟨r, 0⟩) := by
  rw [show b :: r = [b] ++ r from rfl, num_app _ _ _ (by rfl) (by decide)]
  simp only [beVal, List.foldl_cons, List.foldl_nil]
  have := b.toNat_lt
  congr 1; omega
theorem flag_one (b : UInt8) (r : List UInt8) : flag ⟨b :: r, 0⟩ = (decide (b.toNat = 1), if 1 < b.toNat then ⟨r, 12⟩ else ⟨r, 0⟩) := by
  unfold flag; rw [num_one]
theorem flag_app (f : Bool) (r : List UInt8) : flag ⟨wFlag f ++ r, 0⟩ = (f, ⟨r, 0⟩) := by
  cases f
  · exact flag_one 0 r
  · exact flag_one 1 r
theorem bytes_app (x r : List UInt8) (hx : x.length ≤ 65535) : bytes ⟨wBytes x ++ r, 0⟩ = (x, ⟨r, 0⟩) := by
  have ht : x.take 65535 = x := List.take_of_length_le hx
  unfold bytes wBytes
  rw [ht, List.append_assoc, num_short]
  show raw ((x.length % 65536 : Nat) : Int) ⟨x ++ r, 0⟩ = _
  rw [Nat.mod_eq_of_lt (by omega)]
  by_cases h : x = []
  · subst h; rfl
  · have : 0 < x.length := List.length_pos_iff.2 h
    exact raw_app x r _ rfl (by omega)
theorem raw_short (n : Int) (l : List UInt8) (h1 : 1 ≤ n) (h : (l.length : Int) < n) : raw n ⟨l, 0⟩ = ([], ⟨l, 10⟩) := by
  unfold raw
  rw [if_neg (by simp only [ne_eq, not_true_eq_false, false_or]; omega), if_pos h]
theorem num_lack (n : Int) (l : List UInt8) (h1 : 1 ≤ n) (h : (l.length : Int) < n) : num n ⟨l, 0⟩ = (0, ⟨l, 10⟩) := by
  unfold num; rw [raw_short n l h1 h]; rfl
theorem raw_ref (n : Int) (s : Rs) (h : s.why ≠ 0) : raw n s = ([], s) := by
  unfold raw; rw [if_pos (.inl h)]
theorem num_ref (n : Int) (s : Rs) (h : s.why ≠ 0) : num n s = (0, s) := by
  unfold num; rw [raw_ref n s h]; rfl
theorem flag_ref (s : Rs) (h : s.why ≠ 0) : flag s = (false, s) := by
  unfold flag; rw [num_ref 1 s h]; rfl
theorem bytes_ref (s : Rs) (h : s.why ≠ 0) : bytes s = ([], s) := by
  unfold bytes; rw [num_ref 2 s h]; exact raw_ref _ _ h
theorem left_ref (s : Rs) (h : s.why ≠ 0) : left s = 0 := by unfold left; rw [if_pos h]
theorem fin_ref (s : Rs) (h : s.why ≠ 0) : fin s = s.why := by unfold fin; rw [if_pos h]
end Co
end Go.Proofs.Ytpblhdpnmnfieaa

/-
  OWN WORK. Small laws that the texts of codec lean on.
-/
namespace Go.Proofs.Ytpblhdpnmnfieaa
open Go.RowKit
namespace Co
theorem bits_or64 (x b : Nat) (hb : b < 256) : bits .or .u64 (IntKind.u64.wrap ((x : Int) * (256 : Int))) (b : Int) = (((x * 256 + b) % 18446744073709551616 : Nat) : Int) := by
  show IntKind.u64.wrap ((BitVec.ofInt 64 _ ||| BitVec.ofInt 64 _).toNat : Int) = _
  obtain ⟨y, hy⟩ : ∃ y : Nat, y = (x % 72057594037927936) <<< 8 := ⟨_, rfl⟩
  have hy2 : y = (x % 72057594037927936) * 256 := by rw [hy, Nat.shiftLeft_eq]
  have hx : IntKind.u64.wrap ((x : Int) * (256 : Int)) = (y : Int) := by rw [IntKind.wrap_u64]; omega
  have hor : y ||| b = y + b := by rw [hy]; exact (Nat.shiftLeft_add_eq_or_of_lt (by omega : b < 2 ^ 8) _).symm
  rw [hx, BitVec.ofInt_natCast, BitVec.ofInt_natCast, BitVec.toNat_or, BitVec.toNat_ofNat, BitVec.toNat_ofNat, Nat.mod_eq_of_lt (by omega), Nat.mod_eq_of_lt (by omega), hor]
  rw [IntKind.wrap_u64]
  omega
theorem beVal_snoc (l : List UInt8) (k : Nat) (h : k < l.length) : beVal (l.take (k + 1)) = (beVal (l.take k) * 256 + (l.getD k 0).toNat) % 18446744073709551616 := by
  rw [List.take_succ_eq_append_getElem h, beVal, beVal, List.foldl_append]
  simp only [List.foldl_cons, List.foldl_nil, List.getD, List.getElem?_eq_getElem h, Option.getD_some]
theorem beVal_lt (l : List UInt8) : beVal l < 18446744073709551616 := by
  rcases Nat.eq_zero_or_pos l.length with h | h
  · rw [List.eq_nil_of_length_eq_zero h]; decide
  · obtain ⟨k, hk⟩ : ∃ k, l.length = k + 1 := ⟨l.length - 1, by omega⟩
    rw [← List.take_length (l := l), hk, beVal_snoc l k (by omega)]
    omega
end Co
theorem below_drewN (w : World) (n : Nat) : Below w.heap.size w (w.drewN n) := ⟨rfl, rfl, rfl, Nat.le_refl _, fun _ _ => rfl⟩
theorem own_up {w : World} {B n : Nat} {v : Value} {xs : List Value} (h : w.ownsRow 0 5 1 v n xs) (hb : ∀ b, v.ownBlock = some b → B ≤ b) : w.ownsRow B 5 1 v n xs := by
  refine ⟨h.1, ?_⟩
  rcases h.2 with h2 | ⟨g, cap, cur, rfl, h4, h5⟩
  · exact .inl h2
  · exact .inr ⟨g, cap, cur, rfl, hb g rfl, h5⟩
theorem own_nil (w : World) (B : Nat) : w.ownsRow B 5 1 (.slice none 0 0) 0 (Lib.byteCells []) := ⟨rfl, .inl ⟨rfl, rfl⟩⟩
theorem own_form {w : World} {B : Nat} {v : Value} {l : List UInt8} (h : w.ownsRow B 5 1 v l.length (Lib.byteCells l)) : ∃ X c, v = .slice X l.length c ∧ l.length ≤ c ∧ Rd w X l := bRow_form (own_base h)
theorem num_small1 (s : Co.Rs) : (Co.num 1 s).1 < 256 := by
  unfold Co.num Co.raw
  split
  · exact (by decide : Co.beVal [] < 256)
  · split
    · exact (by decide : Co.beVal [] < 256)
    · show Co.beVal (s.rem.take 1) < 256
      rcases s.rem with _ | ⟨a, t⟩
      · decide
      · have := a.toNat_lt
        simp [Co.beVal]
        omega
theorem num_small2 (s : Co.Rs) : (Co.num 2 s).1 < 65536 := by
  unfold Co.num Co.raw
  split
  · exact (by decide : Co.beVal [] < 65536)
  · split
    · exact (by decide : Co.beVal [] < 65536)
    · show Co.beVal (s.rem.take 2) < 65536
      rcases s.rem with _ | ⟨a, _ | ⟨b, t⟩⟩
      · decide
      · have := a.toNat_lt
        simp [Co.beVal]
        omega
      · have := a.toNat_lt
        have := b.toNat_lt
        simp [Co.beVal]
        omega
theorem num_lt (n : Int) (s : Co.Rs) : (Co.num n s).1 < 18446744073709551616 := Co.beVal_lt _
theorem one_eq (x : Nat) : ((x : Int) == 1) = decide (x = 1) := by rw [Bool.eq_iff_iff]; simp; omega
end Go.Proofs.Ytpblhdpnmnfieaa

/-
  OWN WORK. What was read is what was written: plain mathematics.
-/
namespace Go.Proofs.Ytpblhdpnmnfieaa
open Go.RowKit
namespace Co
theorem raw_inv (k : Nat) (s : Rs) (hk : 1 ≤ k) (h : (raw (k : Int) s).2.why = 0) : s.why = 0 ∧ (raw (k : Int) s).1.length = k ∧ s.rem = (raw (k : Int) s).1 ++ (raw (k : Int) s).2.rem := by
  unfold raw at h ⊢
  by_cases h1 : s.why ≠ 0 ∨ (k : Int) < 1
  · rw [if_pos h1] at h
    rcases h1 with h1 | h1
    · exact absurd h h1
    · omega
  · rw [if_neg h1] at h ⊢
    by_cases h2 : (s.rem.length : Int) < (k : Int)
    · rw [if_pos h2] at h
      exact absurd h (by simp)
    · rw [if_neg h2] at h ⊢
      refine ⟨h, ?_, ?_⟩
      · show (s.rem.take (k : Int).toNat).length = k
        rw [List.length_take]; omega
      · show s.rem = s.rem.take (k : Int).toNat ++ s.rem.drop (k : Int).toNat
        rw [List.take_append_drop]
theorem num_inv (k : Nat) (s : Rs) (hk : 1 ≤ k) (h : (num (k : Int) s).2.why = 0) : s.why = 0 ∧ ∃ x : List UInt8, x.length = k ∧ (num (k : Int) s).1 = beVal x ∧ s.rem = x ++ (num (k : Int) s).2.rem := by
  obtain ⟨h1, h2, h3⟩ := raw_inv k s hk h
  exact ⟨h1, _, h2, rfl, h3⟩
theorem byte_inv (s : Rs) (h : (num 1 s).2.why = 0) : s.why = 0 ∧ (num 1 s).1 < 256 ∧ s.rem = wByte (num 1 s).1 ++ (num 1 s).2.rem := by
  obtain ⟨h1, x, h2, h3, h4⟩ := num_inv 1 s (by omega) h
  have h5 : (num 1 s).1 = beVal x := h3
  have h6 : s.rem = x ++ (num 1 s).2.rem := h4
  match x, h2 with
  | [a], _ =>
    have ha := a.toNat_lt
    have e : beVal [a] = a.toNat := by
      simp only [beVal, List.foldl_cons, List.foldl_nil]
      omega
    rw [e] at h5
    refine ⟨h1, by omega, ?_⟩
    rw [h6, h5]
    simp [wByte]
theorem short_inv (s : Rs) (h : (num 2 s).2.why = 0) : s.why = 0 ∧ (num 2 s).1 < 65536 ∧ s.rem = wShort (num 2 s).1 ++ (num 2 s).2.rem := by
  obtain ⟨h1, x, h2, h3, h4⟩ := num_inv 2 s (by omega) h
  have h5 : (num 2 s).1 = beVal x := h3
  have h6 : s.rem = x ++ (num 2 s).2.rem := h4
  match x, h2 with
  | [a, b], _ =>
    have ha := a.toNat_lt
    have hb := b.toNat_lt
    have e : beVal [a, b] = a.toNat * 256 + b.toNat := by
      simp only [beVal, List.foldl_cons, List.foldl_nil]
      omega
    rw [e] at h5
    refine ⟨h1, by omega, ?_⟩
    rw [h6, h5]
    have e1 : UInt8.ofNat ((a.toNat * 256 + b.toNat) / 256) = a := by
      apply UInt8.toNat_inj.1
      rw [UInt8.toNat_ofNat']
      omega
    have e2 : UInt8.ofNat (a.toNat * 256 + b.toNat) = b := by
      apply UInt8.toNat_inj.1
      rw [UInt8.toNat_ofNat']
      omega
    simp only [wShort, e1, e2]
theorem long_inv (s : Rs) (h : (num 8 s).2.why = 0) : s.why = 0 ∧ (num 8 s).1 ≤ 18446744073709551615 ∧ s.rem = wLong (num 8 s).1 ++ (num 8 s).2.rem := by
  obtain ⟨h1, x, h2, h3, h4⟩ := num_inv 8 s (by omega) h
  have h5 : (num 8 s).1 = beVal x := h3
  have h6 : s.rem = x ++ (num 8 s).2.rem := h4
  match x, h2 with
  | [a0, a1, a2, a3, a4, a5, a6, a7], _ =>
    have b0 := a0.toNat_lt
    have b1 := a1.toNat_lt
    have b2 := a2.toNat_lt
    have b3 := a3.toNat_lt
    have b4 := a4.toNat_lt
    have b5 := a5.toNat_lt
    have b6 := a6.toNat_lt
    have b7 := a7.toNat_lt
    obtain ⟨v, hv⟩ : ∃ v, v = beVal [a0, a1, a2, a3, a4, a5, a6, a7] := ⟨_, rfl⟩
    have e : v = ((((((a0.toNat * 256 + a1.toNat) * 256 + a2.toNat) * 256 + a3.toNat) * 256 + a4.toNat) * 256 + a5.toNat) * 256 + a6.toNat) * 256 + a7.toNat := by
      rw [hv]
      simp only [beVal, List.foldl_cons, List.foldl_nil]
      omega
    rw [← hv] at h5
    refine ⟨h1, by omega, ?_⟩
    rw [h6, h5, wLong_is]
    have f : ∀ (d : Nat) (a : UInt8), v / d % 256 = a.toNat → UInt8.ofNat (v / d) = a := fun d a hh => by
      apply UInt8.toNat_inj.1
      rw [UInt8.toNat_ofNat']
      exact hh
    have f7 : UInt8.ofNat v = a7 := by
      apply UInt8.toNat_inj.1
      rw [UInt8.toNat_ofNat']
      omega
    rw [f 72057594037927936 a0 (by omega), f 281474976710656 a1 (by omega), f 1099511627776 a2 (by omega), f 4294967296 a3 (by omega), f 16777216 a4 (by omega), f 65536 a5 (by omega), f 256 a6 (by omega), f7]
theorem flag_inv (s : Rs) (h : (flag s).2.why = 0) : s.why = 0 ∧ s.rem = wFlag (flag s).1 ++ (flag s).2.rem := by
  by_cases h1 : 1 < (num 1 s).1
  · exfalso
    unfold flag at h
    rw [if_pos h1] at h
    exact absurd h (by simp)
  · have e : flag s = (decide ((num 1 s).1 = 1), (num 1 s).2) := by unfold flag; rw [if_neg h1]
    rw [e] at h ⊢
    obtain ⟨h2, h3, h4⟩ := byte_inv s h
    refine ⟨h2, ?_⟩
    rw [h4]
    show wByte _ ++ _ = wFlag (decide ((num 1 s).1 = 1)) ++ _
    congr 1
    rcases Nat.lt_or_ge (num 1 s).1 1 with h5 | h5
    · have h6 : (num 1 s).1 = 0 := by omega
      rw [h6]; rfl
    · have h6 : (num 1 s).1 = 1 := by omega
      rw [h6]; rfl
theorem fin_inv (s : Rs) (h : fin s = 0) : s.why = 0 ∧ s.rem = [] := by
  unfold fin at h
  by_cases h1 : s.why = 0
  · rw [if_neg (by simpa using h1)] at h
    refine ⟨h1, ?_⟩
    by_cases h2 : 0 < s.rem.length
    · rw [if_pos h2] at h
      exact absurd h (by decide)
    · exact List.eq_nil_of_length_eq_zero (by omega)
  · rw [if_pos h1] at h
    exact absurd h h1
end Co
end Go.Proofs.Ytpblhdpnmnfieaa

/-
  OWN WORK. The reach of int.
-/
namespace Go.Proofs.Ytpblhdpnmnfieaa
open Go.RowKit
def In64 (n : Int) : Prop := -9223372036854775808 ≤ n ∧ n ≤ 9223372036854775807
end Go.Proofs.Ytpblhdpnmnfieaa

/-
  OWN WORK. Nodes: plain mathematics.
-/
namespace Go.Proofs.Ytpblhdpnmnfieaa
open Go.RowKit
/-- What stands at a name. -/
structure Nd where
  id : Int
  kind : Int
  links : Int
  size : Int
  till : Nat
  shut : Bool
namespace Nd
def val (n : Nd) : Value := .agg #[.int .i64 n.id, .int .i64 n.kind, .int .i64 n.links, .int .i64 n.size, .int .u64 (n.till : Nat), .bool n.shut]
def zero : Nd := ⟨0, 0, 0, 0, 0, false⟩
/-- A node of the program's numbers. -/
structure Ok (n : Nd) : Prop where
  id : In64 n.id
  kind : In64 n.kind
  links : In64 n.links
  size : In64 n.size
  till : n.till ≤ 18446744073709551615
theorem zero_ok : zero.Ok := by constructor <;> simp [zero, In64]
def Right (n : Nd) : Prop :=
  0 ≤ n.id ∧ n.id ≤ 65535 ∧ 0 ≤ n.links ∧ n.links ≤ 65535 ∧ 0 ≤ n.size ∧ n.size ≤ 4096 ∧ n.till ≤ 1099511627776 ∧ (n.kind = 1 ∨ n.kind = 2 ∧ n.size = 0 ∧ n.till = 0 ∧ n.shut = true)
instance (n : Nd) : Decidable n.Right := by unfold Right; infer_instance
def right (n : Nd) : Bool := decide n.Right
def same (a b : Nd) : Bool := a.id == b.id && (a.kind == b.kind && (a.links == b.links && (a.size == b.size && (a.till == b.till && a.shut == b.shut))))
theorem same_iff (a b : Nd) : a.same b = true ↔ a = b := by
  obtain ⟨a1, a2, a3, a4, a5, a6⟩ := a
  obtain ⟨b1, b2, b3, b4, b5, b6⟩ := b
  simp [same, Nd.mk.injEq]
theorem same_self (a : Nd) : a.same a = true := (same_iff a a).2 rfl
theorem same_no {a b : Nd} (h : a ≠ b) : a.same b = false := by
  cases h1 : a.same b
  · rfl
  · exact absurd ((same_iff a b).1 h1) h
/-- The lowest bits. -/
def lo16 (x : Int) : Nat := (x % 65536).toNat
def lo8 (x : Int) : Nat := (x % 256).toNat
def bytes (n : Nd) : List UInt8 := Co.wShort (lo16 n.id) ++ (Co.wByte (lo8 n.kind) ++ (Co.wShort (lo16 n.links) ++ (Co.wShort (lo16 n.size) ++ (Co.wLong n.till ++ Co.wFlag n.shut))))
theorem bytes_length (n : Nd) : n.bytes.length = 16 := by
  simp only [bytes, List.length_append, Co.wLong_length]
  rfl
end Nd
/-- The fields, read one behind the other. -/
def ndRead (L : List UInt8) : Nd × Co.Rs :=
  let p1 := Co.num 2 ⟨L, 0⟩
  let p2 := Co.num 1 p1.2
  let p3 := Co.num 2 p2.2
  let p4 := Co.num 2 p3.2
  let p5 := Co.num 8 p4.2
  let p6 := Co.flag p5.2
  (⟨(p1.1 : Nat), (p2.1 : Nat), (p3.1 : Nat), (p4.1 : Nat), p5.1, p6.1⟩, p6.2)
def ndDec (L : List UInt8) : Nd × Nat :=
  if Co.fin (ndRead L).2 ≠ 0 ∨ (ndRead L).1.right = false then (Nd.zero, 12) else ((ndRead L).1, 0)
theorem ndRead_ok (L : List UInt8) : (ndRead L).1.Ok := by
  have h1 := num_small2 ⟨L, 0⟩
  have h2 := num_small1 (Co.num 2 ⟨L, 0⟩).2
  have h3 := num_small2 (Co.num 1 (Co.num 2 ⟨L, 0⟩).2).2
  have h4 := num_small2 (Co.num 2 (Co.num 1 (Co.num 2 ⟨L, 0⟩).2).2).2
  have h5 := num_lt 8 (Co.num 2 (Co.num 2 (Co.num 1 (Co.num 2 ⟨L, 0⟩).2).2).2).2
  constructor
  · show In64 (((Co.num 2 ⟨L, 0⟩).1 : Nat) : Int); unfold In64; omega
  · show In64 (((Co.num 1 (Co.num 2 ⟨L, 0⟩).2).1 : Nat) : Int); unfold In64; omega
  · show In64 (((Co.num 2 (Co.num 1 (Co.num 2 ⟨L, 0⟩).2).2).1 : Nat) : Int); unfold In64; omega
  · show In64 (((Co.num 2 (Co.num 2 (Co.num 1 (Co.num 2 ⟨L, 0⟩).2).2).2).1 : Nat) : Int); unfold In64; omega
  · show (Co.num 8 (Co.num 2 (Co.num 2 (Co.num 1 (Co.num 2 ⟨L, 0⟩).2).2).2).2).1 ≤ 18446744073709551615; omega
theorem ndDec_cases (L : List UInt8) : ndDec L = (Nd.zero, 12) ∨ (ndDec L).2 = 0 := by
  unfold ndDec
  split
  · exact .inl rfl
  · exact .inr rfl
theorem ndDec_ok (L : List UInt8) : (ndDec L).1.Ok := by
  unfold ndDec
  split
  · exact Nd.zero_ok
  · exact ndRead_ok L
/-- What is read of what was written. -/
theorem ndDec_bytes (n : Nd) (h : n.Right) : ndDec n.bytes = (n, 0) := by
  have hr : n.right = true := by simpa [Nd.right] using h
  obtain ⟨h1, h2, h3, h4, h5, h6, h7, h8⟩ := h
  obtain ⟨id, kind, links, size, till, shut⟩ := n
  simp only at h1 h2 h3 h4 h5 h6 h7 h8
  have e : ndRead (Nd.bytes ⟨id, kind, links, size, till, shut⟩) = (⟨id, kind, links, size, till, shut⟩, ⟨[], 0⟩) := by
    unfold ndRead Nd.bytes
    simp only [Co.num_short, Co.num_byte, Co.num_long till (by omega)]
    have ef := Co.flag_app shut []
    rw [List.append_nil] at ef
    rw [ef]
    have e1 : ((Nd.lo16 id % 65536 : Nat) : Int) = id := by unfold Nd.lo16; omega
    have e2 : ((Nd.lo8 kind % 256 : Nat) : Int) = kind := by unfold Nd.lo8; omega
    have e3 : ((Nd.lo16 links % 65536 : Nat) : Int) = links := by unfold Nd.lo16; omega
    have e4 : ((Nd.lo16 size % 65536 : Nat) : Int) = size := by unfold Nd.lo16; omega
    rw [e1, e2, e3, e4]
  unfold ndDec
  rw [e]
  rw [if_neg (by simp [hr, Co.fin])]
/-- What is read is just what is written. -/
theorem ndDec_inv (L : List UInt8) (h : (ndDec L).2 = 0) : (ndDec L).1.Right ∧ (ndDec L).1.bytes = L := by
  by_cases h0 : Co.fin (ndRead L).2 ≠ 0 ∨ (ndRead L).1.right = false
  · unfold ndDec at h
    rw [if_pos h0] at h
    exact absurd h (by decide)
  · have e : ndDec L = ((ndRead L).1, 0) := by unfold ndDec; rw [if_neg h0]
    rw [e]
    have hf : Co.fin (ndRead L).2 = 0 := Decidable.byContradiction fun hc => h0 (.inl hc)
    have hr : (ndRead L).1.right = true := by
      cases hh : (ndRead L).1.right
      · exact absurd (.inr hh) h0
      · rfl
    refine ⟨by simpa [Nd.right] using hr, ?_⟩
    obtain ⟨w6, r6⟩ := Co.fin_inv _ hf
    obtain ⟨w5, f6⟩ := Co.flag_inv _ w6
    obtain ⟨w4, l5, f5⟩ := Co.long_inv _ w5
    obtain ⟨w3, l4, f4⟩ := Co.short_inv _ w4
    obtain ⟨w2, l3, f3⟩ := Co.short_inv _ w3
    obtain ⟨w1, l2, f2⟩ := Co.byte_inv _ w2
    obtain ⟨w0, l1, f1⟩ := Co.short_inv _ w1
    have r6' : (Co.flag (Co.num 8 (Co.num 2 (Co.num 2 (Co.num 1 (Co.num 2 ⟨L, 0⟩).2).2).2).2).2).2.rem = [] := r6
    rw [r6', List.append_nil] at f6
    have f1' : L = Co.wShort (Co.num 2 ⟨L, 0⟩).1 ++ (Co.num 2 ⟨L, 0⟩).2.rem := f1
    have k16 : ∀ x : Nat, x < 65536 → Nd.lo16 ((x : Nat) : Int) = x := fun x hx => by unfold Nd.lo16; omega
    have k8 : ∀ x : Nat, x < 256 → Nd.lo8 ((x : Nat) : Int) = x := fun x hx => by unfold Nd.lo8; omega
    dsimp only [Nd.bytes, ndRead]
    rw [k16 _ l1, k8 _ l2, k16 _ l3, k16 _ l4, ← f6, ← f5, ← f4, ← f3, ← f2, ← f1']
theorem Nd.bytes_inj {a b : Nd} (ha : a.Right) (hb : b.Right) (h : a.bytes = b.bytes) : a = b := by
  have h1 := ndDec_bytes a ha
  rw [h, ndDec_bytes b hb] at h1
  exact (congrArg Prod.fst h1).symm
end Go.Proofs.Ytpblhdpnmnfieaa

/-
  OWN WORK. worm: Write, Remove, Keep, kept: what each answers of any node.
-/
namespace Go.Proofs.Ytpblhdpnmnfieaa
open Go.RowKit
namespace Wo
def fileN (k : Int) : Nat := if k = 1 then 0 else if k = 2 then 22 else 30
def write (n : Nd) : Nat := if fileN n.kind ≠ 0 then fileN n.kind else if n.shut then 27 else 0
def remove (n : Nd) (now : Nat) : Nat := if fileN n.kind ≠ 0 then fileN n.kind else if n.shut = false ∨ 1 < n.links then 0 else if now < n.till then 28 else 0
def keep (n : Nd) (u : Nat) : Nat := if fileN n.kind ≠ 0 then fileN n.kind else if n.shut = false then 25 else if u < n.till then 28 else if 1099511627776 < u then 1 else 0
def kept (n : Nd) (now : Nat) : Bool := decide (n.kind = 1) && (n.shut && decide (now < n.till))

theorem right_any (w : World) (t : Int) : Calls Try.prog 34 #[.int .u64 t] w fun e w' => e = .returned (.bool (decide (t ≤ 1099511627776))) ∧ w' = w := by
  go_enter Try.func34, Try.ntmps34
  go_wp2
  go_ret
  exact ⟨rfl, rfl⟩
theorem due_any (w : World) (now until_ : Int) : Calls Try.prog 33 #[.int .u64 now, .int .u64 until_] w fun e w' => e = .returned (.bool (decide (until_ ≤ now))) ∧ w' = w := by
  go_enter Try.func33, Try.ntmps33
  go_wp2
  go_ret
  exact ⟨by simp, rfl⟩

theorem file_any (n : Nd) (w : World) : Calls Try.prog 32 #[n.val] w fun e w' => e = .returned (.int .i64 (fileN n.kind : Nat)) ∧ Below w.heap.size w w' := by
  obtain ⟨id, kind, links, size, till, shut⟩ := n
  show Calls _ _ #[.agg #[.int .i64 id, .int .i64 kind, .int .i64 links, .int .i64 size, .int .u64 (till : Nat), .bool shut]] w fun e w' => e = .returned (.int .i64 (fileN kind : Nat)) ∧ _
  by_cases h1 : kind = 1
  · have HE : fileN kind = 0 := by unfold fileN; rw [if_pos h1]
    rw [HE]
    clear HE
    go_enter Try.func32, Try.ntmps32
    go_wp2
    go_ret
    exact ⟨rfl, below_new _ _⟩
  · by_cases h2 : kind = 2
    · have HE : fileN kind = 22 := by unfold fileN; rw [if_neg h1, if_pos h2]
      rw [HE]
      clear HE
      go_enter Try.func32, Try.ntmps32
      go_wp2
      go_ret
      exact ⟨rfl, below_new _ _⟩
    · have HE : fileN kind = 30 := by unfold fileN; rw [if_neg h1, if_neg h2]
      rw [HE]
      clear HE
      go_enter Try.func32, Try.ntmps32
      go_wp2
      go_ret
      exact ⟨rfl, below_new _ _⟩
theorem file_as (id kind links size : Int) (till : Nat) (shut : Bool) (w : World) : Calls Try.prog 32 #[.agg #[.int .i64 id, .int .i64 kind, .int .i64 links, .int .i64 size, .int .u64 (till : Nat), .bool shut]] w fun e w' => e = .returned (.int .i64 (fileN kind : Nat)) ∧ Below w.heap.size w w' := file_any ⟨id, kind, links, size, till, shut⟩ w
/-- A node's block. -/
abbrev ndc (id kind links size : Int) (till : Nat) (shut : Bool) : List Value := [.int .i64 id, .int .i64 kind, .int .i64 links, .int .i64 size, .int .u64 (till : Nat), .bool shut]

set_option maxHeartbeats 1000000 in
set_option maxRecDepth 100000 in
theorem write_any (n : Nd) (w : World) : Calls Try.prog 17 #[n.val] w fun e w' => e = .returned (.int .i64 (write n : Nat)) ∧ Below w.heap.size w w' := by
  obtain ⟨id, kind, links, size, till, shut⟩ := n
  show Calls _ _ #[.agg #[.int .i64 id, .int .i64 kind, .int .i64 links, .int .i64 size, .int .u64 (till : Nat), .bool shut]] w _
  obtain ⟨r, hr⟩ : ∃ r, r = write ⟨id, kind, links, size, till, shut⟩ := ⟨_, rfl⟩
  rw [← hr]
  have HR := Lib.hid hr
  clear hr
  have HX : Hid (Blk (w.alloc (.cells #[.int .i64 id, .int .i64 kind, .int .i64 links, .int .i64 size, .int .u64 (till : Nat), .bool shut] 26)) w.heap.size 26 (ndc id kind links size till shut)) := Blk.new w _ _
  have HW : Hid (Below w.heap.size w (w.alloc (.cells #[.int .i64 id, .int .i64 kind, .int .i64 links, .int .i64 size, .int .u64 (till : Nat), .bool shut] 26))) := below_new w _
  obtain ⟨f, hf⟩ : ∃ f, f = fileN kind := ⟨_, rfl⟩
  have HF := Lib.hid (file_as id kind links size till shut)
  rw [← hf] at HF
  have HFQ := Lib.hid hf
  clear hf
  go_enter Try.func17, Try.ntmps17
  go_wp2_with fail
  refine (HF.out _).mono ?_
  rintro e w1 ⟨rfl, hb1⟩
  have HX1 := Lib.hid (HX.out.below hb1 HX.out.lt)
  have HW1 := Lib.hid (HW.out.trans (hb1.mono HW.out.size))
  clear HX HW hb1
  have c5 : w1.cell? ⟨w.heap.size, 5, none⟩ = some (.bool shut) := HX1.out.cell 5
  by_cases h0 : f = 0
  · subst h0
    cases shut
    · go_wp2_with fail
      go_ret
      exact ⟨by rw [HR.out]; unfold write; rw [← HFQ.out]; rfl, HW1.out⟩
    · go_wp2_with fail
      go_ret
      exact ⟨by rw [HR.out]; unfold write; rw [← HFQ.out]; rfl, HW1.out⟩
  · have hz : (((f : Nat) : Int) == 0) = false := by simpa using h0
    go_wp2_with fail
    go_ret
    exact ⟨by rw [HR.out]; unfold write; rw [← HFQ.out, if_pos h0]; rfl, HW1.out⟩

set_option maxHeartbeats 1000000 in
set_option maxRecDepth 100000 in
theorem remove_any (n : Nd) (now : Nat) (w : World) : Calls Try.prog 16 #[n.val, .int .u64 (now : Nat)] w fun e w' => e = .returned (.int .i64 (remove n now : Nat)) ∧ Below w.heap.size w w' := by
  obtain ⟨id, kind, links, size, till, shut⟩ := n
  show Calls _ _ #[.agg #[.int .i64 id, .int .i64 kind, .int .i64 links, .int .i64 size, .int .u64 (till : Nat), .bool shut], _] w _
  obtain ⟨r, hr⟩ : ∃ r, r = remove ⟨id, kind, links, size, till, shut⟩ now := ⟨_, rfl⟩
  rw [← hr]
  have HR := Lib.hid hr
  clear hr
  have HX : Hid (Blk (w.alloc (.cells #[.int .i64 id, .int .i64 kind, .int .i64 links, .int .i64 size, .int .u64 (till : Nat), .bool shut] 26)) w.heap.size 26 (ndc id kind links size till shut)) := Blk.new w _ _
  have HW : Hid (Below w.heap.size w (w.alloc (.cells #[.int .i64 id, .int .i64 kind, .int .i64 links, .int .i64 size, .int .u64 (till : Nat), .bool shut] 26))) := below_new w _
  obtain ⟨f, hf⟩ : ∃ f, f = fileN kind := ⟨_, rfl⟩
  have HF := Lib.hid (file_as id kind links size till shut)
  rw [← hf] at HF
  have HFQ := Lib.hid hf
  clear hf
  go_enter Try.func16, Try.ntmps16
  go_wp2_with fail
  refine (HF.out _).mono ?_
  rintro e w1 ⟨rfl, hb1⟩
  have HX1 := Lib.hid (HX.out.below hb1 HX.out.lt)
  have HW1 := Lib.hid (HW.out.trans (hb1.mono HW.out.size))
  clear HX HW hb1
  have c2 : w1.cell? ⟨w.heap.size, 2, none⟩ = some (.int .i64 links) := HX1.out.cell 2
  have c4 : w1.cell? ⟨w.heap.size, 4, none⟩ = some (.int .u64 (till : Nat)) := HX1.out.cell 4
  have c5 : w1.cell? ⟨w.heap.size, 5, none⟩ = some (.bool shut) := HX1.out.cell 5
  by_cases h0 : f = 0
  · subst h0
    cases shut
    · go_wp2_with fail
      go_ret
      exact ⟨by rw [HR.out]; unfold remove; rw [← HFQ.out]; rfl, HW1.out⟩
    · by_cases hl : 1 < links
      · go_wp2_with fail
        go_ret
        exact ⟨by rw [HR.out]; unfold remove; rw [← HFQ.out, if_neg (by simp), if_pos (.inr hl)]; rfl, HW1.out⟩
      · by_cases hd : now < till
        · have hn : decide (((till : Nat) : Int) ≤ ((now : Nat) : Int)) = false := by simp; omega
          go_wp2_with fail
          refine (due_any _ _ _).mono ?_
          rintro e _ ⟨rfl, rfl⟩
          rw [hn]
          go_wp2_with fail
          go_ret
          exact ⟨by rw [HR.out]; unfold remove; rw [← HFQ.out, if_neg (by simp), if_neg (by simp; omega), if_pos hd]; rfl, HW1.out⟩
        · have hn : decide (((till : Nat) : Int) ≤ ((now : Nat) : Int)) = true := by simp; omega
          go_wp2_with fail
          refine (due_any _ _ _).mono ?_
          rintro e _ ⟨rfl, rfl⟩
          rw [hn]
          go_wp2_with fail
          go_ret
          exact ⟨by rw [HR.out]; unfold remove; rw [← HFQ.out, if_neg (by simp), if_neg (by simp; omega), if_neg hd]; rfl, HW1.out⟩
  · have hz : (((f : Nat) : Int) == 0) = false := by simpa using h0
    go_wp2_with fail
    go_ret
    exact ⟨by rw [HR.out]; unfold remove; rw [← HFQ.out, if_pos h0]; rfl, HW1.out⟩

set_option maxHeartbeats 1000000 in
set_option maxRecDepth 100000 in
theorem keep_any (n : Nd) (u : Nat) (w : World) : Calls Try.prog 19 #[n.val, .int .u64 (u : Nat)] w fun e w' => e = .returned (.int .i64 (keep n u : Nat)) ∧ Below w.heap.size w w' := by
  obtain ⟨id, kind, links, size, till, shut⟩ := n
  show Calls _ _ #[.agg #[.int .i64 id, .int .i64 kind, .int .i64 links, .int .i64 size, .int .u64 (till : Nat), .bool shut], _] w _
  obtain ⟨r, hr⟩ : ∃ r, r = keep ⟨id, kind, links, size, till, shut⟩ u := ⟨_, rfl⟩
  rw [← hr]
  have HR := Lib.hid hr
  clear hr
  have HX : Hid (Blk (w.alloc (.cells #[.int .i64 id, .int .i64 kind, .int .i64 links, .int .i64 size, .int .u64 (till : Nat), .bool shut] 26)) w.heap.size 26 (ndc id kind links size till shut)) := Blk.new w _ _
  have HW : Hid (Below w.heap.size w (w.alloc (.cells #[.int .i64 id, .int .i64 kind, .int .i64 links, .int .i64 size, .int .u64 (till : Nat), .bool shut] 26))) := below_new w _
  obtain ⟨f, hf⟩ : ∃ f, f = fileN kind := ⟨_, rfl⟩
  have HF := Lib.hid (file_as id kind links size till shut)
  rw [← hf] at HF
  have HFQ := Lib.hid hf
  clear hf
  go_enter Try.func19, Try.ntmps19
  go_wp2_with fail
  refine (HF.out _).mono ?_
  rintro e w1 ⟨rfl, hb1⟩
  have HX1 := Lib.hid (HX.out.below hb1 HX.out.lt)
  have HW1 := Lib.hid (HW.out.trans (hb1.mono HW.out.size))
  clear HX HW hb1
  have c4 : w1.cell? ⟨w.heap.size, 4, none⟩ = some (.int .u64 (till : Nat)) := HX1.out.cell 4
  have c5 : w1.cell? ⟨w.heap.size, 5, none⟩ = some (.bool shut) := HX1.out.cell 5
  by_cases h0 : f = 0
  · subst h0
    cases shut
    · go_wp2_with fail
      go_ret
      exact ⟨by rw [HR.out]; unfold keep; rw [← HFQ.out]; rfl, HW1.out⟩
    · by_cases hd : u < till
      · have hn : ((u : Nat) : Int) < ((till : Nat) : Int) := by omega
        go_wp2_with fail
        go_ret
        exact ⟨by rw [HR.out]; unfold keep; rw [← HFQ.out, if_neg (by simp), if_neg (by simp), if_pos hd]; rfl, HW1.out⟩
      · have hn : ¬ ((u : Nat) : Int) < ((till : Nat) : Int) := by omega
        by_cases hm : 1099511627776 < u
        · have hq : decide (((u : Nat) : Int) ≤ 1099511627776) = false := by simp; omega
          go_wp2_with fail
          refine (right_any _ _).mono ?_
          rintro e _ ⟨rfl, rfl⟩
          rw [hq]
          go_wp2_with fail
          go_ret
          exact ⟨by rw [HR.out]; unfold keep; rw [← HFQ.out, if_neg (by simp), if_neg (by simp), if_neg hd, if_pos hm]; rfl, HW1.out⟩
        · have hq : decide (((u : Nat) : Int) ≤ 1099511627776) = true := by simp; omega
          go_wp2_with fail
          refine (right_any _ _).mono ?_
          rintro e _ ⟨rfl, rfl⟩
          rw [hq]
          go_wp2_with fail
          go_ret
          exact ⟨by rw [HR.out]; unfold keep; rw [← HFQ.out, if_neg (by simp), if_neg (by simp), if_neg hd, if_neg hm]; rfl, HW1.out⟩
  · have hz : (((f : Nat) : Int) == 0) = false := by simpa using h0
    go_wp2_with fail
    go_ret
    exact ⟨by rw [HR.out]; unfold keep; rw [← HFQ.out, if_pos h0]; rfl, HW1.out⟩

set_option maxHeartbeats 1000000 in
set_option maxRecDepth 100000 in
theorem kept_any (n : Nd) (now : Nat) (w : World) : Calls Try.prog 21 #[n.val, .int .u64 (now : Nat)] w fun e w' => e = .returned (.bool (kept n now)) ∧ Below w.heap.size w w' := by
  obtain ⟨id, kind, links, size, till, shut⟩ := n
  show Calls _ _ #[.agg #[.int .i64 id, .int .i64 kind, .int .i64 links, .int .i64 size, .int .u64 (till : Nat), .bool shut], _] w _
  obtain ⟨r, hr⟩ : ∃ r, r = kept ⟨id, kind, links, size, till, shut⟩ now := ⟨_, rfl⟩
  rw [← hr]
  unfold kept at hr
  by_cases h1 : kind = 1
  · cases shut
    · have HR : Hid (r = false) := by rw [hr]; show _ = _; simp
      clear hr
      go_enter Try.func21, Try.ntmps21
      go_wp2_with fail
      go_ret
      exact ⟨by rw [HR.out]; rfl, below_new _ _⟩
    · by_cases hd : now < till
      · have HR : Hid (r = true) := by rw [hr]; show _ = _; simp [h1, hd]
        have hn : decide (((till : Nat) : Int) ≤ ((now : Nat) : Int)) = false := by simp; omega
        clear hr
        go_enter Try.func21, Try.ntmps21
        go_wp2_with fail
        refine (due_any _ _ _).mono ?_
        rintro e _ ⟨rfl, rfl⟩
        rw [hn]
        go_wp2_with fail
        go_ret
        exact ⟨by rw [HR.out]; rfl, below_new _ _⟩
      · have HR : Hid (r = false) := by rw [hr]; show _ = _; simp [h1, hd]
        have hn : decide (((till : Nat) : Int) ≤ ((now : Nat) : Int)) = true := by simp; omega
        clear hr
        go_enter Try.func21, Try.ntmps21
        go_wp2_with fail
        refine (due_any _ _ _).mono ?_
        rintro e _ ⟨rfl, rfl⟩
        rw [hn]
        go_wp2_with fail
        go_ret
        exact ⟨by rw [HR.out]; rfl, below_new _ _⟩
  · have HR : Hid (r = false) := by rw [hr]; show _ = _; simp [h1]
    have hz : (kind == 1) = false := by simpa using h1
    clear hr
    go_enter Try.func21, Try.ntmps21
    go_wp2_with fail
    go_ret
    exact ⟨by rw [HR.out]; rfl, below_new _ _⟩
end Wo
end Go.Proofs.Ytpblhdpnmnfieaa

/-
  OWN WORK. Law 12's rules and same: what the document says of a node is what worm answers.
-/
namespace Go.Proofs.Ytpblhdpnmnfieaa
open Go.RowKit
namespace Wo
set_option maxHeartbeats 2000000 in
set_option maxRecDepth 100000 in
theorem rules_any (n : Nd) (now u : Nat) (w : World) : Calls Try.prog 18 #[n.val, .int .u64 (now : Nat), .int .u64 (u : Nat)] w fun e w' => e = .returned (.tuple #[.int .i64 (write n : Nat), .int .i64 (remove n now : Nat), .int .i64 (keep n u : Nat)]) ∧ Below w.heap.size w w' := by
  obtain ⟨id, kind, links, size, till, shut⟩ := n
  show Calls _ _ #[.agg #[.int .i64 id, .int .i64 kind, .int .i64 links, .int .i64 size, .int .u64 (till : Nat), .bool shut], _, _] w _
  obtain ⟨a, ha⟩ : ∃ a, a = write ⟨id, kind, links, size, till, shut⟩ := ⟨_, rfl⟩
  obtain ⟨b, hb⟩ : ∃ b, b = remove ⟨id, kind, links, size, till, shut⟩ now := ⟨_, rfl⟩
  obtain ⟨c, hc⟩ : ∃ c, c = keep ⟨id, kind, links, size, till, shut⟩ u := ⟨_, rfl⟩
  rw [← ha, ← hb, ← hc]
  unfold write fileN at ha
  unfold remove fileN at hb
  unfold keep fileN at hc
  by_cases k2 : kind = 2
  · have HA : Hid (a = 22) := by show _ = _; rw [ha]; simp [k2]
    have HB : Hid (b = 22) := by show _ = _; rw [hb]; simp [k2]
    have HC : Hid (c = 22) := by show _ = _; rw [hc]; simp [k2]
    clear ha hb hc
    go_enter Try.func18, Try.ntmps18
    go_wp2_with fail
    (try simp only [Exit.inBlock, Exit.then]); refine bodyPost_ret (results_tmp3 rfl _ _ _) rfl ?_
    exact ⟨by rw [HA.out, HB.out, HC.out]; rfl, below_new _ _⟩
  · by_cases k1 : kind = 1
    · cases shut
      · have HA : Hid (a = 0) := by show _ = _; rw [ha]; simp [k1]
        have HB : Hid (b = 0) := by show _ = _; rw [hb]; simp [k1]
        have HC : Hid (c = 25) := by show _ = _; rw [hc]; simp [k1]
        clear ha hb hc
        go_enter Try.func18, Try.ntmps18
        go_wp2_with fail
        (try simp only [Exit.inBlock, Exit.then]); refine bodyPost_ret (results_tmp3 rfl _ _ _) rfl ?_
        exact ⟨by rw [HA.out, HB.out, HC.out]; rfl, below_new _ _⟩
      · by_cases hu : u < till
        · by_cases hl : links ≤ 1
          · by_cases hn : now < till
            · have HA : Hid (a = 27) := by show _ = _; rw [ha]; simp [k1, hl, hn, show ¬ (1 < links) by omega, hu]
              have HB : Hid (b = 28) := by show _ = _; rw [hb]; simp [k1, hl, hn, show ¬ (1 < links) by omega, hu]
              have HC : Hid (c = 28) := by show _ = _; rw [hc]; simp [k1, hl, hn, show ¬ (1 < links) by omega, hu]
              clear ha hb hc
              go_enter Try.func18, Try.ntmps18
              go_wp2_with fail
              (try simp only [Exit.inBlock, Exit.then]); refine bodyPost_ret (results_tmp3 rfl _ _ _) rfl ?_
              exact ⟨by rw [HA.out, HB.out, HC.out]; rfl, below_new _ _⟩
            · have HA : Hid (a = 27) := by show _ = _; rw [ha]; simp [k1, hl, hn, show ¬ (1 < links) by omega, hu]
              have HB : Hid (b = 0) := by show _ = _; rw [hb]; simp [k1, hl, hn, show ¬ (1 < links) by omega, hu]
              have HC : Hid (c = 28) := by show _ = _; rw [hc]; simp [k1, hl, hn, show ¬ (1 < links) by omega, hu]
              clear ha hb hc
              go_enter Try.func18, Try.ntmps18
              go_wp2_with fail
              (try simp only [Exit.inBlock, Exit.then]); refine bodyPost_ret (results_tmp3 rfl _ _ _) rfl ?_
              exact ⟨by rw [HA.out, HB.out, HC.out]; rfl, below_new _ _⟩
          · have HA : Hid (a = 27) := by show _ = _; rw [ha]; simp [k1, show 1 < links by omega, hu]
            have HB : Hid (b = 0) := by show _ = _; rw [hb]; simp [k1, show 1 < links by omega, hu]
            have HC : Hid (c = 28) := by show _ = _; rw [hc]; simp [k1, show 1 < links by omega, hu]
            clear ha hb hc
            go_enter Try.func18, Try.ntmps18
            go_wp2_with fail
            (try simp only [Exit.inBlock, Exit.then]); refine bodyPost_ret (results_tmp3 rfl _ _ _) rfl ?_
            exact ⟨by rw [HA.out, HB.out, HC.out]; rfl, below_new _ _⟩
        · by_cases hm : 1099511627776 < u
          · by_cases hl : links ≤ 1
            · by_cases hn : now < till
              · have HA : Hid (a = 27) := by show _ = _; rw [ha]; simp [k1, hl, hn, show ¬ (1 < links) by omega, hu, hm]
                have HB : Hid (b = 28) := by show _ = _; rw [hb]; simp [k1, hl, hn, show ¬ (1 < links) by omega, hu, hm]
                have HC : Hid (c = 1) := by show _ = _; rw [hc]; simp [k1, hl, hn, show ¬ (1 < links) by omega, hu, hm]
                clear ha hb hc
                go_enter Try.func18, Try.ntmps18
                go_wp2_with fail
                (try simp only [Exit.inBlock, Exit.then]); refine bodyPost_ret (results_tmp3 rfl _ _ _) rfl ?_
                exact ⟨by rw [HA.out, HB.out, HC.out]; rfl, below_new _ _⟩
              · have HA : Hid (a = 27) := by show _ = _; rw [ha]; simp [k1, hl, hn, show ¬ (1 < links) by omega, hu, hm]
                have HB : Hid (b = 0) := by show _ = _; rw [hb]; simp [k1, hl, hn, show ¬ (1 < links) by omega, hu, hm]
                have HC : Hid (c = 1) := by show _ = _; rw [hc]; simp [k1, hl, hn, show ¬ (1 < links) by omega, hu, hm]
                clear ha hb hc
                go_enter Try.func18, Try.ntmps18
                go_wp2_with fail
                (try simp only [Exit.inBlock, Exit.then]); refine bodyPost_ret (results_tmp3 rfl _ _ _) rfl ?_
                exact ⟨by rw [HA.out, HB.out, HC.out]; rfl, below_new _ _⟩
            · have HA : Hid (a = 27) := by show _ = _; rw [ha]; simp [k1, show 1 < links by omega, hu, hm]
              have HB : Hid (b = 0) := by show _ = _; rw [hb]; simp [k1, show 1 < links by omega, hu, hm]
              have HC : Hid (c = 1) := by show _ = _; rw [hc]; simp [k1, show 1 < links by omega, hu, hm]
              clear ha hb hc
              go_enter Try.func18, Try.ntmps18
              go_wp2_with fail
              (try simp only [Exit.inBlock, Exit.then]); refine bodyPost_ret (results_tmp3 rfl _ _ _) rfl ?_
              exact ⟨by rw [HA.out, HB.out, HC.out]; rfl, below_new _ _⟩
          · by_cases hl : links ≤ 1
            · by_cases hn : now < till
              · have HA : Hid (a = 27) := by show _ = _; rw [ha]; simp [k1, hl, hn, show ¬ (1 < links) by omega, hu, hm]
                have HB : Hid (b = 28) := by show _ = _; rw [hb]; simp [k1, hl, hn, show ¬ (1 < links) by omega, hu, hm]
                have HC : Hid (c = 0) := by show _ = _; rw [hc]; simp [k1, hl, hn, show ¬ (1 < links) by omega, hu, hm]
                clear ha hb hc
                go_enter Try.func18, Try.ntmps18
                go_wp2_with fail
                (try simp only [Exit.inBlock, Exit.then]); refine bodyPost_ret (results_tmp3 rfl _ _ _) rfl ?_
                exact ⟨by rw [HA.out, HB.out, HC.out]; rfl, below_new _ _⟩
              · have HA : Hid (a = 27) := by show _ = _; rw [ha]; simp [k1, hl, hn, show ¬ (1 < links) by omega, hu, hm]
                have HB : Hid (b = 0) := by show _ = _; rw [hb]; simp [k1, hl, hn, show ¬ (1 < links) by omega, hu, hm]
                have HC : Hid (c = 0) := by show _ = _; rw [hc]; simp [k1, hl, hn, show ¬ (1 < links) by omega, hu, hm]
                clear ha hb hc
                go_enter Try.func18, Try.ntmps18
                go_wp2_with fail
                (try simp only [Exit.inBlock, Exit.then]); refine bodyPost_ret (results_tmp3 rfl _ _ _) rfl ?_
                exact ⟨by rw [HA.out, HB.out, HC.out]; rfl, below_new _ _⟩
            · have HA : Hid (a = 27) := by show _ = _; rw [ha]; simp [k1, show 1 < links by omega, hu, hm]
              have HB : Hid (b = 0) := by show _ = _; rw [hb]; simp [k1, show 1 < links by omega, hu, hm]
              have HC : Hid (c = 0) := by show _ = _; rw [hc]; simp [k1, show 1 < links by omega, hu, hm]
              clear ha hb hc
              go_enter Try.func18, Try.ntmps18
              go_wp2_with fail
              (try simp only [Exit.inBlock, Exit.then]); refine bodyPost_ret (results_tmp3 rfl _ _ _) rfl ?_
              exact ⟨by rw [HA.out, HB.out, HC.out]; rfl, below_new _ _⟩
    · have HA : Hid (a = 30) := by show _ = _; rw [ha]; simp [k1, k2]
      have HB : Hid (b = 30) := by show _ = _; rw [hb]; simp [k1, k2]
      have HC : Hid (c = 30) := by show _ = _; rw [hc]; simp [k1, k2]
      clear ha hb hc
      go_enter Try.func18, Try.ntmps18
      go_wp2_with fail
      (try simp only [Exit.inBlock, Exit.then]); refine bodyPost_ret (results_tmp3 rfl _ _ _) rfl ?_
      exact ⟨by rw [HA.out, HB.out, HC.out]; rfl, below_new _ _⟩
end Wo
end Go.Proofs.Ytpblhdpnmnfieaa

/-
  OWN WORK. Law 12's same and known.
-/
namespace Go.Proofs.Ytpblhdpnmnfieaa
open Go.RowKit
namespace Wo
theorem as_ (id kind links size : Int) (till : Nat) (shut : Bool) : (Nd.val ⟨id, kind, links, size, till, shut⟩) = .agg #[.int .i64 id, .int .i64 kind, .int .i64 links, .int .i64 size, .int .u64 (till : Nat), .bool shut] := rfl

set_option maxHeartbeats 2000000 in
set_option maxRecDepth 100000 in
theorem same_any (n : Nd) (now u : Nat) (w : World) : Calls Try.prog 8 #[n.val, .int .u64 (now : Nat), .int .u64 (u : Nat)] w fun e w' => e = .returned (.bool true) ∧ Below w.heap.size w w' := by
  obtain ⟨id, kind, links, size, till, shut⟩ := n
  have HR := Lib.hid (fun w => rules_any ⟨id, kind, links, size, till, shut⟩ now u w)
  have HA := Lib.hid (fun w => write_any ⟨id, kind, links, size, till, shut⟩ w)
  have HB := Lib.hid (fun w => remove_any ⟨id, kind, links, size, till, shut⟩ now w)
  have HC := Lib.hid (fun w => keep_any ⟨id, kind, links, size, till, shut⟩ u w)
  obtain ⟨a, ha⟩ : ∃ a, a = write ⟨id, kind, links, size, till, shut⟩ := ⟨_, rfl⟩
  obtain ⟨b, hb⟩ : ∃ b, b = remove ⟨id, kind, links, size, till, shut⟩ now := ⟨_, rfl⟩
  obtain ⟨c, hc⟩ : ∃ c, c = keep ⟨id, kind, links, size, till, shut⟩ u := ⟨_, rfl⟩
  rw [← ha, ← hb, ← hc] at HR
  rw [← ha] at HA
  rw [← hb] at HB
  rw [← hc] at HC
  clear ha hb hc
  rw [as_] at HR HA HB HC ⊢
  have HX : Hid (Blk (w.alloc (.cells #[.int .i64 id, .int .i64 kind, .int .i64 links, .int .i64 size, .int .u64 (till : Nat), .bool shut] 26)) w.heap.size 26 (ndc id kind links size till shut)) := Blk.new w _ _
  have HW : Hid (Below w.heap.size w (w.alloc (.cells #[.int .i64 id, .int .i64 kind, .int .i64 links, .int .i64 size, .int .u64 (till : Nat), .bool shut] 26))) := below_new w _
  go_enter Try.func8, Try.ntmps8
  go_wp2_with fail
  refine (HR.out _).mono ?_
  rintro e w1 ⟨rfl, hb1⟩
  have HX1 := Lib.hid (HX.out.below hb1 HX.out.lt)
  have HW1 := Lib.hid (HW.out.trans (hb1.mono HW.out.size))
  clear HX HW hb1
  have c0 : w1.cell? ⟨w.heap.size, 0, none⟩ = some (.int .i64 id) := HX1.out.cell 0
  have c1 : w1.cell? ⟨w.heap.size, 1, none⟩ = some (.int .i64 kind) := HX1.out.cell 1
  have c2 : w1.cell? ⟨w.heap.size, 2, none⟩ = some (.int .i64 links) := HX1.out.cell 2
  have c3 : w1.cell? ⟨w.heap.size, 3, none⟩ = some (.int .i64 size) := HX1.out.cell 3
  have c4 : w1.cell? ⟨w.heap.size, 4, none⟩ = some (.int .u64 (till : Nat)) := HX1.out.cell 4
  have c5 : w1.cell? ⟨w.heap.size, 5, none⟩ = some (.bool shut) := HX1.out.cell 5
  go_wp2_with fail
  clear c0 c1 c2 c3 c4 c5
  refine (HA.out _).mono ?_
  rintro e w2 ⟨rfl, hb1⟩
  have HX2 := Lib.hid (HX1.out.below hb1 HX1.out.lt)
  have HW2 := Lib.hid (HW1.out.trans (hb1.mono HW1.out.size))
  clear HX1 HW1 hb1
  have c0 : w2.cell? ⟨w.heap.size, 0, none⟩ = some (.int .i64 id) := HX2.out.cell 0
  have c1 : w2.cell? ⟨w.heap.size, 1, none⟩ = some (.int .i64 kind) := HX2.out.cell 1
  have c2 : w2.cell? ⟨w.heap.size, 2, none⟩ = some (.int .i64 links) := HX2.out.cell 2
  have c3 : w2.cell? ⟨w.heap.size, 3, none⟩ = some (.int .i64 size) := HX2.out.cell 3
  have c4 : w2.cell? ⟨w.heap.size, 4, none⟩ = some (.int .u64 (till : Nat)) := HX2.out.cell 4
  have c5 : w2.cell? ⟨w.heap.size, 5, none⟩ = some (.bool shut) := HX2.out.cell 5
  go_wp2_with fail
  clear c0 c1 c2 c3 c4 c5
  refine (HB.out _).mono ?_
  rintro e w3 ⟨rfl, hb1⟩
  have HX3 := Lib.hid (HX2.out.below hb1 HX2.out.lt)
  have HW3 := Lib.hid (HW2.out.trans (hb1.mono HW2.out.size))
  clear HX2 HW2 hb1
  have c0 : w3.cell? ⟨w.heap.size, 0, none⟩ = some (.int .i64 id) := HX3.out.cell 0
  have c1 : w3.cell? ⟨w.heap.size, 1, none⟩ = some (.int .i64 kind) := HX3.out.cell 1
  have c2 : w3.cell? ⟨w.heap.size, 2, none⟩ = some (.int .i64 links) := HX3.out.cell 2
  have c3 : w3.cell? ⟨w.heap.size, 3, none⟩ = some (.int .i64 size) := HX3.out.cell 3
  have c4 : w3.cell? ⟨w.heap.size, 4, none⟩ = some (.int .u64 (till : Nat)) := HX3.out.cell 4
  have c5 : w3.cell? ⟨w.heap.size, 5, none⟩ = some (.bool shut) := HX3.out.cell 5
  go_wp2_with fail
  clear c0 c1 c2 c3 c4 c5
  refine (HC.out _).mono ?_
  rintro e w4 ⟨rfl, hb1⟩
  have HW4 := Lib.hid (HW3.out.trans (hb1.mono HW3.out.size))
  clear HX3 HW3 hb1
  go_wp2_with fail
  go_ret
  exact ⟨rfl, HW4.out⟩

set_option maxHeartbeats 2000000 in
set_option maxRecDepth 100000 in
theorem known_any (w : World) : Calls Try.prog 11 #[] w fun e w' => e = .returned (.bool true) ∧ Below w.heap.size w w' := by
  have HA := Lib.hid (fun w => remove_any ⟨1, 1, 1, 0, 5, true⟩ 4 w)
  have HB := Lib.hid (fun w => remove_any ⟨1, 1, 1, 0, 5, true⟩ 5 w)
  rw [as_, show remove ⟨1, 1, 1, 0, 5, true⟩ 4 = 28 from rfl] at HA
  rw [as_, show remove ⟨1, 1, 1, 0, 5, true⟩ 5 = 0 from rfl] at HB
  have HX : Hid (Blk (w.alloc (.cells #[.int .i64 1, .int .i64 1, .int .i64 1, .int .i64 0, .int .u64 5, .bool true] 26)) w.heap.size 26 (ndc 1 1 1 0 5 true)) := Blk.new w _ _
  have HW : Hid (Below w.heap.size w (w.alloc (.cells #[.int .i64 1, .int .i64 1, .int .i64 1, .int .i64 0, .int .u64 5, .bool true] 26))) := below_new w _
  go_enter Try.func11, Try.ntmps11
  go_wp2_with fail
  refine (HA.out _).mono ?_
  rintro e w2 ⟨rfl, hb1⟩
  have HX2 := Lib.hid (HX.out.below hb1 HX.out.lt)
  have HW2 := Lib.hid (HW.out.trans (hb1.mono HW.out.size))
  clear HX HW hb1
  have c0 : w2.cell? ⟨w.heap.size, 0, none⟩ = some (.int .i64 1) := HX2.out.cell 0
  have c1 : w2.cell? ⟨w.heap.size, 1, none⟩ = some (.int .i64 1) := HX2.out.cell 1
  have c2 : w2.cell? ⟨w.heap.size, 2, none⟩ = some (.int .i64 1) := HX2.out.cell 2
  have c3 : w2.cell? ⟨w.heap.size, 3, none⟩ = some (.int .i64 0) := HX2.out.cell 3
  have c4 : w2.cell? ⟨w.heap.size, 4, none⟩ = some (.int .u64 5) := HX2.out.cell 4
  have c5 : w2.cell? ⟨w.heap.size, 5, none⟩ = some (.bool true) := HX2.out.cell 5
  go_wp2_with fail
  clear c0 c1 c2 c3 c4 c5
  refine (HB.out _).mono ?_
  rintro e w3 ⟨rfl, hb1⟩
  have HW3 := Lib.hid (HW2.out.trans (hb1.mono HW2.out.size))
  clear HX2 HW2 hb1
  go_wp2_with fail
  go_ret
  exact ⟨rfl, HW3.out⟩
end Wo
end Go.Proofs.Ytpblhdpnmnfieaa

/-
  OWN WORK. A list of numbers of a call's own: it grows.
-/
namespace Go.Proofs.Ytpblhdpnmnfieaa
open Go.RowKit

theorem Try.infoInt : (Try.prog.info? 3).map (fun i => (i.zero, i.size, i.bytes)) = some (some (.int .i64 0), 1, 8) := by kernel_rfl
def numCells (l : List Int) : List Value := l.map (.int .i64)
/-- The numbers so far, as a row of the call's own. -/
def IAt (B : Nat) (v : Value) (l : List Int) (w0 wr : World) : Prop :=
  wr.ownsRow B 3 1 v l.length (numCells l) ∧ Below B w0 wr ∧ B = w0.heap.size
theorem IAt.nil (w : World) : IAt w.heap.size (.slice none 0 0) [] w w := ⟨⟨rfl, .inl ⟨rfl, rfl⟩⟩, Below.refl _ _, rfl⟩
theorem owns_below {w wa : World} {B e n : Nat} {v : Value} {xs : List Value} (h : w.ownsRow B e 1 v n xs) (ha : Below w.heap.size w wa) : wa.ownsRow B e 1 v n xs := by
  refine ⟨h.1, ?_⟩
  rcases h.2 with h2 | ⟨g, cap, cur, h3, h4, h5, h6⟩
  · exact .inl h2
  · refine .inr ⟨g, cap, cur, h3, h4, (ha.block g ?_).trans h5, h6⟩
    rcases Nat.lt_or_ge g w.heap.size with hlt | hge
    · exact hlt
    · rw [Array.getElem?_eq_none hge] at h5; cases h5
theorem IAt.push {B : Nat} {v v' : Value} {l x : List Int} {w0 wr wa w' : World} (h : IAt B v l w0 wr) (ha : Below wr.heap.size wr wa) (hown : w'.ownsRow B 3 1 v' (l.length + x.length) (numCells l ++ numCells x)) (hg : wa.grownBy w' v.ownBlock) : IAt B v' (l ++ x) w0 w' := by
  refine ⟨by rw [List.length_append]; unfold numCells at hown ⊢; rw [List.map_append]; exact hown, ?_, h.2.2⟩
  have hb : Below B w0 wa := h.2.1.trans (ha.mono (by have := h.2.1.size; have := h.2.2; omega))
  exact hb.grown hg (by have := h.2.1.size; have := ha.size; have := h.2.2; omega) (fun k hk => h.1.ownBlock_ge k hk)
theorem IAt.below {B : Nat} {v : Value} {l : List Int} {w0 wr w' : World} (h : IAt B v l w0 wr) (hb : Below wr.heap.size wr w') : IAt B v l w0 w' :=
  ⟨owns_below h.1 hb, h.2.1.trans (hb.mono (by have := h.2.1.size; have := h.2.2; omega)), h.2.2⟩
theorem IAt.form {B : Nat} {v : Value} {l : List Int} {w0 wr : World} (h : IAt B v l w0 wr) : ∃ X c, v = .slice X l.length c := by
  rcases h.1.2 with ⟨rfl, h1⟩ | ⟨g, cap, cur, rfl, _⟩
  · exact ⟨none, 0, by rw [h1]⟩
  · exact ⟨_, cap, rfl⟩
theorem IAt.rdi {B : Nat} {v : Value} {l : List Int} {w0 wr : World} (h : IAt B v l w0 wr) (hl : ∀ x ∈ l, -9223372036854775808 ≤ x ∧ x ≤ 9223372036854775807) : ∃ A c, v = .slice A l.length c ∧ l.length ≤ c ∧ RdI wr A l := by
  rcases h.1.2 with ⟨rfl, h1⟩ | ⟨g, cap, cur, rfl, hb, hh, hc, _, hcs, htk⟩
  · have : l = [] := List.eq_nil_of_length_eq_zero h1
    subst this
    exact ⟨none, 0, rfl, Nat.le_refl _, fun j x hx => by simp at hx⟩
  · have hlt : g < wr.heap.size := (Array.getElem?_eq_some_iff.1 hh).1
    refine ⟨_, cap, rfl, hc, fun j x hx => ⟨hl x (List.mem_of_getElem? hx), g, 0, rfl, hlt, ?_⟩⟩
    have hj : j < l.length := (List.getElem?_eq_some_iff.1 hx).1
    rw [cell_of_row wr g _ cur 3 (0, 0) hh, Nat.zero_add]
    have e : (cur.toList.take (l.length * 1))[j]? = some (.int .i64 x) := by
      rw [htk]; simp [numCells, hx]
    rw [List.getElem?_take_of_lt (by omega)] at e
    simpa using e
/-- A number more. -/
theorem wpList_append_num {w : World} {ops : Array Oper} {rest : List Oper} {o : Oper} {a : Act} {Q : Exit → Act → World → Prop} (hgd : o.guard = none) (s x : Operand)
    (ho : o.op = .call { callee := .builtin .append, args := #[s, x], argTypes := #[27, 27] })
    {B : Nat} {v : Value} {l : List Int} {w0 : World} (k : Int) (hs : a.eval s = v) {wr : World} (hI : IAt B v l w0 wr) (g : Nat) (t : TypeId) (hw : w = wr.alloc (.cells #[.int .i64 k] t)) (hgb : g = wr.heap.size) (hx : a.eval x = .slice (some ⟨g, 0, none⟩) 1 1) (hl : l.length ≤ 1000000)
    (h : ∀ v' w', Hid (IAt B v' (l ++ [k]) w0 w') → wpList Try.prog ops Q rest (a.put o.dst v') w') : wpList Try.prog ops Q (o :: rest) a w := by
  obtain ⟨i0, hi, hz0, hz1, hz2⟩ : ∃ i0, Try.prog.info? 3 = some i0 ∧ i0.zero = some (.int .i64 0) ∧ i0.size = 1 ∧ i0.bytes = 8 := by
    have h := Try.infoInt
    simp only [Option.map_eq_some_iff, Prod.mk.injEq] at h
    obtain ⟨i0, h1, h2, h3, h4⟩ := h
    exact ⟨i0, h1, h2, h3, h4⟩
  subst hw hgb
  have hb0 : Below wr.heap.size wr (wr.alloc (.cells #[.int .i64 k] t)) := below_new wr _
  refine wpList_append_own _ hgd s x 27 ho B 3 i0 (.int .i64 0) 1 8 Try.underlying27 hi hz0 hz1 hz2 rfl (by decide) v l.length (numCells l) hs (owns_below hI.1 hb0) ⟨wr.heap.size, 0, none⟩ 1 1 [.int .i64 k] hx rfl ?_ (by intro u hu; simp at hu; subst hu; rfl) (by unfold maxLen; omega) (by omega) (by rw [World.size_alloc]; have := hI.2.1.size; have := hI.2.2; omega) ?_
  · intro j u hj
    have hj0 : j = 0 := by
      have := (List.getElem?_eq_some_iff.1 hj).1
      simp at this; exact this
    subst hj0
    have e : (⟨wr.heap.size, 0, none⟩ : Addr).add 0 = ⟨wr.heap.size, 0, none⟩ := rfl
    rw [e, cell_of_row _ _ _ _ _ _ (heap_alloc_new wr (.cells #[.int .i64 k] t))]
    simpa using hj
  · intro v' w' h1 h2 _
    exact h v' w' (hI.push hb0 h1 h2)
end Go.Proofs.Ytpblhdpnmnfieaa

/-
  OWN WORK. Chapter 7 as functions of lists of bytes: names that are good, what a path is parted into, and joined to.
-/
namespace Go.Proofs.Ytpblhdpnmnfieaa
namespace Pa

abbrev Bytes := List UInt8
/-- A byte that a name may have. -/
def okByte (c : UInt8) : Bool := (97 ≤ c.toNat && c.toNat ≤ 122) || (48 ≤ c.toNat && c.toNat ≤ 57) || c == 46 || c == 45 || c == 95
def good (n : Bytes) : Bool := n.all okByte && decide (1 ≤ n.length) && decide (n.length ≤ 16) && n != [46] && n != [46, 46]
/-- What stands between the strokes, the first of them too. -/
def pieces : Bytes → List Bytes
  | [] => [[]]
  | c :: s => if c = 47 then [] :: pieces s else match pieces s with
    | [] => [[c]]
    | p :: ps => (c :: p) :: ps
def join (l : List Bytes) : Bytes := if l = [] then [47] else l.flatMap (47 :: ·)
/-- What a path is parted into, and the number of the refusal. -/
def split (d : Nat) (s : Bytes) : List Bytes × Nat :=
  if s = [47] then ([], 0)
  else match s with
    | [] => ([], 12)
    | c :: s => if c = 47 then
        (if (pieces s).all good then (if (pieces s).length ≤ d then (pieces s, 0) else ([], 3)) else ([], 12))
      else ([], 12)

theorem pieces_ne (s : Bytes) : pieces s ≠ [] := by
  induction s with
  | nil => simp [pieces]
  | cons c s ih =>
    unfold pieces
    split
    · simp
    · cases h : pieces s <;> simp
/-- The pieces, each behind a stroke, are the text behind a stroke. -/
theorem join_pieces (s : Bytes) : (pieces s).flatMap (47 :: ·) = 47 :: s := by
  induction s with
  | nil => simp [pieces]
  | cons c s ih =>
    unfold pieces
    split
    · rename_i h; rw [List.flatMap_cons, ih, h]; rfl
    · cases h : pieces s with
      | nil => exact absurd h (pieces_ne s)
      | cons p ps =>
        rw [h] at ih
        simp only [List.flatMap_cons, List.cons_append, List.cons.injEq, true_and] at ih ⊢
        rw [ih]
theorem pieces_plain {p : Bytes} (h : ∀ c ∈ p, c ≠ 47) : pieces p = [p] := by
  induction p with
  | nil => rfl
  | cons c s ih =>
    unfold pieces
    rw [if_neg (h c (by simp)), ih fun d hd => h d (by simp [hd])]
theorem pieces_app {p s : Bytes} (h : ∀ c ∈ p, c ≠ 47) : pieces (p ++ 47 :: s) = p :: pieces s := by
  induction p with
  | nil => simp [pieces]
  | cons c q ih =>
    rw [List.cons_append]
    have e : ∀ x, pieces (c :: x) = (match pieces x with | [] => [[c]] | p :: ps => (c :: p) :: ps) := fun x => by rw [pieces, if_neg (h c (by simp))]
    rw [e, ih fun d hd => h d (by simp [hd])]
theorem pieces_join {p : Bytes} {ps : List Bytes} (h : ∀ q ∈ p :: ps, ∀ c ∈ q, c ≠ 47) : pieces (p ++ ps.flatMap (47 :: ·)) = p :: ps := by
  induction ps generalizing p with
  | nil => simpa using pieces_plain (h p (by simp))
  | cons q ps ih =>
    rw [List.flatMap_cons, List.cons_append, pieces_app (h p (by simp)), ih fun x hx => h x (by simp only [List.mem_cons] at hx ⊢; exact .inr hx)]
theorem okByte_ne {c : UInt8} (h : okByte c = true) : c ≠ 47 := by
  intro e; subst e; exact absurd h (by decide)
theorem good_ne {n : Bytes} (h : good n = true) : ∀ c ∈ n, c ≠ 47 := by
  simp only [good, Bool.and_eq_true, List.all_eq_true] at h
  exact fun c hc => okByte_ne (h.1.1.1.1 c hc)
theorem good_pos {n : Bytes} (h : good n = true) : 1 ≤ n.length := by
  simp only [good, Bool.and_eq_true, decide_eq_true_eq] at h
  exact h.1.1.1.2
/-- Names that are good are parted from what is joined of them. -/
theorem split_join {d : Nat} {l : List Bytes} (h : ∀ n ∈ l, good n = true) (hd : l.length ≤ d) : split d (join l) = (l, 0) := by
  cases l with
  | nil => rfl
  | cons p ps =>
    have hp := good_pos (h p (by simp))
    have e : join (p :: ps) = 47 :: (p ++ ps.flatMap (47 :: ·)) := by simp [join]
    rw [e]
    unfold split
    have hne : ¬ (47 :: (p ++ ps.flatMap (47 :: ·)) = [47]) := by
      intro h2
      cases p with
      | nil => simp at hp
      | cons x y => simp at h2
    rw [if_neg hne]
    simp only [if_true]
    rw [pieces_join fun q hq => good_ne (h q hq), if_pos (List.all_eq_true.2 fun q hq => h q hq), if_pos hd]
/-- What is parted is joined again. -/
theorem join_split {d : Nat} {s : Bytes} (h : (split d s).2 = 0) : join (split d s).1 = s := by
  unfold split at h ⊢
  split
  · rename_i h1; rw [h1]; rfl
  · rename_i h1
    rw [if_neg h1] at h
    cases s with
    | nil => simp at h
    | cons c s =>
      simp only at h ⊢
      by_cases hc : c = 47
      · rw [if_pos hc] at h ⊢
        by_cases hg : (pieces s).all good = true
        · rw [if_pos hg] at h ⊢
          by_cases hl : (pieces s).length ≤ d
          · rw [if_pos hl]
            simp only [join, if_neg (pieces_ne s), join_pieces, hc]
          · rw [if_neg hl] at h; simp at h
        · rw [if_neg hg] at h; simp at h
      · rw [if_neg hc] at h; simp at h
theorem split_none {d : Nat} {s : Bytes} (h : (split d s).2 ≠ 0) : (split d s).1 = [] := by
  unfold split at h ⊢
  split
  · rfl
  · rename_i h1
    rw [if_neg h1] at h
    cases s with
    | nil => rfl
    | cons c s =>
      simp only at h ⊢
      by_cases hc : c = 47
      · rw [if_pos hc] at h ⊢
        by_cases hg : (pieces s).all good = true
        · rw [if_pos hg] at h ⊢
          by_cases hl : (pieces s).length ≤ d
          · rw [if_pos hl] at h; simp at h
          · rw [if_neg hl]
        · rw [if_neg hg]
      · rw [if_neg hc]
/-- Where a path is being parted: the names so far, and what is left. -/
structure Parts (s0 t : Bytes) (c : List Bytes) : Prop where
  good : ∀ n ∈ c, good n = true
  way : ∃ u0, s0 = 47 :: u0 ∧ u0 ≠ [] ∧ (t = [] → pieces u0 = c) ∧ (t ≠ [] → ∃ u, t = 47 :: u ∧ pieces u0 = c ++ pieces u)
theorem Parts.begin {u : Bytes} (h : u ≠ []) : Parts (47 :: u) (47 :: u) [] := ⟨(fun n hn => by cases hn), u, rfl, h, (fun e => by cases e), fun _ => ⟨u, rfl, rfl⟩⟩
theorem Parts.form {s0 t : Bytes} {c : List Bytes} (h : Parts s0 t c) (ht : t ≠ []) : ∃ u, t = 47 :: u := by
  obtain ⟨_, _, _, _, h2⟩ := h.way
  obtain ⟨u, e, _⟩ := h2 ht
  exact ⟨u, e⟩
theorem pieces_next {p r : Bytes} (hp : ∀ x ∈ p, x ≠ 47) (hr : r = [] ∨ ∃ r', r = 47 :: r') : (r = [] → pieces (p ++ r) = [p]) ∧ (r ≠ [] → ∃ r', r = 47 :: r' ∧ pieces (p ++ r) = p :: pieces r') := by
  rcases hr with rfl | ⟨r', rfl⟩
  · exact ⟨(fun _ => by rw [List.append_nil]; exact pieces_plain hp), fun h => absurd rfl h⟩
  · exact ⟨(fun h => by cases h), fun _ => ⟨r', rfl, pieces_app hp⟩⟩
theorem Parts.step {s0 p r : Bytes} {c : List Bytes} (h : Parts s0 (47 :: (p ++ r)) c) (hp : ∀ x ∈ p, x ≠ 47) (hr : r = [] ∨ ∃ r', r = 47 :: r') (hg : Pa.good p = true) : Parts s0 r (c ++ [p]) := by
  obtain ⟨u0, e0, hu, _, h2⟩ := h.way
  obtain ⟨u, e, h3⟩ := h2 (by simp)
  simp only [List.cons.injEq, true_and] at e
  subst e
  obtain ⟨n1, n2⟩ := pieces_next hp hr
  refine ⟨fun n hn => ?_, u0, e0, hu, fun hr0 => by rw [h3, n1 hr0], fun hr0 => ?_⟩
  · rcases List.mem_append.1 hn with h4 | h4
    · exact h.good n h4
    · simp only [List.mem_singleton] at h4; rw [h4]; exact hg
  · obtain ⟨r', e', h4⟩ := n2 hr0
    exact ⟨r', e', by rw [h3, h4, List.append_assoc]; rfl⟩
theorem split_of {d : Nat} {u : Bytes} (h : u ≠ []) : split d (47 :: u) = if (pieces u).all Pa.good then (if (pieces u).length ≤ d then (pieces u, 0) else ([], 3)) else ([], 12) := by
  unfold split
  rw [if_neg (by simpa using h)]
  simp
theorem Parts.bad {d : Nat} {s0 p r : Bytes} {c : List Bytes} (h : Parts s0 (47 :: (p ++ r)) c) (hp : ∀ x ∈ p, x ≠ 47) (hr : r = [] ∨ ∃ r', r = 47 :: r') (hg : Pa.good p = false) : split d s0 = ([], 12) := by
  obtain ⟨u0, rfl, hu, _, h2⟩ := h.way
  obtain ⟨u, e, h3⟩ := h2 (by simp)
  simp only [List.cons.injEq, true_and] at e
  subst e
  obtain ⟨n1, n2⟩ := pieces_next hp hr
  have hm : p ∈ pieces u0 := by
    rw [h3]
    by_cases hr0 : r = []
    · rw [n1 hr0]; simp
    · obtain ⟨r', _, h4⟩ := n2 hr0
      rw [h4]; simp
  rw [split_of hu, if_neg]
  rw [Bool.not_eq_true, List.all_eq_false]
  exact ⟨p, hm, by rw [hg]; decide⟩
theorem Parts.done {d : Nat} {s0 : Bytes} {c : List Bytes} (h : Parts s0 [] c) : split d s0 = if c.length ≤ d then (c, 0) else ([], 3) := by
  obtain ⟨u0, rfl, hu, h1, _⟩ := h.way
  rw [split_of hu, h1 rfl, if_pos (List.all_eq_true.2 h.good)]
/-- The first stroke from 1 on parts a text. -/
theorem part_at {u : Bytes} {k : Nat} (h1 : 1 ≤ k) (h2 : k ≤ u.length + 1) (h3 : ∀ (j : Nat) (c : UInt8), 1 ≤ j → j < k → (47 :: u)[j]? = some c → c ≠ 47) (h4 : k = u.length + 1 ∨ (47 :: u)[k]? = some 47) :
    ∃ p r, u = p ++ r ∧ (∀ c ∈ p, c ≠ 47) ∧ (r = [] ∨ ∃ r', r = 47 :: r') ∧ 1 + p.length = k := by
  obtain ⟨m, rfl⟩ : ∃ m, k = m + 1 := ⟨k - 1, by omega⟩
  refine ⟨u.take m, u.drop m, (List.take_append_drop m u).symm, fun c hc => ?_, ?_, by rw [List.length_take]; omega⟩
  · obtain ⟨j, hj, rfl⟩ := List.getElem_of_mem hc
    rw [List.length_take] at hj
    refine h3 (j + 1) _ (by omega) (by omega) ?_
    rw [List.getElem?_cons_succ, List.getElem_take, List.getElem?_eq_getElem]
  · rcases h4 with h4 | h4
    · exact .inl (List.drop_of_length_le (by omega))
    · rw [List.getElem?_cons_succ] at h4
      obtain ⟨hm, e⟩ := List.getElem?_eq_some_iff.1 h4
      exact .inr ⟨u.drop (m + 1), by rw [List.drop_eq_getElem_cons hm, e]⟩
end Pa
end Go.Proofs.Ytpblhdpnmnfieaa

/-
  OWN WORK. Texts of bytes.
-/
namespace Go.Proofs.Ytpblhdpnmnfieaa
open Go.RowKit

/-- A text of these bytes. -/
def strOf (l : List UInt8) : ByteArray := ⟨l.toArray⟩

theorem strOf_size (l : List UInt8) : (strOf l).size = l.length := by simp [strOf, ByteArray.size]

theorem str_any (w : World) (A : Option Addr) (l : List UInt8) (c : Nat) (h : Rd w A l) : (convert 60 9 (.slice A l.length c)).run Try.prog w = .ok (.string (strOf l)) w := by
  cases A with
  | none =>
    have hl : l = [] := by
      rcases Nat.eq_zero_or_pos l.length with h1 | h1
      · exact List.eq_nil_of_length_eq_zero h1
      · obtain ⟨b, off, h2, _⟩ := h h1
        cases h2
    subst hl
    exact run_convert_bytes_nil w 60 5 Try.underlying60 Try.underlying5 0 c 9 Try.underlying9
  | some ad =>
    have hl : (loadCells ad l.length).run Try.prog w = .ok ((l.map fun b => ((b.toNat : Nat) : Int)).map (Value.int .u8)).toArray w := by
      have := run_loadCells_list (P := Try.prog) w ad ((l.map fun b => ((b.toNat : Nat) : Int)).map (Value.int .u8)) (fun j v hj => by
        rw [List.map_map] at hj
        simp only [List.getElem?_map, Option.map_eq_some_iff] at hj
        obtain ⟨x, hx, rfl⟩ := hj
        obtain ⟨b, off, h1, _, h2⟩ := h (by have := (List.getElem?_eq_some_iff.1 hx).1; omega)
        obtain rfl : ad = ⟨b, off, none⟩ := by injection h1
        rw [add_plain]
        exact h2 j x hx)
      simpa using this
    rw [run_convert_bytes_string w 60 9 5 _ l.length c Try.underlying60 Try.underlying5 Try.underlying9, run_bytesToString w _ l.length c _ hl, foldl_push_bytes]
    congr 3
    simp [ByteArray.empty, ByteArray.emptyWithCapacity]
    have e : ((fun n : Int => UInt8.ofNat n.toNat) ∘ fun b : UInt8 => ((b.toNat : Nat) : Int)) = id := funext fun b => by simp
    rw [e, List.map_id]
    rfl
end Go.Proofs.Ytpblhdpnmnfieaa

/-
  OWN WORK. Texts as lists of bytes: what a walk asks of them: held against one another, a byte, a part, one behind the other.
-/
namespace Go.Proofs.Ytpblhdpnmnfieaa
open Go.RowKit

theorem strOf_list (l : List UInt8) : (strOf l).toList = l := ByteArray.toList_mk l
theorem strOf_beq (a b : List UInt8) : ((strOf a).toList == (strOf b).toList) = decide (a = b) := by
  rw [strOf_list, strOf_list]
  by_cases h : a = b
  · subst h; simp
  · rw [decide_eq_false h]; exact beq_eq_false_iff_ne.2 h
theorem strOf_lit (a b : List UInt8) : ((strOf a).toList == b) = decide (a = b) := by
  rw [strOf_list]
  by_cases h : a = b
  · subst h; simp
  · rw [decide_eq_false h]; exact beq_eq_false_iff_ne.2 h
theorem strOf_nil (l : List UInt8) : ((strOf l).toList.isEmpty) = decide (l = []) := by
  rw [strOf_list]
  cases l <;> simp
theorem strOf_of (s : ByteArray) : ∃ l : List UInt8, s = strOf l ∧ l.length = s.size := ⟨s.data.toList, by cases s; simp [strOf], by cases s; simp [ByteArray.size]⟩
/-- A byte of a text. -/
theorem str_at {l : List UInt8} {i : Nat} {c : UInt8} (h : l[i]? = some c) (w : World) : (Instr.index 9 (.string (strOf l)) (.int .i64 (i : Nat))).run Try.prog w = .ok (.int .u8 (c.toNat : Nat)) w := by
  have hi := (List.getElem?_eq_some_iff.1 h).1
  rw [run_index_string w 9 (strOf l) .i64 i Try.underlying9, dif_pos (by rw [strOf_size]; omega)]
  congr 3
  simp only [strOf, ByteArray.getElem_eq_getElem_data, Int.toNat_natCast, List.getElem_toArray]
  rw [(List.getElem?_eq_some_iff.1 h).2]
theorem str_at0 {l : List UInt8} {c : UInt8} (h : l[0]? = some c) (w : World) : (Instr.index 9 (.string (strOf l)) (.int .i64 0)).run Try.prog w = .ok (.int .u8 (c.toNat : Nat)) w := str_at h w
theorem str_extract (l : List UInt8) (a b : Nat) : (strOf l).extract a b = strOf ((l.drop a).take (b - a)) := ByteArray.extract_mk l a b
/-- A part of a text. -/
theorem str_lh (l : List UInt8) (lo hi : Nat) (h1 : lo ≤ hi) (h2 : hi ≤ l.length) (w : World) : (Instr.slice 9 (.string (strOf l)) (some (.int .i64 (lo : Nat))) (some (.int .i64 (hi : Nat))) none).run Try.prog w = .ok (.string (strOf ((l.drop lo).take (hi - lo)))) w := by
  rw [run_slice_string w 9 (strOf l) .i64 .i64 lo hi Try.underlying9 (by omega) (by omega) (by rw [strOf_size]; omega), str_extract]
  rfl
theorem str_l (l : List UInt8) (lo : Nat) (h1 : lo ≤ l.length) (w : World) : (Instr.slice 9 (.string (strOf l)) (some (.int .i64 (lo : Nat))) none none).run Try.prog w = .ok (.string (strOf (l.drop lo))) w := by
  rw [run_slice_string_from_if w 9 (strOf l) .i64 lo Try.underlying9, if_pos (by rw [strOf_size]; omega), str_extract, strOf_size]
  congr 3
  rw [Int.toNat_natCast, List.take_of_length_le (by rw [List.length_drop]; omega)]
theorem str_h (l : List UInt8) (hi : Nat) (h1 : hi ≤ l.length) (w : World) : (Instr.slice 9 (.string (strOf l)) none (some (.int .i64 (hi : Nat))) none).run Try.prog w = .ok (.string (strOf (l.take hi))) w := by
  rw [run_slice_string_to_if w 9 (strOf l) .i64 hi Try.underlying9, if_pos (by rw [strOf_size]; omega), str_extract]
  rfl
theorem strOf_append (a b : List UInt8) : strOf a ++ strOf b = strOf (a ++ b) := by
  apply ByteArray.ext
  simp [strOf]
/-- One behind the other. -/
theorem str_add (a b : List UInt8) (h : a.length + b.length ≤ 9223372036854775807) : Op.stringOp .add (strOf a) (strOf b) = pure (.string (strOf (a ++ b))) := by
  unfold Op.stringOp
  simp only [strOf_size, strOf_append]
  rw [if_neg (by show ¬ ((a.length + b.length : Nat) : Int) > 9223372036854775807; omega)]
end Go.Proofs.Ytpblhdpnmnfieaa

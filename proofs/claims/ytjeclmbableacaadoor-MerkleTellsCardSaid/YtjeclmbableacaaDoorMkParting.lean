/-
  OWN WORK. Trees of hashes, as plain mathematics, over whatever hash.
-/
import Derived.Lib.BitFns
import Derived.Test.YtjeclmbableacaaDoorShPure
import Derived.Test.YtjeclmbableacaaDoorBaRow
namespace Go.Proofs.YtjeclmbableacaaDoor
namespace Mk
abbrev Bytes := List UInt8
/-- The greatest power of two below n. -/
def partFrom : Nat → Nat → Nat → Nat
  | 0, k, _ => k
  | f + 1, k, n => if 2 * k < n then partFrom f (2 * k) n else k
def part (n : Nat) : Nat := partFrom n 1 n
theorem partFrom_spec : ∀ (f k n : Nat), 0 < k → k < n → n ≤ k + f → (∃ e, k = 2 ^ e) → partFrom f k n < n ∧ n ≤ 2 * partFrom f k n ∧ (∃ e, partFrom f k n = 2 ^ e) ∧ 0 < partFrom f k n
  | 0, k, n, h0, h1, h2, h3 => by omega
  | f + 1, k, n, h0, h1, h2, ⟨e, he⟩ => by
    unfold partFrom
    split
    · exact partFrom_spec f (2 * k) n (by omega) (by assumption) (by omega) ⟨e + 1, by rw [he, Nat.pow_succ]; omega⟩
    · exact ⟨h1, by omega, ⟨e, he⟩, h0⟩
theorem part_spec (n : Nat) (h : 2 ≤ n) : part n < n ∧ n ≤ 2 * part n ∧ (∃ e, part n = 2 ^ e) ∧ 0 < part n := partFrom_spec n 1 n (by omega) (by omega) (by omega) ⟨0, rfl⟩
theorem part_lt (n : Nat) (h : 2 ≤ n) : part n < n := (part_spec n h).1
theorem part_pos (n : Nat) (h : 2 ≤ n) : 0 < part n := (part_spec n h).2.2.2
/-- A power of two below n, twice of which is not: no other is. -/
theorem part_only (n k e : Nat) (hk : k = 2 ^ e) (h1 : k < n) (h2 : n ≤ 2 * k) : part n = k := by
  have hn : 2 ≤ n := by have := Nat.two_pow_pos e; omega
  obtain ⟨a1, a2, ⟨d, hd⟩, _⟩ := part_spec n hn
  have : d = e := by
    rcases Nat.lt_trichotomy d e with h | h | h
    · have : 2 ^ (d + 1) ≤ 2 ^ e := Nat.pow_le_pow_right (by omega) h
      rw [Nat.pow_succ] at this
      omega
    · exact h
    · have : 2 ^ (e + 1) ≤ 2 ^ d := Nat.pow_le_pow_right (by omega) h
      rw [Nat.pow_succ] at this
      omega
  rw [hd, this, hk]
/-- Of at most 2^(e+1) the part is at most 2^e. -/
theorem part_le (n e : Nat) (hn : 2 ≤ n) (h : n ≤ 2 ^ (e + 1)) : part n ≤ 2 ^ e := by
  obtain ⟨a1, a2, ⟨d, hd⟩, _⟩ := part_spec n hn
  rcases Nat.lt_or_ge e d with h1 | h1
  · have : 2 ^ (e + 1) ≤ 2 ^ d := Nat.pow_le_pow_right (by omega) h1
    omega
  · rw [hd]; exact Nat.pow_le_pow_right (by omega) h1

section
variable (S : Bytes → Bytes)
def leafOf (x : Bytes) : Bytes := S (0 :: x)
def pairOf (a b : Bytes) : Bytes := S (1 :: (a ++ b))
def root (l : List Bytes) : Bytes :=
  match h : l.length with
  | 0 => S []
  | 1 => leafOf S (l.headD [])
  | n + 2 => pairOf S (root (l.take (part (n + 2)))) (root (l.drop (part (n + 2))))
termination_by l.length
decreasing_by
  · have := part_lt (n + 2) (by omega)
    rw [List.length_take]; omega
  · have := part_pos (n + 2) (by omega)
    rw [List.length_drop]; omega
theorem root_nil : root S [] = S [] := by unfold root; rfl
theorem root_one (x : Bytes) : root S [x] = leafOf S x := by unfold root; rfl
theorem root_split (l : List Bytes) (h : 2 ≤ l.length) : root S l = pairOf S (root S (l.take (part l.length))) (root S (l.drop (part l.length))) := by
  rw [root]
  split
  · omega
  · omega
  · rename_i n hn
    rw [hn]
def path (l : List Bytes) (i : Nat) : List Bytes :=
  if _h : l.length < 2 then [] else
    if i < part l.length then path (l.take (part l.length)) i ++ [root S (l.drop (part l.length))]
    else path (l.drop (part l.length)) (i - part l.length) ++ [root S (l.take (part l.length))]
termination_by l.length
decreasing_by
  · have := part_lt l.length (by omega)
    rw [List.length_take]; omega
  · have := part_pos l.length (by omega)
    rw [List.length_drop]; omega
theorem path_short (l : List Bytes) (i : Nat) (h : l.length < 2) : path S l i = [] := by rw [path, dif_pos h]
theorem path_left (l : List Bytes) (i : Nat) (h : 2 ≤ l.length) (hi : i < part l.length) : path S l i = path S (l.take (part l.length)) i ++ [root S (l.drop (part l.length))] := by
  rw [path, dif_neg (by omega), if_pos hi]
theorem path_right (l : List Bytes) (i : Nat) (h : 2 ≤ l.length) (hi : ¬ i < part l.length) : path S l i = path S (l.drop (part l.length)) (i - part l.length) ++ [root S (l.take (part l.length))] := by
  rw [path, dif_neg (by omega), if_neg hi]
/-- What a leaf comes to by a path. -/
def climb (x : Bytes) (i n : Nat) (p : List Bytes) : Option Bytes :=
  if _h : n < 2 then (if p = [] then some (leafOf S x) else none) else
    if p = [] then none else
      if i < part n then (climb x i (part n) p.dropLast).map fun y => pairOf S y (p.getLastD [])
      else (climb x (i - part n) (n - part n) p.dropLast).map fun y => pairOf S (p.getLastD []) y
termination_by n
decreasing_by
  · exact part_lt n (by omega)
  · have := part_pos n (by omega)
    omega
theorem climb_one (x : Bytes) (i n : Nat) (p : List Bytes) (h : n < 2) : climb S x i n p = if p = [] then some (leafOf S x) else none := by rw [climb, dif_pos h]
theorem climb_none (x : Bytes) (i n : Nat) (h : 2 ≤ n) : climb S x i n [] = none := by rw [climb, dif_neg (by omega), if_pos rfl]
theorem climb_left (x : Bytes) (i n : Nat) (p : List Bytes) (u : Bytes) (h : 2 ≤ n) (hi : i < part n) : climb S x i n (p ++ [u]) = (climb S x i (part n) p).map fun y => pairOf S y u := by
  rw [climb, dif_neg (by omega), if_neg (by simp), if_pos hi]; simp
theorem climb_right (x : Bytes) (i n : Nat) (p : List Bytes) (u : Bytes) (h : 2 ≤ n) (hi : ¬ i < part n) : climb S x i n (p ++ [u]) = (climb S x (i - part n) (n - part n) p).map fun y => pairOf S u y := by
  rw [climb, dif_neg (by omega), if_neg (by simp), if_neg hi]; simp
/-- P6.4: each leaf by its path. -/
theorem climb_path : ∀ (N : Nat) (l : List Bytes) (i : Nat) (x : Bytes), l.length ≤ N → l[i]? = some x → climb S x i l.length (path S l i) = some (root S l)
  | 0, l, i, x, hN, hx => by
    have := (List.getElem?_eq_some_iff.1 hx).1
    omega
  | N + 1, l, i, x, hN, hx => by
    have hi := (List.getElem?_eq_some_iff.1 hx).1
    rcases Nat.lt_or_ge l.length 2 with h | h
    · have h1 : l.length = 1 := by omega
      obtain ⟨y, rfl⟩ := List.length_eq_one_iff.1 h1
      obtain rfl : i = 0 := by simpa using hi
      obtain rfl : y = x := by simpa using hx
      rw [path_short S _ _ (by simp), climb_one S _ _ _ _ (by simp), if_pos rfl, root_one]
    · have hp := part_lt l.length h
      have hq := part_pos l.length h
      rw [root_split S l h]
      rcases Nat.lt_or_ge i (part l.length) with hk | hk
      · have hl : (l.take (part l.length)).length = part l.length := by rw [List.length_take]; omega
        have ih := climb_path N (l.take (part l.length)) i x (by omega) (by rw [List.getElem?_take, if_pos hk]; exact hx)
        rw [hl] at ih
        rw [path_left S l i h hk, climb_left S _ _ _ _ _ h hk, ih]
        rfl
      · have hl : (l.drop (part l.length)).length = l.length - part l.length := List.length_drop
        have ih := climb_path N (l.drop (part l.length)) (i - part l.length) x (by omega) (by rw [List.getElem?_drop, show part l.length + (i - part l.length) = i by omega]; exact hx)
        rw [hl] at ih
        rw [path_right S l i h (by omega), climb_right S _ _ _ _ _ h (by omega), ih]
        rfl
theorem path_length : ∀ (e : Nat) (l : List Bytes) (i : Nat), l.length ≤ 2 ^ e → (path S l i).length ≤ e
  | 0, l, i, h => by rw [path_short S l i (by simpa using Nat.lt_of_le_of_lt h (by decide))]; exact Nat.le_refl _
  | e + 1, l, i, h => by
    rcases Nat.lt_or_ge l.length 2 with h2 | h2
    · rw [path_short S l i h2]; exact Nat.zero_le _
    · have hp := part_le l.length e h2 h
      have hs := part_spec l.length h2
      rcases Nat.lt_or_ge i (part l.length) with hk | hk
      · rw [path_left S l i h2 hk, List.length_append]
        have := path_length e (l.take (part l.length)) i (by rw [List.length_take]; omega)
        simpa using this
      · rw [path_right S l i h2 (by omega), List.length_append]
        have := path_length e (l.drop (part l.length)) (i - part l.length) (by rw [List.length_drop]; rw [Nat.pow_succ] at h; omega)
        simpa using this
/-- RFC 6962's proofs of growth. -/
def sub (l : List Bytes) (m : Nat) (whole : Bool) : List Bytes :=
  if _h : l.length < 2 ∨ m = l.length then (if whole then [] else [root S l]) else
    if m ≤ part l.length then sub (l.take (part l.length)) m whole ++ [root S (l.drop (part l.length))]
    else sub (l.drop (part l.length)) (m - part l.length) false ++ [root S (l.take (part l.length))]
termination_by l.length
decreasing_by
  · have := part_lt l.length (by omega)
    rw [List.length_take]; omega
  · have := part_pos l.length (by omega)
    rw [List.length_drop]; omega
theorem sub_all (l : List Bytes) (m : Nat) (whole : Bool) (h : m = l.length) : sub S l m whole = if whole then [] else [root S l] := by rw [sub, dif_pos (.inr h)]
theorem sub_left (l : List Bytes) (m : Nat) (whole : Bool) (h : 2 ≤ l.length) (h2 : m ≠ l.length) (hm : m ≤ part l.length) : sub S l m whole = sub S (l.take (part l.length)) m whole ++ [root S (l.drop (part l.length))] := by
  rw [sub, dif_neg (by omega), if_pos hm]
theorem sub_right (l : List Bytes) (m : Nat) (whole : Bool) (h : 2 ≤ l.length) (h2 : m ≠ l.length) (hm : ¬ m ≤ part l.length) : sub S l m whole = sub S (l.drop (part l.length)) (m - part l.length) false ++ [root S (l.take (part l.length))] := by
  rw [sub, dif_neg (by omega), if_neg hm]
/-- A proof of one hash. -/
def single : List Bytes → Option (Bytes × Bytes)
  | [x] => some (x, x)
  | _ => none
/-- The roots of the first m, and of all n, by a proof. -/
def both (old : Bytes) (m n : Nat) (p : List Bytes) (whole : Bool) : Option (Bytes × Bytes) :=
  if _h : n < 2 ∨ m = n then (if whole then (if p = [] then some (old, old) else none) else single p) else
    if p = [] then none else
      if m ≤ part n then (both old m (part n) p.dropLast whole).map fun y => (y.1, pairOf S y.2 (p.getLastD []))
      else (both old (m - part n) (n - part n) p.dropLast false).map fun y => (pairOf S (p.getLastD []) y.1, pairOf S (p.getLastD []) y.2)
termination_by n
decreasing_by
  · exact part_lt n (by omega)
  · have := part_pos n (by omega)
    omega
theorem both_all (old : Bytes) (m n : Nat) (p : List Bytes) (whole : Bool) (h : m = n) : both S old m n p whole = if whole then (if p = [] then some (old, old) else none) else single p := by
  rw [both, dif_pos (.inr h)]
theorem both_none (old : Bytes) (m n : Nat) (whole : Bool) (h : 2 ≤ n) (h2 : m ≠ n) : both S old m n [] whole = none := by rw [both, dif_neg (by omega), if_pos rfl]
theorem both_left (old : Bytes) (m n : Nat) (p : List Bytes) (u : Bytes) (whole : Bool) (h : 2 ≤ n) (h2 : m ≠ n) (hm : m ≤ part n) : both S old m n (p ++ [u]) whole = (both S old m (part n) p whole).map fun y => (y.1, pairOf S y.2 u) := by
  rw [both, dif_neg (by omega), if_neg (by simp), if_pos hm]; simp
theorem both_right (old : Bytes) (m n : Nat) (p : List Bytes) (u : Bytes) (whole : Bool) (h : 2 ≤ n) (h2 : m ≠ n) (hm : ¬ m ≤ part n) : both S old m n (p ++ [u]) whole = (both S old (m - part n) (n - part n) p false).map fun y => (pairOf S u y.1, pairOf S u y.2) := by
  rw [both, dif_neg (by omega), if_neg (by simp), if_neg hm]; simp
theorem part_same (n m : Nat) (h : 2 ≤ n) (h1 : part n < m) (h2 : m ≤ n) : 2 ≤ m ∧ part m = part n := by
  obtain ⟨a1, a2, ⟨e, he⟩, a3⟩ := part_spec n h
  exact ⟨by omega, part_only m (part n) e he h1 (by omega)⟩
/-- P6.4: each beginning by its proof. -/
theorem both_sub : ∀ (N : Nat) (l : List Bytes) (m : Nat) (whole : Bool) (old : Bytes), l.length ≤ N → 1 ≤ m → m ≤ l.length → (whole = true → old = root S (l.take m)) → both S old m l.length (sub S l m whole) whole = some (root S (l.take m), root S l)
  | 0, l, m, whole, old, hN, h1, h2, _ => by omega
  | N + 1, l, m, whole, old, hN, h1, h2, ho => by
    by_cases hm : m = l.length
    · rw [sub_all S l m whole hm, both_all S old m l.length _ whole hm, hm, List.take_length]
      cases whole with
      | true =>
        have := ho rfl
        rw [hm, List.take_length] at this
        rw [this]; rfl
      | false => rfl
    · have h : 2 ≤ l.length := by omega
      have hp := part_lt l.length h
      have hq := part_pos l.length h
      by_cases hk : m ≤ part l.length
      · have hl : (l.take (part l.length)).length = part l.length := by rw [List.length_take]; omega
        have ht : (l.take (part l.length)).take m = l.take m := by rw [List.take_take, Nat.min_eq_left hk]
        have ih := both_sub N (l.take (part l.length)) m whole old (by omega) h1 (by omega) (by rw [ht]; exact ho)
        rw [hl, ht] at ih
        rw [sub_left S l m whole h hm hk, both_left S old m l.length _ _ whole h hm hk, ih, root_split S l h]
        rfl
      · have hl : (l.drop (part l.length)).length = l.length - part l.length := List.length_drop
        have ih := both_sub N (l.drop (part l.length)) (m - part l.length) false old (by omega) (by omega) (by omega) (fun h => by cases h)
        rw [hl] at ih
        obtain ⟨hm2, hpm⟩ := part_same l.length m h (by omega) h2
        have hlm : (l.take m).length = m := by rw [List.length_take]; omega
        have e1 : root S (l.take m) = pairOf S (root S (l.take (part l.length))) (root S ((l.drop (part l.length)).take (m - part l.length))) := by
          rw [root_split S (l.take m) (by omega), hlm, hpm, List.take_take, Nat.min_eq_left (by omega), List.drop_take]
        rw [sub_right S l m whole h hm hk, both_right S old m l.length _ _ whole h hm hk, ih, e1, root_split S l h]
        rfl
theorem sub_length : ∀ (e : Nat) (l : List Bytes) (m : Nat) (whole : Bool), l.length ≤ 2 ^ e → (sub S l m whole).length ≤ e + 1
  | 0, l, m, whole, h => by
    rw [sub, dif_pos (.inl (by simpa using Nat.lt_of_le_of_lt h (by decide)))]
    split <;> simp
  | e + 1, l, m, whole, h => by
    by_cases hm : l.length < 2 ∨ m = l.length
    · rw [sub, dif_pos hm]
      split <;> simp
    · have h2 : 2 ≤ l.length := by omega
      have hp := part_le l.length e h2 h
      have hs := part_spec l.length h2
      by_cases hk : m ≤ part l.length
      · rw [sub_left S l m whole h2 (by omega) hk, List.length_append]
        have := sub_length e (l.take (part l.length)) m whole (by rw [List.length_take]; omega)
        simpa using this
      · rw [sub_right S l m whole h2 (by omega) hk, List.length_append]
        have := sub_length e (l.drop (part l.length)) (m - part l.length) false (by rw [List.length_drop]; rw [Nat.pow_succ] at h; omega)
        simpa using this
end
end Mk
end Go.Proofs.YtjeclmbableacaaDoor
namespace Go.Proofs.YtjeclmbableacaaDoor
open Go.RowKit

theorem pow_step (k e : Nat) (h : k = 2 ^ e) : 2 * k = 2 ^ (e + 1) := by rw [h, Nat.pow_succ]; omega
set_option maxRecDepth 100000 in
theorem refPart_any (w : World) (n : Nat) (h : 2 ≤ n) (hn : n ≤ 1000000) :
    Calls Tryd.prog 31 #[.int .i64 (n : Nat)] w fun e w' => e = .returned (.int .i64 (Mk.part n : Nat)) ∧ w = w' := by
  go_enter Tryd.func31, Tryd.ntmps31
  go_wp2_with fail
  go_loopw [3] (fun t3 wr => ∃ k : Nat, t3 = .int .i64 (k : Nat) ∧ 0 < k ∧ k < n ∧ Hid (∃ e, k = 2 ^ e) ∧ wr = w) (fun t _ => n - (intOf t).toNat)
  case atStart => exact ⟨1, rfl, by omega, by omega, ⟨0, rfl⟩, rfl⟩
  case round =>
    obtain ⟨k, rfl, h1, h2, h3, rfl⟩ := hrel
    by_cases h4 : 2 * k < n
    · have h5 : Hid (∃ e, 2 * k = 2 ^ e) := by
        obtain ⟨e, he⟩ := h3.out
        exact ⟨e + 1, pow_step k e he⟩
      clear h3
      go_wp2_with fail
      go_roundw
      case rel => exact ⟨2 * k, by go_num, by omega, by omega, h5, trivial⟩
      case measure => simp [intOf]; omega
    · have h6 : Hid (Mk.part n = k) := by
        obtain ⟨e, he⟩ := h3.out
        exact Mk.part_only n k e he h2 (by omega)
      go_wp2_with fail
      go_ret
      rw [h6.out]
      exact ⟨rfl, rfl⟩
end Go.Proofs.YtjeclmbableacaaDoor
namespace Go.Proofs.YtjeclmbableacaaDoor
open Go.RowKit

theorem len_of_pow : ∀ (f x e : Nat), x < 2 ^ f → 2 ^ e ≤ x → x < 2 ^ (e + 1) → Lib.bitLenAux f x = e + 1
  | 0, x, e, h, h1, _ => by
    have := Nat.two_pow_pos e
    simp at h
    omega
  | f + 1, x, e, h, h1, h2 => by
    have hp := Nat.two_pow_pos e
    unfold Lib.bitLenAux
    rw [if_neg (by omega)]
    cases e with
    | zero =>
      have hx : x = 1 := by simp at h2; omega
      subst hx
      cases f <;> simp [Lib.bitLenAux]
    | succ e =>
      rw [Nat.pow_succ] at h h1 h2
      rw [len_of_pow f (x / 2) e (by omega) (by omega) (by omega)]
      omega
theorem part_of_len (n : Nat) (h : 2 ≤ n) (hn : n ≤ 1000000) : ∃ e, e ≤ 20 ∧ Lib.bitLen (n - 1) = e + 1 ∧ Mk.part n = 2 ^ e := by
  obtain ⟨a1, a2, ⟨e, he⟩, a3⟩ := Mk.part_spec n h
  refine ⟨e, ?_, len_of_pow 64 (n - 1) e (by omega) (by omega) (by rw [Nat.pow_succ]; omega), he⟩
  rcases Nat.lt_or_ge 20 e with h1 | h1
  · have : 2 ^ 21 ≤ 2 ^ e := Nat.pow_le_pow_right (by omega) h1
    omega
  · exact h1

theorem len8_len (y : Nat) (h : y < 256) : (Lib.len8tab[y]'(by rw [Lib.len8tab_size]; exact h)).toNat = Lib.bitLen y ∧ Lib.bitLen y ≤ 8 := by
  refine ⟨?_, Lib.bitLen_le8 ⟨y, h⟩⟩
  have e := Lib.len8_eq ⟨y, h⟩
  have h2 : y < Lib.len8tab.size := by rw [Lib.len8tab_size]; exact h
  simp only [Lib.len8, Int.toNat_natCast, getElem?_pos Lib.len8tab y h2, Option.getD_some] at e
  exact_mod_cast e
set_option maxHeartbeats 2000000 in
set_option maxRecDepth 100000 in
theorem len64_any (w : World) (x : Int) (h0 : 0 ≤ x) (h1 : x ≤ 1000000) :
    Calls Tryd.prog 51 #[.int .u64 x] w fun e w' => e = .returned (.int .i64 (Lib.bitLen x.toNat)) ∧ w = w' := by
  have hx : ¬ (4294967296 ≤ x) := by omega
  have hsz := Lib.len8tab_size
  by_cases h3 : 65536 ≤ x
  · skip
    obtain ⟨y, hy⟩ : ∃ y : Nat, y = x.toNat / 65536 := ⟨_, rfl⟩
    have hy2 : x / 65536 = (y : Int) := by omega
    have y2 : y < 256 := by omega
    obtain ⟨e1, e2⟩ := len8_len y y2
    have e3 := Lib.hid e1
    have hs : Hid (Lib.bitLen x.toNat = 16 + Lib.bitLen y) := by
      have := Lib.bitLen_shift16 x.toNat (by omega) (by omega)
      rw [← hy] at this; exact this
    clear hy e1
    go_enter Tryd.func51, Tryd.ntmps51
    go_wp2
    go_ret
    refine ⟨congrArg Ending.returned (congrArg (Value.int IntKind.i64) ?_), rfl⟩
    have e4 := e3.out
    rw [e4, hs.out]
    unfold wrap64
    omega
  · by_cases h4 : 256 ≤ x
    · skip
      obtain ⟨y, hy⟩ : ∃ y : Nat, y = x.toNat / 256 := ⟨_, rfl⟩
      have hy2 : x / 256 = (y : Int) := by omega
      have y2 : y < 256 := by omega
      obtain ⟨e1, e2⟩ := len8_len y y2
      have e3 := Lib.hid e1
      have hs : Hid (Lib.bitLen x.toNat = 8 + Lib.bitLen y) := by
        have := Lib.bitLen_shift8 x.toNat (by omega) (by omega)
        rw [← hy] at this; exact this
      clear hy e1
      go_enter Tryd.func51, Tryd.ntmps51
      go_wp2
      go_ret
      refine ⟨congrArg Ending.returned (congrArg (Value.int IntKind.i64) ?_), rfl⟩
      have e4 := e3.out
      rw [e4, hs.out]
      unfold wrap64
      omega
    · skip
      obtain ⟨y, rfl⟩ : ∃ y : Nat, x = (y : Int) := ⟨x.toNat, by omega⟩
      have y2 : y < 256 := by omega
      obtain ⟨e1, e2⟩ := len8_len y y2
      have e3 := Lib.hid e1
      clear e1
      go_enter Tryd.func51, Tryd.ntmps51
      go_wp2
      go_ret
      refine ⟨congrArg Ending.returned (congrArg (Value.int IntKind.i64) ?_), rfl⟩
      have e4 := e3.out
      rw [e4, Int.toNat_natCast]
      unfold wrap64
      omega
set_option maxHeartbeats 2000000 in
set_option maxRecDepth 100000 in
theorem bitsLen_any (w : World) (x : Int) (h0 : 0 ≤ x) (h1 : x ≤ 1000000) :
    Calls Tryd.prog 44 #[.int .u64 x] w fun e w' => e = .returned (.int .i64 (Lib.bitLen x.toNat)) ∧ w = w' := by
  go_enter Tryd.func44, Tryd.ntmps44
  go_wp2_with fail
  refine (len64_any w x h0 h1).mono ?_
  rintro e w1 ⟨rfl, rfl⟩
  go_wp2_with fail
  go_ret
  exact ⟨rfl, rfl⟩
set_option maxHeartbeats 2000000 in
set_option maxRecDepth 100000 in
theorem parting_any (w : World) (n : Nat) (h : 2 ≤ n) (hn : n ≤ 1000000) :
    Calls Tryd.prog 28 #[.int .i64 (n : Nat)] w fun e w' => e = .returned (.int .i64 (Mk.part n : Nat)) ∧ w = w' := by
  obtain ⟨e, h1, h2, h3⟩ := part_of_len n h hn
  have hp : (2 : Nat) ^ e ≤ 2 ^ 20 := Nat.pow_le_pow_right (by omega) h1
  have H2 := Lib.hid h2
  have H3 := Lib.hid h3
  clear h2 h3
  go_enter Tryd.func28, Tryd.ntmps28
  go_wp2_with fail
  refine (bitsLen_any w ((n : Int) - 1) (by omega) (by omega)).mono ?_
  rintro e' w1 ⟨rfl, rfl⟩
  have hb : Lib.bitLen ((n : Int) - 1).toNat = e + 1 := by rw [← H2.out]; congr 1; omega
  rw [hb]
  go_wp2_with fail
  go_ret
  refine ⟨congrArg Ending.returned (congrArg (Value.int IntKind.i64) ?_), rfl⟩
  have hq : ((2 : Int) ^ e) = ((2 ^ e : Nat) : Int) := by norm_cast
  obtain ⟨q, hq2⟩ : ∃ q : Nat, q = 2 ^ e := ⟨_, rfl⟩
  rw [H3.out, hq, ← hq2]
  rw [← hq2] at hp
  unfold wrap64
  clear hq hq2
  omega
end Go.Proofs.YtjeclmbableacaaDoor

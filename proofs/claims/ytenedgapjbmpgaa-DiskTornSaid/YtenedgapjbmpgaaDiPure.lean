/-
  OWN WORK. A disk of sectors: plain mathematics.
-/
import Derived.Test.YtenedgapjbmpgaaBaSized
namespace Go.Proofs.Ytenedgapjbmpgaa
namespace Di
/-- A disk: what was written last, what is safe, which is dirty, how many writes. -/
structure Dk where
  now : List (List UInt8)
  safe : List (List UInt8)
  dirty : List Bool
  writes : Nat
structure Dk.Ok (d : Dk) : Prop where
  lo : 64 ≤ d.dirty.length
  hi : d.dirty.length ≤ 4096
  now : d.now.length = d.dirty.length
  safe : d.safe.length = d.dirty.length
  snow : ∀ x ∈ d.now, x.length = 128
  ssafe : ∀ x ∈ d.safe, x.length = 128
def noughts : List UInt8 := List.replicate 128 0
def Dk.new (n : Nat) : Dk := ⟨List.replicate n noughts, List.replicate n noughts, List.replicate n false, 0⟩
def chunks : Nat → List UInt8 → List (List UInt8)
  | 0, _ => []
  | n + 1, l => l.take 128 :: chunks n (l.drop 128)
def Dk.of (n : Nat) (l : List UInt8) : Dk := ⟨chunks n l, chunks n l, List.replicate n false, 0⟩
def Dk.has (d : Dk) (i : Int) : Prop := 0 ≤ i ∧ i < d.dirty.length
instance (d : Dk) (i : Int) : Decidable (d.has i) := by unfold Dk.has; exact inferInstance
def Dk.read (d : Dk) (i : Int) : List UInt8 × Nat := if d.has i then (d.now.getD i.toNat [], 0) else ([], 1)
def Dk.put (d : Dk) (i : Nat) (b : List UInt8) : Dk := { d with now := d.now.set i b, dirty := d.dirty.set i true, writes := d.writes + 1 }
def Dk.write (d : Dk) (i : Int) (b : List UInt8) : Nat × Dk := if d.has i ∧ b.length = 128 then (0, d.put i.toNat b) else (1, d)
def Dk.flush (d : Dk) : Dk := { d with safe := d.now, dirty := List.replicate d.dirty.length false }
def clamp (cut : Int) : Nat := if cut < 0 then 0 else if 128 < cut then 128 else cut.toNat
def left (keep : List Bool) (torn : Int) (c : Nat) : Nat → List (List UInt8) → List (List UInt8) → List Bool → List (List UInt8)
  | k, n :: ns, s :: ss, true :: ds => (if (k : Int) = torn then n.take c ++ s.drop c else if keep.getD k false then n else s) :: left keep torn c (k + 1) ns ss ds
  | k, _ :: ns, s :: ss, false :: ds => s :: left keep torn c k ns ss ds
  | _, _, _, _ => []
def Dk.crash (d : Dk) (keep : List Bool) (torn cut : Int) : Dk :=
  { d with now := left keep torn (clamp cut) 0 d.now d.safe d.dirty, safe := left keep torn (clamp cut) 0 d.now d.safe d.dirty, dirty := List.replicate d.dirty.length false }
def Dk.image (d : Dk) : List UInt8 := d.now.flatten
def dirtyFrom : Nat → List Bool → List Int
  | _, [] => []
  | i, true :: ds => (i : Int) :: dirtyFrom (i + 1) ds
  | i, false :: ds => dirtyFrom (i + 1) ds
def Dk.dirtyL (d : Dk) : List Int := dirtyFrom 0 d.dirty

theorem flat_length : ∀ l : List (List UInt8), (∀ x ∈ l, x.length = 128) → l.flatten.length = 128 * l.length
  | [], _ => rfl
  | x :: l, h => by
    have h1 := flat_length l (fun y hy => h y (.tail _ hy))
    have h2 := h x (.head _)
    simp only [List.flatten_cons, List.length_append, List.length_cons]
    omega
theorem Dk.Ok.image {d : Dk} (h : d.Ok) : d.image.length = 128 * d.dirty.length := by unfold Dk.image; rw [flat_length _ h.snow, h.now]
theorem left_length (keep : List Bool) (torn : Int) (c : Nat) : ∀ (ds : List Bool) (k : Nat) (ns ss : List (List UInt8)), ns.length = ds.length → ss.length = ds.length → (left keep torn c k ns ss ds).length = ds.length
  | [], _, [], [], _, _ => rfl
  | true :: ds, k, n :: ns, s :: ss, h1, h2 => by
    simp only [left, List.length_cons]
    rw [left_length keep torn c ds (k + 1) ns ss (by simpa using h1) (by simpa using h2)]
  | false :: ds, k, n :: ns, s :: ss, h1, h2 => by
    simp only [left, List.length_cons]
    rw [left_length keep torn c ds k ns ss (by simpa using h1) (by simpa using h2)]
theorem left_secs (keep : List Bool) (torn : Int) (c : Nat) (hc : c ≤ 128) : ∀ (ds : List Bool) (k : Nat) (ns ss : List (List UInt8)), (∀ x ∈ ns, x.length = 128) → (∀ x ∈ ss, x.length = 128) → ∀ x ∈ left keep torn c k ns ss ds, x.length = 128
  | [], _, _, _, _, _, x, hx => by simp [left] at hx
  | _ :: _, _, [], _, _, _, x, hx => by simp [left] at hx
  | _ :: _, _, _ :: _, [], _, _, x, hx => by simp [left] at hx
  | true :: ds, k, n :: ns, s :: ss, h1, h2, x, hx => by
    simp only [left, List.mem_cons] at hx
    have a := h1 n (.head _)
    have b := h2 s (.head _)
    rcases hx with rfl | hx
    · split
      · simp only [List.length_append, List.length_take, List.length_drop]; omega
      · split <;> assumption
    · exact left_secs keep torn c hc ds (k + 1) ns ss (fun y hy => h1 y (.tail _ hy)) (fun y hy => h2 y (.tail _ hy)) x hx
  | false :: ds, k, n :: ns, s :: ss, h1, h2, x, hx => by
    simp only [left, List.mem_cons] at hx
    rcases hx with rfl | hx
    · exact h2 _ (.head _)
    · exact left_secs keep torn c hc ds k ns ss (fun y hy => h1 y (.tail _ hy)) (fun y hy => h2 y (.tail _ hy)) x hx
theorem clamp_le (cut : Int) : clamp cut ≤ 128 := by
  unfold clamp
  split
  · omega
  · split <;> omega
theorem noughts_length : noughts.length = 128 := List.length_replicate
theorem Dk.new_ok {n : Nat} (h1 : 64 ≤ n) (h2 : n ≤ 4096) : (Dk.new n).Ok := by
  refine ⟨?_, ?_, ?_, ?_, fun x hx => ?_, fun x hx => ?_⟩ <;> simp only [Dk.new, List.length_replicate] at * <;> try omega
  · rw [(List.mem_replicate.1 hx).2, noughts_length]
  · rw [(List.mem_replicate.1 hx).2, noughts_length]
theorem Dk.Ok.put {d : Dk} (h : d.Ok) (i : Nat) (b : List UInt8) (hb : b.length = 128) : (d.put i b).Ok := by
  refine ⟨?_, ?_, ?_, ?_, fun x hx => ?_, h.ssafe⟩ <;> simp only [Dk.put, List.length_set] at *
  · exact h.lo
  · exact h.hi
  · exact h.now
  · exact h.safe
  · rcases List.mem_or_eq_of_mem_set hx with h1 | h1
    · exact h.snow x h1
    · rw [h1]; exact hb
theorem Dk.Ok.flush {d : Dk} (h : d.Ok) : d.flush.Ok := by
  refine ⟨?_, ?_, ?_, ?_, h.snow, h.snow⟩ <;> simp only [Dk.flush, List.length_replicate]
  · exact h.lo
  · exact h.hi
  · exact h.now
  · exact h.now
theorem Dk.Ok.crash {d : Dk} (h : d.Ok) (keep : List Bool) (torn cut : Int) : (d.crash keep torn cut).Ok := by
  have hl := left_length keep torn (clamp cut) d.dirty 0 d.now d.safe h.now h.safe
  have hs := left_secs keep torn (clamp cut) (clamp_le cut) d.dirty 0 d.now d.safe h.snow h.ssafe
  refine ⟨?_, ?_, ?_, ?_, hs, hs⟩ <;> simp only [Dk.crash, List.length_replicate]
  · exact h.lo
  · exact h.hi
  · exact hl
  · exact hl
/-- Nothing is kept. -/
theorem left_none (c : Nat) : ∀ (ds : List Bool) (k : Nat) (ns ss : List (List UInt8)), ns.length = ds.length → ss.length = ds.length → left [] (-1) c k ns ss ds = ss
  | [], _, [], [], _, _ => rfl
  | true :: ds, k, n :: ns, s :: ss, h1, h2 => by
    simp only [left]
    rw [left_none c ds (k + 1) ns ss (by simpa using h1) (by simpa using h2), if_neg (by omega)]
    rfl
  | false :: ds, k, n :: ns, s :: ss, h1, h2 => by
    simp only [left]
    rw [left_none c ds k ns ss (by simpa using h1) (by simpa using h2)]
theorem Dk.Ok.lost {d : Dk} (h : d.Ok) (cut : Int) : d.crash [] (-1) cut = { d with now := d.safe, dirty := List.replicate d.dirty.length false } := by
  unfold Dk.crash
  rw [left_none _ _ _ _ _ h.now h.safe]
theorem dirty_none : ∀ (n i : Nat), dirtyFrom i (List.replicate n false) = []
  | 0, _ => rfl
  | n + 1, i => by rw [List.replicate_succ]; exact dirty_none n (i + 1)
theorem Dk.write_to (d : Dk) (i : Nat) (b : List UInt8) (h : i < d.dirty.length) (hb : b.length = 128) : d.write (i : Int) b = (0, d.put i b) := by
  unfold Dk.write
  rw [if_pos ⟨⟨by omega, by omega⟩, hb⟩, Int.toNat_natCast]
theorem Dk.read_to (d : Dk) (i : Nat) (h : i < d.dirty.length) : d.read (i : Int) = (d.now.getD i [], 0) := by
  unfold Dk.read
  rw [if_pos ⟨by omega, by omega⟩, Int.toNat_natCast]
theorem Dk.Ok.read_put {d : Dk} (h : d.Ok) (i : Nat) (b : List UInt8) (hi : i < d.dirty.length) : (d.put i b).read (i : Int) = (b, 0) := by
  rw [Dk.read_to _ _ (by show i < (d.dirty.set i true).length; rw [List.length_set]; exact hi)]
  show ((d.now.set i b).getD i [], 0) = _
  rw [List.getD_eq_getElem?_getD, List.getElem?_set_self (by rw [h.now]; exact hi)]
  rfl
theorem Dk.Ok.read_len {d : Dk} (h : d.Ok) (i : Nat) (hi : i < d.dirty.length) : (d.read (i : Int)).1.length = 128 := by
  rw [Dk.read_to _ _ hi]
  have h2 : i < d.now.length := by rw [h.now]; exact hi
  show (d.now.getD i []).length = 128
  rw [List.getD_eq_getElem?_getD, List.getElem?_eq_getElem h2]
  exact h.snow _ (List.getElem_mem h2)
theorem new_dirty (n : Nat) : (Dk.new n).dirty.length = n := List.length_replicate
theorem put_dirty (d : Dk) (i : Nat) (b : List UInt8) : (d.put i b).dirty.length = d.dirty.length := List.length_set
theorem new_safe (n i : Nat) (h : i < n) : (Dk.new n).safe.getD i [] = noughts := by
  show (List.replicate n noughts).getD i [] = _
  rw [List.getD_eq_getElem?_getD, List.getElem?_replicate, if_pos h]
  rfl
theorem chunks_length : ∀ (n : Nat) (l : List UInt8), (chunks n l).length = n
  | 0, _ => rfl
  | n + 1, l => by simp only [chunks, List.length_cons, chunks_length n]
theorem chunks_flat : ∀ (n : Nat) (l : List UInt8), l.length = 128 * n → (chunks n l).flatten = l
  | 0, l, h => by rw [List.eq_nil_of_length_eq_zero (l := l) (by omega)]; rfl
  | n + 1, l, h => by
    simp only [chunks, List.flatten_cons]
    rw [chunks_flat n _ (by rw [List.length_drop]; omega), List.take_append_drop]
theorem left_clean (keep : List Bool) (torn : Int) (c : Nat) : ∀ (n k : Nat) (ns ss : List (List UInt8)), ns.length = n → ss.length = n → left keep torn c k ns ss (List.replicate n false) = ss
  | 0, _, _, [], _, _ => by simp [left]
  | n + 1, k, x :: ns, s :: ss, h1, h2 => by
    rw [List.replicate_succ]
    simp only [left]
    rw [left_clean keep torn c n k ns ss (by simpa using h1) (by simpa using h2)]
theorem of_crash (n : Nat) (l : List UInt8) (keep : List Bool) (torn cut : Int) (h : l.length = 128 * n) : ((Dk.of n l).crash keep torn cut).image = l := by
  show (left keep torn (clamp cut) 0 (chunks n l) (chunks n l) (List.replicate n false)).flatten = l
  rw [left_clean _ _ _ _ _ _ _ (chunks_length n l) (chunks_length n l), chunks_flat n l h]
end Di
end Go.Proofs.Ytenedgapjbmpgaa

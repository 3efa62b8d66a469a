/-
  OWN WORK. The program's disk does what a disk does.
-/
import Derived.Test.YtenedgapjbmpgaaDiCodeE
namespace Go.Proofs.Ytenedgapjbmpgaa
open Go.RowKit Rc Di Ob

def dobj : Ob.Obj Dk where
  At := DAt
  keep := by
    rintro v s S w w' ⟨p, q, L, c, rfl, h1, rfl, rfl⟩ hs hb
    exact ⟨p, q, L, c, rfl, h1.keep hb, rfl, rfl⟩
  lt := by
    rintro v s S w ⟨p, q, L, c, rfl, h1, rfl, rfl⟩ b (rfl | rfl)
    · exact h1.box.lt
    · exact h1.row.lt
  ptr := by
    rintro v s S w ⟨p, q, L, c, rfl, _⟩
    exact ⟨_, rfl⟩
theorem turns_of {p q : Nat} {w w' : World} {st : Dk} {x : Value} (h : Turned p q w st w') : Turns dobj (.pointer (some ⟨p, 0, none⟩)) st x (On p q) w (.returned x) w' := by
  obtain ⟨M, c, hd, rfl, hm⟩ := h
  exact ⟨rfl, On p q, hd.at_, hm, fun b h => .inl h⟩
def dsaid : DSaid where
  toObj := dobj
  ok := by
    rintro v s S w ⟨p, q, L, c, rfl, h1, rfl, rfl⟩
    exact h1.dk_ok
  new := by
    intro w n h0 h1
    by_cases h : 64 ≤ n ∧ n ≤ 4096
    · obtain ⟨k, rfl⟩ : ∃ k : Nat, n = (k : Int) := ⟨n.toNat, by omega⟩
      refine (new_good w k (by omega) (by omega)).mono ?_
      rintro e w' ⟨p, q, rfl, hd, hb, hp, hq⟩
      refine ⟨hb, fun _ => ⟨_, On p q, rfl, ?_, ?_⟩, fun hn => absurd h hn⟩
      · rw [Int.toNat_natCast, ← dk_new]; exact hd.at_
      · rintro b (rfl | rfl)
        · exact hp
        · exact hq
    · refine (new_bad w n h0 h1 h).mono ?_
      rintro e w' ⟨rfl, rfl⟩
      exact ⟨Below.refl _ _, fun hg => absurd hg h, fun _ => ⟨_, rfl⟩⟩
  of_ := by
    intro w A L cap hr hc hl
    by_cases h : ∃ n, 64 ≤ n ∧ n ≤ 4096 ∧ L.length = 128 * n
    · obtain ⟨n, h1, h2, h3⟩ := h
      refine (of_good w A L cap n hr hc h1 h2 h3).mono ?_
      rintro e w' ⟨p, q, rfl, hd, hb, hp, hq⟩
      refine ⟨hb, fun m _ _ hm => ⟨_, On p q, rfl, ?_, ?_⟩, fun hn => absurd h3 (hn n h1 h2)⟩
      · obtain rfl : m = n := by omega
        rw [← part_dk]; exact hd.at_
      · rintro b (rfl | rfl)
        · exact hp
        · exact hq
    · have hno : ∀ n, 64 ≤ n → n ≤ 4096 → L.length ≠ 128 * n := fun n h1 h2 h3 => h ⟨n, h1, h2, h3⟩
      refine (of_bad w A L cap hl hno).mono ?_
      rintro e w' ⟨rfl, rfl⟩
      exact ⟨Below.refl _ _, fun n h1 h2 h3 => absurd h3 (hno n h1 h2), fun _ => ⟨_, rfl⟩⟩
  sectors := by
    rintro v s S w ⟨p, q, L, c, rfl, h1, rfl, rfl⟩
    have e : (dk L c).dirty.length = L.length := by simp [dk]
    rw [e]
    exact sectors_to h1
  writes := by
    rintro v s S w ⟨p, q, L, c, rfl, h1, rfl, rfl⟩ _
    exact writes_to h1
  read := by
    rintro v s S w ⟨p, q, L, c, rfl, h1, rfl, rfl⟩ i h2 h3
    exact read_to h1 i h2 h3
  write := by
    rintro v s S w ⟨p, q, L, c, rfl, h1, rfl, rfl⟩ hw i A b cap h2 h3 hk hc hl
    refine (write_to h1 hw i A b cap h2 h3 hk hc hl).mono ?_
    rintro e w' ⟨rfl, ht⟩
    exact turns_of ht
  flush := by
    rintro v s S w ⟨p, q, L, c, rfl, h1, rfl, rfl⟩
    refine (flush_to h1).mono ?_
    rintro e w' ⟨rfl, ht⟩
    exact ⟨_, turns_of ht⟩
  crash := by
    rintro v s S w ⟨p, q, L, c, rfl, h1, rfl, rfl⟩ A K cap torn cut hK hA hKc hK2 h2 h3 h4 h5
    refine (crash_to h1 A K cap torn cut hK hA hKc hK2 h2 h3 h4 h5).mono ?_
    rintro e w' ⟨rfl, ht⟩
    exact ⟨_, turns_of ht⟩
  dirty := by
    rintro v s S w ⟨p, q, L, c, rfl, h1, rfl, rfl⟩
    exact dirty_to h1
  image := by
    rintro v s S w ⟨p, q, L, c, rfl, h1, rfl, rfl⟩
    exact image_to h1
end Go.Proofs.Ytenedgapjbmpgaa

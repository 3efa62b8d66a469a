/-
  OWN WORK. The program's disk as an object; what is told of it.
-/
import Derived.Test.YtenedgapjbmpgaaDiSettle
namespace Go.Proofs.Ytenedgapjbmpgaa
open Go.RowKit Rc Di

def dk (L : List Sec) (wr : Nat) : Dk := ⟨L.map Sec.now, L.map Sec.safe, L.map Sec.dirty, wr⟩
/-- A disk that stands on two blocks. -/
structure DIn (p q : Nat) (L : List Sec) (wr : Nat) (w : World) : Prop where
  box : Blk w p 54 [.slice (some ⟨q, 0, none⟩) L.length L.length, .int .i64 (wr : Nat)]
  row : Blk w q 58 (secs L)
  ne : p ≠ q
  ok : ∀ s ∈ L, s.Ok
  lo : 64 ≤ L.length
  hi : L.length ≤ 4096
def On (p q : Nat) : Nat → Prop := fun b => b = p ∨ b = q
def DAt (v : Value) (st : Dk) (S : Nat → Prop) (w : World) : Prop := ∃ p q L wr, v = .pointer (some ⟨p, 0, none⟩) ∧ DIn p q L wr w ∧ st = dk L wr ∧ S = On p q
section
variable {p q wr : Nat} {L : List Sec} {w w' : World}
theorem DIn.keep (h : DIn p q L wr w) (hb : ∀ b, On p q b → w'.heap[b]? = w.heap[b]?) : DIn p q L wr w' := ⟨(hb p (.inl rfl)).trans h.box, (hb q (.inr rfl)).trans h.row, h.ne, h.ok, h.lo, h.hi⟩
theorem DIn.below (h : DIn p q L wr w) (hb : Below w.heap.size w w') : DIn p q L wr w' := ⟨h.box.below hb h.box.lt, h.row.below hb h.row.lt, h.ne, h.ok, h.lo, h.hi⟩
theorem DIn.dk_ok (h : DIn p q L wr w) : (dk L wr).Ok := by
  have hd : (dk L wr).dirty.length = L.length := by simp [dk]
  refine ⟨by rw [hd]; exact h.lo, by rw [hd]; exact h.hi, by simp [dk], by simp [dk], ?_, ?_⟩
  · intro x hx
    obtain ⟨s, hs, rfl⟩ := List.mem_map.1 hx
    exact (h.ok s hs).now
  · intro x hx
    obtain ⟨s, hs, rfl⟩ := List.mem_map.1 hx
    exact (h.ok s hs).safe
theorem DIn.c0 (h : DIn p q L wr w) : w.cell? ⟨p, 0, none⟩ = some (.slice (some ⟨q, 0, none⟩) L.length L.length) := h.box.cell 0
theorem DIn.c1 (h : DIn p q L wr w) : w.cell? ⟨p, 1, none⟩ = some (.int .i64 (wr : Nat)) := h.box.cell 1
theorem DIn.at_ (h : DIn p q L wr w) : DAt (.pointer (some ⟨p, 0, none⟩)) (dk L wr) (On p q) w := ⟨p, q, L, wr, rfl, h, rfl, rfl⟩
/-- The sector at k, as settle takes it. -/
theorem DIn.parts (h : DIn p q L wr w) (k : Nat) (hk : k < L.length) : Blk w q 58 (secs (L.take k) ++ (L[k].cells ++ secs (L.drop (k + 1)))) ∧ (secs (L.take k)).length = k * 257 :=
  ⟨by rw [← secs_split L k hk]; exact h.row, secs_take h.ok k (by omega)⟩
theorem DIn.dirty_at (h : DIn p q L wr w) (k : Nat) (hk : k < L.length) : w.cell? ⟨q, k * 257 + 256, none⟩ = some (.bool L[k].dirty) := by
  rw [h.row.cell, secs_at h.ok k 256 hk (by omega), (h.ok _ (List.getElem_mem hk)).cell_dirty]
theorem DIn.now_at (h : DIn p q L wr w) (k : Nat) (hk : k < L.length) : Rd w (some ⟨q, k * 257, none⟩) L[k].now := (h.ok _ (List.getElem_mem hk)).rd_now (h.parts k hk).1 (h.parts k hk).2
theorem set_ok {s : Sec} (h : ∀ s ∈ L, s.Ok) (hs : s.Ok) (k : Nat) : ∀ x ∈ L.set k s, x.Ok := fun x hx => by
  rcases List.mem_or_eq_of_mem_set hx with h1 | rfl
  · exact h x h1
  · exact hs
/-- A sector is turned, the rest stays. -/
theorem DIn.turn (h : DIn p q L wr w) {k : Nat} {s : Sec} (hk : k < L.length) (hs : s.Ok) (hb : Blk w' q 58 (secs (L.take k) ++ (s.cells ++ secs (L.drop (k + 1))))) (hkp : Keeps w w' q) : DIn p q (L.set k s) wr w' := by
  refine ⟨?_, by rw [secs_set L k hk]; exact hb, h.ne, set_ok h.ok hs k, by rw [List.length_set]; exact h.lo, by rw [List.length_set]; exact h.hi⟩
  rw [List.length_set]
  exact (hkp.block p h.box.lt (fun e => h.ne (by injection e))).trans h.box
end
def DKept (p q : Nat) (M : List Sec) (wr : Nat) (w : World) (e : Ending) (w' : World) : Prop := e = .returned (.tuple #[]) ∧ DIn p q M wr w' ∧ Keeps w w' q
theorem settle_at {p q wr : Nat} {L : List Sec} {w : World} (h : DIn p q L wr w) (k : Nat) (hk : k < L.length) (n : Nat) (hn : n ≤ 128) :
    Calls Try.prog 34 #[.pointer (some ⟨q, k * 257, none⟩), .int .i64 (n : Nat)] w (DKept p q (L.set k (L[k].settle n)) wr w) := by
  have hs := h.ok _ (List.getElem_mem hk)
  refine (settle_to hs (h.parts k hk).1 (h.parts k hk).2 n hn).mono ?_
  rintro e w' ⟨rfl, hb, hkp⟩
  exact ⟨rfl, h.turn hk (hs.settle hn) hb hkp, hkp⟩
/-! Told. -/
set_option maxHeartbeats 1000000 in
set_option maxRecDepth 100000 in
theorem has_to {p q wr : Nat} {L : List Sec} {w : World} (h : DIn p q L wr w) (i : Int) (hi0 : -9223372036854775808 ≤ i) (hi1 : i ≤ 9223372036854775807) :
    Calls Try.prog 32 #[.pointer (some ⟨p, 0, none⟩), .int .i64 i] w fun e w' => e = .returned (.bool (decide (0 ≤ i ∧ i < (L.length : Int)))) ∧ w' = w := by
  have c0 := h.c0
  have hn := h.hi
  obtain ⟨d, hd⟩ : ∃ d, d = decide (0 ≤ i ∧ i < (L.length : Int)) := ⟨_, rfl⟩
  rw [← hd]
  have HD := Lib.hid hd
  clear h hd
  go_enter Try.func32, Try.ntmps32
  by_cases b1 : 0 ≤ i
  · by_cases b2 : i < (L.length : Int)
    · have HT : Hid (true = d) := by show _ = _; rw [HD.out, decide_eq_true (And.intro b1 b2)]
      go_wp2_with fail
      go_ret
      exact ⟨by rw [← HT.out]; rfl, rfl⟩
    · have HT : Hid (false = d) := by show _ = _; rw [HD.out, decide_eq_false (fun h => b2 h.2)]
      go_wp2_with fail
      go_ret
      exact ⟨by rw [← HT.out]; rfl, rfl⟩
  · have HT : Hid (false = d) := by show _ = _; rw [HD.out, decide_eq_false (fun h => b1 h.1)]
    go_wp2_with fail
    go_ret
    exact ⟨by rw [← HT.out]; rfl, rfl⟩
set_option maxHeartbeats 1000000 in
set_option maxRecDepth 100000 in
theorem sectors_to {p q wr : Nat} {L : List Sec} {w : World} (h : DIn p q L wr w) :
    Calls Try.prog 16 #[.pointer (some ⟨p, 0, none⟩)] w fun e w' => e = .returned (.int .i64 (L.length : Nat)) ∧ Below w.heap.size w w' := by
  have c0 := h.c0
  have hn := h.hi
  clear h
  go_enter Try.func16, Try.ntmps16
  go_wp2_with fail
  go_ret
  exact ⟨rfl, Below.refl _ _⟩
set_option maxHeartbeats 1000000 in
set_option maxRecDepth 100000 in
theorem writes_to {p q wr : Nat} {L : List Sec} {w : World} (h : DIn p q L wr w) :
    Calls Try.prog 24 #[.pointer (some ⟨p, 0, none⟩)] w fun e w' => e = .returned (.int .i64 (wr : Nat)) ∧ Below w.heap.size w w' := by
  have c0 := h.c1
  clear h
  go_enter Try.func24, Try.ntmps24
  go_wp2_with fail
  go_ret
  exact ⟨rfl, Below.refl _ _⟩
theorem dk_now (L : List Sec) (wr k : Nat) (hk : k < L.length) : (dk L wr).now.getD k [] = L[k].now := by
  simp [dk, hk]
theorem dk_has (L : List Sec) (wr : Nat) (i : Int) : (dk L wr).has i ↔ 0 ≤ i ∧ i < (L.length : Int) := by
  unfold Dk.has; simp [dk]
set_option maxHeartbeats 1000000 in
set_option maxRecDepth 100000 in
theorem read_to {p q wr : Nat} {L : List Sec} {w : World} (h : DIn p q L wr w) (i : Int) (hi0 : -9223372036854775808 ≤ i) (hi1 : i ≤ 9223372036854775807) :
    Calls Try.prog 15 #[.pointer (some ⟨p, 0, none⟩), .int .i64 i] w fun e w' => ∃ x, e = .returned (.tuple #[x, .int .i64 (((dk L wr).read i).2 : Nat)]) ∧ Ob.Fresh ((dk L wr).read i).1 w x w' ∧ Below w.heap.size w w' := by
  have H := Lib.hid h
  have c0 := h.c0
  have hn := h.hi
  clear h
  by_cases hg : 0 ≤ i ∧ i < (L.length : Int)
  · obtain ⟨k, rfl⟩ : ∃ k : Nat, i = (k : Int) := ⟨i.toNat, by omega⟩
    have hkn : k < L.length := by omega
    have hrd : (dk L wr).read (k : Int) = (L[k].now, 0) := by
      unfold Dk.read
      rw [if_pos ((dk_has L wr k).2 hg), Int.toNat_natCast, dk_now L wr k hkn]
    rw [hrd]
    have HB := has_to H.out (k : Int) hi0 hi1
    rw [decide_eq_true hg] at HB
    have HBB := Lib.hid HB
    have hall := arr_all
    have hb1 : (k : Int) < (L.length : Int) := hg.2
    clear hg hrd HB
    go_enter Try.func15, Try.ntmps15
    go_wp2_with fail
    refine HBB.out.mono ?_
    rintro e w1 ⟨rfl, rfl⟩
    go_wp2_with fail
    have hl := (H.out.ok _ (List.getElem_mem hkn)).now
    have hcl := clone_any w1 (some ⟨q, k * 257, none⟩) L[k].now 128 (H.out.now_at k hkn) (by omega)
    rw [hl] at hcl
    refine hcl.mono ?_
    rintro e w2 ⟨x, rfl, ho, hb⟩
    have HF : Hid (Ob.Fresh L[k].now w1 x w2 ∧ Below w1.heap.size w1 w2) := ⟨Ob.Fresh.of_own ho hl, hb⟩
    clear ho hb hl hcl
    go_wp2_with fail
    go_ret2
    exact ⟨x, rfl, HF.out⟩
  · have hrd : (dk L wr).read i = ([], 1) := by
      unfold Dk.read
      rw [if_neg (fun h => hg ((dk_has L wr i).1 h))]
    rw [hrd]
    have HB := has_to H.out i hi0 hi1
    rw [decide_eq_false hg] at HB
    have HBB := Lib.hid HB
    clear hg hrd HB
    go_enter Try.func15, Try.ntmps15
    go_wp2_with fail
    refine HBB.out.mono ?_
    rintro e w1 ⟨rfl, rfl⟩
    go_wp2_with fail
    go_ret2
    exact ⟨_, rfl, Ob.Fresh.of_own (nil_own _ _) rfl, Below.refl _ _⟩
end Go.Proofs.Ytenedgapjbmpgaa

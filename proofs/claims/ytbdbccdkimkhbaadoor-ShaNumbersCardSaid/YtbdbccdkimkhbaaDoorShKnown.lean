/-
  OWN WORK. string(b) of bytes that are read; the law's own run at "abc".
-/
import Derived.Test.YtbdbccdkimkhbaaDoorShTop
import Derived.Test.YtbdbccdkimkhbaaDoorShAbc
import Derived.Laws.BytesArg
import Derived.Lib.SlBytesConst
namespace Go.Proofs.YtbdbccdkimkhbaaDoor
open Go.RowKit Sh

/-- A text of these bytes. -/
def strOf (l : List UInt8) : ByteArray := ⟨l.toArray⟩
theorem strOf_size (l : List UInt8) : (strOf l).size = l.length := by simp [strOf, ByteArray.size]
theorem str_any (w : World) (A : Option Addr) (l : List UInt8) (c : Nat) (h : Rd w A l) : (convert 22 9 (.slice A l.length c)).run Tryd.prog w = .ok (.string (strOf l)) w := by
  cases A with
  | none =>
    have hl : l = [] := by
      rcases Nat.eq_zero_or_pos l.length with h1 | h1
      · exact List.eq_nil_of_length_eq_zero h1
      · obtain ⟨b, off, h2, _⟩ := h h1
        cases h2
    subst hl
    exact run_convert_bytes_nil w 22 5 Tryd.underlying22 Tryd.underlying5 0 c 9 Tryd.underlying9
  | some ad =>
    have hl : (loadCells ad l.length).run Tryd.prog w = .ok ((l.map fun b => ((b.toNat : Nat) : Int)).map (Value.int .u8)).toArray w := by
      have := run_loadCells_list (P := Tryd.prog) w ad ((l.map fun b => ((b.toNat : Nat) : Int)).map (Value.int .u8)) (fun j v hj => by
        rw [List.map_map] at hj
        simp only [List.getElem?_map, Option.map_eq_some_iff] at hj
        obtain ⟨x, hx, rfl⟩ := hj
        obtain ⟨b, off, h1, _, h2⟩ := h (by have := (List.getElem?_eq_some_iff.1 hx).1; omega)
        obtain rfl : ad = ⟨b, off, none⟩ := by injection h1
        rw [add_plain]
        exact h2 j x hx)
      simpa using this
    rw [run_convert_bytes_string w 22 9 5 _ l.length c Tryd.underlying22 Tryd.underlying5 Tryd.underlying9, run_bytesToString w _ l.length c _ hl, foldl_push_bytes]
    congr 3
    simp [strOf, ByteArray.empty, ByteArray.emptyWithCapacity]
    have e : ((fun n : Int => UInt8.ofNat n.toNat) ∘ fun b : UInt8 => ((b.toNat : Nat) : Int)) = id := funext fun b => by simp
    rw [e, List.map_id]
    rfl

/-- A row of the call's own, as it is read. -/
theorem rd_own {w : World} {base : Nat} {v : Value} {n : Nat} {l : List UInt8} (h : w.ownsRow base 5 1 v n (Lib.byteCells l)) (hn : 0 < n) : ∃ g cap, v = .slice (some ⟨g, 0, none⟩) n cap ∧ n ≤ cap ∧ base ≤ g ∧ g < w.heap.size ∧ l.length = n ∧ Rd w (some ⟨g, 0, none⟩) l := by
  have hln : l.length = n := by have := h.1; rw [Lib.byteCells_length] at this; omega
  rcases h.2 with ⟨_, h0⟩ | ⟨g, cap, cur, rfl, hb, hg, h1, h2, h3, h4⟩
  · omega
  · have hlt : g < w.heap.size := by
      rcases Nat.lt_or_ge g w.heap.size with hlt | hge
      · exact hlt
      · rw [Array.getElem?_eq_none hge] at hg; cases hg
    refine ⟨g, cap, rfl, h1, hb, hlt, hln, fun _ => ⟨g, 0, rfl, hlt, fun j x hx => ?_⟩⟩
    rw [cell_of_row w g (0 + j) cur _ _ hg, Nat.zero_add]
    have h10 : (cur.toList.take (n * 1))[j]? = some (.int .u8 x.toNat) := by
      rw [h4]
      simp [Lib.byteCells, hx]
    rw [List.getElem?_take] at h10
    split at h10
    · simpa using h10
    · cases h10

set_option maxHeartbeats 1000000 in
theorem known_any (w : World) (hK : KAt w) : Calls Tryd.prog 16 #[] w fun e w' => e = .returned (.bool true) ∧ Below w.heap.size w w' := by
  have HK : Hid (KAt w) := hK
  clear hK
  have kc := fun (w : World) (C : Array Value) (n c : Nat) => Lib.run_convert_bytes_const (P := Tryd.prog) w 22 5 C n c Tryd.underlying22 Tryd.underlying5
  go_enter Tryd.func16, Tryd.ntmps16
  go_wp2_with fail
  have HB : Hid (Below w.heap.size w (w.alloc (.cells #[.int .u8 97, .int .u8 98, .int .u8 99] 5 (3, 4)))) := (Below.refl _ _).alloc (Nat.le_refl _) _
  have HR : Rd (w.alloc (.cells #[.int .u8 97, .int .u8 98, .int .u8 99] 5 (3, 4))) (some ⟨w.heap.size, 0, none⟩) [97, 98, 99] := by
    intro _
    refine ⟨_, _, rfl, by rw [World.size_alloc]; omega, fun j x hx => ?_⟩
    rw [cell_of_row _ w.heap.size (0 + j) _ _ _ (heap_alloc_new w _), Nat.zero_add]
    match j, hx with
    | 0, hx => obtain rfl : (97 : UInt8) = x := by simpa using hx
               rfl
    | 1, hx => obtain rfl : (98 : UInt8) = x := by simpa using hx
               rfl
    | 2, hx => obtain rfl : (99 : UInt8) = x := by simpa using hx
               rfl
    | j + 3, hx => simp at hx
  refine (sum_any _ [97, 98, 99] _ 3 HR (by simp) (HK.out.below HB.out HK.out.pos) (by simp)).mono ?_
  rintro e w1 ⟨v, rfl, hown, hb1⟩
  rw [abc] at hown
  have HB1 : Hid (Below w.heap.size w w1) := HB.out.trans (hb1.mono HB.out.size)
  obtain ⟨g, cap, rfl, _, _, hg, _, hrd⟩ := rd_own hown (by omega)
  obtain ⟨b0, o0, e0, _, hc⟩ := hrd (by simp)
  simp only [Option.some.injEq, Addr.mk.injEq, and_true] at e0
  obtain ⟨rfl, rfl⟩ := e0
  have c0 : w1.cell? ⟨g, 0, none⟩ = some (.int .u8 186) := hc 0 186 rfl
  have c1 : w1.cell? ⟨g, 1, none⟩ = some (.int .u8 120) := hc 1 120 rfl
  have c2 : w1.cell? ⟨g, 2, none⟩ = some (.int .u8 22) := hc 2 22 rfl
  have c3 : w1.cell? ⟨g, 3, none⟩ = some (.int .u8 191) := hc 3 191 rfl
  have c31 : w1.cell? ⟨g, 31, none⟩ = some (.int .u8 173) := hc 31 173 rfl
  clear hc hrd hown hb1 HR kc
  go_wp2_with fail
  go_ret
  exact ⟨rfl, HB1.out⟩
end Go.Proofs.YtbdbccdkimkhbaaDoor

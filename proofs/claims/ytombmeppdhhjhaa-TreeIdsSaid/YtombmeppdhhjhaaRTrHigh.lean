/-
  OWN WORK. The program's tree: height.
-/
import Derived.Test.YtombmeppdhhjhaaRTrWalkN
namespace Go.Proofs.Ytombmeppdhhjhaa
open Go.RowKit Rc
open Tr (Nm En T)
namespace Tm
def longest (m : Nat) (s : Shown) : Nat := s.foldl (fun k q => max k q.1.length) m
theorem longest_append (m : Nat) (s r : Shown) : longest m (s ++ r) = longest (longest m s) r := List.foldl_append
theorem longest_kids (t : T) (n : Nat) (H : ∀ (i : Int) (p : List Bs) (m : Nat), p.length ≤ m → longest m (Tr.walk t n i p) = max m (p.length + Tr.high t n i)) (p : List Bs) : ∀ (l : List Nm) (m h : Nat), p.length + h ≤ m →
    longest m (l.flatMap fun k => (p ++ [k.1], k.2) :: Tr.walk t n k.2 (p ++ [k.1])) = max m (p.length + l.foldl (fun m k => max m (1 + Tr.high t n k.2)) h)
  | [], m, h, hm => by simp only [List.flatMap_nil, List.foldl_nil]; show m = _; omega
  | k :: l, m, h, hm => by
    rw [List.flatMap_cons, longest_append, List.foldl_cons]
    have h1 : longest m ((p ++ [k.1], k.2) :: Tr.walk t n k.2 (p ++ [k.1])) = max m (p.length + (1 + Tr.high t n k.2)) := by
      show longest (max m (p ++ [k.1]).length) _ = _
      rw [H _ _ _ (by omega), List.length_append]
      show max (max m (p.length + 1)) (p.length + 1 + _) = _
      omega
    rw [h1, longest_kids t n H p l _ (max h (1 + Tr.high t n k.2)) (by omega)]
    have h2 : ∀ (l : List Nm) (x y : Nat), x ≤ y → l.foldl (fun m k => max m (1 + Tr.high t n k.2)) x ≤ l.foldl (fun m k => max m (1 + Tr.high t n k.2)) y := by
      intro l
      induction l with
      | nil => intro x y h; exact h
      | cons k l ih => intro x y h; rw [List.foldl_cons, List.foldl_cons]; exact ih _ _ (by omega)
    have h3 : ∀ (l : List Nm) (x : Nat), x ≤ l.foldl (fun m k => max m (1 + Tr.high t n k.2)) x := by
      intro l
      induction l with
      | nil => intro x; exact Nat.le_refl _
      | cons k l ih => intro x; rw [List.foldl_cons]; exact Nat.le_trans (by omega) (ih _)
    have := h3 l (max h (1 + Tr.high t n k.2))
    omega
theorem longest_walk (t : T) : ∀ (n : Nat) (i : Int) (p : List Bs) (m : Nat), p.length ≤ m → longest m (Tr.walk t n i p) = max m (p.length + Tr.high t n i)
  | 0, i, p, m, h => by
    show m = max m (p.length + 0)
    omega
  | n + 1, i, p, m, h => by
    rw [Tr.walk, Tr.high]
    exact longest_kids t n (longest_walk t n) p _ m 0 (by omega)
/-- What height's closure has been shown. -/
def hEye (m : Nat) : Eye where
  At s B w := Blk w m 3 [.int .i64 (longest 0 s : Nat)] ∧ B = fun b => b = m
  keep := by
    rintro s B w w' ⟨h, rfl⟩ _ hb
    exact ⟨(hb m rfl).trans h, rfl⟩
  lt := by
    rintro s B w ⟨h, rfl⟩ b rfl
    exact h.lt
set_option maxHeartbeats 1000000 in
set_option maxRecDepth 100000 in
theorem height1_any (w : World) (m k : Nat) (x : Value) (A : Option Addr) (l cap : Nat) (h : Blk w m 3 [.int .i64 (k : Nat)]) :
    Calls Try.prog 100 #[.slice A l cap, x, .pointer (some ⟨m, 0, none⟩)] w fun r w' => r = .returned (.tuple #[]) ∧ w' = w.setCell ⟨m, 0, none⟩ (.int .i64 (max k l : Nat)) := by
  have c0 : w.cell? ⟨m, 0, none⟩ = some (.int .i64 (k : Nat)) := h.cell 0
  have f0 := h.frozen 0
  have HMX : Hid (max (k : Int) (l : Int) = ((max k l : Nat) : Int)) := by show _ = _; omega
  go_enter Try.func100, Try.ntmps100
  go_wp2_with fail
  rw [HMX.out]
  refine bodyPost_end (results_none rfl _ _ _) rfl ?_
  exact ⟨rfl, rfl⟩
theorem hShows (m : Nat) : Shows (hEye m) 100 #[.pointer (some ⟨m, 0, none⟩)] where
  ent := enters_of Try.func100 (by kernel_rfl) rfl
  call := by
    rintro w seen B A q cap g e S1 ⟨h, rfl⟩ _ _ _ _ _ _
    refine (height1_any w m (longest 0 seen) (.pointer (some ⟨g, 0, none⟩)) A q.length cap h).mono ?_
    rintro r w' ⟨rfl, rfl⟩
    have hb : longest 0 (seen ++ [(q, e.nd.id)]) = max (longest 0 seen) q.length := by rw [longest_append]; rfl
    refine ⟨rfl, _, ⟨?_, rfl⟩, ⟨rfl, rfl, rfl, Nat.le_of_eq (World.size_setCell _ _ _).symm, fun b _ hn => ?_⟩, fun b hb => .inl hb⟩
    · rw [hb]
      exact h.set_ 0 (.int .i64 (max (longest 0 seen) q.length : Nat))
    · exact Below.heap_setCell w ⟨m, 0, none⟩ _ b hn
set_option maxHeartbeats 1000000 in
set_option maxRecDepth 100000 in
theorem height_any {p : Nat} {av : Value} {gs : List Nat} {S : Nat → Prop} {t : T} {w : World} (h : TIn p av gs S t w) (hG : Tr.Good t) {i : Int} {ei : En} {gi : Nat} (hf : Tr.find t i = some ei) (hp : ptrOf gs t i = .pointer (some ⟨gi, 0, none⟩)) :
    Calls Try.prog 89 #[.pointer (some ⟨p, 0, none⟩), .pointer (some ⟨gi, 0, none⟩)] w fun r w' => r = .returned (.int .i64 (Tr.high t 64 i : Nat)) ∧ Below w.heap.size w w' := by
  obtain ⟨dep, _, hd⟩ := hG.deep
  obtain ⟨wb, hwb⟩ : ∃ wb, wb = w.alloc (.cells #[.int .i64 0] 3) := ⟨_, rfl⟩
  have hbw : Below w.heap.size w wb := by rw [hwb]; exact below_new w _
  have hblk : Blk wb w.heap.size 3 [.int .i64 (longest 0 [] : Nat)] := by rw [hwb]; exact Blk.new w _ _
  have hpre : WPre (hEye w.heap.size) p av gs S t (.slice none 0 0) [] [] (fun b => b = w.heap.size) wb :=
    ⟨h.below hbw, SOwn.nil _, ⟨hblk, rfl⟩, fun b hb hT => by have := h.lt hT; omega, fun b hb => by cases hb⟩
  have HW := Lib.hid (walk_any (hShows w.heap.size) hG hd 64 i ei gi (.slice none 0 0) [] [] _ wb hf hp (fun _ => by omega) (by show 0 + 64 ≤ _; omega) hpre)
  have HL : Hid (longest 0 (Tr.walk t 64 i []) = Tr.high t 64 i) := by
    show _ = _
    rw [longest_walk t 64 i [] 0 (Nat.le_refl _)]
    show max 0 (0 + _) = _
    omega
  have HB := Lib.hid hbw
  clear hd hblk hpre h hG hf hp
  go_enter Try.func89, Try.ntmps89
  go_wp2_with fail
  rw [← hwb]
  refine HW.out.mono ?_
  rintro r w2 ⟨rfl, B2, hm⟩
  obtain ⟨hk, _⟩ := hm.at_
  rw [List.nil_append, HL.out] at hk
  have c0 : w2.cell? ⟨w.heap.size, 0, none⟩ = some (.int .i64 (Tr.high t 64 i : Nat)) := hk.cell 0
  have HE : Hid (Below w.heap.size w w2) := by
    have h1 := hm.mod
    exact ⟨h1.os.trans hbw.os, h1.tape.trans hbw.tape, h1.output.trans hbw.output, Nat.le_trans hbw.size h1.size, fun b hlt => (h1.block b (Nat.lt_of_lt_of_le hlt hbw.size) (fun hx => by
      rcases hx with h2 | h2
      · omega
      · cases h2)).trans (hbw.block b hlt)⟩
  clear hm hk hbw hwb
  go_wp2_with fail
  go_ret
  exact ⟨rfl, HE.out⟩
end Tm
end Go.Proofs.Ytombmeppdhhjhaa

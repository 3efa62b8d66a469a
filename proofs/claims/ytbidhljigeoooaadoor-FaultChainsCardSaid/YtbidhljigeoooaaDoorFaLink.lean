/-
  OWN WORK. The law's own helpers: chain, text, said, known, given what package fault's calls do.
-/
import Derived.Test.YtbidhljigeoooaaDoorFaSaid
import Derived.StillTailTactics
import Derived.Lib.Hide
namespace Go.Proofs.YtbidhljigeoooaaDoor
open Go.RowKit

theorem head_still (s : ByteArray) (n : Nat) (w : World) (hs : s.size ≤ 9223372036854775807) (hn : n ≤ 1000) :
    Calls Tryd.prog 21 #[.string s, .int .i64 n] w fun e w' => e = .returned (.string (headB s n)) ∧ w' = w :=
  (head_any s n w hs hn).mono fun _ _ h => ⟨h.1, h.2.symm⟩

theorem heads_take (ls : List (ByteArray × ByteArray)) (k : Nat) (q : ByteArray × ByteArray) (h : ls[k]? = some q) :
    ((heads ls).take (k + 1)).reverse = (headB q.1 20, headB q.2 40) :: ((heads ls).take k).reverse := by
  have e : (heads ls)[k]? = some (headB q.1 20, headB q.2 40) := by simp [heads, h]
  rw [List.take_add_one, e]
  simp

set_option maxHeartbeats 1000000 in
set_option maxRecDepth 100000 in
theorem chain_num (hW : WrapSaid) (ls : List (ByteArray × ByteArray)) (v : Value) (c : Int) (w : World) (hv : LinksAt w ls v) (hl : ls.length ≤ 30) (hc : c ≠ 0) (hg : ErrT w) (hsz : ∀ q ∈ ls, q.1.size ≤ 9223372036854775807 ∧ q.2.size ≤ 9223372036854775807) :
    Calls Tryd.prog 19 #[v, .int .i64 c] w fun e w' => ∃ x, e = .returned x ∧ Chain w' (heads ls).reverse (.num c) x ∧ Below w.heap.size w w' := by
  have HW := Lib.hid hW
  have HV : Hid (LinksAt w ls v) := hv
  have HG : Hid (ErrT w) := hg
  have HS : Hid (∀ q ∈ ls, q.1.size ≤ 9223372036854775807 ∧ q.2.size ≤ 9223372036854775807) := hsz
  have HC : Hid (c ≠ 0) := hc
  obtain ⟨a, cap, hva⟩ : ∃ a cap, v = .slice a ls.length cap := by
    rcases hv with ⟨rfl, a, cap, rfl⟩ | ⟨b, off, cap, rfl, _⟩
    · exact ⟨_, _, rfl⟩
    · exact ⟨_, _, rfl⟩
  subst hva
  clear hW hv hg hsz hc
  go_enter Tryd.func19, Tryd.ntmps19
  go_wp2
  go_loopg [5, 6] ls.length (fun gk e i wr => ∃ k : Nat, k ≤ ls.length ∧ i = .int .i64 k ∧ Chain wr ((heads ls).take k).reverse (.num c) e ∧ Below w.heap.size w wr ∧ gk = ls.length - k)
  case atStart => exact ⟨0, by omega, rfl, rfl, Below.refl _ _, by omega⟩
  case round =>
    obtain ⟨k, hk, rfl, hch, hb, hgk⟩ := hrel
    have HB : Hid (Below w.heap.size w wr) := hb
    have HCH : Hid (Chain wr ((heads ls).take k).reverse (.num c) _) := hch
    have HGK : Hid (gk = ls.length - k) := hgk
    clear hch hb hgk
    by_cases hlt : k < ls.length
    · rcases HV.out with ⟨hn, _⟩ | ⟨b, off, cap', hv, _, _, hcell⟩
      · rw [hn] at hlt; simp at hlt
      · simp only [Value.slice.injEq] at hv
        obtain ⟨rfl, _, rfl⟩ := hv
        obtain ⟨s1, s2, hq⟩ : ∃ s1 s2, ls[k]? = some (s1, s2) := ⟨_, _, List.getElem?_eq_getElem hlt⟩
        obtain ⟨h1, h2⟩ := hcell k _ hq
        obtain ⟨z1, z2⟩ := HS.out (s1, s2) (List.mem_of_getElem? hq)
        have e30 : decide ((k : Int) < 30) = true := by simp; omega
        have h1' : wr.cell? ⟨b, off + k * 2, none⟩ = some (.string s1) := by rw [HB.out.cell (p := ⟨b, off + k * 2, none⟩) (cell_lt h1)]; exact h1
        have h2' : wr.cell? ⟨b, off + k * 2 + 1, none⟩ = some (.string s2) := by rw [HB.out.cell (p := ⟨b, off + k * 2 + 1, none⟩) (cell_lt h2)]; exact h2
        have HQ : Hid (ls[k]? = some (s1, s2)) := hq
        clear h1 h2 hcell hq
        go_wp2_with fail
        refine wp_region_still_tail 13 (by kernel_rfl) (by kernel_rfl) ?_
        simp only [List.take_succ_cons, List.take_zero, List.drop_succ_cons, List.drop_zero]
        change wpStill _ _ wr.drew _ _ _
        repeat still_step
        still_call (head_still s1 20 _ z1 (by omega))
        repeat still_step
        still_call (head_still s2 40 _ z2 (by omega))
        repeat still_step
        refine wpStill_nil ?_
        change wpList _ _ _ _ _ wr.drew
        have HN : Hid (Chain wr.drew ((heads ls).take k).reverse (.num c) _) := HCH.out.below (Below.refl _ _).drew
        go_wp2_with fail
        refine (HW.out (headB s1 20) (headB s2 40) _ (.num c) _ _ HN.out HC.out (heads_small ls (by omega) k) ((HG.out.below HB.out).below (Below.refl _ _).drew)).mono ?_
        rintro e w' ⟨bb, rfl, hch', hb'⟩
        have HC' : Hid (Chain w' _ (.num c) _) := hch'
        have HB' : Hid (Below w.heap.size w w') := HB.out.drew.trans (hb'.mono HB.out.size)
        clear hch' hb'
        go_wp2
        go_roundg (ls.length - (k + 1))
        case rel => exact ⟨k + 1, by omega, by go_num, by rw [heads_take ls k (s1, s2) HQ.out]; exact HC'.out, HB'.out, rfl⟩
        case measure => have := HGK.out; omega
    · have he : k = ls.length := by omega
      subst he
      go_wp2
      go_ret
      exact ⟨_, rfl, by have := HCH.out; rw [List.take_of_length_le (by simp [heads])] at this; exact this, HB.out⟩
end Go.Proofs.YtbidhljigeoooaaDoor

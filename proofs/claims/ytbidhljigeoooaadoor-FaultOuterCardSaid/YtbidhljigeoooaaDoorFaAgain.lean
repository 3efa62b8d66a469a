/-
  OWN WORK. fault.again: a Fault that did not come up yet.
-/
import Derived.Test.YtbidhljigeoooaaDoorFaErrorW
namespace Go.Proofs.YtbidhljigeoooaaDoor
open Go.RowKit Go.Stop

set_option maxHeartbeats 1000000 in
set_option maxRecDepth 100000 in
theorem again_any (w : World) (B b : Nat) (ks : List Nat) (hset : SetAt w B ks) (hb : IsBlock w b) (hf : ∀ k ∈ ks, IsBlock w k ∧ k ≠ b) (hl : ks.length ≤ 1000) :
    Calls Tryd.prog 42 #[.map (some B), .pointer (some ⟨b, 0, none⟩)] w fun e w' => e = .returned (.bool false) ∧ SetAt w' B (ks ++ [b]) ∧ w.grownBy w' (some B) := by
  have hlk := set_look hset (key := .pointer (some ⟨b, 0, none⟩)) (.inr ⟨b, rfl, hb, hf⟩)
  have hset1 : SetAt (w.alloc (.cells #[] 63)) B ks := by
    obtain ⟨es, clock, hB, hk⟩ := hset
    exact ⟨es, clock, by rw [Below.heap_alloc _ _ _ (lt_of_block hB)]; exact hB, hk⟩
  have hold : ∀ k, IsBlock w k → IsBlock (w.alloc (.cells #[] 63)) k := fun k ⟨cs, h⟩ => ⟨cs, by rw [Below.heap_alloc _ _ _ (lt_of_block h)]; exact h⟩
  obtain ⟨w2, hrun, hset2, hsz2, hother, hos, htape, hout⟩ := set_put hset1 (hold b hb) (fun k hk => ⟨hold k (hf k hk).1, (hf k hk).2⟩)
  obtain ⟨es, clock, hB, hk⟩ := hset1
  have hes : es.size = ks.length := by have := congrArg List.length hk; simpa using this
  have hl0 := run_len_map (P := Tryd.prog) (w := (w.alloc (.cells #[] 63))) 62 3 B es clock (by kernel_rfl) hB
  have hne : ((es.size : Int) == 1048576) = false := by simp; omega
  have HSET2 := Lib.hid hset2
  have HGR : Hid (w.grownBy w2 (some B)) := ⟨hos, htape, hout, by rw [hsz2]; simp, fun k hk hne => (hother k (fun e => hne (by rw [e]))).trans (Below.heap_alloc _ _ _ hk)⟩
  clear hset hb hf hold hset2 hsz2 hother hos htape hout hes hk hB
  go_enter Tryd.func42, Tryd.ntmps42
  go_wp2
  go_ret
  exact ⟨rfl, HSET2.out, HGR.out⟩
end Go.Proofs.YtbidhljigeoooaaDoor

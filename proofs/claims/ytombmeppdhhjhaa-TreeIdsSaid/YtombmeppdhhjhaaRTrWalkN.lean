/-
  OWN WORK. The program's tree: walk, all below a node.
-/
import Derived.Test.YtombmeppdhhjhaaRTrWalkP
namespace Go.Proofs.Ytombmeppdhhjhaa
open Go.RowKit Rc
open Tr (Nm En T)
namespace Tm
variable {O : Eye} {f : FuncId} {cb : Array Value} {p : Nat} {av : Value} {gs : List Nat} {S : Nat → Prop} {t : T}
/-- How deep a directory stands. -/
abbrev Deeps (t : T) (dep : Int → Nat) : Prop := ∀ e ∈ t, ∀ n ∈ e.names, dep e.nd.id + 1 ≤ 8 ∧ (Tr.kindOf t n.2 = 2 → dep n.2 = dep e.nd.id + 1)
theorem no_names (hG : Tr.Good t) {dep : Int → Nat} (hd : Deeps t dep) {i : Int} {ei : En} (hf : Tr.find t i = some ei) (h9 : ei.nd.kind = 2 → 9 ≤ dep i) : ei.names = [] := by
  have hm := Tr.find_some hf
  by_cases hk : ei.nd.kind = 2
  · apply List.eq_nil_iff_forall_not_mem.2
    intro n hn
    have h1 := (hd ei hm.1 n hn).1
    have h2 := h9 hk
    rw [hm.2] at h1
    omega
  · have h1 := (hG.each ei hm.1).nd
    have h2 := (hG.each ei hm.1).file
    exact h2 (h1.2.2.2.2.2.2.2.resolve_right fun h3 => hk h3.1)
theorem walk_any (hS : Shows O f cb) (hG : Tr.Good t) {dep : Int → Nat} (hd : Deeps t dep) : ∀ (n : Nat) (i : Int) (ei : En) (gi : Nat) (row : Value) (a : List Bs) (seen : Shown) (B : Nat → Prop) (w : World),
    Tr.find t i = some ei → ptrOf gs t i = .pointer (some ⟨gi, 0, none⟩) → (ei.nd.kind = 2 → 9 ≤ n + dep i) → a.length + n ≤ 900 → WPre O p av gs S t row a seen B w →
    Calls Try.prog 99 #[.pointer (some ⟨p, 0, none⟩), .pointer (some ⟨gi, 0, none⟩), row, .func (.func f) #[] cb] w (Walked O row a seen B w (Tr.walk t n i a))
  | 0, i, ei, gi, row, a, seen, B, w, hf, hp, h9, ha, h => by
    have hn := no_names hG hd hf (by simpa using h9)
    have := walk_step hS hG (fun _ => []) hf hp (by omega) h (fun k hk => by rw [hn] at hk; cases hk)
    rw [hn] at this
    exact this
  | n + 1, i, ei, gi, row, a, seen, B, w, hf, hp, h9, ha, h => by
    have hm := Tr.find_some hf
    have := walk_step hS hG (fun k => Tr.walk t n k.2 (a ++ [k.1])) hf hp (by omega) h (fun k hk g1 row1 seen1 B1 w1 hp1 h1 => by
      obtain ⟨ek, hek⟩ := Option.isSome_iff_exists.1 (hG.leads ei hm.1 k hk).2
      refine walk_any hS hG hd n k.2 ek g1 row1 (a ++ [k.1]) seen1 B1 w1 hek hp1 (fun hk2 => ?_) (by rw [List.length_append]; show _ + 1 + n ≤ _; omega) h1
      have h3 := (hd ei hm.1 k hk).2 (by rw [Tr.kindOf_of hek]; exact hk2)
      rw [h3, hm.2]
      have hk3 : ei.nd.kind = 2 := by
        by_cases h4 : ei.nd.kind = 2
        · exact h4
        · have h5 := (hG.each ei hm.1).file ((hG.each ei hm.1).nd.2.2.2.2.2.2.2.resolve_right fun h3 => h4 h3.1)
          rw [h5] at hk; cases hk
      have := h9 hk3
      omega)
    rw [show Tr.walk t (n + 1) i a = ei.names.flatMap (shownOf a fun k => Tr.walk t n k.2 (a ++ [k.1])) from by rw [Tr.walk, Tr.kids_of hf]; rfl]
    exact this
end Tm
end Go.Proofs.Ytombmeppdhhjhaa

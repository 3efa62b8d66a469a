/-
  OWN WORK. The program's tree as an object: Names, Save, and law 11's sound; what played leaves.
-/
import Derived.Test.YtombmeppdhhjhaaGreatQTwSound
import Derived.Test.YtombmeppdhhjhaaGreatQTsSave
import Derived.Test.YtombmeppdhhjhaaGreatQTwPlayed
import Derived.Test.YtombmeppdhhjhaaGreatQTrKnown
namespace Go.Proofs.YtombmeppdhhjhaaGreat
open Go.RowKit Rc
open Tr (Nm En T)
namespace Tm
variable {v : Value} {w0 w : World} {t : T} {B : Nat → Prop}
theorem o_names (h : One1 v w0 t B w) (hG : Tr.Good t) (i : Int) : Calls Tryz.prog 39 #[v, .int .i64 i] w (Tw.NOut t i w) := by
  obtain ⟨p, av, gs, S, hv, hT, hB⟩ := h.parts
  subst hv
  exact Tw.names_out hT hG i
theorem o_save (h : One1 v w0 t B w) (hG : Tr.Good t) : Calls Tryz.prog 33 #[v] w (SvAns (Tr.save t) w) := by
  obtain ⟨p, av, gs, S, hv, hT, hB⟩ := h.parts
  subst hv
  exact save_any hT hG
theorem o_sound (h : One1 v w0 t B w) (hG : Tr.Good t) : Calls Tryz.prog 49 #[v] w fun e w' => e = .returned (.bool true) ∧ Below w.heap.size w w' := by
  obtain ⟨p, av, gs, S, hv, hT, hB⟩ := h.parts
  subst hv
  exact Tw.sound_any hT hG
theorem o_known (h : One1 v w0 t B w) : Calls Tryz.prog 37 #[] w fun e w' => e = .returned (.bool true) ∧ Hid (One1 v w0 t B w') := by
  refine (known_any w).mono ?_
  rintro e w' ⟨he, hb⟩
  exact ⟨he, h.later hb⟩
end Tm
namespace Tw
open Tm (One1 Turn1)
theorem played_one (w : World) (ps : List AskT) (A : Option Addr) (c1 : Nat) (hp : AsksT w A ps) (hl : ps.length ≤ 9223372036854775807) :
    Calls Tryz.prog 43 #[.slice A ps.length c1] w fun e w' => ∃ p q Tt B1, e = .returned (.tuple #[.pointer (some ⟨p, 0, none⟩), .pointer (some ⟨q, 0, none⟩)]) ∧ Hid (Tr.Good Tt) ∧ Hid (Tr.Short Tt) ∧ Hid (One1 (.pointer (some ⟨p, 0, none⟩)) w Tt B1 w') := by
  refine (played_any w ps A c1 hp hl).mono ?_
  rintro e w' ⟨p, q, Tt, B1, B2, he, hpl⟩
  exact ⟨p, q, Tt, B1, he, hpl.good, hpl.short, hpl.t, Mod.of_below hpl.low _, fun b hb => .inr (hpl.up b (.inl hb)), hpl.low, fun b hb => hpl.up b (.inl hb)⟩
set_option maxHeartbeats 2000000 in
set_option maxRecDepth 100000 in
theorem lawSound_any (w : World) (ps : List AskT) (A : Option Addr) (c1 : Nat) (hp : AsksT w A ps) (hl : ps.length ≤ 9223372036854775807) :
    Calls Tryz.prog 7 #[.slice A ps.length c1] w fun e w' => e = .returned (.bool true) ∧ Below w.heap.size w w' := by
  have HPL := Lib.hid (played_one w ps A c1 hp hl)
  clear hp hl
  go_enter Tryz.func7, Tryz.ntmps7
  go_wp2_with fail
  refine HPL.out.mono ?_
  rintro e w1 ⟨p, q, Tt, B1, rfl, HG, HS, HO⟩
  clear HPL
  go_wp2_with fail
  refine (Tm.o_sound HO.out HG.out).mono ?_
  rintro e w2 ⟨rfl, hb⟩
  have HO2 : Hid (One1 (.pointer (some ⟨p, 0, none⟩)) w Tt B1 w2) := HO.out.later hb
  clear hb HO
  go_wp2_with fail
  refine (Tm.o_known HO2.out).mono ?_
  rintro e w3 ⟨rfl, HO3⟩
  clear HO2
  go_wp2_with fail
  go_ret
  exact ⟨rfl, HO3.out.low⟩
end Tw
end Go.Proofs.YtombmeppdhhjhaaGreat

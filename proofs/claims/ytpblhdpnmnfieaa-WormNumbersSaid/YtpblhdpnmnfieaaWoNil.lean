/-
  OWN WORK. worm.Live and worm.Bound of no tree.
-/
import Derived.Test.YtpblhdpnmnfieaaWoSame
namespace Go.Proofs.Ytpblhdpnmnfieaa
open Go.RowKit
namespace Wo
theorem nil_live_any (now : Nat) (w : World) : Calls Try.prog 9 #[.pointer none, .int .u64 (now : Nat)] w fun e w' => e = .returned (.slice none 0 0) ∧ w' = w := by
  go_enter Try.func9, Try.ntmps9
  go_wp2_with fail
  go_ret
  exact ⟨rfl, rfl⟩
theorem nil_bound_any (now : Nat) (w : World) : Calls Try.prog 10 #[.pointer none, .int .u64 (now : Nat)] w fun e w' => e = .returned (.bool false) ∧ w' = w := by
  go_enter Try.func10, Try.ntmps10
  go_wp2_with fail
  refine (nil_live_any now w).mono ?_
  rintro e _ ⟨rfl, rfl⟩
  go_wp2_with fail
  go_ret
  exact ⟨rfl, rfl⟩
end Wo
end Go.Proofs.Ytpblhdpnmnfieaa

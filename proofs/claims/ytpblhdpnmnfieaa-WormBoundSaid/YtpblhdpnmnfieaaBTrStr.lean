/-
  OWN WORK. What strings.Clone answers.
-/
import Derived.Test.YtpblhdpnmnfieaaBTrPut
import Derived.Test.YtpblhdpnmnfieaaBTrShelf
namespace Go.Proofs.Ytpblhdpnmnfieaa
open Go.RowKit Rc
namespace Tm
set_option maxHeartbeats 1000000 in
set_option maxRecDepth 100000 in
theorem cloneSaid : CloneSaid := by
  intro s w hs
  have h := Try.stringslite_Clone (strOf s) w (by rw [strOf_size]; omega)
  have H := Lib.hid h
  clear h
  go_enter Try.func42, Try.ntmps42
  go_wp2_with fail
  refine H.out.mono ?_
  rintro e w1 ⟨rfl, hb⟩
  have HB := Lib.hid hb
  clear hb
  go_wp2_with fail
  go_ret
  exact ⟨rfl, HB.out⟩
end Tm
end Go.Proofs.Ytpblhdpnmnfieaa

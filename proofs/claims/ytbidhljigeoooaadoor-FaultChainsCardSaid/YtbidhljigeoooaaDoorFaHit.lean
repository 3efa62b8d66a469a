/-
  OWN WORK. The functions that a search is handed, over the kinds of elements; again.
-/
import Derived.Test.YtbidhljigeoooaaDoorFaAloneE
import Derived.Test.YtbidhljigeoooaaDoorFaAloneP
import Derived.Test.YtbidhljigeoooaaDoorFaAloneI
import Derived.Test.YtbidhljigeoooaaDoorFaErrorW
namespace Go.Proofs.YtbidhljigeoooaaDoor
open Go.RowKit Go.Stop

set_option maxHeartbeats 400000 in
theorem hit_EF (e : Addr) (t : Addr) (old : Value) (w : World) (hg : ErrT w) (ht0 : w.cell? t = some old) :
    Calls Tryd.prog 40 #[.iface 28 (.pointer (some e)), .pointer (some t)] w fun ev w' => ev = .returned (.bool false) ∧ Below w.heap.size w w' := by
  have H := Lib.hid (As_EA_F w e t old hg ht0)
  clear hg ht0
  go_enter Tryd.func40, Tryd.ntmps40
  go_wp2_with fail
  refine H.out.mono ?_
  rintro e w1 ⟨rfl, hs⟩
  have HS := Lib.hid hs
  clear hs H
  go_wp2
  go_ret
  exact ⟨rfl, HS.out⟩

set_option maxHeartbeats 400000 in
theorem hit_EN (c : Int) (t : Addr) (old : Value) (w : World) (hg : ErrT w) (ht0 : w.cell? t = some old) (hf0 : w.frozen? t = false) :
    Calls Tryd.prog 40 #[.iface 31 (.int .i64 c), .pointer (some t)] w fun ev w' => ev = .returned (.bool true) ∧ Sets w t (.int .i64 c) w' := by
  have H := Lib.hid (As_EA_N w c t old hg ht0 hf0)
  clear hg ht0 hf0
  go_enter Tryd.func40, Tryd.ntmps40
  go_wp2_with fail
  refine H.out.mono ?_
  rintro e w1 ⟨rfl, hs⟩
  have HS := Lib.hid hs
  clear hs H
  go_wp2
  go_ret
  exact ⟨rfl, HS.out⟩

set_option maxHeartbeats 400000 in
theorem hit_EO (b0 : Nat) (t : Addr) (old : Value) (w : World) (hg : ErrT w) (ht0 : w.cell? t = some old) :
    Calls Tryd.prog 40 #[.iface 53 (.pointer (some ⟨b0, 0, none⟩)), .pointer (some t)] w fun ev w' => ev = .returned (.bool false) ∧ Below w.heap.size w w' := by
  have H := Lib.hid (As_EA_O w b0 t old hg ht0)
  clear hg ht0
  go_enter Tryd.func40, Tryd.ntmps40
  go_wp2_with fail
  refine H.out.mono ?_
  rintro e w1 ⟨rfl, hs⟩
  have HS := Lib.hid hs
  clear hs H
  go_wp2
  go_ret
  exact ⟨rfl, HS.out⟩

set_option maxHeartbeats 400000 in
theorem hit_PF (e : Addr) (t : Addr) (old : Value) (w : World) (hg : ErrT w) (ht0 : w.cell? t = some old) (hf0 : w.frozen? t = false) :
    Calls Tryd.prog 39 #[.iface 28 (.pointer (some e)), .pointer (some t)] w fun ev w' => ev = .returned (.bool true) ∧ Sets w t (.pointer (some e)) w' := by
  have H := Lib.hid (As_PA_F w e t old hg ht0 hf0)
  clear hg ht0 hf0
  go_enter Tryd.func39, Tryd.ntmps39
  go_wp2_with fail
  refine H.out.mono ?_
  rintro e w1 ⟨rfl, hs⟩
  have HS := Lib.hid hs
  clear hs H
  go_wp2
  go_ret
  exact ⟨rfl, HS.out⟩

set_option maxHeartbeats 400000 in
theorem hit_PN (c : Int) (t : Addr) (old : Value) (w : World) (hg : ErrT w) (ht0 : w.cell? t = some old) :
    Calls Tryd.prog 39 #[.iface 31 (.int .i64 c), .pointer (some t)] w fun ev w' => ev = .returned (.bool false) ∧ Below w.heap.size w w' := by
  have H := Lib.hid (As_PA_N w c t old hg ht0)
  clear hg ht0
  go_enter Tryd.func39, Tryd.ntmps39
  go_wp2_with fail
  refine H.out.mono ?_
  rintro e w1 ⟨rfl, hs⟩
  have HS := Lib.hid hs
  clear hs H
  go_wp2
  go_ret
  exact ⟨rfl, HS.out⟩

set_option maxHeartbeats 400000 in
theorem hit_PO (b0 : Nat) (t : Addr) (old : Value) (w : World) (hg : ErrT w) (ht0 : w.cell? t = some old) :
    Calls Tryd.prog 39 #[.iface 53 (.pointer (some ⟨b0, 0, none⟩)), .pointer (some t)] w fun ev w' => ev = .returned (.bool false) ∧ Below w.heap.size w w' := by
  have H := Lib.hid (As_PA_O w b0 t old hg ht0)
  clear hg ht0
  go_enter Tryd.func39, Tryd.ntmps39
  go_wp2_with fail
  refine H.out.mono ?_
  rintro e w1 ⟨rfl, hs⟩
  have HS := Lib.hid hs
  clear hs H
  go_wp2
  go_ret
  exact ⟨rfl, HS.out⟩

set_option maxHeartbeats 400000 in
theorem hit_IF (e : Addr) (a : Int) (t : Addr) (w : World) (ht0 : w.cell? t = some (.int .i64 a)) :
    Calls Tryd.prog 34 #[.iface 28 (.pointer (some e)), .pointer (some t)] w fun ev w' => ev = .returned (.bool false) ∧ Below w.heap.size w w' := by
  go_enter Tryd.func34, Tryd.ntmps34
  go_wp2_with fail
  refine (IsA_F e a w).mono ?_
  rintro e w1 ⟨rfl, hs⟩
  have HS := Lib.hid hs
  clear hs
  go_wp2
  go_ret
  exact ⟨rfl, HS.out⟩

set_option maxHeartbeats 400000 in
theorem hit_IN (c : Int) (a : Int) (t : Addr) (w : World) (ht0 : w.cell? t = some (.int .i64 a)) :
    Calls Tryd.prog 34 #[.iface 31 (.int .i64 c), .pointer (some t)] w fun ev w' => ev = .returned (.bool (c == a)) ∧ Below w.heap.size w w' := by
  go_enter Tryd.func34, Tryd.ntmps34
  go_wp2_with fail
  refine (IsA_N c a w).mono ?_
  rintro e w1 ⟨rfl, hs⟩
  have HS := Lib.hid hs
  clear hs
  go_wp2
  go_ret
  exact ⟨rfl, HS.out⟩

set_option maxHeartbeats 400000 in
theorem hit_IO (b0 : Nat) (a : Int) (t : Addr) (w : World) (ht0 : w.cell? t = some (.int .i64 a)) :
    Calls Tryd.prog 34 #[.iface 53 (.pointer (some ⟨b0, 0, none⟩)), .pointer (some t)] w fun ev w' => ev = .returned (.bool false) ∧ Below w.heap.size w w' := by
  go_enter Tryd.func34, Tryd.ntmps34
  go_wp2_with fail
  refine (IsA_O b0 a w).mono ?_
  rintro e w1 ⟨rfl, hs⟩
  have HS := Lib.hid hs
  clear hs
  go_wp2
  go_ret
  exact ⟨rfl, HS.out⟩

end Go.Proofs.YtbidhljigeoooaaDoor

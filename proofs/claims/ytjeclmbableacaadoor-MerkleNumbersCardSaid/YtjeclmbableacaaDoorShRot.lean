/-
  OWN WORK. SHA-256: turning a word, by its contract.
-/
import Derived.Test.YtjeclmbableacaaDoorBaRow
import Derived.Test.YtjeclmbableacaaDoorBaStr
import Derived.Test.YtjeclmbableacaaDoorChecked
import Derived.Test.YtjeclmbableacaaDoorShPure
import Derived.WalkKit
import Derived.Outline
import Derived.WalkLawsBesides
namespace Go.Proofs.YtjeclmbableacaaDoor
open Go.RowKit Sh

theorem rot2_any (x : Int) (w : World) :
    Calls Tryd.prog 53 #[.int .u32 x, .int .i64 (-2)] w fun e w' => e = .returned (.int .u32 (rot 2 x)) ∧ w = w' := by
  have h6 : bits .and .u64 (IntKind.u64.wrap (-2)) 31 = 30 := by decide
  have HD : Hid (rot 2 x = bits .or .u32 (x * 1073741824 % 4294967296) (x / 4)) := show _ = _ from rfl
  go_enter Tryd.func53, Tryd.ntmps53
  go_wp2
  go_ret
  exact ⟨ret_num HD.out, rfl⟩

theorem rot6_any (x : Int) (w : World) :
    Calls Tryd.prog 53 #[.int .u32 x, .int .i64 (-6)] w fun e w' => e = .returned (.int .u32 (rot 6 x)) ∧ w = w' := by
  have h6 : bits .and .u64 (IntKind.u64.wrap (-6)) 31 = 26 := by decide
  have HD : Hid (rot 6 x = bits .or .u32 (x * 67108864 % 4294967296) (x / 64)) := show _ = _ from rfl
  go_enter Tryd.func53, Tryd.ntmps53
  go_wp2
  go_ret
  exact ⟨ret_num HD.out, rfl⟩

theorem rot7_any (x : Int) (w : World) :
    Calls Tryd.prog 53 #[.int .u32 x, .int .i64 (-7)] w fun e w' => e = .returned (.int .u32 (rot 7 x)) ∧ w = w' := by
  have h6 : bits .and .u64 (IntKind.u64.wrap (-7)) 31 = 25 := by decide
  have HD : Hid (rot 7 x = bits .or .u32 (x * 33554432 % 4294967296) (x / 128)) := show _ = _ from rfl
  go_enter Tryd.func53, Tryd.ntmps53
  go_wp2
  go_ret
  exact ⟨ret_num HD.out, rfl⟩

theorem rot11_any (x : Int) (w : World) :
    Calls Tryd.prog 53 #[.int .u32 x, .int .i64 (-11)] w fun e w' => e = .returned (.int .u32 (rot 11 x)) ∧ w = w' := by
  have h6 : bits .and .u64 (IntKind.u64.wrap (-11)) 31 = 21 := by decide
  have HD : Hid (rot 11 x = bits .or .u32 (x * 2097152 % 4294967296) (x / 2048)) := show _ = _ from rfl
  go_enter Tryd.func53, Tryd.ntmps53
  go_wp2
  go_ret
  exact ⟨ret_num HD.out, rfl⟩

theorem rot13_any (x : Int) (w : World) :
    Calls Tryd.prog 53 #[.int .u32 x, .int .i64 (-13)] w fun e w' => e = .returned (.int .u32 (rot 13 x)) ∧ w = w' := by
  have h6 : bits .and .u64 (IntKind.u64.wrap (-13)) 31 = 19 := by decide
  have HD : Hid (rot 13 x = bits .or .u32 (x * 524288 % 4294967296) (x / 8192)) := show _ = _ from rfl
  go_enter Tryd.func53, Tryd.ntmps53
  go_wp2
  go_ret
  exact ⟨ret_num HD.out, rfl⟩

theorem rot17_any (x : Int) (w : World) :
    Calls Tryd.prog 53 #[.int .u32 x, .int .i64 (-17)] w fun e w' => e = .returned (.int .u32 (rot 17 x)) ∧ w = w' := by
  have h6 : bits .and .u64 (IntKind.u64.wrap (-17)) 31 = 15 := by decide
  have HD : Hid (rot 17 x = bits .or .u32 (x * 32768 % 4294967296) (x / 131072)) := show _ = _ from rfl
  go_enter Tryd.func53, Tryd.ntmps53
  go_wp2
  go_ret
  exact ⟨ret_num HD.out, rfl⟩

theorem rot18_any (x : Int) (w : World) :
    Calls Tryd.prog 53 #[.int .u32 x, .int .i64 (-18)] w fun e w' => e = .returned (.int .u32 (rot 18 x)) ∧ w = w' := by
  have h6 : bits .and .u64 (IntKind.u64.wrap (-18)) 31 = 14 := by decide
  have HD : Hid (rot 18 x = bits .or .u32 (x * 16384 % 4294967296) (x / 262144)) := show _ = _ from rfl
  go_enter Tryd.func53, Tryd.ntmps53
  go_wp2
  go_ret
  exact ⟨ret_num HD.out, rfl⟩

theorem rot19_any (x : Int) (w : World) :
    Calls Tryd.prog 53 #[.int .u32 x, .int .i64 (-19)] w fun e w' => e = .returned (.int .u32 (rot 19 x)) ∧ w = w' := by
  have h6 : bits .and .u64 (IntKind.u64.wrap (-19)) 31 = 13 := by decide
  have HD : Hid (rot 19 x = bits .or .u32 (x * 8192 % 4294967296) (x / 524288)) := show _ = _ from rfl
  go_enter Tryd.func53, Tryd.ntmps53
  go_wp2
  go_ret
  exact ⟨ret_num HD.out, rfl⟩

theorem rot22_any (x : Int) (w : World) :
    Calls Tryd.prog 53 #[.int .u32 x, .int .i64 (-22)] w fun e w' => e = .returned (.int .u32 (rot 22 x)) ∧ w = w' := by
  have h6 : bits .and .u64 (IntKind.u64.wrap (-22)) 31 = 10 := by decide
  have HD : Hid (rot 22 x = bits .or .u32 (x * 1024 % 4294967296) (x / 4194304)) := show _ = _ from rfl
  go_enter Tryd.func53, Tryd.ntmps53
  go_wp2
  go_ret
  exact ⟨ret_num HD.out, rfl⟩

theorem rot25_any (x : Int) (w : World) :
    Calls Tryd.prog 53 #[.int .u32 x, .int .i64 (-25)] w fun e w' => e = .returned (.int .u32 (rot 25 x)) ∧ w = w' := by
  have h6 : bits .and .u64 (IntKind.u64.wrap (-25)) 31 = 7 := by decide
  have HD : Hid (rot 25 x = bits .or .u32 (x * 128 % 4294967296) (x / 33554432)) := show _ = _ from rfl
  go_enter Tryd.func53, Tryd.ntmps53
  go_wp2
  go_ret
  exact ⟨ret_num HD.out, rfl⟩
end Go.Proofs.YtjeclmbableacaaDoor

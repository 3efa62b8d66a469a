/-
  OWN WORK. The document's own SHA-256 (permafrostref2), by its contract: what it calls, and the beginning.
-/
import Derived.Test.YtjeclmbableacaaDoorShTop
import Derived.Laws.AppendOwnNone
import Derived.StillTailTactics
namespace Go.Proofs.YtjeclmbableacaaDoor
open Go.RowKit Sh

theorem turn2_any (x : Int) (w : World) :
    Calls Tryd.prog 45 #[.int .u32 x, .int .u64 2] w fun e w' => e = .returned (.int .u32 (rot 2 x)) ∧ w' = w := by
  have HD : Hid (rot 2 x = bits .or .u32 (x / 4) (x * 1073741824 % 4294967296)) := show _ = _ from bits_or_comm _ _
  go_enter Tryd.func45, Tryd.ntmps45
  go_wp2
  go_ret
  exact ⟨ret_num HD.out, rfl⟩

theorem turn6_any (x : Int) (w : World) :
    Calls Tryd.prog 45 #[.int .u32 x, .int .u64 6] w fun e w' => e = .returned (.int .u32 (rot 6 x)) ∧ w' = w := by
  have HD : Hid (rot 6 x = bits .or .u32 (x / 64) (x * 67108864 % 4294967296)) := show _ = _ from bits_or_comm _ _
  go_enter Tryd.func45, Tryd.ntmps45
  go_wp2
  go_ret
  exact ⟨ret_num HD.out, rfl⟩

theorem turn7_any (x : Int) (w : World) :
    Calls Tryd.prog 45 #[.int .u32 x, .int .u64 7] w fun e w' => e = .returned (.int .u32 (rot 7 x)) ∧ w' = w := by
  have HD : Hid (rot 7 x = bits .or .u32 (x / 128) (x * 33554432 % 4294967296)) := show _ = _ from bits_or_comm _ _
  go_enter Tryd.func45, Tryd.ntmps45
  go_wp2
  go_ret
  exact ⟨ret_num HD.out, rfl⟩

theorem turn11_any (x : Int) (w : World) :
    Calls Tryd.prog 45 #[.int .u32 x, .int .u64 11] w fun e w' => e = .returned (.int .u32 (rot 11 x)) ∧ w' = w := by
  have HD : Hid (rot 11 x = bits .or .u32 (x / 2048) (x * 2097152 % 4294967296)) := show _ = _ from bits_or_comm _ _
  go_enter Tryd.func45, Tryd.ntmps45
  go_wp2
  go_ret
  exact ⟨ret_num HD.out, rfl⟩

theorem turn13_any (x : Int) (w : World) :
    Calls Tryd.prog 45 #[.int .u32 x, .int .u64 13] w fun e w' => e = .returned (.int .u32 (rot 13 x)) ∧ w' = w := by
  have HD : Hid (rot 13 x = bits .or .u32 (x / 8192) (x * 524288 % 4294967296)) := show _ = _ from bits_or_comm _ _
  go_enter Tryd.func45, Tryd.ntmps45
  go_wp2
  go_ret
  exact ⟨ret_num HD.out, rfl⟩

theorem turn17_any (x : Int) (w : World) :
    Calls Tryd.prog 45 #[.int .u32 x, .int .u64 17] w fun e w' => e = .returned (.int .u32 (rot 17 x)) ∧ w' = w := by
  have HD : Hid (rot 17 x = bits .or .u32 (x / 131072) (x * 32768 % 4294967296)) := show _ = _ from bits_or_comm _ _
  go_enter Tryd.func45, Tryd.ntmps45
  go_wp2
  go_ret
  exact ⟨ret_num HD.out, rfl⟩

theorem turn18_any (x : Int) (w : World) :
    Calls Tryd.prog 45 #[.int .u32 x, .int .u64 18] w fun e w' => e = .returned (.int .u32 (rot 18 x)) ∧ w' = w := by
  have HD : Hid (rot 18 x = bits .or .u32 (x / 262144) (x * 16384 % 4294967296)) := show _ = _ from bits_or_comm _ _
  go_enter Tryd.func45, Tryd.ntmps45
  go_wp2
  go_ret
  exact ⟨ret_num HD.out, rfl⟩

theorem turn19_any (x : Int) (w : World) :
    Calls Tryd.prog 45 #[.int .u32 x, .int .u64 19] w fun e w' => e = .returned (.int .u32 (rot 19 x)) ∧ w' = w := by
  have HD : Hid (rot 19 x = bits .or .u32 (x / 524288) (x * 8192 % 4294967296)) := show _ = _ from bits_or_comm _ _
  go_enter Tryd.func45, Tryd.ntmps45
  go_wp2
  go_ret
  exact ⟨ret_num HD.out, rfl⟩

theorem turn22_any (x : Int) (w : World) :
    Calls Tryd.prog 45 #[.int .u32 x, .int .u64 22] w fun e w' => e = .returned (.int .u32 (rot 22 x)) ∧ w' = w := by
  have HD : Hid (rot 22 x = bits .or .u32 (x / 4194304) (x * 1024 % 4294967296)) := show _ = _ from bits_or_comm _ _
  go_enter Tryd.func45, Tryd.ntmps45
  go_wp2
  go_ret
  exact ⟨ret_num HD.out, rfl⟩

theorem turn25_any (x : Int) (w : World) :
    Calls Tryd.prog 45 #[.int .u32 x, .int .u64 25] w fun e w' => e = .returned (.int .u32 (rot 25 x)) ∧ w' = w := by
  have HD : Hid (rot 25 x = bits .or .u32 (x / 33554432) (x * 128 % 4294967296)) := show _ = _ from bits_or_comm _ _
  go_enter Tryd.func45, Tryd.ntmps45
  go_wp2
  go_ret
  exact ⟨ret_num HD.out, rfl⟩
theorem turn_any (x n : Int) (hn : n = 2 ∨ n = 6 ∨ n = 7 ∨ n = 11 ∨ n = 13 ∨ n = 17 ∨ n = 18 ∨ n = 19 ∨ n = 22 ∨ n = 25) (w : World) :
    Calls Tryd.prog 45 #[.int .u32 x, .int .u64 n] w fun e w' => e = .returned (.int .u32 (rot n.toNat x)) ∧ w' = w := by
  rcases hn with rfl | rfl | rfl | rfl | rfl | rfl | rfl | rfl | rfl | rfl
  · exact turn2_any x w
  · exact turn6_any x w
  · exact turn7_any x w
  · exact turn11_any x w
  · exact turn13_any x w
  · exact turn17_any x w
  · exact turn18_any x w
  · exact turn19_any x w
  · exact turn22_any x w
  · exact turn25_any x w
end Go.Proofs.YtjeclmbableacaaDoor

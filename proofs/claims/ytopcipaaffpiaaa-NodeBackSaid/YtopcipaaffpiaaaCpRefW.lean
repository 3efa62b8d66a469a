/-
  OWN WORK. The document's own writers (permafrostref4), by their contracts.
-/
import Derived.Test.YtopcipaaffpiaaaCpBase
namespace Go.Proofs.Ytopcipaaffpiaaa
open Go.RowKit

set_option maxHeartbeats 1000000 in
set_option maxRecDepth 100000 in
theorem refByte_any (w : World) (l : List UInt8) (A : Option Addr) (cap n : Nat) (hr : Rd w A l) (hl : l.length ≤ 1099511620000) (hn : n ≤ 9223372036854775807) :
    Calls Try.prog 16 #[.slice A l.length cap, .int .i64 (n : Nat)] w fun e w' => ∃ v, e = .returned v ∧ w'.ownsRow w.heap.size 5 1 v (l.length + 1) (Lib.byteCells (l ++ Co.wByte n)) ∧ Below w.heap.size w w' := by
  obtain ⟨i0, hi, hz0, hz1, hz2⟩ := info_parts Try.infoU8
  have HI0 := Lib.hid hi
  have HZ0 := Lib.hid hz0
  have HZ1 := Lib.hid hz1
  have HZ2 := Lib.hid hz2
  have H0 : Hid (MAt w.heap.size (.slice (some ⟨w.heap.size, 0, none⟩) 0 0) [] w (w.alloc (.cells #[] 5))) := MAt.empty w
  have HRW : Hid (Rd (w.alloc (.cells #[] 5)) A l) := hr.below (below_new w _)
  clear hi hz0 hz1 hz2 hr
  go_enter Try.func16, Try.ntmps16
  go_wp2_with (first
    | (at_builtin; refine wpList_append_rd rfl (.tmp 5) (.tmp 6) 27 rfl w.heap.size 5 i0 Try.underlying27 HI0.out HZ0.out HZ1.out HZ2.out _ 0 [] rfl H0.out.1 A l l.length cap rfl rfl HRW.out (by omega) (by rw [World.size_alloc]; omega) ?_; intro v1 w1 HO1 HG1; have H1 : Hid (MAt w.heap.size v1 l w w1) := H0.out.push (Below.refl _ _) HO1.out HG1.out)
    | (at_builtin; refine wpList_append_rd rfl (.tmp 7) (.tmp 10) 27 rfl w.heap.size 5 i0 Try.underlying27 HI0.out HZ0.out HZ1.out HZ2.out v1 l.length (Lib.byteCells l) rfl (H1.out.own (below_new w1 _)) (some ⟨w1.heap.size, 0, none⟩) (Co.wByte n) 1 1 rfl rfl (rd_cells w1 (Co.wByte n) _ _ _ (by simp [Co.wByte, Lib.byteCells])) (by simp [Co.wByte]; omega) (by rw [World.size_alloc]; have := H1.out.2.1.size; omega) ?_; intro v2 w2 HO2 HG2; have H2 : Hid (MAt w.heap.size v2 (l ++ Co.wByte n) w w2) := H1.out.push (below_new w1 _) HO2.out HG2.out))
  clear HO1 HG1 HO2 HG2
  go_ret
  refine ⟨_, rfl, ?_, H2.out.2.1⟩
  have := H2.out.1
  rw [List.length_append] at this
  exact this

set_option maxHeartbeats 1000000 in
set_option maxRecDepth 100000 in
theorem refShort_any (w : World) (l : List UInt8) (A : Option Addr) (cap n : Nat) (hr : Rd w A l) (hl : l.length ≤ 1099511620000) (hn : n ≤ 9223372036854775807) :
    Calls Try.prog 15 #[.slice A l.length cap, .int .i64 (n : Nat)] w fun e w' => ∃ v, e = .returned v ∧ w'.ownsRow w.heap.size 5 1 v (l.length + 2) (Lib.byteCells (l ++ Co.wShort n)) ∧ Below w.heap.size w w' := by
  obtain ⟨i0, hi, hz0, hz1, hz2⟩ := info_parts Try.infoU8
  have HI0 := Lib.hid hi
  have HZ0 := Lib.hid hz0
  have HZ1 := Lib.hid hz1
  have HZ2 := Lib.hid hz2
  have H0 : Hid (MAt w.heap.size (.slice (some ⟨w.heap.size, 0, none⟩) 0 0) [] w (w.alloc (.cells #[] 5))) := MAt.empty w
  have HRW : Hid (Rd (w.alloc (.cells #[] 5)) A l) := hr.below (below_new w _)
  clear hi hz0 hz1 hz2 hr
  go_enter Try.func15, Try.ntmps15
  go_wp2_with (first
    | (at_builtin; refine wpList_append_rd rfl (.tmp 5) (.tmp 6) 27 rfl w.heap.size 5 i0 Try.underlying27 HI0.out HZ0.out HZ1.out HZ2.out _ 0 [] rfl H0.out.1 A l l.length cap rfl rfl HRW.out (by omega) (by rw [World.size_alloc]; omega) ?_; intro v1 w1 HO1 HG1; have H1 : Hid (MAt w.heap.size v1 l w w1) := H0.out.push (Below.refl _ _) HO1.out HG1.out)
    | (at_builtin; refine wpList_append_rd rfl (.tmp 7) (.tmp 13) 27 rfl w.heap.size 5 i0 Try.underlying27 HI0.out HZ0.out HZ1.out HZ2.out v1 l.length (Lib.byteCells l) rfl (H1.out.own (below_new w1 _)) (some ⟨w1.heap.size, 0, none⟩) (Co.wShort n) 2 2 rfl rfl (rd_cells w1 (Co.wShort n) _ _ _ (by simp [Co.wShort, Lib.byteCells])) (by simp [Co.wShort]; omega) (by rw [World.size_alloc]; have := H1.out.2.1.size; omega) ?_; intro v2 w2 HO2 HG2; have H2 : Hid (MAt w.heap.size v2 (l ++ Co.wShort n) w w2) := H1.out.push (below_new w1 _) HO2.out HG2.out))
  clear HO1 HG1 HO2 HG2
  go_ret
  refine ⟨_, rfl, ?_, H2.out.2.1⟩
  have := H2.out.1
  rw [List.length_append] at this
  exact this

theorem refFlag_any (w : World) (l : List UInt8) (A : Option Addr) (cap : Nat) (f : Bool) (hr : Rd w A l) (hl : l.length ≤ 1099511620000) :
    Calls Try.prog 17 #[.slice A l.length cap, .bool f] w fun e w' => ∃ v, e = .returned v ∧ w'.ownsRow w.heap.size 5 1 v (l.length + 1) (Lib.byteCells (l ++ Co.wFlag f)) ∧ Below w.heap.size w w' := by
  have HR : Hid (Rd w A l) := hr
  clear hr
  cases f with
  | true =>
    go_enter Try.func17, Try.ntmps17
    go_wp2_with fail
    refine (refByte_any w l A cap 1 HR.out hl (by omega)).mono ?_
    rintro e w1 ⟨v, rfl, hown, hb⟩
    have HF : Hid (w1.ownsRow w.heap.size 5 1 v (l.length + 1) (Lib.byteCells (l ++ Co.wFlag true)) ∧ Below w.heap.size w w1) := ⟨hown, hb⟩
    clear hown hb
    go_wp2_with fail
    go_ret
    exact ⟨_, rfl, HF.out⟩
  | false =>
    go_enter Try.func17, Try.ntmps17
    go_wp2_with fail
    refine (refByte_any w l A cap 0 HR.out hl (by omega)).mono ?_
    rintro e w1 ⟨v, rfl, hown, hb⟩
    have HF : Hid (w1.ownsRow w.heap.size 5 1 v (l.length + 1) (Lib.byteCells (l ++ Co.wFlag false)) ∧ Below w.heap.size w w1) := ⟨hown, hb⟩
    clear hown hb
    go_wp2_with fail
    go_ret
    exact ⟨_, rfl, HF.out⟩

set_option maxHeartbeats 1000000 in
set_option maxRecDepth 100000 in
theorem refLong_any (w : World) (l : List UInt8) (A : Option Addr) (cap n : Nat) (hr : Rd w A l) (hl : l.length ≤ 1099511620000) (hn : n ≤ 18446744073709551615) :
    Calls Try.prog 18 #[.slice A l.length cap, .int .u64 (n : Nat)] w fun e w' => ∃ v, e = .returned v ∧ w'.ownsRow w.heap.size 5 1 v (l.length + 8) (Lib.byteCells (l ++ Co.wLong n)) ∧ Below w.heap.size w w' := by
  obtain ⟨i0, hi, hz0, hz1, hz2⟩ := info_parts Try.infoU8
  have HI0 := Lib.hid hi
  have HZ0 := Lib.hid hz0
  have HZ1 := Lib.hid hz1
  have HZ2 := Lib.hid hz2
  have H0 : Hid (MAt w.heap.size (.slice (some ⟨w.heap.size, 0, none⟩) 0 0) [] w (w.alloc (.cells #[] 5))) := MAt.empty w
  have HRW : Hid (Rd (w.alloc (.cells #[] 5)) A l) := hr.below (below_new w _)
  clear hi hz0 hz1 hz2 hr
  go_enter Try.func18, Try.ntmps18
  go_upto_region 3 with (first
    | (at_builtin; refine wpList_append_rd rfl (.tmp 7) (.tmp 8) 27 rfl w.heap.size 5 i0 Try.underlying27 HI0.out HZ0.out HZ1.out HZ2.out _ 0 [] rfl H0.out.1 A l l.length cap rfl rfl HRW.out (by omega) (by rw [World.size_alloc]; omega) ?_; intro v1 w1 HO1 HG1; have H1 : Hid (MAt w.heap.size v1 l w w1) := H0.out.push (Below.refl _ _) HO1.out HG1.out))
  clear HO1 HG1
  have H1b : Hid (MAt w.heap.size v1 (l ++ (Co.wLong n).take 0) w w1) := by show MAt _ _ _ _ _; rw [List.take_zero, List.append_nil]; exact H1.out
  clear H1
  go_wp2_with fail
  go_loopw [5, 6] (fun t5 t6 wr => ∃ j : Nat, j ≤ 8 ∧ t6 = .int .i64 (56 - 8 * ((j : Nat) : Int)) ∧ Hid (MAt w.heap.size t5 (l ++ (Co.wLong n).take j) w wr)) (fun _ t6 _ => (intOf t6 + 8).toNat)
  case atStart => exact ⟨0, by omega, rfl, H1b⟩
  case round =>
    obtain ⟨j, hj, rfl, HM⟩ := hrel
    by_cases hlt : j < 8
    · have HOL : Hid ((l ++ (Co.wLong n).take j).length = l.length + j) := by show _ = _; rw [List.length_append, List.length_take, Co.wLong_length]; omega
      have hmod : (((n : Nat) : Int)) / 2 ^ (56 - 8 * j) % 256 = (((UInt8.ofNat (n / 2 ^ (56 - 8 * j))).toNat : Nat) : Int) := by rw [u8_cast]; norm_cast
      have HOWN : Hid ((wr.alloc (.cells #[Value.int .u8 (((n : Nat) : Int) / 2 ^ (56 - 8 * j) % 256)] 5)).ownsRow w.heap.size 5 1 u5 (l.length + j) (Lib.byteCells (l ++ (Co.wLong n).take j))) := by
        have := HM.out.own (below_new wr (.cells #[Value.int .u8 (((n : Nat) : Int) / 2 ^ (56 - 8 * j) % 256)] 5))
        rw [HOL.out] at this
        exact this
      have HBS : Hid (w.heap.size ≤ (wr.alloc (.cells #[Value.int .u8 (((n : Nat) : Int) / 2 ^ (56 - 8 * j) % 256)] 5)).heap.size) := by show _ ≤ _; rw [World.size_alloc]; have := HM.out.2.1.size; omega
      obtain ⟨bx, hbx⟩ : ∃ b : UInt8, b = UInt8.ofNat (n / 2 ^ (56 - 8 * j)) := ⟨_, rfl⟩
      have HBX := Lib.hid hbx
      have HXB : Hid (((bx.toNat : Nat) : Int) = ((n : Nat) : Int) / 2 ^ (56 - 8 * j) % 256) := by show _ = _; rw [hbx, hmod]
      have HNN1 : Hid (l.length + j + [bx].length ≤ 1099511627776) := by show l.length + j + 1 ≤ _; omega
      clear hbx hmod
      go_wp2_with (at_builtin; refine wpList_append_rd rfl (.tmp 14) (.tmp 20) 27 rfl w.heap.size 5 i0 Try.underlying27 HI0.out HZ0.out HZ1.out HZ2.out _ (l.length + j) (Lib.byteCells (l ++ (Co.wLong n).take j)) rfl HOWN.out (some ⟨wr.heap.size, 0, none⟩) [bx] 1 1 rfl rfl (rd_new wr _ _ _ HXB.out) HNN1.out HBS.out ?_; intro v3 w3 HO3 HG3)
      have HM4 : Hid (MAt w.heap.size v3 (l ++ (Co.wLong n).take (j + 1)) w w3) := by
        show MAt _ _ _ _ _
        rw [Co.wLong_take _ _ hlt, ← List.append_assoc, ← HBX.out]
        exact HM.out.push (below_new wr _) (by rw [HOL.out]; exact HO3.out) HG3.out
      clear HO3 HG3
      go_roundw
      case rel => exact ⟨j + 1, by omega, by go_num, HM4⟩
      case measure => simp [intOf]; omega
    · obtain rfl : j = 8 := by omega
      have HF : Hid (MAt w.heap.size u5 (l ++ Co.wLong n) w wr) := by
        have := HM.out
        rw [List.take_of_length_le (by rw [Co.wLong_length]; omega)] at this
        exact this
      clear HM
      go_wp2_with fail
      go_ret
      refine ⟨_, rfl, ?_, HF.out.2.1⟩
      have := HF.out.1
      rw [List.length_append, Co.wLong_length] at this
      exact this
end Go.Proofs.Ytopcipaaffpiaaa

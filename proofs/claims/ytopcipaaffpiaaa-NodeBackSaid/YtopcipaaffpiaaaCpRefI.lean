/-
  OWN WORK. The document's own writers of numbers (permafrostref4), for any int.
-/
import Derived.Test.YtopcipaaffpiaaaCpRefW
namespace Go.Proofs.Ytopcipaaffpiaaa
open Go.RowKit

theorem co_low16 (n : Int) : ((((n % 65536).toNat : Nat) : Int)) = n % 65536 := by omega
theorem co_low8 (n : Int) : ((((n % 256).toNat : Nat) : Int)) = n % 256 := by omega
theorem cells_short (n : Int) : Lib.byteCells (Co.wShort (n % 65536).toNat) = [.int .u8 (IntKind.u8.wrap (n / 256)), .int .u8 (IntKind.u8.wrap n)] := by
  simp only [Co.wShort, Lib.byteCells, List.map_cons, List.map_nil, u8_cast, IntKind.wrap_u8]
  have h1 : (((n % 65536).toNat / 256 : Nat) : Int) % 256 = n / 256 % 256 := by omega
  have h2 : (((n % 65536).toNat : Nat) : Int) % 256 = n % 256 := by omega
  rw [h1, h2]
theorem cells_byte (n : Int) : Lib.byteCells (Co.wByte (n % 256).toNat) = [.int .u8 (IntKind.u8.wrap n)] := by
  simp only [Co.wByte, Lib.byteCells, List.map_cons, List.map_nil, u8_cast, IntKind.wrap_u8]
  have h2 : (((n % 256).toNat : Nat) : Int) % 256 = n % 256 := by omega
  rw [h2]
set_option maxHeartbeats 1000000 in
set_option maxRecDepth 100000 in
theorem refByte_int (w : World) (l : List UInt8) (A : Option Addr) (cap : Nat) (n : Int) (hr : Rd w A l) (hl : l.length ≤ 1099511620000) (hn0 : -9223372036854775808 ≤ n) (hn : n ≤ 9223372036854775807) :
    Calls Try.prog 16 #[.slice A l.length cap, .int .i64 n] w fun e w' => ∃ v, e = .returned v ∧ w'.ownsRow w.heap.size 5 1 v (l.length + 1) (Lib.byteCells (l ++ Co.wByte (n % 256).toNat)) ∧ Below w.heap.size w w' := by
  obtain ⟨i0, hi, hz0, hz1, hz2⟩ := info_parts Try.infoU8
  have HI0 := Lib.hid hi
  have HZ0 := Lib.hid hz0
  have HZ1 := Lib.hid hz1
  have HZ2 := Lib.hid hz2
  have H0 : Hid (MAt w.heap.size (.slice (some ⟨w.heap.size, 0, none⟩) 0 0) [] w (w.alloc (.cells #[] 5))) := MAt.empty w
  have HRW : Hid (Rd (w.alloc (.cells #[] 5)) A l) := hr.below (below_new w _)
  clear hi hz0 hz1 hz2 hr
  go_enter Try.func16, Try.ntmps16
  go_wp2_with (first
    | (at_builtin; refine wpList_append_rd rfl (.tmp 5) (.tmp 6) 27 rfl w.heap.size 5 i0 Try.underlying27 HI0.out HZ0.out HZ1.out HZ2.out _ 0 [] rfl H0.out.1 A l l.length cap rfl rfl HRW.out (by omega) (by rw [World.size_alloc]; omega) ?_; intro v1 w1 HO1 HG1; have H1 : Hid (MAt w.heap.size v1 l w w1) := H0.out.push (Below.refl _ _) HO1.out HG1.out)
    | (at_builtin; refine wpList_append_rd rfl (.tmp 7) (.tmp 10) 27 rfl w.heap.size 5 i0 Try.underlying27 HI0.out HZ0.out HZ1.out HZ2.out v1 l.length (Lib.byteCells l) rfl (H1.out.own (below_new w1 _)) (some ⟨w1.heap.size, 0, none⟩) (Co.wByte (n % 256).toNat) 1 1 rfl rfl (rd_cells w1 (Co.wByte (n % 256).toNat) _ _ _ (by rw [cells_byte]; simp [IntKind.wrap_u8])) (by simp [Co.wByte]; omega) (by rw [World.size_alloc]; have := H1.out.2.1.size; omega) ?_; intro v2 w2 HO2 HG2; have H2 : Hid (MAt w.heap.size v2 (l ++ Co.wByte (n % 256).toNat) w w2) := H1.out.push (below_new w1 _) HO2.out HG2.out))
  clear HO1 HG1 HO2 HG2
  go_ret
  refine ⟨_, rfl, ?_, H2.out.2.1⟩
  have := H2.out.1
  rw [List.length_append] at this
  exact this

set_option maxHeartbeats 1000000 in
set_option maxRecDepth 100000 in
theorem refShort_int (w : World) (l : List UInt8) (A : Option Addr) (cap : Nat) (n : Int) (hr : Rd w A l) (hl : l.length ≤ 1099511620000) (hn0 : -9223372036854775808 ≤ n) (hn : n ≤ 9223372036854775807) :
    Calls Try.prog 15 #[.slice A l.length cap, .int .i64 n] w fun e w' => ∃ v, e = .returned v ∧ w'.ownsRow w.heap.size 5 1 v (l.length + 2) (Lib.byteCells (l ++ Co.wShort (n % 65536).toNat)) ∧ Below w.heap.size w w' := by
  obtain ⟨i0, hi, hz0, hz1, hz2⟩ := info_parts Try.infoU8
  have HI0 := Lib.hid hi
  have HZ0 := Lib.hid hz0
  have HZ1 := Lib.hid hz1
  have HZ2 := Lib.hid hz2
  have H0 : Hid (MAt w.heap.size (.slice (some ⟨w.heap.size, 0, none⟩) 0 0) [] w (w.alloc (.cells #[] 5))) := MAt.empty w
  have HRW : Hid (Rd (w.alloc (.cells #[] 5)) A l) := hr.below (below_new w _)
  clear hi hz0 hz1 hz2 hr
  go_enter Try.func15, Try.ntmps15
  go_wp2_with (first
    | (at_builtin; refine wpList_append_rd rfl (.tmp 5) (.tmp 6) 27 rfl w.heap.size 5 i0 Try.underlying27 HI0.out HZ0.out HZ1.out HZ2.out _ 0 [] rfl H0.out.1 A l l.length cap rfl rfl HRW.out (by omega) (by rw [World.size_alloc]; omega) ?_; intro v1 w1 HO1 HG1; have H1 : Hid (MAt w.heap.size v1 l w w1) := H0.out.push (Below.refl _ _) HO1.out HG1.out)
    | (at_builtin; refine wpList_append_rd rfl (.tmp 7) (.tmp 13) 27 rfl w.heap.size 5 i0 Try.underlying27 HI0.out HZ0.out HZ1.out HZ2.out v1 l.length (Lib.byteCells l) rfl (H1.out.own (below_new w1 _)) (some ⟨w1.heap.size, 0, none⟩) (Co.wShort (n % 65536).toNat) 2 2 rfl rfl (rd_cells w1 (Co.wShort (n % 65536).toNat) _ _ _ (by rw [cells_short]; simp [IntKind.wrap_u8])) (by simp [Co.wShort]; omega) (by rw [World.size_alloc]; have := H1.out.2.1.size; omega) ?_; intro v2 w2 HO2 HG2; have H2 : Hid (MAt w.heap.size v2 (l ++ Co.wShort (n % 65536).toNat) w w2) := H1.out.push (below_new w1 _) HO2.out HG2.out))
  clear HO1 HG1 HO2 HG2
  go_ret
  refine ⟨_, rfl, ?_, H2.out.2.1⟩
  have := H2.out.1
  rw [List.length_append] at this
  exact this

end Go.Proofs.Ytopcipaaffpiaaa

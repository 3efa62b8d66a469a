/-
  OWN WORK. The document's own CRC-32 (permafrostref3), by its contract.
-/
import Derived.Test.YtdopgnfggpdfoaaDoorCrPure
import Derived.Test.YtdopgnfggpdfoaaDoorBaRow
namespace Go.Proofs.YtdopgnfggpdfoaaDoor
open Go.RowKit
namespace Cr
theorem stps_snoc : ∀ (n c : Nat), stps (n + 1) c = stp (stps n c)
  | 0, _ => rfl
  | n + 1, c => stps_snoc n (stp c)
theorem run_snoc (c : Nat) (l : List UInt8) (k : Nat) (h : k < l.length) : run c (l.take (k + 1)) = byt (run c (l.take k) ^^^ (l.getD k 0).toNat) := by
  rw [List.take_succ_eq_append_getElem h, run_append]
  simp [run, List.getD, List.getElem?_eq_getElem h]
theorem bits_xor_nat (a b : Nat) (ha : a < 4294967296) (hb : b < 4294967296) : bits .xor .u32 (a : Int) (b : Int) = ((a ^^^ b : Nat) : Int) := by
  show IntKind.u32.wrap ((BitVec.ofInt 32 (a : Int) ^^^ BitVec.ofInt 32 (b : Int)).toNat : Int) = _
  rw [IntKind.wrap_u32', BitVec.toNat_xor, BitVec.ofInt_natCast, BitVec.ofInt_natCast, BitVec.toNat_ofNat, BitVec.toNat_ofNat, Nat.mod_eq_of_lt ha, Nat.mod_eq_of_lt hb]
  have : a ^^^ b < 2 ^ 32 := Nat.xor_lt_two_pow ha hb
  omega
theorem bits_and_one (a : Nat) (ha : a < 4294967296) : bits .and .u32 (a : Int) 1 = ((a % 2 : Nat) : Int) := by
  show IntKind.u32.wrap ((BitVec.ofInt 32 (a : Int) &&& BitVec.ofInt 32 (1 : Int)).toNat : Int) = _
  rw [IntKind.wrap_u32', BitVec.toNat_and, BitVec.ofInt_natCast, BitVec.toNat_ofNat, Nat.mod_eq_of_lt ha, show (BitVec.ofInt 32 (1 : Int)).toNat = 1 by decide, Nat.and_one_is_mod]
  omega
theorem bits_xor_u8 (a b : Nat) (ha : a < 256) (hb : b < 256) : bits .xor .u8 (a : Int) (b : Int) = ((a ^^^ b : Nat) : Int) := by
  show IntKind.u8.wrap ((BitVec.ofInt 8 (a : Int) ^^^ BitVec.ofInt 8 (b : Int)).toNat : Int) = _
  rw [IntKind.wrap_u8', BitVec.toNat_xor, BitVec.ofInt_natCast, BitVec.ofInt_natCast, BitVec.toNat_ofNat, BitVec.toNat_ofNat, Nat.mod_eq_of_lt ha, Nat.mod_eq_of_lt hb]
  have : a ^^^ b < 2 ^ 8 := Nat.xor_lt_two_pow ha hb
  omega
end Cr
open Cr

set_option maxHeartbeats 1000000 in
set_option maxRecDepth 100000 in
theorem refSum_any (w : World) (l : List UInt8) (A : Option Addr) (cap : Nat) (hr : Rd w A l) (hl : l.length ≤ 1099511627776) :
    Calls Tryd.prog 8 #[.slice A l.length cap] w fun e w' => e = .returned (.int .u32 (Cr.sum l : Nat)) ∧ w = w' := by
  have HR : Hid (Rd w A l) := hr
  clear hr
  go_enter Tryd.func8, Tryd.ntmps8
  go_wp2_with fail
  go_loop [3, 4] (fun t3 t4 => ∃ (k c : Nat), k ≤ l.length ∧ t4 = .int .i64 (k : Nat) ∧ t3 = .int .u32 (c : Nat) ∧ Hid (c = run ones (l.take k))) (fun _ t4 => l.length - (intOf t4).toNat)
  case atStart => exact ⟨0, ones, by omega, rfl, rfl, rfl⟩
  case round =>
    obtain ⟨k, c, hk, rfl, rfl, HC⟩ := hrel
    have hc : c < 4294967296 := by rw [HC.out]; exact run_lt _ ones_lt
    by_cases hlt : k < l.length
    · obtain ⟨b, off, rfl, _, hcell⟩ := HR.out.at_ (by omega)
      have c0 := hcell k hlt
      obtain ⟨x, hx⟩ : ∃ x : Nat, x = (l.getD k 0).toNat := ⟨_, rfl⟩
      have hx8 : x < 256 := by rw [hx]; exact (l.getD k 0).toNat_lt
      rw [← hx] at c0
      have HX := Lib.hid hx
      have hxor := bits_xor_nat c x hc (by omega)
      clear hcell hx
      go_wp2_with fail
      go_loop [3, 5] (fun t3 t5 => ∃ (j d : Nat), j ≤ 8 ∧ t5 = .int .i64 (j : Nat) ∧ t3 = .int .u32 (d : Nat) ∧ Hid (d = stps j (c ^^^ x))) (fun _ t5 => 8 - (intOf t5).toNat)
      case atStart => exact ⟨0, c ^^^ x, by omega, rfl, rfl, rfl⟩
      case round =>
        obtain ⟨j, d, hj, rfl, rfl, HD⟩ := hrel
        have hd : d < 4294967296 := by rw [HD.out]; exact stps_lt j (Nat.xor_lt_two_pow hc (by omega))
        clear hxor
        by_cases hj8 : j < 8
        · have hand := bits_and_one d hd
          obtain ⟨e, he⟩ : ∃ e : Nat, e = d / 2 := ⟨_, rfl⟩
          have hd2 : ((d : Int) / 2) = (e : Int) := by omega
          have hp := bits_xor_nat e poly (by omega) (by decide)
          by_cases hodd : d % 2 = 1
          · rw [hodd] at hand
            have HS : Hid (stp d = e ^^^ poly) := by show _ = _; unfold stp; rw [if_pos hodd, he]
            have hpp : ((poly : Nat) : Int) = 3988292384 := rfl
            rw [hpp] at hp
            clear hpp hodd he
            go_wp2_with fail
            go_round
            case rel => exact ⟨j + 1, _, by omega, by go_num, rfl, by show _ = _; rw [stps_snoc, ← HD.out, HS.out]⟩
            case measure => simp [intOf]; omega
          · have hz : d % 2 = 0 := by omega
            rw [hz] at hand
            have HS : Hid (stp d = e) := by show _ = _; unfold stp; rw [if_neg hodd, he]
            clear hp hodd hz he
            go_wp2_with fail
            go_round
            case rel => exact ⟨j + 1, _, by omega, by go_num, rfl, by show _ = _; rw [stps_snoc, ← HD.out, HS.out]⟩
            case measure => simp [intOf]; omega
        · obtain rfl : j = 8 := by omega
          go_wp2_with fail
          go_round
          case rel => exact ⟨k + 1, d, by omega, by go_num, rfl, by show _ = _; rw [run_snoc _ _ _ hlt, ← HC.out, ← HX.out, HD.out]; rfl⟩
          case measure => simp [intOf]; omega
    · obtain rfl : k = l.length := by omega
      have hp := bits_xor_nat c ones hc (by decide)
      have hpp : ((ones : Nat) : Int) = 4294967295 := rfl
      rw [hpp] at hp
      have HCS : Hid (c ^^^ ones = Cr.sum l) := by show _ = _; rw [HC.out, List.take_length]; rfl
      clear hpp
      go_wp2_with fail
      go_ret
      exact ⟨by rw [← HCS.out]; rfl, rfl⟩
end Go.Proofs.YtdopgnfggpdfoaaDoor

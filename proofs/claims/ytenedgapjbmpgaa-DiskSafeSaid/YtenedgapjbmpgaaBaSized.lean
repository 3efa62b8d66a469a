/-
  OWN WORK. Sized, by its contract.
-/
import Derived.Test.YtenedgapjbmpgaaBaObj
import Derived.Test.YtenedgapjbmpgaaBaCut
namespace Go.Proofs.Ytenedgapjbmpgaa
open Go.RowKit Rc

def sized (n : Nat) (l : List UInt8) : List UInt8 := l.take n ++ List.replicate (n - l.length) 0
theorem sized_length (n : Nat) (l : List UInt8) : (sized n l).length = n := by simp only [sized, List.length_append, List.length_take, List.length_replicate]; omega
theorem row_form {w : World} {B : Nat} {v : Value} {l : List UInt8} (h : w.ownsRow B 5 1 v l.length (Lib.byteCells l)) : ∃ X c, v = .slice X l.length c ∧ l.length ≤ c ∧ Rd w X l := bRow_form (show (bRow l).holds v w from own_base h)
theorem mat_empty (w : World) : MAt w.heap.size (.slice (some ⟨w.heap.size, 0, none⟩) 0 0) [] w (w.alloc (.cells #[] 5)) :=
  ⟨⟨rfl, .inr ⟨w.heap.size, 0, #[], rfl, Nat.le_refl _, heap_alloc_new w _, Nat.le_refl _, by unfold maxLen; omega, rfl, rfl⟩⟩, below_new w _, rfl⟩

set_option maxHeartbeats 1000000 in
set_option maxRecDepth 100000 in
theorem sized_any (w : World) (l : List UInt8) (A : Option Addr) (cap n : Nat) (hr : Rd w A l) (hc : l.length ≤ cap) (hl : l.length ≤ 9223372036854775807) (hn : n ≤ 1000000) :
    Calls Try.prog 11 #[.slice A l.length cap, .int .i64 (n : Nat)] w fun e w' => ∃ x, e = .returned x ∧ Ob.Fresh (sized n l) w x w' ∧ Below w.heap.size w w' := by
  obtain ⟨i0, hi, hz0, hz1, hz2⟩ := info_parts Try.infoU8
  have HI0 := Lib.hid hi
  have HZ0 := Lib.hid hz0
  have HZ1 := Lib.hid hz1
  have HZ2 := Lib.hid hz2
  have H0 : Hid (MAt w.heap.size (.slice (some ⟨w.heap.size, 0, none⟩) 0 0) [] w (w.alloc (.cells #[] 5))) := mat_empty w
  have HRW : Hid (Rd (w.alloc (.cells #[] 5)) A l) := hr.below (below_new w _)
  have HC := Lib.hid hc
  have HL := Lib.hid hl
  clear hi hz0 hz1 hz2 hr hc hl
  go_enter Try.func11, Try.ntmps11
  go_wp2_with fail
  refine (cut_any A l cap n HC.out hn HL.out _).mono ?_
  rintro e w1 ⟨rfl, rfl⟩
  obtain ⟨y, hy⟩ : ∃ y, y = l.take n := ⟨_, rfl⟩
  rw [← hy]
  have hyn : y.length ≤ n := by rw [hy, List.length_take]; omega
  have HRY : Hid (Rd (w.alloc (.cells #[] 5)) A y) := by show Rd _ _ _; rw [hy]; exact HRW.out.take _
  have HY : Hid (sized n l = y ++ List.replicate (n - y.length) 0) := by
    show _ = _
    unfold sized
    rw [← hy]
    congr 2
    rw [hy, List.length_take]
    omega
  clear hy HRW
  go_wp2_with (at_builtin; refine wpList_append_rd rfl (.tmp 6) (.tmp 9) 27 rfl w.heap.size 5 i0 Try.underlying27 HI0.out HZ0.out HZ1.out HZ2.out _ 0 [] rfl H0.out.1 A y y.length cap rfl rfl HRY.out (by omega) (by rw [World.size_alloc]; omega) ?_; intro v1 w1 HO1 HG1)
  have H1 : Hid (∃ q, MAt w.heap.size v1 q w w1 ∧ q.length ≤ n ∧ y.length ≤ q.length ∧ q = y ++ List.replicate (q.length - y.length) 0) := ⟨y, H0.out.push (Below.refl _ _) HO1.out HG1.out, hyn, Nat.le_refl _, by simp⟩
  clear HO1 HG1 H0 HRY
  go_loopw [5] (fun t5 wr => Hid (∃ q, MAt w.heap.size t5 q w wr ∧ q.length ≤ n ∧ y.length ≤ q.length ∧ q = y ++ List.replicate (q.length - y.length) 0)) (fun t5 _ => n - (match t5 with | .slice _ l _ => l | _ => 0))
  case atStart => exact H1
  case round =>
    obtain ⟨q, hm, hq, hyq, hqe⟩ := hrel.out
    obtain ⟨X, c, rfl, hc, hrq⟩ := row_form hm.1
    have HM := Lib.hid hm
    have HQE := Lib.hid hqe
    clear hm hrq hqe hrel
    by_cases hlt : q.length < n
    · have HOWN : Hid ((wr.alloc (.cells #[Value.int .u8 0] 5)).ownsRow w.heap.size 5 1 (.slice X q.length c) q.length (Lib.byteCells q)) := HM.out.own (below_new wr (.cells #[Value.int .u8 0] 5))
      have HBS : Hid (w.heap.size ≤ (wr.alloc (.cells #[Value.int .u8 0] 5)).heap.size) := by show _ ≤ _; rw [World.size_alloc]; have := HM.out.2.1.size; omega
      have HNN1 : Hid (q.length + [(0 : UInt8)].length ≤ 1099511627776) := by show q.length + 1 ≤ _; omega
      go_wp2_with (at_builtin; refine wpList_append_rd rfl (.tmp 15) (.tmp 16) 27 rfl w.heap.size 5 i0 Try.underlying27 HI0.out HZ0.out HZ1.out HZ2.out _ q.length (Lib.byteCells q) rfl HOWN.out (some ⟨wr.heap.size, 0, none⟩) [0] 1 1 rfl rfl (rd_new wr 0 0 _ rfl) HNN1.out HBS.out ?_; intro v3 w3 HO3 HG3)
      have HM4 : Hid (MAt w.heap.size v3 (q ++ [0]) w w3) := HM.out.push (below_new wr _) HO3.out HG3.out
      obtain ⟨X3, c3, rfl, _, _⟩ := row_form HM4.out.1
      clear HO3 HG3
      go_roundw
      case rel => exact ⟨q ++ [0], HM4.out, by rw [List.length_append]; exact hlt, by rw [List.length_append]; omega, by
        rw [List.length_append, List.length_singleton, show q.length + 1 - y.length = (q.length - y.length) + 1 by omega, List.replicate_succ', ← List.append_assoc, ← HQE.out]⟩
      case measure => simp; omega
    · have hqn : q.length = n := by omega
      have HF : Hid (Ob.Fresh (sized n l) w (.slice X q.length c) wr) := by
        have e : sized n l = q := by rw [HY.out, HQE.out, hqn]
        show Ob.Fresh _ _ _ _
        rw [e]
        exact Ob.Fresh.of_own HM.out.1 rfl
      have HB := Lib.hid HM.out.2.1
      go_wp2_with fail
      go_ret
      exact ⟨_, rfl, HF.out, HB.out⟩
end Go.Proofs.Ytenedgapjbmpgaa

/-
  OWN WORK. The document's disk: New.
-/
import Derived.Test.YtenedgapjbmpgaaDiRefX
namespace Go.Proofs.Ytenedgapjbmpgaa
open Go.RowKit Rc Di

theorem make27 (W : World) (n : Nat) (hn : n ≤ 4096) : (Instr.makeSlice 27 (.int .i64 ((n : Int) * 128)) (.int .i64 ((n : Int) * 128))).run Try.prog W = .ok (.slice (some ⟨W.heap.size, 0, none⟩) (128 * n) (128 * n)) (W.alloc (.cells (Lib.byteCells (List.replicate (128 * n) 0)).toArray 5)) := by
  obtain ⟨i0, hi, hz0, hz1, hz2⟩ := info_parts Try.infoU8
  have h := run_make (P := Try.prog) W 27 5 i0 (.int .u8 0) Try.underlying27 hi hz0 .i64 .i64 ((n : Int) * 128) ((n : Int) * 128) (by omega) (Int.le_refl _) (by rw [hz2]; omega) (by omega)
  rw [h]
  have e : ((n : Int) * 128).toNat = 128 * n := by omega
  have m := made_bytes (128 * n)
  rw [e, hz1]
  congr 2
  have m2 : madeCells (Value.int .u8 0).cells (128 * n * 1) = (Lib.byteCells (List.replicate (128 * n) 0)).toArray := by
    rw [← m]
  simp only [Nat.mul_one] at m2 ⊢
  rw [m2]
theorem make31 (W : World) (n : Nat) (hn : n ≤ 4096) : (Instr.makeSlice 31 (.int .i64 (n : Int)) (.int .i64 (n : Int))).run Try.prog W = .ok (.slice (some ⟨W.heap.size, 0, none⟩) n n) (W.alloc (.cells ((List.replicate n false).map Value.bool).toArray 4)) := by
  obtain ⟨i0, hi, hz0, hz1, hz2⟩ := info_parts Try.infoBool
  have h := run_make (P := Try.prog) W 31 4 i0 (.bool false) Try.underlying31 hi hz0 .i64 .i64 (n : Int) (n : Int) (by omega) (Int.le_refl _) (by rw [hz2]; omega) (by omega)
  rw [h, Int.toNat_natCast, hz1]
  congr 2
  rw [← made_bools]
theorem flat_noughts (n : Nat) : (List.replicate n noughts).flatten = List.replicate (128 * n) 0 := by
  induction n with
  | zero => rfl
  | succ n ih => rw [List.replicate_succ, List.flatten_cons, ih, noughts, List.replicate_append_replicate, show 128 + 128 * n = 128 * (n + 1) by omega]
theorem chain4 (w : World) (o1 o2 o3 o4 : Go.Obj) : ((((w.alloc o1).alloc o2).alloc o3).alloc o4).heap[w.heap.size]? = some o1 ∧ ((((w.alloc o1).alloc o2).alloc o3).alloc o4).heap[w.heap.size + 1]? = some o2 ∧ ((((w.alloc o1).alloc o2).alloc o3).alloc o4).heap[w.heap.size + 1 + 1]? = some o3 ∧ ((((w.alloc o1).alloc o2).alloc o3).alloc o4).heap[w.heap.size + 1 + 1 + 1]? = some o4 ∧ Below w.heap.size w ((((w.alloc o1).alloc o2).alloc o3).alloc o4) := by
  have s1 : (w.alloc o1).heap.size = w.heap.size + 1 := World.size_alloc _ _
  have s2 : ((w.alloc o1).alloc o2).heap.size = w.heap.size + 1 + 1 := by rw [World.size_alloc, s1]
  have s3 : (((w.alloc o1).alloc o2).alloc o3).heap.size = w.heap.size + 1 + 1 + 1 := by rw [World.size_alloc, s2]
  have k1 : (w.alloc o1).heap[w.heap.size]? = some o1 := heap_alloc_new w o1
  have k2 : ((w.alloc o1).alloc o2).heap[w.heap.size + 1]? = some o2 := by have := heap_alloc_new (w.alloc o1) o2; rw [s1] at this; exact this
  have k3 : (((w.alloc o1).alloc o2).alloc o3).heap[w.heap.size + 1 + 1]? = some o3 := by have := heap_alloc_new ((w.alloc o1).alloc o2) o3; rw [s2] at this; exact this
  have k4 : ((((w.alloc o1).alloc o2).alloc o3).alloc o4).heap[w.heap.size + 1 + 1 + 1]? = some o4 := by have := heap_alloc_new (((w.alloc o1).alloc o2).alloc o3) o4; rw [s3] at this; exact this
  have b2 := fun g hg => Below.heap_alloc (w.alloc o1) o2 g hg
  have b3 := fun g hg => Below.heap_alloc ((w.alloc o1).alloc o2) o3 g hg
  have b4 := fun g hg => Below.heap_alloc (((w.alloc o1).alloc o2).alloc o3) o4 g hg
  refine ⟨?_, ?_, ?_, k4, ((((Below.refl _ _).alloc (Nat.le_refl _) o1).alloc (by rw [s1]; omega) o2).alloc (by rw [s2]; omega) o3).alloc (by rw [s3]; omega) o4⟩
  · rw [b4 _ (by rw [s3]; omega), b3 _ (by rw [s2]; omega), b2 _ (by rw [s1]; omega)]; exact k1
  · rw [b4 _ (by rw [s3]; omega), b3 _ (by rw [s2]; omega)]; exact k2
  · rw [b4 _ (by rw [s3]; omega)]; exact k3
theorem below_drew {B : Nat} {w w' : World} (h : Below B w w') : Below B w w'.drew := ⟨h.os, h.tape, h.output, h.size, h.block⟩
def RefNew (w : World) (n : Nat) (v : Value) (w' : World) : Prop := ∃ N S, RefAt N v (Dk.new n) S w' ∧ Below w.heap.size w w' ∧ ∀ b, S b → w.heap.size ≤ b
theorem refNew_end (w w' : World) (g gs gn gd n : Nat) (h1 : 64 ≤ n) (h2 : n ≤ 4096) (hg : Blk w' g 38 [.slice (some ⟨gs, 0, none⟩) (128 * n) (128 * n), .slice (some ⟨gn, 0, none⟩) (128 * n) (128 * n), .slice (some ⟨gd, 0, none⟩) n n, .int .i64 0])
    (hs : Blk w' gs 5 (Lib.byteCells (List.replicate (128 * n) 0))) (hn : Blk w' gn 5 (Lib.byteCells (List.replicate (128 * n) 0))) (hd : w'.heap[gd]? = some (.cells (Array.replicate n (Value.bool false)) 4 (0, 0))) (hne : g ≠ gs ∧ g ≠ gn ∧ g ≠ gd ∧ gs ≠ gn ∧ gs ≠ gd ∧ gn ≠ gd)
    (hge : w.heap.size ≤ g ∧ w.heap.size ≤ gs ∧ w.heap.size ≤ gn ∧ w.heap.size ≤ gd) (hb : Below w.heap.size w w') : RefNew w n (.pointer (some ⟨g, 0, none⟩)) w' := by
  have hl : (Dk.new n).dirty.length = n := new_dirty n
  have hd : Blk w' gd 4 ((List.replicate n false).map Value.bool) := by
    show w'.heap[gd]? = _
    rw [hd, List.map_replicate]; simp
  refine ⟨gn, _, ⟨g, gs, gn, gd, rfl, by rw [hl]; exact hg, ?_, ?_, hd, hne, Dk.new_ok h1 h2, rfl, rfl⟩, hb, ?_⟩
  · show Blk w' gs 5 (Lib.byteCells (List.replicate n noughts).flatten)
    rw [flat_noughts]; exact hs
  · show Blk w' gn 5 (Lib.byteCells (List.replicate n noughts).flatten)
    rw [flat_noughts]; exact hn
  · rintro b (rfl | rfl | rfl | rfl)
    · exact hge.1
    · exact hge.2.1
    · exact hge.2.2.1
    · exact hge.2.2.2
set_option maxHeartbeats 2000000 in
set_option maxRecDepth 100000 in
theorem refNew_any (w : World) (n : Nat) (h1 : 64 ≤ n) (h2 : n ≤ 4096) : Calls Try.prog 12 #[.int .i64 (n : Nat)] w fun e w' => ∃ v, e = .returned v ∧ RefNew w n v w' := by
  have hm1 := fun W => make27 W n h2
  have hm2 := fun W => make31 W n h2
  go_enter Try.func12, Try.ntmps12
  have hwr : IntKind.i64.wrap ((n : Int) * 128) = (n : Int) * 128 := IntWalk.i64_in _ (by omega)
  go_upto_region 1 with (fail)
  go_region_law (fail)
  all_goals go_wp2_with fail
  all_goals go_ret
  all_goals refine ⟨_, rfl, ?_⟩
  all_goals
    apply refNew_end w _ _ _ _ _ n h1 h2
    case hg => exact (chain4 _ _ _ _ _).2.2.2.1
    case hs => first | exact (chain4 _ _ _ _ _).1 | exact (chain4 _ _ _ _ _).2.1 | exact (chain4 _ _ _ _ _).2.2.1
    case hn => first | exact (chain4 _ _ _ _ _).1 | exact (chain4 _ _ _ _ _).2.1 | exact (chain4 _ _ _ _ _).2.2.1
    case hd => first | exact (chain4 _ _ _ _ _).1 | exact (chain4 _ _ _ _ _).2.1 | exact (chain4 _ _ _ _ _).2.2.1
    case hb => exact below_drew (chain4 _ _ _ _ _).2.2.2.2
    case hne => omega
    case hge => omega
end Go.Proofs.Ytenedgapjbmpgaa

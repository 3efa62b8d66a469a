/-
  OWN WORK. Trees: plain mathematics: a call that is refused changes nothing.
-/
import Derived.Test.YtombmeppdhhjhaaGreatQ02
namespace Go.Proofs.YtombmeppdhhjhaaGreat
open Go.RowKit
namespace Tr
theorem make_no {t : T} {p : List Bs} {k : Int} (h : (make t p k).1.2 ≠ 0) : (make t p k).2 = t := by
  unfold make at h ⊢
  repeat' split
  all_goals first | rfl | (exfalso; simp_all)
theorem link_no {t : T} {p z : List Bs} (h : (link t p z).1 ≠ 0) : (link t p z).2 = t := by
  unfold link at h ⊢
  repeat' split
  all_goals first | rfl | (exfalso; simp_all)
theorem unlink_no {t : T} {p : List Bs} (h : (unlink t p).1 ≠ 0) : (unlink t p).2 = t := by
  unfold unlink at h ⊢
  repeat' split
  all_goals first | rfl | (exfalso; simp_all)
theorem rmdir_no {t : T} {p : List Bs} (h : (rmdir t p).1 ≠ 0) : (rmdir t p).2 = t := by
  unfold rmdir at h ⊢
  repeat' split
  all_goals first | rfl | (exfalso; simp_all)
theorem rename_no {t : T} {p z : List Bs} (h : (rename t p z).1 ≠ 0) : (rename t p z).2 = t := by
  unfold rename at h ⊢
  repeat' split
  all_goals first | rfl | (exfalso; simp_all)
theorem append_no {t : T} {i : Int} {b : Bs} (h : (append t i b).1 ≠ 0) : (append t i b).2 = t := by
  unfold append at h ⊢
  repeat' split
  all_goals first | rfl | (exfalso; simp_all)
theorem seal_no {t : T} {i : Int} {u : Nat} (h : (seal_ t i u).1 ≠ 0) : (seal_ t i u).2 = t := by
  unfold seal_ at h ⊢
  repeat' split
  all_goals first | rfl | (exfalso; simp_all)
theorem keep_no {t : T} {i : Int} {u : Nat} (h : (keep t i u).1 ≠ 0) : (keep t i u).2 = t := by
  unfold keep at h ⊢
  repeat' split
  all_goals first | rfl | (exfalso; simp_all)
theorem drop_no {t : T} {i : Int} (h : (drop t i).1 ≠ 0) : (drop t i).2 = t := by
  unfold drop at h ⊢
  repeat' split
  all_goals first | rfl | (exfalso; simp_all)
end Tr
end Go.Proofs.YtombmeppdhhjhaaGreat

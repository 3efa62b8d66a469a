/-
  OWN WORK. A tree of one file: what each call answers and leaves.
-/
import Derived.Test.YtpblhdpnmnfieaaBTrKnown
import Derived.Test.YtpblhdpnmnfieaaBBaCut
import Derived.Test.YtpblhdpnmnfieaaBBaWithin
namespace Go.Proofs.Ytpblhdpnmnfieaa
open Go.RowKit Rc
open Tr (Nm En T)
namespace Tm
/-- A tree of one file, "f". -/
def S1 (d : Bs) (u : Nat) (s : Bool) : T := [⟨⟨0, 2, 1, 0, 0, true⟩, [], [([102], 1)]⟩, ⟨⟨1, 1, 1, (d.length : Nat), u, s⟩, d, []⟩]
theorem s1_find (d : Bs) (u : Nat) (s : Bool) : Tr.find (S1 d u s) 1 = some ⟨⟨1, 1, 1, (d.length : Nat), u, s⟩, d, []⟩ := rfl
theorem s1_file (d : Bs) (u : Nat) (s : Bool) : Tr.file (S1 d u s) 1 = 0 := rfl
theorem s1_nd (d : Bs) (u : Nat) (s : Bool) : Tr.ndOf (S1 d u s) 1 = ⟨1, 1, 1, (d.length : Nat), u, s⟩ := rfl
theorem s1_make : Tr.make Tr.new [[102]] 1 = ((1, 0), S1 [] 0 false) := rfl
theorem s1_append (d b : Bs) (h : d.length + b.length ≤ 4096) : Tr.append (S1 d 0 false) 1 b = (0, S1 (d ++ b) 0 false) := by
  unfold Tr.append
  rw [s1_file, s1_nd, if_neg (by simp), if_neg (by simp), if_neg (by show ¬ 4096 - ((d.length : Nat) : Int) < _; omega)]
  rfl
theorem s1_keep0 (d : Bs) (u : Nat) : Tr.keep (S1 d 0 false) 1 u = (25, S1 d 0 false) := rfl
theorem s1_seal (d : Bs) (u : Nat) (h : u ≤ 1099511627776) : Tr.seal_ (S1 d 0 false) 1 u = (0, S1 d u true) := by
  unfold Tr.seal_
  rw [s1_file, s1_nd, if_neg (by simp), if_neg (by simp), if_neg (by omega), if_neg (by show ¬ (1 : Int) = 0; omega)]
  rfl
theorem s1_append1 (d b : Bs) (u : Nat) : Tr.append (S1 d u true) 1 b = (27, S1 d u true) := rfl
theorem s1_seal1 (d : Bs) (u v : Nat) : Tr.seal_ (S1 d u true) 1 v = (27, S1 d u true) := rfl
theorem s1_drop1 (d : Bs) (u : Nat) : Tr.drop (S1 d u true) 1 = (27, S1 d u true) := rfl
theorem s1_keep (d : Bs) (u v : Nat) (h : u ≤ v) (h2 : v ≤ 1099511627776) : Tr.keep (S1 d u true) 1 v = (0, S1 d v true) := by
  unfold Tr.keep
  rw [s1_file, s1_nd, if_neg (by simp), if_neg (by simp), if_neg (by show ¬ v < u; omega), if_neg (by omega)]
  rfl
theorem s1_keep_less (d : Bs) (u v : Nat) (h : v < u) : Tr.keep (S1 d u true) 1 v = (28, S1 d u true) := by
  unfold Tr.keep
  rw [s1_file, s1_nd, if_neg (by simp), if_neg (by simp), if_pos h]
theorem s1_keep_much (d : Bs) (u v : Nat) (h : u ≤ v) (h2 : 1099511627776 < v) : Tr.keep (S1 d u true) 1 v = (1, S1 d u true) := by
  unfold Tr.keep
  rw [s1_file, s1_nd, if_neg (by simp), if_neg (by simp), if_neg (by show ¬ v < u; omega), if_pos h2]
theorem s1_node (d : Bs) (u : Nat) (s : Bool) : Tr.node (S1 d u s) 1 = (⟨1, 1, 1, (d.length : Nat), u, s⟩, true) := rfl
theorem s1_read (d : Bs) (u : Nat) (s : Bool) (a n : Nat) : Tr.read (S1 d u s) 1 (a : Int) (n : Int) = ((d.drop a).take n, 0) := by
  unfold Tr.read
  rw [s1_file, if_neg (by simp), if_neg (by omega), Int.toNat_natCast, Int.toNat_natCast]
  rfl
theorem s1_good0 : Tr.Good (S1 [] 0 false) := by have := Tr.make_good Tr.new_good [[102]] 1; rw [s1_make] at this; exact this
theorem s1_good (d : Bs) (h : d.length ≤ 4096) : Tr.Good (S1 d 0 false) := by
  have := Tr.append_good s1_good0 1 d
  rw [s1_append [] d (by simpa using h)] at this
  exact this
theorem s1_good1 (d : Bs) (u : Nat) (h : d.length ≤ 4096) (hu : u ≤ 1099511627776) : Tr.Good (S1 d u true) := by
  have := Tr.seal_good (s1_good d h) 1 u
  rw [s1_seal d u hu] at this
  exact this
variable {v : Value} {w0 w : World} {t t' : T} {B : Nat → Prop}
/-- A call that is known to its end. -/
theorem Turn1.to {F : FuncId} {args : Array Value} {P : Nat × T} (h : Calls Try.prog F args w (Turn1 v w0 P.2 B (.int .i64 (P.1 : Nat)) w)) {n : Nat} (hP : P = (n, t')) {k : Int} (hk : ((n : Nat) : Int) = k) : Calls Try.prog F args w (Turn1 v w0 t' B (.int .i64 k) w) := by
  rw [hP] at h
  subst hk
  exact h
end Tm
end Go.Proofs.Ytpblhdpnmnfieaa

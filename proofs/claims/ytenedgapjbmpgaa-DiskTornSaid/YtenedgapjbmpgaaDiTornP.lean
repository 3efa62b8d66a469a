/-
  OWN WORK. What three writes, a flush, three writes and a crash make of a disk: plain mathematics.
-/
import Derived.Test.YtenedgapjbmpgaaDiPure
namespace Go.Proofs.Ytenedgapjbmpgaa
namespace Di
def up (d : Dk) (k : Nat) (a : List UInt8) : Nat → Dk
  | 0 => d
  | j + 1 => (up d k a j).put (k + j) a
def down (d : Dk) (k : Nat) (b : List UInt8) : Nat → Dk
  | 0 => d
  | m + 1 => (down d k b m).put (k + (2 - m)) b
theorem up_dirty (d : Dk) (k : Nat) (a : List UInt8) : ∀ j, (up d k a j).dirty.length = d.dirty.length
  | 0 => rfl
  | j + 1 => by rw [up, put_dirty, up_dirty]
theorem down_dirty (d : Dk) (k : Nat) (a : List UInt8) : ∀ j, (down d k a j).dirty.length = d.dirty.length
  | 0 => rfl
  | j + 1 => by rw [down, put_dirty, down_dirty]
theorem up_writes (d : Dk) (k : Nat) (a : List UInt8) : ∀ j, (up d k a j).writes = d.writes + j
  | 0 => rfl
  | j + 1 => by rw [up]; show (up d k a j).writes + 1 = _; rw [up_writes]; omega
theorem down_writes (d : Dk) (k : Nat) (a : List UInt8) : ∀ j, (down d k a j).writes = d.writes + j
  | 0 => rfl
  | j + 1 => by rw [down]; show (down d k a j).writes + 1 = _; rw [down_writes]; omega
theorem set_at {α : Type} (P : List α) (x y : α) (Q : List α) (i : Nat) (h : i = P.length) : (P ++ y :: Q).set i x = P ++ x :: Q := by
  subst h
  rw [List.set_append_right _ _ (Nat.le_refl _), Nat.sub_self]; rfl
theorem set3 {α : Type} (P : List α) (x y1 y2 y3 : α) (Q : List α) (k : Nat) (h : k = P.length) :
    (P ++ y1 :: y2 :: y3 :: Q).set k x = P ++ x :: y2 :: y3 :: Q ∧ (P ++ y1 :: y2 :: y3 :: Q).set (k + 1) x = P ++ y1 :: x :: y3 :: Q ∧ (P ++ y1 :: y2 :: y3 :: Q).set (k + 2) x = P ++ y1 :: y2 :: x :: Q := by
  refine ⟨set_at _ _ _ _ _ h, ?_, ?_⟩
  · have := set_at (P ++ [y1]) x y2 (y3 :: Q) (k + 1) (by simp [h])
    simpa using this
  · have := set_at (P ++ [y1, y2]) x y3 Q (k + 2) (by simp [h])
    simpa using this
theorem rep3 {α : Type} (x : α) (k m n : Nat) (h : n = k + (3 + m)) : List.replicate n x = List.replicate k x ++ x :: x :: x :: List.replicate m x := by
  subst h
  rw [← List.replicate_append_replicate, Nat.add_comm 3 m]
  rfl
/-- The disk behind the six writes. -/
def six (k m : Nat) (a b : List UInt8) : Dk :=
  ⟨List.replicate k noughts ++ b :: b :: b :: List.replicate m noughts, List.replicate k noughts ++ a :: a :: a :: List.replicate m noughts, List.replicate k false ++ true :: true :: true :: List.replicate m false, 6⟩
theorem six_is (k : Nat) (a b : List UInt8) (hk : k ≤ 61) : down (up (Dk.new 64) k a 3).flush k b 3 = six k (61 - k) a b := by
  have hn : (Dk.new 64).now = List.replicate k noughts ++ noughts :: noughts :: noughts :: List.replicate (61 - k) noughts := rep3 _ _ _ _ (by omega)
  have hl : k = (List.replicate k noughts).length := by rw [List.length_replicate]
  have hf : k = (List.replicate k false).length := by rw [List.length_replicate]
  have hu : (up (Dk.new 64) k a 3).now = List.replicate k noughts ++ a :: a :: a :: List.replicate (61 - k) noughts := by
    show ((((Dk.new 64).now.set (k + 0) a).set (k + 1) a).set (k + 2) a) = _
    rw [hn, Nat.add_zero, (set3 _ a _ _ _ _ k hl).1, (set3 _ a _ _ _ _ k hl).2.1, (set3 _ a _ _ _ _ k hl).2.2]
  have hd : (up (Dk.new 64) k a 3).flush.dirty = List.replicate k false ++ false :: false :: false :: List.replicate (61 - k) false := by
    show List.replicate (up (Dk.new 64) k a 3).dirty.length false = _
    rw [up_dirty, new_dirty]
    exact rep3 _ _ _ _ (by omega)
  have e : ∀ d : Dk, down d k b 3 = ⟨((d.now.set (k + 2) b).set (k + 1) b).set k b, d.safe, ((d.dirty.set (k + 2) true).set (k + 1) true).set k true, d.writes + 3⟩ := fun d => rfl
  have hnow : (up (Dk.new 64) k a 3).flush.now = (up (Dk.new 64) k a 3).now := rfl
  have hsafe : (up (Dk.new 64) k a 3).flush.safe = (up (Dk.new 64) k a 3).now := rfl
  rw [e, hd, hnow, hsafe, hu, (set3 _ b _ _ _ _ k hl).2.2, (set3 _ b _ _ _ _ k hl).2.1, (set3 _ b _ _ _ _ k hl).1, (set3 _ true _ _ _ _ k hf).2.2, (set3 _ true _ _ _ _ k hf).2.1, (set3 _ true _ _ _ _ k hf).1]
  rfl
theorem dirty_skip : ∀ (n i : Nat) (l : List Bool), dirtyFrom i (List.replicate n false ++ l) = dirtyFrom (i + n) l
  | 0, _, _ => rfl
  | n + 1, i, l => by
    rw [List.replicate_succ, List.cons_append]
    show dirtyFrom (i + 1) _ = _
    rw [dirty_skip n (i + 1) l, show i + 1 + n = i + (n + 1) by omega]
theorem six_dirty (k m : Nat) (a b : List UInt8) : (six k m a b).dirtyL = [(k : Int), ((k + 1 : Nat) : Int), ((k + 2 : Nat) : Int)] := by
  show dirtyFrom 0 (List.replicate k false ++ true :: true :: true :: List.replicate m false) = _
  rw [dirty_skip, Nat.zero_add]
  show (k : Int) :: ((k + 1 : Nat) : Int) :: ((k + 1 + 1 : Nat) : Int) :: dirtyFrom (k + 1 + 1 + 1) (List.replicate m false) = _
  rw [dirty_none]
theorem left_skip (keep : List Bool) (torn : Int) (c : Nat) : ∀ (n q : Nat) (P S ns ss : List (List UInt8)) (ds : List Bool), P.length = n → S.length = n → left keep torn c q (P ++ ns) (S ++ ss) (List.replicate n false ++ ds) = S ++ left keep torn c q ns ss ds
  | 0, _, [], [], _, _, _, _, _ => rfl
  | n + 1, q, x :: P, s :: S, ns, ss, ds, h1, h2 => by
    rw [List.replicate_succ, List.cons_append, List.cons_append, List.cons_append]
    show s :: left keep torn c q (P ++ ns) (S ++ ss) (List.replicate n false ++ ds) = _
    rw [left_skip keep torn c n q P S ns ss ds (by simpa using h1) (by simpa using h2)]
    rfl
theorem six_left (k m : Nat) (a b : List UInt8) (kp : Bool) (n : Nat) :
    left [kp, kp, !kp] 1 n 0 (six k m a b).now (six k m a b).safe (six k m a b).dirty = List.replicate k noughts ++ (if kp then b else a) :: (b.take n ++ a.drop n) :: (if !kp then b else a) :: List.replicate m noughts := by
  show left _ _ _ _ (List.replicate k noughts ++ b :: b :: b :: List.replicate m noughts) (List.replicate k noughts ++ a :: a :: a :: List.replicate m noughts) (List.replicate k false ++ true :: true :: true :: List.replicate m false) = _
  rw [left_skip _ _ _ _ _ _ _ _ _ _ List.length_replicate List.length_replicate]
  simp only [left]
  rw [left_clean _ _ _ _ _ _ _ List.length_replicate List.length_replicate]
  cases kp <;> rfl
theorem clamp_in (n : Nat) (h : n ≤ 128) : clamp (n : Int) = n := by
  unfold clamp
  rw [if_neg (by omega), if_neg (by omega), Int.toNat_natCast]
theorem get3 {α : Type} (P : List α) (x y z : α) (Q : List α) (d : α) (k : Nat) (h : k = P.length) : (P ++ x :: y :: z :: Q).getD k d = x ∧ (P ++ x :: y :: z :: Q).getD (k + 1) d = y ∧ (P ++ x :: y :: z :: Q).getD (k + 2) d = z := by
  subst h
  refine ⟨?_, ?_, ?_⟩
  · rw [List.getD_eq_getElem?_getD, List.getElem?_append_right (Nat.le_refl _), Nat.sub_self]; rfl
  · rw [List.getD_eq_getElem?_getD, List.getElem?_append_right (by omega), Nat.add_sub_cancel_left]; rfl
  · rw [List.getD_eq_getElem?_getD, List.getElem?_append_right (by omega), Nat.add_sub_cancel_left]; rfl
theorem six_crash (k : Nat) (a b : List UInt8) (kp : Bool) (n : Nat) (hn : n ≤ 128) (hk : k ≤ 61) (d : Dk) (hd : d = (six k (61 - k) a b).crash [kp, kp, !kp] 1 (n : Int)) :
    d.read (k : Int) = (if kp then b else a, 0) ∧ d.read ((k + 1 : Nat) : Int) = (b.take n ++ a.drop n, 0) ∧ d.read ((k + 2 : Nat) : Int) = (if kp then a else b, 0) ∧ d.dirtyL = [] ∧ d.writes = 6 ∧ d.dirty.length = 64 := by
  have hlen : (six k (61 - k) a b).dirty.length = 64 := by
    show (List.replicate k false ++ true :: true :: true :: List.replicate (61 - k) false).length = 64
    simp only [List.length_append, List.length_replicate, List.length_cons]; omega
  have hnow : d.now = List.replicate k noughts ++ (if kp then b else a) :: (b.take n ++ a.drop n) :: (if !kp then b else a) :: List.replicate (61 - k) noughts := by
    rw [hd]
    show left _ _ (clamp (n : Int)) _ _ _ _ = _
    rw [clamp_in n hn, six_left]
  have hdl : d.dirty = List.replicate 64 false := by rw [hd]; show List.replicate (six k (61 - k) a b).dirty.length false = _; rw [hlen]
  have g := fun x y z => get3 (List.replicate k noughts) x y z (List.replicate (61 - k) noughts) [] k (by rw [List.length_replicate])
  have hl64 : d.dirty.length = 64 := by rw [hdl, List.length_replicate]
  refine ⟨?_, ?_, ?_, by unfold Dk.dirtyL; rw [hdl, dirty_none], by rw [hd]; rfl, hl64⟩
  · rw [Dk.read_to _ _ (by omega), hnow, (g _ _ _).1]
  · rw [Dk.read_to _ _ (by omega), hnow, (g _ _ _).2.1]
  · rw [Dk.read_to _ _ (by omega), hnow, (g _ _ _).2.2]
    cases kp <;> rfl
end Di
end Go.Proofs.Ytenedgapjbmpgaa

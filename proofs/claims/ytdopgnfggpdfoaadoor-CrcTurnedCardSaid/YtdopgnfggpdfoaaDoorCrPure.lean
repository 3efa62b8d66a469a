/-
  OWN WORK. CRC-32 as plain mathematics: on numbers below 2^32.
-/
import Derived.Laws.BitsAllLaws
namespace Go.Proofs.YtdopgnfggpdfoaaDoor
namespace Cr

def poly : Nat := 3988292384
/-- One bit. -/
def stp (c : Nat) : Nat := if c % 2 = 1 then (c / 2) ^^^ poly else c / 2
def stps : Nat → Nat → Nat
  | 0, c => c
  | n + 1, c => stps n (stp c)
/-- One byte. -/
def byt (c : Nat) : Nat := stps 8 c
def run (c : Nat) (l : List UInt8) : Nat := l.foldl (fun c b => byt (c ^^^ b.toNat)) c
def ones : Nat := 4294967295
def sum (l : List UInt8) : Nat := run ones l ^^^ ones
def more (c : Nat) (l : List UInt8) : Nat := run (c ^^^ ones) l ^^^ ones

theorem stp_bit (c i : Nat) : (stp c).testBit i = (c.testBit (i + 1) ^^ (c.testBit 0 && poly.testBit i)) := by
  have h0 : c.testBit 0 = decide (c % 2 = 1) := Nat.testBit_zero c
  have h1 : (c / 2).testBit i = c.testBit (i + 1) := by rw [Nat.testBit_succ]
  unfold stp
  split
  · rename_i h
    rw [Nat.testBit_xor, h1, h0]
    simp [h]
  · rename_i h
    rw [h1, h0]
    simp [h]
theorem stp_xor (a b : Nat) : stp (a ^^^ b) = stp a ^^^ stp b := by
  apply Nat.eq_of_testBit_eq
  intro i
  simp only [stp_bit, Nat.testBit_xor]
  cases a.testBit (i + 1) <;> cases b.testBit (i + 1) <;> cases a.testBit 0 <;> cases b.testBit 0 <;> cases poly.testBit i <;> rfl
theorem poly_lt : poly < 2 ^ 32 := by decide
theorem stp_lt {c : Nat} (h : c < 2 ^ 32) : stp c < 2 ^ 32 := by
  unfold stp
  split
  · exact Nat.xor_lt_two_pow (by omega) poly_lt
  · omega
theorem stp_zero {c : Nat} (h : c < 2 ^ 32) (hz : stp c = 0) : c = 0 := by
  have hb : ∀ i, (c.testBit (i + 1) ^^ (c.testBit 0 && poly.testBit i)) = false := fun i => by rw [← stp_bit, hz]; exact Nat.zero_testBit i
  have h31 := hb 31
  have h32 : c.testBit 32 = false := Nat.testBit_lt_two_pow h
  have hp : poly.testBit 31 = true := by decide
  rw [h32, hp] at h31
  have h0 : c.testBit 0 = false := by simpa using h31
  apply Nat.eq_of_testBit_eq
  intro i
  rw [Nat.zero_testBit]
  cases i with
  | zero => exact h0
  | succ i => have := hb i; rw [h0] at this; simpa using this
theorem stp_even (x : Nat) : stp (2 * x) = x := by
  unfold stp
  rw [if_neg (by omega)]
  omega
theorem stps_xor : ∀ (n a b : Nat), stps n (a ^^^ b) = stps n a ^^^ stps n b
  | 0, _, _ => rfl
  | n + 1, a, b => by simp only [stps]; rw [stp_xor, stps_xor n]
theorem stps_lt : ∀ (n : Nat) {c : Nat}, c < 2 ^ 32 → stps n c < 2 ^ 32
  | 0, _, h => h
  | n + 1, _, h => stps_lt n (stp_lt h)
theorem stps_zero : ∀ (n : Nat) {c : Nat}, c < 2 ^ 32 → stps n c = 0 → c = 0
  | 0, _, _, h => h
  | n + 1, _, hl, h => stp_zero hl (stps_zero n (stp_lt hl) h)
theorem stps_pow : ∀ (n x : Nat), stps n (2 ^ n * x) = x
  | 0, x => by simp [stps]
  | n + 1, x => by
    simp only [stps]
    rw [show 2 ^ (n + 1) * x = 2 * (2 ^ n * x) by rw [Nat.pow_succ, Nat.mul_comm (2 ^ n) 2, Nat.mul_assoc], stp_even, stps_pow n]
theorem byt_xor (a b : Nat) : byt (a ^^^ b) = byt a ^^^ byt b := stps_xor 8 a b
theorem byt_lt {c : Nat} (h : c < 2 ^ 32) : byt c < 2 ^ 32 := stps_lt 8 h
theorem byt_zero {c : Nat} (h : c < 2 ^ 32) (hz : byt c = 0) : c = 0 := stps_zero 8 h hz
theorem byt_256 (x : Nat) : byt (256 * x) = x := stps_pow 8 x
theorem xor_eq_zero {a b : Nat} (h : a ^^^ b = 0) : a = b := by
  apply Nat.eq_of_testBit_eq
  intro i
  have := congrArg (fun x : Nat => x.testBit i) h
  simp only [Nat.testBit_xor, Nat.zero_testBit] at this
  cases h1 : a.testBit i <;> cases h2 : b.testBit i <;> simp_all
theorem byt_inj {a b : Nat} (ha : a < 2 ^ 32) (hb : b < 2 ^ 32) (h : byt a = byt b) : a = b := by
  apply xor_eq_zero
  apply byt_zero (Nat.xor_lt_two_pow ha hb)
  rw [byt_xor, h, Nat.xor_self]
theorem u8_lt (b : UInt8) : b.toNat < 2 ^ 32 := Nat.lt_trans b.toNat_lt (by decide)
theorem run_lt : ∀ (l : List UInt8) {c : Nat}, c < 2 ^ 32 → run c l < 2 ^ 32
  | [], _, h => h
  | b :: l, c, h => run_lt l (c := byt (c ^^^ b.toNat)) (byt_lt (Nat.xor_lt_two_pow h (u8_lt b)))
theorem run_append (c : Nat) (l r : List UInt8) : run c (l ++ r) = run (run c l) r := by simp [run, List.foldl_append]
theorem run_inj : ∀ (l : List UInt8) {a b : Nat}, a < 2 ^ 32 → b < 2 ^ 32 → run a l = run b l → a = b
  | [], _, _, _, _, h => h
  | x :: l, a, b, ha, hb, h => by
    have h1 := run_inj l (a := byt (a ^^^ x.toNat)) (b := byt (b ^^^ x.toNat)) (byt_lt (Nat.xor_lt_two_pow ha (u8_lt x))) (byt_lt (Nat.xor_lt_two_pow hb (u8_lt x))) h
    have h2 := byt_inj (Nat.xor_lt_two_pow ha (u8_lt x)) (Nat.xor_lt_two_pow hb (u8_lt x)) h1
    have h3 := congrArg (· ^^^ x.toNat) h2
    simpa [Nat.xor_assoc] using h3
theorem ones_lt : ones < 2 ^ 32 := by decide
theorem sum_lt (l : List UInt8) : sum l < 2 ^ 32 := Nat.xor_lt_two_pow (run_lt l ones_lt) ones_lt
theorem more_lt {c : Nat} (h : c < 2 ^ 32) (l : List UInt8) : more c l < 2 ^ 32 := Nat.xor_lt_two_pow (run_lt l (Nat.xor_lt_two_pow h ones_lt)) ones_lt
theorem more_sum (l r : List UInt8) : more (sum l) r = sum (l ++ r) := by
  unfold more sum
  rw [run_append, Nat.xor_assoc, Nat.xor_self, Nat.xor_zero]
theorem more_zero (l : List UInt8) : more 0 l = sum l := by unfold more sum; rw [Nat.zero_xor]
/-- Two rows and the states behind them, apart by what is turned. -/
theorem run_xor : ∀ (l r : List UInt8) (a b : Nat), l.length = r.length → run a l ^^^ run b r = run (a ^^^ b) (List.zipWith (· ^^^ ·) l r)
  | [], [], _, _, _ => rfl
  | [], _ :: _, _, _, h => by simp at h
  | _ :: _, [], _, _, h => by simp at h
  | x :: l, y :: r, a, b, h => by
    have ih := run_xor l r (byt (a ^^^ x.toNat)) (byt (b ^^^ y.toNat)) (by simpa using h)
    show run (byt (a ^^^ x.toNat)) l ^^^ run (byt (b ^^^ y.toNat)) r = run (byt (a ^^^ b ^^^ (x ^^^ y).toNat)) _
    rw [ih, ← byt_xor]
    congr 2
    rw [UInt8.toNat_xor]
    apply Nat.eq_of_testBit_eq
    intro i
    simp only [Nat.testBit_xor]
    cases a.testBit i <;> cases b.testBit i <;> cases x.toNat.testBit i <;> cases y.toNat.testBit i <;> rfl
/-- A byte in the place of a byte: what four bytes that are turned come to. -/
theorem four (d0 d1 d2 d3 : Nat) (h0 : d0 < 256) (h1 : d1 < 256) (h2 : d2 < 256) (h3 : d3 < 256) (h : byt (byt (byt (byt d0 ^^^ d1) ^^^ d2) ^^^ d3) = 0) : d0 = 0 ∧ d1 = 0 ∧ d2 = 0 ∧ d3 = 0 := by
  have l : ∀ x, x < 256 → x < 2 ^ 32 := fun x hx => Nat.lt_trans hx (by decide)
  have lb : ∀ x, x < 2 ^ 32 → byt x < 2 ^ 32 := fun x hx => byt_lt hx
  have lx : ∀ x y, x < 2 ^ 32 → y < 2 ^ 32 → x ^^^ y < 2 ^ 32 := fun x y hx hy => Nat.xor_lt_two_pow hx hy
  have e1 : byt (byt (byt d0 ^^^ d1) ^^^ d2) = d3 := xor_eq_zero (byt_zero (lx _ _ (lb _ (lx _ _ (lb _ (lx _ _ (lb _ (l _ h0)) (l _ h1))) (l _ h2))) (l _ h3)) h)
  have e2 : byt (byt d0 ^^^ d1) ^^^ d2 = 256 * d3 := byt_inj (lx _ _ (lb _ (lx _ _ (lb _ (l _ h0)) (l _ h1))) (l _ h2)) (by omega) (by rw [e1, byt_256])
  have e3 : byt (byt d0 ^^^ d1) = 256 * d3 ^^^ d2 := by
    have := congrArg (· ^^^ d2) e2
    simpa [Nat.xor_assoc] using this
  have f3 : 256 * d3 ^^^ d2 < 2 ^ 16 := Nat.xor_lt_two_pow (by omega) (by omega)
  have e4 : byt d0 ^^^ d1 = 256 * (256 * d3 ^^^ d2) := byt_inj (lx _ _ (lb _ (l _ h0)) (l _ h1)) (by omega) (by rw [e3, byt_256])
  have e5 : byt d0 = 256 * (256 * d3 ^^^ d2) ^^^ d1 := by
    have := congrArg (· ^^^ d1) e4
    simpa [Nat.xor_assoc] using this
  have f5 : 256 * (256 * d3 ^^^ d2) ^^^ d1 < 2 ^ 24 := Nat.xor_lt_two_pow (by omega) (by omega)
  have e6 : d0 = 256 * (256 * (256 * d3 ^^^ d2) ^^^ d1) := byt_inj (l _ h0) (by omega) (by rw [e5, byt_256])
  have z1 : 256 * (256 * d3 ^^^ d2) ^^^ d1 = 0 := by omega
  have z2 : 256 * (256 * d3 ^^^ d2) = d1 := xor_eq_zero z1
  have z3 : 256 * d3 ^^^ d2 = 0 := by omega
  have z4 : 256 * d3 = d2 := xor_eq_zero z3
  omega
end Cr
end Go.Proofs.YtdopgnfggpdfoaaDoor

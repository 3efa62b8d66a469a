/-
  OWN WORK. What the program's own writer and reader do, of whatever form they are: given to the laws' walks.
-/
import Derived.Test.YtombmeppdhhjhaaGreatQ01
import Derived.Test.YtombmeppdhhjhaaGreatQ02
namespace Go.Proofs.YtombmeppdhhjhaaGreat
open Go.RowKit Rc

theorem Rd.mod {w w' : World} {A : Option Addr} {l : List UInt8} {S : Nat → Prop} (h : Rd w A l) (hm : Mod w w' S) (hA : 0 < l.length → ∀ b, A.map (·.block) = some b → ¬ S b) : Rd w' A l := by
  intro hl
  exact h.keep (fun p hp hb => by unfold World.cell?; rw [hm.block p.block hp (hA hl _ hb)]) hm.size hl
def WOut (At : Value → List UInt8 → (Nat → Prop) → World → Prop) (v : Value) (l : List UInt8) (S : Nat → Prop) (w : World) (e : Ending) (w' : World) : Prop :=
  (∃ x, e = .returned x) ∧ ∃ S', At v l S' w' ∧ Mod w w' S ∧ ∀ b, S' b → S b ∨ w.heap.size ≤ b
structure WSaid where
  At : Value → List UInt8 → (Nat → Prop) → World → Prop
  keep : ∀ {v l S w w'}, At v l S w → w.heap.size ≤ w'.heap.size → (∀ b, S b → w'.heap[b]? = w.heap[b]?) → At v l S w'
  lt : ∀ {v l S w}, At v l S w → ∀ b, S b → b < w.heap.size
  ptr : ∀ {v l S w}, At v l S w → ∃ a, v = .pointer (some a)
  new : ∀ w, Calls Tryz.prog 84 #[] w fun e w' => ∃ v S, e = .returned v ∧ At v [] S w' ∧ Below w.heap.size w w' ∧ ∀ b, S b → w.heap.size ≤ b
  byte : ∀ {v l S w}, At v l S w → l.length ≤ 1099511500000 → ∀ n : Nat, n ≤ 9223372036854775807 → Calls Tryz.prog 125 #[v, .int .i64 (n : Nat)] w (WOut At v (l ++ Co.wByte n) S w)
  short : ∀ {v l S w}, At v l S w → l.length ≤ 1099511500000 → ∀ n : Nat, n ≤ 9223372036854775807 → Calls Tryz.prog 85 #[v, .int .i64 (n : Nat)] w (WOut At v (l ++ Co.wShort n) S w)
  long : ∀ {v l S w}, At v l S w → l.length ≤ 1099511500000 → ∀ n : Nat, n ≤ 18446744073709551615 → Calls Tryz.prog 126 #[v, .int .u64 (n : Nat)] w (WOut At v (l ++ Co.wLong n) S w)
  flag : ∀ {v l S w}, At v l S w → l.length ≤ 1099511500000 → ∀ f : Bool, Calls Tryz.prog 127 #[v, .bool f] w (WOut At v (l ++ Co.wFlag f) S w)
  bytes : ∀ {v l S w}, At v l S w → l.length ≤ 1099511500000 → ∀ A x c, Rd w A x → x.length ≤ c → x.length ≤ 1000000 → (0 < x.length → ∀ b, A.map (·.block) = some b → ¬ S b) → Calls Tryz.prog 87 #[v, .slice A x.length c] w (WOut At v (l ++ Co.wBytes x) S w)
  raw : ∀ {v l S w}, At v l S w → ∀ A x c, Rd w A x → x.length ≤ c → l.length + x.length ≤ 1099511600000 → (0 < x.length → ∀ b, A.map (·.block) = some b → ¬ S b) → Calls Tryz.prog 128 #[v, .slice A x.length c] w (WOut At v (l ++ x) S w)
  done : ∀ {v l S w}, At v l S w → Calls Tryz.prog 88 #[v] w fun e w' => ∃ x, e = .returned x ∧ w'.ownsRow 0 5 1 x l.length (Lib.byteCells l) ∧ Below w.heap.size w w' ∧ ∀ b, x.ownBlock = some b → S b ∨ w.heap.size ≤ b
theorem wout_below {w w1 w2 : World} {S : Nat → Prop} (h : Below w.heap.size w w1) (hS : ∀ b, S b → w.heap.size ≤ b) (hm : Mod w1 w2 S) : Below w.heap.size w w2 :=
  ((Mod.of_below h S).trans hm).below hS
end Go.Proofs.YtombmeppdhhjhaaGreat

/-
  OWN WORK. Readers, the program's own and the document's, of whatever form: what their calls do; their steps in regions that draw.
-/
import Derived.Test.YtombmeppdhhjhaaGreatQCpSaid
import Derived.Test.YtombmeppdhhjhaaGreatQ01
namespace Go.Proofs.YtombmeppdhhjhaaGreat
open Go.RowKit Rc

def RowS (A : Option Addr) (L l : List UInt8) (X : Option Addr) (S : Nat → Prop) (w : World) : Prop :=
  ∀ w' : World, w.heap.size ≤ w'.heap.size → (∀ b, S b → w'.heap[b]? = w.heap[b]?) → Rd w' A L → Rd w' X l
theorem RowS.keep {A : Option Addr} {L l : List UInt8} {X : Option Addr} {S : Nat → Prop} {w w' : World} (h : RowS A L l X S w) (hs : w.heap.size ≤ w'.heap.size) (hb : ∀ b, S b → w'.heap[b]? = w.heap[b]?) : RowS A L l X S w' :=
  fun w2 h2 hb2 hr => h w2 (Nat.le_trans hs h2) (fun b hS => (hb2 b hS).trans (hb b hS)) hr
theorem RowS.mono {A : Option Addr} {L l : List UInt8} {X : Option Addr} {S S' : Nat → Prop} {w : World} (h : RowS A L l X S w) (hS : ∀ b, S b → S' b) : RowS A L l X S' w :=
  fun w2 h2 hb2 hr => h w2 h2 (fun b hb => hb2 b (hS b hb)) hr
theorem RowS.now {A : Option Addr} {L l : List UInt8} {X : Option Addr} {S : Nat → Prop} {w : World} (h : RowS A L l X S w) (hr : Rd w A L) : Rd w X l := h w (Nat.le_refl _) (fun _ _ => rfl) hr
abbrev RdAt := Value → Option Addr → List UInt8 → Co.Rs → (Nat → Prop) → World → Prop
def ROut (At : RdAt) (v : Value) (A : Option Addr) (L : List UInt8) (x : Value) (s : Co.Rs) (S : Nat → Prop) (w : World) (e : Ending) (w' : World) : Prop :=
  e = .returned x ∧ ∃ S', At v A L s S' w' ∧ Mod w w' S ∧ ∀ b, S' b → S b ∨ w.heap.size ≤ b
def RRow (At : RdAt) (v : Value) (A : Option Addr) (L : List UInt8) (r : List UInt8 × Co.Rs) (S : Nat → Prop) (w : World) (e : Ending) (w' : World) : Prop :=
  ∃ X c S' T, e = .returned (.slice X r.1.length c) ∧ r.1.length ≤ c ∧ RowS A L r.1 X T w' ∧ At v A L r.2 S' w' ∧ Mod w w' S ∧ (∀ b, S' b → S b ∨ w.heap.size ≤ b) ∧ (∀ b, T b → (S b ∨ w.heap.size ≤ b) ∧ b < w'.heap.size)
structure RFns where
  byte : Option FuncId
  short : Option FuncId
  long : Option FuncId
  flag : Option FuncId
  bytes : Option FuncId
  raw : Option FuncId
  left : Option FuncId
  fin : Option FuncId
def Apart (A : Option Addr) (L : List UInt8) (S : Nat → Prop) : Prop := 0 < L.length → ∀ b, A.map (·.block) = some b → ¬ S b
structure RSaid (f : RFns) where
  At : RdAt
  keep : ∀ {v A L s S w w'}, At v A L s S w → w.heap.size ≤ w'.heap.size → (∀ b, S b → w'.heap[b]? = w.heap[b]?) → At v A L s S w'
  lt : ∀ {v A L s S w}, At v A L s S w → ∀ b, S b → b < w.heap.size
  ptr : ∀ {v A L s S w}, At v A L s S w → ∃ a, v = .pointer (some a)
  byte : ∀ {fn}, f.byte = some fn → ∀ {v A L s S w}, At v A L s S w → Rd w A L → Apart A L S → Calls Tryz.prog fn #[v] w (ROut At v A L (.int .i64 ((Co.num 1 s).1 : Nat)) (Co.num 1 s).2 S w)
  short : ∀ {fn}, f.short = some fn → ∀ {v A L s S w}, At v A L s S w → Rd w A L → Apart A L S → Calls Tryz.prog fn #[v] w (ROut At v A L (.int .i64 ((Co.num 2 s).1 : Nat)) (Co.num 2 s).2 S w)
  long : ∀ {fn}, f.long = some fn → ∀ {v A L s S w}, At v A L s S w → Rd w A L → Apart A L S → Calls Tryz.prog fn #[v] w (ROut At v A L (.int .u64 ((Co.num 8 s).1 : Nat)) (Co.num 8 s).2 S w)
  flag : ∀ {fn}, f.flag = some fn → ∀ {v A L s S w}, At v A L s S w → Rd w A L → Apart A L S → Calls Tryz.prog fn #[v] w (ROut At v A L (.bool (Co.flag s).1) (Co.flag s).2 S w)
  bytes : ∀ {fn}, f.bytes = some fn → ∀ {v A L s S w}, At v A L s S w → Rd w A L → Apart A L S → Calls Tryz.prog fn #[v] w (RRow At v A L (Co.bytes s) S w)
  raw : ∀ {fn}, f.raw = some fn → ∀ {v A L s S w}, At v A L s S w → Rd w A L → Apart A L S → ∀ n : Int, -1000000 ≤ n → n ≤ 1000000 → Calls Tryz.prog fn #[v, .int .i64 n] w (RRow At v A L (Co.raw n s) S w)
  left : ∀ {fn}, f.left = some fn → ∀ {v A L s S w}, At v A L s S w → Rd w A L → Apart A L S → Calls Tryz.prog fn #[v] w fun e w' => e = .returned (.int .i64 (Co.left s : Nat)) ∧ Below w.heap.size w w'
  fin : ∀ {fn}, f.fin = some fn → ∀ {v A L s S w}, At v A L s S w → Rd w A L → Apart A L S → Calls Tryz.prog fn #[v] w fun e w' => e = .returned (.int .i64 (Co.fin s : Nat)) ∧ Below w.heap.size w w'

end Go.Proofs.YtombmeppdhhjhaaGreat

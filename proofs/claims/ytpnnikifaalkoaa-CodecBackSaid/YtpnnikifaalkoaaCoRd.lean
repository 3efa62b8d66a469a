/-
  OWN WORK. Readers, the program's own and the document's, of whatever form: what their calls do; their steps in regions that draw.
-/
import Derived.Test.YtpnnikifaalkoaaCoSaid
import Derived.Test.YtpnnikifaalkoaaBaStr
namespace Go.Proofs.Ytpnnikifaalkoaa
open Go.RowKit Rc

/-- A row of bytes that stays while these blocks, and the bytes that are read, stay. -/
def RowS (A : Option Addr) (L l : List UInt8) (X : Option Addr) (S : Nat → Prop) (w : World) : Prop :=
  ∀ w' : World, w.heap.size ≤ w'.heap.size → (∀ b, S b → w'.heap[b]? = w.heap[b]?) → Rd w' A L → Rd w' X l
theorem RowS.keep {A : Option Addr} {L l : List UInt8} {X : Option Addr} {S : Nat → Prop} {w w' : World} (h : RowS A L l X S w) (hs : w.heap.size ≤ w'.heap.size) (hb : ∀ b, S b → w'.heap[b]? = w.heap[b]?) : RowS A L l X S w' :=
  fun w2 h2 hb2 hr => h w2 (Nat.le_trans hs h2) (fun b hS => (hb2 b hS).trans (hb b hS)) hr
theorem RowS.mono {A : Option Addr} {L l : List UInt8} {X : Option Addr} {S S' : Nat → Prop} {w : World} (h : RowS A L l X S w) (hS : ∀ b, S b → S' b) : RowS A L l X S' w :=
  fun w2 h2 hb2 hr => h w2 h2 (fun b hb => hb2 b (hS b hb)) hr
theorem RowS.now {A : Option Addr} {L l : List UInt8} {X : Option Addr} {S : Nat → Prop} {w : World} (h : RowS A L l X S w) (hr : Rd w A L) : Rd w X l := h w (Nat.le_refl _) (fun _ _ => rfl) hr
theorem RowS.of_own {w : World} {B n : Nat} {v : Value} {l : List UInt8} (A : Option Addr) (L : List UInt8) (h : w.ownsRow B 5 1 v n (Lib.byteCells l)) (hn : l.length = n) : ∃ X c, v = .slice X l.length c ∧ l.length ≤ c ∧ RowS A L l X (fun b => v.ownBlock = some b) w ∧ ∀ b, v.ownBlock = some b → B ≤ b ∧ b < w.heap.size := by
  subst hn
  obtain ⟨X, c, rfl, hc, hr⟩ := own_form h
  refine ⟨X, c, rfl, hc, fun w' hs hb _ => hr.keep (fun p hp hX => ?_) hs, fun b hb => own_lt h hb⟩
  cases X with
  | none => simp at hX
  | some a =>
    simp only [Option.map_some, Option.some.injEq] at hX
    unfold World.cell?
    rw [hb p.block (by show some a.block = _; rw [hX])]

abbrev RdAt := Value → Option Addr → List UInt8 → Co.Rs → (Nat → Prop) → World → Prop
def ROut (At : RdAt) (v : Value) (A : Option Addr) (L : List UInt8) (x : Value) (s : Co.Rs) (S : Nat → Prop) (w : World) (e : Ending) (w' : World) : Prop :=
  e = .returned x ∧ ∃ S', At v A L s S' w' ∧ Mod w w' S ∧ ∀ b, S' b → S b ∨ w.heap.size ≤ b
def RRow (At : RdAt) (v : Value) (A : Option Addr) (L : List UInt8) (r : List UInt8 × Co.Rs) (S : Nat → Prop) (w : World) (e : Ending) (w' : World) : Prop :=
  ∃ X c S' T, e = .returned (.slice X r.1.length c) ∧ r.1.length ≤ c ∧ RowS A L r.1 X T w' ∧ At v A L r.2 S' w' ∧ Mod w w' S ∧ (∀ b, S' b → S b ∨ w.heap.size ≤ b) ∧ (∀ b, T b → (S b ∨ w.heap.size ≤ b) ∧ b < w'.heap.size)
structure RFns where
  byte : FuncId
  short : FuncId
  long : FuncId
  flag : FuncId
  bytes : FuncId
  raw : FuncId
  left : FuncId
  fin : FuncId
/-- The bytes that a reader reads lie apart from it. -/
def Apart (A : Option Addr) (L : List UInt8) (S : Nat → Prop) : Prop := 0 < L.length → ∀ b, A.map (·.block) = some b → ¬ S b
structure RSaid (f : RFns) where
  At : RdAt
  keep : ∀ {v A L s S w w'}, At v A L s S w → w.heap.size ≤ w'.heap.size → (∀ b, S b → w'.heap[b]? = w.heap[b]?) → At v A L s S w'
  lt : ∀ {v A L s S w}, At v A L s S w → ∀ b, S b → b < w.heap.size
  ptr : ∀ {v A L s S w}, At v A L s S w → ∃ a, v = .pointer (some a)
  byte : ∀ {v A L s S w}, At v A L s S w → Rd w A L → Apart A L S → Calls Try.prog f.byte #[v] w (ROut At v A L (.int .i64 ((Co.num 1 s).1 : Nat)) (Co.num 1 s).2 S w)
  short : ∀ {v A L s S w}, At v A L s S w → Rd w A L → Apart A L S → Calls Try.prog f.short #[v] w (ROut At v A L (.int .i64 ((Co.num 2 s).1 : Nat)) (Co.num 2 s).2 S w)
  long : ∀ {v A L s S w}, At v A L s S w → Rd w A L → Apart A L S → Calls Try.prog f.long #[v] w (ROut At v A L (.int .u64 ((Co.num 8 s).1 : Nat)) (Co.num 8 s).2 S w)
  flag : ∀ {v A L s S w}, At v A L s S w → Rd w A L → Apart A L S → Calls Try.prog f.flag #[v] w (ROut At v A L (.bool (Co.flag s).1) (Co.flag s).2 S w)
  bytes : ∀ {v A L s S w}, At v A L s S w → Rd w A L → Apart A L S → Calls Try.prog f.bytes #[v] w (RRow At v A L (Co.bytes s) S w)
  raw : ∀ {v A L s S w}, At v A L s S w → Rd w A L → Apart A L S → ∀ n : Int, -1000000 ≤ n → n ≤ 1000000 → Calls Try.prog f.raw #[v, .int .i64 n] w (RRow At v A L (Co.raw n s) S w)
  left : ∀ {v A L s S w}, At v A L s S w → Rd w A L → Apart A L S → Calls Try.prog f.left #[v] w fun e w' => e = .returned (.int .i64 (Co.left s : Nat)) ∧ Below w.heap.size w w'
  fin : ∀ {v A L s S w}, At v A L s S w → Rd w A L → Apart A L S → Calls Try.prog f.fin #[v] w fun e w' => e = .returned (.int .i64 (Co.fin s : Nat)) ∧ Below w.heap.size w w'

theorem mod_of_keeps {w w' : World} {g : Nat} (h : Keeps w w' g) : Mod w w' (fun b => b = g) := ⟨h.os, h.tape, h.output, h.size, fun k hk hn => h.block k hk (fun e => hn (by injection e))⟩
theorem RHd.keep {g : Nat} {T : TypeId} {A : Option Addr} {L : List UInt8} {cap : Nat} {s : Co.Rs} {w w' : World} (h : RHd g T A L cap s w) (hb : w'.heap[g]? = w.heap[g]?) : RHd g T A L cap s w' := by
  obtain ⟨k, h1, h2, h3⟩ := h
  exact ⟨k, h1, h2, hb.trans h3⟩

/-- The document's own reader. -/
abbrev refFns : RFns := ⟨32, 33, 34, 35, 36, 37, 38, 39⟩
def RefAt : RdAt := fun v A L s S w => ∃ g cap, v = .pointer (some ⟨g, 0, none⟩) ∧ RHd g 28 A L cap s w ∧ L.length ≤ cap ∧ L.length ≤ 1099511620000 ∧ S = fun b => b = g
theorem RefAt.rin {v : Value} {A : Option Addr} {L : List UInt8} {s : Co.Rs} {S : Nat → Prop} {w : World} (h : RefAt v A L s S w) (hr : Rd w A L) (ha : Apart A L S) : ∃ g cap, v = .pointer (some ⟨g, 0, none⟩) ∧ RIn g 28 A L cap s w ∧ S = fun b => b = g := by
  obtain ⟨g, cap, h1, h2, h3, h4, rfl⟩ := h
  exact ⟨g, cap, h1, ⟨h2, hr, fun hl e => ha hl g e rfl, h3, h4⟩, rfl⟩
theorem RIn.ref {g : Nat} {A : Option Addr} {L : List UInt8} {cap : Nat} {s : Co.Rs} {w : World} (h : RIn g 28 A L cap s w) : RefAt (.pointer (some ⟨g, 0, none⟩)) A L s (fun b => b = g) w := ⟨g, cap, rfl, h.hd, h.fits, h.small, rfl⟩
theorem NumOut.ref {g : Nat} {A : Option Addr} {L : List UInt8} {cap : Nat} {x : Value} {s : Co.Rs} {w : World} {e : Ending} {w' : World} (h : NumOut g 28 A L cap x s w e w') : ROut RefAt (.pointer (some ⟨g, 0, none⟩)) A L x s (fun b => b = g) w e w' :=
  ⟨h.1, _, h.2.2.ref, mod_of_keeps h.2.1, fun _ hb => .inl hb⟩
theorem RawOut.ref {g : Nat} {A : Option Addr} {L : List UInt8} {cap : Nat} {r : List UInt8 × Co.Rs} {w : World} {e : Ending} {w' : World} (h : RawOut g 28 A L cap r w e w') : RRow RefAt (.pointer (some ⟨g, 0, none⟩)) A L r (fun b => b = g) w e w' := by
  obtain ⟨v, rfl, hown, hk, hin⟩ := h
  obtain ⟨X, c, rfl, hc, hrow, hlt⟩ := RowS.of_own A L hown rfl
  exact ⟨X, c, _, _, rfl, hc, hrow, hin.ref, mod_of_keeps hk, fun _ hb => .inl hb, fun b hb => ⟨.inr (hlt b hb).1, (hlt b hb).2⟩⟩
def refSaid : RSaid refFns where
  At := RefAt
  keep := fun ⟨g, cap, h1, h2, h3, h4, h5⟩ hs hb => ⟨g, cap, h1, h2.keep (hb g (by rw [h5])), h3, h4, h5⟩
  lt := fun ⟨g, cap, h1, h2, h3, h4, h5⟩ b hb => by rw [h5] at hb; rw [hb]; exact h2.lt
  ptr := fun ⟨g, cap, h1, _⟩ => ⟨_, h1⟩
  byte := fun h hr ha => by obtain ⟨g, cap, rfl, hin, rfl⟩ := RefAt.rin h hr ha; exact (refByteR_to hin).mono fun e w' h => h.ref
  short := fun h hr ha => by obtain ⟨g, cap, rfl, hin, rfl⟩ := RefAt.rin h hr ha; exact (refShortR_to hin).mono fun e w' h => h.ref
  long := fun h hr ha => by obtain ⟨g, cap, rfl, hin, rfl⟩ := RefAt.rin h hr ha; exact (refLongR_to hin).mono fun e w' h => h.ref
  flag := fun h hr ha => by obtain ⟨g, cap, rfl, hin, rfl⟩ := RefAt.rin h hr ha; exact (refFlagR_to hin).mono fun e w' h => h.ref
  bytes := fun h hr ha => by obtain ⟨g, cap, rfl, hin, rfl⟩ := RefAt.rin h hr ha; exact (refBytesR_to hin).mono fun e w' h => h.ref
  raw := fun h hr ha n h0 h1 => by obtain ⟨g, cap, rfl, hin, rfl⟩ := RefAt.rin h hr ha; exact (refRaw_to hin n (by omega) (by omega)).mono fun e w' h => h.ref
  left := fun h hr ha => by obtain ⟨g, cap, rfl, hin, rfl⟩ := RefAt.rin h hr ha; exact refLeft_to hin
  fin := fun h hr ha => by obtain ⟨g, cap, rfl, hin, rfl⟩ := RefAt.rin h hr ha; exact refEnd_to hin
end Go.Proofs.Ytpnnikifaalkoaa

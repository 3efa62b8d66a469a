/-
  OWN WORK. The program's disk and the document's, side by side, as one object.
-/
import Derived.Test.YtenedgapjbmpgaaDiRefM
import Derived.Test.YtenedgapjbmpgaaDiRefF
import Derived.Test.YtenedgapjbmpgaaDiArgs
namespace Go.Proofs.Ytenedgapjbmpgaa
open Go.RowKit Rc Di Ob

def pairObj (D : DSaid) (N : Nat) (r : Value) : Ob.Obj (Dk × Dk) where
  At v s S w := ∃ S1 S2, D.At v s.1 S1 w ∧ RefAt N r s.2 S2 w ∧ (∀ b, S1 b → ¬ S2 b) ∧ S = fun b => S1 b ∨ S2 b
  keep := by
    rintro v s S w w' ⟨S1, S2, h1, h2, h3, rfl⟩ hs hb
    exact ⟨S1, S2, D.keep h1 hs (fun b h => hb b (.inl h)), (refObj N).keep h2 hs (fun b h => hb b (.inr h)), h3, rfl⟩
  lt := by
    rintro v s S w ⟨S1, S2, h1, h2, h3, rfl⟩ b (hb | hb)
    · exact D.lt h1 b hb
    · exact (refObj N).lt h2 b hb
  ptr := by
    rintro v s S w ⟨S1, S2, h1, _⟩
    exact D.ptr h1
section
variable {D : DSaid} {N : Nat} {r v : Value} {s1 s2 s1' s2' : Dk} {S1 S2 : Nat → Prop} {w w' : World} {e : Ending} {x : Value}
theorem pair_left (h1 : D.At v s1 S1 w) (h2 : RefAt N r s2 S2 w) (h3 : ∀ b, S1 b → ¬ S2 b) (ht : Turns D.toObj v s1' x S1 w e w') : Turns (pairObj D N r) v (s1', s2) x (fun b => S1 b ∨ S2 b) w e w' := by
  obtain ⟨rfl, T, hat, hm, hT⟩ := ht
  refine ⟨rfl, fun b => T b ∨ S2 b, ⟨T, S2, hat, (refObj N).keep h2 hm.size (fun b hb => hm.block b ((refObj N).lt h2 b hb) (fun h => h3 b h hb)), fun b hb h => ?_, rfl⟩, hm.mono (fun k _ hk => .inl hk), ?_⟩
  · rcases hT b hb with h4 | h4
    · exact h3 b h4 h
    · exact Nat.not_lt.2 h4 ((refObj N).lt h2 b h)
  · rintro b (hb | hb)
    · exact (hT b hb).imp .inl id
    · exact .inl (.inr hb)
theorem pair_right (h1 : D.At v s1 S1 w) (h2 : RefAt N r s2 S2 w) (h3 : ∀ b, S1 b → ¬ S2 b) (ht : Turns (refObj N) r s2' x S2 w e w') : Turns (pairObj D N r) v (s1, s2') x (fun b => S1 b ∨ S2 b) w e w' := by
  obtain ⟨rfl, T, hat, hm, hT⟩ := ht
  refine ⟨rfl, fun b => S1 b ∨ T b, ⟨S1, T, D.keep h1 hm.size (fun b hb => hm.block b (D.lt h1 b hb) (fun h => h3 b hb h)), hat, fun b hb h => ?_, rfl⟩, hm.mono (fun k _ hk => .inr hk), ?_⟩
  · rcases hT b h with h4 | h4
    · exact h3 b hb h4
    · exact Nat.not_lt.2 h4 (D.lt h1 b hb)
  · rintro b (hb | hb)
    · exact .inl (.inl hb)
    · exact (hT b hb).imp .inr id
end
/-- Calls of either, seen as calls of both. -/
theorem pair_write {D : DSaid} {N : Nat} {r v : Value} {s : Dk × Dk} {S : Nat → Prop} {w : World} (h : (pairObj D N r).At v s S w) (hw : s.1.writes ≤ 1000000) (i : Int) (A : Option Addr) (L : List UInt8) (cap : Nat) (hi0 : -9223372036854775808 ≤ i) (hi1 : i ≤ 9223372036854775807) (hk : Kept w S A L) (hc : L.length ≤ cap) (hl : L.length ≤ 140737488351232) :
    Calls Try.prog 19 #[v, .int .i64 i, .slice A L.length cap] w (Turns (pairObj D N r) v ((s.1.write i L).2, s.2) (.int .i64 ((s.1.write i L).1 : Nat)) S w) := by
  obtain ⟨S1, S2, h1, h2, h3, rfl⟩ := h
  exact (D.write h1 hw i A L cap hi0 hi1 ⟨hk.1, fun hl b hb h => hk.2 hl b hb (.inl h)⟩ hc hl).mono fun e w' ht => pair_left h1 h2 h3 ht
theorem pair_refWrite {D : DSaid} {N : Nat} {r v : Value} {s : Dk × Dk} {S : Nat → Prop} {w : World} (h : (pairObj D N r).At v s S w) (hw : s.2.writes ≤ 1000000) (i : Int) (A : Option Addr) (L : List UInt8) (cap : Nat) (hi0 : -9223372036854775808 ≤ i) (hi1 : i ≤ 9223372036854775807) (hk : Kept w S A L) (hc : L.length ≤ cap) (hl : L.length ≤ 140737488351232) :
    Calls Try.prog 27 #[r, .int .i64 i, .slice A L.length cap] w (Turns (pairObj D N r) v (s.1, (s.2.write i L).2) (.int .i64 ((s.2.write i L).1 : Nat)) S w) := by
  obtain ⟨S1, S2, h1, h2, h3, rfl⟩ := h
  exact (refWrite_any h2 hw i A L cap hi0 hi1 ⟨hk.1, fun hl b hb h => hk.2 hl b hb (.inr h)⟩ hc hl).mono fun e w' ht => pair_right h1 h2 h3 ht
theorem pair_flush {D : DSaid} {N : Nat} {r v : Value} {s : Dk × Dk} {S : Nat → Prop} {w : World} (h : (pairObj D N r).At v s S w) :
    Calls Try.prog 21 #[v] w fun e w' => ∃ x, Turns (pairObj D N r) v (s.1.flush, s.2) x S w e w' := by
  obtain ⟨S1, S2, h1, h2, h3, rfl⟩ := h
  exact (D.flush h1).mono fun e w' ⟨x, ht⟩ => ⟨x, pair_left h1 h2 h3 ht⟩
theorem pair_refFlush {D : DSaid} {N : Nat} {r v : Value} {s : Dk × Dk} {S : Nat → Prop} {w : World} (h : (pairObj D N r).At v s S w) :
    Calls Try.prog 29 #[r] w fun e w' => ∃ x, Turns (pairObj D N r) v (s.1, s.2.flush) x S w e w' := by
  obtain ⟨S1, S2, h1, h2, h3, rfl⟩ := h
  exact (refFlush_any h2).mono fun e w' ⟨x, ht⟩ => ⟨x, pair_right h1 h2 h3 ht⟩
theorem pair_crash {D : DSaid} {N : Nat} {r v : Value} {s : Dk × Dk} {S : Nat → Prop} {w : World} (h : (pairObj D N r).At v s S w) (A : Option Addr) (K : List Bool) (cap : Nat) (torn cut : Int) (hK : RdB w A K) (hA : ∀ a, A = some a → 0 < K.length → ¬ S a.block) (hKc : K.length ≤ cap) (hK2 : K.length ≤ 9223372036854775807) (ht0 : -9223372036854775808 ≤ torn) (ht1 : torn ≤ 9223372036854775807) (hc0 : -9223372036854775808 ≤ cut) (hc1 : cut ≤ 9223372036854775807) :
    Calls Try.prog 22 #[v, .slice A K.length cap, .int .i64 torn, .int .i64 cut] w fun e w' => ∃ x, Turns (pairObj D N r) v (s.1.crash K torn cut, s.2) x S w e w' := by
  obtain ⟨S1, S2, h1, h2, h3, rfl⟩ := h
  exact (D.crash h1 A K cap torn cut hK (fun a ha hl h => hA a ha hl (.inl h)) hKc hK2 ht0 ht1 hc0 hc1).mono fun e w' ⟨x, ht⟩ => ⟨x, pair_left h1 h2 h3 ht⟩
theorem pair_refCrash {D : DSaid} {N : Nat} {r v : Value} {s : Dk × Dk} {S : Nat → Prop} {w : World} (h : (pairObj D N r).At v s S w) (A : Option Addr) (K : List Bool) (cap : Nat) (torn cut : Int) (hK : RdB w A K) (hA : ∀ a, A = some a → 0 < K.length → ¬ S a.block) (hKc : K.length ≤ cap) (hK2 : K.length ≤ 9223372036854775807) (ht0 : -9223372036854775808 ≤ torn) (ht1 : torn ≤ 9223372036854775807) (hc0 : -9223372036854775808 ≤ cut) (hc1 : cut ≤ 9223372036854775807) :
    Calls Try.prog 30 #[r, .slice A K.length cap, .int .i64 torn, .int .i64 cut] w fun e w' => ∃ x, Turns (pairObj D N r) v (s.1, s.2.crash K torn cut) x S w e w' := by
  obtain ⟨S1, S2, h1, h2, h3, rfl⟩ := h
  exact (refCrash_any h2 A K cap torn cut hK (fun a ha hl h => hA a ha hl (.inr h)) hKc hK2 ht0 ht1 hc0 hc1).mono fun e w' ⟨x, ht⟩ => ⟨x, pair_right h1 h2 h3 ht⟩
/-- One of law 5's calls. -/
def asked (p : AskD) : List UInt8 := if 0 < p.x.length % 3 then sized 128 p.x else p.x
def step (s : Dk) (p : AskD) : Dk := if p.kd = 1 then (s.write p.i (asked p)).2 else if p.kd = 2 then s.flush else s.crash p.ks p.torn p.cut
def AskD.val (p : AskD) : Value := .agg #[.int .i64 p.kd, .int .i64 p.i, .slice p.A p.x.length p.c, .slice p.KA p.ks.length p.kc, .int .i64 p.torn, .int .i64 p.cut]
/-- What a call asks of the memory beside the disks. -/
structure AskD.Beside (w : World) (S : Nat → Prop) (p : AskD) : Prop where
  rd : Kept w S p.A p.x
  fits : p.x.length ≤ p.c
  long : p.x.length ≤ 140737488351232
  rk : RdB w p.KA p.ks
  ka : ∀ a, p.KA = some a → 0 < p.ks.length → ¬ S a.block
  kfits : p.ks.length ≤ p.kc
  klong : p.ks.length ≤ 9223372036854775807
  ii : In64 p.i
  it : In64 p.torn
  ic : In64 p.cut
theorem AskD.Beside.later {w w' : World} {S S' : Nat → Prop} {p : AskD} (h : p.Beside w S) (hm : Mod w w' S) (hS : ∀ b, S' b → S b ∨ w.heap.size ≤ b) : p.Beside w' S' := by
  refine ⟨⟨rd_mod h.rd.1 hm h.rd.2, fun hl b hb hx => ?_⟩, h.fits, h.long, rdb_mod h.rk hm h.ka, fun a ha hl hx => ?_, h.kfits, h.klong, h.ii, h.it, h.ic⟩
  · rcases hS b hx with h1 | h1
    · exact h.rd.2 hl b hb h1
    · have := rd_lt h.rd.1 hl hb
      omega
  · rcases hS _ hx with h1 | h1
    · exact h.ka a ha hl h1
    · obtain ⟨a', e, h2, _⟩ := h.rk 0 (p.ks[0]'hl) (List.getElem?_eq_getElem hl)
      rw [ha] at e
      obtain rfl := Option.some.inj e
      omega
end Go.Proofs.Ytenedgapjbmpgaa

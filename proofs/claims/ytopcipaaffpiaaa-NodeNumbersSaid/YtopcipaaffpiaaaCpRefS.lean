/-
  OWN WORK. The document's own reader (permafrostref4), as one of the readers.
-/
import Derived.Test.YtopcipaaffpiaaaCpRd
import Derived.Test.YtopcipaaffpiaaaCpRefT
namespace Go.Proofs.Ytopcipaaffpiaaa
open Go.RowKit Rc
theorem RHd.keep {g : Nat} {T : TypeId} {A : Option Addr} {L : List UInt8} {cap : Nat} {s : Co.Rs} {w w' : World} (h : RHd g T A L cap s w) (hb : w'.heap[g]? = w.heap[g]?) : RHd g T A L cap s w' := by
  obtain ⟨k, h1, h2, h3⟩ := h
  exact ⟨k, h1, h2, hb.trans h3⟩

abbrev refFns : RFns where
  byte := some 36
  short := some 35
  long := some 37
  flag := some 38
  bytes := none
  raw := some 46
  left := none
  fin := some 39
def RefAt : RdAt := fun v A L s S w => ∃ g cap, v = .pointer (some ⟨g, 0, none⟩) ∧ RHd g 60 A L cap s w ∧ L.length ≤ cap ∧ L.length ≤ 1099511620000 ∧ S = fun b => b = g
theorem RefAt.rin {v : Value} {A : Option Addr} {L : List UInt8} {s : Co.Rs} {S : Nat → Prop} {w : World} (h : RefAt v A L s S w) (hr : Rd w A L) (ha : Apart A L S) : ∃ g cap, v = .pointer (some ⟨g, 0, none⟩) ∧ RIn g 60 A L cap s w ∧ S = fun b => b = g := by
  obtain ⟨g, cap, h1, h2, h3, h4, rfl⟩ := h
  exact ⟨g, cap, h1, ⟨h2, hr, fun hl e => ha hl g e rfl, h3, h4⟩, rfl⟩
theorem RIn.ref {g : Nat} {A : Option Addr} {L : List UInt8} {cap : Nat} {s : Co.Rs} {w : World} (h : RIn g 60 A L cap s w) : RefAt (.pointer (some ⟨g, 0, none⟩)) A L s (fun b => b = g) w := ⟨g, cap, rfl, h.hd, h.fits, h.small, rfl⟩
theorem NumOut.ref {g : Nat} {A : Option Addr} {L : List UInt8} {cap : Nat} {x : Value} {s : Co.Rs} {w : World} {e : Ending} {w' : World} (h : NumOut g 60 A L cap x s w e w') : ROut RefAt (.pointer (some ⟨g, 0, none⟩)) A L x s (fun b => b = g) w e w' :=
  ⟨h.1, _, h.2.2.ref, mod_of_keeps h.2.1, fun _ hb => .inl hb⟩
theorem RawOut.ref {g : Nat} {A : Option Addr} {L : List UInt8} {cap : Nat} {r : List UInt8 × Co.Rs} {w : World} {e : Ending} {w' : World} (h : RawOut g 60 A L cap r w e w') : RRow RefAt (.pointer (some ⟨g, 0, none⟩)) A L r (fun b => b = g) w e w' := by
  obtain ⟨v, rfl, hown, hk, hin⟩ := h
  obtain ⟨X, c, rfl, hc, hrow, hlt⟩ := RowS.of_own A L hown rfl
  exact ⟨X, c, _, _, rfl, hc, hrow, hin.ref, mod_of_keeps hk, fun _ hb => .inl hb, fun b hb => ⟨.inr (hlt b hb).1, (hlt b hb).2⟩⟩
def refSaid : RSaid refFns where
  At := RefAt
  keep := fun ⟨g, cap, h1, h2, h3, h4, h5⟩ hs hb => ⟨g, cap, h1, h2.keep (hb g (by rw [h5])), h3, h4, h5⟩
  lt := fun ⟨g, cap, h1, h2, h3, h4, h5⟩ b hb => by rw [h5] at hb; rw [hb]; exact h2.lt
  ptr := fun ⟨g, cap, h1, _⟩ => ⟨_, h1⟩
  byte := fun hf _ _ _ _ _ _ h hr ha => by cases hf; obtain ⟨g, cap, rfl, hin, rfl⟩ := RefAt.rin h hr ha; exact (refByteR_to hin).mono fun e w' h => h.ref
  short := fun hf _ _ _ _ _ _ h hr ha => by cases hf; obtain ⟨g, cap, rfl, hin, rfl⟩ := RefAt.rin h hr ha; exact (refShortR_to hin).mono fun e w' h => h.ref
  long := fun hf _ _ _ _ _ _ h hr ha => by cases hf; obtain ⟨g, cap, rfl, hin, rfl⟩ := RefAt.rin h hr ha; exact (refLongR_to hin).mono fun e w' h => h.ref
  flag := fun hf _ _ _ _ _ _ h hr ha => by cases hf; obtain ⟨g, cap, rfl, hin, rfl⟩ := RefAt.rin h hr ha; exact (refFlagR_to hin).mono fun e w' h => h.ref
  bytes := fun hf => by cases hf
  raw := fun hf _ _ _ _ _ _ h hr ha n h0 h1 => by cases hf; obtain ⟨g, cap, rfl, hin, rfl⟩ := RefAt.rin h hr ha; exact (refRaw_to hin n (by omega) (by omega)).mono fun e w' h => h.ref
  left := fun hf => by cases hf
  fin := fun hf _ _ _ _ _ _ h hr ha => by cases hf; obtain ⟨g, cap, rfl, hin, rfl⟩ := RefAt.rin h hr ha; exact refEnd_to hin
end Go.Proofs.Ytopcipaaffpiaaa

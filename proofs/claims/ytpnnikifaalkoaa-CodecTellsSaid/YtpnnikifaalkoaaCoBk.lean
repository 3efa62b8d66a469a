/-
  OWN WORK. What is read of what was written: plain mathematics; one reader, of whatever form, as it is turned.
-/
import Derived.Test.YtpnnikifaalkoaaCoKnown
import Derived.Test.YtpnnikifaalkoaaCoGetA
namespace Go.Proofs.Ytpnnikifaalkoaa
open Go.RowKit Rc
namespace Co
theorem raw_app (x r : List UInt8) (n : Int) (h : n = x.length) (h1 : 1 ≤ n) : raw n ⟨x ++ r, 0⟩ = (x, ⟨r, 0⟩) := by
  subst h
  unfold raw
  rw [if_neg (by simp only [ne_eq, not_true_eq_false, false_or]; omega), if_neg (by simp only [List.length_append]; omega)]
  simp
theorem num_app (x r : List UInt8) (n : Int) (h : n = x.length) (h1 : 1 ≤ n) : num n ⟨x ++ r, 0⟩ = (beVal x, ⟨r, 0⟩) := by
  unfold num; rw [raw_app x r n h h1]
theorem num_byte (n : Nat) (r : List UInt8) : num 1 ⟨wByte n ++ r, 0⟩ = (n % 256, ⟨r, 0⟩) := by
  rw [num_app _ _ _ (by rfl) (by decide)]
  simp only [beVal, wByte, List.foldl_cons, List.foldl_nil, UInt8.toNat_ofNat']
  congr 1; omega
theorem num_short (n : Nat) (r : List UInt8) : num 2 ⟨wShort n ++ r, 0⟩ = (n % 65536, ⟨r, 0⟩) := by
  rw [num_app _ _ _ (by rfl) (by decide)]
  simp only [beVal, wShort, List.foldl_cons, List.foldl_nil, UInt8.toNat_ofNat']
  congr 1; omega
theorem wLong_is (n : Nat) : wLong n = [UInt8.ofNat (n / 72057594037927936), UInt8.ofNat (n / 281474976710656), UInt8.ofNat (n / 1099511627776), UInt8.ofNat (n / 4294967296), UInt8.ofNat (n / 16777216), UInt8.ofNat (n / 65536), UInt8.ofNat (n / 256), UInt8.ofNat n] := by
  have e : List.range 8 = [0, 1, 2, 3, 4, 5, 6, 7] := by decide
  unfold wLong
  rw [e]
  simp
theorem dig (n d : Nat) (hn : n ≤ 18446744073709551615) : (n / (d * 256) * 256 + n / d % 2 ^ 8) % 18446744073709551616 = n / d := by
  rw [← Nat.div_div_eq_div_mul]
  have h := Nat.div_le_self n d
  generalize n / d = q at h
  omega
theorem num_long (n : Nat) (hn : n ≤ 18446744073709551615) (r : List UInt8) : num 8 ⟨wLong n ++ r, 0⟩ = (n, ⟨r, 0⟩) := by
  rw [num_app _ _ _ (by rw [wLong_length]; rfl) (by decide)]
  simp only [beVal, wLong_is, List.foldl_cons, List.foldl_nil, UInt8.toNat_ofNat']
  have s0 : (0 * 256 + n / 72057594037927936 % 2 ^ 8) % 18446744073709551616 = n / 72057594037927936 := by
    have := Nat.div_lt_of_lt_mul (m := n) (n := 72057594037927936) (k := 256) (by omega)
    generalize n / 72057594037927936 = q at this
    omega
  have s1 := dig n 281474976710656 hn
  have s2 := dig n 1099511627776 hn
  have s3 := dig n 4294967296 hn
  have s4 := dig n 16777216 hn
  have s5 := dig n 65536 hn
  have s6 := dig n 256 hn
  have s7 := dig n 1 hn
  simp only [Nat.reduceMul, Nat.div_one] at s1 s2 s3 s4 s5 s6 s7
  rw [s0, s1, s2, s3, s4, s5, s6, s7]
theorem num_one (b : UInt8) (r : List UInt8) : num 1 ⟨b :: r, 0⟩ = (b.toNat, ⟨r, 0⟩) := by
  rw [show b :: r = [b] ++ r from rfl, num_app _ _ _ (by rfl) (by decide)]
  simp only [beVal, List.foldl_cons, List.foldl_nil]
  have := b.toNat_lt
  congr 1; omega
theorem flag_one (b : UInt8) (r : List UInt8) : flag ⟨b :: r, 0⟩ = (decide (b.toNat = 1), if 1 < b.toNat then ⟨r, 12⟩ else ⟨r, 0⟩) := by
  unfold flag; rw [num_one]
theorem flag_app (f : Bool) (r : List UInt8) : flag ⟨wFlag f ++ r, 0⟩ = (f, ⟨r, 0⟩) := by
  cases f
  · exact flag_one 0 r
  · exact flag_one 1 r
theorem bytes_app (x r : List UInt8) (hx : x.length ≤ 65535) : bytes ⟨wBytes x ++ r, 0⟩ = (x, ⟨r, 0⟩) := by
  have ht : x.take 65535 = x := List.take_of_length_le hx
  unfold bytes wBytes
  rw [ht, List.append_assoc, num_short]
  show raw ((x.length % 65536 : Nat) : Int) ⟨x ++ r, 0⟩ = _
  rw [Nat.mod_eq_of_lt (by omega)]
  by_cases h : x = []
  · subst h; rfl
  · have : 0 < x.length := List.length_pos_iff.2 h
    exact raw_app x r _ rfl (by omega)
theorem raw_short (n : Int) (l : List UInt8) (h1 : 1 ≤ n) (h : (l.length : Int) < n) : raw n ⟨l, 0⟩ = ([], ⟨l, 10⟩) := by
  unfold raw
  rw [if_neg (by simp only [ne_eq, not_true_eq_false, false_or]; omega), if_pos h]
theorem num_lack (n : Int) (l : List UInt8) (h1 : 1 ≤ n) (h : (l.length : Int) < n) : num n ⟨l, 0⟩ = (0, ⟨l, 10⟩) := by
  unfold num; rw [raw_short n l h1 h]; rfl
theorem raw_ref (n : Int) (s : Rs) (h : s.why ≠ 0) : raw n s = ([], s) := by
  unfold raw; rw [if_pos (.inl h)]
theorem num_ref (n : Int) (s : Rs) (h : s.why ≠ 0) : num n s = (0, s) := by
  unfold num; rw [raw_ref n s h]; rfl
theorem flag_ref (s : Rs) (h : s.why ≠ 0) : flag s = (false, s) := by
  unfold flag; rw [num_ref 1 s h]; rfl
theorem bytes_ref (s : Rs) (h : s.why ≠ 0) : bytes s = ([], s) := by
  unfold bytes; rw [num_ref 2 s h]; exact raw_ref _ _ h
theorem left_ref (s : Rs) (h : s.why ≠ 0) : left s = 0 := by unfold left; rw [if_pos h]
theorem fin_ref (s : Rs) (h : s.why ≠ 0) : fin s = s.why := by unfold fin; rw [if_pos h]
end Co

/-- One reader over bytes that lie in this world. -/
structure One {f : RFns} (C : RSaid f) (v : Value) (A : Option Addr) (L : List UInt8) (W0 : World) (X0 : Nat → Prop) (s : Co.Rs) (B : Nat → Prop) (w : World) : Prop where
  mod : Mod W0 w X0
  rd0 : Rd W0 A L
  ap0 : Apart A L X0
  at_ : C.At v A L s B w
  sub : ∀ b, B b → X0 b ∨ W0.heap.size ≤ b
section
variable {f : RFns} {C : RSaid f} {v : Value} {A : Option Addr} {L : List UInt8} {W0 : World} {X0 : Nat → Prop} {s : Co.Rs} {B : Nat → Prop} {w : World}
theorem One.rd (h : One C v A L W0 X0 s B w) : Rd w A L := h.rd0.mod h.mod h.ap0
theorem One.ap (h : One C v A L W0 X0 s B w) : Apart A L B := fun hl b hA hB => by
  rcases h.sub b hB with h1 | h1
  · exact h.ap0 hl b hA h1
  · obtain ⟨b', off, rfl, hlt, _⟩ := h.rd0 hl
    simp at hA
    omega
theorem One.more {w' : World} {X : Nat → Prop} (h : Mod W0 w X0) (hm : Mod w w' X) (hX : ∀ b, X b → X0 b ∨ W0.heap.size ≤ b) : Mod W0 w' X0 :=
  ⟨hm.os.trans h.os, hm.tape.trans h.tape, hm.output.trans h.output, Nat.le_trans h.size hm.size, fun k hk hn => (hm.block k (Nat.lt_of_lt_of_le hk h.size) fun hx => by
    rcases hX k hx with h1 | h1
    · exact hn h1
    · omega).trans (h.block k hk hn)⟩
theorem One.below {w' : World} (h : One C v A L W0 X0 s B w) (hb : Below w.heap.size w w') : One C v A L W0 X0 s B w' :=
  ⟨One.more h.mod (Mod.of_below hb (fun _ => False)) (fun _ h => h.elim), h.rd0, h.ap0, C.keep h.at_ hb.size (fun b hB => hb.block b (C.lt h.at_ b hB)), h.sub⟩
theorem One.step {w' : World} {s' : Co.Rs} {B' : Nat → Prop} (h : One C v A L W0 X0 s B w) (ha : C.At v A L s' B' w') (hm : Mod w w' B) (hs : ∀ b, B' b → B b ∨ w.heap.size ≤ b) : One C v A L W0 X0 s' B' w' :=
  ⟨One.more h.mod hm h.sub, h.rd0, h.ap0, ha, fun b hB => (hs b hB).elim (h.sub b) (fun h1 => .inr (Nat.le_trans h.mod.size h1))⟩
/-- A reader in this state, of these bytes. -/
def OneAt {f : RFns} (C : RSaid f) (v : Value) (A : Option Addr) (L : List UInt8) (W0 : World) (X0 : Nat → Prop) (s : Co.Rs) (w : World) : Prop := ∃ B, One C v A L W0 X0 s B w
theorem OneAt.of_out {x : Value} {s' : Co.Rs} {e : Ending} {w' : World} (h : One C v A L W0 X0 s B w) (ho : ROut C.At v A L x s' B w e w') : e = .returned x ∧ Hid (OneAt C v A L W0 X0 s' w') := by
  obtain ⟨rfl, S', ha, hm, hs⟩ := ho
  exact ⟨rfl, S', h.step ha hm hs⟩
theorem OneAt.flag {r : Bool} {s' : Co.Rs} (h : OneAt C v A L W0 X0 s w) (hr : Co.flag s = (r, s')) : Calls Try.prog f.flag #[v] w fun e w' => e = .returned (.bool r) ∧ Hid (OneAt C v A L W0 X0 s' w') := by
  obtain ⟨B, h⟩ := h
  refine (C.flag h.at_ h.rd h.ap).mono fun e w' ho => ?_
  have := OneAt.of_out h ho
  rwa [hr] at this
theorem OneAt.byte {r : Nat} {s' : Co.Rs} (h : OneAt C v A L W0 X0 s w) (hr : Co.num 1 s = (r, s')) : Calls Try.prog f.byte #[v] w fun e w' => e = .returned (.int .i64 (r : Nat)) ∧ Hid (OneAt C v A L W0 X0 s' w') := by
  obtain ⟨B, h⟩ := h
  refine (C.byte h.at_ h.rd h.ap).mono fun e w' ho => ?_
  have := OneAt.of_out h ho
  rwa [hr] at this
theorem OneAt.short {r : Nat} {s' : Co.Rs} (h : OneAt C v A L W0 X0 s w) (hr : Co.num 2 s = (r, s')) : Calls Try.prog f.short #[v] w fun e w' => e = .returned (.int .i64 (r : Nat)) ∧ Hid (OneAt C v A L W0 X0 s' w') := by
  obtain ⟨B, h⟩ := h
  refine (C.short h.at_ h.rd h.ap).mono fun e w' ho => ?_
  have := OneAt.of_out h ho
  rwa [hr] at this
theorem OneAt.long {r : Nat} {s' : Co.Rs} (h : OneAt C v A L W0 X0 s w) (hr : Co.num 8 s = (r, s')) : Calls Try.prog f.long #[v] w fun e w' => e = .returned (.int .u64 (r : Nat)) ∧ Hid (OneAt C v A L W0 X0 s' w') := by
  obtain ⟨B, h⟩ := h
  refine (C.long h.at_ h.rd h.ap).mono fun e w' ho => ?_
  have := OneAt.of_out h ho
  rwa [hr] at this
/-- What a reader hands out, and the reader behind it. -/
def RowOut {f : RFns} (C : RSaid f) (v : Value) (A : Option Addr) (L : List UInt8) (W0 : World) (X0 : Nat → Prop) (l : List UInt8) (s : Co.Rs) (e : Ending) (w : World) : Prop :=
  ∃ X c, e = .returned (.slice X l.length c) ∧ l.length ≤ c ∧ Hid (Rd w X l) ∧ Hid (OneAt C v A L W0 X0 s w)
theorem OneAt.of_row {l : List UInt8} {s' : Co.Rs} {r : List UInt8 × Co.Rs} {e : Ending} {w' : World} (h : One C v A L W0 X0 s B w) (ho : RRow C.At v A L r B w e w') (hr : r = (l, s')) : RowOut C v A L W0 X0 l s' e w' := by
  subst hr
  obtain ⟨X, c, S', T, rfl, hc, hrow, ha, hm, hs, ht⟩ := ho
  have h2 := h.step ha hm hs
  exact ⟨X, c, rfl, hc, hrow.now h2.rd, S', h2⟩
theorem OneAt.bytes {l : List UInt8} {s' : Co.Rs} (h : OneAt C v A L W0 X0 s w) (hr : Co.bytes s = (l, s')) : Calls Try.prog f.bytes #[v] w (RowOut C v A L W0 X0 l s') := by
  obtain ⟨B, h⟩ := h
  exact (C.bytes h.at_ h.rd h.ap).mono fun e w' ho => OneAt.of_row h ho hr
theorem OneAt.raw {n : Int} {l : List UInt8} {s' : Co.Rs} (h : OneAt C v A L W0 X0 s w) (h0 : -1000000 ≤ n) (h1 : n ≤ 1000000) (hr : Co.raw n s = (l, s')) : Calls Try.prog f.raw #[v, .int .i64 n] w (RowOut C v A L W0 X0 l s') := by
  obtain ⟨B, h⟩ := h
  exact (C.raw h.at_ h.rd h.ap n h0 h1).mono fun e w' ho => OneAt.of_row h ho hr
theorem OneAt.left {n : Nat} (h : OneAt C v A L W0 X0 s w) (hr : Co.left s = n) : Calls Try.prog f.left #[v] w fun e w' => e = .returned (.int .i64 (n : Nat)) ∧ Hid (OneAt C v A L W0 X0 s w') := by
  obtain ⟨B, h⟩ := h
  exact (C.left h.at_ h.rd h.ap).mono fun e w' ⟨he, hb⟩ => ⟨by rw [he, hr], B, h.below hb⟩
theorem OneAt.fin {n : Nat} (h : OneAt C v A L W0 X0 s w) (hr : Co.fin s = n) : Calls Try.prog f.fin #[v] w fun e w' => e = .returned (.int .i64 (n : Nat)) ∧ Hid (OneAt C v A L W0 X0 s w') := by
  obtain ⟨B, h⟩ := h
  exact (C.fin h.at_ h.rd h.ap).mono fun e w' ⟨he, hb⟩ => ⟨by rw [he, hr], B, h.below hb⟩
theorem OneAt.later {w' : World} (h : OneAt C v A L W0 X0 s w) (hb : Below w.heap.size w w') : OneAt C v A L W0 X0 s w' := by obtain ⟨B, h⟩ := h; exact ⟨B, h.below hb⟩
theorem OneAt.mod (h : OneAt C v A L W0 X0 s w) : Mod W0 w X0 := by obtain ⟨B, h⟩ := h; exact h.mod
end
end Go.Proofs.Ytpnnikifaalkoaa

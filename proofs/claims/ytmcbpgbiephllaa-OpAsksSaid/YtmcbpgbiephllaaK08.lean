/-
  OWN WORK. CpRCode, OpKnown, BaTurn, BaPoke, BaPair
-/
import Derived.Test.YtmcbpgbiephllaaK07
import Derived.Test.YtmcbpgbiephllaaK03
import Derived.Test.YtmcbpgbiephllaaK05
import Derived.Test.YtmcbpgbiephllaaK06
import Derived.Test.YtmcbpgbiephllaaKCpWCode
import Derived.Test.YtmcbpgbiephllaaK02

namespace Go.Proofs.Ytmcbpgbiephllaa
open Go.RowKit Rc

structure RrIn (g : Nat) (X : Option Addr) (cap : Nat) (r : List UInt8) (why : Nat) (w : World) : Prop where
  blk : Blk w g 101 [.slice X r.length cap, .int .i64 (why : Nat)]
  fits : r.length ≤ cap
  small : r.length ≤ 140737488355328
  rd : Rd w X r
  off : ∀ b, X.map (·.block) = some b → b ≠ g ∧ b < w.heap.size
def RrS (g : Nat) (X : Option Addr) : Nat → Prop := fun b => b = g ∨ X.map (·.block) = some b
def RrAt (v : Value) (s : Co.Rs) (S : Nat → Prop) (w : World) : Prop :=
  ∃ g X cap r, v = .pointer (some ⟨g, 0, none⟩) ∧ RrIn g X cap r s.why w ∧ r = (if s.why = 0 then s.rem else []) ∧ s.why ≤ 1000 ∧ S = RrS g X
def TakeOut (g : Nat) (X : Option Addr) (n : Int) (s : Co.Rs) (w : World) (e : Ending) (w' : World) : Prop :=
  ∃ X1 l c1 X2 r2 c2, e = .returned (.slice X1 (List.length l) c1) ∧ l = (Co.raw n s).1 ∧ l.length ≤ c1 ∧ Rd w' X1 l ∧ RrIn g X2 c2 r2 (Co.raw n s).2.why w' ∧ r2 = (if (Co.raw n s).2.why = 0 then (Co.raw n s).2.rem else []) ∧
    (∀ b, X2.map (·.block) = some b → X.map (·.block) = some b) ∧ (∀ b, 0 < l.length → X1.map (·.block) = some b → X.map (·.block) = some b) ∧ Keeps w w' g

set_option maxHeartbeats 1000000 in
theorem refuse_any {g : Nat} {X : Option Addr} {cap : Nat} {r : List UInt8} {why : Nat} {w : World} (h : RrIn g X cap r why w) (y : Nat) (_hy : y ≤ 1000) :
    Calls Try.prog 83 #[.pointer (some ⟨g, 0, none⟩), .int .i64 (y : Nat)] w fun e w' => e = .returned (.tuple #[]) ∧ RrIn g none 0 [] (if why = 0 then y else why) w' ∧ Keeps w w' g := by
  have c1 : w.cell? ⟨g, 1, none⟩ = some (.int .i64 (why : Nat)) := h.blk.cell 1
  have c0 : w.cell? ⟨g, 0, none⟩ = some (.slice X r.length cap) := h.blk.cell 0
  have f0 := h.blk.frozen 0
  have f1 := h.blk.frozen 1
  have HB := Lib.hid h.blk
  clear h
  by_cases h1 : why = 0
  · subst h1
    go_enter Try.func83, Try.ntmps83
    go_wp2_with fail
    go_end0
    exact ⟨rfl, ⟨(HB.out.set_ 1 _).set_ 0 _, by simp, by simp, Rd.nil _ _, by simp⟩, ((Keeps.refl _ _).setCell _ _).setCell _ _⟩
  · have hw : ((why : Nat) : Int) ≠ 0 := by omega
    go_enter Try.func83, Try.ntmps83
    go_wp2_with fail
    go_end0
    exact ⟨rfl, ⟨HB.out.set_ 0 _, by simp, by simp, Rd.nil _ _, by simp⟩, (Keeps.refl _ _).setCell _ _⟩

set_option maxHeartbeats 1000000 in
set_option maxRecDepth 100000 in
theorem take_any {g : Nat} {X : Option Addr} {cap : Nat} {r : List UInt8} {s : Co.Rs} {w : World} (h : RrIn g X cap r s.why w) (hr : r = if s.why = 0 then s.rem else []) (n : Int) (hn : n ≤ 140737488355328) (hn0 : -140737488355328 ≤ n) :
    Calls Try.prog 86 #[.pointer (some ⟨g, 0, none⟩), .int .i64 n] w (TakeOut g X n s w) := by
  have H := Lib.hid h
  have HRR := Lib.hid hr
  have c0 : w.cell? ⟨g, 0, none⟩ = some (.slice X r.length cap) := h.blk.cell 0
  have f0 := h.blk.frozen 0
  have hsm := h.small
  have hfit := h.fits
  clear h hr
  by_cases h1 : n < 1
  · go_enter Try.func86, Try.ntmps86
    go_wp2_with fail
    go_ret
    have e : Co.raw n s = ([], s) := by unfold Co.raw; rw [if_pos (.inr h1)]
    refine ⟨none, [], 0, X, r, cap, rfl, by rw [e], by simp, Rd.nil _ _, ?_, ?_, fun b h => h, fun b h => absurd h (by simp), Keeps.refl _ _⟩
    · rw [e]; exact H.out
    · rw [e]; exact HRR.out
  · by_cases h2 : ((r.length : Nat) : Int) < n
    · go_enter Try.func86, Try.ntmps86
      go_wp2_with fail
      refine (refuse_any H.out 10 (by omega)).mono ?_
      rintro e w1 ⟨rfl, hin, hk⟩
      have HI := Lib.hid hin
      have HK := Lib.hid hk
      clear hin hk
      go_wp2_with fail
      go_ret
      have e : (Co.raw n s).1 = [] ∧ (Co.raw n s).2.why = (if s.why = 0 then 10 else s.why) := by
        have := HRR.out
        unfold Co.raw
        by_cases hw : s.why = 0
        · rw [if_pos hw] at this
          subst this
          rw [if_neg (by simp [hw]; omega), if_pos h2, if_pos hw]
          exact ⟨rfl, rfl⟩
        · rw [if_pos (.inl hw), if_neg hw]
          exact ⟨rfl, rfl⟩
      have ew : (Co.raw n s).2.why ≠ 0 := by rw [e.2]; split <;> omega
      refine ⟨none, [], 0, none, [], 0, rfl, e.1.symm, by simp, Rd.nil _ _, ?_, by rw [if_neg ew], fun b h => (by cases h), fun b h => absurd h (by simp), HK.out⟩
      rw [e.2]
      exact HI.out
    · obtain ⟨q, rfl⟩ : ∃ q : Nat, n = (q : Nat) := ⟨n.toNat, by omega⟩
      go_enter Try.func86, Try.ntmps86
      have hqr : q ≤ r.length := by omega
      have hslh := fun W => sl_h W X r.length cap q (by omega)
      have hsll := fun W => sl_l W X r.length cap q hqr
      have HW : Hid (s.why = 0 ∧ r = s.rem) := by
        have h3 := HRR.out
        by_cases hw : s.why = 0
        · rw [if_pos hw] at h3; exact ⟨hw, h3⟩
        · rw [if_neg hw] at h3; subst h3; simp at hqr; omega
      clear hslh
      go_wp2_with fail
      go_ret
      obtain ⟨hw, hrr⟩ := HW.out
      have e : Co.raw (q : Int) s = (r.take q, ⟨r.drop q, s.why⟩) := by
        unfold Co.raw
        rw [if_neg (by simp [hw]; omega), if_neg (by rw [← hrr]; omega), ← hrr]
        rfl
      have hcb : ∀ b, (cutA X q cap).map (·.block) = some b → X.map (·.block) = some b := fun b hb => by
        unfold cutA at hb
        split at hb
        · exact hb
        · cases X with
          | none => exact hb
          | some a => simp only [Option.map_some, block_of_add] at hb; exact hb
      have hk : Keeps w (w.setCell ⟨g, 0, none⟩ (.slice (cutA X q cap) (r.length - q) (cap - q))) g := (Keeps.refl _ _).setCell _ _
      have hne : X.map (·.block) ≠ some g := fun e => (H.out.off g e).1 rfl
      have hl1 : (r.take q).length = q := by rw [List.length_take]; omega
      have hl2 : (r.drop q).length = r.length - q := List.length_drop
      refine ⟨X, r.take q, cap, cutA X q cap, r.drop q, cap - q, by rw [hl1]; rfl, by rw [e], by omega, (H.out.rd.take q).keeps hk (fun _ => hne), ?_, by rw [e]; simp [hw], hcb, fun b _ h => h, hk⟩
      rw [e]
      refine ⟨?_, by omega, by omega, (H.out.rd.cut q cap hfit).keeps hk (fun _ e => hne (hcb g e)), fun b hb => ?_⟩
      · rw [hl2]; exact H.out.blk.set_ 0 _
      · have := H.out.off b (hcb b hb)
        exact ⟨this.1, Nat.lt_of_lt_of_le this.2 hk.size⟩

def RrNext (g : Nat) (X : Option Addr) (s' : Co.Rs) (w w' : World) : Prop :=
  ∃ X2 c2 r2, RrIn g X2 c2 r2 s'.why w' ∧ r2 = (if s'.why = 0 then s'.rem else []) ∧ (∀ b, X2.map (·.block) = some b → X.map (·.block) = some b) ∧ Keeps w w' g
theorem RrNext.below {g : Nat} {X : Option Addr} {s' : Co.Rs} {w w' w2 : World} (h : RrNext g X s' w w') (hb : Below w'.heap.size w' w2) : RrNext g X s' w w2 := by
  obtain ⟨X2, c2, r2, h1, h2, h3, h4⟩ := h
  exact ⟨X2, c2, r2, ⟨h1.blk.below hb h1.blk.lt, h1.fits, h1.small, h1.rd.below hb, fun b h => ⟨(h1.off b h).1, Nat.lt_of_lt_of_le (h1.off b h).2 hb.size⟩⟩, h2, h3, h4.trans (Keeps.of_below hb)⟩
theorem RrNext.then {g : Nat} {X X2 : Option Addr} {s' : Co.Rs} {w w' w2 : World} (h4 : Keeps w w' g) (h3 : ∀ b, X2.map (·.block) = some b → X.map (·.block) = some b) (h : RrNext g X2 s' w' w2) : RrNext g X s' w w2 := by
  obtain ⟨X3, c3, r3, k1, k2, k3, k4⟩ := h
  exact ⟨X3, c3, r3, k1, k2, fun b hb => h3 b (k3 b hb), h4.trans k4⟩
theorem raw_len (n : Int) (s : Co.Rs) : (Co.raw n s).1.length ≤ s.rem.length := by
  unfold Co.raw
  split
  · simp
  · split
    · simp
    · show (s.rem.take _).length ≤ _
      rw [List.length_take]; omega

set_option maxHeartbeats 1000000 in
set_option maxRecDepth 100000 in
theorem rnumber_any {g : Nat} {X : Option Addr} {cap : Nat} {r : List UInt8} {s : Co.Rs} {w : World} (h : RrIn g X cap r s.why w) (hr : r = if s.why = 0 then s.rem else []) (n : Int) (hn : n ≤ 140737488355328) (hn0 : -140737488355328 ≤ n) :
    Calls Try.prog 78 #[.pointer (some ⟨g, 0, none⟩), .int .i64 n] w fun e w' => e = .returned (.int .u64 ((Co.num n s).1 : Nat)) ∧ RrNext g X (Co.num n s).2 w w' := by
  have H := Lib.hid h
  have HR := Lib.hid hr
  clear h hr
  go_enter Try.func78, Try.ntmps78
  go_wp2_with fail
  refine (take_any H.out HR.out n hn hn0).mono ?_
  rintro e w1 ⟨X1, l, c1, X2, r2, c2, rfl, hl, hlc, hrd, hin, hr2, hX2, hX1, hk⟩
  have HL := Lib.hid hl
  have HRD := Lib.hid hrd
  have HN : Hid (RrNext g X (Co.num n s).2 w w1) := ⟨X2, c2, r2, hin, hr2, hX2, hk⟩
  have hsm : l.length ≤ 140737488355328 := by
    rw [hl]
    by_cases hw : s.why = 0
    · have e := HR.out
      rw [if_pos hw] at e
      have h5 := raw_len n s
      have h6 := H.out.small
      rw [← e] at h5
      omega
    · unfold Co.raw
      rw [if_pos (.inl hw)]
      simp
  clear hl hrd hin hr2 hX2 hX1 hk hlc H HR
  go_wp2_with fail
  go_loop [5, 12] (fun t5 t12 => ∃ (k x : Nat), k ≤ l.length ∧ t12 = .int .i64 (k : Nat) ∧ t5 = .int .u64 (x : Nat) ∧ Hid (x = Co.beVal (l.take k))) (fun _ t12 => l.length - (intOf t12).toNat)
  case atStart => exact ⟨0, 0, by omega, rfl, rfl, rfl⟩
  case round =>
    obtain ⟨k, x, hk, rfl, rfl, HX⟩ := hrel
    by_cases hlt : k < l.length
    · obtain ⟨b, off, rfl, _, hcell⟩ := HRD.out.at_ (by omega)
      have c0 := hcell k hlt
      obtain ⟨y, hy⟩ : ∃ y : Nat, y = (l.getD k 0).toNat := ⟨_, rfl⟩
      have hy8 : y < 256 := by rw [hy]; exact (l.getD k 0).toNat_lt
      rw [← hy] at c0
      have HY := Lib.hid hy
      have hor := Co.bits_or64 x y hy8
      obtain ⟨z, hz⟩ : ∃ z : Nat, z = (x * 256 + y) % 18446744073709551616 := ⟨_, rfl⟩
      rw [← hz] at hor
      have HZ := Lib.hid hz
      clear hcell hy hz
      go_wp2_with fail
      go_round
      case rel => exact ⟨k + 1, z, by omega, by go_num, rfl, by show _ = _; rw [Co.beVal_snoc _ _ hlt, ← HX.out, ← HY.out, HZ.out]⟩
      case measure => simp [intOf]; omega
    · obtain rfl : k = l.length := by omega
      have HF : Hid (x = Co.beVal l) := by show _ = _; rw [HX.out, List.take_length]
      clear HX
      go_wp2_with fail
      go_ret
      refine ⟨?_, HN.out⟩
      rw [HF.out, HL.out]
      rfl

theorem num_why (n : Int) (s : Co.Rs) (h : s.why ≤ 1000) : (Co.num n s).2.why ≤ 1000 := by
  unfold Co.num Co.raw
  split
  · exact h
  · split
    · show 10 ≤ 1000; omega
    · exact h
theorem RrNext.out {g : Nat} {X : Option Addr} {A : Option Addr} {L : List UInt8} {x : Value} {s' : Co.Rs} {w w' : World} (h : RrNext g X s' w w') (hs : s'.why ≤ 1000) : ROut (fun v _ _ s S w => RrAt v s S w) (.pointer (some ⟨g, 0, none⟩)) A L x s' (RrS g X) w (.returned x) w' := by
  obtain ⟨X2, c2, r2, h1, h2, h3, h4⟩ := h
  refine ⟨rfl, RrS g X2, ⟨g, X2, c2, r2, rfl, h1, h2, hs, rfl⟩, ⟨h4.os, h4.tape, h4.output, h4.size, fun k hk hn => h4.block k hk fun e => hn (.inl (by injection e))⟩, fun b hb => ?_⟩
  rcases hb with h | h
  · exact .inl (.inl h)
  · exact .inl (.inr (h3 b h))
set_option maxHeartbeats 1000000 in
theorem rbyte_any {g : Nat} {X : Option Addr} {cap : Nat} {r : List UInt8} {s : Co.Rs} {w : World} (h : RrIn g X cap r s.why w) (hr : r = if s.why = 0 then s.rem else []) :
    Calls Try.prog 53 #[.pointer (some ⟨g, 0, none⟩)] w fun e w' => e = .returned (.int .i64 ((Co.num 1 s).1 : Nat)) ∧ RrNext g X (Co.num 1 s).2 w w' := by
  have H := Lib.hid h
  have HR := Lib.hid hr
  have hs := num_small1 s
  clear h hr
  go_enter Try.func53, Try.ntmps53
  go_wp2_with fail
  refine (rnumber_any H.out HR.out 1 (by omega) (by omega)).mono ?_
  rintro e w1 ⟨rfl, hn⟩
  have HN := Lib.hid hn
  obtain ⟨x, hx⟩ : ∃ x, x = (Co.num 1 s).1 := ⟨_, rfl⟩
  rw [← hx] at hs ⊢
  have HX := Lib.hid hx
  clear hn hx
  have hw : IntKind.i64.wrap (x : Int) = (x : Int) := IntWalk.i64_in _ (by omega)
  go_wp2_with fail
  go_ret
  exact ⟨by rw [← HX.out]; rfl, HN.out⟩
set_option maxHeartbeats 1000000 in
theorem rshort_any {g : Nat} {X : Option Addr} {cap : Nat} {r : List UInt8} {s : Co.Rs} {w : World} (h : RrIn g X cap r s.why w) (hr : r = if s.why = 0 then s.rem else []) :
    Calls Try.prog 62 #[.pointer (some ⟨g, 0, none⟩)] w fun e w' => e = .returned (.int .i64 ((Co.num 2 s).1 : Nat)) ∧ RrNext g X (Co.num 2 s).2 w w' := by
  have H := Lib.hid h
  have HR := Lib.hid hr
  have hs := num_small2 s
  clear h hr
  go_enter Try.func62, Try.ntmps62
  go_wp2_with fail
  refine (rnumber_any H.out HR.out 2 (by omega) (by omega)).mono ?_
  rintro e w1 ⟨rfl, hn⟩
  have HN := Lib.hid hn
  obtain ⟨x, hx⟩ : ∃ x, x = (Co.num 2 s).1 := ⟨_, rfl⟩
  rw [← hx] at hs ⊢
  have HX := Lib.hid hx
  clear hn hx
  have hw : IntKind.i64.wrap (x : Int) = (x : Int) := IntWalk.i64_in _ (by omega)
  go_wp2_with fail
  go_ret
  exact ⟨by rw [← HX.out]; rfl, HN.out⟩
set_option maxHeartbeats 1000000 in
theorem rlong_any {g : Nat} {X : Option Addr} {cap : Nat} {r : List UInt8} {s : Co.Rs} {w : World} (h : RrIn g X cap r s.why w) (hr : r = if s.why = 0 then s.rem else []) :
    Calls Try.prog 79 #[.pointer (some ⟨g, 0, none⟩)] w fun e w' => e = .returned (.int .u64 ((Co.num 8 s).1 : Nat)) ∧ RrNext g X (Co.num 8 s).2 w w' := by
  have H := Lib.hid h
  have HR := Lib.hid hr
  clear h hr
  go_enter Try.func79, Try.ntmps79
  go_wp2_with fail
  refine (rnumber_any H.out HR.out 8 (by omega) (by omega)).mono ?_
  rintro e w1 ⟨rfl, hn⟩
  have HN := Lib.hid hn
  obtain ⟨x, hx⟩ : ∃ x, x = (Co.num 8 s).1 := ⟨_, rfl⟩
  rw [← hx] at ⊢
  have HX := Lib.hid hx
  clear hn hx
  go_wp2_with fail
  go_ret
  exact ⟨by rw [← HX.out]; rfl, HN.out⟩
set_option maxHeartbeats 1000000 in
theorem rflag_any {g : Nat} {X : Option Addr} {cap : Nat} {r : List UInt8} {s : Co.Rs} {w : World} (h : RrIn g X cap r s.why w) (hr : r = if s.why = 0 then s.rem else []) :
    Calls Try.prog 64 #[.pointer (some ⟨g, 0, none⟩)] w fun e w' => e = .returned (.bool (Co.flag s).1) ∧ RrNext g X (Co.flag s).2 w w' := by
  have H := Lib.hid h
  have HR := Lib.hid hr
  have hs := num_small1 s
  clear h hr
  go_enter Try.func64, Try.ntmps64
  go_wp2_with fail
  refine (rbyte_any H.out HR.out).mono ?_
  rintro e w1 ⟨rfl, hn⟩
  have HN := Lib.hid hn
  have HWW : Hid (1 < (Co.num 1 s).1 → (Co.num 1 s).2.why = 0) := by
    show _ → _
    intro h1
    unfold Co.num Co.raw at h1 ⊢
    split
    · rename_i hc
      rw [if_pos hc] at h1
      simp [Co.beVal] at h1
    · rename_i hc
      rw [if_neg hc] at h1
      split
      · rename_i hd
        rw [if_pos hd] at h1
        simp [Co.beVal] at h1
      · show s.why = 0
        exact Decidable.byContradiction fun h => hc (.inl h)
  obtain ⟨x, hx⟩ : ∃ x, x = (Co.num 1 s).1 := ⟨_, rfl⟩
  rw [← hx] at hs ⊢
  have HX := Lib.hid hx
  clear hn hx
  by_cases h1 : 1 < x
  · have h2 : (1 : Int) < (x : Int) := by omega
    have HH1 := Lib.hid h1
    clear h1
    obtain ⟨X2, c2, r2, hin, hr2, hX2, hk⟩ := HN.out
    have HI := Lib.hid hin
    have HK := Lib.hid hk
    have HX2 := Lib.hid hX2
    clear hin hr2 hX2 hk
    go_wp2_with fail
    refine (refuse_any HI.out 12 (by omega)).mono ?_
    rintro e w2 ⟨rfl, hin, hk⟩
    have HF : Hid (RrNext g X (Co.flag s).2 w w2) := by
      have h1 := HH1.out
      rw [HX.out] at h1
      have e : (Co.flag s).2.why = 12 := by unfold Co.flag; rw [if_pos h1]
      refine ⟨none, 0, [], ?_, by rw [e]; simp, fun b h => (by cases h), HK.out.trans hk⟩
      rw [e]
      rw [if_pos (HWW.out h1)] at hin
      exact hin
    clear hin hk
    go_wp2_with fail
    go_ret
    refine ⟨?_, HF.out⟩
    have h1 := HH1.out
    rw [HX.out] at h1
    have : (Co.flag s).1 = false := by unfold Co.flag; simp; omega
    rw [this]
    rfl
  · have h2 : ¬ (1 : Int) < (x : Int) := by omega
    have HH1 := Lib.hid h1
    clear h1
    go_wp2_with fail
    go_ret
    have h1 := HH1.out
    rw [HX.out] at h1
    refine ⟨?_, ?_⟩
    · show Ending.returned (.bool ((x : Int) == 1)) = Ending.returned (.bool (decide ((Co.num 1 s).1 = 1)))
      rw [← HX.out, one_eq]
    · unfold Co.flag
      rw [if_neg h1]
      exact HN.out

def RrRow (g : Nat) (X : Option Addr) (p : List UInt8 × Co.Rs) (w : World) (e : Ending) (w' : World) : Prop :=
  ∃ v, e = .returned v ∧ w'.ownsRow w.heap.size 5 1 v p.1.length (Lib.byteCells p.1) ∧ RrNext g X p.2 w w'
set_option maxHeartbeats 1000000 in
theorem rraw_any {g : Nat} {X : Option Addr} {cap : Nat} {r : List UInt8} {s : Co.Rs} {w : World} (h : RrIn g X cap r s.why w) (hr : r = if s.why = 0 then s.rem else []) (n : Int) (hn : n ≤ 140737488355328) (hn0 : -140737488355328 ≤ n) :
    Calls Try.prog 82 #[.pointer (some ⟨g, 0, none⟩), .int .i64 n] w (RrRow g X (Co.raw n s) w) := by
  have H := Lib.hid h
  have HR := Lib.hid hr
  clear h hr
  go_enter Try.func82, Try.ntmps82
  go_wp2_with fail
  refine (take_any H.out HR.out n hn hn0).mono ?_
  rintro e w1 ⟨X1, l, c1, X2, r2, c2, rfl, hl, hlc, hrd, hin, hr2, hX2, hX1, hk⟩
  have HL := Lib.hid hl
  have HRD := Lib.hid hrd
  have HN : Hid (RrNext g X (Co.raw n s).2 w w1) := ⟨X2, c2, r2, hin, hr2, hX2, hk⟩
  have HS := Lib.hid hk.size
  have hsm : l.length ≤ 140737488355328 := by
    rw [hl]
    by_cases hw : s.why = 0
    · have e := HR.out
      rw [if_pos hw] at e
      have h5 := raw_len n s
      have h6 := H.out.small
      rw [← e] at h5
      omega
    · unfold Co.raw
      rw [if_pos (.inl hw)]
      simp
  clear hl hrd hin hr2 hX2 hX1 hk hlc H HR
  go_wp2_with fail
  refine (clone_any w1 X1 l c1 HRD.out (by omega)).mono ?_
  rintro e w2 ⟨v, rfl, hown, hb⟩
  have HF : Hid (RrRow g X (Co.raw n s) w (.returned v) w2) := ⟨v, rfl, by rw [← HL.out]; exact own_mono hown HS.out, HN.out.below hb⟩
  clear hown hb
  go_wp2_with fail
  go_ret
  exact HF.out
set_option maxHeartbeats 1000000 in
theorem rbytes_any {g : Nat} {X : Option Addr} {cap : Nat} {r : List UInt8} {s : Co.Rs} {w : World} (h : RrIn g X cap r s.why w) (hr : r = if s.why = 0 then s.rem else []) :
    Calls Try.prog 63 #[.pointer (some ⟨g, 0, none⟩)] w (RrRow g X (Co.bytes s) w) := by
  have H := Lib.hid h
  have HR := Lib.hid hr
  have hs := num_small2 s
  clear h hr
  go_enter Try.func63, Try.ntmps63
  go_wp2_with fail
  refine (rshort_any H.out HR.out).mono ?_
  rintro e w1 ⟨rfl, hn⟩
  obtain ⟨X2, c2, r2, hin, hr2, hX2, hk⟩ := hn
  have HI := Lib.hid hin
  have HR2 := Lib.hid hr2
  have HK := Lib.hid hk
  have HX2 := Lib.hid hX2
  obtain ⟨x, hx⟩ : ∃ x, x = (Co.num 2 s).1 := ⟨_, rfl⟩
  rw [← hx] at hs ⊢
  have HX := Lib.hid hx
  clear hin hr2 hX2 hk hx H HR
  go_wp2_with fail
  refine (rraw_any HI.out HR2.out (x : Int) (by omega) (by omega)).mono ?_
  rintro e w2 ⟨v, rfl, hown, hn⟩
  have HF : Hid (RrRow g X (Co.bytes s) w (.returned v) w2) := by
    refine ⟨v, rfl, ?_, ?_⟩
    · have := own_mono hown HK.out.size
      rw [HX.out] at this
      exact this
    · have := RrNext.then HK.out HX2.out hn
      rw [HX.out] at this
      exact this
  clear hown hn
  go_wp2_with fail
  go_ret
  exact HF.out
theorem raw_why (n : Int) (s : Co.Rs) (h : s.why ≤ 1000) : (Co.raw n s).2.why ≤ 1000 := num_why n s h
theorem flag_why (s : Co.Rs) (h : s.why ≤ 1000) : (Co.flag s).2.why ≤ 1000 := by
  have := num_why 1 s h
  unfold Co.flag
  split
  · show 12 ≤ 1000; omega
  · exact this
theorem bytes_why (s : Co.Rs) (h : s.why ≤ 1000) : (Co.bytes s).2.why ≤ 1000 := raw_why _ _ (num_why 2 s h)
theorem RrRow.out {g : Nat} {X : Option Addr} {A : Option Addr} {L : List UInt8} {p : List UInt8 × Co.Rs} {w : World} {e : Ending} {w' : World} (h : RrRow g X p w e w') (hs : p.2.why ≤ 1000) : RRow (fun v _ _ s S w => RrAt v s S w) (.pointer (some ⟨g, 0, none⟩)) A L p (RrS g X) w e w' := by
  obtain ⟨v, rfl, hown, hn⟩ := h
  obtain ⟨Y, c, rfl, hc, hrow, hlt⟩ := RowS.of_own A L hown rfl
  obtain ⟨_, S', h1, h2, h3⟩ := RrNext.out (A := A) (L := L) (x := .slice Y p.1.length c) hn hs
  exact ⟨Y, c, S', _, rfl, hc, hrow, h1, h2, h3, fun b hb => ⟨.inr (hlt b hb).1, (hlt b hb).2⟩⟩
set_option maxHeartbeats 1000000 in
theorem rend_any {g : Nat} {X : Option Addr} {cap : Nat} {r : List UInt8} {s : Co.Rs} {w : World} (h : RrIn g X cap r s.why w) (hr : r = if s.why = 0 then s.rem else []) :
    Calls Try.prog 55 #[.pointer (some ⟨g, 0, none⟩)] w fun e w' => e = .returned (.int .i64 (Co.fin s : Nat)) ∧ Below w.heap.size w w' := by
  have c0 : w.cell? ⟨g, 0, none⟩ = some (.slice X r.length cap) := h.blk.cell 0
  have c1 : w.cell? ⟨g, 1, none⟩ = some (.int .i64 (s.why : Nat)) := h.blk.cell 1
  obtain ⟨rem, why⟩ := s
  simp only at c1 hr
  clear h
  by_cases h1 : why = 0
  · subst h1
    rw [if_pos rfl] at hr
    subst hr
    by_cases h2 : 0 < r.length
    · have HF : Hid (Co.fin ⟨r, 0⟩ = 11) := by show _ = _; unfold Co.fin; simp [h2]
      have h3 : (0 : Int) < (r.length : Int) := by omega
      go_enter Try.func55, Try.ntmps55
      go_wp2_with fail
      go_ret
      exact ⟨by rw [HF.out]; rfl, Below.refl _ _⟩
    · have HF : Hid (Co.fin ⟨r, 0⟩ = 0) := by show _ = _; unfold Co.fin; simp [h2]
      go_enter Try.func55, Try.ntmps55
      go_wp2_with fail
      go_ret
      exact ⟨by rw [HF.out]; rfl, Below.refl _ _⟩
  · have hw : ((why : Nat) : Int) ≠ 0 := by omega
    have HF : Hid (Co.fin ⟨rem, why⟩ = why) := by show _ = _; unfold Co.fin; simp [h1]
    go_enter Try.func55, Try.ntmps55
    go_wp2_with fail
    go_ret
    exact ⟨by rw [HF.out]; rfl, Below.refl _ _⟩
set_option maxHeartbeats 1000000 in
theorem rnew_any (w : World) (A : Option Addr) (L : List UInt8) (cap : Nat) (hr : Rd w A L) (hl : L.length ≤ 140737488351232) : Calls Try.prog 52 #[.slice A L.length cap] w fun e w' => ∃ v S, e = .returned v ∧ RrAt v ⟨L, 0⟩ S w' ∧ Below w.heap.size w w' ∧ ∀ b, S b → w.heap.size ≤ b := by
  have HR := Lib.hid hr
  clear hr
  go_enter Try.func52, Try.ntmps52
  go_wp2_with fail
  refine (clone_any w A L cap HR.out (by omega)).mono ?_
  rintro e w1 ⟨v, rfl, hown, hb⟩
  have ho : ∀ b, v.ownBlock = some b → w.heap.size ≤ b ∧ b < w1.heap.size := fun b h => own_lt hown h
  obtain ⟨X, c, rfl, hc, hrd⟩ := own_form hown
  have hX : ∀ b, X.map (·.block) = some b → w.heap.size ≤ b ∧ b < w1.heap.size := fun b h => ho b (by cases X with | none => cases h | some a => simpa [Value.ownBlock] using h)
  have HF : Hid (RrAt (.pointer (some ⟨w1.heap.size, 0, none⟩)) ⟨L, 0⟩ (RrS w1.heap.size X) (w1.alloc (.cells #[.slice X L.length c, .int .i64 0] 101)) ∧ Below w.heap.size w (w1.alloc (.cells #[.slice X L.length c, .int .i64 0] 101)) ∧ ∀ b, RrS w1.heap.size X b → w.heap.size ≤ b) := by
    refine ⟨⟨_, X, c, L, rfl, ⟨Blk.new w1 _ _, hc, by omega, hrd.below (below_new _ _), fun b h => ?_⟩, rfl, by show 0 ≤ 1000; omega, rfl⟩, hb.trans ((below_new w1 _).mono hb.size), fun b h => ?_⟩
    · have := hX b h
      rw [World.size_alloc]
      omega
    · rcases h with rfl | h
      · exact hb.size
      · exact (hX b h).1
  clear hown hb ho hc hrd hX
  go_wp2_with fail
  go_ret
  exact ⟨_, _, rfl, HF.out⟩

theorem RrAt.keep {v : Value} {s : Co.Rs} {S : Nat → Prop} {w w' : World} (h : RrAt v s S w) (hs : w.heap.size ≤ w'.heap.size) (hb : ∀ b, S b → w'.heap[b]? = w.heap[b]?) : RrAt v s S w' := by
  obtain ⟨g, X, cap, r, rfl, h1, h2, h3, rfl⟩ := h
  refine ⟨g, X, cap, r, rfl, ⟨(hb g (.inl rfl)).trans h1.blk, h1.fits, h1.small, h1.rd.keep (fun p hp e => ?_) hs, fun b h => ⟨(h1.off b h).1, Nat.lt_of_lt_of_le (h1.off b h).2 hs⟩⟩, h2, h3, rfl⟩
  unfold World.cell?
  rw [hb p.block (.inr e)]
theorem RrAt.lt {v : Value} {s : Co.Rs} {S : Nat → Prop} {w : World} (h : RrAt v s S w) : ∀ b, S b → b < w.heap.size := by
  obtain ⟨g, X, cap, r, rfl, h1, h2, h3, rfl⟩ := h
  rintro b (rfl | hb)
  · exact h1.blk.lt
  · exact (h1.off b hb).2
def rsaid : RSaid codecFns where
  At := fun v _ _ s S w => RrAt v s S w
  keep := fun h hs hb => h.keep hs hb
  lt := fun h => h.lt
  ptr := fun h => by obtain ⟨g, X, cap, r, rfl, _⟩ := h; exact ⟨_, rfl⟩
  byte := fun hf _ _ _ _ _ _ h _ _ => by cases hf; obtain ⟨g, X, cap, r, rfl, h1, h2, h3, rfl⟩ := h; exact (rbyte_any h1 h2).mono fun e w' ⟨he, hn⟩ => by subst he; exact hn.out (num_why _ _ h3)
  short := fun hf _ _ _ _ _ _ h _ _ => by cases hf; obtain ⟨g, X, cap, r, rfl, h1, h2, h3, rfl⟩ := h; exact (rshort_any h1 h2).mono fun e w' ⟨he, hn⟩ => by subst he; exact hn.out (num_why _ _ h3)
  long := fun hf _ _ _ _ _ _ h _ _ => by cases hf; obtain ⟨g, X, cap, r, rfl, h1, h2, h3, rfl⟩ := h; exact (rlong_any h1 h2).mono fun e w' ⟨he, hn⟩ => by subst he; exact hn.out (num_why _ _ h3)
  flag := fun hf _ _ _ _ _ _ h _ _ => by cases hf; obtain ⟨g, X, cap, r, rfl, h1, h2, h3, rfl⟩ := h; exact (rflag_any h1 h2).mono fun e w' ⟨he, hn⟩ => by subst he; exact hn.out (flag_why _ h3)
  bytes := fun hf _ _ _ _ _ _ h _ _ => by cases hf; obtain ⟨g, X, cap, r, rfl, h1, h2, h3, rfl⟩ := h; exact (rbytes_any h1 h2).mono fun e w' ho => ho.out (bytes_why _ h3)
  raw := fun hf _ _ _ _ _ _ h _ _ n h0 hn => by cases hf; obtain ⟨g, X, cap, r, rfl, h1, h2, h3, rfl⟩ := h; exact (rraw_any h1 h2 n (by omega) (by omega)).mono fun e w' ho => ho.out (raw_why _ _ h3)
  left := fun hf => by cases hf
  fin := fun hf _ _ _ _ _ _ h _ _ => by cases hf; obtain ⟨g, X, cap, r, rfl, h1, h2, h3, rfl⟩ := h; exact rend_any h1 h2
theorem rmake : RMake rsaid := ⟨fun w A L cap hr _ hl => rnew_any w A L cap hr hl⟩
end Go.Proofs.Ytmcbpgbiephllaa

namespace Go.Proofs.Ytmcbpgbiephllaa
open Go.RowKit Rc
open St (Opn)
namespace Op
def kT : Opn := ⟨14, [100, 111, 101, 115, 32, 110, 111, 116, 32, 109, 97, 116, 116, 101, 114], [], 0, 0, 0, 0, 0, []⟩
theorem kT_enc : enc kT = ([14], 0) := by decide
theorem dec_nil : dec [] = (zero, 30) := by decide
set_option maxHeartbeats 2000000 in
set_option maxRecDepth 100000 in
theorem known_any (w : World) : Calls Try.prog 15 #[] w fun e w' => e = .returned (.bool true) ∧ Below w.heap.size w w' := by
  have hE := encode_any wsaid kT (by decide) w none 0 (Nat.le_refl _) (Rd.nil _ _)
  rw [kT_enc] at hE
  have HE : Hid (Calls Try.prog 21 #[.agg #[.int .i64 14, .string { data := #[100, 111, 101, 115, 32, 110, 111, 116, 32, 109, 97, 116, 116, 101, 114] }, .string { data := #[] }, .int .i64 0, .int .i64 0, .int .i64 0, .int .u64 0, .int .i64 0, .slice none 0 0]] w (EAns [14] 0 w)) := hE
  have HD : Hid (∀ W, Calls Try.prog 22 #[.slice none 0 0] W fun e w' => ∃ X c, e = .returned (.tuple #[.agg #[.int .i64 0, .string ⟨#[]⟩, .string ⟨#[]⟩, .int .i64 0, .int .i64 0, .int .i64 0, .int .u64 0, .int .i64 0, .slice X 0 c], .int .i64 30]) ∧ Below W.heap.size W w') := fun W => by
    refine (decode_any rmake W none [] 0 (Rd.nil _ _) (Nat.le_refl _) (by decide)).mono ?_
    rintro e w' ⟨X, c, rfl, _, _, hb⟩
    rw [dec_nil]
    exact ⟨X, c, rfl, hb⟩
  clear hE
  go_enter Try.func15, Try.ntmps15
  go_wp2_with fail
  refine HE.out.mono ?_
  rintro e w1 ⟨X, c, rfl, hc, hr, hb⟩
  have HB1 := Lib.hid hb
  have HR1 := Lib.hid hr
  clear hb hr hc HE
  go_wp2_with fail
  refine (HD.out w1).mono ?_
  rintro e w2 ⟨X2, c2, rfl, hb⟩
  obtain ⟨W3, hW3⟩ : ∃ W, W = w2.alloc (.cells #[.int .i64 0, .string ⟨#[]⟩, .string ⟨#[]⟩, .int .i64 0, .int .i64 0, .int .i64 0, .int .u64 0, .int .i64 0, .slice X2 0 c2] 25) := ⟨_, rfl⟩
  have hb3 : Below w2.heap.size w2 W3 := by rw [hW3]; exact below_new w2 _
  have HB3 : Hid (Below w.heap.size w W3) := (HB1.out.trans (hb.mono HB1.out.size)).trans (hb3.mono (Nat.le_trans HB1.out.size hb.size))
  have hst : (convert 23 9 (.slice X 1 c)).run Try.prog W3 = .ok (.string ⟨#[14]⟩) W3 := str_any W3 X [14] c ((HR1.out.below hb).below hb3)
  clear hb hb3 HD HB1
  go_upto_region 3 with (fail)
  rw [← hW3]
  clear hW3
  go_wp2_with fail
  go_ret
  exact ⟨rfl, HB3.out⟩
end Op
end Go.Proofs.Ytmcbpgbiephllaa

namespace Go.Proofs.Ytmcbpgbiephllaa
open Go.RowKit Rc
namespace Ob

section
variable {P : Program} {F : Nat → Rc.Fact} {cons : List (Nat × Nat)} {E : Nat → (Nat → Value) → Value → Prop} {V : Nat → Value} {S : Nat → Nat → Prop} {j : Nat} {o : Oper} {b : Act} {w : World}
end
section
variable {σ : Type} {F : Nat → Rc.Fact} {cons : List (Nat × Nat)} {E : Nat → (Nat → Value) → Value → Prop} {V : Nat → Value} {S : Nat → Nat → Prop} {j : Nat} {o : Oper} {b : Act} {w w0 : World} {B : Nat → Prop}
end
end Ob
end Go.Proofs.Ytmcbpgbiephllaa

namespace Go.Proofs.Ytmcbpgbiephllaa
open Go.RowKit Rc
namespace Ob
def onlyB (g : Nat) : Nat → Prop := fun b => b = g
def blk (T : TypeId) : Obj (List Value) where
  At v s S w := ∃ g, v = .pointer (some ⟨g, 0, none⟩) ∧ Blk w g T s ∧ S = onlyB g
  keep h _ hb := by
    obtain ⟨g, h1, h2, rfl⟩ := h
    exact ⟨g, h1, (hb g rfl).trans h2, rfl⟩
  lt h b hb := by
    obtain ⟨g, h1, h2, rfl⟩ := h
    have e : b = g := hb
    subst e
    exact h2.lt
  ptr h := by obtain ⟨g, h1, _⟩ := h; exact ⟨_, h1⟩
section
variable {F : Nat → Rc.Fact} {cons : List (Nat × Nat)} {E : Nat → (Nat → Value) → Value → Prop} {V : Nat → Value} {S : Nat → Nat → Prop} {j : Nat} {o : Oper} {b : Act} {w w0 : World} {B : Nat → Prop}
end
end Ob
end Go.Proofs.Ytmcbpgbiephllaa

namespace Go.Proofs.Ytmcbpgbiephllaa
open Go.RowKit Rc
namespace Ob
def pairB (g h : Nat) : Nat → Prop := fun b => b = g ∨ b = h
def pair (T : TypeId) (h : Nat) : Obj (List Value × List Value) where
  At v s S w := ∃ g, v = .pointer (some ⟨g, 0, none⟩) ∧ Blk w g T s.1 ∧ Blk w h T s.2 ∧ S = pairB g h
  keep h _ hb := by
    obtain ⟨g, h1, h2, h3, rfl⟩ := h
    exact ⟨g, h1, (hb g (.inl rfl)).trans h2, (hb _ (.inr rfl)).trans h3, rfl⟩
  lt h b hb := by
    obtain ⟨g, h1, h2, h3, rfl⟩ := h
    rcases hb with e | e
    · subst e; exact h2.lt
    · subst e; exact h3.lt
  ptr h := by obtain ⟨g, h1, _⟩ := h; exact ⟨_, h1⟩
theorem pair_at {T : TypeId} {g h : Nat} {s : List Value × List Value} {S : Nat → Prop} {w : World} (k : (pair T h).At (.pointer (some ⟨g, 0, none⟩)) s S w) : (Blk w g T s.1 ∧ Blk w h T s.2) ∧ S = pairB g h := by
  obtain ⟨g', h1, h2, h3, h4⟩ := k
  injection h1 with h1
  injection h1 with h1
  injection h1 with h1
  subst h1
  exact ⟨⟨h2, h3⟩, h4⟩
theorem pair_one {T : TypeId} {g h : Nat} {s : List Value × List Value} {w0 w : World} (h1 : Blk w g T s.1) (h2 : Blk w h T s.2) (hb : Below w0.heap.size w0 w) (hg : w0.heap.size ≤ g) (hh : w0.heap.size ≤ h) : One (pair T h) (.pointer (some ⟨g, 0, none⟩)) w0 w0 (fun _ => False) s (pairB g h) w :=
  have hl : ∀ b, pairB g h b → w0.heap.size ≤ b := fun b hb2 => by
    rcases hb2 with e | e
    · omega
    · omega
  ⟨⟨g, rfl, h1, h2, rfl⟩, Mod.of_below hb _, fun b hb2 => .inr (hl b hb2), hb, hl⟩
theorem pair_mod1 {g h : Nat} {w w' : World} (k : Keeps w w' g) : Mod w w' (pairB g h) := ⟨k.os, k.tape, k.output, k.size, fun b hb hn => k.block b hb (fun e => hn (.inl (by injection e)))⟩
theorem pair_mod2 {g h : Nat} {w w' : World} (k : Keeps w w' h) : Mod w w' (pairB g h) := ⟨k.os, k.tape, k.output, k.size, fun b hb hn => k.block b hb (fun e => hn (.inr (by injection e)))⟩
section
variable {F : Nat → Rc.Fact} {cons : List (Nat × Nat)} {E : Nat → (Nat → Value) → Value → Prop} {V : Nat → Value} {S : Nat → Nat → Prop} {j : Nat} {o : Oper} {b : Act} {w w0 : World} {B : Nat → Prop}
theorem step_pair {T : TypeId} {g h : Nat} {s : List Value × List Value} {i : Nat} (s' : List Value × List Value) (W' : World) (hF : F j = turned (pair T h) (.pointer (some ⟨g, 0, none⟩)) (Ups B w0) undef s') (hi : (j, i) ∈ cons) (hu : ∃ S1, (pair T h).At (.pointer (some ⟨g, 0, none⟩)) s S1 w ∧ (∀ b, S1 b → S i b) ∧ ∀ b, S1 b → Ups B w0 b)
    (hE : ∀ v, E j V v) (hg : Rg.Open o V) (hrun : (execOp b.eval o).run Try.prog w = .ok .skip W') (hb : Blk W' g T s'.1 ∧ Blk W' h T s'.2) (hm : Mod w W' (pairB g h)) : Rg.Does1 Try.prog o V b w (Rc.Good F cons E V S j w) := by
  obtain ⟨S1, hat, hsub, hup⟩ := hu
  obtain ⟨_, rfl⟩ := pair_at hat
  refine .of hg fun K hK => ?_
  unfold Oper.wp
  rw [hrun]
  refine hK undef W' ⟨pairB g h, ⟨hm.os, hm.tape, hm.output, hm.size, fun x hx hn => hm.block x hx (fun hp => hn ⟨i, hi, hsub x hp⟩)⟩, ?_, fun x hx => ⟨.inl ⟨i, hi, hsub x hx⟩, ?_⟩, hE _⟩
  · rw [hF]
    exact ⟨rfl, pairB g h, ⟨g, rfl, hb.1, hb.2, rfl⟩, fun _ h => h, hup⟩
  · rcases hx with e | e
    · subst e; exact hb.1.lt
    · subst e; exact hb.2.lt
end
end Ob
end Go.Proofs.Ytmcbpgbiephllaa

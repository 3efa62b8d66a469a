/-
  OWN WORK. CpRCode, ReRd, OpWr, ReEnc, ReDec, ReRefDec, ReLaw, ReBackL
-/
import Derived.Test.YtmcbpgbiephllaaDoorX02
import Derived.Test.YtmcbpgbiephllaaDoorX03
import Derived.Lib.ConvBytes
import Derived.BigRegion
import Derived.Test.YtmcbpgbiephllaaDoorX01

namespace Go.Proofs.YtmcbpgbiephllaaDoor
open Go.RowKit Rc

structure RrIn (g : Nat) (X : Option Addr) (cap : Nat) (r : List UInt8) (why : Nat) (w : World) : Prop where
  blk : Blk w g 79 [.slice X r.length cap, .int .i64 (why : Nat)]
  fits : r.length ≤ cap
  small : r.length ≤ 140737488355328
  rd : Rd w X r
  off : ∀ b, X.map (·.block) = some b → b ≠ g ∧ b < w.heap.size
def RrS (g : Nat) (X : Option Addr) : Nat → Prop := fun b => b = g ∨ X.map (·.block) = some b
def RrAt (v : Value) (s : Co.Rs) (S : Nat → Prop) (w : World) : Prop :=
  ∃ g X cap r, v = .pointer (some ⟨g, 0, none⟩) ∧ RrIn g X cap r s.why w ∧ r = (if s.why = 0 then s.rem else []) ∧ s.why ≤ 1000 ∧ S = RrS g X
def TakeOut (g : Nat) (X : Option Addr) (n : Int) (s : Co.Rs) (w : World) (e : Ending) (w' : World) : Prop :=
  ∃ X1 l c1 X2 r2 c2, e = .returned (.slice X1 (List.length l) c1) ∧ l = (Co.raw n s).1 ∧ l.length ≤ c1 ∧ Rd w' X1 l ∧ RrIn g X2 c2 r2 (Co.raw n s).2.why w' ∧ r2 = (if (Co.raw n s).2.why = 0 then (Co.raw n s).2.rem else []) ∧
    (∀ b, X2.map (·.block) = some b → X.map (·.block) = some b) ∧ (∀ b, 0 < l.length → X1.map (·.block) = some b → X.map (·.block) = some b) ∧ Keeps w w' g

set_option maxHeartbeats 1000000 in
theorem refuse_any {g : Nat} {X : Option Addr} {cap : Nat} {r : List UInt8} {why : Nat} {w : World} (h : RrIn g X cap r why w) (y : Nat) (_hy : y ≤ 1000) :
    Calls Tryd.prog 55 #[.pointer (some ⟨g, 0, none⟩), .int .i64 (y : Nat)] w fun e w' => e = .returned (.tuple #[]) ∧ RrIn g none 0 [] (if why = 0 then y else why) w' ∧ Keeps w w' g := by
  have c1 : w.cell? ⟨g, 1, none⟩ = some (.int .i64 (why : Nat)) := h.blk.cell 1
  have c0 : w.cell? ⟨g, 0, none⟩ = some (.slice X r.length cap) := h.blk.cell 0
  have f0 := h.blk.frozen 0
  have f1 := h.blk.frozen 1
  have HB := Lib.hid h.blk
  clear h
  by_cases h1 : why = 0
  · subst h1
    go_enter Tryd.func55, Tryd.ntmps55
    go_wp2_with fail
    go_end0
    exact ⟨rfl, ⟨(HB.out.set_ 1 _).set_ 0 _, by simp, by simp, Rd.nil _ _, by simp⟩, ((Keeps.refl _ _).setCell _ _).setCell _ _⟩
  · have hw : ((why : Nat) : Int) ≠ 0 := by omega
    go_enter Tryd.func55, Tryd.ntmps55
    go_wp2_with fail
    go_end0
    exact ⟨rfl, ⟨HB.out.set_ 0 _, by simp, by simp, Rd.nil _ _, by simp⟩, (Keeps.refl _ _).setCell _ _⟩

set_option maxHeartbeats 1000000 in
set_option maxRecDepth 100000 in
theorem take_any {g : Nat} {X : Option Addr} {cap : Nat} {r : List UInt8} {s : Co.Rs} {w : World} (h : RrIn g X cap r s.why w) (hr : r = if s.why = 0 then s.rem else []) (n : Int) (hn : n ≤ 140737488355328) (hn0 : -140737488355328 ≤ n) :
    Calls Tryd.prog 54 #[.pointer (some ⟨g, 0, none⟩), .int .i64 n] w (TakeOut g X n s w) := by
  have H := Lib.hid h
  have HRR := Lib.hid hr
  have c0 : w.cell? ⟨g, 0, none⟩ = some (.slice X r.length cap) := h.blk.cell 0
  have f0 := h.blk.frozen 0
  have hsm := h.small
  have hfit := h.fits
  clear h hr
  by_cases h1 : n < 1
  · go_enter Tryd.func54, Tryd.ntmps54
    go_wp2_with fail
    go_ret
    have e : Co.raw n s = ([], s) := by unfold Co.raw; rw [if_pos (.inr h1)]
    refine ⟨none, [], 0, X, r, cap, rfl, by rw [e], by simp, Rd.nil _ _, ?_, ?_, fun b h => h, fun b h => absurd h (by simp), Keeps.refl _ _⟩
    · rw [e]; exact H.out
    · rw [e]; exact HRR.out
  · by_cases h2 : ((r.length : Nat) : Int) < n
    · go_enter Tryd.func54, Tryd.ntmps54
      go_wp2_with fail
      refine (refuse_any H.out 10 (by omega)).mono ?_
      rintro e w1 ⟨rfl, hin, hk⟩
      have HI := Lib.hid hin
      have HK := Lib.hid hk
      clear hin hk
      go_wp2_with fail
      go_ret
      have e : (Co.raw n s).1 = [] ∧ (Co.raw n s).2.why = (if s.why = 0 then 10 else s.why) := by
        have := HRR.out
        unfold Co.raw
        by_cases hw : s.why = 0
        · rw [if_pos hw] at this
          subst this
          rw [if_neg (by simp [hw]; omega), if_pos h2, if_pos hw]
          exact ⟨rfl, rfl⟩
        · rw [if_pos (.inl hw), if_neg hw]
          exact ⟨rfl, rfl⟩
      have ew : (Co.raw n s).2.why ≠ 0 := by rw [e.2]; split <;> omega
      refine ⟨none, [], 0, none, [], 0, rfl, e.1.symm, by simp, Rd.nil _ _, ?_, by rw [if_neg ew], fun b h => (by cases h), fun b h => absurd h (by simp), HK.out⟩
      rw [e.2]
      exact HI.out
    · obtain ⟨q, rfl⟩ : ∃ q : Nat, n = (q : Nat) := ⟨n.toNat, by omega⟩
      go_enter Tryd.func54, Tryd.ntmps54
      have hqr : q ≤ r.length := by omega
      have hslh := fun W => sl_h W X r.length cap q (by omega)
      have hsll := fun W => sl_l W X r.length cap q hqr
      have HW : Hid (s.why = 0 ∧ r = s.rem) := by
        have h3 := HRR.out
        by_cases hw : s.why = 0
        · rw [if_pos hw] at h3; exact ⟨hw, h3⟩
        · rw [if_neg hw] at h3; subst h3; simp at hqr; omega
      clear hslh
      go_wp2_with fail
      go_ret
      obtain ⟨hw, hrr⟩ := HW.out
      have e : Co.raw (q : Int) s = (r.take q, ⟨r.drop q, s.why⟩) := by
        unfold Co.raw
        rw [if_neg (by simp [hw]; omega), if_neg (by rw [← hrr]; omega), ← hrr]
        rfl
      have hcb : ∀ b, (cutA X q cap).map (·.block) = some b → X.map (·.block) = some b := fun b hb => by
        unfold cutA at hb
        split at hb
        · exact hb
        · cases X with
          | none => exact hb
          | some a => simp only [Option.map_some, block_of_add] at hb; exact hb
      have hk : Keeps w (w.setCell ⟨g, 0, none⟩ (.slice (cutA X q cap) (r.length - q) (cap - q))) g := (Keeps.refl _ _).setCell _ _
      have hne : X.map (·.block) ≠ some g := fun e => (H.out.off g e).1 rfl
      have hl1 : (r.take q).length = q := by rw [List.length_take]; omega
      have hl2 : (r.drop q).length = r.length - q := List.length_drop
      refine ⟨X, r.take q, cap, cutA X q cap, r.drop q, cap - q, by rw [hl1]; rfl, by rw [e], by omega, (H.out.rd.take q).keeps hk (fun _ => hne), ?_, by rw [e]; simp [hw], hcb, fun b _ h => h, hk⟩
      rw [e]
      refine ⟨?_, by omega, by omega, (H.out.rd.cut q cap hfit).keeps hk (fun _ e => hne (hcb g e)), fun b hb => ?_⟩
      · rw [hl2]; exact H.out.blk.set_ 0 _
      · have := H.out.off b (hcb b hb)
        exact ⟨this.1, Nat.lt_of_lt_of_le this.2 hk.size⟩

def RrNext (g : Nat) (X : Option Addr) (s' : Co.Rs) (w w' : World) : Prop :=
  ∃ X2 c2 r2, RrIn g X2 c2 r2 s'.why w' ∧ r2 = (if s'.why = 0 then s'.rem else []) ∧ (∀ b, X2.map (·.block) = some b → X.map (·.block) = some b) ∧ Keeps w w' g
theorem RrNext.below {g : Nat} {X : Option Addr} {s' : Co.Rs} {w w' w2 : World} (h : RrNext g X s' w w') (hb : Below w'.heap.size w' w2) : RrNext g X s' w w2 := by
  obtain ⟨X2, c2, r2, h1, h2, h3, h4⟩ := h
  exact ⟨X2, c2, r2, ⟨h1.blk.below hb h1.blk.lt, h1.fits, h1.small, h1.rd.below hb, fun b h => ⟨(h1.off b h).1, Nat.lt_of_lt_of_le (h1.off b h).2 hb.size⟩⟩, h2, h3, h4.trans (Keeps.of_below hb)⟩
theorem RrNext.then {g : Nat} {X X2 : Option Addr} {s' : Co.Rs} {w w' w2 : World} (h4 : Keeps w w' g) (h3 : ∀ b, X2.map (·.block) = some b → X.map (·.block) = some b) (h : RrNext g X2 s' w' w2) : RrNext g X s' w w2 := by
  obtain ⟨X3, c3, r3, k1, k2, k3, k4⟩ := h
  exact ⟨X3, c3, r3, k1, k2, fun b hb => h3 b (k3 b hb), h4.trans k4⟩
theorem raw_len (n : Int) (s : Co.Rs) : (Co.raw n s).1.length ≤ s.rem.length := by
  unfold Co.raw
  split
  · simp
  · split
    · simp
    · show (s.rem.take _).length ≤ _
      rw [List.length_take]; omega

set_option maxHeartbeats 1000000 in
set_option maxRecDepth 100000 in
theorem rnumber_any {g : Nat} {X : Option Addr} {cap : Nat} {r : List UInt8} {s : Co.Rs} {w : World} (h : RrIn g X cap r s.why w) (hr : r = if s.why = 0 then s.rem else []) (n : Int) (hn : n ≤ 140737488355328) (hn0 : -140737488355328 ≤ n) :
    Calls Tryd.prog 50 #[.pointer (some ⟨g, 0, none⟩), .int .i64 n] w fun e w' => e = .returned (.int .u64 ((Co.num n s).1 : Nat)) ∧ RrNext g X (Co.num n s).2 w w' := by
  have H := Lib.hid h
  have HR := Lib.hid hr
  clear h hr
  go_enter Tryd.func50, Tryd.ntmps50
  go_wp2_with fail
  refine (take_any H.out HR.out n hn hn0).mono ?_
  rintro e w1 ⟨X1, l, c1, X2, r2, c2, rfl, hl, hlc, hrd, hin, hr2, hX2, hX1, hk⟩
  have HL := Lib.hid hl
  have HRD := Lib.hid hrd
  have HN : Hid (RrNext g X (Co.num n s).2 w w1) := ⟨X2, c2, r2, hin, hr2, hX2, hk⟩
  have hsm : l.length ≤ 140737488355328 := by
    rw [hl]
    by_cases hw : s.why = 0
    · have e := HR.out
      rw [if_pos hw] at e
      have h5 := raw_len n s
      have h6 := H.out.small
      rw [← e] at h5
      omega
    · unfold Co.raw
      rw [if_pos (.inl hw)]
      simp
  clear hl hrd hin hr2 hX2 hX1 hk hlc H HR
  go_wp2_with fail
  go_loop [5, 12] (fun t5 t12 => ∃ (k x : Nat), k ≤ l.length ∧ t12 = .int .i64 (k : Nat) ∧ t5 = .int .u64 (x : Nat) ∧ Hid (x = Co.beVal (l.take k))) (fun _ t12 => l.length - (intOf t12).toNat)
  case atStart => exact ⟨0, 0, by omega, rfl, rfl, rfl⟩
  case round =>
    obtain ⟨k, x, hk, rfl, rfl, HX⟩ := hrel
    by_cases hlt : k < l.length
    · obtain ⟨b, off, rfl, _, hcell⟩ := HRD.out.at_ (by omega)
      have c0 := hcell k hlt
      obtain ⟨y, hy⟩ : ∃ y : Nat, y = (l.getD k 0).toNat := ⟨_, rfl⟩
      have hy8 : y < 256 := by rw [hy]; exact (l.getD k 0).toNat_lt
      rw [← hy] at c0
      have HY := Lib.hid hy
      have hor := Co.bits_or64 x y hy8
      obtain ⟨z, hz⟩ : ∃ z : Nat, z = (x * 256 + y) % 18446744073709551616 := ⟨_, rfl⟩
      rw [← hz] at hor
      have HZ := Lib.hid hz
      clear hcell hy hz
      go_wp2_with fail
      go_round
      case rel => exact ⟨k + 1, z, by omega, by go_num, rfl, by show _ = _; rw [Co.beVal_snoc _ _ hlt, ← HX.out, ← HY.out, HZ.out]⟩
      case measure => simp [intOf]; omega
    · obtain rfl : k = l.length := by omega
      have HF : Hid (x = Co.beVal l) := by show _ = _; rw [HX.out, List.take_length]
      clear HX
      go_wp2_with fail
      go_ret
      refine ⟨?_, HN.out⟩
      rw [HF.out, HL.out]
      rfl

theorem num_why (n : Int) (s : Co.Rs) (h : s.why ≤ 1000) : (Co.num n s).2.why ≤ 1000 := by
  unfold Co.num Co.raw
  split
  · exact h
  · split
    · show 10 ≤ 1000; omega
    · exact h
theorem RrNext.out {g : Nat} {X : Option Addr} {A : Option Addr} {L : List UInt8} {x : Value} {s' : Co.Rs} {w w' : World} (h : RrNext g X s' w w') (hs : s'.why ≤ 1000) : ROut (fun v _ _ s S w => RrAt v s S w) (.pointer (some ⟨g, 0, none⟩)) A L x s' (RrS g X) w (.returned x) w' := by
  obtain ⟨X2, c2, r2, h1, h2, h3, h4⟩ := h
  refine ⟨rfl, RrS g X2, ⟨g, X2, c2, r2, rfl, h1, h2, hs, rfl⟩, ⟨h4.os, h4.tape, h4.output, h4.size, fun k hk hn => h4.block k hk fun e => hn (.inl (by injection e))⟩, fun b hb => ?_⟩
  rcases hb with h | h
  · exact .inl (.inl h)
  · exact .inl (.inr (h3 b h))
set_option maxHeartbeats 1000000 in
theorem rbyte_any {g : Nat} {X : Option Addr} {cap : Nat} {r : List UInt8} {s : Co.Rs} {w : World} (h : RrIn g X cap r s.why w) (hr : r = if s.why = 0 then s.rem else []) :
    Calls Tryd.prog 34 #[.pointer (some ⟨g, 0, none⟩)] w fun e w' => e = .returned (.int .i64 ((Co.num 1 s).1 : Nat)) ∧ RrNext g X (Co.num 1 s).2 w w' := by
  have H := Lib.hid h
  have HR := Lib.hid hr
  have hs := num_small1 s
  clear h hr
  go_enter Tryd.func34, Tryd.ntmps34
  go_wp2_with fail
  refine (rnumber_any H.out HR.out 1 (by omega) (by omega)).mono ?_
  rintro e w1 ⟨rfl, hn⟩
  have HN := Lib.hid hn
  obtain ⟨x, hx⟩ : ∃ x, x = (Co.num 1 s).1 := ⟨_, rfl⟩
  rw [← hx] at hs ⊢
  have HX := Lib.hid hx
  clear hn hx
  have hw : IntKind.i64.wrap (x : Int) = (x : Int) := IntWalk.i64_in _ (by omega)
  go_wp2_with fail
  go_ret
  exact ⟨by rw [← HX.out]; rfl, HN.out⟩
set_option maxHeartbeats 1000000 in
theorem rshort_any {g : Nat} {X : Option Addr} {cap : Nat} {r : List UInt8} {s : Co.Rs} {w : World} (h : RrIn g X cap r s.why w) (hr : r = if s.why = 0 then s.rem else []) :
    Calls Tryd.prog 38 #[.pointer (some ⟨g, 0, none⟩)] w fun e w' => e = .returned (.int .i64 ((Co.num 2 s).1 : Nat)) ∧ RrNext g X (Co.num 2 s).2 w w' := by
  have H := Lib.hid h
  have HR := Lib.hid hr
  have hs := num_small2 s
  clear h hr
  go_enter Tryd.func38, Tryd.ntmps38
  go_wp2_with fail
  refine (rnumber_any H.out HR.out 2 (by omega) (by omega)).mono ?_
  rintro e w1 ⟨rfl, hn⟩
  have HN := Lib.hid hn
  obtain ⟨x, hx⟩ : ∃ x, x = (Co.num 2 s).1 := ⟨_, rfl⟩
  rw [← hx] at hs ⊢
  have HX := Lib.hid hx
  clear hn hx
  have hw : IntKind.i64.wrap (x : Int) = (x : Int) := IntWalk.i64_in _ (by omega)
  go_wp2_with fail
  go_ret
  exact ⟨by rw [← HX.out]; rfl, HN.out⟩
set_option maxHeartbeats 1000000 in
theorem rlong_any {g : Nat} {X : Option Addr} {cap : Nat} {r : List UInt8} {s : Co.Rs} {w : World} (h : RrIn g X cap r s.why w) (hr : r = if s.why = 0 then s.rem else []) :
    Calls Tryd.prog 36 #[.pointer (some ⟨g, 0, none⟩)] w fun e w' => e = .returned (.int .u64 ((Co.num 8 s).1 : Nat)) ∧ RrNext g X (Co.num 8 s).2 w w' := by
  have H := Lib.hid h
  have HR := Lib.hid hr
  clear h hr
  go_enter Tryd.func36, Tryd.ntmps36
  go_wp2_with fail
  refine (rnumber_any H.out HR.out 8 (by omega) (by omega)).mono ?_
  rintro e w1 ⟨rfl, hn⟩
  have HN := Lib.hid hn
  obtain ⟨x, hx⟩ : ∃ x, x = (Co.num 8 s).1 := ⟨_, rfl⟩
  rw [← hx] at ⊢
  have HX := Lib.hid hx
  clear hn hx
  go_wp2_with fail
  go_ret
  exact ⟨by rw [← HX.out]; rfl, HN.out⟩
def RrRow (g : Nat) (X : Option Addr) (p : List UInt8 × Co.Rs) (w : World) (e : Ending) (w' : World) : Prop :=
  ∃ v, e = .returned v ∧ w'.ownsRow w.heap.size 5 1 v p.1.length (Lib.byteCells p.1) ∧ RrNext g X p.2 w w'
set_option maxHeartbeats 1000000 in
theorem rraw_any {g : Nat} {X : Option Addr} {cap : Nat} {r : List UInt8} {s : Co.Rs} {w : World} (h : RrIn g X cap r s.why w) (hr : r = if s.why = 0 then s.rem else []) (n : Int) (hn : n ≤ 140737488355328) (hn0 : -140737488355328 ≤ n) :
    Calls Tryd.prog 51 #[.pointer (some ⟨g, 0, none⟩), .int .i64 n] w (RrRow g X (Co.raw n s) w) := by
  have H := Lib.hid h
  have HR := Lib.hid hr
  clear h hr
  go_enter Tryd.func51, Tryd.ntmps51
  go_wp2_with fail
  refine (take_any H.out HR.out n hn hn0).mono ?_
  rintro e w1 ⟨X1, l, c1, X2, r2, c2, rfl, hl, hlc, hrd, hin, hr2, hX2, hX1, hk⟩
  have HL := Lib.hid hl
  have HRD := Lib.hid hrd
  have HN : Hid (RrNext g X (Co.raw n s).2 w w1) := ⟨X2, c2, r2, hin, hr2, hX2, hk⟩
  have HS := Lib.hid hk.size
  have hsm : l.length ≤ 140737488355328 := by
    rw [hl]
    by_cases hw : s.why = 0
    · have e := HR.out
      rw [if_pos hw] at e
      have h5 := raw_len n s
      have h6 := H.out.small
      rw [← e] at h5
      omega
    · unfold Co.raw
      rw [if_pos (.inl hw)]
      simp
  clear hl hrd hin hr2 hX2 hX1 hk hlc H HR
  go_wp2_with fail
  refine (clone_any w1 X1 l c1 HRD.out (by omega)).mono ?_
  rintro e w2 ⟨v, rfl, hown, hb⟩
  have HF : Hid (RrRow g X (Co.raw n s) w (.returned v) w2) := ⟨v, rfl, by rw [← HL.out]; exact own_mono hown HS.out, HN.out.below hb⟩
  clear hown hb
  go_wp2_with fail
  go_ret
  exact HF.out
set_option maxHeartbeats 1000000 in
theorem rbytes_any {g : Nat} {X : Option Addr} {cap : Nat} {r : List UInt8} {s : Co.Rs} {w : World} (h : RrIn g X cap r s.why w) (hr : r = if s.why = 0 then s.rem else []) :
    Calls Tryd.prog 37 #[.pointer (some ⟨g, 0, none⟩)] w (RrRow g X (Co.bytes s) w) := by
  have H := Lib.hid h
  have HR := Lib.hid hr
  have hs := num_small2 s
  clear h hr
  go_enter Tryd.func37, Tryd.ntmps37
  go_wp2_with fail
  refine (rshort_any H.out HR.out).mono ?_
  rintro e w1 ⟨rfl, hn⟩
  obtain ⟨X2, c2, r2, hin, hr2, hX2, hk⟩ := hn
  have HI := Lib.hid hin
  have HR2 := Lib.hid hr2
  have HK := Lib.hid hk
  have HX2 := Lib.hid hX2
  obtain ⟨x, hx⟩ : ∃ x, x = (Co.num 2 s).1 := ⟨_, rfl⟩
  rw [← hx] at hs ⊢
  have HX := Lib.hid hx
  clear hin hr2 hX2 hk hx H HR
  go_wp2_with fail
  refine (rraw_any HI.out HR2.out (x : Int) (by omega) (by omega)).mono ?_
  rintro e w2 ⟨v, rfl, hown, hn⟩
  have HF : Hid (RrRow g X (Co.bytes s) w (.returned v) w2) := by
    refine ⟨v, rfl, ?_, ?_⟩
    · have := own_mono hown HK.out.size
      rw [HX.out] at this
      exact this
    · have := RrNext.then HK.out HX2.out hn
      rw [HX.out] at this
      exact this
  clear hown hn
  go_wp2_with fail
  go_ret
  exact HF.out
theorem raw_why (n : Int) (s : Co.Rs) (h : s.why ≤ 1000) : (Co.raw n s).2.why ≤ 1000 := num_why n s h
theorem bytes_why (s : Co.Rs) (h : s.why ≤ 1000) : (Co.bytes s).2.why ≤ 1000 := raw_why _ _ (num_why 2 s h)
theorem RrRow.out {g : Nat} {X : Option Addr} {A : Option Addr} {L : List UInt8} {p : List UInt8 × Co.Rs} {w : World} {e : Ending} {w' : World} (h : RrRow g X p w e w') (hs : p.2.why ≤ 1000) : RRow (fun v _ _ s S w => RrAt v s S w) (.pointer (some ⟨g, 0, none⟩)) A L p (RrS g X) w e w' := by
  obtain ⟨v, rfl, hown, hn⟩ := h
  obtain ⟨Y, c, rfl, hc, hrow, hlt⟩ := RowS.of_own A L hown rfl
  obtain ⟨_, S', h1, h2, h3⟩ := RrNext.out (A := A) (L := L) (x := .slice Y p.1.length c) hn hs
  exact ⟨Y, c, S', _, rfl, hc, hrow, h1, h2, h3, fun b hb => ⟨.inr (hlt b hb).1, (hlt b hb).2⟩⟩
set_option maxHeartbeats 1000000 in
theorem rend_any {g : Nat} {X : Option Addr} {cap : Nat} {r : List UInt8} {s : Co.Rs} {w : World} (h : RrIn g X cap r s.why w) (hr : r = if s.why = 0 then s.rem else []) :
    Calls Tryd.prog 39 #[.pointer (some ⟨g, 0, none⟩)] w fun e w' => e = .returned (.int .i64 (Co.fin s : Nat)) ∧ Below w.heap.size w w' := by
  have c0 : w.cell? ⟨g, 0, none⟩ = some (.slice X r.length cap) := h.blk.cell 0
  have c1 : w.cell? ⟨g, 1, none⟩ = some (.int .i64 (s.why : Nat)) := h.blk.cell 1
  obtain ⟨rem, why⟩ := s
  simp only at c1 hr
  clear h
  by_cases h1 : why = 0
  · subst h1
    rw [if_pos rfl] at hr
    subst hr
    by_cases h2 : 0 < r.length
    · have HF : Hid (Co.fin ⟨r, 0⟩ = 11) := by show _ = _; unfold Co.fin; simp [h2]
      have h3 : (0 : Int) < (r.length : Int) := by omega
      go_enter Tryd.func39, Tryd.ntmps39
      go_wp2_with fail
      go_ret
      exact ⟨by rw [HF.out]; rfl, Below.refl _ _⟩
    · have HF : Hid (Co.fin ⟨r, 0⟩ = 0) := by show _ = _; unfold Co.fin; simp [h2]
      go_enter Tryd.func39, Tryd.ntmps39
      go_wp2_with fail
      go_ret
      exact ⟨by rw [HF.out]; rfl, Below.refl _ _⟩
  · have hw : ((why : Nat) : Int) ≠ 0 := by omega
    have HF : Hid (Co.fin ⟨rem, why⟩ = why) := by show _ = _; unfold Co.fin; simp [h1]
    go_enter Tryd.func39, Tryd.ntmps39
    go_wp2_with fail
    go_ret
    exact ⟨by rw [HF.out]; rfl, Below.refl _ _⟩
set_option maxHeartbeats 1000000 in
theorem rnew_any (w : World) (A : Option Addr) (L : List UInt8) (cap : Nat) (hr : Rd w A L) (hl : L.length ≤ 140737488351232) : Calls Tryd.prog 33 #[.slice A L.length cap] w fun e w' => ∃ v S, e = .returned v ∧ RrAt v ⟨L, 0⟩ S w' ∧ Below w.heap.size w w' ∧ ∀ b, S b → w.heap.size ≤ b := by
  have HR := Lib.hid hr
  clear hr
  go_enter Tryd.func33, Tryd.ntmps33
  go_wp2_with fail
  refine (clone_any w A L cap HR.out (by omega)).mono ?_
  rintro e w1 ⟨v, rfl, hown, hb⟩
  have ho : ∀ b, v.ownBlock = some b → w.heap.size ≤ b ∧ b < w1.heap.size := fun b h => own_lt hown h
  obtain ⟨X, c, rfl, hc, hrd⟩ := own_form hown
  have hX : ∀ b, X.map (·.block) = some b → w.heap.size ≤ b ∧ b < w1.heap.size := fun b h => ho b (by cases X with | none => cases h | some a => simpa [Value.ownBlock] using h)
  have HF : Hid (RrAt (.pointer (some ⟨w1.heap.size, 0, none⟩)) ⟨L, 0⟩ (RrS w1.heap.size X) (w1.alloc (.cells #[.slice X L.length c, .int .i64 0] 79)) ∧ Below w.heap.size w (w1.alloc (.cells #[.slice X L.length c, .int .i64 0] 79)) ∧ ∀ b, RrS w1.heap.size X b → w.heap.size ≤ b) := by
    refine ⟨⟨_, X, c, L, rfl, ⟨Blk.new w1 _ _, hc, by omega, hrd.below (below_new _ _), fun b h => ?_⟩, rfl, by show 0 ≤ 1000; omega, rfl⟩, hb.trans ((below_new w1 _).mono hb.size), fun b h => ?_⟩
    · have := hX b h
      rw [World.size_alloc]
      omega
    · rcases h with rfl | h
      · exact hb.size
      · exact (hX b h).1
  clear hown hb ho hc hrd hX
  go_wp2_with fail
  go_ret
  exact ⟨_, _, rfl, HF.out⟩

theorem RrAt.keep {v : Value} {s : Co.Rs} {S : Nat → Prop} {w w' : World} (h : RrAt v s S w) (hs : w.heap.size ≤ w'.heap.size) (hb : ∀ b, S b → w'.heap[b]? = w.heap[b]?) : RrAt v s S w' := by
  obtain ⟨g, X, cap, r, rfl, h1, h2, h3, rfl⟩ := h
  refine ⟨g, X, cap, r, rfl, ⟨(hb g (.inl rfl)).trans h1.blk, h1.fits, h1.small, h1.rd.keep (fun p hp e => ?_) hs, fun b h => ⟨(h1.off b h).1, Nat.lt_of_lt_of_le (h1.off b h).2 hs⟩⟩, h2, h3, rfl⟩
  unfold World.cell?
  rw [hb p.block (.inr e)]
theorem RrAt.lt {v : Value} {s : Co.Rs} {S : Nat → Prop} {w : World} (h : RrAt v s S w) : ∀ b, S b → b < w.heap.size := by
  obtain ⟨g, X, cap, r, rfl, h1, h2, h3, rfl⟩ := h
  rintro b (rfl | hb)
  · exact h1.blk.lt
  · exact (h1.off b hb).2
end Go.Proofs.YtmcbpgbiephllaaDoor

namespace Go.Proofs.YtmcbpgbiephllaaDoor
open Go.RowKit Rc
namespace Re
theorem results_blk1 {P : Program} {fn : Func} {p : Tmp} {ty : TypeId} (h : fn.results = #[.cell p ty]) (tmps : Array Value) (w : World) (g : Nat) (t : TypeId) (cs : List Value) (d : TypeDesc)
    (hp : tmps.getD p undef = .pointer (some ⟨g, 0, none⟩)) (hb : Blk w g t cs)
    (hu : P.underlying ty = some d) (hd : (match d with | .struct _ | .array _ _ => true | _ => false) = true) (hi : (P.info? ty).map (·.size) = some cs.length) :
    (results fn tmps).run P w = .ok (.agg cs.toArray) w :=
  results_cell_row h tmps w g t cs.toArray (0, 0) d hp hb hu hd (by simpa using hi)
theorem results_cell_tmp2 {fn : Func} {p u x : Tmp} {ty : TypeId} (h : fn.results = #[.cell p ty, .tmp u, .tmp x]) (tmps : Array Value) (P : Program) (w : World) :
    (results fn tmps).run P w = ((asAddr (tmps.getD p undef)).run P w).andThen fun a w₁ => ((loadVar ty a).run P w₁).andThen fun v w₂ => .ok (.tuple #[v, tmps.getD u undef, tmps.getD x undef]) w₂ := by
  simp only [results, h]
  simp [Sem.run_bind, Result.andThen]
theorem results_blk_tmp2 {P : Program} {fn : Func} {p u x : Tmp} {ty : TypeId} (h : fn.results = #[.cell p ty, .tmp u, .tmp x]) (tmps : Array Value) (w : World) (g : Nat) (t : TypeId) (cs : List Value) (d : TypeDesc)
    (hp : tmps.getD p undef = .pointer (some ⟨g, 0, none⟩)) (hb : Blk w g t cs)
    (hu : P.underlying ty = some d) (hd : (match d with | .struct _ | .array _ _ => true | _ => false) = true) (hi : (P.info? ty).map (·.size) = some cs.length) :
    (results fn tmps).run P w = .ok (.tuple #[.agg cs.toArray, tmps.getD u undef, tmps.getD x undef]) w := by
  rw [results_cell_tmp2 h, hp]
  have hl := run_loadVar_row (P := P) w g t ty cs.toArray (0, 0) d hb hu hd (by simpa using hi)
  simp [asAddr, hl, Result.andThen]
theorem set3_blk {w : World} {g : Nat} {t : TypeId} {a b c : Value} (h : Blk w g t [a, b, c]) (x0 x1 x2 : Value) : Blk (((w.setCell ⟨g, 0, none⟩ x0).setCell ⟨g, 1, none⟩ x1).setCell ⟨g, 2, none⟩ x2) g t [x0, x1, x2] := ((h.set_ 0 x0).set_ 1 x1).set_ 2 x2
theorem set3_keeps (w : World) (g : Nat) (x0 x1 x2 : Value) : Keeps w (((w.setCell ⟨g, 0, none⟩ x0).setCell ⟨g, 1, none⟩ x1).setCell ⟨g, 2, none⟩ x2) g := (((Keeps.refl w g).setCell 0 x0).setCell 1 x1).setCell 2 x2
theorem below_keeps {B : Nat} {w0 w w' : World} {g : Nat} (h : Below B w0 w) (hk : Keeps w w' g) (hg : B ≤ g) (hB : B ≤ w.heap.size) : Below B w0 w' := Keeps.below h hk hg hB
def PAt (gR lo hi : Nat) (s : Co.Rs) (w : World) : Prop := ∃ X cap r, RrIn gR X cap r s.why w ∧ r = (if s.why = 0 then s.rem else []) ∧ s.why ≤ 1000 ∧ (lo ≤ gR ∧ gR < hi) ∧ ∀ b, X.map (·.block) = some b → lo ≤ b ∧ b < hi
variable {gR lo hi : Nat} {s s' : Co.Rs} {w w' : World}
theorem PAt.keep (h : PAt gR lo hi s w) (hs : w.heap.size ≤ w'.heap.size) (hb : ∀ b, lo ≤ b → b < hi → w'.heap[b]? = w.heap[b]?) : PAt gR lo hi s w' := by
  obtain ⟨X, cap, r, ⟨h1, h2, h3, h4, h5⟩, hr, hy, hg, hX⟩ := h
  refine ⟨X, cap, r, ⟨(hb gR hg.1 hg.2).trans h1, h2, h3, h4.keep (fun p _ hp => ?_) hs, fun b hb' => ⟨(h5 b hb').1, Nat.lt_of_lt_of_le (h5 b hb').2 hs⟩⟩, hr, hy, hg, hX⟩
  have := hX p.block hp
  unfold World.cell?
  rw [hb p.block this.1 this.2]
theorem PAt.rng (h : PAt gR lo hi s w) : lo ≤ gR ∧ gR < hi := by obtain ⟨_, _, _, _, _, _, h, _⟩ := h; exact h
theorem PAt.later (h : PAt gR lo hi s w) (hb : Below w.heap.size w w') (hh : hi ≤ w.heap.size) : PAt gR lo hi s w' := h.keep hb.size fun b _ h2 => hb.block b (by omega)
theorem PAt.poke {g : Nat} (h : PAt gR lo hi s w) (hk : Keeps w w' g) (hg : g < lo ∨ hi ≤ g) (hh : hi ≤ w.heap.size) : PAt gR lo hi s w' := h.keep hk.size fun b h1 h2 => hk.block b (by omega) (fun e => by injection e; omega)
def POut (gR lo hi : Nat) (x : Value) (s' : Co.Rs) (w : World) (e : Ending) (w' : World) : Prop := e = .returned x ∧ Hid (PAt gR lo hi s' w') ∧ Hid (Keeps w w' gR)
theorem PAt.next {X : Option Addr} (hn : RrNext gR X s' w w') (hy : s'.why ≤ 1000) (hg : lo ≤ gR ∧ gR < hi) (hX : ∀ b, X.map (·.block) = some b → lo ≤ b ∧ b < hi) : PAt gR lo hi s' w' ∧ Keeps w w' gR := by
  obtain ⟨X2, c2, r2, h1, h2, h3, h4⟩ := hn
  exact ⟨⟨X2, c2, r2, h1, h2, hy, hg, fun b hb => hX b (h3 b hb)⟩, h4⟩
theorem PAt.byte (h : PAt gR lo hi s w) {r : Nat} (hr : Co.num 1 s = (r, s')) : Calls Tryd.prog 34 #[.pointer (some ⟨gR, 0, none⟩)] w (POut gR lo hi (.int .i64 (r : Nat)) s' w) := by
  obtain ⟨X, cap, l, h1, h2, hy, hg, hX⟩ := h
  refine (rbyte_any h1 h2).mono fun e w' ⟨he, hn⟩ => ?_
  have := _root_.Go.Proofs.YtmcbpgbiephllaaDoor.num_why 1 s hy
  rw [hr] at he hn this
  have hp := PAt.next hn this hg hX
  exact ⟨he, hp.1, hp.2⟩
theorem PAt.short (h : PAt gR lo hi s w) {r : Nat} (hr : Co.num 2 s = (r, s')) : Calls Tryd.prog 38 #[.pointer (some ⟨gR, 0, none⟩)] w (POut gR lo hi (.int .i64 (r : Nat)) s' w) := by
  obtain ⟨X, cap, l, h1, h2, hy, hg, hX⟩ := h
  refine (rshort_any h1 h2).mono fun e w' ⟨he, hn⟩ => ?_
  have := _root_.Go.Proofs.YtmcbpgbiephllaaDoor.num_why 2 s hy
  rw [hr] at he hn this
  have hp := PAt.next hn this hg hX
  exact ⟨he, hp.1, hp.2⟩
theorem PAt.long (h : PAt gR lo hi s w) {r : Nat} (hr : Co.num 8 s = (r, s')) : Calls Tryd.prog 36 #[.pointer (some ⟨gR, 0, none⟩)] w (POut gR lo hi (.int .u64 (r : Nat)) s' w) := by
  obtain ⟨X, cap, l, h1, h2, hy, hg, hX⟩ := h
  refine (rlong_any h1 h2).mono fun e w' ⟨he, hn⟩ => ?_
  have := _root_.Go.Proofs.YtmcbpgbiephllaaDoor.num_why 8 s hy
  rw [hr] at he hn this
  have hp := PAt.next hn this hg hX
  exact ⟨he, hp.1, hp.2⟩
def PRow (gR lo hi : Nat) (l : List UInt8) (s' : Co.Rs) (w : World) (e : Ending) (w' : World) : Prop := ∃ X c, e = .returned (.slice X l.length c) ∧ Hid (l.length ≤ c) ∧ Hid (Rd w' X l) ∧ Hid (∀ b, X.map (·.block) = some b → w.heap.size ≤ b) ∧ Hid (PAt gR lo hi s' w') ∧ Hid (Keeps w w' gR)
theorem PAt.bytes (h : PAt gR lo hi s w) {l : List UInt8} (hr : Co.bytes s = (l, s')) : Calls Tryd.prog 37 #[.pointer (some ⟨gR, 0, none⟩)] w (PRow gR lo hi l s' w) := by
  obtain ⟨X, cap, r, h1, h2, hy, hg, hX⟩ := h
  refine (rbytes_any h1 h2).mono fun e w' ⟨v, he, ho, hn⟩ => ?_
  have := _root_.Go.Proofs.YtmcbpgbiephllaaDoor.bytes_why s hy
  rw [hr] at ho hn this
  have hp := PAt.next hn this hg hX
  obtain ⟨Y, c, rfl, hc, hrow⟩ := own_form ho
  refine ⟨Y, c, he, hc, hrow, fun b hb => (own_lt ho ?_).1, hp.1, hp.2⟩
  cases Y with
  | none => simp at hb
  | some a => simpa [Value.ownBlock] using hb
theorem PAt.fin (h : PAt gR lo hi s w) {n : Nat} (hr : Co.fin s = n) : Calls Tryd.prog 39 #[.pointer (some ⟨gR, 0, none⟩)] w fun e w' => e = .returned (.int .i64 (n : Nat)) ∧ Hid (Below w.heap.size w w') := by
  obtain ⟨X, cap, r, h1, h2, hy, hg, hX⟩ := h
  exact (rend_any h1 h2).mono fun e w' ⟨he, hb⟩ => ⟨by rw [he, hr], hb⟩
theorem PAt.new (w : World) (A : Option Addr) (L : List UInt8) (cap : Nat) (hr : Rd w A L) (hl : L.length ≤ 140737488351232) : Calls Tryd.prog 33 #[.slice A L.length cap] w fun e w' => ∃ gR, e = .returned (.pointer (some ⟨gR, 0, none⟩)) ∧ Hid (PAt gR w.heap.size w'.heap.size ⟨L, 0⟩ w') ∧ Hid (Below w.heap.size w w') := by
  refine (rnew_any w A L cap hr hl).mono fun e w' ⟨v, S, he, ha, hb, hS⟩ => ?_
  have hlt := ha.lt
  obtain ⟨g, X, c, r, rfl, h1, h2, h3, rfl⟩ := ha
  exact ⟨g, he, ⟨X, c, r, h1, h2, h3, ⟨hS g (.inl rfl), hlt g (.inl rfl)⟩, fun b hb => ⟨hS b (.inr hb), hlt b (.inr hb)⟩⟩, hb⟩
end Re
end Go.Proofs.YtmcbpgbiephllaaDoor

namespace Go.Proofs.YtmcbpgbiephllaaDoor
open Go.RowKit Rc
namespace Op
def WIn (C : WSaid) (v : Value) (l : List UInt8) (S0 : Nat → Prop) (W0 w : World) : Prop := ∃ S, C.At v l S w ∧ Mod W0 w S0 ∧ ∀ b, S b → S0 b ∨ W0.heap.size ≤ b
def WInR (C : WSaid) (v : Value) (l : List UInt8) (S0 : Nat → Prop) (W0 : World) (e : Ending) (w : World) : Prop := (∃ x, e = .returned x) ∧ Hid (WIn C v l S0 W0 w)
variable {C : WSaid} {v : Value} {l : List UInt8} {S0 : Nat → Prop} {W0 w : World}
theorem WIn.start {S : Nat → Prop} (h : C.At v l S w) : WIn C v l S w w := ⟨S, h, Mod.refl _ _, fun _ h => .inl h⟩
theorem WIn.eq {l' : List UInt8} (h : WIn C v l S0 W0 w) (e : l = l') : WIn C v l' S0 W0 w := e ▸ h
theorem WIn.mod (h : WIn C v l S0 W0 w) : Mod W0 w S0 := by obtain ⟨_, _, h, _⟩ := h; exact h
theorem WIn.block (h : WIn C v l S0 W0 w) (b : Nat) (hb : b < W0.heap.size) (hn : ¬ S0 b) : w.heap[b]? = W0.heap[b]? := h.mod.block b hb hn
theorem WIn.later {w' : World} (h : WIn C v l S0 W0 w) (hb : Below w.heap.size w w') : WIn C v l S0 W0 w' := by
  obtain ⟨S, h1, h2, h3⟩ := h
  exact ⟨S, C.keep h1 hb.size (fun b hB => hb.block b (C.lt h1 b hB)), Ob.mod_more h2 (Mod.of_below hb (fun _ => False)) (fun _ h => h.elim), h3⟩
theorem WIn.out {S : Nat → Prop} {l' : List UInt8} {e : Ending} {w' : World} (h2 : Mod W0 w S0) (h3 : ∀ b, S b → S0 b ∨ W0.heap.size ≤ b) (h : WOut C.At v l' S w e w') : WInR C v l' S0 W0 e w' := by
  obtain ⟨he, S', k1, k2, k3⟩ := h
  exact ⟨he, S', k1, Ob.mod_more h2 k2 h3, fun b hb => (k3 b hb).elim (h3 b) (fun h => .inr (Nat.le_trans h2.size h))⟩
theorem WIn.byte (h : WIn C v l S0 W0 w) (hl : l.length ≤ 1099511500000) (n : Nat) (hn : n ≤ 9223372036854775807) : Calls Tryd.prog 27 #[v, .int .i64 (n : Nat)] w (WInR C v (l ++ Co.wByte n) S0 W0) := by
  obtain ⟨S, h1, h2, h3⟩ := h
  exact (C.byte h1 hl n hn).mono fun e w' h => WIn.out h2 h3 h
theorem WIn.short (h : WIn C v l S0 W0 w) (hl : l.length ≤ 1099511500000) (n : Nat) (hn : n ≤ 9223372036854775807) : Calls Tryd.prog 32 #[v, .int .i64 (n : Nat)] w (WInR C v (l ++ Co.wShort n) S0 W0) := by
  obtain ⟨S, h1, h2, h3⟩ := h
  exact (C.short h1 hl n hn).mono fun e w' h => WIn.out h2 h3 h
theorem WIn.long (h : WIn C v l S0 W0 w) (hl : l.length ≤ 1099511500000) (n : Nat) (hn : n ≤ 18446744073709551615) : Calls Tryd.prog 28 #[v, .int .u64 (n : Nat)] w (WInR C v (l ++ Co.wLong n) S0 W0) := by
  obtain ⟨S, h1, h2, h3⟩ := h
  exact (C.long h1 hl n hn).mono fun e w' h => WIn.out h2 h3 h
theorem WIn.bytesD (h : WIn C v l S0 W0 w) (hl : l.length ≤ 1099511500000) (A : Option Addr) (x : List UInt8) (c : Nat) (hr : Rd W0 A x) (hA : 0 < x.length → ∀ b, A.map (·.block) = some b → ¬ S0 b) (hc : x.length ≤ c) (hx : x.length ≤ 1000000) : Calls Tryd.prog 29 #[v, .slice A x.length c] w (WInR C v (l ++ Co.wBytes x) S0 W0) := by
  obtain ⟨S, h1, h2, h3⟩ := h
  refine (C.bytes h1 hl A x c (hr.mod h2 hA) hc hx fun h0 b hb hB => ?_).mono fun e w' h => WIn.out h2 h3 h
  rcases h3 b hB with h4 | h4
  · exact hA h0 b hb h4
  · obtain ⟨b', off, rfl, hlt, _⟩ := hr h0
    simp at hb
    omega
end Op
end Go.Proofs.YtmcbpgbiephllaaDoor

namespace Go.Proofs.YtmcbpgbiephllaaDoor
open Go.RowKit Rc
open _root_.Go.Proofs.YtmcbpgbiephllaaDoor.Op (WIn WInR)
namespace Re
theorem _root_.Go.Proofs.YtmcbpgbiephllaaDoor.Env.blk {w w' : World} (h : Env w) (hb : w'.heap[0]? = w.heap[0]?) : Env w' := fun i hi => by
  have := h i hi
  unfold World.cell? at this ⊢
  rw [show (⟨0, i, none⟩ : Addr).block = 0 from rfl] at this ⊢
  rw [hb]
  exact this
theorem wr64 (n : Nat) (h : n < 4294967296) : wrap64 (n : Int) = (n : Int) := by unfold wrap64; omega
theorem wr64h (n : Nat) (h : n < 4294967296) : wrap64 ((n : Int) / 65536) = ((n / 65536 : Nat) : Int) := by unfold wrap64; omega
def EAns (b : List UInt8) (k : Nat) (w : World) (e : Ending) (w' : World) : Prop := ∃ X c, e = .returned (.tuple #[.slice X b.length c, .int .i64 (k : Nat)]) ∧ b.length ≤ c ∧ Rd w' X b ∧ Below w.heap.size w w'
set_option maxHeartbeats 2000000 in
set_option maxRecDepth 100000 in
theorem re_encode_any (C : WSaid) (hS : SumSaid) (r : Rec) (w : World) (A : Option Addr) (c : Nat) (hc : r.body.length ≤ c) (hr : Rd w A r.body) (hE : Env w) : Calls Tryd.prog 14 #[val r A c] w (EAns (enc r).1 (enc r).2 w) := by
  obtain ⟨k, q, b⟩ := r
  dsimp only at hc hr
  have HRT : Hid (∀ W, Calls Tryd.prog 23 #[.agg #[.int .i64 k, .int .u64 (q : Nat), .slice A b.length c]] W fun e w' => e = .returned (.bool (decide (Right ⟨k, q, b⟩))) ∧ Below W.heap.size W w') := fun W => re_right_any ⟨k, q, b⟩ A c W
  obtain ⟨en, hen⟩ : ∃ x, x = enc ⟨k, q, b⟩ := ⟨_, rfl⟩
  have HNO : Hid (¬ Right ⟨k, q, b⟩ → en = ([], 12)) := fun h => hen.trans (if_neg h)
  have HYES : Hid (Right ⟨k, q, b⟩ → en = (form ⟨k, q, b⟩, 0)) := fun h => hen.trans (if_pos h)
  rw [← hen]
  clear hen
  unfold val
  dsimp only
  obtain ⟨W0, hW0⟩ : ∃ W0, W0 = w.alloc (.cells #[.int .i64 k, .int .u64 (q : Nat), .slice A b.length c] 27) := ⟨_, rfl⟩
  obtain ⟨g, hg⟩ : ∃ g, g = w.heap.size := ⟨_, rfl⟩
  have HB0 : Hid (Blk W0 g 27 [.int .i64 k, .int .u64 (q : Nat), .slice A b.length c]) := by show Blk _ _ _ _; rw [hW0, hg]; exact Blk.new w _ _
  have hbw : Below w.heap.size w W0 := by rw [hW0]; exact below_new w _
  have HBW := Lib.hid hbw
  have HR0 : Hid (Rd W0 A b) := hr.below hbw
  have HE0 : Hid (Env W0) := hE.under hbw hE.pos
  have HC := Lib.hid hc
  have HS := Lib.hid hS
  clear hbw hr hE hc hS
  go_enter Tryd.func14, Tryd.ntmps14
  go_upto_region 1 with (fail)
  rw [← hW0, ← hg]
  clear hW0 hg
  have c0 := HB0.out.cell 0
  have c1 := HB0.out.cell 1
  have c2 := HB0.out.cell 2
  go_wp2_with fail
  refine (HRT.out W0).mono ?_
  rintro e w1 ⟨rfl, hb1⟩
  have HB1 : Hid (Blk w1 g 27 [.int .i64 k, .int .u64 (q : Nat), .slice A b.length c]) := HB0.out.below hb1 HB0.out.lt
  have HBW1 : Hid (Below w.heap.size w w1) := Later.trans HBW.out hb1
  have HR1 : Hid (Rd w1 A b) := HR0.out.below hb1
  have HE1 : Hid (Env w1) := HE0.out.under hb1 HE0.out.pos
  clear hb1 c0 c1 c2 HB0 HBW HR0 HE0 HRT
  by_cases hri : Right ⟨k, q, b⟩
  · rw [decide_eq_true hri]
    have HEN := Lib.hid (HYES.out hri)
    have hl := right_len hri
    dsimp only at hl
    have HL := Lib.hid hl
    have HQ : Hid (q ≤ 18446744073709551615) := by have := hri.2; dsimp only at this; show _ ≤ _; omega
    obtain ⟨j, rfl, hj⟩ : ∃ j : Nat, k = j ∧ j ≤ 9223372036854775807 := by
      have := right_kind hri
      dsimp only at this
      exact ⟨k.toNat, by omega, by omega⟩
    have HJ := Lib.hid hj
    obtain ⟨hd, hhd⟩ : ∃ x, x = head ⟨(j : Nat), q, b⟩ := ⟨_, rfl⟩
    have HF : Hid (form ⟨(j : Nat), q, b⟩ = hd ++ four (Cr.sum hd)) := by show _ = _; rw [hhd]; rfl
    have HH : Hid ((([] ++ Co.wByte j) ++ Co.wLong q) ++ Co.wBytes b = hd) := by show _ = _; rw [hhd]; unfold head; simp
    have HHL : Hid (hd.length = 11 + b.length) := by show _ = _; rw [hhd]; exact head_length (by dsimp only; omega)
    clear hhd hri HYES HNO hl hj
    go_wp2_with fail
    refine (C.new w1).mono ?_
    rintro e w2 ⟨v, S, rfl, hat, hb2, hS⟩
    obtain ⟨a, rfl⟩ := C.ptr hat
    have HW2 : Hid (WIn C (.pointer (some a)) [] S w2 w2) := WIn.start hat
    have HB2 : Hid (Blk w2 g 27 [.int .i64 (j : Nat), .int .u64 (q : Nat), .slice A b.length c]) := HB1.out.below hb2 HB1.out.lt
    have HBW2 : Hid (Below w.heap.size w w2) := Later.trans HBW1.out hb2
    have HR2 : Hid (Rd w2 A b) := HR1.out.below hb2
    have HE2 : Hid (Env w2) := HE1.out.under hb2 HE1.out.pos
    have HS2 : Hid (∀ x, S x → w1.heap.size ≤ x) := hS
    have HLE : Hid (w.heap.size ≤ w1.heap.size) := HBW1.out.size
    have HEP : Hid (0 < w1.heap.size) := HE1.out.pos
    have HG1 : Hid (g < w1.heap.size) := HB1.out.lt
    have HAS : Hid (0 < b.length → ∀ x, A.map (·.block) = some x → ¬ S x) := fun h0 x hx hs => by
      have := HS2.out x hs
      obtain ⟨b', off, rfl, hlt, _⟩ := HR1.out h0
      simp at hx
      omega
    have HKG : Hid (∀ W l, WIn C (.pointer (some a)) l S w2 W → Blk W g 27 [.int .i64 (j : Nat), .int .u64 (q : Nat), .slice A b.length c]) := fun W l h => (h.block g (by have := HB2.out.lt; omega) (fun hs => by have := HS2.out g hs; have := HG1.out; omega)).trans HB2.out
    clear hat hb2 hS HBW1 HB1 HR1 HE1
    have c0 := HB2.out.cell 0
    go_wp2_with fail
    refine (HW2.out.byte (by simp) j HJ.out).mono ?_
    rintro e w3 ⟨⟨x3, rfl⟩, HW3⟩
    clear c0
    have c1 := (HKG.out _ _ HW3.out).cell 1
    go_wp2_with fail
    refine (HW3.out.long (by simp [Co.wByte]) q HQ.out).mono ?_
    rintro e w4 ⟨⟨x4, rfl⟩, HW4⟩
    clear c1
    have c2 := (HKG.out _ _ HW4.out).cell 2
    go_wp2_with fail
    refine (HW4.out.bytesD (by simp [Co.wByte, Co.wLong_length]) A b c HR2.out HAS.out HC.out (by have := HL.out; omega)).mono ?_
    rintro e w5 ⟨⟨x5, rfl⟩, HW5⟩
    have HW5' : Hid (WIn C (.pointer (some a)) hd S w2 w5) := HW5.out.eq HH.out
    clear c2 HW5 HW4 HW3 HW2
    go_wp2_with fail
    obtain ⟨S5, h51, h52, h53⟩ := HW5'.out
    refine (C.done h51).mono ?_
    rintro e w6 ⟨x, rfl, ho, hb6, hx⟩
    obtain ⟨X, cx, rfl, hcx, hrx⟩ := own_form ho
    have HW6 : Hid (WIn C (.pointer (some a)) hd S w2 w6) := HW5'.out.later hb6
    have HE6 : Hid (Env w6) := HE2.out.blk (HW6.out.block _ HE2.out.pos fun hs => by have := HS2.out _ hs; have := HEP.out; omega)
    clear h51 h52 h53 ho hx hb6 HW5'
    go_wp2_with fail
    refine (HS.out w6 hd X cx HE6.out hrx hcx (by have := HHL.out; have := HL.out; omega)).mono ?_
    rintro e w7 ⟨rfl, hb7⟩
    have HW7 : Hid (WIn C (.pointer (some a)) hd S w2 w7) := HW6.out.later hb7
    obtain ⟨sm, hsm⟩ : ∃ s, s = Cr.sum hd := ⟨_, rfl⟩
    have HSM : Hid (sm < 4294967296) := by show _ < _; rw [hsm]; exact sum_lt _
    rw [← hsm] at HF ⊢
    clear hsm hrx hcx hb7 HW6
    go_wp2_with fail
    rw [show wrap64 ((sm : Int) / 65536) = ((sm / 65536 : Nat) : Int) from wr64h sm HSM.out]
    refine (HW7.out.short (by have := HHL.out; have := HL.out; omega) (sm / 65536) (by have := HSM.out; omega)).mono ?_
    rintro e w8 ⟨⟨x8, rfl⟩, HW8⟩
    clear HW7
    go_wp2_with fail
    rw [show wrap64 (sm : Int) = (sm : Int) from wr64 sm HSM.out]
    refine (HW8.out.short (by have := HHL.out; have := HL.out; rw [List.length_append]; simp [Co.wShort]; omega) sm (by have := HSM.out; omega)).mono ?_
    rintro e w9 ⟨⟨x9, rfl⟩, HW9⟩
    have HW9' : Hid (WIn C (.pointer (some a)) en.1 S w2 w9) := HW9.out.eq (by rw [HEN.out]; show _ = form _; rw [HF.out]; unfold four; rw [List.append_assoc])
    clear HW8 HW9
    go_wp2_with fail
    obtain ⟨S9, h91, h92, h93⟩ := HW9'.out
    refine (C.done h91).mono ?_
    rintro e wz ⟨x, rfl, ho, hbz, hx⟩
    obtain ⟨X2, cx2, rfl, hcx2, hrx2⟩ := own_form ho
    have HEND : Hid (EAns en.1 en.2 w (.returned (.tuple #[.slice X2 en.1.length cx2, .int .i64 0])) wz) := by
      have e2 : en.2 = 0 := by rw [HEN.out]
      rw [e2]
      exact ⟨X2, cx2, rfl, hcx2, hrx2, Later.trans (wout_below HBW2.out (fun b hb => by have := HS2.out b hb; have := HLE.out; omega) HW9'.out.mod) hbz⟩
    clear h91 h92 h93 ho hx hbz HW9' hcx2 hrx2
    go_wp2_with fail
    go_ret2
    exact HEND.out
  · rw [decide_eq_false hri]
    have HEN := Lib.hid (HNO.out hri)
    clear hri HYES HNO
    go_wp2_with fail
    go_ret2
    rw [HEN.out]
    exact ⟨none, 0, rfl, Nat.le_refl _, Rd.nil _ _, HBW1.out⟩
end Re
end Go.Proofs.YtmcbpgbiephllaaDoor

namespace Go.Proofs.YtmcbpgbiephllaaDoor
open Go.RowKit Rc
namespace Re
theorem or_hl (hi lo : Nat) (h1 : hi < 65536) (h2 : lo < 65536) : bits .or .u32 ((hi : Int) % 4294967296 * 65536 % 4294967296) ((lo : Int) % 4294967296) = ((hi * 65536 + lo : Nat) : Int) := by
  show IntKind.u32.wrap ((BitVec.ofInt 32 _ ||| BitVec.ofInt 32 _).toNat : Int) = _
  obtain ⟨y, hy⟩ : ∃ y : Nat, y = hi <<< 16 := ⟨_, rfl⟩
  have hy2 : y = hi * 65536 := by rw [hy, Nat.shiftLeft_eq]
  have e1 : (hi : Int) % 4294967296 * 65536 % 4294967296 = (y : Int) := by omega
  have e2 : (lo : Int) % 4294967296 = (lo : Int) := by omega
  have hor : y ||| lo = y + lo := by rw [hy]; exact (Nat.shiftLeft_add_eq_or_of_lt (by omega : lo < 2 ^ 16) _).symm
  rw [e1, e2, BitVec.ofInt_natCast, BitVec.ofInt_natCast, BitVec.toNat_or, BitVec.toNat_ofNat, BitVec.toNat_ofNat, Nat.mod_eq_of_lt (by omega), Nat.mod_eq_of_lt (by omega), hor]
  rw [IntKind.wrap_u32]
  omega
theorem fin10 (s : Co.Rs) (h : s.why = 0 ∨ s.why = 10) : (Co.fin s = 10 ∧ s.why ≠ 0) ∨ (Co.fin s ≠ 10 ∧ s.why = 0) := by
  unfold Co.fin
  rcases h with h | h
  · rw [h]
    by_cases h2 : 0 < s.rem.length <;> simp [h2]
  · rw [h]; simp
def DAns2 (D : Rec × Nat × Nat) (w : World) (e : Ending) (w' : World) : Prop := ∃ X c, e = .returned (.tuple #[val D.1 X c, .int .i64 (D.2.1 : Nat), .int .i64 (D.2.2 : Nat)]) ∧ D.1.body.length ≤ c ∧ Rd w' X D.1.body ∧ Below w.heap.size w w'
def DAns (L : List UInt8) : World → Ending → World → Prop := DAns2 (dec L)
set_option maxHeartbeats 4000000 in
set_option maxRecDepth 100000 in
theorem re_decode_any (hS : SumSaid) (w : World) (A : Option Addr) (L : List UInt8) (cap : Nat) (hr : Rd w A L) (hc : L.length ≤ cap) (hl : L.length ≤ 65550) (hE : Env w) :
    Calls Tryd.prog 15 #[.slice A L.length cap] w (DAns L w) := by
  obtain ⟨k0, s1, h1⟩ : ∃ a s, Co.num 1 ⟨L, 0⟩ = (a, s) := ⟨_, _, rfl⟩
  obtain ⟨q0, s2, h2⟩ : ∃ a s, Co.num 8 s1 = (a, s) := ⟨_, _, rfl⟩
  obtain ⟨b0, s3, h3⟩ : ∃ a s, Co.bytes s2 = (a, s) := ⟨_, _, rfl⟩
  obtain ⟨hi0, s4, h4⟩ : ∃ a s, Co.num 2 s3 = (a, s) := ⟨_, _, rfl⟩
  obtain ⟨lo0, s5, h5⟩ : ∃ a s, Co.num 2 s4 = (a, s) := ⟨_, _, rfl⟩
  have HFI : Hid (fields L = (⟨(k0 : Nat), q0, b0⟩, hi0 * 65536 + lo0, s5)) := by show _ = _; unfold fields; simp only [h1, h2, h3, h4, h5]
  have HW5 : Hid (s5.why = 0 ∨ s5.why = 10) := by have := fields_why L; rw [HFI.out] at this; exact this
  have HHI : Hid (hi0 < 65536) := by have := num_small2 s3; rw [h4] at this; exact this
  have HLO : Hid (lo0 < 65536) := by have := num_small2 s4; rw [h5] at this; exact this
  have HIN : Hid (s5.why = 0 → 15 + b0.length ≤ L.length) := fun h0 => by
    have hv := fields_inv L (by rw [HFI.out]; exact h0)
    rw [HFI.out] at hv
    have := congrArg List.length hv.2.2
    rw [List.length_append, List.length_append, head_length hv.1, four_length] at this
    dsimp only at this
    omega
  obtain ⟨D, hD⟩ : ∃ D, D = dec L := ⟨_, rfl⟩
  have HK : Hid (0 < L.length → ¬ Kd k0 → D = (zero, 0, 12)) := fun ha hb => by rw [hD]; unfold dec; rw [h1]; exact if_pos ⟨ha, hb⟩
  have HND : Hid ((L.length = 0 ∨ Kd k0) → s5.why ≠ 0 → D = (zero, 0, 10)) := fun ha hb => by
    rw [hD]; unfold dec; rw [h1, HFI.out, if_neg (fun h => ha.elim (fun h0 => by have := h.1; omega) h.2)]; exact if_pos hb
  have HSU : Hid ((L.length = 0 ∨ Kd k0) → s5.why = 0 → Cr.sum (L.take (11 + b0.length)) ≠ hi0 * 65536 + lo0 → D = (zero, 0, 14)) := fun ha hb hs => by
    rw [hD]; unfold dec; rw [h1, HFI.out, if_neg (fun h => ha.elim (fun h0 => by have := h.1; omega) h.2), if_neg (by simpa using hb)]; exact if_pos hs
  have HBAD : Hid ((L.length = 0 ∨ Kd k0) → s5.why = 0 → Cr.sum (L.take (11 + b0.length)) = hi0 * 65536 + lo0 → ¬ Right ⟨(k0 : Nat), q0, b0⟩ → D = (zero, 0, 12)) := fun ha hb hs hn => by
    rw [hD]; unfold dec; rw [h1, HFI.out, if_neg (fun h => ha.elim (fun h0 => by have := h.1; omega) h.2), if_neg (by simpa using hb), if_neg (by simpa using hs)]; exact if_pos hn
  have HYES : Hid ((L.length = 0 ∨ Kd k0) → s5.why = 0 → Cr.sum (L.take (11 + b0.length)) = hi0 * 65536 + lo0 → Right ⟨(k0 : Nat), q0, b0⟩ → D = (⟨(k0 : Nat), q0, b0⟩, 15 + b0.length, 0)) := fun ha hb hs hn => by
    rw [hD]; unfold dec; rw [h1, HFI.out, if_neg (fun h => ha.elim (fun h0 => by have := h.1; omega) h.2), if_neg (by simpa using hb), if_neg (by simpa using hs)]; exact if_neg (fun h => h hn)
  unfold DAns
  rw [← hD]
  have H1E := Lib.hid h1
  have H2E := Lib.hid h2
  have H3E := Lib.hid h3
  have H4E := Lib.hid h4
  have H5E := Lib.hid h5
  have HRT : Hid (∀ (X : Option Addr) (c : Nat) W, Calls Tryd.prog 23 #[.agg #[.int .i64 (k0 : Nat), .int .u64 (q0 : Nat), .slice X b0.length c]] W fun e w' => e = .returned (.bool (decide (Right ⟨(k0 : Nat), q0, b0⟩))) ∧ Below W.heap.size W w') := fun X c W => re_right_any ⟨(k0 : Nat), q0, b0⟩ X c W
  clear h1 h2 h3 h4 h5 hD HFI
  obtain ⟨W0, hW0⟩ : ∃ W0, W0 = w.alloc (.cells #[.int .i64 0, .int .u64 0, .slice none 0 0] 27) := ⟨_, rfl⟩
  obtain ⟨g, hg⟩ : ∃ g, g = w.heap.size := ⟨_, rfl⟩
  have HZ0 : Hid (Blk W0 g 27 [.int .i64 0, .int .u64 0, .slice none 0 0]) := by show Blk _ _ _ _; rw [hW0, hg]; exact Blk.new w _ _
  have hbw : Below w.heap.size w W0 := by rw [hW0]; exact below_new w _
  have HBW := Lib.hid hbw
  have HR0 : Hid (Rd W0 A L) := hr.below hbw
  have HE0 : Hid (Env W0) := hE.under hbw hE.pos
  have HC := Lib.hid hc
  have HL := Lib.hid hl
  have HS := Lib.hid hS
  have HGG : Hid (w.heap.size ≤ g) := Nat.le_of_eq hg.symm
  have hmin : min (L.length : Int) 65550 = L.length := by omega
  have HRW := Lib.hid hr
  have HEW := Lib.hid hE
  clear hbw hr hE hS HE0
  go_enter Tryd.func15, Tryd.ntmps15
  go_upto_region 2 with (fail)
  rw [← hW0, ← hg]
  clear hW0 hg hmin hc hl
  go_wp2_with fail
  refine (PAt.new W0 A L cap HR0.out (by have := HL.out; omega)).mono ?_
  rintro e w1 ⟨gR, rfl, P1, hb1⟩
  obtain ⟨lo, hlo⟩ : ∃ lo, lo = W0.heap.size := ⟨_, rfl⟩
  obtain ⟨hi, hhi⟩ : ∃ hi, hi = w1.heap.size := ⟨_, rfl⟩
  rw [← hlo, ← hhi] at P1
  have HGL : Hid (g < lo) := by show _ < _; rw [hlo]; exact HZ0.out.lt
  have HRG := Lib.hid P1.out.rng
  have HZ1 : Hid (Blk w1 g 27 [.int .i64 0, .int .u64 0, .slice none 0 0]) := HZ0.out.below hb1.out HZ0.out.lt
  have HBW1 : Hid (Below w.heap.size w w1) := Later.trans HBW.out hb1.out
  have HI1 : Hid (hi ≤ w1.heap.size) := Nat.le_of_eq hhi
  clear hlo hhi hb1 HZ0 HBW HR0
  go_wp2_with fail
  refine (P1.out.byte H1E.out).mono ?_
  rintro e w2 ⟨rfl, P2, k2⟩
  have HZ2 : Hid (Blk w2 g 27 [.int .i64 0, .int .u64 0, .slice none 0 0]) := (k2.out.block g HZ1.out.lt (fun e => by injection e with e; have := HGL.out; have := HRG.out.1; omega)).trans HZ1.out
  have HBW2 : Hid (Below w.heap.size w w2) := below_keeps HBW1.out k2.out (by have := HGG.out; have := HGL.out; have := HRG.out.1; omega) HBW1.out.size
  have HI2 : Hid (hi ≤ w2.heap.size) := Nat.le_trans HI1.out k2.out.size
  clear k2 P1 HZ1 HBW1 HI1 H1E
  obtain ⟨WA, hWA⟩ : ∃ W, W = w2.alloc (.cells #[.int .i64 (k0 : Nat), .int .u64 0, .slice none 0 0] 27) := ⟨_, rfl⟩
  obtain ⟨gr, hgr⟩ : ∃ x, x = w2.heap.size := ⟨_, rfl⟩
  go_upto_region 4 with (fail)
  rw [← hWA, ← hgr]
  have hbA : Below w2.heap.size w2 WA := by rw [hWA]; exact below_new w2 _
  have HB3 : Hid (Blk WA gr 27 [.int .i64 (k0 : Nat), .int .u64 0, .slice none 0 0]) := by show Blk _ _ _ _; rw [hWA, hgr]; exact Blk.new w2 _ _
  have HGR : Hid (hi ≤ gr) := by show _ ≤ _; rw [hgr]; exact HI2.out
  have P3 : Hid (PAt gR lo hi s1 WA) := P2.out.later hbA HI2.out
  have HZ3 : Hid (Blk WA g 27 [.int .i64 0, .int .u64 0, .slice none 0 0]) := HZ2.out.below hbA HZ2.out.lt
  have HBW3 : Hid (Below w.heap.size w WA) := Later.trans HBW2.out hbA
  have HI3 : Hid (hi ≤ WA.heap.size) := Nat.le_trans HI2.out (Below.size hbA)
  clear hWA hgr hbA P2 HZ2 HBW2 HI2
  have HRET : Hid (∀ (W : World) (m : Nat), Below w.heap.size w W → D = (zero, 0, m) → DAns2 D w (.returned (.tuple #[.agg #[.int .i64 0, .int .u64 0, .slice none 0 0], .int .i64 0, .int .i64 (m : Nat)])) W) := fun W m hb hd => by rw [hd]; exact ⟨none, 0, rfl, Nat.le_refl _, Rd.nil _ _, hb⟩
  obtain ⟨n, hn⟩ : ∃ n, n = L.length := ⟨_, rfl⟩
  rw [← hn] at HK HND HSU HBAD HYES HIN HL HC ⊢
  have HN := Lib.hid hn
  clear hn
  by_cases hn0 : 0 < n
  · by_cases hkd : Kd k0
    · have HOK : Hid (n = 0 ∨ Kd k0) := .inr hkd
      have hdk : decide ((k0 : Int) = 1 ∨ (k0 : Int) = 2) = true := decide_eq_true (by unfold Kd at hkd; omega)
      have c0 := HB3.out.cell 0
      clear HK hkd
      go_wp2_with fail
      refine (isKind_any (k0 : Nat) WA).mono ?_
      rintro e _ ⟨rfl, rfl⟩
      rw [hdk]
      clear hdk c0 hn0
      go_wp2_with fail
      refine (P3.out.long H2E.out).mono ?_
      rintro e w4 ⟨rfl, P4, k4⟩
      have HZ4 : Hid (Blk w4 g 27 [.int .i64 0, .int .u64 0, .slice none 0 0]) := (k4.out.block g HZ3.out.lt (fun e => by injection e with e; have := HGL.out; have := HRG.out.1; omega)).trans HZ3.out
      have HB4 : Hid (Blk w4 gr 27 [.int .i64 (k0 : Nat), .int .u64 0, .slice none 0 0]) := (k4.out.block gr HB3.out.lt (fun e => by injection e with e; have := HGR.out; have := HRG.out.2; omega)).trans HB3.out
      have HBW4 : Hid (Below w.heap.size w w4) := below_keeps HBW3.out k4.out (by have := HGG.out; have := HGL.out; have := HRG.out.1; omega) HBW3.out.size
      have HI4 : Hid (hi ≤ w4.heap.size) := Nat.le_trans HI3.out k4.out.size
      clear k4
      clear P3 HZ3 HB3 HBW3 HI3
      have c1 := HB4.out.cell 1
      have f1 := HB4.out.frozen 1
      obtain ⟨W5, hW5⟩ : ∃ W, W = w4.setCell ⟨gr, 1, none⟩ (.int .u64 (q0 : Nat)) := ⟨_, rfl⟩
      have hk5 : Keeps w4 W5 gr := by rw [hW5]; exact (Keeps.refl w4 gr).setCell 1 _
      have P5 : Hid (PAt gR lo hi s2 W5) := P4.out.poke hk5 (.inr HGR.out) HI4.out
      have HZ5 : Hid (Blk W5 g 27 [.int .i64 0, .int .u64 0, .slice none 0 0]) := (hk5.block g HZ4.out.lt (fun e => by injection e with e; have := HGL.out; have := HRG.out; have := HGR.out; omega)).trans HZ4.out
      have HB5 : Hid (Blk W5 gr 27 [.int .i64 (k0 : Nat), .int .u64 (q0 : Nat), .slice none 0 0]) := by show Blk _ _ _ _; rw [hW5]; exact HB4.out.set_ 1 _
      have HBW5 : Hid (Below w.heap.size w W5) := below_keeps HBW4.out hk5 (by have := HGG.out; have := HGL.out; have := HRG.out; have := HGR.out; omega) HBW4.out.size
      have HI5 : Hid (hi ≤ W5.heap.size) := Nat.le_trans HI4.out hk5.size
      clear hk5
      go_upto_region 7 with (fail)
      rw [← hW5]
      clear hW5 c1 f1
      clear P4 HZ4 HB4 HBW4 HI4
      go_wp2_with fail
      refine (P5.out.bytes H3E.out).mono ?_
      rintro e w6 ⟨X, cx, rfl, HCX, HX6, hxn, P6, k6⟩
      have HZ6 : Hid (Blk w6 g 27 [.int .i64 0, .int .u64 0, .slice none 0 0]) := (k6.out.block g HZ5.out.lt (fun e => by injection e with e; have := HGL.out; have := HRG.out.1; omega)).trans HZ5.out
      have HB6 : Hid (Blk w6 gr 27 [.int .i64 (k0 : Nat), .int .u64 (q0 : Nat), .slice none 0 0]) := (k6.out.block gr HB5.out.lt (fun e => by injection e with e; have := HGR.out; have := HRG.out.2; omega)).trans HB5.out
      have HBW6 : Hid (Below w.heap.size w w6) := below_keeps HBW5.out k6.out (by have := HGG.out; have := HGL.out; have := HRG.out.1; omega) HBW5.out.size
      have HI6 : Hid (hi ≤ w6.heap.size) := Nat.le_trans HI5.out k6.out.size
      have HXN : Hid (∀ b, X.map (·.block) = some b → gr < b) := fun b hb => by have := hxn.out b hb; have := HB5.out.lt; omega
      clear k6 hxn
      clear P5 HZ5 HB5 HBW5 HI5
      have c2 := HB6.out.cell 2
      have f2 := HB6.out.frozen 2
      obtain ⟨W7, hW7⟩ : ∃ W, W = w6.setCell ⟨gr, 2, none⟩ (.slice X b0.length cx) := ⟨_, rfl⟩
      have hk7 : Keeps w6 W7 gr := by rw [hW7]; exact (Keeps.refl w6 gr).setCell 2 _
      have P7 : Hid (PAt gR lo hi s3 W7) := P6.out.poke hk7 (.inr HGR.out) HI6.out
      have HZ7 : Hid (Blk W7 g 27 [.int .i64 0, .int .u64 0, .slice none 0 0]) := (hk7.block g HZ6.out.lt (fun e => by injection e with e; have := HGL.out; have := HRG.out; have := HGR.out; omega)).trans HZ6.out
      have HB7 : Hid (Blk W7 gr 27 [.int .i64 (k0 : Nat), .int .u64 (q0 : Nat), .slice X b0.length cx]) := by show Blk _ _ _ _; rw [hW7]; exact HB6.out.set_ 2 _
      have HBW7 : Hid (Below w.heap.size w W7) := below_keeps HBW6.out hk7 (by have := HGG.out; have := HGL.out; have := HRG.out; have := HGR.out; omega) HBW6.out.size
      have HI7 : Hid (hi ≤ W7.heap.size) := Nat.le_trans HI6.out hk7.size
      have HX7 : Hid (Rd W7 X b0) := HX6.out.keeps hk7 (fun _ e => by have := HXN.out _ e; omega)
      clear hk7
      go_upto_region 8 with (fail)
      rw [← hW7]
      clear hW7 c2 f2
      clear P6 HZ6 HB6 HBW6 HI6 HX6
      go_wp2_with fail
      refine (P7.out.short H4E.out).mono ?_
      rintro e w8 ⟨rfl, P8, k8⟩
      have HZ8 : Hid (Blk w8 g 27 [.int .i64 0, .int .u64 0, .slice none 0 0]) := (k8.out.block g HZ7.out.lt (fun e => by injection e with e; have := HGL.out; have := HRG.out.1; omega)).trans HZ7.out
      have HB8 : Hid (Blk w8 gr 27 [.int .i64 (k0 : Nat), .int .u64 (q0 : Nat), .slice X b0.length cx]) := (k8.out.block gr HB7.out.lt (fun e => by injection e with e; have := HGR.out; have := HRG.out.2; omega)).trans HB7.out
      have HBW8 : Hid (Below w.heap.size w w8) := below_keeps HBW7.out k8.out (by have := HGG.out; have := HGL.out; have := HRG.out.1; omega) HBW7.out.size
      have HI8 : Hid (hi ≤ w8.heap.size) := Nat.le_trans HI7.out k8.out.size
      have HX8 : Hid (Rd w8 X b0) := HX7.out.keeps k8.out (fun _ e => by have := HXN.out _ e; have := HGR.out; have := HRG.out.2; omega)
      clear k8
      clear P7 HZ7 HB7 HBW7 HI7 HX7
      go_wp2_with fail
      refine (P8.out.short H5E.out).mono ?_
      rintro e w9 ⟨rfl, P9, k9⟩
      have HZ9 : Hid (Blk w9 g 27 [.int .i64 0, .int .u64 0, .slice none 0 0]) := (k9.out.block g HZ8.out.lt (fun e => by injection e with e; have := HGL.out; have := HRG.out.1; omega)).trans HZ8.out
      have HB9 : Hid (Blk w9 gr 27 [.int .i64 (k0 : Nat), .int .u64 (q0 : Nat), .slice X b0.length cx]) := (k9.out.block gr HB8.out.lt (fun e => by injection e with e; have := HGR.out; have := HRG.out.2; omega)).trans HB8.out
      have HBW9 : Hid (Below w.heap.size w w9) := below_keeps HBW8.out k9.out (by have := HGG.out; have := HGL.out; have := HRG.out.1; omega) HBW8.out.size
      have HI9 : Hid (hi ≤ w9.heap.size) := Nat.le_trans HI8.out k9.out.size
      have HX9 : Hid (Rd w9 X b0) := HX8.out.keeps k9.out (fun _ e => by have := HXN.out _ e; have := HGR.out; have := HRG.out.2; omega)
      clear k9
      clear P8 HZ8 HB8 HBW8 HI8 HX8
      go_upto_region 9 with (fail)
      rw [or_hl hi0 lo0 HHI.out HLO.out]
      obtain ⟨sm, hsm⟩ : ∃ x, x = hi0 * 65536 + lo0 := ⟨_, rfl⟩
      rw [← hsm] at HSU HBAD HYES ⊢
      clear hsm HHI HLO
      go_wp2_with fail
      obtain ⟨f, hf⟩ : ∃ f, f = Co.fin s5 := ⟨_, rfl⟩
      have hf10 : (f = 10 ∧ s5.why ≠ 0) ∨ (f ≠ 10 ∧ s5.why = 0) := by rw [hf]; exact fin10 s5 HW5.out
      refine (P9.out.fin hf.symm).mono ?_
      rintro e w10 ⟨rfl, hb10⟩
      have P10 : Hid (PAt gR lo hi s5 w10) := P9.out.later hb10.out HI9.out
      have HZ10 : Hid (Blk w10 g 27 [.int .i64 0, .int .u64 0, .slice none 0 0]) := HZ9.out.below hb10.out HZ9.out.lt
      have HB10 : Hid (Blk w10 gr 27 [.int .i64 (k0 : Nat), .int .u64 (q0 : Nat), .slice X b0.length cx]) := HB9.out.below hb10.out HB9.out.lt
      have HBW10 : Hid (Below w.heap.size w w10) := Later.trans HBW9.out hb10.out
      have HI10 : Hid (hi ≤ w10.heap.size) := Nat.le_trans HI9.out (Below.size hb10.out)
      have HX10 : Hid (Rd w10 X b0) := HX9.out.below hb10.out
      clear hb10 hf
      clear P9 HZ9 HB9 HBW9 HI9 HX9
      rcases hf10 with ⟨rfl, hw5⟩ | ⟨hf10, hw5⟩
      · have HD := Lib.hid (HND.out HOK.out hw5)
        clear hw5 HND HSU HBAD HYES
        have r0 := HZ10.out.cell 0
        have f0 := HZ10.out.frozen 0
        have r1 := HZ10.out.cell 1
        have f1 := HZ10.out.frozen 1
        have r2 := HZ10.out.cell 2
        have f2 := HZ10.out.frozen 2
        go_wp2_with fail
        refine bodyPost_ret (results_blk_tmp2 rfl _ _ g 27 _ _ rfl (set3_blk HZ10.out _ _ _) rfl rfl rfl) rfl ?_
        exact HRET.out _ 10 (below_keeps HBW10.out (set3_keeps _ g _ _ _) HGG.out HBW10.out.size) (HD.out)
      · have hf10 : ((f : Nat) : Int) ≠ 10 := by omega
        have HW0 := Lib.hid hw5
        have HLE := Lib.hid (HIN.out hw5)
        clear hw5 HND HIN
        have c2 := HB10.out.cell 2
        have hb0 : (b0.length : Int) ≤ 65550 := by have := HLE.out; have := HL.out; omega
        go_upto_region 12 with (fail)
        have hbn : (11 : Int) + b0.length ≤ n := by have := HLE.out; omega
        have hnc : (n : Int) ≤ cap := by have := HC.out; omega
        go_wp2_with fail
        obtain ⟨y, hy⟩ : ∃ y, y = L.take (11 + b0.length) := ⟨_, rfl⟩
        have hyl : y.length = 11 + b0.length := by have := HLE.out; have := HN.out; rw [hy, List.length_take]; omega
        rw [← hy] at HSU HBAD HYES
        have HYR : Hid (Rd w10 A y) := by show Rd _ _ _; rw [hy]; exact (HRW.out.below HBW10.out).take _
        rw [← hyl]
        have hyc : y.length ≤ cap := by have := HC.out; have := HLE.out; omega
        have hy6 : y.length ≤ 1000000 := by have := HL.out; have := HLE.out; omega
        refine (HS.out w10 y A cap (HEW.out.under HBW10.out HEW.out.pos) HYR.out hyc hy6).mono ?_
        rintro e w11 ⟨rfl, hb11⟩
        have P11 : Hid (PAt gR lo hi s5 w11) := P10.out.later hb11 HI10.out
        have HZ11 : Hid (Blk w11 g 27 [.int .i64 0, .int .u64 0, .slice none 0 0]) := HZ10.out.below hb11 HZ10.out.lt
        have HB11 : Hid (Blk w11 gr 27 [.int .i64 (k0 : Nat), .int .u64 (q0 : Nat), .slice X b0.length cx]) := HB10.out.below hb11 HB10.out.lt
        have HBW11 : Hid (Below w.heap.size w w11) := Later.trans HBW10.out hb11
        have HI11 : Hid (hi ≤ w11.heap.size) := Nat.le_trans HI10.out (Below.size hb11)
        have HX11 : Hid (Rd w11 X b0) := HX10.out.below hb11
        obtain ⟨cs, hcs⟩ : ∃ x, x = Cr.sum y := ⟨_, rfl⟩
        rw [← hcs] at HSU HBAD HYES ⊢
        clear hb11 hcs hy hyl HYR hyc hy6 c2
        clear P10 HZ10 HB10 HBW10 HI10 HX10
        by_cases hcm : cs = sm
        · subst hcm
          have c0 := HB11.out.cell 0
          have c1 := HB11.out.cell 1
          have c2 := HB11.out.cell 2
          clear HSU
          go_wp2_with fail
          refine (HRT.out X cx w11).mono ?_
          rintro e w12 ⟨rfl, hb12⟩
          have P12 : Hid (PAt gR lo hi s5 w12) := P11.out.later hb12 HI11.out
          have HZ12 : Hid (Blk w12 g 27 [.int .i64 0, .int .u64 0, .slice none 0 0]) := HZ11.out.below hb12 HZ11.out.lt
          have HB12 : Hid (Blk w12 gr 27 [.int .i64 (k0 : Nat), .int .u64 (q0 : Nat), .slice X b0.length cx]) := HB11.out.below hb12 HB11.out.lt
          have HBW12 : Hid (Below w.heap.size w w12) := Later.trans HBW11.out hb12
          have HI12 : Hid (hi ≤ w12.heap.size) := Nat.le_trans HI11.out (Below.size hb12)
          have HX12 : Hid (Rd w12 X b0) := HX11.out.below hb12
          clear hb12 c0 c1 c2
          clear P11 HZ11 HB11 HBW11 HI11 HX11
          by_cases hri : Right ⟨(k0 : Nat), q0, b0⟩
          · have HD := Lib.hid (HYES.out HOK.out HW0.out (by first | rfl | trivial) hri)
            rw [decide_eq_true hri]
            clear hri HYES HBAD
            have c0 := HB12.out.cell 0
            have c1 := HB12.out.cell 1
            have c2 := HB12.out.cell 2
            have r0 := HZ12.out.cell 0
            have f0 := HZ12.out.frozen 0
            have r1 := HZ12.out.cell 1
            have f1 := HZ12.out.frozen 1
            have r2 := HZ12.out.cell 2
            have f2 := HZ12.out.frozen 2
            go_wp2_with fail
            refine bodyPost_ret (results_blk_tmp2 rfl _ _ g 27 _ _ rfl (set3_blk HZ12.out _ _ _) rfl rfl rfl) rfl ?_
            rw [HD.out]
            have e15 : (11 : Int) + b0.length + 4 = ((15 + b0.length : Nat) : Int) := by omega
            refine ⟨X, cx, ?_, HCX.out, HX12.out.keeps (set3_keeps _ g _ _ _) (fun _ e => by have := HXN.out _ e; have := HGR.out; have := HRG.out; have := HGL.out; omega), below_keeps HBW12.out (set3_keeps _ g _ _ _) HGG.out HBW12.out.size⟩
            show Ending.returned (.tuple #[.agg #[.int .i64 (k0 : Nat), .int .u64 (q0 : Nat), .slice X b0.length cx], .int .i64 ((11 : Int) + b0.length + 4), .int .i64 0]) = _
            rw [e15]
            rfl
          · have HD := Lib.hid (HBAD.out HOK.out HW0.out (by first | rfl | trivial) hri)
            rw [decide_eq_false hri]
            clear hri HYES HBAD
            have r0 := HZ12.out.cell 0
            have f0 := HZ12.out.frozen 0
            have r1 := HZ12.out.cell 1
            have f1 := HZ12.out.frozen 1
            have r2 := HZ12.out.cell 2
            have f2 := HZ12.out.frozen 2
            go_wp2_with fail
            refine bodyPost_ret (results_blk_tmp2 rfl _ _ g 27 _ _ rfl (set3_blk HZ12.out _ _ _) rfl rfl rfl) rfl ?_
            exact HRET.out _ 12 (below_keeps HBW12.out (set3_keeps _ g _ _ _) HGG.out HBW12.out.size) (HD.out)
        · have HD := Lib.hid (HSU.out HOK.out HW0.out hcm)
          have hcm : (cs : Int) ≠ (sm : Int) := by omega
          clear HSU HBAD HYES
          have r0 := HZ11.out.cell 0
          have f0 := HZ11.out.frozen 0
          have r1 := HZ11.out.cell 1
          have f1 := HZ11.out.frozen 1
          have r2 := HZ11.out.cell 2
          have f2 := HZ11.out.frozen 2
          go_wp2_with fail
          refine bodyPost_ret (results_blk_tmp2 rfl _ _ g 27 _ _ rfl (set3_blk HZ11.out _ _ _) rfl rfl rfl) rfl ?_
          exact HRET.out _ 14 (below_keeps HBW11.out (set3_keeps _ g _ _ _) HGG.out HBW11.out.size) (HD.out)
    · have HD := Lib.hid (HK.out hn0 hkd)
      have hdk : decide ((k0 : Int) = 1 ∨ (k0 : Int) = 2) = false := decide_eq_false (by unfold Kd at hkd; omega)
      have c0 := HB3.out.cell 0
      clear HK hkd HND HSU HBAD HYES
      go_wp2_with fail
      refine (isKind_any (k0 : Nat) WA).mono ?_
      rintro e _ ⟨rfl, rfl⟩
      rw [hdk]
      clear hdk c0 hn0
      have r0 := HZ3.out.cell 0
      have f0 := HZ3.out.frozen 0
      have r1 := HZ3.out.cell 1
      have f1 := HZ3.out.frozen 1
      have r2 := HZ3.out.cell 2
      have f2 := HZ3.out.frozen 2
      go_wp2_with fail
      refine bodyPost_ret (results_blk_tmp2 rfl _ _ g 27 _ _ rfl (set3_blk HZ3.out _ _ _) rfl rfl rfl) rfl ?_
      exact HRET.out _ 12 (below_keeps HBW3.out (set3_keeps _ g _ _ _) HGG.out HBW3.out.size) (HD.out)
  · obtain rfl : n = 0 := by omega
    have HOK : Hid (0 = 0 ∨ Kd k0) := .inl rfl
    clear HK hn0
    go_wp2_with fail
    refine (P3.out.long H2E.out).mono ?_
    rintro e w4 ⟨rfl, P4, k4⟩
    have HZ4 : Hid (Blk w4 g 27 [.int .i64 0, .int .u64 0, .slice none 0 0]) := (k4.out.block g HZ3.out.lt (fun e => by injection e with e; have := HGL.out; have := HRG.out.1; omega)).trans HZ3.out
    have HB4 : Hid (Blk w4 gr 27 [.int .i64 (k0 : Nat), .int .u64 0, .slice none 0 0]) := (k4.out.block gr HB3.out.lt (fun e => by injection e with e; have := HGR.out; have := HRG.out.2; omega)).trans HB3.out
    have HBW4 : Hid (Below w.heap.size w w4) := below_keeps HBW3.out k4.out (by have := HGG.out; have := HGL.out; have := HRG.out.1; omega) HBW3.out.size
    have HI4 : Hid (hi ≤ w4.heap.size) := Nat.le_trans HI3.out k4.out.size
    clear k4
    clear P3 HZ3 HB3 HBW3 HI3
    have c1 := HB4.out.cell 1
    have f1 := HB4.out.frozen 1
    obtain ⟨W5, hW5⟩ : ∃ W, W = w4.setCell ⟨gr, 1, none⟩ (.int .u64 (q0 : Nat)) := ⟨_, rfl⟩
    have hk5 : Keeps w4 W5 gr := by rw [hW5]; exact (Keeps.refl w4 gr).setCell 1 _
    have P5 : Hid (PAt gR lo hi s2 W5) := P4.out.poke hk5 (.inr HGR.out) HI4.out
    have HZ5 : Hid (Blk W5 g 27 [.int .i64 0, .int .u64 0, .slice none 0 0]) := (hk5.block g HZ4.out.lt (fun e => by injection e with e; have := HGL.out; have := HRG.out; have := HGR.out; omega)).trans HZ4.out
    have HB5 : Hid (Blk W5 gr 27 [.int .i64 (k0 : Nat), .int .u64 (q0 : Nat), .slice none 0 0]) := by show Blk _ _ _ _; rw [hW5]; exact HB4.out.set_ 1 _
    have HBW5 : Hid (Below w.heap.size w W5) := below_keeps HBW4.out hk5 (by have := HGG.out; have := HGL.out; have := HRG.out; have := HGR.out; omega) HBW4.out.size
    have HI5 : Hid (hi ≤ W5.heap.size) := Nat.le_trans HI4.out hk5.size
    clear hk5
    go_upto_region 7 with (fail)
    rw [← hW5]
    clear hW5 c1 f1
    clear P4 HZ4 HB4 HBW4 HI4
    go_wp2_with fail
    refine (P5.out.bytes H3E.out).mono ?_
    rintro e w6 ⟨X, cx, rfl, HCX, HX6, hxn, P6, k6⟩
    have HZ6 : Hid (Blk w6 g 27 [.int .i64 0, .int .u64 0, .slice none 0 0]) := (k6.out.block g HZ5.out.lt (fun e => by injection e with e; have := HGL.out; have := HRG.out.1; omega)).trans HZ5.out
    have HB6 : Hid (Blk w6 gr 27 [.int .i64 (k0 : Nat), .int .u64 (q0 : Nat), .slice none 0 0]) := (k6.out.block gr HB5.out.lt (fun e => by injection e with e; have := HGR.out; have := HRG.out.2; omega)).trans HB5.out
    have HBW6 : Hid (Below w.heap.size w w6) := below_keeps HBW5.out k6.out (by have := HGG.out; have := HGL.out; have := HRG.out.1; omega) HBW5.out.size
    have HI6 : Hid (hi ≤ w6.heap.size) := Nat.le_trans HI5.out k6.out.size
    have HXN : Hid (∀ b, X.map (·.block) = some b → gr < b) := fun b hb => by have := hxn.out b hb; have := HB5.out.lt; omega
    clear k6 hxn
    clear P5 HZ5 HB5 HBW5 HI5
    have c2 := HB6.out.cell 2
    have f2 := HB6.out.frozen 2
    obtain ⟨W7, hW7⟩ : ∃ W, W = w6.setCell ⟨gr, 2, none⟩ (.slice X b0.length cx) := ⟨_, rfl⟩
    have hk7 : Keeps w6 W7 gr := by rw [hW7]; exact (Keeps.refl w6 gr).setCell 2 _
    have P7 : Hid (PAt gR lo hi s3 W7) := P6.out.poke hk7 (.inr HGR.out) HI6.out
    have HZ7 : Hid (Blk W7 g 27 [.int .i64 0, .int .u64 0, .slice none 0 0]) := (hk7.block g HZ6.out.lt (fun e => by injection e with e; have := HGL.out; have := HRG.out; have := HGR.out; omega)).trans HZ6.out
    have HB7 : Hid (Blk W7 gr 27 [.int .i64 (k0 : Nat), .int .u64 (q0 : Nat), .slice X b0.length cx]) := by show Blk _ _ _ _; rw [hW7]; exact HB6.out.set_ 2 _
    have HBW7 : Hid (Below w.heap.size w W7) := below_keeps HBW6.out hk7 (by have := HGG.out; have := HGL.out; have := HRG.out; have := HGR.out; omega) HBW6.out.size
    have HI7 : Hid (hi ≤ W7.heap.size) := Nat.le_trans HI6.out hk7.size
    have HX7 : Hid (Rd W7 X b0) := HX6.out.keeps hk7 (fun _ e => by have := HXN.out _ e; omega)
    clear hk7
    go_upto_region 8 with (fail)
    rw [← hW7]
    clear hW7 c2 f2
    clear P6 HZ6 HB6 HBW6 HI6 HX6
    go_wp2_with fail
    refine (P7.out.short H4E.out).mono ?_
    rintro e w8 ⟨rfl, P8, k8⟩
    have HZ8 : Hid (Blk w8 g 27 [.int .i64 0, .int .u64 0, .slice none 0 0]) := (k8.out.block g HZ7.out.lt (fun e => by injection e with e; have := HGL.out; have := HRG.out.1; omega)).trans HZ7.out
    have HB8 : Hid (Blk w8 gr 27 [.int .i64 (k0 : Nat), .int .u64 (q0 : Nat), .slice X b0.length cx]) := (k8.out.block gr HB7.out.lt (fun e => by injection e with e; have := HGR.out; have := HRG.out.2; omega)).trans HB7.out
    have HBW8 : Hid (Below w.heap.size w w8) := below_keeps HBW7.out k8.out (by have := HGG.out; have := HGL.out; have := HRG.out.1; omega) HBW7.out.size
    have HI8 : Hid (hi ≤ w8.heap.size) := Nat.le_trans HI7.out k8.out.size
    have HX8 : Hid (Rd w8 X b0) := HX7.out.keeps k8.out (fun _ e => by have := HXN.out _ e; have := HGR.out; have := HRG.out.2; omega)
    clear k8
    clear P7 HZ7 HB7 HBW7 HI7 HX7
    go_wp2_with fail
    refine (P8.out.short H5E.out).mono ?_
    rintro e w9 ⟨rfl, P9, k9⟩
    have HZ9 : Hid (Blk w9 g 27 [.int .i64 0, .int .u64 0, .slice none 0 0]) := (k9.out.block g HZ8.out.lt (fun e => by injection e with e; have := HGL.out; have := HRG.out.1; omega)).trans HZ8.out
    have HB9 : Hid (Blk w9 gr 27 [.int .i64 (k0 : Nat), .int .u64 (q0 : Nat), .slice X b0.length cx]) := (k9.out.block gr HB8.out.lt (fun e => by injection e with e; have := HGR.out; have := HRG.out.2; omega)).trans HB8.out
    have HBW9 : Hid (Below w.heap.size w w9) := below_keeps HBW8.out k9.out (by have := HGG.out; have := HGL.out; have := HRG.out.1; omega) HBW8.out.size
    have HI9 : Hid (hi ≤ w9.heap.size) := Nat.le_trans HI8.out k9.out.size
    have HX9 : Hid (Rd w9 X b0) := HX8.out.keeps k9.out (fun _ e => by have := HXN.out _ e; have := HGR.out; have := HRG.out.2; omega)
    clear k9
    clear P8 HZ8 HB8 HBW8 HI8 HX8
    go_upto_region 9 with (fail)
    rw [or_hl hi0 lo0 HHI.out HLO.out]
    obtain ⟨sm, hsm⟩ : ∃ x, x = hi0 * 65536 + lo0 := ⟨_, rfl⟩
    rw [← hsm] at HSU HBAD HYES ⊢
    clear hsm HHI HLO
    go_wp2_with fail
    obtain ⟨f, hf⟩ : ∃ f, f = Co.fin s5 := ⟨_, rfl⟩
    have hf10 : (f = 10 ∧ s5.why ≠ 0) ∨ (f ≠ 10 ∧ s5.why = 0) := by rw [hf]; exact fin10 s5 HW5.out
    refine (P9.out.fin hf.symm).mono ?_
    rintro e w10 ⟨rfl, hb10⟩
    have P10 : Hid (PAt gR lo hi s5 w10) := P9.out.later hb10.out HI9.out
    have HZ10 : Hid (Blk w10 g 27 [.int .i64 0, .int .u64 0, .slice none 0 0]) := HZ9.out.below hb10.out HZ9.out.lt
    have HB10 : Hid (Blk w10 gr 27 [.int .i64 (k0 : Nat), .int .u64 (q0 : Nat), .slice X b0.length cx]) := HB9.out.below hb10.out HB9.out.lt
    have HBW10 : Hid (Below w.heap.size w w10) := Later.trans HBW9.out hb10.out
    have HI10 : Hid (hi ≤ w10.heap.size) := Nat.le_trans HI9.out (Below.size hb10.out)
    have HX10 : Hid (Rd w10 X b0) := HX9.out.below hb10.out
    clear hb10 hf
    clear P9 HZ9 HB9 HBW9 HI9 HX9
    rcases hf10 with ⟨rfl, hw5⟩ | ⟨hf10, hw5⟩
    · have HD := Lib.hid (HND.out HOK.out hw5)
      clear hw5 HND HSU HBAD HYES
      have r0 := HZ10.out.cell 0
      have f0 := HZ10.out.frozen 0
      have r1 := HZ10.out.cell 1
      have f1 := HZ10.out.frozen 1
      have r2 := HZ10.out.cell 2
      have f2 := HZ10.out.frozen 2
      go_wp2_with fail
      refine bodyPost_ret (results_blk_tmp2 rfl _ _ g 27 _ _ rfl (set3_blk HZ10.out _ _ _) rfl rfl rfl) rfl ?_
      exact HRET.out _ 10 (below_keeps HBW10.out (set3_keeps _ g _ _ _) HGG.out HBW10.out.size) (HD.out)
    · exact absurd (HIN.out hw5) (by omega)
end Re
end Go.Proofs.YtmcbpgbiephllaaDoor

namespace Go.Proofs.YtmcbpgbiephllaaDoor
open Go.RowKit Rc
namespace Re
end Re
end Go.Proofs.YtmcbpgbiephllaaDoor

namespace Go.Proofs.YtmcbpgbiephllaaDoor
open Go.RowKit Rc
namespace Re
theorem dec_nil : dec [] = (zero, 0, 10) := by kernel_rfl
set_option maxHeartbeats 2000000 in
set_option maxRecDepth 100000 in
theorem re_known_any (hS : SumSaid) (w : World) (hE : Env w) : Calls Tryd.prog 11 #[] w fun e w' => e = .returned (.bool true) ∧ Below w.heap.size w w' := by
  have HD := Lib.hid (re_decode_any hS w none [] 0 (Rd.nil _ _) (Nat.le_refl _) (by simp) hE)
  unfold DAns at HD
  rw [dec_nil] at HD
  have HSZ : Hid (∀ W, Calls Tryd.prog 16 #[.agg #[.int .i64 2, .int .u64 1, .slice none 0 0]] W fun e w' => e = .returned (.int .i64 (15 : Nat)) ∧ Below W.heap.size W w') := fun W => re_size_any ⟨2, 1, []⟩ none 0 W
  clear hS hE
  go_enter Tryd.func11, Tryd.ntmps11
  go_wp2_with fail
  refine HD.out.mono ?_
  rintro e w1 ⟨X, c, rfl, _, _, hb1⟩
  have HB1 := Lib.hid hb1
  clear hb1 HD
  unfold val zero
  dsimp only
  go_wp2_with fail
  refine (HSZ.out _).mono ?_
  rintro e w3 ⟨rfl, hb3⟩
  have HB3 : Hid (Below w.heap.size w w3) := Later.trans (Later.trans HB1.out (below_new _ _)) hb3
  clear hb3 HB1 HSZ
  go_wp2_with fail
  go_ret
  exact ⟨rfl, HB3.out⟩
end Re
end Go.Proofs.YtmcbpgbiephllaaDoor

namespace Go.Proofs.YtmcbpgbiephllaaDoor
open Go.RowKit Rc
namespace Re
def numC (l : List Int) : List Value := l.map (.int .i64)
structure Three (v9 v10 v11 : Value) (gs : List AskR) (w0 wr : World) : Prop where
  b : GAt 5 1 v9 (flat gs).length (Lib.byteCells (flat gs)) w0 wr
  r : GAt 27 3 v10 gs.length (rcells gs) w0 wr
  e : GAt 3 1 v11 gs.length (numC (ends gs)) w0 wr
theorem Three.nil (w : World) : Three (.slice none 0 0) (.slice none 0 0) (.slice none 0 0) [] w w := ⟨GAt.nil _ _ _, GAt.nil _ _ _, GAt.nil _ _ _⟩
theorem Three.below {v9 v10 v11 : Value} {gs : List AskR} {w0 wr w' : World} (h : Three v9 v10 v11 gs w0 wr) (hb : Below wr.heap.size wr w') : Three v9 v10 v11 gs w0 w' := ⟨h.b.below hb, h.r.below hb, h.e.below hb⟩
theorem numC_snoc (l : List Int) (k : Int) : numC (l ++ [k]) = numC l ++ [.int .i64 k] := by simp [numC]
theorem infoRec : (Tryd.prog.info? 27).map (fun i => (i.zero, i.size, i.bytes)) = some (some (.agg #[.int .i64 0, .int .u64 0, .slice none 0 0]), 3, 40) := by kernel_rfl
theorem infoInt : (Tryd.prog.info? 3).map (fun i => (i.zero, i.size, i.bytes)) = some (some (.int .i64 0), 1, 8) := by kernel_rfl
theorem append_b {w : World} {ops : Array Oper} {rest : List Oper} {o : Oper} {a : Act} {Q : Exit → Act → World → Prop} (hgd : o.guard = none) (s x : Operand)
    (ho : o.op = .call { callee := .builtin .append, args := #[s, x], argTypes := #[25, 25] })
    {v9 v10 v11 : Value} {gs : List AskR} {w0 : World} (hs : a.eval s = v9) (hT : Three v9 v10 v11 gs w0 w) (A : Option Addr) (l : List UInt8) (c : Nat) (hx : a.eval x = .slice A l.length c) (hr : Rd w A l) (hn : (flat gs).length + l.length ≤ 1099511627776)
    (h : ∀ v' w', GAt 5 1 v' ((flat gs).length + l.length) (Lib.byteCells (flat gs ++ l)) w0 w' → GAt 27 3 v10 gs.length (rcells gs) w0 w' → GAt 3 1 v11 gs.length (numC (ends gs)) w0 w' → (∀ g cs T2, T2 ≠ 5 → Blk w g T2 cs → Blk w' g T2 cs) → wpList Tryd.prog ops Q rest (a.put o.dst v') w') : wpList Tryd.prog ops Q (o :: rest) a w := by
  obtain ⟨i0, hi, hz0, hz1, hz2⟩ := info_parts Tryd.infoU8
  refine wpList_append_rd hgd s x 25 ho w0.heap.size 5 i0 Tryd.underlying25 hi hz0 hz1 hz2 v9 _ _ hs hT.b.1 A l l.length c rfl hx hr hn hT.b.2.size ?_
  intro v' w' ho' hg'
  refine h v' w' ?_ (hT.r.grown hT.b (by decide) (Below.refl _ _) hg'.out) (hT.e.grown hT.b (by decide) (Below.refl _ _) hg'.out) (fun g cs T2 hT2 hb => hb.grown hg'.out (own_ne_blk hT.b.1 hb hT2))
  have := hT.b.push (Below.refl _ _) ho'.out hg'.out
  rwa [← Lib.byteCells_append] at this
theorem append_r {w : World} {ops : Array Oper} {rest : List Oper} {o : Oper} {a : Act} {Q : Exit → Act → World → Prop} (hgd : o.guard = none) (s x : Operand)
    (ho : o.op = .call { callee := .builtin .append, args := #[s, x], argTypes := #[37, 37] })
    {v9 v10 v11 : Value} {B : List UInt8} {gs : List AskR} {E : List Value} {w0 wr : World} (p : AskR) (hs : a.eval s = v10) (hb : GAt 5 1 v9 B.length (Lib.byteCells B) w0 wr) (hT : GAt 27 3 v10 gs.length (rcells gs) w0 wr) (he : GAt 3 1 v11 gs.length E w0 wr) (g : Nat) (hw : w = wr.alloc (.cells p.cells.toArray 27)) (hgb : g = wr.heap.size) (hx : a.eval x = .slice (some ⟨g, 0, none⟩) 1 1) (hn : gs.length ≤ 1000)
    (h : ∀ v' w', GAt 5 1 v9 B.length (Lib.byteCells B) w0 w' → GAt 27 3 v' (gs ++ [p]).length (rcells (gs ++ [p])) w0 w' → GAt 3 1 v11 gs.length E w0 w' → wpList Tryd.prog ops Q rest (a.put o.dst v') w') : wpList Tryd.prog ops Q (o :: rest) a w := by
  obtain ⟨i0, hi, hz0, hz1, hz2⟩ : ∃ i0, Tryd.prog.info? 27 = some i0 ∧ i0.zero = some (.agg #[.int .i64 0, .int .u64 0, .slice none 0 0]) ∧ i0.size = 3 ∧ i0.bytes = 40 := by
    have h := infoRec
    simp only [Option.map_eq_some_iff, Prod.mk.injEq] at h
    obtain ⟨i0, h1, h2, h3, h4⟩ := h
    exact ⟨i0, h1, h2, h3, h4⟩
  subst hw hgb
  have hb0 : Below wr.heap.size wr (wr.alloc (.cells p.cells.toArray 27)) := below_new wr _
  refine wpList_append_own _ hgd s x 37 ho w0.heap.size 27 i0 (.agg #[.int .i64 0, .int .u64 0, .slice none 0 0]) 3 40 Tryd.underlying37 hi hz0 hz1 hz2 rfl (by decide) v10 gs.length (rcells gs) hs (hT.below hb0).1 ⟨wr.heap.size, 0, none⟩ 1 1 p.cells hx rfl ?_ ?_ (by unfold maxLen; omega) (by omega) (hT.below hb0).2.size ?_
  · intro j u hj
    have e : (⟨wr.heap.size, 0, none⟩ : Addr).add j = ⟨wr.heap.size, 0 + j, none⟩ := by simp [Addr.add]; exact fun h => h.symm
    rw [e, cell_of_row _ _ _ _ _ _ (heap_alloc_new wr (.cells p.cells.toArray 27)), Nat.zero_add]
    simpa using hj
  · intro u hu
    unfold AskR.cells at hu
    simp only [List.mem_cons, List.not_mem_nil, or_false] at hu
    rcases hu with rfl | rfl | rfl <;> rfl
  · intro v' w' h1 h2 _
    refine h v' w' (hb.grown hT (by decide) hb0 h2) ?_ (he.grown hT (by decide) hb0 h2)
    rw [rcells_snoc, List.length_append]
    exact hT.push hb0 h1 h2
theorem append_e {w : World} {ops : Array Oper} {rest : List Oper} {o : Oper} {a : Act} {Q : Exit → Act → World → Prop} (hgd : o.guard = none) (s x : Operand)
    (ho : o.op = .call { callee := .builtin .append, args := #[s, x], argTypes := #[22, 22] })
    {v9 v10 v11 : Value} {B : List UInt8} {n n2 : Nat} {R : List Value} {E : List Int} {w0 wr : World} (k : Int) (hs : a.eval s = v11) (hb : GAt 5 1 v9 B.length (Lib.byteCells B) w0 wr) (hT : GAt 27 3 v10 n2 R w0 wr) (he : GAt 3 1 v11 n (numC E) w0 wr) (g : Nat) (hw : w = wr.alloc (.cells #[.int .i64 k] 3)) (hgb : g = wr.heap.size) (hx : a.eval x = .slice (some ⟨g, 0, none⟩) 1 1) (hn : n ≤ 1000)
    (h : ∀ v' w', GAt 5 1 v9 B.length (Lib.byteCells B) w0 w' → GAt 27 3 v10 n2 R w0 w' → GAt 3 1 v' (n + 1) (numC (E ++ [k])) w0 w' → wpList Tryd.prog ops Q rest (a.put o.dst v') w') : wpList Tryd.prog ops Q (o :: rest) a w := by
  obtain ⟨i0, hi, hz0, hz1, hz2⟩ : ∃ i0, Tryd.prog.info? 3 = some i0 ∧ i0.zero = some (.int .i64 0) ∧ i0.size = 1 ∧ i0.bytes = 8 := by
    have h := infoInt
    simp only [Option.map_eq_some_iff, Prod.mk.injEq] at h
    obtain ⟨i0, h1, h2, h3, h4⟩ := h
    exact ⟨i0, h1, h2, h3, h4⟩
  subst hw hgb
  have hb0 : Below wr.heap.size wr (wr.alloc (.cells #[.int .i64 k] 3)) := below_new wr _
  refine wpList_append_own _ hgd s x 22 ho w0.heap.size 3 i0 (.int .i64 0) 1 8 Tryd.underlying22 hi hz0 hz1 hz2 rfl (by decide) v11 n (numC E) hs (he.below hb0).1 ⟨wr.heap.size, 0, none⟩ 1 1 [.int .i64 k] hx rfl ?_ (by intro u hu; simp at hu; subst hu; rfl) (by unfold maxLen; omega) (by omega) (he.below hb0).2.size ?_
  · intro j u hj
    have hj0 : j = 0 := by
      have := (List.getElem?_eq_some_iff.1 hj).1
      simp at this; exact this
    subst hj0
    have e : (⟨wr.heap.size, 0, none⟩ : Addr).add 0 = ⟨wr.heap.size, 0, none⟩ := rfl
    rw [e, cell_of_row _ _ _ _ _ _ (heap_alloc_new wr (.cells #[.int .i64 k] 3))]
    simpa using hj
  · intro v' w' h1 h2 _
    refine h v' w' (hb.grown he (by decide) hb0 h2) (hT.grown he (by decide) hb0 h2) ?_
    rw [numC_snoc]
    exact he.push hb0 h1 h2
end Re
end Go.Proofs.YtmcbpgbiephllaaDoor

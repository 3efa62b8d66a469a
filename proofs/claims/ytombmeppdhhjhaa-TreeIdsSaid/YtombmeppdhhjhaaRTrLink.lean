/-
  OWN WORK. The program's tree: fileAt, Link.
-/
import Derived.Test.YtombmeppdhhjhaaRTrMake
namespace Go.Proofs.Ytombmeppdhhjhaa
open Go.RowKit Rc
open Tr (Nm En T)
namespace Tm
variable {p : Nat} {av : Value} {gs : List Nat} {S : Nat → Prop} {t t1 : T} {w w1 : World}
/-- The tree as it was turned since. -/
def Went (p : Nat) (av : Value) (gs : List Nat) (S : Nat → Prop) (w : World) (t' : T) (w' : World) : Prop := ∃ S', TIn p av gs S' t' w' ∧ Mod w w' (TrS p av S) ∧ ∀ b, TrS p av S' b → TrS p av S b ∨ w.heap.size ≤ b
theorem Went.start (h : TIn p av gs S t w) (hb : Below w.heap.size w w1) : Went p av gs S w t w1 := ⟨S, h.below hb, Mod.of_below hb _, fun _ h => .inl h⟩
theorem Went.below {w2 : World} (h : Went p av gs S w t w1) (hb : Below w1.heap.size w1 w2) : Went p av gs S w t w2 := by
  obtain ⟨S', h1, h2, h3⟩ := h
  exact ⟨S', h1.below hb, ⟨hb.os.trans h2.os, hb.tape.trans h2.tape, hb.output.trans h2.output, Nat.le_trans h2.size hb.size, fun k hk hn => (hb.block k (Nat.lt_of_lt_of_le hk h2.size)).trans (h2.block k hk hn)⟩, h3⟩
theorem mod_trans {S0 S1 : Nat → Prop} {a b c : World} (h : Mod a b S0) (hs : ∀ k, S1 k → S0 k ∨ a.heap.size ≤ k) (h2 : Mod b c S1) : Mod a c S0 :=
  ⟨h2.os.trans h.os, h2.tape.trans h.tape, h2.output.trans h.output, Nat.le_trans h.size h2.size, fun k hk hn => (h2.block k (Nat.lt_of_lt_of_le hk h.size) fun h8 => (hs k h8).elim hn fun h9 => absurd hk (Nat.not_lt.2 h9)).trans (h.block k hk hn)⟩
theorem Went.entry (h : Went p av gs S w t w1) (hr : Tr.Ris t) {i : Int} {e : En} (hf : Tr.find t i = some e) : ∃ g S1, ptrOf gs t i = .pointer (some ⟨g, 0, none⟩) ∧ EAt g e S1 w1 ∧
    ∀ w2 (f : En → En) S1', EAt g (f e) S1' w2 → Mod w1 w2 S1 → (∀ b, S1' b → S1 b ∨ w1.heap.size ≤ b) → Went p av gs S w (Tr.upd t i f) w2 := by
  obtain ⟨S', h1, h2, h3⟩ := h
  obtain ⟨g, S1, k1, k2, k3, k4⟩ := h1.turnAt hr hf
  refine ⟨g, S1, k1, k2, fun w2 f S1' m1 m2 m3 => ?_⟩
  obtain ⟨S'', n1, n2, n3⟩ := k4 w2 f S1' m1 m2 m3
  exact ⟨S'', n1, mod_trans h2 h3 n2, fun b hb => (n3 b hb).elim (h3 b) fun h8 => .inr (Nat.le_trans h2.size h8)⟩
theorem Went.done (h : Went p av gs S w t w1) (x : Value) : TTurn p t x (TrS p av S) w (.returned x) w1 := by
  obtain ⟨S', h1, h2, h3⟩ := h
  exact ⟨rfl, _, h1.at_, h2, h3⟩
theorem Went.remove (h : Went p av gs S w t w1) (hr : Tr.Ris t) (hlt : t.length ≤ 1000000) {i : Int} {e : En} (hf : Tr.find t i = some e) (y : Value) :
    Calls Try.prog 37 #[.pointer (some ⟨p, 0, none⟩), .int .i64 i] w1 fun r w2 => r = .returned (.tuple #[]) ∧ TTurn p (Tr.remove t i) y (TrS p av S) w (.returned y) w2 := by
  obtain ⟨S', h1, h2, h3⟩ := h
  refine (remove_any h1 hr hlt hf).mono ?_
  rintro r w2 ⟨rfl, S2, n1, n2, n3⟩
  exact ⟨rfl, rfl, S2, n1, mod_trans h2 h3 n2, fun b hb => (n3 b hb).elim (h3 b) fun h8 => .inr (Nat.le_trans h2.size h8)⟩
/-- A name more in a directory. -/
theorem Went.put (h : Went p av gs S w t w1) (hr : Tr.Ris t) {d : Int} {en : En} (hf : Tr.find t d = some en) {g : Nat} (hp : ptrOf gs t d = .pointer (some ⟨g, 0, none⟩)) (x : Bs) (k : Int) (hlt : en.names.length ≤ 900000000) (hx : x.length ≤ 1000000) :
    Calls Try.prog 27 #[.pointer (some ⟨g, 0, none⟩), .string (strOf x), .int .i64 k] w1 fun r w2 => r = .returned (.tuple #[]) ∧ Went p av gs S w (Tr.put t d x k) w2 := by
  obtain ⟨g', S1, h1, h2, h3⟩ := h.entry hr hf
  obtain rfl : g' = g := ptr_inj (h1.symm.trans hp)
  refine (put_any cloneSaid h2 x k hlt hx).mono ?_
  rintro r w2 ⟨rfl, S1', m1, m2, m3⟩
  exact ⟨rfl, h3 w2 (fun e => { e with names := Tr.ins e.names x k }) S1' m1 m2 m3⟩
theorem Went.drop (h : Went p av gs S w t w1) (hr : Tr.Ris t) {d : Int} {en : En} (hf : Tr.find t d = some en) {g : Nat} (hp : ptrOf gs t d = .pointer (some ⟨g, 0, none⟩)) (x : Bs) (hlt : en.names.length ≤ 900000000) :
    Calls Try.prog 36 #[.pointer (some ⟨g, 0, none⟩), .string (strOf x)] w1 fun r w2 => r = .returned (.tuple #[]) ∧ Went p av gs S w (Tr.cut t d x) w2 := by
  obtain ⟨g', S1, h1, h2, h3⟩ := h.entry hr hf
  obtain rfl : g' = g := ptr_inj (h1.symm.trans hp)
  refine (drop_any h2 x (by omega)).mono ?_
  rintro r w2 ⟨rfl, S1', m1, m2, m3⟩
  exact ⟨rfl, h3 w2 (fun e => { e with names := Tr.del e.names x }) S1' m1 m2 m3⟩
/-- A node's Links are written. -/
theorem Went.links (h : Went p av gs S w t w1) (hr : Tr.Ris t) {i : Int} {e : En} (hf : Tr.find t i = some e) {g : Nat} (hp : ptrOf gs t i = .pointer (some ⟨g, 0, none⟩)) :
    w1.cell? ⟨g, 0, none⟩ = some (.int .i64 e.nd.id) ∧ w1.cell? ⟨g, 2, none⟩ = some (.int .i64 e.nd.links) ∧ w1.cell? ⟨g, 5, none⟩ = some (.bool e.nd.shut) ∧ w1.frozen? ⟨g, 2, none⟩ = false ∧ ∀ k : Int, Went p av gs S w (Tr.more t i k) (w1.setCell ⟨g, 2, none⟩ (.int .i64 (e.nd.links + k))) := by
  obtain ⟨g', S1, h1, h2, h3⟩ := h.entry hr hf
  obtain rfl : g' = g := ptr_inj (h1.symm.trans hp)
  obtain ⟨c0, _, c2, _, _, c5⟩ := h2.cells
  obtain ⟨dv, nv, hE, rfl⟩ := h2
  refine ⟨c0, c2, c5, hE.box.frozen 2, fun k => ?_⟩
  obtain ⟨m1, m2⟩ := hE.poke (e' := { e with nd := { e.nd with links := e.nd.links + k } }) (i := 2) (u := .int .i64 (e.nd.links + k)) rfl rfl rfl
  exact h3 _ (fun e => { e with nd := { e.nd with links := e.nd.links + k } }) _ m1 m2 fun b hb => .inl hb
theorem formed_two (w : World) (A B : Option Addr) (q r : List Bs) (cap cap2 : Nat) (hr : RdS w A q) (hc : q.length ≤ cap) (hl : q.length ≤ 1000000) (hs : ∀ s ∈ q, s.length ≤ 1000000) (hr2 : RdS w B r) (hc2 : r.length ≤ cap2) (hl2 : r.length ≤ 1000000) (hs2 : ∀ s ∈ r, s.length ≤ 1000000) :
    Calls Try.prog 22 #[.slice (some ⟨w.heap.size, 0, none⟩) 2 2] (w.alloc (.cells #[.slice A q.length cap, .slice B r.length cap2] 28)) fun e w' => e = .returned (.int .i64 ((if Tr.formed q ≠ 0 then Tr.formed q else Tr.formed r) : Nat)) ∧ w' = w.alloc (.cells #[.slice A q.length cap, .slice B r.length cap2] 28) := by
  have h := formed_any _ _ [q, r] 2 (rdP_two w q r A B cap cap2 28 hc hr hc2 hr2) (by simp) (fun p hp => by
    simp only [List.mem_cons, List.not_mem_nil, or_false] at hp
    rcases hp with rfl | rfl
    · exact ⟨hl, fun s h => by have := hs s h; omega⟩
    · exact ⟨hl2, fun s h => by have := hs2 s h; omega⟩)
  have e : formedL [q, r] = if Tr.formed q ≠ 0 then Tr.formed q else Tr.formed r := by
    unfold formedL
    split
    · rfl
    · unfold formedL
      split
      · rfl
      · rename_i h1
        rw [Decidable.byContradiction h1]; rfl
  rw [e] at h
  exact h
/-- The number of the refusal, if it is no file. -/
def fileAtN (t : T) (q : List Bs) : Nat := if (Tr.lookF t 0 q).2 ≠ 0 then (Tr.lookF t 0 q).2 else if Tr.kindOf t (Tr.lookF t 0 q).1 = 2 then 22 else 0
def fileAtV (gs : List Nat) (t : T) (q : List Bs) (n : Nat) : Value := .tuple #[if n = 0 then ptrOf gs t (Tr.lookF t 0 q).1 else .pointer none, .int .i64 (n : Nat)]

set_option maxHeartbeats 1000000 in
set_option maxRecDepth 100000 in
theorem fileAt_any (h : TIn p av gs S t w) (hG : Tr.Good t) (A : Option Addr) (q : List Bs) (cap : Nat) (hr : RdS w A q) (hl : q.length ≤ 1000000) :
    Calls Try.prog 46 #[.pointer (some ⟨p, 0, none⟩), .slice A q.length cap] w fun e w' => e = .returned (fileAtV gs t q (fileAtN t q)) ∧ Below w.heap.size w w' := by
  have HA := Lib.hid (at_any h hG A q cap hr hl)
  by_cases h0 : (Tr.lookF t 0 q).2 = 0
  · obtain ⟨e, he⟩ := Option.isSome_iff_exists.1 (hG.look_is h0)
    have HV : Hid (fileAtV gs t q 0 = .tuple #[ptrOf gs t (Tr.lookF t 0 q).1, .int .i64 0]) := by
      show _ = _
      unfold fileAtV
      rw [if_pos rfl]; rfl
    have hp : ptrAt gs t q = ptrOf gs t (Tr.lookF t 0 q).1 := by unfold ptrAt; rw [if_pos h0]
    rw [hp, h0] at HA
    have HW := Lib.hid (fun W (hW : Below w.heap.size w W) => (h.below hW).ptr hG he)
    obtain ⟨g, S1, hpp, _⟩ := h.ptr hG he
    rw [hpp] at HA HV
    have HPP := Lib.hid hpp
    by_cases h2 : e.nd.kind = 2
    · have HN : Hid (fileAtN t q = 22) := by
        show _ = _
        unfold fileAtN
        rw [if_neg (by rw [h0]; simp), Tr.kindOf_of he, if_pos h2]
      have hk : (e.nd.kind == 2) = true := by simpa using h2
      rw [HN.out]
      clear h hG hr he hp hpp h0 h2
      go_enter Try.func46, Try.ntmps46
      go_wp2_with fail
      refine HA.out.mono ?_
      rintro e1 w1 ⟨rfl, hb⟩
      obtain ⟨g1, S2, hp1, hE, _, _⟩ := HW.out w1 hb
      obtain rfl : g1 = g := ptr_inj (hp1.symm.trans HPP.out)
      have c1 := hE.cells.2.1
      have HB := Lib.hid hb
      clear hb hE hp1
      go_wp2_with fail
      go_ret2
      exact ⟨rfl, HB.out⟩
    · have HN : Hid (fileAtN t q = 0) := by
        show _ = _
        unfold fileAtN
        rw [if_neg (by rw [h0]; simp), Tr.kindOf_of he, if_neg h2]
      have hk : (e.nd.kind == 2) = false := by simpa using h2
      rw [HN.out]
      clear h hG hr he hp hpp h0 h2
      go_enter Try.func46, Try.ntmps46
      go_wp2_with fail
      refine HA.out.mono ?_
      rintro e1 w1 ⟨rfl, hb⟩
      obtain ⟨g1, S2, hp1, hE, _, _⟩ := HW.out w1 hb
      obtain rfl : g1 = g := ptr_inj (hp1.symm.trans HPP.out)
      have c1 := hE.cells.2.1
      have HB := Lib.hid hb
      clear hb hE hp1
      go_wp2_with fail
      go_ret2
      exact ⟨(congrArg Ending.returned HV.out).symm, HB.out⟩
  · have HN : Hid (fileAtN t q = (Tr.lookF t 0 q).2) := by
      show _ = _
      unfold fileAtN
      rw [if_pos h0]
    have hp : ptrAt gs t q = .pointer none := by unfold ptrAt; rw [if_neg h0]
    rw [hp] at HA
    rw [HN.out]
    obtain ⟨n, hn⟩ : ∃ n, n = (Tr.lookF t 0 q).2 := ⟨_, rfl⟩
    rw [← hn] at HA h0 ⊢
    have HV : Hid (fileAtV gs t q n = .tuple #[.pointer none, .int .i64 (n : Nat)]) := by
      show _ = _
      unfold fileAtV
      rw [if_neg h0]
    have hni : ((n : Int) == 0) = false := by rw [beq_eq_false_iff_ne]; omega
    clear h hG hr h0 hp hn
    go_enter Try.func46, Try.ntmps46
    go_wp2_with fail
    refine HA.out.mono ?_
    rintro e1 w1 ⟨rfl, hb⟩
    have HB := Lib.hid hb
    clear hb
    go_wp2_with fail
    go_ret2
    exact ⟨(congrArg Ending.returned HV.out).symm, HB.out⟩

set_option maxHeartbeats 4000000 in
set_option maxRecDepth 100000 in
theorem link_any (h : TIn p av gs S t w) (hG : Tr.Good t) (A B : Option Addr) (q r : List Bs) (cap cap2 : Nat) (hr : RdS w A q) (hc : q.length ≤ cap) (hl : q.length ≤ 1000000) (hs : ∀ s ∈ q, s.length ≤ 1000000) (hr2 : RdS w B r) (hc2 : r.length ≤ cap2) (hl2 : r.length ≤ 1000000) (hs2 : ∀ s ∈ r, s.length ≤ 1000000) :
    Calls Try.prog 32 #[.pointer (some ⟨p, 0, none⟩), .slice A q.length cap, .slice B r.length cap2] w (TTurn p (Tr.link t q r).2 (.int .i64 ((Tr.link t q r).1 : Nat)) (TrS p av S) w) := by
  obtain ⟨wa, hwa⟩ : ∃ wa, wa = w.alloc (.cells #[.slice A q.length cap, .slice B r.length cap2] 28) := ⟨_, rfl⟩
  have hba : Below w.heap.size w wa := by rw [hwa]; exact below_new w _
  have HFM := Lib.hid (formed_two w A B q r cap cap2 hr hc hl hs hr2 hc2 hl2 hs2)
  rw [← hwa] at HFM
  have HS : Hid (∀ x W, Below w.heap.size w W → TTurn p t x (TrS p av S) w (.returned x) W) := fun x W hW => TTurn.stay h hW
  have HFA := Lib.hid (fileAt_any (h.below hba) hG A q cap (hr.below hba) hl)
  have HPL := Lib.hid (fun W (hW : Below w.heap.size w W) => place_any (h.below hW) hG B r cap2 (hr2.below hW) hc2 hl2)
  have HBA := Lib.hid hba
  have H := Lib.hid h
  have HG := Lib.hid hG
  obtain ⟨R, hR⟩ : ∃ R, R = Tr.link t q r := ⟨_, rfl⟩
  rw [← hR]
  obtain ⟨fm, hfm⟩ : ∃ fm, fm = if Tr.formed q ≠ 0 then Tr.formed q else Tr.formed r := ⟨_, rfl⟩
  rw [← hfm] at HFM
  have hR1 : R = if fm ≠ 0 then (fm, t) else if (Tr.lookF t 0 q).2 ≠ 0 then ((Tr.lookF t 0 q).2, t)
      else if Tr.kindOf t (Tr.lookF t 0 q).1 = 2 then (22, t) else if (Tr.place t r).2.2 ≠ 0 then ((Tr.place t r).2.2, t)
      else if (Tr.get (Tr.kids t (Tr.place t r).1) (Tr.place t r).2.1).isSome then (21, t) else if 64 ≤ (Tr.ndOf t (Tr.lookF t 0 q).1).links then (4, t)
      else (0, Tr.more (Tr.put t (Tr.place t r).1 (Tr.place t r).2.1 (Tr.lookF t 0 q).1) (Tr.lookF t 0 q).1 1) := by
    rw [hR, hfm]
    unfold Tr.link
    by_cases h1 : Tr.formed q = 0
    · simp only [h1, ne_eq, not_true_eq_false, if_false]
    · simp only [h1, ne_eq, not_false_eq_true, if_true]
  have HR1 := Lib.hid hR1
  have HSM := Lib.hid hs2
  clear h hG hr hr2 hba hfm hs hs2 hR hR1
  go_enter Try.func32, Try.ntmps32
  go_wp2_with fail
  rw [← hwa]
  clear hwa
  refine HFM.out.mono ?_
  rintro e w1 ⟨rfl, rfl⟩
  by_cases hf : fm = 0
  case neg =>
    have hfi : ((fm : Int) == 0) = false := by rw [beq_eq_false_iff_ne]; omega
    have HN : Hid (R = (fm, t)) := by
      have := HR1.out
      rw [if_pos hf] at this
      exact this
    clear hf
    go_wp2_with fail
    go_ret
    rw [HN.out]
    exact HS.out _ _ HBA.out
  subst hf
  have hR2 := HR1.out
  rw [if_neg (by simp)] at hR2
  have HR2 := Lib.hid hR2
  clear hR2 HR1
  go_wp2_with fail
  refine HFA.out.mono ?_
  rintro e w2 ⟨rfl, hb2⟩
  have HB2 : Hid (Below w.heap.size w w2) := HBA.out.trans (hb2.mono HBA.out.size)
  clear hb2
  by_cases hfa : fileAtN t q = 0
  case neg =>
    obtain ⟨n, hn⟩ : ∃ n, n = fileAtN t q := ⟨_, rfl⟩
    have HN : Hid (R = (n, t)) := by
      have := HR2.out
      unfold fileAtN at hn hfa
      by_cases h1 : (Tr.lookF t 0 q).2 = 0
      · rw [if_neg (by rw [h1]; simp)] at hn hfa this
        split at hfa
        · rename_i h2
          rw [if_pos h2] at hn this
          rw [hn]; exact this
        · exact absurd rfl hfa
      · rw [if_pos h1] at hn this
        rw [hn]; exact this
    unfold fileAtV
    rw [← hn] at hfa ⊢
    rw [if_neg hfa]
    have hni : ((n : Int) == 0) = false := by rw [beq_eq_false_iff_ne]; omega
    clear hfa hn
    go_wp2_with fail
    go_ret
    rw [HN.out]
    exact HS.out _ _ HB2.out
  obtain ⟨h1, h2⟩ : (Tr.lookF t 0 q).2 = 0 ∧ Tr.kindOf t (Tr.lookF t 0 q).1 ≠ 2 := by
    unfold fileAtN at hfa
    split at hfa
    · rename_i h1; exact absurd hfa h1
    · rename_i h1
      split at hfa
      · cases hfa
      · rename_i h2; exact ⟨Decidable.byContradiction h1, h2⟩
  obtain ⟨ef, hef⟩ := Option.isSome_iff_exists.1 (HG.out.look_is h1)
  obtain ⟨i, hi⟩ : ∃ i, i = (Tr.lookF t 0 q).1 := ⟨_, rfl⟩
  obtain ⟨gf, Sf, hpf, hEf, _, _⟩ := (H.out.below HB2.out).ptr HG.out hef
  have hR3 := HR2.out
  rw [if_neg (by rw [h1]; simp), if_neg h2] at hR3
  rw [← hi] at hef hpf hR3 h2
  rw [Tr.ndOf_of hef] at hR3
  have HV : Hid (fileAtV gs t q (fileAtN t q) = .tuple #[.pointer (some ⟨gf, 0, none⟩), .int .i64 0]) := by
    show _ = _
    unfold fileAtV
    rw [hfa, if_pos rfl, ← hi, hpf]; rfl
  rw [HV.out]
  rw [Tr.kindOf_of hef] at h2
  have HR3 := Lib.hid hR3
  have HEF := Lib.hid hef
  have HPF := Lib.hid hpf
  have HK2 := Lib.hid h2
  clear hfa h1 h2 hef hi hpf hEf hR3 HV HR2
  go_wp2_with fail
  refine (HPL.out w2 HB2.out).mono ?_
  rintro e w3 ⟨rfl, hb3⟩
  have HB3 : Hid (Below w.heap.size w w3) := HB2.out.trans (hb3.mono HB2.out.size)
  clear hb3
  by_cases hp0 : (Tr.place t r).2.2 = 0
  case neg =>
    obtain ⟨pn, hpn⟩ : ∃ pn, pn = (Tr.place t r).2.2 := ⟨_, rfl⟩
    have HN : Hid (R = (pn, t)) := by
      have := HR3.out
      rw [if_pos hp0, ← hpn] at this
      exact this
    have hpi : ((pn : Int) == 0) = false := by rw [beq_eq_false_iff_ne]; omega
    unfold placeV
    rw [if_neg hp0, ← hpn]
    obtain ⟨px, hpx⟩ : ∃ px, px = (Tr.place t r).2.1 := ⟨_, rfl⟩
    rw [← hpx]
    clear hp0 hpn hpx
    go_wp2_with fail
    go_ret
    rw [HN.out]
    exact HS.out _ _ HB3.out
  obtain ⟨r1, x, en, hq, hlk, hx, hfd, hkd, hplace⟩ := Tr.place_is HG.out hp0
  obtain ⟨d, hd⟩ : ∃ d, d = en.nd.id := ⟨_, rfl⟩
  rw [hplace] at hfd
  rw [← hd] at hplace hfd
  simp only at hfd
  obtain ⟨gd, Sd, hpd, hEd, _, hnl⟩ := (H.out.below HB3.out).ptr HG.out hfd
  have HHAS := Lib.hid (has_any hEd x (by omega))
  have HPV : Hid (placeV gs t r = .tuple #[.pointer (some ⟨gd, 0, none⟩), .string (strOf x), .int .i64 0]) := by
    show _ = _
    unfold placeV
    rw [hplace]
    simp only [if_true, hpd]; rfl
  have hxl : x.length ≤ 1000000 := HSM.out x (by rw [hq]; simp)
  have hR4 := HR3.out
  rw [hplace] at hR4
  simp only [ne_eq, not_true_eq_false, if_false] at hR4
  rw [Tr.kids_of hfd] at hR4
  have HFD := Lib.hid hfd
  have HPD := Lib.hid hpd
  have HNL := Lib.hid hnl
  have HXL := Lib.hid hxl
  have HKD := Lib.hid hkd
  rw [HPV.out]
  obtain ⟨o, ho⟩ : ∃ o, o = (Tr.get en.names x).isSome := ⟨_, rfl⟩
  rw [← ho] at HHAS hR4
  have HR4 := Lib.hid hR4
  clear hp0 hq hlk hx hfd hkd hplace hpd hEd hR4 hnl hxl ho hd HR3
  go_wp2_with fail
  refine HHAS.out.mono ?_
  rintro e w4 ⟨rfl, hb4⟩
  have HB4 : Hid (Below w.heap.size w w4) := HB3.out.trans (hb4.mono HB3.out.size)
  clear hb4
  cases o
  case true =>
    have HN : Hid (R = (21, t)) := HR4.out
    go_wp2_with fail
    go_ret
    rw [HN.out]
    exact HS.out _ _ HB4.out
  have hW := Went.start H.out HB4.out
  obtain ⟨c0, c2, _⟩ := hW.links HG.out.ris HEF.out HPF.out
  have hid : ef.nd.id = i := (Tr.find_some HEF.out).2
  rw [hid] at c0
  by_cases h64 : (64 : Int) ≤ ef.nd.links
  case pos =>
    have HN : Hid (R = (4, t)) := by
      have := HR4.out
      rw [if_neg (by simp), if_pos h64] at this
      exact this
    clear hW hid
    go_wp2_with fail
    go_ret
    rw [HN.out]
    exact HS.out _ _ HB4.out
  have hN := HR4.out
  rw [if_neg (by simp), if_neg h64] at hN
  have HN := Lib.hid hN
  have HPUT := Lib.hid (hW.put HG.out.ris HFD.out HPD.out x i (by have := HNL.out; omega) HXL.out)
  have hdi : i ≠ d := fun e => by
    have h1 := HFD.out
    rw [← e, show Tr.find t i = _ from HEF.out] at h1
    injection h1 with h1
    exact HK2.out (by rw [h1]; exact HKD.out)
  have HDI := Lib.hid hdi
  have hlk := (HG.out.each ef (Tr.find_some HEF.out).1).nd
  have hl0 : 0 ≤ ef.nd.links ∧ ef.nd.links ≤ 65535 := ⟨hlk.2.2.1, hlk.2.2.2.1⟩
  obtain ⟨lk, hlk2⟩ : ∃ lk, lk = ef.nd.links := ⟨_, rfl⟩
  have HLK := Lib.hid hlk2
  rw [← hlk2] at c2 h64 hl0
  have wl : IntKind.i64.wrap (lk + 1) = lk + 1 := by rw [IntKind.wrap_i64]; omega
  clear hW hid hN hdi hlk hlk2
  go_wp2_with fail
  refine HPUT.out.mono ?_
  rintro e w5 ⟨rfl, hW5⟩
  have hfid : ∀ e : En, ({ e with names := Tr.ins e.names x i } : En).nd.id = e.nd.id := fun _ => rfl
  have hr5 : Tr.Ris (Tr.put t d x i) := Tr.upd_ris HG.out.ris hfid
  have hf5 : Tr.find (Tr.put t d x i) i = some ef := by
    unfold Tr.put
    rw [Tr.find_upd hfid, HEF.out]
    simp only [Option.map_some, if_neg HDI.out]
  have hp5 : ptrOf gs (Tr.put t d x i) i = .pointer (some ⟨gf, 0, none⟩) := by
    unfold Tr.put
    rw [ptrOf_upd hfid]; exact HPF.out
  obtain ⟨_, c2', _, f2', hmore⟩ := hW5.links hr5 hf5 hp5
  have HMO := Lib.hid (hmore 1)
  rw [show ef.nd.links = lk from HLK.out.symm] at c2' HMO
  clear hW5 hr5 hf5 hp5 hmore hfid c0 c2
  go_wp2_with fail
  go_ret
  rw [HN.out]
  exact HMO.out.done _
end Tm
end Go.Proofs.Ytombmeppdhhjhaa

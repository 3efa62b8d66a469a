/-
  OWN WORK. ReRefDec
-/
import Derived.Test.YtmcbpgbiephllaaDoorW04
import Derived.Test.YtmcbpgbiephllaaDoorW03
import Derived.Test.YtmcbpgbiephllaaDoorW05
import Derived.Test.YtmcbpgbiephllaaDoorW02
import Derived.BigRegion

namespace Go.Proofs.YtmcbpgbiephllaaDoor
open Go.RowKit Rc
namespace Re
theorem rin_poke {g g2 : Nat} {T : TypeId} {A : Option Addr} {L : List UInt8} {cap : Nat} {s : Co.Rs} {w w' : World} (h : RIn g T A L cap s w) (hk : Keeps w w' g2) (hg : g ≠ g2) (hA : 0 < L.length → ∀ b, A.map (·.block) = some b → b < g2) : RIn g T A L cap s w' := by
  refine ⟨h.hd.keep (hk.block g h.hd.lt (fun e => hg (by injection e))), h.rd.keeps hk (fun h0 e => ?_), h.off, h.fits, h.small⟩
  have := hA h0 _ e
  omega
theorem row_of {w w' : World} {v : Value} {l : List UInt8} (ho : w'.ownsRow w.heap.size 5 1 v l.length (Lib.byteCells l)) : ∃ X c, v = .slice X l.length c ∧ l.length ≤ c ∧ Rd w' X l ∧ ∀ b, X.map (·.block) = some b → w.heap.size ≤ b := by
  obtain ⟨X, c, rfl, hc, hr⟩ := own_form ho
  refine ⟨X, c, rfl, hc, hr, fun b hb => (own_lt ho ?_).1⟩
  cases X with
  | none => simp at hb
  | some a => simpa [Value.ownBlock] using hb
theorem four_frow {w : World} {c : Nat} :
    Calls Tryd.prog 20 #[.slice none 0 0, .int .u32 (c : Nat)] w fun e w' => ∃ v, e = .returned v ∧ Ob.Fresh (four c) w v w' ∧ Below w.heap.size w w' := by
  refine (refSum4_any w [] none 0 c (Rd.nil _ _) (by simp)).mono ?_
  rintro e w' ⟨v, h1, h2, h3⟩
  exact ⟨v, h1, h2, h3⟩
set_option maxHeartbeats 8000000 in
set_option maxRecDepth 100000 in
theorem re_refDec_any (w : World) (A : Option Addr) (L : List UInt8) (cap : Nat) (hr : Rd w A L) (hc : L.length ≤ cap) (hl : L.length ≤ 65550) :
    Calls Tryd.prog 25 #[.slice A L.length cap] w (DAns L w) := by
  obtain ⟨k0, s1, h1⟩ : ∃ a s, Co.num 1 ⟨L, 0⟩ = (a, s) := ⟨_, _, rfl⟩
  obtain ⟨q0, s2, h2⟩ : ∃ a s, Co.num 8 s1 = (a, s) := ⟨_, _, rfl⟩
  obtain ⟨b0, s3, h3⟩ : ∃ a s, Co.bytes s2 = (a, s) := ⟨_, _, rfl⟩
  obtain ⟨hi0, s4, h4⟩ : ∃ a s, Co.num 2 s3 = (a, s) := ⟨_, _, rfl⟩
  obtain ⟨lo0, s5, h5⟩ : ∃ a s, Co.num 2 s4 = (a, s) := ⟨_, _, rfl⟩
  obtain ⟨l4, sr, hsr⟩ : ∃ a s, Co.raw 4 s3 = (a, s) := ⟨_, _, rfl⟩
  have hfi : fields L = (⟨(k0 : Nat), q0, b0⟩, hi0 * 65536 + lo0, s5) := by unfold fields; simp only [h1, h2, h3, h4, h5]
  have HFI := Lib.hid hfi
  have HR4 : Hid ((s5.why = 0 → sr.why = 0 ∧ l4 = four (hi0 * 65536 + lo0) ∧ sr.rem = s5.rem) ∧ (s5.why ≠ 0 → sr.why ≠ 0)) := by
    have := raw4_of s3
    rw [h4, hsr] at this
    dsimp only at this
    rw [h5] at this
    exact this
  have HA3 : Hid (s3.why = 0 → b0.length ≤ 65535 ∧ L.length = 11 + b0.length + s3.rem.length) := fun h0 => by
    have := at3 L (by rw [h1]; dsimp only; rw [h2]; dsimp only; rw [h3]; exact h0)
    rw [h1] at this
    dsimp only at this
    rw [h2] at this
    dsimp only at this
    rw [h3] at this
    exact this
  have HUP : Hid (sr.why = 0 → s3.why = 0) := fun h0 => why_up s3 4 (by rw [hsr]; exact h0)
  have HFW : Hid (s1.why = 0 ↔ 0 < L.length) := by have := first_why L; rw [h1] at this; exact this
  have HIN : Hid (s5.why = 0 → hi0 * 65536 + lo0 < 4294967296 ∧ L.length = 15 + b0.length + s5.rem.length) := fun h0 => by
    have hv := fields_inv L (by rw [HFI.out]; exact h0)
    rw [HFI.out] at hv
    have := congrArg List.length hv.2.2
    rw [List.length_append, List.length_append, head_length hv.1, four_length] at this
    dsimp only at this
    exact ⟨hv.2.1, by omega⟩
  obtain ⟨D, hD⟩ : ∃ D, D = dec L := ⟨_, rfl⟩
  have HK : Hid (0 < L.length → ¬ Kd k0 → D = (zero, 0, 12)) := fun ha hb => by rw [hD]; unfold dec; rw [h1]; exact if_pos ⟨ha, hb⟩
  have HND : Hid ((L.length = 0 ∨ Kd k0) → s5.why ≠ 0 → D = (zero, 0, 10)) := fun ha hb => by
    rw [hD]; unfold dec; rw [h1, HFI.out, if_neg (fun h => ha.elim (fun h0 => by have := h.1; omega) h.2)]; exact if_pos hb
  have HSU : Hid ((L.length = 0 ∨ Kd k0) → s5.why = 0 → Cr.sum (L.take (11 + b0.length)) ≠ hi0 * 65536 + lo0 → D = (zero, 0, 14)) := fun ha hb hs => by
    rw [hD]; unfold dec; rw [h1, HFI.out, if_neg (fun h => ha.elim (fun h0 => by have := h.1; omega) h.2), if_neg (by simpa using hb)]; exact if_pos hs
  have HBAD : Hid ((L.length = 0 ∨ Kd k0) → s5.why = 0 → Cr.sum (L.take (11 + b0.length)) = hi0 * 65536 + lo0 → ¬ Right ⟨(k0 : Nat), q0, b0⟩ → D = (zero, 0, 12)) := fun ha hb hs hn => by
    rw [hD]; unfold dec; rw [h1, HFI.out, if_neg (fun h => ha.elim (fun h0 => by have := h.1; omega) h.2), if_neg (by simpa using hb), if_neg (by simpa using hs)]; exact if_pos hn
  have HYES : Hid ((L.length = 0 ∨ Kd k0) → s5.why = 0 → Cr.sum (L.take (11 + b0.length)) = hi0 * 65536 + lo0 → Right ⟨(k0 : Nat), q0, b0⟩ → D = (⟨(k0 : Nat), q0, b0⟩, 15 + b0.length, 0)) := fun ha hb hs hn => by
    rw [hD]; unfold dec; rw [h1, HFI.out, if_neg (fun h => ha.elim (fun h0 => by have := h.1; omega) h.2), if_neg (by simpa using hb), if_neg (by simpa using hs)]; exact if_neg (fun h => h hn)
  unfold DAns
  rw [← hD]
  obtain ⟨sm, hsm⟩ : ∃ x, x = hi0 * 65536 + lo0 := ⟨_, rfl⟩
  rw [← hsm] at HR4 HIN HSU HBAD HYES
  have H1E := Lib.hid h1
  have H2E := Lib.hid h2
  have H3E := Lib.hid h3
  have HRE := Lib.hid hsr
  have HRT : Hid (∀ (X : Option Addr) (c : Nat) W, Calls Tryd.prog 22 #[.agg #[.int .i64 (k0 : Nat), .int .u64 (q0 : Nat), .slice X b0.length c]] W fun e w' => e = .returned (.bool (decide (Right ⟨(k0 : Nat), q0, b0⟩))) ∧ Below W.heap.size W w') := fun X c W => re_refRight_any ⟨(k0 : Nat), q0, b0⟩ X c W
  clear h1 h2 h3 h4 h5 hD HFI hfi hsr hsm
  obtain ⟨W0, hW0⟩ : ∃ W0, W0 = w.alloc (.cells #[.int .i64 0, .int .u64 0, .slice none 0 0] 29) := ⟨_, rfl⟩
  obtain ⟨g, hg⟩ : ∃ g, g = w.heap.size := ⟨_, rfl⟩
  obtain ⟨WR, hWR⟩ : ∃ WR, WR = W0.alloc (.cells #[.slice A L.length cap, .int .i64 0, .int .i64 0] 71) := ⟨_, rfl⟩
  obtain ⟨gR, hgR⟩ : ∃ g, g = W0.heap.size := ⟨_, rfl⟩
  have hgE : gR = g + 1 := by rw [hgR, hg, hW0, World.size_alloc]
  have hbw : Below w.heap.size w W0 := by rw [hW0]; exact below_new w _
  have hbr : Below W0.heap.size W0 WR := by rw [hWR]; exact below_new W0 _
  have HAL : Hid (0 < L.length → ∀ b, A.map (·.block) = some b → b < w.heap.size) := fun h0 b hb => by
    obtain ⟨b', off, rfl, hlt, _⟩ := hr h0
    simp at hb
    omega
  have HGG : Hid (w.heap.size = g) := hg.symm
  have HGR : Hid (g < gR) := by have : g < W0.heap.size := (by rw [hg, hW0, World.size_alloc]; omega); show _ < _; rw [hgR]; exact this
  have hz0 : Blk W0 g 29 [.int .i64 0, .int .u64 0, .slice none 0 0] := by rw [hW0, hg]; exact Blk.new w _ _
  have HZ1 : Hid (Blk WR g 29 [.int .i64 0, .int .u64 0, .slice none 0 0]) := hz0.below hbr hz0.lt
  have HBW1 : Hid (Below w.heap.size w WR) := Later.trans hbw hbr
  have N1 : Hid (RIn gR 71 A L cap ⟨L, 0⟩ WR) := by
    refine ⟨⟨0, Nat.zero_le _, rfl, ?_⟩, (hr.below hbw).below hbr, fun h0 e => ?_, hc, by omega⟩
    · rw [hWR, hgR]; exact Blk.new W0 _ _
    · have h9 := HAL.out h0 _ e
      have := HGR.out
      omega
  have HRW := Lib.hid hr
  have HC := Lib.hid hc
  have HL := Lib.hid hl
  clear hz0 hbw hbr hr hc hl
  go_enter Tryd.func25, Tryd.ntmps25
  go_upto_region 2 with (fail)
  rw [← hW0, ← hg, ← hWR, ← hgE]
  clear hW0 hg hWR hgR hgE
  have HRET : Hid (∀ (W : World) (m : Nat), Below w.heap.size w W → D = (zero, 0, m) → DAns2 D w (.returned (.tuple #[.agg #[.int .i64 0, .int .u64 0, .slice none 0 0], .int .i64 0, .int .i64 (m : Nat)])) W) := fun W m hb hd => by rw [hd]; exact ⟨none, 0, rfl, Nat.le_refl _, Rd.nil _ _, hb⟩
  go_wp2_with fail
  refine (refByteR_to N1.out).mono ?_
  rintro e w2 ⟨rfl, k2, n2⟩
  rw [H1E.out] at n2 ⊢
  dsimp only at n2 ⊢
  have N2 := Lib.hid n2
  have HZ2 : Hid (Blk w2 g 29 [.int .i64 0, .int .u64 0, .slice none 0 0]) := (k2.block g HZ1.out.lt (fun e => by injection e with e; have := HGR.out; omega)).trans HZ1.out
  have HBW2 : Hid (Below w.heap.size w w2) := below_keeps HBW1.out k2 (by have := HGG.out; have := HGR.out; omega) HBW1.out.size
  clear k2 n2
  clear N1 HZ1 HBW1
  obtain ⟨WA, hWA⟩ : ∃ W, W = w2.alloc (.cells #[.int .i64 (k0 : Nat), .int .u64 0, .slice none 0 0] 29) := ⟨_, rfl⟩
  obtain ⟨gr, hgr⟩ : ∃ x, x = w2.heap.size := ⟨_, rfl⟩
  go_upto_region 3 with (fail)
  rw [← hWA, ← hgr]
  have hbA : Below w2.heap.size w2 WA := by rw [hWA]; exact below_new w2 _
  have HGO : Hid (gR < gr) := by show _ < _; rw [hgr]; exact N2.out.hd.lt
  have HB3 : Hid (Blk WA gr 29 [.int .i64 (k0 : Nat), .int .u64 0, .slice none 0 0]) := by show Blk _ _ _ _; rw [hWA, hgr]; exact Blk.new w2 _ _
  have N3 : Hid (RIn gR 71 A L cap s1 WA) := N2.out.below hbA
  have HZ3 : Hid (Blk WA g 29 [.int .i64 0, .int .u64 0, .slice none 0 0]) := HZ2.out.below hbA HZ2.out.lt
  have HBW3 : Hid (Below w.heap.size w WA) := Later.trans HBW2.out hbA
  clear hWA hgr hbA
  clear N2 HZ2 HBW2
  obtain ⟨k1, _, _, hbk⟩ := N3.out.hd
  have y2 : WA.cell? ⟨gR, 2, none⟩ = some (.int .i64 (s1.why : Nat)) := hbk.cell 2
  clear hbk
  have c0 := HB3.out.cell 0
  by_cases hs1 : s1.why = 0
  · have hlp := HFW.out.1 hs1
    rw [hs1] at y2
    have HOKL := Lib.hid hlp
    clear hlp HFW hs1
    by_cases hk1 : k0 = 1
    · subst hk1
      have HOK : Hid (L.length = 0 ∨ Kd 1) := .inr (.inl rfl)
      clear HK
      go_upto_region 5 with (fail)
      clear y2 c0
      go_wp2_with fail
      refine (refLongR_to N3.out).mono ?_
      rintro e w4 ⟨rfl, k4, n4⟩
      rw [H2E.out] at n4 ⊢
      dsimp only at n4 ⊢
      have N4 := Lib.hid n4
      have HZ4 : Hid (Blk w4 g 29 [.int .i64 0, .int .u64 0, .slice none 0 0]) := (k4.block g HZ3.out.lt (fun e => by injection e with e; have := HGR.out; omega)).trans HZ3.out
      have HB4 : Hid (Blk w4 gr 29 [.int .i64 (1 : Nat), .int .u64 0, .slice none 0 0]) := (k4.block gr HB3.out.lt (fun e => by injection e with e; have := HGO.out; omega)).trans HB3.out
      have HBW4 : Hid (Below w.heap.size w w4) := below_keeps HBW3.out k4 (by have := HGG.out; have := HGR.out; omega) HBW3.out.size
      clear k4 n4
      clear N3 HZ3 HB3 HBW3
      have c1 := HB4.out.cell 1
      have f1 := HB4.out.frozen 1
      obtain ⟨W5, hW5⟩ : ∃ W, W = w4.setCell ⟨gr, 1, none⟩ (.int .u64 (q0 : Nat)) := ⟨_, rfl⟩
      have hk5 : Keeps w4 W5 gr := by rw [hW5]; exact (Keeps.refl w4 gr).setCell 1 _
      have N5 : Hid (RIn gR 71 A L cap s2 W5) := rin_poke N4.out hk5 (by have := HGO.out; omega) (fun h0 b hb => by have := HAL.out h0 b hb; have := HGG.out; have := HGR.out; have := HGO.out; omega)
      have HZ5 : Hid (Blk W5 g 29 [.int .i64 0, .int .u64 0, .slice none 0 0]) := (hk5.block g HZ4.out.lt (fun e => by injection e with e; have := HGR.out; have := HGO.out; omega)).trans HZ4.out
      have HB5 : Hid (Blk W5 gr 29 [.int .i64 (1 : Nat), .int .u64 (q0 : Nat), .slice none 0 0]) := by show Blk _ _ _ _; rw [hW5]; exact HB4.out.set_ 1 _
      have HBW5 : Hid (Below w.heap.size w W5) := below_keeps HBW4.out hk5 (by have := HGG.out; have := HGR.out; have := HGO.out; omega) HBW4.out.size
      clear hk5
      go_upto_region 6 with (fail)
      rw [← hW5]
      clear hW5 c1 f1
      clear N4 HZ4 HB4 HBW4
      go_wp2_with fail
      refine (refBytesR_to N5.out).mono ?_
      rintro e w6 ⟨v6, rfl, ho6, k6, n6⟩
      rw [H3E.out] at n6 ho6
      dsimp only at n6 ho6
      have N6 := Lib.hid n6
      obtain ⟨X, cx, rfl, hcx, hx6, hxn⟩ := row_of ho6
      have HCX := Lib.hid hcx
      have HX6 := Lib.hid hx6
      have HXN : Hid (∀ b, X.map (·.block) = some b → gr < b) := fun b hb => by have := hxn b hb; have := HB5.out.lt; omega
      have HZ6 : Hid (Blk w6 g 29 [.int .i64 0, .int .u64 0, .slice none 0 0]) := (k6.block g HZ5.out.lt (fun e => by injection e with e; have := HGR.out; omega)).trans HZ5.out
      have HB6 : Hid (Blk w6 gr 29 [.int .i64 (1 : Nat), .int .u64 (q0 : Nat), .slice none 0 0]) := (k6.block gr HB5.out.lt (fun e => by injection e with e; have := HGO.out; omega)).trans HB5.out
      have HBW6 : Hid (Below w.heap.size w w6) := below_keeps HBW5.out k6 (by have := HGG.out; have := HGR.out; omega) HBW5.out.size
      clear k6 n6 ho6 hcx hx6 hxn
      clear N5 HZ5 HB5 HBW5
      have c2 := HB6.out.cell 2
      have f2 := HB6.out.frozen 2
      obtain ⟨W7, hW7⟩ : ∃ W, W = w6.setCell ⟨gr, 2, none⟩ (.slice X b0.length cx) := ⟨_, rfl⟩
      have hk7 : Keeps w6 W7 gr := by rw [hW7]; exact (Keeps.refl w6 gr).setCell 2 _
      have N7 : Hid (RIn gR 71 A L cap s3 W7) := rin_poke N6.out hk7 (by have := HGO.out; omega) (fun h0 b hb => by have := HAL.out h0 b hb; have := HGG.out; have := HGR.out; have := HGO.out; omega)
      have HZ7 : Hid (Blk W7 g 29 [.int .i64 0, .int .u64 0, .slice none 0 0]) := (hk7.block g HZ6.out.lt (fun e => by injection e with e; have := HGR.out; have := HGO.out; omega)).trans HZ6.out
      have HB7 : Hid (Blk W7 gr 29 [.int .i64 (1 : Nat), .int .u64 (q0 : Nat), .slice X b0.length cx]) := by show Blk _ _ _ _; rw [hW7]; exact HB6.out.set_ 2 _
      have HBW7 : Hid (Below w.heap.size w W7) := below_keeps HBW6.out hk7 (by have := HGG.out; have := HGR.out; have := HGO.out; omega) HBW6.out.size
      have HX7 : Hid (Rd W7 X b0) := HX6.out.keeps hk7 (fun _ e => by have := HXN.out _ e; omega)
      clear hk7
      go_upto_region 7 with (fail)
      rw [← hW7]
      clear hW7 c2 f2
      clear N6 HZ6 HB6 HBW6 HX6
      obtain ⟨k3, hk3, hs3, hbk⟩ := N7.out.hd
      have HK3 : Hid (s3.why = 0 → k3 = 11 + b0.length) := fun h0 => by
        have h9 := (HA3.out h0).2
        have h8 := congrArg List.length hs3
        rw [List.length_drop] at h8
        omega
      have y1 : W7.cell? ⟨gR, 1, none⟩ = some (.int .i64 (k3 : Nat)) := hbk.cell 1
      have HKL := Lib.hid hk3
      clear hbk hk3 hs3 HA3
      go_wp2_with fail
      clear y1
      refine (refRaw_to N7.out 4 (by decide) (by decide)).mono ?_
      rintro e w8 ⟨v8, rfl, ho8, k8, n8⟩
      rw [HRE.out] at n8 ho8
      dsimp only at n8 ho8
      have N8 := Lib.hid n8
      obtain ⟨Y, cy, rfl, hcy, hy8, hyn⟩ := row_of ho8
      have HY8 := Lib.hid hy8
      have HCY := Lib.hid hcy
      have HZ8 : Hid (Blk w8 g 29 [.int .i64 0, .int .u64 0, .slice none 0 0]) := (k8.block g HZ7.out.lt (fun e => by injection e with e; have := HGR.out; omega)).trans HZ7.out
      have HB8 : Hid (Blk w8 gr 29 [.int .i64 (1 : Nat), .int .u64 (q0 : Nat), .slice X b0.length cx]) := (k8.block gr HB7.out.lt (fun e => by injection e with e; have := HGO.out; omega)).trans HB7.out
      have HBW8 : Hid (Below w.heap.size w w8) := below_keeps HBW7.out k8 (by have := HGG.out; have := HGR.out; omega) HBW7.out.size
      have HX8 : Hid (Rd w8 X b0) := HX7.out.keeps k8 (fun _ e => by have := HXN.out _ e; have := HGO.out; omega)
      clear k8 n8 ho8 hcy hy8 hyn
      clear N7 HZ7 HB7 HBW7 HX7
      obtain ⟨k5, hk5, hs5, hbk⟩ := N8.out.hd
      have z1 : w8.cell? ⟨gR, 1, none⟩ = some (.int .i64 (k5 : Nat)) := hbk.cell 1
      have z2 : w8.cell? ⟨gR, 2, none⟩ = some (.int .i64 (sr.why : Nat)) := hbk.cell 2
      have HZ1E := Lib.hid z1
      have HS5 := Lib.hid hs5
      have HK5 := Lib.hid hk5
      clear hbk z1 hs5 hk5
      by_cases hsw : sr.why = 0
      · have h5w : s5.why = 0 := Decidable.byContradiction fun h => HR4.out.2 h hsw
        obtain ⟨_, e4, e5⟩ := HR4.out.1 h5w
        have HLE := Lib.hid (HIN.out h5w)
        have h3w := HUP.out hsw
        have HW5 := Lib.hid h5w
        obtain rfl : k3 = 11 + b0.length := HK3.out h3w
        have HK5E : Hid (k5 = 15 + b0.length) := by
          have h8 := congrArg List.length HS5.out
          rw [List.length_drop, e5] at h8
          have := HLE.out.2
          have := HK5.out
          show _ = _
          omega
        obtain ⟨y, hy⟩ : ∃ y, y = L.take (11 + b0.length) := ⟨_, rfl⟩
        have hyl : y.length = 11 + b0.length := by have := HLE.out.2; rw [hy, List.length_take]; omega
        rw [← hy] at HSU HBAD HYES
        have HYR : Hid (Rd w8 A y) := by show Rd _ _ _; rw [hy]; exact (HRW.out.below HBW8.out).take _
        have HYL := Lib.hid hyl
        have HLC : Hid (((11 + b0.length : Nat) : Int) ≤ L.length ∧ (L.length : Int) ≤ cap) := by have := HLE.out.2; have := HC.out; exact ⟨by omega, by omega⟩
        obtain ⟨cs, hcs⟩ : ∃ x, x = Cr.sum y := ⟨_, rfl⟩
        have HCS := Lib.hid hcs.symm
        have HCSL : Hid (cs < 4294967296) := by show _ < _; rw [hcs]; exact sum_lt _
        rw [← hcs] at HSU HBAD HYES
        have HE4 := Lib.hid e4
        have hsw0 : ((sr.why : Nat) : Int) = 0 := by omega
        rw [hsw] at z2
        clear hy hyl hcs HND HIN h5w h3w hsw HS5 HK5 HK3 e4 e5 HR4 hsw0 HKL HUP
        go_upto_region 11 with (fail)
        clear z2
        by_cases hcm : cs = sm
        · subst hcm
          have HSQ : Hid (((strOf l4).toList == (strOf (four cs)).toList) = true) := by show _ = _; rw [HE4.out, strOf_beq]; simp
          refine Rc.wp_region (by kernel_rfl) (fun opn => List.getD [Rc.val (.slice Y l4.length cy), Rc.val (.string (strOf (l4))), Rc.val (.slice A L.length cap), Rc.val (.int .i64 (11 + b0.length : Nat)), Rc.val (.slice A y.length cap), Rc.val (.int .u32 (cs : Nat)), Ob.frow (four cs), Rc.val (.string (strOf (four cs))), Rc.val (.bool false)] opn Rc.any) 0 [] [[], [(0, 49)], [], [], [(2, 51), (3, 52)], [(4, 53)], [(5, 54)], [(6, 55)], [(1, 50), (7, 56)]] [[], [0], [], [], [2, 3], [4], [5], [6], [1, 7]] [[], [0], [], [], [2, 3], [4], [5], [6], [1, 7]] [] (by kernel_rfl) (by rfl) (by kernel_rfl) (fun _ => False) (fun _ _ => False) Rc.Inv.none ?_ ?_
          · intro fr ha
            have hz : fr.tmps.size = 68 := by rw [ha]; rfl
            have y0 : fr.eval (.tmp 0) = .slice A L.length cap := by rw [ha]; rfl
            have y7 : fr.eval (.tmp 7) = .int .i64 (11 + b0.length : Nat) := by rw [ha]; rfl
            have y8 : fr.eval (.tmp 8) = .slice Y l4.length cy := by rw [ha]; rfl
            clear ha
            refine .cons ?_ (.cons ?_ (.cons ?_ (.cons ?_ (.cons ?_ (.cons ?_ (.cons ?_ (.cons ?_ (.cons ?_ (.nil)))))))))
            · intro V S w2 HM HU HE
              have lw : Below w8.heap.size w8 w2 := Rc.Mod.below HM (fun _ h => h.elim)
              have tb8 : (Rg.putUse V [] fr).eval (.tmp 8) = .slice Y l4.length cy := (Rg.use_eval V fr 8 [] (by simp only [hz]; decide)).trans y8
              show Rg.Does1 _ _ V (Rg.putUse V [] fr) w2 _
              exact Ob.rc_mv (.slice Y l4.length cy) (by simp only [execOp, tb8]; go_simp) rfl rfl True.intro
            · intro V S w2 HM HU HE
              have lw : Below w8.heap.size w8 w2 := Rc.Mod.below HM (fun _ h => h.elim)
              have h0 : V 0 = .slice Y l4.length cy := HU.holds 0 (by decide)
              have tb49 : (Rg.putUse V [(0, 49)] fr).eval (.tmp 49) = .slice Y l4.length cy := (Rg.use_eval V fr 49 [(0, 49)] (by simp only [hz]; decide)).trans h0
              show Rg.Does1 _ _ V (Rg.putUse V [(0, 49)] fr) w2 _
              exact Ob.rc_str (l4) rfl tb49 (by first | rfl | simp) (HY8.out.below lw) rfl rfl True.intro
            · intro V S w2 HM HU HE
              have lw : Below w8.heap.size w8 w2 := Rc.Mod.below HM (fun _ h => h.elim)
              have tb0 : (Rg.putUse V [] fr).eval (.tmp 0) = .slice A L.length cap := (Rg.use_eval V fr 0 [] (by simp only [hz]; decide)).trans y0
              show Rg.Does1 _ _ V (Rg.putUse V [] fr) w2 _
              exact Ob.rc_mv (.slice A L.length cap) (by simp only [execOp, tb0]; go_simp) rfl rfl True.intro
            · intro V S w2 HM HU HE
              have lw : Below w8.heap.size w8 w2 := Rc.Mod.below HM (fun _ h => h.elim)
              have tb7 : (Rg.putUse V [] fr).eval (.tmp 7) = .int .i64 (11 + b0.length : Nat) := (Rg.use_eval V fr 7 [] (by simp only [hz]; decide)).trans y7
              show Rg.Does1 _ _ V (Rg.putUse V [] fr) w2 _
              exact Ob.rc_mv (.int .i64 (11 + b0.length : Nat)) (by simp only [execOp, tb7]; go_simp) rfl rfl True.intro
            · intro V S w2 HM HU HE
              have lw : Below w8.heap.size w8 w2 := Rc.Mod.below HM (fun _ h => h.elim)
              have h2 : V 2 = .slice A L.length cap := HU.holds 2 (by decide)
              have tb51 : (Rg.putUse V [(2, 51), (3, 52)] fr).eval (.tmp 51) = .slice A L.length cap := (Rg.use_eval V fr 51 [(2, 51), (3, 52)] (by simp only [hz]; decide)).trans h2
              have h3 : V 3 = .int .i64 (11 + b0.length : Nat) := HU.holds 3 (by decide)
              have tb52 : (Rg.putUse V [(2, 51), (3, 52)] fr).eval (.tmp 52) = .int .i64 (11 + b0.length : Nat) := (Rg.use_eval V fr 52 [(2, 51), (3, 52)] (by simp only [hz]; decide)).trans h3
              show Rg.Does1 _ _ V (Rg.putUse V [(2, 51), (3, 52)] fr) w2 _
              exact Ob.rc_slh rfl tb51 tb52 (by rw [HYL.out]; exact sl_h w2 A L.length cap (11 + b0.length) (by have := HLC.out.1; have := HLC.out.2; omega)) rfl rfl True.intro
            · intro V S w2 HM HU HE
              have lw : Below w8.heap.size w8 w2 := Rc.Mod.below HM (fun _ h => h.elim)
              have h4 : V 4 = .slice A y.length cap := HU.holds 4 (by decide)
              have tb53 : (Rg.putUse V [(4, 53)] fr).eval (.tmp 53) = .slice A y.length cap := (Rg.use_eval V fr 53 [(4, 53)] (by simp only [hz]; decide)).trans h4
              show Rg.Does1 _ _ V (Rg.putUse V [(4, 53)] fr) w2 _
              exact Ob.step_tell (.int .u32 (cs : Nat)) #[.slice A y.length cap] (fun args w => Rg.call_enter Tryd.func21 (by kernel_rfl) (by kernel_rfl) args w) rfl (by simp only [List.map_toArray, List.map_cons, List.map_nil, tb53]) rfl (fun x => Rg.alias_none rfl V x) True.intro ((refSum_any w2 y A cap (HYR.out.below lw) (by have := HYL.out; have := HLE.out; have := HL.out; omega)).mono fun e w3 ⟨h, hw⟩ => by subst hw; exact ⟨by rw [h, HCS.out], Below.refl _ _⟩)
            · intro V S w2 HM HU HE
              have lw : Below w8.heap.size w8 w2 := Rc.Mod.below HM (fun _ h => h.elim)
              have h5 : V 5 = .int .u32 (cs : Nat) := HU.holds 5 (by decide)
              have tb54 : (Rg.putUse V [(5, 54)] fr).eval (.tmp 54) = .int .u32 (cs : Nat) := (Rg.use_eval V fr 54 [(5, 54)] (by simp only [hz]; decide)).trans h5
              show Rg.Does1 _ _ V (Rg.putUse V [(5, 54)] fr) w2 _
              exact Ob.step_frow (four cs) #[.slice none 0 0, .int .u32 (cs : Nat)] (fun args w => Rg.call_enter Tryd.func20 (by kernel_rfl) (by kernel_rfl) args w) rfl (by simp only [List.map_toArray, List.map_cons, List.map_nil, Rg.eval_const, tb54]) rfl (fun x => Rg.alias_none rfl V x) True.intro (four_frow)
            · intro V S w2 HM HU HE
              have lw : Below w8.heap.size w8 w2 := Rc.Mod.below HM (fun _ h => h.elim)
              obtain ⟨X6, k6, e6, hc6, hr6, hX6⟩ := HU.holds 6 (by decide)
              have tb55 : (Rg.putUse V [(6, 55)] fr).eval (.tmp 55) = .slice X6 (four cs).length k6 := (Rg.use_eval V fr 55 [(6, 55)] (by simp only [hz]; decide)).trans e6
              show Rg.Does1 _ _ V (Rg.putUse V [(6, 55)] fr) w2 _
              exact Ob.rc_str (four cs) rfl tb55 (by first | rfl | simp) hr6 rfl rfl True.intro
            · intro V S w2 HM HU HE
              have lw : Below w8.heap.size w8 w2 := Rc.Mod.below HM (fun _ h => h.elim)
              have h1 : V 1 = .string (strOf (l4)) := HU.holds 1 (by decide)
              have tb50 : (Rg.putUse V [(1, 50), (7, 56)] fr).eval (.tmp 50) = .string (strOf (l4)) := (Rg.use_eval V fr 50 [(1, 50), (7, 56)] (by simp only [hz]; decide)).trans h1
              have h7 : V 7 = .string (strOf (four cs)) := HU.holds 7 (by decide)
              have tb56 : (Rg.putUse V [(1, 50), (7, 56)] fr).eval (.tmp 56) = .string (strOf (four cs)) := (Rg.use_eval V fr 56 [(1, 50), (7, 56)] (by simp only [hz]; decide)).trans h7
              show Rg.Does1 _ _ V (Rg.putUse V [(1, 50), (7, 56)] fr) w2 _
              have hsq := HSQ.out
              exact Ob.rc_mv (.bool false) (by simp only [execOp, tb50, tb56]; go_simp) rfl rfl True.intro
          intro V S w2 HI
          have HL2 : Hid (Below w8.heap.size w8 w2) := Rc.Mod.below HI.mod.undrew (fun _ h => h.elim)
          have hw8 : V 8 = .bool false := HI.get 8 (by decide) (by rfl)
          simp only [Rg.putList, Act.put, List.setIfInBounds_toArray, List.set_cons_zero, List.set_cons_succ, Nat.zero_add, Nat.reduceAdd]
          rw [hw8]
          clear HI hw8
          have N9 : Hid (RIn gR 71 A L cap sr w2) := N8.out.below HL2.out
          have HZ9 : Hid (Blk w2 g 29 [.int .i64 0, .int .u64 0, .slice none 0 0]) := HZ8.out.below HL2.out HZ8.out.lt
          have HB9 : Hid (Blk w2 gr 29 [.int .i64 (1 : Nat), .int .u64 (q0 : Nat), .slice X b0.length cx]) := HB8.out.below HL2.out HB8.out.lt
          have HBW9 : Hid (Below w.heap.size w w2) := Later.trans HBW8.out HL2.out
          have HX9 : Hid (Rd w2 X b0) := HX8.out.below HL2.out
          have z1 : w2.cell? ⟨gR, 1, none⟩ = some (.int .i64 (k5 : Nat)) := (HL2.out.cell (p := ⟨gR, 1, none⟩) N8.out.hd.lt).trans HZ1E.out
          have HZ2E := Lib.hid z1
          clear z1 HL2 HSQ HZ1E
          clear N8 HZ8 HB8 HBW8 HX8
          have c0 := HB9.out.cell 0
          have c1 := HB9.out.cell 1
          have c2 := HB9.out.cell 2
          go_wp2_with fail
          refine (HRT.out X cx w2).mono ?_
          rintro e w12 ⟨rfl, hb12⟩
          have z1 : w12.cell? ⟨gR, 1, none⟩ = some (.int .i64 (k5 : Nat)) := (hb12.cell (p := ⟨gR, 1, none⟩) N9.out.hd.lt).trans HZ2E.out
          have N12 : Hid (RIn gR 71 A L cap sr w12) := N9.out.below hb12
          have HZ12 : Hid (Blk w12 g 29 [.int .i64 0, .int .u64 0, .slice none 0 0]) := HZ9.out.below hb12 HZ9.out.lt
          have HB12 : Hid (Blk w12 gr 29 [.int .i64 (1 : Nat), .int .u64 (q0 : Nat), .slice X b0.length cx]) := HB9.out.below hb12 HB9.out.lt
          have HBW12 : Hid (Below w.heap.size w w12) := Later.trans HBW9.out hb12
          have HX12 : Hid (Rd w12 X b0) := HX9.out.below hb12
          clear hb12 c0 c1 c2 HZ2E
          clear N9 HZ9 HB9 HBW9 HX9
          by_cases hri : Right ⟨(1 : Nat), q0, b0⟩
          · have HD := Lib.hid (HYES.out HOK.out HW5.out (by first | rfl | trivial) hri)
            rw [decide_eq_true hri]
            clear hri HYES HBAD HSU
            have c0 := HB12.out.cell 0
            have c1 := HB12.out.cell 1
            have c2 := HB12.out.cell 2
            have r0 := HZ12.out.cell 0
            have f0 := HZ12.out.frozen 0
            have r1 := HZ12.out.cell 1
            have f1 := HZ12.out.frozen 1
            have r2 := HZ12.out.cell 2
            have f2 := HZ12.out.frozen 2
            go_upto_region 15 with (fail)
            obtain ⟨WZ, hWZ⟩ : ∃ W, W = (((w12.setCell ⟨g, 0, none⟩ (.int .i64 1)).setCell ⟨g, 1, none⟩ (.int .u64 (q0 : Nat))).setCell ⟨g, 2, none⟩ (.slice X b0.length cx)).drew := ⟨_, rfl⟩
            have HBZ : Hid (Blk WZ g 29 [.int .i64 1, .int .u64 (q0 : Nat), .slice X b0.length cx]) := by show Blk _ _ _ _; rw [hWZ]; exact Blk.drew (set3_blk HZ12.out _ _ _)
            have HKZ : Hid (Keeps w12 WZ g) := by show Keeps _ _ _; rw [hWZ]; exact Keeps.drew (set3_keeps _ g _ _ _)
            have n1 : gR ≠ g := by have := HGR.out; omega
            have n2 : g ≠ gR := fun h => n1 h.symm
            go_region
            rw [← hWZ]
            go_wp2_with fail
            refine bodyPost_ret (results_blk_tmp2 rfl _ _ g 29 _ _ rfl HBZ.out rfl rfl rfl) rfl ?_
            rw [HD.out]
            refine ⟨X, cx, ?_, HCX.out, HX12.out.keeps HKZ.out (fun _ e => by have := HXN.out _ e; have := HGO.out; have := HGR.out; omega), below_keeps HBW12.out HKZ.out (Nat.le_of_eq HGG.out) HBW12.out.size⟩
            show Ending.returned (.tuple #[.agg #[.int .i64 (1 : Nat), .int .u64 (q0 : Nat), .slice X b0.length cx], .int .i64 (k5 : Nat), .int .i64 0]) = _
            rw [HK5E.out]
            rfl
          · have HD := Lib.hid (HBAD.out HOK.out HW5.out (by first | rfl | trivial) hri)
            rw [decide_eq_false hri]
            clear hri HYES HBAD HSU z1
            have r0 := HZ12.out.cell 0
            have f0 := HZ12.out.frozen 0
            have r1 := HZ12.out.cell 1
            have f1 := HZ12.out.frozen 1
            have r2 := HZ12.out.cell 2
            have f2 := HZ12.out.frozen 2
            go_wp2_with fail
            refine bodyPost_ret (results_blk_tmp2 rfl _ _ g 29 _ _ rfl (set3_blk HZ12.out _ _ _) rfl rfl rfl) rfl ?_
            exact HRET.out _ 12 (below_keeps HBW12.out (set3_keeps _ g _ _ _) (Nat.le_of_eq HGG.out) HBW12.out.size) (HD.out)
        · have HD := Lib.hid (HSU.out HOK.out HW5.out hcm)
          have HSQ : Hid (((strOf l4).toList == (strOf (four cs)).toList) = false) := by
            show _ = _
            rw [HE4.out]
            rw [strOf_beq, decide_eq_false]
            exact fun h9 => hcm (four_inj HCSL.out HLE.out.1 h9.symm)
          clear HYES HBAD HSU
          refine Rc.wp_region (by kernel_rfl) (fun opn => List.getD [Rc.val (.slice Y l4.length cy), Rc.val (.string (strOf (l4))), Rc.val (.slice A L.length cap), Rc.val (.int .i64 (11 + b0.length : Nat)), Rc.val (.slice A y.length cap), Rc.val (.int .u32 (cs : Nat)), Ob.frow (four cs), Rc.val (.string (strOf (four cs))), Rc.val (.bool true)] opn Rc.any) 0 [] [[], [(0, 49)], [], [], [(2, 51), (3, 52)], [(4, 53)], [(5, 54)], [(6, 55)], [(1, 50), (7, 56)]] [[], [0], [], [], [2, 3], [4], [5], [6], [1, 7]] [[], [0], [], [], [2, 3], [4], [5], [6], [1, 7]] [] (by kernel_rfl) (by rfl) (by kernel_rfl) (fun _ => False) (fun _ _ => False) Rc.Inv.none ?_ ?_
          · intro fr ha
            have hz : fr.tmps.size = 68 := by rw [ha]; rfl
            have y0 : fr.eval (.tmp 0) = .slice A L.length cap := by rw [ha]; rfl
            have y7 : fr.eval (.tmp 7) = .int .i64 (11 + b0.length : Nat) := by rw [ha]; rfl
            have y8 : fr.eval (.tmp 8) = .slice Y l4.length cy := by rw [ha]; rfl
            clear ha
            refine .cons ?_ (.cons ?_ (.cons ?_ (.cons ?_ (.cons ?_ (.cons ?_ (.cons ?_ (.cons ?_ (.cons ?_ (.nil)))))))))
            · intro V S w2 HM HU HE
              have lw : Below w8.heap.size w8 w2 := Rc.Mod.below HM (fun _ h => h.elim)
              have tb8 : (Rg.putUse V [] fr).eval (.tmp 8) = .slice Y l4.length cy := (Rg.use_eval V fr 8 [] (by simp only [hz]; decide)).trans y8
              show Rg.Does1 _ _ V (Rg.putUse V [] fr) w2 _
              exact Ob.rc_mv (.slice Y l4.length cy) (by simp only [execOp, tb8]; go_simp) rfl rfl True.intro
            · intro V S w2 HM HU HE
              have lw : Below w8.heap.size w8 w2 := Rc.Mod.below HM (fun _ h => h.elim)
              have h0 : V 0 = .slice Y l4.length cy := HU.holds 0 (by decide)
              have tb49 : (Rg.putUse V [(0, 49)] fr).eval (.tmp 49) = .slice Y l4.length cy := (Rg.use_eval V fr 49 [(0, 49)] (by simp only [hz]; decide)).trans h0
              show Rg.Does1 _ _ V (Rg.putUse V [(0, 49)] fr) w2 _
              exact Ob.rc_str (l4) rfl tb49 (by first | rfl | simp) (HY8.out.below lw) rfl rfl True.intro
            · intro V S w2 HM HU HE
              have lw : Below w8.heap.size w8 w2 := Rc.Mod.below HM (fun _ h => h.elim)
              have tb0 : (Rg.putUse V [] fr).eval (.tmp 0) = .slice A L.length cap := (Rg.use_eval V fr 0 [] (by simp only [hz]; decide)).trans y0
              show Rg.Does1 _ _ V (Rg.putUse V [] fr) w2 _
              exact Ob.rc_mv (.slice A L.length cap) (by simp only [execOp, tb0]; go_simp) rfl rfl True.intro
            · intro V S w2 HM HU HE
              have lw : Below w8.heap.size w8 w2 := Rc.Mod.below HM (fun _ h => h.elim)
              have tb7 : (Rg.putUse V [] fr).eval (.tmp 7) = .int .i64 (11 + b0.length : Nat) := (Rg.use_eval V fr 7 [] (by simp only [hz]; decide)).trans y7
              show Rg.Does1 _ _ V (Rg.putUse V [] fr) w2 _
              exact Ob.rc_mv (.int .i64 (11 + b0.length : Nat)) (by simp only [execOp, tb7]; go_simp) rfl rfl True.intro
            · intro V S w2 HM HU HE
              have lw : Below w8.heap.size w8 w2 := Rc.Mod.below HM (fun _ h => h.elim)
              have h2 : V 2 = .slice A L.length cap := HU.holds 2 (by decide)
              have tb51 : (Rg.putUse V [(2, 51), (3, 52)] fr).eval (.tmp 51) = .slice A L.length cap := (Rg.use_eval V fr 51 [(2, 51), (3, 52)] (by simp only [hz]; decide)).trans h2
              have h3 : V 3 = .int .i64 (11 + b0.length : Nat) := HU.holds 3 (by decide)
              have tb52 : (Rg.putUse V [(2, 51), (3, 52)] fr).eval (.tmp 52) = .int .i64 (11 + b0.length : Nat) := (Rg.use_eval V fr 52 [(2, 51), (3, 52)] (by simp only [hz]; decide)).trans h3
              show Rg.Does1 _ _ V (Rg.putUse V [(2, 51), (3, 52)] fr) w2 _
              exact Ob.rc_slh rfl tb51 tb52 (by rw [HYL.out]; exact sl_h w2 A L.length cap (11 + b0.length) (by have := HLC.out.1; have := HLC.out.2; omega)) rfl rfl True.intro
            · intro V S w2 HM HU HE
              have lw : Below w8.heap.size w8 w2 := Rc.Mod.below HM (fun _ h => h.elim)
              have h4 : V 4 = .slice A y.length cap := HU.holds 4 (by decide)
              have tb53 : (Rg.putUse V [(4, 53)] fr).eval (.tmp 53) = .slice A y.length cap := (Rg.use_eval V fr 53 [(4, 53)] (by simp only [hz]; decide)).trans h4
              show Rg.Does1 _ _ V (Rg.putUse V [(4, 53)] fr) w2 _
              exact Ob.step_tell (.int .u32 (cs : Nat)) #[.slice A y.length cap] (fun args w => Rg.call_enter Tryd.func21 (by kernel_rfl) (by kernel_rfl) args w) rfl (by simp only [List.map_toArray, List.map_cons, List.map_nil, tb53]) rfl (fun x => Rg.alias_none rfl V x) True.intro ((refSum_any w2 y A cap (HYR.out.below lw) (by have := HYL.out; have := HLE.out; have := HL.out; omega)).mono fun e w3 ⟨h, hw⟩ => by subst hw; exact ⟨by rw [h, HCS.out], Below.refl _ _⟩)
            · intro V S w2 HM HU HE
              have lw : Below w8.heap.size w8 w2 := Rc.Mod.below HM (fun _ h => h.elim)
              have h5 : V 5 = .int .u32 (cs : Nat) := HU.holds 5 (by decide)
              have tb54 : (Rg.putUse V [(5, 54)] fr).eval (.tmp 54) = .int .u32 (cs : Nat) := (Rg.use_eval V fr 54 [(5, 54)] (by simp only [hz]; decide)).trans h5
              show Rg.Does1 _ _ V (Rg.putUse V [(5, 54)] fr) w2 _
              exact Ob.step_frow (four cs) #[.slice none 0 0, .int .u32 (cs : Nat)] (fun args w => Rg.call_enter Tryd.func20 (by kernel_rfl) (by kernel_rfl) args w) rfl (by simp only [List.map_toArray, List.map_cons, List.map_nil, Rg.eval_const, tb54]) rfl (fun x => Rg.alias_none rfl V x) True.intro (four_frow)
            · intro V S w2 HM HU HE
              have lw : Below w8.heap.size w8 w2 := Rc.Mod.below HM (fun _ h => h.elim)
              obtain ⟨X6, k6, e6, hc6, hr6, hX6⟩ := HU.holds 6 (by decide)
              have tb55 : (Rg.putUse V [(6, 55)] fr).eval (.tmp 55) = .slice X6 (four cs).length k6 := (Rg.use_eval V fr 55 [(6, 55)] (by simp only [hz]; decide)).trans e6
              show Rg.Does1 _ _ V (Rg.putUse V [(6, 55)] fr) w2 _
              exact Ob.rc_str (four cs) rfl tb55 (by first | rfl | simp) hr6 rfl rfl True.intro
            · intro V S w2 HM HU HE
              have lw : Below w8.heap.size w8 w2 := Rc.Mod.below HM (fun _ h => h.elim)
              have h1 : V 1 = .string (strOf (l4)) := HU.holds 1 (by decide)
              have tb50 : (Rg.putUse V [(1, 50), (7, 56)] fr).eval (.tmp 50) = .string (strOf (l4)) := (Rg.use_eval V fr 50 [(1, 50), (7, 56)] (by simp only [hz]; decide)).trans h1
              have h7 : V 7 = .string (strOf (four cs)) := HU.holds 7 (by decide)
              have tb56 : (Rg.putUse V [(1, 50), (7, 56)] fr).eval (.tmp 56) = .string (strOf (four cs)) := (Rg.use_eval V fr 56 [(1, 50), (7, 56)] (by simp only [hz]; decide)).trans h7
              show Rg.Does1 _ _ V (Rg.putUse V [(1, 50), (7, 56)] fr) w2 _
              have hsq := HSQ.out
              exact Ob.rc_mv (.bool true) (by simp only [execOp, tb50, tb56]; go_simp) rfl rfl True.intro
          intro V S w2 HI
          have HL2 : Hid (Below w8.heap.size w8 w2) := Rc.Mod.below HI.mod.undrew (fun _ h => h.elim)
          have hw8 : V 8 = .bool true := HI.get 8 (by decide) (by rfl)
          simp only [Rg.putList, Act.put, List.setIfInBounds_toArray, List.set_cons_zero, List.set_cons_succ, Nat.zero_add, Nat.reduceAdd]
          rw [hw8]
          clear HI hw8
          have N9 : Hid (RIn gR 71 A L cap sr w2) := N8.out.below HL2.out
          have HZ9 : Hid (Blk w2 g 29 [.int .i64 0, .int .u64 0, .slice none 0 0]) := HZ8.out.below HL2.out HZ8.out.lt
          have HB9 : Hid (Blk w2 gr 29 [.int .i64 (1 : Nat), .int .u64 (q0 : Nat), .slice X b0.length cx]) := HB8.out.below HL2.out HB8.out.lt
          have HBW9 : Hid (Below w.heap.size w w2) := Later.trans HBW8.out HL2.out
          have HX9 : Hid (Rd w2 X b0) := HX8.out.below HL2.out
          clear HL2 HSQ hcm HZ1E
          clear N8 HZ8 HB8 HBW8 HX8
          have r0 := HZ9.out.cell 0
          have f0 := HZ9.out.frozen 0
          have r1 := HZ9.out.cell 1
          have f1 := HZ9.out.frozen 1
          have r2 := HZ9.out.cell 2
          have f2 := HZ9.out.frozen 2
          go_wp2_with fail
          refine bodyPost_ret (results_blk_tmp2 rfl _ _ g 29 _ _ rfl (set3_blk HZ9.out _ _ _) rfl rfl rfl) rfl ?_
          exact HRET.out _ 14 (below_keeps HBW9.out (set3_keeps _ g _ _ _) (Nat.le_of_eq HGG.out) HBW9.out.size) (HD.out)
      · have HD := Lib.hid (HND.out HOK.out fun h => hsw (HR4.out.1 h).1)
        have hsn : ((sr.why : Nat) : Int) ≠ 0 := by omega
        clear HND HSU HBAD HYES hsw HR4
        have r0 := HZ8.out.cell 0
        have f0 := HZ8.out.frozen 0
        have r1 := HZ8.out.cell 1
        have f1 := HZ8.out.frozen 1
        have r2 := HZ8.out.cell 2
        have f2 := HZ8.out.frozen 2
        go_wp2_with fail
        refine bodyPost_ret (results_blk_tmp2 rfl _ _ g 29 _ _ rfl (set3_blk HZ8.out _ _ _) rfl rfl rfl) rfl ?_
        exact HRET.out _ 10 (below_keeps HBW8.out (set3_keeps _ g _ _ _) (Nat.le_of_eq HGG.out) HBW8.out.size) (HD.out)
    · by_cases hk2 : k0 = 2
      · subst hk2
        have HOK : Hid (L.length = 0 ∨ Kd 2) := .inr (.inr rfl)
        clear HK hk1
        go_upto_region 5 with (fail)
        clear y2 c0
        go_wp2_with fail
        refine (refLongR_to N3.out).mono ?_
        rintro e w4 ⟨rfl, k4, n4⟩
        rw [H2E.out] at n4 ⊢
        dsimp only at n4 ⊢
        have N4 := Lib.hid n4
        have HZ4 : Hid (Blk w4 g 29 [.int .i64 0, .int .u64 0, .slice none 0 0]) := (k4.block g HZ3.out.lt (fun e => by injection e with e; have := HGR.out; omega)).trans HZ3.out
        have HB4 : Hid (Blk w4 gr 29 [.int .i64 (2 : Nat), .int .u64 0, .slice none 0 0]) := (k4.block gr HB3.out.lt (fun e => by injection e with e; have := HGO.out; omega)).trans HB3.out
        have HBW4 : Hid (Below w.heap.size w w4) := below_keeps HBW3.out k4 (by have := HGG.out; have := HGR.out; omega) HBW3.out.size
        clear k4 n4
        clear N3 HZ3 HB3 HBW3
        have c1 := HB4.out.cell 1
        have f1 := HB4.out.frozen 1
        obtain ⟨W5, hW5⟩ : ∃ W, W = w4.setCell ⟨gr, 1, none⟩ (.int .u64 (q0 : Nat)) := ⟨_, rfl⟩
        have hk5 : Keeps w4 W5 gr := by rw [hW5]; exact (Keeps.refl w4 gr).setCell 1 _
        have N5 : Hid (RIn gR 71 A L cap s2 W5) := rin_poke N4.out hk5 (by have := HGO.out; omega) (fun h0 b hb => by have := HAL.out h0 b hb; have := HGG.out; have := HGR.out; have := HGO.out; omega)
        have HZ5 : Hid (Blk W5 g 29 [.int .i64 0, .int .u64 0, .slice none 0 0]) := (hk5.block g HZ4.out.lt (fun e => by injection e with e; have := HGR.out; have := HGO.out; omega)).trans HZ4.out
        have HB5 : Hid (Blk W5 gr 29 [.int .i64 (2 : Nat), .int .u64 (q0 : Nat), .slice none 0 0]) := by show Blk _ _ _ _; rw [hW5]; exact HB4.out.set_ 1 _
        have HBW5 : Hid (Below w.heap.size w W5) := below_keeps HBW4.out hk5 (by have := HGG.out; have := HGR.out; have := HGO.out; omega) HBW4.out.size
        clear hk5
        go_upto_region 6 with (fail)
        rw [← hW5]
        clear hW5 c1 f1
        clear N4 HZ4 HB4 HBW4
        go_wp2_with fail
        refine (refBytesR_to N5.out).mono ?_
        rintro e w6 ⟨v6, rfl, ho6, k6, n6⟩
        rw [H3E.out] at n6 ho6
        dsimp only at n6 ho6
        have N6 := Lib.hid n6
        obtain ⟨X, cx, rfl, hcx, hx6, hxn⟩ := row_of ho6
        have HCX := Lib.hid hcx
        have HX6 := Lib.hid hx6
        have HXN : Hid (∀ b, X.map (·.block) = some b → gr < b) := fun b hb => by have := hxn b hb; have := HB5.out.lt; omega
        have HZ6 : Hid (Blk w6 g 29 [.int .i64 0, .int .u64 0, .slice none 0 0]) := (k6.block g HZ5.out.lt (fun e => by injection e with e; have := HGR.out; omega)).trans HZ5.out
        have HB6 : Hid (Blk w6 gr 29 [.int .i64 (2 : Nat), .int .u64 (q0 : Nat), .slice none 0 0]) := (k6.block gr HB5.out.lt (fun e => by injection e with e; have := HGO.out; omega)).trans HB5.out
        have HBW6 : Hid (Below w.heap.size w w6) := below_keeps HBW5.out k6 (by have := HGG.out; have := HGR.out; omega) HBW5.out.size
        clear k6 n6 ho6 hcx hx6 hxn
        clear N5 HZ5 HB5 HBW5
        have c2 := HB6.out.cell 2
        have f2 := HB6.out.frozen 2
        obtain ⟨W7, hW7⟩ : ∃ W, W = w6.setCell ⟨gr, 2, none⟩ (.slice X b0.length cx) := ⟨_, rfl⟩
        have hk7 : Keeps w6 W7 gr := by rw [hW7]; exact (Keeps.refl w6 gr).setCell 2 _
        have N7 : Hid (RIn gR 71 A L cap s3 W7) := rin_poke N6.out hk7 (by have := HGO.out; omega) (fun h0 b hb => by have := HAL.out h0 b hb; have := HGG.out; have := HGR.out; have := HGO.out; omega)
        have HZ7 : Hid (Blk W7 g 29 [.int .i64 0, .int .u64 0, .slice none 0 0]) := (hk7.block g HZ6.out.lt (fun e => by injection e with e; have := HGR.out; have := HGO.out; omega)).trans HZ6.out
        have HB7 : Hid (Blk W7 gr 29 [.int .i64 (2 : Nat), .int .u64 (q0 : Nat), .slice X b0.length cx]) := by show Blk _ _ _ _; rw [hW7]; exact HB6.out.set_ 2 _
        have HBW7 : Hid (Below w.heap.size w W7) := below_keeps HBW6.out hk7 (by have := HGG.out; have := HGR.out; have := HGO.out; omega) HBW6.out.size
        have HX7 : Hid (Rd W7 X b0) := HX6.out.keeps hk7 (fun _ e => by have := HXN.out _ e; omega)
        clear hk7
        go_upto_region 7 with (fail)
        rw [← hW7]
        clear hW7 c2 f2
        clear N6 HZ6 HB6 HBW6 HX6
        obtain ⟨k3, hk3, hs3, hbk⟩ := N7.out.hd
        have HK3 : Hid (s3.why = 0 → k3 = 11 + b0.length) := fun h0 => by
          have h9 := (HA3.out h0).2
          have h8 := congrArg List.length hs3
          rw [List.length_drop] at h8
          omega
        have y1 : W7.cell? ⟨gR, 1, none⟩ = some (.int .i64 (k3 : Nat)) := hbk.cell 1
        have HKL := Lib.hid hk3
        clear hbk hk3 hs3 HA3
        go_wp2_with fail
        clear y1
        refine (refRaw_to N7.out 4 (by decide) (by decide)).mono ?_
        rintro e w8 ⟨v8, rfl, ho8, k8, n8⟩
        rw [HRE.out] at n8 ho8
        dsimp only at n8 ho8
        have N8 := Lib.hid n8
        obtain ⟨Y, cy, rfl, hcy, hy8, hyn⟩ := row_of ho8
        have HY8 := Lib.hid hy8
        have HCY := Lib.hid hcy
        have HZ8 : Hid (Blk w8 g 29 [.int .i64 0, .int .u64 0, .slice none 0 0]) := (k8.block g HZ7.out.lt (fun e => by injection e with e; have := HGR.out; omega)).trans HZ7.out
        have HB8 : Hid (Blk w8 gr 29 [.int .i64 (2 : Nat), .int .u64 (q0 : Nat), .slice X b0.length cx]) := (k8.block gr HB7.out.lt (fun e => by injection e with e; have := HGO.out; omega)).trans HB7.out
        have HBW8 : Hid (Below w.heap.size w w8) := below_keeps HBW7.out k8 (by have := HGG.out; have := HGR.out; omega) HBW7.out.size
        have HX8 : Hid (Rd w8 X b0) := HX7.out.keeps k8 (fun _ e => by have := HXN.out _ e; have := HGO.out; omega)
        clear k8 n8 ho8 hcy hy8 hyn
        clear N7 HZ7 HB7 HBW7 HX7
        obtain ⟨k5, hk5, hs5, hbk⟩ := N8.out.hd
        have z1 : w8.cell? ⟨gR, 1, none⟩ = some (.int .i64 (k5 : Nat)) := hbk.cell 1
        have z2 : w8.cell? ⟨gR, 2, none⟩ = some (.int .i64 (sr.why : Nat)) := hbk.cell 2
        have HZ1E := Lib.hid z1
        have HS5 := Lib.hid hs5
        have HK5 := Lib.hid hk5
        clear hbk z1 hs5 hk5
        by_cases hsw : sr.why = 0
        · have h5w : s5.why = 0 := Decidable.byContradiction fun h => HR4.out.2 h hsw
          obtain ⟨_, e4, e5⟩ := HR4.out.1 h5w
          have HLE := Lib.hid (HIN.out h5w)
          have h3w := HUP.out hsw
          have HW5 := Lib.hid h5w
          obtain rfl : k3 = 11 + b0.length := HK3.out h3w
          have HK5E : Hid (k5 = 15 + b0.length) := by
            have h8 := congrArg List.length HS5.out
            rw [List.length_drop, e5] at h8
            have := HLE.out.2
            have := HK5.out
            show _ = _
            omega
          obtain ⟨y, hy⟩ : ∃ y, y = L.take (11 + b0.length) := ⟨_, rfl⟩
          have hyl : y.length = 11 + b0.length := by have := HLE.out.2; rw [hy, List.length_take]; omega
          rw [← hy] at HSU HBAD HYES
          have HYR : Hid (Rd w8 A y) := by show Rd _ _ _; rw [hy]; exact (HRW.out.below HBW8.out).take _
          have HYL := Lib.hid hyl
          have HLC : Hid (((11 + b0.length : Nat) : Int) ≤ L.length ∧ (L.length : Int) ≤ cap) := by have := HLE.out.2; have := HC.out; exact ⟨by omega, by omega⟩
          obtain ⟨cs, hcs⟩ : ∃ x, x = Cr.sum y := ⟨_, rfl⟩
          have HCS := Lib.hid hcs.symm
          have HCSL : Hid (cs < 4294967296) := by show _ < _; rw [hcs]; exact sum_lt _
          rw [← hcs] at HSU HBAD HYES
          have HE4 := Lib.hid e4
          have hsw0 : ((sr.why : Nat) : Int) = 0 := by omega
          rw [hsw] at z2
          clear hy hyl hcs HND HIN h5w h3w hsw HS5 HK5 HK3 e4 e5 HR4 hsw0 HKL HUP
          go_upto_region 11 with (fail)
          clear z2
          by_cases hcm : cs = sm
          · subst hcm
            have HSQ : Hid (((strOf l4).toList == (strOf (four cs)).toList) = true) := by show _ = _; rw [HE4.out, strOf_beq]; simp
            refine Rc.wp_region (by kernel_rfl) (fun opn => List.getD [Rc.val (.slice Y l4.length cy), Rc.val (.string (strOf (l4))), Rc.val (.slice A L.length cap), Rc.val (.int .i64 (11 + b0.length : Nat)), Rc.val (.slice A y.length cap), Rc.val (.int .u32 (cs : Nat)), Ob.frow (four cs), Rc.val (.string (strOf (four cs))), Rc.val (.bool false)] opn Rc.any) 0 [] [[], [(0, 49)], [], [], [(2, 51), (3, 52)], [(4, 53)], [(5, 54)], [(6, 55)], [(1, 50), (7, 56)]] [[], [0], [], [], [2, 3], [4], [5], [6], [1, 7]] [[], [0], [], [], [2, 3], [4], [5], [6], [1, 7]] [] (by kernel_rfl) (by rfl) (by kernel_rfl) (fun _ => False) (fun _ _ => False) Rc.Inv.none ?_ ?_
            · intro fr ha
              have hz : fr.tmps.size = 68 := by rw [ha]; rfl
              have y0 : fr.eval (.tmp 0) = .slice A L.length cap := by rw [ha]; rfl
              have y7 : fr.eval (.tmp 7) = .int .i64 (11 + b0.length : Nat) := by rw [ha]; rfl
              have y8 : fr.eval (.tmp 8) = .slice Y l4.length cy := by rw [ha]; rfl
              clear ha
              refine .cons ?_ (.cons ?_ (.cons ?_ (.cons ?_ (.cons ?_ (.cons ?_ (.cons ?_ (.cons ?_ (.cons ?_ (.nil)))))))))
              · intro V S w2 HM HU HE
                have lw : Below w8.heap.size w8 w2 := Rc.Mod.below HM (fun _ h => h.elim)
                have tb8 : (Rg.putUse V [] fr).eval (.tmp 8) = .slice Y l4.length cy := (Rg.use_eval V fr 8 [] (by simp only [hz]; decide)).trans y8
                show Rg.Does1 _ _ V (Rg.putUse V [] fr) w2 _
                exact Ob.rc_mv (.slice Y l4.length cy) (by simp only [execOp, tb8]; go_simp) rfl rfl True.intro
              · intro V S w2 HM HU HE
                have lw : Below w8.heap.size w8 w2 := Rc.Mod.below HM (fun _ h => h.elim)
                have h0 : V 0 = .slice Y l4.length cy := HU.holds 0 (by decide)
                have tb49 : (Rg.putUse V [(0, 49)] fr).eval (.tmp 49) = .slice Y l4.length cy := (Rg.use_eval V fr 49 [(0, 49)] (by simp only [hz]; decide)).trans h0
                show Rg.Does1 _ _ V (Rg.putUse V [(0, 49)] fr) w2 _
                exact Ob.rc_str (l4) rfl tb49 (by first | rfl | simp) (HY8.out.below lw) rfl rfl True.intro
              · intro V S w2 HM HU HE
                have lw : Below w8.heap.size w8 w2 := Rc.Mod.below HM (fun _ h => h.elim)
                have tb0 : (Rg.putUse V [] fr).eval (.tmp 0) = .slice A L.length cap := (Rg.use_eval V fr 0 [] (by simp only [hz]; decide)).trans y0
                show Rg.Does1 _ _ V (Rg.putUse V [] fr) w2 _
                exact Ob.rc_mv (.slice A L.length cap) (by simp only [execOp, tb0]; go_simp) rfl rfl True.intro
              · intro V S w2 HM HU HE
                have lw : Below w8.heap.size w8 w2 := Rc.Mod.below HM (fun _ h => h.elim)
                have tb7 : (Rg.putUse V [] fr).eval (.tmp 7) = .int .i64 (11 + b0.length : Nat) := (Rg.use_eval V fr 7 [] (by simp only [hz]; decide)).trans y7
                show Rg.Does1 _ _ V (Rg.putUse V [] fr) w2 _
                exact Ob.rc_mv (.int .i64 (11 + b0.length : Nat)) (by simp only [execOp, tb7]; go_simp) rfl rfl True.intro
              · intro V S w2 HM HU HE
                have lw : Below w8.heap.size w8 w2 := Rc.Mod.below HM (fun _ h => h.elim)
                have h2 : V 2 = .slice A L.length cap := HU.holds 2 (by decide)
                have tb51 : (Rg.putUse V [(2, 51), (3, 52)] fr).eval (.tmp 51) = .slice A L.length cap := (Rg.use_eval V fr 51 [(2, 51), (3, 52)] (by simp only [hz]; decide)).trans h2
                have h3 : V 3 = .int .i64 (11 + b0.length : Nat) := HU.holds 3 (by decide)
                have tb52 : (Rg.putUse V [(2, 51), (3, 52)] fr).eval (.tmp 52) = .int .i64 (11 + b0.length : Nat) := (Rg.use_eval V fr 52 [(2, 51), (3, 52)] (by simp only [hz]; decide)).trans h3
                show Rg.Does1 _ _ V (Rg.putUse V [(2, 51), (3, 52)] fr) w2 _
                exact Ob.rc_slh rfl tb51 tb52 (by rw [HYL.out]; exact sl_h w2 A L.length cap (11 + b0.length) (by have := HLC.out.1; have := HLC.out.2; omega)) rfl rfl True.intro
              · intro V S w2 HM HU HE
                have lw : Below w8.heap.size w8 w2 := Rc.Mod.below HM (fun _ h => h.elim)
                have h4 : V 4 = .slice A y.length cap := HU.holds 4 (by decide)
                have tb53 : (Rg.putUse V [(4, 53)] fr).eval (.tmp 53) = .slice A y.length cap := (Rg.use_eval V fr 53 [(4, 53)] (by simp only [hz]; decide)).trans h4
                show Rg.Does1 _ _ V (Rg.putUse V [(4, 53)] fr) w2 _
                exact Ob.step_tell (.int .u32 (cs : Nat)) #[.slice A y.length cap] (fun args w => Rg.call_enter Tryd.func21 (by kernel_rfl) (by kernel_rfl) args w) rfl (by simp only [List.map_toArray, List.map_cons, List.map_nil, tb53]) rfl (fun x => Rg.alias_none rfl V x) True.intro ((refSum_any w2 y A cap (HYR.out.below lw) (by have := HYL.out; have := HLE.out; have := HL.out; omega)).mono fun e w3 ⟨h, hw⟩ => by subst hw; exact ⟨by rw [h, HCS.out], Below.refl _ _⟩)
              · intro V S w2 HM HU HE
                have lw : Below w8.heap.size w8 w2 := Rc.Mod.below HM (fun _ h => h.elim)
                have h5 : V 5 = .int .u32 (cs : Nat) := HU.holds 5 (by decide)
                have tb54 : (Rg.putUse V [(5, 54)] fr).eval (.tmp 54) = .int .u32 (cs : Nat) := (Rg.use_eval V fr 54 [(5, 54)] (by simp only [hz]; decide)).trans h5
                show Rg.Does1 _ _ V (Rg.putUse V [(5, 54)] fr) w2 _
                exact Ob.step_frow (four cs) #[.slice none 0 0, .int .u32 (cs : Nat)] (fun args w => Rg.call_enter Tryd.func20 (by kernel_rfl) (by kernel_rfl) args w) rfl (by simp only [List.map_toArray, List.map_cons, List.map_nil, Rg.eval_const, tb54]) rfl (fun x => Rg.alias_none rfl V x) True.intro (four_frow)
              · intro V S w2 HM HU HE
                have lw : Below w8.heap.size w8 w2 := Rc.Mod.below HM (fun _ h => h.elim)
                obtain ⟨X6, k6, e6, hc6, hr6, hX6⟩ := HU.holds 6 (by decide)
                have tb55 : (Rg.putUse V [(6, 55)] fr).eval (.tmp 55) = .slice X6 (four cs).length k6 := (Rg.use_eval V fr 55 [(6, 55)] (by simp only [hz]; decide)).trans e6
                show Rg.Does1 _ _ V (Rg.putUse V [(6, 55)] fr) w2 _
                exact Ob.rc_str (four cs) rfl tb55 (by first | rfl | simp) hr6 rfl rfl True.intro
              · intro V S w2 HM HU HE
                have lw : Below w8.heap.size w8 w2 := Rc.Mod.below HM (fun _ h => h.elim)
                have h1 : V 1 = .string (strOf (l4)) := HU.holds 1 (by decide)
                have tb50 : (Rg.putUse V [(1, 50), (7, 56)] fr).eval (.tmp 50) = .string (strOf (l4)) := (Rg.use_eval V fr 50 [(1, 50), (7, 56)] (by simp only [hz]; decide)).trans h1
                have h7 : V 7 = .string (strOf (four cs)) := HU.holds 7 (by decide)
                have tb56 : (Rg.putUse V [(1, 50), (7, 56)] fr).eval (.tmp 56) = .string (strOf (four cs)) := (Rg.use_eval V fr 56 [(1, 50), (7, 56)] (by simp only [hz]; decide)).trans h7
                show Rg.Does1 _ _ V (Rg.putUse V [(1, 50), (7, 56)] fr) w2 _
                have hsq := HSQ.out
                exact Ob.rc_mv (.bool false) (by simp only [execOp, tb50, tb56]; go_simp) rfl rfl True.intro
            intro V S w2 HI
            have HL2 : Hid (Below w8.heap.size w8 w2) := Rc.Mod.below HI.mod.undrew (fun _ h => h.elim)
            have hw8 : V 8 = .bool false := HI.get 8 (by decide) (by rfl)
            simp only [Rg.putList, Act.put, List.setIfInBounds_toArray, List.set_cons_zero, List.set_cons_succ, Nat.zero_add, Nat.reduceAdd]
            rw [hw8]
            clear HI hw8
            have N9 : Hid (RIn gR 71 A L cap sr w2) := N8.out.below HL2.out
            have HZ9 : Hid (Blk w2 g 29 [.int .i64 0, .int .u64 0, .slice none 0 0]) := HZ8.out.below HL2.out HZ8.out.lt
            have HB9 : Hid (Blk w2 gr 29 [.int .i64 (2 : Nat), .int .u64 (q0 : Nat), .slice X b0.length cx]) := HB8.out.below HL2.out HB8.out.lt
            have HBW9 : Hid (Below w.heap.size w w2) := Later.trans HBW8.out HL2.out
            have HX9 : Hid (Rd w2 X b0) := HX8.out.below HL2.out
            have z1 : w2.cell? ⟨gR, 1, none⟩ = some (.int .i64 (k5 : Nat)) := (HL2.out.cell (p := ⟨gR, 1, none⟩) N8.out.hd.lt).trans HZ1E.out
            have HZ2E := Lib.hid z1
            clear z1 HL2 HSQ HZ1E
            clear N8 HZ8 HB8 HBW8 HX8
            have c0 := HB9.out.cell 0
            have c1 := HB9.out.cell 1
            have c2 := HB9.out.cell 2
            go_wp2_with fail
            refine (HRT.out X cx w2).mono ?_
            rintro e w12 ⟨rfl, hb12⟩
            have z1 : w12.cell? ⟨gR, 1, none⟩ = some (.int .i64 (k5 : Nat)) := (hb12.cell (p := ⟨gR, 1, none⟩) N9.out.hd.lt).trans HZ2E.out
            have N12 : Hid (RIn gR 71 A L cap sr w12) := N9.out.below hb12
            have HZ12 : Hid (Blk w12 g 29 [.int .i64 0, .int .u64 0, .slice none 0 0]) := HZ9.out.below hb12 HZ9.out.lt
            have HB12 : Hid (Blk w12 gr 29 [.int .i64 (2 : Nat), .int .u64 (q0 : Nat), .slice X b0.length cx]) := HB9.out.below hb12 HB9.out.lt
            have HBW12 : Hid (Below w.heap.size w w12) := Later.trans HBW9.out hb12
            have HX12 : Hid (Rd w12 X b0) := HX9.out.below hb12
            clear hb12 c0 c1 c2 HZ2E
            clear N9 HZ9 HB9 HBW9 HX9
            by_cases hri : Right ⟨(2 : Nat), q0, b0⟩
            · have HD := Lib.hid (HYES.out HOK.out HW5.out (by first | rfl | trivial) hri)
              rw [decide_eq_true hri]
              clear hri HYES HBAD HSU
              have c0 := HB12.out.cell 0
              have c1 := HB12.out.cell 1
              have c2 := HB12.out.cell 2
              have r0 := HZ12.out.cell 0
              have f0 := HZ12.out.frozen 0
              have r1 := HZ12.out.cell 1
              have f1 := HZ12.out.frozen 1
              have r2 := HZ12.out.cell 2
              have f2 := HZ12.out.frozen 2
              go_upto_region 15 with (fail)
              obtain ⟨WZ, hWZ⟩ : ∃ W, W = (((w12.setCell ⟨g, 0, none⟩ (.int .i64 2)).setCell ⟨g, 1, none⟩ (.int .u64 (q0 : Nat))).setCell ⟨g, 2, none⟩ (.slice X b0.length cx)).drew := ⟨_, rfl⟩
              have HBZ : Hid (Blk WZ g 29 [.int .i64 2, .int .u64 (q0 : Nat), .slice X b0.length cx]) := by show Blk _ _ _ _; rw [hWZ]; exact Blk.drew (set3_blk HZ12.out _ _ _)
              have HKZ : Hid (Keeps w12 WZ g) := by show Keeps _ _ _; rw [hWZ]; exact Keeps.drew (set3_keeps _ g _ _ _)
              have n1 : gR ≠ g := by have := HGR.out; omega
              have n2 : g ≠ gR := fun h => n1 h.symm
              go_region
              rw [← hWZ]
              go_wp2_with fail
              refine bodyPost_ret (results_blk_tmp2 rfl _ _ g 29 _ _ rfl HBZ.out rfl rfl rfl) rfl ?_
              rw [HD.out]
              refine ⟨X, cx, ?_, HCX.out, HX12.out.keeps HKZ.out (fun _ e => by have := HXN.out _ e; have := HGO.out; have := HGR.out; omega), below_keeps HBW12.out HKZ.out (Nat.le_of_eq HGG.out) HBW12.out.size⟩
              show Ending.returned (.tuple #[.agg #[.int .i64 (2 : Nat), .int .u64 (q0 : Nat), .slice X b0.length cx], .int .i64 (k5 : Nat), .int .i64 0]) = _
              rw [HK5E.out]
              rfl
            · have HD := Lib.hid (HBAD.out HOK.out HW5.out (by first | rfl | trivial) hri)
              rw [decide_eq_false hri]
              clear hri HYES HBAD HSU z1
              have r0 := HZ12.out.cell 0
              have f0 := HZ12.out.frozen 0
              have r1 := HZ12.out.cell 1
              have f1 := HZ12.out.frozen 1
              have r2 := HZ12.out.cell 2
              have f2 := HZ12.out.frozen 2
              go_wp2_with fail
              refine bodyPost_ret (results_blk_tmp2 rfl _ _ g 29 _ _ rfl (set3_blk HZ12.out _ _ _) rfl rfl rfl) rfl ?_
              exact HRET.out _ 12 (below_keeps HBW12.out (set3_keeps _ g _ _ _) (Nat.le_of_eq HGG.out) HBW12.out.size) (HD.out)
          · have HD := Lib.hid (HSU.out HOK.out HW5.out hcm)
            have HSQ : Hid (((strOf l4).toList == (strOf (four cs)).toList) = false) := by
              show _ = _
              rw [HE4.out]
              rw [strOf_beq, decide_eq_false]
              exact fun h9 => hcm (four_inj HCSL.out HLE.out.1 h9.symm)
            clear HYES HBAD HSU
            refine Rc.wp_region (by kernel_rfl) (fun opn => List.getD [Rc.val (.slice Y l4.length cy), Rc.val (.string (strOf (l4))), Rc.val (.slice A L.length cap), Rc.val (.int .i64 (11 + b0.length : Nat)), Rc.val (.slice A y.length cap), Rc.val (.int .u32 (cs : Nat)), Ob.frow (four cs), Rc.val (.string (strOf (four cs))), Rc.val (.bool true)] opn Rc.any) 0 [] [[], [(0, 49)], [], [], [(2, 51), (3, 52)], [(4, 53)], [(5, 54)], [(6, 55)], [(1, 50), (7, 56)]] [[], [0], [], [], [2, 3], [4], [5], [6], [1, 7]] [[], [0], [], [], [2, 3], [4], [5], [6], [1, 7]] [] (by kernel_rfl) (by rfl) (by kernel_rfl) (fun _ => False) (fun _ _ => False) Rc.Inv.none ?_ ?_
            · intro fr ha
              have hz : fr.tmps.size = 68 := by rw [ha]; rfl
              have y0 : fr.eval (.tmp 0) = .slice A L.length cap := by rw [ha]; rfl
              have y7 : fr.eval (.tmp 7) = .int .i64 (11 + b0.length : Nat) := by rw [ha]; rfl
              have y8 : fr.eval (.tmp 8) = .slice Y l4.length cy := by rw [ha]; rfl
              clear ha
              refine .cons ?_ (.cons ?_ (.cons ?_ (.cons ?_ (.cons ?_ (.cons ?_ (.cons ?_ (.cons ?_ (.cons ?_ (.nil)))))))))
              · intro V S w2 HM HU HE
                have lw : Below w8.heap.size w8 w2 := Rc.Mod.below HM (fun _ h => h.elim)
                have tb8 : (Rg.putUse V [] fr).eval (.tmp 8) = .slice Y l4.length cy := (Rg.use_eval V fr 8 [] (by simp only [hz]; decide)).trans y8
                show Rg.Does1 _ _ V (Rg.putUse V [] fr) w2 _
                exact Ob.rc_mv (.slice Y l4.length cy) (by simp only [execOp, tb8]; go_simp) rfl rfl True.intro
              · intro V S w2 HM HU HE
                have lw : Below w8.heap.size w8 w2 := Rc.Mod.below HM (fun _ h => h.elim)
                have h0 : V 0 = .slice Y l4.length cy := HU.holds 0 (by decide)
                have tb49 : (Rg.putUse V [(0, 49)] fr).eval (.tmp 49) = .slice Y l4.length cy := (Rg.use_eval V fr 49 [(0, 49)] (by simp only [hz]; decide)).trans h0
                show Rg.Does1 _ _ V (Rg.putUse V [(0, 49)] fr) w2 _
                exact Ob.rc_str (l4) rfl tb49 (by first | rfl | simp) (HY8.out.below lw) rfl rfl True.intro
              · intro V S w2 HM HU HE
                have lw : Below w8.heap.size w8 w2 := Rc.Mod.below HM (fun _ h => h.elim)
                have tb0 : (Rg.putUse V [] fr).eval (.tmp 0) = .slice A L.length cap := (Rg.use_eval V fr 0 [] (by simp only [hz]; decide)).trans y0
                show Rg.Does1 _ _ V (Rg.putUse V [] fr) w2 _
                exact Ob.rc_mv (.slice A L.length cap) (by simp only [execOp, tb0]; go_simp) rfl rfl True.intro
              · intro V S w2 HM HU HE
                have lw : Below w8.heap.size w8 w2 := Rc.Mod.below HM (fun _ h => h.elim)
                have tb7 : (Rg.putUse V [] fr).eval (.tmp 7) = .int .i64 (11 + b0.length : Nat) := (Rg.use_eval V fr 7 [] (by simp only [hz]; decide)).trans y7
                show Rg.Does1 _ _ V (Rg.putUse V [] fr) w2 _
                exact Ob.rc_mv (.int .i64 (11 + b0.length : Nat)) (by simp only [execOp, tb7]; go_simp) rfl rfl True.intro
              · intro V S w2 HM HU HE
                have lw : Below w8.heap.size w8 w2 := Rc.Mod.below HM (fun _ h => h.elim)
                have h2 : V 2 = .slice A L.length cap := HU.holds 2 (by decide)
                have tb51 : (Rg.putUse V [(2, 51), (3, 52)] fr).eval (.tmp 51) = .slice A L.length cap := (Rg.use_eval V fr 51 [(2, 51), (3, 52)] (by simp only [hz]; decide)).trans h2
                have h3 : V 3 = .int .i64 (11 + b0.length : Nat) := HU.holds 3 (by decide)
                have tb52 : (Rg.putUse V [(2, 51), (3, 52)] fr).eval (.tmp 52) = .int .i64 (11 + b0.length : Nat) := (Rg.use_eval V fr 52 [(2, 51), (3, 52)] (by simp only [hz]; decide)).trans h3
                show Rg.Does1 _ _ V (Rg.putUse V [(2, 51), (3, 52)] fr) w2 _
                exact Ob.rc_slh rfl tb51 tb52 (by rw [HYL.out]; exact sl_h w2 A L.length cap (11 + b0.length) (by have := HLC.out.1; have := HLC.out.2; omega)) rfl rfl True.intro
              · intro V S w2 HM HU HE
                have lw : Below w8.heap.size w8 w2 := Rc.Mod.below HM (fun _ h => h.elim)
                have h4 : V 4 = .slice A y.length cap := HU.holds 4 (by decide)
                have tb53 : (Rg.putUse V [(4, 53)] fr).eval (.tmp 53) = .slice A y.length cap := (Rg.use_eval V fr 53 [(4, 53)] (by simp only [hz]; decide)).trans h4
                show Rg.Does1 _ _ V (Rg.putUse V [(4, 53)] fr) w2 _
                exact Ob.step_tell (.int .u32 (cs : Nat)) #[.slice A y.length cap] (fun args w => Rg.call_enter Tryd.func21 (by kernel_rfl) (by kernel_rfl) args w) rfl (by simp only [List.map_toArray, List.map_cons, List.map_nil, tb53]) rfl (fun x => Rg.alias_none rfl V x) True.intro ((refSum_any w2 y A cap (HYR.out.below lw) (by have := HYL.out; have := HLE.out; have := HL.out; omega)).mono fun e w3 ⟨h, hw⟩ => by subst hw; exact ⟨by rw [h, HCS.out], Below.refl _ _⟩)
              · intro V S w2 HM HU HE
                have lw : Below w8.heap.size w8 w2 := Rc.Mod.below HM (fun _ h => h.elim)
                have h5 : V 5 = .int .u32 (cs : Nat) := HU.holds 5 (by decide)
                have tb54 : (Rg.putUse V [(5, 54)] fr).eval (.tmp 54) = .int .u32 (cs : Nat) := (Rg.use_eval V fr 54 [(5, 54)] (by simp only [hz]; decide)).trans h5
                show Rg.Does1 _ _ V (Rg.putUse V [(5, 54)] fr) w2 _
                exact Ob.step_frow (four cs) #[.slice none 0 0, .int .u32 (cs : Nat)] (fun args w => Rg.call_enter Tryd.func20 (by kernel_rfl) (by kernel_rfl) args w) rfl (by simp only [List.map_toArray, List.map_cons, List.map_nil, Rg.eval_const, tb54]) rfl (fun x => Rg.alias_none rfl V x) True.intro (four_frow)
              · intro V S w2 HM HU HE
                have lw : Below w8.heap.size w8 w2 := Rc.Mod.below HM (fun _ h => h.elim)
                obtain ⟨X6, k6, e6, hc6, hr6, hX6⟩ := HU.holds 6 (by decide)
                have tb55 : (Rg.putUse V [(6, 55)] fr).eval (.tmp 55) = .slice X6 (four cs).length k6 := (Rg.use_eval V fr 55 [(6, 55)] (by simp only [hz]; decide)).trans e6
                show Rg.Does1 _ _ V (Rg.putUse V [(6, 55)] fr) w2 _
                exact Ob.rc_str (four cs) rfl tb55 (by first | rfl | simp) hr6 rfl rfl True.intro
              · intro V S w2 HM HU HE
                have lw : Below w8.heap.size w8 w2 := Rc.Mod.below HM (fun _ h => h.elim)
                have h1 : V 1 = .string (strOf (l4)) := HU.holds 1 (by decide)
                have tb50 : (Rg.putUse V [(1, 50), (7, 56)] fr).eval (.tmp 50) = .string (strOf (l4)) := (Rg.use_eval V fr 50 [(1, 50), (7, 56)] (by simp only [hz]; decide)).trans h1
                have h7 : V 7 = .string (strOf (four cs)) := HU.holds 7 (by decide)
                have tb56 : (Rg.putUse V [(1, 50), (7, 56)] fr).eval (.tmp 56) = .string (strOf (four cs)) := (Rg.use_eval V fr 56 [(1, 50), (7, 56)] (by simp only [hz]; decide)).trans h7
                show Rg.Does1 _ _ V (Rg.putUse V [(1, 50), (7, 56)] fr) w2 _
                have hsq := HSQ.out
                exact Ob.rc_mv (.bool true) (by simp only [execOp, tb50, tb56]; go_simp) rfl rfl True.intro
            intro V S w2 HI
            have HL2 : Hid (Below w8.heap.size w8 w2) := Rc.Mod.below HI.mod.undrew (fun _ h => h.elim)
            have hw8 : V 8 = .bool true := HI.get 8 (by decide) (by rfl)
            simp only [Rg.putList, Act.put, List.setIfInBounds_toArray, List.set_cons_zero, List.set_cons_succ, Nat.zero_add, Nat.reduceAdd]
            rw [hw8]
            clear HI hw8
            have N9 : Hid (RIn gR 71 A L cap sr w2) := N8.out.below HL2.out
            have HZ9 : Hid (Blk w2 g 29 [.int .i64 0, .int .u64 0, .slice none 0 0]) := HZ8.out.below HL2.out HZ8.out.lt
            have HB9 : Hid (Blk w2 gr 29 [.int .i64 (2 : Nat), .int .u64 (q0 : Nat), .slice X b0.length cx]) := HB8.out.below HL2.out HB8.out.lt
            have HBW9 : Hid (Below w.heap.size w w2) := Later.trans HBW8.out HL2.out
            have HX9 : Hid (Rd w2 X b0) := HX8.out.below HL2.out
            clear HL2 HSQ hcm HZ1E
            clear N8 HZ8 HB8 HBW8 HX8
            have r0 := HZ9.out.cell 0
            have f0 := HZ9.out.frozen 0
            have r1 := HZ9.out.cell 1
            have f1 := HZ9.out.frozen 1
            have r2 := HZ9.out.cell 2
            have f2 := HZ9.out.frozen 2
            go_wp2_with fail
            refine bodyPost_ret (results_blk_tmp2 rfl _ _ g 29 _ _ rfl (set3_blk HZ9.out _ _ _) rfl rfl rfl) rfl ?_
            exact HRET.out _ 14 (below_keeps HBW9.out (set3_keeps _ g _ _ _) (Nat.le_of_eq HGG.out) HBW9.out.size) (HD.out)
        · have HD := Lib.hid (HND.out HOK.out fun h => hsw (HR4.out.1 h).1)
          have hsn : ((sr.why : Nat) : Int) ≠ 0 := by omega
          clear HND HSU HBAD HYES hsw HR4
          have r0 := HZ8.out.cell 0
          have f0 := HZ8.out.frozen 0
          have r1 := HZ8.out.cell 1
          have f1 := HZ8.out.frozen 1
          have r2 := HZ8.out.cell 2
          have f2 := HZ8.out.frozen 2
          go_wp2_with fail
          refine bodyPost_ret (results_blk_tmp2 rfl _ _ g 29 _ _ rfl (set3_blk HZ8.out _ _ _) rfl rfl rfl) rfl ?_
          exact HRET.out _ 10 (below_keeps HBW8.out (set3_keeps _ g _ _ _) (Nat.le_of_eq HGG.out) HBW8.out.size) (HD.out)
      · have HD := Lib.hid (HK.out HOKL.out (fun h => h.elim hk1 hk2))
        have hk1i : ((k0 : Nat) : Int) ≠ 1 := by omega
        have hk2i : ((k0 : Nat) : Int) ≠ 2 := by omega
        have hk1b : (((k0 : Nat) : Int) != 1) = true := by simpa using hk1i
        have hk2b : (((k0 : Nat) : Int) != 2) = true := by simpa using hk2i
        clear HK HND HSU HBAD HYES
        have r0 := HZ3.out.cell 0
        have f0 := HZ3.out.frozen 0
        have r1 := HZ3.out.cell 1
        have f1 := HZ3.out.frozen 1
        have r2 := HZ3.out.cell 2
        have f2 := HZ3.out.frozen 2
        go_wp2_with fail
        refine bodyPost_ret (results_blk_tmp2 rfl _ _ g 29 _ _ rfl (set3_blk HZ3.out _ _ _) rfl rfl rfl) rfl ?_
        exact HRET.out _ 12 (below_keeps HBW3.out (set3_keeps _ g _ _ _) (Nat.le_of_eq HGG.out) HBW3.out.size) (HD.out)
  · have HOK : Hid (L.length = 0 ∨ Kd k0) := .inl ((Nat.eq_zero_or_pos L.length).elim id fun h => absurd (HFW.out.2 h) hs1)
    have hs3w : ¬ s3.why = 0 := fun h => by have := (HA3.out h).2; exact hs1 (HFW.out.2 (by omega))
    have hs1n : ((s1.why : Nat) : Int) ≠ 0 := by omega
    clear HK HFW hs1
    go_upto_region 5 with (fail)
    clear y2 c0 hs1n
    go_wp2_with fail
    refine (refLongR_to N3.out).mono ?_
    rintro e w4 ⟨rfl, k4, n4⟩
    rw [H2E.out] at n4 ⊢
    dsimp only at n4 ⊢
    have N4 := Lib.hid n4
    have HZ4 : Hid (Blk w4 g 29 [.int .i64 0, .int .u64 0, .slice none 0 0]) := (k4.block g HZ3.out.lt (fun e => by injection e with e; have := HGR.out; omega)).trans HZ3.out
    have HB4 : Hid (Blk w4 gr 29 [.int .i64 (k0 : Nat), .int .u64 0, .slice none 0 0]) := (k4.block gr HB3.out.lt (fun e => by injection e with e; have := HGO.out; omega)).trans HB3.out
    have HBW4 : Hid (Below w.heap.size w w4) := below_keeps HBW3.out k4 (by have := HGG.out; have := HGR.out; omega) HBW3.out.size
    clear k4 n4
    clear N3 HZ3 HB3 HBW3
    have c1 := HB4.out.cell 1
    have f1 := HB4.out.frozen 1
    obtain ⟨W5, hW5⟩ : ∃ W, W = w4.setCell ⟨gr, 1, none⟩ (.int .u64 (q0 : Nat)) := ⟨_, rfl⟩
    have hk5 : Keeps w4 W5 gr := by rw [hW5]; exact (Keeps.refl w4 gr).setCell 1 _
    have N5 : Hid (RIn gR 71 A L cap s2 W5) := rin_poke N4.out hk5 (by have := HGO.out; omega) (fun h0 b hb => by have := HAL.out h0 b hb; have := HGG.out; have := HGR.out; have := HGO.out; omega)
    have HZ5 : Hid (Blk W5 g 29 [.int .i64 0, .int .u64 0, .slice none 0 0]) := (hk5.block g HZ4.out.lt (fun e => by injection e with e; have := HGR.out; have := HGO.out; omega)).trans HZ4.out
    have HB5 : Hid (Blk W5 gr 29 [.int .i64 (k0 : Nat), .int .u64 (q0 : Nat), .slice none 0 0]) := by show Blk _ _ _ _; rw [hW5]; exact HB4.out.set_ 1 _
    have HBW5 : Hid (Below w.heap.size w W5) := below_keeps HBW4.out hk5 (by have := HGG.out; have := HGR.out; have := HGO.out; omega) HBW4.out.size
    clear hk5
    go_upto_region 6 with (fail)
    rw [← hW5]
    clear hW5 c1 f1
    clear N4 HZ4 HB4 HBW4
    go_wp2_with fail
    refine (refBytesR_to N5.out).mono ?_
    rintro e w6 ⟨v6, rfl, ho6, k6, n6⟩
    rw [H3E.out] at n6 ho6
    dsimp only at n6 ho6
    have N6 := Lib.hid n6
    obtain ⟨X, cx, rfl, hcx, hx6, hxn⟩ := row_of ho6
    have HCX := Lib.hid hcx
    have HX6 := Lib.hid hx6
    have HXN : Hid (∀ b, X.map (·.block) = some b → gr < b) := fun b hb => by have := hxn b hb; have := HB5.out.lt; omega
    have HZ6 : Hid (Blk w6 g 29 [.int .i64 0, .int .u64 0, .slice none 0 0]) := (k6.block g HZ5.out.lt (fun e => by injection e with e; have := HGR.out; omega)).trans HZ5.out
    have HB6 : Hid (Blk w6 gr 29 [.int .i64 (k0 : Nat), .int .u64 (q0 : Nat), .slice none 0 0]) := (k6.block gr HB5.out.lt (fun e => by injection e with e; have := HGO.out; omega)).trans HB5.out
    have HBW6 : Hid (Below w.heap.size w w6) := below_keeps HBW5.out k6 (by have := HGG.out; have := HGR.out; omega) HBW5.out.size
    clear k6 n6 ho6 hcx hx6 hxn
    clear N5 HZ5 HB5 HBW5
    have c2 := HB6.out.cell 2
    have f2 := HB6.out.frozen 2
    obtain ⟨W7, hW7⟩ : ∃ W, W = w6.setCell ⟨gr, 2, none⟩ (.slice X b0.length cx) := ⟨_, rfl⟩
    have hk7 : Keeps w6 W7 gr := by rw [hW7]; exact (Keeps.refl w6 gr).setCell 2 _
    have N7 : Hid (RIn gR 71 A L cap s3 W7) := rin_poke N6.out hk7 (by have := HGO.out; omega) (fun h0 b hb => by have := HAL.out h0 b hb; have := HGG.out; have := HGR.out; have := HGO.out; omega)
    have HZ7 : Hid (Blk W7 g 29 [.int .i64 0, .int .u64 0, .slice none 0 0]) := (hk7.block g HZ6.out.lt (fun e => by injection e with e; have := HGR.out; have := HGO.out; omega)).trans HZ6.out
    have HB7 : Hid (Blk W7 gr 29 [.int .i64 (k0 : Nat), .int .u64 (q0 : Nat), .slice X b0.length cx]) := by show Blk _ _ _ _; rw [hW7]; exact HB6.out.set_ 2 _
    have HBW7 : Hid (Below w.heap.size w W7) := below_keeps HBW6.out hk7 (by have := HGG.out; have := HGR.out; have := HGO.out; omega) HBW6.out.size
    have HX7 : Hid (Rd W7 X b0) := HX6.out.keeps hk7 (fun _ e => by have := HXN.out _ e; omega)
    clear hk7
    go_upto_region 7 with (fail)
    rw [← hW7]
    clear hW7 c2 f2
    clear N6 HZ6 HB6 HBW6 HX6
    obtain ⟨k3, hk3, hs3, hbk⟩ := N7.out.hd
    have HK3 : Hid (s3.why = 0 → k3 = 11 + b0.length) := fun h0 => by
      have h9 := (HA3.out h0).2
      have h8 := congrArg List.length hs3
      rw [List.length_drop] at h8
      omega
    have y1 : W7.cell? ⟨gR, 1, none⟩ = some (.int .i64 (k3 : Nat)) := hbk.cell 1
    have HKL := Lib.hid hk3
    clear hbk hk3 hs3 HA3
    go_wp2_with fail
    clear y1
    refine (refRaw_to N7.out 4 (by decide) (by decide)).mono ?_
    rintro e w8 ⟨v8, rfl, ho8, k8, n8⟩
    rw [HRE.out] at n8 ho8
    dsimp only at n8 ho8
    have N8 := Lib.hid n8
    obtain ⟨Y, cy, rfl, hcy, hy8, hyn⟩ := row_of ho8
    have HY8 := Lib.hid hy8
    have HCY := Lib.hid hcy
    have HZ8 : Hid (Blk w8 g 29 [.int .i64 0, .int .u64 0, .slice none 0 0]) := (k8.block g HZ7.out.lt (fun e => by injection e with e; have := HGR.out; omega)).trans HZ7.out
    have HB8 : Hid (Blk w8 gr 29 [.int .i64 (k0 : Nat), .int .u64 (q0 : Nat), .slice X b0.length cx]) := (k8.block gr HB7.out.lt (fun e => by injection e with e; have := HGO.out; omega)).trans HB7.out
    have HBW8 : Hid (Below w.heap.size w w8) := below_keeps HBW7.out k8 (by have := HGG.out; have := HGR.out; omega) HBW7.out.size
    have HX8 : Hid (Rd w8 X b0) := HX7.out.keeps k8 (fun _ e => by have := HXN.out _ e; have := HGO.out; omega)
    clear k8 n8 ho8 hcy hy8 hyn
    clear N7 HZ7 HB7 HBW7 HX7
    obtain ⟨k5, hk5, hs5, hbk⟩ := N8.out.hd
    have z1 : w8.cell? ⟨gR, 1, none⟩ = some (.int .i64 (k5 : Nat)) := hbk.cell 1
    have z2 : w8.cell? ⟨gR, 2, none⟩ = some (.int .i64 (sr.why : Nat)) := hbk.cell 2
    have HZ1E := Lib.hid z1
    have HS5 := Lib.hid hs5
    have HK5 := Lib.hid hk5
    clear hbk z1 hs5 hk5
    by_cases hsw : sr.why = 0
    · exact absurd (HUP.out hsw) hs3w
    · have HD := Lib.hid (HND.out HOK.out fun h => hsw (HR4.out.1 h).1)
      have hsn : ((sr.why : Nat) : Int) ≠ 0 := by omega
      clear HND HSU HBAD HYES hsw HR4
      have r0 := HZ8.out.cell 0
      have f0 := HZ8.out.frozen 0
      have r1 := HZ8.out.cell 1
      have f1 := HZ8.out.frozen 1
      have r2 := HZ8.out.cell 2
      have f2 := HZ8.out.frozen 2
      go_wp2_with fail
      refine bodyPost_ret (results_blk_tmp2 rfl _ _ g 29 _ _ rfl (set3_blk HZ8.out _ _ _) rfl rfl rfl) rfl ?_
      exact HRET.out _ 10 (below_keeps HBW8.out (set3_keeps _ g _ _ _) (Nat.le_of_eq HGG.out) HBW8.out.size) (HD.out)
end Re
end Go.Proofs.YtmcbpgbiephllaaDoor

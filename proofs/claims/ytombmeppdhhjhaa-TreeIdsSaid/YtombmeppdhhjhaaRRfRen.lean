/-
  OWN WORK. The document's tree: onto, Rename.
-/
import Derived.Test.YtombmeppdhhjhaaRRfDeep
import Derived.Test.YtombmeppdhhjhaaRRfNew
import Derived.Deep.RegionHeld3
namespace Go.Proofs.Ytombmeppdhhjhaa
open Go.RowKit Rc
open Tr (Nm En T)
namespace Rf
variable {p : Nat} {nv dv ev : Value} {D : Nat → Prop} {t t' : T} {w w1 w2 : World}
theorem within_take (l o : List Bs) : Tr.within l o = decide (o = l.take o.length) := by
  unfold Tr.within
  rw [Bool.eq_iff_iff, List.isPrefixOf_iff_prefix, List.prefix_iff_eq_take, decide_eq_true_eq]
set_option maxHeartbeats 2000000 in
set_option maxRecDepth 100000 in
theorem onto_any (h : RA p nv dv ev D t w) (hG : Tr.Good t) (d : Int) (x : Bs) (k i : Int) (hg : Tr.get (Tr.kids t d) x = some k) :
    Calls Try.prog 91 #[.pointer (some ⟨p, 0, none⟩), .int .i64 d, .string (strOf x), .int .i64 i] w fun e w' => e = .returned (.int .i64 ((if k = i then 0 else 21 : Nat) : Nat)) ∧ Below w.heap.size w w' := by
  rcases flat_idx hG d x with ⟨k1, _⟩ | ⟨k0, j, k1, k2, k3, k4⟩
  · rw [hg] at k1; cases k1
  rw [hg] at k1
  injection k1 with k1
  subst k1
  have HEN : Hid (∀ W, Below w.heap.size w W → Calls Try.prog 80 #[.pointer (some ⟨p, 0, none⟩), .int .i64 d, .string (strOf x)] W fun e w' => e = .returned (.int .i64 (j : Nat)) ∧ w' = W) := fun W hW => by
    have := entry_any (h.below hW).in_ d x (by have := hG.flat_le; omega)
    rw [k2] at this
    exact this
  obtain ⟨g, c, hev, hcell⟩ := h.entcell k3
  have c2 : w.cell? ⟨p, 2, none⟩ = some ev := h.in_.box.cell 2
  obtain ⟨n, hn⟩ : ∃ n, n = (Tr.flat t).length := ⟨_, rfl⟩
  rw [← hn] at hev k4
  have hjn : (j : Int) < (n : Int) := by omega
  subst hev
  simp only at hcell
  clear h hG hg k2 k3 hn k4
  by_cases hk : k = i
  · subst hk
    rw [if_pos rfl]
    go_enter Try.func91, Try.ntmps91
    go_upto_region 1 with (fail)
    go_region_held3 (fun w' => w'.cell? ⟨p, 2, none⟩ = some (.slice (some ⟨g, 0, none⟩) n c) ∧ w'.cell? ⟨g, j * 3 + 2, none⟩ = some (.int .i64 k))
      (first
        | go_keep)
      (first
        | (go_at_call 80; refine (HEN.out _ (undrewR (Below.refl _ _))).mono ?_; rintro e1 w3 ⟨rfl, rfl⟩)
        | fail)
    go_wp2_with fail
    go_ret
    exact ⟨rfl, ⟨rfl, rfl, rfl, Nat.le_refl _, fun _ _ => rfl⟩⟩
  · have hkb : (k == i) = false := by rw [beq_eq_false_iff_ne]; exact hk
    rw [if_neg hk]
    clear hk
    go_enter Try.func91, Try.ntmps91
    go_upto_region 1 with (fail)
    go_region_held3 (fun w' => w'.cell? ⟨p, 2, none⟩ = some (.slice (some ⟨g, 0, none⟩) n c) ∧ w'.cell? ⟨g, j * 3 + 2, none⟩ = some (.int .i64 k))
      (first
        | go_keep)
      (first
        | (go_at_call 80; refine (HEN.out _ (undrewR (Below.refl _ _))).mono ?_; rintro e1 w3 ⟨rfl, rfl⟩)
        | fail)
    go_wp2_with fail
    go_ret
    exact ⟨rfl, ⟨rfl, rfl, rfl, Nat.le_refl _, fun _ _ => rfl⟩⟩
set_option maxHeartbeats 2000000 in
set_option maxRecDepth 100000 in
theorem rename_any (h : RA p nv dv ev D t w) (hG : Tr.Good t) (A A2 : Option Addr) (q r : List Bs) (cap cap2 : Nat) (hr : RdS w A q) (hc : q.length ≤ cap) (hl : q.length ≤ 1000000) (hs : ∀ s ∈ q, s.length ≤ 1000000) (hr2 : RdS w A2 r) (hc2 : r.length ≤ cap2) (hl2 : r.length ≤ 1000000) (hs2 : ∀ s ∈ r, s.length ≤ 1000000) :
    Calls Try.prog 55 #[.pointer (some ⟨p, 0, none⟩), .slice A q.length cap, .slice A2 r.length cap2] w (RTurn p (Tr.rename t q r).2 (.int .i64 ((Tr.rename t q r).1 : Nat)) (RS p nv ev D) w) := by
  have HS : Hid (∀ x W, Below w.heap.size w W → RTurn p t x (RS p nv ev D) w (.returned x) W) := fun x W hW => RTurn.stay h hW
  have H1 := Lib.hid (rights_any w A A2 q r cap cap2 hr hl hs hr2 hl2 hs2)
  obtain ⟨i, n, hin⟩ : ∃ i n, Tr.lookF t 0 q = (i, n) := ⟨_, _, rfl⟩
  have hlk := lookF_any h.in_ hG h.low A q cap hr hl
  rw [hin] at hlk
  have H2 := Lib.hid hlk
  have H3 : Hid (∀ W, Below w.heap.size w W → Calls Try.prog 63 #[.pointer (some ⟨p, 0, none⟩), .int .i64 i] W fun e w' => e = .returned (.tuple #[(Tr.node t i).1.val, .bool (Tr.node t i).2]) ∧ Below W.heap.size W w') := fun W hW => node_any (h.below hW).in_ (h.below hW).low i (by have := hG.few; omega)
  obtain ⟨d, x, m, hpl⟩ : ∃ d x m, Tr.place t r = (d, x, m) := ⟨_, _, _, rfl⟩
  have H4 : Hid (∀ W, Below w.heap.size w W → Calls Try.prog 79 #[.pointer (some ⟨p, 0, none⟩), .slice A2 r.length cap2] W fun e w' => e = .returned (.tuple #[.int .i64 d, .string (strOf x), .int .i64 (m : Nat)]) ∧ Below W.heap.size W w') := fun W hW => by
    have := place_any (h.below hW) hG A2 r cap2 (hr2.below hW) hc2 hl2
    rw [hpl] at this
    exact this
  have H5 : Hid (∀ W, Below w.heap.size w W → Calls Try.prog 80 #[.pointer (some ⟨p, 0, none⟩), .int .i64 d, .string (strOf x)] W fun e w' => e = .returned (.int .i64 (idxE (Tr.flat t) d x)) ∧ w' = W) := fun W hW => entry_any (h.below hW).in_ d x (by have := hG.flat_le; omega)
  have H6 : Hid (∀ W, Below w.heap.size w W → Calls Try.prog 90 #[.slice A2 r.length cap2, .slice A q.length cap] W fun e w' => e = .returned (.bool (Tr.within r q)) ∧ Below W.heap.size W w') := fun W hW => by
    have := refWithin_names W r q A2 A cap2 cap (hr2.below hW) (hr.below hW) hl2 hl
    rw [← within_take] at this
    exact this
  have H7 : Hid (∀ W, Below w.heap.size w W → Calls Try.prog 92 #[.pointer (some ⟨p, 0, none⟩), .int .i64 i] W fun e w' => e = .returned (.int .i64 (Tr.high t 64 i : Nat)) ∧ Below W.heap.size W w') := fun W hW => deep_any (h.below hW) hG i
  have H8 : Hid (∀ W k, Below w.heap.size w W → Tr.get (Tr.kids t d) x = some k → Calls Try.prog 91 #[.pointer (some ⟨p, 0, none⟩), .int .i64 d, .string (strOf x), .int .i64 i] W fun e w' => e = .returned (.int .i64 ((if k = i then 0 else 21 : Nat) : Nat)) ∧ Below W.heap.size W w') := fun W k hW hk => onto_any (h.below hW) hG d x k i hk
  have hren : Tr.rename t q r = if (if Tr.formed q ≠ 0 then Tr.formed q else Tr.formed r) ≠ 0 then (if Tr.formed q ≠ 0 then Tr.formed q else Tr.formed r, t) else if n ≠ 0 then (n, t) else if q = [] then (1, t) else if m ≠ 0 then (m, t) else if (Tr.ndOf t i).kind = 2 ∧ Tr.within r q = true then (1, t) else if Tr.get (Tr.kids t d) x = some i then (0, t) else if (Tr.get (Tr.kids t d) x).isSome then (21, t) else if 8 < r.length + Tr.high t 64 i then (3, t) else (0, Tr.put (Tr.cut t (Tr.place t q).1 (Tr.place t q).2.1) d x i) := by
    unfold Tr.rename Tr.kindOf
    rw [hin, hpl]
    by_cases h1 : Tr.formed q = 0 <;> simp [h1]
  have HFIL : Hid ((Tr.ndOf t i).kind ≠ 2 → Tr.formed r = 0 → ¬ 8 < r.length + Tr.high t 64 i) := fun hk hf => by
    rw [high_file hG 64 (show Tr.kindOf t i ≠ 2 from hk)]
    have := (Tr.formed_ok hf).1
    omega
  have HGO : Hid (m = 0 → n = 0 → q ≠ [] → Tr.get (Tr.kids t d) x = none → ∃ (d0 : Int) (x0 : Bs) (j : Nat), (Tr.place t q).1 = d0 ∧ (Tr.place t q).2.1 = x0 ∧
      (∀ W, Below w.heap.size w W → Calls Try.prog 79 #[.pointer (some ⟨p, 0, none⟩), .slice A q.length cap] W fun e w' => e = .returned (.tuple #[.int .i64 d0, .string (strOf x0), .int .i64 0]) ∧ Below W.heap.size W w') ∧
      (∀ W, Below w.heap.size w W → Calls Try.prog 80 #[.pointer (some ⟨p, 0, none⟩), .int .i64 d0, .string (strOf x0)] W fun e w' => e = .returned (.int .i64 (j : Nat)) ∧ w' = W) ∧
      (∀ W, Below w.heap.size w W → Calls Try.prog 86 #[.pointer (some ⟨p, 0, none⟩), .int .i64 (j : Nat)] W fun e w' => e = .returned (.tuple #[]) ∧ ∃ nv2 dv2 ev2 D2, Left p (Tr.cut t d0 x0) (RS p nv ev D) W w' nv2 dv2 ev2 D2) ∧
      (∀ W nv2 dv2 ev2 D2, RA p nv2 dv2 ev2 D2 (Tr.cut t d0 x0) W → Calls Try.prog 82 #[.pointer (some ⟨p, 0, none⟩), .int .i64 d, .string (strOf x), .int .i64 i] W (RTurn p (Tr.put (Tr.cut t d0 x0) d x i) (.tuple #[]) (RS p nv2 ev2 D2) W))) := fun hm hn hqne _ => by
    subst hm hn
    obtain ⟨r0, x0, d0, en, _, _, k3, _, k5, k6⟩ := hG.looked hin hqne
    obtain ⟨j, m1, m2⟩ := rm_name hG k3 k5 h
    obtain ⟨ed, q1, _, _⟩ := placed_find hG hpl
    have hrc : Tr.Ris (Tr.cut t d0 x0) := Tr.upd_ris hG.ris fun _ => rfl
    have hfd : Tr.find (Tr.cut t d0 x0) d = some (if d = d0 then { ed with names := Tr.del ed.names x0 } else ed) := by
      unfold Tr.cut
      rw [Tr.find_upd (Tr.cut_id x0), q1]; rfl
    have hlc : (Tr.flat (Tr.cut t d0 x0)).length ≤ 4194240 := by
      rw [flat_cut_filter]
      exact Nat.le_trans (List.length_filter_le _ _) hG.flat_le
    refine ⟨d0, x0, j, by rw [k6], by rw [k6], fun W hW => ?_, fun W hW => ?_, m2, fun W nv2 dv2 ev2 D2 hW => add_any hW d x i (by omega) (flat_put_is hrc hfd x i) (put_maps _ d x i).1 (put_maps _ d x i).2⟩
    · have := place_any (h.below hW) hG A q cap (hr.below hW) hc hl
      rw [k6] at this
      exact this
    · have := entry_any (h.below hW).in_ d0 x0 (by have := hG.flat_le; omega)
      rw [m1] at this
      exact this
  have HLF0 : Hid (∀ W, Below w.heap.size w W → Left p t (RS p nv ev D) w W nv dv ev D) := fun W hW => h.left.later hW
  have HH64 := high_le t 64 i
  have HFI := Lib.hid (flat_idx hG d x)
  have hfr : (if Tr.formed q ≠ 0 then Tr.formed q else Tr.formed r) = 0 → Tr.formed r = 0 := fun e => by
    by_cases h1 : Tr.formed q = 0
    · rw [if_neg (by simp [h1])] at e; exact e
    · rw [if_pos h1] at e; exact absurd e h1
  have HFR := Lib.hid hfr
  have e0 : Tr.node t i = (Tr.ndOf t i, (Tr.find t i).isSome) := rfl
  rw [e0] at H3
  obtain ⟨fo, hfo⟩ : ∃ fo, fo = (Tr.find t i).isSome := ⟨_, rfl⟩
  rw [← hfo] at H3
  obtain ⟨⟨a1, a2, a3, a4, a5, a6⟩, hnd⟩ : ∃ nd, nd = Tr.ndOf t i := ⟨_, rfl⟩
  rw [← hnd] at H3 hren HFIL
  unfold Nd.val at H3
  simp only at H3 hren HFIL
  obtain ⟨f, hf⟩ : ∃ f, f = if Tr.formed q ≠ 0 then Tr.formed q else Tr.formed r := ⟨_, rfl⟩
  rw [← hf] at H1 hren HFR
  obtain ⟨hh, hhd⟩ : ∃ hh, hh = Tr.high t 64 i := ⟨_, rfl⟩
  rw [← hhd] at H7 hren HFIL HH64
  obtain ⟨wn, hwn⟩ : ∃ wn, wn = Tr.within r q := ⟨_, rfl⟩
  rw [← hwn] at H6 hren
  have HRE := Lib.hid hren
  have HQN : Hid (q = [] ↔ q.length = 0) := List.length_eq_zero_iff.symm
  obtain ⟨ql, hql⟩ : ∃ ql, ql = q.length := ⟨_, rfl⟩
  obtain ⟨rl, hrl⟩ : ∃ rl, rl = r.length := ⟨_, rfl⟩
  have hql6 : ql ≤ 1000000 := by omega
  have hrl6 : rl ≤ 1000000 := by omega
  rw [← hql] at H1 H2 H6 HGO HQN ⊢
  rw [← hrl] at H1 H4 H6 HRE HFIL ⊢
  clear h hG hr hr2 hs hs2 hin hlk hpl hren e0 hfo hnd hf hc hc2 hl hl2 hfr hhd hwn hql hrl
  go_enter Try.func55, Try.ntmps55
  go_wp2_with fail
  refine H1.out.mono ?_
  rintro e w1 ⟨rfl, rfl⟩
  by_cases hf : f = 0
  case neg =>
    have hfb : ((f : Int) != 0) = true := by rw [bne_iff_ne]; omega
    have HN : Hid (Tr.rename t q r = (f, t)) := by
      have := HRE.out
      rw [if_pos hf] at this
      exact this
    clear hf HRE
    go_wp2_with fail
    go_ret
    rw [HN.out]
    exact HS.out _ _ (Below.refl _ _)
  have HF0 := Lib.hid (HFR.out hf)
  subst hf
  rw [if_neg (by simp)] at HRE
  go_wp2_with fail
  refine H2.out.mono ?_
  rintro e w2 ⟨rfl, hb2⟩
  have HB2 := Lib.hid hb2
  clear hb2 H1 H2 HFR
  by_cases hn : n = 0
  case neg =>
    have hnb : ((n : Int) != 0) = true := by rw [bne_iff_ne]; omega
    have HN : Hid (Tr.rename t q r = (n, t)) := by
      have := HRE.out
      rw [if_pos hn] at this
      exact this
    clear hn HRE
    go_wp2_with fail
    go_ret
    rw [HN.out]
    exact HS.out _ _ HB2.out
  subst hn
  rw [if_neg (by simp)] at HRE
  by_cases hq0 : ql = 0
  · have HN : Hid (Tr.rename t q r = (1, t)) := by
      have := HRE.out
      rw [if_pos (HQN.out.2 hq0)] at this
      exact this
    subst hq0
    clear HRE
    go_wp2_with fail
    go_ret
    rw [HN.out]
    exact HS.out _ _ HB2.out
  have HQNE : Hid (q ≠ []) := fun e => hq0 (HQN.out.1 e)
  have hqi : ((ql : Int) == 0) = false := by rw [beq_eq_false_iff_ne]; omega
  rw [if_neg HQNE.out] at HRE
  have H4a := Lib.hid (H4.out _ HB2.out)
  clear hq0 HQN
  go_wp2_with fail
  refine H4a.out.mono ?_
  rintro e w3 ⟨rfl, hb3⟩
  have HB3 : Hid (Below w1.heap.size w1 w3) := HB2.out.trans (hb3.mono HB2.out.size)
  clear hb3 H4 H4a
  by_cases hm : m = 0
  case neg =>
    have hmb : ((m : Int) != 0) = true := by rw [bne_iff_ne]; omega
    have HN : Hid (Tr.rename t q r = (m, t)) := by
      have := HRE.out
      rw [if_pos hm] at this
      exact this
    clear hm HRE
    go_wp2_with fail
    go_ret
    rw [HN.out]
    exact HS.out _ _ HB3.out
  subst hm
  rw [if_neg (by simp)] at HRE
  have H3a := Lib.hid (H3.out _ HB3.out)
  go_wp2_with fail
  refine H3a.out.mono ?_
  rintro e w4 ⟨rfl, hb4⟩
  have HB4 : Hid (Below w1.heap.size w1 w4) := HB3.out.trans (hb4.mono HB3.out.size)
  obtain ⟨wb, hwb⟩ : ∃ wb, wb = w4.alloc (.cells #[.int .i64 a1, .int .i64 a2, .int .i64 a3, .int .i64 a4, .int .u64 (a5 : Nat), .bool a6] 38) := ⟨_, rfl⟩
  have HB5 : Hid (Below w1.heap.size w1 wb) := by show Below _ _ _; rw [hwb]; exact HB4.out.alloc HB4.out.size _
  have HBK : Hid (Blk wb w4.heap.size 38 [.int .i64 a1, .int .i64 a2, .int .i64 a3, .int .i64 a4, .int .u64 (a5 : Nat), .bool a6]) := by show Blk _ _ _ _; rw [hwb]; exact Blk.new w4 _ _
  clear hb4 H3 H3a
  go_upto_region 13 with (fail)
  rw [← hwb]
  clear hwb
  have c1 : wb.cell? ⟨w4.heap.size, 1, none⟩ = some (.int .i64 a2) := HBK.out.cell 1
  have H6a := Lib.hid (H6.out _ HB5.out)
  -- what comes behind the first two questions
  have HREST : Hid (¬ (a2 = 2 ∧ wn = true) → ∀ W, Below wb.heap.size wb W → True) := fun _ _ _ => trivial
  by_cases h2 : a2 = 2
  · subst h2
    cases wn with
    | true =>
      have HN : Hid (Tr.rename t q r = (1, t)) := by
        have := HRE.out
        rw [if_pos ⟨rfl, rfl⟩] at this
        exact this
      clear HRE
      go_wp2_with fail
      refine H6a.out.mono ?_
      rintro e w5 ⟨rfl, hb5⟩
      have HB6 : Hid (Below w1.heap.size w1 w5) := HB5.out.trans (hb5.mono HB5.out.size)
      clear hb5
      go_wp2_with fail
      go_ret
      rw [HN.out]
      exact HS.out _ _ HB6.out
    | false =>
      rw [if_neg (by simp)] at HRE
      go_wp2_with fail
      refine H6a.out.mono ?_
      rintro e w5 ⟨rfl, hb5⟩
      have HB6 : Hid (Below w1.heap.size w1 w5) := HB5.out.trans (hb5.mono HB5.out.size)
      have c1 : w5.cell? ⟨w4.heap.size, 1, none⟩ = some (.int .i64 2) := (HBK.out.below hb5 HBK.out.lt).cell 1
      have H5a := Lib.hid (H5.out _ HB6.out)
      clear hb5 H6 H6a HBK
      rcases HFI.out with ⟨k1, k2⟩ | ⟨k, j, k1, k2, _, _⟩
      case inr =>
        have HN : Hid (Tr.rename t q r = (if k = i then 0 else 21, t)) := by
          have := HRE.out
          rw [k1] at this
          by_cases hki : k = i
          · subst hki
            rw [if_pos rfl] at this
            rw [if_pos rfl]
            exact this
          · rw [if_neg (fun e => hki (by injection e)), if_pos (show (Option.some k).isSome = true from rfl)] at this
            rw [if_neg hki]
            exact this
        rw [k2] at H5a
        have H8a := Lib.hid (H8.out _ k HB6.out k1)
        obtain ⟨z, hz⟩ : ∃ z : Nat, z = if k = i then 0 else 21 := ⟨_, rfl⟩
        rw [← hz] at H8a HN
        have hj0 : (0 : Int) ≤ (j : Int) := by omega
        clear k1 k2 HRE hz
        go_wp2_with fail
        refine H5a.out.mono ?_
        rintro e w6 ⟨rfl, rfl⟩
        go_wp2_with fail
        refine H8a.out.mono ?_
        rintro e w7 ⟨rfl, hb7⟩
        have HB7 : Hid (Below w1.heap.size w1 w7) := HB6.out.trans (hb7.mono HB6.out.size)
        clear hb7
        go_wp2_with fail
        go_ret
        rw [HN.out]
        exact HS.out _ _ HB7.out
      rw [k2] at H5a
      have HK1 := Lib.hid k1
      rw [k1, if_neg (by simp), if_neg (by simp)] at HRE
      clear k1 k2
      have H7a := Lib.hid (H7.out _ HB6.out)
      have hsum : IntKind.i64.wrap ((hh : Int) + (rl : Int)) = ((rl + hh : Nat) : Int) := by rw [IntKind.wrap_i64]; omega
      obtain ⟨sm, hsm⟩ : ∃ sm, sm = rl + hh := ⟨_, rfl⟩
      rw [← hsm] at hsum HRE
      clear hsm
      by_cases h8 : 8 < sm
      · have h8i : (8 : Int) < (sm : Int) := by omega
        have HN : Hid (Tr.rename t q r = (3, t)) := by
          have := HRE.out
          rw [if_pos h8] at this
          exact this
        clear HRE h8
        go_wp2_with fail
        refine H5a.out.mono ?_
        rintro e w6 ⟨rfl, rfl⟩
        go_wp2_with fail
        refine H7a.out.mono ?_
        rintro e w7 ⟨rfl, hb7⟩
        have HB7 : Hid (Below w1.heap.size w1 w7) := HB6.out.trans (hb7.mono HB6.out.size)
        clear hb7
        go_wp2_with fail
        go_ret
        rw [HN.out]
        exact HS.out _ _ HB7.out
      have h8i : ¬ (8 : Int) < (sm : Int) := by omega
      rw [if_neg h8] at HRE
      obtain ⟨d0, x0, j0, e1, e2, G1, G2, G3, G4⟩ := HGO.out (by first | rfl | trivial) (by first | rfl | trivial) HQNE.out HK1.out
      rw [e1, e2] at HRE
      have G1 := Lib.hid G1
      have G2 := Lib.hid G2
      have G3 := Lib.hid G3
      have G4 := Lib.hid G4
      clear h8 HGO e1 e2
      go_wp2_with fail
      refine H5a.out.mono ?_
      rintro e w6 ⟨rfl, rfl⟩
      go_wp2_with fail
      refine H7a.out.mono ?_
      rintro e w7 ⟨rfl, hb7⟩
      have HB7 : Hid (Below w1.heap.size w1 w7) := HB6.out.trans (hb7.mono HB6.out.size)
      have G1a := Lib.hid (G1.out _ HB7.out)
      clear hb7 H5 H5a H7 H7a
      go_wp2_with fail
      refine G1a.out.mono ?_
      rintro e w8 ⟨rfl, hb8⟩
      have HB8 : Hid (Below w1.heap.size w1 w8) := HB7.out.trans (hb8.mono HB7.out.size)
      have G2a := Lib.hid (G2.out _ HB8.out)
      have G3a := Lib.hid (G3.out _ HB8.out)
      clear hb8 G1 G1a
      go_wp2_with fail
      refine G2a.out.mono ?_
      rintro e w9 ⟨rfl, rfl⟩
      go_wp2_with fail
      refine G3a.out.mono ?_
      rintro e w10 ⟨rfl, nv2, dv2, ev2, D2, hl⟩
      have HL : Hid (Left p (Tr.cut t d0 x0) (RS p nv ev D) w1 w10 nv2 dv2 ev2 D2) := (HLF0.out _ HB8.out).then hl
      have G4a := Lib.hid (G4.out _ _ _ _ _ hl.ra)
      clear hl G2 G2a G3 G3a G4
      go_wp2_with fail
      refine G4a.out.mono ?_
      intro e w11 ht
      obtain ⟨rfl, nv3, dv3, ev3, D3, hl2⟩ := ht.left
      have HE : Hid (RTurn p (Tr.put (Tr.cut t d0 x0) d x i) (.int .i64 0) (RS p nv ev D) w1 (.returned (.int .i64 0)) w11) := (HL.out.then hl2).turn
      clear ht hl2 G4a HL
      go_wp2_with fail
      go_ret
      rw [HRE.out]
      exact HE.out
  · have h2b : (a2 == 2) = false := by rw [beq_eq_false_iff_ne]; exact h2
    rw [if_neg (fun e => h2 e.1)] at HRE
    have H5a := Lib.hid (H5.out _ HB5.out)
    rcases HFI.out with ⟨k1, k2⟩ | ⟨k, j, k1, k2, _, _⟩
    case inr =>
      have HN : Hid (Tr.rename t q r = (if k = i then 0 else 21, t)) := by
        have := HRE.out
        rw [k1] at this
        by_cases hki : k = i
        · subst hki
          rw [if_pos rfl] at this
          rw [if_pos rfl]
          exact this
        · rw [if_neg (fun e => hki (by injection e)), if_pos (show (Option.some k).isSome = true from rfl)] at this
          rw [if_neg hki]
          exact this
      rw [k2] at H5a
      have H8a := Lib.hid (H8.out _ k HB5.out k1)
      obtain ⟨z, hz⟩ : ∃ z : Nat, z = if k = i then 0 else 21 := ⟨_, rfl⟩
      rw [← hz] at H8a HN
      have hj0 : (0 : Int) ≤ (j : Int) := by omega
      clear k1 k2 HRE hz h2
      go_wp2_with fail
      refine H5a.out.mono ?_
      rintro e w6 ⟨rfl, rfl⟩
      go_wp2_with fail
      refine H8a.out.mono ?_
      rintro e w7 ⟨rfl, hb7⟩
      have HB7 : Hid (Below w1.heap.size w1 w7) := HB5.out.trans (hb7.mono HB5.out.size)
      clear hb7
      go_wp2_with fail
      go_ret
      rw [HN.out]
      exact HS.out _ _ HB7.out
    rw [k2] at H5a
    have HK1 := Lib.hid k1
    rw [k1, if_neg (by simp), if_neg (by simp), if_neg (HFIL.out h2 HF0.out)] at HRE
    clear k1 k2
    obtain ⟨d0, x0, j0, e1, e2, G1, G2, G3, G4⟩ := HGO.out (by first | rfl | trivial) (by first | rfl | trivial) HQNE.out HK1.out
    rw [e1, e2] at HRE
    have G1a := Lib.hid (G1 _ HB5.out)
    have G2 := Lib.hid G2
    have G3 := Lib.hid G3
    have G4 := Lib.hid G4
    clear HGO e1 e2 h2 G1
    go_wp2_with fail
    refine H5a.out.mono ?_
    rintro e w7 ⟨rfl, rfl⟩
    clear H5 H5a H7
    go_wp2_with fail
    refine G1a.out.mono ?_
    rintro e w8 ⟨rfl, hb8⟩
    have HB8 : Hid (Below w1.heap.size w1 w8) := HB5.out.trans (hb8.mono HB5.out.size)
    have G2a := Lib.hid (G2.out _ HB8.out)
    have G3a := Lib.hid (G3.out _ HB8.out)
    clear hb8 G1a
    go_wp2_with fail
    refine G2a.out.mono ?_
    rintro e w9 ⟨rfl, rfl⟩
    go_wp2_with fail
    refine G3a.out.mono ?_
    rintro e w10 ⟨rfl, nv2, dv2, ev2, D2, hl⟩
    have HL : Hid (Left p (Tr.cut t d0 x0) (RS p nv ev D) w1 w10 nv2 dv2 ev2 D2) := (HLF0.out _ HB8.out).then hl
    have G4a := Lib.hid (G4.out _ _ _ _ _ hl.ra)
    clear hl G2 G2a G3 G3a G4
    go_wp2_with fail
    refine G4a.out.mono ?_
    intro e w11 ht
    obtain ⟨rfl, nv3, dv3, ev3, D3, hl2⟩ := ht.left
    have HE : Hid (RTurn p (Tr.put (Tr.cut t d0 x0) d x i) (.int .i64 0) (RS p nv ev D) w1 (.returned (.int .i64 0)) w11) := (HL.out.then hl2).turn
    clear ht hl2 G4a HL
    go_wp2_with fail
    go_ret
    rw [HRE.out]
    exact HE.out
end Rf
end Go.Proofs.Ytombmeppdhhjhaa

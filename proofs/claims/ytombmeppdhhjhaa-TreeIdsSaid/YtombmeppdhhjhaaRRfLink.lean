/-
  OWN WORK. The document's tree: Link.
-/
import Derived.Test.YtombmeppdhhjhaaRRfPoke
namespace Go.Proofs.Ytombmeppdhhjhaa
open Go.RowKit Rc
open Tr (Nm En T)
namespace Rf
variable {p : Nat} {nv dv ev : Value} {D : Nat → Prop} {t t' : T} {w w1 w2 : World}
theorem placed_find (hG : Tr.Good t) {q : List Bs} {d : Int} {x : Bs} (h : Tr.place t q = (d, x, 0)) : ∃ en, Tr.find t d = some en ∧ en.nd.kind = 2 ∧ en.nd.id = d := by
  obtain ⟨_, _, en, d', _, _, h2, h3, h4, h5⟩ := hG.placed (q := q) (by rw [h])
  rw [h] at h2
  injection h2 with h2 _
  subst h2
  exact ⟨en, h3, h4, h5⟩
theorem put_any (h : RA p nv dv ev D t w) (hG : Tr.Good t) {d : Int} {en : En} (hf : Tr.find t d = some en) (x : Bs) (i : Int) :
    Calls Try.prog 82 #[.pointer (some ⟨p, 0, none⟩), .int .i64 d, .string (strOf x), .int .i64 i] w (RTurn p (Tr.put t d x i) (.tuple #[]) (RS p nv ev D) w) :=
  add_any h d x i (by have := hG.flat_le; omega) (flat_put_is hG.ris hf x i) (put_maps t d x i).1 (put_maps t d x i).2
set_option maxHeartbeats 2000000 in
set_option maxRecDepth 100000 in
theorem link_any (h : RA p nv dv ev D t w) (hG : Tr.Good t) (A A2 : Option Addr) (q r : List Bs) (cap cap2 : Nat) (hr : RdS w A q) (hc : q.length ≤ cap) (hl : q.length ≤ 1000000) (hs : ∀ s ∈ q, s.length ≤ 1000000) (hr2 : RdS w A2 r) (hc2 : r.length ≤ cap2) (hl2 : r.length ≤ 1000000) (hs2 : ∀ s ∈ r, s.length ≤ 1000000) :
    Calls Try.prog 50 #[.pointer (some ⟨p, 0, none⟩), .slice A q.length cap, .slice A2 r.length cap2] w (RTurn p (Tr.link t q r).2 (.int .i64 ((Tr.link t q r).1 : Nat)) (RS p nv ev D) w) := by
  have HS : Hid (∀ x W, Below w.heap.size w W → RTurn p t x (RS p nv ev D) w (.returned x) W) := fun x W hW => RTurn.stay h hW
  have H1 := Lib.hid (rights_any w A A2 q r cap cap2 hr hl hs hr2 hl2 hs2)
  obtain ⟨i, n, hin⟩ : ∃ i n, Tr.lookF t 0 q = (i, n) := ⟨_, _, rfl⟩
  have hlk := lookF_any h.in_ hG h.low A q cap hr hl
  rw [hin] at hlk
  have H2 := Lib.hid hlk
  have H3 : Hid (∀ W, Below w.heap.size w W → Calls Try.prog 63 #[.pointer (some ⟨p, 0, none⟩), .int .i64 i] W fun e w' => e = .returned (.tuple #[(Tr.node t i).1.val, .bool (Tr.node t i).2]) ∧ Below W.heap.size W w') := fun W hW => node_any (h.below hW).in_ (h.below hW).low i (by have := hG.few; omega)
  obtain ⟨d, x, m, hpl⟩ : ∃ d x m, Tr.place t r = (d, x, m) := ⟨_, _, _, rfl⟩
  have H4 : Hid (∀ W, Below w.heap.size w W → Calls Try.prog 79 #[.pointer (some ⟨p, 0, none⟩), .slice A2 r.length cap2] W fun e w' => e = .returned (.tuple #[.int .i64 d, .string (strOf x), .int .i64 (m : Nat)]) ∧ Below W.heap.size W w') := fun W hW => by
    have := place_any (h.below hW) hG A2 r cap2 (hr2.below hW) hc2 hl2
    rw [hpl] at this
    exact this
  have H5 : Hid (∀ W, Below w.heap.size w W → Calls Try.prog 80 #[.pointer (some ⟨p, 0, none⟩), .int .i64 d, .string (strOf x)] W fun e w' => e = .returned (.int .i64 (idxE (Tr.flat t) d x)) ∧ w' = W) := fun W hW => entry_any (h.below hW).in_ d x (by have := hG.flat_le; omega)
  have hlink : Tr.link t q r = if (if Tr.formed q ≠ 0 then Tr.formed q else Tr.formed r) ≠ 0 then (if Tr.formed q ≠ 0 then Tr.formed q else Tr.formed r, t) else if n ≠ 0 then (n, t) else if (Tr.ndOf t i).kind = 2 then (22, t) else if m ≠ 0 then (m, t) else if (Tr.get (Tr.kids t d) x).isSome then (21, t) else if 64 ≤ (Tr.ndOf t i).links then (4, t) else (0, Tr.more (Tr.put t d x i) i 1) := by
    unfold Tr.link Tr.kindOf
    rw [hin, hpl]
    by_cases h1 : Tr.formed q = 0 <;> simp [h1]
  have HGO : Hid (m = 0 → n = 0 → (Tr.ndOf t i).links < 64 → ∀ W, Below w.heap.size w W → Calls Try.prog 82 #[.pointer (some ⟨p, 0, none⟩), .int .i64 d, .string (strOf x), .int .i64 i] W fun e w' => e = .returned (.tuple #[]) ∧ Calls Try.prog 85 #[.pointer (some ⟨p, 0, none⟩), .int .i64 i, .int .i64 1] w' (RTurn p (Tr.more (Tr.put t d x i) i 1) (.tuple #[]) (RS p nv ev D) w)) := fun hm hn hlk W hW => by
    subst hm hn
    obtain ⟨en, k1, k2, k3⟩ := placed_find hG hpl
    have hsm := hG.look_is (p := q) (by rw [hin])
    rw [hin] at hsm
    obtain ⟨ei, hei⟩ := Option.isSome_iff_exists.1 hsm
    have hfi : Tr.find (Tr.put t d x i) i = some (if i = d then { ei with names := Tr.ins ei.names x i } else ei) := by
      unfold Tr.put
      rw [Tr.find_upd (Tr.put_id x i), hei]; rfl
    have hnd : (if i = d then { ei with names := Tr.ins ei.names x i } else ei : En).nd = ei.nd := by split <;> rfl
    refine (put_any (h.below hW) hG k1 x i).mono ?_
    intro e w' ht
    obtain ⟨rfl, nv2, dv2, ev2, D2, hl⟩ := ht.left
    have hl0 : Left p (Tr.put t d x i) (RS p nv ev D) w w' nv2 dv2 ev2 D2 := (h.left.later hW).then hl
    refine ⟨rfl, (links_any hl0.ra (Tr.upd_ris hG.ris fun _ => rfl) (by unfold Tr.put; rw [Tr.upd_length]; have := hG.few; omega) hfi 1 ⟨by omega, by omega⟩ (by
      have hrt := (hG.each ei (Tr.find_some hei).1).nd
      rw [hnd]
      exact ⟨hrt.2.2.1, by have := hrt.2.2.2.1; omega⟩)).mono ?_⟩
    intro e2 w2 ht2
    exact RTurn.then hl0.mod hl0.sub ht2
  have HFI := Lib.hid (flat_idx hG d x)
  have e0 : Tr.node t i = (Tr.ndOf t i, (Tr.find t i).isSome) := rfl
  rw [e0] at H3
  obtain ⟨fo, hfo⟩ : ∃ fo, fo = (Tr.find t i).isSome := ⟨_, rfl⟩
  rw [← hfo] at H3
  obtain ⟨⟨a1, a2, a3, a4, a5, a6⟩, hnd⟩ : ∃ nd, nd = Tr.ndOf t i := ⟨_, rfl⟩
  rw [← hnd] at H3 hlink HGO
  unfold Nd.val at H3
  simp only at H3 hlink HGO
  obtain ⟨f, hf⟩ : ∃ f, f = if Tr.formed q ≠ 0 then Tr.formed q else Tr.formed r := ⟨_, rfl⟩
  rw [← hf] at H1 hlink
  have HLI := Lib.hid hlink
  clear h hG hr hr2 hs hs2 hin hlk hpl hlink e0 hfo hnd hf hc hc2 hl hl2
  go_enter Try.func50, Try.ntmps50
  go_wp2_with fail
  refine H1.out.mono ?_
  rintro e w1 ⟨rfl, rfl⟩
  by_cases hf : f = 0
  case neg =>
    have hfb : ((f : Int) != 0) = true := by rw [bne_iff_ne]; omega
    have HN : Hid (Tr.link t q r = (f, t)) := by
      have := HLI.out
      rw [if_pos hf] at this
      exact this
    clear hf HLI
    go_wp2_with fail
    go_ret
    rw [HN.out]
    exact HS.out _ _ (Below.refl _ _)
  subst hf
  rw [if_neg (by simp)] at HLI
  go_wp2_with fail
  refine H2.out.mono ?_
  rintro e w2 ⟨rfl, hb2⟩
  have HB2 := Lib.hid hb2
  clear hb2 H1 H2
  by_cases hn : n = 0
  case neg =>
    have hnb : ((n : Int) != 0) = true := by rw [bne_iff_ne]; omega
    have HN : Hid (Tr.link t q r = (n, t)) := by
      have := HLI.out
      rw [if_pos hn] at this
      exact this
    clear hn HLI
    go_wp2_with fail
    go_ret
    rw [HN.out]
    exact HS.out _ _ HB2.out
  subst hn
  rw [if_neg (by simp)] at HLI
  have H3a := Lib.hid (H3.out _ HB2.out)
  go_wp2_with fail
  refine H3a.out.mono ?_
  rintro e w3 ⟨rfl, hb3⟩
  have HB3 : Hid (Below w1.heap.size w1 w3) := HB2.out.trans (hb3.mono HB2.out.size)
  obtain ⟨wb, hwb⟩ : ∃ wb, wb = w3.alloc (.cells #[.int .i64 a1, .int .i64 a2, .int .i64 a3, .int .i64 a4, .int .u64 (a5 : Nat), .bool a6] 38) := ⟨_, rfl⟩
  have HB4 : Hid (Below w1.heap.size w1 wb) := by show Below _ _ _; rw [hwb]; exact HB3.out.alloc HB3.out.size _
  have HBK : Hid (Blk wb w3.heap.size 38 [.int .i64 a1, .int .i64 a2, .int .i64 a3, .int .i64 a4, .int .u64 (a5 : Nat), .bool a6]) := by show Blk _ _ _ _; rw [hwb]; exact Blk.new w3 _ _
  clear hb3 H3 H3a
  go_upto_region 8 with (fail)
  rw [← hwb]
  clear hwb
  have c1 : wb.cell? ⟨w3.heap.size, 1, none⟩ = some (.int .i64 a2) := HBK.out.cell 1
  by_cases h2 : a2 = 2
  · have HN : Hid (Tr.link t q r = (22, t)) := by
      have := HLI.out
      rw [if_pos h2] at this
      exact this
    subst h2
    clear HLI
    go_wp2_with fail
    go_ret
    rw [HN.out]
    exact HS.out _ _ HB4.out
  have h2b : (a2 == 2) = false := by rw [beq_eq_false_iff_ne]; exact h2
  rw [if_neg h2] at HLI
  have H4a := Lib.hid (H4.out _ HB4.out)
  clear h2
  go_wp2_with fail
  refine H4a.out.mono ?_
  rintro e w5 ⟨rfl, hb5⟩
  have HB5 : Hid (Below w1.heap.size w1 w5) := HB4.out.trans (hb5.mono HB4.out.size)
  have HBK5 : Hid (Blk w5 w3.heap.size 38 [.int .i64 a1, .int .i64 a2, .int .i64 a3, .int .i64 a4, .int .u64 (a5 : Nat), .bool a6]) := HBK.out.below hb5 HBK.out.lt
  clear hb5 H4 H4a c1 HBK
  by_cases hm : m = 0
  case neg =>
    have hmb : ((m : Int) != 0) = true := by rw [bne_iff_ne]; omega
    have HN : Hid (Tr.link t q r = (m, t)) := by
      have := HLI.out
      rw [if_pos hm] at this
      exact this
    clear hm HLI
    go_wp2_with fail
    go_ret
    rw [HN.out]
    exact HS.out _ _ HB5.out
  subst hm
  rw [if_neg (by simp)] at HLI
  have H5a := Lib.hid (H5.out _ HB5.out)
  have c2 : w5.cell? ⟨w3.heap.size, 2, none⟩ = some (.int .i64 a3) := HBK5.out.cell 2
  rcases HFI.out with ⟨k1, k2⟩ | ⟨k, j, k1, k2, _, _⟩
  case inr =>
    have HN : Hid (Tr.link t q r = (21, t)) := by
      have := HLI.out
      rw [k1, if_pos (show (Option.some k).isSome = true from rfl)] at this
      exact this
    rw [k2] at H5a
    have hj0 : (0 : Int) ≤ (j : Int) := by omega
    clear k1 k2 HLI
    go_wp2_with fail
    refine H5a.out.mono ?_
    rintro e w6 ⟨rfl, rfl⟩
    go_wp2_with fail
    go_ret
    rw [HN.out]
    exact HS.out _ _ HB5.out
  rw [k2] at H5a
  rw [k1, if_neg (by simp)] at HLI
  clear k1 k2 H5
  by_cases h64 : 64 ≤ a3
  · have HN : Hid (Tr.link t q r = (4, t)) := by
      have := HLI.out
      rw [if_pos h64] at this
      exact this
    clear HLI
    go_wp2_with fail
    refine H5a.out.mono ?_
    rintro e w6 ⟨rfl, rfl⟩
    go_wp2_with fail
    go_ret
    rw [HN.out]
    exact HS.out _ _ HB5.out
  have HN : Hid (Tr.link t q r = (0, Tr.more (Tr.put t d x i) i 1)) := by
    have := HLI.out
    rw [if_neg h64] at this
    exact this
  have HGO5 := Lib.hid (HGO.out (by first | rfl | trivial) (by first | rfl | trivial) (by omega) w5 HB5.out)
  have h64b : ¬ (64 : Int) ≤ a3 := h64
  clear HLI HGO h64
  go_wp2_with fail
  refine H5a.out.mono ?_
  rintro e w6 ⟨rfl, rfl⟩
  go_wp2_with fail
  refine HGO5.out.mono ?_
  rintro e w7 ⟨rfl, hlinks⟩
  have HLN := Lib.hid hlinks
  clear hlinks
  go_wp2_with fail
  refine HLN.out.mono ?_
  rintro e w8 ⟨rfl, hrest⟩
  have HR := Lib.hid hrest
  clear hrest HLN
  go_wp2_with fail
  go_ret
  rw [HN.out]
  exact ⟨rfl, HR.out⟩
end Rf
end Go.Proofs.Ytombmeppdhhjhaa

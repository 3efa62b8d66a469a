/-
  OWN WORK. The document's tree: look, behind right names.
-/
import Derived.Test.YtombmeppdhhjhaaR07
namespace Go.Proofs.Ytombmeppdhhjhaa
open Go.RowKit Rc
open Tr (Nm En T)
namespace Rf
variable {p : Nat} {nv dv ev : Value} {D : Nat → Prop} {t : T} {w : World}
set_option maxHeartbeats 2000000 in
set_option maxRecDepth 100000 in
theorem lookF_any (h : RIn p nv dv ev D t w) (hG : Tr.Good t) (hD : ∀ b, D b → b < w.heap.size) (A : Option Addr) (q : List Bs) (cap : Nat) (hr : RdS w A q) (hl : q.length ≤ 1000000) :
    Calls Try.prog 84 #[.pointer (some ⟨p, 0, none⟩), .slice A q.length cap] w fun e w' => e = .returned (.tuple #[.int .i64 (Tr.lookF t 0 q).1, .int .i64 ((Tr.lookF t 0 q).2 : Nat)]) ∧ Below w.heap.size w w' := by
  have HIN : Hid (∀ W, Below w.heap.size w W → RIn p nv dv ev D t W ∧ ∀ b, D b → b < W.heap.size) := fun W hW => ⟨h.keep hW.size fun b hb => hW.block b (RS_lt h hb hD), fun b hb => Nat.lt_of_lt_of_le (hD b hb) hW.size⟩
  have HR := Lib.hid hr
  have HG := Lib.hid hG
  have HFL : Hid ((Tr.flat t).length ≤ 4194240) := hG.flat_le
  have HTL : Hid (t.length ≤ 1000000) := by have := hG.few; show _ ≤ _; omega
  obtain ⟨Ae, ce, rfl, hce, hAe⟩ := Tm.own_form h.ents
  have HAE := Lib.hid hAe
  have HCE : Hid (∀ W, Below w.heap.size w W → W.cell? ⟨p, 2, none⟩ = some (.slice Ae (Tr.flat t).length ce)) := fun W hW => (hW.cell (p := ⟨p, 2, none⟩) h.box.lt).trans (h.box.cell 2)
  clear h hr hG hD hAe
  obtain ⟨R, hR⟩ : ∃ R, R = Tr.lookF t 0 q := ⟨_, rfl⟩
  rw [← hR]
  have HRE := Lib.hid hR
  clear hR
  go_enter Try.func84, Try.ntmps84
  go_wp2_with fail
  go_loopw [6, 7, 8, 9, 10] (fun t6 t7 t8 t9 t10 wr => ∃ (j : Nat) (id : Int) (v8 v9 v10 : Value), t6 = .int .i64 id ∧ t7 = .int .i64 j ∧ t8 = v8 ∧ t9 = v9 ∧ t10 = v10 ∧ j ≤ q.length ∧ Hid (R = Tr.lookF t id (q.drop j)) ∧ Hid (Below w.heap.size w wr)) (fun _ t7 _ _ _ _ => q.length - (match t7 with | .int _ k => k.toNat | _ => 0))
  case atStart => exact ⟨0, 0, _, _, _, rfl, rfl, rfl, rfl, rfl, Nat.zero_le _, HRE.out, Below.refl _ _⟩
  case round =>
    obtain ⟨j, id, v8, v9, v10, rfl, rfl, rfl, rfl, rfl, hj, HL, HB⟩ := hrel
    by_cases hk : j < q.length
    · obtain ⟨x, hx⟩ : ∃ x, q[j]? = some x := ⟨_, List.getElem?_eq_getElem hk⟩
      obtain ⟨b, off, rfl, hbl, hcell⟩ := HR.out (by omega)
      have HCX : Hid (∀ W, Below w.heap.size w W → W.cell? ⟨b, off + j, none⟩ = some (.string (strOf x))) := fun W hW => (hW.cell (p := ⟨b, off + j, none⟩) hbl).trans (hcell j x hx)
      have hlt : (j : Int) < (q.length : Int) := by omega
      have hdr : q.drop j = x :: q.drop (j + 1) := by
        rw [List.drop_eq_getElem_cons hk]
        rw [List.getElem?_eq_getElem hk] at hx
        injection hx with hx
        rw [hx]
      have hL := HL.out
      rw [hdr, Tr.lookF_cons] at hL
      obtain ⟨hin1, hin2⟩ := HIN.out wr HB.out
      have HND := Lib.hid (node_any hin1 hin2 id HTL.out)
      have hkd : Tr.kindOf t id = (Tr.ndOf t id).kind := rfl
      rw [hkd] at hL
      have e0 : Tr.node t id = (Tr.ndOf t id, (Tr.find t id).isSome) := rfl
      rw [e0] at HND
      obtain ⟨fo, hfo⟩ : ∃ fo, fo = (Tr.find t id).isSome := ⟨_, rfl⟩
      rw [← hfo] at HND
      obtain ⟨⟨a1, a2, a3, a4, a5, a6⟩, hnd⟩ : ∃ nd, nd = Tr.ndOf t id := ⟨_, rfl⟩
      rw [← hnd] at HND hL
      unfold Nd.val at HND
      simp only at HND hL
      have HL2 := Lib.hid hL
      clear hx hcell hbl hdr hL hin1 hin2 hkd e0 hfo hnd
      go_wp2_with fail
      refine HND.out.mono ?_
      rintro e w1 ⟨rfl, hb1⟩
      have HB1 : Hid (Below w.heap.size w w1) := HB.out.trans (hb1.mono HB.out.size)
      have HB2 : Hid (Below w.heap.size w (w1.alloc (.cells #[.int .i64 a1, .int .i64 a2, .int .i64 a3, .int .i64 a4, .int .u64 (a5 : Nat), .bool a6] 38))) := HB1.out.alloc HB1.out.size _
      clear hb1 HND
      by_cases h2 : a2 = 2
      case neg =>
        have hk2 : (a2 != 2) = true := by rw [bne_iff_ne]; exact h2
        have HN : Hid (R = (0, 23)) := by
          have := HL2.out
          rw [if_pos h2] at this
          exact this
        clear h2
        go_wp2_with fail
        go_ret2
        rw [HN.out]
        exact ⟨rfl, HB2.out⟩
      subst h2
      have HL3 := Lib.hid HL2.out
      simp only [ne_eq, not_true_eq_false, if_false] at HL3
      have HEN := Lib.hid (entry_any (HIN.out _ HB2.out).1 id x (by have := HFL.out; omega))
      have cx := HCX.out _ HB2.out
      have ce2 := HCE.out _ HB2.out
      clear HL2
      rcases flat_idx HG.out id x with ⟨h3, h4⟩ | ⟨k, j2, h3, h4, h5, h6⟩
      · rw [h4] at HEN
        have HN : Hid (R = (0, 20)) := by
          have := HL3.out
          rw [h3] at this
          exact this
        clear h3 h4
        go_wp2_with fail
        refine HEN.out.mono ?_
        rintro e w3 ⟨rfl, rfl⟩
        go_wp2_with fail
        go_ret2
        rw [HN.out]
        exact ⟨rfl, HB2.out⟩
      · rw [h4] at HEN
        have HN : Hid (R = Tr.lookF t k (q.drop (j + 1))) := by
          have := HL3.out
          rw [h3] at this
          exact this
        obtain ⟨g, rfl, _, _, hgl, hcl⟩ := HAE.out (by omega)
        have d2 := (HB2.out.cell (p := ⟨g, j2 * 3 + 2, none⟩) hgl).trans (hcl _ _ (fl_get h5 2 (by omega)))
        simp only at d2
        have hj2 : (j2 : Int) < ((Tr.flat t).length : Int) := by omega
        clear h3 h4 h5 hcl hgl h6
        go_wp2_with fail
        refine HEN.out.mono ?_
        rintro e w3 ⟨rfl, rfl⟩
        go_wp2_with fail
        go_roundw
        case rel => exact ⟨j + 1, k, _, _, _, rfl, by go_num, rfl, rfl, rfl, by omega, HN.out, HB2.out⟩
        case measure => simp; omega
    · obtain rfl : j = q.length := by omega
      have HN : Hid (R = (id, 0)) := by
        have := HL.out
        rw [List.drop_length] at this
        exact this
      go_wp2_with fail
      go_ret2
      rw [HN.out]
      exact ⟨rfl, HB.out⟩
end Rf
end Go.Proofs.Ytombmeppdhhjhaa

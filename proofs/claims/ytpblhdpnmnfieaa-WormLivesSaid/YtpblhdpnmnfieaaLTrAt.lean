/-
  OWN WORK. The program's tree: the node at a path, its place, the least ID that is free.
-/
import Derived.Test.YtpblhdpnmnfieaaLTrWay
namespace Go.Proofs.Ytpblhdpnmnfieaa
open Go.RowKit Rc
open Tr (Nm En T)
namespace Tm
variable {p : Nat} {av : Value} {gs : List Nat} {S : Nat → Prop} {t : T} {w : World}
/-- The pointer of a node that is there. -/
theorem TIn.ptr (h : TIn p av gs S t w) (hG : Tr.Good t) {i : Int} {e : En} (hf : Tr.find t i = some e) : ∃ g S1, ptrOf gs t i = .pointer (some ⟨g, 0, none⟩) ∧ EAt g e S1 w ∧ (∀ b, S1 b → S b) ∧ e.names.length ≤ 4194240 := by
  obtain ⟨A, B, rfl, he, hA, hB⟩ := hG.ris.split hf
  obtain ⟨ga, g, gb, S1, rfl, hl, h1, h2, _⟩ := h.each.mid
  exact ⟨g, S1, ptrOf_mid hl (fun a ha => by have := hA a ha; omega) he, h1, h2, hG.names_le (find_some hf).1⟩
where find_some {t : T} {i : Int} {e : En} (h : Tr.find t i = some e) := Tr.find_some h
def ptrAt (gs : List Nat) (t : T) (p : List Bs) : Value := if (Tr.lookF t 0 p).2 = 0 then ptrOf gs t (Tr.lookF t 0 p).1 else .pointer none

set_option maxHeartbeats 2000000 in
set_option maxRecDepth 100000 in
theorem at_any (h : TIn p av gs S t w) (hG : Tr.Good t) (A : Option Addr) (q : List Bs) (cap : Nat) (hr : RdS w A q) (hl : q.length ≤ 1000000) :
    Calls Try.prog 37 #[.pointer (some ⟨p, 0, none⟩), .slice A q.length cap] w fun e w' => e = .returned (.tuple #[ptrAt gs t q, .int .i64 ((Tr.lookF t 0 q).2 : Nat)]) ∧ Below w.heap.size w w' := by
  have H := Lib.hid h
  have HG := Lib.hid hG
  have HR := Lib.hid hr
  have HF0 := Lib.hid (find_any h 0 (by have := hG.few; omega))
  obtain ⟨r, hr0, _, _⟩ := hG.zero
  obtain ⟨g0, S0, hp0, _, _, _⟩ := h.ptr hG hr0
  rw [hp0] at HF0
  have HP0 := Lib.hid hp0
  have HR0 := Lib.hid hr0
  clear h hG hr hr0 hp0
  go_enter Try.func37, Try.ntmps37
  go_wp2_with fail
  refine HF0.out.mono ?_
  rintro e w1 ⟨rfl, rfl⟩
  go_wp2_with fail
  go_loopw [6, 8, 9, 10, 15] (fun t6 t8 t9 t10 t15 wr => ∃ (k : Nat) (i : Int) (en : En) (g : Nat) (v8 v9 v10 : Value), t6 = .pointer (some ⟨g, 0, none⟩) ∧ t8 = v8 ∧ t9 = v9 ∧ t10 = v10 ∧ t15 = .int .i64 k ∧ k ≤ q.length ∧ Hid (Tr.find t i = some en) ∧ Hid (ptrOf gs t i = .pointer (some ⟨g, 0, none⟩)) ∧ Hid (Tr.lookF t 0 q = Tr.lookF t i (q.drop k)) ∧ Hid (Below w1.heap.size w1 wr)) (fun _ _ _ _ t15 _ => q.length - (match t15 with | .int _ k => k.toNat | _ => 0))
  case atStart => exact ⟨0, 0, r, g0, _, _, _, rfl, rfl, rfl, rfl, rfl, Nat.zero_le _, HR0.out, HP0.out, rfl, Below.refl _ _⟩
  case round =>
    obtain ⟨k, i, en, g, v8, v9, v10, rfl, rfl, rfl, rfl, rfl, hk1, HFI, HPI, HLK, HB⟩ := hrel
    by_cases hk : k < q.length
    · obtain ⟨x, hx⟩ : ∃ x, q[k]? = some x := ⟨_, List.getElem?_eq_getElem hk⟩
      obtain ⟨b, off, rfl, c0⟩ := (HR.out.below HB.out).at_ hx
      have hlt : (k : Int) < (q.length : Int) := by omega
      have hin := H.out.below HB.out
      obtain ⟨g', S1, hpp, hE, _, hnl⟩ := hin.ptr HG.out HFI.out
      obtain rfl : g' = g := by rw [HPI.out] at hpp; injection hpp with hpp; injection hpp with hpp; injection hpp with hpp; exact hpp.symm
      have c1 := hE.cells.2.1
      have hdrop : q.drop k = x :: q.drop (k + 1) := by
        rw [List.drop_eq_getElem_cons hk, (List.getElem?_eq_some_iff.1 hx).2]
      have hlk := HLK.out
      rw [hdrop, Tr.lookF_cons, Tr.kindOf_of HFI.out, Tr.kids_of HFI.out] at hlk
      have HID := Lib.hid (id_any hE x (by omega))
      have HFA := Lib.hid (fun (W : World) (hW : Below wr.heap.size wr W) (j : Int) => find_any (hin.below hW) j (by have := HG.out.few; omega))
      have HLK2 := Lib.hid hlk
      clear hx hpp hE hin hdrop hlk hnl
      by_cases h2 : en.nd.kind = 2
      · have hk2 : (en.nd.kind == 2) = true := by simpa using h2
        have hlk2 := HLK2.out
        rw [if_neg (by rw [h2]; simp)] at hlk2
        obtain ⟨o, ho⟩ : ∃ o, o = Tr.get en.names x := ⟨_, rfl⟩
        rw [← ho] at HID hlk2
        have HO := Lib.hid ho
        clear ho h2
        go_wp2_with fail
        refine HID.out.mono ?_
        rintro e w2 ⟨rfl, hb⟩
        have HB2 := Lib.hid hb
        clear hb
        cases o with
        | none =>
          have HL : Hid (Tr.lookF t 0 q = (0, 20)) := hlk2
          clear hlk2
          unfold told
          simp only [Option.getD_none, Option.isSome_none]
          go_wp2_with fail
          go_ret2
          refine ⟨?_, HB.out.trans (HB2.out.mono HB.out.size)⟩
          unfold ptrAt
          rw [HL.out, if_neg (by simp)]; rfl
        | some j =>
          have hm : (x, j) ∈ Tr.kids t i := by rw [Tr.kids_of HFI.out]; exact Tr.get_mem HO.out.symm
          obtain ⟨_, hs⟩ := HG.out.leads_to hm
          obtain ⟨en2, hen2⟩ := Option.isSome_iff_exists.1 hs
          obtain ⟨g2, _, hp2, _, _, _⟩ := H.out.ptr HG.out hen2
          have hf2 := HFA.out w2 HB2.out j
          rw [hp2] at hf2
          have HF2 := Lib.hid hf2
          have HE2 := Lib.hid hen2
          have HP2 := Lib.hid hp2
          have HL : Hid (Tr.lookF t 0 q = Tr.lookF t j (q.drop (k + 1))) := hlk2
          clear hlk2 hm hs hf2 hen2 hp2
          unfold told
          simp only [Option.getD_some, Option.isSome_some]
          go_wp2_with fail
          refine HF2.out.mono ?_
          rintro e w3 ⟨rfl, rfl⟩
          go_wp2_with fail
          go_roundw
          case rel => exact ⟨k + 1, j, en2, g2, _, _, _, rfl, rfl, rfl, rfl, by go_num, by omega, HE2.out, HP2.out, HL.out, HB.out.trans (HB2.out.mono HB.out.size)⟩
          case measure => simp; omega
      · have hk2 : (en.nd.kind == 2) = false := by simpa using h2
        have HL : Hid (Tr.lookF t 0 q = (0, 23)) := by
          have := HLK2.out
          rw [if_pos h2] at this
          exact this
        clear h2
        go_wp2_with fail
        go_ret2
        refine ⟨?_, HB.out⟩
        unfold ptrAt
        rw [HL.out, if_neg (by simp)]; rfl
    · obtain rfl : k = q.length := by omega
      have HL : Hid (Tr.lookF t 0 q = (i, 0)) := by
        have := HLK.out
        rw [List.drop_eq_nil_of_le (Nat.le_refl _)] at this
        exact this
      go_wp2_with fail
      go_ret2
      refine ⟨?_, HB.out⟩
      unfold ptrAt
      rw [HL.out, if_pos rfl, HPI.out]; rfl
def placeV (gs : List Nat) (t : T) (q : List Bs) : Value := .tuple #[if (Tr.place t q).2.2 = 0 then ptrOf gs t (Tr.place t q).1 else .pointer none, .string (strOf (Tr.place t q).2.1), .int .i64 ((Tr.place t q).2.2 : Nat)]

set_option maxHeartbeats 2000000 in
set_option maxRecDepth 100000 in
theorem place_any (h : TIn p av gs S t w) (hG : Tr.Good t) (A : Option Addr) (q : List Bs) (cap : Nat) (hr : RdS w A q) (hc : q.length ≤ cap) (hl : q.length ≤ 1000000) :
    Calls Try.prog 24 #[.pointer (some ⟨p, 0, none⟩), .slice A q.length cap] w fun e w' => e = .returned (placeV gs t q) ∧ Below w.heap.size w w' := by
  rcases List.eq_nil_or_concat q with rfl | ⟨r, x, hq⟩
  · have HV : Hid (placeV gs t [] = .tuple #[.pointer none, .string (strOf []), .int .i64 1]) := by
      show _ = _
      unfold placeV Tr.place
      rfl
    have HP := Lib.hid (parent_none A cap w)
    show Calls _ _ #[_, .slice A 0 cap] w _
    clear h hG hr
    go_enter Try.func24, Try.ntmps24
    go_wp2_with fail
    refine HP.out.mono ?_
    rintro e w1 ⟨rfl, rfl⟩
    go_wp2_with fail
    go_ret3
    exact ⟨by rw [HV.out]; rfl, Below.refl _ _⟩
  · rw [List.concat_eq_append] at hq
    have hql : q.length = r.length + 1 := by rw [hq]; simp
    have hpar := parent_any q r x A cap w hr hc (by omega) hq
    have hqne : q ≠ [] := by rw [hq]; simp
    have hdl : q.dropLast = r := by rw [hq]; simp
    have hgl : q.getLastD [] = x := by rw [hq]; simp
    obtain ⟨i, n, hin⟩ : ∃ i n, Tr.lookF t 0 r = (i, n) := ⟨_, _, rfl⟩
    have hplace : Tr.place t q = if n ≠ 0 then (0, [], n) else if Tr.kindOf t i ≠ 2 then (0, [], 23) else (i, x, 0) := by
      unfold Tr.place
      rw [if_neg hqne, hdl, hgl, hin]
    have hat : ∀ (W : World) (X : Option Addr) (c : Nat), Below w.heap.size w W → RdS W X r → Calls Try.prog 37 #[.pointer (some ⟨p, 0, none⟩), .slice X r.length c] W fun e w' => e = .returned (.tuple #[ptrAt gs t r, .int .i64 ((Tr.lookF t 0 r).2 : Nat)]) ∧ Below W.heap.size W w' := fun W X c hW hrW => at_any (h.below hW) hG X r c hrW (by omega)
    rw [hin] at hat
    have HPAR := Lib.hid hpar
    have HAT := Lib.hid hat
    have HPL := Lib.hid hplace
    have HIN := Lib.hid hin
    have H := Lib.hid h
    have HG := Lib.hid hG
    clear hpar hat hplace hin h hG hqne hdl hgl hq hr hql
    go_enter Try.func24, Try.ntmps24
    go_wp2_with fail
    refine HPAR.out.mono ?_
    rintro e w1 ⟨X, c, rfl, hXc, hrX, hb1⟩
    have HB1 := Lib.hid hb1
    have HA := Lib.hid (HAT.out w1 X c hb1 hrX)
    clear hb1 hrX
    go_wp2_with fail
    refine HA.out.mono ?_
    rintro e w2 ⟨rfl, hb2⟩
    have HB2 : Hid (Below w.heap.size w w2) := HB1.out.trans (hb2.mono HB1.out.size)
    clear hb2
    by_cases hn : n = 0
    · subst hn
      have hs : (Tr.find t i).isSome = true := by
        have h1 := HG.out.look_is (p := r) (by rw [HIN.out])
        rw [HIN.out] at h1
        exact h1
      obtain ⟨en, hen⟩ := Option.isSome_iff_exists.1 hs
      obtain ⟨g, S1, hpp, hE, _, _⟩ := (H.out.below HB2.out).ptr HG.out hen
      have hptr : ptrAt gs t r = .pointer (some ⟨g, 0, none⟩) := by
        unfold ptrAt
        rw [HIN.out, if_pos rfl]; exact hpp
      have c1 := hE.cells.2.1
      have HK : Hid (Tr.kindOf t i = en.nd.kind) := Tr.kindOf_of hen
      have HPP := Lib.hid hpp
      rw [hptr]
      clear hs hen hpp hE hptr
      by_cases h2 : en.nd.kind = 2
      · have hk2 : (en.nd.kind == 2) = true := by simpa using h2
        have HV : Hid (placeV gs t q = .tuple #[.pointer (some ⟨g, 0, none⟩), .string (strOf x), .int .i64 0]) := by
          have e : Tr.place t q = (i, x, 0) := by rw [HPL.out]; simp [show Tr.kindOf t i = _ from HK.out, h2]
          show _ = _
          unfold placeV
          rw [e]
          simp only [if_true, HPP.out]
          rfl
        clear h2
        go_wp2_with fail
        go_ret3
        exact ⟨by rw [HV.out]; rfl, HB2.out⟩
      · have hk2 : (en.nd.kind == 2) = false := by simpa using h2
        have HV : Hid (placeV gs t q = .tuple #[.pointer none, .string (strOf []), .int .i64 23]) := by
          have e : Tr.place t q = (0, [], 23) := by rw [HPL.out]; simp [show Tr.kindOf t i = _ from HK.out, h2]
          show _ = _
          unfold placeV
          rw [e]
          rfl
        clear h2
        go_wp2_with fail
        go_ret3
        exact ⟨by rw [HV.out]; rfl, HB2.out⟩
    · have hptr : ptrAt gs t r = .pointer none := by
        unfold ptrAt
        rw [HIN.out, if_neg hn]
      have HV : Hid (placeV gs t q = .tuple #[.pointer none, .string (strOf []), .int .i64 (n : Nat)]) := by
        show _ = _
        unfold placeV
        rw [HPL.out, if_pos hn]
        simp only [if_neg hn]
      have hni : ((n : Int) == 0) = false := by rw [beq_eq_false_iff_ne]; omega
      rw [hptr]
      clear hn hptr
      go_wp2_with fail
      go_ret3
      exact ⟨by rw [HV.out]; rfl, HB2.out⟩

theorem free_at : ∀ (t : T) (i : Int) (k : Nat), k ≤ t.length → (∀ j e, j < k → t[j]? = some e → e.nd.id = i + (j : Int)) → (∀ e, t[k]? = some e → e.nd.id ≠ i + (k : Int)) → Tr.freeFrom i t = i + (k : Int)
  | [], i, k, hk, _, _ => by
    obtain rfl : k = 0 := by simpa using hk
    simp [Tr.freeFrom]
  | e :: t, i, 0, _, _, h2 => by
    have := h2 e rfl
    unfold Tr.freeFrom
    rw [if_neg (by simpa using this)]; simp
  | e :: t, i, k + 1, hk, h1, h2 => by
    have h0 := h1 0 e (by omega) rfl
    unfold Tr.freeFrom
    rw [if_pos (by simpa using h0), free_at t (i + 1) k (by simpa using hk) (fun j m hj hm => by have := h1 (j + 1) m (by omega) (by simpa using hm); omega) (fun m hm => by have := h2 m (by simpa using hm); omega)]
    omega

set_option maxHeartbeats 2000000 in
set_option maxRecDepth 100000 in
theorem free_any (h : TIn p av gs S t w) (hlt : t.length ≤ 1000000) :
    Calls Try.prog 26 #[.pointer (some ⟨p, 0, none⟩)] w fun e w' => e = .returned (.int .i64 (Tr.free t)) ∧ w' = w := by
  have H := Lib.hid h
  have c0 : w.cell? ⟨p, 0, none⟩ = some av := h.box.cell 0
  have hl := h.each.len
  obtain ⟨A, c, rfl, hc, hA⟩ := own_form h.row
  have HA := Lib.hid hA
  have HL := Lib.hid hl
  have HLT := Lib.hid hlt
  have hg9 : gs.length ≤ 1000000 := by omega
  clear h hA hl hlt
  go_enter Try.func26, Try.ntmps26
  go_wp2_with fail
  go_loopw [3] (fun t3 wr => ∃ k : Nat, t3 = .int .i64 k ∧ k ≤ gs.length ∧ Hid (∀ j e, j < k → t[j]? = some e → e.nd.id = (j : Int)) ∧ wr = w) (fun t3 _ => gs.length - (match t3 with | .int _ k => k.toNat | _ => 0))
  case atStart => exact ⟨0, rfl, Nat.zero_le _, fun j e hj => absurd hj (Nat.not_lt_zero _), rfl⟩
  case round =>
    obtain ⟨k, rfl, hk1, HN, rfl⟩ := hrel
    by_cases hk : k < gs.length
    · obtain ⟨e, he⟩ : ∃ e, t[k]? = some e := ⟨_, List.getElem?_eq_getElem (by rw [← HL.out]; exact hk)⟩
      obtain ⟨g, S1, hg, hE, _⟩ := H.out.each.get he
      obtain ⟨q, rfl, _, _, _, hcell⟩ := HA.out (by omega)
      have c1 : wr.cell? ⟨q, k, none⟩ = some (.pointer (some ⟨g, 0, none⟩)) := hcell k _ (by simp [ptrCells, hg])
      have c2 := hE.cells.1
      have hlt2 : (k : Int) < (gs.length : Int) := by omega
      have HE := Lib.hid he
      clear he hg hE hcell
      by_cases hi : e.nd.id = (k : Int)
      · have HN1 : Hid (∀ j e, j < k + 1 → t[j]? = some e → e.nd.id = (j : Int)) := fun j m hj hm => by
          rcases Nat.lt_or_ge j k with h1 | h1
          · exact HN.out j m h1 hm
          · obtain rfl : j = k := by omega
            rw [HE.out] at hm
            injection hm with hm
            rw [← hm]; exact hi
        have hb : (e.nd.id == (k : Int)) = true := by simpa using hi
        clear hi
        go_wp2_with fail
        go_roundw
        case rel => exact ⟨k + 1, by go_num, by omega, HN1.out, by first | rfl | trivial⟩
        case measure => simp; omega
      · have HF : Hid (Tr.free t = (k : Int)) := by
          have := free_at t 0 k (by have := HL.out; omega) (fun j m hj hm => by rw [HN.out j m hj hm]; simp) (fun m hm => by rw [HE.out] at hm; injection hm with hm; rw [← hm]; simpa using hi)
          show _ = _
          unfold Tr.free
          rw [this]; simp
        have hb : (e.nd.id == (k : Int)) = false := by simpa using hi
        clear hi
        go_wp2_with fail
        go_ret
        exact ⟨by rw [HF.out]; rfl, rfl⟩
    · obtain rfl : k = gs.length := by omega
      have HF : Hid (Tr.free t = (gs.length : Int)) := by
        have := free_at t 0 gs.length (by have := HL.out; omega) (fun j m hj hm => by rw [HN.out j m hj hm]; simp) (fun m hm => by have := (List.getElem?_eq_some_iff.1 hm).1; have := HL.out; omega)
        show _ = _
        unfold Tr.free
        rw [this]; simp
      go_wp2_with fail
      go_ret
      exact ⟨by rw [HF.out]; rfl, rfl⟩

set_option maxHeartbeats 1000000 in
set_option maxRecDepth 100000 in
theorem count_any (h : TIn p av gs S t w) :
    Calls Try.prog 20 #[.pointer (some ⟨p, 0, none⟩)] w fun e w' => e = .returned (.int .i64 (t.length : Nat)) ∧ w' = w := by
  have c0 : w.cell? ⟨p, 0, none⟩ = some av := h.box.cell 0
  have HL : Hid (gs.length = t.length) := h.each.len
  obtain ⟨A, c, rfl, hc, _⟩ := own_form h.row
  clear h
  go_enter Try.func20, Try.ntmps20
  go_wp2_with fail
  go_ret
  exact ⟨by rw [← HL.out]; rfl, rfl⟩
end Tm
end Go.Proofs.Ytpblhdpnmnfieaa

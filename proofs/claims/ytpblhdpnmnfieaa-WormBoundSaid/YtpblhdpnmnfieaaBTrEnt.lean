/-
  OWN WORK. The program's nodes: one is made, found by its ID; a name of a directory is found.
-/
import Derived.Test.YtpblhdpnmnfieaaBTrMem
namespace Go.Proofs.Ytpblhdpnmnfieaa
open Go.RowKit Rc
open Tr (Nm En T)
namespace Tm

set_option maxHeartbeats 1000000 in
set_option maxRecDepth 100000 in
theorem fresh_any (w : World) (id kind : Int) :
    Calls Try.prog 22 #[.int .i64 id, .int .i64 kind] w fun e w' => ∃ g, e = .returned (.pointer (some ⟨g, 0, none⟩)) ∧ EIn g (.slice none 0 0) (.slice none 0 0) (Tr.fresh id kind) w' ∧ g = w.heap.size ∧ Below w.heap.size w w' := by
  obtain ⟨b, hb⟩ : ∃ b, b = (kind == 2) := ⟨_, rfl⟩
  have HB := Lib.hid hb
  have h2 : (kind == 2) = b := hb.symm
  clear hb
  go_enter Try.func22, Try.ntmps22
  go_wp2_with fail
  go_ret
  refine ⟨_, rfl, ⟨?_, ⟨rfl, .inl ⟨rfl, rfl⟩⟩, NOwn.nil _ _⟩, rfl, below_new w _⟩
  have h := Blk.new w 63 (enCells (Tr.fresh id kind) (.slice none 0 0) (.slice none 0 0))
  unfold enCells Tr.fresh at h ⊢
  rw [← HB.out] at h ⊢
  exact h

/-- The pointer that is found. -/
theorem ptrOf_drop {gs : List Nat} {t : T} {i : Int} {j : Nat} (hl : gs.length = t.length) (hn : ∀ e ∈ t.take j, e.nd.id ≠ i) : ptrOf gs t i = ptrOf (gs.drop j) (t.drop j) i := by
  induction j generalizing gs t with
  | zero => rfl
  | succ j ih =>
    cases gs with
    | nil => cases t with
      | nil => rfl
      | cons e t => simp at hl
    | cons g gs => cases t with
      | nil => simp at hl
      | cons e t =>
        rw [List.take_succ_cons] at hn
        rw [List.drop_succ_cons, List.drop_succ_cons, ← ih (by simpa using hl) fun m hm => hn m (.tail _ hm)]
        show (if _ then _ else _) = _
        rw [if_neg (hn e (.head _))]
theorem EsAt.get : ∀ {gs : List Nat} {t : T} {S : Nat → Prop} {w : World}, EsAt gs t S w → ∀ {j : Nat} {e : En}, t[j]? = some e → ∃ g S1, gs[j]? = some g ∧ EAt g e S1 w ∧ ∀ b, S1 b → S b
  | [], [], _, _, _, _, _, h => by simp at h
  | g :: gs, e :: t, _, _, ⟨S1, S2, h1, h2, h3, h4⟩, 0, e', h => by
    obtain rfl : e = e' := by simpa using h
    exact ⟨g, S1, rfl, h1, fun b hb => (h4 b).2 (.inl hb)⟩
  | g :: gs, e :: t, _, _, ⟨S1, S2, h1, h2, h3, h4⟩, j + 1, e', h => by
    obtain ⟨g', S', k1, k2, k3⟩ := EsAt.get h2 (j := j) (by simpa using h)
    exact ⟨g', S', by simpa using k1, k2, fun b hb => (h4 b).2 (.inr (k3 b hb))⟩
  | [], _ :: _, _, _, h, _, _, _ => h.elim
  | _ :: _, [], _, _, h, _, _, _ => h.elim

set_option maxHeartbeats 1000000 in
set_option maxRecDepth 100000 in
theorem find_any {p : Nat} {av : Value} {gs : List Nat} {S : Nat → Prop} {t : T} {w : World} (h : TIn p av gs S t w) (i : Int) (hlt : t.length ≤ 1000000000) :
    Calls Try.prog 31 #[.pointer (some ⟨p, 0, none⟩), .int .i64 i] w fun e w' => e = .returned (ptrOf gs t i) ∧ w' = w := by
  have H := Lib.hid h
  have c0 : w.cell? ⟨p, 0, none⟩ = some av := h.box.cell 0
  have hl := h.each.len
  obtain ⟨A, c, rfl, hc, hA⟩ := own_form h.row
  have HA := Lib.hid hA
  have HL := Lib.hid hl
  have HLT := Lib.hid hlt
  have hg9 : gs.length ≤ 1000000000 := by omega
  clear h hA hl hlt
  go_enter Try.func31, Try.ntmps31
  go_wp2_with fail
  go_loopw [6, 12] (fun t6 t12 wr => ∃ (j : Nat) (v6 : Value), t6 = v6 ∧ t12 = .int .i64 j ∧ j ≤ gs.length ∧ Hid (∀ e ∈ t.take j, e.nd.id ≠ i) ∧ wr = w) (fun _ t12 _ => gs.length - (match t12 with | .int _ k => k.toNat | _ => 0))
  case atStart => exact ⟨0, _, rfl, rfl, Nat.zero_le _, fun e he => by simp at he, rfl⟩
  case round =>
    obtain ⟨j, v6, rfl, rfl, hj, HN, rfl⟩ := hrel
    by_cases hk : j < gs.length
    · obtain ⟨e, he⟩ : ∃ e, t[j]? = some e := ⟨_, List.getElem?_eq_getElem (by rw [← HL.out]; exact hk)⟩
      obtain ⟨g, S1, hg, hE, _⟩ := H.out.each.get he
      obtain ⟨q, rfl, _, _, _, hcell⟩ := HA.out (by omega)
      have c1 : wr.cell? ⟨q, j, none⟩ = some (.pointer (some ⟨g, 0, none⟩)) := hcell j _ (by simp [ptrCells, hg])
      have c2 := hE.cells.1
      have hlt2 : (j : Int) < (gs.length : Int) := by omega
      have HE := Lib.hid he
      have HG := Lib.hid hg
      clear he hg hE hcell
      by_cases hi : e.nd.id = i
      · have HP : Hid (ptrOf gs t i = .pointer (some ⟨g, 0, none⟩)) := by
          show _ = _
          rw [ptrOf_drop HL.out HN.out, List.drop_eq_getElem_cons hk, List.drop_eq_getElem_cons (show j < t.length by have := HL.out; omega), (List.getElem?_eq_some_iff.1 HG.out).2, (List.getElem?_eq_some_iff.1 HE.out).2]
          show (if _ then _ else _) = _
          rw [if_pos hi]
        have hb : (e.nd.id == i) = true := by simpa using hi
        clear hi
        go_wp2_with fail
        go_ret
        exact ⟨by rw [HP.out]; rfl, rfl⟩
      · have HN1 : Hid (∀ e ∈ t.take (j + 1), e.nd.id ≠ i) := fun m hm => by
          rw [List.take_succ_eq_append_getElem (show j < t.length by have := HL.out; omega), List.mem_append] at hm
          rcases hm with hm | hm
          · exact HN.out m hm
          · simp only [List.mem_singleton] at hm
            rw [hm, (List.getElem?_eq_some_iff.1 HE.out).2]; exact hi
        have hb : (e.nd.id == i) = false := by simpa using hi
        clear hi
        go_wp2_with fail
        go_roundw
        case rel => exact ⟨j + 1, _, rfl, by go_num, by omega, HN1.out, by first | rfl | trivial⟩
        case measure => simp; omega
    · obtain rfl : j = gs.length := by omega
      have HP : Hid (ptrOf gs t i = .pointer none) := ptrOf_none fun m hm => HN.out m (by rw [show gs.length = t.length from HL.out, List.take_length]; exact hm)
      go_wp2_with fail
      go_ret
      exact ⟨by rw [HP.out]; rfl, rfl⟩

theorem get_split {l : List Nm} {x : Bs} {j : Nat} {n : Nm} (hn : l[j]? = some n) (h : ∀ m ∈ l.take j, m.1 ≠ x) (he : n.1 = x) : Tr.get l x = some n.2 := by
  induction j generalizing l with
  | zero =>
    cases l with
    | nil => simp at hn
    | cons m l =>
      obtain rfl : m = n := by simpa using hn
      rw [Tr.get_cons, if_pos he]
  | succ j ih =>
    cases l with
    | nil => simp at hn
    | cons m l =>
      rw [List.take_succ_cons] at h
      rw [Tr.get_cons, if_neg (h m (.head _))]
      exact ih (by simpa using hn) fun y hy => h y (.tail _ hy)
/-- What a directory tells of a name. -/
def told (o : Option Int) : Value := .tuple #[.int .i64 (o.getD 0), .bool o.isSome]

set_option maxHeartbeats 1000000 in
set_option maxRecDepth 100000 in
theorem id_any {g : Nat} {e : En} {S : Nat → Prop} {w : World} (h : EAt g e S w) (x : Bs) (hlt : e.names.length ≤ 1000000000) :
    Calls Try.prog 38 #[.pointer (some ⟨g, 0, none⟩), .string (strOf x)] w fun r w' => r = .returned (told (Tr.get e.names x)) ∧ Below w.heap.size w w' := by
  obtain ⟨dv, nv, h, rfl⟩ := h
  have c0 : w.cell? ⟨g, 7, none⟩ = some nv := h.box.cell 7
  obtain ⟨A, c, rfl, hc, hA⟩ := h.names.form
  have HA := Lib.hid hA
  clear h hA
  obtain ⟨l, hl⟩ : ∃ l, l = e.names := ⟨_, rfl⟩
  rw [← hl] at HA c0 hlt hc ⊢
  clear hl
  go_enter Try.func38, Try.ntmps38
  go_wp2_with fail
  go_loopw [7, 13] (fun t7 t13 wr => ∃ (j : Nat) (v7 : Value), t7 = v7 ∧ t13 = .int .i64 j ∧ j ≤ l.length ∧ Hid (∀ m ∈ l.take j, m.1 ≠ x) ∧ Hid (Below w.heap.size w wr)) (fun _ t13 _ => l.length - (match t13 with | .int _ k => k.toNat | _ => 0))
  case atStart => exact ⟨0, _, rfl, rfl, Nat.zero_le _, fun e he => by simp at he, Below.refl _ _⟩
  case round =>
    obtain ⟨j, v7, rfl, rfl, hj, HN, HB⟩ := hrel
    by_cases hk : j < l.length
    · obtain ⟨n, hn⟩ : ∃ n, l[j]? = some n := ⟨_, List.getElem?_eq_getElem hk⟩
      obtain ⟨q, rfl, _, _, hql, hcell⟩ := HA.out (by omega)
      have c1 : wr.cell? ⟨q, j * 2, none⟩ = some (.string (strOf n.1)) := (HB.out.cell (p := ⟨q, j * 2, none⟩) hql).trans (hcell j n hn).1
      have c2 : wr.cell? ⟨q, j * 2 + 1, none⟩ = some (.int .i64 n.2) := (HB.out.cell (p := ⟨q, j * 2 + 1, none⟩) hql).trans (hcell j n hn).2
      have hlt2 : (j : Int) < (l.length : Int) := by omega
      have HN2 := Lib.hid hn
      have HB2 : Hid (Below w.heap.size w (wr.alloc (.cells #[.string (strOf n.1), .int .i64 n.2] 80))) := HB.out.alloc HB.out.size _
      clear hn hcell hql
      by_cases hi : n.1 = x
      · have HP : Hid (Tr.get l x = some n.2) := get_split HN2.out HN.out hi
        have hb : ((strOf n.1).toList == (strOf x).toList) = true := by rw [strOf_beq]; exact decide_eq_true hi
        clear hi
        go_wp2_with fail
        go_ret2
        exact ⟨by rw [HP.out]; rfl, HB2.out⟩
      · have HN1 : Hid (∀ m ∈ l.take (j + 1), m.1 ≠ x) := fun m hm => by
          rw [List.take_succ_eq_append_getElem hk, List.mem_append] at hm
          rcases hm with hm | hm
          · exact HN.out m hm
          · simp only [List.mem_singleton] at hm
            rw [hm, (List.getElem?_eq_some_iff.1 HN2.out).2]; exact hi
        have hb : ((strOf n.1).toList == (strOf x).toList) = false := by rw [strOf_beq]; exact decide_eq_false hi
        clear hi
        go_wp2_with fail
        go_roundw
        case rel => exact ⟨j + 1, _, rfl, by go_num, by omega, HN1.out, HB2.out⟩
        case measure => simp; omega
    · obtain rfl : j = l.length := by omega
      have HP : Hid (Tr.get l x = none) := Tr.get_none.2 fun m hm => HN.out m (by rw [List.take_length]; exact hm)
      go_wp2_with fail
      go_ret2
      exact ⟨by rw [HP.out]; rfl, HB.out⟩

set_option maxHeartbeats 1000000 in
set_option maxRecDepth 100000 in
theorem has_any {g : Nat} {e : En} {S : Nat → Prop} {w : World} (h : EAt g e S w) (x : Bs) (hlt : e.names.length ≤ 1000000000) :
    Calls Try.prog 25 #[.pointer (some ⟨g, 0, none⟩), .string (strOf x)] w fun r w' => r = .returned (.bool (Tr.get e.names x).isSome) ∧ Below w.heap.size w w' := by
  have HI := Lib.hid (id_any h x hlt)
  obtain ⟨o, ho⟩ : ∃ o, o = Tr.get e.names x := ⟨_, rfl⟩
  rw [← ho] at HI ⊢
  clear ho h hlt
  go_enter Try.func25, Try.ntmps25
  go_wp2_with fail
  refine HI.out.mono ?_
  rintro r w1 ⟨rfl, hb⟩
  have HB := Lib.hid hb
  clear hb
  unfold told
  go_wp2_with fail
  go_ret
  exact ⟨rfl, HB.out⟩
end Tm
end Go.Proofs.Ytpblhdpnmnfieaa

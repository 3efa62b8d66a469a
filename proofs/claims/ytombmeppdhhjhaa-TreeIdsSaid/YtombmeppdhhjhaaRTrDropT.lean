/-
  OWN WORK. The program's tree: Drop.
-/
import Derived.Test.YtombmeppdhhjhaaRTrLink
import Derived.Test.YtombmeppdhhjhaaRTrKeep
namespace Go.Proofs.Ytombmeppdhhjhaa
open Go.RowKit Rc
open Tr (Nm En T)
namespace Tm
variable {p : Nat} {av : Value} {gs : List Nat} {S : Nat → Prop} {t : T} {w w1 : World}
theorem Went.mid {A B : T} {e : En} (h : Went p av gs S w (A ++ e :: B) w1) : ∃ ga g gb S1, gs = ga ++ g :: gb ∧ ga.length = A.length ∧ EAt g e S1 w1 ∧
    ∀ w2 e' S1', EAt g e' S1' w2 → Mod w1 w2 S1 → (∀ b, S1' b → S1 b ∨ w1.heap.size ≤ b) → Went p av gs S w (A ++ e' :: B) w2 := by
  obtain ⟨S', h1, h2, h3⟩ := h
  obtain ⟨ga, g, gb, S1, k0, k1, k2, k3, k4⟩ := h1.turn
  refine ⟨ga, g, gb, S1, k0, k1, k2, fun w2 e' S1' m1 m2 m3 => ?_⟩
  obtain ⟨S'', n1, n2, n3⟩ := k4 w2 e' S1' m1 m2 m3
  exact ⟨S'', n1, mod_trans h2 h3 n2, fun b hb => (n3 b hb).elim (h3 b) fun h8 => .inr (Nat.le_trans h2.size h8)⟩
theorem Went.row (h : Went p av gs S w t w1) : w1.cell? ⟨p, 0, none⟩ = some av ∧ w1.ownsRow 0 53 1 av gs.length (ptrCells gs) := by
  obtain ⟨S', h1, h2, h3⟩ := h
  exact ⟨h1.box.cell 0, h1.row⟩

set_option maxHeartbeats 2000000 in
set_option maxRecDepth 100000 in
theorem dropT_any (h : TIn p av gs S t w) (hG : Tr.Good t) (i : Int) :
    Calls Try.prog 20 #[.pointer (some ⟨p, 0, none⟩), .int .i64 i] w (TTurn p (Tr.drop t i).2 (.int .i64 ((Tr.drop t i).1 : Nat)) (TrS p av S) w) := by
  have HF := Lib.hid (open_any h hG i)
  have HS : Hid (∀ x, TTurn p t x (TrS p av S) w (.returned x) w) := fun x => TTurn.stay h (Below.refl _ _)
  by_cases h0 : Tr.openN t i = 0
  case neg =>
    have HN : Hid (Tr.drop t i = (Tr.openN t i, t)) := by
      show _ = _
      unfold Tr.openN at h0 ⊢
      unfold Tr.drop
      split
      · rfl
      · rename_i h1
        rw [if_neg h1] at h0
        split
        · rfl
        · rename_i h2
          rw [if_neg h2] at h0
          exact absurd rfl h0
    rw [HN.out]
    obtain ⟨k, hk⟩ : ∃ k, k = Tr.openN t i := ⟨_, rfl⟩
    rw [← hk] at HF h0 ⊢
    unfold fileV at HF
    rw [if_neg h0] at HF
    have hki : ((k : Int) == 0) = false := by rw [beq_eq_false_iff_ne]; omega
    clear h hG hk h0
    go_enter Try.func20, Try.ntmps20
    go_wp2_with fail
    refine HF.out.mono ?_
    rintro e w1 ⟨rfl, rfl⟩
    go_wp2_with fail
    go_ret
    exact HS.out _
  have hfile : Tr.file t i = 0 ∧ (Tr.ndOf t i).shut = false := by
    unfold Tr.openN at h0
    split at h0
    · rename_i h1; exact absurd h0 h1
    · rename_i h1
      split at h0
      · cases h0
      · rename_i h2
        exact ⟨Decidable.byContradiction h1, by simpa using h2⟩
  obtain ⟨e, h2, h3⟩ : ∃ e, Tr.find t i = some e ∧ e.nd.kind ≠ 2 := by
    rcases Tr.file_cases t i with ⟨h1, _⟩ | ⟨h1, _⟩ | ⟨_, h1⟩
    · rw [h1] at hfile; cases hfile.1
    · rw [h1] at hfile; cases hfile.1
    · exact h1
  obtain ⟨g, S1, hp, hE, hSS, hto⟩ := h.turnAt hG.ris h2
  have HV : fileV gs t i 0 = .tuple #[.pointer (some ⟨g, 0, none⟩), .int .i64 0] := by
    unfold fileV
    rw [if_pos rfl, hp]; rfl
  rw [h0, HV] at HF
  obtain ⟨_, _, c2, c3, c4, c5⟩ := hE.cells
  have hsh := hfile.2
  rw [Tr.ndOf_of h2] at hsh
  rw [hsh] at c5
  have hdrop : Tr.drop t i = (0, Tr.remove (t.map fun e => { e with names := Tr.strike e.names i }) i) := by
    unfold Tr.drop
    rw [if_neg (by rw [hfile.1]; simp), if_neg (by rw [hfile.2]; simp)]
  rw [hdrop]
  have hfid : ∀ e : En, ({ e with names := Tr.strike e.names i } : En).nd.id = e.nd.id := fun _ => rfl
  have hfm : Tr.find (t.map fun e => { e with names := Tr.strike e.names i }) i = some { e with names := Tr.strike e.names i } := by rw [Tr.find_map hfid, h2]; rfl
  have HFM := Lib.hid hfm
  have HRM : Hid (Tr.Ris (t.map fun e => ({ e with names := Tr.strike e.names i } : En))) := Tr.map_ris hG.ris hfid
  have HLT : Hid (t.length ≤ 64) := hG.few
  have HNL : Hid (∀ e ∈ t, e.names.length ≤ 4194240) := fun e he => hG.names_le he
  have HW0 := Lib.hid (Went.start h (Below.refl _ _))
  have hlen := h.each.len
  have cT : w.cell? ⟨p, 0, none⟩ = some av := h.box.cell 0
  obtain ⟨A0, c0, hav, hc0, _⟩ := own_form h.row
  have HAV := Lib.hid hav
  rw [hav] at cT
  have HLEN := Lib.hid hlen
  clear h hG h0 hfile h2 h3 hp hE hSS hto HV hsh hdrop hfid hfm c2 c3 c4 c5 HS hav hlen
  have hg64 : gs.length ≤ 64 := by rw [show gs.length = t.length from HLEN.out]; exact HLT.out
  go_enter Try.func20, Try.ntmps20
  go_wp2_with fail
  refine HF.out.mono ?_
  rintro e w1 ⟨rfl, rfl⟩
  go_wp2_with fail
  go_loopw [8, 23] (fun t8 t23 wr => ∃ (j : Nat) (v8 : Value), t8 = v8 ∧ t23 = .int .i64 j ∧ j ≤ gs.length ∧ Hid (Went p av gs S w1 ((t.take j).map (fun e => { e with names := Tr.strike e.names i }) ++ t.drop j) wr)) (fun _ t23 _ => gs.length - (match t23 with | .int _ k => k.toNat | _ => 0))
  case atStart => exact ⟨0, _, rfl, rfl, Nat.zero_le _, HW0.out⟩
  case round =>
    obtain ⟨j, v8, rfl, rfl, hj, HW⟩ := hrel
    by_cases hk : j < gs.length
    · have hkt : j < t.length := by rw [← show gs.length = t.length from HLEN.out]; exact hk
      obtain ⟨ej, hej⟩ : ∃ ej, t[j]? = some ej := ⟨_, List.getElem?_eq_getElem hkt⟩
      have hdj : t.drop j = ej :: t.drop (j + 1) := by rw [List.drop_eq_getElem_cons hkt, (List.getElem?_eq_some_iff.1 hej).2]
      have hw := HW.out
      rw [hdj] at hw
      have hrow := hw.row
      obtain ⟨ga, g1, gb, S2, hgs, hgl, hE, hto⟩ := hw.mid
      have hgj : gs[j]? = some g1 := by
        have : ga.length = j := by rw [hgl, List.length_map, List.length_take]; omega
        rw [hgs, ← this]; simp
      obtain ⟨A1, c1, hav1, _, hA1⟩ := own_form hrow.2
      obtain ⟨qb, hqb, _, _, _, hcell⟩ := hA1 (by omega)
      have e1 : A0 = some ⟨qb, 0, none⟩ := by
        have := hav1.symm.trans HAV.out
        injection this with e2
        rw [← e2, hqb]
      subst e1
      have cj : wr.cell? ⟨qb, j, none⟩ = some (.pointer (some ⟨g1, 0, none⟩)) := hcell j _ (by simp [ptrCells, hgj])
      have hlt : (j : Int) < (gs.length : Int) := by omega
      have HFO := Lib.hid (forget_any hE i (by have := HNL.out ej (List.mem_of_getElem? hej); omega))
      have HTO := Lib.hid hto
      have HNX : Hid ((t.take (j + 1)).map (fun e => ({ e with names := Tr.strike e.names i } : En)) ++ t.drop (j + 1) = (t.take j).map (fun e => ({ e with names := Tr.strike e.names i } : En)) ++ { ej with names := Tr.strike ej.names i } :: t.drop (j + 1)) := by
        show _ = _
        rw [take_next hej, List.map_append, List.append_assoc]; rfl
      clear hkt hej hdj hw hrow hgs hgl hE hto hgj hav1 hA1 hqb hcell
      go_wp2_with fail
      refine HFO.out.mono ?_
      rintro e w2 ⟨rfl, S1', m1, m2, m3⟩
      have HWN : Hid (Went p av gs S w1 ((t.take (j + 1)).map (fun e => { e with names := Tr.strike e.names i }) ++ t.drop (j + 1)) w2) := by
        show Went p av gs S w1 _ w2
        rw [HNX.out]; exact HTO.out w2 _ S1' m1 m2 m3
      clear m1 m2 m3
      go_wp2_with fail
      go_roundw
      case rel => exact ⟨j + 1, _, rfl, by go_num, by omega, HWN.out⟩
      case measure => simp; omega
    · obtain rfl : j = gs.length := by omega
      have hw := HW.out
      rw [show gs.length = t.length from HLEN.out, List.take_length, List.drop_length, List.append_nil] at hw
      have HREM := Lib.hid (hw.remove HRM.out (by rw [List.length_map]; have := HLT.out; omega) HFM.out (.int .i64 0))
      clear hw
      go_wp2_with fail
      refine HREM.out.mono ?_
      rintro e w2 ⟨rfl, hT⟩
      have HT := Lib.hid hT
      clear hT
      go_wp2_with fail
      go_ret
      exact HT.out
end Tm
end Go.Proofs.Ytombmeppdhhjhaa

/-
  OWN WORK. The program's tree: Keep, Seal, Append.
-/
import Derived.Test.YtpblhdpnmnfieaaLTrFile
namespace Go.Proofs.Ytpblhdpnmnfieaa
open Go.RowKit Rc
open Tr (Nm En T)
namespace Tm
variable {p : Nat} {av : Value} {gs : List Nat} {S : Nat → Prop} {t : T} {w : World}

set_option maxHeartbeats 2000000 in
set_option maxRecDepth 100000 in
theorem seal_any (h : TIn p av gs S t w) (hG : Tr.Good t) (i : Int) (u : Nat) (hu : u ≤ 18446744073709551615) :
    Calls Try.prog 14 #[.pointer (some ⟨p, 0, none⟩), .int .i64 i, .int .u64 (u : Nat)] w (TTurn p (Tr.seal_ t i u).2 (.int .i64 ((Tr.seal_ t i u).1 : Nat)) (TrS p av S) w) := by
  have HF := Lib.hid (open_any h hG i)
  have HS : Hid (∀ x, TTurn p t x (TrS p av S) w (.returned x) w) := fun x => TTurn.stay h (Below.refl _ _)
  by_cases h0 : Tr.openN t i = 0
  case neg =>
    have HN : Hid (Tr.seal_ t i u = (Tr.openN t i, t)) := by
      show _ = _
      unfold Tr.openN at h0 ⊢
      unfold Tr.seal_
      split
      · rfl
      · rename_i h1
        rw [if_neg h1] at h0
        split
        · rfl
        · rename_i h2
          rw [if_neg h2] at h0
          exact absurd rfl h0
    rw [HN.out]
    obtain ⟨k, hk⟩ : ∃ k, k = Tr.openN t i := ⟨_, rfl⟩
    rw [← hk] at HF h0 ⊢
    unfold fileV at HF
    rw [if_neg h0] at HF
    have hki : ((k : Int) == 0) = false := by rw [beq_eq_false_iff_ne]; omega
    clear h hG hk h0
    go_enter Try.func14, Try.ntmps14
    go_wp2_with fail
    refine HF.out.mono ?_
    rintro e w1 ⟨rfl, rfl⟩
    go_wp2_with fail
    go_ret
    exact HS.out _
  have hfile : Tr.file t i = 0 ∧ (Tr.ndOf t i).shut = false := by
    unfold Tr.openN at h0
    split at h0
    · rename_i h1; exact absurd h0 h1
    · rename_i h1
      split at h0
      · cases h0
      · rename_i h2
        exact ⟨Decidable.byContradiction h1, by simpa using h2⟩
  obtain ⟨e, h2, h3⟩ : ∃ e, Tr.find t i = some e ∧ e.nd.kind ≠ 2 := by
    rcases Tr.file_cases t i with ⟨h1, _⟩ | ⟨h1, _⟩ | ⟨_, h1⟩
    · rw [h1] at hfile; cases hfile.1
    · rw [h1] at hfile; cases hfile.1
    · exact h1
  obtain ⟨g, S1, hp, hE, hSS, hto⟩ := h.turnAt hG.ris h2
  have HV : fileV gs t i 0 = .tuple #[.pointer (some ⟨g, 0, none⟩), .int .i64 0] := by
    unfold fileV
    rw [if_pos rfl, hp]; rfl
  rw [h0, HV] at HF
  obtain ⟨_, _, c2, c3, c4, c5⟩ := hE.cells
  have hsh := hfile.2
  rw [Tr.ndOf_of h2] at hsh
  rw [hsh] at c5
  have hseal : Tr.seal_ t i u = if 1099511627776 < u then (1, t) else if e.nd.links = 0 then (0, Tr.remove (Tr.upd t i (Tr.shutE u)) i) else (0, Tr.upd t i (Tr.shutE u)) := by
    unfold Tr.seal_
    rw [if_neg (by rw [hfile.1]; simp), if_neg (by rw [hfile.2]; simp), Tr.ndOf_of h2]
  have HK := Lib.hid hseal
  by_cases h5 : (1099511627776 : Int) < (u : Int)
  · have HN : Hid (Tr.seal_ t i u = (1, t)) := by
      have := HK.out
      rw [if_pos (by omega)] at this
      exact this
    rw [HN.out]
    clear h hG h0 hfile h2 h3 hp hE hSS hto HV hsh hseal
    go_enter Try.func14, Try.ntmps14
    go_wp2_with fail
    refine HF.out.mono ?_
    rintro e w1 ⟨rfl, rfl⟩
    go_wp2_with fail
    go_ret
    exact HS.out _
  obtain ⟨dv, nv, hEI, rfl⟩ := hE
  have hshut : ∀ x : En, (Tr.shutE u x).nd.id = x.nd.id := fun x => rfl
  obtain ⟨w2, hw2⟩ : ∃ w2, w2 = (w.setCell ⟨g, 5, none⟩ (.bool true)).setCell ⟨g, 4, none⟩ (.int .u64 (u : Nat)) := ⟨_, rfl⟩
  obtain ⟨S', m1, m2, m3⟩ : ∃ S', TIn p av gs S' (Tr.upd t i (Tr.shutE u)) w2 ∧ Mod w w2 (TrS p av S) ∧ ∀ b, TrS p av S' b → TrS p av S b ∨ w.heap.size ≤ b := by
    obtain ⟨k1, k2⟩ := hEI.poke (e' := { e with nd := { e.nd with shut := true } }) (i := 5) (u := .bool true) rfl rfl rfl
    obtain ⟨dv', nv', k3, k4⟩ := k1
    have k5 := k3.poke (e' := Tr.shutE u e) (i := 4) (u := .int .u64 (u : Nat)) rfl rfl rfl
    rw [← hw2, ← k4] at k5
    exact hto w2 (Tr.shutE u) _ k5.1 (k2.trans k5.2) fun b hb => .inl hb
  have f4 : w.frozen? ⟨g, 4, none⟩ = false := hEI.box.frozen 4
  have f5 : w.frozen? ⟨g, 5, none⟩ = false := hEI.box.frozen 5
  have hc2 : w2.cell? ⟨g, 2, none⟩ = some (.int .i64 e.nd.links) := by
    rw [hw2]
    exact ((hEI.box.set_ 5 (.bool true)).set_ 4 (.int .u64 (u : Nat))).cell 2
  have hrem := Tr.find_upd_same hshut h2
  have HREM := Lib.hid (remove_any m1 (Tr.upd_ris hG.ris hshut) (by rw [Tr.upd_length]; have := hG.few; omega) hrem)
  have HEND : Hid (TTurn p (Tr.upd t i (Tr.shutE u)) (.int .i64 0) (TrS p av S) w (.returned (.int .i64 0)) w2) := ⟨rfl, _, m1.at_, m2, m3⟩
  have HMORE : Hid (∀ w3 t3, TTurn p t3 (.tuple #[]) (TrS p av S') w2 (.returned (.tuple #[])) w3 → TTurn p t3 (.int .i64 0) (TrS p av S) w (.returned (.int .i64 0)) w3) := by
    rintro w3 t3 ⟨_, S3, n1, n2, n3⟩
    refine ⟨rfl, S3, n1, ?_, fun b hb => ?_⟩
    · refine ⟨n2.os.trans m2.os, n2.tape.trans m2.tape, n2.output.trans m2.output, Nat.le_trans m2.size n2.size, fun k hk hn => (n2.block k (Nat.lt_of_lt_of_le hk m2.size) fun h8 => ?_).trans (m2.block k hk hn)⟩
      rcases m3 k h8 with h9 | h9
      · exact hn h9
      · omega
    · rcases n3 b hb with h8 | h8
      · exact m3 b h8
      · exact .inr (Nat.le_trans m2.size h8)
  have HW2 := Lib.hid hw2
  obtain ⟨links, hl⟩ : ∃ links, links = e.nd.links := ⟨_, rfl⟩
  rw [← hl] at c2 hc2 HK
  clear h hG h0 hfile h2 h3 hp hSS hto HV hsh hseal hEI hshut m1 m2 m3 hrem hl
  by_cases h6 : links = 0
  · have HN : Hid (Tr.seal_ t i u = (0, Tr.remove (Tr.upd t i (Tr.shutE u)) i)) := by
      have := HK.out
      rw [if_neg (by omega), if_pos h6] at this
      exact this
    rw [HN.out]
    have hl0 : (links == 0) = true := by simpa using h6
    clear h6
    go_enter Try.func14, Try.ntmps14
    go_wp2_with fail
    refine HF.out.mono ?_
    rintro e w1 ⟨rfl, rfl⟩
    go_upto_region 8 with (fail)
    rw [← hw2]
    clear hw2 c2 c3 c4 c5 f4 f5
    go_wp2_with fail
    refine HREM.out.mono ?_
    rintro e w3 ⟨rfl, hT⟩
    have HT := Lib.hid hT
    clear hT
    go_wp2_with fail
    go_ret
    exact HMORE.out _ _ ⟨rfl, HT.out⟩
  · have HN : Hid (Tr.seal_ t i u = (0, Tr.upd t i (Tr.shutE u))) := by
      have := HK.out
      rw [if_neg (by omega), if_neg h6] at this
      exact this
    rw [HN.out]
    have hl0 : (links == 0) = false := by simpa using h6
    clear h6
    go_enter Try.func14, Try.ntmps14
    go_wp2_with fail
    refine HF.out.mono ?_
    rintro e w1 ⟨rfl, rfl⟩
    go_upto_region 8 with (fail)
    rw [← hw2]
    clear hw2 c2 c3 c4 c5 f4 f5
    go_wp2_with fail
    go_ret
    exact HEND.out

/-- Its bytes are turned. -/
theorem EIn.data_to {g : Nat} {dv nv dv' : Value} {e : En} {w1 : World} (h : EIn g dv nv e w) (l : Bs) (k : Int) (ho : w1.ownsRow 0 5 1 dv' l.length (Lib.byteCells l)) (hg : w.grownBy w1 dv.ownBlock) (hb : ∀ b, dv'.ownBlock = some b → dv.ownBlock = some b ∨ w.heap.size ≤ b) :
    ∃ S', EAt g { e with data := l, nd := { e.nd with size := k } } S' ((w1.setCell ⟨g, 6, none⟩ dv').setCell ⟨g, 3, none⟩ (.int .i64 k)) ∧ Mod w ((w1.setCell ⟨g, 6, none⟩ dv').setCell ⟨g, 3, none⟩ (.int .i64 k)) (EnS g dv nv) ∧ ∀ b, S' b → EnS g dv nv b ∨ w.heap.size ≤ b := by
  have hgn : some g ≠ dv.ownBlock := fun e2 => by
    obtain ⟨_, _, cs, h1⟩ := own_blk h.data e2.symm
    exact absurd rfl (h1.ne_ h.box (by decide))
  have hgd : ∀ b, nv.ownBlock = some b → some b ≠ dv.ownBlock := fun b hb2 e2 => by
    obtain ⟨_, _, cs, h1⟩ := own_blk h.data e2.symm
    obtain ⟨_, _, cs2, h2⟩ := own_blk h.names hb2
    exact absurd rfl (h1.ne_ h2 (by decide))
  have hgl := h.box.lt
  have hng : ∀ b, nv.ownBlock = some b → b ≠ g := fun b hb2 => by
    obtain ⟨_, _, cs, h1⟩ := own_blk h.names hb2
    exact h1.ne_ h.box (by decide)
  have hdg : ∀ b, dv'.ownBlock = some b → b ≠ g := fun b hb2 e2 => by
    rcases hb b hb2 with h1 | h1
    · exact hgn (by rw [h1, e2])
    · omega
  have hbox : Blk w1 g 63 (enCells e dv nv) := (hg.block g hgl hgn).trans h.box
  have hh : ∀ b, b ≠ g → ((w1.setCell ⟨g, 6, none⟩ dv').setCell ⟨g, 3, none⟩ (.int .i64 k)).heap[b]? = w1.heap[b]? := fun b hbg => by
    rw [Below.heap_setCell _ _ _ _ hbg, Below.heap_setCell _ _ _ _ hbg]
  refine ⟨EnS g dv' nv, ⟨dv', nv, ⟨(hbox.set_ 6 dv').set_ 3 (.int .i64 k), own_keep ho fun b hb2 => hh b (hdg b hb2), own_keep h.names fun b hb2 => ?_⟩, rfl⟩, ⟨hg.os, hg.tape, hg.output, by simpa [World.setCell] using hg.size, fun k hk hn => ?_⟩, ?_⟩
  · rw [hh b (hng b hb2)]
    exact hg.block b (own_blk h.names hb2).2.1 (hgd b hb2)
  · rw [hh k (fun e2 => hn (.inl e2))]
    exact hg.block k hk fun e2 => hn (.inr (.inl e2.symm))
  · rintro b (rfl | hb2 | hb2)
    · exact .inl (.inl rfl)
    · exact (hb b hb2).imp (fun h1 => .inr (.inl h1)) id
    · exact .inl (.inr (.inr hb2))

end Tm
end Go.Proofs.Ytpblhdpnmnfieaa

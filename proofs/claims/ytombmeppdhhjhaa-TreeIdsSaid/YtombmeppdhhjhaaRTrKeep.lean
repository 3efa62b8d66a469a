/-
  OWN WORK. The program's tree: Keep, Seal, Append.
-/
import Derived.Test.YtombmeppdhhjhaaR06
namespace Go.Proofs.Ytombmeppdhhjhaa
open Go.RowKit Rc
open Tr (Nm En T)
namespace Tm
variable {p : Nat} {av : Value} {gs : List Nat} {S : Nat → Prop} {t : T} {w : World}

set_option maxHeartbeats 1000000 in
set_option maxRecDepth 100000 in
theorem keep_any (h : TIn p av gs S t w) (hG : Tr.Good t) (i : Int) (u : Nat) (hu : u ≤ 18446744073709551615) :
    Calls Try.prog 18 #[.pointer (some ⟨p, 0, none⟩), .int .i64 i, .int .u64 (u : Nat)] w (TTurn p (Tr.keep t i u).2 (.int .i64 ((Tr.keep t i u).1 : Nat)) (TrS p av S) w) := by
  have HF := Lib.hid (file_any h hG i)
  have HS : Hid (∀ x, TTurn p t x (TrS p av S) w (.returned x) w) := fun x => TTurn.stay h (Below.refl _ _)
  rcases Tr.file_cases t i with ⟨h1, h2⟩ | ⟨h1, e, h2, h3⟩ | ⟨h1, e, h2, h3⟩
  any_goals
    have HN : Hid (Tr.keep t i u = (Tr.file t i, t)) := by
      show _ = _
      unfold Tr.keep
      rw [if_pos (by rw [h1]; simp)]
    rw [HN.out, h1]
    rw [h1] at HF
    unfold fileV at HF
    clear h hG h1
    go_enter Try.func18, Try.ntmps18
    go_wp2_with fail
    refine HF.out.mono ?_
    rintro e w1 ⟨rfl, rfl⟩
    go_wp2_with fail
    go_ret
    exact HS.out _
  obtain ⟨g, S1, hp, hE, hSS, hto⟩ := h.turnAt hG.ris h2
  have HV : fileV gs t i 0 = .tuple #[.pointer (some ⟨g, 0, none⟩), .int .i64 0] := by
    unfold fileV
    rw [if_pos rfl, hp]; rfl
  rw [h1, HV] at HF
  obtain ⟨_, _, _, _, c4, c5⟩ := hE.cells
  have hkeep : Tr.keep t i u = if e.nd.shut = false then (25, t) else if u < e.nd.till then (28, t) else if 1099511627776 < u then (1, t) else (0, Tr.upd t i fun e => { e with nd := { e.nd with till := u } }) := by
    unfold Tr.keep
    rw [if_neg (by rw [h1]; simp), Tr.ndOf_of h2]
  obtain ⟨dv, nv, hEI, rfl⟩ := hE
  have HEND : Hid (TTurn p (Tr.upd t i fun e => { e with nd := { e.nd with till := u } }) (.int .i64 0) (TrS p av S) w (.returned (.int .i64 0)) (w.setCell ⟨g, 4, none⟩ (.int .u64 (u : Nat)))) := by
    obtain ⟨k1, k2⟩ := hEI.poke (e' := { e with nd := { e.nd with till := u } }) (i := 4) (u := .int .u64 (u : Nat)) rfl rfl rfl
    obtain ⟨S', m1, m2, m3⟩ := hto _ (fun e => { e with nd := { e.nd with till := u } }) _ k1 k2 fun b hb => .inl hb
    exact ⟨rfl, _, m1.at_, m2, m3⟩
  have hf4 : w.frozen? ⟨g, 4, none⟩ = false := hEI.box.frozen 4
  obtain ⟨till, ht⟩ : ∃ till, till = e.nd.till := ⟨_, rfl⟩
  rw [← ht] at c4 hkeep
  have HK := Lib.hid hkeep
  obtain ⟨b, hb⟩ : ∃ b, b = e.nd.shut := ⟨_, rfl⟩
  rw [← hb] at c5 HK
  clear h hG h1 h2 h3 hp hSS hto HV hEI hkeep ht hb
  cases b
  · have HN : Hid (Tr.keep t i u = (25, t)) := HK.out
    rw [HN.out]
    go_enter Try.func18, Try.ntmps18
    go_wp2_with fail
    refine HF.out.mono ?_
    rintro e w1 ⟨rfl, rfl⟩
    go_wp2_with fail
    go_ret
    exact HS.out _
  · by_cases h4 : (u : Int) < (till : Int)
    · have HN : Hid (Tr.keep t i u = (28, t)) := by
        have := HK.out
        rw [if_neg (by simp), if_pos (by omega)] at this
        exact this
      rw [HN.out]
      go_enter Try.func18, Try.ntmps18
      go_wp2_with fail
      refine HF.out.mono ?_
      rintro e w1 ⟨rfl, rfl⟩
      go_wp2_with fail
      go_ret
      exact HS.out _
    · by_cases h5 : (1099511627776 : Int) < (u : Int)
      · have HN : Hid (Tr.keep t i u = (1, t)) := by
          have := HK.out
          rw [if_neg (by simp), if_neg (by omega), if_pos (by omega)] at this
          exact this
        rw [HN.out]
        go_enter Try.func18, Try.ntmps18
        go_wp2_with fail
        refine HF.out.mono ?_
        rintro e w1 ⟨rfl, rfl⟩
        go_wp2_with fail
        go_ret
        exact HS.out _
      · have HN : Hid (Tr.keep t i u = (0, Tr.upd t i fun e => { e with nd := { e.nd with till := u } })) := by
          have := HK.out
          rw [if_neg (by simp), if_neg (by omega), if_neg (by omega)] at this
          exact this
        rw [HN.out]
        go_enter Try.func18, Try.ntmps18
        go_wp2_with fail
        refine HF.out.mono ?_
        rintro e w1 ⟨rfl, rfl⟩
        go_wp2_with fail
        go_ret
        exact HEND.out

set_option maxHeartbeats 2000000 in
set_option maxRecDepth 100000 in
theorem seal_any (h : TIn p av gs S t w) (hG : Tr.Good t) (i : Int) (u : Nat) (hu : u ≤ 18446744073709551615) :
    Calls Try.prog 19 #[.pointer (some ⟨p, 0, none⟩), .int .i64 i, .int .u64 (u : Nat)] w (TTurn p (Tr.seal_ t i u).2 (.int .i64 ((Tr.seal_ t i u).1 : Nat)) (TrS p av S) w) := by
  have HF := Lib.hid (open_any h hG i)
  have HS : Hid (∀ x, TTurn p t x (TrS p av S) w (.returned x) w) := fun x => TTurn.stay h (Below.refl _ _)
  by_cases h0 : Tr.openN t i = 0
  case neg =>
    have HN : Hid (Tr.seal_ t i u = (Tr.openN t i, t)) := by
      show _ = _
      unfold Tr.openN at h0 ⊢
      unfold Tr.seal_
      split
      · rfl
      · rename_i h1
        rw [if_neg h1] at h0
        split
        · rfl
        · rename_i h2
          rw [if_neg h2] at h0
          exact absurd rfl h0
    rw [HN.out]
    obtain ⟨k, hk⟩ : ∃ k, k = Tr.openN t i := ⟨_, rfl⟩
    rw [← hk] at HF h0 ⊢
    unfold fileV at HF
    rw [if_neg h0] at HF
    have hki : ((k : Int) == 0) = false := by rw [beq_eq_false_iff_ne]; omega
    clear h hG hk h0
    go_enter Try.func19, Try.ntmps19
    go_wp2_with fail
    refine HF.out.mono ?_
    rintro e w1 ⟨rfl, rfl⟩
    go_wp2_with fail
    go_ret
    exact HS.out _
  have hfile : Tr.file t i = 0 ∧ (Tr.ndOf t i).shut = false := by
    unfold Tr.openN at h0
    split at h0
    · rename_i h1; exact absurd h0 h1
    · rename_i h1
      split at h0
      · cases h0
      · rename_i h2
        exact ⟨Decidable.byContradiction h1, by simpa using h2⟩
  obtain ⟨e, h2, h3⟩ : ∃ e, Tr.find t i = some e ∧ e.nd.kind ≠ 2 := by
    rcases Tr.file_cases t i with ⟨h1, _⟩ | ⟨h1, _⟩ | ⟨_, h1⟩
    · rw [h1] at hfile; cases hfile.1
    · rw [h1] at hfile; cases hfile.1
    · exact h1
  obtain ⟨g, S1, hp, hE, hSS, hto⟩ := h.turnAt hG.ris h2
  have HV : fileV gs t i 0 = .tuple #[.pointer (some ⟨g, 0, none⟩), .int .i64 0] := by
    unfold fileV
    rw [if_pos rfl, hp]; rfl
  rw [h0, HV] at HF
  obtain ⟨_, _, c2, c3, c4, c5⟩ := hE.cells
  have hsh := hfile.2
  rw [Tr.ndOf_of h2] at hsh
  rw [hsh] at c5
  have hseal : Tr.seal_ t i u = if 1099511627776 < u then (1, t) else if e.nd.links = 0 then (0, Tr.remove (Tr.upd t i (Tr.shutE u)) i) else (0, Tr.upd t i (Tr.shutE u)) := by
    unfold Tr.seal_
    rw [if_neg (by rw [hfile.1]; simp), if_neg (by rw [hfile.2]; simp), Tr.ndOf_of h2]
  have HK := Lib.hid hseal
  by_cases h5 : (1099511627776 : Int) < (u : Int)
  · have HN : Hid (Tr.seal_ t i u = (1, t)) := by
      have := HK.out
      rw [if_pos (by omega)] at this
      exact this
    rw [HN.out]
    clear h hG h0 hfile h2 h3 hp hE hSS hto HV hsh hseal
    go_enter Try.func19, Try.ntmps19
    go_wp2_with fail
    refine HF.out.mono ?_
    rintro e w1 ⟨rfl, rfl⟩
    go_wp2_with fail
    go_ret
    exact HS.out _
  obtain ⟨dv, nv, hEI, rfl⟩ := hE
  have hshut : ∀ x : En, (Tr.shutE u x).nd.id = x.nd.id := fun x => rfl
  obtain ⟨w2, hw2⟩ : ∃ w2, w2 = (w.setCell ⟨g, 5, none⟩ (.bool true)).setCell ⟨g, 4, none⟩ (.int .u64 (u : Nat)) := ⟨_, rfl⟩
  obtain ⟨S', m1, m2, m3⟩ : ∃ S', TIn p av gs S' (Tr.upd t i (Tr.shutE u)) w2 ∧ Mod w w2 (TrS p av S) ∧ ∀ b, TrS p av S' b → TrS p av S b ∨ w.heap.size ≤ b := by
    obtain ⟨k1, k2⟩ := hEI.poke (e' := { e with nd := { e.nd with shut := true } }) (i := 5) (u := .bool true) rfl rfl rfl
    obtain ⟨dv', nv', k3, k4⟩ := k1
    have k5 := k3.poke (e' := Tr.shutE u e) (i := 4) (u := .int .u64 (u : Nat)) rfl rfl rfl
    rw [← hw2, ← k4] at k5
    exact hto w2 (Tr.shutE u) _ k5.1 (k2.trans k5.2) fun b hb => .inl hb
  have f4 : w.frozen? ⟨g, 4, none⟩ = false := hEI.box.frozen 4
  have f5 : w.frozen? ⟨g, 5, none⟩ = false := hEI.box.frozen 5
  have hc2 : w2.cell? ⟨g, 2, none⟩ = some (.int .i64 e.nd.links) := by
    rw [hw2]
    exact ((hEI.box.set_ 5 (.bool true)).set_ 4 (.int .u64 (u : Nat))).cell 2
  have hrem := Tr.find_upd_same hshut h2
  have HREM := Lib.hid (remove_any m1 (Tr.upd_ris hG.ris hshut) (by rw [Tr.upd_length]; have := hG.few; omega) hrem)
  have HEND : Hid (TTurn p (Tr.upd t i (Tr.shutE u)) (.int .i64 0) (TrS p av S) w (.returned (.int .i64 0)) w2) := ⟨rfl, _, m1.at_, m2, m3⟩
  have HMORE : Hid (∀ w3 t3, TTurn p t3 (.tuple #[]) (TrS p av S') w2 (.returned (.tuple #[])) w3 → TTurn p t3 (.int .i64 0) (TrS p av S) w (.returned (.int .i64 0)) w3) := by
    rintro w3 t3 ⟨_, S3, n1, n2, n3⟩
    refine ⟨rfl, S3, n1, ?_, fun b hb => ?_⟩
    · refine ⟨n2.os.trans m2.os, n2.tape.trans m2.tape, n2.output.trans m2.output, Nat.le_trans m2.size n2.size, fun k hk hn => (n2.block k (Nat.lt_of_lt_of_le hk m2.size) fun h8 => ?_).trans (m2.block k hk hn)⟩
      rcases m3 k h8 with h9 | h9
      · exact hn h9
      · omega
    · rcases n3 b hb with h8 | h8
      · exact m3 b h8
      · exact .inr (Nat.le_trans m2.size h8)
  have HW2 := Lib.hid hw2
  obtain ⟨links, hl⟩ : ∃ links, links = e.nd.links := ⟨_, rfl⟩
  rw [← hl] at c2 hc2 HK
  clear h hG h0 hfile h2 h3 hp hSS hto HV hsh hseal hEI hshut m1 m2 m3 hrem hl
  by_cases h6 : links = 0
  · have HN : Hid (Tr.seal_ t i u = (0, Tr.remove (Tr.upd t i (Tr.shutE u)) i)) := by
      have := HK.out
      rw [if_neg (by omega), if_pos h6] at this
      exact this
    rw [HN.out]
    have hl0 : (links == 0) = true := by simpa using h6
    clear h6
    go_enter Try.func19, Try.ntmps19
    go_wp2_with fail
    refine HF.out.mono ?_
    rintro e w1 ⟨rfl, rfl⟩
    go_upto_region 8 with (fail)
    rw [← hw2]
    clear hw2 c2 c3 c4 c5 f4 f5
    go_wp2_with fail
    refine HREM.out.mono ?_
    rintro e w3 ⟨rfl, hT⟩
    have HT := Lib.hid hT
    clear hT
    go_wp2_with fail
    go_ret
    exact HMORE.out _ _ ⟨rfl, HT.out⟩
  · have HN : Hid (Tr.seal_ t i u = (0, Tr.upd t i (Tr.shutE u))) := by
      have := HK.out
      rw [if_neg (by omega), if_neg h6] at this
      exact this
    rw [HN.out]
    have hl0 : (links == 0) = false := by simpa using h6
    clear h6
    go_enter Try.func19, Try.ntmps19
    go_wp2_with fail
    refine HF.out.mono ?_
    rintro e w1 ⟨rfl, rfl⟩
    go_upto_region 8 with (fail)
    rw [← hw2]
    clear hw2 c2 c3 c4 c5 f4 f5
    go_wp2_with fail
    go_ret
    exact HEND.out

/-- Its bytes are turned. -/
theorem EIn.data_to {g : Nat} {dv nv dv' : Value} {e : En} {w1 : World} (h : EIn g dv nv e w) (l : Bs) (k : Int) (ho : w1.ownsRow 0 5 1 dv' l.length (Lib.byteCells l)) (hg : w.grownBy w1 dv.ownBlock) (hb : ∀ b, dv'.ownBlock = some b → dv.ownBlock = some b ∨ w.heap.size ≤ b) :
    ∃ S', EAt g { e with data := l, nd := { e.nd with size := k } } S' ((w1.setCell ⟨g, 6, none⟩ dv').setCell ⟨g, 3, none⟩ (.int .i64 k)) ∧ Mod w ((w1.setCell ⟨g, 6, none⟩ dv').setCell ⟨g, 3, none⟩ (.int .i64 k)) (EnS g dv nv) ∧ ∀ b, S' b → EnS g dv nv b ∨ w.heap.size ≤ b := by
  have hgn : some g ≠ dv.ownBlock := fun e2 => by
    obtain ⟨_, _, cs, h1⟩ := own_blk h.data e2.symm
    exact absurd rfl (h1.ne_ h.box (by decide))
  have hgd : ∀ b, nv.ownBlock = some b → some b ≠ dv.ownBlock := fun b hb2 e2 => by
    obtain ⟨_, _, cs, h1⟩ := own_blk h.data e2.symm
    obtain ⟨_, _, cs2, h2⟩ := own_blk h.names hb2
    exact absurd rfl (h1.ne_ h2 (by decide))
  have hgl := h.box.lt
  have hng : ∀ b, nv.ownBlock = some b → b ≠ g := fun b hb2 => by
    obtain ⟨_, _, cs, h1⟩ := own_blk h.names hb2
    exact h1.ne_ h.box (by decide)
  have hdg : ∀ b, dv'.ownBlock = some b → b ≠ g := fun b hb2 e2 => by
    rcases hb b hb2 with h1 | h1
    · exact hgn (by rw [h1, e2])
    · omega
  have hbox : Blk w1 g 65 (enCells e dv nv) := (hg.block g hgl hgn).trans h.box
  have hh : ∀ b, b ≠ g → ((w1.setCell ⟨g, 6, none⟩ dv').setCell ⟨g, 3, none⟩ (.int .i64 k)).heap[b]? = w1.heap[b]? := fun b hbg => by
    rw [Below.heap_setCell _ _ _ _ hbg, Below.heap_setCell _ _ _ _ hbg]
  refine ⟨EnS g dv' nv, ⟨dv', nv, ⟨(hbox.set_ 6 dv').set_ 3 (.int .i64 k), own_keep ho fun b hb2 => hh b (hdg b hb2), own_keep h.names fun b hb2 => ?_⟩, rfl⟩, ⟨hg.os, hg.tape, hg.output, by simpa [World.setCell] using hg.size, fun k hk hn => ?_⟩, ?_⟩
  · rw [hh b (hng b hb2)]
    exact hg.block b (own_blk h.names hb2).2.1 (hgd b hb2)
  · rw [hh k (fun e2 => hn (.inl e2))]
    exact hg.block k hk fun e2 => hn (.inr (.inl e2.symm))
  · rintro b (rfl | hb2 | hb2)
    · exact .inl (.inl rfl)
    · exact (hb b hb2).imp (fun h1 => .inr (.inl h1)) id
    · exact .inl (.inr (.inr hb2))

set_option maxHeartbeats 2000000 in
set_option maxRecDepth 100000 in
theorem append_any (h : TIn p av gs S t w) (hG : Tr.Good t) (i : Int) (A : Option Addr) (b : Bs) (cap : Nat) (hr : Rd w A b) (hbl : b.length ≤ 1000000000) :
    Calls Try.prog 9 #[.pointer (some ⟨p, 0, none⟩), .int .i64 i, .slice A b.length cap] w (TTurn p (Tr.append t i b).2 (.int .i64 ((Tr.append t i b).1 : Nat)) (TrS p av S) w) := by
  have HF := Lib.hid (open_any h hG i)
  have HS : Hid (∀ x, TTurn p t x (TrS p av S) w (.returned x) w) := fun x => TTurn.stay h (Below.refl _ _)
  by_cases h0 : Tr.openN t i = 0
  case neg =>
    have HN : Hid (Tr.append t i b = (Tr.openN t i, t)) := by
      show _ = _
      unfold Tr.openN at h0 ⊢
      unfold Tr.append
      split
      · rfl
      · rename_i h1
        rw [if_neg h1] at h0
        split
        · rfl
        · rename_i h2
          rw [if_neg h2] at h0
          exact absurd rfl h0
    rw [HN.out]
    obtain ⟨k, hk⟩ : ∃ k, k = Tr.openN t i := ⟨_, rfl⟩
    rw [← hk] at HF h0 ⊢
    unfold fileV at HF
    rw [if_neg h0] at HF
    have hki : ((k : Int) == 0) = false := by rw [beq_eq_false_iff_ne]; omega
    clear h hG hk h0
    go_enter Try.func9, Try.ntmps9
    go_wp2_with fail
    refine HF.out.mono ?_
    rintro e w1 ⟨rfl, rfl⟩
    go_wp2_with fail
    go_ret
    exact HS.out _
  have hfile : Tr.file t i = 0 ∧ (Tr.ndOf t i).shut = false := by
    unfold Tr.openN at h0
    split at h0
    · rename_i h1; exact absurd h0 h1
    · rename_i h1
      split at h0
      · cases h0
      · rename_i h2
        exact ⟨Decidable.byContradiction h1, by simpa using h2⟩
  obtain ⟨e, h2, h3⟩ : ∃ e, Tr.find t i = some e ∧ e.nd.kind ≠ 2 := by
    rcases Tr.file_cases t i with ⟨h1, _⟩ | ⟨h1, _⟩ | ⟨_, h1⟩
    · rw [h1] at hfile; cases hfile.1
    · rw [h1] at hfile; cases hfile.1
    · exact h1
  obtain ⟨g, S1, hp, hE, hSS, hto⟩ := h.turnAt hG.ris h2
  have HV : fileV gs t i 0 = .tuple #[.pointer (some ⟨g, 0, none⟩), .int .i64 0] := by
    unfold fileV
    rw [if_pos rfl, hp]; rfl
  rw [h0, HV] at HF
  obtain ⟨_, _, c2, c3, c4, c5⟩ := hE.cells
  have hsh := hfile.2
  rw [Tr.ndOf_of h2] at hsh
  rw [hsh] at c5
  have happ : Tr.append t i b = if 4096 - e.nd.size < (b.length : Int) then (15, t) else (0, Tr.upd t i fun e => { e with data := e.data ++ b, nd := { e.nd with size := ((e.data ++ b).length : Nat) } }) := by
    unfold Tr.append
    rw [if_neg (by rw [hfile.1]; simp), if_neg (by rw [hfile.2]; simp), Tr.ndOf_of h2]
  have hok := hG.each e (Tr.find_some h2).1
  have hsz : 0 ≤ e.nd.size ∧ e.nd.size ≤ 4096 := ⟨hok.nd.2.2.2.2.1, hok.nd.2.2.2.2.2.1⟩
  have hdl : e.nd.size = (e.data.length : Nat) := hok.size
  obtain ⟨dv, nv, hEI, rfl⟩ := hE
  have c6 : w.cell? ⟨g, 6, none⟩ = some dv := hEI.box.cell 6
  have HOW := Lib.hid hEI.data
  have hgn : some g ≠ dv.ownBlock := fun e2 => by
    obtain ⟨_, _, cs, h1⟩ := own_blk hEI.data e2.symm
    exact absurd rfl (h1.ne_ hEI.box (by decide))
  have HFR : Hid (∀ w1, w.grownBy w1 dv.ownBlock → (w1.cell? ⟨g, 6, none⟩ = some dv ∧ w1.frozen? ⟨g, 6, none⟩ = false) ∧ w1.cell? ⟨g, 3, none⟩ = some (.int .i64 e.nd.size) ∧ w1.frozen? ⟨g, 3, none⟩ = false) := fun w1 hg => by
    have h2 : Blk w1 g 65 (enCells e dv nv) := (hg.block g hEI.box.lt hgn).trans hEI.box
    exact ⟨⟨h2.cell 6, h2.frozen 6⟩, h2.cell 3, h2.frozen 3⟩
  have HEND : Hid (∀ w1 dv', w1.ownsRow 0 5 1 dv' (e.data ++ b).length (Lib.byteCells (e.data ++ b)) → w.grownBy w1 dv.ownBlock → (∀ b, dv'.ownBlock = some b → dv.ownBlock = some b ∨ w.heap.size ≤ b) → TTurn p (Tr.upd t i fun e => { e with data := e.data ++ b, nd := { e.nd with size := ((e.data ++ b).length : Nat) } }) (.int .i64 0) (TrS p av S) w (.returned (.int .i64 0)) ((w1.setCell ⟨g, 6, none⟩ dv').setCell ⟨g, 3, none⟩ (.int .i64 ((e.data ++ b).length : Nat)))) := fun w1 dv' ho hg hb => by
    obtain ⟨S', k1, k2, k3⟩ := hEI.data_to (e.data ++ b) ((e.data ++ b).length : Nat) ho hg hb
    obtain ⟨S'', m1, m2, m3⟩ := hto _ (fun e => { e with data := e.data ++ b, nd := { e.nd with size := ((e.data ++ b).length : Nat) } }) S' k1 k2 k3
    exact ⟨rfl, _, m1.at_, m2, m3⟩
  have HK := Lib.hid happ
  obtain ⟨dl, hdl2⟩ : ∃ dl, dl = e.data := ⟨_, rfl⟩
  obtain ⟨sz, hsz2⟩ : ∃ sz, sz = e.nd.size := ⟨_, rfl⟩
  rw [← hdl2] at HOW HEND hdl
  rw [← hsz2] at c3 hsz hdl HK HFR
  obtain ⟨A0, c0, hdv, hc0, _⟩ := own_form hEI.data
  rw [← hdl2] at hdv hc0
  obtain ⟨i0, hi, hz0, hz1, hz2⟩ := info_parts Try.infoU8
  have HI0 := Lib.hid hi
  have HZ0 := Lib.hid hz0
  have HZ1 := Lib.hid hz1
  have HZ2 := Lib.hid hz2
  have HRD := Lib.hid hr
  have hdn : dl.length ≤ 4096 := by omega
  clear h hG h0 hfile h2 h3 hp hSS hto HV hsh happ hok hEI hgn hdl2 hsz2 hi hz0 hz1 hz2 hr
  have w0 : IntKind.i64.wrap (4096 - sz) = 4096 - sz := by rw [IntKind.wrap_i64]; omega
  by_cases h5 : 4096 - sz < (b.length : Int)
  · have HN : Hid (Tr.append t i b = (15, t)) := by
      have := HK.out
      rw [if_pos h5] at this
      exact this
    rw [HN.out]
    go_enter Try.func9, Try.ntmps9
    go_wp2_with fail
    refine HF.out.mono ?_
    rintro e w1 ⟨rfl, rfl⟩
    go_wp2_with fail
    go_ret
    exact HS.out _
  · have HN : Hid (Tr.append t i b = (0, Tr.upd t i fun e => { e with data := e.data ++ b, nd := { e.nd with size := ((e.data ++ b).length : Nat) } })) := by
      have := HK.out
      rw [if_neg h5] at this
      exact this
    rw [HN.out]
    have HAPP : Hid (Lib.byteCells dl ++ Lib.byteCells b = Lib.byteCells (dl ++ b) ∧ dl.length + b.length = (dl ++ b).length) := ⟨by simp [Lib.byteCells], by rw [List.length_append]⟩
    clear hdl
    subst hdv
    have HC6 := Lib.hid c6
    go_enter Try.func9, Try.ntmps9
    go_wp2_with fail
    refine HF.out.mono ?_
    rintro e w1 ⟨rfl, rfl⟩
    go_upto_region 7 with (at_builtin; refine wpList_append_at_rd rfl (.tmp 31) (.tmp 32) 29 rfl 0 5 i0 Try.underlying29 HI0.out HZ0.out HZ1.out HZ2.out _ dl.length (Lib.byteCells dl) rfl HOW.out A b b.length cap rfl rfl HRD.out (by omega) (Nat.zero_le _) ?_; intro v2 w2 HO2 HG2 HB2; obtain ⟨A9, c9, hv9, _, _⟩ := own_form HO2.out; subst hv9; have hfr := HFR.out w2 HG2.out; obtain ⟨⟨hc6, hf6⟩, hc3, hf3⟩ := hfr)
    go_wp2_with fail
    go_ret
    have ho := HO2.out
    rw [HAPP.out.1, HAPP.out.2] at ho
    have hend := HEND.out w2 _ ho HG2.out fun b hb => by
      rcases HB2.out with h | h
      · rw [HAPP.out.2] at h
        exact .inl (h.symm.trans hb)
      · rw [HAPP.out.2] at h
        have e := h.symm.trans hb
        injection e with e
        exact .inr (by omega)
    simp only [List.length_append] at hend
    simpa using hend
end Tm
end Go.Proofs.Ytombmeppdhhjhaa

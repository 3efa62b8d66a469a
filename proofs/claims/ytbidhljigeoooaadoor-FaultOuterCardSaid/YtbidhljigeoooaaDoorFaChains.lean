/-
  OWN WORK. FaultChains by its walks, given what package fault's calls do.
-/
import Derived.Test.YtbidhljigeoooaaDoorFaKnown
namespace Go.Proofs.YtbidhljigeoooaaDoor
open Go.RowKit

/-- The law's slice, cut to so many links. -/
def CutTo (m : Nat) (v0 v : Value) (n0 n : Nat) : Prop :=
  (n0 ≤ m ∧ v = v0 ∧ n = n0 ∧ ∃ a cap, v0 = .slice a n0 cap) ∨ (m < n0 ∧ n = m ∧ ∃ b off cap, v0 = .slice (some ⟨b, off, none⟩) n0 cap ∧ v = .slice (some ⟨b, off, none⟩) m cap ∧ m ≤ cap ∧ n0 ≤ cap ∧ cap ≤ maxLen)

theorem cut_links {w : World} {ls0 : List (ByteArray × ByteArray)} {v0 : Value} (m : Nat) (h : LinksAt w ls0 v0) : ∃ v, CutTo m v0 v ls0.length (ls0.take m).length ∧ LinksAt w (ls0.take m) v := by
  by_cases hm : ls0.length ≤ m
  · refine ⟨v0, .inl ⟨hm, rfl, by rw [List.take_of_length_le hm], ?_⟩, by rw [List.take_of_length_le hm]; exact h⟩
    rcases h with ⟨rfl, a, cap, rfl⟩ | ⟨b, off, cap, rfl, _⟩
    · exact ⟨_, _, rfl⟩
    · exact ⟨_, _, rfl⟩
  · rcases h with ⟨rfl, _⟩ | ⟨b, off, cap, rfl, h1, h2, h3⟩
    · simp at hm
    · refine ⟨.slice (some ⟨b, off, none⟩) m cap, .inr ⟨by omega, by rw [List.length_take]; omega, b, off, cap, rfl, rfl, by omega, h1, h2⟩, .inr ⟨b, off, cap, by rw [List.length_take, Nat.min_eq_left (by omega)], by rw [List.length_take]; omega, h2, fun k q hq => h3 k q ?_⟩⟩
      rw [List.getElem?_take] at hq
      split at hq
      · exact hq
      · cases hq

set_option maxRecDepth 100000 in
set_option maxHeartbeats 1000000 in
theorem chains_zero (hW : WrapSaid) (hN : WrapNoneSaid) (hE : ErrorSaid) (hC : CodeSaid) (hCN : CodeNilSaid) (hD : DepthSaid) (ls : List (ByteArray × ByteArray)) (v0 v : Value) (n0 : Nat) (code asked : Int) (w : World)
    (hcut : CutTo 30 v0 v n0 ls.length) (hv : LinksAt w ls v) (hl : ls.length ≤ 30) (hg : ErrT w) (hsz : ∀ q ∈ ls, q.1.size ≤ 9223372036854775807 ∧ q.2.size ≤ 9223372036854775807) (hcode : withinI code 0 300 = 0)
    (b0 : -9223372036854775808 ≤ code) (b1 : code ≤ 9223372036854775807) (hm : n0 ≤ 9223372036854775807) :
    Calls Tryd.prog 4 #[v0, .int .i64 code, .int .i64 asked] w fun e w' => e = .returned (.bool true) ∧ Below w.heap.size w w' := by
  have HG : Hid (ErrT w) := hg
  have HV : Hid (LinksAt w ls v) := hv
  have HSZ : Hid (∀ q ∈ ls, q.1.size ≤ 9223372036854775807 ∧ q.2.size ≤ 9223372036854775807) := hsz
  have HW := Lib.hid hW
  have HN := Lib.hid hN
  have HE := Lib.hid hE
  have HC := Lib.hid hC
  have HCN := Lib.hid hCN
  have HD := Lib.hid hD
  have HK : Hid (withinI code 0 300 = 0) := hcode
  clear hW hN hE hC hCN hD hg hv hsz hcode
  have hwi := within_any code 0 300 w (by omega) (by omega) (by omega) b0 b1
  rw [HK.out] at hwi
  have HWI := Lib.hid hwi
  clear hwi
  rcases hcut with ⟨h30, rfl, hn, a, cap, rfl⟩ | ⟨h30, hn, b, off, cap, rfl, rfl, hc1, hc2, hc3⟩
  all_goals
    have HLN : Hid (ls.length = _) := hn
    clear hn
    go_enter Tryd.func4, Tryd.ntmps4
    go_wp2_with fail
    refine HWI.out.mono ?_
    rintro e w' ⟨rfl, rfl⟩
    go_wp2_with fail
    refine (chain_zero HN.out ls _ w HV.out hl HG.out HSZ.out).mono ?_
    rintro e w1 ⟨rfl, hb⟩
    have HB : Hid (Below w.heap.size w w1) := hb
    clear hb
    have HG1 : Hid (ErrT w1) := HG.out.below HB.out
    by_cases hnil : ls = []
    · first
        | (exfalso; have h1 := HLN.out; rw [hnil] at h1; simp at h1; done)
        | skip
      all_goals
        have e0 : zeroV ls = .iface 31 (.int .i64 0) := if_pos hnil
        rw [e0]
        have h1 := HLN.out
        rw [hnil] at h1
        have en : ((n0 : Int) == 0) = true := by simp at h1; simp; omega
        clear hnil e0 h1
        go_wp2_with fail
        refine (HD.out [] (.num 0) _ w1 rfl ⟨by simp, by simp⟩ HG1.out).mono ?_
        rintro e w2 ⟨rfl, hb⟩
        have HB2 : Hid (Below w.heap.size w w2) := HB.out.trans (hb.mono HB.out.size)
        clear hb
        simp only [List.length_nil]
        go_wp2_with fail
        refine (HC.out [] (.num 0) _ w2 rfl (by simp [Base.val]) ⟨by simp, by simp⟩ (HG.out.below HB2.out)).mono ?_
        rintro e w3 ⟨rfl, hb⟩
        have HB3 : Hid (Below w.heap.size w w3) := HB2.out.trans (hb.mono HB2.out.size)
        clear hb
        simp only [Base.code]
        go_wp2_with fail
        refine (known_any HW.out HE.out HC.out HD.out w3 (HG.out.below HB3.out)).mono ?_
        rintro e w4 ⟨rfl, hb⟩
        have HB4 : Hid (Below w.heap.size w w4) := HB3.out.trans (hb.mono HB3.out.size)
        clear hb
        go_wp2
        go_ret
        exact ⟨rfl, HB4.out⟩
    · have e0 : zeroV ls = .nilIface := if_neg hnil
      rw [e0]
      have hp := List.length_pos_iff.2 hnil
      have h1 := HLN.out
      have en : ((n0 : Int) == 0) = false := by simp; omega
      clear hnil e0 h1 hp
      go_wp2_with fail
      refine (HD.out [] .none _ w1 rfl ⟨by simp, by simp⟩ HG1.out).mono ?_
      rintro e w2 ⟨rfl, hb⟩
      have HB2 : Hid (Below w.heap.size w w2) := HB.out.trans (hb.mono HB.out.size)
      clear hb
      simp only [List.length_nil]
      go_wp2_with fail
      refine (HCN.out w2).mono ?_
      rintro e w3 ⟨rfl, hb⟩
      have HB3 : Hid (Below w.heap.size w w3) := HB2.out.trans (hb.mono HB2.out.size)
      clear hb
      go_wp2_with fail
      refine (known_any HW.out HE.out HC.out HD.out w3 (HG.out.below HB3.out)).mono ?_
      rintro e w4 ⟨rfl, hb⟩
      have HB4 : Hid (Below w.heap.size w w4) := HB3.out.trans (hb.mono HB3.out.size)
      clear hb
      go_wp2
      go_ret
      exact ⟨rfl, HB4.out⟩
end Go.Proofs.YtbidhljigeoooaaDoor

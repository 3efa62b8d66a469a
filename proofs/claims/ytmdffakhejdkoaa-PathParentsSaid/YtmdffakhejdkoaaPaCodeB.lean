/-
  OWN WORK. Names: nameEnd and Split, the program's.
-/
import Derived.Test.YtmdffakhejdkoaaPaCodeA
namespace Go.Proofs.Ytmdffakhejdkoaa
open Go.RowKit

/-- No stroke from 1 up to k. -/
def Plain (t : Bs) (k : Nat) : Prop := 1 ≤ k ∧ k ≤ t.length ∧ ∀ (j : Nat) (c : UInt8), 1 ≤ j → j < k → t[j]? = some c → c ≠ 47
theorem Plain.step {t : Bs} {k : Nat} {c : UInt8} (h : Plain t k) (hk : t[k]? = some c) (hc : c ≠ 47) : Plain t (k + 1) := by
  refine ⟨by omega, (List.getElem?_eq_some_iff.1 hk).1, fun j d h1 hj hd => ?_⟩
  rcases Nat.lt_or_ge j k with h2 | h2
  · exact h.2.2 j d h1 h2 hd
  · obtain rfl : j = k := by omega
    rw [hk] at hd
    cases hd
    exact hc
theorem byte_ne {c : UInt8} {k : Nat} (h : c.toNat ≠ k) (hk : k < 256) : c ≠ UInt8.ofNat k := by
  intro e; subst e
  exact h (UInt8.toNat_ofNat_of_lt' hk)

set_option maxHeartbeats 1000000 in
set_option maxRecDepth 100000 in
theorem nameEnd_any (u : Bs) (w : World) (hl : u.length + 1 ≤ 9223372036854775807) : Calls Try.prog 24 #[.string (strOf (47 :: u))] w fun e w' =>
    ∃ p r : Bs, u = p ++ r ∧ (∀ c ∈ p, c ≠ 47) ∧ (r = [] ∨ ∃ r', r = 47 :: r') ∧ e = .returned (.int .i64 (1 + p.length : Nat)) ∧ w = w' := by
  obtain ⟨t, ht⟩ : ∃ t, t = 47 :: u := ⟨_, rfl⟩
  rw [← ht]
  have HT := Lib.hid ht
  have HL : Hid (t.length = u.length + 1) := by show _ = _; rw [ht]; rfl
  have hl1 : 1 ≤ t.length := by rw [HL.out]; omega
  have hl2 : t.length ≤ 9223372036854775807 := by rw [HL.out]; exact hl
  have e0 := strOf_size t
  clear ht hl
  go_enter Try.func24, Try.ntmps24
  go_wp2
  go_loopw [3] (fun t3 wr => ∃ k : Nat, t3 = .int .i64 k ∧ Hid (Plain t k) ∧ wr = w) (fun t3 _ => t.length - (match t3 with | .int _ k => k.toNat | _ => 0))
  case atStart => exact ⟨1, rfl, ⟨Nat.le_refl _, hl1, fun j c h1 h2 => by omega⟩, rfl⟩
  case round =>
    obtain ⟨k, rfl, HP, rfl⟩ := hrel
    have fin : (k = u.length + 1 ∨ (47 :: u)[k]? = some 47) → Hid (∃ p r : Bs, u = p ++ r ∧ (∀ c ∈ p, c ≠ 47) ∧ (r = [] ∨ ∃ r', r = 47 :: r') ∧ 1 + p.length = k) := fun h => by
      have hp := HP.out
      rw [HT.out] at hp
      exact Pa.part_at hp.1 hp.2.1 hp.2.2 h
    by_cases hk : k < t.length
    · obtain ⟨c, hc⟩ : ∃ c, t[k]? = some c := ⟨_, List.getElem?_eq_getElem hk⟩
      have hix := fun wx => str_at hc wx
      have HC := Lib.hid hc
      clear hc
      obtain ⟨n, hn⟩ : ∃ n, n = c.toNat := ⟨_, rfl⟩
      rw [← hn] at hix
      by_cases h47 : n = 47
      · have HE := fin (.inr (by rw [← HT.out, HC.out, ← UInt8.toNat_inj.1 (show c.toNat = (47 : UInt8).toNat by rw [← hn, h47]; rfl)]))
        clear fin hn
        subst h47
        go_wp2
        go_ret
        obtain ⟨p, r, h1, h2, h3, h4⟩ := HE.out
        exact ⟨p, r, h1, h2, h3, by rw [h4]; rfl, rfl⟩
      · have hne : c ≠ 47 := byte_ne (k := 47) (by rw [← hn]; exact h47) (by decide)
        have HP2 : Hid (Plain t (k + 1)) := HP.out.step HC.out hne
        have e47 : ((n : Int) == 47) = false := by simp; omega
        clear fin hn
        go_wp2
        go_roundw
        case rel => exact ⟨k + 1, rfl, HP2.out, by first | rfl | trivial⟩
        case measure => simp; omega
    · have hkt : k = u.length + 1 := by have := HP.out.2.1; rw [← HL.out]; omega
      have HE := fin (.inl hkt)
      clear fin hkt
      go_wp2
      go_ret
      obtain ⟨p, r, h1, h2, h3, h4⟩ := HE.out
      exact ⟨p, r, h1, h2, h3, by rw [h4]; rfl, rfl⟩

/-- What Split answers. -/
def SAns (s : Bs) (w : World) (e : Ending) (w' : World) : Prop := ∃ (ns : List Bs) (A : Option Addr) (c k : Nat), e = .returned (.tuple #[.slice A ns.length c, .int .i64 k]) ∧ ns.length ≤ c ∧ RdS w' A ns ∧ (ns, k) = Pa.split 8 s ∧ Below w.heap.size w w'
theorem SAns.no {s : Bs} {w : World} {k : Nat} {e : Ending} (h : Pa.split 8 s = ([], k)) (he : e = .returned (.tuple #[.slice none 0 0, .int .i64 k])) : SAns s w e w := ⟨[], none, 0, k, he, Nat.le_refl _, RdS.nil _ _, h.symm, Below.refl _ _⟩
theorem SAns.no2 {s : Bs} {w wr : World} {k : Nat} {e : Ending} (h : Pa.split 8 s = ([], k)) (hb : Below w.heap.size w wr) (he : e = .returned (.tuple #[.slice none 0 0, .int .i64 k])) : SAns s w e wr := ⟨[], none, 0, k, he, Nat.le_refl _, RdS.nil _ _, h.symm, hb⟩
theorem nameEnd_at {t u : Bs} (ht : t = 47 :: u) (w : World) (hl : t.length ≤ 9223372036854775807) : Calls Try.prog 24 #[.string (strOf t)] w fun e w' =>
    ∃ p r : Bs, u = p ++ r ∧ (∀ c ∈ p, c ≠ 47) ∧ (r = [] ∨ ∃ r', r = 47 :: r') ∧ e = .returned (.int .i64 (1 + p.length : Nat)) ∧ w = w' := by
  subst ht
  exact nameEnd_any u w hl

/-- Where Split stands. -/
def SIn (s0 t : Bs) (w wr : World) (v : Value) (long : Bool) : Prop := ∃ c, Pa.Parts s0 t c ∧ long = decide (8 < c.length) ∧ TAt w.heap.size v (c.take 8) w wr

set_option maxHeartbeats 4000000 in
set_option maxRecDepth 100000 in
theorem split_any (s : Bs) (w : World) (hl : s.length ≤ 9223372036854775807) : Calls Try.prog 16 #[.string (strOf s)] w (SAns s w) := by
  have e0 := strOf_size s
  by_cases h0 : s = []
  · subst h0
    go_enter Try.func16, Try.ntmps16
    go_wp2
    go_ret2
    exact SAns.no (k := 12) rfl rfl
  obtain ⟨c0, u, hs⟩ : ∃ c u, s = c :: u := by
    cases s with
    | nil => exact absurd rfl h0
    | cons c u => exact ⟨c, u, rfl⟩
  have hix := fun wx => str_at0 (l := s) (c := c0) (by rw [hs]; rfl) wx
  have HS := Lib.hid hs
  have hp : 0 < s.length := List.length_pos_iff.2 h0
  clear hs
  have hlen0 : ((s.length : Int) == 0) = false := by simp; omega
  by_cases h47 : c0.toNat = 47
  · obtain rfl : c0 = 47 := UInt8.toNat_inj.1 h47
    have hix2 : ∀ wx, (Instr.index 9 (.string (strOf s)) (.int .i64 0)).run Try.prog wx = .ok (.int .u8 47) wx := hix
    clear hix h47
    by_cases hu : u = []
    · have hl1 : ((s.length : Int) == 1) = true := by rw [HS.out, hu]; rfl
      have HF : Hid (Pa.split 8 s = ([], 0)) := by show _ = _; rw [HS.out, hu]; rfl
      go_enter Try.func16, Try.ntmps16
      go_wp2
      go_ret2
      exact SAns.no (k := 0) HF.out rfl
    have hl1 : ((s.length : Int) == 1) = false := by
      have : s.length = u.length + 1 := by rw [HS.out]; rfl
      have := List.length_pos_iff.2 hu
      simp; omega
    have H0 : Hid (SIn s s w w (.slice none 0 0) false) := ⟨[], by rw [HS.out]; exact Pa.Parts.begin hu, rfl, TAt.nil w⟩
    go_enter Try.func16, Try.ntmps16
    go_wp2
    go_loopw [0, 4, 5] (fun t0 t4 t5 wr => ∃ (t : Bs) (b : Bool) (v : Value), t0 = .string (strOf t) ∧ t5 = .bool b ∧ t4 = v ∧ t.length ≤ s.length ∧ Hid (SIn s t w wr v b)) (fun t0 _ _ _ => match t0 with | .string x => x.size | _ => 0)
    case atStart => exact ⟨s, false, _, rfl, rfl, rfl, Nat.le_refl _, H0⟩
    case round =>
      obtain ⟨t, b, v, rfl, rfl, rfl, hts, HI⟩ := hrel
      obtain ⟨cs, hP, hb, hT⟩ := HI.out
      have HP := Lib.hid hP
      have HB := Lib.hid hT.later
      have HT := Lib.hid hT
      have HD := Lib.hid hb
      clear hP hT hb HI H0
      have et := strOf_size t
      obtain ⟨q, hq⟩ : ∃ q, q = cs.take 8 := ⟨_, rfl⟩
      have HQ := Lib.hid hq
      rw [← hq] at HT
      clear hq
      obtain ⟨X, cap, rfl, hcap, _⟩ := HT.out.form
      by_cases ht : t = []
      · subst ht
        by_cases h8 : 8 < cs.length
        · obtain rfl : b = true := by rw [HD.out]; exact decide_eq_true h8
          have HF : Hid (Pa.split 8 s = ([], 3)) := by show _ = _; rw [HP.out.done, if_neg (by omega)]
          go_wp2
          go_ret2
          exact SAns.no2 (k := 3) HF.out HB.out rfl
        · obtain rfl : b = false := by rw [HD.out]; exact decide_eq_false h8
          have HF : Hid (Pa.split 8 s = (cs, 0)) := by show _ = _; rw [HP.out.done, if_pos (by omega)]
          have HQ2 : Hid (q = cs) := by show _ = _; rw [HQ.out, List.take_of_length_le (by omega)]
          go_wp2
          go_ret2
          obtain ⟨X2, cap2, hv, hc, hr⟩ := HT.out.form
          cases hv
          exact ⟨q, X, cap, 0, rfl, hc, hr, by rw [HF.out, HQ2.out], HB.out⟩
      obtain ⟨x, hx⟩ := HP.out.form ht
      have htl : 0 < t.length := List.length_pos_iff.2 ht
      have HX := Lib.hid hx
      clear hx
      go_wp2_with fail
      refine (nameEnd_at HX.out _ (by omega)).mono ?_
      rintro e w1 ⟨p, r, hx, hp, hr, rfl, rfl⟩
      obtain ⟨m, hm⟩ : ∃ m, m = 1 + p.length := ⟨_, rfl⟩
      have htx : t = 47 :: (p ++ r) := by rw [HX.out, hx]
      have hpm : p.length + 1 = m := by omega
      have htm : t.length = m + r.length := by rw [htx]; simp; omega
      have hsl : ∀ wx, (Instr.slice 9 (.string (strOf t)) (some (.int .i64 1)) (some (.int .i64 (m : Nat))) none).run Try.prog wx = .ok (.string (strOf p)) wx := fun wx => by
        have h := str_lh t 1 m (by omega) (by omega) wx
        have e1 : (t.drop 1).take (m - 1) = p := by rw [htx]; simp [show m - 1 = p.length by omega]
        rw [e1] at h
        exact h
      have hsr : ∀ wx, (Instr.slice 9 (.string (strOf t)) (some (.int .i64 (m : Nat))) none none).run Try.prog wx = .ok (.string (strOf r)) wx := fun wx => by
        have h := str_l t m (by omega) wx
        have e1 : t.drop m = r := by rw [htx, ← hpm]; simp
        rw [e1] at h
        exact h
      rw [← hm]
      have HPR : Hid ((∀ c ∈ p, c ≠ 47) ∧ (r = [] ∨ ∃ r', r = 47 :: r')) := ⟨hp, hr⟩
      have HTX := Lib.hid htx
      have hrl : r.length < t.length := by omega
      have hpl : p.length ≤ 9223372036854775807 := by omega
      have HM := Lib.hid htm
      clear hx hp hr htx hm htm HX hpm
      cases hg : Pa.good p with
      | false =>
        have HF : Hid (Pa.split 8 s = ([], 12)) := by
          have h := HP.out
          rw [HTX.out] at h
          exact h.bad HPR.out.1 HPR.out.2 hg
        go_wp2_with (go_at_call 17; refine (good_any p _ hpl).mono ?_; rintro e wx ⟨rfl, rfl⟩)
        go_ret2
        exact SAns.no2 (k := 12) HF.out HB.out rfl
      | true =>
        have HP2 : Hid (Pa.Parts s r (cs ++ [p])) := by
          have h := HP.out
          rw [HTX.out] at h
          exact h.step HPR.out.1 HPR.out.2 hg
        have er := strOf_size r
        by_cases h8 : q.length < 8
        · have HQ2 : Hid ((cs ++ [p]).take 8 = q ++ [p] ∧ (cs ++ [p]).length ≤ 8) := by
            have h1 := HQ.out
            have h2 : cs.length < 8 := by rw [h1, List.length_take] at h8; omega
            have h3 : q = cs := by rw [h1, List.take_of_length_le (by omega)]
            exact ⟨by rw [List.take_of_length_le (by rw [List.length_append, List.length_singleton]; omega), h3], by rw [List.length_append, List.length_singleton]; omega⟩
          have HR1 : Hid (RdS (wr.alloc (.cells #[.string (strOf p)] 9)) (some ⟨wr.heap.size, 0, none⟩) [p]) := rds_one wr p _
          have HN : Hid (q.length + [p].length ≤ 68719476736) := by show q.length + 1 ≤ _; omega
          have hbf : b = false := by rw [HD.out]; exact decide_eq_false (by have h1 := HQ2.out.2; rw [List.length_append, List.length_singleton] at h1; omega)
          subst hbf
          go_wp2_with (first | (go_at_call 17; refine (good_any p _ hpl).mono ?_; rintro e wx ⟨rfl, rfl⟩) | (at_builtin; refine wpList_append_txts rfl (.tmp 33) (.tmp 35) rfl rfl HT.out (below_new wr _) (some ⟨wr.heap.size, 0, none⟩) [p] 1 1 rfl rfl HR1.out HN.out ?_; intro v2 w2 HO2 HG2))
          obtain ⟨X2, c2, rfl, _, _⟩ := HO2.out.form
          clear HG2
          go_roundw
          case rel => exact ⟨r, false, _, rfl, rfl, rfl, by omega, cs ++ [p], HP2.out, (decide_eq_false (by have := HQ2.out.2; omega)).symm, by rw [HQ2.out.1]; exact HO2.out⟩
          case measure => simp; omega
        · have HQ2 : Hid ((cs ++ [p]).take 8 = q ∧ 8 < (cs ++ [p]).length) := by
            have h1 := HQ.out
            have h2 : 8 ≤ cs.length := by rw [h1, List.length_take] at h8; omega
            refine ⟨by rw [List.take_append_of_le_length h2, h1], by rw [List.length_append, List.length_singleton]; omega⟩
          go_wp2_with (go_at_call 17; refine (good_any p _ hpl).mono ?_; rintro e wx ⟨rfl, rfl⟩)
          go_roundw
          case rel => exact ⟨r, true, _, rfl, rfl, rfl, by omega, cs ++ [p], HP2.out, (decide_eq_true HQ2.out.2).symm, by rw [HQ2.out.1]; exact HT.out⟩
          case measure => simp; omega
  · have HF : Hid (Pa.split 8 s = ([], 12)) := by
      show _ = _
      rw [HS.out]
      have hne : c0 ≠ 47 := byte_ne (k := 47) h47 (by decide)
      unfold Pa.split
      rw [if_neg (by simp [hne])]
      simp [hne]
    have e47 : ((c0.toNat : Int) == 47) = false := by simp; omega
    go_enter Try.func16, Try.ntmps16
    go_wp2
    go_ret2
    exact SAns.no (k := 12) HF.out rfl
end Go.Proofs.Ytmdffakhejdkoaa

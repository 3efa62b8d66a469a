/-
  OWN WORK. The program's tree: paths that are formed, the node at a path, its place, the least ID that is free.
-/
import Derived.Test.YtpblhdpnmnfieaaBTrEnt
import Derived.Test.YtpblhdpnmnfieaaBTrGood
import Derived.Test.YtpblhdpnmnfieaaBPtNames
namespace Go.Proofs.Ytpblhdpnmnfieaa
open Go.RowKit Rc
open Tr (Nm En T)
namespace Tm
/-- Rows of texts, as they are read. -/
def RdP (w : World) (A : Option Addr) (ps : List (List Bs)) : Prop :=
  0 < ps.length → ∃ b off, A = some ⟨b, off, none⟩ ∧ b < w.heap.size ∧ ∀ j p, ps[j]? = some p → ∃ X c, w.cell? ⟨b, off + j, none⟩ = some (.slice X p.length c) ∧ p.length ≤ c ∧ RdS w X p
theorem rdP_one (w : World) (p : List Bs) (X : Option Addr) (c : Nat) (t : TypeId) (hc : p.length ≤ c) (hr : RdS w X p) : RdP (w.alloc (.cells #[.slice X p.length c] t)) (some ⟨w.heap.size, 0, none⟩) [p] := by
  intro _
  refine ⟨_, _, rfl, by rw [World.size_alloc]; omega, fun j q hj => ?_⟩
  have hj0 : j = 0 := by
    have := (List.getElem?_eq_some_iff.1 hj).1
    simp at this; exact this
  subst hj0
  obtain rfl : p = q := by simpa using hj
  exact ⟨X, c, (Blk.new w t [.slice X p.length c]).cell 0, hc, hr.below (below_new w _)⟩
theorem rdP_two (w : World) (p q : List Bs) (X Y : Option Addr) (c d : Nat) (t : TypeId) (hc : p.length ≤ c) (hr : RdS w X p) (hd : q.length ≤ d) (hs : RdS w Y q) : RdP (w.alloc (.cells #[.slice X p.length c, .slice Y q.length d] t)) (some ⟨w.heap.size, 0, none⟩) [p, q] := by
  intro _
  refine ⟨_, _, rfl, by rw [World.size_alloc]; omega, fun j r hj => ?_⟩
  have hb := Blk.new w t [.slice X p.length c, .slice Y q.length d]
  rcases j with _ | _ | j
  · obtain rfl : p = r := by simpa using hj
    exact ⟨X, c, hb.cell 0, hc, hr.below (below_new w _)⟩
  · obtain rfl : q = r := by simpa using hj
    exact ⟨Y, d, hb.cell 1, hd, hs.below (below_new w _)⟩
  · simp at hj
/-- The first of the paths that can be none. -/
def formedL : List (List Bs) → Nat
  | [] => 0
  | p :: ps => if Tr.formed p ≠ 0 then Tr.formed p else formedL ps
theorem formedL_drop {ps : List (List Bs)} {k : Nat} (h : ∀ p ∈ ps.take k, Tr.formed p = 0) : formedL ps = formedL (ps.drop k) := by
  induction k generalizing ps with
  | zero => rfl
  | succ k ih =>
    cases ps with
    | nil => rfl
    | cons p ps =>
      rw [List.take_succ_cons] at h
      rw [List.drop_succ_cons, formedL, if_neg (by rw [h p (.head _)]; simp), ih fun q hq => h q (.tail _ hq)]
theorem formedL_at {ps : List (List Bs)} {k : Nat} {p : List Bs} (hp : ps[k]? = some p) (h : ∀ p ∈ ps.take k, Tr.formed p = 0) (hf : Tr.formed p ≠ 0) : formedL ps = Tr.formed p := by
  rw [formedL_drop h, List.drop_eq_getElem_cons (List.getElem?_eq_some_iff.1 hp).1, (List.getElem?_eq_some_iff.1 hp).2, formedL, if_pos hf]
theorem take_all {α : Type} {l : List α} {k : Nat} {x : α} {P : α → Prop} (hx : l[k]? = some x) (h : ∀ y ∈ l.take k, P y) (hp : P x) : ∀ y ∈ l.take (k + 1), P y := fun y hy => by
  rw [List.take_succ_eq_append_getElem (List.getElem?_eq_some_iff.1 hx).1, List.mem_append] at hy
  rcases hy with hy | hy
  · exact h y hy
  · simp only [List.mem_singleton] at hy
    rw [hy, (List.getElem?_eq_some_iff.1 hx).2]; exact hp

set_option maxHeartbeats 2000000 in
set_option maxRecDepth 100000 in
theorem formed_any (w : World) (A : Option Addr) (ps : List (List Bs)) (cap : Nat) (hr : RdP w A ps) (hl : ps.length ≤ 1000000) (hs : ∀ p ∈ ps, p.length ≤ 1000000 ∧ ∀ s ∈ p, s.length ≤ 9223372036854775807) :
    Calls Try.prog 23 #[.slice A ps.length cap] w fun e w' => e = .returned (.int .i64 (formedL ps : Nat)) ∧ w' = w := by
  have HR := Lib.hid hr
  have HS := Lib.hid hs
  clear hr hs
  go_enter Try.func23, Try.ntmps23
  go_wp2_with fail
  go_loopw [4, 6, 9, 13, 14, 15] (fun t4 t6 t9 t13 t14 t15 wr => ∃ (k : Nat) (v4 v6 v13 v14 v15 : Value), t4 = v4 ∧ t6 = v6 ∧ t9 = .int .i64 k ∧ t13 = v13 ∧ t14 = v14 ∧ t15 = v15 ∧ k ≤ ps.length ∧ Hid (∀ p ∈ ps.take k, Tr.formed p = 0) ∧ wr = w) (fun _ _ t9 _ _ _ _ => ps.length - (match t9 with | .int _ k => k.toNat | _ => 0))
  case atStart => exact ⟨0, _, _, _, _, _, rfl, rfl, rfl, rfl, rfl, rfl, Nat.zero_le _, fun e he => by simp at he, rfl⟩
  case round =>
    obtain ⟨k, v4, v6, v13, v14, v15, rfl, rfl, rfl, rfl, rfl, rfl, hk1, HN, rfl⟩ := hrel
    by_cases hk : k < ps.length
    · obtain ⟨p, hp⟩ : ∃ p, ps[k]? = some p := ⟨_, List.getElem?_eq_getElem hk⟩
      obtain ⟨b, off, rfl, _, hcell⟩ := HR.out (by omega)
      obtain ⟨X, c, c0, hpc, hrp⟩ := hcell k p hp
      have hlt : (k : Int) < (ps.length : Int) := by omega
      have HP := Lib.hid hp
      have HRP := Lib.hid hrp
      obtain ⟨hp1, hp2⟩ := HS.out p (List.mem_of_getElem? hp)
      have HP2 := Lib.hid hp2
      clear hp hrp hcell hp2
      go_wp2_with fail
      go_loopw [6, 15] (fun t6 t15 wr2 => ∃ (j : Nat) (v6 : Value), t6 = v6 ∧ t15 = .int .i64 j ∧ j ≤ p.length ∧ Hid (∀ s ∈ p.take j, Pa.good s = true) ∧ wr2 = wr) (fun _ t15 _ => p.length - (match t15 with | .int _ k => k.toNat | _ => 0))
      case atStart => exact ⟨0, _, rfl, rfl, Nat.zero_le _, fun e he => by simp at he, rfl⟩
      case round =>
        obtain ⟨j, v6', rfl, rfl, hj, HG, rfl⟩ := hrel
        by_cases hjk : j < p.length
        · obtain ⟨s, hs⟩ : ∃ s, p[j]? = some s := ⟨_, List.getElem?_eq_getElem hjk⟩
          obtain ⟨b2, off2, rfl, c1⟩ := HRP.out.at_ hs
          have hlt2 : (j : Int) < (p.length : Int) := by omega
          have HSS := Lib.hid hs
          have HGD := Lib.hid (good_any s wr (HP2.out s (List.mem_of_getElem? hs)))
          clear hs
          go_wp2_with fail
          refine HGD.out.mono ?_
          rintro e w1 ⟨rfl, rfl⟩
          cases hg : Pa.good s
          · have HF : Hid (formedL ps = 12) := by
              have e : Tr.formed p = 12 := by
                unfold Tr.formed
                rw [if_neg]
                intro h
                rw [List.all_eq_true] at h
                rw [h s (List.mem_of_getElem? HSS.out)] at hg
                cases hg
              show _ = _
              rw [formedL_at HP.out HN.out (by rw [e]; simp), e]
            go_wp2_with fail
            go_ret
            exact ⟨by rw [HF.out]; rfl, rfl⟩
          · have HG1 := Lib.hid (take_all HSS.out HG.out hg)
            go_wp2_with fail
            go_roundw
            case rel => exact ⟨j + 1, _, rfl, by go_num, by omega, HG1.out, by first | rfl | trivial⟩
            case measure => simp; omega
        · obtain rfl : j = p.length := by omega
          have hall : p.all Pa.good = true := by
            rw [List.all_eq_true]
            intro s hs
            exact HG.out s (by rw [List.take_length]; exact hs)
          by_cases h8 : 8 < p.length
          · have HF : Hid (formedL ps = 3) := by
              have e : Tr.formed p = 3 := by unfold Tr.formed; rw [if_pos hall, if_pos h8]
              show _ = _
              rw [formedL_at HP.out HN.out (by rw [e]; simp), e]
            have h8i : (8 : Int) < (p.length : Int) := by omega
            clear hall
            go_wp2_with fail
            go_ret
            exact ⟨by rw [HF.out]; rfl, rfl⟩
          · have HN1 := Lib.hid (take_all HP.out HN.out (show Tr.formed p = 0 by unfold Tr.formed; rw [if_pos hall, if_neg h8]))
            have h8i : ¬ (8 : Int) < (p.length : Int) := by omega
            clear hall
            go_wp2_with fail
            go_roundw
            case rel => exact ⟨k + 1, _, _, _, _, _, rfl, rfl, by go_num, rfl, rfl, rfl, by omega, HN1.out, by first | rfl | trivial⟩
            case measure => simp; omega
    · obtain rfl : k = ps.length := by omega
      have HF : Hid (formedL ps = 0) := by
        show _ = _
        rw [formedL_drop HN.out, List.drop_eq_nil_of_le (Nat.le_refl _)]; rfl
      go_wp2_with fail
      go_ret
      exact ⟨by rw [HF.out]; rfl, rfl⟩
end Tm
end Go.Proofs.Ytpblhdpnmnfieaa

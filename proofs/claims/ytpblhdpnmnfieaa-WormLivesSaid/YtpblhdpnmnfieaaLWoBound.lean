/-
  OWN WORK. Law 12's WormBound, walked: a tree is bound just while a closed file in it is not due.
-/
import Derived.Test.YtpblhdpnmnfieaaLWoLive
import Derived.Test.YtpblhdpnmnfieaaLTrOneFile
namespace Go.Proofs.Ytpblhdpnmnfieaa
open Go.RowKit Rc
open Tr (Nm En T)
namespace Wo
def B1 : T := (Tr.make Tr.new [[102]] 1).2
def B2 : T := (Tr.make B1 [[100]] 2).2
def B3 (u : Nat) : T := (Tr.seal_ B2 1 u).2
theorem b1_make : Tr.make Tr.new [[102]] 1 = ((1, 0), B1) := rfl
theorem b2_make : Tr.make B1 [[100]] 2 = ((2, 0), B2) := rfl
theorem b2_file : Tr.file B2 1 = 0 := rfl
theorem b2_nd : Tr.ndOf B2 1 = ⟨1, 1, 1, 0, 0, false⟩ := rfl
theorem b3_is (u : Nat) (h : u ≤ 1099511627776) : Tr.seal_ B2 1 u = (0, Tr.upd B2 1 (Tr.shutE u)) := by
  unfold Tr.seal_
  rw [b2_file, b2_nd, if_neg (by simp), if_neg (by simp), if_neg (by omega), if_neg (by show ¬ (1 : Int) = 0; omega)]
theorem b3_seal (u : Nat) (h : u ≤ 1099511627776) : Tr.seal_ B2 1 u = (0, B3 u) := by unfold B3; rw [b3_is u h]
theorem b1_good : Tr.Good B1 := Tr.make_good Tr.new_good _ _
theorem b2_good : Tr.Good B2 := Tr.make_good b1_good _ _
theorem b3_good (u : Nat) : Tr.Good (B3 u) := Tr.seal_good b2_good 1 u
theorem b2_live (now : Nat) : live B2 now = [] := rfl
theorem b3_live (u now : Nat) (h : u ≤ 1099511627776) : live (B3 u) now = if now < u then [1] else [] := by
  unfold B3
  rw [b3_is u h]
  show live [⟨⟨0, 2, 1, 0, 0, true⟩, [], [([100], 2), ([102], 1)]⟩, ⟨⟨1, 1, 1, 0, u, true⟩, [], []⟩, ⟨⟨2, 2, 1, 0, 0, true⟩, [], []⟩] now = _
  by_cases hu : now < u <;> simp [live, kept, hu]
theorem bound_is {v : Value} {w0 w : World} {t : T} {B0 : Nat → Prop} (h : Tm.One1 v w0 t B0 w) (hG : Tr.Good t) (now : Nat) (b : Bool) (hb : decide (0 < (live t now).length) = b) :
    Calls Try.prog 10 #[v, .int .u64 (now : Nat)] w fun e w' => e = .returned (.bool b) ∧ Below w.heap.size w w' := by
  rw [← hb]; exact bound_any h hG now
theorem live_is {v : Value} {w0 w : World} {t : T} {B0 : Nat → Prop} (h : Tm.One1 v w0 t B0 w) (hG : Tr.Good t) (now : Nat) {l : List Int} (hl : live t now = l) :
    Calls Try.prog 9 #[v, .int .u64 (now : Nat)] w (LiveAns l w) := by
  rw [← hl]; exact live_any h hG now

set_option maxHeartbeats 4000000 in
set_option maxRecDepth 100000 in
theorem bounds_any (w : World) (un nw : Nat) (op : Bool) :
    Calls Try.prog 7 #[.int .u64 (un : Nat), .int .u64 (nw : Nat), .bool op] w fun e w' => e = .returned (.bool true) ∧ Below w.heap.size w w' := by
  have HNEW := Lib.hid (Tm.o_new w)
  obtain ⟨u, hu⟩ : ∃ u, u = un % 50 := ⟨_, rfl⟩
  have hu1 : u < 50 := by omega
  have e1 : (un : Int) % 50 = (u : Int) := by omega
  obtain ⟨n, hn⟩ : ∃ n, n = nw % 60 := ⟨_, rfl⟩
  have e2 : (nw : Int) % 60 = (n : Int) := by omega
  clear hu hn
  go_enter Try.func7, Try.ntmps7
  go_wp2_with fail
  refine HNEW.out.mono ?_
  rintro e w1 ⟨p, B1', rfl, h1⟩
  have HO := Lib.hid h1
  clear h1
  go_wp2_with fail
  refine (Tm.make_lit HO.out Tr.new_good [[102]] 1 b1_make (by decide) (by decide)).mono ?_
  intro e w2 ht
  obtain ⟨rfl, B2', H2⟩ := ht.one
  clear ht HO
  go_wp2_with fail
  refine (Tm.make_lit H2.out b1_good [[100]] 2 b2_make (by decide) (by decide)).mono ?_
  intro e w3 ht
  obtain ⟨rfl, B3', H3⟩ := ht.one
  clear ht H2
  go_wp2_with fail
  refine (bound_is H3.out b2_good n false rfl).mono ?_
  rintro e w4 ⟨rfl, hb⟩
  have H4 := Lib.hid (H3.out.later hb)
  clear H3 hb
  cases op with
  | true =>
    go_wp2_with fail
    refine (live_is H4.out b2_good n (b2_live n)).mono ?_
    rintro e w5 ⟨A, c, rfl, hc, _, HB⟩
    have H5 := Lib.hid (H4.out.later HB.out)
    clear H4 HB
    go_wp2_with fail
    refine (bound_is H5.out b2_good n false rfl).mono ?_
    rintro e w6 ⟨rfl, hb⟩
    have H6 := Lib.hid (H5.out.later hb)
    clear H5 hb
    go_wp2_with fail
    refine (bound_is H6.out b2_good u false rfl).mono ?_
    rintro e w7 ⟨rfl, hb⟩
    have H7 := Lib.hid (H6.out.later hb)
    clear H6 hb
    go_wp2_with fail
    refine (known_any w7).mono ?_
    rintro e w8 ⟨rfl, hb⟩
    have H8 := Lib.hid (H7.out.later hb)
    clear H7 hb
    go_wp2_with fail
    go_ret
    exact ⟨rfl, H8.out.low⟩
  | false =>
    have HGD := Lib.hid (b3_good u)
    have HLN := Lib.hid (b3_live u n (by omega))
    have HLU := Lib.hid (b3_live u u (by omega))
    go_wp2_with fail
    refine (Tm.Turn1.to (t' := B3 u) (Tm.o_seal H4.out b2_good 1 u (by omega)) (b3_seal u (by omega)) rfl).mono ?_
    intro e w5 ht
    obtain ⟨rfl, B5, H5⟩ := ht.one
    clear ht H4
    by_cases hlt : n < u
    · have hq : (n : Int) < (u : Int) := by omega
      have hl := HLN.out
      rw [if_pos hlt] at hl
      have HL1 := Lib.hid hl
      have hl2 := HLU.out
      rw [if_neg (by omega)] at hl2
      have HL2 := Lib.hid hl2
      clear hl hl2 HLN HLU
      go_wp2_with fail
      refine (live_is H5.out HGD.out n HL1.out).mono ?_
      rintro e w6 ⟨A, c, rfl, hc, HRI, HB⟩
      have H6 := Lib.hid (H5.out.later HB.out)
      obtain ⟨_, b, off, rfl, hbl, hcell⟩ := HRI.out 0 1 rfl
      clear H5 HB HRI
      go_wp2_with fail
      refine (bound_is H6.out HGD.out n true (by rw [HL1.out]; rfl)).mono ?_
      rintro e w7 ⟨rfl, hb⟩
      have H7 := Lib.hid (H6.out.later hb)
      have hc7 : w7.cell? ⟨b, off, none⟩ = some (.int .i64 1) := cell_later hb (by simpa using hcell)
      clear H6 hb hcell hbl
      go_wp2_with fail
      clear hc7
      refine (bound_is H7.out HGD.out u false (by rw [HL2.out]; rfl)).mono ?_
      rintro e w8 ⟨rfl, hb⟩
      have H8 := Lib.hid (H7.out.later hb)
      clear H7 hb
      go_wp2_with fail
      refine (known_any w8).mono ?_
      rintro e w9 ⟨rfl, hb⟩
      have H9 := Lib.hid (H8.out.later hb)
      clear H8 hb
      go_wp2_with fail
      go_ret
      exact ⟨rfl, H9.out.low⟩
    · have hq : ¬ (n : Int) < (u : Int) := by omega
      have hl := HLN.out
      rw [if_neg hlt] at hl
      have HL1 := Lib.hid hl
      have hl2 := HLU.out
      rw [if_neg (by omega)] at hl2
      have HL2 := Lib.hid hl2
      clear hl hl2 HLN HLU
      go_wp2_with fail
      refine (live_is H5.out HGD.out n HL1.out).mono ?_
      rintro e w6 ⟨A, c, rfl, hc, _, HB⟩
      have H6 := Lib.hid (H5.out.later HB.out)
      clear H5 HB
      go_wp2_with fail
      refine (bound_is H6.out HGD.out n false (by rw [HL1.out]; rfl)).mono ?_
      rintro e w7 ⟨rfl, hb⟩
      have H7 := Lib.hid (H6.out.later hb)
      clear H6 hb
      go_wp2_with fail
      refine (bound_is H7.out HGD.out u false (by rw [HL2.out]; rfl)).mono ?_
      rintro e w8 ⟨rfl, hb⟩
      have H8 := Lib.hid (H7.out.later hb)
      clear H7 hb
      go_wp2_with fail
      refine (known_any w8).mono ?_
      rintro e w9 ⟨rfl, hb⟩
      have H9 := Lib.hid (H8.out.later hb)
      clear H8 hb
      go_wp2_with fail
      go_ret
      exact ⟨rfl, H9.out.low⟩
end Wo
end Go.Proofs.Ytpblhdpnmnfieaa

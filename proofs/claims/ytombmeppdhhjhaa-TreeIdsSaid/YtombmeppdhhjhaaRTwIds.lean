/-
  OWN WORK. Law 11's TreeIds, walked: a new node has the least ID that is free; what is gone frees its own.
-/
import Derived.Test.YtombmeppdhhjhaaRTwPlayed
import Derived.Test.YtombmeppdhhjhaaRTrKnown
import Derived.Test.YtombmeppdhhjhaaRPtWithin
namespace Go.Proofs.Ytombmeppdhhjhaa
open Go.RowKit Rc
open Tr (Nm En T)
namespace Tw
open Tm (One1 Turn1)
/-- Below the least free ID, each is there; it is not. -/
theorem least_is {t : T} (h : Tr.Good t) : ∃ F : Nat, Tr.free t = (F : Int) ∧ 1 ≤ F ∧ F ≤ 64 ∧ (Tr.node t (F : Int)).2 = false ∧ ∀ k : Nat, k < F → (Tr.node t (k : Int)).2 = true := by
  obtain ⟨F, h1, h2, h3, h4, h5, _⟩ := Rf.free_spec h
  have hf := h.few
  refine ⟨F, h1, h2, by omega, ?_, fun k hk => ?_⟩
  · show (Tr.find t (F : Int)).isSome = false
    rw [Tr.find_none.2 h4]
    rfl
  · show (Tr.find t (k : Int)).isSome = true
    obtain ⟨e, he, hid⟩ := h5 k hk
    exact Tr.find_isSome.2 ⟨e, List.mem_of_getElem? he, hid⟩
theorem rmdir_lit {v : Value} {w0 w : World} {t : T} {B : Nat → Prop} (h : One1 v w0 t B w) (hG : Tr.Good t) (q : List Bs) {t' : T} {n : Nat} (hq : Tr.rmdir t q = (n, t')) (hl : q.length ≤ 1000000) (hs : ∀ s ∈ q, s.length ≤ 1000000) :
    Calls Try.prog 17 #[v, .slice (some ⟨w.heap.size, 0, none⟩) q.length q.length] (w.alloc (.cells (txtCells q).toArray 9)) (Turn1 v w0 t' B (.int .i64 (n : Nat)) w) := by
  have h1 := Tm.o_rmdir (h.later (below_new w (.cells (txtCells q).toArray 9))) hG (some ⟨w.heap.size, 0, none⟩) q q.length (rds_alloc w q 9 (0, 0)) (Nat.le_refl _) hl hs
  rw [hq] at h1
  refine h1.mono ?_
  rintro e w' ⟨he, B', k1, k2, k3⟩
  have hb := below_new w (.cells (txtCells q).toArray 9)
  exact ⟨he, B', k1, ⟨k2.os, k2.tape, k2.output, Nat.le_trans hb.size k2.size, fun b hb2 hn => (k2.block b (Nat.lt_of_lt_of_le hb2 hb.size) hn).trans (hb.block b hb2)⟩, fun b hb2 => (k3 b hb2).imp id fun h4 => Nat.le_trans hb.size h4⟩
set_option maxHeartbeats 8000000 in
set_option maxRecDepth 100000 in
theorem ids_any (w : World) (ps : List AskT) (A : Option Addr) (c1 : Nat) (n1 : Int) (hp : AsksT w A ps) (hl : ps.length ≤ 9223372036854775807) (hn : -9223372036854775808 ≤ n1 ∧ n1 ≤ 9223372036854775807) :
    Calls Try.prog 4 #[.slice A ps.length c1, .int .i64 n1] w fun e w' => e = .returned (.bool true) ∧ Below w.heap.size w w' := by
  have HPL := Lib.hid (played_any w ps A c1 hp hl)
  have HWI : Hid (∀ W, Calls Try.prog 10 #[.int .i64 n1, .int .i64 0, .int .i64 1] W fun e w' => (e = .returned (.int .i64 0) ∨ e = .returned (.int .i64 1)) ∧ W = w') := fun W => (Wi.within_to n1 1 1 W (by omega) (by omega) hn.1 hn.2).mono fun e w' ⟨k, hk, he, hw⟩ => by
    subst he
    refine ⟨?_, hw⟩
    rcases (by omega : k = 0 ∨ k = 1) with rfl | rfl
    · exact .inl rfl
    · exact .inr rfl
  clear hp hl hn
  go_enter Try.func4, Try.ntmps4
  go_wp2_with fail
  refine HPL.out.mono ?_
  rintro e w1 ⟨p, q, Tt, B1, B2, rfl, hpl⟩
  have HG := Lib.hid hpl.good
  have HS := Lib.hid hpl.short
  have HO : Hid (One1 (.pointer (some ⟨p, 0, none⟩)) w Tt B1 w1) := ⟨hpl.t, Mod.of_below hpl.low _, fun b hb => .inr (hpl.up b (.inl hb)), hpl.low, fun b hb => hpl.up b (.inl hb)⟩
  obtain ⟨F, hF, hF1, hF64, hno, hyes⟩ := least_is hpl.good
  have HF := Lib.hid hF
  have HN : Hid (∀ (W : World) (k : Nat), k ≤ F → One1 (.pointer (some ⟨p, 0, none⟩)) w Tt B1 W → Calls Try.prog 13 #[.pointer (some ⟨p, 0, none⟩), .int .i64 (k : Int)] W fun e w' => ∃ (a1 a2 a3 a4 : Int) (a5 : Nat) (a6 fo : Bool), e = .returned (.tuple #[.agg #[.int .i64 a1, .int .i64 a2, .int .i64 a3, .int .i64 a4, .int .u64 (a5 : Nat), .bool a6], .bool fo]) ∧ Hid ((k < F → fo = true) ∧ (k = F → fo = false)) ∧ Hid (One1 (.pointer (some ⟨p, 0, none⟩)) w Tt B1 w')) := fun W k hk hW => by
    have h := Tm.o_node hW HG.out (k : Int)
    refine h.mono ?_
    rintro e w' ⟨he, hb⟩
    obtain ⟨⟨⟨a1, a2, a3, a4, a5, a6⟩, fo⟩, hz⟩ : ∃ z, z = Tr.node Tt (k : Int) := ⟨_, rfl⟩
    rw [← hz] at he
    refine ⟨a1, a2, a3, a4, a5, a6, fo, he, ⟨fun h => ?_, fun h => ?_⟩, hW.later hb⟩
    · have := hyes k h
      rw [← hz] at this
      exact this
    · rw [h, ] at hz
      rw [← hz] at hno
      exact hno
  clear hpl hF hno hyes HPL
  go_upto_block 0 with (fail)
  go_cut [7] (fun t7 wx => ∃ WX, WX = wx ∧ t7 = .int .i64 (F : Int) ∧ Hid (One1 (.pointer (some ⟨p, 0, none⟩)) w Tt B1 WX))
  case first =>
    go_wp2_with fail
    go_loopw [7] (fun t7 wr => ∃ k : Nat, 1 ≤ k ∧ k ≤ F ∧ t7 = .int .i64 (k : Nat) ∧ Hid (One1 (.pointer (some ⟨p, 0, none⟩)) w Tt B1 wr)) (fun t7 _ => F - (intOf t7).toNat)
    case atStart => exact ⟨1, by omega, by omega, rfl, HO⟩
    case round =>
      clear HO
      obtain ⟨k, hk1, hkF, rfl, HK⟩ := hrel
      have HND := Lib.hid (HN.out wr k hkF HK.out)
      go_wp2_with fail
      refine HND.out.mono ?_
      rintro e w2 ⟨a1, a2, a3, a4, a5, a6, fo, rfl, HFO, HK2⟩
      have HK3 : Hid (One1 (.pointer (some ⟨p, 0, none⟩)) w Tt B1 (w2.alloc (.cells #[.int .i64 a1, .int .i64 a2, .int .i64 a3, .int .i64 a4, .int .u64 (a5 : Nat), .bool a6] 38))) := HK2.out.later (below_new w2 _)
      clear HND HK HK2
      by_cases hlt : k < F
      · obtain rfl : fo = true := HFO.out.1 hlt
        clear HFO
        go_wp2_with fail
        go_roundw
        case rel => exact ⟨k + 1, by omega, by omega, by go_num, HK3⟩
        case measure => simp [intOf]; omega
      · obtain rfl : fo = false := HFO.out.2 (by omega)
        clear HFO
        have hkf : k = F := by omega
        subst hkf
        go_wp2_with fail
        go_meet
        case rel => exact ⟨_, rfl, rfl, HK3⟩
  case rest =>
  obtain ⟨WX, hWX, rfl, HO2⟩ := hcut
  subst hWX
  clear HO HN
  obtain ⟨N, hN⟩ : ∃ N, N = Tt.length := ⟨_, rfl⟩
  have hcn := Tm.o_count HO2.out
  rw [← hN] at hcn
  have HCN := Lib.hid hcn
  clear hcn
  have HKN : Hid (∀ W, Calls Try.prog 14 #[] W fun e w' => e = .returned (.bool true) ∧ Below W.heap.size W w') := fun W => Tm.known_any W
  have hfew := HG.out.few
  by_cases h64 : 64 ≤ N
  · have hN64 : N = 64 := by omega
    have HM : Hid (Tr.make Tt [[110, 101, 119]] 2 = ((0, 4), Tt)) := by
      show _ = _
      rw [Tr.make_one HG.out HS.out (by decide) (by decide) (.inr rfl), if_pos (by omega)]
    clear hN hfew h64
    subst hN64
    go_wp2_with fail
    refine HCN.out.mono ?_
    rintro e _ ⟨rfl, rfl⟩
    clear HCN
    go_wp2_with fail
    refine (Tm.make_lit HO2.out HG.out [[110, 101, 119]] 2 HM.out (by decide) (by decide)).mono ?_
    intro e w3 ht
    obtain ⟨rfl, B3, H3⟩ := ht.one
    clear ht HO2
    go_wp2_with fail
    refine (HKN.out _).mono ?_
    rintro e w4 ⟨rfl, hb4⟩
    have H4 : Hid (Below w.heap.size w w4) := H3.out.low.trans (hb4.mono H3.out.low.size)
    clear hb4
    go_wp2_with fail
    go_ret
    exact ⟨rfl, H4.out⟩
  · have hn1 := Tr.new_one HG.out HS.out (x := [110, 101, 119]) (by decide) (by decide) (by omega)
    have hm2 : ∀ kind : Int, kind = 1 ∨ kind = 2 → ∃ T3, Tr.make Tt [[111, 116, 104, 101, 114]] kind = (((F : Int), 0), T3) := fun kind hk => by
      rw [Tr.make_one HG.out HS.out (by decide) (by decide) hk, if_neg (by omega), HF.out]
      exact ⟨_, rfl⟩
    obtain ⟨T2, hT2⟩ : ∃ z, z = Tr.put (Tr.insE Tt (Tr.fresh (Tr.free Tt) 2)) 0 [110, 101, 119] (Tr.free Tt) := ⟨_, rfl⟩
    rw [← hT2, HF.out] at hn1
    obtain ⟨e1, e2, e3, e4, e5⟩ := hn1
    have HM1 := Lib.hid e1
    have HG2 := Lib.hid e2
    have HL2 : Hid (T2.length = N + 1) := by show _ = _; rw [e3, hN]
    have HM3 := Lib.hid e4
    have HM4 := Lib.hid e5
    have HM5 := Lib.hid hm2
    have HNN := Lib.hid hN
    have hN64 : N < 64 := by omega
    clear e1 e2 e3 e4 e5 hm2 hT2 hN hfew h64
    go_wp2_with fail
    refine HCN.out.mono ?_
    rintro e _ ⟨rfl, rfl⟩
    clear HCN
    go_wp2_with fail
    refine (Tm.make_lit HO2.out HG.out [[110, 101, 119]] 2 HM1.out (by decide) (by decide)).mono ?_
    intro e w3 ht
    obtain ⟨rfl, B3, H3⟩ := ht.one
    clear ht HO2
    go_wp2_with fail
    refine (Tm.make_lit H3.out HG2.out [[110, 101, 119]] 1 HM3.out (by decide) (by decide)).mono ?_
    intro e w4 ht
    obtain ⟨rfl, B4, H4⟩ := ht.one
    clear ht H3
    have hcn := Tm.o_count H4.out
    rw [HL2.out, Int.natCast_add, Int.natCast_one] at hcn
    have HCN := Lib.hid hcn
    clear hcn
    go_wp2_with fail
    refine HCN.out.mono ?_
    rintro e _ ⟨rfl, rfl⟩
    clear HCN
    go_wp2_with fail
    refine (rmdir_lit H4.out HG2.out [[110, 101, 119]] HM4.out (by decide) (by decide)).mono ?_
    intro e w5 ht
    obtain ⟨rfl, B5, H5⟩ := ht.one
    clear ht H4
    have hcn := Tm.o_count H5.out
    rw [← HNN.out] at hcn
    have HCN := Lib.hid hcn
    clear hcn
    go_wp2_with fail
    refine HCN.out.mono ?_
    rintro e _ ⟨rfl, rfl⟩
    clear HCN
    go_wp2_with fail
    refine (HWI.out _).mono ?_
    rintro e w6 ⟨he, hw6⟩
    subst hw6
    rcases he with rfl | rfl
    · obtain ⟨T3, hT3⟩ := HM5.out 1 (.inl rfl)
      have HT3 := Lib.hid hT3
      clear hT3
      go_wp2_with fail
      refine (Tm.make_lit H5.out HG.out [[111, 116, 104, 101, 114]] 1 HT3.out (by decide) (by decide)).mono ?_
      intro e w7 ht
      obtain ⟨rfl, B7, H7⟩ := ht.one
      clear ht H5
      go_wp2_with fail
      refine (HKN.out _).mono ?_
      rintro e w8 ⟨rfl, hb8⟩
      have H8 : Hid (Below w.heap.size w w8) := H7.out.low.trans (hb8.mono H7.out.low.size)
      clear hb8
      go_wp2_with fail
      go_ret
      exact ⟨rfl, H8.out⟩
    · obtain ⟨T3, hT3⟩ := HM5.out 2 (.inr rfl)
      have HT3 := Lib.hid hT3
      clear hT3
      go_wp2_with fail
      refine (Tm.make_lit H5.out HG.out [[111, 116, 104, 101, 114]] 2 HT3.out (by decide) (by decide)).mono ?_
      intro e w7 ht
      obtain ⟨rfl, B7, H7⟩ := ht.one
      clear ht H5
      go_wp2_with fail
      refine (HKN.out _).mono ?_
      rintro e w8 ⟨rfl, hb8⟩
      have H8 : Hid (Below w.heap.size w w8) := H7.out.low.trans (hb8.mono H7.out.low.size)
      clear hb8
      go_wp2_with fail
      go_ret
      exact ⟨rfl, H8.out⟩
end Tw
end Go.Proofs.Ytombmeppdhhjhaa

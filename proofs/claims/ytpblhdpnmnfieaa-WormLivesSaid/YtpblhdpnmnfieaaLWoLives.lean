/-
  OWN WORK. Law 12's WormLives, walked: just the closed files that are not due live.
-/
import Derived.Test.YtpblhdpnmnfieaaLWoFiles
import Derived.Test.YtpblhdpnmnfieaaLWoBound
import Derived.Test.YtpblhdpnmnfieaaL01
import Derived.Deep.CutBlock
import Derived.Deep.RegionHeld3
namespace Go.Proofs.Ytpblhdpnmnfieaa
open Go.RowKit Rc
open Tr (Nm En T)
namespace Wo
theorem rdi_below {w w' : World} {A : Option Addr} {l : List Int} (h : RdI w A l) (hb : Below w.heap.size w w') : RdI w' A l := fun j x hj => by
  obtain ⟨h1, b, off, h2, h3, h4⟩ := h j x hj
  exact ⟨h1, b, off, h2, Nat.lt_of_lt_of_le h3 hb.size, cell_later hb h4⟩
theorem rune_run : ∀ i, i < 20 → ∀ w, (convert 21 9 (.int .i32 ((97 + i : Nat) : Int))).run Try.prog w = .ok (.string (strOf [UInt8.ofNat (97 + i)])) w := by
  intro i hi w
  match i, hi with
  | 0, _ => rfl
  | 1, _ => rfl
  | 2, _ => rfl
  | 3, _ => rfl
  | 4, _ => rfl
  | 5, _ => rfl
  | 6, _ => rfl
  | 7, _ => rfl
  | 8, _ => rfl
  | 9, _ => rfl
  | 10, _ => rfl
  | 11, _ => rfl
  | 12, _ => rfl
  | 13, _ => rfl
  | 14, _ => rfl
  | 15, _ => rfl
  | 16, _ => rfl
  | 17, _ => rfl
  | 18, _ => rfl
  | 19, _ => rfl
  | k + 20, h => exact absurd h (by omega)

set_option maxHeartbeats 8000000 in
set_option maxRecDepth 100000 in
theorem lives_any (w : World) (AU : Option Addr) (us : List Int) (cu : Nat) (AO : Option Addr) (os : List Bool) (co : Nat) (nw lw : Nat)
    (hru : RdU w AU us) (hcu : us.length ≤ cu) (hlu : us.length ≤ 9223372036854775807) (hub : ∀ x ∈ us, 0 ≤ x) (hro : RdB w AO os) (hco : os.length ≤ co) (hlo : os.length ≤ 9223372036854775807) :
    Calls Try.prog 5 #[.slice AU us.length cu, .slice AO os.length co, .int .u64 (nw : Nat), .int .u64 (lw : Nat)] w fun e w' => e = .returned (.bool true) ∧ Below w.heap.size w w' := by
  have HNEW := Lib.hid (Tm.o_new w)
  have HRU := Lib.hid hru
  have HRO := Lib.hid hro
  have HUB := Lib.hid hub
  obtain ⟨nu, hnu⟩ : ∃ nu, nu = us.length := ⟨_, rfl⟩
  obtain ⟨no, hno⟩ : ∃ no, no = os.length := ⟨_, rfl⟩
  rw [← hnu] at hcu hlu ⊢
  rw [← hno] at hco hlo ⊢
  have HNU := Lib.hid hnu
  have HNO := Lib.hid hno
  obtain ⟨n, hn⟩ : ∃ n, n = nw % 30 := ⟨_, rfl⟩
  have hn1 : n < 30 := by omega
  have e1 : (nw : Int) % 30 = (n : Int) := by omega
  obtain ⟨l1, hl1⟩ : ∃ l1, l1 = lw % 30 := ⟨_, rfl⟩
  have hl2 : l1 < 30 := by omega
  have e2 : (lw : Int) % 30 = (l1 : Int) := by omega
  obtain ⟨m, hm⟩ : ∃ m, m = n + l1 := ⟨_, rfl⟩
  have e3 : IntKind.u64.wrap ((n : Int) + (l1 : Int)) = (m : Int) := by simp [IntKind.wrap, IntKind.bits, IntKind.signed]; omega
  have HNM : Hid (n ≤ m) := by show _ ≤ _; omega
  clear hn hl1 hm hru hro hub hnu hno
  go_enter Try.func5, Try.ntmps5
  go_upto_region 1 with (fail)
  go_wp2_with fail
  refine HNEW.out.mono ?_
  rintro e w1 ⟨p, B1', rfl, h1⟩
  have HO := Lib.hid h1
  clear h1 HNEW
  have HG0 : Hid (Tr.Good (ft [])) := Tr.new_good
  go_upto_block 0 with (fail)
  simp only [e1, e2]
  go_cut [10] (fun t10 wx => ∃ (WX : World) (L : List (Option Nat)) (B : Nat → Prop), WX = wx ∧ t10 = .int .i64 ((live (ft L) n).length : Nat) ∧ Hid (L.length ≤ 20) ∧ Hid (Tm.One1 (.pointer (some ⟨p, 0, none⟩)) w (ft L) B WX) ∧ Hid (Tr.Good (ft L)) ∧ Hid (∀ u, some u ∈ L → u ≤ 25))
  case first =>
    go_wp2_with fail
    go_loopw [10, 11] (fun t10 t11 wr => ∃ (L : List (Option Nat)) (B : Nat → Prop) (i : Nat), t11 = .int .i64 (i : Nat) ∧ t10 = .int .i64 ((live (ft L) n).length : Nat) ∧ i ≤ 20 ∧ i ≤ nu ∧ Hid (i = L.length) ∧ Hid (Tm.One1 (.pointer (some ⟨p, 0, none⟩)) w (ft L) B wr) ∧ Hid (Tr.Good (ft L)) ∧ Hid (∀ u, some u ∈ L → u ≤ 25)) (fun _ t11 _ => 20 - (intOf t11).toNat)
    case atStart => exact ⟨[], _, 0, rfl, rfl, by omega, by omega, rfl, HO.out, HG0.out, by show ∀ u, _ → _; simp⟩
    case round =>
      clear HO HG0
      obtain ⟨L, B, i, rfl, rfl, hi20, hin, HIL, HOW, HGL, HUL⟩ := hrel
      obtain ⟨cnt, hcnt⟩ : ∃ cnt, cnt = (live (ft L) n).length := ⟨_, rfl⟩
      have hcl : cnt ≤ 20 := by
        have h1 := live_length (ft L) n
        have h2 : (ft L).length = L.length + 1 := by show (fes 0 L).length + 1 = _; rw [fes_length]
        have h3 := HIL.out
        have h4 : ∀ x ∈ liv (ft L) n, x ∈ fes 0 L := fun x hx => by
          have h5 := List.mem_filter.1 hx
          rcases List.mem_cons.1 h5.1 with rfl | h6
          · have := h5.2; simp [kept, rt] at this
          · exact h6
        have h5 : liv (ft L) n = (fes 0 L).filter fun e => kept e.nd n := by
          show (rt L.length :: fes 0 L).filter _ = _
          rw [List.filter_cons, if_neg (by simp [kept, rt])]
        have h6 : (live (ft L) n).length ≤ (fes 0 L).length := by
          rw [live_liv, List.length_map, h5]; exact List.length_filter_le _ _
        rw [fes_length] at h6
        omega
      have HCN := Lib.hid hcnt
      rw [← hcnt]
      clear hcnt
      by_cases hlt : i < nu
      · by_cases h20 : i < 20
        · have hi1 : (i : Int) < (nu : Int) := by omega
          have hi2 : (i : Int) < 20 := by omega
          obtain ⟨j, hj⟩ : ∃ j, j = i + 1 := ⟨_, rfl⟩
          have wj : IntKind.i64.wrap ((i : Int) + 1) = (j : Int) := by simp [IntKind.wrap, IntKind.bits, IntKind.signed]; omega
          obtain ⟨c, hc⟩ : ∃ c, c = 97 + i := ⟨_, rfl⟩
          have w1c : IntKind.i64.wrap (97 + (i : Int)) = (c : Int) := by simp [IntKind.wrap, IntKind.bits, IntKind.signed]; omega
          have w2c : IntKind.i32.wrap (c : Int) = (c : Int) := by simp [IntKind.wrap, IntKind.bits, IntKind.signed]; omega
          have HRR := Lib.hid (rune_run i h20)
          have hadd : Op.stringOp .add ⟨#[102]⟩ (strOf [UInt8.ofNat c]) = pure (.string (strOf (nmOf i))) := by
            rw [hc]
            exact str_add [102] [UInt8.ofNat (97 + i)] (by simp)
          have HMK : Hid (Tr.make (ft L) [nmOf i] 1 = (((j : Int), 0), ft (L ++ [none]))) := by
            show _ = _
            have h1 := make_ft L (by have := HIL.out; omega)
            rw [← HIL.out] at h1
            rw [h1, hj]; simp
          have HGN := Lib.hid (Tr.make_good HGL.out [nmOf i] 1)
          rw [HMK.out] at HGN
          rw [← hc] at HRR
          have hrr := HRR.out wr
          obtain ⟨x, hx⟩ : ∃ x, us[i]? = some x := ⟨_, List.getElem?_eq_getElem (by have := HNU.out; omega)⟩
          have hx0 := HUB.out x (List.mem_of_getElem? hx)
          obtain ⟨y, rfl⟩ : ∃ y : Nat, x = (y : Int) := ⟨x.toNat, by omega⟩
          obtain ⟨u, hu⟩ : ∃ u, u = y % 25 := ⟨_, rfl⟩
          have hu25 : u < 25 := by omega
          have eu : (y : Int) % 25 = (u : Int) := by omega
          have HSL : Hid (Tr.seal_ (ft (L ++ [none])) (j : Int) u = (0, ft (L ++ [some u]))) := by
            show _ = _
            have h1 := seal_ft L u (by omega)
            rw [← HIL.out] at h1
            rw [← h1, hj]; simp
          have HGS := Lib.hid (Tr.seal_good HGN.out (j : Int) u)
          rw [HSL.out] at HGS
          have HLN : Hid ((live (ft (L ++ [none])) n).length = cnt) := by
            show _ = _
            rw [live_snoc, HCN.out]; simp
          have HLS : Hid ((live (ft (L ++ [some u])) n).length = if n < u then cnt + 1 else cnt) := by
            show _ = _
            rw [live_snoc, List.length_append, ← HCN.out]
            by_cases h : n < u <;> simp [h]
          have HUN : Hid (∀ v, some v ∈ L ++ [none] → v ≤ 25) := by
            show ∀ v, _ → _
            intro v hv
            rcases List.mem_append.1 hv with hv | hv
            · exact HUL.out v hv
            · simp at hv
          have HUS : Hid (∀ v, some v ∈ L ++ [some u] → v ≤ 25) := by
            show ∀ v, _ → _
            intro v hv
            rcases List.mem_append.1 hv with hv | hv
            · exact HUL.out v hv
            · simp at hv; omega
          have HJN : Hid (j = (L ++ [none]).length) := by show _ = _; rw [List.length_append, ← HIL.out]; simp [hj]
          have HJS : Hid (j = (L ++ [some u]).length) := by show _ = _; rw [List.length_append, ← HIL.out]; simp [hj]
          have HXX := Lib.hid hx
          have hj20 : j ≤ 20 := by omega
          have hjn : j ≤ nu := by omega
          have HJI := Lib.hid hj
          clear hx hx0 hu hc hj
          go_wp2_with fail
          refine (Tm.make_lit HOW.out HGL.out [nmOf i] 1 HMK.out (by simp) (by simp [nmOf])).mono ?_
          intro e w2 ht
          obtain ⟨rfl, B2, H2⟩ := ht.one
          have HRX := Lib.hid (HRU.out.below H2.out.low (Nat.le_refl _))
          obtain ⟨b, off, hAU, hbl, hcell⟩ := HRX.out i (y : Int) HXX.out
          subst hAU
          have HCE := Lib.hid hcell
          have HBL := Lib.hid hbl
          clear ht HOW hrr hcell hbl HRX
          by_cases hio : i < no
          · have hio2 : (i : Int) < (no : Int) := by omega
            obtain ⟨q, hq⟩ : ∃ q, os[i]? = some q := ⟨_, List.getElem?_eq_getElem (by have := HNO.out; omega)⟩
            obtain ⟨a, hAO, hbl, hcell⟩ := HRO.out i q hq
            subst hAO
            have hcell2 := H2.out.low.cell (p := a.add i) (by unfold Addr.add; split <;> exact hbl)
            rw [hcell] at hcell2
            clear hq hcell hbl
            cases q with
            | true =>
              go_wp2_with fail
              go_roundw
              case rel => exact ⟨L ++ [none], B2, j, by go_num, by rw [HLN.out], hj20, hjn, HJN, H2, HGN, HUN⟩
              case measure => simp [intOf]; have := HJI.out; omega
            | false =>
              have hcu2 : w2.cell? ⟨b, off + i, none⟩ = some (.int .u64 (y : Nat)) := HCE.out
              go_wp2_with fail
              refine (Tm.Turn1.to (t' := ft (L ++ [some u])) (Tm.o_seal H2.out HGN.out (j : Int) u (by omega)) HSL.out rfl).mono ?_
              intro e w3 ht
              obtain ⟨rfl, B3, H3⟩ := ht.one
              have HRX := Lib.hid (HRU.out.below H3.out.low (Nat.le_refl _))
              obtain ⟨b2, off2, hAU2, _, hcell3⟩ := HRX.out i (y : Int) HXX.out
              injection hAU2 with hAU2
              injection hAU2 with hAU3 hAU4 _
              subst hAU3 hAU4
              clear ht H2 hcu2 HRX
              by_cases hnu2 : n < u
              · have hnu3 : (n : Int) < (u : Int) := by omega
                have hls := HLS.out
                rw [if_pos hnu2] at hls
                have HLS2 := Lib.hid hls
                clear hls
                have wcn : IntKind.i64.wrap ((cnt : Int) + 1) = ((cnt + 1 : Nat) : Int) := by simp [IntKind.wrap, IntKind.bits, IntKind.signed]; omega
                go_wp2_with fail
                go_roundw
                case rel => exact ⟨L ++ [some u], B3, j, by go_num, by rw [HLS2.out]; go_num, hj20, hjn, HJS, H3, HGS, HUS⟩
                case measure => simp [intOf]; have := HJI.out; omega
              · have hnu3 : ¬ (n : Int) < (u : Int) := by omega
                have hls := HLS.out
                rw [if_neg hnu2] at hls
                have HLS2 := Lib.hid hls
                clear hls
                go_wp2_with fail
                go_roundw
                case rel => exact ⟨L ++ [some u], B3, j, by go_num, by rw [HLS2.out], hj20, hjn, HJS, H3, HGS, HUS⟩
                case measure => simp [intOf]; have := HJI.out; omega
          · have hio2 : ¬ (i : Int) < (no : Int) := by omega
            have hcu2 : w2.cell? ⟨b, off + i, none⟩ = some (.int .u64 (y : Nat)) := HCE.out
            go_wp2_with fail
            refine (Tm.Turn1.to (t' := ft (L ++ [some u])) (Tm.o_seal H2.out HGN.out (j : Int) u (by omega)) HSL.out rfl).mono ?_
            intro e w3 ht
            obtain ⟨rfl, B3, H3⟩ := ht.one
            have HRX := Lib.hid (HRU.out.below H3.out.low (Nat.le_refl _))
            obtain ⟨b2, off2, hAU2, _, hcell3⟩ := HRX.out i (y : Int) HXX.out
            injection hAU2 with hAU2
            injection hAU2 with hAU3 hAU4 _
            subst hAU3 hAU4
            clear ht H2 hcu2 HRX
            by_cases hnu2 : n < u
            · have hnu3 : (n : Int) < (u : Int) := by omega
              have hls := HLS.out
              rw [if_pos hnu2] at hls
              have HLS2 := Lib.hid hls
              clear hls
              have wcn : IntKind.i64.wrap ((cnt : Int) + 1) = ((cnt + 1 : Nat) : Int) := by simp [IntKind.wrap, IntKind.bits, IntKind.signed]; omega
              go_wp2_with fail
              go_roundw
              case rel => exact ⟨L ++ [some u], B3, j, by go_num, by rw [HLS2.out]; go_num, hj20, hjn, HJS, H3, HGS, HUS⟩
              case measure => simp [intOf]; have := HJI.out; omega
            · have hnu3 : ¬ (n : Int) < (u : Int) := by omega
              have hls := HLS.out
              rw [if_neg hnu2] at hls
              have HLS2 := Lib.hid hls
              clear hls
              go_wp2_with fail
              go_roundw
              case rel => exact ⟨L ++ [some u], B3, j, by go_num, by rw [HLS2.out], hj20, hjn, HJS, H3, HGS, HUS⟩
              case measure => simp [intOf]; have := HJI.out; omega
        · have hi2 : ¬ (i : Int) < 20 := by omega
          have hi1 : (i : Int) < (nu : Int) := by omega
          go_wp2_with fail
          go_meet
          case rel => exact ⟨_, L, B, rfl, by rw [← HCN.out], by show _ ≤ _; have := HIL.out; omega, HOW, HGL, HUL⟩
      · have hi1 : ¬ (i : Int) < (nu : Int) := by omega
        go_wp2_with fail
        go_meet
        case rel => exact ⟨_, L, B, rfl, by rw [← HCN.out], by show _ ≤ _; have := HIL.out; omega, HOW, HGL, HUL⟩
  case rest =>
  clear HO HG0 HRU HRO HUB HNU HNO hcu hlu hco hlo
  obtain ⟨WX, L, B, hWX, rfl, HLL, HOW, HGL, HUL⟩ := hcut
  subst hWX
  have HGL0 := HGL.out
  obtain ⟨la, hla⟩ : ∃ la, la = live (ft L) n := ⟨_, rfl⟩
  obtain ⟨lb, hlb⟩ : ∃ lb, lb = live (ft L) m := ⟨_, rfl⟩
  obtain ⟨na, hna⟩ : ∃ na, na = la.length := ⟨_, rfl⟩
  obtain ⟨nb, hnb⟩ : ∃ nb, nb = lb.length := ⟨_, rfl⟩
  have hna64 : na ≤ 64 := by rw [hna, hla]; exact Nat.le_trans (live_length _ _) HGL.out.few
  have hnba : nb ≤ na := by rw [hna, hnb, hla, hlb]; exact live_less HNM.out
  have hnb2 : ¬ na < nb := by omega
  have HLA : Hid (∀ W B, Tm.One1 (.pointer (some ⟨p, 0, none⟩)) w (ft L) B W → Calls Try.prog 9 #[.pointer (some ⟨p, 0, none⟩), .int .u64 (n : Nat)] W fun e w' => ∃ A c, e = .returned (.slice A na c) ∧ na ≤ c ∧ Hid (RdI w' A la) ∧ Hid (Tm.One1 (.pointer (some ⟨p, 0, none⟩)) w (ft L) B w')) := by
    intro W B h
    refine (live_is h HGL.out n hla.symm).mono ?_
    rintro e w' ⟨A, c, rfl, hc, hr, hb⟩
    rw [← hna] at hc ⊢
    exact ⟨A, c, rfl, hc, hr, h.later hb.out⟩
  have HLB : Hid (∀ W B, Tm.One1 (.pointer (some ⟨p, 0, none⟩)) w (ft L) B W → Calls Try.prog 9 #[.pointer (some ⟨p, 0, none⟩), .int .u64 (m : Nat)] W fun e w' => ∃ A c, e = .returned (.slice A nb c) ∧ nb ≤ c ∧ Hid (RdI w' A lb) ∧ Hid (Below W.heap.size W w')) := by
    intro W B h
    refine (live_is h HGL.out m hlb.symm).mono ?_
    rintro e w' ⟨A, c, rfl, hc, hr, hb⟩
    rw [← hnb] at hc ⊢
    exact ⟨A, c, rfl, hc, hr, hb⟩
  have HLZ : Hid (∀ W B, Tm.One1 (.pointer (some ⟨p, 0, none⟩)) w (ft L) B W → Calls Try.prog 9 #[.pointer (some ⟨p, 0, none⟩), .int .u64 25] W fun e w' => ∃ A c, e = .returned (.slice A 0 c) ∧ Hid (Tm.One1 (.pointer (some ⟨p, 0, none⟩)) w (ft L) B w')) := by
    intro W B h
    refine (live_is h HGL.out 25 (live_none HUL.out)).mono ?_
    rintro e w' ⟨A, c, rfl, hc, hr, hb⟩
    exact ⟨A, c, rfl, h.later hb.out⟩
  have HBN : Hid (∀ W B, Tm.One1 (.pointer (some ⟨p, 0, none⟩)) w (ft L) B W → Calls Try.prog 10 #[.pointer (some ⟨p, 0, none⟩), .int .u64 (n : Nat)] W fun e w' => e = .returned (.bool (decide (0 < na))) ∧ Below W.heap.size W w') := by
    intro W B h
    refine bound_is h HGL.out n _ ?_
    rw [← hla, ← hna]
  have hk : ((live (ft L) n).length : Int) = (na : Int) := by rw [← hla, ← hna]
  rw [hk]
  have HS0 : Hid (seen (ft L) n m 0 = 0) := rfl
  have HSE : Hid (seen (ft L) n m na = nb) := by show _ = _; rw [hna, hnb, hla, hlb]; exact seen_end HNM.out
  have HAT : Hid (∀ (i : Nat) (x : Int), la[i]? = some x → ∃ e, (liv (ft L) n)[i]? = some e ∧ x = e.nd.id ∧ Tr.node (ft L) x = (e.nd, true) ∧ remove e.nd n = 28) := by
    intro i x hx
    rw [hla] at hx
    obtain ⟨e, h1, h2, h3, h4⟩ := live_at hx
    refine ⟨e, h1, h2, ?_, kept_remove h4 (ft_ids h3).2⟩
    rw [h2]
    exact live_node HGL.out h3
  have HPR : Hid (∀ (i : Nat) (x y : Int), la[i]? = some x → la[i + 1]? = some y → x < y) := by
    intro i x y hx hy
    rw [hla] at hx hy
    exact live_pair HGL.out hx hy
  have HNA := Lib.hid hna
  have HNB := Lib.hid hnb
  have HLBE := Lib.hid hlb
  clear hna hnb hla hlb hnba HGL0 hk
  go_wp2_with fail
  refine (HLA.out _ _ HOW.out).mono ?_
  rintro e w2 ⟨A, ca, rfl, hca, HRA, H2⟩
  clear HOW
  go_wp2_with fail
  refine (HLB.out _ _ H2.out).mono ?_
  rintro e w3 ⟨A2, cb, rfl, hcb, HRB, HB3⟩
  have HRA3 : Hid (RdI w3 A la) := rdi_below HRA.out HB3.out
  have H3 := Lib.hid (H2.out.later HB3.out)
  clear H2 HB3 HRA
  go_wp2_with fail
  refine (HBN.out _ _ H3.out).mono ?_
  rintro e w4 ⟨rfl, hb⟩
  have HRA4 : Hid (RdI w4 A la) := rdi_below HRA3.out hb
  have HRB4 : Hid (RdI w4 A2 lb) := rdi_below HRB.out hb
  have H4 := Lib.hid (H3.out.later hb)
  clear H3 hb HRA3 HRB
  go_wp2_with fail
  go_loopw [16, 17] (fun t16 t17 wr => ∃ (i k : Nat), t17 = .int .i64 (i : Nat) ∧ t16 = .int .i64 (k : Nat) ∧ i ≤ na ∧ Hid (k = seen (ft L) n m i) ∧ Hid (Tm.One1 (.pointer (some ⟨p, 0, none⟩)) w (ft L) B wr) ∧ Hid (RdI wr A la) ∧ Hid (RdI wr A2 lb)) (fun _ t17 _ => na - (intOf t17).toNat)
  case atStart => exact ⟨0, 0, rfl, rfl, by omega, HS0.out.symm, H4.out, HRA4.out, HRB4.out⟩
  case round =>
    clear H4 HRA4 HRB4
    obtain ⟨i, k, rfl, rfl, hina, HKS, HOW, HRA, HRB⟩ := hrel
    by_cases hlt : i < na
    · skip
      have hi1 : (i : Int) < (na : Int) := by omega
      obtain ⟨x, hx⟩ : ∃ x, la[i]? = some x := ⟨_, List.getElem?_eq_getElem (by have := HNA.out; omega)⟩
      obtain ⟨eN, he, hxe, hnode, hrem⟩ := HAT.out i x hx
      have HXX := Lib.hid hx
      obtain ⟨hxb, b, off, hA, hbl, hcell⟩ := HRA.out i x hx
      subst hA
      have HCX : Hid (∀ W, RdI W (some ⟨b, off, none⟩) la → ∀ j y, la[j]? = some y → W.cell? ⟨b, off + j, none⟩ = some (.int .i64 y)) := by
        intro W hW j y hj
        obtain ⟨_, b2, off2, e, _, hc⟩ := hW j y hj
        injection e with e
        injection e with e3 e4 _
        subst e3 e4
        exact hc
      have HNDC := Lib.hid (Tm.o_node HOW.out HGL.out x)
      rw [hnode] at HNDC
      have HRM := Lib.hid (fun W => remove_any eN.nd n W)
      rw [hrem] at HRM
      have HSS := Lib.hid (seen_step HGL.out HNM.out he)
      have HXE := Lib.hid hxe
      clear hx he hxe hnode hrem hbl hxb
      obtain ⟨⟨a1, a2, a3, a4, a5, a6⟩, dt, nms⟩ := eN
      simp only at HNDC HRM
      rw [as_] at HNDC HRM
      go_wp2_with fail
      refine HNDC.out.mono ?_
      rintro e w5 ⟨rfl, hb⟩
      have HOW5 := Lib.hid (HOW.out.later hb)
      have HRA5 : Hid (RdI w5 (some ⟨b, off, none⟩) la) := rdi_below HRA.out hb
      have HRB5 : Hid (RdI w5 A2 lb) := rdi_below HRB.out hb
      clear HOW HRA HRB hb hcell HNDC
      by_cases hi0 : i = 0
      · have hp0 : ¬ 0 < i := by omega
        clear hi0
        go_upto_region 26 with (fail)
        obtain ⟨g, hg⟩ : ∃ g, g = w5.heap.size := ⟨_, rfl⟩
        refine wp_world (fun W => Hid (Blk W w5.heap.size 26 (ndc a1 a2 a3 a4 a5 a6)) ∧ Hid (RdI W (some ⟨b, off, none⟩) la) ∧ Hid (RdI W A2 lb) ∧ Hid (Tm.One1 (.pointer (some ⟨p, 0, none⟩)) w (ft L) B W)) ⟨Blk.new w5 _ _, rdi_below HRA5.out (below_new w5 (.cells #[.int .i64 a1, .int .i64 a2, .int .i64 a3, .int .i64 a4, .int .u64 (a5 : Nat), .bool a6] 26)), rdi_below HRB5.out (below_new w5 (.cells #[.int .i64 a1, .int .i64 a2, .int .i64 a3, .int .i64 a4, .int .u64 (a5 : Nat), .bool a6] 26)), HOW5.out.later (below_new w5 (.cells #[.int .i64 a1, .int .i64 a2, .int .i64 a3, .int .i64 a4, .int .u64 (a5 : Nat), .bool a6] 26))⟩ ?_
        rw [← hg]
        clear HRA5 HRB5 HOW5 hg
        rintro wa ⟨HBX, HRA5, HRB5, HOW5⟩
        have HT := Lib.hid (Ob.nil_one ⟨0, 0, none⟩ wa)
        have one := HT.out
        refine Rc.wp_region (by kernel_rfl) (fun opn => List.getD [Rc.val (.bool true), Rc.val (.bool false), Rc.val (.bool false), Rc.val (.agg #[.int .i64 a1, .int .i64 a2, .int .i64 a3, .int .i64 a4, .int .u64 (a5 : Nat), .bool a6]), Rc.val (.int .u64 (n : Nat)), Rc.val (.int .i64 28), Rc.val (.bool false), Rc.val (.bool false), Rc.val (.bool false), Rc.val (.int .i64 (i : Nat)), Rc.val (.bool false), Rc.val (.bool false), Rc.val (undef), Rc.val (undef), Rc.val (undef), Rc.val (undef), Rc.val (undef), Rc.val (undef), Rc.val (undef), Rc.val (undef), Rc.val (undef), Rc.val (undef), Rc.val (.bool false), Rc.val (.bool false), Ob.turned Ob.nil (.pointer (some ⟨0, 0, none⟩)) (Ob.Ups (fun _ => False) wa) undef ()] opn Rc.any) 1 [] [[], [(0, 126)], [(1, 127)], [(2, 128)], [(2, 128)], [(2, 128), (3, 129), (4, 130)], [(2, 128), (5, 131)], [(2, 128), (6, 132)], [(7, 133)], [(8, 134)], [(8, 134), (9, 135)], [(8, 134), (10, 136)], [(11, 137)], [(11, 137)], [(11, 137), (13, 139)], [(11, 137), (12, 138), (14, 140)], [(11, 137), (15, 141)], [(11, 137)], [(11, 137)], [(11, 137), (17, 143), (18, 144)], [(11, 137), (19, 145)], [(11, 137), (16, 142), (20, 146)], [(8, 134), (11, 137), (21, 147)], [(8, 134), (22, 148)]] [[], [0], [0, 1], [0, 1, 2], [0, 1, 2], [0, 1, 2, 3, 4], [0, 1, 2, 3, 4, 5], [0, 1, 2, 3, 4, 5, 6], [0, 1, 2, 3, 4, 5, 6, 7], [0, 1, 2, 3, 4, 5, 6, 7, 8], [0, 1, 2, 3, 4, 5, 6, 7, 8, 9], [0, 1, 2, 3, 4, 5, 6, 7, 8, 9, 10], [0, 1, 2, 3, 4, 5, 6, 7, 8, 9, 10, 11], [0, 1, 2, 3, 4, 5, 6, 7, 8, 9, 10, 11], [0, 1, 2, 3, 4, 5, 6, 7, 8, 9, 10, 11, 13], [0, 1, 2, 3, 4, 5, 6, 7, 8, 9, 10, 11, 12, 13, 14], [0, 1, 2, 3, 4, 5, 6, 7, 8, 9, 10, 11, 12, 13, 14, 15], [0, 1, 2, 3, 4, 5, 6, 7, 8, 9, 10, 11], [0, 1, 2, 3, 4, 5, 6, 7, 8, 9, 10, 11], [0, 1, 2, 3, 4, 5, 6, 7, 8, 9, 10, 11, 17, 18], [0, 1, 2, 3, 4, 5, 6, 7, 8, 9, 10, 11, 17, 18, 19], [0, 1, 2, 3, 4, 5, 6, 7, 8, 9, 10, 11, 12, 13, 14, 15, 16, 17, 18, 19, 20], [0, 1, 2, 3, 4, 5, 6, 7, 8, 9, 10, 11, 12, 13, 14, 15, 16, 17, 18, 19, 20, 21], [0, 1, 2, 3, 4, 5, 6, 7, 8, 9, 10, 11, 12, 13, 14, 15, 16, 17, 18, 19, 20, 21, 22]] [[], [0], [1], [2], [2], [2, 3, 4], [2, 5], [2, 6], [7], [8], [8, 9], [8, 10], [11], [11], [11, 13], [11, 12, 14], [11, 15], [11], [11], [11, 17, 18], [11, 19], [11, 16, 20], [8, 11, 21], [8, 22]] [] (by kernel_rfl) (by rfl) (by kernel_rfl) (fun _ => False) (fun _ b => (fun _ => False) b) (Ob.one_inv Ob.nil one.at_ _ _ 24 rfl) ?_ ?_
        · intro fr ha
          have hz : fr.tmps.size = 180 := by rw [ha]; rfl
          have y19 : fr.eval (.tmp 19) = .bool true := by rw [ha]; rfl
          have y18 : fr.eval (.tmp 18) = .pointer (some ⟨g, 0, none⟩) := by rw [ha]; rfl
          have y2 : fr.eval (.tmp 2) = .int .u64 (n : Nat) := by rw [ha]; rfl
          have y17 : fr.eval (.tmp 17) = .int .i64 (i : Nat) := by rw [ha]; rfl
          have y14 : fr.eval (.tmp 14) = .slice (some ⟨b, off, none⟩) na ca := by rw [ha]; rfl
          clear ha
          refine .cons ?_ (.cons ?_ (.cons ?_ (.cons ?_ (.cons ?_ (.cons ?_ (.cons ?_ (.cons ?_ (.cons ?_ (.cons ?_ (.cons ?_ (.cons ?_ (.cons ?_ (.cons ?_ (.cons ?_ (.cons ?_ (.cons ?_ (.cons ?_ (.cons ?_ (.cons ?_ (.cons ?_ (.cons ?_ (.cons ?_ (.cons ?_ (.nil))))))))))))))))))))))))
          · intro V S w2 HM HU HE
            have HM : Mod wa w2 (fun _ => False) := HM
            have tb19 : (Rg.putUse V [] fr).eval (.tmp 19) = .bool true := (Rg.use_eval V fr 19 [] (by simp only [hz]; decide)).trans y19
            show Rg.Does1 _ _ V (Rg.putUse V [] fr) w2 _
            exact Ob.rc_mv (.bool true) (by simp only [execOp, tb19]; go_simp) rfl rfl True.intro
          · intro V S w2 HM HU HE
            have HM : Mod wa w2 (fun _ => False) := HM
            have h0 : V 0 = .bool true := HU.holds 0 (by decide)
            have tb126 : (Rg.putUse V [(0, 126)] fr).eval (.tmp 126) = .bool true := (Rg.use_eval V fr 126 [(0, 126)] (by simp only [hz]; decide)).trans h0
            show Rg.Does1 _ _ V (Rg.putUse V [(0, 126)] fr) w2 _
            exact Ob.rc_mv (.bool false) (by simp only [execOp, tb126]; go_simp) rfl rfl True.intro
          · intro V S w2 HM HU HE
            have HM : Mod wa w2 (fun _ => False) := HM
            have h1 : V 1 = .bool false := HU.holds 1 (by decide)
            have tb127 : (Rg.putUse V [(1, 127)] fr).eval (.tmp 127) = .bool false := (Rg.use_eval V fr 127 [(1, 127)] (by simp only [hz]; decide)).trans h1
            show Rg.Does1 _ _ V (Rg.putUse V [(1, 127)] fr) w2 _
            exact Ob.rc_mv (.bool false) (by simp only [execOp, tb127]; go_simp) rfl rfl True.intro
          · intro V S w2 HM HU HE
            have HM : Mod wa w2 (fun _ => False) := HM
            have h2 : V 2 = .bool false := HU.holds 2 (by decide)
            have tb18 : (Rg.putUse V [(2, 128)] fr).eval (.tmp 18) = .pointer (some ⟨g, 0, none⟩) := (Rg.use_eval V fr 18 [(2, 128)] (by simp only [hz]; decide)).trans y18
            show Rg.Does1 _ _ V (Rg.putUse V [(2, 128)] fr) w2 _
            have hb : Below wa.heap.size wa w2 := ⟨HM.os, HM.tape, HM.output, HM.size, fun b hb => HM.block b hb (fun h => h)⟩
            have hk := HBX.out.below hb HBX.out.lt
            have c0 := hk.cell 0
            have c1 := hk.cell 1
            have c2 := hk.cell 2
            have c3 := hk.cell 3
            have c4 := hk.cell 4
            have c5 := hk.cell 5
            exact Ob.rc_mv (.agg #[.int .i64 a1, .int .i64 a2, .int .i64 a3, .int .i64 a4, .int .u64 (a5 : Nat), .bool a6]) (by simp only [execOp, tb18]; go_simp) rfl rfl h2
          · intro V S w2 HM HU HE
            have HM : Mod wa w2 (fun _ => False) := HM
            have h2 : V 2 = .bool false := HU.holds 2 (by decide)
            have tb2 : (Rg.putUse V [(2, 128)] fr).eval (.tmp 2) = .int .u64 (n : Nat) := (Rg.use_eval V fr 2 [(2, 128)] (by simp only [hz]; decide)).trans y2
            show Rg.Does1 _ _ V (Rg.putUse V [(2, 128)] fr) w2 _
            exact Ob.rc_mv (.int .u64 (n : Nat)) (by simp only [execOp, tb2]; go_simp) rfl rfl h2
          · intro V S w2 HM HU HE
            have HM : Mod wa w2 (fun _ => False) := HM
            have h2 : V 2 = .bool false := HU.holds 2 (by decide)
            have h3 : V 3 = .agg #[.int .i64 a1, .int .i64 a2, .int .i64 a3, .int .i64 a4, .int .u64 (a5 : Nat), .bool a6] := HU.holds 3 (by decide)
            have tb129 : (Rg.putUse V [(2, 128), (3, 129), (4, 130)] fr).eval (.tmp 129) = .agg #[.int .i64 a1, .int .i64 a2, .int .i64 a3, .int .i64 a4, .int .u64 (a5 : Nat), .bool a6] := (Rg.use_eval V fr 129 [(2, 128), (3, 129), (4, 130)] (by simp only [hz]; decide)).trans h3
            have h4 : V 4 = .int .u64 (n : Nat) := HU.holds 4 (by decide)
            have tb130 : (Rg.putUse V [(2, 128), (3, 129), (4, 130)] fr).eval (.tmp 130) = .int .u64 (n : Nat) := (Rg.use_eval V fr 130 [(2, 128), (3, 129), (4, 130)] (by simp only [hz]; decide)).trans h4
            show Rg.Does1 _ _ V (Rg.putUse V [(2, 128), (3, 129), (4, 130)] fr) w2 _
            exact Ob.step_tell (.int .i64 28) #[.agg #[.int .i64 a1, .int .i64 a2, .int .i64 a3, .int .i64 a4, .int .u64 (a5 : Nat), .bool a6], .int .u64 (n : Nat)] (fun args w => Rg.call_enter Try.func16 (by kernel_rfl) (by kernel_rfl) args w) rfl (by simp only [List.map_toArray, List.map_cons, List.map_nil, tb129, tb130]) rfl (fun x => Rg.alias_none rfl V x) h2 (HRM.out w2)
          · intro V S w2 HM HU HE
            have HM : Mod wa w2 (fun _ => False) := HM
            have h2 : V 2 = .bool false := HU.holds 2 (by decide)
            have h5 : V 5 = .int .i64 28 := HU.holds 5 (by decide)
            have tb131 : (Rg.putUse V [(2, 128), (5, 131)] fr).eval (.tmp 131) = .int .i64 28 := (Rg.use_eval V fr 131 [(2, 128), (5, 131)] (by simp only [hz]; decide)).trans h5
            show Rg.Does1 _ _ V (Rg.putUse V [(2, 128), (5, 131)] fr) w2 _
            exact Ob.rc_mv (.bool false) (by simp only [execOp, tb131]; go_simp) rfl rfl h2
          · intro V S w2 HM HU HE
            have HM : Mod wa w2 (fun _ => False) := HM
            have h2 : V 2 = .bool false := HU.holds 2 (by decide)
            have tb128 : (Rg.putUse V [(2, 128), (6, 132)] fr).eval (.tmp 128) = .bool false := (Rg.use_eval V fr 128 [(2, 128), (6, 132)] (by simp only [hz]; decide)).trans h2
            have h6 : V 6 = .bool false := HU.holds 6 (by decide)
            have tb132 : (Rg.putUse V [(2, 128), (6, 132)] fr).eval (.tmp 132) = .bool false := (Rg.use_eval V fr 132 [(2, 128), (6, 132)] (by simp only [hz]; decide)).trans h6
            show Rg.Does1 _ _ V (Rg.putUse V [(2, 128), (6, 132)] fr) w2 _
            exact Ob.rc_mv (.bool false) (by simp only [execOp, tb128, tb132]; go_simp) rfl rfl True.intro
          · intro V S w2 HM HU HE
            have HM : Mod wa w2 (fun _ => False) := HM
            have h7 : V 7 = .bool false := HU.holds 7 (by decide)
            have tb133 : (Rg.putUse V [(7, 133)] fr).eval (.tmp 133) = .bool false := (Rg.use_eval V fr 133 [(7, 133)] (by simp only [hz]; decide)).trans h7
            show Rg.Does1 _ _ V (Rg.putUse V [(7, 133)] fr) w2 _
            exact Ob.rc_mv (.bool false) (by simp only [execOp, tb133]; go_simp) rfl rfl True.intro
          · intro V S w2 HM HU HE
            have HM : Mod wa w2 (fun _ => False) := HM
            have h8 : V 8 = .bool false := HU.holds 8 (by decide)
            have tb17 : (Rg.putUse V [(8, 134)] fr).eval (.tmp 17) = .int .i64 (i : Nat) := (Rg.use_eval V fr 17 [(8, 134)] (by simp only [hz]; decide)).trans y17
            show Rg.Does1 _ _ V (Rg.putUse V [(8, 134)] fr) w2 _
            exact Ob.rc_mv (.int .i64 (i : Nat)) (by simp only [execOp, tb17]; go_simp) rfl rfl h8
          · intro V S w2 HM HU HE
            have HM : Mod wa w2 (fun _ => False) := HM
            have h8 : V 8 = .bool false := HU.holds 8 (by decide)
            have h9 : V 9 = .int .i64 (i : Nat) := HU.holds 9 (by decide)
            have tb135 : (Rg.putUse V [(8, 134), (9, 135)] fr).eval (.tmp 135) = .int .i64 (i : Nat) := (Rg.use_eval V fr 135 [(8, 134), (9, 135)] (by simp only [hz]; decide)).trans h9
            show Rg.Does1 _ _ V (Rg.putUse V [(8, 134), (9, 135)] fr) w2 _
            exact Ob.rc_mv (.bool false) (by simp only [execOp, tb135]; go_simp) rfl rfl h8
          · intro V S w2 HM HU HE
            have HM : Mod wa w2 (fun _ => False) := HM
            have h8 : V 8 = .bool false := HU.holds 8 (by decide)
            have h10 : V 10 = .bool false := HU.holds 10 (by decide)
            have tb136 : (Rg.putUse V [(8, 134), (10, 136)] fr).eval (.tmp 136) = .bool false := (Rg.use_eval V fr 136 [(8, 134), (10, 136)] (by simp only [hz]; decide)).trans h10
            show Rg.Does1 _ _ V (Rg.putUse V [(8, 134), (10, 136)] fr) w2 _
            exact Ob.rc_mv (.bool false) (by simp only [execOp, tb136]; go_simp) rfl rfl h8
          · intro V S w2 HM HU HE
            have HM : Mod wa w2 (fun _ => False) := HM
            have h11 : V 11 = .bool false := HU.holds 11 (by decide)
            exact Rc.step_not rfl h11 (Rg.alias_none rfl V _) rfl
          · intro V S w2 HM HU HE
            have HM : Mod wa w2 (fun _ => False) := HM
            have h11 : V 11 = .bool false := HU.holds 11 (by decide)
            exact Rc.step_not rfl h11 (Rg.alias_none rfl V _) rfl
          · intro V S w2 HM HU HE
            have HM : Mod wa w2 (fun _ => False) := HM
            have h11 : V 11 = .bool false := HU.holds 11 (by decide)
            have h13 : V 13 = undef := HU.holds 13 (by decide)
            have tb139 : (Rg.putUse V [(11, 137), (13, 139)] fr).eval (.tmp 139) = undef := (Rg.use_eval V fr 139 [(11, 137), (13, 139)] (by simp only [hz]; decide)).trans h13
            exact Rc.step_not rfl h11 (Rg.alias_none rfl V _) rfl
          · intro V S w2 HM HU HE
            have HM : Mod wa w2 (fun _ => False) := HM
            have h11 : V 11 = .bool false := HU.holds 11 (by decide)
            have h12 : V 12 = undef := HU.holds 12 (by decide)
            have tb138 : (Rg.putUse V [(11, 137), (12, 138), (14, 140)] fr).eval (.tmp 138) = undef := (Rg.use_eval V fr 138 [(11, 137), (12, 138), (14, 140)] (by simp only [hz]; decide)).trans h12
            have h14 : V 14 = undef := HU.holds 14 (by decide)
            have tb140 : (Rg.putUse V [(11, 137), (12, 138), (14, 140)] fr).eval (.tmp 140) = undef := (Rg.use_eval V fr 140 [(11, 137), (12, 138), (14, 140)] (by simp only [hz]; decide)).trans h14
            exact Rc.step_not rfl h11 (Rg.alias_none rfl V _) rfl
          · intro V S w2 HM HU HE
            have HM : Mod wa w2 (fun _ => False) := HM
            have h11 : V 11 = .bool false := HU.holds 11 (by decide)
            have h15 : V 15 = undef := HU.holds 15 (by decide)
            have tb141 : (Rg.putUse V [(11, 137), (15, 141)] fr).eval (.tmp 141) = undef := (Rg.use_eval V fr 141 [(11, 137), (15, 141)] (by simp only [hz]; decide)).trans h15
            exact Rc.step_not rfl h11 (Rg.alias_none rfl V _) rfl
          · intro V S w2 HM HU HE
            have HM : Mod wa w2 (fun _ => False) := HM
            have h11 : V 11 = .bool false := HU.holds 11 (by decide)
            exact Rc.step_not rfl h11 (Rg.alias_none rfl V _) rfl
          · intro V S w2 HM HU HE
            have HM : Mod wa w2 (fun _ => False) := HM
            have h11 : V 11 = .bool false := HU.holds 11 (by decide)
            exact Rc.step_not rfl h11 (Rg.alias_none rfl V _) rfl
          · intro V S w2 HM HU HE
            have HM : Mod wa w2 (fun _ => False) := HM
            have h11 : V 11 = .bool false := HU.holds 11 (by decide)
            have h17 : V 17 = undef := HU.holds 17 (by decide)
            have tb143 : (Rg.putUse V [(11, 137), (17, 143), (18, 144)] fr).eval (.tmp 143) = undef := (Rg.use_eval V fr 143 [(11, 137), (17, 143), (18, 144)] (by simp only [hz]; decide)).trans h17
            have h18 : V 18 = undef := HU.holds 18 (by decide)
            have tb144 : (Rg.putUse V [(11, 137), (17, 143), (18, 144)] fr).eval (.tmp 144) = undef := (Rg.use_eval V fr 144 [(11, 137), (17, 143), (18, 144)] (by simp only [hz]; decide)).trans h18
            exact Rc.step_not rfl h11 (Rg.alias_none rfl V _) rfl
          · intro V S w2 HM HU HE
            have HM : Mod wa w2 (fun _ => False) := HM
            have h11 : V 11 = .bool false := HU.holds 11 (by decide)
            have h19 : V 19 = undef := HU.holds 19 (by decide)
            have tb145 : (Rg.putUse V [(11, 137), (19, 145)] fr).eval (.tmp 145) = undef := (Rg.use_eval V fr 145 [(11, 137), (19, 145)] (by simp only [hz]; decide)).trans h19
            exact Rc.step_not rfl h11 (Rg.alias_none rfl V _) rfl
          · intro V S w2 HM HU HE
            have HM : Mod wa w2 (fun _ => False) := HM
            have h11 : V 11 = .bool false := HU.holds 11 (by decide)
            have h16 : V 16 = undef := HU.holds 16 (by decide)
            have tb142 : (Rg.putUse V [(11, 137), (16, 142), (20, 146)] fr).eval (.tmp 142) = undef := (Rg.use_eval V fr 142 [(11, 137), (16, 142), (20, 146)] (by simp only [hz]; decide)).trans h16
            have h20 : V 20 = undef := HU.holds 20 (by decide)
            have tb146 : (Rg.putUse V [(11, 137), (16, 142), (20, 146)] fr).eval (.tmp 146) = undef := (Rg.use_eval V fr 146 [(11, 137), (16, 142), (20, 146)] (by simp only [hz]; decide)).trans h20
            exact Rc.step_not rfl h11 (Rg.alias_none rfl V _) rfl
          · intro V S w2 HM HU HE
            have HM : Mod wa w2 (fun _ => False) := HM
            have h8 : V 8 = .bool false := HU.holds 8 (by decide)
            have h11 : V 11 = .bool false := HU.holds 11 (by decide)
            have tb137 : (Rg.putUse V [(8, 134), (11, 137), (21, 147)] fr).eval (.tmp 137) = .bool false := (Rg.use_eval V fr 137 [(8, 134), (11, 137), (21, 147)] (by simp only [hz]; decide)).trans h11
            have h21 : V 21 = undef := HU.holds 21 (by decide)
            have tb147 : (Rg.putUse V [(8, 134), (11, 137), (21, 147)] fr).eval (.tmp 147) = undef := (Rg.use_eval V fr 147 [(8, 134), (11, 137), (21, 147)] (by simp only [hz]; decide)).trans h21
            show Rg.Does1 _ _ V (Rg.putUse V [(8, 134), (11, 137), (21, 147)] fr) w2 _
            exact Ob.rc_mv (.bool false) (by simp only [execOp, tb137, tb147]; go_simp) rfl rfl h8
          · intro V S w2 HM HU HE
            have HM : Mod wa w2 (fun _ => False) := HM
            have h8 : V 8 = .bool false := HU.holds 8 (by decide)
            have tb134 : (Rg.putUse V [(8, 134), (22, 148)] fr).eval (.tmp 134) = .bool false := (Rg.use_eval V fr 134 [(8, 134), (22, 148)] (by simp only [hz]; decide)).trans h8
            have h22 : V 22 = .bool false := HU.holds 22 (by decide)
            have tb148 : (Rg.putUse V [(8, 134), (22, 148)] fr).eval (.tmp 148) = .bool false := (Rg.use_eval V fr 148 [(8, 134), (22, 148)] (by simp only [hz]; decide)).trans h22
            show Rg.Does1 _ _ V (Rg.putUse V [(8, 134), (22, 148)] fr) w2 _
            exact Ob.rc_mv (.bool false) (by simp only [execOp, tb134, tb148]; go_simp) rfl rfl True.intro
        · intro V S w2 HI
          have hb : V 23 = .bool false := HI.get 23 (by decide) (by rfl)
          have HT2 := Lib.hid (one.after HI.mod.undrew (HI.get 24 (by decide) (by rfl)).2)
          have HM2 : Hid (Mod wa w2 (fun _ => False)) := HI.mod.undrew
          simp only [Rg.putList, Act.put, List.setIfInBounds_toArray, List.set_cons_zero, List.set_cons_succ, Nat.zero_add, Nat.reduceAdd]
          rw [hb]
          clear HI hb one HT
          have hb : Below wa.heap.size wa w2 := ⟨HM2.out.os, HM2.out.tape, HM2.out.output, HM2.out.size, fun b hb => HM2.out.block b hb (fun h => h)⟩
          have HRA6 := Lib.hid (rdi_below HRA5.out hb)
          have HRB6 := Lib.hid (rdi_below HRB5.out hb)
          have HOW6 := Lib.hid (HOW5.out.later hb)
          clear HT2 HM2 hb HRA5 HRB5 HOW5 HBX
          have HCA : Hid (w2.cell? ⟨b, off + i, none⟩ = some (.int .i64 x)) := HCX.out _ HRA6.out i x HXX.out
          have hss := HSS.out
          rw [← HKS.out, ← HLBE.out] at hss
          obtain ⟨hs1, hs2⟩ := hss
          cases hkk : kept ⟨a1, a2, a3, a4, a5, a6⟩ m with
          | true =>
            obtain ⟨hq1, hq2⟩ := hs1 hkk
            have hxe : x = a1 := HXE.out
            rw [← hxe] at hq1
            obtain ⟨_, b2, off2, hA2, _, hcb⟩ := HRB6.out k x hq1
            subst hA2
            have hkb : k < nb := by rw [HNB.out]; exact (List.getElem?_eq_some_iff.1 hq1).1
            have hcx := HCA.out
            have HQ2 := Lib.hid hq2
            have wk : IntKind.i64.wrap ((k : Int) + 1) = ((k + 1 : Nat) : Int) := by simp [IntKind.wrap, IntKind.bits, IntKind.signed]; omega
            have hkI : (k : Int) < (nb : Int) := by omega
            clear hs1 hs2 hkk hq1 hq2 hxe
            go_wp2_with fail
            go_quiet (fail)
            go_wp2_with fail
            go_roundw
            case rel => exact ⟨i + 1, k + 1, by go_num, by go_num, by omega, HQ2.out.symm, HOW6.out.later (below_drewN _ _), rdi_below HRA6.out (below_drewN _ _), rdi_below HRB6.out (below_drewN _ _)⟩
            case measure => simp [intOf]; omega
          | false =>
            obtain ⟨hq1, hq2⟩ := hs2 hkk
            have HQ2 := Lib.hid hq2
            have hcx := HCA.out
            by_cases hkb : k < nb
            · obtain ⟨y, hy⟩ : ∃ y, lb[k]? = some y := ⟨_, List.getElem?_eq_getElem (by have := HNB.out; omega)⟩
              have hyx : (y == x) = false := by
                have h1 := hq1 y hy
                have h2 : x = a1 := HXE.out
                rw [← h2] at h1
                simpa using h1
              obtain ⟨_, b2, off2, hA2, _, hcb⟩ := HRB6.out k y hy
              subst hA2
              have hkI : (k : Int) < (nb : Int) := by omega
              clear hs1 hs2 hkk hq1 hq2 hy
              go_wp2_with fail
              go_quiet (fail)
              go_wp2_with fail
              go_roundw
              case rel => exact ⟨i + 1, k, by go_num, rfl, by omega, HQ2.out.symm, HOW6.out.later (below_drewN _ _), rdi_below HRA6.out (below_drewN _ _), rdi_below HRB6.out (below_drewN _ _)⟩
              case measure => simp [intOf]; omega
            · have hkI : ¬ (k : Int) < (nb : Int) := by omega
              clear hs1 hs2 hkk hq1 hq2
              go_wp2_with fail
              go_quiet (fail)
              go_wp2_with fail
              go_roundw
              case rel => exact ⟨i + 1, k, by go_num, rfl, by omega, HQ2.out.symm, HOW6.out.later (below_drewN _ _), rdi_below HRA6.out (below_drewN _ _), rdi_below HRB6.out (below_drewN _ _)⟩
              case measure => simp [intOf]; omega
      · have hp0 : 0 < i := by omega
        obtain ⟨i1, hi11⟩ : ∃ i1, i = i1 + 1 := ⟨i - 1, by omega⟩
        have wi1 : IntKind.i64.wrap ((i : Int) - 1) = (i1 : Int) := by simp [IntKind.wrap, IntKind.bits, IntKind.signed]; omega
        have hi1a : (i1 : Int) < (na : Int) := by omega
        obtain ⟨z, hz⟩ : ∃ z, la[i1]? = some z := ⟨_, List.getElem?_eq_getElem (by have := HNA.out; omega)⟩
        have hzx : ¬ x ≤ z := by
          have := HPR.out i1 z x hz (by rw [← hi11]; exact HXX.out)
          omega
        have HZZ := Lib.hid hz
        have HII := Lib.hid hi11
        clear hz hi11
        go_upto_region 26 with (fail)
        obtain ⟨g, hg⟩ : ∃ g, g = w5.heap.size := ⟨_, rfl⟩
        refine wp_world (fun W => Hid (Blk W w5.heap.size 26 (ndc a1 a2 a3 a4 a5 a6)) ∧ Hid (RdI W (some ⟨b, off, none⟩) la) ∧ Hid (RdI W A2 lb) ∧ Hid (Tm.One1 (.pointer (some ⟨p, 0, none⟩)) w (ft L) B W)) ⟨Blk.new w5 _ _, rdi_below HRA5.out (below_new w5 (.cells #[.int .i64 a1, .int .i64 a2, .int .i64 a3, .int .i64 a4, .int .u64 (a5 : Nat), .bool a6] 26)), rdi_below HRB5.out (below_new w5 (.cells #[.int .i64 a1, .int .i64 a2, .int .i64 a3, .int .i64 a4, .int .u64 (a5 : Nat), .bool a6] 26)), HOW5.out.later (below_new w5 (.cells #[.int .i64 a1, .int .i64 a2, .int .i64 a3, .int .i64 a4, .int .u64 (a5 : Nat), .bool a6] 26))⟩ ?_
        rw [← hg]
        clear HRA5 HRB5 HOW5 hg
        rintro wa ⟨HBX, HRA5, HRB5, HOW5⟩
        have HT := Lib.hid (Ob.nil_one ⟨0, 0, none⟩ wa)
        have one := HT.out
        refine Rc.wp_region (by kernel_rfl) (fun opn => List.getD [Rc.val (.bool true), Rc.val (.bool false), Rc.val (.bool false), Rc.val (.agg #[.int .i64 a1, .int .i64 a2, .int .i64 a3, .int .i64 a4, .int .u64 (a5 : Nat), .bool a6]), Rc.val (.int .u64 (n : Nat)), Rc.val (.int .i64 28), Rc.val (.bool false), Rc.val (.bool false), Rc.val (.bool false), Rc.val (.int .i64 (i : Nat)), Rc.val (.bool true), Rc.val (.bool true), Rc.val (.slice (some ⟨b, off, none⟩) na ca), Rc.val (.int .i64 (i : Nat)), Rc.val (.int .i64 (i1 : Nat)), Rc.val (.pointer (some ⟨b, off + i1, none⟩)), Rc.val (.int .i64 z), Rc.val (.slice (some ⟨b, off, none⟩) na ca), Rc.val (.int .i64 (i : Nat)), Rc.val (.pointer (some ⟨b, off + i, none⟩)), Rc.val (.int .i64 x), Rc.val (.bool false), Rc.val (.bool false), Rc.val (.bool false), Ob.turned Ob.nil (.pointer (some ⟨0, 0, none⟩)) (Ob.Ups (fun _ => False) wa) undef ()] opn Rc.any) 1 [] [[], [(0, 126)], [(1, 127)], [(2, 128)], [(2, 128)], [(2, 128), (3, 129), (4, 130)], [(2, 128), (5, 131)], [(2, 128), (6, 132)], [(7, 133)], [(8, 134)], [(8, 134), (9, 135)], [(8, 134), (10, 136)], [(11, 137)], [(11, 137)], [(11, 137), (13, 139)], [(11, 137), (12, 138), (14, 140)], [(11, 137), (15, 141)], [(11, 137)], [(11, 137)], [(11, 137), (17, 143), (18, 144)], [(11, 137), (19, 145)], [(11, 137), (16, 142), (20, 146)], [(8, 134), (11, 137), (21, 147)], [(8, 134), (22, 148)]] [[], [0], [0, 1], [0, 1, 2], [0, 1, 2], [0, 1, 2, 3, 4], [0, 1, 2, 3, 4, 5], [0, 1, 2, 3, 4, 5, 6], [0, 1, 2, 3, 4, 5, 6, 7], [0, 1, 2, 3, 4, 5, 6, 7, 8], [0, 1, 2, 3, 4, 5, 6, 7, 8, 9], [0, 1, 2, 3, 4, 5, 6, 7, 8, 9, 10], [0, 1, 2, 3, 4, 5, 6, 7, 8, 9, 10, 11], [0, 1, 2, 3, 4, 5, 6, 7, 8, 9, 10, 11], [0, 1, 2, 3, 4, 5, 6, 7, 8, 9, 10, 11, 13], [0, 1, 2, 3, 4, 5, 6, 7, 8, 9, 10, 11, 12, 13, 14], [0, 1, 2, 3, 4, 5, 6, 7, 8, 9, 10, 11, 12, 13, 14, 15], [0, 1, 2, 3, 4, 5, 6, 7, 8, 9, 10, 11], [0, 1, 2, 3, 4, 5, 6, 7, 8, 9, 10, 11], [0, 1, 2, 3, 4, 5, 6, 7, 8, 9, 10, 11, 17, 18], [0, 1, 2, 3, 4, 5, 6, 7, 8, 9, 10, 11, 17, 18, 19], [0, 1, 2, 3, 4, 5, 6, 7, 8, 9, 10, 11, 12, 13, 14, 15, 16, 17, 18, 19, 20], [0, 1, 2, 3, 4, 5, 6, 7, 8, 9, 10, 11, 12, 13, 14, 15, 16, 17, 18, 19, 20, 21], [0, 1, 2, 3, 4, 5, 6, 7, 8, 9, 10, 11, 12, 13, 14, 15, 16, 17, 18, 19, 20, 21, 22]] [[], [0], [1], [2], [2], [2, 3, 4], [2, 5], [2, 6], [7], [8], [8, 9], [8, 10], [11], [11], [11, 13], [11, 12, 14], [11, 15], [11], [11], [11, 17, 18], [11, 19], [11, 16, 20], [8, 11, 21], [8, 22]] [] (by kernel_rfl) (by rfl) (by kernel_rfl) (fun _ => False) (fun _ b => (fun _ => False) b) (Ob.one_inv Ob.nil one.at_ _ _ 24 rfl) ?_ ?_
        · intro fr ha
          have hz : fr.tmps.size = 180 := by rw [ha]; rfl
          have y19 : fr.eval (.tmp 19) = .bool true := by rw [ha]; rfl
          have y18 : fr.eval (.tmp 18) = .pointer (some ⟨g, 0, none⟩) := by rw [ha]; rfl
          have y2 : fr.eval (.tmp 2) = .int .u64 (n : Nat) := by rw [ha]; rfl
          have y17 : fr.eval (.tmp 17) = .int .i64 (i : Nat) := by rw [ha]; rfl
          have y14 : fr.eval (.tmp 14) = .slice (some ⟨b, off, none⟩) na ca := by rw [ha]; rfl
          clear ha
          refine .cons ?_ (.cons ?_ (.cons ?_ (.cons ?_ (.cons ?_ (.cons ?_ (.cons ?_ (.cons ?_ (.cons ?_ (.cons ?_ (.cons ?_ (.cons ?_ (.cons ?_ (.cons ?_ (.cons ?_ (.cons ?_ (.cons ?_ (.cons ?_ (.cons ?_ (.cons ?_ (.cons ?_ (.cons ?_ (.cons ?_ (.cons ?_ (.nil))))))))))))))))))))))))
          · intro V S w2 HM HU HE
            have HM : Mod wa w2 (fun _ => False) := HM
            have tb19 : (Rg.putUse V [] fr).eval (.tmp 19) = .bool true := (Rg.use_eval V fr 19 [] (by simp only [hz]; decide)).trans y19
            show Rg.Does1 _ _ V (Rg.putUse V [] fr) w2 _
            exact Ob.rc_mv (.bool true) (by simp only [execOp, tb19]; go_simp) rfl rfl True.intro
          · intro V S w2 HM HU HE
            have HM : Mod wa w2 (fun _ => False) := HM
            have h0 : V 0 = .bool true := HU.holds 0 (by decide)
            have tb126 : (Rg.putUse V [(0, 126)] fr).eval (.tmp 126) = .bool true := (Rg.use_eval V fr 126 [(0, 126)] (by simp only [hz]; decide)).trans h0
            show Rg.Does1 _ _ V (Rg.putUse V [(0, 126)] fr) w2 _
            exact Ob.rc_mv (.bool false) (by simp only [execOp, tb126]; go_simp) rfl rfl True.intro
          · intro V S w2 HM HU HE
            have HM : Mod wa w2 (fun _ => False) := HM
            have h1 : V 1 = .bool false := HU.holds 1 (by decide)
            have tb127 : (Rg.putUse V [(1, 127)] fr).eval (.tmp 127) = .bool false := (Rg.use_eval V fr 127 [(1, 127)] (by simp only [hz]; decide)).trans h1
            show Rg.Does1 _ _ V (Rg.putUse V [(1, 127)] fr) w2 _
            exact Ob.rc_mv (.bool false) (by simp only [execOp, tb127]; go_simp) rfl rfl True.intro
          · intro V S w2 HM HU HE
            have HM : Mod wa w2 (fun _ => False) := HM
            have h2 : V 2 = .bool false := HU.holds 2 (by decide)
            have tb18 : (Rg.putUse V [(2, 128)] fr).eval (.tmp 18) = .pointer (some ⟨g, 0, none⟩) := (Rg.use_eval V fr 18 [(2, 128)] (by simp only [hz]; decide)).trans y18
            show Rg.Does1 _ _ V (Rg.putUse V [(2, 128)] fr) w2 _
            have hb : Below wa.heap.size wa w2 := ⟨HM.os, HM.tape, HM.output, HM.size, fun b hb => HM.block b hb (fun h => h)⟩
            have hk := HBX.out.below hb HBX.out.lt
            have c0 := hk.cell 0
            have c1 := hk.cell 1
            have c2 := hk.cell 2
            have c3 := hk.cell 3
            have c4 := hk.cell 4
            have c5 := hk.cell 5
            exact Ob.rc_mv (.agg #[.int .i64 a1, .int .i64 a2, .int .i64 a3, .int .i64 a4, .int .u64 (a5 : Nat), .bool a6]) (by simp only [execOp, tb18]; go_simp) rfl rfl h2
          · intro V S w2 HM HU HE
            have HM : Mod wa w2 (fun _ => False) := HM
            have h2 : V 2 = .bool false := HU.holds 2 (by decide)
            have tb2 : (Rg.putUse V [(2, 128)] fr).eval (.tmp 2) = .int .u64 (n : Nat) := (Rg.use_eval V fr 2 [(2, 128)] (by simp only [hz]; decide)).trans y2
            show Rg.Does1 _ _ V (Rg.putUse V [(2, 128)] fr) w2 _
            exact Ob.rc_mv (.int .u64 (n : Nat)) (by simp only [execOp, tb2]; go_simp) rfl rfl h2
          · intro V S w2 HM HU HE
            have HM : Mod wa w2 (fun _ => False) := HM
            have h2 : V 2 = .bool false := HU.holds 2 (by decide)
            have h3 : V 3 = .agg #[.int .i64 a1, .int .i64 a2, .int .i64 a3, .int .i64 a4, .int .u64 (a5 : Nat), .bool a6] := HU.holds 3 (by decide)
            have tb129 : (Rg.putUse V [(2, 128), (3, 129), (4, 130)] fr).eval (.tmp 129) = .agg #[.int .i64 a1, .int .i64 a2, .int .i64 a3, .int .i64 a4, .int .u64 (a5 : Nat), .bool a6] := (Rg.use_eval V fr 129 [(2, 128), (3, 129), (4, 130)] (by simp only [hz]; decide)).trans h3
            have h4 : V 4 = .int .u64 (n : Nat) := HU.holds 4 (by decide)
            have tb130 : (Rg.putUse V [(2, 128), (3, 129), (4, 130)] fr).eval (.tmp 130) = .int .u64 (n : Nat) := (Rg.use_eval V fr 130 [(2, 128), (3, 129), (4, 130)] (by simp only [hz]; decide)).trans h4
            show Rg.Does1 _ _ V (Rg.putUse V [(2, 128), (3, 129), (4, 130)] fr) w2 _
            exact Ob.step_tell (.int .i64 28) #[.agg #[.int .i64 a1, .int .i64 a2, .int .i64 a3, .int .i64 a4, .int .u64 (a5 : Nat), .bool a6], .int .u64 (n : Nat)] (fun args w => Rg.call_enter Try.func16 (by kernel_rfl) (by kernel_rfl) args w) rfl (by simp only [List.map_toArray, List.map_cons, List.map_nil, tb129, tb130]) rfl (fun x => Rg.alias_none rfl V x) h2 (HRM.out w2)
          · intro V S w2 HM HU HE
            have HM : Mod wa w2 (fun _ => False) := HM
            have h2 : V 2 = .bool false := HU.holds 2 (by decide)
            have h5 : V 5 = .int .i64 28 := HU.holds 5 (by decide)
            have tb131 : (Rg.putUse V [(2, 128), (5, 131)] fr).eval (.tmp 131) = .int .i64 28 := (Rg.use_eval V fr 131 [(2, 128), (5, 131)] (by simp only [hz]; decide)).trans h5
            show Rg.Does1 _ _ V (Rg.putUse V [(2, 128), (5, 131)] fr) w2 _
            exact Ob.rc_mv (.bool false) (by simp only [execOp, tb131]; go_simp) rfl rfl h2
          · intro V S w2 HM HU HE
            have HM : Mod wa w2 (fun _ => False) := HM
            have h2 : V 2 = .bool false := HU.holds 2 (by decide)
            have tb128 : (Rg.putUse V [(2, 128), (6, 132)] fr).eval (.tmp 128) = .bool false := (Rg.use_eval V fr 128 [(2, 128), (6, 132)] (by simp only [hz]; decide)).trans h2
            have h6 : V 6 = .bool false := HU.holds 6 (by decide)
            have tb132 : (Rg.putUse V [(2, 128), (6, 132)] fr).eval (.tmp 132) = .bool false := (Rg.use_eval V fr 132 [(2, 128), (6, 132)] (by simp only [hz]; decide)).trans h6
            show Rg.Does1 _ _ V (Rg.putUse V [(2, 128), (6, 132)] fr) w2 _
            exact Ob.rc_mv (.bool false) (by simp only [execOp, tb128, tb132]; go_simp) rfl rfl True.intro
          · intro V S w2 HM HU HE
            have HM : Mod wa w2 (fun _ => False) := HM
            have h7 : V 7 = .bool false := HU.holds 7 (by decide)
            have tb133 : (Rg.putUse V [(7, 133)] fr).eval (.tmp 133) = .bool false := (Rg.use_eval V fr 133 [(7, 133)] (by simp only [hz]; decide)).trans h7
            show Rg.Does1 _ _ V (Rg.putUse V [(7, 133)] fr) w2 _
            exact Ob.rc_mv (.bool false) (by simp only [execOp, tb133]; go_simp) rfl rfl True.intro
          · intro V S w2 HM HU HE
            have HM : Mod wa w2 (fun _ => False) := HM
            have h8 : V 8 = .bool false := HU.holds 8 (by decide)
            have tb17 : (Rg.putUse V [(8, 134)] fr).eval (.tmp 17) = .int .i64 (i : Nat) := (Rg.use_eval V fr 17 [(8, 134)] (by simp only [hz]; decide)).trans y17
            show Rg.Does1 _ _ V (Rg.putUse V [(8, 134)] fr) w2 _
            exact Ob.rc_mv (.int .i64 (i : Nat)) (by simp only [execOp, tb17]; go_simp) rfl rfl h8
          · intro V S w2 HM HU HE
            have HM : Mod wa w2 (fun _ => False) := HM
            have h8 : V 8 = .bool false := HU.holds 8 (by decide)
            have h9 : V 9 = .int .i64 (i : Nat) := HU.holds 9 (by decide)
            have tb135 : (Rg.putUse V [(8, 134), (9, 135)] fr).eval (.tmp 135) = .int .i64 (i : Nat) := (Rg.use_eval V fr 135 [(8, 134), (9, 135)] (by simp only [hz]; decide)).trans h9
            show Rg.Does1 _ _ V (Rg.putUse V [(8, 134), (9, 135)] fr) w2 _
            exact Ob.rc_mv (.bool true) (by simp only [execOp, tb135]; go_simp) rfl rfl h8
          · intro V S w2 HM HU HE
            have HM : Mod wa w2 (fun _ => False) := HM
            have h8 : V 8 = .bool false := HU.holds 8 (by decide)
            have h10 : V 10 = .bool true := HU.holds 10 (by decide)
            have tb136 : (Rg.putUse V [(8, 134), (10, 136)] fr).eval (.tmp 136) = .bool true := (Rg.use_eval V fr 136 [(8, 134), (10, 136)] (by simp only [hz]; decide)).trans h10
            show Rg.Does1 _ _ V (Rg.putUse V [(8, 134), (10, 136)] fr) w2 _
            exact Ob.rc_mv (.bool true) (by simp only [execOp, tb136]; go_simp) rfl rfl h8
          · intro V S w2 HM HU HE
            have HM : Mod wa w2 (fun _ => False) := HM
            have h11 : V 11 = .bool true := HU.holds 11 (by decide)
            have tb14 : (Rg.putUse V [(11, 137)] fr).eval (.tmp 14) = .slice (some ⟨b, off, none⟩) na ca := (Rg.use_eval V fr 14 [(11, 137)] (by simp only [hz]; decide)).trans y14
            show Rg.Does1 _ _ V (Rg.putUse V [(11, 137)] fr) w2 _
            exact Ob.rc_mv (.slice (some ⟨b, off, none⟩) na ca) (by simp only [execOp, tb14]; go_simp) rfl rfl h11
          · intro V S w2 HM HU HE
            have HM : Mod wa w2 (fun _ => False) := HM
            have h11 : V 11 = .bool true := HU.holds 11 (by decide)
            have tb17 : (Rg.putUse V [(11, 137)] fr).eval (.tmp 17) = .int .i64 (i : Nat) := (Rg.use_eval V fr 17 [(11, 137)] (by simp only [hz]; decide)).trans y17
            show Rg.Does1 _ _ V (Rg.putUse V [(11, 137)] fr) w2 _
            exact Ob.rc_mv (.int .i64 (i : Nat)) (by simp only [execOp, tb17]; go_simp) rfl rfl h11
          · intro V S w2 HM HU HE
            have HM : Mod wa w2 (fun _ => False) := HM
            have h11 : V 11 = .bool true := HU.holds 11 (by decide)
            have h13 : V 13 = .int .i64 (i : Nat) := HU.holds 13 (by decide)
            have tb139 : (Rg.putUse V [(11, 137), (13, 139)] fr).eval (.tmp 139) = .int .i64 (i : Nat) := (Rg.use_eval V fr 139 [(11, 137), (13, 139)] (by simp only [hz]; decide)).trans h13
            show Rg.Does1 _ _ V (Rg.putUse V [(11, 137), (13, 139)] fr) w2 _
            exact Ob.rc_mv (.int .i64 (i1 : Nat)) (by simp only [execOp, tb139]; go_simp) rfl rfl h11
          · intro V S w2 HM HU HE
            have HM : Mod wa w2 (fun _ => False) := HM
            have h11 : V 11 = .bool true := HU.holds 11 (by decide)
            have h12 : V 12 = .slice (some ⟨b, off, none⟩) na ca := HU.holds 12 (by decide)
            have tb138 : (Rg.putUse V [(11, 137), (12, 138), (14, 140)] fr).eval (.tmp 138) = .slice (some ⟨b, off, none⟩) na ca := (Rg.use_eval V fr 138 [(11, 137), (12, 138), (14, 140)] (by simp only [hz]; decide)).trans h12
            have h14 : V 14 = .int .i64 (i1 : Nat) := HU.holds 14 (by decide)
            have tb140 : (Rg.putUse V [(11, 137), (12, 138), (14, 140)] fr).eval (.tmp 140) = .int .i64 (i1 : Nat) := (Rg.use_eval V fr 140 [(11, 137), (12, 138), (14, 140)] (by simp only [hz]; decide)).trans h14
            show Rg.Does1 _ _ V (Rg.putUse V [(11, 137), (12, 138), (14, 140)] fr) w2 _
            exact Ob.rc_mv (.pointer (some ⟨b, off + i1, none⟩)) (by simp only [execOp, tb138, tb140]; go_simp) rfl rfl h11
          · intro V S w2 HM HU HE
            have HM : Mod wa w2 (fun _ => False) := HM
            have h11 : V 11 = .bool true := HU.holds 11 (by decide)
            have h15 : V 15 = .pointer (some ⟨b, off + i1, none⟩) := HU.holds 15 (by decide)
            have tb141 : (Rg.putUse V [(11, 137), (15, 141)] fr).eval (.tmp 141) = .pointer (some ⟨b, off + i1, none⟩) := (Rg.use_eval V fr 141 [(11, 137), (15, 141)] (by simp only [hz]; decide)).trans h15
            show Rg.Does1 _ _ V (Rg.putUse V [(11, 137), (15, 141)] fr) w2 _
            have hb : Below wa.heap.size wa w2 := ⟨HM.os, HM.tape, HM.output, HM.size, fun b hb => HM.block b hb (fun h => h)⟩
            have cl := HCX.out _ (rdi_below HRA5.out hb) i1 z HZZ.out
            exact Ob.rc_mv (.int .i64 z) (by simp only [execOp, tb141]; go_simp) rfl rfl h11
          · intro V S w2 HM HU HE
            have HM : Mod wa w2 (fun _ => False) := HM
            have h11 : V 11 = .bool true := HU.holds 11 (by decide)
            have tb14 : (Rg.putUse V [(11, 137)] fr).eval (.tmp 14) = .slice (some ⟨b, off, none⟩) na ca := (Rg.use_eval V fr 14 [(11, 137)] (by simp only [hz]; decide)).trans y14
            show Rg.Does1 _ _ V (Rg.putUse V [(11, 137)] fr) w2 _
            exact Ob.rc_mv (.slice (some ⟨b, off, none⟩) na ca) (by simp only [execOp, tb14]; go_simp) rfl rfl h11
          · intro V S w2 HM HU HE
            have HM : Mod wa w2 (fun _ => False) := HM
            have h11 : V 11 = .bool true := HU.holds 11 (by decide)
            have tb17 : (Rg.putUse V [(11, 137)] fr).eval (.tmp 17) = .int .i64 (i : Nat) := (Rg.use_eval V fr 17 [(11, 137)] (by simp only [hz]; decide)).trans y17
            show Rg.Does1 _ _ V (Rg.putUse V [(11, 137)] fr) w2 _
            exact Ob.rc_mv (.int .i64 (i : Nat)) (by simp only [execOp, tb17]; go_simp) rfl rfl h11
          · intro V S w2 HM HU HE
            have HM : Mod wa w2 (fun _ => False) := HM
            have h11 : V 11 = .bool true := HU.holds 11 (by decide)
            have h17 : V 17 = .slice (some ⟨b, off, none⟩) na ca := HU.holds 17 (by decide)
            have tb143 : (Rg.putUse V [(11, 137), (17, 143), (18, 144)] fr).eval (.tmp 143) = .slice (some ⟨b, off, none⟩) na ca := (Rg.use_eval V fr 143 [(11, 137), (17, 143), (18, 144)] (by simp only [hz]; decide)).trans h17
            have h18 : V 18 = .int .i64 (i : Nat) := HU.holds 18 (by decide)
            have tb144 : (Rg.putUse V [(11, 137), (17, 143), (18, 144)] fr).eval (.tmp 144) = .int .i64 (i : Nat) := (Rg.use_eval V fr 144 [(11, 137), (17, 143), (18, 144)] (by simp only [hz]; decide)).trans h18
            show Rg.Does1 _ _ V (Rg.putUse V [(11, 137), (17, 143), (18, 144)] fr) w2 _
            exact Ob.rc_mv (.pointer (some ⟨b, off + i, none⟩)) (by simp only [execOp, tb143, tb144]; go_simp) rfl rfl h11
          · intro V S w2 HM HU HE
            have HM : Mod wa w2 (fun _ => False) := HM
            have h11 : V 11 = .bool true := HU.holds 11 (by decide)
            have h19 : V 19 = .pointer (some ⟨b, off + i, none⟩) := HU.holds 19 (by decide)
            have tb145 : (Rg.putUse V [(11, 137), (19, 145)] fr).eval (.tmp 145) = .pointer (some ⟨b, off + i, none⟩) := (Rg.use_eval V fr 145 [(11, 137), (19, 145)] (by simp only [hz]; decide)).trans h19
            show Rg.Does1 _ _ V (Rg.putUse V [(11, 137), (19, 145)] fr) w2 _
            have hb : Below wa.heap.size wa w2 := ⟨HM.os, HM.tape, HM.output, HM.size, fun b hb => HM.block b hb (fun h => h)⟩
            have cl := HCX.out _ (rdi_below HRA5.out hb) i x HXX.out
            exact Ob.rc_mv (.int .i64 x) (by simp only [execOp, tb145]; go_simp) rfl rfl h11
          · intro V S w2 HM HU HE
            have HM : Mod wa w2 (fun _ => False) := HM
            have h11 : V 11 = .bool true := HU.holds 11 (by decide)
            have h16 : V 16 = .int .i64 z := HU.holds 16 (by decide)
            have tb142 : (Rg.putUse V [(11, 137), (16, 142), (20, 146)] fr).eval (.tmp 142) = .int .i64 z := (Rg.use_eval V fr 142 [(11, 137), (16, 142), (20, 146)] (by simp only [hz]; decide)).trans h16
            have h20 : V 20 = .int .i64 x := HU.holds 20 (by decide)
            have tb146 : (Rg.putUse V [(11, 137), (16, 142), (20, 146)] fr).eval (.tmp 146) = .int .i64 x := (Rg.use_eval V fr 146 [(11, 137), (16, 142), (20, 146)] (by simp only [hz]; decide)).trans h20
            show Rg.Does1 _ _ V (Rg.putUse V [(11, 137), (16, 142), (20, 146)] fr) w2 _
            exact Ob.rc_mv (.bool false) (by simp only [execOp, tb142, tb146]; go_simp) rfl rfl h11
          · intro V S w2 HM HU HE
            have HM : Mod wa w2 (fun _ => False) := HM
            have h8 : V 8 = .bool false := HU.holds 8 (by decide)
            have h11 : V 11 = .bool true := HU.holds 11 (by decide)
            have tb137 : (Rg.putUse V [(8, 134), (11, 137), (21, 147)] fr).eval (.tmp 137) = .bool true := (Rg.use_eval V fr 137 [(8, 134), (11, 137), (21, 147)] (by simp only [hz]; decide)).trans h11
            have h21 : V 21 = .bool false := HU.holds 21 (by decide)
            have tb147 : (Rg.putUse V [(8, 134), (11, 137), (21, 147)] fr).eval (.tmp 147) = .bool false := (Rg.use_eval V fr 147 [(8, 134), (11, 137), (21, 147)] (by simp only [hz]; decide)).trans h21
            show Rg.Does1 _ _ V (Rg.putUse V [(8, 134), (11, 137), (21, 147)] fr) w2 _
            exact Ob.rc_mv (.bool false) (by simp only [execOp, tb137, tb147]; go_simp) rfl rfl h8
          · intro V S w2 HM HU HE
            have HM : Mod wa w2 (fun _ => False) := HM
            have h8 : V 8 = .bool false := HU.holds 8 (by decide)
            have tb134 : (Rg.putUse V [(8, 134), (22, 148)] fr).eval (.tmp 134) = .bool false := (Rg.use_eval V fr 134 [(8, 134), (22, 148)] (by simp only [hz]; decide)).trans h8
            have h22 : V 22 = .bool false := HU.holds 22 (by decide)
            have tb148 : (Rg.putUse V [(8, 134), (22, 148)] fr).eval (.tmp 148) = .bool false := (Rg.use_eval V fr 148 [(8, 134), (22, 148)] (by simp only [hz]; decide)).trans h22
            show Rg.Does1 _ _ V (Rg.putUse V [(8, 134), (22, 148)] fr) w2 _
            exact Ob.rc_mv (.bool false) (by simp only [execOp, tb134, tb148]; go_simp) rfl rfl True.intro
        · intro V S w2 HI
          have hb : V 23 = .bool false := HI.get 23 (by decide) (by rfl)
          have HT2 := Lib.hid (one.after HI.mod.undrew (HI.get 24 (by decide) (by rfl)).2)
          have HM2 : Hid (Mod wa w2 (fun _ => False)) := HI.mod.undrew
          simp only [Rg.putList, Act.put, List.setIfInBounds_toArray, List.set_cons_zero, List.set_cons_succ, Nat.zero_add, Nat.reduceAdd]
          rw [hb]
          clear HI hb one HT
          have hb : Below wa.heap.size wa w2 := ⟨HM2.out.os, HM2.out.tape, HM2.out.output, HM2.out.size, fun b hb => HM2.out.block b hb (fun h => h)⟩
          have HRA6 := Lib.hid (rdi_below HRA5.out hb)
          have HRB6 := Lib.hid (rdi_below HRB5.out hb)
          have HOW6 := Lib.hid (HOW5.out.later hb)
          clear HT2 HM2 hb HRA5 HRB5 HOW5 HBX
          have HCA : Hid (w2.cell? ⟨b, off + i, none⟩ = some (.int .i64 x)) := HCX.out _ HRA6.out i x HXX.out
          have hss := HSS.out
          rw [← HKS.out, ← HLBE.out] at hss
          obtain ⟨hs1, hs2⟩ := hss
          cases hkk : kept ⟨a1, a2, a3, a4, a5, a6⟩ m with
          | true =>
            obtain ⟨hq1, hq2⟩ := hs1 hkk
            have hxe : x = a1 := HXE.out
            rw [← hxe] at hq1
            obtain ⟨_, b2, off2, hA2, _, hcb⟩ := HRB6.out k x hq1
            subst hA2
            have hkb : k < nb := by rw [HNB.out]; exact (List.getElem?_eq_some_iff.1 hq1).1
            have hcx := HCA.out
            have HQ2 := Lib.hid hq2
            have wk : IntKind.i64.wrap ((k : Int) + 1) = ((k + 1 : Nat) : Int) := by simp [IntKind.wrap, IntKind.bits, IntKind.signed]; omega
            have hkI : (k : Int) < (nb : Int) := by omega
            clear hs1 hs2 hkk hq1 hq2 hxe
            go_wp2_with fail
            go_quiet (fail)
            go_wp2_with fail
            go_roundw
            case rel => exact ⟨i + 1, k + 1, by go_num, by go_num, by omega, HQ2.out.symm, HOW6.out.later (below_drewN _ _), rdi_below HRA6.out (below_drewN _ _), rdi_below HRB6.out (below_drewN _ _)⟩
            case measure => simp [intOf]; omega
          | false =>
            obtain ⟨hq1, hq2⟩ := hs2 hkk
            have HQ2 := Lib.hid hq2
            have hcx := HCA.out
            by_cases hkb : k < nb
            · obtain ⟨y, hy⟩ : ∃ y, lb[k]? = some y := ⟨_, List.getElem?_eq_getElem (by have := HNB.out; omega)⟩
              have hyx : (y == x) = false := by
                have h1 := hq1 y hy
                have h2 : x = a1 := HXE.out
                rw [← h2] at h1
                simpa using h1
              obtain ⟨_, b2, off2, hA2, _, hcb⟩ := HRB6.out k y hy
              subst hA2
              have hkI : (k : Int) < (nb : Int) := by omega
              clear hs1 hs2 hkk hq1 hq2 hy
              go_wp2_with fail
              go_quiet (fail)
              go_wp2_with fail
              go_roundw
              case rel => exact ⟨i + 1, k, by go_num, rfl, by omega, HQ2.out.symm, HOW6.out.later (below_drewN _ _), rdi_below HRA6.out (below_drewN _ _), rdi_below HRB6.out (below_drewN _ _)⟩
              case measure => simp [intOf]; omega
            · have hkI : ¬ (k : Int) < (nb : Int) := by omega
              clear hs1 hs2 hkk hq1 hq2
              go_wp2_with fail
              go_quiet (fail)
              go_wp2_with fail
              go_roundw
              case rel => exact ⟨i + 1, k, by go_num, rfl, by omega, HQ2.out.symm, HOW6.out.later (below_drewN _ _), rdi_below HRA6.out (below_drewN _ _), rdi_below HRB6.out (below_drewN _ _)⟩
              case measure => simp [intOf]; omega
    · obtain rfl : i = na := by omega
      have hkb : k = nb := by rw [HKS.out, HSE.out]
      subst hkb
      go_wp2_with fail
      refine (HLZ.out _ _ HOW.out).mono ?_
      rintro e w5 ⟨A3, c3, rfl, H5⟩
      go_wp2_with fail
      refine (known_any w5).mono ?_
      rintro e w6 ⟨rfl, hb⟩
      have H6 := Lib.hid (H5.out.later hb)
      clear hb
      go_wp2_with fail
      go_ret
      exact ⟨rfl, H6.out.low⟩
end Wo
end Go.Proofs.Ytpblhdpnmnfieaa

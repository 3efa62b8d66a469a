/-
  OWN WORK. The law CodecCuts, walked, given what the program's own writer and reader do.
-/
import Derived.Test.YtpnnikifaalkoaaCoOne
import Derived.Test.YtpnnikifaalkoaaCoArgs
import Derived.Test.YtpnnikifaalkoaaBaWithin
import Derived.Deep.CutBlock
namespace Go.Proofs.Ytpnnikifaalkoaa
open Go.RowKit Rc

def longs (l : List PartD) : List UInt8 := l.flatMap fun p => Co.wLong p.n
theorem longs_len : ∀ l : List PartD, (longs l).length = 8 * l.length
  | [] => rfl
  | p :: l => by
    have := longs_len l
    simp only [longs, List.flatMap_cons, List.length_append, Co.wLong_length, List.length_cons] at *
    omega
theorem longs_app (a b : List PartD) : longs (a ++ b) = longs a ++ longs b := by simp [longs]
theorem longs_snoc (ps : List PartD) (j : Nat) (p : PartD) (h : ps[j]? = some p) : longs (ps.take (j + 1)) = longs (ps.take j) ++ Co.wLong p.n := by
  rw [List.take_add_one, h, longs_app]
  simp [longs]
theorem longs_drop (ps : List PartD) (m i : Nat) (hm : m ≤ ps.length) (hi : i < m) (p : PartD) (h : ps[i]? = some p) : (longs (ps.take m)).drop (8 * i) = Co.wLong p.n ++ (longs (ps.take m)).drop (8 * (i + 1)) := by
  have e : ∀ k, k ≤ m → (longs (ps.take m)).drop (8 * k) = longs ((ps.take m).drop k) := fun k hk => by
    have hl : (longs ((ps.take m).take k)).length = 8 * k := by rw [longs_len, List.length_take, List.length_take]; omega
    conv => lhs; rw [← List.take_append_drop k (ps.take m), longs_app, ← hl]
    rw [List.drop_left]
  rw [e i (by omega), e (i + 1) (by omega)]
  have hi2 : (ps.take m)[i]? = some p := by rw [List.getElem?_take_of_lt hi, h]
  obtain ⟨h1, h2⟩ := List.getElem?_eq_some_iff.1 hi2
  rw [List.drop_eq_getElem_cons h1, h2]
  simp [longs]
def CSt (L : List UInt8) (i : Nat) : Co.Rs := ⟨L.drop (8 * i), 0⟩
theorem cst_step (ps : List PartD) (m i k : Nat) (hm : m ≤ ps.length) (hi : i < m) (p : PartD) (h : ps[i]? = some p) (hn : p.n ≤ 18446744073709551615) (hk : 8 * (i + 1) ≤ k) :
    Co.num 8 (CSt ((longs (ps.take m)).take k) i) = (p.n, CSt ((longs (ps.take m)).take k) (i + 1)) := by
  have hl := Co.wLong_length p.n
  have e : ((longs (ps.take m)).take k).drop (8 * i) = Co.wLong p.n ++ ((longs (ps.take m)).take k).drop (8 * (i + 1)) := by
    rw [List.drop_take, List.drop_take, longs_drop ps m i hm hi p h, List.take_append, List.take_of_length_le (by omega), hl]
    congr 2
  unfold CSt
  rw [e, Co.num_long _ hn]
theorem cst_end (L : List UInt8) (k : Nat) (hL : L.length = k) : Co.num 8 (CSt L (k / 8)) = (0, ⟨L.drop (8 * (k / 8)), 10⟩) :=
  Co.num_lack 8 _ (by decide) (by rw [List.length_drop]; omega)

set_option maxHeartbeats 8000000 in
set_option maxRecDepth 100000 in
theorem cuts_any (C : WSaid) (R : RSaid codecFns) (hM : RMake R) (w : World) (ps qs : List PartD) (A1 A2 : Option Addr) (c1 c2 : Nat) (hp : PartsIn w A1 ps) (hq : PartsIn w A2 qs) (hpl : ps.length ≤ 9223372036854775807) (hql : qs.length ≤ 9223372036854775807) (at_ : Int) (hat0 : -9223372036854775808 ≤ at_) (hat1 : at_ ≤ 9223372036854775807) :
    Calls Try.prog 6 #[.slice A1 ps.length c1, .int .i64 at_, .slice A2 qs.length c2] w fun e w' => e = .returned (.bool true) ∧ Below w.heap.size w w' := by
  have HP := Lib.hid hp
  have HQ := Lib.hid hq
  have HPL := Lib.hid hpl
  have HQL := Lib.hid hql
  have HA0 := Lib.hid hat0
  have HA1 := Lib.hid hat1
  clear hp hq hat0 hat1 hpl hql
  go_enter Try.func6, Try.ntmps6
  go_wp2_with fail
  refine (WAt.new C w).mono ?_
  rintro e w1 ⟨a, rfl, HW⟩
  go_upto_block 0 with (fail)
  go_cut [8] (fun t8 wx => ∃ m : Nat, m ≤ ps.length ∧ m ≤ 15 ∧ t8 = .int .i64 (m : Nat) ∧ Hid (WAt C (.pointer (some a)) w (longs (ps.take m)) wx))
  case first =>
    go_wp2_with fail
    go_loopw [8] (fun t8 wr => ∃ j : Nat, j ≤ ps.length ∧ j ≤ 15 ∧ t8 = .int .i64 (j : Nat) ∧ Hid (WAt C (.pointer (some a)) w (longs (ps.take j)) wr)) (fun t8 _ => 15 - (intOf t8).toNat)
    case atStart => exact ⟨0, by omega, by omega, rfl, HW⟩
    case round =>
      obtain ⟨j, hj, hj15, rfl, HJ⟩ := hrel
      by_cases hlt : j < ps.length
      · by_cases hlt2 : j < 15
        · obtain ⟨b, off, rfl, hok⟩ := HP.out.plain (by omega)
          obtain ⟨p, hpj⟩ : ∃ p, ps[j]? = some p := ⟨_, List.getElem?_eq_getElem hlt⟩
          have hk := hok j p hpj
          have c1 := (hk.cells HJ.out.low).2.1
          have HK := Lib.hid hk
          have HPJ := Lib.hid hpj
          have hlj : Hid ((longs (ps.take j)).length ≤ 120) := by show _ ≤ _; rw [longs_len, List.length_take]; omega
          clear hk hok hpj
          go_wp2_with fail
          refine (HJ.out.long (by have := hlj.out; omega) p.n HK.out.small).mono ?_
          rintro e w2 ⟨⟨x, rfl⟩, HJ2⟩
          rw [← longs_snoc ps j p HPJ.out] at HJ2
          go_wp2_with fail
          go_roundw
          case rel => exact ⟨j + 1, by omega, by omega, by go_num, HJ2⟩
          case measure => simp [intOf]; omega
        · go_wp2_with fail
          go_meet
          case rel => exact ⟨j, hj, hj15, rfl, HJ⟩
      · go_wp2_with fail
        go_meet
        case rel => exact ⟨j, hj, hj15, rfl, HJ⟩
  case rest =>
    clear HW
    obtain ⟨m, hm, hm15, rfl, HW⟩ := hcut
    go_wp2_with fail
    refine HW.out.done.mono ?_
    rintro e w2 ⟨X, c, rfl, hc, HO, HX, _, HJ⟩
    obtain ⟨L, hL⟩ : ∃ L, L = longs (ps.take m) := ⟨_, rfl⟩
    have hll : L.length = 8 * m := by rw [hL, longs_len, List.length_take]; omega
    rw [← hL] at HO hc ⊢
    have HL := Lib.hid hL
    have HR : Hid (Rd w2 X L) := by
      obtain ⟨X', c', e, _, hr⟩ := own_form HO.out
      injection e with e1
      subst e1; exact hr
    have HB2 := Lib.hid HJ.out.low
    clear HW HO HX HJ hL
    by_cases hm0 : m = 0
    · obtain rfl : L = [] := List.eq_nil_of_length_eq_zero (by omega)
      go_wp2_with fail
      refine (known4_any C w2).mono ?_
      rintro e w7 ⟨rfl, hb⟩
      have HB7 := Lib.hid (HB2.out.trans (hb.mono HB2.out.size))
      clear hb
      go_wp2_with fail
      go_ret
      exact ⟨rfl, HB7.out⟩
    · have hz : ((L.length : Nat) : Int) ≠ 0 := by omega
      go_wp2_with fail
      refine (within_to at_ _ (L.length - 1) _ (by omega) (by omega) HA0.out HA1.out).mono ?_
      rintro e w3 ⟨k, hk, rfl, rfl⟩
      obtain ⟨r, hsl, hrc, HRD, HEQ, HLN, hrl⟩ := part_h X L c k (by omega) hc
      go_wp2_with fail
      have hN := hM.one w2 X r c (HRD.out _ HR.out) hrc (by have := HLN.out; omega)
      rw [HLN.out] at hN
      refine hN.mono ?_
      rintro e w4 ⟨ar, rfl, HT⟩
      have HT0 : Hid (OneAt R (.pointer (some ar)) X r w2 (fun _ => False) (CSt r 0) w4) := HT.out
      clear HT HR hsl hN
      obtain ⟨d, hd⟩ : ∃ d, d = k / 8 := ⟨_, rfl⟩
      have hd2 : ((k : Nat) : Int) / 8 = ((d : Nat) : Int) := by omega
      have hd3 : 8 * d ≤ k := by omega
      have HD := Lib.hid hd
      clear hd
      go_wp2_with fail
      go_loopw [12] (fun t12 wr => ∃ i : Nat, i ≤ d ∧ t12 = .int .i64 (i : Nat) ∧ Hid (OneAt R (.pointer (some ar)) X r w2 (fun _ => False) (CSt r i) wr)) (fun t12 _ => d - (intOf t12).toNat)
      case atStart => exact ⟨0, by omega, rfl, HT0⟩
      case round =>
        obtain ⟨i, hi, rfl, HT1⟩ := hrel
        by_cases hlt : i < d
        · obtain ⟨b, off, rfl, hok⟩ := HP.out.plain (by omega)
          obtain ⟨p, hpj⟩ : ∃ p, ps[i]? = some p := ⟨_, List.getElem?_eq_getElem (by omega)⟩
          have hk2 := hok i p hpj
          have HST : Hid (Co.num 8 (CSt r i) = (p.n, CSt r (i + 1))) := by
            show _ = _
            rw [HEQ.out, HL.out]
            exact cst_step ps m i k hm (by omega) p hpj hk2.small (by omega)
          have HK := Lib.hid hk2
          have HBr := Lib.hid (HB2.out.trans (HT1.out.low.mono HB2.out.size))
          obtain ⟨B, hone⟩ := HT1.out
          have HT := Lib.hid hone
          clear hone hpj hk2 hok HT1 HT0
          go_upto_region 18 with (fail)
          have one := HT.out
          have or0 := one.rd
          have oa0 := one.ap
          refine Rc.wp_region (by kernel_rfl) (fun opn => List.getD [Rc.val (.pointer (some ar)), R.nrow (.pointer (some ar)) X r (Ups B wr) (.int .u64 ((p.n : Nat) : Int)) (CSt r (i + 1)), Rc.val (.slice (some ⟨b, off, none⟩) ps.length c1), Rc.val (.int .i64 ((i : Nat) : Int)), Rc.val (.pointer (some ⟨b, off + i * 3, none⟩)), Rc.val (.pointer (some ⟨b, off + i * 3 + 1, none⟩)), Rc.val (.int .u64 ((p.n : Nat) : Int)), Rc.val (.bool false), R.nrow (.pointer (some ar)) X r (Ups B wr) undef (CSt r i)] opn Rc.any) 1 [] [[], [(0, 57)], [], [], [(2, 59), (3, 60)], [(4, 61)], [(5, 62)], [(1, 58), (6, 63)]] [[], [0], [], [], [2, 3], [2, 3, 4], [2, 3, 4, 5], [0, 1, 2, 3, 4, 5, 6]] [[], [0, 8], [], [], [2, 3], [4], [5], [1, 6]] [(1, 8)] (by kernel_rfl) (by rfl) (by kernel_rfl) B (fun _ b => B b) (one_inv R one.at_ _ _ 8 rfl) ?_ ?_
          · intro fr ha
            have hz : fr.tmps.size = 130 := by rw [ha]; rfl
            have y11 : fr.eval (.tmp 11) = .pointer (some ar) := by rw [ha]; rfl
            have y0 : fr.eval (.tmp 0) = .slice (some ⟨b, off, none⟩) ps.length c1 := by rw [ha]; rfl
            have y12 : fr.eval (.tmp 12) = .int .i64 ((i : Nat) : Int) := by rw [ha]; rfl
            clear ha
            refine .cons ?_ (.cons ?_ (.cons ?_ (.cons ?_ (.cons ?_ (.cons ?_ (.cons ?_ (.cons ?_ (.nil))))))))
            · intro V S w2 HM HU HE
              have HM : Mod wr w2 B := HM
              have tb11 : (Rg.putUse V [] fr).eval (.tmp 11) = .pointer (some ar) := (Rg.use_eval V fr 11 [] (by simp only [hz]; decide)).trans y11
              show Rg.Does1 _ _ V (Rg.putUse V [] fr) w2 _
              exact rc_mv (.pointer (some ar)) (by simp only [execOp, tb11]; go_simp) rfl rfl True.intro
            · intro V S w2 HM HU HE
              have HM : Mod wr w2 B := HM
              have h0 : V 0 = .pointer (some ar) := HU.holds 0 (by decide)
              have tb57 : (Rg.putUse V [(0, 57)] fr).eval (.tmp 57) = .pointer (some ar) := (Rg.use_eval V fr 57 [(0, 57)] (by simp only [hz]; decide)).trans h0
              show Rg.Does1 _ _ V (Rg.putUse V [(0, 57)] fr) w2 _
              have or2 : Rd w2 X r := or0.mod HM oa0
              exact step_rnum (s := (CSt r i)) R #[.pointer (some ar)] (fun args w => Rg.call_enter Try.func26 (by kernel_rfl) (by kernel_rfl) args w) rfl (by simp only [List.map_toArray, List.map_cons, List.map_nil, tb57]) rfl (by decide) ((HU.holds 8 (by decide)).2) (fun x => Rg.alias_none rfl V x) True.intro HM.size or0 oa0 or2 (fun S1 hat hr ha => by have := R.long hat hr ha; rwa [HST.out] at this)
            · intro V S w2 HM HU HE
              have HM : Mod wr w2 B := HM
              have tb0 : (Rg.putUse V [] fr).eval (.tmp 0) = .slice (some ⟨b, off, none⟩) ps.length c1 := (Rg.use_eval V fr 0 [] (by simp only [hz]; decide)).trans y0
              show Rg.Does1 _ _ V (Rg.putUse V [] fr) w2 _
              exact rc_mv (.slice (some ⟨b, off, none⟩) ps.length c1) (by simp only [execOp, tb0]; go_simp) rfl rfl True.intro
            · intro V S w2 HM HU HE
              have HM : Mod wr w2 B := HM
              have tb12 : (Rg.putUse V [] fr).eval (.tmp 12) = .int .i64 ((i : Nat) : Int) := (Rg.use_eval V fr 12 [] (by simp only [hz]; decide)).trans y12
              show Rg.Does1 _ _ V (Rg.putUse V [] fr) w2 _
              exact rc_mv (.int .i64 ((i : Nat) : Int)) (by simp only [execOp, tb12]; go_simp) rfl rfl True.intro
            · intro V S w2 HM HU HE
              have HM : Mod wr w2 B := HM
              have h2 : V 2 = .slice (some ⟨b, off, none⟩) ps.length c1 := HU.holds 2 (by decide)
              have tb59 : (Rg.putUse V [(2, 59), (3, 60)] fr).eval (.tmp 59) = .slice (some ⟨b, off, none⟩) ps.length c1 := (Rg.use_eval V fr 59 [(2, 59), (3, 60)] (by simp only [hz]; decide)).trans h2
              have h3 : V 3 = .int .i64 ((i : Nat) : Int) := HU.holds 3 (by decide)
              have tb60 : (Rg.putUse V [(2, 59), (3, 60)] fr).eval (.tmp 60) = .int .i64 ((i : Nat) : Int) := (Rg.use_eval V fr 60 [(2, 59), (3, 60)] (by simp only [hz]; decide)).trans h3
              show Rg.Does1 _ _ V (Rg.putUse V [(2, 59), (3, 60)] fr) w2 _
              have b1 : i < ps.length := by omega
              exact rc_mv (.pointer (some ⟨b, off + i * 3, none⟩)) (by simp only [execOp, tb59, tb60]; go_simp) rfl rfl True.intro
            · intro V S w2 HM HU HE
              have HM : Mod wr w2 B := HM
              have h4 : V 4 = .pointer (some ⟨b, off + i * 3, none⟩) := HU.holds 4 (by decide)
              have tb61 : (Rg.putUse V [(4, 61)] fr).eval (.tmp 61) = .pointer (some ⟨b, off + i * 3, none⟩) := (Rg.use_eval V fr 61 [(4, 61)] (by simp only [hz]; decide)).trans h4
              show Rg.Does1 _ _ V (Rg.putUse V [(4, 61)] fr) w2 _
              exact rc_mv (.pointer (some ⟨b, off + i * 3 + 1, none⟩)) (by simp only [execOp, tb61]; go_simp) rfl rfl True.intro
            · intro V S w2 HM HU HE
              have HM : Mod wr w2 B := HM
              have h5 : V 5 = .pointer (some ⟨b, off + i * 3 + 1, none⟩) := HU.holds 5 (by decide)
              have tb62 : (Rg.putUse V [(5, 62)] fr).eval (.tmp 62) = .pointer (some ⟨b, off + i * 3 + 1, none⟩) := (Rg.use_eval V fr 62 [(5, 62)] (by simp only [hz]; decide)).trans h5
              show Rg.Does1 _ _ V (Rg.putUse V [(5, 62)] fr) w2 _
              have c0 := (HK.out.cells (HB2.out.trans ((one.low2 HM).mono HB2.out.size))).2.1
              exact rc_mv (.int .u64 ((p.n : Nat) : Int)) (by simp only [execOp, tb62]; go_simp) rfl rfl True.intro
            · intro V S w2 HM HU HE
              have HM : Mod wr w2 B := HM
              have h1 : V 1 = .int .u64 ((p.n : Nat) : Int) := (HU.holds 1 (by decide)).1
              have tb58 : (Rg.putUse V [(1, 58), (6, 63)] fr).eval (.tmp 58) = .int .u64 ((p.n : Nat) : Int) := (Rg.use_eval V fr 58 [(1, 58), (6, 63)] (by simp only [hz]; decide)).trans h1
              have h6 : V 6 = .int .u64 ((p.n : Nat) : Int) := HU.holds 6 (by decide)
              have tb63 : (Rg.putUse V [(1, 58), (6, 63)] fr).eval (.tmp 63) = .int .u64 ((p.n : Nat) : Int) := (Rg.use_eval V fr 63 [(1, 58), (6, 63)] (by simp only [hz]; decide)).trans h6
              show Rg.Does1 _ _ V (Rg.putUse V [(1, 58), (6, 63)] fr) w2 _
              exact rc_mv (.bool false) (by simp only [execOp, tb58, tb63]; go_simp) rfl rfl True.intro
          · intro V S w2 HI
            have hb : V 7 = .bool false := HI.get 7 (by decide) (by rfl)
            have HT2 := Lib.hid (one.after HI.mod.undrew (HI.get 1 (by decide) (by rfl)).2)
            have HM2 := Lib.hid HI.mod.undrew
            simp only [Rg.putList, Act.put, List.setIfInBounds_toArray, List.set_cons_zero, List.set_cons_succ, Nat.zero_add, Nat.reduceAdd]
            rw [hb]
            clear HI hb one or0 oa0 HT
            go_wp2_with fail
            go_roundw
            case rel => exact ⟨i + 1, by omega, by go_num, HT2⟩
            case measure => simp [intOf]; omega
        · obtain rfl : i = d := by omega
          have HST : Hid (Co.num 8 (CSt r i) = (0, ⟨r.drop (8 * (k / 8)), 10⟩)) := by
            show _ = _
            rw [HD.out]
            exact cst_end r k HLN.out
          obtain ⟨S10, hS10⟩ : ∃ s : Co.Rs, s = ⟨r.drop (8 * (k / 8)), 10⟩ := ⟨_, rfl⟩
          have hw : S10.why = 10 := by rw [hS10]
          have hw0 : S10.why ≠ 0 := by omega
          rw [← hS10] at HST
          have HW0 := Lib.hid hw0
          have HFI : Hid (Co.fin S10 = 10) := by show _ = _; rw [Co.fin_ref _ hw0, hw]
          clear hS10 hw hw0
          go_wp2_with fail
          refine (HT1.out.long HST.out).mono ?_
          rintro e w5 ⟨rfl, HT2⟩
          clear HT1 HT0
          go_wp2_with fail
          refine (HT2.out.fin HFI.out).mono ?_
          rintro e w6 ⟨rfl, HT3⟩
          go_wp2_with fail
          refine (HT3.out.left (Co.left_ref _ HW0.out)).mono ?_
          rintro e w7 ⟨rfl, HT4⟩
          clear HT2 HT3
          go_upto_block 4 with (fail)
          go_cut [13] (fun t13 wx => ∃ i : Nat, t13 = .int .i64 (i : Nat) ∧ Hid (OneAt R (.pointer (some ar)) X r w2 (fun _ => False) S10 wx))
          case first =>
            go_wp2_with fail
            go_loopw [13] (fun t13 wr => ∃ i : Nat, i ≤ qs.length ∧ i ≤ 10 ∧ t13 = .int .i64 (i : Nat) ∧ Hid (OneAt R (.pointer (some ar)) X r w2 (fun _ => False) S10 wr)) (fun t13 _ => 10 - (intOf t13).toNat)
            case atStart => exact ⟨0, by omega, by omega, rfl, HT4⟩
            case round =>
              obtain ⟨i2, hi2, hi10, rfl, HT5⟩ := hrel
              by_cases hlt2 : i2 < qs.length
              · by_cases hlt3 : i2 < 10
                · obtain ⟨b, off, rfl, hok⟩ := HQ.out.plain (by omega)
                  obtain ⟨p, hpj⟩ : ∃ p, qs[i2]? = some p := ⟨_, List.getElem?_eq_getElem (by omega)⟩
                  have HK := Lib.hid (hok i2 p hpj)
                  obtain ⟨g, hg⟩ : ∃ g : Nat, g = p.n % 9 := ⟨_, rfl⟩
                  have hg2 : ((p.n : Nat) : Int) % 9 = ((g : Nat) : Int) := by omega
                  have hg3 : g < 9 := by omega
                  clear hg hpj hok
                  go_wp2_with fail
                  refine (HT5.out.byte (Co.num_ref 1 _ HW0.out)).mono ?_
                  rintro e w8 ⟨rfl, HT6⟩
                  go_wp2_with fail
                  refine (HT6.out.short (Co.num_ref 2 _ HW0.out)).mono ?_
                  rintro e w9 ⟨rfl, HT7⟩
                  go_wp2_with fail
                  refine (HT7.out.long (Co.num_ref 8 _ HW0.out)).mono ?_
                  rintro e w10 ⟨rfl, HT8⟩
                  go_wp2_with fail
                  refine (HT8.out.flag (Co.flag_ref _ HW0.out)).mono ?_
                  rintro e w11 ⟨rfl, HT9⟩
                  go_wp2_with fail
                  refine (HT9.out.bytes (Co.bytes_ref _ HW0.out)).mono ?_
                  rintro e w12 ⟨X1, k1, rfl, hc1, _, HT10⟩
                  have c1 := (HK.out.cells (HB2.out.trans (HT10.out.low.mono HB2.out.size))).2.1
                  clear HT5 HT6 HT7 HT8 HT9
                  go_wp2_with fail
                  refine (HT10.out.raw (n := ((g : Nat) : Int)) (by omega) (by omega) (Co.raw_ref _ _ HW0.out)).mono ?_
                  rintro e w13 ⟨X2, k2, rfl, hc2, _, HT11⟩
                  clear c1
                  go_wp2_with fail
                  refine (HT11.out.fin HFI.out).mono ?_
                  rintro e w14 ⟨rfl, HT12⟩
                  clear HT10 HT11
                  go_wp2_with fail
                  go_roundw
                  case rel => exact ⟨i2 + 1, by omega, by omega, by go_num, HT12⟩
                  case measure => simp [intOf]; omega
                · go_wp2_with fail
                  go_meet
                  case rel => exact ⟨i2, rfl, HT5⟩
              · go_wp2_with fail
                go_meet
                case rel => exact ⟨i2, rfl, HT5⟩
          case rest =>
            obtain ⟨i2, rfl, HT5⟩ := hcut
            have HB6 := Lib.hid (HB2.out.trans (HT5.out.low.mono HB2.out.size))
            clear HT4 HT5
            go_wp2_with fail
            refine (known4_any C wc).mono ?_
            rintro e w7 ⟨rfl, hb⟩
            have HB7 := Lib.hid (HB6.out.trans (hb.mono HB6.out.size))
            clear hb
            go_wp2_with fail
            go_ret
            exact ⟨rfl, HB7.out⟩
end Go.Proofs.Ytpnnikifaalkoaa

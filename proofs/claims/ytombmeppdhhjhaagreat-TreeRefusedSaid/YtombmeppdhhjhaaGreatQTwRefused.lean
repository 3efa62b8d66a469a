/-
  OWN WORK. Law 11's TreeRefused, walked: a call that is refused changes nothing.
-/
import Derived.Test.YtombmeppdhhjhaaGreatQTwObj
import Derived.Test.YtombmeppdhhjhaaGreatQTwRefP
namespace Go.Proofs.YtombmeppdhhjhaaGreat
open Go.RowKit Rc
open Tr (Nm En T)
namespace Tw
open Tm (One1 Turn1)
def ReI (v : Value) (w0 w : World) : Prop := ∃ Tt B, Tr.Good Tt ∧ One1 v w0 Tt B w
def ReC (v : Value) (w0 : World) (Tt : T) (n : Nat) (w : World) : Prop := ∃ T' B', Tr.Good T' ∧ One1 v w0 T' B' w ∧ (n ≠ 0 → T' = Tt)
theorem Turn1.re {v x : Value} {w0 w w' : World} {Tt T' : T} {B : Nat → Prop} {e : Ending} {n : Nat} (h : Turn1 v w0 T' B x w e w') (hG : Tr.Good T') (hn : n ≠ 0 → T' = Tt) : e = .returned x ∧ Hid (ReC v w0 Tt n w') := by
  obtain ⟨he, B', h1, _⟩ := h
  exact ⟨he, T', B', hG, h1, hn⟩
set_option maxHeartbeats 8000000 in
set_option maxRecDepth 100000 in
theorem refused_any (w : World) (ps : List AskT) (A : Option Addr) (c1 : Nat) (hp : AsksT w A ps) (hl : ps.length ≤ 9223372036854775807) :
    Calls Tryz.prog 8 #[.slice A ps.length c1] w fun e w' => e = .returned (.bool true) ∧ Below w.heap.size w w' := by
  have HP := Lib.hid hp
  clear hp
  go_enter Tryz.func8, Tryz.ntmps8
  go_wp2_with fail
  refine (Tm.o_new w).mono ?_
  rintro e w1 ⟨p, B0, rfl, ho1⟩
  have HST : Hid (ReI (.pointer (some ⟨p, 0, none⟩)) w w1) := ⟨Tr.new, B0, Tr.new_good, ho1⟩
  clear ho1
  go_upto_block 0 with (fail)
  go_cut [] (fun wx => ∃ WX, WX = wx ∧ Hid (ReI (.pointer (some ⟨p, 0, none⟩)) w WX))
  case first =>
    go_wp2_with fail
    go_loopw [4] (fun t4 wr => ∃ j : Nat, j ≤ ps.length ∧ j ≤ 40 ∧ t4 = .int .i64 (j : Nat) ∧ Hid (ReI (.pointer (some ⟨p, 0, none⟩)) w wr)) (fun t4 _ => 40 - (intOf t4).toNat)
    case atStart => exact ⟨0, by omega, by omega, rfl, HST⟩
    case round =>
      clear HST
      obtain ⟨j, hj, hj40, rfl, HJ⟩ := hrel
      by_cases hlt : j < ps.length
      · by_cases hlt2 : j < 40
        · obtain ⟨a, haj⟩ : ∃ a, ps[j]? = some a := ⟨_, List.getElem?_eq_getElem hlt⟩
          obtain ⟨b, off, rfl, hok⟩ := HP.out.plain (by omega)
          obtain ⟨Tt, B, hG, hO⟩ := HJ.out
          have hoj := hok j a haj
          have HFT : Hid (a.Fits wr) := hoj.fit.later hO.low
          have HXW : Hid (0 < a.b.length → ∀ k, a.X.map (·.block) = some k → ¬ B k) := fun hl2 k hk hB => by
            have h1 := Ob.rd_lt hoj.fit.rd hl2 hk
            have h2 := hO.up k hB
            omega
          have HCELLS : Hid (∀ i v, a.cells[i]? = some v → wr.cell? ((⟨b, off + j * 9, none⟩ : Addr).add i) = some v) := fun i v hv => by
            rw [add_plain]
            exact hoj.at_ hO.low i v hv
          have HG := Lib.hid hG
          have HO := Lib.hid hO
          have HKN : Hid (∀ W, Calls Tryz.prog 51 #[a.val] W fun e w' => e = .returned (.int .i64 (if a.dir = true then 2 else 1)) ∧ Below W.heap.size W w') := fun W => kind_any W a
          have HNB9 : Hid (¬ B wr.heap.size) := fun hB => Nat.lt_irrefl _ (Tm.tobj.lt hO.at_ _ hB)
          clear hok hoj haj HJ hG hO
          obtain ⟨kd, pp, pz, dir, id, aa, am, X, bb, cb, u⟩ := a
          replace HCELLS : Hid (∀ (i : Nat) v, ([.int .i64 kd, .int .i64 pp, .int .i64 pz, .bool dir, .int .i64 id, .int .i64 aa, .int .i64 am, .slice X bb.length cb, .int .u64 (u : Nat)] : List Value)[i]? = some v → wr.cell? ((⟨b, off + j * 9, none⟩ : Addr).add i) = some v) := HCELLS
          replace HKN : Hid (∀ W, Calls Tryz.prog 51 #[.agg #[.int .i64 kd, .int .i64 pp, .int .i64 pz, .bool dir, .int .i64 id, .int .i64 aa, .int .i64 am, .slice X bb.length cb, .int .u64 (u : Nat)]] W fun e w' => e = .returned (.int .i64 (if dir = true then 2 else 1)) ∧ Below W.heap.size W w') := HKN
          replace HXW : Hid (0 < bb.length → ∀ k, X.map (·.block) = some k → ¬ B k) := HXW
          have hbx := Blk.new wr 56 [.int .i64 kd, .int .i64 pp, .int .i64 pz, .bool dir, .int .i64 id, .int .i64 aa, .int .i64 am, .slice X bb.length cb, .int .u64 (u : Nat)]
          have hbw := below_new wr (.cells #[.int .i64 kd, .int .i64 pp, .int .i64 pz, .bool dir, .int .i64 id, .int .i64 aa, .int .i64 am, .slice X bb.length cb, .int .u64 (u : Nat)] 56)
          have HBX : Hid (Blk (wr.alloc (.cells #[.int .i64 kd, .int .i64 pp, .int .i64 pz, .bool dir, .int .i64 id, .int .i64 aa, .int .i64 am, .slice X bb.length cb, .int .u64 (u : Nat)] 56)) wr.heap.size 56 [.int .i64 kd, .int .i64 pp, .int .i64 pz, .bool dir, .int .i64 id, .int .i64 aa, .int .i64 am, .slice X bb.length cb, .int .u64 (u : Nat)]) := hbx
          have HBW := Lib.hid hbw
          clear hbx hbw
          go_upto_region 8 with (refine wpList_load_part rfl 56 (.tmp 25) rfl ⟨b, off + j * 9, none⟩ rfl [.int .i64 kd, .int .i64 pp, .int .i64 pz, .bool dir, .int .i64 id, .int .i64 aa, .int .i64 am, .slice X bb.length cb, .int .u64 (u : Nat)] _ HCELLS.out Tryz.underlying56 rfl (by kernel_rfl) ?_)
          refine wp_world (fun W => Hid (Blk W wr.heap.size 56 [.int .i64 kd, .int .i64 pp, .int .i64 pz, .bool dir, .int .i64 id, .int .i64 aa, .int .i64 am, .slice X bb.length cb, .int .u64 (u : Nat)]) ∧ Hid (Below wr.heap.size wr W)) ⟨HBX, HBW⟩ ?_
          clear HBX HBW HCELLS
          rintro w2 ⟨HBX, HBW⟩
          have HO2 : Hid (One1 (.pointer (some ⟨p, 0, none⟩)) w Tt B w2) := HO.out.later HBW.out
          go_wp2_with fail
          refine (Tm.o_save HO2.out HG.out).mono ?_
          rintro e w3 ⟨Y, cy, rfl, hcy, hry, _, hb3⟩
          have st1 := Ob.str_run w3 Y (Tr.save Tt) cy hry
          have HO3 : Hid (One1 (.pointer (some ⟨p, 0, none⟩)) w Tt B w3) := HO2.out.later hb3
          have HBX3 : Hid (Blk w3 wr.heap.size 56 [.int .i64 kd, .int .i64 pp, .int .i64 pz, .bool dir, .int .i64 id, .int .i64 aa, .int .i64 am, .slice X bb.length cb, .int .u64 (u : Nat)]) := HBX.out.below hb3 HBX.out.lt
          have HRB : Hid (Rd w3 X bb) := (HFT.out.rd.below HBW.out).below hb3
          clear hcy hry hb3 HO2 HBX HBW
          have hcl1 : w3.cell? ⟨wr.heap.size, 1, none⟩ = some (.int .i64 pp) := HBX3.out.cell 1
          have hcl2 : w3.cell? ⟨wr.heap.size, 2, none⟩ = some (.int .i64 pz) := HBX3.out.cell 2
          have HCL : Hid (∀ W, Below w3.heap.size w3 W → W.cell? ⟨wr.heap.size, 1, none⟩ = some (.int .i64 pp) ∧ W.cell? ⟨wr.heap.size, 2, none⟩ = some (.int .i64 pz)) := fun W hW => by
            have h := HBX3.out.below hW HBX3.out.lt
            exact ⟨h.cell 1, h.cell 2⟩
          have HNA : Hid (∀ W, Calls Tryz.prog 50 #[.int .i64 pp] W fun e w' => ∃ (A : Option Addr) (q : List Bs) (cap : Nat), e = .returned (.slice A q.length cap) ∧ Hid (q.length ≤ cap ∧ q.length ≤ 3 ∧ (∀ s ∈ q, s.length ≤ 1)) ∧ Hid (RdS w' A q) ∧ Hid (Below W.heap.size W w') ∧ Hid (∀ k, A.map (·.block) = some k → W.heap.size ≤ k)) := fun W => (Tm.names_any W pp HFT.out.ip.1 HFT.out.ip.2).mono fun e w' ⟨A, q, c, h1, h2, h3, h4, h5, h6, h7⟩ => ⟨A, q, c, h1, ⟨h2, h3, h4⟩, h5, h6, h7⟩
          have HNB : Hid (∀ W, Calls Tryz.prog 50 #[.int .i64 pz] W fun e w' => ∃ (A : Option Addr) (q : List Bs) (cap : Nat), e = .returned (.slice A q.length cap) ∧ Hid (q.length ≤ cap ∧ q.length ≤ 3 ∧ (∀ s ∈ q, s.length ≤ 1)) ∧ Hid (RdS w' A q) ∧ Hid (Below W.heap.size W w') ∧ Hid (∀ k, A.map (·.block) = some k → W.heap.size ≤ k)) := fun W => (Tm.names_any W pz HFT.out.ito.1 HFT.out.ito.2).mono fun e w' ⟨A, q, c, h1, h2, h3, h4, h5, h6, h7⟩ => ⟨A, q, c, h1, ⟨h2, h3, h4⟩, h5, h6, h7⟩
          go_upto_region 9 with (fail)
          clear st1
          go_cut [7, 8] (fun t7 t8 wx => ∃ (W : World) (A A2 : Option Addr) (q q2 : List Bs) (c c2 : Nat), W = wx ∧ t7 = .slice A q.length c ∧ t8 = .slice A2 q2.length c2 ∧ Hid (Below w3.heap.size w3 W) ∧ Hid (RdS W A q ∧ (q.length ≤ c ∧ q.length ≤ 3 ∧ (∀ s ∈ q, s.length ≤ 1))) ∧ Hid (RdS W A2 q2 ∧ (q2.length ≤ c2 ∧ q2.length ≤ 3 ∧ (∀ s ∈ q2, s.length ≤ 1))))
          case first =>
            go_region_held3 (fun w' => w'.cell? ⟨wr.heap.size, 1, none⟩ = some (.int .i64 pp) ∧ w'.cell? ⟨wr.heap.size, 2, none⟩ = some (.int .i64 pz))
              (first
                | exact HCL.out _ (HBB.out)
                | exact HCL.out _ (HBA.out)
                | exact ⟨hcl1, hcl2⟩
                | fail)
              (first
                | (have hx := HBA.out; clear hx; go_at_call 50; refine (HNB.out _).mono ?_; rintro e1 w5 ⟨A2, q2, c2, rfl, QB1, QB2, QB3, QB4⟩; have HBB : Hid (Below w3.heap.size w3 w5) := HBA.out.trans (Below.mono QB3.out HBA.out.size))
                | (go_at_call 50; refine (HNA.out _).mono ?_; rintro e1 w4 ⟨A, q, c, rfl, QA1, QA2, QA3, QA4⟩; have HBA : Hid (Below w3.heap.size w3 w4) := later_drew QA3.out)
                | fail)
            go_wp2_with fail
            go_meet
            case rel => exact ⟨_, A, A2, q, q2, c, c2, rfl, rfl, rfl, HBB.out, ⟨QA2.out.below QB3.out, QA1.out⟩, ⟨QB2.out, QB1.out⟩⟩
          case rest =>
          obtain ⟨w5, AP, AQ, q, q2, c, c2, hw5, rfl, rfl, HBB, HQA, HQB⟩ := hcut
          subst hw5
          clear hcl1 hcl2 HNA HNB HCL
          have HO5 : Hid (One1 (.pointer (some ⟨p, 0, none⟩)) w Tt B w5) := HO3.out.later HBB.out
          have HBX5 : Hid (Blk w5 wr.heap.size 56 [.int .i64 kd, .int .i64 pp, .int .i64 pz, .bool dir, .int .i64 id, .int .i64 aa, .int .i64 am, .slice X bb.length cb, .int .u64 (u : Nat)]) := HBX3.out.below HBB.out HBX3.out.lt
          have HRB5 : Hid (Rd w5 X bb) := HRB.out.below HBB.out
          clear HO3 HBX3 HRB HO HBB
          have HQ : Hid (RdS w5 AP q ∧ q.length ≤ c ∧ q.length ≤ 1000000 ∧ ∀ s ∈ q, s.length ≤ 1000000) := ⟨HQA.out.1, HQA.out.2.1, by have := HQA.out.2.2.1; omega, fun s hs => by have := HQA.out.2.2.2 s hs; omega⟩
          have HQ2 : Hid (RdS w5 AQ q2 ∧ q2.length ≤ c2 ∧ q2.length ≤ 1000000 ∧ ∀ s ∈ q2, s.length ≤ 1000000) := ⟨HQB.out.1, HQB.out.2.1, by have := HQB.out.2.2.1; omega, fun s hs => by have := HQB.out.2.2.2 s hs; omega⟩
          clear HQA HQB
          have c0 : w5.cell? ⟨wr.heap.size, 0, none⟩ = some (.int .i64 kd) := HBX5.out.cell 0
          go_upto_block 2 with (fail)
          go_cut [9] (fun t9 wx => ∃ (W : World) (n : Nat), W = wx ∧ t9 = .int .i64 (n : Nat) ∧ Hid (ReC (.pointer (some ⟨p, 0, none⟩)) w Tt n W))
          case first =>
            clear c0
            by_cases k1 : kd = 1
            · subst k1
              as_aux_lemma =>
                have d0 : w5.cell? ⟨wr.heap.size, 0, none⟩ = some (.int .i64 1) := HBX5.out.cell 0
                have d1 : w5.cell? ⟨wr.heap.size, 1, none⟩ = some (.int .i64 pp) := HBX5.out.cell 1
                have d2 : w5.cell? ⟨wr.heap.size, 2, none⟩ = some (.int .i64 pz) := HBX5.out.cell 2
                have d3 : w5.cell? ⟨wr.heap.size, 3, none⟩ = some (.bool dir) := HBX5.out.cell 3
                have d4 : w5.cell? ⟨wr.heap.size, 4, none⟩ = some (.int .i64 id) := HBX5.out.cell 4
                have d5 : w5.cell? ⟨wr.heap.size, 5, none⟩ = some (.int .i64 aa) := HBX5.out.cell 5
                have d6 : w5.cell? ⟨wr.heap.size, 6, none⟩ = some (.int .i64 am) := HBX5.out.cell 6
                have d7 : w5.cell? ⟨wr.heap.size, 7, none⟩ = some (.slice X bb.length cb) := HBX5.out.cell 7
                have d8 : w5.cell? ⟨wr.heap.size, 8, none⟩ = some (.int .u64 (u : Nat)) := HBX5.out.cell 8
                obtain ⟨kn, hkn⟩ : ∃ kn : Int, kn = if dir = true then 2 else 1 := ⟨_, rfl⟩
                rw [← hkn] at HKN
                clear hkn
                go_wp2_with fail
                refine (HKN.out w5).mono ?_
                rintro e w6 ⟨rfl, hb6⟩
                have HO6 : Hid (One1 (.pointer (some ⟨p, 0, none⟩)) w Tt B w6) := HO5.out.later hb6
                have HR6 : Hid (RdS w6 AP q) := HQ.out.1.below hb6
                clear hb6 d0 d1 d2 d3 d4 d5 d6 d7 d8
                go_wp2_with fail
                refine (Tm.o_make HO6.out HG.out AP q c kn HR6.out HQ.out.2.1 HQ.out.2.2.1 HQ.out.2.2.2).mono ?_
                intro e w9 ht
                obtain ⟨rfl, HRE⟩ := Turn1.re ht (Tr.make_good HG.out q kn) (Tr.make_no (t := Tt) (p := q) (k := kn))
                clear ht
                go_wp2_with fail
                go_meet
                case rel => exact ⟨_, _, rfl, rfl, HRE⟩
            have n1 : (kd == 1) = false := by rw [beq_eq_false_iff_ne]; exact k1
            clear k1
            by_cases k2 : kd = 2
            · subst k2
              as_aux_lemma =>
                go_wp2_with fail
                refine (Tm.o_link HO5.out HG.out AP AQ q q2 c c2 HQ.out.1 HQ.out.2.1 HQ.out.2.2.1 HQ.out.2.2.2 HQ2.out.1 HQ2.out.2.1 HQ2.out.2.2.1 HQ2.out.2.2.2).mono ?_
                intro e w9 ht
                obtain ⟨rfl, HRE⟩ := Turn1.re ht (Tr.link_good HG.out q q2) (Tr.link_no (t := Tt) (p := q) (z := q2))
                clear ht
                go_wp2_with fail
                go_meet
                case rel => exact ⟨_, _, rfl, rfl, HRE⟩
            have n2 : (kd == 2) = false := by rw [beq_eq_false_iff_ne]; exact k2
            clear k2
            by_cases k3 : kd = 3
            · subst k3
              as_aux_lemma =>
                go_wp2_with fail
                refine (Tm.o_unlink HO5.out HG.out AP q c HQ.out.1 HQ.out.2.1 HQ.out.2.2.1 HQ.out.2.2.2).mono ?_
                intro e w9 ht
                obtain ⟨rfl, HRE⟩ := Turn1.re ht (Tr.unlink_good HG.out q) (Tr.unlink_no (t := Tt) (p := q))
                clear ht
                go_wp2_with fail
                go_meet
                case rel => exact ⟨_, _, rfl, rfl, HRE⟩
            have n3 : (kd == 3) = false := by rw [beq_eq_false_iff_ne]; exact k3
            clear k3
            by_cases k4 : kd = 4
            · subst k4
              as_aux_lemma =>
                go_wp2_with fail
                refine (Tm.o_rmdir HO5.out HG.out AP q c HQ.out.1 HQ.out.2.1 HQ.out.2.2.1 HQ.out.2.2.2).mono ?_
                intro e w9 ht
                obtain ⟨rfl, HRE⟩ := Turn1.re ht (Tr.rmdir_good HG.out q) (Tr.rmdir_no (t := Tt) (p := q))
                clear ht
                go_wp2_with fail
                go_meet
                case rel => exact ⟨_, _, rfl, rfl, HRE⟩
            have n4 : (kd == 4) = false := by rw [beq_eq_false_iff_ne]; exact k4
            clear k4
            by_cases k5 : kd = 5
            · subst k5
              as_aux_lemma =>
                go_wp2_with fail
                refine (Tm.o_rename HO5.out HG.out AP AQ q q2 c c2 HQ.out.1 HQ.out.2.1 HQ.out.2.2.1 HQ.out.2.2.2 HQ2.out.1 HQ2.out.2.1 HQ2.out.2.2.1 HQ2.out.2.2.2).mono ?_
                intro e w9 ht
                obtain ⟨rfl, HRE⟩ := Turn1.re ht (Tr.rename_good HG.out q q2) (Tr.rename_no (t := Tt) (p := q) (z := q2))
                clear ht
                go_wp2_with fail
                go_meet
                case rel => exact ⟨_, _, rfl, rfl, HRE⟩
            have n5 : (kd == 5) = false := by rw [beq_eq_false_iff_ne]; exact k5
            clear k5
            by_cases k6 : kd = 6
            · subst k6
              as_aux_lemma =>
                have d4 : w5.cell? ⟨wr.heap.size, 4, none⟩ = some (.int .i64 id) := HBX5.out.cell 4
                have d7 : w5.cell? ⟨wr.heap.size, 7, none⟩ = some (.slice X bb.length cb) := HBX5.out.cell 7
                have HD6 : Hid (Blk w5.drew wr.heap.size 56 [.int .i64 6, .int .i64 pp, .int .i64 pz, .bool dir, .int .i64 id, .int .i64 aa, .int .i64 am, .slice X bb.length cb, .int .u64 (u : Nat)]) := HBX5.out
                have HOD : Hid (One1 (.pointer (some ⟨p, 0, none⟩)) w Tt B w5.drew) := HO5.out.later (undrewR2 (Below.refl _ _))
                have HRD : Hid (Rd w5.drew X (bb.take 100)) := (HRB5.out.take 100).below (undrewR2 (Below.refl _ _))
                have HL9 : Hid ((bb.take 100).length ≤ 1000000000) := by show _ ≤ _; rw [List.length_take]; omega
                obtain ⟨xb, hxb⟩ : ∃ xb, xb = bb.take 100 := ⟨_, rfl⟩
                have HCUT : Hid (∀ W, Calls Tryz.prog 46 #[.slice X bb.length cb, .int .i64 100] W fun e w9 => e = .returned (.slice X xb.length cb) ∧ W = w9) := fun W => by rw [hxb]; exact cut_any X bb cb 100 HFT.out.fits (by omega) HFT.out.long W
                rw [← hxb] at HRD HL9
                clear hxb
                go_upto_region 27 with (fail)
                go_region_held3 (fun w9 => w9.cell? ⟨wr.heap.size, 4, none⟩ = some (.int .i64 id) ∧ w9.cell? ⟨wr.heap.size, 7, none⟩ = some (.slice X bb.length cb))
                  (first | exact ⟨HB9.out.cell 4, HB9.out.cell 7⟩ | exact ⟨HD6.out.cell 4, HD6.out.cell 7⟩ | exact ⟨d4, d7⟩ | fail)
                  (first
                    | (go_at_call 46; refine (HCUT.out _).mono ?_; rintro e _ ⟨rfl, rfl⟩)
                    | (go_at_call 22; refine (Tm.o_append HOD.out HG.out id X xb cb HRD.out HL9.out).mono ?_; intro e w9 ht; have ht2 := ht; obtain ⟨_, _, _, hm9, _⟩ := ht2; have HB9 : Hid (Blk w9 wr.heap.size 56 [.int .i64 6, .int .i64 pp, .int .i64 pz, .bool dir, .int .i64 id, .int .i64 aa, .int .i64 am, .slice X bb.length cb, .int .u64 (u : Nat)]) := (hm9.block wr.heap.size HD6.out.lt HNB9.out).trans HD6.out; clear hm9; obtain ⟨rfl, HRE⟩ := Turn1.re ht (Tr.append_good HG.out id xb) (Tr.append_no (t := Tt) (i := id) (b := xb)); clear ht)
                    | fail)
                go_wp2_with fail
                go_meet
                case rel => exact ⟨_, _, rfl, rfl, HRE⟩
            have n6 : (kd == 6) = false := by rw [beq_eq_false_iff_ne]; exact k6
            clear k6
            by_cases k8 : kd = 8
            · subst k8
              as_aux_lemma =>
                have d4 : w5.cell? ⟨wr.heap.size, 4, none⟩ = some (.int .i64 id) := HBX5.out.cell 4
                have d8 : w5.cell? ⟨wr.heap.size, 8, none⟩ = some (.int .u64 (u : Nat)) := HBX5.out.cell 8
                go_wp2_with fail
                refine (Tm.o_seal HO5.out HG.out id u HFT.out.iu).mono ?_
                intro e w9 ht
                obtain ⟨rfl, HRE⟩ := Turn1.re ht (Tr.seal_good HG.out id u) (Tr.seal_no (t := Tt) (i := id) (u := u))
                clear ht
                go_wp2_with fail
                go_meet
                case rel => exact ⟨_, _, rfl, rfl, HRE⟩
            have n8 : (kd == 8) = false := by rw [beq_eq_false_iff_ne]; exact k8
            clear k8
            by_cases k9 : kd = 9
            · subst k9
              as_aux_lemma =>
                have d4 : w5.cell? ⟨wr.heap.size, 4, none⟩ = some (.int .i64 id) := HBX5.out.cell 4
                have d8 : w5.cell? ⟨wr.heap.size, 8, none⟩ = some (.int .u64 (u : Nat)) := HBX5.out.cell 8
                go_wp2_with fail
                refine (Tm.o_keep HO5.out HG.out id u HFT.out.iu).mono ?_
                intro e w9 ht
                obtain ⟨rfl, HRE⟩ := Turn1.re ht (Tr.keep_good HG.out id u) (Tr.keep_no (t := Tt) (i := id) (u := u))
                clear ht
                go_wp2_with fail
                go_meet
                case rel => exact ⟨_, _, rfl, rfl, HRE⟩
            have n9 : (kd == 9) = false := by rw [beq_eq_false_iff_ne]; exact k9
            clear k9
            by_cases k10 : kd = 10
            · subst k10
              as_aux_lemma =>
                have d4 : w5.cell? ⟨wr.heap.size, 4, none⟩ = some (.int .i64 id) := HBX5.out.cell 4
                go_wp2_with fail
                refine (Tm.o_drop HO5.out HG.out id).mono ?_
                intro e w9 ht
                obtain ⟨rfl, HRE⟩ := Turn1.re ht (Tr.drop_good HG.out id) (Tr.drop_no (t := Tt) (i := id))
                clear ht
                go_wp2_with fail
                go_meet
                case rel => exact ⟨_, _, rfl, rfl, HRE⟩
            have n10 : (kd == 10) = false := by rw [beq_eq_false_iff_ne]; exact k10
            clear k10
            have d4 : w5.cell? ⟨wr.heap.size, 4, none⟩ = some (.int .i64 id) := HBX5.out.cell 4
            have d5 : w5.cell? ⟨wr.heap.size, 5, none⟩ = some (.int .i64 aa) := HBX5.out.cell 5
            have d6 : w5.cell? ⟨wr.heap.size, 6, none⟩ = some (.int .i64 am) := HBX5.out.cell 6
            go_wp2_with fail
            refine (Tm.o_read HO5.out HG.out id aa am HFT.out.ia HFT.out.im).mono ?_
            rintro e w6 ⟨y, rfl, hf6, hb6⟩
            have HO6 : Hid (One1 (.pointer (some ⟨p, 0, none⟩)) w Tt B w6) := HO5.out.later hb6
            have HBX6 : Hid (Blk w6 wr.heap.size 56 [.int .i64 kd, .int .i64 pp, .int .i64 pz, .bool dir, .int .i64 id, .int .i64 aa, .int .i64 am, .slice X bb.length cb, .int .u64 (u : Nat)]) := HBX5.out.below hb6 HBX5.out.lt
            clear hf6 hb6 d4 d5 d6
            have d4 : w6.cell? ⟨wr.heap.size, 4, none⟩ = some (.int .i64 id) := HBX6.out.cell 4
            go_wp2_with fail
            refine (Tm.o_list HO6.out HG.out id).mono ?_
            rintro e w7 ⟨y7, rfl, hf7⟩
            have hb7 := hf7.later
            have HO7 : Hid (One1 (.pointer (some ⟨p, 0, none⟩)) w Tt B w7) := HO6.out.later hb7
            have HBX7 : Hid (Blk w7 wr.heap.size 56 [.int .i64 kd, .int .i64 pp, .int .i64 pz, .bool dir, .int .i64 id, .int .i64 aa, .int .i64 am, .slice X bb.length cb, .int .u64 (u : Nat)]) := HBX6.out.below hb7 HBX6.out.lt
            clear hf7 hb7 d4
            have d4 : w7.cell? ⟨wr.heap.size, 4, none⟩ = some (.int .i64 id) := HBX7.out.cell 4
            go_wp2_with fail
            refine (Tm.o_names HO7.out HG.out id).mono ?_
            rintro e w8 ⟨AN, cn, LN, rfl, _, _, hb8⟩
            have HRE : Hid (ReC (.pointer (some ⟨p, 0, none⟩)) w Tt 1 w8) := ⟨Tt, B, HG.out, HO7.out.later hb8.out, fun _ => rfl⟩
            clear hb8 d4
            go_wp2_with fail
            go_meet
            case rel => exact ⟨_, 1, rfl, rfl, HRE⟩
          case rest =>
          obtain ⟨w9, n, hw9, rfl, HRE⟩ := hcut
          subst hw9
          clear c0 HO5 HBX5 HRB5 HQ HQ2
          by_cases hn0 : n = 0
          · subst hn0
            have HNX : Hid (ReI (.pointer (some ⟨p, 0, none⟩)) w w9) := by
              obtain ⟨T', B', h1, h2, _⟩ := HRE.out
              exact ⟨T', B', h1, h2⟩
            go_wp2_with fail
            go_roundw
            case rel => exact ⟨j + 1, by omega, by omega, by go_num, HNX⟩
            case measure => simp [intOf]; omega
          · have hnb : ((n : Int) != 0) = true := by rw [bne_iff_ne]; omega
            obtain ⟨T', B', h1, h2, h3⟩ := HRE.out
            obtain rfl := h3 hn0
            have HO9 := Lib.hid h2
            clear h1 h2 h3 hn0 HRE
            go_wp2_with fail
            refine (Tm.o_save HO9.out HG.out).mono ?_
            rintro e w10 ⟨Z, cz, rfl, hcz, hrz, _, hb10⟩
            have st2 := Ob.str_run w10 Z (Tr.save T') cz hrz
            have HNX : Hid (ReI (.pointer (some ⟨p, 0, none⟩)) w w10) := ⟨T', B', HG.out, HO9.out.later hb10⟩
            have seq : ((strOf (Tr.save T')).toList == (strOf (Tr.save T')).toList) = true := by simp
            clear hrz hb10 hcz HO9
            go_wp2_with fail
            go_roundw
            case rel => exact ⟨j + 1, by omega, by omega, by go_num, HNX⟩
            case measure => simp [intOf]; omega
        · go_wp2_with fail
          go_meet
          case rel => exact ⟨_, rfl, HJ⟩
      · go_wp2_with fail
        go_meet
        case rel => exact ⟨_, rfl, HJ⟩
  case rest =>
  obtain ⟨WX, hWX, HPL⟩ := hcut
  subst hWX
  obtain ⟨Tt, B, _, ho⟩ := HPL.out
  have HO := Lib.hid ho
  clear ho HPL
  go_wp2_with fail
  refine (Tm.o_known HO.out).mono ?_
  rintro e w9 ⟨rfl, HO9⟩
  go_wp2_with fail
  go_ret
  exact ⟨rfl, HO9.out.low⟩
end Tw
end Go.Proofs.YtombmeppdhhjhaaGreat

/-
  OWN WORK. The program's tree: walk, one directory.
-/
import Derived.Test.YtombmeppdhhjhaaRTrWalk
import Derived.Deep.RegionHeld3
namespace Go.Proofs.Ytombmeppdhhjhaa
open Go.RowKit Rc
open Tr (Nm En T)
namespace Tm
variable {O : Eye} {f : FuncId} {cb : Array Value} {p : Nat} {av : Value} {gs : List Nat} {S : Nat → Prop} {t : T}
theorem cell_same {w w' : World} {g o : Nat} (h : w'.heap[g]? = w.heap[g]?) : w'.cell? ⟨g, o, none⟩ = w.cell? ⟨g, o, none⟩ := by unfold World.cell?; rw [h]
theorem undrew_r {b : Nat} {w w' : World} (h : Below b w w') : Below b w w'.drew := ⟨h.os, h.tape, h.output, h.size, h.block⟩
/-- What is shown of a name. -/
def shownOf (a : List Bs) (R : Nm → Shown) (k : Nm) : Shown := (a ++ [k.1], k.2) :: R k
theorem shown_next {a : List Bs} {R : Nm → Shown} {l : List Nm} {j : Nat} {k : Nm} (h : l[j]? = some k) : (l.take (j + 1)).flatMap (shownOf a R) = (l.take j).flatMap (shownOf a R) ++ shownOf a R k := by
  rw [take_next h, List.flatMap_append]
  simp

set_option maxHeartbeats 4000000 in
set_option maxRecDepth 100000 in
theorem walk_step (hS : Shows O f cb) (hG : Tr.Good t) (R : Nm → Shown) {i : Int} {ei : En} {gi : Nat} {row : Value} {a : List Bs} {seen : Shown} {B : Nat → Prop} {w : World}
    (hf : Tr.find t i = some ei) (hp : ptrOf gs t i = .pointer (some ⟨gi, 0, none⟩)) (ha : a.length ≤ 900) (h : WPre O p av gs S t row a seen B w)
    (IH : ∀ k ∈ ei.names, ∀ (g1 : Nat) (row1 : Value) (seen1 : Shown) (B1 : Nat → Prop) (w1 : World), ptrOf gs t k.2 = .pointer (some ⟨g1, 0, none⟩) → WPre O p av gs S t row1 (a ++ [k.1]) seen1 B1 w1 →
      Calls Try.prog 99 #[.pointer (some ⟨p, 0, none⟩), .pointer (some ⟨g1, 0, none⟩), row1, .func (.func f) #[] cb] w1 (Walked O row1 (a ++ [k.1]) seen1 B1 w1 (R k))) :
    Calls Try.prog 99 #[.pointer (some ⟨p, 0, none⟩), .pointer (some ⟨gi, 0, none⟩), row, .func (.func f) #[] cb] w (Walked O row a seen B w (ei.names.flatMap (shownOf a R))) := by
  obtain ⟨gi', Si, hp', hE, hSi, hnl⟩ := h.tin.ptr hG hf
  obtain rfl : gi' = gi := ptr_inj (hp'.symm.trans hp)
  obtain ⟨dv, nv, hE, rfl⟩ := hE
  have c7 : w.cell? ⟨gi', 7, none⟩ = some nv := hE.box.cell 7
  obtain ⟨A7, k7, hv7, hk7, hA⟩ := hE.names.form
  have hnb : ∀ b, nv.ownBlock = some b → TrS p av S b := fun b hb => .inr (.inr (hSi b (.inr (.inr hb))))
  subst hv7
  obtain ⟨l, hl⟩ : ∃ l, l = ei.names := ⟨_, rfl⟩
  have HLD : Hid (∀ k ∈ l, ∃ ek, Tr.find t k.2 = some ek) := fun k hk => Option.isSome_iff_exists.1 (hG.leads ei (Tr.find_some hf).1 k (hl ▸ hk)).2
  rw [← hl] at c7 hA IH hnl ⊢
  have HA := Lib.hid hA
  have HIH := Lib.hid IH
  have HNB := Lib.hid hnb
  have HW := Lib.hid h
  have HG := Lib.hid hG
  have hent := hS.ent
  have HS := Lib.hid hS
  clear hA IH hnb h hG hS hE hSi hp' hp hf hl hk7
  go_enter Try.func99, Try.ntmps99
  go_wp2_with fail
  clear c7
  go_loopw [9, 10, 11, 17] (fun t9 t10 t11 t17 wr => ∃ (j : Nat) (v9 v10 v11 : Value), t9 = v9 ∧ t10 = v10 ∧ t11 = v11 ∧ t17 = .int .i64 j ∧ j ≤ l.length ∧ Hid (∃ B1, WMid O row a seen B w ((l.take j).flatMap (shownOf a R)) B1 wr)) (fun _ _ _ t17 _ => l.length - (match t17 with | .int _ k => k.toNat | _ => 0))
  case atStart => exact ⟨0, _, _, _, rfl, rfl, rfl, rfl, Nat.zero_le _, B, HW.out.start⟩
  case round =>
    obtain ⟨j, v9, v10, v11, rfl, rfl, rfl, rfl, hj, HM⟩ := hrel
    by_cases hk : j < l.length
    · obtain ⟨k, hkj⟩ : ∃ k, l[j]? = some k := ⟨_, List.getElem?_eq_getElem hk⟩
      obtain ⟨q, rfl, hq1, _, hql, hcell⟩ := HA.out (by omega)
      obtain ⟨B1, hM⟩ := HM.out
      have HM1 := Lib.hid hM
      have hpre := hM.pre HW.out
      have HPRE := Lib.hid hpre
      have hsame : wr.heap[q]? = w.heap[q]? := hM.mod.block q hql fun hx => hx.elim (fun h1 => HW.out.apT q h1 (HNB.out q hq1)) fun h1 => (HW.out.apR q h1).2 (HNB.out q hq1)
      have c1 : wr.cell? ⟨q, j * 2, none⟩ = some (.string (strOf k.1)) := (cell_same hsame).trans (hcell j k hkj).1
      have c2 : wr.cell? ⟨q, j * 2 + 1, none⟩ = some (.int .i64 k.2) := (cell_same hsame).trans (hcell j k hkj).2
      have hlt2 : (j : Int) < (l.length : Int) := by omega
      obtain ⟨ek, hek⟩ := HLD.out k (List.mem_of_getElem? hkj)
      obtain ⟨gk, Sk, hpk, hEk, hSk, _⟩ := hpre.tin.ptr HG.out hek
      have hid : ek.nd.id = k.2 := (Tr.find_some hek).2
      have HFIND : Hid (∀ W, wr.heap.size ≤ W.heap.size → (∀ b, TrS p av S b → W.heap[b]? = wr.heap[b]?) → Calls Try.prog 31 #[.pointer (some ⟨p, 0, none⟩), .int .i64 k.2] W fun e w' => e = .returned (.pointer (some ⟨gk, 0, none⟩)) ∧ w' = W) := fun W _ hW => by
        have := find_any (hpre.tin.keep hW) k.2 (by have := HG.out.few; omega)
        rw [hpk] at this
        exact this
      have HPK := Lib.hid hpk
      have HEK := Lib.hid hek
      have HKJ := Lib.hid hkj
      have HID := Lib.hid hid
      clear hM hpre hsame hcell hek hpk hEk hSk hid hkj hq1 hql
      go_upto_region 3 with (fail)
      obtain ⟨wn, hwn⟩ : ∃ wn, wn = wr.alloc (.cells #[.string (strOf k.1), .int .i64 k.2] 87) := ⟨_, rfl⟩
      obtain ⟨nb, hnb⟩ : ∃ nb, nb = wr.heap.size := ⟨_, rfl⟩
      have hblk : Blk wn nb 87 [.string (strOf k.1), .int .i64 k.2] := by rw [hwn, hnb]; exact Blk.new wr _ _
      have hbn : Below wr.heap.size wr wn := by rw [hwn]; exact below_new wr _
      have hba : Below wr.heap.size wr (wn.drew.alloc (.cells #[.string (strOf k.1)] 9)) := undrew_r hbn |>.trans ((below_new wn.drew _).mono hbn.size)
      have HBA := Lib.hid hba
      have HSO : Hid (SOwn (wn.drew.alloc (.cells #[.string (strOf k.1)] 9)) row a) := HPRE.out.own.keep fun b hb => hba.block b (HPRE.out.own.lt hb)
      have hrd : RdS (wn.drew.alloc (.cells #[.string (strOf k.1)] 9)) (some ⟨wn.drew.heap.size, 0, none⟩) [k.1] := rds_one wn.drew k.1 9
      have HRD := Lib.hid hrd
      have HLA : Hid (a.length ≤ 1000000) := by show _ ≤ _; omega
      have HND : Hid (∀ w2, (wn.drew.alloc (.cells #[.string (strOf k.1)] 9)).grownBy w2 row.ownBlock → w2.cell? ⟨nb, 0, none⟩ = some (.string (strOf k.1)) ∧ w2.cell? ⟨nb, 1, none⟩ = some (.int .i64 k.2)) := fun w2 hg => by
        have h1 : Blk (wn.drew.alloc (.cells #[.string (strOf k.1)] 9)) nb 87 [.string (strOf k.1), .int .i64 k.2] := Blk.below (w := wn.drew) hblk (below_new wn.drew _) hblk.lt
        have h2 : Blk w2 nb 87 [.string (strOf k.1), .int .i64 k.2] := h1.grown hg fun e => by have := HPRE.out.own.lt e.symm; omega
        exact ⟨h2.cell 0, h2.cell 1⟩
      have HFIND2 : Hid (∀ w2, (wn.drew.alloc (.cells #[.string (strOf k.1)] 9)).grownBy w2 row.ownBlock → Calls Try.prog 31 #[.pointer (some ⟨p, 0, none⟩), .int .i64 k.2] w2 fun e w' => e = .returned (.pointer (some ⟨gk, 0, none⟩)) ∧ w' = w2) := fun w2 hg =>
        HFIND.out w2 (Nat.le_trans hba.size hg.size) fun b hT => (hg.block b (Nat.lt_of_lt_of_le (HPRE.out.tin.lt hT) hba.size) fun e => (HPRE.out.apR b e.symm).2 hT).trans (hba.block b (HPRE.out.tin.lt hT))
      have d0 : wn.cell? ⟨nb, 0, none⟩ = some (.string (strOf k.1)) := hblk.cell 0
      have d1 : wn.cell? ⟨nb, 1, none⟩ = some (.int .i64 k.2) := hblk.cell 1
      have d1a : (wn.drew.alloc (.cells #[.string (strOf k.1)] 9)).cell? ⟨nb, 1, none⟩ = some (.int .i64 k.2) := cell_alloc (w := wn.drew) _ d1
      obtain ⟨qa, hqa⟩ : ∃ qa, qa = a ++ [k.1] := ⟨_, rfl⟩
      have HQA := Lib.hid hqa
      rw [← hwn, ← hnb]
      clear hwn hnb hblk hbn hba hrd hqa c1 c2 HFIND
      go_region_held3 (fun w' => w'.cell? ⟨nb, 0, none⟩ = some (.string (strOf k.1)) ∧ w'.cell? ⟨nb, 1, none⟩ = some (.int .i64 k.2))
        (first
          | go_keep
          | exact HND.out _ HG2.out)
        (first
          | (go_at_call 31; refine (HFIND2.out w2 HG2.out).mono ?_; rintro e1 w3 ⟨rfl, rfl⟩)
          | (refine step_append_kept (v := row) (l := a) (by rfl) (.tmp 21) (.tmp 24) (by rfl) (by rfl) HSO.out _ k.1 1 (by rfl) HRD.out HLA.out ?_; intro v2 w2 HO2 HG2 HP2 HK2; rw [← HQA.out] at HO2; obtain ⟨A2, c2, hv2, hc2, hrd2, hb2⟩ := HO2.out.form; subst hv2)
          | fail)
      have ho3 : SOwn w3 (.slice A2 qa.length c2) (a ++ [k.1]) := by rw [← HQA.out]; exact HO2.out
      have hpre2 := HPRE.out.hung HBA.out ho3 HG2.out HP2.out
      obtain ⟨gk2, Sk2, hpk2, hEk2, hSk2, _⟩ := hpre2.tin.ptr HG.out HEK.out
      obtain rfl : gk2 = gk := ptr_inj (hpk2.symm.trans HPK.out)
      have hq : qa.length ≤ 1000 := by rw [HQA.out, List.length_append]; show _ + 1 ≤ _; omega
      have hcall := HS.out.call w3 _ B1 A2 qa c2 gk2 ek Sk2 hpre2.at_ hrd2 hc2 hq (fun b hl hb h1 => (hpre2.apR b (hb2 b hl hb)).1 h1) hEk2 (fun b hb h1 => hpre2.apT b h1 (.inr (.inr (hSk2 b hb))))
      rw [HID.out, HQA.out] at hcall
      have hql : (a ++ [k.1]).length = qa.length := by rw [HQA.out]
      rw [hql] at hcall
      have HCL := Lib.hid hcall
      have HPRE2 := Lib.hid hpre2
      have HO3 := Lib.hid ho3
      clear ho3 hpre2 hpk2 hEk2 hSk2 hq hcall hrd2 hc2 hb2 d0 d1 d1a HO2 HND HFIND2 HSO HRD hql
      go_wp2_with fail
      refine HCL.out.mono ?_
      rintro r w4 ⟨rfl, B2, h1, h2, h3⟩
      have HWALK := Lib.hid (HIH.out k (List.mem_of_getElem? HKJ.out) gk2 _ _ B2 w4 HPK.out (HPRE2.out.told h1 h2 h3))
      have HROUND : Hid (∀ B3 w5, WMid O (.slice A2 qa.length c2) (a ++ [k.1]) ((seen ++ (l.take j).flatMap (shownOf a R)) ++ [(a ++ [k.1], k.2)]) B2 w4 (R k) B3 w5 → WMid O row a (seen ++ (l.take j).flatMap (shownOf a R)) B1 wr (shownOf a R k) B3 w5) := fun B3 w5 hm => HPRE.out.round HBA.out HO3.out HG2.out HP2.out HK2.out h2 h3 hm
      clear h1 h2 h3 HCL HG2 HP2 HK2
      go_wp2_with fail
      refine HWALK.out.mono ?_
      rintro r w5 ⟨rfl, B3, hmid⟩
      have HNX : Hid (∃ B', WMid O row a seen B w ((l.take (j + 1)).flatMap (shownOf a R)) B' w5) := by
        rw [shown_next HKJ.out]
        exact ⟨B3, HM1.out.trans (HROUND.out B3 w5 hmid)⟩
      clear hmid HWALK HROUND
      go_wp2_with fail
      go_roundw
      case rel => exact ⟨j + 1, _, _, _, rfl, rfl, rfl, by go_num, by omega, HNX.out⟩
      case measure => simp; omega
    · obtain rfl : j = l.length := by omega
      have HEND : Hid (∃ B1, WMid O row a seen B w (l.flatMap (shownOf a R)) B1 wr) := by
        have := HM.out
        rw [List.take_length] at this
        exact this
      go_wp2_with fail
      refine bodyPost_end (results_none rfl _ _ _) rfl ?_
      exact ⟨rfl, HEND.out⟩
end Tm
end Go.Proofs.Ytombmeppdhhjhaa

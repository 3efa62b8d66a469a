/-
  OWN WORK. The document's tree: place, List.
-/
import Derived.Test.YtombmeppdhhjhaaRRfCut
import Derived.Test.YtombmeppdhhjhaaRRfLookA
namespace Go.Proofs.Ytombmeppdhhjhaa
open Go.RowKit Rc
open Tr (Nm En T)
namespace Rf
variable {p : Nat} {nv dv ev : Value} {D : Nat → Prop} {t t' : T} {w : World}
set_option maxHeartbeats 2000000 in
set_option maxRecDepth 100000 in
theorem place_any (h : RA p nv dv ev D t w) (hG : Tr.Good t) (A : Option Addr) (q : List Bs) (cap : Nat) (hr : RdS w A q) (hc : q.length ≤ cap) (hl : q.length ≤ 1000000) :
    Calls Try.prog 79 #[.pointer (some ⟨p, 0, none⟩), .slice A q.length cap] w fun e w' => e = .returned (.tuple #[.int .i64 (Tr.place t q).1, .string (strOf (Tr.place t q).2.1), .int .i64 ((Tr.place t q).2.2 : Nat)]) ∧ Below w.heap.size w w' := by
  rcases List.eq_nil_or_concat q with rfl | ⟨r, x, hq⟩
  · have HV : Hid (Tr.place t [] = (0, [], 1)) := rfl
    show Calls _ _ #[_, .slice A 0 cap] w _
    clear h hG hr
    go_enter Try.func79, Try.ntmps79
    go_wp2_with fail
    go_ret3
    exact ⟨by rw [HV.out]; rfl, Below.refl _ _⟩
  · rw [List.concat_eq_append] at hq
    have hql : q.length = r.length + 1 := by rw [hq]; simp
    have hqne : q ≠ [] := by rw [hq]; simp
    have hdl : q.dropLast = r := by rw [hq]; simp
    have hgl : q.getLastD [] = x := by rw [hq]; simp
    have htk : q.take r.length = r := by rw [hq]; simp
    obtain ⟨i, k, hin⟩ : ∃ i k, Tr.lookF t 0 r = (i, k) := ⟨_, _, rfl⟩
    have hplace : Tr.place t q = if k ≠ 0 then (0, [], k) else if Tr.kindOf t i ≠ 2 then (0, [], 23) else (i, x, 0) := by
      unfold Tr.place
      rw [if_neg hqne, hdl, hgl, hin]
    have hr2 : RdS w A r := by have := hr.take r.length; rw [htk] at this; exact this
    have hlk := lookF_any h.in_ hG h.low A r cap hr2 (by omega)
    rw [hin] at hlk
    have HLK := Lib.hid hlk
    have HND : Hid (∀ W, Below w.heap.size w W → Calls Try.prog 63 #[.pointer (some ⟨p, 0, none⟩), .int .i64 i] W fun e w' => e = .returned (.tuple #[(Tr.node t i).1.val, .bool (Tr.node t i).2]) ∧ Below W.heap.size W w') := fun W hW =>
      node_any (h.below hW).in_ (h.below hW).low i (by have := hG.few; omega)
    obtain ⟨b, off, hA, hbl, hcell⟩ := hr (by omega)
    have hx : q[r.length]? = some x := by rw [hq]; simp
    have HCX : Hid (∀ W, Below w.heap.size w W → W.cell? ⟨b, off + r.length, none⟩ = some (.string (strOf x))) := fun W hW => (hW.cell (p := ⟨b, off + r.length, none⟩) hbl).trans (hcell _ x hx)
    have e0 : Tr.node t i = (Tr.ndOf t i, (Tr.find t i).isSome) := rfl
    rw [e0] at HND
    rw [show Tr.kindOf t i = (Tr.ndOf t i).kind from rfl] at hplace
    obtain ⟨fo, hfo⟩ : ∃ fo, fo = (Tr.find t i).isSome := ⟨_, rfl⟩
    rw [← hfo] at HND
    obtain ⟨⟨a1, a2, a3, a4, a5, a6⟩, hnd⟩ : ∃ nd, nd = Tr.ndOf t i := ⟨_, rfl⟩
    rw [← hnd] at HND hplace
    unfold Nd.val at HND
    simp only at HND hplace
    have HPL := Lib.hid hplace
    obtain ⟨n, hn⟩ : ∃ n, n = q.length := ⟨_, rfl⟩
    obtain ⟨m, hm⟩ : ∃ m, m = r.length := ⟨_, rfl⟩
    rw [← hm] at HLK HCX hql
    rw [← hn] at hql hc hl ⊢
    have hsl : ∀ W, (Instr.sliceAt 28 (.slice A n cap) none (some (.int .i64 (m : Nat))) none).run Try.prog W = .ok (.slice A m cap) W := fun W => sls_h W A n cap m (by omega)
    have hwr : IntKind.i64.wrap ((n : Int) - 1) = (m : Int) := by rw [IntKind.wrap_i64]; omega
    have hn0 : ((n : Int) == 0) = false := by rw [beq_eq_false_iff_ne]; omega
    have hmn : (m : Int) < (n : Int) := by omega
    subst hA
    clear h hG hr hr2 hlk hin hq hqne hdl hgl htk hx hcell hbl hplace e0 hfo hnd hn hm hl hc hql
    go_enter Try.func79, Try.ntmps79
    go_wp2_with fail
    refine HLK.out.mono ?_
    rintro e w1 ⟨rfl, hb1⟩
    have HB1 := Lib.hid hb1
    clear hb1 HLK
    by_cases hk : k = 0
    case neg =>
      have hkb : ((k : Int) != 0) = true := by rw [bne_iff_ne]; omega
      have HN : Hid (Tr.place t q = (0, [], k)) := by
        have := HPL.out
        rw [if_pos hk] at this
        exact this
      clear hk
      go_wp2_with fail
      go_ret3
      rw [HN.out]
      exact ⟨rfl, HB1.out⟩
    subst hk
    have HND1 := Lib.hid (HND.out w1 HB1.out)
    go_wp2_with fail
    refine HND1.out.mono ?_
    rintro e w2 ⟨rfl, hb2⟩
    have HB2 : Hid (Below w.heap.size w w2) := HB1.out.trans (hb2.mono HB1.out.size)
    have HB3 : Hid (Below w.heap.size w (w2.alloc (.cells #[.int .i64 a1, .int .i64 a2, .int .i64 a3, .int .i64 a4, .int .u64 (a5 : Nat), .bool a6] 38))) := HB2.out.alloc HB2.out.size _
    clear hb2 HND HND1
    by_cases h2 : a2 = 2
    case neg =>
      have hk2 : (a2 != 2) = true := by rw [bne_iff_ne]; exact h2
      have HN : Hid (Tr.place t q = (0, [], 23)) := by
        have := HPL.out
        rw [if_neg (by simp), if_pos h2] at this
        exact this
      clear h2
      go_wp2_with fail
      go_ret3
      rw [HN.out]
      exact ⟨rfl, HB3.out⟩
    subst h2
    have HN : Hid (Tr.place t q = (i, x, 0)) := by
      have := HPL.out
      rw [if_neg (by simp), if_neg (by simp)] at this
      exact this
    have cx := HCX.out _ HB3.out
    have cx2 : ((w2.alloc (.cells #[.int .i64 a1, .int .i64 2, .int .i64 a3, .int .i64 a4, .int .u64 (a5 : Nat), .bool a6] 38)).drew).cell? ⟨b, off + m, none⟩ = some (.string (strOf x)) := cx
    go_wp2_with fail
    go_quiet (fail)
    go_wp2_with fail
    go_ret3
    rw [HN.out]
    exact ⟨rfl, ⟨HB3.out.os, HB3.out.tape, HB3.out.output, HB3.out.size, HB3.out.block⟩⟩
/-- The names of one directory, out of all. -/
theorem flat_kids {t : T} (hr : Tr.Ris t) (i : Int) : ((Tr.flat t).filter fun y => y.1 == i).map (·.2) = Tr.kids t i := by
  induction t with
  | nil => rfl
  | cons e t ih =>
    have hr2 := List.pairwise_cons.1 hr
    have e1 : Tr.flat (e :: t) = e.names.map (fun n => (e.nd.id, n)) ++ Tr.flat t := rfl
    rw [e1, List.filter_append, List.map_append]
    have hk : Tr.kids (e :: t) i = if e.nd.id = i then e.names else Tr.kids t i := by
      unfold Tr.kids
      rw [Tr.find_cons]
      split <;> rfl
    rw [hk]
    by_cases h : e.nd.id = i
    · rw [if_pos h]
      have e2 : (Tr.flat t).filter (fun y => y.1 == i) = [] := by
        rw [List.filter_eq_nil_iff]
        intro y hy
        obtain ⟨a, ha, hid⟩ := flat_ids hy
        have := hr2.1 a ha
        simp
        omega
      rw [e2, List.map_nil, List.append_nil]
      rw [List.filter_eq_self.2 (fun y hy => by obtain ⟨n, _, rfl⟩ := List.mem_map.1 hy; simpa using h), List.map_map]
      exact List.map_id _
    · rw [if_neg h, List.filter_eq_nil_iff.2 (fun y hy => by obtain ⟨n, _, rfl⟩ := List.mem_map.1 hy; simpa using h)]
      exact ih hr2.2
/-- Texts and a number: the texts are the call's own. -/
def LAns (l : List Bs) (n : Nat) (w : World) (e : Ending) (w' : World) : Prop := ∃ x, e = .returned (.tuple #[x, .int .i64 (n : Nat)]) ∧ TAt w.heap.size x l w w'
theorem LAns.none (n : Nat) {w w' : World} (hb : Below w.heap.size w w') : LAns [] n w (.returned (.tuple #[.slice none 0 0, .int .i64 (n : Nat)])) w' := ⟨_, rfl, (TAt.nil w).below hb⟩
set_option maxHeartbeats 2000000 in
set_option maxRecDepth 100000 in
theorem list_any (h : RA p nv dv ev D t w) (hG : Tr.Good t) (i : Int) :
    Calls Try.prog 65 #[.pointer (some ⟨p, 0, none⟩), .int .i64 i] w (LAns (Tr.list t i).1 (Tr.list t i).2 w) := by
  have HND := Lib.hid (node_any h.in_ h.low i (by have := hG.few; omega))
  have hlist : Tr.list t i = if (Tr.find t i).isNone then ([], 20) else if (Tr.ndOf t i).kind ≠ 2 then ([], 23) else (((Tr.flat t).filter fun y => y.1 == i).map (·.2.1), 0) := by
    unfold Tr.list Tr.kindOf
    rw [← flat_kids hG.ris i, List.map_map]
    rfl
  have e0 : Tr.node t i = (Tr.ndOf t i, (Tr.find t i).isSome) := rfl
  rw [e0] at HND
  obtain ⟨fo, hfo⟩ : ∃ fo, fo = (Tr.find t i).isSome := ⟨_, rfl⟩
  have hno : (Tr.find t i).isNone = !fo := by rw [hfo]; cases Tr.find t i <;> rfl
  rw [hno] at hlist
  rw [← hfo] at HND
  obtain ⟨⟨a1, a2, a3, a4, a5, a6⟩, hnd⟩ : ∃ nd, nd = Tr.ndOf t i := ⟨_, rfl⟩
  rw [← hnd] at HND hlist
  unfold Nd.val at HND
  simp only at HND hlist
  have HLI := Lib.hid hlist
  have hfew := hG.flat_le
  obtain ⟨l, hl⟩ : ∃ l, l = Tr.flat t := ⟨_, rfl⟩
  obtain ⟨A, c, rfl, hc, hA⟩ := Tm.own_form h.in_.ents
  rw [← hl] at hA hfew HLI
  have HA := Lib.hid hA
  have HC0 : Hid (∀ W, Below w.heap.size w W → W.cell? ⟨p, 2, none⟩ = some (.slice A l.length c)) := fun W hW => by
    have := (h.below hW).in_.box.cell 2
    rw [hl]
    exact this
  clear h hG e0 hfo hno hnd hl hA hlist hc
  go_enter Try.func65, Try.ntmps65
  go_wp2_with fail
  refine HND.out.mono ?_
  rintro e w1 ⟨rfl, hb1⟩
  have HB1 := Lib.hid hb1
  have HB2 : Hid (Below w.heap.size w (w1.alloc (.cells #[.int .i64 a1, .int .i64 a2, .int .i64 a3, .int .i64 a4, .int .u64 (a5 : Nat), .bool a6] 38))) := HB1.out.alloc HB1.out.size _
  clear hb1 HND
  cases fo with
  | false =>
    have HN : Hid (Tr.list t i = ([], 20)) := HLI.out
    clear HLI
    go_wp2_with fail
    go_ret2
    rw [HN.out]
    exact LAns.none _ HB2.out
  | true =>
    by_cases h2 : a2 = 2
    case neg =>
      have hk2 : (a2 != 2) = true := by rw [bne_iff_ne]; exact h2
      have HN : Hid (Tr.list t i = ([], 23)) := by
        have := HLI.out
        rw [if_neg (by simp), if_pos h2] at this
        exact this
      clear h2 HLI
      go_wp2_with fail
      go_ret2
      rw [HN.out]
      exact LAns.none _ HB2.out
    subst h2
    have HN : Hid (Tr.list t i = ((l.filter fun y => y.1 == i).map (·.2.1), 0)) := by
      have := HLI.out
      rw [if_neg (by simp), if_neg (by simp)] at this
      exact this
    clear HLI
    obtain ⟨wb, hwb⟩ : ∃ wb, wb = w1.alloc (.cells #[.int .i64 a1, .int .i64 2, .int .i64 a3, .int .i64 a4, .int .u64 (a5 : Nat), .bool a6] 38) := ⟨_, rfl⟩
    have HBB : Hid (Below w.heap.size w wb) := by show Below _ _ _; rw [hwb]; exact HB2.out
    clear HB2
    go_upto_region 6 with (fail)
    rw [← hwb]
    clear hwb
    go_wp2_with fail
    go_loopw [8, 9] (fun t8 t9 wr => ∃ j : Nat, t9 = .int .i64 j ∧ j ≤ l.length ∧ Hid (TAt wb.heap.size t8 (((l.take j).filter fun y => y.1 == i).map (·.2.1)) wb wr)) (fun _ t9 _ => l.length - (match t9 with | .int _ k => k.toNat | _ => 0))
    case atStart => exact ⟨0, rfl, Nat.zero_le _, TAt.nil wb⟩
    case round =>
      obtain ⟨j, rfl, hj, HT⟩ := hrel
      have cE := HC0.out _ (HBB.out.trans (HT.out.later.mono HBB.out.size))
      by_cases hk : j < l.length
      · obtain ⟨y, hy⟩ : ∃ y, l[j]? = some y := ⟨_, List.getElem?_eq_getElem hk⟩
        obtain ⟨q, rfl, _, _, hql, hcell⟩ := HA.out (by omega)
        have hlow := HBB.out.trans (HT.out.later.mono HBB.out.size)
        have d0 : wr.cell? ⟨q, j * 3, none⟩ = some (.int .i64 y.1) := (hlow.cell (p := ⟨q, j * 3, none⟩) hql).trans (hcell _ _ (fl_get hy 0 (by omega)))
        have d1 : wr.cell? ⟨q, j * 3 + 1, none⟩ = some (.string (strOf y.2.1)) := (hlow.cell (p := ⟨q, j * 3 + 1, none⟩) hql).trans (hcell _ _ (fl_get hy 1 (by omega)))
        have hlt2 : (j : Int) < (l.length : Int) := by omega
        have htk : l.take (j + 1) = l.take j ++ [y] := by
          rw [List.take_succ_eq_append_getElem hk]
          rw [List.getElem?_eq_getElem hk] at hy
          injection hy with hy
          rw [hy]
        have HTK : Hid (((l.take (j + 1)).filter fun y => y.1 == i).map (·.2.1) = ((l.take j).filter fun y => y.1 == i).map (·.2.1) ++ if y.1 = i then [y.2.1] else []) := by
          show _ = _
          rw [htk, List.filter_append, List.map_append]
          congr 1
          by_cases h : y.1 = i
          · rw [if_pos h, List.filter_cons, if_pos (by simpa using h)]; rfl
          · rw [if_neg h, List.filter_cons, if_neg (by simpa using h)]; rfl
        have HLL : Hid ((((l.take j).filter fun y => y.1 == i).map (·.2.1)).length + [y.2.1].length ≤ 68719476736) := by
          have h2 : (((l.take j).filter fun y => y.1 == i).map (·.2.1)).length ≤ (l.take j).length := by rw [List.length_map]; exact List.length_filter_le _ _
          rw [List.length_take] at h2
          have h3 : [y.2.1].length = 1 := rfl
          show _ + _ ≤ _
          rw [h3]
          refine Nat.le_trans (Nat.add_le_add_right h2 1) ?_
          omega
        obtain ⟨y1, y2, y3⟩ := y
        simp only at d0 d1 HTK HLL
        clear hy hcell hlow hql htk
        by_cases h1 : y1 = i
        · subst h1
          have HBC : Hid (Below wr.heap.size wr (wr.alloc (.cells #[.string (strOf y2)] 9))) := below_new wr _
          have HRD : Hid (RdS (wr.alloc (.cells #[.string (strOf y2)] 9)) (some ⟨wr.heap.size, 0, none⟩) [y2]) := rds_one wr y2 9
          go_wp2_with (at_builtin; refine wpList_append_txts rfl (.tmp 40) (.tmp 49) rfl rfl HT.out HBC.out _ [y2] 1 1 rfl rfl HRD.out HLL.out ?_; intro v2 w2 HO2 HG2)
          have HNX : Hid (TAt wb.heap.size v2 (((l.take (j + 1)).filter fun y => y.1 == y1).map (·.2.1)) wb w2) := by
            have := HO2.out
            show TAt _ _ _ _ _
            rw [HTK.out, if_pos rfl]; exact this
          clear HO2 HG2 HTK HLL HBC HRD
          go_roundw
          case rel => exact ⟨j + 1, by go_num, by omega, HNX.out⟩
          case measure => simp; omega
        · have hb : (y1 == i) = false := by rw [beq_eq_false_iff_ne]; exact h1
          have HNX : Hid (TAt wb.heap.size u8 (((l.take (j + 1)).filter fun y => y.1 == i).map (·.2.1)) wb wr) := by
            show TAt _ _ _ _ _
            rw [HTK.out, if_neg h1, List.append_nil]; exact HT.out
          clear HTK HLL h1
          go_wp2_with fail
          go_roundw
          case rel => exact ⟨j + 1, by go_num, by omega, HNX.out⟩
          case measure => simp; omega
      · obtain rfl : j = l.length := by omega
        have HEND : Hid (TAt w.heap.size u8 ((l.filter fun y => y.1 == i).map (·.2.1)) w wr) := by
          have := HT.out
          rw [List.take_length] at this
          exact ⟨own_mono this.1 HBB.out.size, HBB.out.trans (this.later.mono HBB.out.size), rfl⟩
        go_wp2_with fail
        go_ret2
        rw [HN.out]
        exact ⟨_, rfl, HEND.out⟩
end Rf
end Go.Proofs.Ytombmeppdhhjhaa

/-
  OWN WORK. The document's tree: New, Read, Drop.
-/
import Derived.Test.YtombmeppdhhjhaaRRfUnl
namespace Go.Proofs.Ytombmeppdhhjhaa
open Go.RowKit Rc
open Tr (Nm En T)
namespace Rf
variable {p : Nat} {nv dv ev nv2 dv2 ev2 : Value} {D D2 : Nat → Prop} {t t' : T} {w w1 w2 : World}
set_option maxHeartbeats 1000000 in
set_option maxRecDepth 100000 in
theorem new_any (w : World) : Calls Try.prog 33 #[] w fun e w' => ∃ p nv dv ev D, e = .returned (.pointer (some ⟨p, 0, none⟩)) ∧ RA p nv dv ev D Tr.new w' ∧ Below w.heap.size w w' ∧ ∀ b, RS p nv ev D b → w.heap.size ≤ b := by
  obtain ⟨wa, hwa⟩ : ∃ wa, wa = w.alloc (.cells #[.int .i64 0, .int .i64 2, .int .i64 1, .int .i64 0, .int .u64 0, .bool true] 38) := ⟨_, rfl⟩
  obtain ⟨wb, hwb⟩ : ∃ wb, wb = wa.alloc (.cells #[.slice none 0 0] 29) := ⟨_, rfl⟩
  have hsa : wa.heap.size = w.heap.size + 1 := by rw [hwa, World.size_alloc]
  have hsb : wb.heap.size = w.heap.size + 1 + 1 := by rw [hwb, World.size_alloc, hsa]
  obtain ⟨wc, hwc⟩ : ∃ wc, wc = wb.alloc (.cells #[.slice (some ⟨w.heap.size, 0, none⟩) 1 1, .slice (some ⟨w.heap.size + 1, 0, none⟩) 1 1, .slice none 0 0] 93) := ⟨_, rfl⟩
  have hba : Below w.heap.size w wa := by rw [hwa]; exact below_new w _
  have hbb : Below wa.heap.size wa wb := by rw [hwb]; exact below_new wa _
  have hbc : Below wb.heap.size wb wc := by rw [hwc]; exact below_new wb _
  have ka : Blk wa w.heap.size 38 [.int .i64 0, .int .i64 2, .int .i64 1, .int .i64 0, .int .u64 0, .bool true] := by rw [hwa]; exact Blk.new w _ _
  have kb : Blk wb (w.heap.size + 1) 29 [.slice none 0 0] := by rw [← hsa, hwb]; exact Blk.new wa _ _
  have kc : Blk wc (w.heap.size + 1 + 1) 93 [.slice (some ⟨w.heap.size, 0, none⟩) 1 1, .slice (some ⟨w.heap.size + 1, 0, none⟩) 1 1, .slice none 0 0] := by rw [← hsb, hwc]; exact Blk.new wb _ _
  have ka2 := (ka.below hbb ka.lt).below hbc (by have := ka.lt; omega)
  have kb2 := kb.below hbc kb.lt
  have own1 : ∀ {g : Nat} {e : TypeId} {cs : List Value} {k : Nat}, Blk wc g e cs → cs.length = k → wc.ownsRow 0 e k (.slice (some ⟨g, 0, none⟩) 1 1) 1 cs := fun {g e cs k} hb hk => ⟨by omega, .inr ⟨g, 1, cs.toArray, rfl, Nat.zero_le _, hb, Nat.le_refl _, by unfold maxLen; omega, by simp [hk], by simp [← hk]⟩⟩
  have HRA : Hid (∃ nv dv ev D, RA (w.heap.size + 1 + 1) nv dv ev D Tr.new wc ∧ Below w.heap.size w wc ∧ ∀ b, RS (w.heap.size + 1 + 1) nv ev D b → w.heap.size ≤ b) := by
    refine ⟨_, _, _, fun b => b = w.heap.size + 1, ⟨⟨kc, own1 ka2 rfl, ⟨rfl, .inl ⟨rfl, rfl⟩⟩, ⟨[.slice none 0 0], own1 kb2 rfl, fun b hb => ?_, fun j y hj => ?_⟩⟩, fun b hb => ?_⟩, hba.trans ((hbb.mono hba.size).trans (hbc.mono (by omega))), fun b hb => ?_⟩
    · simp [Value.ownBlock] at hb; exact hb.symm
    · have hj0 : j = 0 := by
        have := (List.getElem?_eq_some_iff.1 hj).1
        have h1 : (Tr.new.map (·.data)).length = 1 := rfl
        omega
      subst hj0
      obtain rfl : ([] : Bs) = y := by injection hj
      exact ⟨none, 0, rfl, Nat.le_refl _, .inl ⟨Rd.nil _ _, fun b hb => by cases hb⟩⟩
    · subst hb
      refine ⟨by have := kc.lt; omega, by omega, ?_, ?_⟩ <;> simp [Value.ownBlock]
    · rcases hb with rfl | hb | hb | rfl
      · omega
      · simp [Value.ownBlock] at hb; omega
      · simp [Value.ownBlock] at hb
      · omega
  clear hba hbb hbc ka kb kc ka2 kb2 own1
  go_enter Try.func33, Try.ntmps33
  go_wp2_with fail
  go_ret
  obtain ⟨nv, dv, ev, D, k1, k2, k3⟩ := HRA.out
  subst hwc hwb hwa
  exact ⟨_, nv, dv, ev, D, rfl, k1, k2, k3⟩
/-- A row of bytes of the tree's. -/
theorem RA.datacell (h : RA p nv dv ev D t w) {j : Nat} {e : En} (he : t[j]? = some e) : ∃ g X c, (∃ cd, dv = .slice (some ⟨g, 0, none⟩) t.length cd) ∧ w.cell? ⟨g, j, none⟩ = some (.slice X e.data.length c) ∧ e.data.length ≤ c ∧ Rd w X e.data ∧ ∀ b, X.map (·.block) = some b → D b ∧ dv.ownBlock ≠ some b := by
  obtain ⟨xs, h1, h2, h3⟩ := h.in_.data
  rw [List.length_map] at h1
  obtain ⟨A, cd, hv, _, hA⟩ := Tm.own_form h1
  have hjl : j < t.length := (List.getElem?_eq_some_iff.1 he).1
  obtain ⟨g, rfl, _, _, _, hcell⟩ := hA (by omega)
  obtain ⟨X, c, k1, k2, k3⟩ := h3 j e.data (by rw [List.getElem?_map, he]; rfl)
  rcases k3 with k3 | k3
  · exact ⟨g, X, c, ⟨cd, hv⟩, hcell j _ k1, k2, k3.1, k3.2⟩
  · exact k3.elim
/-- Bytes and a number: the bytes are read. -/
def RdAns (l : Bs) (n : Nat) (w : World) (e : Ending) (w' : World) : Prop := ∃ X c, e = .returned (.tuple #[.slice X l.length c, .int .i64 (n : Nat)]) ∧ l.length ≤ c ∧ Rd w X l ∧ w' = w
set_option maxHeartbeats 2000000 in
set_option maxRecDepth 100000 in
theorem read_any (h : RA p nv dv ev D t w) (hG : Tr.Good t) (i a m : Int) (ha : -9223372036854775808 ≤ a ∧ a ≤ 9223372036854775807) (hm : -9223372036854775808 ≤ m ∧ m ≤ 9223372036854775807) :
    Calls Try.prog 57 #[.pointer (some ⟨p, 0, none⟩), .int .i64 i, .int .i64 a, .int .i64 m] w (RdAns (Tr.read t i a m).1 (Tr.read t i a m).2 w) := by
  have HF := Lib.hid (file_any h.in_ i (by have := hG.few; omega))
  have HNIL : Hid (∀ n : Nat, RdAns [] n w (.returned (.tuple #[.slice none 0 0, .int .i64 (n : Nat)])) w) := fun n => ⟨none, 0, rfl, Nat.le_refl _, Rd.nil _ _, rfl⟩
  by_cases h0 : Tr.file t i = 0
  case neg =>
    have HN : Hid (Tr.read t i a m = ([], Tr.file t i)) := by
      show _ = _
      unfold Tr.read
      rw [if_pos h0]
    rw [if_neg h0] at HF
    obtain ⟨k, hk⟩ : ∃ k, k = Tr.file t i := ⟨_, rfl⟩
    rw [← hk] at HF h0 HN
    have hki : ((k : Int) != 0) = true := by rw [bne_iff_ne]; omega
    clear h hG h0 hk
    go_enter Try.func57, Try.ntmps57
    go_wp2_with fail
    refine HF.out.mono ?_
    rintro e1 w1 ⟨rfl, rfl⟩
    go_wp2_with fail
    go_ret2
    rw [HN.out]
    exact HNIL.out k
  rw [if_pos h0, h0] at HF
  obtain ⟨e, j, h1, h2, h3, h4, h5, h6⟩ := file_at h0
  rw [h3] at HF
  have hread : Tr.read t i a m = if a < 0 ∨ m < 0 then ([], 1) else ((e.data.drop a.toNat).take m.toNat, 0) := by
    unfold Tr.read
    rw [if_neg (by rw [h0]; simp), Tr.dataOf_of h1]
  have HRE := Lib.hid hread
  obtain ⟨g, X, c, ⟨cd, hdv⟩, k1, k2, k3, _⟩ := h.datacell h2
  have cp1 : w.cell? ⟨p, 1, none⟩ = some dv := h.in_.box.cell 1
  subst hdv
  have hsz : e.data.length ≤ 4096 := by
    have k := (hG.each e (Tr.find_some h1).1)
    have := k.nd.2.2.2.2.2.1
    have := k.size
    omega
  obtain ⟨l, hl⟩ : ∃ l, l = e.data := ⟨_, rfl⟩
  rw [← hl] at k1 k2 k3 hsz HRE
  have HK2 := Lib.hid k2
  have HRD := Lib.hid k3
  have hjl : (j : Int) < (t.length : Int) := by omega
  clear h hG h0 h1 h2 h3 h4 h5 h6 hread hl k2 k3
  by_cases ha0 : a < 0
  · have HN : Hid (Tr.read t i a m = ([], 1)) := by
      have := HRE.out
      rw [if_pos (.inl ha0)] at this
      exact this
    go_enter Try.func57, Try.ntmps57
    go_wp2_with fail
    refine HF.out.mono ?_
    rintro e1 w1 ⟨rfl, rfl⟩
    go_wp2_with fail
    go_ret2
    rw [HN.out]
    exact HNIL.out 1
  by_cases hm0 : m < 0
  · have HN : Hid (Tr.read t i a m = ([], 1)) := by
      have := HRE.out
      rw [if_pos (.inr hm0)] at this
      exact this
    go_enter Try.func57, Try.ntmps57
    go_wp2_with fail
    refine HF.out.mono ?_
    rintro e1 w1 ⟨rfl, rfl⟩
    go_wp2_with fail
    go_ret2
    rw [HN.out]
    exact HNIL.out 1
  obtain ⟨an, rfl⟩ : ∃ an : Nat, a = (an : Int) := ⟨a.toNat, by omega⟩
  obtain ⟨mn, rfl⟩ : ∃ mn : Nat, m = (mn : Int) := ⟨m.toNat, by omega⟩
  have HN : Hid (Tr.read t i (an : Int) (mn : Int) = ((l.drop an).take mn, 0)) := by
    have := HRE.out
    rw [if_neg (by omega)] at this
    exact this
  clear HRE
  by_cases hal : l.length ≤ an
  · have hali : (l.length : Int) ≤ (an : Int) := by omega
    have HN2 : Hid (Tr.read t i (an : Int) (mn : Int) = ([], 0)) := by
      have := HN.out
      rw [List.drop_eq_nil_of_le hal, List.take_nil] at this
      exact this
    clear HN hal
    go_enter Try.func57, Try.ntmps57
    go_wp2_with fail
    refine HF.out.mono ?_
    rintro e1 w1 ⟨rfl, rfl⟩
    go_wp2_with fail
    go_ret2
    rw [HN2.out]
    exact HNIL.out 0
  have hali : ¬ (l.length : Int) ≤ (an : Int) := by omega
  obtain ⟨rs, hrs⟩ : ∃ rs, rs = l.length - an := ⟨_, rfl⟩
  have hw1 : IntKind.i64.wrap ((l.length : Int) - (an : Int)) = (rs : Int) := by rw [IntKind.wrap_i64]; omega
  have key : ∀ k, (l.drop an).take mn = (l.drop an).take k → an + k ≤ l.length → ∃ (hi : Nat) (X2 : Option Addr) (n3 c3 : Nat), IntKind.i64.wrap ((an : Int) + (k : Int)) = (hi : Int) ∧ (∀ W, (Instr.sliceAt 29 (.slice X l.length c) (some (.int .i64 (an : Nat))) (some (.int .i64 (hi : Nat))) none).run Try.prog W = .ok (.slice X2 n3 c3) W) ∧ Hid (RdAns ((l.drop an).take mn) 0 w (.returned (.tuple #[.slice X2 n3 c3, .int .i64 0])) w) := fun k hks hkl => by
    obtain ⟨X2, r, c3, hrun, hrc, hrd, _, htk, _, hlen⟩ := part_lh X l c an (an + k) (by omega) hkl HK2.out
    refine ⟨an + k, X2, r.length, c3, by rw [IntKind.wrap_i64]; omega, hrun.out, ?_⟩
    have hr : (l.drop an).take k = r := by
      have h1 := congrArg (List.drop an) htk.out
      have e9 : (l.take an).drop an = [] := List.drop_eq_nil_of_le (by rw [List.length_take]; omega)
      rw [List.drop_append_of_le_length (by rw [List.length_take]; omega), e9, List.nil_append, List.drop_take] at h1
      rw [← h1]; congr 1; omega
    rw [hks, hr]
    exact ⟨X2, c3, rfl, hrc, hrd.out _ HRD.out, rfl⟩
  by_cases h9 : rs < mn
  · have h9i : (rs : Int) < (mn : Int) := by omega
    obtain ⟨hi, X2, n3, c3, hw2, hrun, HEND⟩ := key rs (by rw [List.take_of_length_le (by rw [List.length_drop]; omega), List.take_of_length_le (by rw [List.length_drop]; omega)]) (by omega)
    clear key h9 hal hrs
    go_enter Try.func57, Try.ntmps57
    go_wp2_with fail
    refine HF.out.mono ?_
    rintro e1 w1 ⟨rfl, rfl⟩
    go_wp2_with fail
    go_ret2
    rw [HN.out]
    exact HEND.out
  · have h9i : ¬ (rs : Int) < (mn : Int) := by omega
    obtain ⟨hi, X2, n3, c3, hw2, hrun, HEND⟩ := key mn rfl (by omega)
    clear key h9 hal hrs
    go_enter Try.func57, Try.ntmps57
    go_wp2_with fail
    refine HF.out.mono ?_
    rintro e1 w1 ⟨rfl, rfl⟩
    go_wp2_with fail
    go_ret2
    rw [HN.out]
    exact HEND.out
/-! Drop: the names of a node, struck from the last one on. -/
def part (k : Int) (l : List Nm) (m : Nat) : List Nm := l.take m ++ (l.drop m).filter fun n => !(n.2 == k)
def partT (k : Int) : T → Nat → T
  | [], _ => []
  | e :: t, m => { e with names := part k e.names m } :: partT k t (m - e.names.length)
def partF (k : Int) (l : List Ent) (m : Nat) : List Ent := l.take m ++ (l.drop m).filter fun n => !(n.2.2 == k)
theorem partT_maps (k : Int) : ∀ (t : T) (m : Nat), (partT k t m).map (·.nd) = t.map (·.nd) ∧ (partT k t m).map (·.data) = t.map (·.data)
  | [], _ => ⟨rfl, rfl⟩
  | e :: t, m => ⟨by rw [partT, List.map_cons, List.map_cons, (partT_maps k t _).1], by rw [partT, List.map_cons, List.map_cons, (partT_maps k t _).2]⟩
theorem partT_flat (k : Int) : ∀ (t : T) (m : Nat), Tr.flat (partT k t m) = partF k (Tr.flat t) m
  | [], m => by simp [partT, partF, Tr.flat]
  | e :: t, m => by
    have e1 : Tr.flat (e :: t) = e.names.map (fun n => (e.nd.id, n)) ++ Tr.flat t := rfl
    have e2 : Tr.flat (partT k (e :: t) m) = (part k e.names m).map (fun n => (e.nd.id, n)) ++ Tr.flat (partT k t (m - e.names.length)) := rfl
    rw [e2, e1, partT_flat k t]
    unfold partF part
    rw [List.take_append, List.drop_append, List.length_map, List.filter_append, List.map_append, ← List.map_take, ← List.map_drop, List.filter_map]
    have e3 : ((fun n : Ent => !(n.2.2 == k)) ∘ fun n : Nm => (e.nd.id, n)) = fun n : Nm => !(n.2 == k) := rfl
    rw [e3]
    by_cases h : m ≤ e.names.length
    · have h0 : m - e.names.length = 0 := by omega
      rw [h0]
      simp
    · rw [List.drop_eq_nil_of_le (show e.names.length ≤ m by omega)]
      simp
theorem partT_end (k : Int) : ∀ (t : T) (m : Nat), (Tr.flat t).length ≤ m → partT k t m = t
  | [], _, _ => rfl
  | e :: t, m, h => by
    have e1 : Tr.flat (e :: t) = e.names.map (fun n => (e.nd.id, n)) ++ Tr.flat t := rfl
    rw [e1, List.length_append, List.length_map] at h
    rw [partT, partT_end k t _ (by omega)]
    have : part k e.names m = e.names := by
      unfold part
      rw [List.take_of_length_le (by omega), List.drop_eq_nil_of_le (by omega)]; simp
    rw [this]
theorem partT_zero (k : Int) : ∀ t : T, partT k t 0 = t.map fun e => { e with names := Tr.strike e.names k }
  | [] => rfl
  | e :: t => by
    rw [partT, Nat.zero_sub, partT_zero k t, List.map_cons]
    have : part k e.names 0 = Tr.strike e.names k := by unfold part Tr.strike; simp
    rw [this]
theorem partF_step (k : Int) (l : List Ent) {i : Nat} {y : Ent} (h : l[i]? = some y) : partF k l i = if y.2.2 = k then (partF k l (i + 1)).take i ++ (partF k l (i + 1)).drop (i + 1) else partF k l (i + 1) := by
  obtain ⟨hlt, hje⟩ := List.getElem?_eq_some_iff.1 h
  unfold partF
  have hd : l.drop i = y :: l.drop (i + 1) := by rw [List.drop_eq_getElem_cons hlt, hje]
  have ht : l.take (i + 1) = l.take i ++ [y] := by rw [List.take_succ_eq_append_getElem hlt, hje]
  rw [hd, List.filter_cons]
  by_cases hy : y.2.2 = k
  · rw [if_pos hy, if_neg (by simpa using hy)]
    have hl1 : (l.take (i + 1)).length = i + 1 := by rw [List.length_take]; omega
    have e1 : (l.take (i + 1) ++ (l.drop (i + 1)).filter fun n => !(n.2.2 == k)).take i = l.take i := by
      rw [List.take_append_of_le_length (by omega), List.take_take]
      congr 1; omega
    have e2 : (l.take (i + 1) ++ (l.drop (i + 1)).filter fun n => !(n.2.2 == k)).drop (i + 1) = (l.drop (i + 1)).filter fun n => !(n.2.2 == k) := by
      exact List.drop_left' hl1
    rw [e1, e2]
  · rw [if_neg hy, if_pos (by simpa using hy), ht, List.append_assoc]; rfl
theorem RA.same (h : RA p nv dv ev D t w) (hf : Tr.flat t' = Tr.flat t) (hn : t'.map (·.nd) = t.map (·.nd)) (hd : t'.map (·.data) = t.map (·.data)) : RA p nv dv ev D t' w := by
  obtain ⟨hc, hl⟩ := nd_cells hn
  exact ⟨⟨h.in_.box, by rw [hl, hc]; exact h.in_.nodes, by rw [hf]; exact h.in_.ents, by rw [hd]; exact h.in_.data⟩, h.apart⟩
/-- What is read of a name. -/
theorem RA.entcell (h : RA p nv dv ev D t w) {j : Nat} {y : Ent} (hy : (Tr.flat t)[j]? = some y) : ∃ g c, ev = .slice (some ⟨g, 0, none⟩) (Tr.flat t).length c ∧ w.cell? ⟨g, j * 3 + 2, none⟩ = some (.int .i64 y.2.2) := by
  obtain ⟨A, c, hv, _, hA⟩ := Tm.own_form h.in_.ents
  have hjl : j < (Tr.flat t).length := (List.getElem?_eq_some_iff.1 hy).1
  obtain ⟨g, rfl, _, _, _, hcell⟩ := hA (by omega)
  exact ⟨g, c, hv, hcell _ _ (fl_get hy 2 (by omega))⟩
set_option maxHeartbeats 2000000 in
set_option maxRecDepth 100000 in
theorem drop_any (h : RA p nv dv ev D t w) (hG : Tr.Good t) (i : Int) :
    Calls Try.prog 60 #[.pointer (some ⟨p, 0, none⟩), .int .i64 i] w (RTurn p (Tr.drop t i).2 (.int .i64 ((Tr.drop t i).1 : Nat)) (RS p nv ev D) w) := by
  have HF := Lib.hid (file_any h.in_ i (by have := hG.few; omega))
  have HS : Hid (∀ x, RTurn p t x (RS p nv ev D) w (.returned x) w) := fun x => RTurn.stay h (Below.refl _ _)
  by_cases h0 : Tr.file t i = 0
  case neg =>
    have HN : Hid (Tr.drop t i = (Tr.file t i, t)) := by
      show _ = _
      unfold Tr.drop
      rw [if_pos h0]
    rw [HN.out]
    rw [if_neg h0] at HF
    obtain ⟨k, hk⟩ : ∃ k, k = Tr.file t i := ⟨_, rfl⟩
    rw [← hk] at HF h0 ⊢
    have hki : ((k : Int) != 0) = true := by rw [bne_iff_ne]; omega
    clear h hG h0 hk
    go_enter Try.func60, Try.ntmps60
    go_wp2_with fail
    refine HF.out.mono ?_
    rintro e1 w1 ⟨rfl, rfl⟩
    go_wp2_with fail
    go_ret
    exact HS.out _
  rw [if_pos h0, h0] at HF
  obtain ⟨e, j, h1, h2, h3, h4, h5, h6⟩ := file_at h0
  rw [h3] at HF
  have hpos : 0 < t.length := by omega
  obtain ⟨g0, c0, hnv⟩ := h.nvform hpos
  subst hnv
  have cp0 : w.cell? ⟨p, 0, none⟩ = some (.slice (some ⟨g0, 0, none⟩) t.length c0) := h.in_.box.cell 0
  have d5 : w.cell? ⟨g0, j * 6 + 5, none⟩ = some (.bool e.nd.shut) := (h.ndcell h2 5 (by omega)).1
  have hjl : (j : Int) < (t.length : Int) := by omega
  have hdrop : Tr.drop t i = if e.nd.shut = true then (27, t) else (0, Tr.remove (t.map fun e => { e with names := Tr.strike e.names i }) i) := by
    unfold Tr.drop
    rw [if_neg (by rw [h0]; simp), Tr.ndOf_of h1]
  have HDR := Lib.hid hdrop
  have hrs : Tr.Ris (t.map fun e => { e with names := Tr.strike e.names i }) := Tr.map_ris hG.ris fun _ => rfl
  have HGN : Hid (∀ nv2 dv2 ev2 D2 W, RA p nv2 dv2 ev2 D2 (partT i t 0) W → Calls Try.prog 87 #[.pointer (some ⟨p, 0, none⟩), .int .i64 i] W (RTurn p (Tr.remove (t.map fun e => { e with names := Tr.strike e.names i }) i) (.tuple #[]) (RS p nv2 ev2 D2) W)) := fun nv2 dv2 ev2 D2 W hW => by
    rw [partT_zero] at hW
    refine gone_of hrs (by rw [List.length_map]; exact hG.few) (e := { e with names := Tr.strike e.names i }) ?_ ?_ hW
    · rw [Tr.find_map (f := fun e => { e with names := Tr.strike e.names i }) (fun _ => rfl), h1]; rfl
    · have hnm : e.names = [] := (hG.each e (Tr.find_some h1).1).file (by
        rcases hG.kind (Tr.find_some h1).1 with k | k
        · exact k
        · exact absurd k h5)
      show Tr.strike e.names i = []
      rw [hnm]; rfl
  obtain ⟨n, hnl⟩ : ∃ n, n = (Tr.flat t).length := ⟨_, rfl⟩
  have hn5 : n ≤ 4194240 := by rw [hnl]; exact hG.flat_le
  have HST : Hid (∃ nv2 dv2 ev2 D2, Left p (partT i t n) (RS p (.slice (some ⟨g0, 0, none⟩) t.length c0) ev D) w w nv2 dv2 ev2 D2) := by
    refine ⟨.slice (some ⟨g0, 0, none⟩) t.length c0, dv, ev, D, ?_⟩
    rw [partT_end i t n (by omega)]
    exact h.left
  have hfl : ∀ m, m ≤ n → (partF i (Tr.flat t) m).length ≤ 4194240 ∧ ∀ k, k < m → (partF i (Tr.flat t) m)[k]? = (Tr.flat t)[k]? := fun m hm => by
    unfold partF
    refine ⟨?_, fun k hk => ?_⟩
    · rw [List.length_append, List.length_take]
      have := List.length_filter_le (fun n : Ent => !(n.2.2 == i)) ((Tr.flat t).drop m)
      rw [List.length_drop] at this
      omega
    · rw [List.getElem?_append_left (by rw [List.length_take]; omega), List.getElem?_take, if_pos hk]
  -- one name looked at
  have HSTEP : Hid (∀ (m : Nat) (wr : World), m < n → (∃ nv2 dv2 ev2 D2, Left p (partT i t (m + 1)) (RS p (.slice (some ⟨g0, 0, none⟩) t.length c0) ev D) w wr nv2 dv2 ev2 D2) →
      ∃ (g L c2 : Nat) (k : Int), m < L ∧ wr.cell? ⟨p, 2, none⟩ = some (.slice (some ⟨g, 0, none⟩) L c2) ∧ wr.cell? ⟨g, m * 3 + 2, none⟩ = some (.int .i64 k) ∧
      (k ≠ i → ∃ nv2 dv2 ev2 D2, Left p (partT i t m) (RS p (.slice (some ⟨g0, 0, none⟩) t.length c0) ev D) w wr nv2 dv2 ev2 D2) ∧
      (k = i → Calls Try.prog 86 #[.pointer (some ⟨p, 0, none⟩), .int .i64 (m : Nat)] wr fun e w' => e = .returned (.tuple #[]) ∧ ∃ nv2 dv2 ev2 D2, Left p (partT i t m) (RS p (.slice (some ⟨g0, 0, none⟩) t.length c0) ev D) w w' nv2 dv2 ev2 D2)) := fun m wr hmn ⟨nv2, dv2, ev2, D2, hL⟩ => by
    obtain ⟨y, hy⟩ : ∃ y, (Tr.flat t)[m]? = some y := ⟨_, List.getElem?_eq_getElem (by omega)⟩
    have hy2 : (Tr.flat (partT i t (m + 1)))[m]? = some y := by rw [partT_flat, (hfl (m + 1) (by omega)).2 m (by omega), hy]
    obtain ⟨g, c2, hev, hcell⟩ := hL.ra.entcell hy2
    have hml := (List.getElem?_eq_some_iff.1 hy2).1
    have hmaps : (partT i t m).map (·.nd) = (partT i t (m + 1)).map (·.nd) ∧ (partT i t m).map (·.data) = (partT i t (m + 1)).map (·.data) := ⟨by rw [(partT_maps i t m).1, (partT_maps i t (m + 1)).1], by rw [(partT_maps i t m).2, (partT_maps i t (m + 1)).2]⟩
    refine ⟨g, _, c2, y.2.2, hml, by rw [← hev]; exact hL.ra.in_.box.cell 2, hcell, fun hk => ?_, fun hk => ?_⟩
    · refine ⟨nv2, dv2, ev2, D2, ⟨hL.ra.same ?_ hmaps.1 hmaps.2, hL.mod, hL.sub⟩⟩
      rw [partT_flat, partT_flat, partF_step i (Tr.flat t) hy, if_neg hk]
    · refine (cut_any hL.ra m hml (by rw [partT_flat]; have := (hfl (m + 1) (by omega)).1; omega) (t' := partT i t m) ?_ hmaps.1 hmaps.2).mono ?_
      · rw [partT_flat, partT_flat, partF_step i (Tr.flat t) hy, if_pos hk]
      · intro e w' ht
        obtain ⟨he, nv3, dv3, ev3, D3, hl⟩ := ht.left
        exact ⟨he, nv3, dv3, ev3, D3, hL.then hl⟩
  have cp2 : ∃ A c, w.cell? ⟨p, 2, none⟩ = some (.slice A n c) := by
    obtain ⟨A, c, hv, _⟩ := Tm.own_form h.in_.ents
    exact ⟨A, c, by rw [hnl, ← hv]; exact h.in_.box.cell 2⟩
  obtain ⟨A2, c2, cp2⟩ := cp2
  obtain ⟨sh, hsh⟩ : ∃ sh, sh = e.nd.shut := ⟨_, rfl⟩
  rw [← hsh] at d5 HDR
  clear h hG h0 h1 h2 h3 h4 h5 h6 hpos hdrop hrs hfl hsh hnl
  cases sh with
  | true =>
    have HN : Hid (Tr.drop t i = (27, t)) := HDR.out
    rw [HN.out]
    go_enter Try.func60, Try.ntmps60
    go_wp2_with fail
    refine HF.out.mono ?_
    rintro e1 w1 ⟨rfl, rfl⟩
    go_wp2_with fail
    go_ret
    exact HS.out _
  | false =>
    have HN : Hid (Tr.drop t i = (0, Tr.remove (t.map fun e => { e with names := Tr.strike e.names i }) i)) := HDR.out
    rw [HN.out]
    have hw0 : IntKind.i64.wrap ((n : Int) - 1) = (n : Int) - 1 := by rw [IntKind.wrap_i64]; omega
    go_enter Try.func60, Try.ntmps60
    go_wp2_with fail
    refine HF.out.mono ?_
    rintro e1 w1 ⟨rfl, rfl⟩
    go_wp2_with fail
    clear cp0 d5 cp2 HF
    go_loopw [7] (fun t7 wr => ∃ m : Nat, t7 = .int .i64 ((m : Int) - 1) ∧ m ≤ n ∧ Hid (∃ nv2 dv2 ev2 D2, Left p (partT i t m) (RS p (.slice (some ⟨g0, 0, none⟩) t.length c0) ev D) w1 wr nv2 dv2 ev2 D2)) (fun t7 _ => (match t7 with | .int _ k => (k + 1).toNat | _ => 0))
    case atStart => exact ⟨n, rfl, Nat.le_refl _, HST.out⟩
    case round =>
      obtain ⟨m, rfl, hm, HI⟩ := hrel
      rcases Nat.eq_zero_or_pos m with hm0 | hm0
      · subst hm0
        obtain ⟨nv2, dv2, ev2, D2, hL⟩ := HI.out
        have HL := Lib.hid hL
        have HG1 := Lib.hid (HGN.out _ _ _ _ wr hL.ra)
        clear hL
        go_wp2_with fail
        refine HG1.out.mono ?_
        intro r w3 ht
        obtain ⟨rfl, nv3, dv3, ev3, D3, hl3⟩ := ht.left
        have HE : Hid (RTurn p (Tr.remove (t.map fun e => { e with names := Tr.strike e.names i }) i) (.int .i64 0) (RS p (.slice (some ⟨g0, 0, none⟩) t.length c0) ev D) w1 (.returned (.int .i64 0)) w3) := (HL.out.then hl3).turn
        clear ht hl3
        go_wp2_with fail
        go_ret
        exact HE.out
      · obtain ⟨q, rfl⟩ : ∃ q, m = q + 1 := ⟨m - 1, by omega⟩
        obtain ⟨g, L, c5, k, hqL, d2, dk, hno, hyes⟩ := HSTEP.out q wr (by omega) HI.out
        have hq1 : (((q + 1 : Nat) : Int) - 1) = (q : Int) := by omega
        rw [hq1]
        have hq0 : (0 : Int) ≤ (q : Int) := by omega
        have hqLi : (q : Int) < (L : Int) := by omega
        have hw3 : IntKind.i64.wrap ((q : Int) - 1) = (q : Int) - 1 := by rw [IntKind.wrap_i64]; omega
        by_cases hk : k = i
        · have HC := Lib.hid (hyes hk)
          subst hk
          clear hno hyes hq1
          go_wp2_with fail
          refine HC.out.mono ?_
          rintro r w3 ⟨rfl, hI3⟩
          have HI3 := Lib.hid hI3
          clear hI3
          go_wp2_with fail
          go_roundw
          case rel => exact ⟨q, rfl, by omega, HI3.out⟩
          case measure => simp <;> omega
        · have hkb : (k == i) = false := by rw [beq_eq_false_iff_ne]; exact hk
          have HI3 := Lib.hid (hno hk)
          clear hno hyes hq1 hk
          go_wp2_with fail
          go_roundw
          case rel => exact ⟨q, rfl, by omega, HI3.out⟩
          case measure => simp <;> omega
end Rf
end Go.Proofs.Ytombmeppdhhjhaa

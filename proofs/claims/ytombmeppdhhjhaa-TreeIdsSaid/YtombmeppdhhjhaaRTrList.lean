/-
  OWN WORK. The program's tree: List.
-/
import Derived.Test.YtombmeppdhhjhaaR06
namespace Go.Proofs.Ytombmeppdhhjhaa
open Go.RowKit Rc
open Tr (Nm En T)
namespace Tm
variable {p : Nat} {av : Value} {gs : List Nat} {S : Nat → Prop} {t t1 : T} {w w1 : World}
/-- Texts and a number: the texts are the call's own. -/
def LAns (l : List Bs) (n : Nat) (w : World) (e : Ending) (w' : World) : Prop := ∃ x, e = .returned (.tuple #[x, .int .i64 (n : Nat)]) ∧ Go.Proofs.Ytombmeppdhhjhaa.TAt w.heap.size x l w w'
theorem LAns.none (n : Nat) {w w' : World} (hb : Below w.heap.size w w') : LAns [] n w (.returned (.tuple #[.slice none 0 0, .int .i64 (n : Nat)])) w' := ⟨_, rfl, (Go.Proofs.Ytombmeppdhhjhaa.TAt.nil w).below hb⟩
theorem txts_room (w : World) (n : Nat) (hn : n ≤ 5000000) : Go.Proofs.Ytombmeppdhhjhaa.TAt w.heap.size (.slice (some ⟨w.heap.size, 0, none⟩) 0 n) [] w (w.alloc (.cells (madeCells #[.string .empty] n) 9)) :=
  ⟨⟨rfl, .inr ⟨w.heap.size, n, madeCells #[.string .empty] n, rfl, Nat.le_refl _, heap_alloc_new w _, Nat.zero_le _, by unfold maxLen; omega, by rw [size_madeCells]; omega, rfl⟩⟩, below_new w _, rfl⟩
theorem room_run (w : World) (n : Nat) (hn : n ≤ 5000000) : (Instr.makeSlice 28 (.int .i64 0) (.int .i64 (n : Nat))).run Try.prog w = .ok (.slice (some ⟨w.heap.size, 0, none⟩) 0 n) (w.alloc (.cells (madeCells #[.string .empty] n) 9)) := by
  obtain ⟨i, hi, hz, hsize, hby⟩ := info_parts Try.infoStr
  have h := run_make (P := Try.prog) w 28 9 i (.string .empty) Try.underlying28 hi hz .i64 .i64 0 (n : Nat) (by omega) (by omega) (by rw [hby]; omega) (by omega)
  rw [hsize, Nat.mul_one] at h
  simpa [Value.cells] using h

set_option maxHeartbeats 2000000 in
set_option maxRecDepth 100000 in
theorem list_any (h : TIn p av gs S t w) (hG : Tr.Good t) (i : Int) :
    Calls Try.prog 64 #[.pointer (some ⟨p, 0, none⟩), .int .i64 i] w (LAns (Tr.list t i).1 (Tr.list t i).2 w) := by
  have HF := Lib.hid (find_any h i (by have := hG.few; omega))
  cases hf : Tr.find t i with
  | none =>
    rw [ptrOf_none (Tr.find_none.1 hf)] at HF
    have HN : Hid (Tr.list t i = ([], 20)) := by
      show _ = _
      unfold Tr.list
      rw [hf]; rfl
    clear h hG hf
    go_enter Try.func64, Try.ntmps64
    go_wp2_with fail
    refine HF.out.mono ?_
    rintro e w1 ⟨rfl, rfl⟩
    go_wp2_with fail
    go_ret2
    rw [HN.out]
    exact LAns.none _ (Below.refl _ _)
  | some en =>
    obtain ⟨g, S1, hp, hE, _, hnl⟩ := h.ptr hG hf
    rw [hp] at HF
    have c1 := hE.cells.2.1
    obtain ⟨ek, hek⟩ : ∃ ek, ek = en.nd.kind := ⟨_, rfl⟩
    rw [← hek] at c1
    by_cases h2 : ek = 2
    case neg =>
      have hk2 : (ek != 2) = true := by rw [bne_iff_ne]; exact h2
      have HN : Hid (Tr.list t i = ([], 23)) := by
        show _ = _
        unfold Tr.list
        rw [hf, if_neg (by simp), Tr.kindOf_of hf, if_pos (by rw [← hek]; exact h2)]
      clear h hG hf hE hp hek h2 hnl
      go_enter Try.func64, Try.ntmps64
      go_wp2_with fail
      refine HF.out.mono ?_
      rintro e w1 ⟨rfl, rfl⟩
      go_wp2_with fail
      go_ret2
      rw [HN.out]
      exact LAns.none _ (Below.refl _ _)
    case pos =>
      have HN : Hid (Tr.list t i = (en.names.map (·.1), 0)) := by
        show _ = _
        unfold Tr.list
        rw [hf, if_neg (by simp), Tr.kindOf_of hf, if_neg (by rw [← hek]; simp [h2]), Tr.kids_of hf]
      subst h2
      have hfew : en.names.length ≤ 5000000 := by omega
      obtain ⟨dv, nv, hE, rfl⟩ := hE
      have c7 : w.cell? ⟨g, 7, none⟩ = some nv := hE.box.cell 7
      obtain ⟨A7, k7, hv7, hk7, hA⟩ := hE.names.form
      subst hv7
      obtain ⟨l, hl⟩ : ∃ l, l = en.names := ⟨_, rfl⟩
      rw [← hl] at c7 hfew HN hA
      have HA := Lib.hid hA
      have hmk := room_run w l.length hfew
      have HROOM := Lib.hid (txts_room w l.length hfew)
      have HB0 : Hid (Below w.heap.size w (w.alloc (.cells (madeCells #[.string .empty] l.length) 9))) := below_new w _
      have c7' : (w.alloc (.cells (madeCells #[.string .empty] l.length) 9)).cell? ⟨g, 7, none⟩ = some (.slice A7 l.length k7) := (HB0.out.cell (p := ⟨g, 7, none⟩) hE.box.lt).trans c7
      clear h hG hf hE hp hek hnl hl hA hk7
      go_enter Try.func64, Try.ntmps64
      go_wp2_with fail
      refine HF.out.mono ?_
      rintro e w1 ⟨rfl, rfl⟩
      go_wp2_with fail
      clear hmk c7 c7' c1
      go_loopw [7, 32] (fun t7 t32 wr => ∃ j : Nat, t32 = .int .i64 j ∧ j ≤ l.length ∧ Hid (Go.Proofs.Ytombmeppdhhjhaa.TAt w1.heap.size t7 ((l.take j).map (·.1)) w1 wr)) (fun _ t32 _ => l.length - (match t32 with | .int _ k => k.toNat | _ => 0))
      case atStart => exact ⟨0, rfl, Nat.zero_le _, HROOM.out⟩
      case round =>
        obtain ⟨j, rfl, hj, HT⟩ := hrel
        by_cases hk : j < l.length
        · obtain ⟨n, hn⟩ : ∃ n, l[j]? = some n := ⟨_, List.getElem?_eq_getElem hk⟩
          obtain ⟨q, rfl, _, _, hql, hcell⟩ := HA.out (by omega)
          have hlow := HT.out.later
          have c1 : wr.cell? ⟨q, j * 2, none⟩ = some (.string (strOf n.1)) := (hlow.cell (p := ⟨q, j * 2, none⟩) hql).trans (hcell j n hn).1
          have c2 : wr.cell? ⟨q, j * 2 + 1, none⟩ = some (.int .i64 n.2) := (hlow.cell (p := ⟨q, j * 2 + 1, none⟩) hql).trans (hcell j n hn).2
          have hlt2 : (j : Int) < (l.length : Int) := by omega
          have htk : (l.take (j + 1)).map (·.1) = (l.take j).map (·.1) ++ [n.1] := by
            rw [List.take_succ_eq_append_getElem hk, List.map_append]
            rw [List.getElem?_eq_getElem hk] at hn
            injection hn with hn
            rw [hn]; rfl
          have HTK := Lib.hid htk
          have hll : ((l.take j).map (·.1)).length + [n.1].length ≤ 68719476736 := by
            rw [List.length_map, List.length_take]
            show _ + 1 ≤ _
            omega
          have HLL := Lib.hid hll
          obtain ⟨wc, hwc⟩ : ∃ wc, wc = wr.alloc (.cells #[.string (strOf n.1), .int .i64 n.2] 87) := ⟨_, rfl⟩
          have hbc : Below wr.heap.size wr wc := by rw [hwc]; exact below_new wr _
          have HBC : Hid (Below wr.heap.size wr (wc.alloc (.cells #[.string (strOf n.1)] 9))) := hbc.trans ((below_new wc _).mono hbc.size)
          have HRD : Hid (RdS (wc.alloc (.cells #[.string (strOf n.1)] 9)) (some ⟨wc.heap.size, 0, none⟩) [n.1]) := rds_one wc n.1 9
          rw [hwc] at HBC HRD
          rw [World.size_alloc] at HRD
          clear hn hcell hql hlow htk hll hbc hwc
          go_wp2_with (at_builtin; refine wpList_append_txts rfl (.tmp 36) (.tmp 39) rfl rfl HT.out HBC.out _ [n.1] 1 1 rfl rfl HRD.out HLL.out ?_; intro v2 w2 HO2 HG2)
          have HNX : Hid (Go.Proofs.Ytombmeppdhhjhaa.TAt w1.heap.size v2 ((l.take (j + 1)).map (·.1)) w1 w2) := by
            show Go.Proofs.Ytombmeppdhhjhaa.TAt _ _ _ _ _
            rw [HTK.out]; exact HO2.out
          clear HO2 HG2 HTK HLL HBC HRD
          go_roundw
          case rel => exact ⟨j + 1, by go_num, by omega, HNX.out⟩
          case measure => simp; omega
        · obtain rfl : j = l.length := by omega
          have HEND : Hid (Go.Proofs.Ytombmeppdhhjhaa.TAt w1.heap.size u7 (l.map (·.1)) w1 wr) := by
            have := HT.out
            rw [List.take_length] at this
            exact this
          go_wp2_with fail
          go_ret2
          rw [HN.out]
          exact ⟨_, rfl, HEND.out⟩
end Tm
end Go.Proofs.Ytombmeppdhhjhaa

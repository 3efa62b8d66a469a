/-
  OWN WORK. The program's disk: Dirty and Image.
-/
import Derived.Test.YtenedgapjbmpgaaDiCodeB
import Derived.Test.YtenedgapjbmpgaaBaNums
import Derived.Test.YtenedgapjbmpgaaDiSafeP
namespace Go.Proofs.Ytenedgapjbmpgaa
open Go.RowKit Rc Di

theorem drop_dirty (L : List Sec) (k : Nat) (hk : k < L.length) : (L.drop k).map Sec.dirty = L[k].dirty :: (L.drop (k + 1)).map Sec.dirty := by
  rw [List.drop_eq_getElem_cons hk, List.map_cons]
theorem dirty_in : ∀ (ds : List Bool) (j : Nat), ∀ x ∈ dirtyFrom j ds, (j : Int) ≤ x ∧ x < ((j + ds.length : Nat) : Int)
  | [], _, x, hx => by simp [dirtyFrom] at hx
  | true :: ds, j, x, hx => by
    simp only [dirtyFrom, List.mem_cons] at hx
    rcases hx with rfl | hx
    · simp only [List.length_cons]; omega
    · have := dirty_in ds (j + 1) x hx
      simp only [List.length_cons]; omega
  | false :: ds, j, x, hx => by
    have := dirty_in ds (j + 1) x hx
    simp only [List.length_cons]; omega
set_option maxHeartbeats 2000000 in
set_option maxRecDepth 100000 in
theorem dirty_to {p q c : Nat} {L : List Sec} {w : World} (h : DIn p q L c w) :
    Calls Try.prog 17 #[.pointer (some ⟨p, 0, none⟩)] w fun e w' => ∃ x, e = .returned x ∧ FreshI (dirtyFrom 0 (L.map Sec.dirty)) w x w' ∧ Below w.heap.size w w' := by
  obtain ⟨n, hn⟩ : ∃ n, n = L.length := ⟨_, rfl⟩
  have hn4 : n ≤ 4096 := by rw [hn]; exact h.hi
  have c0 := h.c0
  rw [← hn] at c0
  have HN := Lib.hid hn
  have HH := Lib.hid h
  have HSTART : Hid (∃ l, IAt w.heap.size (.slice none 0 0) l w w ∧ l ++ dirtyFrom 0 ((L.drop 0).map Sec.dirty) = dirtyFrom 0 (L.map Sec.dirty) ∧ l.length ≤ 0) := ⟨[], IAt.nil w, rfl, Nat.le_refl _⟩
  clear h hn
  go_enter Try.func17, Try.ntmps17
  go_wp2_with fail
  go_loopw [3, 10] (fun t3 t10 wr => ∃ k : Nat, k ≤ n ∧ t10 = .int .i64 (k : Nat) ∧ Hid (∃ l, IAt w.heap.size t3 l w wr ∧ l ++ dirtyFrom k ((L.drop k).map Sec.dirty) = dirtyFrom 0 (L.map Sec.dirty) ∧ l.length ≤ k)) (fun _ t10 _ => n - (intOf t10).toNat)
  case atStart => exact ⟨0, by omega, rfl, HSTART⟩
  case round =>
    clear HSTART c0
    obtain ⟨k, hk, rfl, HR⟩ := hrel
    obtain ⟨l, hI, hl, hlk⟩ := HR.out
    obtain ⟨X, cc, rfl⟩ := hI.form
    have HI := Lib.hid hI
    have HL := Lib.hid hl
    have HD := HH.out.below hI.2.1
    have c0 := HD.c0
    rw [← HN.out] at c0
    clear HR hI hl
    by_cases hlt : k < n
    · have hkL : k < L.length := by rw [← HN.out]; exact hlt
      have cd := HD.dirty_at k hkL
      have hdr := drop_dirty L k hkL
      obtain ⟨d, hd⟩ : ∃ d, d = L[k].dirty := ⟨_, rfl⟩
      rw [← hd] at cd hdr
      have HDR := Lib.hid hdr
      clear hd hdr HD
      cases d with
      | false =>
        have HNEXT : Hid (∃ l2, IAt w.heap.size (.slice X l.length cc) l2 w wr ∧ l2 ++ dirtyFrom (k + 1) ((L.drop (k + 1)).map Sec.dirty) = dirtyFrom 0 (L.map Sec.dirty) ∧ l2.length ≤ k + 1) := by
          refine ⟨l, HI.out, ?_, by omega⟩
          have := HL.out
          rw [HDR.out] at this
          exact this
        go_wp2_with fail
        go_roundw
        case rel => exact ⟨k + 1, by omega, by go_num, HNEXT⟩
        case measure => simp [intOf]; omega
      | true =>
        go_wp2_with (at_builtin; refine wpList_append_num rfl (.tmp 21) (.tmp 23) rfl (k : Int) rfl HI.out wr.heap.size 3 rfl rfl rfl (by omega) ?_; intro v' w' HI2)
        have HNEXT : Hid (∃ l, IAt w.heap.size v' l w w' ∧ l ++ dirtyFrom (k + 1) ((L.drop (k + 1)).map Sec.dirty) = dirtyFrom 0 (L.map Sec.dirty) ∧ l.length ≤ k + 1) := by
          refine ⟨l ++ [(k : Int)], HI2.out, ?_, by rw [List.length_append, List.length_singleton]; omega⟩
          have := HL.out
          rw [HDR.out] at this
          rw [List.append_assoc]
          exact this
        clear HI2
        go_roundw
        case rel => exact ⟨k + 1, by omega, by go_num, HNEXT⟩
        case measure => simp [intOf]; omega
    · obtain rfl : k = n := by omega
      have HEND : Hid (FreshI (dirtyFrom 0 (L.map Sec.dirty)) w (.slice X l.length cc) wr ∧ Below w.heap.size w wr) := by
        have e : l = dirtyFrom 0 (L.map Sec.dirty) := by
          have := HL.out
          rw [HN.out, List.drop_length, List.map_nil] at this
          simpa [dirtyFrom] using this
        refine ⟨?_, HI.out.2.1⟩
        rw [← e]
        refine HI.out.fresh fun x hx => ?_
        rw [e] at hx
        have := dirty_in _ _ x hx
        rw [List.length_map, ← HN.out] at this
        omega
      go_wp2_with fail
      go_ret
      exact ⟨_, rfl, HEND.out⟩
def nows (L : List Sec) : List UInt8 := (L.map Sec.now).flatten
theorem nows_take (L : List Sec) (k : Nat) (hk : k < L.length) : nows (L.take (k + 1)) = nows (L.take k) ++ L[k].now := by
  unfold nows
  rw [List.take_succ_eq_append_getElem hk, List.map_append, List.flatten_append]
  simp
theorem nows_len (L : List Sec) (h : ∀ s ∈ L, s.Ok) : (nows L).length = 128 * L.length := by
  unfold nows
  rw [flat_length _ (fun x hx => by obtain ⟨s, hs, rfl⟩ := List.mem_map.1 hx; exact (h s hs).now), List.length_map]
set_option maxHeartbeats 2000000 in
set_option maxRecDepth 100000 in
theorem image_to {p q c : Nat} {L : List Sec} {w : World} (h : DIn p q L c w) :
    Calls Try.prog 14 #[.pointer (some ⟨p, 0, none⟩)] w fun e w' => ∃ x, e = .returned x ∧ Ob.Fresh (nows L) w x w' ∧ Below w.heap.size w w' := by
  obtain ⟨n, hn⟩ : ∃ n, n = L.length := ⟨_, rfl⟩
  have hn4 : n ≤ 4096 := by rw [hn]; exact h.hi
  obtain ⟨i0, hi, hz0, hz1, hz2⟩ := info_parts Try.infoU8
  have HI0 := Lib.hid hi
  have HZ0 := Lib.hid hz0
  have HZ1 := Lib.hid hz1
  have HZ2 := Lib.hid hz2
  have c0 := h.c0
  rw [← hn] at c0
  have HN := Lib.hid hn
  have HH := Lib.hid h
  have hall := arr_all
  clear h hn hi hz0 hz1 hz2
  go_enter Try.func14, Try.ntmps14
  go_upto_region 2 with (first
    | (at_make; refine wpList_make_own _ rfl _ _ 27 rfl w.heap.size 5 i0 (.int .u8 0) 1 Try.underlying27 HI0.out HZ0.out HZ1.out .i64 .i64 _ (n * 128) rfl rfl (by omega) (by rw [HZ2.out]; omega) (by unfold maxLen; omega) (Nat.le_refl _) ?_; intro w0 hown0 hgrow0))
  have HM0 : Hid (MAt w.heap.size (.slice (some ⟨w.heap.size, 0, none⟩) 0 (n * 128)) [] w w0) := ⟨hown0, (Below.refl _ _).grown hgrow0 (Nat.le_refl _) (fun k hk => by cases hk), rfl⟩
  have c00 := (HH.out.below HM0.out.2.1).c0
  rw [← HN.out] at c00
  clear hown0 hgrow0 c0
  go_wp2_with fail
  go_loopw [3, 17] (fun t3 t17 wr => ∃ k : Nat, k ≤ n ∧ t17 = .int .i64 (k : Nat) ∧ Hid (MAt w.heap.size t3 (nows (L.take k)) w wr)) (fun _ t17 _ => n - (intOf t17).toNat)
  case atStart => exact ⟨0, by omega, rfl, HM0⟩
  case round =>
    clear HM0 c00
    obtain ⟨k, hk, rfl, HR⟩ := hrel
    obtain ⟨X, cc, rfl, _, _⟩ := row_form HR.out.1
    have HD := Lib.hid (HH.out.below HR.out.2.1)
    have c0 := HD.out.c0
    rw [← HN.out] at c0
    by_cases hlt : k < n
    · have hkL : k < L.length := by rw [← HN.out]; exact hlt
      have HRD : Hid (Rd wr (some ⟨q, k * 257, none⟩) L[k].now) := HD.out.now_at k hkL
      have HLL : Hid (L[k].now.length = 128) := (HH.out.ok _ (List.getElem_mem hkL)).now
      have HLEN : Hid ((nows (L.take k)).length + L[k].now.length ≤ 1099511627776) := by
        show _ ≤ _
        rw [nows_len _ (fun s hs => HH.out.ok s (List.mem_of_mem_take hs)), HLL.out, List.length_take]; omega
      have HSZ : Hid (w.heap.size ≤ wr.heap.size) := HR.out.2.1.size
      go_wp2_with (at_builtin; refine wpList_append_rd rfl (.tmp 20) (.tmp 28) 27 rfl w.heap.size 5 i0 Try.underlying27 HI0.out HZ0.out HZ1.out HZ2.out _ (nows (L.take k)).length (Lib.byteCells (nows (L.take k))) rfl HR.out.1 (some ⟨q, k * 257, none⟩) L[k].now 128 128 HLL.out rfl HRD.out HLEN.out HSZ.out ?_; intro v1 w1 HO1 HG1)
      have HNEXT : Hid (MAt w.heap.size v1 (nows (L.take (k + 1))) w w1) := by
        rw [nows_take L k hkL]
        exact HR.out.push (Below.refl _ _) HO1.out HG1.out
      clear HO1 HG1
      go_roundw
      case rel => exact ⟨k + 1, by omega, by go_num, HNEXT⟩
      case measure => simp [intOf]; omega
    · obtain rfl : k = n := by omega
      have HEND : Hid (Ob.Fresh (nows L) w (.slice X (nows (L.take k)).length cc) wr ∧ Below w.heap.size w wr) := by
        have := HR.out
        have e : L.take k = L := by rw [HN.out, List.take_length]
        rw [e] at this ⊢
        exact ⟨Ob.Fresh.of_own this.1 rfl, this.2.1⟩
      go_wp2_with fail
      go_ret
      exact ⟨_, rfl, HEND.out⟩
end Go.Proofs.Ytenedgapjbmpgaa

/-
  OWN WORK. The program's disk: Write and Flush.
-/
import Derived.Test.YtenedgapjbmpgaaDiCodeA
import Derived.Test.YtenedgapjbmpgaaDiRefW
namespace Go.Proofs.Ytenedgapjbmpgaa
open Go.RowKit Rc Di

theorem map_set_same {α β : Type} (f : α → β) (L : List α) (k : Nat) (hk : k < L.length) (s : α) (h : f s = f L[k]) : (L.set k s).map f = L.map f := by
  rw [List.map_set, h, ← List.getElem_map f (h := by rw [List.length_map]; exact hk), List.set_getElem_self]
theorem dk_write (L : List Sec) (wr k : Nat) (hk : k < L.length) (b : List UInt8) : dk (L.set k ⟨b, L[k].safe, true⟩) (wr + 1) = (dk L wr).put k b := by
  unfold dk Dk.put
  rw [map_set_same Sec.safe L k hk ⟨b, L[k].safe, true⟩ rfl]
  simp only [List.map_set]
set_option maxHeartbeats 2000000 in
set_option maxRecDepth 100000 in
theorem write_to {p q wr : Nat} {L : List Sec} {w : World} (h : DIn p q L wr w) (hw : wr ≤ 1000000) (i : Int) (A : Option Addr) (b : List UInt8) (cap : Nat) (hi0 : -9223372036854775808 ≤ i) (hi1 : i ≤ 9223372036854775807) (hk : Ob.Kept w (On p q) A b) (hc : b.length ≤ cap) (hl : b.length ≤ 140737488351232) :
    Calls Try.prog 19 #[.pointer (some ⟨p, 0, none⟩), .int .i64 i, .slice A b.length cap] w fun e w' => e = .returned (.int .i64 (((dk L wr).write i b).1 : Nat)) ∧ ∃ M wr', DIn p q M wr' w' ∧ dk M wr' = ((dk L wr).write i b).2 ∧ Mod w w' (On p q) := by
  have H := Lib.hid h
  have c0 := h.c0
  have hn := h.hi
  by_cases hgood : (0 ≤ i ∧ i < (L.length : Int)) ∧ b.length = 128
  · obtain ⟨hg, hb128⟩ := hgood
    obtain ⟨k, rfl⟩ : ∃ k : Nat, i = (k : Int) := ⟨i.toNat, by omega⟩
    have hkn : k < L.length := by omega
    have hwr : (dk L wr).write (k : Int) b = (0, (dk L wr).put k b) := by
      unfold Dk.write
      rw [if_pos ⟨(dk_has L wr k).2 hg, hb128⟩, Int.toNat_natCast]
    rw [hwr]
    obtain ⟨hbl, hpl⟩ := h.parts k hkn
    have hs := h.ok _ (List.getElem_mem hkn)
    have hcl := hs.cells
    obtain ⟨w1, hcp, hb1, hk1⟩ := copy_in w q 58 (k * 257) 128 128 128 cap b.length _ hbl b A hk.1 rfl (by rw [hb128]; rfl) (by simp only [List.length_append, hpl, hcl]; omega)
    have e1 : splice (secs (L.take k) ++ (L[k].cells ++ secs (L.drop (k + 1)))) (k * 257) (Lib.byteCells (b.take 128)) = secs (L.take k) ++ ((⟨b, L[k].safe, L[k].dirty⟩ : Sec).cells ++ secs (L.drop (k + 1))) := by
      rw [show b.take 128 = b from List.take_of_length_le (by omega)]
      exact (splice_mid (secs (L.take k)) L[k].cells (secs (L.drop (k + 1))) (Lib.byteCells b) (k * 257) 0 hpl (by rw [Lib.byteCells_length, hcl]; omega)).trans (by rw [splice_now L[k].now L[k].safe L[k].dirty b hs.now hb128])
    rw [e1] at hb1
    have hc1 : (⟨b, L[k].safe, L[k].dirty⟩ : Sec).cells.length = 257 := by
      unfold Sec.cells
      rw [List.length_append, List.length_append, Lib.byteCells_length, Lib.byteCells_length, hb128, hs.safe]; rfl
    have cd : ∃ y, w1.cell? ⟨q, k * 257 + 256, none⟩ = some (.bool y) := by
      refine ⟨L[k].dirty, ?_⟩
      rw [hb1.cell, List.getElem?_append_right (by omega), hpl, Nat.add_sub_cancel_left, List.getElem?_append_left (by omega)]
      unfold Sec.cells
      rw [List.getElem?_append_right (by rw [Lib.byteCells_length, hb128]; omega), Lib.byteCells_length, hb128, List.getElem?_append_right (by rw [Lib.byteCells_length, hs.safe]; omega), Lib.byteCells_length, hs.safe]
      rfl
    obtain ⟨y, cd⟩ := cd
    have fd : w1.frozen? ⟨q, k * 257 + 256, none⟩ = false := hb1.frozen _
    have hb2 := hb1.set_ (k * 257 + 256) (.bool true)
    rw [set_mid _ _ _ _ 256 _ hpl (by omega), set_dirty b L[k].safe L[k].dirty true hb128 hs.safe] at hb2
    have hk2 : Keeps w (w1.setCell ⟨q, k * 257 + 256, none⟩ (.bool true)) q := hk1.setCell _ _
    have hD := h.turn hkn (s := ⟨b, L[k].safe, true⟩) ⟨hb128, hs.safe, fun h => by cases h⟩ hb2 hk2
    have c1 : (w1.setCell ⟨q, k * 257 + 256, none⟩ (.bool true)).cell? ⟨p, 1, none⟩ = some (.int .i64 (wr : Nat)) := hD.c1
    have f1 : (w1.setCell ⟨q, k * 257 + 256, none⟩ (.bool true)).frozen? ⟨p, 1, none⟩ = false := hD.box.frozen 1
    have HEND : Hid (∃ M wr', DIn p q M wr' ((w1.setCell ⟨q, k * 257 + 256, none⟩ (.bool true)).setCell ⟨p, 1, none⟩ (.int .i64 ((wr : Nat) + 1))) ∧ dk M wr' = (dk L wr).put k b ∧ Mod w ((w1.setCell ⟨q, k * 257 + 256, none⟩ (.bool true)).setCell ⟨p, 1, none⟩ (.int .i64 ((wr : Nat) + 1))) (On p q)) := by
      refine ⟨L.set k ⟨b, L[k].safe, true⟩, wr + 1, ⟨?_, hD.row.far (p := ⟨p, 1, none⟩) (fun e => h.ne e.symm) _, h.ne, hD.ok, hD.lo, hD.hi⟩, dk_write L wr k hkn b, ?_⟩
      · exact hD.box.set_ 1 (.int .i64 ((wr : Nat) + 1))
      · have m1 := (mod_keeps hk2).mono (Y := On p q) (fun b _ hb => .inr hb)
        have m2 := (mod_keeps ((Keeps.refl (w1.setCell ⟨q, k * 257 + 256, none⟩ (.bool true)) p).setCell 1 (.int .i64 ((wr : Nat) + 1)))).mono (Y := On p q) (fun b _ hb => .inl hb)
        exact m1.trans m2
    have c0w : w1.cell? ⟨p, 0, none⟩ = some (.slice (some ⟨q, 0, none⟩) L.length L.length) := by
      have := (hk1.block p h.box.lt (fun e => h.ne (by injection e)))
      exact (World.cell?_of_block (a := ⟨p, 0, none⟩) this).trans h.c0
    have HB := has_to h (k : Int) hi0 hi1
    rw [decide_eq_true hg] at HB
    have HBB := Lib.hid HB
    have hall := arr_all
    have hb1' : (k : Int) < (L.length : Int) := hg.2
    have hbi : (b.length : Int) = 128 := by omega
    clear hg hwr hbl hpl hs hcl e1 hb1 hk1 hc1 hb2 hk2 hD HB h hk hb128
    go_enter Try.func19, Try.ntmps19
    go_wp2_with fail
    refine HBB.out.mono ?_
    rintro e w1 ⟨rfl, rfl⟩
    go_wp2_with fail
    go_ret
    exact ⟨rfl, HEND.out⟩
  · have hwr : (dk L wr).write i b = (1, dk L wr) := by
      unfold Dk.write
      rw [if_neg (fun h => hgood ⟨(dk_has L wr i).1 h.1, h.2⟩)]
    rw [hwr]
    have HEND : Hid (∃ M wr', DIn p q M wr' w ∧ dk M wr' = dk L wr ∧ Mod w w (On p q)) := ⟨L, wr, h, rfl, Mod.refl _ _⟩
    clear hwr
    by_cases hg : 0 ≤ i ∧ i < (L.length : Int)
    · have hb4 : (b.length : Int) ≠ 128 := fun e => hgood ⟨hg, by omega⟩
      have HB := has_to h i hi0 hi1
      rw [decide_eq_true hg] at HB
      have HBB := Lib.hid HB
      clear HB h hk hgood hg
      go_enter Try.func19, Try.ntmps19
      go_wp2_with fail
      refine HBB.out.mono ?_
      rintro e w1 ⟨rfl, rfl⟩
      go_wp2_with fail
      go_ret
      exact ⟨rfl, HEND.out⟩
    · have HB := has_to h i hi0 hi1
      rw [decide_eq_false hg] at HB
      have HBB := Lib.hid HB
      clear HB h hk hgood hg
      go_enter Try.func19, Try.ntmps19
      go_wp2_with fail
      refine HBB.out.mono ?_
      rintro e w1 ⟨rfl, rfl⟩
      go_wp2_with fail
      go_ret
      exact ⟨rfl, HEND.out⟩
/-! Flush. -/
def Sec.flush (s : Sec) : Sec := if s.dirty then s.settle 128 else s
def mid (k : Nat) (f : Sec → Sec) (L : List Sec) : List Sec := (L.take k).map f ++ L.drop k
theorem mid_length (k : Nat) (f : Sec → Sec) (L : List Sec) (hk : k ≤ L.length) : (mid k f L).length = L.length := by
  unfold mid; rw [List.length_append, List.length_map, List.length_take, List.length_drop]; omega
theorem mid_at (k : Nat) (f : Sec → Sec) (L : List Sec) (hk : k < L.length) (h : k < (mid k f L).length) : (mid k f L)[k] = L[k] := by
  have e : (mid k f L)[k]? = L[k]? := by
    unfold mid
    rw [List.getElem?_append_right (by rw [List.length_map, List.length_take]; omega), List.length_map, List.length_take, Nat.min_eq_left (by omega), Nat.sub_self, List.getElem?_drop, Nat.add_zero]
  rw [List.getElem?_eq_getElem h, List.getElem?_eq_getElem hk] at e
  exact Option.some.inj e
theorem mid_step (k : Nat) (f : Sec → Sec) (L : List Sec) (hk : k < L.length) : mid (k + 1) f L = (mid k f L).set k (f L[k]) := by
  unfold mid
  rw [List.set_append_right _ _ (by rw [List.length_map, List.length_take]; omega), List.length_map, List.length_take, Nat.min_eq_left (by omega), Nat.sub_self, List.drop_eq_getElem_cons hk, List.set_cons_zero, List.take_succ_eq_append_getElem hk, List.map_append]
  simp
theorem mid_all (f : Sec → Sec) (L : List Sec) : mid L.length f L = L.map f := by simp [mid]
theorem settle_all {s : Sec} (hs : s.Ok) : s.settle 128 = ⟨s.now, s.now, false⟩ := by
  unfold Sec.settle
  rw [List.take_of_length_le (by rw [hs.now]; omega), List.drop_of_length_le (by rw [hs.safe]; omega), List.append_nil]
theorem flush_dk (L : List Sec) (wr : Nat) (h : ∀ s ∈ L, s.Ok) : dk (L.map Sec.flush) wr = (dk L wr).flush := by
  unfold dk Dk.flush
  simp only [List.map_map, List.length_map]
  have e1 : ∀ s ∈ L, s.flush = ⟨s.now, s.now, false⟩ := fun s hs => by
    unfold Sec.flush
    cases hd : s.dirty with
    | true => rw [if_pos rfl]; exact settle_all (h s hs)
    | false =>
      rw [if_neg (by simp)]
      have := (h s hs).same hd
      obtain ⟨a, b, c⟩ := s
      simp only at this hd
      rw [← this, hd]
  congr 1
  · exact List.map_congr_left fun s hs => by simp [e1 s hs]
  · exact List.map_congr_left fun s hs => by simp [e1 s hs]
  · rw [List.eq_replicate_iff]
    refine ⟨by simp, fun x hx => ?_⟩
    obtain ⟨s, hs, rfl⟩ := List.mem_map.1 hx
    simp [e1 s hs]
def Turned (p q : Nat) (w : World) (st : Dk) (w' : World) : Prop := ∃ M wr', DIn p q M wr' w' ∧ dk M wr' = st ∧ Mod w w' (On p q)
set_option maxHeartbeats 2000000 in
set_option maxRecDepth 100000 in
theorem flush_to {p q c : Nat} {L : List Sec} {w : World} (h : DIn p q L c w) :
    Calls Try.prog 21 #[.pointer (some ⟨p, 0, none⟩)] w fun e w' => e = .returned (.tuple #[]) ∧ Turned p q w (dk L c).flush w' := by
  obtain ⟨n, hn⟩ : ∃ n, n = L.length := ⟨_, rfl⟩
  have hn4 : n ≤ 4096 := by rw [hn]; exact h.hi
  have c0 := h.c0
  rw [← hn] at c0
  have HN := Lib.hid hn
  have HSTART : Hid (DIn p q (mid 0 Sec.flush L) c w ∧ Mod w w (On p q)) := ⟨by simpa [mid] using h, Mod.refl _ _⟩
  have HOK := Lib.hid h.ok
  clear h hn
  go_enter Try.func21, Try.ntmps21
  go_wp2_with fail
  go_loopw [8] (fun t8 wr => ∃ k : Nat, k ≤ n ∧ t8 = .int .i64 (k : Nat) ∧ Hid (DIn p q (mid k Sec.flush L) c wr ∧ Mod w wr (On p q))) (fun t8 _ => n - (intOf t8).toNat)
  case atStart => exact ⟨0, by omega, rfl, HSTART⟩
  case round =>
    clear HSTART c0
    obtain ⟨k, hk, rfl, HR⟩ := hrel
    have hml : (mid k Sec.flush L).length = n := by rw [mid_length k _ L (by rw [← HN.out]; exact hk), HN.out]
    have c0 := HR.out.1.c0
    rw [hml] at c0
    by_cases hlt : k < n
    · have hkL : k < L.length := by rw [← HN.out]; exact hlt
      have hkM : k < (mid k Sec.flush L).length := by rw [hml]; exact hlt
      have cd := HR.out.1.dirty_at k hkM
      rw [mid_at k _ L hkL hkM] at cd
      obtain ⟨d, hd⟩ : ∃ d, d = L[k].dirty := ⟨_, rfl⟩
      rw [← hd] at cd
      have HD := Lib.hid hd
      clear hd hml
      cases d with
      | false =>
        have HNEXT : Hid (DIn p q (mid (k + 1) Sec.flush L) c wr ∧ Mod w wr (On p q)) := by
          refine ⟨?_, HR.out.2⟩
          have e : Sec.flush L[k] = (mid k Sec.flush L)[k] := by
            rw [mid_at k _ L hkL hkM]; unfold Sec.flush; rw [← HD.out, if_neg (by simp)]
          rw [mid_step k _ L hkL, e, List.set_getElem_self]
          exact HR.out.1
        go_wp2_with fail
        go_roundw
        case rel => exact ⟨k + 1, by omega, by go_num, HNEXT⟩
        case measure => simp [intOf]; omega
      | true =>
        have HST := Lib.hid (settle_at HR.out.1 k hkM 128 (Nat.le_refl _))
        go_wp2_with fail
        refine HST.out.mono ?_
        rintro e w2 ⟨rfl, hd2, hk2⟩
        have HNEXT : Hid (DIn p q (mid (k + 1) Sec.flush L) c w2 ∧ Mod w w2 (On p q)) := by
          refine ⟨?_, HR.out.2.trans ((mod_keeps hk2).mono (fun b _ hb => .inr hb))⟩
          rw [mid_at k _ L hkL hkM] at hd2
          rw [mid_step k _ L hkL]
          have e : Sec.flush L[k] = L[k].settle 128 := by unfold Sec.flush; rw [← HD.out, if_pos rfl]
          rw [e]; exact hd2
        clear hd2 hk2 HST
        go_wp2_with fail
        go_roundw
        case rel => exact ⟨k + 1, by omega, by go_num, HNEXT⟩
        case measure => simp [intOf]; omega
    · obtain rfl : k = n := by omega
      have HEND : Hid (Turned p q w (dk L c).flush wr) := by
        refine ⟨L.map Sec.flush, c, ?_, flush_dk L c HOK.out, HR.out.2⟩
        have := HR.out.1
        rw [HN.out, mid_all] at this
        exact this
      go_wp2_with fail
      refine bodyPost_end (results_none rfl _ _ _) rfl ?_
      exact ⟨rfl, HEND.out⟩
end Go.Proofs.Ytenedgapjbmpgaa

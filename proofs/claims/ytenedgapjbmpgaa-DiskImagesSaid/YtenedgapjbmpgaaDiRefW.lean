/-
  OWN WORK. The document's disk: Write, by its contract.
-/
import Derived.Test.YtenedgapjbmpgaaDiRefP
namespace Go.Proofs.Ytenedgapjbmpgaa
open Go.RowKit Rc Di

theorem mod_keeps {w w' : World} {g : Nat} (h : Keeps w w' g) : Mod w w' (fun b => b = g) := ⟨h.os, h.tape, h.output, h.size, fun k hk hn => h.block k hk (fun e => hn (by injection e))⟩
/-- A row is copied into a block of bytes. -/
theorem copy_row (w : World) (gn off : Nat) (cur : List UInt8) (hcur : Blk w gn 5 (Lib.byteCells cur)) (L : List UInt8) (A : Option Addr) (cap dLen dCap m : Nat) (hr : Rd w A L) (hm : L.length = m) (hd : m ≤ dLen) (hfit : off + m ≤ cur.length) :
    ∃ w', (Builtin.copy_ #[27, 27] 3 #[.slice (some ⟨gn, off, none⟩) dLen dCap, .slice A L.length cap]).run Try.prog w = .ok (.int .i64 (m : Nat)) w' ∧ Blk w' gn 5 (Lib.byteCells (cur.take off ++ (L ++ cur.drop (off + m)))) ∧ Keeps w w' gn := by
  subst hm
  have hbl : (Lib.byteCells L).length = L.length := Lib.byteCells_length L
  obtain ⟨w', h1, h2, h3⟩ := run_copy_keep (P := Try.prog) w 27 27 3 5 Try.underlying27 (by kernel_rfl) (some ⟨gn, off, none⟩) A dLen dCap L.length cap gn off (Lib.byteCells cur) 5 hcur (Lib.byteCells L) (by rw [hbl]; exact (Nat.min_eq_left hd).symm)
    (fun h0 => ⟨rfl, by
      obtain ⟨b, o, rfl, _, hc⟩ := hr (by omega)
      refine ⟨_, rfl, fun j v hj => ?_⟩
      rw [add_plain]
      simp only [Lib.byteCells, List.getElem?_map, Option.map_eq_some_iff] at hj
      obtain ⟨x, hx, rfl⟩ := hj
      exact hc j x hx⟩) (by rw [hbl, Lib.byteCells_length]; exact hfit) (bytes_one L)
  refine ⟨w', by rw [h1, hbl]; rfl, ?_, h3⟩
  have e : splice (Lib.byteCells cur) off (Lib.byteCells L) = Lib.byteCells (cur.take off ++ (L ++ cur.drop (off + L.length))) := by
    unfold splice
    rw [hbl]
    simp [Lib.byteCells]
  rw [← e]; exact h2
set_option maxHeartbeats 2000000 in
set_option maxRecDepth 100000 in
theorem refWrite_any {N : Nat} {v : Value} {st : Dk} {S : Nat → Prop} {w : World} (h : RefAt N v st S w) (hw : st.writes ≤ 1000000) (i : Int) (A : Option Addr) (L : List UInt8) (cap : Nat) (hi0 : -9223372036854775808 ≤ i) (hi1 : i ≤ 9223372036854775807) (hk : Ob.Kept w S A L) (hc : L.length ≤ cap) (hl : L.length ≤ 140737488351232) :
    Calls Try.prog 27 #[v, .int .i64 i, .slice A L.length cap] w (Ob.Turns (refObj N) v (st.write i L).2 (.int .i64 ((st.write i L).1 : Nat)) S w) := by
  have HH := Lib.hid h
  obtain ⟨g, gs, gn, gd, rfl, h1, h2, h3, h4, ⟨n1, n2, n3, n4, n5, n6⟩, hok, hS, hNN⟩ := h
  have HNN : Hid (gn = N) := hNN
  clear hNN
  have cd0 : w.cell? ⟨g, 2, none⟩ = some (.slice (some ⟨gd, 0, none⟩) st.dirty.length st.dirty.length) := h1.cell 2
  have cn0 : w.cell? ⟨g, 1, none⟩ = some (.slice (some ⟨gn, 0, none⟩) (128 * st.dirty.length) (128 * st.dirty.length)) := h1.cell 1
  by_cases hgood : st.has i ∧ L.length = 128
  · obtain ⟨hh, hl128⟩ := hgood
    obtain ⟨k, rfl⟩ : ∃ k : Nat, i = (k : Int) := ⟨i.toNat, by have := hh.1; omega⟩
    have hkn : k < st.dirty.length := by have := hh.2; omega
    rw [Dk.write_to st k L hkn hl128]
    obtain ⟨n, hn⟩ : ∃ n, n = st.dirty.length := ⟨_, rfl⟩
    have hn4 : n ≤ 4096 := by rw [hn]; exact hok.hi
    rw [← hn] at cd0 cn0 hkn
    have HN := Lib.hid hn
    have H1 := Lib.hid h1
    have H2 := Lib.hid h2
    have H3 := Lib.hid h3
    have H4 := Lib.hid h4
    have HOK := Lib.hid hok
    have HS := Lib.hid hS
    have HK := Lib.hid hk
    have N1 := Lib.hid n1
    have N2 := Lib.hid n2
    have N3 := Lib.hid n3
    have N4 := Lib.hid n4
    have N5 := Lib.hid n5
    have N6 := Lib.hid n6
    have HL := Lib.hid hl128
    have hlb : (L.length : Int) = 128 := by omega
    clear h1 h2 h3 h4 hok hS hk n1 n2 n3 n4 n5 n6 hn hh hl128 HH
    obtain ⟨w1, hcp, hb1, hkp⟩ := copy_row w gn (k * 128) st.now.flatten H3.out L A cap (128 * n - k * 128) (128 * n - k * 128) 128 HK.out.1 HL.out (by omega) (by rw [flat_length _ HOK.out.snow, HOK.out.now, ← HN.out]; omega)
    have e1 : st.now.flatten.take (k * 128) ++ (L ++ st.now.flatten.drop (k * 128 + 128)) = (st.now.set k L).flatten := by
      rw [flat_set _ _ _ HOK.out.snow (by rw [HOK.out.now, ← HN.out]; exact hkn) HL.out, Nat.mul_comm 128 k]
    rw [e1] at hb1
    have keep1 : ∀ x, x ≠ gn → x < w.heap.size → w1.heap[x]? = w.heap[x]? := fun x hx hlt => hkp.block x hlt (fun e => hx (by injection e))
    have H1b : Hid (Blk w1 g 38 [.slice (some ⟨gs, 0, none⟩) (128 * n) (128 * n), .slice (some ⟨gn, 0, none⟩) (128 * n) (128 * n), .slice (some ⟨gd, 0, none⟩) n n, .int .i64 (st.writes : Nat)]) := by
      show _ = _
      rw [keep1 g N2.out H1.out.lt, HN.out]; exact H1.out
    have H2b : Hid (Blk w1 gs 5 (Lib.byteCells st.safe.flatten)) := (keep1 gs N4.out H2.out.lt).trans H2.out
    have H3b : Hid (Blk w1 gn 5 (Lib.byteCells (st.now.set k L).flatten)) := hb1
    have H4b : Hid (Blk w1 gd 4 (st.dirty.map .bool)) := (keep1 gd (fun e => N6.out e.symm) H4.out.lt).trans H4.out
    have HM1 := Lib.hid (mod_keeps hkp)
    have cd1 : w1.cell? ⟨g, 2, none⟩ = some (.slice (some ⟨gd, 0, none⟩) n n) := H1b.out.cell 2
    have cd2 : ∃ y, w1.cell? ⟨gd, k, none⟩ = some (.bool y) := by
      refine ⟨st.dirty[k]'(by rw [← HN.out]; exact hkn), ?_⟩
      rw [H4b.out.cell, List.getElem?_map, List.getElem?_eq_getElem (by rw [← HN.out]; exact hkn)]
      rfl
    obtain ⟨y, cd2⟩ := cd2
    have fd2 : w1.frozen? ⟨gd, k, none⟩ = false := H4b.out.frozen k
    have H1c := Lib.hid (H1b.out.far (p := ⟨gd, k, none⟩) N3.out (.bool true))
    have cg3 : (w1.setCell ⟨gd, k, none⟩ (.bool true)).cell? ⟨g, 3, none⟩ = some (.int .i64 (st.writes : Nat)) := H1c.out.cell 3
    have fg3 : (w1.setCell ⟨gd, k, none⟩ (.bool true)).frozen? ⟨g, 3, none⟩ = false := H1c.out.frozen 3
    have HEND : Hid (RefAt N (.pointer (some ⟨g, 0, none⟩)) (st.put k L) S ((w1.setCell ⟨gd, k, none⟩ (.bool true)).setCell ⟨g, 3, none⟩ (.int .i64 ((st.writes : Nat) + 1)))) := by
      refine ⟨g, gs, gn, gd, rfl, ?_, ?_, ?_, ?_, ⟨N1.out, N2.out, N3.out, N4.out, N5.out, N6.out⟩, HOK.out.put k L HL.out, HS.out, HNN.out⟩
      · have := H1c.out.set_ 3 (.int .i64 ((st.writes : Nat) + 1))
        rw [put_dirty, ← HN.out]
        exact this
      · exact (H2b.out.far (p := ⟨gd, k, none⟩) N5.out _).far (p := ⟨g, 3, none⟩) (fun e => N1.out e.symm) _
      · exact (H3b.out.far (p := ⟨gd, k, none⟩) N6.out _).far (p := ⟨g, 3, none⟩) (fun e => N2.out e.symm) _
      · have := (H4b.out.set_ k (.bool true)).far (p := ⟨g, 3, none⟩) (fun e => N3.out e.symm) (.int .i64 ((st.writes : Nat) + 1))
        have e : (st.dirty.map Value.bool).set k (.bool true) = (st.dirty.set k true).map Value.bool := by rw [List.map_set]
        rw [e] at this
        exact this
    have HMOD : Hid (Mod w ((w1.setCell ⟨gd, k, none⟩ (.bool true)).setCell ⟨g, 3, none⟩ (.int .i64 ((st.writes : Nat) + 1))) S) := by
      have m1 := HM1.out.mono (Y := S) (fun b _ hb => by rw [HS.out]; exact .inr (.inr (.inl hb)))
      have m2 := (mod_keeps ((Keeps.refl w1 gd).setCell k (.bool true))).mono (Y := S) (fun b _ hb => by rw [HS.out]; exact .inr (.inr (.inr hb)))
      have m3 := (mod_keeps ((Keeps.refl (w1.setCell ⟨gd, k, none⟩ (.bool true)) g).setCell 3 (.int .i64 ((st.writes : Nat) + 1)))).mono (Y := S) (fun b _ hb => by rw [HS.out]; exact .inl hb)
      exact (m1.trans m2).trans m3
    clear hb1 hkp keep1 H1 H2 H3 H4 HK
    go_enter Try.func27, Try.ntmps27
    go_wp2_with fail
    go_ret
    exact ⟨rfl, S, HEND.out, HMOD.out, fun b h => .inl h⟩
  · have hwr : st.write i L = (1, st) := by unfold Dk.write; rw [if_neg hgood]
    rw [hwr]
    obtain ⟨n, hn⟩ : ∃ n, n = st.dirty.length := ⟨_, rfl⟩
    rw [← hn] at cd0
    have hbad : i < 0 ∨ (n : Int) ≤ i ∨ L.length ≠ 128 := by
      rcases Int.lt_or_le i 0 with h | h
      · exact .inl h
      · rcases Int.lt_or_le i n with h2 | h2
        · exact .inr (.inr fun h3 => hgood ⟨⟨h, by rw [← hn]; exact h2⟩, h3⟩)
        · exact .inr (.inl h2)
    clear hgood hwr hn h1 h2 h3 h4 hok hS hk cn0 n1 n2 n3 n4 n5 n6
    have HEND : Hid (Ob.Turns (refObj N) (.pointer (some ⟨g, 0, none⟩)) st (.int .i64 1) S w (.returned (.int .i64 1)) w) := ⟨rfl, S, HH.out, Mod.refl _ _, fun b h => .inl h⟩
    go_enter Try.func27, Try.ntmps27
    by_cases b1 : i < 0
    · go_wp2_with fail
      go_ret
      exact HEND.out
    · by_cases b2 : (n : Int) ≤ i
      · go_wp2_with fail
        go_ret
        exact HEND.out
      · have b3 : L.length ≠ 128 := hbad.resolve_left b1 |>.resolve_left b2
        have b4 : (L.length : Int) ≠ 128 := by omega
        go_wp2_with fail
        go_ret
        exact HEND.out
end Go.Proofs.Ytenedgapjbmpgaa

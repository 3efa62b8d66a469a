/-
  OWN WORK. Law 11's TreeReads, walked: bytes that are appended piece by piece are read as one; a read from a place is the rest from there.
-/
import Derived.Test.YtombmeppdhhjhaaQTrOneFile
import Derived.Test.YtombmeppdhhjhaaQ02
import Derived.Test.YtombmeppdhhjhaaQPtHead
namespace Go.Proofs.Ytombmeppdhhjhaa
open Go.RowKit Rc
open Tr (Nm En T)
namespace Tm
/-- What a law's own row is while its tree is turned. -/
theorem row_kept {w0 w w' : World} {B : Nat → Prop} {v : Value} {n : Nat} {xs : List Value} (h : w.ownsRow w0.heap.size 5 1 v n xs) (hB : ∀ b, v.ownBlock = some b → ¬ B b) (hm : Mod w w' B) : w'.ownsRow w0.heap.size 5 1 v n xs :=
  own_keep h fun b hb => hm.block b (own_blk h hb).2.1 (hB b hb)
theorem row_apart {w : World} {B B' : Nat → Prop} {w0 : World} {v : Value} {n : Nat} {xs : List Value} (h : w.ownsRow w0.heap.size 5 1 v n xs) (hB : ∀ b, v.ownBlock = some b → ¬ B b) (hs : ∀ b, B' b → B b ∨ w.heap.size ≤ b) : ∀ b, v.ownBlock = some b → ¬ B' b := fun b hb h1 => by
  rcases hs b h1 with h2 | h2
  · exact hB b hb h2
  · have := (own_blk h hb).2.1; omega

theorem One1.grown {v : Value} {w0 w w' : World} {t : T} {B : Nat → Prop} {x : Value} (h : One1 v w0 t B w) (hg : w.grownBy w' x.ownBlock) (hx : ∀ b, x.ownBlock = some b → ¬ B b ∧ w0.heap.size ≤ b) : One1 v w0 t B w' := by
  have hm : Mod w w' (fun b => x.ownBlock = some b) := ⟨hg.os, hg.tape, hg.output, hg.size, fun k hk hn => hg.block k hk (fun e => hn e.symm)⟩
  exact ⟨tobj.keep h.at_ hg.size (fun b hB => hm.block b (tobj.lt h.at_ b hB) (fun e => (hx b e).1 hB)), Ob.mod_more h.mod hm (fun b e => .inr (hx b e).2), h.sub, Ob.low_more h.low hm (fun b e => (hx b e).2), h.up⟩

set_option maxHeartbeats 4000000 in
set_option maxRecDepth 100000 in
theorem reads_any (w : World) (L : List Bs) (A : Option Addr) (cap : Nat) (at_ n : Int) (hr : RdL w A L) (hx : ∀ y ∈ L, y.length ≤ 9223372036854775807) (hl : L.length ≤ 9223372036854775807) (ha : -9223372036854775808 ≤ at_ ∧ at_ ≤ 9223372036854775807) (hn : -9223372036854775808 ≤ n ∧ n ≤ 9223372036854775807) :
    Calls Try.prog 3 #[.slice A L.length cap, .int .i64 at_, .int .i64 n] w fun e w' => e = .returned (.bool true) ∧ Below w.heap.size w w' := by
  have HNEW := Lib.hid (o_new w)
  have HR := Lib.hid hr
  have HX := Lib.hid hx
  have HA := Lib.hid ha
  have HN := Lib.hid hn
  clear hr hx ha hn
  go_enter Try.func3, Try.ntmps3
  go_wp2_with fail
  refine HNEW.out.mono ?_
  rintro e w1 ⟨p, B1, rfl, h1⟩
  have HO := Lib.hid h1
  clear h1
  go_wp2_with fail
  refine (make_lit HO.out Tr.new_good [[102]] 1 s1_make (by decide) (by decide)).mono ?_
  intro e w2 ht
  obtain ⟨rfl, B2, H2⟩ := ht.one
  clear ht HO
  obtain ⟨i0, hi, hz0, hz1, hz2⟩ := info_parts Try.infoU8
  have HI0 := Lib.hid hi
  have HZ0 := Lib.hid hz0
  have HZ1 := Lib.hid hz1
  have HZ2 := Lib.hid hz2
  clear hi hz0 hz1 hz2
  go_wp2_with fail
  go_loopw [10, 11, 12] (fun t10 t11 t12 wr => ∃ (i : Nat) (vA v12 : Value) (d : Bs) (B : Nat → Prop), t10 = vA ∧ t11 = .int .i64 i ∧ t12 = v12 ∧ i ≤ L.length ∧ i ≤ 20 ∧ d.length ≤ 100 * i ∧ Hid (One1 (.pointer (some ⟨p, 0, none⟩)) w (S1 d 0 false) B wr) ∧ Hid (wr.ownsRow w.heap.size 5 1 vA d.length (Lib.byteCells d)) ∧ Hid (∀ b, vA.ownBlock = some b → ¬ B b)) (fun _ t11 _ _ => 20 - (match t11 with | .int _ k => k.toNat | _ => 0))
  case atStart => exact ⟨0, _, _, [], B2, rfl, rfl, rfl, Nat.zero_le _, by omega, by simp, H2.out, ⟨rfl, .inl ⟨rfl, rfl⟩⟩, fun b hb => by cases hb⟩
  case round =>
    obtain ⟨i, vA, v12, d, B, rfl, rfl, rfl, hiL, hi20, hd, HOne, HOwn, HApt⟩ := hrel
    by_cases hk : i < L.length ∧ i < 20
    · obtain ⟨hk1, hk2⟩ := hk
      obtain ⟨b, off, x, X, c, rfl, hx, hcell0, hxc, hrx⟩ := HR.out.at_ i hk1
      have hcell : wr.cell? ⟨b, off + i, none⟩ = some (.slice X x.length c) := (HOne.out.low.cell (p := ⟨b, off + i, none⟩) (World.block_lt_of_cell? w _ hcell0)).trans hcell0
      have hlt1 : (i : Int) < (L.length : Int) := by omega
      have hlt2 : (i : Int) < 20 := by omega
      have HXL : Hid (x.length ≤ 9223372036854775807) := HX.out x (List.mem_of_getElem? hx)
      have HRX := Lib.hid hrx
      have HXC := Lib.hid hxc
      clear hx hxc hrx hcell0
      go_wp2_with fail
      refine (cut_all X x c 100 wr HXC.out (by omega) HXL.out).mono ?_
      rintro e _ ⟨y, rfl, rfl, hy100, hyc, HY⟩
      have HRY : Hid (∀ W, Below w.heap.size w W → Rd W X y) := fun W hW => HY.out W (HRX.out.below hW)
      have hgd : Tr.Good (S1 d 0 false) := s1_good d (by omega)
      have HAP := Lib.hid (Turn1.to (t' := S1 (d ++ y) 0 false) (o_append HOne.out hgd 1 X y c (HRY.out _ HOne.out.low) (by omega)) (s1_append d y (by omega)) rfl)
      clear hgd hcell HY
      go_wp2_with fail
      refine HAP.out.mono ?_
      rintro e w3 ⟨rfl, B3, k1, k2, k3⟩
      have HOne3 := Lib.hid k1
      have HOwn3 := Lib.hid (row_kept HOwn.out HApt.out k2)
      have HApt3 := Lib.hid (row_apart HOwn.out HApt.out k3)
      have HSZ : Hid (w.heap.size ≤ w3.heap.size) := k1.low.size
      clear k1 k2 k3 HAP HOne HOwn HApt
      go_wp2_with (at_builtin; refine wpList_append_at_rd rfl (.tmp 51) (.tmp 52) 29 rfl w.heap.size 5 i0 Try.underlying29 HI0.out HZ0.out HZ1.out HZ2.out u10 d.length (Lib.byteCells d) rfl HOwn3.out X y y.length c rfl rfl (HRY.out _ HOne3.out.low) (by omega) HSZ.out ?_; intro v4 w4 HO4 HG4 HP4)
      have HNX : Hid (One1 (.pointer (some ⟨p, 0, none⟩)) w (S1 (d ++ y) 0 false) B3 w4 ∧ w4.ownsRow w.heap.size 5 1 v4 (d ++ y).length (Lib.byteCells (d ++ y)) ∧ ∀ b, v4.ownBlock = some b → ¬ B3 b) := by
        refine ⟨HOne3.out.grown HG4.out (fun b hb => ⟨HApt3.out b hb, (own_blk HOwn3.out hb).1⟩), ?_, fun b hb => ?_⟩
        · have := HO4.out
          rw [List.length_append]
          simpa [Lib.byteCells] using this
        · rcases HP4.out with h | h
          · exact HApt3.out b (h ▸ hb)
          · intro hB
            have := tobj.lt HOne3.out.at_ b hB
            rw [h] at hb
            injection hb with hb
            omega
      have hdy : (d ++ y).length ≤ 100 * (i + 1) := by rw [List.length_append]; omega
      clear HO4 HG4 HP4 HOne3 HOwn3 HApt3
      go_roundw
      case rel => exact ⟨i + 1, _, _, d ++ y, B3, rfl, by go_num, rfl, by omega, by omega, hdy, HNX.out.1, HNX.out.2.1, HNX.out.2.2⟩
      case measure => simp; omega
    · have hc : ((i : Int) < (L.length : Int) ∧ ¬ (i : Int) < 20) ∨ ¬ (i : Int) < (L.length : Int) := by omega
      obtain ⟨D, dc, hv, hdc, hrd, _⟩ := Ob.Fresh.form (show Ob.Fresh d w u10 wr from HOwn.out)
      subst hv
      have HRD := Lib.hid hrd
      have HDC := Lib.hid hdc
      have HGD : Hid (Tr.Good (S1 d 0 false)) := s1_good d (by omega)
      have hd2 : d.length ≤ 2000 := by omega
      clear hk hrd hdc HOwn HApt
      rcases hc with ⟨hc1, hc2⟩ | hc1
      all_goals
        go_wp2_with fail
        refine (within_nat at_ 0 3000 0 3000 wr rfl rfl (by omega) (by omega) HA.out.1 HA.out.2).mono ?_
        rintro e _ ⟨a, _, ha, rfl, rfl⟩
        go_wp2_with fail
        refine (within_nat n 0 3000 0 3000 wr rfl rfl (by omega) (by omega) HN.out.1 HN.out.2).mono ?_
        rintro e _ ⟨m, _, hm, rfl, rfl⟩
        have HRV2 : Hid (Tr.read (S1 d 0 false) 1 0 4096 = (d, 0)) := by
          have := s1_read d 0 false 0 4096
          rw [List.drop_zero, List.take_of_length_le (by omega)] at this
          exact this
        have HR1 := Lib.hid (o_read HOne.out HGD.out 1 (a : Int) (m : Int) (by omega) (by omega))
        rw [s1_read] at HR1
        by_cases hal : a < d.length
        · have ha2 : (a : Int) < (d.length : Int) := by omega
          obtain ⟨z, hz⟩ : ∃ z, z = (d.drop a).take m := ⟨_, rfl⟩
          obtain ⟨g, hg⟩ : ∃ g, g = d.drop a := ⟨_, rfl⟩
          have hgl : d.length - a = g.length := by rw [hg, List.length_drop]
          have hsl := fun wx => sl_l wx D d.length dc a (by omega)
          rw [hgl] at hsl
          have hcv : Rd wr (cutA D a dc) g := by rw [hg]; exact HRD.out.cut a dc HDC.out
          have st0 := Ob.str_run wr (cutA D a dc) g (dc - a) hcv
          have HHD := Lib.hid (head_any g m wr (by omega) (by omega))
          rw [← hz] at HR1
          rw [← hg] at hz
          rw [← hz] at HHD
          have hzl : z.length ≤ 2000 := by rw [hz, List.length_take]; omega
          clear hz hg hgl hcv hal
          go_wp2_with fail
          refine HHD.out.mono ?_
          rintro e _ ⟨rfl, rfl⟩
          clear hsl st0 HHD
          go_wp2_with fail
          refine HR1.out.mono ?_
          rintro e w5 ⟨y1, rfl, hf1, hb5⟩
          obtain ⟨Y1, c1, rfl, hyc1, hry1, _⟩ := hf1.form
          have H5 := Lib.hid (HOne.out.later hb5)
          have HD5 := Lib.hid (HRD.out.below hb5)
          have HY5 := Lib.hid hry1
          have HR2 := Lib.hid (o_read H5.out HGD.out 1 0 4096 (by omega) (by omega))
          rw [HRV2.out] at HR2
          clear hf1 hb5 hry1 HR1 HRD
          go_wp2_with fail
          refine HR2.out.mono ?_
          rintro e w6 ⟨y2, rfl, hf2, hb6⟩
          obtain ⟨Y2, c2, rfl, hyc2, hry2, _⟩ := hf2.form
          have H6 := Lib.hid (H5.out.later hb6)
          have HD6 := Lib.hid (HD5.out.below hb6)
          have HY6 := Lib.hid (HY5.out.below hb6)
          have HZ6 := Lib.hid hry2
          have HND := Lib.hid (o_node H6.out HGD.out 1)
          rw [s1_node] at HND
          unfold Nd.val at HND
          clear hf2 hb6 hry2 HR2 H5 HD5 HY5
          go_wp2_with fail
          refine HND.out.mono ?_
          rintro e w7 ⟨rfl, hb7⟩
          have H7 := Lib.hid (H6.out.later hb7)
          have HD7 := Lib.hid (HD6.out.below hb7)
          have HY7 := Lib.hid (HY6.out.below hb7)
          have HZ7 := Lib.hid (HZ6.out.below hb7)
          clear hb7 H6 HD6 HY6 HZ6 HND
          have hb8 := below_new w7 (.cells #[.int .i64 1, .int .i64 1, .int .i64 1, .int .i64 (d.length : Nat), .int .u64 0, .bool false] 38)
          have H8 := Lib.hid (H7.out.later hb8)
          have hbk : Blk (w7.alloc (.cells #[.int .i64 1, .int .i64 1, .int .i64 1, .int .i64 (d.length : Nat), .int .u64 0, .bool false] 38)) w7.heap.size 38 [.int .i64 1, .int .i64 1, .int .i64 1, .int .i64 (d.length : Nat), .int .u64 0, .bool false] := Blk.new w7 _ _
          have d3 : (w7.alloc (.cells #[.int .i64 1, .int .i64 1, .int .i64 1, .int .i64 (d.length : Nat), .int .u64 0, .bool false] 38)).cell? ⟨w7.heap.size, 3, none⟩ = some (.int .i64 (d.length : Nat)) := hbk.cell 3
          have d5 : (w7.alloc (.cells #[.int .i64 1, .int .i64 1, .int .i64 1, .int .i64 (d.length : Nat), .int .u64 0, .bool false] 38)).cell? ⟨w7.heap.size, 5, none⟩ = some (.bool false) := hbk.cell 5
          have st1 := Ob.str_run (w7.alloc (.cells #[.int .i64 1, .int .i64 1, .int .i64 1, .int .i64 (d.length : Nat), .int .u64 0, .bool false] 38)) Y1 z c1 (HY7.out.below hb8)
          have st2 := Ob.str_run (w7.alloc (.cells #[.int .i64 1, .int .i64 1, .int .i64 1, .int .i64 (d.length : Nat), .int .u64 0, .bool false] 38)) Y2 d c2 (HZ7.out.below hb8)
          have st3 := Ob.str_run (w7.alloc (.cells #[.int .i64 1, .int .i64 1, .int .i64 1, .int .i64 (d.length : Nat), .int .u64 0, .bool false] 38)) D d dc (HD7.out.below hb8)
          have HKN := Lib.hid (known_any (w7.alloc (.cells #[.int .i64 1, .int .i64 1, .int .i64 1, .int .i64 (d.length : Nat), .int .u64 0, .bool false] 38)))
          have seq2 : ((strOf d).toList == (strOf d).toList) = true := by simp
          have seq1 : ((strOf z).toList == (strOf z).toList) = true := by simp
          clear hbk hb8
          go_wp2_with fail
          refine HKN.out.mono ?_
          rintro e w9 ⟨rfl, hb9⟩
          have H9 := Lib.hid (H8.out.later hb9)
          clear hb9
          go_wp2_with fail
          go_ret
          exact ⟨rfl, H9.out.low⟩
        · have ha2 : ¬ (a : Int) < (d.length : Int) := by omega
          rw [List.drop_eq_nil_of_le (by omega), List.take_nil] at HR1
          go_wp2_with fail
          refine HR1.out.mono ?_
          rintro e w5 ⟨y1, rfl, hf1, hb5⟩
          obtain ⟨Y1, c1, rfl, hyc1, hry1, _⟩ := hf1.form
          have H5 := Lib.hid (HOne.out.later hb5)
          have HD5 := Lib.hid (HRD.out.below hb5)
          have HY5 := Lib.hid hry1
          have HR2 := Lib.hid (o_read H5.out HGD.out 1 0 4096 (by omega) (by omega))
          rw [HRV2.out] at HR2
          clear hf1 hb5 hry1 HR1 HRD
          go_wp2_with fail
          refine HR2.out.mono ?_
          rintro e w6 ⟨y2, rfl, hf2, hb6⟩
          obtain ⟨Y2, c2, rfl, hyc2, hry2, _⟩ := hf2.form
          have H6 := Lib.hid (H5.out.later hb6)
          have HD6 := Lib.hid (HD5.out.below hb6)
          have HY6 := Lib.hid (HY5.out.below hb6)
          have HZ6 := Lib.hid hry2
          have HND := Lib.hid (o_node H6.out HGD.out 1)
          rw [s1_node] at HND
          unfold Nd.val at HND
          clear hf2 hb6 hry2 HR2 H5 HD5 HY5
          go_wp2_with fail
          refine HND.out.mono ?_
          rintro e w7 ⟨rfl, hb7⟩
          have H7 := Lib.hid (H6.out.later hb7)
          have HD7 := Lib.hid (HD6.out.below hb7)
          have HY7 := Lib.hid (HY6.out.below hb7)
          have HZ7 := Lib.hid (HZ6.out.below hb7)
          clear hb7 H6 HD6 HY6 HZ6 HND
          have hb8 := below_new w7 (.cells #[.int .i64 1, .int .i64 1, .int .i64 1, .int .i64 (d.length : Nat), .int .u64 0, .bool false] 38)
          have H8 := Lib.hid (H7.out.later hb8)
          have hbk : Blk (w7.alloc (.cells #[.int .i64 1, .int .i64 1, .int .i64 1, .int .i64 (d.length : Nat), .int .u64 0, .bool false] 38)) w7.heap.size 38 [.int .i64 1, .int .i64 1, .int .i64 1, .int .i64 (d.length : Nat), .int .u64 0, .bool false] := Blk.new w7 _ _
          have d3 : (w7.alloc (.cells #[.int .i64 1, .int .i64 1, .int .i64 1, .int .i64 (d.length : Nat), .int .u64 0, .bool false] 38)).cell? ⟨w7.heap.size, 3, none⟩ = some (.int .i64 (d.length : Nat)) := hbk.cell 3
          have d5 : (w7.alloc (.cells #[.int .i64 1, .int .i64 1, .int .i64 1, .int .i64 (d.length : Nat), .int .u64 0, .bool false] 38)).cell? ⟨w7.heap.size, 5, none⟩ = some (.bool false) := hbk.cell 5
          have st1 : (convert 29 9 (.slice Y1 0 c1)).run Try.prog (w7.alloc (.cells #[.int .i64 1, .int .i64 1, .int .i64 1, .int .i64 (d.length : Nat), .int .u64 0, .bool false] 38)) = .ok (.string ⟨#[]⟩) (w7.alloc (.cells #[.int .i64 1, .int .i64 1, .int .i64 1, .int .i64 (d.length : Nat), .int .u64 0, .bool false] 38)) := Ob.str_run (w7.alloc (.cells #[.int .i64 1, .int .i64 1, .int .i64 1, .int .i64 (d.length : Nat), .int .u64 0, .bool false] 38)) Y1 [] c1 (HY7.out.below hb8)
          have st2 := Ob.str_run (w7.alloc (.cells #[.int .i64 1, .int .i64 1, .int .i64 1, .int .i64 (d.length : Nat), .int .u64 0, .bool false] 38)) Y2 d c2 (HZ7.out.below hb8)
          have st3 := Ob.str_run (w7.alloc (.cells #[.int .i64 1, .int .i64 1, .int .i64 1, .int .i64 (d.length : Nat), .int .u64 0, .bool false] 38)) D d dc (HD7.out.below hb8)
          have HKN := Lib.hid (known_any (w7.alloc (.cells #[.int .i64 1, .int .i64 1, .int .i64 1, .int .i64 (d.length : Nat), .int .u64 0, .bool false] 38)))
          have seq2 : ((strOf d).toList == (strOf d).toList) = true := by simp
          have seq1 : ((⟨#[]⟩ : ByteArray).toList == (⟨#[]⟩ : ByteArray).toList) = true := beq_self_eq_true _
          clear hbk hb8
          go_wp2_with fail
          refine HKN.out.mono ?_
          rintro e w9 ⟨rfl, hb9⟩
          have H9 := Lib.hid (H8.out.later hb9)
          clear hb9
          go_wp2_with fail
          go_ret
          exact ⟨rfl, H9.out.low⟩
end Tm
end Go.Proofs.Ytombmeppdhhjhaa

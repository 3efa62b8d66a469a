/-
  OWN WORK. The law DiskTorn, walked, given what the program's own disk does.
-/
import Derived.Test.YtenedgapjbmpgaaDiKnown
import Derived.Test.YtenedgapjbmpgaaDiTornP
import Derived.Test.YtenedgapjbmpgaaBaWithin
import Derived.Test.YtenedgapjbmpgaaBaSameI
import Derived.Deep.CutBlock
namespace Go.Proofs.Ytenedgapjbmpgaa
open Go.RowKit Rc Di

/-- The disk, and two rows that are kept beside it. -/
def TI (D : DSaid) (v : Value) (w0 : World) (Xa : Option Addr) (a : List UInt8) (Xb : Option Addr) (b : List UInt8) (st : Dk) (w : World) : Prop :=
  ∃ B, Ob.One D.toObj v w0 w B st B w ∧ Ob.Kept w B Xa a ∧ Ob.Kept w B Xb b
section
variable {D : DSaid} {v : Value} {w0 w w' : World} {Xa Xb : Option Addr} {a b : List UInt8} {st : Dk}
theorem TI.later (h : TI D v w0 Xa a Xb b st w) (hb : Below w.heap.size w w') : TI D v w0 Xa a Xb b st w' := by
  obtain ⟨B, h1, h2, h3⟩ := h
  exact ⟨B, (h1.later hb).now, h2.more hb, h3.more hb⟩
theorem TI.turn {s' : Dk} {x : Value} {B : Nat → Prop} {e : Ending} (h1 : Ob.One D.toObj v w0 w B st B w) (h2 : Ob.Kept w B Xa a) (h3 : Ob.Kept w B Xb b) (h : Ob.Turns D.toObj v s' x B w e w') : TI D v w0 Xa a Xb b s' w' := by
  obtain ⟨_, S', hat, hm, hs⟩ := h
  have h4 := h1.turn hat hm hs
  exact ⟨S', h4.now, h4.kept h2, h4.kept h3⟩
theorem TI.writeA (h : TI D v w0 Xa a Xb b st w) (i : Int) (m : Nat) (he : i = m) (hi : m < st.dirty.length) (hw : st.writes ≤ 1000000) (ca : Nat) (hc : a.length ≤ ca) (ha : a.length = 128) (hd : st.dirty.length ≤ 4096) :
    Calls Try.prog 19 #[v, .int .i64 i, .slice Xa a.length ca] w fun e w' => e = .returned (.int .i64 0) ∧ Hid (TI D v w0 Xa a Xb b (st.put m a) w') := by
  subst he
  obtain ⟨B, h1, h2, h3⟩ := h
  refine (D.write h1.at_ hw (m : Int) Xa a ca (by omega) (by omega) h2 hc (by omega)).mono fun e w' h => ?_
  rw [Dk.write_to st m a hi ha] at h
  exact ⟨h.1, TI.turn h1 h2 h3 h⟩
theorem TI.writeB (h : TI D v w0 Xa a Xb b st w) (i : Int) (m : Nat) (he : i = m) (hi : m < st.dirty.length) (hw : st.writes ≤ 1000000) (cb : Nat) (hc : b.length ≤ cb) (hb : b.length = 128) (hd : st.dirty.length ≤ 4096) :
    Calls Try.prog 19 #[v, .int .i64 i, .slice Xb b.length cb] w fun e w' => e = .returned (.int .i64 0) ∧ Hid (TI D v w0 Xa a Xb b (st.put m b) w') := by
  subst he
  obtain ⟨B, h1, h2, h3⟩ := h
  refine (D.write h1.at_ hw (m : Int) Xb b cb (by omega) (by omega) h3 hc (by omega)).mono fun e w' h => ?_
  rw [Dk.write_to st m b hi hb] at h
  exact ⟨h.1, TI.turn h1 h2 h3 h⟩
theorem TI.flush (h : TI D v w0 Xa a Xb b st w) : Calls Try.prog 21 #[v] w fun e w' => ∃ x, e = .returned x ∧ Hid (TI D v w0 Xa a Xb b st.flush w') := by
  obtain ⟨B, h1, h2, h3⟩ := h
  refine (D.flush h1.at_).mono ?_
  rintro e w' ⟨x, h⟩
  exact ⟨x, h.1, TI.turn h1 h2 h3 h⟩
theorem below_drewN (w : World) (n : Nat) : Below w.heap.size w (w.drewN n) := ⟨rfl, rfl, rfl, Nat.le_refl _, fun _ _ => rfl⟩
end
theorem cat_mi {a b ra rb mi : List UInt8} {n : Nat} (hb : rb = b.take n) (ha : a = a.take n ++ ra) (hm : mi = b.take n ++ a.drop n) : strOf rb ++ strOf ra = strOf mi := by
  have h2 : ra = a.drop n := by
    have h3 : a.take n ++ ra = a.take n ++ a.drop n := by rw [← ha, List.take_append_drop]
    exact List.append_cancel_left h3
  subst hb h2 hm
  apply ByteArray.ext
  simp [strOf]
theorem rdi_below {w w' : World} {A : Option Addr} {l : List Int} (hr : RdI w A l) (hb : Below w.heap.size w w') : RdI w' A l := fun j x hj => by
  obtain ⟨h1, b, off, h2, h3, h4⟩ := hr j x hj
  exact ⟨h1, b, off, h2, Nat.lt_of_lt_of_le h3 hb.size, (hb.cell (p := ⟨b, off + j, none⟩) h3).trans h4⟩
theorem rdi_three (w : World) (x y z : Int) (t : TypeId) (hx : In64 x) (hy : In64 y) (hz : In64 z) : RdI (w.alloc (.cells #[.int .i64 x, .int .i64 y, .int .i64 z] t)) (some ⟨w.heap.size, 0, none⟩) [x, y, z] := by
  have bl : Blk (w.alloc (.cells #[.int .i64 x, .int .i64 y, .int .i64 z] t)) w.heap.size t [.int .i64 x, .int .i64 y, .int .i64 z] := Blk.new w t [.int .i64 x, .int .i64 y, .int .i64 z]
  intro j v hj
  have lt := bl.lt
  match j, hj with
  | 0, hj => simp at hj; subst hj; exact ⟨hx, w.heap.size, 0, rfl, lt, by rw [bl.cell]; rfl⟩
  | 1, hj => simp at hj; subst hj; exact ⟨hy, w.heap.size, 0, rfl, lt, by rw [bl.cell]; rfl⟩
  | 2, hj => simp at hj; subst hj; exact ⟨hz, w.heap.size, 0, rfl, lt, by rw [bl.cell]; rfl⟩
  | _ + 3, hj => simp at hj
theorem rdb_three (w : World) (x y z : Bool) (t : TypeId) : RdB (w.alloc (.cells #[.bool x, .bool y, .bool z] t)) (some ⟨w.heap.size, 0, none⟩) [x, y, z] := by
  have bl : Blk (w.alloc (.cells #[.bool x, .bool y, .bool z] t)) w.heap.size t [.bool x, .bool y, .bool z] := Blk.new w t [.bool x, .bool y, .bool z]
  intro j v hj
  have lt := bl.lt
  refine ⟨_, rfl, lt, ?_⟩
  rw [add_plain]
  match j, hj with
  | 0, hj => simp at hj; subst hj; rw [bl.cell]; rfl
  | 1, hj => simp at hj; subst hj; rw [bl.cell]; rfl
  | 2, hj => simp at hj; subst hj; rw [bl.cell]; rfl
  | _ + 3, hj => simp at hj

set_option maxHeartbeats 8000000 in
set_option maxRecDepth 100000 in
theorem torn_any (D : DSaid) (w : World) (l1 l2 : List UInt8) (A1 A2 : Option Addr) (c1 c2 : Nat) (i0 cut0 : Int) (kp : Bool) (hr1 : Rd w A1 l1) (hc1 : l1.length ≤ c1) (hl1 : l1.length ≤ 9223372036854775807) (hr2 : Rd w A2 l2) (hc2 : l2.length ≤ c2) (hl2 : l2.length ≤ 9223372036854775807) (hi : In64 i0) (hcut : In64 cut0) :
    Calls Try.prog 7 #[.slice A1 l1.length c1, .slice A2 l2.length c2, .int .i64 i0, .int .i64 cut0, .bool kp] w fun e w' => e = .returned (.bool true) ∧ Below w.heap.size w w' := by
  have H1 := Lib.hid hr1
  have H2 := Lib.hid hr2
  have H3 := Lib.hid hc1
  have H4 := Lib.hid hl1
  have H5 := Lib.hid hc2
  have H6 := Lib.hid hl2
  have HI := Lib.hid hi
  have HCU := Lib.hid hcut
  clear hr1 hr2 hc1 hl1 hc2 hl2 hi hcut
  go_enter Try.func7, Try.ntmps7
  go_wp2_with fail
  refine (D.new64 w).mono ?_
  rintro e w1 ⟨a0, B0, rfl, HT0⟩
  go_wp2_with fail
  refine (sized_any w1 l1 A1 c1 128 (H1.out.below HT0.out.low) H3.out H4.out (by omega)).mono ?_
  rintro e w2 ⟨x, rfl, hf, hb⟩
  obtain ⟨a, ha⟩ : ∃ a, a = sized 128 l1 := ⟨_, rfl⟩
  rw [← ha] at hf
  have HAL : Hid (a.length = 128) := by show _ = _; rw [ha, sized_length]
  obtain ⟨Xa, ca, rfl, hca, ka⟩ := HT0.out.fresh hb hf
  have HT1 := Lib.hid (HT0.out.later hb)
  have HKA := Lib.hid ka
  clear hf hb ka ha HT0
  go_wp2_with fail
  refine (sized_any w2 l2 A2 c2 128 (H2.out.below HT1.out.low) H5.out H6.out (by omega)).mono ?_
  rintro e w3 ⟨x, rfl, hf, hb⟩
  obtain ⟨b, hbb⟩ : ∃ b, b = sized 128 l2 := ⟨_, rfl⟩
  rw [← hbb] at hf
  have HBL : Hid (b.length = 128) := by show _ = _; rw [hbb, sized_length]
  obtain ⟨Xb, cb, rfl, hcb, kb⟩ := HT1.out.fresh hb hf
  have HT2 : Hid (TI D (.pointer (some a0)) w Xa a Xb b (Dk.new 64) w3) := ⟨B0, (HT1.out.later hb).now, HKA.out.more hb, kb⟩
  clear hf hb kb hbb HT1 HKA H1 H2 H3 H4 H5 H6
  go_wp2_with fail
  refine (within_to i0 _ 61 _ (by omega) (by omega) HI.out.1 HI.out.2).mono ?_
  rintro e w4 ⟨k, hk, rfl, rfl⟩
  go_wp2_with fail
  refine (within_to cut0 _ 128 _ (by omega) (by omega) HCU.out.1 HCU.out.2).mono ?_
  rintro e w5 ⟨n, hn, rfl, rfl⟩
  clear HI HCU
  go_wp2_with fail
  go_loopw [17] (fun t17 wr => ∃ j : Nat, j ≤ 3 ∧ t17 = .int .i64 (j : Nat) ∧ Hid (TI D (.pointer (some a0)) w Xa a Xb b (up (Dk.new 64) k a j) wr)) (fun t17 _ => 3 - (intOf t17).toNat)
  case atStart => exact ⟨0, by omega, rfl, HT2⟩
  case round =>
    obtain ⟨j, hj, rfl, HJ⟩ := hrel
    by_cases hlt : j < 3
    · go_wp2_with fail
      refine (HJ.out.writeA _ (k + j) (by omega) (by rw [up_dirty, new_dirty]; omega) (by rw [up_writes]; show 0 + j ≤ _; omega) ca hca HAL.out (by rw [up_dirty, new_dirty]; omega)).mono ?_
      rintro e wz ⟨rfl, HJ2⟩
      clear HJ HT2
      go_wp2_with fail
      go_roundw
      case rel => exact ⟨j + 1, by omega, by go_num, HJ2⟩
      case measure => simp [intOf]; omega
    · obtain rfl : j = 3 := by omega
      clear HT2
      go_wp2_with fail
      refine HJ.out.flush.mono ?_
      rintro e w6 ⟨x, rfl, HF⟩
      obtain ⟨s1, hs1⟩ : ∃ s, s = (up (Dk.new 64) k a 3).flush := ⟨_, rfl⟩
      rw [← hs1] at HF
      have HS1 := Lib.hid hs1
      have HD1 : Hid (s1.dirty.length = 64) := by show _ = _; rw [hs1]; show (List.replicate (up (Dk.new 64) k a 3).dirty.length false).length = 64; rw [List.length_replicate, up_dirty, new_dirty]
      have HW1 : Hid (s1.writes = 3) := by show _ = _; rw [hs1]; rfl
      clear hs1 HJ
      go_wp2_with fail
      go_loopw [18] (fun t18 wr => ∃ m : Nat, m ≤ 3 ∧ t18 = .int .i64 (2 - (m : Int)) ∧ Hid (TI D (.pointer (some a0)) w Xa a Xb b (down s1 k b m) wr)) (fun t18 _ => (intOf t18 + 1).toNat)
      case atStart => exact ⟨0, by omega, rfl, HF⟩
      case round =>
        obtain ⟨m, hm, rfl, HJ⟩ := hrel
        by_cases hlt2 : m < 3
        · go_wp2_with fail
          refine (HJ.out.writeB _ (k + (2 - m)) (by omega) (by rw [down_dirty, HD1.out]; omega) (by rw [down_writes, HW1.out]; omega) cb hcb HBL.out (by rw [down_dirty, HD1.out]; omega)).mono ?_
          rintro e wz ⟨rfl, HJ2⟩
          clear HJ HF
          go_wp2_with fail
          go_roundw
          case rel => exact ⟨m + 1, by omega, by go_num, HJ2⟩
          case measure => simp [intOf]; omega
        · obtain rfl : m = 3 := by omega
          clear HF
          have HJS : Hid (TI D (.pointer (some a0)) w Xa a Xb b (six k (61 - k) a b) wr) := by
            have := HJ.out
            rw [HS1.out, six_is k a b hk] at this
            exact this
          clear HJ HS1 HD1 HW1
          obtain ⟨B, h1, h2, h3⟩ := HJS.out
          have HT := Lib.hid h1
          have HA := Lib.hid h2
          have HB := Lib.hid h3
          clear h1 h2 h3 HJS
          go_wp2_with fail
          refine (D.dirty HT.out.at_).mono ?_
          rintro e w7 ⟨x, rfl, ⟨X3, c3, rfl, hc3, hri, _⟩, hb⟩
          rw [six_dirty] at hri hc3
          have HRI : Hid (RdI w7 X3 [(k : Int), (k : Int) + 1, (k : Int) + 2]) := hri
          have HT1 := Lib.hid (HT.out.later hb)
          have HA1 := Lib.hid (HA.out.more hb)
          have HB1 := Lib.hid (HB.out.more hb)
          rw [six_dirty]
          clear hri hb HT HA HB
          go_wp2_with fail
          refine (same_ints [(k : Int), (k : Int) + 1, (k : Int) + 2] X3 (some ⟨w7.heap.size, 0, none⟩) c3 3 _ (rdi_below HRI.out (below_new _ _)) (rdi_three w7 _ _ _ _ ⟨by omega, by omega⟩ ⟨by omega, by omega⟩ ⟨by omega, by omega⟩) (by simp)).mono ?_
          rintro e w8 ⟨rfl, nn, rfl⟩
          obtain ⟨w9, hw9⟩ : ∃ x, x = (w7.alloc (Obj.cells #[Value.int IntKind.i64 ((k : Nat) : Int), Value.int IntKind.i64 ((k : Nat) + 1), Value.int IntKind.i64 ((k : Nat) + 2)] 3)).drewN nn := ⟨_, rfl⟩
          rw [← hw9]
          have hb9 : Below w7.heap.size w7 w9 := by rw [hw9]; exact (below_new _ _).trans ((below_drewN _ nn).mono (by rw [World.size_alloc]; omega))
          have HT2 := Lib.hid (HT1.out.later hb9)
          have HA2 := Lib.hid (HA1.out.more hb9)
          have HB2 := Lib.hid (HB1.out.more hb9)
          clear hb9 hw9 HT1 HA1 HB1 HRI hc3
          go_wp2_with fail
          obtain ⟨wa, hwa⟩ : ∃ x, x = w9.alloc (Obj.cells #[Value.bool kp, Value.bool kp, Value.bool !kp] 4) := ⟨_, rfl⟩
          have hba : Below w9.heap.size w9 wa := by rw [hwa]; exact below_new _ _
          have hrb : RdB wa (some ⟨w9.heap.size, 0, none⟩) [kp, kp, !kp] := by rw [hwa]; exact rdb_three w9 kp kp (!kp) _
          rw [← hwa]
          have HT3 := Lib.hid (HT2.out.later hba)
          have HA3 := Lib.hid (HA2.out.more hba)
          have HB3 := Lib.hid (HB2.out.more hba)
          have hcr := D.crash HT3.out.at_ (some ⟨w9.heap.size, 0, none⟩) [kp, kp, !kp] 3 1 ((n : Nat) : Int) hrb (fun a h _ hB => by injection h with h; subst h; have := D.toObj.lt HT2.out.at_ _ hB; simp at this) (by simp) (by simp) (by omega) (by omega) (by omega) (by omega)
          refine hcr.mono ?_
          rintro e wb ⟨x, rfl, B5, hat, hm, hs⟩
          obtain ⟨s6, hs6⟩ : ∃ s, s = (six k (61 - k) a b).crash [kp, kp, !kp] 1 ((n : Nat) : Int) := ⟨_, rfl⟩
          rw [← hs6] at hat
          obtain ⟨q1, q2, q3, q4, q5, q6⟩ := six_crash k a b kp n hn hk s6 hs6
          have HT4 := Lib.hid (HT3.out.now.turn hat hm hs)
          have HA4 := Lib.hid (HT4.out.kept HA3.out)
          have HB4 := Lib.hid (HT4.out.kept HB3.out)
          have HQ4 := Lib.hid q4
          have HQ5 := Lib.hid q5
          obtain ⟨fs, hfs⟩ : ∃ fs, fs = if kp then b else a := ⟨_, rfl⟩
          obtain ⟨la, hla⟩ : ∃ la, la = if kp then a else b := ⟨_, rfl⟩
          obtain ⟨mi, hmi⟩ : ∃ mi, mi = b.take n ++ a.drop n := ⟨_, rfl⟩
          rw [← hfs] at q1
          rw [← hmi] at q2
          rw [← hla] at q3
          have HQ1 := Lib.hid q1
          have HQ2 := Lib.hid q2
          have HQ3 := Lib.hid q3
          have HFS := Lib.hid hfs
          have HLA := Lib.hid hla
          have HMI := Lib.hid hmi
          clear hat hm hs hs6 hcr hba hrb hwa HT2 HA2 HB2 HT3 HA3 HB3 q1 q2 q3 q4 q5 q6 hfs hla hmi
          go_wp2_with fail
          refine (D.read HT4.out.at_ _ (by omega) (by omega)).mono ?_
          rintro e wc ⟨x, rfl, hf, hb⟩
          rw [HQ1.out] at hf ⊢
          obtain ⟨Xx, cx, rfl, hcx, kx⟩ := HT4.out.fresh hb hf
          have HT5 := Lib.hid (HT4.out.later hb)
          have HA5 := Lib.hid (HA4.out.more hb)
          have HB5 := Lib.hid (HB4.out.more hb)
          have HX5 := Lib.hid kx
          clear hf hb kx HT4 HA4 HB4 HQ1
          go_wp2_with fail
          have hrd := D.read HT5.out.at_ ((k + 1 : Nat) : Int) (by omega) (by omega)
          rw [HQ2.out, show ((k + 1 : Nat) : Int) = (k : Int) + 1 from rfl] at hrd
          refine hrd.mono ?_
          rintro e wd ⟨x, rfl, hf, hb⟩
          obtain ⟨Xy, cy, rfl, hcy, ky⟩ := HT5.out.fresh hb hf
          have HT6 := Lib.hid (HT5.out.later hb)
          have HA6 := Lib.hid (HA5.out.more hb)
          have HB6 := Lib.hid (HB5.out.more hb)
          have HX6 := Lib.hid (HX5.out.more hb)
          have HY6 := Lib.hid ky
          clear hf hb ky HT5 HA5 HB5 HX5 HQ2 hrd
          go_wp2_with fail
          have hrd := D.read HT6.out.at_ ((k + 2 : Nat) : Int) (by omega) (by omega)
          rw [HQ3.out, show ((k + 2 : Nat) : Int) = (k : Int) + 2 from rfl] at hrd
          refine hrd.mono ?_
          rintro e we ⟨x, rfl, hf, hb⟩
          obtain ⟨Xz, cz, rfl, hcz, kz⟩ := HT6.out.fresh hb hf
          have HT := Lib.hid (HT6.out.later hb).now
          have HA := Lib.hid (HA6.out.more hb)
          have HB := Lib.hid (HB6.out.more hb)
          have HX := Lib.hid (HX6.out.more hb)
          have HY := Lib.hid (HY6.out.more hb)
          have HZ := Lib.hid kz
          clear hf hb kz HT6 HA6 HB6 HX6 HY6 HQ3 hrd
          go_upto_region 22 with (fail)
          have one := HT.out
          refine Rc.wp_region (by kernel_rfl) (fun opn => List.getD [Rc.val (.slice Xa a.length ca), Rc.val (.string (strOf (a))), Rc.val (.slice Xb b.length cb), Rc.val (.string (strOf (b))), Rc.val (.string (strOf (a))), Rc.val (.string (strOf (b))), Ob.turned D.toObj (.pointer (some a0)) (Ob.Ups B5 we) undef s6] opn Rc.any) 1 [] [[], [(0, 105)], [], [(2, 107)], [(1, 106)], [(3, 108)]] [[], [0], [], [2], [0, 1], [0, 1, 2, 3, 4]] [[], [0], [], [2], [1], [3]] [] (by kernel_rfl) (by rfl) (by kernel_rfl) B5 (fun _ b => B5 b) (Ob.one_inv D.toObj one.at_ _ _ 6 rfl) ?_ ?_
          · intro fr ha
            have hz : fr.tmps.size = 150 := by rw [ha]; rfl
            have y13 : fr.eval (.tmp 13) = .slice Xa a.length ca := by rw [ha]; rfl
            have y14 : fr.eval (.tmp 14) = .slice Xb b.length cb := by rw [ha]; rfl
            clear ha
            refine .cons ?_ (.cons ?_ (.cons ?_ (.cons ?_ (.cons ?_ (.cons ?_ (.nil))))))
            · intro V S w2 HM HU HE
              have HM : Mod we w2 B5 := HM
              have tb13 : (Rg.putUse V [] fr).eval (.tmp 13) = .slice Xa a.length ca := (Rg.use_eval V fr 13 [] (by simp only [hz]; decide)).trans y13
              show Rg.Does1 _ _ V (Rg.putUse V [] fr) w2 _
              exact Ob.rc_mv (.slice Xa a.length ca) (by simp only [execOp, tb13]; go_simp) rfl rfl True.intro
            · intro V S w2 HM HU HE
              have HM : Mod we w2 B5 := HM
              have h0 : V 0 = .slice Xa a.length ca := HU.holds 0 (by decide)
              have tb105 : (Rg.putUse V [(0, 105)] fr).eval (.tmp 105) = .slice Xa a.length ca := (Rg.use_eval V fr 105 [(0, 105)] (by simp only [hz]; decide)).trans h0
              show Rg.Does1 _ _ V (Rg.putUse V [(0, 105)] fr) w2 _
              exact Ob.rc_str (a) rfl tb105 (by first | rfl | simp) (Ob.rd_mod HA.out.1 HM HA.out.2) rfl rfl True.intro
            · intro V S w2 HM HU HE
              have HM : Mod we w2 B5 := HM
              have tb14 : (Rg.putUse V [] fr).eval (.tmp 14) = .slice Xb b.length cb := (Rg.use_eval V fr 14 [] (by simp only [hz]; decide)).trans y14
              show Rg.Does1 _ _ V (Rg.putUse V [] fr) w2 _
              exact Ob.rc_mv (.slice Xb b.length cb) (by simp only [execOp, tb14]; go_simp) rfl rfl True.intro
            · intro V S w2 HM HU HE
              have HM : Mod we w2 B5 := HM
              have h2 : V 2 = .slice Xb b.length cb := HU.holds 2 (by decide)
              have tb107 : (Rg.putUse V [(2, 107)] fr).eval (.tmp 107) = .slice Xb b.length cb := (Rg.use_eval V fr 107 [(2, 107)] (by simp only [hz]; decide)).trans h2
              show Rg.Does1 _ _ V (Rg.putUse V [(2, 107)] fr) w2 _
              exact Ob.rc_str (b) rfl tb107 (by first | rfl | simp) (Ob.rd_mod HB.out.1 HM HB.out.2) rfl rfl True.intro
            · intro V S w2 HM HU HE
              have HM : Mod we w2 B5 := HM
              have h1 : V 1 = .string (strOf (a)) := HU.holds 1 (by decide)
              have tb106 : (Rg.putUse V [(1, 106)] fr).eval (.tmp 106) = .string (strOf (a)) := (Rg.use_eval V fr 106 [(1, 106)] (by simp only [hz]; decide)).trans h1
              show Rg.Does1 _ _ V (Rg.putUse V [(1, 106)] fr) w2 _
              exact Ob.rc_mv (.string (strOf (a))) (by simp only [execOp, tb106]; go_simp) rfl rfl True.intro
            · intro V S w2 HM HU HE
              have HM : Mod we w2 B5 := HM
              have h3 : V 3 = .string (strOf (b)) := HU.holds 3 (by decide)
              have tb108 : (Rg.putUse V [(3, 108)] fr).eval (.tmp 108) = .string (strOf (b)) := (Rg.use_eval V fr 108 [(3, 108)] (by simp only [hz]; decide)).trans h3
              show Rg.Does1 _ _ V (Rg.putUse V [(3, 108)] fr) w2 _
              exact Ob.rc_mv (.string (strOf (b))) (by simp only [execOp, tb108]; go_simp) rfl rfl True.intro
          · intro V S w2 HI
            have hb : V 5 = .string (strOf (b)) := HI.get 5 (by decide) (by rfl)
            have HT2 := Lib.hid (one.after HI.mod.undrew (HI.get 6 (by decide) (by rfl)).2)
            have HM2 : Hid (Mod we w2 B5) := HI.mod.undrew
            have hw4 : V 4 = .string (strOf (a)) := HI.get 4 (by decide) (by rfl)
            simp only [Rg.putList, Act.put, List.setIfInBounds_toArray, List.set_cons_zero, List.set_cons_succ, Nat.zero_add, Nat.reduceAdd]
            rw [hb, hw4]
            clear HI hb one HT hw4
            obtain ⟨B6, h6⟩ := HT2.out
            have HT := Lib.hid h6.now
            have HA7 := Lib.hid (h6.kept HA.out)
            have HB7 := Lib.hid (h6.kept HB.out)
            have HX7 := Lib.hid (h6.kept HX.out)
            have HY7 := Lib.hid (h6.kept HY.out)
            have HZ7 := Lib.hid (h6.kept HZ.out)
            clear h6 HT2 HM2 HA HB HX HY HZ
            have HA := HA7
            have HB := HB7
            have HX := HX7
            have HY := HY7
            have HZ := HZ7
            clear HA7 HB7 HX7 HY7 HZ7
            obtain ⟨rb, hslb, hrbc, HRB, HEQB, HLNB, hrbl⟩ := part_h Xb b cb n (by rw [HBL.out]; exact hn) hcb
            obtain ⟨Xr, ra, cr, hsla, hrac, HRA, _, HEQA, hral⟩ := part_l Xa a ca n (by rw [HAL.out]; exact hn) hca
            have HCAT : Hid (strOf rb ++ strOf ra = strOf mi) := cat_mi HEQB.out HEQA.out HMI.out
            have HSZ : Hid (¬ 9223372036854775807 < (strOf rb).size + (strOf ra).size) := by show ¬ _; rw [strOf_size, strOf_size]; have := HAL.out; have := HBL.out; omega
            go_upto_if 109 with (fail)
            go_cut [4, 25, 26, 109] (fun t4 t25 t26 t109 wx => wx = w2 ∧ t4 = .bool kp ∧ t25 = .string (strOf fs) ∧ t26 = .string (strOf la))
            case first =>
              go_wp2_with fail
              · rename_i h
                go_meet
                case rel => exact ⟨rfl, by rw [h], by rw [HFS.out, if_pos h], by rw [HLA.out, if_pos h]⟩
              · rename_i h
                go_meet
                case rel => exact ⟨rfl, by rw [h], by rw [HFS.out, if_neg (by rw [h]; decide)], by rw [HLA.out, if_neg (by rw [h]; decide)]⟩
            case rest =>
              obtain ⟨rfl, rfl, rfl, rfl⟩ := hcut
              go_upto_region 25 with (fail)
              have one := HT.out
              refine Rc.wp_region (by kernel_rfl) (fun opn => List.getD [Rc.val (.slice Xx fs.length cx), Rc.val (.string (strOf (fs))), Rc.val (.string (strOf fs)), Rc.val (.bool true), Rc.val (.bool true), Rc.val (.slice Xy mi.length cy), Rc.val (.string (strOf (mi))), Rc.val (.slice Xb b.length cb), Rc.val (.int .i64 ((n : Nat) : Int)), Rc.val (.slice Xb rb.length cb), Rc.val (.string (strOf (rb))), Rc.val (.slice Xa a.length ca), Rc.val (.int .i64 ((n : Nat) : Int)), Rc.val (.slice Xr ra.length cr), Rc.val (.string (strOf (ra))), Rc.val (.string (strOf mi)), Rc.val (.bool true), Rc.val (.bool true), Rc.val (.bool true), Rc.val (.slice Xz la.length cz), Rc.val (.string (strOf (la))), Rc.val (.string (strOf la)), Rc.val (.bool true), Rc.val (.bool true), Rc.val (.bool true), Rc.val (.pointer (some a0)), Ob.slen 0, Rc.val (.int .i64 ((0 : Nat) : Int)), Rc.val (.bool true), Rc.val (.bool true), Rc.val (.bool true), Rc.val (.pointer (some a0)), Rc.val (.int .i64 6), Rc.val (.bool true), Rc.val (.bool true), Rc.val (.bool true), Rc.val (.bool true), Rc.val (.bool true), Rc.val (.bool true), Ob.turned D.toObj (.pointer (some a0)) (Ob.Ups B6 wc) undef s6] opn Rc.any) 1 [] [[], [(0, 112)], [], [(1, 113), (2, 114)], [(3, 115)], [(4, 116)], [(4, 116), (5, 117)], [(4, 116)], [(4, 116)], [(4, 116), (7, 119), (8, 120)], [(4, 116), (9, 121)], [(4, 116)], [(4, 116)], [(4, 116), (11, 123), (12, 124)], [(4, 116), (13, 125)], [(4, 116), (10, 122), (14, 126)], [(4, 116), (6, 118), (15, 127)], [(4, 116), (16, 128)], [(17, 129)], [(18, 130)], [(18, 130), (19, 131)], [(18, 130)], [(18, 130), (20, 132), (21, 133)], [(18, 130), (22, 134)], [(23, 135)], [(24, 136)], [(24, 136), (25, 137)], [(24, 136), (26, 138)], [(24, 136), (27, 139)], [(24, 136), (28, 140)], [(29, 141)], [(30, 142)], [(30, 142), (31, 143)], [(30, 142), (32, 144)], [(30, 142), (33, 145)], [(34, 146)], [(35, 147)], [(35, 147), (36, 148)], [(37, 149)]] [[], [0], [], [0, 1, 2], [0, 1, 2, 3], [0, 1, 2, 3, 4], [0, 1, 2, 3, 4, 5], [0, 1, 2, 3, 4], [0, 1, 2, 3, 4], [0, 1, 2, 3, 4, 7, 8], [0, 1, 2, 3, 4, 7, 8, 9], [0, 1, 2, 3, 4], [0, 1, 2, 3, 4], [0, 1, 2, 3, 4, 11, 12], [0, 1, 2, 3, 4, 11, 12, 13], [0, 1, 2, 3, 4, 7, 8, 9, 10, 11, 12, 13, 14], [0, 1, 2, 3, 4, 5, 6, 7, 8, 9, 10, 11, 12, 13, 14, 15], [0, 1, 2, 3, 4, 5, 6, 7, 8, 9, 10, 11, 12, 13, 14, 15, 16], [0, 1, 2, 3, 4, 5, 6, 7, 8, 9, 10, 11, 12, 13, 14, 15, 16, 17], [0, 1, 2, 3, 4, 5, 6, 7, 8, 9, 10, 11, 12, 13, 14, 15, 16, 17, 18], [0, 1, 2, 3, 4, 5, 6, 7, 8, 9, 10, 11, 12, 13, 14, 15, 16, 17, 18, 19], [0, 1, 2, 3, 4, 5, 6, 7, 8, 9, 10, 11, 12, 13, 14, 15, 16, 17, 18], [0, 1, 2, 3, 4, 5, 6, 7, 8, 9, 10, 11, 12, 13, 14, 15, 16, 17, 18, 19, 20, 21], [0, 1, 2, 3, 4, 5, 6, 7, 8, 9, 10, 11, 12, 13, 14, 15, 16, 17, 18, 19, 20, 21, 22], [0, 1, 2, 3, 4, 5, 6, 7, 8, 9, 10, 11, 12, 13, 14, 15, 16, 17, 18, 19, 20, 21, 22, 23], [0, 1, 2, 3, 4, 5, 6, 7, 8, 9, 10, 11, 12, 13, 14, 15, 16, 17, 18, 19, 20, 21, 22, 23, 24], [0, 1, 2, 3, 4, 5, 6, 7, 8, 9, 10, 11, 12, 13, 14, 15, 16, 17, 18, 19, 20, 21, 22, 23, 24, 25], [0, 1, 2, 3, 4, 5, 6, 7, 8, 9, 10, 11, 12, 13, 14, 15, 16, 17, 18, 19, 20, 21, 22, 23, 24, 25, 26], [0, 1, 2, 3, 4, 5, 6, 7, 8, 9, 10, 11, 12, 13, 14, 15, 16, 17, 18, 19, 20, 21, 22, 23, 24, 25, 26, 27], [0, 1, 2, 3, 4, 5, 6, 7, 8, 9, 10, 11, 12, 13, 14, 15, 16, 17, 18, 19, 20, 21, 22, 23, 24, 25, 26, 27, 28], [0, 1, 2, 3, 4, 5, 6, 7, 8, 9, 10, 11, 12, 13, 14, 15, 16, 17, 18, 19, 20, 21, 22, 23, 24, 25, 26, 27, 28, 29], [0, 1, 2, 3, 4, 5, 6, 7, 8, 9, 10, 11, 12, 13, 14, 15, 16, 17, 18, 19, 20, 21, 22, 23, 24, 25, 26, 27, 28, 29, 30], [0, 1, 2, 3, 4, 5, 6, 7, 8, 9, 10, 11, 12, 13, 14, 15, 16, 17, 18, 19, 20, 21, 22, 23, 24, 25, 26, 27, 28, 29, 30, 31], [0, 1, 2, 3, 4, 5, 6, 7, 8, 9, 10, 11, 12, 13, 14, 15, 16, 17, 18, 19, 20, 21, 22, 23, 24, 25, 26, 27, 28, 29, 30, 31, 32], [0, 1, 2, 3, 4, 5, 6, 7, 8, 9, 10, 11, 12, 13, 14, 15, 16, 17, 18, 19, 20, 21, 22, 23, 24, 25, 26, 27, 28, 29, 30, 31, 32, 33], [0, 1, 2, 3, 4, 5, 6, 7, 8, 9, 10, 11, 12, 13, 14, 15, 16, 17, 18, 19, 20, 21, 22, 23, 24, 25, 26, 27, 28, 29, 30, 31, 32, 33, 34], [0, 1, 2, 3, 4, 5, 6, 7, 8, 9, 10, 11, 12, 13, 14, 15, 16, 17, 18, 19, 20, 21, 22, 23, 24, 25, 26, 27, 28, 29, 30, 31, 32, 33, 34, 35], [0, 1, 2, 3, 4, 5, 6, 7, 8, 9, 10, 11, 12, 13, 14, 15, 16, 17, 18, 19, 20, 21, 22, 23, 24, 25, 26, 27, 28, 29, 30, 31, 32, 33, 34, 35, 36], [0, 1, 2, 3, 4, 5, 6, 7, 8, 9, 10, 11, 12, 13, 14, 15, 16, 17, 18, 19, 20, 21, 22, 23, 24, 25, 26, 27, 28, 29, 30, 31, 32, 33, 34, 35, 36, 37]] [[], [0], [], [1, 2], [3], [4], [4, 5], [4], [4], [4, 7, 8], [4, 9], [4], [4], [4, 11, 12], [4, 13], [4, 10, 14], [4, 6, 15], [4, 16], [17], [18], [18, 19], [18], [18, 20, 21], [18, 22], [23], [24], [24, 25, 39], [24, 26], [24, 27], [24, 28], [29], [30], [30, 31, 39], [30, 32], [30, 33], [34], [35], [35, 36], [37]] [] (by kernel_rfl) (by rfl) (by kernel_rfl) B6 (fun _ b => B6 b) (Ob.one_inv D.toObj one.at_ _ _ 39 rfl) ?_ ?_
              · intro fr ha
                have hz : fr.tmps.size = 150 := by rw [ha]; rfl
                have y19 : fr.eval (.tmp 19) = .slice Xx fs.length cx := by rw [ha]; rfl
                have y25 : fr.eval (.tmp 25) = .string (strOf fs) := by rw [ha]; rfl
                have y21 : fr.eval (.tmp 21) = .slice Xy mi.length cy := by rw [ha]; rfl
                have y14 : fr.eval (.tmp 14) = .slice Xb b.length cb := by rw [ha]; rfl
                have y16 : fr.eval (.tmp 16) = .int .i64 ((n : Nat) : Int) := by rw [ha]; rfl
                have y13 : fr.eval (.tmp 13) = .slice Xa a.length ca := by rw [ha]; rfl
                have y23 : fr.eval (.tmp 23) = .slice Xz la.length cz := by rw [ha]; rfl
                have y26 : fr.eval (.tmp 26) = .string (strOf la) := by rw [ha]; rfl
                have y11 : fr.eval (.tmp 11) = .pointer (some a0) := by rw [ha]; rfl
                clear ha
                refine .cons ?_ (.cons ?_ (.cons ?_ (.cons ?_ (.cons ?_ (.cons ?_ (.cons ?_ (.cons ?_ (.cons ?_ (.cons ?_ (.cons ?_ (.cons ?_ (.cons ?_ (.cons ?_ (.cons ?_ (.cons ?_ (.cons ?_ (.cons ?_ (.cons ?_ (.cons ?_ (.cons ?_ (.cons ?_ (.cons ?_ (.cons ?_ (.cons ?_ (.cons ?_ (.cons ?_ (.cons ?_ (.cons ?_ (.cons ?_ (.cons ?_ (.cons ?_ (.cons ?_ (.cons ?_ (.cons ?_ (.cons ?_ (.cons ?_ (.cons ?_ (.cons ?_ (.nil)))))))))))))))))))))))))))))))))))))))
                · intro V S w2 HM HU HE
                  have HM : Mod wc w2 B6 := HM
                  have tb19 : (Rg.putUse V [] fr).eval (.tmp 19) = .slice Xx fs.length cx := (Rg.use_eval V fr 19 [] (by simp only [hz]; decide)).trans y19
                  show Rg.Does1 _ _ V (Rg.putUse V [] fr) w2 _
                  exact Ob.rc_mv (.slice Xx fs.length cx) (by simp only [execOp, tb19]; go_simp) rfl rfl True.intro
                · intro V S w2 HM HU HE
                  have HM : Mod wc w2 B6 := HM
                  have h0 : V 0 = .slice Xx fs.length cx := HU.holds 0 (by decide)
                  have tb112 : (Rg.putUse V [(0, 112)] fr).eval (.tmp 112) = .slice Xx fs.length cx := (Rg.use_eval V fr 112 [(0, 112)] (by simp only [hz]; decide)).trans h0
                  show Rg.Does1 _ _ V (Rg.putUse V [(0, 112)] fr) w2 _
                  exact Ob.rc_str (fs) rfl tb112 (by first | rfl | simp) (Ob.rd_mod HX.out.1 HM HX.out.2) rfl rfl True.intro
                · intro V S w2 HM HU HE
                  have HM : Mod wc w2 B6 := HM
                  have tb25 : (Rg.putUse V [] fr).eval (.tmp 25) = .string (strOf fs) := (Rg.use_eval V fr 25 [] (by simp only [hz]; decide)).trans y25
                  show Rg.Does1 _ _ V (Rg.putUse V [] fr) w2 _
                  exact Ob.rc_mv (.string (strOf fs)) (by simp only [execOp, tb25]; go_simp) rfl rfl True.intro
                · intro V S w2 HM HU HE
                  have HM : Mod wc w2 B6 := HM
                  have h1 : V 1 = .string (strOf (fs)) := HU.holds 1 (by decide)
                  have tb113 : (Rg.putUse V [(1, 113), (2, 114)] fr).eval (.tmp 113) = .string (strOf (fs)) := (Rg.use_eval V fr 113 [(1, 113), (2, 114)] (by simp only [hz]; decide)).trans h1
                  have h2 : V 2 = .string (strOf fs) := HU.holds 2 (by decide)
                  have tb114 : (Rg.putUse V [(1, 113), (2, 114)] fr).eval (.tmp 114) = .string (strOf fs) := (Rg.use_eval V fr 114 [(1, 113), (2, 114)] (by simp only [hz]; decide)).trans h2
                  show Rg.Does1 _ _ V (Rg.putUse V [(1, 113), (2, 114)] fr) w2 _
                  exact Ob.rc_mv (.bool true) (by simp only [execOp, tb113, tb114]; go_simp) rfl rfl True.intro
                · intro V S w2 HM HU HE
                  have HM : Mod wc w2 B6 := HM
                  have h3 : V 3 = .bool true := HU.holds 3 (by decide)
                  have tb115 : (Rg.putUse V [(3, 115)] fr).eval (.tmp 115) = .bool true := (Rg.use_eval V fr 115 [(3, 115)] (by simp only [hz]; decide)).trans h3
                  show Rg.Does1 _ _ V (Rg.putUse V [(3, 115)] fr) w2 _
                  exact Ob.rc_mv (.bool true) (by simp only [execOp, tb115]; go_simp) rfl rfl True.intro
                · intro V S w2 HM HU HE
                  have HM : Mod wc w2 B6 := HM
                  have h4 : V 4 = .bool true := HU.holds 4 (by decide)
                  have tb21 : (Rg.putUse V [(4, 116)] fr).eval (.tmp 21) = .slice Xy mi.length cy := (Rg.use_eval V fr 21 [(4, 116)] (by simp only [hz]; decide)).trans y21
                  show Rg.Does1 _ _ V (Rg.putUse V [(4, 116)] fr) w2 _
                  exact Ob.rc_mv (.slice Xy mi.length cy) (by simp only [execOp, tb21]; go_simp) rfl rfl h4
                · intro V S w2 HM HU HE
                  have HM : Mod wc w2 B6 := HM
                  have h4 : V 4 = .bool true := HU.holds 4 (by decide)
                  have h5 : V 5 = .slice Xy mi.length cy := HU.holds 5 (by decide)
                  have tb117 : (Rg.putUse V [(4, 116), (5, 117)] fr).eval (.tmp 117) = .slice Xy mi.length cy := (Rg.use_eval V fr 117 [(4, 116), (5, 117)] (by simp only [hz]; decide)).trans h5
                  show Rg.Does1 _ _ V (Rg.putUse V [(4, 116), (5, 117)] fr) w2 _
                  exact Ob.rc_str (mi) rfl tb117 (by first | rfl | simp) (Ob.rd_mod HY.out.1 HM HY.out.2) rfl rfl h4
                · intro V S w2 HM HU HE
                  have HM : Mod wc w2 B6 := HM
                  have h4 : V 4 = .bool true := HU.holds 4 (by decide)
                  have tb14 : (Rg.putUse V [(4, 116)] fr).eval (.tmp 14) = .slice Xb b.length cb := (Rg.use_eval V fr 14 [(4, 116)] (by simp only [hz]; decide)).trans y14
                  show Rg.Does1 _ _ V (Rg.putUse V [(4, 116)] fr) w2 _
                  exact Ob.rc_mv (.slice Xb b.length cb) (by simp only [execOp, tb14]; go_simp) rfl rfl h4
                · intro V S w2 HM HU HE
                  have HM : Mod wc w2 B6 := HM
                  have h4 : V 4 = .bool true := HU.holds 4 (by decide)
                  have tb16 : (Rg.putUse V [(4, 116)] fr).eval (.tmp 16) = .int .i64 ((n : Nat) : Int) := (Rg.use_eval V fr 16 [(4, 116)] (by simp only [hz]; decide)).trans y16
                  show Rg.Does1 _ _ V (Rg.putUse V [(4, 116)] fr) w2 _
                  exact Ob.rc_mv (.int .i64 ((n : Nat) : Int)) (by simp only [execOp, tb16]; go_simp) rfl rfl h4
                · intro V S w2 HM HU HE
                  have HM : Mod wc w2 B6 := HM
                  have h4 : V 4 = .bool true := HU.holds 4 (by decide)
                  have h7 : V 7 = .slice Xb b.length cb := HU.holds 7 (by decide)
                  have tb119 : (Rg.putUse V [(4, 116), (7, 119), (8, 120)] fr).eval (.tmp 119) = .slice Xb b.length cb := (Rg.use_eval V fr 119 [(4, 116), (7, 119), (8, 120)] (by simp only [hz]; decide)).trans h7
                  have h8 : V 8 = .int .i64 ((n : Nat) : Int) := HU.holds 8 (by decide)
                  have tb120 : (Rg.putUse V [(4, 116), (7, 119), (8, 120)] fr).eval (.tmp 120) = .int .i64 ((n : Nat) : Int) := (Rg.use_eval V fr 120 [(4, 116), (7, 119), (8, 120)] (by simp only [hz]; decide)).trans h8
                  show Rg.Does1 _ _ V (Rg.putUse V [(4, 116), (7, 119), (8, 120)] fr) w2 _
                  exact Ob.rc_slh rfl tb119 tb120 (hslb.out w2) rfl rfl h4
                · intro V S w2 HM HU HE
                  have HM : Mod wc w2 B6 := HM
                  have h4 : V 4 = .bool true := HU.holds 4 (by decide)
                  have h9 : V 9 = .slice Xb rb.length cb := HU.holds 9 (by decide)
                  have tb121 : (Rg.putUse V [(4, 116), (9, 121)] fr).eval (.tmp 121) = .slice Xb rb.length cb := (Rg.use_eval V fr 121 [(4, 116), (9, 121)] (by simp only [hz]; decide)).trans h9
                  show Rg.Does1 _ _ V (Rg.putUse V [(4, 116), (9, 121)] fr) w2 _
                  exact Ob.rc_str (rb) rfl tb121 (by first | rfl | simp) (HRB.out _ (Ob.rd_mod HB.out.1 HM HB.out.2)) rfl rfl h4
                · intro V S w2 HM HU HE
                  have HM : Mod wc w2 B6 := HM
                  have h4 : V 4 = .bool true := HU.holds 4 (by decide)
                  have tb13 : (Rg.putUse V [(4, 116)] fr).eval (.tmp 13) = .slice Xa a.length ca := (Rg.use_eval V fr 13 [(4, 116)] (by simp only [hz]; decide)).trans y13
                  show Rg.Does1 _ _ V (Rg.putUse V [(4, 116)] fr) w2 _
                  exact Ob.rc_mv (.slice Xa a.length ca) (by simp only [execOp, tb13]; go_simp) rfl rfl h4
                · intro V S w2 HM HU HE
                  have HM : Mod wc w2 B6 := HM
                  have h4 : V 4 = .bool true := HU.holds 4 (by decide)
                  have tb16 : (Rg.putUse V [(4, 116)] fr).eval (.tmp 16) = .int .i64 ((n : Nat) : Int) := (Rg.use_eval V fr 16 [(4, 116)] (by simp only [hz]; decide)).trans y16
                  show Rg.Does1 _ _ V (Rg.putUse V [(4, 116)] fr) w2 _
                  exact Ob.rc_mv (.int .i64 ((n : Nat) : Int)) (by simp only [execOp, tb16]; go_simp) rfl rfl h4
                · intro V S w2 HM HU HE
                  have HM : Mod wc w2 B6 := HM
                  have h4 : V 4 = .bool true := HU.holds 4 (by decide)
                  have h11 : V 11 = .slice Xa a.length ca := HU.holds 11 (by decide)
                  have tb123 : (Rg.putUse V [(4, 116), (11, 123), (12, 124)] fr).eval (.tmp 123) = .slice Xa a.length ca := (Rg.use_eval V fr 123 [(4, 116), (11, 123), (12, 124)] (by simp only [hz]; decide)).trans h11
                  have h12 : V 12 = .int .i64 ((n : Nat) : Int) := HU.holds 12 (by decide)
                  have tb124 : (Rg.putUse V [(4, 116), (11, 123), (12, 124)] fr).eval (.tmp 124) = .int .i64 ((n : Nat) : Int) := (Rg.use_eval V fr 124 [(4, 116), (11, 123), (12, 124)] (by simp only [hz]; decide)).trans h12
                  show Rg.Does1 _ _ V (Rg.putUse V [(4, 116), (11, 123), (12, 124)] fr) w2 _
                  exact Ob.rc_sll rfl tb123 tb124 (hsla.out w2) rfl rfl h4
                · intro V S w2 HM HU HE
                  have HM : Mod wc w2 B6 := HM
                  have h4 : V 4 = .bool true := HU.holds 4 (by decide)
                  have h13 : V 13 = .slice Xr ra.length cr := HU.holds 13 (by decide)
                  have tb125 : (Rg.putUse V [(4, 116), (13, 125)] fr).eval (.tmp 125) = .slice Xr ra.length cr := (Rg.use_eval V fr 125 [(4, 116), (13, 125)] (by simp only [hz]; decide)).trans h13
                  show Rg.Does1 _ _ V (Rg.putUse V [(4, 116), (13, 125)] fr) w2 _
                  exact Ob.rc_str (ra) rfl tb125 (by first | rfl | simp) (HRA.out _ (Ob.rd_mod HA.out.1 HM HA.out.2)) rfl rfl h4
                · intro V S w2 HM HU HE
                  have HM : Mod wc w2 B6 := HM
                  have h4 : V 4 = .bool true := HU.holds 4 (by decide)
                  have h10 : V 10 = .string (strOf (rb)) := HU.holds 10 (by decide)
                  have tb122 : (Rg.putUse V [(4, 116), (10, 122), (14, 126)] fr).eval (.tmp 122) = .string (strOf (rb)) := (Rg.use_eval V fr 122 [(4, 116), (10, 122), (14, 126)] (by simp only [hz]; decide)).trans h10
                  have h14 : V 14 = .string (strOf (ra)) := HU.holds 14 (by decide)
                  have tb126 : (Rg.putUse V [(4, 116), (10, 122), (14, 126)] fr).eval (.tmp 126) = .string (strOf (ra)) := (Rg.use_eval V fr 126 [(4, 116), (10, 122), (14, 126)] (by simp only [hz]; decide)).trans h14
                  show Rg.Does1 _ _ V (Rg.putUse V [(4, 116), (10, 122), (14, 126)] fr) w2 _
                  have hcat := HCAT.out
                  have hsz := HSZ.out
                  exact Ob.rc_mv (.string (strOf mi)) (by simp only [execOp, tb122, tb126]; go_simp) rfl rfl h4
                · intro V S w2 HM HU HE
                  have HM : Mod wc w2 B6 := HM
                  have h4 : V 4 = .bool true := HU.holds 4 (by decide)
                  have h6 : V 6 = .string (strOf (mi)) := HU.holds 6 (by decide)
                  have tb118 : (Rg.putUse V [(4, 116), (6, 118), (15, 127)] fr).eval (.tmp 118) = .string (strOf (mi)) := (Rg.use_eval V fr 118 [(4, 116), (6, 118), (15, 127)] (by simp only [hz]; decide)).trans h6
                  have h15 : V 15 = .string (strOf mi) := HU.holds 15 (by decide)
                  have tb127 : (Rg.putUse V [(4, 116), (6, 118), (15, 127)] fr).eval (.tmp 127) = .string (strOf mi) := (Rg.use_eval V fr 127 [(4, 116), (6, 118), (15, 127)] (by simp only [hz]; decide)).trans h15
                  show Rg.Does1 _ _ V (Rg.putUse V [(4, 116), (6, 118), (15, 127)] fr) w2 _
                  exact Ob.rc_mv (.bool true) (by simp only [execOp, tb118, tb127]; go_simp) rfl rfl h4
                · intro V S w2 HM HU HE
                  have HM : Mod wc w2 B6 := HM
                  have h4 : V 4 = .bool true := HU.holds 4 (by decide)
                  have tb116 : (Rg.putUse V [(4, 116), (16, 128)] fr).eval (.tmp 116) = .bool true := (Rg.use_eval V fr 116 [(4, 116), (16, 128)] (by simp only [hz]; decide)).trans h4
                  have h16 : V 16 = .bool true := HU.holds 16 (by decide)
                  have tb128 : (Rg.putUse V [(4, 116), (16, 128)] fr).eval (.tmp 128) = .bool true := (Rg.use_eval V fr 128 [(4, 116), (16, 128)] (by simp only [hz]; decide)).trans h16
                  show Rg.Does1 _ _ V (Rg.putUse V [(4, 116), (16, 128)] fr) w2 _
                  exact Ob.rc_mv (.bool true) (by simp only [execOp, tb116, tb128]; go_simp) rfl rfl True.intro
                · intro V S w2 HM HU HE
                  have HM : Mod wc w2 B6 := HM
                  have h17 : V 17 = .bool true := HU.holds 17 (by decide)
                  have tb129 : (Rg.putUse V [(17, 129)] fr).eval (.tmp 129) = .bool true := (Rg.use_eval V fr 129 [(17, 129)] (by simp only [hz]; decide)).trans h17
                  show Rg.Does1 _ _ V (Rg.putUse V [(17, 129)] fr) w2 _
                  exact Ob.rc_mv (.bool true) (by simp only [execOp, tb129]; go_simp) rfl rfl True.intro
                · intro V S w2 HM HU HE
                  have HM : Mod wc w2 B6 := HM
                  have h18 : V 18 = .bool true := HU.holds 18 (by decide)
                  have tb23 : (Rg.putUse V [(18, 130)] fr).eval (.tmp 23) = .slice Xz la.length cz := (Rg.use_eval V fr 23 [(18, 130)] (by simp only [hz]; decide)).trans y23
                  show Rg.Does1 _ _ V (Rg.putUse V [(18, 130)] fr) w2 _
                  exact Ob.rc_mv (.slice Xz la.length cz) (by simp only [execOp, tb23]; go_simp) rfl rfl h18
                · intro V S w2 HM HU HE
                  have HM : Mod wc w2 B6 := HM
                  have h18 : V 18 = .bool true := HU.holds 18 (by decide)
                  have h19 : V 19 = .slice Xz la.length cz := HU.holds 19 (by decide)
                  have tb131 : (Rg.putUse V [(18, 130), (19, 131)] fr).eval (.tmp 131) = .slice Xz la.length cz := (Rg.use_eval V fr 131 [(18, 130), (19, 131)] (by simp only [hz]; decide)).trans h19
                  show Rg.Does1 _ _ V (Rg.putUse V [(18, 130), (19, 131)] fr) w2 _
                  exact Ob.rc_str (la) rfl tb131 (by first | rfl | simp) (Ob.rd_mod HZ.out.1 HM HZ.out.2) rfl rfl h18
                · intro V S w2 HM HU HE
                  have HM : Mod wc w2 B6 := HM
                  have h18 : V 18 = .bool true := HU.holds 18 (by decide)
                  have tb26 : (Rg.putUse V [(18, 130)] fr).eval (.tmp 26) = .string (strOf la) := (Rg.use_eval V fr 26 [(18, 130)] (by simp only [hz]; decide)).trans y26
                  show Rg.Does1 _ _ V (Rg.putUse V [(18, 130)] fr) w2 _
                  exact Ob.rc_mv (.string (strOf la)) (by simp only [execOp, tb26]; go_simp) rfl rfl h18
                · intro V S w2 HM HU HE
                  have HM : Mod wc w2 B6 := HM
                  have h18 : V 18 = .bool true := HU.holds 18 (by decide)
                  have h20 : V 20 = .string (strOf (la)) := HU.holds 20 (by decide)
                  have tb132 : (Rg.putUse V [(18, 130), (20, 132), (21, 133)] fr).eval (.tmp 132) = .string (strOf (la)) := (Rg.use_eval V fr 132 [(18, 130), (20, 132), (21, 133)] (by simp only [hz]; decide)).trans h20
                  have h21 : V 21 = .string (strOf la) := HU.holds 21 (by decide)
                  have tb133 : (Rg.putUse V [(18, 130), (20, 132), (21, 133)] fr).eval (.tmp 133) = .string (strOf la) := (Rg.use_eval V fr 133 [(18, 130), (20, 132), (21, 133)] (by simp only [hz]; decide)).trans h21
                  show Rg.Does1 _ _ V (Rg.putUse V [(18, 130), (20, 132), (21, 133)] fr) w2 _
                  exact Ob.rc_mv (.bool true) (by simp only [execOp, tb132, tb133]; go_simp) rfl rfl h18
                · intro V S w2 HM HU HE
                  have HM : Mod wc w2 B6 := HM
                  have h18 : V 18 = .bool true := HU.holds 18 (by decide)
                  have tb130 : (Rg.putUse V [(18, 130), (22, 134)] fr).eval (.tmp 130) = .bool true := (Rg.use_eval V fr 130 [(18, 130), (22, 134)] (by simp only [hz]; decide)).trans h18
                  have h22 : V 22 = .bool true := HU.holds 22 (by decide)
                  have tb134 : (Rg.putUse V [(18, 130), (22, 134)] fr).eval (.tmp 134) = .bool true := (Rg.use_eval V fr 134 [(18, 130), (22, 134)] (by simp only [hz]; decide)).trans h22
                  show Rg.Does1 _ _ V (Rg.putUse V [(18, 130), (22, 134)] fr) w2 _
                  exact Ob.rc_mv (.bool true) (by simp only [execOp, tb130, tb134]; go_simp) rfl rfl True.intro
                · intro V S w2 HM HU HE
                  have HM : Mod wc w2 B6 := HM
                  have h23 : V 23 = .bool true := HU.holds 23 (by decide)
                  have tb135 : (Rg.putUse V [(23, 135)] fr).eval (.tmp 135) = .bool true := (Rg.use_eval V fr 135 [(23, 135)] (by simp only [hz]; decide)).trans h23
                  show Rg.Does1 _ _ V (Rg.putUse V [(23, 135)] fr) w2 _
                  exact Ob.rc_mv (.bool true) (by simp only [execOp, tb135]; go_simp) rfl rfl True.intro
                · intro V S w2 HM HU HE
                  have HM : Mod wc w2 B6 := HM
                  have h24 : V 24 = .bool true := HU.holds 24 (by decide)
                  have tb11 : (Rg.putUse V [(24, 136)] fr).eval (.tmp 11) = .pointer (some a0) := (Rg.use_eval V fr 11 [(24, 136)] (by simp only [hz]; decide)).trans y11
                  show Rg.Does1 _ _ V (Rg.putUse V [(24, 136)] fr) w2 _
                  exact Ob.rc_mv (.pointer (some a0)) (by simp only [execOp, tb11]; go_simp) rfl rfl h24
                · intro V S w2 HM HU HE
                  have HM : Mod wc w2 B6 := HM
                  have h24 : V 24 = .bool true := HU.holds 24 (by decide)
                  have h25 : V 25 = .pointer (some a0) := HU.holds 25 (by decide)
                  have tb137 : (Rg.putUse V [(24, 136), (25, 137)] fr).eval (.tmp 137) = .pointer (some a0) := (Rg.use_eval V fr 137 [(24, 136), (25, 137)] (by simp only [hz]; decide)).trans h25
                  show Rg.Does1 _ _ V (Rg.putUse V [(24, 136), (25, 137)] fr) w2 _
                  obtain ⟨S1, hat, _, _⟩ := (HU.holds 39 (by decide)).2
                  exact Ob.step_slen 0 #[.pointer (some a0)] (fun args w => Rg.call_enter Try.func17 (by kernel_rfl) (by kernel_rfl) args w) rfl (by simp only [List.map_toArray, List.map_cons, List.map_nil, tb137]) rfl (fun x => Rg.alias_none rfl V x) h24 (by have := D.dirty hat; rw [HQ4.out] at this; exact this.mono fun e w' ⟨x, h1, ⟨X, c, h2, _, _, _⟩, h3⟩ => ⟨X, c, by rw [h1, h2]; rfl, h3⟩)
                · intro V S w2 HM HU HE
                  have HM : Mod wc w2 B6 := HM
                  have h24 : V 24 = .bool true := HU.holds 24 (by decide)
                  obtain ⟨X26, k26, e26⟩ := HU.holds 26 (by decide)
                  have tb138 : (Rg.putUse V [(24, 136), (26, 138)] fr).eval (.tmp 138) = .slice X26 0 k26 := (Rg.use_eval V fr 138 [(24, 136), (26, 138)] (by simp only [hz]; decide)).trans e26
                  show Rg.Does1 _ _ V (Rg.putUse V [(24, 136), (26, 138)] fr) w2 _
                  exact Ob.rc_mv (.int .i64 ((0 : Nat) : Int)) (by simp only [execOp, resolve, List.map_toArray, List.map_cons, List.map_nil, tb138]; go_simp) rfl rfl h24
                · intro V S w2 HM HU HE
                  have HM : Mod wc w2 B6 := HM
                  have h24 : V 24 = .bool true := HU.holds 24 (by decide)
                  have h27 : V 27 = .int .i64 ((0 : Nat) : Int) := HU.holds 27 (by decide)
                  have tb139 : (Rg.putUse V [(24, 136), (27, 139)] fr).eval (.tmp 139) = .int .i64 ((0 : Nat) : Int) := (Rg.use_eval V fr 139 [(24, 136), (27, 139)] (by simp only [hz]; decide)).trans h27
                  show Rg.Does1 _ _ V (Rg.putUse V [(24, 136), (27, 139)] fr) w2 _
                  exact Ob.rc_mv (.bool true) (by simp only [execOp, tb139]; go_simp) rfl rfl h24
                · intro V S w2 HM HU HE
                  have HM : Mod wc w2 B6 := HM
                  have h24 : V 24 = .bool true := HU.holds 24 (by decide)
                  have tb136 : (Rg.putUse V [(24, 136), (28, 140)] fr).eval (.tmp 136) = .bool true := (Rg.use_eval V fr 136 [(24, 136), (28, 140)] (by simp only [hz]; decide)).trans h24
                  have h28 : V 28 = .bool true := HU.holds 28 (by decide)
                  have tb140 : (Rg.putUse V [(24, 136), (28, 140)] fr).eval (.tmp 140) = .bool true := (Rg.use_eval V fr 140 [(24, 136), (28, 140)] (by simp only [hz]; decide)).trans h28
                  show Rg.Does1 _ _ V (Rg.putUse V [(24, 136), (28, 140)] fr) w2 _
                  exact Ob.rc_mv (.bool true) (by simp only [execOp, tb136, tb140]; go_simp) rfl rfl True.intro
                · intro V S w2 HM HU HE
                  have HM : Mod wc w2 B6 := HM
                  have h29 : V 29 = .bool true := HU.holds 29 (by decide)
                  have tb141 : (Rg.putUse V [(29, 141)] fr).eval (.tmp 141) = .bool true := (Rg.use_eval V fr 141 [(29, 141)] (by simp only [hz]; decide)).trans h29
                  show Rg.Does1 _ _ V (Rg.putUse V [(29, 141)] fr) w2 _
                  exact Ob.rc_mv (.bool true) (by simp only [execOp, tb141]; go_simp) rfl rfl True.intro
                · intro V S w2 HM HU HE
                  have HM : Mod wc w2 B6 := HM
                  have h30 : V 30 = .bool true := HU.holds 30 (by decide)
                  have tb11 : (Rg.putUse V [(30, 142)] fr).eval (.tmp 11) = .pointer (some a0) := (Rg.use_eval V fr 11 [(30, 142)] (by simp only [hz]; decide)).trans y11
                  show Rg.Does1 _ _ V (Rg.putUse V [(30, 142)] fr) w2 _
                  exact Ob.rc_mv (.pointer (some a0)) (by simp only [execOp, tb11]; go_simp) rfl rfl h30
                · intro V S w2 HM HU HE
                  have HM : Mod wc w2 B6 := HM
                  have h30 : V 30 = .bool true := HU.holds 30 (by decide)
                  have h31 : V 31 = .pointer (some a0) := HU.holds 31 (by decide)
                  have tb143 : (Rg.putUse V [(30, 142), (31, 143)] fr).eval (.tmp 143) = .pointer (some a0) := (Rg.use_eval V fr 143 [(30, 142), (31, 143)] (by simp only [hz]; decide)).trans h31
                  show Rg.Does1 _ _ V (Rg.putUse V [(30, 142), (31, 143)] fr) w2 _
                  obtain ⟨S1, hat, _, _⟩ := (HU.holds 39 (by decide)).2
                  exact Ob.step_tell (.int .i64 6) #[.pointer (some a0)] (fun args w => Rg.call_enter Try.func24 (by kernel_rfl) (by kernel_rfl) args w) rfl (by simp only [List.map_toArray, List.map_cons, List.map_nil, tb143]) rfl (fun x => Rg.alias_none rfl V x) h30 (by have := D.writes hat (by rw [HQ5.out]; omega); rw [HQ5.out] at this; exact this)
                · intro V S w2 HM HU HE
                  have HM : Mod wc w2 B6 := HM
                  have h30 : V 30 = .bool true := HU.holds 30 (by decide)
                  have h32 : V 32 = .int .i64 6 := HU.holds 32 (by decide)
                  have tb144 : (Rg.putUse V [(30, 142), (32, 144)] fr).eval (.tmp 144) = .int .i64 6 := (Rg.use_eval V fr 144 [(30, 142), (32, 144)] (by simp only [hz]; decide)).trans h32
                  show Rg.Does1 _ _ V (Rg.putUse V [(30, 142), (32, 144)] fr) w2 _
                  exact Ob.rc_mv (.bool true) (by simp only [execOp, tb144]; go_simp) rfl rfl h30
                · intro V S w2 HM HU HE
                  have HM : Mod wc w2 B6 := HM
                  have h30 : V 30 = .bool true := HU.holds 30 (by decide)
                  have tb142 : (Rg.putUse V [(30, 142), (33, 145)] fr).eval (.tmp 142) = .bool true := (Rg.use_eval V fr 142 [(30, 142), (33, 145)] (by simp only [hz]; decide)).trans h30
                  have h33 : V 33 = .bool true := HU.holds 33 (by decide)
                  have tb145 : (Rg.putUse V [(30, 142), (33, 145)] fr).eval (.tmp 145) = .bool true := (Rg.use_eval V fr 145 [(30, 142), (33, 145)] (by simp only [hz]; decide)).trans h33
                  show Rg.Does1 _ _ V (Rg.putUse V [(30, 142), (33, 145)] fr) w2 _
                  exact Ob.rc_mv (.bool true) (by simp only [execOp, tb142, tb145]; go_simp) rfl rfl True.intro
                · intro V S w2 HM HU HE
                  have HM : Mod wc w2 B6 := HM
                  have h34 : V 34 = .bool true := HU.holds 34 (by decide)
                  have tb146 : (Rg.putUse V [(34, 146)] fr).eval (.tmp 146) = .bool true := (Rg.use_eval V fr 146 [(34, 146)] (by simp only [hz]; decide)).trans h34
                  show Rg.Does1 _ _ V (Rg.putUse V [(34, 146)] fr) w2 _
                  exact Ob.rc_mv (.bool true) (by simp only [execOp, tb146]; go_simp) rfl rfl True.intro
                · intro V S w2 HM HU HE
                  have HM : Mod wc w2 B6 := HM
                  have h35 : V 35 = .bool true := HU.holds 35 (by decide)
                  show Rg.Does1 _ _ V (Rg.putUse V [(35, 147)] fr) w2 _
                  exact Ob.step_tell (.bool true) #[] (fun args w => Rg.call_enter Try.func18 (by kernel_rfl) (by kernel_rfl) args w) rfl (by simp only [List.map_toArray, List.map_cons, List.map_nil]) rfl (fun x => Rg.alias_none rfl V x) h35 (known5_any D w2)
                · intro V S w2 HM HU HE
                  have HM : Mod wc w2 B6 := HM
                  have h35 : V 35 = .bool true := HU.holds 35 (by decide)
                  have tb147 : (Rg.putUse V [(35, 147), (36, 148)] fr).eval (.tmp 147) = .bool true := (Rg.use_eval V fr 147 [(35, 147), (36, 148)] (by simp only [hz]; decide)).trans h35
                  have h36 : V 36 = .bool true := HU.holds 36 (by decide)
                  have tb148 : (Rg.putUse V [(35, 147), (36, 148)] fr).eval (.tmp 148) = .bool true := (Rg.use_eval V fr 148 [(35, 147), (36, 148)] (by simp only [hz]; decide)).trans h36
                  show Rg.Does1 _ _ V (Rg.putUse V [(35, 147), (36, 148)] fr) w2 _
                  exact Ob.rc_mv (.bool true) (by simp only [execOp, tb147, tb148]; go_simp) rfl rfl True.intro
                · intro V S w2 HM HU HE
                  have HM : Mod wc w2 B6 := HM
                  have h37 : V 37 = .bool true := HU.holds 37 (by decide)
                  have tb149 : (Rg.putUse V [(37, 149)] fr).eval (.tmp 149) = .bool true := (Rg.use_eval V fr 149 [(37, 149)] (by simp only [hz]; decide)).trans h37
                  show Rg.Does1 _ _ V (Rg.putUse V [(37, 149)] fr) w2 _
                  exact Ob.rc_mv (.bool true) (by simp only [execOp, tb149]; go_simp) rfl rfl True.intro
              · intro V S w2 HI
                have hb : V 38 = .bool true := HI.get 38 (by decide) (by rfl)
                have HT2 := Lib.hid (one.after HI.mod.undrew (HI.get 39 (by decide) (by rfl)).2)
                have HM2 : Hid (Mod wc w2 B6) := HI.mod.undrew
                simp only [Rg.putList, Act.put, List.setIfInBounds_toArray, List.set_cons_zero, List.set_cons_succ, Nat.zero_add, Nat.reduceAdd]
                rw [hb]
                clear HI hb one HT
                obtain ⟨B9, h9⟩ := HT2.out
                have HLO := Lib.hid h9.low
                clear h9 HT2 HM2
                go_wp2_with fail
                go_ret
                exact ⟨rfl, HLO.out⟩
end Go.Proofs.Ytenedgapjbmpgaa

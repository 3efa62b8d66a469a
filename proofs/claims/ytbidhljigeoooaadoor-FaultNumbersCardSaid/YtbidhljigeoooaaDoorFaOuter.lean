/-
  OWN WORK. FaultOuter by its walk, given what package fault's calls do.
-/
import Derived.Test.YtbidhljigeoooaaDoorFaChainsN
namespace Go.Proofs.YtbidhljigeoooaaDoor
open Go.RowKit

set_option maxRecDepth 100000 in
set_option maxHeartbeats 1000000 in
theorem outer_any (hW : WrapSaid) (hE : ErrorSaid) (hC : CodeSaid) (hI : IsSaid) (hWh : WhereSaid) (hD : DepthSaid) (ls : List (ByteArray × ByteArray)) (v0 v : Value) (n0 : Nat) (code : Int) (op path : ByteArray) (n : Nat) (w : World)
    (hcut : CutTo 20 v0 v n0 ls.length) (hv : LinksAt w ls v) (hl : ls.length ≤ 20) (hg : ErrT w) (hsz : ∀ q ∈ ls, q.1.size ≤ 9223372036854775807 ∧ q.2.size ≤ 9223372036854775807) (hcode : withinI code 1 300 = n) (hn0 : 0 < n) (hn1 : n ≤ 300)
    (b0 : -9223372036854775808 ≤ code) (b1 : code ≤ 9223372036854775807) (hm : n0 ≤ 9223372036854775807) (ho : op.size ≤ 9223372036854775807) (hp : path.size ≤ 9223372036854775807) :
    Calls Tryd.prog 6 #[v0, .int .i64 code, .string op, .string path] w fun e w' => e = .returned (.bool true) ∧ Below w.heap.size w w' := by
  have HG : Hid (ErrT w) := hg
  have HV : Hid (LinksAt w ls v) := hv
  have HSZ : Hid (∀ q ∈ ls, q.1.size ≤ 9223372036854775807 ∧ q.2.size ≤ 9223372036854775807) := hsz
  have HW := Lib.hid hW
  have HE := Lib.hid hE
  have HC := Lib.hid hC
  have HI := Lib.hid hI
  have HWh := Lib.hid hWh
  have HD := Lib.hid hD
  have HK : Hid (withinI code 1 300 = n) := hcode
  clear hW hE hC hD hI hWh hg hv hsz hcode
  have hwi := within_any code 1 300 w (by omega) (by omega) (by omega) b0 b1
  rw [HK.out] at hwi
  have HWI := Lib.hid hwi
  clear hwi
  have HNZ : Hid ((n : Int) ≠ 0) := by show (n : Int) ≠ 0; omega
  have HSM : Hid (Small (heads ls).reverse) := by
    have := heads_small ls (by omega) (heads ls).length
    rw [List.take_length] at this
    exact this
  have c1 := head_any op 20 w ho (by omega)
  have c2 := head_any path 30 w hp (by omega)
  have y1 := headB_size op 20
  have y2 := headB_size path 30
  generalize hA : headB op 20 = A at *
  generalize hB : headB path 30 = B at *
  have C1 := Lib.hid c1
  have C2 := Lib.hid c2
  have HAA := Lib.hid hA
  have HBB := Lib.hid hB
  have HSM1 : Hid (Small ((A, B) :: (heads ls).reverse)) := by
    refine ⟨by have := HSM.out.1; simp at this ⊢; simp [heads] at this ⊢; omega, fun q hq => ?_⟩
    rcases List.mem_cons.1 hq with rfl | hq
    · exact ⟨by show A.size ≤ 100; omega, by show B.size ≤ 100; omega⟩
    · exact HSM.out.2 q hq
  clear c1 c2 hA hB
  rcases hcut with ⟨h30, rfl, hn, a, cap, rfl⟩ | ⟨h30, hn, b, off, cap, rfl, rfl, hc1, hc2, hc3⟩
  all_goals
    have HLN : Hid (ls.length = _) := hn
    clear hn
    go_enter Tryd.func6, Tryd.ntmps6
    go_wp2_with fail
    refine HWI.out.mono ?_
    rintro e w' ⟨rfl, rfl⟩
    go_wp2_with fail
    refine C1.out.mono ?_
    rintro e w' ⟨rfl, rfl⟩
    go_wp2_with fail
    refine C2.out.mono ?_
    rintro e w' ⟨rfl, rfl⟩
    go_wp2_with fail
    refine (chain_num HW.out ls _ (n : Int) w HV.out (by omega) HNZ.out HG.out HSZ.out).mono ?_
    rintro e w0 ⟨x, rfl, hch, hb⟩
    obtain ⟨tx, px, rfl⟩ : ∃ tx px, x = .iface tx px := by
      rcases chain_top hch with rfl | ⟨b', rfl⟩
      · exact ⟨_, _, rfl⟩
      · exact ⟨_, _, rfl⟩
    have HA0 : Hid (Chain w0 (heads ls).reverse (.num n) (.iface tx px)) := hch
    have HB0 : Hid (Below w.heap.size w w0) := hb
    have HXN : Hid (Value.iface tx px ≠ .nilIface) := by show _ ≠ _; simp
    clear hb hch
    go_wp2_with fail
    refine (HW.out A B _ (.num n) _ w0 HA0.out HNZ.out HSM.out (HG.out.below HB0.out)).mono ?_
    rintro e w1 ⟨bb, rfl, hch, hb⟩
    have HB1 : Hid (Below w.heap.size w w1) := HB0.out.trans (hb.mono HB0.out.size)
    have HA1 : Hid (Chain w1 (heads ls).reverse (.num n) (.iface tx px)) := HA0.out.below hb
    have HX1 : Hid (Chain w1 ((A, B) :: (heads ls).reverse) (.num n) (.iface 28 (.pointer (some ⟨bb, 0, none⟩)))) := hch
    clear hb hch
    go_wp2_with fail
    refine (HWh.out _ (.num n) _ w1 HX1.out HSM1.out (HG.out.below HB1.out)).mono ?_
    rintro e w2 ⟨rfl, hb⟩
    have HB2 : Hid (Below w.heap.size w w2) := HB1.out.trans (hb.mono HB1.out.size)
    have HA2 : Hid (Chain w2 (heads ls).reverse (.num n) (.iface tx px)) := HA1.out.below hb
    have HX2 : Hid (Chain w2 ((A, B) :: (heads ls).reverse) (.num n) (.iface 28 (.pointer (some ⟨bb, 0, none⟩)))) := HX1.out.below hb
    clear hb
    simp only []
    go_wp2_with fail
    refine (HC.out _ (.num n) _ w2 HX2.out (by simp) HSM1.out (HG.out.below HB2.out)).mono ?_
    rintro e w3 ⟨rfl, hb⟩
    have HB3 : Hid (Below w.heap.size w w3) := HB2.out.trans (hb.mono HB2.out.size)
    have HA3 : Hid (Chain w3 (heads ls).reverse (.num n) (.iface tx px)) := HA2.out.below hb
    have HX3 : Hid (Chain w3 ((A, B) :: (heads ls).reverse) (.num n) (.iface 28 (.pointer (some ⟨bb, 0, none⟩)))) := HX2.out.below hb
    clear hb
    simp only [Base.code]
    go_wp2_with fail
    refine (HC.out _ (.num n) _ w3 HA3.out HXN.out HSM.out (HG.out.below HB3.out)).mono ?_
    rintro e w4 ⟨rfl, hb⟩
    have HB4 : Hid (Below w.heap.size w w4) := HB3.out.trans (hb.mono HB3.out.size)
    have HA4 : Hid (Chain w4 (heads ls).reverse (.num n) (.iface tx px)) := HA3.out.below hb
    have HX4 : Hid (Chain w4 ((A, B) :: (heads ls).reverse) (.num n) (.iface 28 (.pointer (some ⟨bb, 0, none⟩)))) := HX3.out.below hb
    clear hb
    simp only [Base.code]
    have eL : (heads ls).reverse.length = ls.length := by simp [heads]
    have EL := Lib.hid eL
    clear eL
    go_wp2_with fail
    refine (HD.out _ (.num n) _ w4 HX4.out HSM1.out (HG.out.below HB4.out)).mono ?_
    rintro e w5 ⟨rfl, hb⟩
    have HB5 : Hid (Below w.heap.size w w5) := HB4.out.trans (hb.mono HB4.out.size)
    have HA5 : Hid (Chain w5 (heads ls).reverse (.num n) (.iface tx px)) := HA4.out.below hb
    have HX5 : Hid (Chain w5 ((A, B) :: (heads ls).reverse) (.num n) (.iface 28 (.pointer (some ⟨bb, 0, none⟩)))) := HX4.out.below hb
    clear hb
    rw [List.length_cons, EL.out, HLN.out]
    go_wp2_with fail
    refine (HD.out _ (.num n) _ w5 HA5.out HSM.out (HG.out.below HB5.out)).mono ?_
    rintro e w6 ⟨rfl, hb⟩
    have HB6 : Hid (Below w.heap.size w w6) := HB5.out.trans (hb.mono HB5.out.size)
    have HA6 : Hid (Chain w6 (heads ls).reverse (.num n) (.iface tx px)) := HA5.out.below hb
    have HX6 : Hid (Chain w6 ((A, B) :: (heads ls).reverse) (.num n) (.iface 28 (.pointer (some ⟨bb, 0, none⟩)))) := HX5.out.below hb
    clear hb
    rw [EL.out, HLN.out]
    go_wp2_with fail
    refine (HI.out _ (n : Int) (n : Int) _ w6 HX6.out HSM1.out (HG.out.below HB6.out)).mono ?_
    rintro e w7 ⟨rfl, hb⟩
    have HB7 : Hid (Below w.heap.size w w7) := HB6.out.trans (hb.mono HB6.out.size)
    have HA7 : Hid (Chain w7 (heads ls).reverse (.num n) (.iface tx px)) := HA6.out.below hb
    have HX7 : Hid (Chain w7 ((A, B) :: (heads ls).reverse) (.num n) (.iface 28 (.pointer (some ⟨bb, 0, none⟩)))) := HX6.out.below hb
    clear hb
    rw [show ((n : Int) == n) = true from by simp]
    go_wp2_with fail
    refine (HI.out _ (n : Int) ((n : Int) + 1) _ w7 HX7.out HSM1.out (HG.out.below HB7.out)).mono ?_
    rintro e w8 ⟨rfl, hb⟩
    have HB8 : Hid (Below w.heap.size w w8) := HB7.out.trans (hb.mono HB7.out.size)
    have HA8 : Hid (Chain w8 (heads ls).reverse (.num n) (.iface tx px)) := HA7.out.below hb
    have HX8 : Hid (Chain w8 ((A, B) :: (heads ls).reverse) (.num n) (.iface 28 (.pointer (some ⟨bb, 0, none⟩)))) := HX7.out.below hb
    clear hb
    rw [show ((n : Int) == (n : Int) + 1) = false from by simp; omega]
    go_wp2_with fail
    refine (said_num HE.out _ n _ w8 HX8.out HSM1.out (by omega) (HG.out.below HB8.out)).mono ?_
    rintro e w9 ⟨rfl, hb⟩
    have HB9 : Hid (Below w.heap.size w w9) := HB8.out.trans (hb.mono HB8.out.size)
    have HA9 : Hid (Chain w9 (heads ls).reverse (.num n) (.iface tx px)) := HA8.out.below hb
    have HX9 : Hid (Chain w9 ((A, B) :: (heads ls).reverse) (.num n) (.iface 28 (.pointer (some ⟨bb, 0, none⟩)))) := HX8.out.below hb
    clear hb
    rw [textB]
    have hts := textB_size (heads ls).reverse (errB n) HSM.out.2
    have hes := errB_size n (by omega)
    have hrl := HSM.out.1
    generalize hT : textB (heads ls).reverse (errB n) = T at *
    have HT := Lib.hid hT
    clear hT
    have hTs : T.size ≤ 100000 := by omega
    clear hts hes hrl
    go_wp2_with fail
    refine (said_num HE.out _ n _ w9 HA9.out HSM.out (by omega) (HG.out.below HB9.out)).mono ?_
    rintro e w10 ⟨rfl, hb⟩
    have HB10 : Hid (Below w.heap.size w w10) := HB9.out.trans (hb.mono HB9.out.size)
    have HA10 : Hid (Chain w10 (heads ls).reverse (.num n) (.iface tx px)) := HA9.out.below hb
    have HX10 : Hid (Chain w10 ((A, B) :: (heads ls).reverse) (.num n) (.iface 28 (.pointer (some ⟨bb, 0, none⟩)))) := HX9.out.below hb
    clear hb
    rw [HT.out]
    go_wp2_with fail
    refine (Is_num (n : Int) (n : Int) _ _ w10 HX10.out).mono ?_
    rintro e wz ⟨rfl, rfl⟩
    rw [show ((n : Int) == n) = true from by simp]
    go_wp2_with fail
    refine (known_any HW.out HE.out HC.out HD.out w10 (HG.out.below HB10.out)).mono ?_
    rintro e w11 ⟨rfl, hb⟩
    have HB11 : Hid (Below w.heap.size w w11) := HB10.out.trans (hb.mono HB10.out.size)
    clear hb
    go_wp2
    go_ret
    exact ⟨rfl, HB11.out⟩
end Go.Proofs.YtbidhljigeoooaaDoor

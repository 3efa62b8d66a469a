/-
  OWN WORK. FaultNumbers by its walk, given what package fault's calls do.
-/
import Derived.Test.YtbidhljigeoooaaDoorFaOuter
import Derived.Test.YtbidhljigeoooaaDoorFaIsO
namespace Go.Proofs.YtbidhljigeoooaaDoor
open Go.RowKit

def IsNilSaid : Prop := ∀ (a : Int) (w : World), ErrT w → Calls Tryd.prog 16 #[.nilIface, .int .i64 a] w fun e w' => e = .returned (.bool false) ∧ Below w.heap.size w w'

theorem new_any (s : ByteArray) (w : World) : Calls Tryd.prog 7 #[.string s] w fun e w' => e = .returned (.iface 53 (.pointer (some ⟨w.heap.size, 0, none⟩))) ∧ w' = w.alloc (.cells #[.string s] 55) := by
  go_enter Tryd.func7, Tryd.ntmps7
  go_wp2
  go_ret
  exact ⟨rfl, rfl⟩

set_option maxRecDepth 100000 in
set_option maxHeartbeats 2000000 in
theorem numbers_any (hW : WrapSaid) (hN : WrapNoneSaid) (hE : ErrorSaid) (hC : CodeSaid) (hCN : CodeNilSaid) (hIN : IsNilSaid) (hWh : WhereSaid) (hD : DepthSaid) (w : World) (hg : ErrT w) :
    Calls Tryd.prog 3 #[] w fun e w' => e = .returned (.bool true) ∧ Below w.heap.size w w' := by
  have HW := Lib.hid hW
  have HN := Lib.hid hN
  have HE := Lib.hid hE
  have HC := Lib.hid hC
  have HCN := Lib.hid hCN
  have HIN := Lib.hid hIN
  have HWh := Lib.hid hWh
  have HD := Lib.hid hD
  have HG : Hid (ErrT w) := hg
  have HS1 : Hid (Small [(⟨#[111, 112]⟩, ⟨#[112, 97, 116, 104]⟩)]) := ⟨by decide, by simp; decide⟩
  have HS2 : Hid (Small [(⟨#[109, 111, 114, 101]⟩, ⟨#[115, 116, 105, 108, 108]⟩), (⟨#[111, 112]⟩, ⟨#[112, 97, 116, 104]⟩)]) := ⟨by decide, by simp; decide⟩
  have HS3 : Hid (Small [(⟨#[120]⟩, ⟨#[121]⟩)]) := ⟨by decide, by simp; decide⟩
  have HS0 : Hid (Small []) := ⟨by simp, by simp⟩
  clear hW hN hE hC hCN hIN hWh hD hg
  go_enter Tryd.func3, Tryd.ntmps3
  go_wp2_with fail
  refine (new_any _ w).mono ?_
  rintro e w0 ⟨rfl, hw0⟩
  obtain ⟨b0, hb0⟩ : ∃ b0, b0 = w.heap.size := ⟨_, rfl⟩
  rw [← hb0]
  have HO0 : Hid (Chain w0 [] (.other b0) (.iface 53 (.pointer (some ⟨b0, 0, none⟩)))) := rfl
  have HZ0 : Hid (Below w.heap.size w w0) := by rw [hw0]; exact (Below.refl _ _).alloc (Nat.le_refl _) _
  clear hw0 hb0
  go_wp2_with fail
  refine (HW.out _ _ [] (.other b0) _ w0 HO0.out trivial HS0.out (HG.out.below HZ0.out)).mono ?_
  rintro e w1 ⟨ba, rfl, hch, hb⟩
  have HZ1 : Hid (Below w.heap.size w w1) := HZ0.out.trans (hb.mono HZ0.out.size)
  have HO1 : Hid (Chain w1 [] (.other b0) (.iface 53 (.pointer (some ⟨b0, 0, none⟩)))) := HO0.out.below hb
  have HA1 : Hid (Chain w1 [(⟨#[111, 112]⟩, ⟨#[112, 97, 116, 104]⟩)] (.other b0) (.iface 28 (.pointer (some ⟨ba, 0, none⟩)))) := hch
  clear hb hch
  go_wp2_with fail
  refine (HW.out _ _ [(⟨#[111, 112]⟩, ⟨#[112, 97, 116, 104]⟩)] (.other b0) _ w1 HA1.out trivial HS1.out (HG.out.below HZ1.out)).mono ?_
  rintro e w2 ⟨bb, rfl, hch, hb⟩
  have HZ2 : Hid (Below w.heap.size w w2) := HZ1.out.trans (hb.mono HZ1.out.size)
  have HO2 : Hid (Chain w2 [] (.other b0) (.iface 53 (.pointer (some ⟨b0, 0, none⟩)))) := HO1.out.below hb
  have HA2 : Hid (Chain w2 [(⟨#[111, 112]⟩, ⟨#[112, 97, 116, 104]⟩)] (.other b0) (.iface 28 (.pointer (some ⟨ba, 0, none⟩)))) := HA1.out.below hb
  have HB2 : Hid (Chain w2 [(⟨#[109, 111, 114, 101]⟩, ⟨#[115, 116, 105, 108, 108]⟩), (⟨#[111, 112]⟩, ⟨#[112, 97, 116, 104]⟩)] (.other b0) (.iface 28 (.pointer (some ⟨bb, 0, none⟩)))) := hch
  clear hb hch
  go_wp2_with fail
  refine (HWh.out _ (.other b0) _ w2 HB2.out HS2.out (HG.out.below HZ2.out)).mono ?_
  rintro e w3 ⟨rfl, hb⟩
  have HZ3 : Hid (Below w.heap.size w w3) := HZ2.out.trans (hb.mono HZ2.out.size)
  have HO3 : Hid (Chain w3 [] (.other b0) (.iface 53 (.pointer (some ⟨b0, 0, none⟩)))) := HO2.out.below hb
  have HA3 : Hid (Chain w3 [(⟨#[111, 112]⟩, ⟨#[112, 97, 116, 104]⟩)] (.other b0) (.iface 28 (.pointer (some ⟨ba, 0, none⟩)))) := HA2.out.below hb
  have HB3 : Hid (Chain w3 [(⟨#[109, 111, 114, 101]⟩, ⟨#[115, 116, 105, 108, 108]⟩), (⟨#[111, 112]⟩, ⟨#[112, 97, 116, 104]⟩)] (.other b0) (.iface 28 (.pointer (some ⟨bb, 0, none⟩)))) := HB2.out.below hb
  clear hb
  simp only []
  go_wp2_with fail
  refine (HWh.out [] (.other b0) _ w3 HO3.out HS0.out (HG.out.below HZ3.out)).mono ?_
  rintro e w4 ⟨rfl, hb⟩
  have HZ4 : Hid (Below w.heap.size w w4) := HZ3.out.trans (hb.mono HZ3.out.size)
  have HO4 : Hid (Chain w4 [] (.other b0) (.iface 53 (.pointer (some ⟨b0, 0, none⟩)))) := HO3.out.below hb
  have HA4 : Hid (Chain w4 [(⟨#[111, 112]⟩, ⟨#[112, 97, 116, 104]⟩)] (.other b0) (.iface 28 (.pointer (some ⟨ba, 0, none⟩)))) := HA3.out.below hb
  have HB4 : Hid (Chain w4 [(⟨#[109, 111, 114, 101]⟩, ⟨#[115, 116, 105, 108, 108]⟩), (⟨#[111, 112]⟩, ⟨#[112, 97, 116, 104]⟩)] (.other b0) (.iface 28 (.pointer (some ⟨bb, 0, none⟩)))) := HB3.out.below hb
  clear hb
  simp only []
  go_wp2_with fail
  obtain ⟨w5, hw5⟩ : ∃ w5, w5 = w4.alloc (.cells #[.string ⟨#[120]⟩, .string ⟨#[121]⟩, .nilIface] 30) := ⟨_, rfl⟩
  obtain ⟨bf, hbf⟩ : ∃ bf, bf = w4.heap.size := ⟨_, rfl⟩
  have hb : Below w4.heap.size w4 w5 := by rw [hw5]; exact (Below.refl _ _).alloc (Nat.le_refl _) _
  have HF5 : Hid (Chain w5 [(⟨#[120]⟩, ⟨#[121]⟩)] .none (.iface 28 (.pointer (some ⟨bf, 0, none⟩)))) := ⟨bf, _, rfl, by rw [hw5, hbf]; exact heap_alloc_new _ _, rfl⟩
  have HZ5 : Hid (Below w.heap.size w w5) := HZ4.out.trans (hb.mono HZ4.out.size)
  have HO5 : Hid (Chain w5 [] (.other b0) (.iface 53 (.pointer (some ⟨b0, 0, none⟩)))) := HO4.out.below hb
  have HA5 : Hid (Chain w5 [(⟨#[111, 112]⟩, ⟨#[112, 97, 116, 104]⟩)] (.other b0) (.iface 28 (.pointer (some ⟨ba, 0, none⟩)))) := HA4.out.below hb
  have HB5 : Hid (Chain w5 [(⟨#[109, 111, 114, 101]⟩, ⟨#[115, 116, 105, 108, 108]⟩), (⟨#[111, 112]⟩, ⟨#[112, 97, 116, 104]⟩)] (.other b0) (.iface 28 (.pointer (some ⟨bb, 0, none⟩)))) := HB4.out.below hb
  rw [← hw5]
  simp only [← hbf]
  clear hb hw5 hbf
  go_wp2_with fail
  refine (HN.out _ _ .nilIface w5 (.inl rfl) (HG.out.below HZ5.out)).mono ?_
  rintro e w6 ⟨rfl, hb⟩
  have HZ6 : Hid (Below w.heap.size w w6) := HZ5.out.trans (hb.mono HZ5.out.size)
  have HO6 : Hid (Chain w6 [] (.other b0) (.iface 53 (.pointer (some ⟨b0, 0, none⟩)))) := HO5.out.below hb
  have HA6 : Hid (Chain w6 [(⟨#[111, 112]⟩, ⟨#[112, 97, 116, 104]⟩)] (.other b0) (.iface 28 (.pointer (some ⟨ba, 0, none⟩)))) := HA5.out.below hb
  have HB6 : Hid (Chain w6 [(⟨#[109, 111, 114, 101]⟩, ⟨#[115, 116, 105, 108, 108]⟩), (⟨#[111, 112]⟩, ⟨#[112, 97, 116, 104]⟩)] (.other b0) (.iface 28 (.pointer (some ⟨bb, 0, none⟩)))) := HB5.out.below hb
  have HF6 : Hid (Chain w6 [(⟨#[120]⟩, ⟨#[121]⟩)] (.none) (.iface 28 (.pointer (some ⟨bf, 0, none⟩)))) := HF5.out.below hb
  clear hb
  go_wp2_with fail
  refine (HN.out _ _ _ w6 (.inr rfl) (HG.out.below HZ6.out)).mono ?_
  rintro e w7 ⟨rfl, hb⟩
  have HZ7 : Hid (Below w.heap.size w w7) := HZ6.out.trans (hb.mono HZ6.out.size)
  have HO7 : Hid (Chain w7 [] (.other b0) (.iface 53 (.pointer (some ⟨b0, 0, none⟩)))) := HO6.out.below hb
  have HA7 : Hid (Chain w7 [(⟨#[111, 112]⟩, ⟨#[112, 97, 116, 104]⟩)] (.other b0) (.iface 28 (.pointer (some ⟨ba, 0, none⟩)))) := HA6.out.below hb
  have HB7 : Hid (Chain w7 [(⟨#[109, 111, 114, 101]⟩, ⟨#[115, 116, 105, 108, 108]⟩), (⟨#[111, 112]⟩, ⟨#[112, 97, 116, 104]⟩)] (.other b0) (.iface 28 (.pointer (some ⟨bb, 0, none⟩)))) := HB6.out.below hb
  have HF7 : Hid (Chain w7 [(⟨#[120]⟩, ⟨#[121]⟩)] (.none) (.iface 28 (.pointer (some ⟨bf, 0, none⟩)))) := HF6.out.below hb
  clear hb
  go_wp2_with fail
  refine (HCN.out w7).mono ?_
  rintro e w8 ⟨rfl, hb⟩
  have HZ8 : Hid (Below w.heap.size w w8) := HZ7.out.trans (hb.mono HZ7.out.size)
  have HO8 : Hid (Chain w8 [] (.other b0) (.iface 53 (.pointer (some ⟨b0, 0, none⟩)))) := HO7.out.below hb
  have HA8 : Hid (Chain w8 [(⟨#[111, 112]⟩, ⟨#[112, 97, 116, 104]⟩)] (.other b0) (.iface 28 (.pointer (some ⟨ba, 0, none⟩)))) := HA7.out.below hb
  have HB8 : Hid (Chain w8 [(⟨#[109, 111, 114, 101]⟩, ⟨#[115, 116, 105, 108, 108]⟩), (⟨#[111, 112]⟩, ⟨#[112, 97, 116, 104]⟩)] (.other b0) (.iface 28 (.pointer (some ⟨bb, 0, none⟩)))) := HB7.out.below hb
  have HF8 : Hid (Chain w8 [(⟨#[120]⟩, ⟨#[121]⟩)] (.none) (.iface 28 (.pointer (some ⟨bf, 0, none⟩)))) := HF7.out.below hb
  clear hb
  go_wp2_with fail
  refine (HC.out _ (.other b0) _ w8 HA8.out (by simp) HS1.out (HG.out.below HZ8.out)).mono ?_
  rintro e w9 ⟨rfl, hb⟩
  have HZ9 : Hid (Below w.heap.size w w9) := HZ8.out.trans (hb.mono HZ8.out.size)
  have HO9 : Hid (Chain w9 [] (.other b0) (.iface 53 (.pointer (some ⟨b0, 0, none⟩)))) := HO8.out.below hb
  have HA9 : Hid (Chain w9 [(⟨#[111, 112]⟩, ⟨#[112, 97, 116, 104]⟩)] (.other b0) (.iface 28 (.pointer (some ⟨ba, 0, none⟩)))) := HA8.out.below hb
  have HB9 : Hid (Chain w9 [(⟨#[109, 111, 114, 101]⟩, ⟨#[115, 116, 105, 108, 108]⟩), (⟨#[111, 112]⟩, ⟨#[112, 97, 116, 104]⟩)] (.other b0) (.iface 28 (.pointer (some ⟨bb, 0, none⟩)))) := HB8.out.below hb
  have HF9 : Hid (Chain w9 [(⟨#[120]⟩, ⟨#[121]⟩)] (.none) (.iface 28 (.pointer (some ⟨bf, 0, none⟩)))) := HF8.out.below hb
  clear hb
  simp only [Base.code]
  go_wp2_with fail
  refine (HC.out [] (.other b0) _ w9 HO9.out (by simp) HS0.out (HG.out.below HZ9.out)).mono ?_
  rintro e w10 ⟨rfl, hb⟩
  have HZ10 : Hid (Below w.heap.size w w10) := HZ9.out.trans (hb.mono HZ9.out.size)
  have HO10 : Hid (Chain w10 [] (.other b0) (.iface 53 (.pointer (some ⟨b0, 0, none⟩)))) := HO9.out.below hb
  have HA10 : Hid (Chain w10 [(⟨#[111, 112]⟩, ⟨#[112, 97, 116, 104]⟩)] (.other b0) (.iface 28 (.pointer (some ⟨ba, 0, none⟩)))) := HA9.out.below hb
  have HB10 : Hid (Chain w10 [(⟨#[109, 111, 114, 101]⟩, ⟨#[115, 116, 105, 108, 108]⟩), (⟨#[111, 112]⟩, ⟨#[112, 97, 116, 104]⟩)] (.other b0) (.iface 28 (.pointer (some ⟨bb, 0, none⟩)))) := HB9.out.below hb
  have HF10 : Hid (Chain w10 [(⟨#[120]⟩, ⟨#[121]⟩)] (.none) (.iface 28 (.pointer (some ⟨bf, 0, none⟩)))) := HF9.out.below hb
  clear hb
  simp only [Base.code]
  go_wp2_with fail
  refine (said_fault HE.out _ [] (.other b0) ba w10 HA10.out HS1.out trivial (HG.out.below HZ10.out)).mono ?_
  rintro e w11 ⟨rfl, hb⟩
  have HZ11 : Hid (Below w.heap.size w w11) := HZ10.out.trans (hb.mono HZ10.out.size)
  have HO11 : Hid (Chain w11 [] (.other b0) (.iface 53 (.pointer (some ⟨b0, 0, none⟩)))) := HO10.out.below hb
  have HA11 : Hid (Chain w11 [(⟨#[111, 112]⟩, ⟨#[112, 97, 116, 104]⟩)] (.other b0) (.iface 28 (.pointer (some ⟨ba, 0, none⟩)))) := HA10.out.below hb
  have HB11 : Hid (Chain w11 [(⟨#[109, 111, 114, 101]⟩, ⟨#[115, 116, 105, 108, 108]⟩), (⟨#[111, 112]⟩, ⟨#[112, 97, 116, 104]⟩)] (.other b0) (.iface 28 (.pointer (some ⟨bb, 0, none⟩)))) := HB10.out.below hb
  have HF11 : Hid (Chain w11 [(⟨#[120]⟩, ⟨#[121]⟩)] (.none) (.iface 28 (.pointer (some ⟨bf, 0, none⟩)))) := HF10.out.below hb
  clear hb
  rw [show textB [(⟨#[111, 112]⟩, ⟨#[112, 97, 116, 104]⟩)] (Base.other b0).text = ⟨#[111, 112, 32, 112, 97, 116, 104, 58, 32, 101, 114, 114, 111, 114]⟩ from rfl]
  go_wp2_with fail
  refine (said_fault HE.out _ _ (.other b0) bb w11 HB11.out HS2.out trivial (HG.out.below HZ11.out)).mono ?_
  rintro e w12 ⟨rfl, hb⟩
  have HZ12 : Hid (Below w.heap.size w w12) := HZ11.out.trans (hb.mono HZ11.out.size)
  have HO12 : Hid (Chain w12 [] (.other b0) (.iface 53 (.pointer (some ⟨b0, 0, none⟩)))) := HO11.out.below hb
  have HA12 : Hid (Chain w12 [(⟨#[111, 112]⟩, ⟨#[112, 97, 116, 104]⟩)] (.other b0) (.iface 28 (.pointer (some ⟨ba, 0, none⟩)))) := HA11.out.below hb
  have HB12 : Hid (Chain w12 [(⟨#[109, 111, 114, 101]⟩, ⟨#[115, 116, 105, 108, 108]⟩), (⟨#[111, 112]⟩, ⟨#[112, 97, 116, 104]⟩)] (.other b0) (.iface 28 (.pointer (some ⟨bb, 0, none⟩)))) := HB11.out.below hb
  have HF12 : Hid (Chain w12 [(⟨#[120]⟩, ⟨#[121]⟩)] (.none) (.iface 28 (.pointer (some ⟨bf, 0, none⟩)))) := HF11.out.below hb
  clear hb
  rw [show textB [(⟨#[109, 111, 114, 101]⟩, ⟨#[115, 116, 105, 108, 108]⟩), (⟨#[111, 112]⟩, ⟨#[112, 97, 116, 104]⟩)] (Base.other b0).text = ⟨#[109, 111, 114, 101, 32, 115, 116, 105, 108, 108, 58, 32, 111, 112, 32, 112, 97, 116, 104, 58, 32, 101, 114, 114, 111, 114]⟩ from rfl]
  go_wp2_with fail
  refine (HD.out _ (.other b0) _ w12 HB12.out HS2.out (HG.out.below HZ12.out)).mono ?_
  rintro e w13 ⟨rfl, hb⟩
  have HZ13 : Hid (Below w.heap.size w w13) := HZ12.out.trans (hb.mono HZ12.out.size)
  have HO13 : Hid (Chain w13 [] (.other b0) (.iface 53 (.pointer (some ⟨b0, 0, none⟩)))) := HO12.out.below hb
  have HA13 : Hid (Chain w13 [(⟨#[111, 112]⟩, ⟨#[112, 97, 116, 104]⟩)] (.other b0) (.iface 28 (.pointer (some ⟨ba, 0, none⟩)))) := HA12.out.below hb
  have HB13 : Hid (Chain w13 [(⟨#[109, 111, 114, 101]⟩, ⟨#[115, 116, 105, 108, 108]⟩), (⟨#[111, 112]⟩, ⟨#[112, 97, 116, 104]⟩)] (.other b0) (.iface 28 (.pointer (some ⟨bb, 0, none⟩)))) := HB12.out.below hb
  have HF13 : Hid (Chain w13 [(⟨#[120]⟩, ⟨#[121]⟩)] (.none) (.iface 28 (.pointer (some ⟨bf, 0, none⟩)))) := HF12.out.below hb
  clear hb
  simp only [List.length_cons, List.length_nil]
  go_wp2_with fail
  refine (HD.out [] .none _ w13 rfl HS0.out (HG.out.below HZ13.out)).mono ?_
  rintro e w14 ⟨rfl, hb⟩
  have HZ14 : Hid (Below w.heap.size w w14) := HZ13.out.trans (hb.mono HZ13.out.size)
  have HO14 : Hid (Chain w14 [] (.other b0) (.iface 53 (.pointer (some ⟨b0, 0, none⟩)))) := HO13.out.below hb
  have HA14 : Hid (Chain w14 [(⟨#[111, 112]⟩, ⟨#[112, 97, 116, 104]⟩)] (.other b0) (.iface 28 (.pointer (some ⟨ba, 0, none⟩)))) := HA13.out.below hb
  have HB14 : Hid (Chain w14 [(⟨#[109, 111, 114, 101]⟩, ⟨#[115, 116, 105, 108, 108]⟩), (⟨#[111, 112]⟩, ⟨#[112, 97, 116, 104]⟩)] (.other b0) (.iface 28 (.pointer (some ⟨bb, 0, none⟩)))) := HB13.out.below hb
  have HF14 : Hid (Chain w14 [(⟨#[120]⟩, ⟨#[121]⟩)] (.none) (.iface 28 (.pointer (some ⟨bf, 0, none⟩)))) := HF13.out.below hb
  clear hb
  simp only [List.length_nil]
  go_wp2_with fail
  refine (HD.out [] (.other b0) _ w14 HO14.out HS0.out (HG.out.below HZ14.out)).mono ?_
  rintro e w15 ⟨rfl, hb⟩
  have HZ15 : Hid (Below w.heap.size w w15) := HZ14.out.trans (hb.mono HZ14.out.size)
  have HO15 : Hid (Chain w15 [] (.other b0) (.iface 53 (.pointer (some ⟨b0, 0, none⟩)))) := HO14.out.below hb
  have HA15 : Hid (Chain w15 [(⟨#[111, 112]⟩, ⟨#[112, 97, 116, 104]⟩)] (.other b0) (.iface 28 (.pointer (some ⟨ba, 0, none⟩)))) := HA14.out.below hb
  have HB15 : Hid (Chain w15 [(⟨#[109, 111, 114, 101]⟩, ⟨#[115, 116, 105, 108, 108]⟩), (⟨#[111, 112]⟩, ⟨#[112, 97, 116, 104]⟩)] (.other b0) (.iface 28 (.pointer (some ⟨bb, 0, none⟩)))) := HB14.out.below hb
  have HF15 : Hid (Chain w15 [(⟨#[120]⟩, ⟨#[121]⟩)] (.none) (.iface 28 (.pointer (some ⟨bf, 0, none⟩)))) := HF14.out.below hb
  clear hb
  simp only [List.length_nil]
  go_wp2_with fail
  refine (Is_other b0 _ _ w15 HB15.out).mono ?_
  rintro e wz ⟨rfl, rfl⟩
  go_wp2_with fail
  refine (HE.out _ [] .none bf w15 HF15.out HS3.out trivial).mono ?_
  rintro e w16 ⟨rfl, hb⟩
  have HZ16 : Hid (Below w.heap.size w w16) := HZ15.out.trans (hb.mono HZ15.out.size)
  have HO16 : Hid (Chain w16 [] (.other b0) (.iface 53 (.pointer (some ⟨b0, 0, none⟩)))) := HO15.out.below hb
  have HA16 : Hid (Chain w16 [(⟨#[111, 112]⟩, ⟨#[112, 97, 116, 104]⟩)] (.other b0) (.iface 28 (.pointer (some ⟨ba, 0, none⟩)))) := HA15.out.below hb
  have HB16 : Hid (Chain w16 [(⟨#[109, 111, 114, 101]⟩, ⟨#[115, 116, 105, 108, 108]⟩), (⟨#[111, 112]⟩, ⟨#[112, 97, 116, 104]⟩)] (.other b0) (.iface 28 (.pointer (some ⟨bb, 0, none⟩)))) := HB15.out.below hb
  have HF16 : Hid (Chain w16 [(⟨#[120]⟩, ⟨#[121]⟩)] (.none) (.iface 28 (.pointer (some ⟨bf, 0, none⟩)))) := HF15.out.below hb
  clear hb
  rw [show textB [(⟨#[120]⟩, ⟨#[121]⟩)] Base.none.text = ⟨#[120, 32, 121, 58, 32, 110, 111, 116, 104, 105, 110, 103]⟩ from rfl]
  obtain ⟨bf2, x2, e1, hbk, hx2⟩ := HF16.out
  have hx3 : x2 = .nilIface := hx2
  subst hx3
  simp only [Value.iface.injEq, Value.pointer.injEq, Option.some.injEq, Addr.mk.injEq, true_and, and_true] at e1
  subst e1
  have hcf := block_cell hbk 2 .nilIface rfl
  clear hbk hx2
  go_wp2_with fail
  refine (unwrap_any bf .nilIface w16 hcf).mono ?_
  rintro e wz ⟨rfl, rfl⟩
  clear hcf
  go_wp2_with fail
  refine (HC.out _ .none _ w16 HF16.out (by simp) HS3.out (HG.out.below HZ16.out)).mono ?_
  rintro e w17 ⟨rfl, hb⟩
  have HZ17 : Hid (Below w.heap.size w w17) := HZ16.out.trans (hb.mono HZ16.out.size)
  have HO17 : Hid (Chain w17 [] (.other b0) (.iface 53 (.pointer (some ⟨b0, 0, none⟩)))) := HO16.out.below hb
  have HA17 : Hid (Chain w17 [(⟨#[111, 112]⟩, ⟨#[112, 97, 116, 104]⟩)] (.other b0) (.iface 28 (.pointer (some ⟨ba, 0, none⟩)))) := HA16.out.below hb
  have HB17 : Hid (Chain w17 [(⟨#[109, 111, 114, 101]⟩, ⟨#[115, 116, 105, 108, 108]⟩), (⟨#[111, 112]⟩, ⟨#[112, 97, 116, 104]⟩)] (.other b0) (.iface 28 (.pointer (some ⟨bb, 0, none⟩)))) := HB16.out.below hb
  have HF17 : Hid (Chain w17 [(⟨#[120]⟩, ⟨#[121]⟩)] (.none) (.iface 28 (.pointer (some ⟨bf, 0, none⟩)))) := HF16.out.below hb
  clear hb
  simp only [Base.code]
  go_wp2_with fail
  refine (HIN.out 0 w17 (HG.out.below HZ17.out)).mono ?_
  rintro e w18 ⟨rfl, hb⟩
  have HZ18 : Hid (Below w.heap.size w w18) := HZ17.out.trans (hb.mono HZ17.out.size)
  have HO18 : Hid (Chain w18 [] (.other b0) (.iface 53 (.pointer (some ⟨b0, 0, none⟩)))) := HO17.out.below hb
  have HA18 : Hid (Chain w18 [(⟨#[111, 112]⟩, ⟨#[112, 97, 116, 104]⟩)] (.other b0) (.iface 28 (.pointer (some ⟨ba, 0, none⟩)))) := HA17.out.below hb
  have HB18 : Hid (Chain w18 [(⟨#[109, 111, 114, 101]⟩, ⟨#[115, 116, 105, 108, 108]⟩), (⟨#[111, 112]⟩, ⟨#[112, 97, 116, 104]⟩)] (.other b0) (.iface 28 (.pointer (some ⟨bb, 0, none⟩)))) := HB17.out.below hb
  have HF18 : Hid (Chain w18 [(⟨#[120]⟩, ⟨#[121]⟩)] (.none) (.iface 28 (.pointer (some ⟨bf, 0, none⟩)))) := HF17.out.below hb
  clear hb
  go_wp2_with fail
  refine (Is_nil 0 w18).mono ?_
  rintro e wz ⟨rfl, rfl⟩
  go_wp2_with fail
  refine (known_any HW.out HE.out HC.out HD.out w18 (HG.out.below HZ18.out)).mono ?_
  rintro e w19 ⟨rfl, hb⟩
  have HZ19 : Hid (Below w.heap.size w w19) := HZ18.out.trans (hb.mono HZ18.out.size)
  have HO19 : Hid (Chain w19 [] (.other b0) (.iface 53 (.pointer (some ⟨b0, 0, none⟩)))) := HO18.out.below hb
  have HA19 : Hid (Chain w19 [(⟨#[111, 112]⟩, ⟨#[112, 97, 116, 104]⟩)] (.other b0) (.iface 28 (.pointer (some ⟨ba, 0, none⟩)))) := HA18.out.below hb
  have HB19 : Hid (Chain w19 [(⟨#[109, 111, 114, 101]⟩, ⟨#[115, 116, 105, 108, 108]⟩), (⟨#[111, 112]⟩, ⟨#[112, 97, 116, 104]⟩)] (.other b0) (.iface 28 (.pointer (some ⟨bb, 0, none⟩)))) := HB18.out.below hb
  have HF19 : Hid (Chain w19 [(⟨#[120]⟩, ⟨#[121]⟩)] (.none) (.iface 28 (.pointer (some ⟨bf, 0, none⟩)))) := HF18.out.below hb
  clear hb
  go_wp2
  go_ret
  exact ⟨rfl, HZ19.out⟩
end Go.Proofs.YtbidhljigeoooaaDoor

/-
  OWN WORK. The law's own helper: known.
-/
import Derived.Test.YtbidhljigeoooaaDoorFaTell
namespace Go.Proofs.YtbidhljigeoooaaDoor
open Go.RowKit

theorem errB_20 : errB 20 = ⟨#[114, 101, 102, 117, 115, 97, 108, 32, 50, 48]⟩ := by
  have e : finD 20 [] = [50, 48] := by
    rw [← finD_step 20 [] (Or.inr rfl), ← finD_step (20 / 10) _ (Or.inl (by decide))]
    exact finD_done _ (by simp)
  unfold errB
  rw [if_neg (by decide), if_neg (by decide), if_neg (by decide)]
  rw [show Int.toNat 20 = 20 from rfl, e]
  rfl

theorem known_text : textB [(⟨#[114, 101, 97, 100]⟩, ⟨#[47, 97]⟩)] (Base.num 20).text = ⟨#[114, 101, 97, 100, 32, 47, 97, 58, 32, 114, 101, 102, 117, 115, 97, 108, 32, 50, 48]⟩ := by
  simp only [textB, Base.text, errB_20]
  rfl

set_option maxRecDepth 100000 in
set_option maxHeartbeats 1000000 in
theorem known_any (hW : WrapSaid) (hE : ErrorSaid) (hC : CodeSaid) (hD : DepthSaid) (w : World) (hg : ErrT w) :
    Calls Tryd.prog 17 #[] w fun e w' => e = .returned (.bool true) ∧ Below w.heap.size w w' := by
  have HW := Lib.hid hW
  have HE := Lib.hid hE
  have HC := Lib.hid hC
  have HD := Lib.hid hD
  have HG : Hid (ErrT w) := hg
  have HSM : Hid (Small [((⟨#[114, 101, 97, 100]⟩ : ByteArray), (⟨#[47, 97]⟩ : ByteArray))]) := ⟨by decide, by simp; decide⟩
  clear hW hE hC hD hg
  go_enter Tryd.func17, Tryd.ntmps17
  go_wp2_with fail
  refine (HW.out _ _ [] (.num 20) _ w rfl (show (20 : Int) ≠ 0 by decide) ⟨by decide, by simp⟩ HG.out).mono ?_
  rintro e w1 ⟨b, rfl, hch, hb⟩
  have HCH : Hid (Chain w1 _ (.num 20) _) := hch
  have HB : Hid (Below w.heap.size w w1) := hb
  clear hch hb
  go_wp2_with fail
  refine (said_fault HE.out _ [] (.num 20) b w1 HCH.out HSM.out ⟨by decide, by decide⟩ (HG.out.below HB.out)).mono ?_
  rintro e w2 ⟨rfl, hb⟩
  rw [known_text]
  have HCH2 : Hid (Chain w2 _ (.num 20) _) := HCH.out.below hb
  have HB2 : Hid (Below w.heap.size w w2) := HB.out.trans (hb.mono HB.out.size)
  clear hb
  go_wp2_with fail
  refine (HC.out _ (.num 20) _ w2 HCH2.out (by simp) HSM.out (HG.out.below HB2.out)).mono ?_
  rintro e w3 ⟨rfl, hb⟩
  have HCH3 : Hid (Chain w3 _ (.num 20) _) := HCH2.out.below hb
  have HB3 : Hid (Below w.heap.size w w3) := HB2.out.trans (hb.mono HB2.out.size)
  clear hb
  simp only [Base.code]
  go_wp2_with fail
  refine (HD.out _ (.num 20) _ w3 HCH3.out HSM.out (HG.out.below HB3.out)).mono ?_
  rintro e w4 ⟨rfl, hb⟩
  have HB4 : Hid (Below w.heap.size w w4) := HB3.out.trans (hb.mono HB3.out.size)
  clear hb
  go_wp2
  go_ret
  exact ⟨rfl, HB4.out⟩
end Go.Proofs.YtbidhljigeoooaaDoor

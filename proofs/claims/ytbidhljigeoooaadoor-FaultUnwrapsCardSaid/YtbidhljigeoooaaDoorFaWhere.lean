/-
  OWN WORK. fault.Where over chains.
-/
import Derived.Test.YtbidhljigeoooaaDoorFaFound
import Derived.OwnWalk
namespace Go.Proofs.YtbidhljigeoooaaDoor
open Go.RowKit Go.Stop

set_option maxHeartbeats 1000000 in
set_option maxRecDepth 100000 in
theorem where_any : WhereSaid := by
  intro l base v w hch hs hg
  cases l with
  | nil =>
    have hv : v = base.val := hch
    subst hv
    have HG := Lib.hid hg
    clear hch hs hg
    rcases base with _ | c9 | b9
    all_goals simp only [Base.val]
    · go_enter Tryd.func9, Tryd.ntmps9
      go_wp2_with fail
      refine (first_base .none w HG.out).mono ?_
      rintro e w1 ⟨rfl, hb1⟩
      have HB1 := Lib.hid hb1
      clear hb1
      go_wp2
      go_ret3
      exact ⟨rfl, HB1.out⟩
    · go_enter Tryd.func9, Tryd.ntmps9
      go_wp2_with fail
      refine (first_base (.num c9) w HG.out).mono ?_
      rintro e w1 ⟨rfl, hb1⟩
      have HB1 := Lib.hid hb1
      clear hb1
      go_wp2
      go_ret3
      exact ⟨rfl, HB1.out⟩
    · go_enter Tryd.func9, Tryd.ntmps9
      go_wp2_with fail
      refine (first_base (.other b9) w HG.out).mono ?_
      rintro e w1 ⟨rfl, hb1⟩
      have HB1 := Lib.hid hb1
      clear hb1
      go_wp2
      go_ret3
      exact ⟨rfl, HB1.out⟩
  | cons q l =>
    have HCH := Lib.hid hch
    obtain ⟨b1, x, rfl, hbk, _⟩ := hch
    have HS : Hid (Small (q :: l)) := hs
    have HG := Lib.hid hg
    have HBK := Lib.hid hbk
    clear hs hg hbk
    go_enter Tryd.func9, Tryd.ntmps9
    go_wp2_with fail
    refine (first_some q l base b1 w HCH.out HS.out HG.out).mono ?_
    rintro e w1 ⟨rfl, hb1⟩
    have hbk1 : w1.heap[b1]? = some (.cells #[.string q.1, .string q.2, x] 30 (0, 0)) := by rw [hb1.block b1 (lt_of_block HBK.out)]; exact HBK.out
    have HB1 := Lib.hid hb1
    have HBK1 := Lib.hid hbk1
    clear hb1 hbk1
    go_wp2_with fail
    refine (place_any b1 q.1 q.2 w1 (block_cell HBK1.out 0 _ rfl) (block_cell HBK1.out 1 _ rfl)).mono ?_
    rintro e wz ⟨rfl, n, rfl⟩
    have HB2 : Hid (Below w.heap.size w (w1.drewN n)) := ⟨HB1.out.os, HB1.out.tape, HB1.out.output, HB1.out.size, HB1.out.block⟩
    go_wp2
    go_ret3
    exact ⟨rfl, HB2.out⟩
end Go.Proofs.YtbidhljigeoooaaDoor

/-
  OWN WORK. fault.Depth over chains.
-/
import Derived.Test.YtbidhljigeoooaaDoorFaWrap
namespace Go.Proofs.YtbidhljigeoooaaDoor
open Go.RowKit Go.Stop

set_option maxHeartbeats 1000000 in
set_option maxRecDepth 100000 in
theorem depth_any (l : List (ByteArray × ByteArray)) (base : Base) (v : Value) (w : World) (hch : Chain w l base v) (hs : Small l) (hg : ErrT w) :
    Calls Tryd.prog 12 #[v] w fun e w' => e = .returned (.int .i64 l.length) ∧ Below w.heap.size w w' := by
  have HCH := Lib.hid hch
  have HS : Hid (Small l) := hs
  have HG := Lib.hid hg
  have hmm := @run_makeMap Tryd.prog
  clear hch hs hg
  go_enter Tryd.func12, Tryd.ntmps12
  go_wp2_with fail
  go_loopg [0] (l.length + 1) (fun gk e wr => ∃ (r : List (ByteArray × ByteArray)) (ks : List Nat), Chain w r base e ∧ ks.length + r.length = l.length ∧
    (∀ k ∈ ks, ∃ r', r.length < r'.length ∧ Chain w r' base (.iface 28 (.pointer (some ⟨k, 0, none⟩)))) ∧ SetAt wr w.heap.size ks ∧ Below w.heap.size w wr ∧ r.length + 1 = gk ∧ Small r)
  case atStart =>
    refine ⟨l, [], HCH.out, by simp, by simp, ⟨#[], 0, ?_, rfl⟩, (Below.refl _ _).alloc (Nat.le_refl _) _, rfl, HS.out⟩
    exact heap_alloc_new _ _
  case round =>
    obtain ⟨r, ks, hch, hlen, hks, hset, hb, hgk, hsm⟩ := hrel
    obtain ⟨es, clock, hB, hkk⟩ := hset
    have hes : es.size = ks.length := by
      have := congrArg List.length hkk
      simpa using this
    have HS0 := HS.out.1
    have hlt : decide ((es.size : Int) < 262144) = true := by simp; omega
    have HES : Hid (es.size = ks.length) := hes
    have HLEN : Hid (ks.length + r.length = l.length) := hlen
    have HKS := Lib.hid hks
    have HB0 : Hid (SetAt wr w.heap.size ks) := ⟨es, clock, hB, hkk⟩
    have HB := Lib.hid hb
    have HGK : Hid (r.length + 1 = gk) := hgk
    have HSM : Hid (Small r) := hsm
    have HGW := Lib.hid (HG.out.below hb)
    have hBlt := lt_of_block hB
    have hl0 := run_len_map (P := Tryd.prog) (w := wr) 62 3 w.heap.size es clock (by kernel_rfl) hB
    clear hkk hlen hks hb hgk hsm hes HS0
    cases r with
    | nil =>
      have hv : _ = base.val := hch
      subst hv
      clear hch
      go_wp2_with fail
      refine (first_base base wr HGW.out).mono ?_
      rintro e w1 ⟨rfl, hb1⟩
      have hset1 : SetAt w1 w.heap.size ks := by
        obtain ⟨es, clock, hB, hk⟩ := HB0.out
        exact ⟨es, clock, by rw [hb1.block _ (lt_of_block hB)]; exact hB, hk⟩
      have hlk := set_look hset1 (key := .pointer none) (.inl rfl)
      have hB1 : w1.heap[w.heap.size]? = some (.map es clock) := by rw [hb1.block _ hBlt]; exact hB
      have HB1 : Hid (Below w.heap.size w w1) := HB.out.trans (hb1.mono HB.out.size)
      have hl1 := run_len_map (P := Tryd.prog) (w := w1) 62 3 w.heap.size es clock (by kernel_rfl) hB1
      have hl2 := run_len_map (P := Tryd.prog) (w := (w1.alloc (.cells #[] 63))) 62 3 w.heap.size es clock (by kernel_rfl) (by rw [Below.heap_alloc _ _ _ (lt_of_block hB1)]; exact hB1)
      clear hb1 hset1 hB hlt hl0
      go_wp2
      go_ret
      exact ⟨ret_num (by have := HES.out; have := HLEN.out; simp at this; omega), HB1.out.alloc HB1.out.size _⟩
    | cons p r =>
      have HCH1 := Lib.hid hch
      obtain ⟨b1, x, rfl, hbk, hr⟩ := hch
      have HR := Lib.hid hr
      have HBKW := Lib.hid hbk
      have hchr := HCH1.out.below HB.out
      clear hbk hr
      go_wp2_with fail
      refine (first_some p r base b1 wr hchr HSM.out HGW.out).mono ?_
      rintro e w1 ⟨rfl, hb1⟩
      have hW1 : Below w.heap.size w w1 := HB.out.trans (hb1.mono HB.out.size)
      have hbkr : w1.heap[b1]? = some (.cells #[.string p.1, .string p.2, x] 30 (0, 0)) := by rw [hW1.block b1 (lt_of_block HBKW.out)]; exact HBKW.out
      have hset1 : SetAt w1 w.heap.size ks := by
        obtain ⟨es, clock, hB, hk⟩ := HB0.out
        exact ⟨es, clock, by rw [hb1.block _ (lt_of_block hB)]; exact hB, hk⟩
      have hfresh : ∀ k ∈ ks, IsBlock w1 k ∧ k ≠ b1 := by
        intro k hk
        obtain ⟨r', hlt, hc⟩ := HKS.out k hk
        constructor
        · cases r' with
          | nil => simp at hlt
          | cons p' r' =>
            obtain ⟨b2, y, e2, hb2, _⟩ := hc
            simp only [Value.iface.injEq, Value.pointer.injEq, Option.some.injEq, Addr.mk.injEq, true_and, and_true] at e2
            subst e2
            exact ⟨_, by rw [hW1.block k (lt_of_block hb2)]; exact hb2⟩
        · rintro rfl
          have := chain_length hc HCH1.out
          omega
      have hlk := set_look hset1 (key := .pointer (some ⟨b1, 0, none⟩)) (.inr ⟨b1, rfl, ⟨_, hbkr⟩, hfresh⟩)
      have HF := Lib.hid hfresh
      have HSET1 := Lib.hid hset1
      have HBK := Lib.hid hbkr
      have HW1 := Lib.hid hW1
      clear hfresh hbkr hset1 hchr hb1 hW1 hB hlt hl0
      have hset1 : SetAt (w1.alloc (.cells #[] 63)) w.heap.size ks := by
        obtain ⟨es, clock, hB, hk⟩ := HSET1.out
        exact ⟨es, clock, by rw [Below.heap_alloc _ _ _ (lt_of_block hB)]; exact hB, hk⟩
      have hold : ∀ k, IsBlock w1 k → IsBlock (w1.alloc (.cells #[] 63)) k := fun k ⟨cs, h⟩ => ⟨cs, by rw [Below.heap_alloc _ _ _ (lt_of_block h)]; exact h⟩
      obtain ⟨w2, hrun, hset2, hsz2, hother, hos, htape, hout⟩ := set_put hset1 (hold b1 ⟨_, HBK.out⟩) (fun k hk => ⟨hold k (HF.out k hk).1, (HF.out k hk).2⟩)
      have hmap : ∃ es c, (w1.alloc (.cells #[] 63)).heap[w.heap.size]? = some (Obj.map es c) := by obtain ⟨es, c, h, _⟩ := hset1; exact ⟨es, c, h⟩
      have hgr : (w1.alloc (.cells #[] 63)).grownBy w2 (some w.heap.size) := ⟨hos, htape, hout, by rw [hsz2]; exact Nat.le_refl _, fun k _ hne => hother k (fun e => hne (by rw [e]))⟩
      have HW2 : Hid (Below w.heap.size w w2) := (HW1.out.alloc HW1.out.size _).grown hgr (by simp; have := HW1.out.size; omega) (fun k hk => by cases hk; omega)
      have hbk2 : w2.heap[b1]? = some (.cells #[.string p.1, .string p.2, x] 30 (0, 0)) := by
        have hlt1 := lt_of_block HBK.out
        have hne1 : b1 ≠ w.heap.size := by have := lt_of_block HBKW.out; omega
        rw [hother b1 hne1, Below.heap_alloc _ _ _ hlt1]
        exact HBK.out
      have HSET2 := Lib.hid hset2
      have HBK2 := Lib.hid hbk2
      clear hset1 hold hset2 hsz2 hother hos htape hout hmap hgr hbk2
      go_wp2_with fail
      refine (unwrap_any b1 x w2 (block_cell HBK2.out 2 _ rfl)).mono ?_
      rintro e wz ⟨rfl, rfl⟩
      clear hlk hrun
      go_wp2_with fail
      go_roundg (r.length + 1)
      case rel =>
        refine ⟨r, ks ++ [b1], HR.out, by have := HLEN.out; simp at this ⊢; omega, ?_, HSET2.out, HW2.out, rfl, ⟨by have := HSM.out.1; simp at this; omega, fun y hy => HSM.out.2 y (by simp [hy])⟩⟩
        intro k hk
        rcases List.mem_append.1 hk with hk | hk
        · obtain ⟨r', hlt, hc⟩ := HKS.out k hk
          exact ⟨r', by simp at hlt; omega, hc⟩
        · obtain rfl := List.mem_singleton.1 hk
          exact ⟨p :: r, by simp, HCH1.out⟩
      case measure => have := HGK.out; simp at this; omega
end Go.Proofs.YtbidhljigeoooaaDoor

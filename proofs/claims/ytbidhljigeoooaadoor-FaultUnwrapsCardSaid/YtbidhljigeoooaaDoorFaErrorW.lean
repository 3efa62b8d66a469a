/-
  OWN WORK. (*Fault).Error by its contract: the walk.
-/
import Derived.Test.YtbidhljigeoooaaDoorFaError
import Derived.Test.YtbidhljigeoooaaDoorFaText
import Derived.Test.YtbidhljigeoooaaDoorFaShelf
namespace Go.Proofs.YtbidhljigeoooaaDoor
open Go.RowKit

theorem SetAt.keep {w w' : World} {B : Nat} {ks : List Nat} (h : SetAt w B ks) (hm : MapsStay w w') : SetAt w' B ks := by
  obtain ⟨es, clock, hB, hk⟩ := h
  exact ⟨es, clock, hm _ _ _ hB, hk⟩

theorem strCells_append (a b : ByteArray) : Lib.strCells (a ++ b) = Lib.strCells a ++ Lib.strCells b := by
  simp [Lib.strCells]

theorem builder_kept {B b : Nat} {bs : List Value} {w w' : World} {row : Option Nat} (h : Lib.IsBuilder 72 5 B b bs w) (hg : w.grownBy w' row) (hm : ∀ k, row = some k → ∃ es c, w.heap[k]? = some (Obj.map es c)) :
    Lib.IsBuilder 72 5 B b bs w' := by
  have key : ∀ pv, Lib.BuilderAt 72 5 B b pv bs w → Lib.BuilderAt 72 5 B b pv bs w' := by
    rintro pv ⟨hB, v, hb, hown, hne⟩
    refine ⟨hB, v, ?_, hown.kept hg ?_, hne⟩
    · rw [hg.block b (lt_of_block hb) ?_]
      · exact hb
      · intro e
        obtain ⟨es, c, hmm⟩ := hm b e.symm
        rw [hb] at hmm
        cases hmm
    · by_cases hr : v.ownBlock = row
      · rcases hown.2 with ⟨hv, _⟩ | ⟨g, cap, cur, hv, _, hgh, _⟩
        · left; rw [hv]; rfl
        · exfalso
          rw [hv] at hr
          obtain ⟨es, c, hmm⟩ := hm g hr.symm
          rw [hgh] at hmm
          cases hmm
      · exact .inr hr
  rcases h with h | h
  · exact .inl (key _ h)
  · exact .inr (key _ h)

theorem text_size (base : Base) (h : base.Small) : base.text.size ≤ 2000 := by
  cases base with
  | none => show (_ : Nat) ≤ _; decide
  | other b => exact (by decide : (⟨#[101, 114, 114, 111, 114]⟩ : ByteArray).size ≤ 2000)
  | num c => exact errB_size c h.2

set_option maxHeartbeats 1000000 in
set_option maxRecDepth 100000 in
theorem error_any (q : ByteArray × ByteArray) (l : List (ByteArray × ByteArray)) (base : Base) (b : Nat) (w : World) (hch : Chain w (q :: l) base (.iface 28 (.pointer (some ⟨b, 0, none⟩)))) (hs : Small (q :: l)) (hbs : base.Small) :
    Calls Tryd.prog 14 #[.pointer (some ⟨b, 0, none⟩)] w fun e w' => e = .returned (.string (textB (q :: l) base.text)) ∧ Below w.heap.size w w' := by
  have HCH := Lib.hid hch
  have HS : Hid (Small (q :: l)) := hs
  have HBS : Hid base.Small := hbs
  have hmm := @run_makeMap Tryd.prog
  clear hch hs hbs
  go_enter Tryd.func14, Tryd.ntmps14
  go_wp2_with fail
  go_loopg [5] (l.length + 1) (fun gk e wr => ∃ (r : List (ByteArray × ByteArray)) (done : ByteArray) (ks : List Nat), Chain w r base e ∧ textB (q :: l) base.text = done ++ textB r base.text ∧
    (∀ k ∈ ks, ∃ r', r.length < r'.length ∧ Chain w r' base (.iface 28 (.pointer (some ⟨k, 0, none⟩)))) ∧ SetAt wr (w.heap.size + 1) ks ∧ Lib.IsBuilder 72 5 w.heap.size w.heap.size (Lib.strCells done) wr ∧ Below w.heap.size w wr ∧ r.length = gk ∧ Small r)
  case atStart =>
    refine ⟨q :: l, ByteArray.empty, [], HCH.out, by simp, by simp, ⟨#[], 0, ?_, rfl⟩, .inl ⟨Nat.le_refl _, .slice none 0 0, ?_, World.ownsRow_nil _ _ _ _, by simp [Value.ownBlock]⟩, ((Below.refl _ _).alloc (Nat.le_refl _) _).alloc (by simp) _, rfl, HS.out⟩
    · have := heap_alloc_new (w.alloc (.cells #[.pointer none, .slice none 0 0] 72)) (.map #[] 0)
      simpa using this
    · rw [Below.heap_alloc _ _ _ (by simp)]
      exact heap_alloc_new _ _
  case round =>
    obtain ⟨r, done, ks, hch, htx, hks, hset, hbd, hb, hgk, hsm⟩ := hrel
    have hsz : w.heap.size + 1 < wr.heap.size := by obtain ⟨es, clock, hB, _⟩ := hset; exact lt_of_block hB
    have hdone : done.size ≤ 100000 := by
      have h1 := congrArg ByteArray.size htx
      rw [ByteArray.size_append] at h1
      have h2 := textB_size (q :: l) base.text HS.out.2
      have h3 := text_size base HBS.out
      have h4 := HS.out.1
      omega
    have HTX := Lib.hid htx
    have HKS := Lib.hid hks
    have HSET := Lib.hid hset
    have HBD := Lib.hid hbd
    have HB := Lib.hid hb
    have HGK := Lib.hid hgk
    have HSM : Hid (Small _) := hsm
    clear htx hks hset hbd hb hgk hsm
    cases r with
    | nil =>
      have hv : _ = base.val := hch
      subst hv
      clear hch
      have hlk := set_look HSET.out (key := .pointer none) (.inl rfl)
      go_wp2_with fail
      refine (asFault_base base wr).mono ?_
      rintro e wz ⟨rfl, rfl⟩
      go_wp2_with fail
      have HB1 : Hid (Lib.IsBuilder 72 5 w.heap.size w.heap.size (Lib.strCells done) (wr.alloc (.cells #[] 63))) := builder_kept HBD.out (World.grownBy_alloc wr _ none) (fun k hk => by cases hk)
      have HW1 : Hid (Below w.heap.size w (wr.alloc (.cells #[] 63))) := HB.out.alloc HB.out.size _
      refine (words_any base _ HBS.out).mono ?_
      rintro e w3 ⟨rfl, hb3⟩
      have HB3 : Hid (Lib.IsBuilder 72 5 w.heap.size w.heap.size (Lib.strCells done) w3) := builder_kept (row := none) HB1.out ⟨hb3.os, hb3.tape, hb3.output, hb3.size, fun k hk _ => hb3.block k hk⟩ (fun k hk => by cases hk)
      have HW3 : Hid (Below w.heap.size w w3) := HW1.out.trans (hb3.mono HW1.out.size)
      clear hb3 hlk
      have hts := text_size base HBS.out
      go_wp2_with fail
      refine (write_any _ _ _ base.text w3 HB3.out (by rw [Lib.strCells_length]; omega) HW3.out.size).mono ?_
      rintro e w4 ⟨rfl, hbd4, hb4, _⟩
      have HW4 : Hid (Below w.heap.size w w4) := HW3.out.trans hb4
      have HB4 : Hid (Lib.IsBuilder 72 5 w.heap.size w.heap.size (Lib.strCells (done ++ base.text)) w4) := .inr (by rw [strCells_append]; exact hbd4)
      clear hbd4 hb4
      go_wp2_with fail
      refine (Tryd.Builder_String_any _ _ (done ++ base.text).data.toList w4 HB4.out HW4.out.size).mono ?_
      rintro e w5 ⟨rfl, hb5⟩
      have HW5 : Hid (Below w.heap.size w w5) := HW4.out.trans hb5
      clear hb5
      have HE : Hid (textB (q :: l) base.text = done ++ base.text) := HTX.out
      go_wp2
      go_ret
      exact ⟨ret_str HE.out, HW5.out⟩
    | cons p r =>
      have HCH1 := Lib.hid hch
      obtain ⟨b1, x, rfl, hbk, hr⟩ := hch
      have HR := Lib.hid hr
      have hbkr : wr.heap[b1]? = some (.cells #[.string p.1, .string p.2, x] 30 (0, 0)) := by rw [HB.out.block b1 (lt_of_block hbk)]; exact hbk
      have hfresh : ∀ k ∈ ks, IsBlock wr k ∧ k ≠ b1 := by
        intro k hk
        obtain ⟨r', hlt, hc⟩ := HKS.out k hk
        constructor
        · cases r' with
          | nil => simp at hlt
          | cons p' r' =>
            obtain ⟨b2, y, e2, hb2, _⟩ := hc
            simp only [Value.iface.injEq, Value.pointer.injEq, Option.some.injEq, Addr.mk.injEq, true_and, and_true] at e2
            subst e2
            exact ⟨_, by rw [HB.out.block k (lt_of_block hb2)]; exact hb2⟩
        · rintro rfl
          have := chain_length hc HCH1.out
          omega
      have hlk := set_look HSET.out (key := .pointer (some ⟨b1, 0, none⟩)) (.inr ⟨b1, rfl, ⟨_, hbkr⟩, hfresh⟩)
      have HF := Lib.hid hfresh
      have HBK := Lib.hid hbkr
      clear hfresh hbkr hbk hr
      go_wp2_with fail
      have hset1 : SetAt (wr.alloc (.cells #[] 63)) (w.heap.size + 1) ks := by
        obtain ⟨es, clock, hB, hk⟩ := HSET.out
        exact ⟨es, clock, by rw [Below.heap_alloc _ _ _ (lt_of_block hB)]; exact hB, hk⟩
      have hold : ∀ k, IsBlock wr k → IsBlock (wr.alloc (.cells #[] 63)) k := fun k ⟨cs, h⟩ => ⟨cs, by rw [Below.heap_alloc _ _ _ (lt_of_block h)]; exact h⟩
      obtain ⟨w2, hrun, hset2, hsz2, hother, hos, htape, hout⟩ := set_put hset1 (hold b1 ⟨_, HBK.out⟩) (fun k hk => ⟨hold k (HF.out k hk).1, (HF.out k hk).2⟩)
      have hmap : ∃ es c, (wr.alloc (.cells #[] 63)).heap[w.heap.size + 1]? = some (Obj.map es c) := by obtain ⟨es, c, h, _⟩ := hset1; exact ⟨es, c, h⟩
      have hgr : (wr.alloc (.cells #[] 63)).grownBy w2 (some (w.heap.size + 1)) := ⟨hos, htape, hout, by rw [hsz2]; exact Nat.le_refl _, fun k _ hne => hother k (fun e => hne (by rw [e]))⟩
      have HB2 : Hid (Lib.IsBuilder 72 5 w.heap.size w.heap.size (Lib.strCells done) w2) :=
        builder_kept (builder_kept HBD.out (World.grownBy_alloc wr _ none) (fun k hk => by cases hk)) hgr (fun k hk => by cases hk; exact hmap)
      have HW2 : Hid (Below w.heap.size w w2) := (HB.out.alloc HB.out.size _).grown hgr (by simp; have := HB.out.size; omega) (fun k hk => by cases hk; omega)
      have hbk2 : w2.heap[b1]? = some (.cells #[.string p.1, .string p.2, x] 30 (0, 0)) := by
        have hlt1 := lt_of_block HBK.out
        have hne1 : b1 ≠ w.heap.size + 1 := by
          rintro rfl
          obtain ⟨es, c, h⟩ := hmap
          rw [Below.heap_alloc _ _ _ hlt1, HBK.out] at h
          cases h
        rw [hother b1 hne1, Below.heap_alloc _ _ _ hlt1]
        exact HBK.out
      have HSET2 := Lib.hid hset2
      have HBK2 := Lib.hid hbk2
      have z1 := (HSM.out.2 p (by simp)).1
      have z2 := (HSM.out.2 p (by simp)).2
      clear hset1 hold hset2 hsz2 hother hos htape hout hmap hgr hbk2
      go_wp2_with fail
      refine (asFault_some _ wr).mono ?_
      rintro e wz ⟨rfl, rfl⟩
      go_wp2_with fail
      refine (place_any b1 p.1 p.2 w2 (block_cell HBK2.out 0 _ rfl) (block_cell HBK2.out 1 _ rfl)).mono ?_
      rintro e wz ⟨rfl, n, rfl⟩
      clear hlk hrun
      go_wp2_with fail
      have hbd0 : Lib.IsBuilder 72 5 w.heap.size w.heap.size (Lib.strCells done) (w2.drewN n) := builder_kept (row := none) HB2.out ⟨rfl, rfl, rfl, Nat.le_refl _, fun _ _ _ => rfl⟩ (fun k hk => by cases hk)
      have hw0 : Below w.heap.size w (w2.drewN n) := ⟨HW2.out.os, HW2.out.tape, HW2.out.output, HW2.out.size, HW2.out.block⟩
      have hset0 : SetAt (w2.drewN n) (w.heap.size + 1) (ks ++ [b1]) := HSET2.out
      have hls : (p.1 ++ ⟨#[32]⟩ ++ p.2 ++ ⟨#[58, 32]⟩ : ByteArray).size ≤ 300 := by
        simp only [ByteArray.size_append]
        have e1 : (⟨#[32]⟩ : ByteArray).size = 1 := rfl
        have e2 : (⟨#[58, 32]⟩ : ByteArray).size = 2 := rfl
        omega
      refine (write_any _ _ _ _ _ hbd0 (by rw [Lib.strCells_length]; omega) hw0.size).mono ?_
      rintro e w4 ⟨rfl, hbd4, hb4, hms4⟩
      have HW4 : Hid (Below w.heap.size w w4) := hw0.trans hb4
      have HB4 : Hid (Lib.IsBuilder 72 5 w.heap.size w.heap.size (Lib.strCells (done ++ (p.1 ++ ⟨#[32]⟩ ++ p.2 ++ ⟨#[58, 32]⟩))) w4) := .inr (by rw [strCells_append]; exact hbd4)
      have HSET4 : Hid (SetAt w4 (w.heap.size + 1) (ks ++ [b1])) := hset0.keep hms4
      have hc2 : w4.cell? ⟨b1, 2, none⟩ = some x := by
        obtain ⟨b1', x', e1, hbk0, _⟩ := HCH1.out
        simp only [Value.iface.injEq, Value.pointer.injEq, Option.some.injEq, Addr.mk.injEq, true_and, and_true] at e1
        subst e1
        have h1 := hbk0
        rw [← HB.out.block b1 (lt_of_block hbk0), HBK.out] at h1
        simp only [Option.some.injEq, Obj.cells.injEq, Array.mk.injEq, List.cons.injEq, and_true, true_and] at h1
        obtain rfl := h1
        have hc := block_cell hbk0 2 _ rfl
        rw [HW4.out.cell (p := ⟨b1, 2, none⟩) (cell_lt hc)]
        exact hc
      clear hbd4 hb4 hms4 hbd0 hw0 hset0 hls
      go_wp2_with fail
      refine (unwrap_any b1 x w4 hc2).mono ?_
      rintro e wz ⟨rfl, rfl⟩
      clear hc2
      go_wp2_with fail
      go_roundg r.length
      case rel =>
        refine ⟨r, _, ks ++ [b1], HR.out, ?_, ?_, HSET4.out, HB4.out, HW4.out, rfl, ⟨by have := HSM.out.1; simp at this; omega, fun y hy => HSM.out.2 y (by simp [hy])⟩⟩
        · rw [HTX.out, textB]
          simp only [ByteArray.append_assoc]
        · intro k hk
          rcases List.mem_append.1 hk with hk | hk
          · obtain ⟨r', hlt, hc⟩ := HKS.out k hk
            exact ⟨r', by simp at hlt; omega, hc⟩
          · obtain rfl := List.mem_singleton.1 hk
            exact ⟨p :: r, by simp, HCH1.out⟩
      case measure => have := HGK.out; simp at this; omega
end Go.Proofs.YtbidhljigeoooaaDoor

/-
  OWN WORK. FaultUnwraps by its walk, given what package fault's calls do.
-/
import Derived.Test.YtbidhljigeoooaaDoorFaOuter
import Derived.Deep.RegionHeld3
import Derived.Deep.DeepCutAuto
import Derived.Deep.CutRange
namespace Go.Proofs.YtbidhljigeoooaaDoor
open Go.RowKit

theorem as_round (wr : World) (bb : Nat) (A B : ByteArray) (y : Value) (R : List (ByteArray × ByteArray)) (n b' o : Nat) (s1 s2 : ByteArray) (hg : ErrT wr)
    (hbk : wr.heap[bb]? = some (.cells #[.string A, .string B, y] 30 (0, 0))) (h1 : wr.cell? ⟨b', o, none⟩ = some (.string s1)) (h2 : wr.cell? ⟨b', o + 1, none⟩ = some (.string s2))
    (hch : Chain wr ((A, B) :: R) (.num n) (.iface 28 (.pointer (some ⟨bb, 0, none⟩)))) :
    Calls Tryd.prog 22 #[.iface 28 (.pointer (some ⟨bb, 0, none⟩)), .iface 49 (.pointer (some ⟨wr.heap.size, 0, none⟩))] ((wr.alloc (.cells #[.pointer none] 28)).drew) fun e w' =>
      e = .returned (.bool true) ∧ w'.cell? ⟨wr.heap.size, 0, none⟩ = some (.pointer (some ⟨bb, 0, none⟩)) ∧ w'.cell? ⟨bb, 0, none⟩ = some (.string A) ∧ w'.cell? ⟨bb, 1, none⟩ = some (.string B) ∧
      w'.cell? ⟨b', o, none⟩ = some (.string s1) ∧ w'.cell? ⟨b', o + 1, none⟩ = some (.string s2) ∧ Hid (Chain w' ((A, B) :: R) (.num n) (.iface 28 (.pointer (some ⟨bb, 0, none⟩)))) ∧ Hid (Below wr.heap.size wr w') ∧ Hid (ErrT w') := by
  have hb0 : Below wr.heap.size wr ((wr.alloc (.cells #[.pointer none] 28)).drew) := ((Below.refl _ _).alloc (Nat.le_refl _) _).drew
  have hpos : 0 < wr.heap.size := cell_lt hg
  have hnew : ((wr.alloc (.cells #[.pointer none] 28)).drew).heap[wr.heap.size]? = some (.cells #[.pointer none] 28 (0, 0)) := heap_alloc_new _ _
  refine (As_F_hit _ ⟨bb, 0, none⟩ ⟨wr.heap.size, 0, none⟩ (.pointer none) (hg.below hb0) (block_cell hnew 0 _ rfl) (block_free hnew)).mono ?_
  rintro e w' ⟨rfl, hS⟩
  have hb : Below wr.heap.size wr w' := hb0.trans (hS.below (Nat.le_refl _) (by simp))
  have keep : ∀ {k o : Nat} {u : Value}, wr.cell? ⟨k, o, none⟩ = some u → w'.cell? ⟨k, o, none⟩ = some u := fun {k o u} h => by rw [hb.cell (p := ⟨k, o, none⟩) (cell_lt h)]; exact h
  exact ⟨rfl, hS.cell (block_cell hnew 0 _ rfl), keep (block_cell hbk 0 _ rfl), keep (block_cell hbk 1 _ rfl), keep h1, keep h2, (hch.below hb0).sets hS hnew (by decide), hb, hg.below hb⟩

theorem depth_round (hD : DepthSaid) (wa wr : World) (bb : Nat) (y : Value) (A B : ByteArray) (R : List (ByteArray × ByteArray)) (n k b' o : Nat) (s1 s2 : ByteArray) (hch : Chain wa ((A, B) :: R) (.num n) (.iface 28 (.pointer (some ⟨bb, 0, none⟩))))
    (hs : Small ((A, B) :: R)) (hg : ErrT wa) (hb : Below wr.heap.size wr wa) (hl : ((A, B) :: R).length = k)
    (hS : wa.cell? ⟨wr.heap.size, 0, none⟩ = some (.pointer (some ⟨bb, 0, none⟩)) ∧ wa.cell? ⟨bb, 0, none⟩ = some (.string A) ∧ wa.cell? ⟨bb, 1, none⟩ = some (.string B) ∧ wa.cell? ⟨b', o, none⟩ = some (.string s1) ∧ wa.cell? ⟨b', o + 1, none⟩ = some (.string s2))
    (hbk : wr.heap[bb]? = some (.cells #[.string A, .string B, y] 30 (0, 0))) :
    Calls Tryd.prog 12 #[.iface 28 (.pointer (some ⟨bb, 0, none⟩))] wa fun e w' => e = .returned (.int .i64 k) ∧
      (w'.cell? ⟨wr.heap.size, 0, none⟩ = some (.pointer (some ⟨bb, 0, none⟩)) ∧ w'.cell? ⟨bb, 0, none⟩ = some (.string A) ∧ w'.cell? ⟨bb, 1, none⟩ = some (.string B) ∧ w'.cell? ⟨b', o, none⟩ = some (.string s1) ∧ w'.cell? ⟨b', o + 1, none⟩ = some (.string s2)) ∧ w'.cell? ⟨bb, 2, none⟩ = some y ∧ Hid (Below wr.heap.size wr w') := by
  refine (hD _ (.num n) _ wa hch hs hg).mono ?_
  rintro e w' ⟨rfl, hb2⟩
  have hb3 : Below wr.heap.size wr w' := hb.trans (hb2.mono hb.size)
  have keep : ∀ {k o : Nat} {u : Value}, wa.cell? ⟨k, o, none⟩ = some u → w'.cell? ⟨k, o, none⟩ = some u := fun {k o u} h => by rw [hb2.cell (p := ⟨k, o, none⟩) (cell_lt h)]; exact h
  refine ⟨by rw [hl], ⟨keep hS.1, keep hS.2.1, keep hS.2.2.1, keep hS.2.2.2.1, keep hS.2.2.2.2⟩, ?_, hb3⟩
  have h := block_cell hbk 2 y rfl
  rw [hb3.cell (p := ⟨bb, 2, none⟩) (cell_lt h)]; exact h

set_option maxRecDepth 100000 in
set_option maxHeartbeats 4000000 in
theorem unwraps_any (hW : WrapSaid) (hE : ErrorSaid) (hC : CodeSaid) (hD : DepthSaid) (ls : List (ByteArray × ByteArray)) (v0 v : Value) (n0 : Nat) (code : Int) (n : Nat) (w : World)
    (hcut : CutTo 30 v0 v n0 ls.length) (hv : LinksAt w ls v) (hl : ls.length ≤ 30) (hg : ErrT w) (hsz : ∀ q ∈ ls, q.1.size ≤ 9223372036854775807 ∧ q.2.size ≤ 9223372036854775807) (hcode : withinI code 1 300 = n) (hn0 : 0 < n) (hn1 : n ≤ 300)
    (b0 : -9223372036854775808 ≤ code) (b1 : code ≤ 9223372036854775807) (hm : n0 ≤ 9223372036854775807) :
    Calls Tryd.prog 5 #[v0, .int .i64 code] w fun e w' => e = .returned (.bool true) ∧ Below w.heap.size w w' := by
  have HG : Hid (ErrT w) := hg
  have HV : Hid (LinksAt w ls v) := hv
  have HSZ : Hid (∀ q ∈ ls, q.1.size ≤ 9223372036854775807 ∧ q.2.size ≤ 9223372036854775807) := hsz
  have HW := Lib.hid hW
  have HE := Lib.hid hE
  have HC := Lib.hid hC
  have HD := Lib.hid hD
  have HK : Hid (withinI code 1 300 = n) := hcode
  clear hW hE hC hD hg hv hsz hcode
  have hwi := within_any code 1 300 w (by omega) (by omega) (by omega) b0 b1
  rw [HK.out] at hwi
  have HWI := Lib.hid hwi
  clear hwi
  have HNZ : Hid ((n : Int) ≠ 0) := by show (n : Int) ≠ 0; omega
  rcases hcut with ⟨h30, rfl, hn, a, cap, rfl⟩ | ⟨h30, hn, b, off, cap, rfl, rfl, hc1, hc2, hc3⟩
  all_goals
    have HLN : Hid (ls.length = _) := hn
    clear hn
    go_enter Tryd.func5, Tryd.ntmps5
    go_wp2_with fail
    refine HWI.out.mono ?_
    rintro e w' ⟨rfl, rfl⟩
    go_wp2_with fail
    refine (chain_num HW.out ls _ (n : Int) w HV.out (by omega) HNZ.out HG.out HSZ.out).mono ?_
    rintro e w0 ⟨x, rfl, hch, hb⟩
    have HCH : Hid (Chain w0 (heads ls).reverse (.num n) x) := hch
    have HB0 : Hid (Below w.heap.size w w0) := hb
    clear hb hch
    go_wp2_with fail
    go_loopg [5, 6] ls.length (fun k e i wr => ∃ L', Chain wr L' (.num n) e ∧ L' = ((heads ls).take k).reverse ∧ k ≤ ls.length ∧ i = .int .i64 ((k : Int) - 1) ∧ Below w.heap.size w wr)
    case atStart => exact ⟨_, HCH.out, by rw [List.take_of_length_le (by simp [heads])], Nat.le_refl _, by rw [HLN.out]; try rfl, HB0.out⟩
    case round =>
      obtain ⟨L', hch, hL, hk, rfl, hb⟩ := hrel
      have HB : Hid (Below w.heap.size w wr) := hb
      clear hb HCH HB0
      cases gk with
      | zero =>
        simp only [List.take_zero, List.reverse_nil] at hL
        subst hL
        have hv : _ = Base.val (.num n) := hch
        simp only [Base.val] at hv
        subst hv
        clear hch
        have HGR : Hid (ErrT wr) := HG.out.below HB.out
        have hpos : 0 < wr.heap.size := cell_lt HGR.out
        have hb0 : Below wr.heap.size wr ((wr.alloc (.cells #[.int .i64 0] 31)).alloc (.cells #[.pointer none] 28)) := ((Below.refl _ _).alloc (Nat.le_refl _) _).alloc (by simp) _
        have HB00 := Lib.hid hb0
        clear hb0
        go_wp2_with fail
        refine (As_E_num _ (n : Int) ⟨wr.heap.size, 0, none⟩ (.int .i64 0) [] _ rfl (HGR.out.below HB00.out) (by simp) (by simp)).mono ?_
        rintro e w1 ⟨rfl, hS⟩
        have hcell := hS.cell (old := .int .i64 0) (by simp)
        have hfc : w1.cell? ⟨wr.heap.size + 1, 0, none⟩ = some (.pointer none) := by
          rw [hS.other (by simp) (by simp)]
          simp
        have HB1 : Hid (Below wr.heap.size wr w1) := HB00.out.trans (hS.below (Nat.le_refl _) (by simp; omega))
        clear hS
        go_wp2_with fail
        refine (As_F_num _ (n : Int) ⟨wr.heap.size + 1, 0, none⟩ (.pointer none) (HGR.out.below HB1.out) hfc).mono ?_
        rintro e w2 ⟨rfl, hb⟩
        have HB2 : Hid (Below wr.heap.size wr w2) := HB1.out.trans (hb.mono HB1.out.size)
        clear hb hcell hfc
        go_wp2_with fail
        refine (known_any HW.out HE.out HC.out HD.out w2 (HGR.out.below HB2.out)).mono ?_
        rintro e w3 ⟨rfl, hb⟩
        have HB3 : Hid (Below wr.heap.size wr w3) := HB2.out.trans (hb.mono HB2.out.size)
        clear hb
        go_wp2
        go_ret
        exact ⟨rfl, HB.out.trans (HB3.out.mono HB.out.size)⟩
      | succ k =>
        obtain ⟨s1, s2, hq⟩ : ∃ s1 s2, ls[k]? = some (s1, s2) := ⟨_, _, List.getElem?_eq_getElem (by omega)⟩
        rw [heads_take ls k (s1, s2) hq] at hL
        have hze := HSZ.out (s1, s2) (List.mem_of_getElem? hq)
        obtain ⟨b', off', cap', hv, _, _, hcell⟩ := HV.out.resolve_left (fun h => by have h2 := h.1; subst h2; simp at hk)
        simp only [Value.slice.injEq] at hv
        obtain ⟨hva, hvl, hvc⟩ := hv
        obtain ⟨h1, h2⟩ := hcell _ _ hq
        first
          | (injection hva with hva'; injection hva' with e1 e2; have e1' := e1.symm; have e2' := e2.symm; subst e1'; subst e2')
          | subst hva
        clear hcell hvl hvc
        subst hL
        have hch0 := hch
        obtain ⟨bb, y, rfl, hbk, hr⟩ := hch
        have HCH : Hid (Chain wr _ (.num n) _) := hch0
        have l1 := cell_lt h1
        rw [← HB.out.cell (by first | exact l1 | (simp; exact l1))] at h1
        rw [← HB.out.cell (by first | exact l1 | (simp; exact l1))] at h2
        have H1 := Lib.hid h1
        have H2 := Lib.hid h2
        have HQ := Lib.hid hq
        have HR := Lib.hid hr
        have HBK := Lib.hid hbk
        clear h1 h2 hq hr hbk hch0 l1
        have hkn := hk
        rw [HLN.out] at hkn
        have hkl : (k : Int) < 30 := by omega
        have hknn : (k : Int) + 1 ≠ 0 := by omega
        have hkm : k < _ := hkn
        have HGR : Hid (ErrT wr) := HG.out.below HB.out
        have HSM : Hid (Small ((headB s1 20, headB s2 40) :: ((heads ls).take k).reverse)) := by
          have := heads_small ls (by omega) (k + 1)
          rw [heads_take ls k (s1, s2) HQ.out] at this
          exact this
        have hlen : ((headB s1 20, headB s2 40) :: ((heads ls).take k).reverse).length = k + 1 := by simp [heads]; omega
        have c1 : ∀ wx : World, Calls Tryd.prog 21 #[.string s1, .int .i64 20] wx fun e w' => e = .returned (.string (headB s1 20)) ∧ wx = w' := fun wx => head_any s1 20 wx hze.1 (by omega)
        have c2 : ∀ wx : World, Calls Tryd.prog 21 #[.string s2, .int .i64 40] wx fun e w' => e = .returned (.string (headB s2 40)) ∧ wx = w' := fun wx => head_any s2 40 wx hze.2 (by omega)
        generalize hA : headB s1 20 = A at *
        generalize hB : headB s2 40 = B at *
        generalize hT : ((heads ls).take k).reverse = R at *
        have C1 := Lib.hid c1
        have C2 := Lib.hid c2
        have HLEN := Lib.hid hlen
        have HT := Lib.hid hT
        clear c1 c2 hA hB hlen hT hze
        go_wp2_with fail
        go_cut [67] from 27 to 69 (fun t wc => t = .bool false ∧ wc.cell? ⟨wr.heap.size, 0, none⟩ = some (.pointer (some ⟨bb, 0, none⟩)) ∧ wc.cell? ⟨bb, 2, none⟩ = some y ∧ Hid (Below wr.heap.size wr wc))
        case first =>
          clear HW HE HC HK HWI HNZ HG HV HSZ hm b0 b1
          refine wp_region_any (by kernel_rfl) ?_
          change wpAny _ _ _ _ _ _ _ ((wr.alloc (.cells #[.pointer none] 28)).drew)
          refine wpAny_take (i := 0) (v := ?_) rfl (by kernel_rfl) (by kernel_rfl) (by kernel_rfl) (fun _ _ _ h => h) (Or.inl ⟨by rfl, ?_⟩) ?_
          rotate_left
          · intro w; go_simp; with_reducible rfl
          simp only [Act.put, List.setIfInBounds_toArray, List.set_cons_zero, List.set_cons_succ, List.getElem_toArray, List.getElem_cons_zero]
          refine wpAny_take (i := 1) (v := ?_) rfl (by kernel_rfl) (by kernel_rfl) (by kernel_rfl) (fun _ _ _ h => h) (Or.inl ⟨by rfl, ?_⟩) ?_
          rotate_left
          · intro w; go_simp; with_reducible rfl
          simp only [Act.put, List.setIfInBounds_toArray, List.set_cons_zero, List.set_cons_succ, List.getElem_toArray, List.getElem_cons_zero, List.getElem_cons_succ]
          refine wpAny_ready (rs := [2]) (by kernel_rfl) (by simp) ?_
          refine AllReady.cons rfl (fun K hK => ?_) AllReady.nil
          go_simp
          refine (as_round wr bb A B y R n _ _ s1 s2 HGR.out HBK.out H1.out H2.out HCH.out).mono ?_
          rintro e wa ⟨rfl, ca, f0, f1, d0, d1, HCa, HBa, HGa⟩
          dsimp only
          refine hK _ _ ?_
          clear hK K
          refine wpAny_of_held (S := (fun wx : World => wx.cell? ⟨wr.heap.size, 0, none⟩ = some (.pointer (some ⟨bb, 0, none⟩)) ∧ wx.cell? ⟨bb, 0, none⟩ = some (.string A) ∧ wx.cell? ⟨bb, 1, none⟩ = some (.string B) ∧ wx.cell? ⟨b', off' + k * 2, none⟩ = some (.string s1) ∧ wx.cell? ⟨b', off' + k * 2 + 1, none⟩ = some (.string s2))) _ _ _ _ ?_
          have hS : (fun wx : World => wx.cell? ⟨wr.heap.size, 0, none⟩ = some (.pointer (some ⟨bb, 0, none⟩)) ∧ wx.cell? ⟨bb, 0, none⟩ = some (.string A) ∧ wx.cell? ⟨bb, 1, none⟩ = some (.string B) ∧ wx.cell? ⟨b', off' + k * 2, none⟩ = some (.string s1) ∧ wx.cell? ⟨b', off' + k * 2 + 1, none⟩ = some (.string s2)) wa := ⟨ca, f0, f1, d0, d1⟩
          clear f0 f1 d0 d1
          try simp only [Act.put, List.setIfInBounds_toArray, List.set_cons_zero, List.set_cons_succ, List.getElem_toArray, List.getElem_cons_zero, List.getElem_cons_succ]
          refine wpAnyH_take (i := 3) (oi := { dst := some 30, op := Go.Op.unOp Go.UnOp.not 4 (Go.Operand.tmp 29), type := 4, pos := "law.go:101", after := #[{ on := 2, ground := Go.Ground.data }], guard := none }) (v := ?_) rfl (by kernel_rfl) (by kernel_rfl) (by kernel_rfl) (fun _ _ _ h => h) (Or.inl ⟨by rfl, ?_⟩) hS ?_
          rotate_left
          · intro wx hx; have hx0 := hx.1; have hx1 := hx.2.1; have hx2 := hx.2.2.1; have hx3 := hx.2.2.2.1; have hx4 := hx.2.2.2.2; clear hx; go_simp; with_reducible rfl
          simp only [Act.put, List.setIfInBounds_toArray, List.set_cons_zero, List.set_cons_succ]
          refine wpAnyH_take (i := 4) (oi := { dst := some 31, op := Go.Op.move (Go.Operand.tmp 30), type := 4, pos := "law.go:101", after := #[{ on := 3, ground := Go.Ground.data }, { on := 2, ground := Go.Ground.chain }], guard := none }) (v := ?_) rfl (by kernel_rfl) (by kernel_rfl) (by kernel_rfl) (fun _ _ _ h => h) (Or.inl ⟨by rfl, ?_⟩) hS ?_
          rotate_left
          · intro wx hx; have hx0 := hx.1; have hx1 := hx.2.1; have hx2 := hx.2.2.1; have hx3 := hx.2.2.2.1; have hx4 := hx.2.2.2.2; clear hx; go_simp; with_reducible rfl
          simp only [Act.put, List.setIfInBounds_toArray, List.set_cons_zero, List.set_cons_succ]
          refine wpAnyH_take (i := 5) (oi := { dst := some 32, op := Go.Op.load 28 (Go.Operand.tmp 7), type := 28, pos := "law.go:101", after := #[{ on := 4, ground := Go.Ground.guard }], guard := some (4, false) }) (v := ?_) rfl (by kernel_rfl) (by kernel_rfl) (by kernel_rfl) (fun _ _ _ h => h) (Or.inl ⟨by rfl, ?_⟩) hS ?_
          rotate_left
          · intro wx hx; have hx0 := hx.1; have hx1 := hx.2.1; have hx2 := hx.2.2.1; have hx3 := hx.2.2.2.1; have hx4 := hx.2.2.2.2; clear hx; go_simp; with_reducible rfl
          simp only [Act.put, List.setIfInBounds_toArray, List.set_cons_zero, List.set_cons_succ]
          refine wpAnyH_take (i := 6) (oi := { dst := some 33, op := Go.Op.binOp Go.BinOp.eql 28 (Go.Operand.tmp 32) (Go.Operand.const (Go.Value.pointer none)) 28, type := 4, pos := "law.go:101", after := #[{ on := 5, ground := Go.Ground.data }, { on := 4, ground := Go.Ground.guard }], guard := some (4, false) }) (v := ?_) rfl (by kernel_rfl) (by kernel_rfl) (by kernel_rfl) (fun _ _ _ h => h) (Or.inl ⟨by rfl, ?_⟩) hS ?_
          rotate_left
          · intro wx hx; have hx0 := hx.1; have hx1 := hx.2.1; have hx2 := hx.2.2.1; have hx3 := hx.2.2.2.1; have hx4 := hx.2.2.2.2; clear hx; go_simp; with_reducible rfl
          simp only [Act.put, List.setIfInBounds_toArray, List.set_cons_zero, List.set_cons_succ]
          refine wpAnyH_take (i := 7) (oi := { dst := some 34, op := Go.Op.pick (Go.Operand.tmp 31) (Go.Operand.const (Go.Value.bool true)) (Go.Operand.tmp 33), type := 4, pos := "law.go:101", after := #[{ on := 4, ground := Go.Ground.data }, { on := 6, ground := Go.Ground.data }], guard := none }) (v := ?_) rfl (by kernel_rfl) (by kernel_rfl) (by kernel_rfl) (fun _ _ _ h => h) (Or.inl ⟨by rfl, ?_⟩) hS ?_
          rotate_left
          · intro wx hx; have hx0 := hx.1; have hx1 := hx.2.1; have hx2 := hx.2.2.1; have hx3 := hx.2.2.2.1; have hx4 := hx.2.2.2.2; clear hx; go_simp; with_reducible rfl
          simp only [Act.put, List.setIfInBounds_toArray, List.set_cons_zero, List.set_cons_succ]
          refine wpAnyH_take (i := 8) (oi := { dst := some 35, op := Go.Op.move (Go.Operand.tmp 34), type := 4, pos := "law.go:101", after := #[{ on := 7, ground := Go.Ground.data }, { on := 4, ground := Go.Ground.chain }], guard := none }) (v := ?_) rfl (by kernel_rfl) (by kernel_rfl) (by kernel_rfl) (fun _ _ _ h => h) (Or.inl ⟨by rfl, ?_⟩) hS ?_
          rotate_left
          · intro wx hx; have hx0 := hx.1; have hx1 := hx.2.1; have hx2 := hx.2.2.1; have hx3 := hx.2.2.2.1; have hx4 := hx.2.2.2.2; clear hx; go_simp; with_reducible rfl
          simp only [Act.put, List.setIfInBounds_toArray, List.set_cons_zero, List.set_cons_succ]
          refine wpAnyH_take (i := 9) (oi := { dst := some 36, op := Go.Op.load 28 (Go.Operand.tmp 7), type := 28, pos := "law.go:101", after := #[{ on := 8, ground := Go.Ground.guard }], guard := some (8, false) }) (v := ?_) rfl (by kernel_rfl) (by kernel_rfl) (by kernel_rfl) (fun _ _ _ h => h) (Or.inl ⟨by rfl, ?_⟩) hS ?_
          rotate_left
          · intro wx hx; have hx0 := hx.1; have hx1 := hx.2.1; have hx2 := hx.2.2.1; have hx3 := hx.2.2.2.1; have hx4 := hx.2.2.2.2; clear hx; go_simp; with_reducible rfl
          simp only [Act.put, List.setIfInBounds_toArray, List.set_cons_zero, List.set_cons_succ]
          refine wpAnyH_take (i := 10) (oi := { dst := some 37, op := Go.Op.nilCheck (Go.Operand.tmp 36), type := 0, pos := "law.go:101", after := #[{ on := 9, ground := Go.Ground.data }, { on := 8, ground := Go.Ground.guard }], guard := some (8, false) }) (v := ?_) rfl (by kernel_rfl) (by kernel_rfl) (by kernel_rfl) (fun _ _ _ h => h) (Or.inl ⟨by rfl, ?_⟩) hS ?_
          rotate_left
          · intro wx hx; have hx0 := hx.1; have hx1 := hx.2.1; have hx2 := hx.2.2.1; have hx3 := hx.2.2.2.1; have hx4 := hx.2.2.2.2; clear hx; go_simp; with_reducible rfl
          simp only [Act.put, List.setIfInBounds_toArray, List.set_cons_zero, List.set_cons_succ]
          refine wpAnyH_take (i := 11) (oi := { dst := some 38, op := Go.Op.fieldAddr 30 (Go.Operand.tmp 37) 0, type := 0, pos := "law.go:101", after := #[{ on := 10, ground := Go.Ground.data }, { on := 8, ground := Go.Ground.guard }], guard := some (8, false) }) (v := ?_) rfl (by kernel_rfl) (by kernel_rfl) (by kernel_rfl) (fun _ _ _ h => h) (Or.inl ⟨by rfl, ?_⟩) hS ?_
          rotate_left
          · intro wx hx; have hx0 := hx.1; have hx1 := hx.2.1; have hx2 := hx.2.2.1; have hx3 := hx.2.2.2.1; have hx4 := hx.2.2.2.2; clear hx; go_simp; with_reducible rfl
          simp only [Act.put, List.setIfInBounds_toArray, List.set_cons_zero, List.set_cons_succ]
          refine wpAnyH_take (i := 12) (oi := { dst := some 39, op := Go.Op.load 9 (Go.Operand.tmp 38), type := 9, pos := "law.go:101", after := #[{ on := 11, ground := Go.Ground.data }, { on := 8, ground := Go.Ground.guard }], guard := some (8, false) }) (v := ?_) rfl (by kernel_rfl) (by kernel_rfl) (by kernel_rfl) (fun _ _ _ h => h) (Or.inl ⟨by rfl, ?_⟩) hS ?_
          rotate_left
          · intro wx hx; have hx0 := hx.1; have hx1 := hx.2.1; have hx2 := hx.2.2.1; have hx3 := hx.2.2.2.1; have hx4 := hx.2.2.2.2; clear hx; go_simp; with_reducible rfl
          simp only [Act.put, List.setIfInBounds_toArray, List.set_cons_zero, List.set_cons_succ]
          refine wpAnyH_take (i := 13) (oi := { dst := some 40, op := Go.Op.move (Go.Operand.tmp 0), type := 40, pos := "law.go:101", after := #[{ on := 8, ground := Go.Ground.guard }], guard := some (8, false) }) (v := ?_) rfl (by kernel_rfl) (by kernel_rfl) (by kernel_rfl) (fun _ _ _ h => h) (Or.inl ⟨by rfl, ?_⟩) hS ?_
          rotate_left
          · intro wx hx; have hx0 := hx.1; have hx1 := hx.2.1; have hx2 := hx.2.2.1; have hx3 := hx.2.2.2.1; have hx4 := hx.2.2.2.2; clear hx; go_simp; with_reducible rfl
          simp only [Act.put, List.setIfInBounds_toArray, List.set_cons_zero, List.set_cons_succ]
          refine wpAnyH_take (i := 14) (oi := { dst := some 41, op := Go.Op.move (Go.Operand.tmp 6), type := 3, pos := "law.go:101", after := #[{ on := 8, ground := Go.Ground.guard }], guard := some (8, false) }) (v := ?_) rfl (by kernel_rfl) (by kernel_rfl) (by kernel_rfl) (fun _ _ _ h => h) (Or.inl ⟨by rfl, ?_⟩) hS ?_
          rotate_left
          · intro wx hx; have hx0 := hx.1; have hx1 := hx.2.1; have hx2 := hx.2.2.1; have hx3 := hx.2.2.2.1; have hx4 := hx.2.2.2.2; clear hx; go_simp; with_reducible rfl
          simp only [Act.put, List.setIfInBounds_toArray, List.set_cons_zero, List.set_cons_succ]
          refine wpAnyH_take (i := 15) (oi := { dst := some 42, op := Go.Op.indexAddr 40 (Go.Operand.tmp 40) (Go.Operand.tmp 41), type := 0, pos := "law.go:101", after := #[{ on := 13, ground := Go.Ground.data }, { on := 14, ground := Go.Ground.data }, { on := 8, ground := Go.Ground.guard }], guard := some (8, false) }) (v := ?_) rfl (by kernel_rfl) (by kernel_rfl) (by kernel_rfl) (fun _ _ _ h => h) (Or.inl ⟨by rfl, ?_⟩) hS ?_
          rotate_left
          · intro wx hx; have hx0 := hx.1; have hx1 := hx.2.1; have hx2 := hx.2.2.1; have hx3 := hx.2.2.2.1; have hx4 := hx.2.2.2.2; clear hx; go_simp; with_reducible rfl
          simp only [Act.put, List.setIfInBounds_toArray, List.set_cons_zero, List.set_cons_succ]
          refine wpAnyH_take (i := 16) (oi := { dst := some 43, op := Go.Op.fieldAddr 45 (Go.Operand.tmp 42) 0, type := 0, pos := "law.go:101", after := #[{ on := 15, ground := Go.Ground.data }, { on := 8, ground := Go.Ground.guard }], guard := some (8, false) }) (v := ?_) rfl (by kernel_rfl) (by kernel_rfl) (by kernel_rfl) (fun _ _ _ h => h) (Or.inl ⟨by rfl, ?_⟩) hS ?_
          rotate_left
          · intro wx hx; have hx0 := hx.1; have hx1 := hx.2.1; have hx2 := hx.2.2.1; have hx3 := hx.2.2.2.1; have hx4 := hx.2.2.2.2; clear hx; go_simp; with_reducible rfl
          simp only [Act.put, List.setIfInBounds_toArray, List.set_cons_zero, List.set_cons_succ]
          refine wpAnyH_take (i := 17) (oi := { dst := some 44, op := Go.Op.load 9 (Go.Operand.tmp 43), type := 9, pos := "law.go:101", after := #[{ on := 16, ground := Go.Ground.data }, { on := 8, ground := Go.Ground.guard }], guard := some (8, false) }) (v := ?_) rfl (by kernel_rfl) (by kernel_rfl) (by kernel_rfl) (fun _ _ _ h => h) (Or.inl ⟨by rfl, ?_⟩) hS ?_
          rotate_left
          · intro wx hx; have hx0 := hx.1; have hx1 := hx.2.1; have hx2 := hx.2.2.1; have hx3 := hx.2.2.2.1; have hx4 := hx.2.2.2.2; clear hx; go_simp; with_reducible rfl
          simp only [Act.put, List.setIfInBounds_toArray, List.set_cons_zero, List.set_cons_succ]
          refine wpAnyH_ready (rs := [18]) (by kernel_rfl) (by simp) ?_
          refine AllReadyH.cons (o := { dst := some 45, op := Go.Op.call { callee := Go.Callee.value (Go.Operand.func 21), args := #[Go.Operand.tmp 44, Go.Operand.const (Go.Value.int Go.IntKind.i64 20)], argTypes := #[9, 3] }, type := 9, pos := "law.go:101", after := #[{ on := 17, ground := Go.Ground.data }, { on := 8, ground := Go.Ground.chain }, { on := 8, ground := Go.Ground.guard }], guard := some (8, false) }) rfl (fun K hK => ?_) AllReadyH.nil
          go_simp
          refine (C1.out _).mono ?_
          try rintro e wz ⟨rfl, rfl⟩
          dsimp only
          refine hK.out _ _ hS (fun hS => ?_)
          clear hK K
          try simp only [Act.put, List.setIfInBounds_toArray, List.set_cons_zero, List.set_cons_succ]
          refine wpAnyH_take (i := 19) (oi := { dst := some 46, op := Go.Op.binOp Go.BinOp.neq 9 (Go.Operand.tmp 39) (Go.Operand.tmp 45) 9, type := 4, pos := "law.go:101", after := #[{ on := 12, ground := Go.Ground.data }, { on := 18, ground := Go.Ground.data }, { on := 8, ground := Go.Ground.guard }], guard := some (8, false) }) (v := ?_) rfl (by kernel_rfl) (by kernel_rfl) (by kernel_rfl) (fun _ _ _ h => h) (Or.inl ⟨by rfl, ?_⟩) hS ?_
          rotate_left
          · intro wx hx; have hx0 := hx.1; have hx1 := hx.2.1; have hx2 := hx.2.2.1; have hx3 := hx.2.2.2.1; have hx4 := hx.2.2.2.2; clear hx; go_simp; with_reducible rfl
          simp only [Act.put, List.setIfInBounds_toArray, List.set_cons_zero, List.set_cons_succ]
          refine wpAnyH_take (i := 20) (oi := { dst := some 47, op := Go.Op.pick (Go.Operand.tmp 35) (Go.Operand.const (Go.Value.bool true)) (Go.Operand.tmp 46), type := 4, pos := "law.go:101", after := #[{ on := 8, ground := Go.Ground.data }, { on := 19, ground := Go.Ground.data }], guard := none }) (v := ?_) rfl (by kernel_rfl) (by kernel_rfl) (by kernel_rfl) (fun _ _ _ h => h) (Or.inl ⟨by rfl, ?_⟩) hS ?_
          rotate_left
          · intro wx hx; have hx0 := hx.1; have hx1 := hx.2.1; have hx2 := hx.2.2.1; have hx3 := hx.2.2.2.1; have hx4 := hx.2.2.2.2; clear hx; go_simp; with_reducible rfl
          simp only [Act.put, List.setIfInBounds_toArray, List.set_cons_zero, List.set_cons_succ]
          refine wpAnyH_take (i := 21) (oi := { dst := some 48, op := Go.Op.move (Go.Operand.tmp 47), type := 4, pos := "law.go:101", after := #[{ on := 20, ground := Go.Ground.data }, { on := 18, ground := Go.Ground.chain }], guard := none }) (v := ?_) rfl (by kernel_rfl) (by kernel_rfl) (by kernel_rfl) (fun _ _ _ h => h) (Or.inl ⟨by rfl, ?_⟩) hS ?_
          rotate_left
          · intro wx hx; have hx0 := hx.1; have hx1 := hx.2.1; have hx2 := hx.2.2.1; have hx3 := hx.2.2.2.1; have hx4 := hx.2.2.2.2; clear hx; go_simp; with_reducible rfl
          simp only [Act.put, List.setIfInBounds_toArray, List.set_cons_zero, List.set_cons_succ]
          refine wpAnyH_take (i := 22) (oi := { dst := some 49, op := Go.Op.load 28 (Go.Operand.tmp 7), type := 28, pos := "law.go:101", after := #[{ on := 21, ground := Go.Ground.guard }], guard := some (21, false) }) (v := ?_) rfl (by kernel_rfl) (by kernel_rfl) (by kernel_rfl) (fun _ _ _ h => h) (Or.inl ⟨by rfl, ?_⟩) hS ?_
          rotate_left
          · intro wx hx; have hx0 := hx.1; have hx1 := hx.2.1; have hx2 := hx.2.2.1; have hx3 := hx.2.2.2.1; have hx4 := hx.2.2.2.2; clear hx; go_simp; with_reducible rfl
          simp only [Act.put, List.setIfInBounds_toArray, List.set_cons_zero, List.set_cons_succ]
          refine wpAnyH_take (i := 23) (oi := { dst := some 50, op := Go.Op.nilCheck (Go.Operand.tmp 49), type := 0, pos := "law.go:101", after := #[{ on := 22, ground := Go.Ground.data }, { on := 21, ground := Go.Ground.guard }], guard := some (21, false) }) (v := ?_) rfl (by kernel_rfl) (by kernel_rfl) (by kernel_rfl) (fun _ _ _ h => h) (Or.inl ⟨by rfl, ?_⟩) hS ?_
          rotate_left
          · intro wx hx; have hx0 := hx.1; have hx1 := hx.2.1; have hx2 := hx.2.2.1; have hx3 := hx.2.2.2.1; have hx4 := hx.2.2.2.2; clear hx; go_simp; with_reducible rfl
          simp only [Act.put, List.setIfInBounds_toArray, List.set_cons_zero, List.set_cons_succ]
          refine wpAnyH_take (i := 24) (oi := { dst := some 51, op := Go.Op.fieldAddr 30 (Go.Operand.tmp 50) 1, type := 0, pos := "law.go:101", after := #[{ on := 23, ground := Go.Ground.data }, { on := 21, ground := Go.Ground.guard }], guard := some (21, false) }) (v := ?_) rfl (by kernel_rfl) (by kernel_rfl) (by kernel_rfl) (fun _ _ _ h => h) (Or.inl ⟨by rfl, ?_⟩) hS ?_
          rotate_left
          · intro wx hx; have hx0 := hx.1; have hx1 := hx.2.1; have hx2 := hx.2.2.1; have hx3 := hx.2.2.2.1; have hx4 := hx.2.2.2.2; clear hx; go_simp; with_reducible rfl
          simp only [Act.put, List.setIfInBounds_toArray, List.set_cons_zero, List.set_cons_succ]
          refine wpAnyH_take (i := 25) (oi := { dst := some 52, op := Go.Op.load 9 (Go.Operand.tmp 51), type := 9, pos := "law.go:101", after := #[{ on := 24, ground := Go.Ground.data }, { on := 21, ground := Go.Ground.guard }], guard := some (21, false) }) (v := ?_) rfl (by kernel_rfl) (by kernel_rfl) (by kernel_rfl) (fun _ _ _ h => h) (Or.inl ⟨by rfl, ?_⟩) hS ?_
          rotate_left
          · intro wx hx; have hx0 := hx.1; have hx1 := hx.2.1; have hx2 := hx.2.2.1; have hx3 := hx.2.2.2.1; have hx4 := hx.2.2.2.2; clear hx; go_simp; with_reducible rfl
          simp only [Act.put, List.setIfInBounds_toArray, List.set_cons_zero, List.set_cons_succ]
          refine wpAnyH_take (i := 26) (oi := { dst := some 53, op := Go.Op.move (Go.Operand.tmp 0), type := 40, pos := "law.go:101", after := #[{ on := 21, ground := Go.Ground.guard }], guard := some (21, false) }) (v := ?_) rfl (by kernel_rfl) (by kernel_rfl) (by kernel_rfl) (fun _ _ _ h => h) (Or.inl ⟨by rfl, ?_⟩) hS ?_
          rotate_left
          · intro wx hx; have hx0 := hx.1; have hx1 := hx.2.1; have hx2 := hx.2.2.1; have hx3 := hx.2.2.2.1; have hx4 := hx.2.2.2.2; clear hx; go_simp; with_reducible rfl
          simp only [Act.put, List.setIfInBounds_toArray, List.set_cons_zero, List.set_cons_succ]
          refine wpAnyH_take (i := 27) (oi := { dst := some 54, op := Go.Op.move (Go.Operand.tmp 6), type := 3, pos := "law.go:101", after := #[{ on := 21, ground := Go.Ground.guard }], guard := some (21, false) }) (v := ?_) rfl (by kernel_rfl) (by kernel_rfl) (by kernel_rfl) (fun _ _ _ h => h) (Or.inl ⟨by rfl, ?_⟩) hS ?_
          rotate_left
          · intro wx hx; have hx0 := hx.1; have hx1 := hx.2.1; have hx2 := hx.2.2.1; have hx3 := hx.2.2.2.1; have hx4 := hx.2.2.2.2; clear hx; go_simp; with_reducible rfl
          simp only [Act.put, List.setIfInBounds_toArray, List.set_cons_zero, List.set_cons_succ]
          refine wpAnyH_take (i := 28) (oi := { dst := some 55, op := Go.Op.indexAddr 40 (Go.Operand.tmp 53) (Go.Operand.tmp 54), type := 0, pos := "law.go:101", after := #[{ on := 26, ground := Go.Ground.data }, { on := 27, ground := Go.Ground.data }, { on := 21, ground := Go.Ground.guard }], guard := some (21, false) }) (v := ?_) rfl (by kernel_rfl) (by kernel_rfl) (by kernel_rfl) (fun _ _ _ h => h) (Or.inl ⟨by rfl, ?_⟩) hS ?_
          rotate_left
          · intro wx hx; have hx0 := hx.1; have hx1 := hx.2.1; have hx2 := hx.2.2.1; have hx3 := hx.2.2.2.1; have hx4 := hx.2.2.2.2; clear hx; go_simp; with_reducible rfl
          simp only [Act.put, List.setIfInBounds_toArray, List.set_cons_zero, List.set_cons_succ]
          refine wpAnyH_take (i := 29) (oi := { dst := some 56, op := Go.Op.fieldAddr 45 (Go.Operand.tmp 55) 1, type := 0, pos := "law.go:101", after := #[{ on := 28, ground := Go.Ground.data }, { on := 21, ground := Go.Ground.guard }], guard := some (21, false) }) (v := ?_) rfl (by kernel_rfl) (by kernel_rfl) (by kernel_rfl) (fun _ _ _ h => h) (Or.inl ⟨by rfl, ?_⟩) hS ?_
          rotate_left
          · intro wx hx; have hx0 := hx.1; have hx1 := hx.2.1; have hx2 := hx.2.2.1; have hx3 := hx.2.2.2.1; have hx4 := hx.2.2.2.2; clear hx; go_simp; with_reducible rfl
          simp only [Act.put, List.setIfInBounds_toArray, List.set_cons_zero, List.set_cons_succ]
          refine wpAnyH_take (i := 30) (oi := { dst := some 57, op := Go.Op.load 9 (Go.Operand.tmp 56), type := 9, pos := "law.go:101", after := #[{ on := 29, ground := Go.Ground.data }, { on := 21, ground := Go.Ground.guard }], guard := some (21, false) }) (v := ?_) rfl (by kernel_rfl) (by kernel_rfl) (by kernel_rfl) (fun _ _ _ h => h) (Or.inl ⟨by rfl, ?_⟩) hS ?_
          rotate_left
          · intro wx hx; have hx0 := hx.1; have hx1 := hx.2.1; have hx2 := hx.2.2.1; have hx3 := hx.2.2.2.1; have hx4 := hx.2.2.2.2; clear hx; go_simp; with_reducible rfl
          simp only [Act.put, List.setIfInBounds_toArray, List.set_cons_zero, List.set_cons_succ]
          refine wpAnyH_ready (rs := [31]) (by kernel_rfl) (by simp) ?_
          refine AllReadyH.cons (o := { dst := some 58, op := Go.Op.call { callee := Go.Callee.value (Go.Operand.func 21), args := #[Go.Operand.tmp 57, Go.Operand.const (Go.Value.int Go.IntKind.i64 40)], argTypes := #[9, 3] }, type := 9, pos := "law.go:101", after := #[{ on := 30, ground := Go.Ground.data }, { on := 21, ground := Go.Ground.chain }, { on := 21, ground := Go.Ground.guard }], guard := some (21, false) }) rfl (fun K hK => ?_) AllReadyH.nil
          go_simp
          refine (C2.out _).mono ?_
          try rintro e wz ⟨rfl, rfl⟩
          dsimp only
          refine hK.out _ _ hS (fun hS => ?_)
          clear hK K
          try simp only [Act.put, List.setIfInBounds_toArray, List.set_cons_zero, List.set_cons_succ]
          refine wpAnyH_take (i := 32) (oi := { dst := some 59, op := Go.Op.binOp Go.BinOp.neq 9 (Go.Operand.tmp 52) (Go.Operand.tmp 58) 9, type := 4, pos := "law.go:101", after := #[{ on := 25, ground := Go.Ground.data }, { on := 31, ground := Go.Ground.data }, { on := 21, ground := Go.Ground.guard }], guard := some (21, false) }) (v := ?_) rfl (by kernel_rfl) (by kernel_rfl) (by kernel_rfl) (fun _ _ _ h => h) (Or.inl ⟨by rfl, ?_⟩) hS ?_
          rotate_left
          · intro wx hx; have hx0 := hx.1; have hx1 := hx.2.1; have hx2 := hx.2.2.1; have hx3 := hx.2.2.2.1; have hx4 := hx.2.2.2.2; clear hx; go_simp; with_reducible rfl
          simp only [Act.put, List.setIfInBounds_toArray, List.set_cons_zero, List.set_cons_succ]
          refine wpAnyH_take (i := 33) (oi := { dst := some 60, op := Go.Op.pick (Go.Operand.tmp 48) (Go.Operand.const (Go.Value.bool true)) (Go.Operand.tmp 59), type := 4, pos := "law.go:101", after := #[{ on := 21, ground := Go.Ground.data }, { on := 32, ground := Go.Ground.data }], guard := none }) (v := ?_) rfl (by kernel_rfl) (by kernel_rfl) (by kernel_rfl) (fun _ _ _ h => h) (Or.inl ⟨by rfl, ?_⟩) hS ?_
          rotate_left
          · intro wx hx; have hx0 := hx.1; have hx1 := hx.2.1; have hx2 := hx.2.2.1; have hx3 := hx.2.2.2.1; have hx4 := hx.2.2.2.2; clear hx; go_simp; with_reducible rfl
          simp only [Act.put, List.setIfInBounds_toArray, List.set_cons_zero, List.set_cons_succ]
          refine wpAnyH_take (i := 34) (oi := { dst := some 61, op := Go.Op.move (Go.Operand.tmp 60), type := 4, pos := "law.go:101", after := #[{ on := 33, ground := Go.Ground.data }, { on := 31, ground := Go.Ground.chain }], guard := none }) (v := ?_) rfl (by kernel_rfl) (by kernel_rfl) (by kernel_rfl) (fun _ _ _ h => h) (Or.inl ⟨by rfl, ?_⟩) hS ?_
          rotate_left
          · intro wx hx; have hx0 := hx.1; have hx1 := hx.2.1; have hx2 := hx.2.2.1; have hx3 := hx.2.2.2.1; have hx4 := hx.2.2.2.2; clear hx; go_simp; with_reducible rfl
          simp only [Act.put, List.setIfInBounds_toArray, List.set_cons_zero, List.set_cons_succ]
          refine wpAnyH_take (i := 35) (oi := { dst := some 62, op := Go.Op.move (Go.Operand.tmp 5), type := 23, pos := "law.go:101", after := #[{ on := 34, ground := Go.Ground.guard }], guard := some (34, false) }) (v := ?_) rfl (by kernel_rfl) (by kernel_rfl) (by kernel_rfl) (fun _ _ _ h => h) (Or.inl ⟨by rfl, ?_⟩) hS ?_
          rotate_left
          · intro wx hx; have hx0 := hx.1; have hx1 := hx.2.1; have hx2 := hx.2.2.1; have hx3 := hx.2.2.2.1; have hx4 := hx.2.2.2.2; clear hx; go_simp; with_reducible rfl
          simp only [Act.put, List.setIfInBounds_toArray, List.set_cons_zero, List.set_cons_succ]
          refine wpAnyH_take (i := 37) (oi := { dst := some 64, op := Go.Op.move (Go.Operand.tmp 6), type := 3, pos := "law.go:101", after := #[{ on := 34, ground := Go.Ground.guard }], guard := some (34, false) }) (v := ?_) rfl (by kernel_rfl) (by kernel_rfl) (by kernel_rfl) (fun _ _ _ h => h) (Or.inl ⟨by rfl, ?_⟩) hS ?_
          rotate_left
          · intro wx hx; have hx0 := hx.1; have hx1 := hx.2.1; have hx2 := hx.2.2.1; have hx3 := hx.2.2.2.1; have hx4 := hx.2.2.2.2; clear hx; go_simp; with_reducible rfl
          simp only [Act.put, List.setIfInBounds_toArray, List.set_cons_zero, List.set_cons_succ]
          refine wpAnyH_take (i := 38) (oi := { dst := some 65, op := Go.Op.binOp Go.BinOp.add 3 (Go.Operand.tmp 64) (Go.Operand.const (Go.Value.int Go.IntKind.i64 1)) 3, type := 3, pos := "law.go:101", after := #[{ on := 37, ground := Go.Ground.data }, { on := 34, ground := Go.Ground.guard }], guard := some (34, false) }) (v := ?_) rfl (by kernel_rfl) (by kernel_rfl) (by kernel_rfl) (fun _ _ _ h => h) (Or.inl ⟨by rfl, ?_⟩) hS ?_
          rotate_left
          · intro wx hx; have hx0 := hx.1; have hx1 := hx.2.1; have hx2 := hx.2.2.1; have hx3 := hx.2.2.2.1; have hx4 := hx.2.2.2.2; clear hx; go_simp; with_reducible rfl
          simp only [Act.put, List.setIfInBounds_toArray, List.set_cons_zero, List.set_cons_succ]
          refine wpAnyH_ready (rs := [36]) (by kernel_rfl) (by simp) ?_
          refine AllReadyH.cons (o := { dst := some 63, op := Go.Op.call { callee := Go.Callee.value (Go.Operand.func 12), args := #[Go.Operand.tmp 62], argTypes := #[23] }, type := 3, pos := "law.go:101", after := #[{ on := 35, ground := Go.Ground.data }, { on := 34, ground := Go.Ground.chain }, { on := 34, ground := Go.Ground.guard }], guard := some (34, false) }) rfl (fun K hK => ?_) AllReadyH.nil
          go_simp
          refine (depth_round HD.out _ wr bb y A B R n (k + 1) b' (off' + k * 2) s1 s2 HCa.out HSM.out HGa.out HBa.out HLEN.out hS HBK.out).mono ?_
          rintro e wd ⟨rfl, hSd, f2, HBd⟩
          dsimp only
          refine hK.out _ _ hSd (fun hS => ?_)
          clear hK K
          try simp only [Act.put, List.setIfInBounds_toArray, List.set_cons_zero, List.set_cons_succ]
          refine wpAnyH_take (i := 39) (oi := { dst := some 66, op := Go.Op.binOp Go.BinOp.neq 3 (Go.Operand.tmp 63) (Go.Operand.tmp 65) 3, type := 4, pos := "law.go:101", after := #[{ on := 36, ground := Go.Ground.data }, { on := 38, ground := Go.Ground.data }, { on := 34, ground := Go.Ground.guard }], guard := some (34, false) }) (v := ?_) rfl (by kernel_rfl) (by kernel_rfl) (by kernel_rfl) (fun _ _ _ h => h) (Or.inl ⟨by rfl, ?_⟩) hS ?_
          rotate_left
          · intro wx hx; have hx0 := hx.1; have hx1 := hx.2.1; have hx2 := hx.2.2.1; have hx3 := hx.2.2.2.1; have hx4 := hx.2.2.2.2; clear hx; go_simp; with_reducible rfl
          simp only [Act.put, List.setIfInBounds_toArray, List.set_cons_zero, List.set_cons_succ]
          refine wpAnyH_take (i := 40) (oi := { dst := some 67, op := Go.Op.pick (Go.Operand.tmp 61) (Go.Operand.const (Go.Value.bool true)) (Go.Operand.tmp 66), type := 4, pos := "law.go:101", after := #[{ on := 34, ground := Go.Ground.data }, { on := 39, ground := Go.Ground.data }], guard := none }) (v := ?_) rfl (by kernel_rfl) (by kernel_rfl) (by kernel_rfl) (fun _ _ _ h => h) (Or.inl ⟨by rfl, ?_⟩) hS ?_
          rotate_left
          · intro wx hx; have hx0 := hx.1; have hx1 := hx.2.1; have hx2 := hx.2.2.1; have hx3 := hx.2.2.2.1; have hx4 := hx.2.2.2.2; clear hx; go_simp; with_reducible rfl
          simp only [Act.put, List.setIfInBounds_toArray, List.set_cons_zero, List.set_cons_succ]
          refine wpAnyH_done (by kernel_rfl) ?_ _
          go_wp2_with fail
          go_meet
          case rel => exact ⟨by rw [IntWalk.i64_in _ (by omega)]; simp, hSd.1, f2, HBd⟩
        case rest =>
          obtain ⟨rfl, ct, cy, HBc⟩ := hcut
          rcases chain_top HR.out with rfl | ⟨b2, rfl⟩
          all_goals
            go_wp2_with (go_at_call 15; refine (unwrap_any bb _ _ cy).mono ?_; rintro e w' ⟨rfl, rfl⟩)
            go_roundg k
            case rel => exact ⟨R, HR.out.below HBc.out, HT.out.symm, by omega, rfl, HB.out.trans (HBc.out.mono HB.out.size)⟩
            case measure => omega
end Go.Proofs.YtbidhljigeoooaaDoor

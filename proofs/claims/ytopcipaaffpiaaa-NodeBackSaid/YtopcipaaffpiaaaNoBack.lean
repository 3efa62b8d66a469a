/-
  OWN WORK. Law 10's NodeBack, walked: what is written comes back, unlike nodes have unlike bytes, what is read is just what is written.
-/
import Derived.Test.YtopcipaaffpiaaaNoEql
namespace Go.Proofs.Ytopcipaaffpiaaa
open Go.RowKit Rc

set_option maxHeartbeats 16000000 in
set_option maxRecDepth 100000 in
theorem back_any (C : WSaid) (R : RSaid codecFns) (hM : RMake R) (a b : Nd) (w : World) (x : List UInt8) (AX : Option Addr) (cx : Nat) (hrx : Rd w AX x) (hcx : x.length ≤ cx) (hlx : x.length ≤ 140737488351232) :
    Calls Try.prog 5 #[a.val, b.val, .slice AX x.length cx] w fun e w' => e = .returned (.bool true) ∧ Below w.heap.size w w' := by
  obtain ⟨fa, hfa⟩ : ∃ f, Nd.right a = f := ⟨_, rfl⟩
  obtain ⟨fb, hfb⟩ : ∃ f, Nd.right b = f := ⟨_, rfl⟩
  have HIA : Hid (fa = true → Nd.Right a) := fun h => by subst hfa; simpa [Nd.right] using h
  have HIB : Hid (fb = true → Nd.Right b) := fun h => by subst hfb; simpa [Nd.right] using h
  have HEQ : Hid (a ≠ b → ∀ w, (binOp .eql 25 a.val b.val).run Try.prog w = .ok (.bool false) w) := fun h => nd_eql a b h
  obtain ⟨ya, hya⟩ : ∃ y, Nd.bytes a = y := ⟨_, rfl⟩
  obtain ⟨yb, hyb⟩ : ∃ y, Nd.bytes b = y := ⟨_, rfl⟩
  have HLA : Hid (ya.length = 16) := by subst hya; exact Nd.bytes_length a
  have HNE : Hid (fa = true → fb = true → a ≠ b → ((strOf ya).toList == (strOf yb).toList) = false) := fun h1 h2 hn => str_ne (by subst hya hyb; exact fun e => hn (Nd.bytes_inj (HIA.out h1) (HIB.out h2) e))
  have HDA : Hid (fa = true → ndDec ya = (a, 0)) := fun h => by subst hya; exact ndDec_bytes a (HIA.out h)
  have HFA := Lib.hid hfa
  have HFB := Lib.hid hfb
  have HYA := Lib.hid hya
  have HYB := Lib.hid hyb
  have HR0 : Hid (Rd w AX x) := hrx
  have HCX := Lib.hid hcx
  have HLX := Lib.hid hlx
  clear hfa hfb hya hyb hrx hcx hlx
  by_cases hab : a = b
  · subst hab
    have eb : fb = fa := HFB.out.symm.trans HFA.out
    subst eb
    have ey : yb = ya := HYB.out.symm.trans HYA.out
    subst ey
    clear HIB HEQ HNE HFB HYB
    obtain ⟨ia, ka, la, za, ta, sa⟩ := a
    cases fb
    · show Calls _ _ #[.agg #[.int .i64 ia, .int .i64 ka, .int .i64 la, .int .i64 za, .int .u64 (ta : Nat), .bool sa], .agg #[.int .i64 ia, .int .i64 ka, .int .i64 la, .int .i64 za, .int .u64 (ta : Nat), .bool sa], .slice AX x.length cx] w _
      have XA : Hid (Blk ((w.alloc (.cells #[.int .i64 ia, .int .i64 ka, .int .i64 la, .int .i64 za, .int .u64 (ta : Nat), .bool sa] 25)).alloc (.cells #[.int .i64 ia, .int .i64 ka, .int .i64 la, .int .i64 za, .int .u64 (ta : Nat), .bool sa] 25)) w.heap.size 25 [.int .i64 ia, .int .i64 ka, .int .i64 la, .int .i64 za, .int .u64 (ta : Nat), .bool sa]) := (Blk.new w _ _).alloc _
      have XB : Hid (Blk ((w.alloc (.cells #[.int .i64 ia, .int .i64 ka, .int .i64 la, .int .i64 za, .int .u64 (ta : Nat), .bool sa] 25)).alloc (.cells #[.int .i64 ia, .int .i64 ka, .int .i64 la, .int .i64 za, .int .u64 (ta : Nat), .bool sa] 25)) (w.heap.size + 1) 25 [.int .i64 ia, .int .i64 ka, .int .i64 la, .int .i64 za, .int .u64 (ta : Nat), .bool sa]) := by have := Blk.new (w.alloc (.cells #[.int .i64 ia, .int .i64 ka, .int .i64 la, .int .i64 za, .int .u64 (ta : Nat), .bool sa] 25)) 25 [.int .i64 ia, .int .i64 ka, .int .i64 la, .int .i64 za, .int .u64 (ta : Nat), .bool sa]; rw [World.size_alloc] at this; exact this
      have HW : Hid (Below w.heap.size w ((w.alloc (.cells #[.int .i64 ia, .int .i64 ka, .int .i64 la, .int .i64 za, .int .u64 (ta : Nat), .bool sa] 25)).alloc (.cells #[.int .i64 ia, .int .i64 ka, .int .i64 la, .int .i64 za, .int .u64 (ta : Nat), .bool sa] 25))) := (below_new w _).trans ((below_new _ _).mono (by rw [World.size_alloc]; omega))
      have HX : Hid (Rd ((w.alloc (.cells #[.int .i64 ia, .int .i64 ka, .int .i64 la, .int .i64 za, .int .u64 (ta : Nat), .bool sa] 25)).alloc (.cells #[.int .i64 ia, .int .i64 ka, .int .i64 la, .int .i64 za, .int .u64 (ta : Nat), .bool sa] 25)) AX x) := HR0.out.below HW.out
      clear HR0
      go_enter Try.func5, Try.ntmps5
      go_upto_region 1 with (fail)
      refine wp_world (fun W => Hid (Blk W w.heap.size 25 [.int .i64 ia, .int .i64 ka, .int .i64 la, .int .i64 za, .int .u64 (ta : Nat), .bool sa]) ∧ Hid (Blk W (w.heap.size + 1) 25 [.int .i64 ia, .int .i64 ka, .int .i64 la, .int .i64 za, .int .u64 (ta : Nat), .bool sa]) ∧ Hid (Below w.heap.size w W) ∧ Hid (Rd W AX x)) ⟨XA, XB, HW, HX⟩ ?_
      clear XA XB HW HX
      rintro w0 ⟨XA0, XB0, HW0, HX0⟩
      have c0 : w0.cell? ⟨w.heap.size, 0, none⟩ = some (.int .i64 ia) := XA0.out.cell 0
      have c1 : w0.cell? ⟨w.heap.size, 1, none⟩ = some (.int .i64 ka) := XA0.out.cell 1
      have c2 : w0.cell? ⟨w.heap.size, 2, none⟩ = some (.int .i64 la) := XA0.out.cell 2
      have c3 : w0.cell? ⟨w.heap.size, 3, none⟩ = some (.int .i64 za) := XA0.out.cell 3
      have c4 : w0.cell? ⟨w.heap.size, 4, none⟩ = some (.int .u64 (ta : Nat)) := XA0.out.cell 4
      have c5 : w0.cell? ⟨w.heap.size, 5, none⟩ = some (.bool sa) := XA0.out.cell 5
      go_wp2_with fail
      clear c0 c1 c2 c3 c4 c5
      refine (enc_no_as _ HFA.out).mono ?_
      rintro e w1 ⟨rfl, B1⟩
      have XA1 := Lib.hid (XA0.out.below B1.out XA0.out.lt)
      have XB1 := Lib.hid (XB0.out.below B1.out XB0.out.lt)
      have HX1 := Lib.hid (HX0.out.below B1.out)
      have HW1 := Lib.hid (HW0.out.trans (B1.out.mono HW0.out.size))
      clear B1 XA0 XB0 HX0 HW0
      have c0 : w1.cell? ⟨w.heap.size + 1, 0, none⟩ = some (.int .i64 ia) := XB1.out.cell 0
      have c1 : w1.cell? ⟨w.heap.size + 1, 1, none⟩ = some (.int .i64 ka) := XB1.out.cell 1
      have c2 : w1.cell? ⟨w.heap.size + 1, 2, none⟩ = some (.int .i64 la) := XB1.out.cell 2
      have c3 : w1.cell? ⟨w.heap.size + 1, 3, none⟩ = some (.int .i64 za) := XB1.out.cell 3
      have c4 : w1.cell? ⟨w.heap.size + 1, 4, none⟩ = some (.int .u64 (ta : Nat)) := XB1.out.cell 4
      have c5 : w1.cell? ⟨w.heap.size + 1, 5, none⟩ = some (.bool sa) := XB1.out.cell 5
      go_wp2_with fail
      clear c0 c1 c2 c3 c4 c5
      refine (enc_no_as _ HFA.out).mono ?_
      rintro e w2 ⟨rfl, B2⟩
      have XA2 := Lib.hid (XA1.out.below B2.out XA1.out.lt)
      have XB2 := Lib.hid (XB1.out.below B2.out XB1.out.lt)
      have HX2 := Lib.hid (HX1.out.below B2.out)
      have HW2 := Lib.hid (HW1.out.trans (B2.out.mono HW1.out.size))
      clear B2 XA1 XB1 HX1 HW1
      go_wp2_with fail
      obtain ⟨n2, f2, hn2⟩ := pair_is (ndDec x)
      obtain ⟨iq, kq, lq, zq, tq, sq⟩ := n2
      have HN2 := Lib.hid hn2
      have HCS := Lib.hid (ndDec_cases x)
      have HIV : Hid (f2 = 0 → Nd.Right ⟨iq, kq, lq, zq, tq, sq⟩ ∧ Nd.bytes ⟨iq, kq, lq, zq, tq, sq⟩ = x) := fun h => by
        have h1 := ndDec_inv x (by rw [hn2]; exact h)
        rw [hn2] at h1
        exact h1
      clear hn2
      refine (dec_as R hM _ AX x cx HX2.out HCX.out HLX.out HN2.out).mono ?_
      rintro e w7 ⟨rfl, B7⟩
      have HX7 := Lib.hid (HX2.out.below B7.out)
      have HW7 := Lib.hid (HW2.out.trans (B7.out.mono HW2.out.size))
      clear B7 HX2 HW2 XA2 XB2
      by_cases h0 : f2 = 0
      · subst h0
        obtain ⟨hr2, hb2⟩ := HIV.out rfl
        have HR2 := Lib.hid hr2
        have HB2 := Lib.hid hb2
        have HL2 : Hid (x.length = 16) := by show _ = _; rw [← hb2]; exact Nd.bytes_length _
        clear hr2 hb2 HIV HCS HN2
        have HG1 : Hid (Blk (w7.alloc (.cells #[.int .i64 0, .int .i64 0, .int .i64 0, .int .i64 0, .int .u64 0, .bool false] 25)) w7.heap.size 25 [.int .i64 0, .int .i64 0, .int .i64 0, .int .i64 0, .int .u64 0, .bool false]) := Blk.new w7 _ _
        have cz : ((0 : Nat) : Int) = 0 := rfl
        go_upto_region 8 with (refine wpList_store_row rfl 25 (.tmp 13) (.tmp 64) rfl w7.heap.size #[.int .i64 iq, .int .i64 kq, .int .i64 lq, .int .i64 zq, .int .u64 (tq : Nat), .bool sq] rfl rfl 25 #[.int .i64 0, .int .i64 0, .int .i64 0, .int .i64 0, .int .u64 0, .bool false] HG1.out rfl rfl rfl ?_)
        clear HG1
        have XN8 : Hid (Blk (w7.alloc (.cells #[.int .i64 iq, .int .i64 kq, .int .i64 lq, .int .i64 zq, .int .u64 (tq : Nat), .bool sq] 25)) w7.heap.size 25 [.int .i64 iq, .int .i64 kq, .int .i64 lq, .int .i64 zq, .int .u64 (tq : Nat), .bool sq]) := Blk.new w7 _ _
        have HX8 : Hid (Rd (w7.alloc (.cells #[.int .i64 iq, .int .i64 kq, .int .i64 lq, .int .i64 zq, .int .u64 (tq : Nat), .bool sq] 25)) AX x) := HX7.out.below (below_new w7 _)
        have HW8 : Hid (Below w.heap.size w (w7.alloc (.cells #[.int .i64 iq, .int .i64 kq, .int .i64 lq, .int .i64 zq, .int .u64 (tq : Nat), .bool sq] 25))) := HW7.out.trans ((below_new w7 _).mono HW7.out.size)
        refine wp_world (fun W => Hid (Blk W w7.heap.size 25 [.int .i64 iq, .int .i64 kq, .int .i64 lq, .int .i64 zq, .int .u64 (tq : Nat), .bool sq]) ∧ Hid (Rd W AX x) ∧ Hid (Below w.heap.size w W)) ⟨XN8, HX8, HW8⟩ ?_
        clear XN8 HX8 HW8 HX7 HW7
        rintro w8 ⟨XN8, HX8, HW8⟩
        have c0 : w8.cell? ⟨w7.heap.size, 0, none⟩ = some (.int .i64 iq) := XN8.out.cell 0
        have c1 : w8.cell? ⟨w7.heap.size, 1, none⟩ = some (.int .i64 kq) := XN8.out.cell 1
        have c2 : w8.cell? ⟨w7.heap.size, 2, none⟩ = some (.int .i64 lq) := XN8.out.cell 2
        have c3 : w8.cell? ⟨w7.heap.size, 3, none⟩ = some (.int .i64 zq) := XN8.out.cell 3
        have c4 : w8.cell? ⟨w7.heap.size, 4, none⟩ = some (.int .u64 (tq : Nat)) := XN8.out.cell 4
        have c5 : w8.cell? ⟨w7.heap.size, 5, none⟩ = some (.bool sq) := XN8.out.cell 5
        go_wp2_with fail
        clear c0 c1 c2 c3 c4 c5
        refine (enc_list C _ HR2.out HB2.out).mono ?_
        rintro e w9 ⟨P9, c9, rfl, hc9, R9, B9⟩
        have HX9 := Lib.hid (HX8.out.below B9.out)
        have HW9 := Lib.hid (HW8.out.trans (B9.out.mono HW8.out.size))
        have hs1 := str_any w9 P9 x c9 R9.out
        have hs2 := str_any w9 AX x cx HX9.out
        clear B9 XN8 HX8 HW8 hc9
        go_wp2_with fail
        clear hs1 hs2
        refine (known10_any C _).mono ?_
        rintro e w10 ⟨rfl, hb⟩
        have HF := Lib.hid (HW9.out.trans (hb.mono HW9.out.size))
        clear hb
        go_wp2_with fail
        go_ret
        exact ⟨rfl, HF.out⟩
      · have hz : f2 = 12 ∧ (⟨iq, kq, lq, zq, tq, sq⟩ : Nd) = Nd.zero := by
          have h1 := HN2.out
          rcases HCS.out with h2 | h2
          · rw [h2] at h1
            injection h1 with e1 e2
            exact ⟨e2.symm, e1.symm⟩
          · rw [h1] at h2
            exact absurd h2 h0
        obtain ⟨rfl, hz2⟩ := hz
        injection hz2 with e1 e2 e3 e4 e5 e6
        subst e1 e2 e3 e4 e5 e6
        clear h0 HCS HN2 HIV HX7
        have HG1 : Hid (Blk (w7.alloc (.cells #[.int .i64 0, .int .i64 0, .int .i64 0, .int .i64 0, .int .u64 0, .bool false] 25)) w7.heap.size 25 [.int .i64 0, .int .i64 0, .int .i64 0, .int .i64 0, .int .u64 0, .bool false]) := Blk.new w7 _ _
        have HW8 : Hid (Below w.heap.size w (w7.alloc (.cells #[.int .i64 0, .int .i64 0, .int .i64 0, .int .i64 0, .int .u64 0, .bool false] 25))) := HW7.out.trans ((below_new w7 _).mono HW7.out.size)
        have cz : ((12 : Nat) : Int) = 12 := rfl
        have cy : ((0 : Nat) : Int) = 0 := rfl
        go_wp2_with (refine wpList_store_row rfl 25 (.tmp 13) (.tmp 64) rfl w7.heap.size #[.int .i64 0, .int .i64 0, .int .i64 0, .int .i64 0, .int .u64 0, .bool false] rfl rfl 25 #[.int .i64 0, .int .i64 0, .int .i64 0, .int .i64 0, .int .u64 0, .bool false] HG1.out rfl rfl rfl ?_)
        refine (known10_any C _).mono ?_
        rintro e w10 ⟨rfl, hb⟩
        have HF := Lib.hid (HW8.out.trans (hb.mono HW8.out.size))
        clear hb
        go_wp2_with fail
        go_ret
        exact ⟨rfl, HF.out⟩
    · show Calls _ _ #[.agg #[.int .i64 ia, .int .i64 ka, .int .i64 la, .int .i64 za, .int .u64 (ta : Nat), .bool sa], .agg #[.int .i64 ia, .int .i64 ka, .int .i64 la, .int .i64 za, .int .u64 (ta : Nat), .bool sa], .slice AX x.length cx] w _
      have XA : Hid (Blk ((w.alloc (.cells #[.int .i64 ia, .int .i64 ka, .int .i64 la, .int .i64 za, .int .u64 (ta : Nat), .bool sa] 25)).alloc (.cells #[.int .i64 ia, .int .i64 ka, .int .i64 la, .int .i64 za, .int .u64 (ta : Nat), .bool sa] 25)) w.heap.size 25 [.int .i64 ia, .int .i64 ka, .int .i64 la, .int .i64 za, .int .u64 (ta : Nat), .bool sa]) := (Blk.new w _ _).alloc _
      have XB : Hid (Blk ((w.alloc (.cells #[.int .i64 ia, .int .i64 ka, .int .i64 la, .int .i64 za, .int .u64 (ta : Nat), .bool sa] 25)).alloc (.cells #[.int .i64 ia, .int .i64 ka, .int .i64 la, .int .i64 za, .int .u64 (ta : Nat), .bool sa] 25)) (w.heap.size + 1) 25 [.int .i64 ia, .int .i64 ka, .int .i64 la, .int .i64 za, .int .u64 (ta : Nat), .bool sa]) := by have := Blk.new (w.alloc (.cells #[.int .i64 ia, .int .i64 ka, .int .i64 la, .int .i64 za, .int .u64 (ta : Nat), .bool sa] 25)) 25 [.int .i64 ia, .int .i64 ka, .int .i64 la, .int .i64 za, .int .u64 (ta : Nat), .bool sa]; rw [World.size_alloc] at this; exact this
      have HW : Hid (Below w.heap.size w ((w.alloc (.cells #[.int .i64 ia, .int .i64 ka, .int .i64 la, .int .i64 za, .int .u64 (ta : Nat), .bool sa] 25)).alloc (.cells #[.int .i64 ia, .int .i64 ka, .int .i64 la, .int .i64 za, .int .u64 (ta : Nat), .bool sa] 25))) := (below_new w _).trans ((below_new _ _).mono (by rw [World.size_alloc]; omega))
      have HX : Hid (Rd ((w.alloc (.cells #[.int .i64 ia, .int .i64 ka, .int .i64 la, .int .i64 za, .int .u64 (ta : Nat), .bool sa] 25)).alloc (.cells #[.int .i64 ia, .int .i64 ka, .int .i64 la, .int .i64 za, .int .u64 (ta : Nat), .bool sa] 25)) AX x) := HR0.out.below HW.out
      clear HR0
      go_enter Try.func5, Try.ntmps5
      go_upto_region 1 with (fail)
      refine wp_world (fun W => Hid (Blk W w.heap.size 25 [.int .i64 ia, .int .i64 ka, .int .i64 la, .int .i64 za, .int .u64 (ta : Nat), .bool sa]) ∧ Hid (Blk W (w.heap.size + 1) 25 [.int .i64 ia, .int .i64 ka, .int .i64 la, .int .i64 za, .int .u64 (ta : Nat), .bool sa]) ∧ Hid (Below w.heap.size w W) ∧ Hid (Rd W AX x)) ⟨XA, XB, HW, HX⟩ ?_
      clear XA XB HW HX
      rintro w0 ⟨XA0, XB0, HW0, HX0⟩
      have c0 : w0.cell? ⟨w.heap.size, 0, none⟩ = some (.int .i64 ia) := XA0.out.cell 0
      have c1 : w0.cell? ⟨w.heap.size, 1, none⟩ = some (.int .i64 ka) := XA0.out.cell 1
      have c2 : w0.cell? ⟨w.heap.size, 2, none⟩ = some (.int .i64 la) := XA0.out.cell 2
      have c3 : w0.cell? ⟨w.heap.size, 3, none⟩ = some (.int .i64 za) := XA0.out.cell 3
      have c4 : w0.cell? ⟨w.heap.size, 4, none⟩ = some (.int .u64 (ta : Nat)) := XA0.out.cell 4
      have c5 : w0.cell? ⟨w.heap.size, 5, none⟩ = some (.bool sa) := XA0.out.cell 5
      go_wp2_with fail
      clear c0 c1 c2 c3 c4 c5
      refine (enc_list C _ (HIA.out (by simp)) HYA.out).mono ?_
      rintro e w1 ⟨P1, c1, rfl, hc1, RA1, B1⟩
      have XA1 := Lib.hid (XA0.out.below B1.out XA0.out.lt)
      have XB1 := Lib.hid (XB0.out.below B1.out XB0.out.lt)
      have HX1 := Lib.hid (HX0.out.below B1.out)
      have HW1 := Lib.hid (HW0.out.trans (B1.out.mono HW0.out.size))
      clear B1 XA0 XB0 HX0 HW0
      have c0 : w1.cell? ⟨w.heap.size + 1, 0, none⟩ = some (.int .i64 ia) := XB1.out.cell 0
      have c1 : w1.cell? ⟨w.heap.size + 1, 1, none⟩ = some (.int .i64 ka) := XB1.out.cell 1
      have c2 : w1.cell? ⟨w.heap.size + 1, 2, none⟩ = some (.int .i64 la) := XB1.out.cell 2
      have c3 : w1.cell? ⟨w.heap.size + 1, 3, none⟩ = some (.int .i64 za) := XB1.out.cell 3
      have c4 : w1.cell? ⟨w.heap.size + 1, 4, none⟩ = some (.int .u64 (ta : Nat)) := XB1.out.cell 4
      have c5 : w1.cell? ⟨w.heap.size + 1, 5, none⟩ = some (.bool sa) := XB1.out.cell 5
      go_wp2_with fail
      clear c0 c1 c2 c3 c4 c5
      refine (enc_list C _ (HIA.out (by simp)) HYA.out).mono ?_
      rintro e w2 ⟨P2, c2, rfl, hc2, RB2, B2⟩
      have XA2 := Lib.hid (XA1.out.below B2.out XA1.out.lt)
      have XB2 := Lib.hid (XB1.out.below B2.out XB1.out.lt)
      have HX2 := Lib.hid (HX1.out.below B2.out)
      have RA2 := Lib.hid (RA1.out.below B2.out)
      have HW2 := Lib.hid (HW1.out.trans (B2.out.mono HW1.out.size))
      clear B2 XA1 XB1 HX1 HW1 RA1
      go_wp2_with fail
      refine (dec_as R hM _ P1 yb c1 RA2.out hc1 (by have := HLA.out; omega) (HDA.out (by simp))).mono ?_
      rintro e w3 ⟨rfl, B3⟩
      have XA3 := Lib.hid (XA2.out.below B3.out XA2.out.lt)
      have XB3 := Lib.hid (XB2.out.below B3.out XB2.out.lt)
      have HX3 := Lib.hid (HX2.out.below B3.out)
      have RA3 := Lib.hid (RA2.out.below B3.out)
      have RB3 := Lib.hid (RB2.out.below B3.out)
      have HW3 := Lib.hid (HW2.out.trans (B3.out.mono HW2.out.size))
      clear B3 XA2 XB2 HX2 HW2 RA2 RB2
      have HG1 : Hid (Blk (w3.alloc (.cells #[.int .i64 0, .int .i64 0, .int .i64 0, .int .i64 0, .int .u64 0, .bool false] 25)) w3.heap.size 25 [.int .i64 0, .int .i64 0, .int .i64 0, .int .i64 0, .int .u64 0, .bool false]) := Blk.new w3 _ _
      go_upto_region 5 with (refine wpList_store_row rfl 25 (.tmp 11) (.tmp 32) rfl w3.heap.size #[.int .i64 ia, .int .i64 ka, .int .i64 la, .int .i64 za, .int .u64 (ta : Nat), .bool sa] rfl rfl 25 #[.int .i64 0, .int .i64 0, .int .i64 0, .int .i64 0, .int .u64 0, .bool false] HG1.out rfl rfl rfl ?_)
      clear HG1
      have B4 : Hid (Below w3.heap.size w3 (w3.alloc (.cells #[.int .i64 ia, .int .i64 ka, .int .i64 la, .int .i64 za, .int .u64 (ta : Nat), .bool sa] 25))) := below_new w3 _
      have XN4 : Hid (Blk (w3.alloc (.cells #[.int .i64 ia, .int .i64 ka, .int .i64 la, .int .i64 za, .int .u64 (ta : Nat), .bool sa] 25)) w3.heap.size 25 [.int .i64 ia, .int .i64 ka, .int .i64 la, .int .i64 za, .int .u64 (ta : Nat), .bool sa]) := Blk.new w3 _ _
      have XA4 := Lib.hid (XA3.out.below B4.out XA3.out.lt)
      have XB4 := Lib.hid (XB3.out.below B4.out XB3.out.lt)
      have HX4 := Lib.hid (HX3.out.below B4.out)
      have RA4 := Lib.hid (RA3.out.below B4.out)
      have RB4 := Lib.hid (RB3.out.below B4.out)
      have HW4 := Lib.hid (HW3.out.trans (B4.out.mono HW3.out.size))
      clear B4 XA3 XB3 HX3 HW3 RA3 RB3
      refine wp_world (fun W => Hid (Blk W w3.heap.size 25 [.int .i64 ia, .int .i64 ka, .int .i64 la, .int .i64 za, .int .u64 (ta : Nat), .bool sa]) ∧ Hid (Blk W w.heap.size 25 [.int .i64 ia, .int .i64 ka, .int .i64 la, .int .i64 za, .int .u64 (ta : Nat), .bool sa]) ∧ Hid (Blk W (w.heap.size + 1) 25 [.int .i64 ia, .int .i64 ka, .int .i64 la, .int .i64 za, .int .u64 (ta : Nat), .bool sa]) ∧ Hid (Rd W AX x) ∧ Hid (Below w.heap.size w W) ∧ Hid (Rd W P1 yb) ∧ Hid (Rd W P2 yb)) ⟨XN4, XA4, XB4, HX4, HW4, RA4, RB4⟩ ?_
      clear XN4 XA4 XB4 HX4 HW4 RA4 RB4
      rintro w5 ⟨XN5, XA5, XB5, HX5, HW5, RA5, RB5⟩
      refine Rg.wp_region_facts (by kernel_rfl) (fun opn => List.getD [Rg.val (.int .i64 0), Rg.val (.bool false), Rg.val (.bool false), Rg.val (.agg #[.int .i64 ia, .int .i64 ka, .int .i64 la, .int .i64 za, .int .u64 (ta : Nat), .bool sa]), Rg.val (.agg #[.int .i64 ia, .int .i64 ka, .int .i64 la, .int .i64 za, .int .u64 (ta : Nat), .bool sa]), Rg.val (.bool false), Rg.val (.bool false), Rg.val (.bool false), Rg.val (.slice P1 yb.length c1), Rg.val (.int .i64 ((yb).length : Nat)), Rg.val (.bool false), Rg.val (.bool false), Rg.val (.bool false), Rg.val (.int .i64 0), Rg.val (.bool true), Rg.val (.bool true), Rg.val (.slice P1 yb.length c1), Rg.val (.string (strOf (yb))), Rg.val (.slice P2 yb.length c2), Rg.val (.string (strOf (yb))), Rg.val (.bool true), Rg.val (.agg #[.int .i64 ia, .int .i64 ka, .int .i64 la, .int .i64 za, .int .u64 (ta : Nat), .bool sa]), Rg.val (.agg #[.int .i64 ia, .int .i64 ka, .int .i64 la, .int .i64 za, .int .u64 (ta : Nat), .bool sa]), Rg.val (.bool true), Rg.val (.bool false), Rg.val (.bool false), Rg.val (.bool false)] opn Rg.any) [] [[], [(0, 34)], [(1, 35)], [(2, 36)], [(2, 36)], [(2, 36), (3, 37), (4, 38)], [(2, 36), (5, 39)], [(6, 40)], [(7, 41)], [(7, 41), (8, 42)], [(7, 41), (9, 43)], [(7, 41), (10, 44)], [(11, 45)], [(12, 46)], [(12, 46), (13, 47)], [(12, 46), (14, 48)], [(15, 49)], [(15, 49), (16, 50)], [(15, 49)], [(15, 49), (18, 52)], [(15, 49), (17, 51), (19, 53)], [(15, 49)], [(15, 49)], [(15, 49), (21, 55), (22, 56)], [(15, 49), (20, 54), (23, 57)], [(12, 46), (15, 49), (24, 58)], [(12, 46), (25, 59)]] [] (by kernel_rfl) (by rfl) (by kernel_rfl) ?_ ?_
      · intro fr ha
        have hz : fr.tmps.size = 91 := by rw [ha]; rfl
        have y3 : fr.eval (.tmp 3) = .pointer (some ⟨w.heap.size, 0, none⟩) := by rw [ha]; rfl
        have y4 : fr.eval (.tmp 4) = .pointer (some ⟨w.heap.size + 1, 0, none⟩) := by rw [ha]; rfl
        have y7 : fr.eval (.tmp 7) = .slice P1 yb.length c1 := by rw [ha]; rfl
        have y9 : fr.eval (.tmp 9) = .slice P2 yb.length c2 := by rw [ha]; rfl
        have y10 : fr.eval (.tmp 10) = .int .i64 0 := by rw [ha]; rfl
        have y11 : fr.eval (.tmp 11) = .pointer (some ⟨w3.heap.size, 0, none⟩) := by rw [ha]; rfl
        have y12 : fr.eval (.tmp 12) = .int .i64 0 := by rw [ha]; rfl
        clear ha
        refine .cons ?_ (.cons ?_ (.cons ?_ (.cons ?_ (.cons ?_ (.cons ?_ (.cons ?_ (.cons ?_ (.cons ?_ (.cons ?_ (.cons ?_ (.cons ?_ (.cons ?_ (.cons ?_ (.cons ?_ (.cons ?_ (.cons ?_ (.cons ?_ (.cons ?_ (.cons ?_ (.cons ?_ (.cons ?_ (.cons ?_ (.cons ?_ (.cons ?_ (.cons ?_ (.cons ?_ (.nil)))))))))))))))))))))))))))
        · intro V w2 HL HH
          have HL : Later w5 w2 := HL
          have tb12 : (Rg.putUse V [] fr).eval (.tmp 12) = .int .i64 0 := (Rg.use_eval V fr 12 [] (by simp only [hz]; decide)).trans y12
          show Rg.Does1 _ _ V (Rg.putUse V [] fr) w2 _
          exact step_mv (.int .i64 0) (by simp only [execOp, tb12]; go_simp) rfl rfl rfl True.intro
        · intro V w2 HL HH
          have HL : Later w5 w2 := HL
          have h0 : V 0 = .int .i64 0 := HH.1
          have tb34 : (Rg.putUse V [(0, 34)] fr).eval (.tmp 34) = .int .i64 0 := (Rg.use_eval V fr 34 [(0, 34)] (by simp only [hz]; decide)).trans h0
          show Rg.Does1 _ _ V (Rg.putUse V [(0, 34)] fr) w2 _
          exact step_mv (.bool false) (by simp only [execOp, tb34]; go_simp) rfl rfl rfl True.intro
        · intro V w2 HL HH
          have HL : Later w5 w2 := HL
          have h1 : V 1 = .bool false := HH.1
          have tb35 : (Rg.putUse V [(1, 35)] fr).eval (.tmp 35) = .bool false := (Rg.use_eval V fr 35 [(1, 35)] (by simp only [hz]; decide)).trans h1
          show Rg.Does1 _ _ V (Rg.putUse V [(1, 35)] fr) w2 _
          exact step_mv (.bool false) (by simp only [execOp, tb35]; go_simp) rfl rfl rfl True.intro
        · intro V w2 HL HH
          have HL : Later w5 w2 := HL
          have h2 : V 2 = .bool false := HH.1
          have tb11 : (Rg.putUse V [(2, 36)] fr).eval (.tmp 11) = .pointer (some ⟨w3.heap.size, 0, none⟩) := (Rg.use_eval V fr 11 [(2, 36)] (by simp only [hz]; decide)).trans y11
          show Rg.Does1 _ _ V (Rg.putUse V [(2, 36)] fr) w2 _
          have d0 : w2.cell? ⟨w3.heap.size, 0, none⟩ = some (.int .i64 ia) := (XN5.out.below HL XN5.out.lt).cell 0
          have d1 : w2.cell? ⟨w3.heap.size, 1, none⟩ = some (.int .i64 ka) := (XN5.out.below HL XN5.out.lt).cell 1
          have d2 : w2.cell? ⟨w3.heap.size, 2, none⟩ = some (.int .i64 la) := (XN5.out.below HL XN5.out.lt).cell 2
          have d3 : w2.cell? ⟨w3.heap.size, 3, none⟩ = some (.int .i64 za) := (XN5.out.below HL XN5.out.lt).cell 3
          have d4 : w2.cell? ⟨w3.heap.size, 4, none⟩ = some (.int .u64 (ta : Nat)) := (XN5.out.below HL XN5.out.lt).cell 4
          have d5 : w2.cell? ⟨w3.heap.size, 5, none⟩ = some (.bool sa) := (XN5.out.below HL XN5.out.lt).cell 5
          exact step_mv (.agg #[.int .i64 ia, .int .i64 ka, .int .i64 la, .int .i64 za, .int .u64 (ta : Nat), .bool sa]) (by simp only [execOp, tb11]; go_simp) rfl rfl rfl h2
        · intro V w2 HL HH
          have HL : Later w5 w2 := HL
          have h2 : V 2 = .bool false := HH.1
          have tb3 : (Rg.putUse V [(2, 36)] fr).eval (.tmp 3) = .pointer (some ⟨w.heap.size, 0, none⟩) := (Rg.use_eval V fr 3 [(2, 36)] (by simp only [hz]; decide)).trans y3
          show Rg.Does1 _ _ V (Rg.putUse V [(2, 36)] fr) w2 _
          have d0 : w2.cell? ⟨w.heap.size, 0, none⟩ = some (.int .i64 ia) := (XA5.out.below HL XA5.out.lt).cell 0
          have d1 : w2.cell? ⟨w.heap.size, 1, none⟩ = some (.int .i64 ka) := (XA5.out.below HL XA5.out.lt).cell 1
          have d2 : w2.cell? ⟨w.heap.size, 2, none⟩ = some (.int .i64 la) := (XA5.out.below HL XA5.out.lt).cell 2
          have d3 : w2.cell? ⟨w.heap.size, 3, none⟩ = some (.int .i64 za) := (XA5.out.below HL XA5.out.lt).cell 3
          have d4 : w2.cell? ⟨w.heap.size, 4, none⟩ = some (.int .u64 (ta : Nat)) := (XA5.out.below HL XA5.out.lt).cell 4
          have d5 : w2.cell? ⟨w.heap.size, 5, none⟩ = some (.bool sa) := (XA5.out.below HL XA5.out.lt).cell 5
          exact step_mv (.agg #[.int .i64 ia, .int .i64 ka, .int .i64 la, .int .i64 za, .int .u64 (ta : Nat), .bool sa]) (by simp only [execOp, tb3]; go_simp) rfl rfl rfl h2
        · intro V w2 HL HH
          have HL : Later w5 w2 := HL
          have h2 : V 2 = .bool false := HH.1
          have h3 : V 3 = .agg #[.int .i64 ia, .int .i64 ka, .int .i64 la, .int .i64 za, .int .u64 (ta : Nat), .bool sa] := HH.2.1
          have h4 : V 4 = .agg #[.int .i64 ia, .int .i64 ka, .int .i64 la, .int .i64 za, .int .u64 (ta : Nat), .bool sa] := HH.2.2.1
          have tb37 : (Rg.putUse V [(2, 36), (3, 37), (4, 38)] fr).eval (.tmp 37) = .agg #[.int .i64 ia, .int .i64 ka, .int .i64 la, .int .i64 za, .int .u64 (ta : Nat), .bool sa] := (Rg.use_eval V fr 37 [(2, 36), (3, 37), (4, 38)] (by simp only [hz]; decide)).trans h3
          have tb38 : (Rg.putUse V [(2, 36), (3, 37), (4, 38)] fr).eval (.tmp 38) = .agg #[.int .i64 ia, .int .i64 ka, .int .i64 la, .int .i64 za, .int .u64 (ta : Nat), .bool sa] := (Rg.use_eval V fr 38 [(2, 36), (3, 37), (4, 38)] (by simp only [hz]; decide)).trans h4
          show Rg.Does1 _ _ V (Rg.putUse V [(2, 36), (3, 37), (4, 38)] fr) w2 _
          exact step_mv (.bool false) (by simp only [execOp, tb37, tb38]; go_simp) rfl rfl rfl h2
        · intro V w2 HL HH
          have HL : Later w5 w2 := HL
          have h2 : V 2 = .bool false := HH.1
          have h5 : V 5 = .bool false := HH.2.1
          have tb36 : (Rg.putUse V [(2, 36), (5, 39)] fr).eval (.tmp 36) = .bool false := (Rg.use_eval V fr 36 [(2, 36), (5, 39)] (by simp only [hz]; decide)).trans h2
          have tb39 : (Rg.putUse V [(2, 36), (5, 39)] fr).eval (.tmp 39) = .bool false := (Rg.use_eval V fr 39 [(2, 36), (5, 39)] (by simp only [hz]; decide)).trans h5
          show Rg.Does1 _ _ V (Rg.putUse V [(2, 36), (5, 39)] fr) w2 _
          exact step_mv (.bool false) (by simp only [execOp, tb36, tb39]; go_simp) rfl rfl rfl True.intro
        · intro V w2 HL HH
          have HL : Later w5 w2 := HL
          have h6 : V 6 = .bool false := HH.1
          have tb40 : (Rg.putUse V [(6, 40)] fr).eval (.tmp 40) = .bool false := (Rg.use_eval V fr 40 [(6, 40)] (by simp only [hz]; decide)).trans h6
          show Rg.Does1 _ _ V (Rg.putUse V [(6, 40)] fr) w2 _
          exact step_mv (.bool false) (by simp only [execOp, tb40]; go_simp) rfl rfl rfl True.intro
        · intro V w2 HL HH
          have HL : Later w5 w2 := HL
          have h7 : V 7 = .bool false := HH.1
          have tb7 : (Rg.putUse V [(7, 41)] fr).eval (.tmp 7) = .slice P1 yb.length c1 := (Rg.use_eval V fr 7 [(7, 41)] (by simp only [hz]; decide)).trans y7
          show Rg.Does1 _ _ V (Rg.putUse V [(7, 41)] fr) w2 _
          exact step_mv (.slice P1 yb.length c1) (by simp only [execOp, tb7]; go_simp) rfl rfl rfl h7
        · intro V w2 HL HH
          have HL : Later w5 w2 := HL
          have h7 : V 7 = .bool false := HH.1
          have h8 : V 8 = .slice P1 yb.length c1 := HH.2.1
          have tb42 : (Rg.putUse V [(7, 41), (8, 42)] fr).eval (.tmp 42) = .slice P1 yb.length c1 := (Rg.use_eval V fr 42 [(7, 41), (8, 42)] (by simp only [hz]; decide)).trans h8
          show Rg.Does1 _ _ V (Rg.putUse V [(7, 41), (8, 42)] fr) w2 _
          exact step_mv (.int .i64 ((yb).length : Nat)) (by simp only [execOp, resolve, List.map_toArray, List.map_cons, List.map_nil, tb42]; go_simp) rfl rfl rfl h7
        · intro V w2 HL HH
          have HL : Later w5 w2 := HL
          have h7 : V 7 = .bool false := HH.1
          have h9 : V 9 = .int .i64 ((yb).length : Nat) := HH.2.1
          have tb43 : (Rg.putUse V [(7, 41), (9, 43)] fr).eval (.tmp 43) = .int .i64 ((yb).length : Nat) := (Rg.use_eval V fr 43 [(7, 41), (9, 43)] (by simp only [hz]; decide)).trans h9
          show Rg.Does1 _ _ V (Rg.putUse V [(7, 41), (9, 43)] fr) w2 _
          have hl16 : ((yb.length : Nat) : Int) = 16 := by rw [HLA.out]; rfl
          exact step_mv (.bool false) (by simp only [execOp, tb43]; go_simp) rfl rfl rfl h7
        · intro V w2 HL HH
          have HL : Later w5 w2 := HL
          have h7 : V 7 = .bool false := HH.1
          have h10 : V 10 = .bool false := HH.2.1
          have tb41 : (Rg.putUse V [(7, 41), (10, 44)] fr).eval (.tmp 41) = .bool false := (Rg.use_eval V fr 41 [(7, 41), (10, 44)] (by simp only [hz]; decide)).trans h7
          have tb44 : (Rg.putUse V [(7, 41), (10, 44)] fr).eval (.tmp 44) = .bool false := (Rg.use_eval V fr 44 [(7, 41), (10, 44)] (by simp only [hz]; decide)).trans h10
          show Rg.Does1 _ _ V (Rg.putUse V [(7, 41), (10, 44)] fr) w2 _
          exact step_mv (.bool false) (by simp only [execOp, tb41, tb44]; go_simp) rfl rfl rfl True.intro
        · intro V w2 HL HH
          have HL : Later w5 w2 := HL
          have h11 : V 11 = .bool false := HH.1
          have tb45 : (Rg.putUse V [(11, 45)] fr).eval (.tmp 45) = .bool false := (Rg.use_eval V fr 45 [(11, 45)] (by simp only [hz]; decide)).trans h11
          show Rg.Does1 _ _ V (Rg.putUse V [(11, 45)] fr) w2 _
          exact step_mv (.bool false) (by simp only [execOp, tb45]; go_simp) rfl rfl rfl True.intro
        · intro V w2 HL HH
          have HL : Later w5 w2 := HL
          have h12 : V 12 = .bool false := HH.1
          have tb10 : (Rg.putUse V [(12, 46)] fr).eval (.tmp 10) = .int .i64 0 := (Rg.use_eval V fr 10 [(12, 46)] (by simp only [hz]; decide)).trans y10
          show Rg.Does1 _ _ V (Rg.putUse V [(12, 46)] fr) w2 _
          exact step_mv (.int .i64 0) (by simp only [execOp, tb10]; go_simp) rfl rfl rfl h12
        · intro V w2 HL HH
          have HL : Later w5 w2 := HL
          have h12 : V 12 = .bool false := HH.1
          have h13 : V 13 = .int .i64 0 := HH.2.1
          have tb47 : (Rg.putUse V [(12, 46), (13, 47)] fr).eval (.tmp 47) = .int .i64 0 := (Rg.use_eval V fr 47 [(12, 46), (13, 47)] (by simp only [hz]; decide)).trans h13
          show Rg.Does1 _ _ V (Rg.putUse V [(12, 46), (13, 47)] fr) w2 _
          exact step_mv (.bool true) (by simp only [execOp, tb47]; go_simp) rfl rfl rfl h12
        · intro V w2 HL HH
          have HL : Later w5 w2 := HL
          have h12 : V 12 = .bool false := HH.1
          have h14 : V 14 = .bool true := HH.2.1
          have tb48 : (Rg.putUse V [(12, 46), (14, 48)] fr).eval (.tmp 48) = .bool true := (Rg.use_eval V fr 48 [(12, 46), (14, 48)] (by simp only [hz]; decide)).trans h14
          show Rg.Does1 _ _ V (Rg.putUse V [(12, 46), (14, 48)] fr) w2 _
          exact step_mv (.bool true) (by simp only [execOp, tb48]; go_simp) rfl rfl rfl h12
        · intro V w2 HL HH
          have HL : Later w5 w2 := HL
          have h15 : V 15 = .bool true := HH.1
          have tb7 : (Rg.putUse V [(15, 49)] fr).eval (.tmp 7) = .slice P1 yb.length c1 := (Rg.use_eval V fr 7 [(15, 49)] (by simp only [hz]; decide)).trans y7
          show Rg.Does1 _ _ V (Rg.putUse V [(15, 49)] fr) w2 _
          exact step_mv (.slice P1 yb.length c1) (by simp only [execOp, tb7]; go_simp) rfl rfl rfl h15
        · intro V w2 HL HH
          have HL : Later w5 w2 := HL
          have h15 : V 15 = .bool true := HH.1
          have h16 : V 16 = .slice P1 yb.length c1 := HH.2.1
          have tb50 : (Rg.putUse V [(15, 49), (16, 50)] fr).eval (.tmp 50) = .slice P1 yb.length c1 := (Rg.use_eval V fr 50 [(15, 49), (16, 50)] (by simp only [hz]; decide)).trans h16
          show Rg.Does1 _ _ V (Rg.putUse V [(15, 49), (16, 50)] fr) w2 _
          exact step_str (yb) rfl tb50 (by first | rfl | simp) (HL.rd RA5.out) rfl rfl rfl h15
        · intro V w2 HL HH
          have HL : Later w5 w2 := HL
          have h15 : V 15 = .bool true := HH.1
          have tb9 : (Rg.putUse V [(15, 49)] fr).eval (.tmp 9) = .slice P2 yb.length c2 := (Rg.use_eval V fr 9 [(15, 49)] (by simp only [hz]; decide)).trans y9
          show Rg.Does1 _ _ V (Rg.putUse V [(15, 49)] fr) w2 _
          exact step_mv (.slice P2 yb.length c2) (by simp only [execOp, tb9]; go_simp) rfl rfl rfl h15
        · intro V w2 HL HH
          have HL : Later w5 w2 := HL
          have h15 : V 15 = .bool true := HH.1
          have h18 : V 18 = .slice P2 yb.length c2 := HH.2.1
          have tb52 : (Rg.putUse V [(15, 49), (18, 52)] fr).eval (.tmp 52) = .slice P2 yb.length c2 := (Rg.use_eval V fr 52 [(15, 49), (18, 52)] (by simp only [hz]; decide)).trans h18
          show Rg.Does1 _ _ V (Rg.putUse V [(15, 49), (18, 52)] fr) w2 _
          exact step_str (yb) rfl tb52 (by first | rfl | simp) (HL.rd RB5.out) rfl rfl rfl h15
        · intro V w2 HL HH
          have HL : Later w5 w2 := HL
          have h15 : V 15 = .bool true := HH.1
          have h17 : V 17 = .string (strOf (yb)) := HH.2.1
          have h19 : V 19 = .string (strOf (yb)) := HH.2.2.1
          have tb51 : (Rg.putUse V [(15, 49), (17, 51), (19, 53)] fr).eval (.tmp 51) = .string (strOf (yb)) := (Rg.use_eval V fr 51 [(15, 49), (17, 51), (19, 53)] (by simp only [hz]; decide)).trans h17
          have tb53 : (Rg.putUse V [(15, 49), (17, 51), (19, 53)] fr).eval (.tmp 53) = .string (strOf (yb)) := (Rg.use_eval V fr 53 [(15, 49), (17, 51), (19, 53)] (by simp only [hz]; decide)).trans h19
          show Rg.Does1 _ _ V (Rg.putUse V [(15, 49), (17, 51), (19, 53)] fr) w2 _
          exact step_mv (.bool true) (by simp only [execOp, tb51, tb53]; go_simp) rfl rfl rfl h15
        · intro V w2 HL HH
          have HL : Later w5 w2 := HL
          have h15 : V 15 = .bool true := HH.1
          have tb3 : (Rg.putUse V [(15, 49)] fr).eval (.tmp 3) = .pointer (some ⟨w.heap.size, 0, none⟩) := (Rg.use_eval V fr 3 [(15, 49)] (by simp only [hz]; decide)).trans y3
          show Rg.Does1 _ _ V (Rg.putUse V [(15, 49)] fr) w2 _
          have d0 : w2.cell? ⟨w.heap.size, 0, none⟩ = some (.int .i64 ia) := (XA5.out.below HL XA5.out.lt).cell 0
          have d1 : w2.cell? ⟨w.heap.size, 1, none⟩ = some (.int .i64 ka) := (XA5.out.below HL XA5.out.lt).cell 1
          have d2 : w2.cell? ⟨w.heap.size, 2, none⟩ = some (.int .i64 la) := (XA5.out.below HL XA5.out.lt).cell 2
          have d3 : w2.cell? ⟨w.heap.size, 3, none⟩ = some (.int .i64 za) := (XA5.out.below HL XA5.out.lt).cell 3
          have d4 : w2.cell? ⟨w.heap.size, 4, none⟩ = some (.int .u64 (ta : Nat)) := (XA5.out.below HL XA5.out.lt).cell 4
          have d5 : w2.cell? ⟨w.heap.size, 5, none⟩ = some (.bool sa) := (XA5.out.below HL XA5.out.lt).cell 5
          exact step_mv (.agg #[.int .i64 ia, .int .i64 ka, .int .i64 la, .int .i64 za, .int .u64 (ta : Nat), .bool sa]) (by simp only [execOp, tb3]; go_simp) rfl rfl rfl h15
        · intro V w2 HL HH
          have HL : Later w5 w2 := HL
          have h15 : V 15 = .bool true := HH.1
          have tb4 : (Rg.putUse V [(15, 49)] fr).eval (.tmp 4) = .pointer (some ⟨w.heap.size + 1, 0, none⟩) := (Rg.use_eval V fr 4 [(15, 49)] (by simp only [hz]; decide)).trans y4
          show Rg.Does1 _ _ V (Rg.putUse V [(15, 49)] fr) w2 _
          have d0 : w2.cell? ⟨w.heap.size + 1, 0, none⟩ = some (.int .i64 ia) := (XB5.out.below HL XB5.out.lt).cell 0
          have d1 : w2.cell? ⟨w.heap.size + 1, 1, none⟩ = some (.int .i64 ka) := (XB5.out.below HL XB5.out.lt).cell 1
          have d2 : w2.cell? ⟨w.heap.size + 1, 2, none⟩ = some (.int .i64 la) := (XB5.out.below HL XB5.out.lt).cell 2
          have d3 : w2.cell? ⟨w.heap.size + 1, 3, none⟩ = some (.int .i64 za) := (XB5.out.below HL XB5.out.lt).cell 3
          have d4 : w2.cell? ⟨w.heap.size + 1, 4, none⟩ = some (.int .u64 (ta : Nat)) := (XB5.out.below HL XB5.out.lt).cell 4
          have d5 : w2.cell? ⟨w.heap.size + 1, 5, none⟩ = some (.bool sa) := (XB5.out.below HL XB5.out.lt).cell 5
          exact step_mv (.agg #[.int .i64 ia, .int .i64 ka, .int .i64 la, .int .i64 za, .int .u64 (ta : Nat), .bool sa]) (by simp only [execOp, tb4]; go_simp) rfl rfl rfl h15
        · intro V w2 HL HH
          have HL : Later w5 w2 := HL
          have h15 : V 15 = .bool true := HH.1
          have h21 : V 21 = .agg #[.int .i64 ia, .int .i64 ka, .int .i64 la, .int .i64 za, .int .u64 (ta : Nat), .bool sa] := HH.2.1
          have h22 : V 22 = .agg #[.int .i64 ia, .int .i64 ka, .int .i64 la, .int .i64 za, .int .u64 (ta : Nat), .bool sa] := HH.2.2.1
          have tb55 : (Rg.putUse V [(15, 49), (21, 55), (22, 56)] fr).eval (.tmp 55) = .agg #[.int .i64 ia, .int .i64 ka, .int .i64 la, .int .i64 za, .int .u64 (ta : Nat), .bool sa] := (Rg.use_eval V fr 55 [(15, 49), (21, 55), (22, 56)] (by simp only [hz]; decide)).trans h21
          have tb56 : (Rg.putUse V [(15, 49), (21, 55), (22, 56)] fr).eval (.tmp 56) = .agg #[.int .i64 ia, .int .i64 ka, .int .i64 la, .int .i64 za, .int .u64 (ta : Nat), .bool sa] := (Rg.use_eval V fr 56 [(15, 49), (21, 55), (22, 56)] (by simp only [hz]; decide)).trans h22
          show Rg.Does1 _ _ V (Rg.putUse V [(15, 49), (21, 55), (22, 56)] fr) w2 _
          exact step_mv (.bool true) (by simp only [execOp, tb55, tb56]; go_simp) rfl rfl rfl h15
        · intro V w2 HL HH
          have HL : Later w5 w2 := HL
          have h15 : V 15 = .bool true := HH.1
          have h20 : V 20 = .bool true := HH.2.1
          have h23 : V 23 = .bool true := HH.2.2.1
          have tb54 : (Rg.putUse V [(15, 49), (20, 54), (23, 57)] fr).eval (.tmp 54) = .bool true := (Rg.use_eval V fr 54 [(15, 49), (20, 54), (23, 57)] (by simp only [hz]; decide)).trans h20
          have tb57 : (Rg.putUse V [(15, 49), (20, 54), (23, 57)] fr).eval (.tmp 57) = .bool true := (Rg.use_eval V fr 57 [(15, 49), (20, 54), (23, 57)] (by simp only [hz]; decide)).trans h23
          show Rg.Does1 _ _ V (Rg.putUse V [(15, 49), (20, 54), (23, 57)] fr) w2 _
          exact step_mv (.bool false) (by simp only [execOp, tb54, tb57]; go_simp) rfl rfl rfl h15
        · intro V w2 HL HH
          have HL : Later w5 w2 := HL
          have h12 : V 12 = .bool false := HH.1
          have h15 : V 15 = .bool true := HH.2.1
          have h24 : V 24 = .bool false := HH.2.2.1
          have tb49 : (Rg.putUse V [(12, 46), (15, 49), (24, 58)] fr).eval (.tmp 49) = .bool true := (Rg.use_eval V fr 49 [(12, 46), (15, 49), (24, 58)] (by simp only [hz]; decide)).trans h15
          have tb58 : (Rg.putUse V [(12, 46), (15, 49), (24, 58)] fr).eval (.tmp 58) = .bool false := (Rg.use_eval V fr 58 [(12, 46), (15, 49), (24, 58)] (by simp only [hz]; decide)).trans h24
          show Rg.Does1 _ _ V (Rg.putUse V [(12, 46), (15, 49), (24, 58)] fr) w2 _
          exact step_mv (.bool false) (by simp only [execOp, tb49, tb58]; go_simp) rfl rfl rfl h12
        · intro V w2 HL HH
          have HL : Later w5 w2 := HL
          have h12 : V 12 = .bool false := HH.1
          have h25 : V 25 = .bool false := HH.2.1
          have tb46 : (Rg.putUse V [(12, 46), (25, 59)] fr).eval (.tmp 46) = .bool false := (Rg.use_eval V fr 46 [(12, 46), (25, 59)] (by simp only [hz]; decide)).trans h12
          have tb59 : (Rg.putUse V [(12, 46), (25, 59)] fr).eval (.tmp 59) = .bool false := (Rg.use_eval V fr 59 [(12, 46), (25, 59)] (by simp only [hz]; decide)).trans h25
          show Rg.Does1 _ _ V (Rg.putUse V [(12, 46), (25, 59)] fr) w2 _
          exact step_mv (.bool false) (by simp only [execOp, tb46, tb59]; go_simp) rfl rfl rfl True.intro
      · intro V w2 HI
        have h26 : V 26 = .bool false := HI.get 26 (by decide) (by rfl)
        have B6 := Lib.hid (later_drew HI.later)
        simp only [Rg.putList, Act.put, List.setIfInBounds_toArray, List.set_cons_zero, List.set_cons_succ, Nat.zero_add, Nat.reduceAdd]
        rw [h26]
        clear HI
        have XA6 := Lib.hid (XA5.out.below B6.out XA5.out.lt)
        have XB6 := Lib.hid (XB5.out.below B6.out XB5.out.lt)
        have HX6 := Lib.hid (HX5.out.below B6.out)
        have HW6 := Lib.hid (HW5.out.trans (B6.out.mono HW5.out.size))
        clear B6 XA5 XB5 HX5 HW5
        go_wp2_with fail
        obtain ⟨n2, f2, hn2⟩ := pair_is (ndDec x)
        obtain ⟨iq, kq, lq, zq, tq, sq⟩ := n2
        have HN2 := Lib.hid hn2
        have HCS := Lib.hid (ndDec_cases x)
        have HIV : Hid (f2 = 0 → Nd.Right ⟨iq, kq, lq, zq, tq, sq⟩ ∧ Nd.bytes ⟨iq, kq, lq, zq, tq, sq⟩ = x) := fun h => by
          have h1 := ndDec_inv x (by rw [hn2]; exact h)
          rw [hn2] at h1
          exact h1
        clear hn2
        refine (dec_as R hM _ AX x cx HX6.out HCX.out HLX.out HN2.out).mono ?_
        rintro e w7 ⟨rfl, B7⟩
        have HX7 := Lib.hid (HX6.out.below B7.out)
        have HW7 := Lib.hid (HW6.out.trans (B7.out.mono HW6.out.size))
        clear B7 HX6 HW6 XA6 XB6
        by_cases h0 : f2 = 0
        · subst h0
          obtain ⟨hr2, hb2⟩ := HIV.out rfl
          have HR2 := Lib.hid hr2
          have HB2 := Lib.hid hb2
          have HL2 : Hid (x.length = 16) := by show _ = _; rw [← hb2]; exact Nd.bytes_length _
          clear hr2 hb2 HIV HCS HN2
          have HG1 : Hid (Blk (w7.alloc (.cells #[.int .i64 0, .int .i64 0, .int .i64 0, .int .i64 0, .int .u64 0, .bool false] 25)) w7.heap.size 25 [.int .i64 0, .int .i64 0, .int .i64 0, .int .i64 0, .int .u64 0, .bool false]) := Blk.new w7 _ _
          have cz : ((0 : Nat) : Int) = 0 := rfl
          go_upto_region 8 with (refine wpList_store_row rfl 25 (.tmp 13) (.tmp 64) rfl w7.heap.size #[.int .i64 iq, .int .i64 kq, .int .i64 lq, .int .i64 zq, .int .u64 (tq : Nat), .bool sq] rfl rfl 25 #[.int .i64 0, .int .i64 0, .int .i64 0, .int .i64 0, .int .u64 0, .bool false] HG1.out rfl rfl rfl ?_)
          clear HG1
          have XN8 : Hid (Blk (w7.alloc (.cells #[.int .i64 iq, .int .i64 kq, .int .i64 lq, .int .i64 zq, .int .u64 (tq : Nat), .bool sq] 25)) w7.heap.size 25 [.int .i64 iq, .int .i64 kq, .int .i64 lq, .int .i64 zq, .int .u64 (tq : Nat), .bool sq]) := Blk.new w7 _ _
          have HX8 : Hid (Rd (w7.alloc (.cells #[.int .i64 iq, .int .i64 kq, .int .i64 lq, .int .i64 zq, .int .u64 (tq : Nat), .bool sq] 25)) AX x) := HX7.out.below (below_new w7 _)
          have HW8 : Hid (Below w.heap.size w (w7.alloc (.cells #[.int .i64 iq, .int .i64 kq, .int .i64 lq, .int .i64 zq, .int .u64 (tq : Nat), .bool sq] 25))) := HW7.out.trans ((below_new w7 _).mono HW7.out.size)
          refine wp_world (fun W => Hid (Blk W w7.heap.size 25 [.int .i64 iq, .int .i64 kq, .int .i64 lq, .int .i64 zq, .int .u64 (tq : Nat), .bool sq]) ∧ Hid (Rd W AX x) ∧ Hid (Below w.heap.size w W)) ⟨XN8, HX8, HW8⟩ ?_
          clear XN8 HX8 HW8 HX7 HW7
          rintro w8 ⟨XN8, HX8, HW8⟩
          have c0 : w8.cell? ⟨w7.heap.size, 0, none⟩ = some (.int .i64 iq) := XN8.out.cell 0
          have c1 : w8.cell? ⟨w7.heap.size, 1, none⟩ = some (.int .i64 kq) := XN8.out.cell 1
          have c2 : w8.cell? ⟨w7.heap.size, 2, none⟩ = some (.int .i64 lq) := XN8.out.cell 2
          have c3 : w8.cell? ⟨w7.heap.size, 3, none⟩ = some (.int .i64 zq) := XN8.out.cell 3
          have c4 : w8.cell? ⟨w7.heap.size, 4, none⟩ = some (.int .u64 (tq : Nat)) := XN8.out.cell 4
          have c5 : w8.cell? ⟨w7.heap.size, 5, none⟩ = some (.bool sq) := XN8.out.cell 5
          go_wp2_with fail
          clear c0 c1 c2 c3 c4 c5
          refine (enc_list C _ HR2.out HB2.out).mono ?_
          rintro e w9 ⟨P9, c9, rfl, hc9, R9, B9⟩
          have HX9 := Lib.hid (HX8.out.below B9.out)
          have HW9 := Lib.hid (HW8.out.trans (B9.out.mono HW8.out.size))
          have hs1 := str_any w9 P9 x c9 R9.out
          have hs2 := str_any w9 AX x cx HX9.out
          clear B9 XN8 HX8 HW8 hc9
          go_wp2_with fail
          clear hs1 hs2
          refine (known10_any C _).mono ?_
          rintro e w10 ⟨rfl, hb⟩
          have HF := Lib.hid (HW9.out.trans (hb.mono HW9.out.size))
          clear hb
          go_wp2_with fail
          go_ret
          exact ⟨rfl, HF.out⟩
        · have hz : f2 = 12 ∧ (⟨iq, kq, lq, zq, tq, sq⟩ : Nd) = Nd.zero := by
            have h1 := HN2.out
            rcases HCS.out with h2 | h2
            · rw [h2] at h1
              injection h1 with e1 e2
              exact ⟨e2.symm, e1.symm⟩
            · rw [h1] at h2
              exact absurd h2 h0
          obtain ⟨rfl, hz2⟩ := hz
          injection hz2 with e1 e2 e3 e4 e5 e6
          subst e1 e2 e3 e4 e5 e6
          clear h0 HCS HN2 HIV HX7
          have HG1 : Hid (Blk (w7.alloc (.cells #[.int .i64 0, .int .i64 0, .int .i64 0, .int .i64 0, .int .u64 0, .bool false] 25)) w7.heap.size 25 [.int .i64 0, .int .i64 0, .int .i64 0, .int .i64 0, .int .u64 0, .bool false]) := Blk.new w7 _ _
          have HW8 : Hid (Below w.heap.size w (w7.alloc (.cells #[.int .i64 0, .int .i64 0, .int .i64 0, .int .i64 0, .int .u64 0, .bool false] 25))) := HW7.out.trans ((below_new w7 _).mono HW7.out.size)
          have cz : ((12 : Nat) : Int) = 12 := rfl
          have cy : ((0 : Nat) : Int) = 0 := rfl
          go_wp2_with (refine wpList_store_row rfl 25 (.tmp 13) (.tmp 64) rfl w7.heap.size #[.int .i64 0, .int .i64 0, .int .i64 0, .int .i64 0, .int .u64 0, .bool false] rfl rfl 25 #[.int .i64 0, .int .i64 0, .int .i64 0, .int .i64 0, .int .u64 0, .bool false] HG1.out rfl rfl rfl ?_)
          refine (known10_any C _).mono ?_
          rintro e w10 ⟨rfl, hb⟩
          have HF := Lib.hid (HW8.out.trans (hb.mono HW8.out.size))
          clear hb
          go_wp2_with fail
          go_ret
          exact ⟨rfl, HF.out⟩
  · have HEB : Hid (∀ w, (binOp .eql 25 a.val b.val).run Try.prog w = .ok (.bool false) w) := HEQ.out hab
    have HNS : Hid (fa = true → fb = true → ((strOf ya).toList == (strOf yb).toList) = false) := fun h1 h2 => HNE.out h1 h2 hab
    clear HEQ hab HNE
    obtain ⟨ia, ka, la, za, ta, sa⟩ := a
    obtain ⟨ib, kb, lb, zb, tb, sb⟩ := b
    cases fa
    · cases fb
      · show Calls _ _ #[.agg #[.int .i64 ia, .int .i64 ka, .int .i64 la, .int .i64 za, .int .u64 (ta : Nat), .bool sa], .agg #[.int .i64 ib, .int .i64 kb, .int .i64 lb, .int .i64 zb, .int .u64 (tb : Nat), .bool sb], .slice AX x.length cx] w _
        have XA : Hid (Blk ((w.alloc (.cells #[.int .i64 ia, .int .i64 ka, .int .i64 la, .int .i64 za, .int .u64 (ta : Nat), .bool sa] 25)).alloc (.cells #[.int .i64 ib, .int .i64 kb, .int .i64 lb, .int .i64 zb, .int .u64 (tb : Nat), .bool sb] 25)) w.heap.size 25 [.int .i64 ia, .int .i64 ka, .int .i64 la, .int .i64 za, .int .u64 (ta : Nat), .bool sa]) := (Blk.new w _ _).alloc _
        have XB : Hid (Blk ((w.alloc (.cells #[.int .i64 ia, .int .i64 ka, .int .i64 la, .int .i64 za, .int .u64 (ta : Nat), .bool sa] 25)).alloc (.cells #[.int .i64 ib, .int .i64 kb, .int .i64 lb, .int .i64 zb, .int .u64 (tb : Nat), .bool sb] 25)) (w.heap.size + 1) 25 [.int .i64 ib, .int .i64 kb, .int .i64 lb, .int .i64 zb, .int .u64 (tb : Nat), .bool sb]) := by have := Blk.new (w.alloc (.cells #[.int .i64 ia, .int .i64 ka, .int .i64 la, .int .i64 za, .int .u64 (ta : Nat), .bool sa] 25)) 25 [.int .i64 ib, .int .i64 kb, .int .i64 lb, .int .i64 zb, .int .u64 (tb : Nat), .bool sb]; rw [World.size_alloc] at this; exact this
        have HW : Hid (Below w.heap.size w ((w.alloc (.cells #[.int .i64 ia, .int .i64 ka, .int .i64 la, .int .i64 za, .int .u64 (ta : Nat), .bool sa] 25)).alloc (.cells #[.int .i64 ib, .int .i64 kb, .int .i64 lb, .int .i64 zb, .int .u64 (tb : Nat), .bool sb] 25))) := (below_new w _).trans ((below_new _ _).mono (by rw [World.size_alloc]; omega))
        have HX : Hid (Rd ((w.alloc (.cells #[.int .i64 ia, .int .i64 ka, .int .i64 la, .int .i64 za, .int .u64 (ta : Nat), .bool sa] 25)).alloc (.cells #[.int .i64 ib, .int .i64 kb, .int .i64 lb, .int .i64 zb, .int .u64 (tb : Nat), .bool sb] 25)) AX x) := HR0.out.below HW.out
        clear HR0
        go_enter Try.func5, Try.ntmps5
        go_upto_region 1 with (fail)
        refine wp_world (fun W => Hid (Blk W w.heap.size 25 [.int .i64 ia, .int .i64 ka, .int .i64 la, .int .i64 za, .int .u64 (ta : Nat), .bool sa]) ∧ Hid (Blk W (w.heap.size + 1) 25 [.int .i64 ib, .int .i64 kb, .int .i64 lb, .int .i64 zb, .int .u64 (tb : Nat), .bool sb]) ∧ Hid (Below w.heap.size w W) ∧ Hid (Rd W AX x)) ⟨XA, XB, HW, HX⟩ ?_
        clear XA XB HW HX
        rintro w0 ⟨XA0, XB0, HW0, HX0⟩
        have c0 : w0.cell? ⟨w.heap.size, 0, none⟩ = some (.int .i64 ia) := XA0.out.cell 0
        have c1 : w0.cell? ⟨w.heap.size, 1, none⟩ = some (.int .i64 ka) := XA0.out.cell 1
        have c2 : w0.cell? ⟨w.heap.size, 2, none⟩ = some (.int .i64 la) := XA0.out.cell 2
        have c3 : w0.cell? ⟨w.heap.size, 3, none⟩ = some (.int .i64 za) := XA0.out.cell 3
        have c4 : w0.cell? ⟨w.heap.size, 4, none⟩ = some (.int .u64 (ta : Nat)) := XA0.out.cell 4
        have c5 : w0.cell? ⟨w.heap.size, 5, none⟩ = some (.bool sa) := XA0.out.cell 5
        go_wp2_with fail
        clear c0 c1 c2 c3 c4 c5
        refine (enc_no_as _ HFA.out).mono ?_
        rintro e w1 ⟨rfl, B1⟩
        have XA1 := Lib.hid (XA0.out.below B1.out XA0.out.lt)
        have XB1 := Lib.hid (XB0.out.below B1.out XB0.out.lt)
        have HX1 := Lib.hid (HX0.out.below B1.out)
        have HW1 := Lib.hid (HW0.out.trans (B1.out.mono HW0.out.size))
        clear B1 XA0 XB0 HX0 HW0
        have c0 : w1.cell? ⟨w.heap.size + 1, 0, none⟩ = some (.int .i64 ib) := XB1.out.cell 0
        have c1 : w1.cell? ⟨w.heap.size + 1, 1, none⟩ = some (.int .i64 kb) := XB1.out.cell 1
        have c2 : w1.cell? ⟨w.heap.size + 1, 2, none⟩ = some (.int .i64 lb) := XB1.out.cell 2
        have c3 : w1.cell? ⟨w.heap.size + 1, 3, none⟩ = some (.int .i64 zb) := XB1.out.cell 3
        have c4 : w1.cell? ⟨w.heap.size + 1, 4, none⟩ = some (.int .u64 (tb : Nat)) := XB1.out.cell 4
        have c5 : w1.cell? ⟨w.heap.size + 1, 5, none⟩ = some (.bool sb) := XB1.out.cell 5
        go_wp2_with fail
        clear c0 c1 c2 c3 c4 c5
        refine (enc_no_as _ HFB.out).mono ?_
        rintro e w2 ⟨rfl, B2⟩
        have XA2 := Lib.hid (XA1.out.below B2.out XA1.out.lt)
        have XB2 := Lib.hid (XB1.out.below B2.out XB1.out.lt)
        have HX2 := Lib.hid (HX1.out.below B2.out)
        have HW2 := Lib.hid (HW1.out.trans (B2.out.mono HW1.out.size))
        clear B2 XA1 XB1 HX1 HW1
        go_wp2_with fail
        obtain ⟨n2, f2, hn2⟩ := pair_is (ndDec x)
        obtain ⟨iq, kq, lq, zq, tq, sq⟩ := n2
        have HN2 := Lib.hid hn2
        have HCS := Lib.hid (ndDec_cases x)
        have HIV : Hid (f2 = 0 → Nd.Right ⟨iq, kq, lq, zq, tq, sq⟩ ∧ Nd.bytes ⟨iq, kq, lq, zq, tq, sq⟩ = x) := fun h => by
          have h1 := ndDec_inv x (by rw [hn2]; exact h)
          rw [hn2] at h1
          exact h1
        clear hn2
        refine (dec_as R hM _ AX x cx HX2.out HCX.out HLX.out HN2.out).mono ?_
        rintro e w7 ⟨rfl, B7⟩
        have HX7 := Lib.hid (HX2.out.below B7.out)
        have HW7 := Lib.hid (HW2.out.trans (B7.out.mono HW2.out.size))
        clear B7 HX2 HW2 XA2 XB2
        by_cases h0 : f2 = 0
        · subst h0
          obtain ⟨hr2, hb2⟩ := HIV.out rfl
          have HR2 := Lib.hid hr2
          have HB2 := Lib.hid hb2
          have HL2 : Hid (x.length = 16) := by show _ = _; rw [← hb2]; exact Nd.bytes_length _
          clear hr2 hb2 HIV HCS HN2
          have HG1 : Hid (Blk (w7.alloc (.cells #[.int .i64 0, .int .i64 0, .int .i64 0, .int .i64 0, .int .u64 0, .bool false] 25)) w7.heap.size 25 [.int .i64 0, .int .i64 0, .int .i64 0, .int .i64 0, .int .u64 0, .bool false]) := Blk.new w7 _ _
          have cz : ((0 : Nat) : Int) = 0 := rfl
          go_upto_region 8 with (refine wpList_store_row rfl 25 (.tmp 13) (.tmp 64) rfl w7.heap.size #[.int .i64 iq, .int .i64 kq, .int .i64 lq, .int .i64 zq, .int .u64 (tq : Nat), .bool sq] rfl rfl 25 #[.int .i64 0, .int .i64 0, .int .i64 0, .int .i64 0, .int .u64 0, .bool false] HG1.out rfl rfl rfl ?_)
          clear HG1
          have XN8 : Hid (Blk (w7.alloc (.cells #[.int .i64 iq, .int .i64 kq, .int .i64 lq, .int .i64 zq, .int .u64 (tq : Nat), .bool sq] 25)) w7.heap.size 25 [.int .i64 iq, .int .i64 kq, .int .i64 lq, .int .i64 zq, .int .u64 (tq : Nat), .bool sq]) := Blk.new w7 _ _
          have HX8 : Hid (Rd (w7.alloc (.cells #[.int .i64 iq, .int .i64 kq, .int .i64 lq, .int .i64 zq, .int .u64 (tq : Nat), .bool sq] 25)) AX x) := HX7.out.below (below_new w7 _)
          have HW8 : Hid (Below w.heap.size w (w7.alloc (.cells #[.int .i64 iq, .int .i64 kq, .int .i64 lq, .int .i64 zq, .int .u64 (tq : Nat), .bool sq] 25))) := HW7.out.trans ((below_new w7 _).mono HW7.out.size)
          refine wp_world (fun W => Hid (Blk W w7.heap.size 25 [.int .i64 iq, .int .i64 kq, .int .i64 lq, .int .i64 zq, .int .u64 (tq : Nat), .bool sq]) ∧ Hid (Rd W AX x) ∧ Hid (Below w.heap.size w W)) ⟨XN8, HX8, HW8⟩ ?_
          clear XN8 HX8 HW8 HX7 HW7
          rintro w8 ⟨XN8, HX8, HW8⟩
          have c0 : w8.cell? ⟨w7.heap.size, 0, none⟩ = some (.int .i64 iq) := XN8.out.cell 0
          have c1 : w8.cell? ⟨w7.heap.size, 1, none⟩ = some (.int .i64 kq) := XN8.out.cell 1
          have c2 : w8.cell? ⟨w7.heap.size, 2, none⟩ = some (.int .i64 lq) := XN8.out.cell 2
          have c3 : w8.cell? ⟨w7.heap.size, 3, none⟩ = some (.int .i64 zq) := XN8.out.cell 3
          have c4 : w8.cell? ⟨w7.heap.size, 4, none⟩ = some (.int .u64 (tq : Nat)) := XN8.out.cell 4
          have c5 : w8.cell? ⟨w7.heap.size, 5, none⟩ = some (.bool sq) := XN8.out.cell 5
          go_wp2_with fail
          clear c0 c1 c2 c3 c4 c5
          refine (enc_list C _ HR2.out HB2.out).mono ?_
          rintro e w9 ⟨P9, c9, rfl, hc9, R9, B9⟩
          have HX9 := Lib.hid (HX8.out.below B9.out)
          have HW9 := Lib.hid (HW8.out.trans (B9.out.mono HW8.out.size))
          have hs1 := str_any w9 P9 x c9 R9.out
          have hs2 := str_any w9 AX x cx HX9.out
          clear B9 XN8 HX8 HW8 hc9
          go_wp2_with fail
          clear hs1 hs2
          refine (known10_any C _).mono ?_
          rintro e w10 ⟨rfl, hb⟩
          have HF := Lib.hid (HW9.out.trans (hb.mono HW9.out.size))
          clear hb
          go_wp2_with fail
          go_ret
          exact ⟨rfl, HF.out⟩
        · have hz : f2 = 12 ∧ (⟨iq, kq, lq, zq, tq, sq⟩ : Nd) = Nd.zero := by
            have h1 := HN2.out
            rcases HCS.out with h2 | h2
            · rw [h2] at h1
              injection h1 with e1 e2
              exact ⟨e2.symm, e1.symm⟩
            · rw [h1] at h2
              exact absurd h2 h0
          obtain ⟨rfl, hz2⟩ := hz
          injection hz2 with e1 e2 e3 e4 e5 e6
          subst e1 e2 e3 e4 e5 e6
          clear h0 HCS HN2 HIV HX7
          have HG1 : Hid (Blk (w7.alloc (.cells #[.int .i64 0, .int .i64 0, .int .i64 0, .int .i64 0, .int .u64 0, .bool false] 25)) w7.heap.size 25 [.int .i64 0, .int .i64 0, .int .i64 0, .int .i64 0, .int .u64 0, .bool false]) := Blk.new w7 _ _
          have HW8 : Hid (Below w.heap.size w (w7.alloc (.cells #[.int .i64 0, .int .i64 0, .int .i64 0, .int .i64 0, .int .u64 0, .bool false] 25))) := HW7.out.trans ((below_new w7 _).mono HW7.out.size)
          have cz : ((12 : Nat) : Int) = 12 := rfl
          have cy : ((0 : Nat) : Int) = 0 := rfl
          go_wp2_with (refine wpList_store_row rfl 25 (.tmp 13) (.tmp 64) rfl w7.heap.size #[.int .i64 0, .int .i64 0, .int .i64 0, .int .i64 0, .int .u64 0, .bool false] rfl rfl 25 #[.int .i64 0, .int .i64 0, .int .i64 0, .int .i64 0, .int .u64 0, .bool false] HG1.out rfl rfl rfl ?_)
          refine (known10_any C _).mono ?_
          rintro e w10 ⟨rfl, hb⟩
          have HF := Lib.hid (HW8.out.trans (hb.mono HW8.out.size))
          clear hb
          go_wp2_with fail
          go_ret
          exact ⟨rfl, HF.out⟩
      · show Calls _ _ #[.agg #[.int .i64 ia, .int .i64 ka, .int .i64 la, .int .i64 za, .int .u64 (ta : Nat), .bool sa], .agg #[.int .i64 ib, .int .i64 kb, .int .i64 lb, .int .i64 zb, .int .u64 (tb : Nat), .bool sb], .slice AX x.length cx] w _
        have XA : Hid (Blk ((w.alloc (.cells #[.int .i64 ia, .int .i64 ka, .int .i64 la, .int .i64 za, .int .u64 (ta : Nat), .bool sa] 25)).alloc (.cells #[.int .i64 ib, .int .i64 kb, .int .i64 lb, .int .i64 zb, .int .u64 (tb : Nat), .bool sb] 25)) w.heap.size 25 [.int .i64 ia, .int .i64 ka, .int .i64 la, .int .i64 za, .int .u64 (ta : Nat), .bool sa]) := (Blk.new w _ _).alloc _
        have XB : Hid (Blk ((w.alloc (.cells #[.int .i64 ia, .int .i64 ka, .int .i64 la, .int .i64 za, .int .u64 (ta : Nat), .bool sa] 25)).alloc (.cells #[.int .i64 ib, .int .i64 kb, .int .i64 lb, .int .i64 zb, .int .u64 (tb : Nat), .bool sb] 25)) (w.heap.size + 1) 25 [.int .i64 ib, .int .i64 kb, .int .i64 lb, .int .i64 zb, .int .u64 (tb : Nat), .bool sb]) := by have := Blk.new (w.alloc (.cells #[.int .i64 ia, .int .i64 ka, .int .i64 la, .int .i64 za, .int .u64 (ta : Nat), .bool sa] 25)) 25 [.int .i64 ib, .int .i64 kb, .int .i64 lb, .int .i64 zb, .int .u64 (tb : Nat), .bool sb]; rw [World.size_alloc] at this; exact this
        have HW : Hid (Below w.heap.size w ((w.alloc (.cells #[.int .i64 ia, .int .i64 ka, .int .i64 la, .int .i64 za, .int .u64 (ta : Nat), .bool sa] 25)).alloc (.cells #[.int .i64 ib, .int .i64 kb, .int .i64 lb, .int .i64 zb, .int .u64 (tb : Nat), .bool sb] 25))) := (below_new w _).trans ((below_new _ _).mono (by rw [World.size_alloc]; omega))
        have HX : Hid (Rd ((w.alloc (.cells #[.int .i64 ia, .int .i64 ka, .int .i64 la, .int .i64 za, .int .u64 (ta : Nat), .bool sa] 25)).alloc (.cells #[.int .i64 ib, .int .i64 kb, .int .i64 lb, .int .i64 zb, .int .u64 (tb : Nat), .bool sb] 25)) AX x) := HR0.out.below HW.out
        clear HR0
        go_enter Try.func5, Try.ntmps5
        go_upto_region 1 with (fail)
        refine wp_world (fun W => Hid (Blk W w.heap.size 25 [.int .i64 ia, .int .i64 ka, .int .i64 la, .int .i64 za, .int .u64 (ta : Nat), .bool sa]) ∧ Hid (Blk W (w.heap.size + 1) 25 [.int .i64 ib, .int .i64 kb, .int .i64 lb, .int .i64 zb, .int .u64 (tb : Nat), .bool sb]) ∧ Hid (Below w.heap.size w W) ∧ Hid (Rd W AX x)) ⟨XA, XB, HW, HX⟩ ?_
        clear XA XB HW HX
        rintro w0 ⟨XA0, XB0, HW0, HX0⟩
        have c0 : w0.cell? ⟨w.heap.size, 0, none⟩ = some (.int .i64 ia) := XA0.out.cell 0
        have c1 : w0.cell? ⟨w.heap.size, 1, none⟩ = some (.int .i64 ka) := XA0.out.cell 1
        have c2 : w0.cell? ⟨w.heap.size, 2, none⟩ = some (.int .i64 la) := XA0.out.cell 2
        have c3 : w0.cell? ⟨w.heap.size, 3, none⟩ = some (.int .i64 za) := XA0.out.cell 3
        have c4 : w0.cell? ⟨w.heap.size, 4, none⟩ = some (.int .u64 (ta : Nat)) := XA0.out.cell 4
        have c5 : w0.cell? ⟨w.heap.size, 5, none⟩ = some (.bool sa) := XA0.out.cell 5
        go_wp2_with fail
        clear c0 c1 c2 c3 c4 c5
        refine (enc_no_as _ HFA.out).mono ?_
        rintro e w1 ⟨rfl, B1⟩
        have XA1 := Lib.hid (XA0.out.below B1.out XA0.out.lt)
        have XB1 := Lib.hid (XB0.out.below B1.out XB0.out.lt)
        have HX1 := Lib.hid (HX0.out.below B1.out)
        have HW1 := Lib.hid (HW0.out.trans (B1.out.mono HW0.out.size))
        clear B1 XA0 XB0 HX0 HW0
        have c0 : w1.cell? ⟨w.heap.size + 1, 0, none⟩ = some (.int .i64 ib) := XB1.out.cell 0
        have c1 : w1.cell? ⟨w.heap.size + 1, 1, none⟩ = some (.int .i64 kb) := XB1.out.cell 1
        have c2 : w1.cell? ⟨w.heap.size + 1, 2, none⟩ = some (.int .i64 lb) := XB1.out.cell 2
        have c3 : w1.cell? ⟨w.heap.size + 1, 3, none⟩ = some (.int .i64 zb) := XB1.out.cell 3
        have c4 : w1.cell? ⟨w.heap.size + 1, 4, none⟩ = some (.int .u64 (tb : Nat)) := XB1.out.cell 4
        have c5 : w1.cell? ⟨w.heap.size + 1, 5, none⟩ = some (.bool sb) := XB1.out.cell 5
        go_wp2_with fail
        clear c0 c1 c2 c3 c4 c5
        refine (enc_list C _ (HIB.out (by simp)) HYB.out).mono ?_
        rintro e w2 ⟨P2, c2, rfl, hc2, RB2, B2⟩
        have XA2 := Lib.hid (XA1.out.below B2.out XA1.out.lt)
        have XB2 := Lib.hid (XB1.out.below B2.out XB1.out.lt)
        have HX2 := Lib.hid (HX1.out.below B2.out)
        have HW2 := Lib.hid (HW1.out.trans (B2.out.mono HW1.out.size))
        clear B2 XA1 XB1 HX1 HW1
        go_wp2_with fail
        obtain ⟨n2, f2, hn2⟩ := pair_is (ndDec x)
        obtain ⟨iq, kq, lq, zq, tq, sq⟩ := n2
        have HN2 := Lib.hid hn2
        have HCS := Lib.hid (ndDec_cases x)
        have HIV : Hid (f2 = 0 → Nd.Right ⟨iq, kq, lq, zq, tq, sq⟩ ∧ Nd.bytes ⟨iq, kq, lq, zq, tq, sq⟩ = x) := fun h => by
          have h1 := ndDec_inv x (by rw [hn2]; exact h)
          rw [hn2] at h1
          exact h1
        clear hn2
        refine (dec_as R hM _ AX x cx HX2.out HCX.out HLX.out HN2.out).mono ?_
        rintro e w7 ⟨rfl, B7⟩
        have HX7 := Lib.hid (HX2.out.below B7.out)
        have HW7 := Lib.hid (HW2.out.trans (B7.out.mono HW2.out.size))
        clear B7 HX2 HW2 XA2 XB2
        by_cases h0 : f2 = 0
        · subst h0
          obtain ⟨hr2, hb2⟩ := HIV.out rfl
          have HR2 := Lib.hid hr2
          have HB2 := Lib.hid hb2
          have HL2 : Hid (x.length = 16) := by show _ = _; rw [← hb2]; exact Nd.bytes_length _
          clear hr2 hb2 HIV HCS HN2
          have HG1 : Hid (Blk (w7.alloc (.cells #[.int .i64 0, .int .i64 0, .int .i64 0, .int .i64 0, .int .u64 0, .bool false] 25)) w7.heap.size 25 [.int .i64 0, .int .i64 0, .int .i64 0, .int .i64 0, .int .u64 0, .bool false]) := Blk.new w7 _ _
          have cz : ((0 : Nat) : Int) = 0 := rfl
          go_upto_region 8 with (refine wpList_store_row rfl 25 (.tmp 13) (.tmp 64) rfl w7.heap.size #[.int .i64 iq, .int .i64 kq, .int .i64 lq, .int .i64 zq, .int .u64 (tq : Nat), .bool sq] rfl rfl 25 #[.int .i64 0, .int .i64 0, .int .i64 0, .int .i64 0, .int .u64 0, .bool false] HG1.out rfl rfl rfl ?_)
          clear HG1
          have XN8 : Hid (Blk (w7.alloc (.cells #[.int .i64 iq, .int .i64 kq, .int .i64 lq, .int .i64 zq, .int .u64 (tq : Nat), .bool sq] 25)) w7.heap.size 25 [.int .i64 iq, .int .i64 kq, .int .i64 lq, .int .i64 zq, .int .u64 (tq : Nat), .bool sq]) := Blk.new w7 _ _
          have HX8 : Hid (Rd (w7.alloc (.cells #[.int .i64 iq, .int .i64 kq, .int .i64 lq, .int .i64 zq, .int .u64 (tq : Nat), .bool sq] 25)) AX x) := HX7.out.below (below_new w7 _)
          have HW8 : Hid (Below w.heap.size w (w7.alloc (.cells #[.int .i64 iq, .int .i64 kq, .int .i64 lq, .int .i64 zq, .int .u64 (tq : Nat), .bool sq] 25))) := HW7.out.trans ((below_new w7 _).mono HW7.out.size)
          refine wp_world (fun W => Hid (Blk W w7.heap.size 25 [.int .i64 iq, .int .i64 kq, .int .i64 lq, .int .i64 zq, .int .u64 (tq : Nat), .bool sq]) ∧ Hid (Rd W AX x) ∧ Hid (Below w.heap.size w W)) ⟨XN8, HX8, HW8⟩ ?_
          clear XN8 HX8 HW8 HX7 HW7
          rintro w8 ⟨XN8, HX8, HW8⟩
          have c0 : w8.cell? ⟨w7.heap.size, 0, none⟩ = some (.int .i64 iq) := XN8.out.cell 0
          have c1 : w8.cell? ⟨w7.heap.size, 1, none⟩ = some (.int .i64 kq) := XN8.out.cell 1
          have c2 : w8.cell? ⟨w7.heap.size, 2, none⟩ = some (.int .i64 lq) := XN8.out.cell 2
          have c3 : w8.cell? ⟨w7.heap.size, 3, none⟩ = some (.int .i64 zq) := XN8.out.cell 3
          have c4 : w8.cell? ⟨w7.heap.size, 4, none⟩ = some (.int .u64 (tq : Nat)) := XN8.out.cell 4
          have c5 : w8.cell? ⟨w7.heap.size, 5, none⟩ = some (.bool sq) := XN8.out.cell 5
          go_wp2_with fail
          clear c0 c1 c2 c3 c4 c5
          refine (enc_list C _ HR2.out HB2.out).mono ?_
          rintro e w9 ⟨P9, c9, rfl, hc9, R9, B9⟩
          have HX9 := Lib.hid (HX8.out.below B9.out)
          have HW9 := Lib.hid (HW8.out.trans (B9.out.mono HW8.out.size))
          have hs1 := str_any w9 P9 x c9 R9.out
          have hs2 := str_any w9 AX x cx HX9.out
          clear B9 XN8 HX8 HW8 hc9
          go_wp2_with fail
          clear hs1 hs2
          refine (known10_any C _).mono ?_
          rintro e w10 ⟨rfl, hb⟩
          have HF := Lib.hid (HW9.out.trans (hb.mono HW9.out.size))
          clear hb
          go_wp2_with fail
          go_ret
          exact ⟨rfl, HF.out⟩
        · have hz : f2 = 12 ∧ (⟨iq, kq, lq, zq, tq, sq⟩ : Nd) = Nd.zero := by
            have h1 := HN2.out
            rcases HCS.out with h2 | h2
            · rw [h2] at h1
              injection h1 with e1 e2
              exact ⟨e2.symm, e1.symm⟩
            · rw [h1] at h2
              exact absurd h2 h0
          obtain ⟨rfl, hz2⟩ := hz
          injection hz2 with e1 e2 e3 e4 e5 e6
          subst e1 e2 e3 e4 e5 e6
          clear h0 HCS HN2 HIV HX7
          have HG1 : Hid (Blk (w7.alloc (.cells #[.int .i64 0, .int .i64 0, .int .i64 0, .int .i64 0, .int .u64 0, .bool false] 25)) w7.heap.size 25 [.int .i64 0, .int .i64 0, .int .i64 0, .int .i64 0, .int .u64 0, .bool false]) := Blk.new w7 _ _
          have HW8 : Hid (Below w.heap.size w (w7.alloc (.cells #[.int .i64 0, .int .i64 0, .int .i64 0, .int .i64 0, .int .u64 0, .bool false] 25))) := HW7.out.trans ((below_new w7 _).mono HW7.out.size)
          have cz : ((12 : Nat) : Int) = 12 := rfl
          have cy : ((0 : Nat) : Int) = 0 := rfl
          go_wp2_with (refine wpList_store_row rfl 25 (.tmp 13) (.tmp 64) rfl w7.heap.size #[.int .i64 0, .int .i64 0, .int .i64 0, .int .i64 0, .int .u64 0, .bool false] rfl rfl 25 #[.int .i64 0, .int .i64 0, .int .i64 0, .int .i64 0, .int .u64 0, .bool false] HG1.out rfl rfl rfl ?_)
          refine (known10_any C _).mono ?_
          rintro e w10 ⟨rfl, hb⟩
          have HF := Lib.hid (HW8.out.trans (hb.mono HW8.out.size))
          clear hb
          go_wp2_with fail
          go_ret
          exact ⟨rfl, HF.out⟩
    · cases fb
      · show Calls _ _ #[.agg #[.int .i64 ia, .int .i64 ka, .int .i64 la, .int .i64 za, .int .u64 (ta : Nat), .bool sa], .agg #[.int .i64 ib, .int .i64 kb, .int .i64 lb, .int .i64 zb, .int .u64 (tb : Nat), .bool sb], .slice AX x.length cx] w _
        have XA : Hid (Blk ((w.alloc (.cells #[.int .i64 ia, .int .i64 ka, .int .i64 la, .int .i64 za, .int .u64 (ta : Nat), .bool sa] 25)).alloc (.cells #[.int .i64 ib, .int .i64 kb, .int .i64 lb, .int .i64 zb, .int .u64 (tb : Nat), .bool sb] 25)) w.heap.size 25 [.int .i64 ia, .int .i64 ka, .int .i64 la, .int .i64 za, .int .u64 (ta : Nat), .bool sa]) := (Blk.new w _ _).alloc _
        have XB : Hid (Blk ((w.alloc (.cells #[.int .i64 ia, .int .i64 ka, .int .i64 la, .int .i64 za, .int .u64 (ta : Nat), .bool sa] 25)).alloc (.cells #[.int .i64 ib, .int .i64 kb, .int .i64 lb, .int .i64 zb, .int .u64 (tb : Nat), .bool sb] 25)) (w.heap.size + 1) 25 [.int .i64 ib, .int .i64 kb, .int .i64 lb, .int .i64 zb, .int .u64 (tb : Nat), .bool sb]) := by have := Blk.new (w.alloc (.cells #[.int .i64 ia, .int .i64 ka, .int .i64 la, .int .i64 za, .int .u64 (ta : Nat), .bool sa] 25)) 25 [.int .i64 ib, .int .i64 kb, .int .i64 lb, .int .i64 zb, .int .u64 (tb : Nat), .bool sb]; rw [World.size_alloc] at this; exact this
        have HW : Hid (Below w.heap.size w ((w.alloc (.cells #[.int .i64 ia, .int .i64 ka, .int .i64 la, .int .i64 za, .int .u64 (ta : Nat), .bool sa] 25)).alloc (.cells #[.int .i64 ib, .int .i64 kb, .int .i64 lb, .int .i64 zb, .int .u64 (tb : Nat), .bool sb] 25))) := (below_new w _).trans ((below_new _ _).mono (by rw [World.size_alloc]; omega))
        have HX : Hid (Rd ((w.alloc (.cells #[.int .i64 ia, .int .i64 ka, .int .i64 la, .int .i64 za, .int .u64 (ta : Nat), .bool sa] 25)).alloc (.cells #[.int .i64 ib, .int .i64 kb, .int .i64 lb, .int .i64 zb, .int .u64 (tb : Nat), .bool sb] 25)) AX x) := HR0.out.below HW.out
        clear HR0
        go_enter Try.func5, Try.ntmps5
        go_upto_region 1 with (fail)
        refine wp_world (fun W => Hid (Blk W w.heap.size 25 [.int .i64 ia, .int .i64 ka, .int .i64 la, .int .i64 za, .int .u64 (ta : Nat), .bool sa]) ∧ Hid (Blk W (w.heap.size + 1) 25 [.int .i64 ib, .int .i64 kb, .int .i64 lb, .int .i64 zb, .int .u64 (tb : Nat), .bool sb]) ∧ Hid (Below w.heap.size w W) ∧ Hid (Rd W AX x)) ⟨XA, XB, HW, HX⟩ ?_
        clear XA XB HW HX
        rintro w0 ⟨XA0, XB0, HW0, HX0⟩
        have c0 : w0.cell? ⟨w.heap.size, 0, none⟩ = some (.int .i64 ia) := XA0.out.cell 0
        have c1 : w0.cell? ⟨w.heap.size, 1, none⟩ = some (.int .i64 ka) := XA0.out.cell 1
        have c2 : w0.cell? ⟨w.heap.size, 2, none⟩ = some (.int .i64 la) := XA0.out.cell 2
        have c3 : w0.cell? ⟨w.heap.size, 3, none⟩ = some (.int .i64 za) := XA0.out.cell 3
        have c4 : w0.cell? ⟨w.heap.size, 4, none⟩ = some (.int .u64 (ta : Nat)) := XA0.out.cell 4
        have c5 : w0.cell? ⟨w.heap.size, 5, none⟩ = some (.bool sa) := XA0.out.cell 5
        go_wp2_with fail
        clear c0 c1 c2 c3 c4 c5
        refine (enc_list C _ (HIA.out (by simp)) HYA.out).mono ?_
        rintro e w1 ⟨P1, c1, rfl, hc1, RA1, B1⟩
        have XA1 := Lib.hid (XA0.out.below B1.out XA0.out.lt)
        have XB1 := Lib.hid (XB0.out.below B1.out XB0.out.lt)
        have HX1 := Lib.hid (HX0.out.below B1.out)
        have HW1 := Lib.hid (HW0.out.trans (B1.out.mono HW0.out.size))
        clear B1 XA0 XB0 HX0 HW0
        have c0 : w1.cell? ⟨w.heap.size + 1, 0, none⟩ = some (.int .i64 ib) := XB1.out.cell 0
        have c1 : w1.cell? ⟨w.heap.size + 1, 1, none⟩ = some (.int .i64 kb) := XB1.out.cell 1
        have c2 : w1.cell? ⟨w.heap.size + 1, 2, none⟩ = some (.int .i64 lb) := XB1.out.cell 2
        have c3 : w1.cell? ⟨w.heap.size + 1, 3, none⟩ = some (.int .i64 zb) := XB1.out.cell 3
        have c4 : w1.cell? ⟨w.heap.size + 1, 4, none⟩ = some (.int .u64 (tb : Nat)) := XB1.out.cell 4
        have c5 : w1.cell? ⟨w.heap.size + 1, 5, none⟩ = some (.bool sb) := XB1.out.cell 5
        go_wp2_with fail
        clear c0 c1 c2 c3 c4 c5
        refine (enc_no_as _ HFB.out).mono ?_
        rintro e w2 ⟨rfl, B2⟩
        have XA2 := Lib.hid (XA1.out.below B2.out XA1.out.lt)
        have XB2 := Lib.hid (XB1.out.below B2.out XB1.out.lt)
        have HX2 := Lib.hid (HX1.out.below B2.out)
        have RA2 := Lib.hid (RA1.out.below B2.out)
        have HW2 := Lib.hid (HW1.out.trans (B2.out.mono HW1.out.size))
        clear B2 XA1 XB1 HX1 HW1 RA1
        go_wp2_with fail
        refine (dec_as R hM _ P1 ya c1 RA2.out hc1 (by have := HLA.out; omega) (HDA.out (by simp))).mono ?_
        rintro e w3 ⟨rfl, B3⟩
        have XA3 := Lib.hid (XA2.out.below B3.out XA2.out.lt)
        have XB3 := Lib.hid (XB2.out.below B3.out XB2.out.lt)
        have HX3 := Lib.hid (HX2.out.below B3.out)
        have RA3 := Lib.hid (RA2.out.below B3.out)
        have HW3 := Lib.hid (HW2.out.trans (B3.out.mono HW2.out.size))
        clear B3 XA2 XB2 HX2 HW2 RA2
        have HG1 : Hid (Blk (w3.alloc (.cells #[.int .i64 0, .int .i64 0, .int .i64 0, .int .i64 0, .int .u64 0, .bool false] 25)) w3.heap.size 25 [.int .i64 0, .int .i64 0, .int .i64 0, .int .i64 0, .int .u64 0, .bool false]) := Blk.new w3 _ _
        go_upto_region 5 with (refine wpList_store_row rfl 25 (.tmp 11) (.tmp 32) rfl w3.heap.size #[.int .i64 ia, .int .i64 ka, .int .i64 la, .int .i64 za, .int .u64 (ta : Nat), .bool sa] rfl rfl 25 #[.int .i64 0, .int .i64 0, .int .i64 0, .int .i64 0, .int .u64 0, .bool false] HG1.out rfl rfl rfl ?_)
        clear HG1
        have B4 : Hid (Below w3.heap.size w3 (w3.alloc (.cells #[.int .i64 ia, .int .i64 ka, .int .i64 la, .int .i64 za, .int .u64 (ta : Nat), .bool sa] 25))) := below_new w3 _
        have XN4 : Hid (Blk (w3.alloc (.cells #[.int .i64 ia, .int .i64 ka, .int .i64 la, .int .i64 za, .int .u64 (ta : Nat), .bool sa] 25)) w3.heap.size 25 [.int .i64 ia, .int .i64 ka, .int .i64 la, .int .i64 za, .int .u64 (ta : Nat), .bool sa]) := Blk.new w3 _ _
        have XA4 := Lib.hid (XA3.out.below B4.out XA3.out.lt)
        have XB4 := Lib.hid (XB3.out.below B4.out XB3.out.lt)
        have HX4 := Lib.hid (HX3.out.below B4.out)
        have RA4 := Lib.hid (RA3.out.below B4.out)
        have HW4 := Lib.hid (HW3.out.trans (B4.out.mono HW3.out.size))
        clear B4 XA3 XB3 HX3 HW3 RA3
        refine wp_world (fun W => Hid (Blk W w3.heap.size 25 [.int .i64 ia, .int .i64 ka, .int .i64 la, .int .i64 za, .int .u64 (ta : Nat), .bool sa]) ∧ Hid (Blk W w.heap.size 25 [.int .i64 ia, .int .i64 ka, .int .i64 la, .int .i64 za, .int .u64 (ta : Nat), .bool sa]) ∧ Hid (Blk W (w.heap.size + 1) 25 [.int .i64 ib, .int .i64 kb, .int .i64 lb, .int .i64 zb, .int .u64 (tb : Nat), .bool sb]) ∧ Hid (Rd W AX x) ∧ Hid (Below w.heap.size w W) ∧ Hid (Rd W P1 ya)) ⟨XN4, XA4, XB4, HX4, HW4, RA4⟩ ?_
        clear XN4 XA4 XB4 HX4 HW4 RA4
        rintro w5 ⟨XN5, XA5, XB5, HX5, HW5, RA5⟩
        refine Rg.wp_region_facts (by kernel_rfl) (fun opn => List.getD [Rg.val (.int .i64 0), Rg.val (.bool false), Rg.val (.bool false), Rg.val (.agg #[.int .i64 ia, .int .i64 ka, .int .i64 la, .int .i64 za, .int .u64 (ta : Nat), .bool sa]), Rg.val (.agg #[.int .i64 ia, .int .i64 ka, .int .i64 la, .int .i64 za, .int .u64 (ta : Nat), .bool sa]), Rg.val (.bool false), Rg.val (.bool false), Rg.val (.bool false), Rg.val (.slice P1 ya.length c1), Rg.val (.int .i64 ((ya).length : Nat)), Rg.val (.bool false), Rg.val (.bool false), Rg.val (.bool false), Rg.val (.int .i64 12), Rg.val (.bool false), Rg.val (.bool false), Rg.val (undef), Rg.val (undef), Rg.val (undef), Rg.val (undef), Rg.val (undef), Rg.val (undef), Rg.val (undef), Rg.val (undef), Rg.val (undef), Rg.val (.bool false), Rg.val (.bool false)] opn Rg.any) [] [[], [(0, 34)], [(1, 35)], [(2, 36)], [(2, 36)], [(2, 36), (3, 37), (4, 38)], [(2, 36), (5, 39)], [(6, 40)], [(7, 41)], [(7, 41), (8, 42)], [(7, 41), (9, 43)], [(7, 41), (10, 44)], [(11, 45)], [(12, 46)], [(12, 46), (13, 47)], [(12, 46), (14, 48)], [(15, 49)], [(15, 49), (16, 50)], [(15, 49)], [(15, 49), (18, 52)], [(15, 49), (17, 51), (19, 53)], [(15, 49)], [(15, 49)], [(15, 49), (21, 55), (22, 56)], [(15, 49), (20, 54), (23, 57)], [(12, 46), (15, 49), (24, 58)], [(12, 46), (25, 59)]] [] (by kernel_rfl) (by rfl) (by kernel_rfl) ?_ ?_
        · intro fr ha
          have hz : fr.tmps.size = 91 := by rw [ha]; rfl
          have y3 : fr.eval (.tmp 3) = .pointer (some ⟨w.heap.size, 0, none⟩) := by rw [ha]; rfl
          have y7 : fr.eval (.tmp 7) = .slice P1 ya.length c1 := by rw [ha]; rfl
          have y10 : fr.eval (.tmp 10) = .int .i64 12 := by rw [ha]; rfl
          have y11 : fr.eval (.tmp 11) = .pointer (some ⟨w3.heap.size, 0, none⟩) := by rw [ha]; rfl
          have y12 : fr.eval (.tmp 12) = .int .i64 0 := by rw [ha]; rfl
          clear ha
          refine .cons ?_ (.cons ?_ (.cons ?_ (.cons ?_ (.cons ?_ (.cons ?_ (.cons ?_ (.cons ?_ (.cons ?_ (.cons ?_ (.cons ?_ (.cons ?_ (.cons ?_ (.cons ?_ (.cons ?_ (.cons ?_ (.cons ?_ (.cons ?_ (.cons ?_ (.cons ?_ (.cons ?_ (.cons ?_ (.cons ?_ (.cons ?_ (.cons ?_ (.cons ?_ (.cons ?_ (.nil)))))))))))))))))))))))))))
          · intro V w2 HL HH
            have HL : Later w5 w2 := HL
            have tb12 : (Rg.putUse V [] fr).eval (.tmp 12) = .int .i64 0 := (Rg.use_eval V fr 12 [] (by simp only [hz]; decide)).trans y12
            show Rg.Does1 _ _ V (Rg.putUse V [] fr) w2 _
            exact step_mv (.int .i64 0) (by simp only [execOp, tb12]; go_simp) rfl rfl rfl True.intro
          · intro V w2 HL HH
            have HL : Later w5 w2 := HL
            have h0 : V 0 = .int .i64 0 := HH.1
            have tb34 : (Rg.putUse V [(0, 34)] fr).eval (.tmp 34) = .int .i64 0 := (Rg.use_eval V fr 34 [(0, 34)] (by simp only [hz]; decide)).trans h0
            show Rg.Does1 _ _ V (Rg.putUse V [(0, 34)] fr) w2 _
            exact step_mv (.bool false) (by simp only [execOp, tb34]; go_simp) rfl rfl rfl True.intro
          · intro V w2 HL HH
            have HL : Later w5 w2 := HL
            have h1 : V 1 = .bool false := HH.1
            have tb35 : (Rg.putUse V [(1, 35)] fr).eval (.tmp 35) = .bool false := (Rg.use_eval V fr 35 [(1, 35)] (by simp only [hz]; decide)).trans h1
            show Rg.Does1 _ _ V (Rg.putUse V [(1, 35)] fr) w2 _
            exact step_mv (.bool false) (by simp only [execOp, tb35]; go_simp) rfl rfl rfl True.intro
          · intro V w2 HL HH
            have HL : Later w5 w2 := HL
            have h2 : V 2 = .bool false := HH.1
            have tb11 : (Rg.putUse V [(2, 36)] fr).eval (.tmp 11) = .pointer (some ⟨w3.heap.size, 0, none⟩) := (Rg.use_eval V fr 11 [(2, 36)] (by simp only [hz]; decide)).trans y11
            show Rg.Does1 _ _ V (Rg.putUse V [(2, 36)] fr) w2 _
            have d0 : w2.cell? ⟨w3.heap.size, 0, none⟩ = some (.int .i64 ia) := (XN5.out.below HL XN5.out.lt).cell 0
            have d1 : w2.cell? ⟨w3.heap.size, 1, none⟩ = some (.int .i64 ka) := (XN5.out.below HL XN5.out.lt).cell 1
            have d2 : w2.cell? ⟨w3.heap.size, 2, none⟩ = some (.int .i64 la) := (XN5.out.below HL XN5.out.lt).cell 2
            have d3 : w2.cell? ⟨w3.heap.size, 3, none⟩ = some (.int .i64 za) := (XN5.out.below HL XN5.out.lt).cell 3
            have d4 : w2.cell? ⟨w3.heap.size, 4, none⟩ = some (.int .u64 (ta : Nat)) := (XN5.out.below HL XN5.out.lt).cell 4
            have d5 : w2.cell? ⟨w3.heap.size, 5, none⟩ = some (.bool sa) := (XN5.out.below HL XN5.out.lt).cell 5
            exact step_mv (.agg #[.int .i64 ia, .int .i64 ka, .int .i64 la, .int .i64 za, .int .u64 (ta : Nat), .bool sa]) (by simp only [execOp, tb11]; go_simp) rfl rfl rfl h2
          · intro V w2 HL HH
            have HL : Later w5 w2 := HL
            have h2 : V 2 = .bool false := HH.1
            have tb3 : (Rg.putUse V [(2, 36)] fr).eval (.tmp 3) = .pointer (some ⟨w.heap.size, 0, none⟩) := (Rg.use_eval V fr 3 [(2, 36)] (by simp only [hz]; decide)).trans y3
            show Rg.Does1 _ _ V (Rg.putUse V [(2, 36)] fr) w2 _
            have d0 : w2.cell? ⟨w.heap.size, 0, none⟩ = some (.int .i64 ia) := (XA5.out.below HL XA5.out.lt).cell 0
            have d1 : w2.cell? ⟨w.heap.size, 1, none⟩ = some (.int .i64 ka) := (XA5.out.below HL XA5.out.lt).cell 1
            have d2 : w2.cell? ⟨w.heap.size, 2, none⟩ = some (.int .i64 la) := (XA5.out.below HL XA5.out.lt).cell 2
            have d3 : w2.cell? ⟨w.heap.size, 3, none⟩ = some (.int .i64 za) := (XA5.out.below HL XA5.out.lt).cell 3
            have d4 : w2.cell? ⟨w.heap.size, 4, none⟩ = some (.int .u64 (ta : Nat)) := (XA5.out.below HL XA5.out.lt).cell 4
            have d5 : w2.cell? ⟨w.heap.size, 5, none⟩ = some (.bool sa) := (XA5.out.below HL XA5.out.lt).cell 5
            exact step_mv (.agg #[.int .i64 ia, .int .i64 ka, .int .i64 la, .int .i64 za, .int .u64 (ta : Nat), .bool sa]) (by simp only [execOp, tb3]; go_simp) rfl rfl rfl h2
          · intro V w2 HL HH
            have HL : Later w5 w2 := HL
            have h2 : V 2 = .bool false := HH.1
            have h3 : V 3 = .agg #[.int .i64 ia, .int .i64 ka, .int .i64 la, .int .i64 za, .int .u64 (ta : Nat), .bool sa] := HH.2.1
            have h4 : V 4 = .agg #[.int .i64 ia, .int .i64 ka, .int .i64 la, .int .i64 za, .int .u64 (ta : Nat), .bool sa] := HH.2.2.1
            have tb37 : (Rg.putUse V [(2, 36), (3, 37), (4, 38)] fr).eval (.tmp 37) = .agg #[.int .i64 ia, .int .i64 ka, .int .i64 la, .int .i64 za, .int .u64 (ta : Nat), .bool sa] := (Rg.use_eval V fr 37 [(2, 36), (3, 37), (4, 38)] (by simp only [hz]; decide)).trans h3
            have tb38 : (Rg.putUse V [(2, 36), (3, 37), (4, 38)] fr).eval (.tmp 38) = .agg #[.int .i64 ia, .int .i64 ka, .int .i64 la, .int .i64 za, .int .u64 (ta : Nat), .bool sa] := (Rg.use_eval V fr 38 [(2, 36), (3, 37), (4, 38)] (by simp only [hz]; decide)).trans h4
            show Rg.Does1 _ _ V (Rg.putUse V [(2, 36), (3, 37), (4, 38)] fr) w2 _
            exact step_mv (.bool false) (by simp only [execOp, tb37, tb38]; go_simp) rfl rfl rfl h2
          · intro V w2 HL HH
            have HL : Later w5 w2 := HL
            have h2 : V 2 = .bool false := HH.1
            have h5 : V 5 = .bool false := HH.2.1
            have tb36 : (Rg.putUse V [(2, 36), (5, 39)] fr).eval (.tmp 36) = .bool false := (Rg.use_eval V fr 36 [(2, 36), (5, 39)] (by simp only [hz]; decide)).trans h2
            have tb39 : (Rg.putUse V [(2, 36), (5, 39)] fr).eval (.tmp 39) = .bool false := (Rg.use_eval V fr 39 [(2, 36), (5, 39)] (by simp only [hz]; decide)).trans h5
            show Rg.Does1 _ _ V (Rg.putUse V [(2, 36), (5, 39)] fr) w2 _
            exact step_mv (.bool false) (by simp only [execOp, tb36, tb39]; go_simp) rfl rfl rfl True.intro
          · intro V w2 HL HH
            have HL : Later w5 w2 := HL
            have h6 : V 6 = .bool false := HH.1
            have tb40 : (Rg.putUse V [(6, 40)] fr).eval (.tmp 40) = .bool false := (Rg.use_eval V fr 40 [(6, 40)] (by simp only [hz]; decide)).trans h6
            show Rg.Does1 _ _ V (Rg.putUse V [(6, 40)] fr) w2 _
            exact step_mv (.bool false) (by simp only [execOp, tb40]; go_simp) rfl rfl rfl True.intro
          · intro V w2 HL HH
            have HL : Later w5 w2 := HL
            have h7 : V 7 = .bool false := HH.1
            have tb7 : (Rg.putUse V [(7, 41)] fr).eval (.tmp 7) = .slice P1 ya.length c1 := (Rg.use_eval V fr 7 [(7, 41)] (by simp only [hz]; decide)).trans y7
            show Rg.Does1 _ _ V (Rg.putUse V [(7, 41)] fr) w2 _
            exact step_mv (.slice P1 ya.length c1) (by simp only [execOp, tb7]; go_simp) rfl rfl rfl h7
          · intro V w2 HL HH
            have HL : Later w5 w2 := HL
            have h7 : V 7 = .bool false := HH.1
            have h8 : V 8 = .slice P1 ya.length c1 := HH.2.1
            have tb42 : (Rg.putUse V [(7, 41), (8, 42)] fr).eval (.tmp 42) = .slice P1 ya.length c1 := (Rg.use_eval V fr 42 [(7, 41), (8, 42)] (by simp only [hz]; decide)).trans h8
            show Rg.Does1 _ _ V (Rg.putUse V [(7, 41), (8, 42)] fr) w2 _
            exact step_mv (.int .i64 ((ya).length : Nat)) (by simp only [execOp, resolve, List.map_toArray, List.map_cons, List.map_nil, tb42]; go_simp) rfl rfl rfl h7
          · intro V w2 HL HH
            have HL : Later w5 w2 := HL
            have h7 : V 7 = .bool false := HH.1
            have h9 : V 9 = .int .i64 ((ya).length : Nat) := HH.2.1
            have tb43 : (Rg.putUse V [(7, 41), (9, 43)] fr).eval (.tmp 43) = .int .i64 ((ya).length : Nat) := (Rg.use_eval V fr 43 [(7, 41), (9, 43)] (by simp only [hz]; decide)).trans h9
            show Rg.Does1 _ _ V (Rg.putUse V [(7, 41), (9, 43)] fr) w2 _
            have hl16 : ((ya.length : Nat) : Int) = 16 := by rw [HLA.out]; rfl
            exact step_mv (.bool false) (by simp only [execOp, tb43]; go_simp) rfl rfl rfl h7
          · intro V w2 HL HH
            have HL : Later w5 w2 := HL
            have h7 : V 7 = .bool false := HH.1
            have h10 : V 10 = .bool false := HH.2.1
            have tb41 : (Rg.putUse V [(7, 41), (10, 44)] fr).eval (.tmp 41) = .bool false := (Rg.use_eval V fr 41 [(7, 41), (10, 44)] (by simp only [hz]; decide)).trans h7
            have tb44 : (Rg.putUse V [(7, 41), (10, 44)] fr).eval (.tmp 44) = .bool false := (Rg.use_eval V fr 44 [(7, 41), (10, 44)] (by simp only [hz]; decide)).trans h10
            show Rg.Does1 _ _ V (Rg.putUse V [(7, 41), (10, 44)] fr) w2 _
            exact step_mv (.bool false) (by simp only [execOp, tb41, tb44]; go_simp) rfl rfl rfl True.intro
          · intro V w2 HL HH
            have HL : Later w5 w2 := HL
            have h11 : V 11 = .bool false := HH.1
            have tb45 : (Rg.putUse V [(11, 45)] fr).eval (.tmp 45) = .bool false := (Rg.use_eval V fr 45 [(11, 45)] (by simp only [hz]; decide)).trans h11
            show Rg.Does1 _ _ V (Rg.putUse V [(11, 45)] fr) w2 _
            exact step_mv (.bool false) (by simp only [execOp, tb45]; go_simp) rfl rfl rfl True.intro
          · intro V w2 HL HH
            have HL : Later w5 w2 := HL
            have h12 : V 12 = .bool false := HH.1
            have tb10 : (Rg.putUse V [(12, 46)] fr).eval (.tmp 10) = .int .i64 12 := (Rg.use_eval V fr 10 [(12, 46)] (by simp only [hz]; decide)).trans y10
            show Rg.Does1 _ _ V (Rg.putUse V [(12, 46)] fr) w2 _
            exact step_mv (.int .i64 12) (by simp only [execOp, tb10]; go_simp) rfl rfl rfl h12
          · intro V w2 HL HH
            have HL : Later w5 w2 := HL
            have h12 : V 12 = .bool false := HH.1
            have h13 : V 13 = .int .i64 12 := HH.2.1
            have tb47 : (Rg.putUse V [(12, 46), (13, 47)] fr).eval (.tmp 47) = .int .i64 12 := (Rg.use_eval V fr 47 [(12, 46), (13, 47)] (by simp only [hz]; decide)).trans h13
            show Rg.Does1 _ _ V (Rg.putUse V [(12, 46), (13, 47)] fr) w2 _
            exact step_mv (.bool false) (by simp only [execOp, tb47]; go_simp) rfl rfl rfl h12
          · intro V w2 HL HH
            have HL : Later w5 w2 := HL
            have h12 : V 12 = .bool false := HH.1
            have h14 : V 14 = .bool false := HH.2.1
            have tb48 : (Rg.putUse V [(12, 46), (14, 48)] fr).eval (.tmp 48) = .bool false := (Rg.use_eval V fr 48 [(12, 46), (14, 48)] (by simp only [hz]; decide)).trans h14
            show Rg.Does1 _ _ V (Rg.putUse V [(12, 46), (14, 48)] fr) w2 _
            exact step_mv (.bool false) (by simp only [execOp, tb48]; go_simp) rfl rfl rfl h12
          · intro V w2 HL HH
            have HL : Later w5 w2 := HL
            have h15 : V 15 = .bool false := HH.1
            exact Rg.step_not rfl h15 (Rg.alias_none rfl _ _) rfl rfl rfl
          · intro V w2 HL HH
            have HL : Later w5 w2 := HL
            have h15 : V 15 = .bool false := HH.1
            have h16 : V 16 = undef := HH.2.1
            exact Rg.step_not rfl h15 (Rg.alias_none rfl _ _) rfl rfl rfl
          · intro V w2 HL HH
            have HL : Later w5 w2 := HL
            have h15 : V 15 = .bool false := HH.1
            exact Rg.step_not rfl h15 (Rg.alias_none rfl _ _) rfl rfl rfl
          · intro V w2 HL HH
            have HL : Later w5 w2 := HL
            have h15 : V 15 = .bool false := HH.1
            have h18 : V 18 = undef := HH.2.1
            exact Rg.step_not rfl h15 (Rg.alias_none rfl _ _) rfl rfl rfl
          · intro V w2 HL HH
            have HL : Later w5 w2 := HL
            have h15 : V 15 = .bool false := HH.1
            have h17 : V 17 = undef := HH.2.1
            have h19 : V 19 = undef := HH.2.2.1
            exact Rg.step_not rfl h15 (Rg.alias_none rfl _ _) rfl rfl rfl
          · intro V w2 HL HH
            have HL : Later w5 w2 := HL
            have h15 : V 15 = .bool false := HH.1
            exact Rg.step_not rfl h15 (Rg.alias_none rfl _ _) rfl rfl rfl
          · intro V w2 HL HH
            have HL : Later w5 w2 := HL
            have h15 : V 15 = .bool false := HH.1
            exact Rg.step_not rfl h15 (Rg.alias_none rfl _ _) rfl rfl rfl
          · intro V w2 HL HH
            have HL : Later w5 w2 := HL
            have h15 : V 15 = .bool false := HH.1
            have h21 : V 21 = undef := HH.2.1
            have h22 : V 22 = undef := HH.2.2.1
            exact Rg.step_not rfl h15 (Rg.alias_none rfl _ _) rfl rfl rfl
          · intro V w2 HL HH
            have HL : Later w5 w2 := HL
            have h15 : V 15 = .bool false := HH.1
            have h20 : V 20 = undef := HH.2.1
            have h23 : V 23 = undef := HH.2.2.1
            exact Rg.step_not rfl h15 (Rg.alias_none rfl _ _) rfl rfl rfl
          · intro V w2 HL HH
            have HL : Later w5 w2 := HL
            have h12 : V 12 = .bool false := HH.1
            have h15 : V 15 = .bool false := HH.2.1
            have h24 : V 24 = undef := HH.2.2.1
            have tb49 : (Rg.putUse V [(12, 46), (15, 49), (24, 58)] fr).eval (.tmp 49) = .bool false := (Rg.use_eval V fr 49 [(12, 46), (15, 49), (24, 58)] (by simp only [hz]; decide)).trans h15
            have tb58 : (Rg.putUse V [(12, 46), (15, 49), (24, 58)] fr).eval (.tmp 58) = undef := (Rg.use_eval V fr 58 [(12, 46), (15, 49), (24, 58)] (by simp only [hz]; decide)).trans h24
            show Rg.Does1 _ _ V (Rg.putUse V [(12, 46), (15, 49), (24, 58)] fr) w2 _
            exact step_mv (.bool false) (by simp only [execOp, tb49, tb58]; go_simp) rfl rfl rfl h12
          · intro V w2 HL HH
            have HL : Later w5 w2 := HL
            have h12 : V 12 = .bool false := HH.1
            have h25 : V 25 = .bool false := HH.2.1
            have tb46 : (Rg.putUse V [(12, 46), (25, 59)] fr).eval (.tmp 46) = .bool false := (Rg.use_eval V fr 46 [(12, 46), (25, 59)] (by simp only [hz]; decide)).trans h12
            have tb59 : (Rg.putUse V [(12, 46), (25, 59)] fr).eval (.tmp 59) = .bool false := (Rg.use_eval V fr 59 [(12, 46), (25, 59)] (by simp only [hz]; decide)).trans h25
            show Rg.Does1 _ _ V (Rg.putUse V [(12, 46), (25, 59)] fr) w2 _
            exact step_mv (.bool false) (by simp only [execOp, tb46, tb59]; go_simp) rfl rfl rfl True.intro
        · intro V w2 HI
          have h26 : V 26 = .bool false := HI.get 26 (by decide) (by rfl)
          have B6 := Lib.hid (later_drew HI.later)
          simp only [Rg.putList, Act.put, List.setIfInBounds_toArray, List.set_cons_zero, List.set_cons_succ, Nat.zero_add, Nat.reduceAdd]
          rw [h26]
          clear HI
          have XA6 := Lib.hid (XA5.out.below B6.out XA5.out.lt)
          have XB6 := Lib.hid (XB5.out.below B6.out XB5.out.lt)
          have HX6 := Lib.hid (HX5.out.below B6.out)
          have HW6 := Lib.hid (HW5.out.trans (B6.out.mono HW5.out.size))
          clear B6 XA5 XB5 HX5 HW5
          go_wp2_with fail
          obtain ⟨n2, f2, hn2⟩ := pair_is (ndDec x)
          obtain ⟨iq, kq, lq, zq, tq, sq⟩ := n2
          have HN2 := Lib.hid hn2
          have HCS := Lib.hid (ndDec_cases x)
          have HIV : Hid (f2 = 0 → Nd.Right ⟨iq, kq, lq, zq, tq, sq⟩ ∧ Nd.bytes ⟨iq, kq, lq, zq, tq, sq⟩ = x) := fun h => by
            have h1 := ndDec_inv x (by rw [hn2]; exact h)
            rw [hn2] at h1
            exact h1
          clear hn2
          refine (dec_as R hM _ AX x cx HX6.out HCX.out HLX.out HN2.out).mono ?_
          rintro e w7 ⟨rfl, B7⟩
          have HX7 := Lib.hid (HX6.out.below B7.out)
          have HW7 := Lib.hid (HW6.out.trans (B7.out.mono HW6.out.size))
          clear B7 HX6 HW6 XA6 XB6
          by_cases h0 : f2 = 0
          · subst h0
            obtain ⟨hr2, hb2⟩ := HIV.out rfl
            have HR2 := Lib.hid hr2
            have HB2 := Lib.hid hb2
            have HL2 : Hid (x.length = 16) := by show _ = _; rw [← hb2]; exact Nd.bytes_length _
            clear hr2 hb2 HIV HCS HN2
            have HG1 : Hid (Blk (w7.alloc (.cells #[.int .i64 0, .int .i64 0, .int .i64 0, .int .i64 0, .int .u64 0, .bool false] 25)) w7.heap.size 25 [.int .i64 0, .int .i64 0, .int .i64 0, .int .i64 0, .int .u64 0, .bool false]) := Blk.new w7 _ _
            have cz : ((0 : Nat) : Int) = 0 := rfl
            go_upto_region 8 with (refine wpList_store_row rfl 25 (.tmp 13) (.tmp 64) rfl w7.heap.size #[.int .i64 iq, .int .i64 kq, .int .i64 lq, .int .i64 zq, .int .u64 (tq : Nat), .bool sq] rfl rfl 25 #[.int .i64 0, .int .i64 0, .int .i64 0, .int .i64 0, .int .u64 0, .bool false] HG1.out rfl rfl rfl ?_)
            clear HG1
            have XN8 : Hid (Blk (w7.alloc (.cells #[.int .i64 iq, .int .i64 kq, .int .i64 lq, .int .i64 zq, .int .u64 (tq : Nat), .bool sq] 25)) w7.heap.size 25 [.int .i64 iq, .int .i64 kq, .int .i64 lq, .int .i64 zq, .int .u64 (tq : Nat), .bool sq]) := Blk.new w7 _ _
            have HX8 : Hid (Rd (w7.alloc (.cells #[.int .i64 iq, .int .i64 kq, .int .i64 lq, .int .i64 zq, .int .u64 (tq : Nat), .bool sq] 25)) AX x) := HX7.out.below (below_new w7 _)
            have HW8 : Hid (Below w.heap.size w (w7.alloc (.cells #[.int .i64 iq, .int .i64 kq, .int .i64 lq, .int .i64 zq, .int .u64 (tq : Nat), .bool sq] 25))) := HW7.out.trans ((below_new w7 _).mono HW7.out.size)
            refine wp_world (fun W => Hid (Blk W w7.heap.size 25 [.int .i64 iq, .int .i64 kq, .int .i64 lq, .int .i64 zq, .int .u64 (tq : Nat), .bool sq]) ∧ Hid (Rd W AX x) ∧ Hid (Below w.heap.size w W)) ⟨XN8, HX8, HW8⟩ ?_
            clear XN8 HX8 HW8 HX7 HW7
            rintro w8 ⟨XN8, HX8, HW8⟩
            have c0 : w8.cell? ⟨w7.heap.size, 0, none⟩ = some (.int .i64 iq) := XN8.out.cell 0
            have c1 : w8.cell? ⟨w7.heap.size, 1, none⟩ = some (.int .i64 kq) := XN8.out.cell 1
            have c2 : w8.cell? ⟨w7.heap.size, 2, none⟩ = some (.int .i64 lq) := XN8.out.cell 2
            have c3 : w8.cell? ⟨w7.heap.size, 3, none⟩ = some (.int .i64 zq) := XN8.out.cell 3
            have c4 : w8.cell? ⟨w7.heap.size, 4, none⟩ = some (.int .u64 (tq : Nat)) := XN8.out.cell 4
            have c5 : w8.cell? ⟨w7.heap.size, 5, none⟩ = some (.bool sq) := XN8.out.cell 5
            go_wp2_with fail
            clear c0 c1 c2 c3 c4 c5
            refine (enc_list C _ HR2.out HB2.out).mono ?_
            rintro e w9 ⟨P9, c9, rfl, hc9, R9, B9⟩
            have HX9 := Lib.hid (HX8.out.below B9.out)
            have HW9 := Lib.hid (HW8.out.trans (B9.out.mono HW8.out.size))
            have hs1 := str_any w9 P9 x c9 R9.out
            have hs2 := str_any w9 AX x cx HX9.out
            clear B9 XN8 HX8 HW8 hc9
            go_wp2_with fail
            clear hs1 hs2
            refine (known10_any C _).mono ?_
            rintro e w10 ⟨rfl, hb⟩
            have HF := Lib.hid (HW9.out.trans (hb.mono HW9.out.size))
            clear hb
            go_wp2_with fail
            go_ret
            exact ⟨rfl, HF.out⟩
          · have hz : f2 = 12 ∧ (⟨iq, kq, lq, zq, tq, sq⟩ : Nd) = Nd.zero := by
              have h1 := HN2.out
              rcases HCS.out with h2 | h2
              · rw [h2] at h1
                injection h1 with e1 e2
                exact ⟨e2.symm, e1.symm⟩
              · rw [h1] at h2
                exact absurd h2 h0
            obtain ⟨rfl, hz2⟩ := hz
            injection hz2 with e1 e2 e3 e4 e5 e6
            subst e1 e2 e3 e4 e5 e6
            clear h0 HCS HN2 HIV HX7
            have HG1 : Hid (Blk (w7.alloc (.cells #[.int .i64 0, .int .i64 0, .int .i64 0, .int .i64 0, .int .u64 0, .bool false] 25)) w7.heap.size 25 [.int .i64 0, .int .i64 0, .int .i64 0, .int .i64 0, .int .u64 0, .bool false]) := Blk.new w7 _ _
            have HW8 : Hid (Below w.heap.size w (w7.alloc (.cells #[.int .i64 0, .int .i64 0, .int .i64 0, .int .i64 0, .int .u64 0, .bool false] 25))) := HW7.out.trans ((below_new w7 _).mono HW7.out.size)
            have cz : ((12 : Nat) : Int) = 12 := rfl
            have cy : ((0 : Nat) : Int) = 0 := rfl
            go_wp2_with (refine wpList_store_row rfl 25 (.tmp 13) (.tmp 64) rfl w7.heap.size #[.int .i64 0, .int .i64 0, .int .i64 0, .int .i64 0, .int .u64 0, .bool false] rfl rfl 25 #[.int .i64 0, .int .i64 0, .int .i64 0, .int .i64 0, .int .u64 0, .bool false] HG1.out rfl rfl rfl ?_)
            refine (known10_any C _).mono ?_
            rintro e w10 ⟨rfl, hb⟩
            have HF := Lib.hid (HW8.out.trans (hb.mono HW8.out.size))
            clear hb
            go_wp2_with fail
            go_ret
            exact ⟨rfl, HF.out⟩
      · show Calls _ _ #[.agg #[.int .i64 ia, .int .i64 ka, .int .i64 la, .int .i64 za, .int .u64 (ta : Nat), .bool sa], .agg #[.int .i64 ib, .int .i64 kb, .int .i64 lb, .int .i64 zb, .int .u64 (tb : Nat), .bool sb], .slice AX x.length cx] w _
        have XA : Hid (Blk ((w.alloc (.cells #[.int .i64 ia, .int .i64 ka, .int .i64 la, .int .i64 za, .int .u64 (ta : Nat), .bool sa] 25)).alloc (.cells #[.int .i64 ib, .int .i64 kb, .int .i64 lb, .int .i64 zb, .int .u64 (tb : Nat), .bool sb] 25)) w.heap.size 25 [.int .i64 ia, .int .i64 ka, .int .i64 la, .int .i64 za, .int .u64 (ta : Nat), .bool sa]) := (Blk.new w _ _).alloc _
        have XB : Hid (Blk ((w.alloc (.cells #[.int .i64 ia, .int .i64 ka, .int .i64 la, .int .i64 za, .int .u64 (ta : Nat), .bool sa] 25)).alloc (.cells #[.int .i64 ib, .int .i64 kb, .int .i64 lb, .int .i64 zb, .int .u64 (tb : Nat), .bool sb] 25)) (w.heap.size + 1) 25 [.int .i64 ib, .int .i64 kb, .int .i64 lb, .int .i64 zb, .int .u64 (tb : Nat), .bool sb]) := by have := Blk.new (w.alloc (.cells #[.int .i64 ia, .int .i64 ka, .int .i64 la, .int .i64 za, .int .u64 (ta : Nat), .bool sa] 25)) 25 [.int .i64 ib, .int .i64 kb, .int .i64 lb, .int .i64 zb, .int .u64 (tb : Nat), .bool sb]; rw [World.size_alloc] at this; exact this
        have HW : Hid (Below w.heap.size w ((w.alloc (.cells #[.int .i64 ia, .int .i64 ka, .int .i64 la, .int .i64 za, .int .u64 (ta : Nat), .bool sa] 25)).alloc (.cells #[.int .i64 ib, .int .i64 kb, .int .i64 lb, .int .i64 zb, .int .u64 (tb : Nat), .bool sb] 25))) := (below_new w _).trans ((below_new _ _).mono (by rw [World.size_alloc]; omega))
        have HX : Hid (Rd ((w.alloc (.cells #[.int .i64 ia, .int .i64 ka, .int .i64 la, .int .i64 za, .int .u64 (ta : Nat), .bool sa] 25)).alloc (.cells #[.int .i64 ib, .int .i64 kb, .int .i64 lb, .int .i64 zb, .int .u64 (tb : Nat), .bool sb] 25)) AX x) := HR0.out.below HW.out
        clear HR0
        go_enter Try.func5, Try.ntmps5
        go_upto_region 1 with (fail)
        refine wp_world (fun W => Hid (Blk W w.heap.size 25 [.int .i64 ia, .int .i64 ka, .int .i64 la, .int .i64 za, .int .u64 (ta : Nat), .bool sa]) ∧ Hid (Blk W (w.heap.size + 1) 25 [.int .i64 ib, .int .i64 kb, .int .i64 lb, .int .i64 zb, .int .u64 (tb : Nat), .bool sb]) ∧ Hid (Below w.heap.size w W) ∧ Hid (Rd W AX x)) ⟨XA, XB, HW, HX⟩ ?_
        clear XA XB HW HX
        rintro w0 ⟨XA0, XB0, HW0, HX0⟩
        have c0 : w0.cell? ⟨w.heap.size, 0, none⟩ = some (.int .i64 ia) := XA0.out.cell 0
        have c1 : w0.cell? ⟨w.heap.size, 1, none⟩ = some (.int .i64 ka) := XA0.out.cell 1
        have c2 : w0.cell? ⟨w.heap.size, 2, none⟩ = some (.int .i64 la) := XA0.out.cell 2
        have c3 : w0.cell? ⟨w.heap.size, 3, none⟩ = some (.int .i64 za) := XA0.out.cell 3
        have c4 : w0.cell? ⟨w.heap.size, 4, none⟩ = some (.int .u64 (ta : Nat)) := XA0.out.cell 4
        have c5 : w0.cell? ⟨w.heap.size, 5, none⟩ = some (.bool sa) := XA0.out.cell 5
        go_wp2_with fail
        clear c0 c1 c2 c3 c4 c5
        refine (enc_list C _ (HIA.out (by simp)) HYA.out).mono ?_
        rintro e w1 ⟨P1, c1, rfl, hc1, RA1, B1⟩
        have XA1 := Lib.hid (XA0.out.below B1.out XA0.out.lt)
        have XB1 := Lib.hid (XB0.out.below B1.out XB0.out.lt)
        have HX1 := Lib.hid (HX0.out.below B1.out)
        have HW1 := Lib.hid (HW0.out.trans (B1.out.mono HW0.out.size))
        clear B1 XA0 XB0 HX0 HW0
        have c0 : w1.cell? ⟨w.heap.size + 1, 0, none⟩ = some (.int .i64 ib) := XB1.out.cell 0
        have c1 : w1.cell? ⟨w.heap.size + 1, 1, none⟩ = some (.int .i64 kb) := XB1.out.cell 1
        have c2 : w1.cell? ⟨w.heap.size + 1, 2, none⟩ = some (.int .i64 lb) := XB1.out.cell 2
        have c3 : w1.cell? ⟨w.heap.size + 1, 3, none⟩ = some (.int .i64 zb) := XB1.out.cell 3
        have c4 : w1.cell? ⟨w.heap.size + 1, 4, none⟩ = some (.int .u64 (tb : Nat)) := XB1.out.cell 4
        have c5 : w1.cell? ⟨w.heap.size + 1, 5, none⟩ = some (.bool sb) := XB1.out.cell 5
        go_wp2_with fail
        clear c0 c1 c2 c3 c4 c5
        refine (enc_list C _ (HIB.out (by simp)) HYB.out).mono ?_
        rintro e w2 ⟨P2, c2, rfl, hc2, RB2, B2⟩
        have XA2 := Lib.hid (XA1.out.below B2.out XA1.out.lt)
        have XB2 := Lib.hid (XB1.out.below B2.out XB1.out.lt)
        have HX2 := Lib.hid (HX1.out.below B2.out)
        have RA2 := Lib.hid (RA1.out.below B2.out)
        have HW2 := Lib.hid (HW1.out.trans (B2.out.mono HW1.out.size))
        clear B2 XA1 XB1 HX1 HW1 RA1
        go_wp2_with fail
        refine (dec_as R hM _ P1 ya c1 RA2.out hc1 (by have := HLA.out; omega) (HDA.out (by simp))).mono ?_
        rintro e w3 ⟨rfl, B3⟩
        have XA3 := Lib.hid (XA2.out.below B3.out XA2.out.lt)
        have XB3 := Lib.hid (XB2.out.below B3.out XB2.out.lt)
        have HX3 := Lib.hid (HX2.out.below B3.out)
        have RA3 := Lib.hid (RA2.out.below B3.out)
        have RB3 := Lib.hid (RB2.out.below B3.out)
        have HW3 := Lib.hid (HW2.out.trans (B3.out.mono HW2.out.size))
        clear B3 XA2 XB2 HX2 HW2 RA2 RB2
        have HG1 : Hid (Blk (w3.alloc (.cells #[.int .i64 0, .int .i64 0, .int .i64 0, .int .i64 0, .int .u64 0, .bool false] 25)) w3.heap.size 25 [.int .i64 0, .int .i64 0, .int .i64 0, .int .i64 0, .int .u64 0, .bool false]) := Blk.new w3 _ _
        go_upto_region 5 with (refine wpList_store_row rfl 25 (.tmp 11) (.tmp 32) rfl w3.heap.size #[.int .i64 ia, .int .i64 ka, .int .i64 la, .int .i64 za, .int .u64 (ta : Nat), .bool sa] rfl rfl 25 #[.int .i64 0, .int .i64 0, .int .i64 0, .int .i64 0, .int .u64 0, .bool false] HG1.out rfl rfl rfl ?_)
        clear HG1
        have B4 : Hid (Below w3.heap.size w3 (w3.alloc (.cells #[.int .i64 ia, .int .i64 ka, .int .i64 la, .int .i64 za, .int .u64 (ta : Nat), .bool sa] 25))) := below_new w3 _
        have XN4 : Hid (Blk (w3.alloc (.cells #[.int .i64 ia, .int .i64 ka, .int .i64 la, .int .i64 za, .int .u64 (ta : Nat), .bool sa] 25)) w3.heap.size 25 [.int .i64 ia, .int .i64 ka, .int .i64 la, .int .i64 za, .int .u64 (ta : Nat), .bool sa]) := Blk.new w3 _ _
        have XA4 := Lib.hid (XA3.out.below B4.out XA3.out.lt)
        have XB4 := Lib.hid (XB3.out.below B4.out XB3.out.lt)
        have HX4 := Lib.hid (HX3.out.below B4.out)
        have RA4 := Lib.hid (RA3.out.below B4.out)
        have RB4 := Lib.hid (RB3.out.below B4.out)
        have HW4 := Lib.hid (HW3.out.trans (B4.out.mono HW3.out.size))
        clear B4 XA3 XB3 HX3 HW3 RA3 RB3
        refine wp_world (fun W => Hid (Blk W w3.heap.size 25 [.int .i64 ia, .int .i64 ka, .int .i64 la, .int .i64 za, .int .u64 (ta : Nat), .bool sa]) ∧ Hid (Blk W w.heap.size 25 [.int .i64 ia, .int .i64 ka, .int .i64 la, .int .i64 za, .int .u64 (ta : Nat), .bool sa]) ∧ Hid (Blk W (w.heap.size + 1) 25 [.int .i64 ib, .int .i64 kb, .int .i64 lb, .int .i64 zb, .int .u64 (tb : Nat), .bool sb]) ∧ Hid (Rd W AX x) ∧ Hid (Below w.heap.size w W) ∧ Hid (Rd W P1 ya) ∧ Hid (Rd W P2 yb)) ⟨XN4, XA4, XB4, HX4, HW4, RA4, RB4⟩ ?_
        clear XN4 XA4 XB4 HX4 HW4 RA4 RB4
        rintro w5 ⟨XN5, XA5, XB5, HX5, HW5, RA5, RB5⟩
        refine Rg.wp_region_facts (by kernel_rfl) (fun opn => List.getD [Rg.val (.int .i64 0), Rg.val (.bool false), Rg.val (.bool false), Rg.val (.agg #[.int .i64 ia, .int .i64 ka, .int .i64 la, .int .i64 za, .int .u64 (ta : Nat), .bool sa]), Rg.val (.agg #[.int .i64 ia, .int .i64 ka, .int .i64 la, .int .i64 za, .int .u64 (ta : Nat), .bool sa]), Rg.val (.bool false), Rg.val (.bool false), Rg.val (.bool false), Rg.val (.slice P1 ya.length c1), Rg.val (.int .i64 ((ya).length : Nat)), Rg.val (.bool false), Rg.val (.bool false), Rg.val (.bool false), Rg.val (.int .i64 0), Rg.val (.bool true), Rg.val (.bool true), Rg.val (.slice P1 ya.length c1), Rg.val (.string (strOf (ya))), Rg.val (.slice P2 yb.length c2), Rg.val (.string (strOf (yb))), Rg.val (.bool false), Rg.val (.agg #[.int .i64 ia, .int .i64 ka, .int .i64 la, .int .i64 za, .int .u64 (ta : Nat), .bool sa]), Rg.val (.agg #[.int .i64 ib, .int .i64 kb, .int .i64 lb, .int .i64 zb, .int .u64 (tb : Nat), .bool sb]), Rg.val (.bool false), Rg.val (.bool false), Rg.val (.bool false), Rg.val (.bool false)] opn Rg.any) [] [[], [(0, 34)], [(1, 35)], [(2, 36)], [(2, 36)], [(2, 36), (3, 37), (4, 38)], [(2, 36), (5, 39)], [(6, 40)], [(7, 41)], [(7, 41), (8, 42)], [(7, 41), (9, 43)], [(7, 41), (10, 44)], [(11, 45)], [(12, 46)], [(12, 46), (13, 47)], [(12, 46), (14, 48)], [(15, 49)], [(15, 49), (16, 50)], [(15, 49)], [(15, 49), (18, 52)], [(15, 49), (17, 51), (19, 53)], [(15, 49)], [(15, 49)], [(15, 49), (21, 55), (22, 56)], [(15, 49), (20, 54), (23, 57)], [(12, 46), (15, 49), (24, 58)], [(12, 46), (25, 59)]] [] (by kernel_rfl) (by rfl) (by kernel_rfl) ?_ ?_
        · intro fr ha
          have hz : fr.tmps.size = 91 := by rw [ha]; rfl
          have y3 : fr.eval (.tmp 3) = .pointer (some ⟨w.heap.size, 0, none⟩) := by rw [ha]; rfl
          have y4 : fr.eval (.tmp 4) = .pointer (some ⟨w.heap.size + 1, 0, none⟩) := by rw [ha]; rfl
          have y7 : fr.eval (.tmp 7) = .slice P1 ya.length c1 := by rw [ha]; rfl
          have y9 : fr.eval (.tmp 9) = .slice P2 yb.length c2 := by rw [ha]; rfl
          have y10 : fr.eval (.tmp 10) = .int .i64 0 := by rw [ha]; rfl
          have y11 : fr.eval (.tmp 11) = .pointer (some ⟨w3.heap.size, 0, none⟩) := by rw [ha]; rfl
          have y12 : fr.eval (.tmp 12) = .int .i64 0 := by rw [ha]; rfl
          clear ha
          refine .cons ?_ (.cons ?_ (.cons ?_ (.cons ?_ (.cons ?_ (.cons ?_ (.cons ?_ (.cons ?_ (.cons ?_ (.cons ?_ (.cons ?_ (.cons ?_ (.cons ?_ (.cons ?_ (.cons ?_ (.cons ?_ (.cons ?_ (.cons ?_ (.cons ?_ (.cons ?_ (.cons ?_ (.cons ?_ (.cons ?_ (.cons ?_ (.cons ?_ (.cons ?_ (.cons ?_ (.nil)))))))))))))))))))))))))))
          · intro V w2 HL HH
            have HL : Later w5 w2 := HL
            have tb12 : (Rg.putUse V [] fr).eval (.tmp 12) = .int .i64 0 := (Rg.use_eval V fr 12 [] (by simp only [hz]; decide)).trans y12
            show Rg.Does1 _ _ V (Rg.putUse V [] fr) w2 _
            exact step_mv (.int .i64 0) (by simp only [execOp, tb12]; go_simp) rfl rfl rfl True.intro
          · intro V w2 HL HH
            have HL : Later w5 w2 := HL
            have h0 : V 0 = .int .i64 0 := HH.1
            have tb34 : (Rg.putUse V [(0, 34)] fr).eval (.tmp 34) = .int .i64 0 := (Rg.use_eval V fr 34 [(0, 34)] (by simp only [hz]; decide)).trans h0
            show Rg.Does1 _ _ V (Rg.putUse V [(0, 34)] fr) w2 _
            exact step_mv (.bool false) (by simp only [execOp, tb34]; go_simp) rfl rfl rfl True.intro
          · intro V w2 HL HH
            have HL : Later w5 w2 := HL
            have h1 : V 1 = .bool false := HH.1
            have tb35 : (Rg.putUse V [(1, 35)] fr).eval (.tmp 35) = .bool false := (Rg.use_eval V fr 35 [(1, 35)] (by simp only [hz]; decide)).trans h1
            show Rg.Does1 _ _ V (Rg.putUse V [(1, 35)] fr) w2 _
            exact step_mv (.bool false) (by simp only [execOp, tb35]; go_simp) rfl rfl rfl True.intro
          · intro V w2 HL HH
            have HL : Later w5 w2 := HL
            have h2 : V 2 = .bool false := HH.1
            have tb11 : (Rg.putUse V [(2, 36)] fr).eval (.tmp 11) = .pointer (some ⟨w3.heap.size, 0, none⟩) := (Rg.use_eval V fr 11 [(2, 36)] (by simp only [hz]; decide)).trans y11
            show Rg.Does1 _ _ V (Rg.putUse V [(2, 36)] fr) w2 _
            have d0 : w2.cell? ⟨w3.heap.size, 0, none⟩ = some (.int .i64 ia) := (XN5.out.below HL XN5.out.lt).cell 0
            have d1 : w2.cell? ⟨w3.heap.size, 1, none⟩ = some (.int .i64 ka) := (XN5.out.below HL XN5.out.lt).cell 1
            have d2 : w2.cell? ⟨w3.heap.size, 2, none⟩ = some (.int .i64 la) := (XN5.out.below HL XN5.out.lt).cell 2
            have d3 : w2.cell? ⟨w3.heap.size, 3, none⟩ = some (.int .i64 za) := (XN5.out.below HL XN5.out.lt).cell 3
            have d4 : w2.cell? ⟨w3.heap.size, 4, none⟩ = some (.int .u64 (ta : Nat)) := (XN5.out.below HL XN5.out.lt).cell 4
            have d5 : w2.cell? ⟨w3.heap.size, 5, none⟩ = some (.bool sa) := (XN5.out.below HL XN5.out.lt).cell 5
            exact step_mv (.agg #[.int .i64 ia, .int .i64 ka, .int .i64 la, .int .i64 za, .int .u64 (ta : Nat), .bool sa]) (by simp only [execOp, tb11]; go_simp) rfl rfl rfl h2
          · intro V w2 HL HH
            have HL : Later w5 w2 := HL
            have h2 : V 2 = .bool false := HH.1
            have tb3 : (Rg.putUse V [(2, 36)] fr).eval (.tmp 3) = .pointer (some ⟨w.heap.size, 0, none⟩) := (Rg.use_eval V fr 3 [(2, 36)] (by simp only [hz]; decide)).trans y3
            show Rg.Does1 _ _ V (Rg.putUse V [(2, 36)] fr) w2 _
            have d0 : w2.cell? ⟨w.heap.size, 0, none⟩ = some (.int .i64 ia) := (XA5.out.below HL XA5.out.lt).cell 0
            have d1 : w2.cell? ⟨w.heap.size, 1, none⟩ = some (.int .i64 ka) := (XA5.out.below HL XA5.out.lt).cell 1
            have d2 : w2.cell? ⟨w.heap.size, 2, none⟩ = some (.int .i64 la) := (XA5.out.below HL XA5.out.lt).cell 2
            have d3 : w2.cell? ⟨w.heap.size, 3, none⟩ = some (.int .i64 za) := (XA5.out.below HL XA5.out.lt).cell 3
            have d4 : w2.cell? ⟨w.heap.size, 4, none⟩ = some (.int .u64 (ta : Nat)) := (XA5.out.below HL XA5.out.lt).cell 4
            have d5 : w2.cell? ⟨w.heap.size, 5, none⟩ = some (.bool sa) := (XA5.out.below HL XA5.out.lt).cell 5
            exact step_mv (.agg #[.int .i64 ia, .int .i64 ka, .int .i64 la, .int .i64 za, .int .u64 (ta : Nat), .bool sa]) (by simp only [execOp, tb3]; go_simp) rfl rfl rfl h2
          · intro V w2 HL HH
            have HL : Later w5 w2 := HL
            have h2 : V 2 = .bool false := HH.1
            have h3 : V 3 = .agg #[.int .i64 ia, .int .i64 ka, .int .i64 la, .int .i64 za, .int .u64 (ta : Nat), .bool sa] := HH.2.1
            have h4 : V 4 = .agg #[.int .i64 ia, .int .i64 ka, .int .i64 la, .int .i64 za, .int .u64 (ta : Nat), .bool sa] := HH.2.2.1
            have tb37 : (Rg.putUse V [(2, 36), (3, 37), (4, 38)] fr).eval (.tmp 37) = .agg #[.int .i64 ia, .int .i64 ka, .int .i64 la, .int .i64 za, .int .u64 (ta : Nat), .bool sa] := (Rg.use_eval V fr 37 [(2, 36), (3, 37), (4, 38)] (by simp only [hz]; decide)).trans h3
            have tb38 : (Rg.putUse V [(2, 36), (3, 37), (4, 38)] fr).eval (.tmp 38) = .agg #[.int .i64 ia, .int .i64 ka, .int .i64 la, .int .i64 za, .int .u64 (ta : Nat), .bool sa] := (Rg.use_eval V fr 38 [(2, 36), (3, 37), (4, 38)] (by simp only [hz]; decide)).trans h4
            show Rg.Does1 _ _ V (Rg.putUse V [(2, 36), (3, 37), (4, 38)] fr) w2 _
            exact step_mv (.bool false) (by simp only [execOp, tb37, tb38]; go_simp) rfl rfl rfl h2
          · intro V w2 HL HH
            have HL : Later w5 w2 := HL
            have h2 : V 2 = .bool false := HH.1
            have h5 : V 5 = .bool false := HH.2.1
            have tb36 : (Rg.putUse V [(2, 36), (5, 39)] fr).eval (.tmp 36) = .bool false := (Rg.use_eval V fr 36 [(2, 36), (5, 39)] (by simp only [hz]; decide)).trans h2
            have tb39 : (Rg.putUse V [(2, 36), (5, 39)] fr).eval (.tmp 39) = .bool false := (Rg.use_eval V fr 39 [(2, 36), (5, 39)] (by simp only [hz]; decide)).trans h5
            show Rg.Does1 _ _ V (Rg.putUse V [(2, 36), (5, 39)] fr) w2 _
            exact step_mv (.bool false) (by simp only [execOp, tb36, tb39]; go_simp) rfl rfl rfl True.intro
          · intro V w2 HL HH
            have HL : Later w5 w2 := HL
            have h6 : V 6 = .bool false := HH.1
            have tb40 : (Rg.putUse V [(6, 40)] fr).eval (.tmp 40) = .bool false := (Rg.use_eval V fr 40 [(6, 40)] (by simp only [hz]; decide)).trans h6
            show Rg.Does1 _ _ V (Rg.putUse V [(6, 40)] fr) w2 _
            exact step_mv (.bool false) (by simp only [execOp, tb40]; go_simp) rfl rfl rfl True.intro
          · intro V w2 HL HH
            have HL : Later w5 w2 := HL
            have h7 : V 7 = .bool false := HH.1
            have tb7 : (Rg.putUse V [(7, 41)] fr).eval (.tmp 7) = .slice P1 ya.length c1 := (Rg.use_eval V fr 7 [(7, 41)] (by simp only [hz]; decide)).trans y7
            show Rg.Does1 _ _ V (Rg.putUse V [(7, 41)] fr) w2 _
            exact step_mv (.slice P1 ya.length c1) (by simp only [execOp, tb7]; go_simp) rfl rfl rfl h7
          · intro V w2 HL HH
            have HL : Later w5 w2 := HL
            have h7 : V 7 = .bool false := HH.1
            have h8 : V 8 = .slice P1 ya.length c1 := HH.2.1
            have tb42 : (Rg.putUse V [(7, 41), (8, 42)] fr).eval (.tmp 42) = .slice P1 ya.length c1 := (Rg.use_eval V fr 42 [(7, 41), (8, 42)] (by simp only [hz]; decide)).trans h8
            show Rg.Does1 _ _ V (Rg.putUse V [(7, 41), (8, 42)] fr) w2 _
            exact step_mv (.int .i64 ((ya).length : Nat)) (by simp only [execOp, resolve, List.map_toArray, List.map_cons, List.map_nil, tb42]; go_simp) rfl rfl rfl h7
          · intro V w2 HL HH
            have HL : Later w5 w2 := HL
            have h7 : V 7 = .bool false := HH.1
            have h9 : V 9 = .int .i64 ((ya).length : Nat) := HH.2.1
            have tb43 : (Rg.putUse V [(7, 41), (9, 43)] fr).eval (.tmp 43) = .int .i64 ((ya).length : Nat) := (Rg.use_eval V fr 43 [(7, 41), (9, 43)] (by simp only [hz]; decide)).trans h9
            show Rg.Does1 _ _ V (Rg.putUse V [(7, 41), (9, 43)] fr) w2 _
            have hl16 : ((ya.length : Nat) : Int) = 16 := by rw [HLA.out]; rfl
            exact step_mv (.bool false) (by simp only [execOp, tb43]; go_simp) rfl rfl rfl h7
          · intro V w2 HL HH
            have HL : Later w5 w2 := HL
            have h7 : V 7 = .bool false := HH.1
            have h10 : V 10 = .bool false := HH.2.1
            have tb41 : (Rg.putUse V [(7, 41), (10, 44)] fr).eval (.tmp 41) = .bool false := (Rg.use_eval V fr 41 [(7, 41), (10, 44)] (by simp only [hz]; decide)).trans h7
            have tb44 : (Rg.putUse V [(7, 41), (10, 44)] fr).eval (.tmp 44) = .bool false := (Rg.use_eval V fr 44 [(7, 41), (10, 44)] (by simp only [hz]; decide)).trans h10
            show Rg.Does1 _ _ V (Rg.putUse V [(7, 41), (10, 44)] fr) w2 _
            exact step_mv (.bool false) (by simp only [execOp, tb41, tb44]; go_simp) rfl rfl rfl True.intro
          · intro V w2 HL HH
            have HL : Later w5 w2 := HL
            have h11 : V 11 = .bool false := HH.1
            have tb45 : (Rg.putUse V [(11, 45)] fr).eval (.tmp 45) = .bool false := (Rg.use_eval V fr 45 [(11, 45)] (by simp only [hz]; decide)).trans h11
            show Rg.Does1 _ _ V (Rg.putUse V [(11, 45)] fr) w2 _
            exact step_mv (.bool false) (by simp only [execOp, tb45]; go_simp) rfl rfl rfl True.intro
          · intro V w2 HL HH
            have HL : Later w5 w2 := HL
            have h12 : V 12 = .bool false := HH.1
            have tb10 : (Rg.putUse V [(12, 46)] fr).eval (.tmp 10) = .int .i64 0 := (Rg.use_eval V fr 10 [(12, 46)] (by simp only [hz]; decide)).trans y10
            show Rg.Does1 _ _ V (Rg.putUse V [(12, 46)] fr) w2 _
            exact step_mv (.int .i64 0) (by simp only [execOp, tb10]; go_simp) rfl rfl rfl h12
          · intro V w2 HL HH
            have HL : Later w5 w2 := HL
            have h12 : V 12 = .bool false := HH.1
            have h13 : V 13 = .int .i64 0 := HH.2.1
            have tb47 : (Rg.putUse V [(12, 46), (13, 47)] fr).eval (.tmp 47) = .int .i64 0 := (Rg.use_eval V fr 47 [(12, 46), (13, 47)] (by simp only [hz]; decide)).trans h13
            show Rg.Does1 _ _ V (Rg.putUse V [(12, 46), (13, 47)] fr) w2 _
            exact step_mv (.bool true) (by simp only [execOp, tb47]; go_simp) rfl rfl rfl h12
          · intro V w2 HL HH
            have HL : Later w5 w2 := HL
            have h12 : V 12 = .bool false := HH.1
            have h14 : V 14 = .bool true := HH.2.1
            have tb48 : (Rg.putUse V [(12, 46), (14, 48)] fr).eval (.tmp 48) = .bool true := (Rg.use_eval V fr 48 [(12, 46), (14, 48)] (by simp only [hz]; decide)).trans h14
            show Rg.Does1 _ _ V (Rg.putUse V [(12, 46), (14, 48)] fr) w2 _
            exact step_mv (.bool true) (by simp only [execOp, tb48]; go_simp) rfl rfl rfl h12
          · intro V w2 HL HH
            have HL : Later w5 w2 := HL
            have h15 : V 15 = .bool true := HH.1
            have tb7 : (Rg.putUse V [(15, 49)] fr).eval (.tmp 7) = .slice P1 ya.length c1 := (Rg.use_eval V fr 7 [(15, 49)] (by simp only [hz]; decide)).trans y7
            show Rg.Does1 _ _ V (Rg.putUse V [(15, 49)] fr) w2 _
            exact step_mv (.slice P1 ya.length c1) (by simp only [execOp, tb7]; go_simp) rfl rfl rfl h15
          · intro V w2 HL HH
            have HL : Later w5 w2 := HL
            have h15 : V 15 = .bool true := HH.1
            have h16 : V 16 = .slice P1 ya.length c1 := HH.2.1
            have tb50 : (Rg.putUse V [(15, 49), (16, 50)] fr).eval (.tmp 50) = .slice P1 ya.length c1 := (Rg.use_eval V fr 50 [(15, 49), (16, 50)] (by simp only [hz]; decide)).trans h16
            show Rg.Does1 _ _ V (Rg.putUse V [(15, 49), (16, 50)] fr) w2 _
            exact step_str (ya) rfl tb50 (by first | rfl | simp) (HL.rd RA5.out) rfl rfl rfl h15
          · intro V w2 HL HH
            have HL : Later w5 w2 := HL
            have h15 : V 15 = .bool true := HH.1
            have tb9 : (Rg.putUse V [(15, 49)] fr).eval (.tmp 9) = .slice P2 yb.length c2 := (Rg.use_eval V fr 9 [(15, 49)] (by simp only [hz]; decide)).trans y9
            show Rg.Does1 _ _ V (Rg.putUse V [(15, 49)] fr) w2 _
            exact step_mv (.slice P2 yb.length c2) (by simp only [execOp, tb9]; go_simp) rfl rfl rfl h15
          · intro V w2 HL HH
            have HL : Later w5 w2 := HL
            have h15 : V 15 = .bool true := HH.1
            have h18 : V 18 = .slice P2 yb.length c2 := HH.2.1
            have tb52 : (Rg.putUse V [(15, 49), (18, 52)] fr).eval (.tmp 52) = .slice P2 yb.length c2 := (Rg.use_eval V fr 52 [(15, 49), (18, 52)] (by simp only [hz]; decide)).trans h18
            show Rg.Does1 _ _ V (Rg.putUse V [(15, 49), (18, 52)] fr) w2 _
            exact step_str (yb) rfl tb52 (by first | rfl | simp) (HL.rd RB5.out) rfl rfl rfl h15
          · intro V w2 HL HH
            have HL : Later w5 w2 := HL
            have h15 : V 15 = .bool true := HH.1
            have h17 : V 17 = .string (strOf (ya)) := HH.2.1
            have h19 : V 19 = .string (strOf (yb)) := HH.2.2.1
            have tb51 : (Rg.putUse V [(15, 49), (17, 51), (19, 53)] fr).eval (.tmp 51) = .string (strOf (ya)) := (Rg.use_eval V fr 51 [(15, 49), (17, 51), (19, 53)] (by simp only [hz]; decide)).trans h17
            have tb53 : (Rg.putUse V [(15, 49), (17, 51), (19, 53)] fr).eval (.tmp 53) = .string (strOf (yb)) := (Rg.use_eval V fr 53 [(15, 49), (17, 51), (19, 53)] (by simp only [hz]; decide)).trans h19
            show Rg.Does1 _ _ V (Rg.putUse V [(15, 49), (17, 51), (19, 53)] fr) w2 _
            have hns := HNS.out (by simp) (by simp)
            exact step_mv (.bool false) (by simp only [execOp, tb51, tb53]; go_simp) rfl rfl rfl h15
          · intro V w2 HL HH
            have HL : Later w5 w2 := HL
            have h15 : V 15 = .bool true := HH.1
            have tb3 : (Rg.putUse V [(15, 49)] fr).eval (.tmp 3) = .pointer (some ⟨w.heap.size, 0, none⟩) := (Rg.use_eval V fr 3 [(15, 49)] (by simp only [hz]; decide)).trans y3
            show Rg.Does1 _ _ V (Rg.putUse V [(15, 49)] fr) w2 _
            have d0 : w2.cell? ⟨w.heap.size, 0, none⟩ = some (.int .i64 ia) := (XA5.out.below HL XA5.out.lt).cell 0
            have d1 : w2.cell? ⟨w.heap.size, 1, none⟩ = some (.int .i64 ka) := (XA5.out.below HL XA5.out.lt).cell 1
            have d2 : w2.cell? ⟨w.heap.size, 2, none⟩ = some (.int .i64 la) := (XA5.out.below HL XA5.out.lt).cell 2
            have d3 : w2.cell? ⟨w.heap.size, 3, none⟩ = some (.int .i64 za) := (XA5.out.below HL XA5.out.lt).cell 3
            have d4 : w2.cell? ⟨w.heap.size, 4, none⟩ = some (.int .u64 (ta : Nat)) := (XA5.out.below HL XA5.out.lt).cell 4
            have d5 : w2.cell? ⟨w.heap.size, 5, none⟩ = some (.bool sa) := (XA5.out.below HL XA5.out.lt).cell 5
            exact step_mv (.agg #[.int .i64 ia, .int .i64 ka, .int .i64 la, .int .i64 za, .int .u64 (ta : Nat), .bool sa]) (by simp only [execOp, tb3]; go_simp) rfl rfl rfl h15
          · intro V w2 HL HH
            have HL : Later w5 w2 := HL
            have h15 : V 15 = .bool true := HH.1
            have tb4 : (Rg.putUse V [(15, 49)] fr).eval (.tmp 4) = .pointer (some ⟨w.heap.size + 1, 0, none⟩) := (Rg.use_eval V fr 4 [(15, 49)] (by simp only [hz]; decide)).trans y4
            show Rg.Does1 _ _ V (Rg.putUse V [(15, 49)] fr) w2 _
            have d0 : w2.cell? ⟨w.heap.size + 1, 0, none⟩ = some (.int .i64 ib) := (XB5.out.below HL XB5.out.lt).cell 0
            have d1 : w2.cell? ⟨w.heap.size + 1, 1, none⟩ = some (.int .i64 kb) := (XB5.out.below HL XB5.out.lt).cell 1
            have d2 : w2.cell? ⟨w.heap.size + 1, 2, none⟩ = some (.int .i64 lb) := (XB5.out.below HL XB5.out.lt).cell 2
            have d3 : w2.cell? ⟨w.heap.size + 1, 3, none⟩ = some (.int .i64 zb) := (XB5.out.below HL XB5.out.lt).cell 3
            have d4 : w2.cell? ⟨w.heap.size + 1, 4, none⟩ = some (.int .u64 (tb : Nat)) := (XB5.out.below HL XB5.out.lt).cell 4
            have d5 : w2.cell? ⟨w.heap.size + 1, 5, none⟩ = some (.bool sb) := (XB5.out.below HL XB5.out.lt).cell 5
            exact step_mv (.agg #[.int .i64 ib, .int .i64 kb, .int .i64 lb, .int .i64 zb, .int .u64 (tb : Nat), .bool sb]) (by simp only [execOp, tb4]; go_simp) rfl rfl rfl h15
          · intro V w2 HL HH
            have HL : Later w5 w2 := HL
            have h15 : V 15 = .bool true := HH.1
            have h21 : V 21 = .agg #[.int .i64 ia, .int .i64 ka, .int .i64 la, .int .i64 za, .int .u64 (ta : Nat), .bool sa] := HH.2.1
            have h22 : V 22 = .agg #[.int .i64 ib, .int .i64 kb, .int .i64 lb, .int .i64 zb, .int .u64 (tb : Nat), .bool sb] := HH.2.2.1
            have tb55 : (Rg.putUse V [(15, 49), (21, 55), (22, 56)] fr).eval (.tmp 55) = .agg #[.int .i64 ia, .int .i64 ka, .int .i64 la, .int .i64 za, .int .u64 (ta : Nat), .bool sa] := (Rg.use_eval V fr 55 [(15, 49), (21, 55), (22, 56)] (by simp only [hz]; decide)).trans h21
            have tb56 : (Rg.putUse V [(15, 49), (21, 55), (22, 56)] fr).eval (.tmp 56) = .agg #[.int .i64 ib, .int .i64 kb, .int .i64 lb, .int .i64 zb, .int .u64 (tb : Nat), .bool sb] := (Rg.use_eval V fr 56 [(15, 49), (21, 55), (22, 56)] (by simp only [hz]; decide)).trans h22
            show Rg.Does1 _ _ V (Rg.putUse V [(15, 49), (21, 55), (22, 56)] fr) w2 _
            have heb : ∀ w, (binOp .eql 25 (.agg #[.int .i64 ia, .int .i64 ka, .int .i64 la, .int .i64 za, .int .u64 (ta : Nat), .bool sa]) (.agg #[.int .i64 ib, .int .i64 kb, .int .i64 lb, .int .i64 zb, .int .u64 (tb : Nat), .bool sb])).run Try.prog w = .ok (.bool false) w := HEB.out
            exact step_mv (.bool false) (by simp only [execOp, tb55, tb56]; go_simp) rfl rfl rfl h15
          · intro V w2 HL HH
            have HL : Later w5 w2 := HL
            have h15 : V 15 = .bool true := HH.1
            have h20 : V 20 = .bool false := HH.2.1
            have h23 : V 23 = .bool false := HH.2.2.1
            have tb54 : (Rg.putUse V [(15, 49), (20, 54), (23, 57)] fr).eval (.tmp 54) = .bool false := (Rg.use_eval V fr 54 [(15, 49), (20, 54), (23, 57)] (by simp only [hz]; decide)).trans h20
            have tb57 : (Rg.putUse V [(15, 49), (20, 54), (23, 57)] fr).eval (.tmp 57) = .bool false := (Rg.use_eval V fr 57 [(15, 49), (20, 54), (23, 57)] (by simp only [hz]; decide)).trans h23
            show Rg.Does1 _ _ V (Rg.putUse V [(15, 49), (20, 54), (23, 57)] fr) w2 _
            exact step_mv (.bool false) (by simp only [execOp, tb54, tb57]; go_simp) rfl rfl rfl h15
          · intro V w2 HL HH
            have HL : Later w5 w2 := HL
            have h12 : V 12 = .bool false := HH.1
            have h15 : V 15 = .bool true := HH.2.1
            have h24 : V 24 = .bool false := HH.2.2.1
            have tb49 : (Rg.putUse V [(12, 46), (15, 49), (24, 58)] fr).eval (.tmp 49) = .bool true := (Rg.use_eval V fr 49 [(12, 46), (15, 49), (24, 58)] (by simp only [hz]; decide)).trans h15
            have tb58 : (Rg.putUse V [(12, 46), (15, 49), (24, 58)] fr).eval (.tmp 58) = .bool false := (Rg.use_eval V fr 58 [(12, 46), (15, 49), (24, 58)] (by simp only [hz]; decide)).trans h24
            show Rg.Does1 _ _ V (Rg.putUse V [(12, 46), (15, 49), (24, 58)] fr) w2 _
            exact step_mv (.bool false) (by simp only [execOp, tb49, tb58]; go_simp) rfl rfl rfl h12
          · intro V w2 HL HH
            have HL : Later w5 w2 := HL
            have h12 : V 12 = .bool false := HH.1
            have h25 : V 25 = .bool false := HH.2.1
            have tb46 : (Rg.putUse V [(12, 46), (25, 59)] fr).eval (.tmp 46) = .bool false := (Rg.use_eval V fr 46 [(12, 46), (25, 59)] (by simp only [hz]; decide)).trans h12
            have tb59 : (Rg.putUse V [(12, 46), (25, 59)] fr).eval (.tmp 59) = .bool false := (Rg.use_eval V fr 59 [(12, 46), (25, 59)] (by simp only [hz]; decide)).trans h25
            show Rg.Does1 _ _ V (Rg.putUse V [(12, 46), (25, 59)] fr) w2 _
            exact step_mv (.bool false) (by simp only [execOp, tb46, tb59]; go_simp) rfl rfl rfl True.intro
        · intro V w2 HI
          have h26 : V 26 = .bool false := HI.get 26 (by decide) (by rfl)
          have B6 := Lib.hid (later_drew HI.later)
          simp only [Rg.putList, Act.put, List.setIfInBounds_toArray, List.set_cons_zero, List.set_cons_succ, Nat.zero_add, Nat.reduceAdd]
          rw [h26]
          clear HI
          have XA6 := Lib.hid (XA5.out.below B6.out XA5.out.lt)
          have XB6 := Lib.hid (XB5.out.below B6.out XB5.out.lt)
          have HX6 := Lib.hid (HX5.out.below B6.out)
          have HW6 := Lib.hid (HW5.out.trans (B6.out.mono HW5.out.size))
          clear B6 XA5 XB5 HX5 HW5
          go_wp2_with fail
          obtain ⟨n2, f2, hn2⟩ := pair_is (ndDec x)
          obtain ⟨iq, kq, lq, zq, tq, sq⟩ := n2
          have HN2 := Lib.hid hn2
          have HCS := Lib.hid (ndDec_cases x)
          have HIV : Hid (f2 = 0 → Nd.Right ⟨iq, kq, lq, zq, tq, sq⟩ ∧ Nd.bytes ⟨iq, kq, lq, zq, tq, sq⟩ = x) := fun h => by
            have h1 := ndDec_inv x (by rw [hn2]; exact h)
            rw [hn2] at h1
            exact h1
          clear hn2
          refine (dec_as R hM _ AX x cx HX6.out HCX.out HLX.out HN2.out).mono ?_
          rintro e w7 ⟨rfl, B7⟩
          have HX7 := Lib.hid (HX6.out.below B7.out)
          have HW7 := Lib.hid (HW6.out.trans (B7.out.mono HW6.out.size))
          clear B7 HX6 HW6 XA6 XB6
          by_cases h0 : f2 = 0
          · subst h0
            obtain ⟨hr2, hb2⟩ := HIV.out rfl
            have HR2 := Lib.hid hr2
            have HB2 := Lib.hid hb2
            have HL2 : Hid (x.length = 16) := by show _ = _; rw [← hb2]; exact Nd.bytes_length _
            clear hr2 hb2 HIV HCS HN2
            have HG1 : Hid (Blk (w7.alloc (.cells #[.int .i64 0, .int .i64 0, .int .i64 0, .int .i64 0, .int .u64 0, .bool false] 25)) w7.heap.size 25 [.int .i64 0, .int .i64 0, .int .i64 0, .int .i64 0, .int .u64 0, .bool false]) := Blk.new w7 _ _
            have cz : ((0 : Nat) : Int) = 0 := rfl
            go_upto_region 8 with (refine wpList_store_row rfl 25 (.tmp 13) (.tmp 64) rfl w7.heap.size #[.int .i64 iq, .int .i64 kq, .int .i64 lq, .int .i64 zq, .int .u64 (tq : Nat), .bool sq] rfl rfl 25 #[.int .i64 0, .int .i64 0, .int .i64 0, .int .i64 0, .int .u64 0, .bool false] HG1.out rfl rfl rfl ?_)
            clear HG1
            have XN8 : Hid (Blk (w7.alloc (.cells #[.int .i64 iq, .int .i64 kq, .int .i64 lq, .int .i64 zq, .int .u64 (tq : Nat), .bool sq] 25)) w7.heap.size 25 [.int .i64 iq, .int .i64 kq, .int .i64 lq, .int .i64 zq, .int .u64 (tq : Nat), .bool sq]) := Blk.new w7 _ _
            have HX8 : Hid (Rd (w7.alloc (.cells #[.int .i64 iq, .int .i64 kq, .int .i64 lq, .int .i64 zq, .int .u64 (tq : Nat), .bool sq] 25)) AX x) := HX7.out.below (below_new w7 _)
            have HW8 : Hid (Below w.heap.size w (w7.alloc (.cells #[.int .i64 iq, .int .i64 kq, .int .i64 lq, .int .i64 zq, .int .u64 (tq : Nat), .bool sq] 25))) := HW7.out.trans ((below_new w7 _).mono HW7.out.size)
            refine wp_world (fun W => Hid (Blk W w7.heap.size 25 [.int .i64 iq, .int .i64 kq, .int .i64 lq, .int .i64 zq, .int .u64 (tq : Nat), .bool sq]) ∧ Hid (Rd W AX x) ∧ Hid (Below w.heap.size w W)) ⟨XN8, HX8, HW8⟩ ?_
            clear XN8 HX8 HW8 HX7 HW7
            rintro w8 ⟨XN8, HX8, HW8⟩
            have c0 : w8.cell? ⟨w7.heap.size, 0, none⟩ = some (.int .i64 iq) := XN8.out.cell 0
            have c1 : w8.cell? ⟨w7.heap.size, 1, none⟩ = some (.int .i64 kq) := XN8.out.cell 1
            have c2 : w8.cell? ⟨w7.heap.size, 2, none⟩ = some (.int .i64 lq) := XN8.out.cell 2
            have c3 : w8.cell? ⟨w7.heap.size, 3, none⟩ = some (.int .i64 zq) := XN8.out.cell 3
            have c4 : w8.cell? ⟨w7.heap.size, 4, none⟩ = some (.int .u64 (tq : Nat)) := XN8.out.cell 4
            have c5 : w8.cell? ⟨w7.heap.size, 5, none⟩ = some (.bool sq) := XN8.out.cell 5
            go_wp2_with fail
            clear c0 c1 c2 c3 c4 c5
            refine (enc_list C _ HR2.out HB2.out).mono ?_
            rintro e w9 ⟨P9, c9, rfl, hc9, R9, B9⟩
            have HX9 := Lib.hid (HX8.out.below B9.out)
            have HW9 := Lib.hid (HW8.out.trans (B9.out.mono HW8.out.size))
            have hs1 := str_any w9 P9 x c9 R9.out
            have hs2 := str_any w9 AX x cx HX9.out
            clear B9 XN8 HX8 HW8 hc9
            go_wp2_with fail
            clear hs1 hs2
            refine (known10_any C _).mono ?_
            rintro e w10 ⟨rfl, hb⟩
            have HF := Lib.hid (HW9.out.trans (hb.mono HW9.out.size))
            clear hb
            go_wp2_with fail
            go_ret
            exact ⟨rfl, HF.out⟩
          · have hz : f2 = 12 ∧ (⟨iq, kq, lq, zq, tq, sq⟩ : Nd) = Nd.zero := by
              have h1 := HN2.out
              rcases HCS.out with h2 | h2
              · rw [h2] at h1
                injection h1 with e1 e2
                exact ⟨e2.symm, e1.symm⟩
              · rw [h1] at h2
                exact absurd h2 h0
            obtain ⟨rfl, hz2⟩ := hz
            injection hz2 with e1 e2 e3 e4 e5 e6
            subst e1 e2 e3 e4 e5 e6
            clear h0 HCS HN2 HIV HX7
            have HG1 : Hid (Blk (w7.alloc (.cells #[.int .i64 0, .int .i64 0, .int .i64 0, .int .i64 0, .int .u64 0, .bool false] 25)) w7.heap.size 25 [.int .i64 0, .int .i64 0, .int .i64 0, .int .i64 0, .int .u64 0, .bool false]) := Blk.new w7 _ _
            have HW8 : Hid (Below w.heap.size w (w7.alloc (.cells #[.int .i64 0, .int .i64 0, .int .i64 0, .int .i64 0, .int .u64 0, .bool false] 25))) := HW7.out.trans ((below_new w7 _).mono HW7.out.size)
            have cz : ((12 : Nat) : Int) = 12 := rfl
            have cy : ((0 : Nat) : Int) = 0 := rfl
            go_wp2_with (refine wpList_store_row rfl 25 (.tmp 13) (.tmp 64) rfl w7.heap.size #[.int .i64 0, .int .i64 0, .int .i64 0, .int .i64 0, .int .u64 0, .bool false] rfl rfl 25 #[.int .i64 0, .int .i64 0, .int .i64 0, .int .i64 0, .int .u64 0, .bool false] HG1.out rfl rfl rfl ?_)
            refine (known10_any C _).mono ?_
            rintro e w10 ⟨rfl, hb⟩
            have HF := Lib.hid (HW8.out.trans (hb.mono HW8.out.size))
            clear hb
            go_wp2_with fail
            go_ret
            exact ⟨rfl, HF.out⟩
end Go.Proofs.Ytopcipaaffpiaaa

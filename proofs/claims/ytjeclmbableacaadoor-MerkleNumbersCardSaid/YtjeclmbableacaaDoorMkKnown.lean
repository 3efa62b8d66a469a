/-
  OWN WORK. The laws' own known run.
-/
import Derived.Test.YtjeclmbableacaaDoorMkCheckP
import Derived.Test.YtjeclmbableacaaDoorMkPathP
import Derived.Test.YtjeclmbableacaaDoorMkRootR
namespace Go.Proofs.YtjeclmbableacaaDoor
open Go.RowKit Rc

def abc : List (List UInt8) := [[97], [98], [99]]
theorem abc_path : Mk.path Sh.sum abc 2 = [Mk.root Sh.sum [[97], [98]]] := by
  have h1 : Mk.part abc.length = 2 := by decide
  rw [Mk.path_right Sh.sum abc 2 (by decide) (by rw [h1]; decide), h1, Mk.path_short Sh.sum _ _ (by decide)]
  rfl
theorem abc_check2 {P : List (List UInt8)} (h : Mk.path Sh.sum abc 2 = P) : chk (Mk.root Sh.sum abc) [99] 2 3 P = true := by
  subst h
  have := Mk.climb_path Sh.sum 3 abc 2 [99] (by decide) rfl
  exact decide_eq_true ⟨by decide, by decide, this⟩
theorem abc_check1 {P : List (List UInt8)} (h : Mk.path Sh.sum abc 2 = P) : chk (Mk.root Sh.sum abc) [99] 1 3 P = false := by
  subst h
  rw [abc_path]
  refine decide_eq_false fun h => ?_
  have h2 : Mk.climb Sh.sum [99] 1 3 ([] ++ [Mk.root Sh.sum [[97], [98]]]) = _ := h.2.2
  have h1 : Mk.part 3 = 2 := by decide
  rw [Mk.climb_left Sh.sum _ _ _ _ _ (by decide) (by rw [h1]; decide), h1, Mk.climb_none Sh.sum _ _ _ (by decide)] at h2
  cases h2
def abcWorld (w : World) : World := (((w.alloc (.cells #[.int .u8 97] 5 (1, 2))).alloc (.cells #[.int .u8 98] 5 (1, 2))).alloc (.cells #[.int .u8 99] 5 (1, 2))).alloc (.cells #[.slice (some ⟨w.heap.size, 0, none⟩) 1 1, .slice (some ⟨w.heap.size + 1, 0, none⟩) 1 1, .slice (some ⟨w.heap.size + 2, 0, none⟩) 1 1] 23)
theorem abc_world (w : World) : RdL (abcWorld w) (some ⟨w.heap.size + 1 + 1 + 1, 0, none⟩) abc ∧ Below w.heap.size w (abcWorld w) := by
  have s1 : (w.alloc (.cells #[.int .u8 97] 5 (1, 2))).heap.size = w.heap.size + 1 := World.size_alloc _ _
  have s2 : ((w.alloc (.cells #[.int .u8 97] 5 (1, 2))).alloc (.cells #[.int .u8 98] 5 (1, 2))).heap.size = w.heap.size + 1 + 1 := by rw [World.size_alloc, s1]
  have s3 : (((w.alloc (.cells #[.int .u8 97] 5 (1, 2))).alloc (.cells #[.int .u8 98] 5 (1, 2))).alloc (.cells #[.int .u8 99] 5 (1, 2))).heap.size = w.heap.size + 1 + 1 + 1 := by rw [World.size_alloc, s2]
  have r1 : Rd (w.alloc (.cells #[.int .u8 97] 5 (1, 2))) (some ⟨w.heap.size, 0, none⟩) [97] := rd_alloc w [97] _ _
  have r2 : Rd ((w.alloc (.cells #[.int .u8 97] 5 (1, 2))).alloc (.cells #[.int .u8 98] 5 (1, 2))) (some ⟨w.heap.size + 1, 0, none⟩) [98] := by
    have := rd_alloc (w.alloc (.cells #[.int .u8 97] 5 (1, 2))) [98] 5 (1, 2)
    rw [s1] at this; exact this
  have r3 : Rd (((w.alloc (.cells #[.int .u8 97] 5 (1, 2))).alloc (.cells #[.int .u8 98] 5 (1, 2))).alloc (.cells #[.int .u8 99] 5 (1, 2))) (some ⟨w.heap.size + 2, 0, none⟩) [99] := by
    have := rd_alloc ((w.alloc (.cells #[.int .u8 97] 5 (1, 2))).alloc (.cells #[.int .u8 98] 5 (1, 2))) [99] 5 (1, 2)
    rw [s2] at this; exact this
  unfold abcWorld
  obtain ⟨C, hC⟩ : ∃ C, C = #[Value.slice (some ⟨w.heap.size, 0, none⟩) 1 1, .slice (some ⟨w.heap.size + 1, 0, none⟩) 1 1, .slice (some ⟨w.heap.size + 2, 0, none⟩) 1 1] := ⟨_, rfl⟩
  rw [← hC]
  have b1 := below_new w (.cells #[.int .u8 97] 5 (1, 2))
  have b2 := below_new (w.alloc (.cells #[.int .u8 97] 5 (1, 2))) (.cells #[.int .u8 98] 5 (1, 2))
  have b3 := below_new ((w.alloc (.cells #[.int .u8 97] 5 (1, 2))).alloc (.cells #[.int .u8 98] 5 (1, 2))) (.cells #[.int .u8 99] 5 (1, 2))
  have b4 := below_new (((w.alloc (.cells #[.int .u8 97] 5 (1, 2))).alloc (.cells #[.int .u8 98] 5 (1, 2))).alloc (.cells #[.int .u8 99] 5 (1, 2))) (.cells C 23)
  refine ⟨fun _ => ⟨_, 0, rfl, by rw [World.size_alloc, s3]; omega, fun j x hx => ?_⟩, b1.trans ((b2.trans ((b3.trans (b4.mono b3.size)).mono b2.size)).mono b1.size)⟩
  have hce : ∀ j, World.cell? ((((w.alloc (.cells #[.int .u8 97] 5 (1, 2))).alloc (.cells #[.int .u8 98] 5 (1, 2))).alloc (.cells #[.int .u8 99] 5 (1, 2))).alloc (.cells C 23)) ⟨w.heap.size + 1 + 1 + 1, 0 + j, none⟩ = C[j]? := fun j => by
    rw [← s3, cell_of_row _ _ (0 + j) _ _ _ (heap_alloc_new _ _), Nat.zero_add]
  rw [hce]
  subst hC
  match j, hx with
  | 0, hx => obtain rfl : [97] = x := by simpa [abc] using hx
             exact ⟨_, 1, rfl, Nat.le_refl _, ((r1.below b2).below b3).below b4⟩
  | 1, hx => obtain rfl : [98] = x := by simpa [abc] using hx
             exact ⟨_, 1, rfl, Nat.le_refl _, (r2.below b3).below b4⟩
  | 2, hx => obtain rfl : [99] = x := by simpa [abc] using hx
             exact ⟨_, 1, rfl, Nat.le_refl _, r3.below b4⟩
  | j + 3, hx => simp [abc] at hx
set_option maxHeartbeats 4000000 in
set_option maxRecDepth 100000 in
theorem known_any (w : World) (hk : KP w) : Calls Tryd.prog 18 #[] w fun e w' => e = .returned (.bool true) ∧ Below w.heap.size w w' := by
  have HK0 := Lib.hid hk
  clear hk
  have HSA : Hid (Small abc) := ⟨by decide, by intro y hy; simp [abc] at hy; rcases hy with rfl | rfl | rfl <;> simp⟩
  have kc := fun (w : World) (C : Array Value) (n c : Nat) => Lib.run_convert_bytes_const (P := Tryd.prog) w 23 5 C n c Tryd.underlying23 Tryd.underlying5
  have kc2 : ∀ (w : World) (o : Obj) (C : Array Value) (n c : Nat), (convert 23 23 (.slice (some ⟨w.heap.size + 1, 0, none⟩) n c)).run Tryd.prog ((w.alloc o).alloc (.cells C 5)) = .ok (.slice (some ⟨w.heap.size + 1, 0, none⟩) n c) ((w.alloc o).alloc (.cells C 5 (C.size, C.size + 1))) := fun w o C n c => by
    have := kc (w.alloc o) C n c
    rw [World.size_alloc] at this; exact this
  have kc3 : ∀ (w : World) (o o2 : Obj) (C : Array Value) (n c : Nat), (convert 23 23 (.slice (some ⟨w.heap.size + 2, 0, none⟩) n c)).run Tryd.prog (((w.alloc o).alloc o2).alloc (.cells C 5)) = .ok (.slice (some ⟨w.heap.size + 2, 0, none⟩) n c) (((w.alloc o).alloc o2).alloc (.cells C 5 (C.size, C.size + 1))) := fun w o o2 C n c => by
    have := kc ((w.alloc o).alloc o2) C n c
    rw [World.size_alloc, World.size_alloc] at this; exact this
  go_enter Tryd.func18, Tryd.ntmps18
  go_wp2_with fail
  have HAB := Lib.hid (abc_world w)
  obtain ⟨g, hg⟩ : ∃ g, g = w.heap.size + 1 + 1 + 1 := ⟨_, rfl⟩
  rw [← hg] at HAB
  rw [← hg]
  clear hg kc kc2 kc3
  refine (pPath_in _ abc (some ⟨g, 0, none⟩) 3 2 HAB.out.1 (by decide) HSA.out (HK0.out.later HAB.out.2) (by decide)).mono ?_
  rintro e w1 ⟨x, rfl, hx, hb⟩
  obtain ⟨PA, pc, rfl, hpc, hpr⟩ := hx.form
  have HB1 : Hid (Below w.heap.size w w1) := HAB.out.2.trans (hb.mono HAB.out.2.size)
  have HR1 : Hid (RdL w1 (some ⟨g, 0, none⟩) abc) := HAB.out.1.below hb
  have HP1 := Lib.hid hpr
  obtain ⟨P, hP⟩ : ∃ P, Mk.path Sh.sum abc 2 = P := ⟨_, rfl⟩
  rw [hP] at HP1 hpc
  rw [hP]
  have HPL : Hid (P.length = 1) := by show _ = _; rw [← hP, abc_path]; rfl
  have HSP : Hid (Small P) := ⟨by rw [HPL.out]; decide, by rw [← hP, abc_path]; intro y hy; simp at hy; rw [hy, root_length]; decide⟩
  have CK2 := Lib.hid (abc_check2 hP)
  have CK1 := Lib.hid (abc_check1 hP)
  clear hb hx hpr hP HAB
  go_wp2_with fail
  refine (pRoot _ w1 abc (some ⟨g, 0, none⟩) 3 rfl HR1.out (by decide) HSA.out (HK0.out.later HB1.out)).mono ?_
  rintro e w3 ⟨v, rfl, ⟨RA, rc, rfl, hrc, hrr, _⟩, hb⟩
  have HB : Hid (Below w.heap.size w w3) := HB1.out.trans (hb.mono HB1.out.size)
  have HR := Lib.hid hrr
  have HL : Hid (RdL w3 (some ⟨g, 0, none⟩) abc) := HR1.out.below hb
  have HP : Hid (RdL w3 PA P) := HP1.out.below hb
  have HK : Hid (KP w3) := HK0.out.later HB.out
  obtain ⟨b, off, y, C2, c2, e1, hy, hc2, hc2l, hcr⟩ := HL.out.at_ 2 (by decide)
  injection e1 with e1
  injection e1 with e1 e2
  subst e1 e2
  obtain rfl : [99] = y := by simpa [abc] using hy
  have HC := Lib.hid hcr
  have HG : Hid (g < w3.heap.size) := World.block_lt_of_cell? w3 ⟨g, _, none⟩ hc2
  clear hb hrr hcr hy HR1 HP1 HB1
  go_upto_region 4 with (fail)
  refine Rc.wp_region (by kernel_rfl) (fun opn => List.getD [Rc.val (.int .i64 0), Rc.val (.bool true), Rc.val (.bool true), Rc.val (.slice PA P.length pc), Rc.val (.int .i64 1), Rc.val (.bool true), Rc.val (.bool true), Rc.val (.bool true), Rc.val (.slice RA (Mk.root Sh.sum abc).length rc), Rc.val (.slice (some ⟨g, 0, none⟩) 3 3), Rc.val (.pointer (some ⟨g, 2, none⟩)), Rc.val (.slice C2 1 c2), Rc.val (.slice PA P.length pc), Rc.val (.bool true), Rc.val (.bool true), Rc.val (.bool true), Rc.val (.slice RA (Mk.root Sh.sum abc).length rc), Rc.val (.slice (some ⟨g, 0, none⟩) 3 3), Rc.val (.pointer (some ⟨g, 2, none⟩)), Rc.val (.slice C2 1 c2), Rc.val (.slice PA P.length pc), Rc.val (.bool false), Rc.val (.bool true), Rc.val (.bool true), Rc.val (.bool true), Ob.frow (Sh.sum []), Rc.val (.string (strOf (Sh.sum []))), Ob.frow (Sh.sum []), Rc.val (.string (strOf (Sh.sum []))), Rc.val (.bool true), Rc.val (.bool true), Rc.val (.bool true)] opn Rc.any) 0 [] [[], [(0, 19)], [(1, 20)], [(2, 21)], [(2, 21), (3, 22)], [(2, 21), (4, 23)], [(2, 21), (5, 24)], [(6, 25)], [(7, 26)], [(7, 26)], [(7, 26), (9, 28)], [(7, 26), (10, 29)], [(7, 26)], [(7, 26), (8, 27), (11, 30), (12, 31)], [(7, 26), (13, 32)], [(14, 33)], [(15, 34)], [(15, 34)], [(15, 34), (17, 36)], [(15, 34), (18, 37)], [(15, 34)], [(15, 34), (16, 35), (19, 38), (20, 39)], [(15, 34), (21, 40)], [(15, 34), (22, 41)], [(23, 42)], [(24, 43)], [(24, 43), (25, 44)], [(24, 43)], [(24, 43), (27, 46)], [(24, 43), (26, 45), (28, 47)], [(24, 43), (29, 48)], [(30, 49)]] [[], [0], [0, 1], [0, 1, 2], [0, 1, 2, 3], [0, 1, 2, 3, 4], [0, 1, 2, 3, 4, 5], [0, 1, 2, 3, 4, 5, 6], [0, 1, 2, 3, 4, 5, 6, 7], [0, 1, 2, 3, 4, 5, 6, 7], [0, 1, 2, 3, 4, 5, 6, 7, 9], [0, 1, 2, 3, 4, 5, 6, 7, 9, 10], [0, 1, 2, 3, 4, 5, 6, 7], [0, 1, 2, 3, 4, 5, 6, 7, 8, 9, 10, 11, 12], [0, 1, 2, 3, 4, 5, 6, 7, 8, 9, 10, 11, 12, 13], [0, 1, 2, 3, 4, 5, 6, 7, 8, 9, 10, 11, 12, 13, 14], [0, 1, 2, 3, 4, 5, 6, 7, 8, 9, 10, 11, 12, 13, 14, 15], [0, 1, 2, 3, 4, 5, 6, 7, 8, 9, 10, 11, 12, 13, 14, 15], [0, 1, 2, 3, 4, 5, 6, 7, 8, 9, 10, 11, 12, 13, 14, 15, 17], [0, 1, 2, 3, 4, 5, 6, 7, 8, 9, 10, 11, 12, 13, 14, 15, 17, 18], [0, 1, 2, 3, 4, 5, 6, 7, 8, 9, 10, 11, 12, 13, 14, 15], [0, 1, 2, 3, 4, 5, 6, 7, 8, 9, 10, 11, 12, 13, 14, 15, 16, 17, 18, 19, 20], [0, 1, 2, 3, 4, 5, 6, 7, 8, 9, 10, 11, 12, 13, 14, 15, 16, 17, 18, 19, 20, 21], [0, 1, 2, 3, 4, 5, 6, 7, 8, 9, 10, 11, 12, 13, 14, 15, 16, 17, 18, 19, 20, 21, 22], [0, 1, 2, 3, 4, 5, 6, 7, 8, 9, 10, 11, 12, 13, 14, 15, 16, 17, 18, 19, 20, 21, 22, 23], [0, 1, 2, 3, 4, 5, 6, 7, 8, 9, 10, 11, 12, 13, 14, 15, 16, 17, 18, 19, 20, 21, 22, 23, 24], [0, 1, 2, 3, 4, 5, 6, 7, 8, 9, 10, 11, 12, 13, 14, 15, 16, 17, 18, 19, 20, 21, 22, 23, 24, 25], [0, 1, 2, 3, 4, 5, 6, 7, 8, 9, 10, 11, 12, 13, 14, 15, 16, 17, 18, 19, 20, 21, 22, 23, 24, 25], [0, 1, 2, 3, 4, 5, 6, 7, 8, 9, 10, 11, 12, 13, 14, 15, 16, 17, 18, 19, 20, 21, 22, 23, 24, 25, 27], [0, 1, 2, 3, 4, 5, 6, 7, 8, 9, 10, 11, 12, 13, 14, 15, 16, 17, 18, 19, 20, 21, 22, 23, 24, 25, 26, 27, 28], [0, 1, 2, 3, 4, 5, 6, 7, 8, 9, 10, 11, 12, 13, 14, 15, 16, 17, 18, 19, 20, 21, 22, 23, 24, 25, 26, 27, 28, 29], [0, 1, 2, 3, 4, 5, 6, 7, 8, 9, 10, 11, 12, 13, 14, 15, 16, 17, 18, 19, 20, 21, 22, 23, 24, 25, 26, 27, 28, 29, 30]] [[], [0], [1], [2], [2, 3], [2, 4], [2, 5], [6], [7], [7], [7, 9], [7, 10], [7], [7, 8, 11, 12], [7, 13], [14], [15], [15], [15, 17], [15, 18], [15], [15, 16, 19, 20], [15, 21], [15, 22], [23], [24], [24, 25], [24], [24, 27], [24, 26, 28], [24, 29], [30]] [] (by kernel_rfl) (by rfl) (by kernel_rfl) (fun _ => False) (fun _ _ => False) Rc.Inv.none ?_ ?_
  · intro fr ha
    have hz : fr.tmps.size = 50 := by rw [ha]; rfl
    have y1 : fr.eval (.tmp 1) = .slice (some ⟨g, 0, none⟩) 3 3 := by rw [ha]; rfl
    have y2 : fr.eval (.tmp 2) = .slice PA P.length pc := by rw [ha]; rfl
    have y3 : fr.eval (.tmp 3) = .int .i64 0 := by rw [ha]; rfl
    have y4 : fr.eval (.tmp 4) = .slice RA (Mk.root Sh.sum abc).length rc := by rw [ha]; rfl
    clear ha
    refine .cons ?_ (.cons ?_ (.cons ?_ (.cons ?_ (.cons ?_ (.cons ?_ (.cons ?_ (.cons ?_ (.cons ?_ (.cons ?_ (.cons ?_ (.cons ?_ (.cons ?_ (.cons ?_ (.cons ?_ (.cons ?_ (.cons ?_ (.cons ?_ (.cons ?_ (.cons ?_ (.cons ?_ (.cons ?_ (.cons ?_ (.cons ?_ (.cons ?_ (.cons ?_ (.cons ?_ (.cons ?_ (.cons ?_ (.cons ?_ (.cons ?_ (.cons ?_ (.nil))))))))))))))))))))))))))))))))
    · intro V S w2 HM HU HE
      have lw : Below w3.heap.size w3 w2 := Rc.Mod.below HM (fun _ h => h.elim)
      have tb3 : (Rg.putUse V [] fr).eval (.tmp 3) = .int .i64 0 := (Rg.use_eval V fr 3 [] (by simp only [hz]; decide)).trans y3
      show Rg.Does1 _ _ V (Rg.putUse V [] fr) w2 _
      exact Ob.rc_mv (.int .i64 0) (by simp only [execOp, tb3]; go_simp) rfl rfl True.intro
    · intro V S w2 HM HU HE
      have lw : Below w3.heap.size w3 w2 := Rc.Mod.below HM (fun _ h => h.elim)
      have h0 : V 0 = .int .i64 0 := HU.holds 0 (by decide)
      have tb19 : (Rg.putUse V [(0, 19)] fr).eval (.tmp 19) = .int .i64 0 := (Rg.use_eval V fr 19 [(0, 19)] (by simp only [hz]; decide)).trans h0
      show Rg.Does1 _ _ V (Rg.putUse V [(0, 19)] fr) w2 _
      exact Ob.rc_mv (.bool true) (by simp only [execOp, tb19]; go_simp) rfl rfl True.intro
    · intro V S w2 HM HU HE
      have lw : Below w3.heap.size w3 w2 := Rc.Mod.below HM (fun _ h => h.elim)
      have h1 : V 1 = .bool true := HU.holds 1 (by decide)
      have tb20 : (Rg.putUse V [(1, 20)] fr).eval (.tmp 20) = .bool true := (Rg.use_eval V fr 20 [(1, 20)] (by simp only [hz]; decide)).trans h1
      show Rg.Does1 _ _ V (Rg.putUse V [(1, 20)] fr) w2 _
      exact Ob.rc_mv (.bool true) (by simp only [execOp, tb20]; go_simp) rfl rfl True.intro
    · intro V S w2 HM HU HE
      have lw : Below w3.heap.size w3 w2 := Rc.Mod.below HM (fun _ h => h.elim)
      have h2 : V 2 = .bool true := HU.holds 2 (by decide)
      have tb2 : (Rg.putUse V [(2, 21)] fr).eval (.tmp 2) = .slice PA P.length pc := (Rg.use_eval V fr 2 [(2, 21)] (by simp only [hz]; decide)).trans y2
      show Rg.Does1 _ _ V (Rg.putUse V [(2, 21)] fr) w2 _
      exact Ob.rc_mv (.slice PA P.length pc) (by simp only [execOp, tb2]; go_simp) rfl rfl h2
    · intro V S w2 HM HU HE
      have lw : Below w3.heap.size w3 w2 := Rc.Mod.below HM (fun _ h => h.elim)
      have h2 : V 2 = .bool true := HU.holds 2 (by decide)
      have h3 : V 3 = .slice PA P.length pc := HU.holds 3 (by decide)
      have tb22 : (Rg.putUse V [(2, 21), (3, 22)] fr).eval (.tmp 22) = .slice PA P.length pc := (Rg.use_eval V fr 22 [(2, 21), (3, 22)] (by simp only [hz]; decide)).trans h3
      show Rg.Does1 _ _ V (Rg.putUse V [(2, 21), (3, 22)] fr) w2 _
      have hPl := HPL.out
      exact Ob.rc_mv (.int .i64 1) (by simp only [execOp, resolve, List.map_toArray, List.map_cons, List.map_nil, tb22]; go_simp) rfl rfl h2
    · intro V S w2 HM HU HE
      have lw : Below w3.heap.size w3 w2 := Rc.Mod.below HM (fun _ h => h.elim)
      have h2 : V 2 = .bool true := HU.holds 2 (by decide)
      have h4 : V 4 = .int .i64 1 := HU.holds 4 (by decide)
      have tb23 : (Rg.putUse V [(2, 21), (4, 23)] fr).eval (.tmp 23) = .int .i64 1 := (Rg.use_eval V fr 23 [(2, 21), (4, 23)] (by simp only [hz]; decide)).trans h4
      show Rg.Does1 _ _ V (Rg.putUse V [(2, 21), (4, 23)] fr) w2 _
      exact Ob.rc_mv (.bool true) (by simp only [execOp, tb23]; go_simp) rfl rfl h2
    · intro V S w2 HM HU HE
      have lw : Below w3.heap.size w3 w2 := Rc.Mod.below HM (fun _ h => h.elim)
      have h2 : V 2 = .bool true := HU.holds 2 (by decide)
      have tb21 : (Rg.putUse V [(2, 21), (5, 24)] fr).eval (.tmp 21) = .bool true := (Rg.use_eval V fr 21 [(2, 21), (5, 24)] (by simp only [hz]; decide)).trans h2
      have h5 : V 5 = .bool true := HU.holds 5 (by decide)
      have tb24 : (Rg.putUse V [(2, 21), (5, 24)] fr).eval (.tmp 24) = .bool true := (Rg.use_eval V fr 24 [(2, 21), (5, 24)] (by simp only [hz]; decide)).trans h5
      show Rg.Does1 _ _ V (Rg.putUse V [(2, 21), (5, 24)] fr) w2 _
      exact Ob.rc_mv (.bool true) (by simp only [execOp, tb21, tb24]; go_simp) rfl rfl True.intro
    · intro V S w2 HM HU HE
      have lw : Below w3.heap.size w3 w2 := Rc.Mod.below HM (fun _ h => h.elim)
      have h6 : V 6 = .bool true := HU.holds 6 (by decide)
      have tb25 : (Rg.putUse V [(6, 25)] fr).eval (.tmp 25) = .bool true := (Rg.use_eval V fr 25 [(6, 25)] (by simp only [hz]; decide)).trans h6
      show Rg.Does1 _ _ V (Rg.putUse V [(6, 25)] fr) w2 _
      exact Ob.rc_mv (.bool true) (by simp only [execOp, tb25]; go_simp) rfl rfl True.intro
    · intro V S w2 HM HU HE
      have lw : Below w3.heap.size w3 w2 := Rc.Mod.below HM (fun _ h => h.elim)
      have h7 : V 7 = .bool true := HU.holds 7 (by decide)
      have tb4 : (Rg.putUse V [(7, 26)] fr).eval (.tmp 4) = .slice RA (Mk.root Sh.sum abc).length rc := (Rg.use_eval V fr 4 [(7, 26)] (by simp only [hz]; decide)).trans y4
      show Rg.Does1 _ _ V (Rg.putUse V [(7, 26)] fr) w2 _
      exact Ob.rc_mv (.slice RA (Mk.root Sh.sum abc).length rc) (by simp only [execOp, tb4]; go_simp) rfl rfl h7
    · intro V S w2 HM HU HE
      have lw : Below w3.heap.size w3 w2 := Rc.Mod.below HM (fun _ h => h.elim)
      have h7 : V 7 = .bool true := HU.holds 7 (by decide)
      have tb1 : (Rg.putUse V [(7, 26)] fr).eval (.tmp 1) = .slice (some ⟨g, 0, none⟩) 3 3 := (Rg.use_eval V fr 1 [(7, 26)] (by simp only [hz]; decide)).trans y1
      show Rg.Does1 _ _ V (Rg.putUse V [(7, 26)] fr) w2 _
      exact Ob.rc_mv (.slice (some ⟨g, 0, none⟩) 3 3) (by simp only [execOp, tb1]; go_simp) rfl rfl h7
    · intro V S w2 HM HU HE
      have lw : Below w3.heap.size w3 w2 := Rc.Mod.below HM (fun _ h => h.elim)
      have h7 : V 7 = .bool true := HU.holds 7 (by decide)
      have h9 : V 9 = .slice (some ⟨g, 0, none⟩) 3 3 := HU.holds 9 (by decide)
      have tb28 : (Rg.putUse V [(7, 26), (9, 28)] fr).eval (.tmp 28) = .slice (some ⟨g, 0, none⟩) 3 3 := (Rg.use_eval V fr 28 [(7, 26), (9, 28)] (by simp only [hz]; decide)).trans h9
      show Rg.Does1 _ _ V (Rg.putUse V [(7, 26), (9, 28)] fr) w2 _
      exact Ob.rc_mv (.pointer (some ⟨g, 2, none⟩)) (by simp only [execOp, tb28]; go_simp) rfl rfl h7
    · intro V S w2 HM HU HE
      have lw : Below w3.heap.size w3 w2 := Rc.Mod.below HM (fun _ h => h.elim)
      have h7 : V 7 = .bool true := HU.holds 7 (by decide)
      have h10 : V 10 = .pointer (some ⟨g, 2, none⟩) := HU.holds 10 (by decide)
      have tb29 : (Rg.putUse V [(7, 26), (10, 29)] fr).eval (.tmp 29) = .pointer (some ⟨g, 2, none⟩) := (Rg.use_eval V fr 29 [(7, 26), (10, 29)] (by simp only [hz]; decide)).trans h10
      show Rg.Does1 _ _ V (Rg.putUse V [(7, 26), (10, 29)] fr) w2 _
      have cu := (lw.cell (p := ⟨g, 2, none⟩) HG.out).trans hc2
      exact Ob.rc_mv (.slice C2 1 c2) (by simp only [execOp, tb29]; go_simp) rfl rfl h7
    · intro V S w2 HM HU HE
      have lw : Below w3.heap.size w3 w2 := Rc.Mod.below HM (fun _ h => h.elim)
      have h7 : V 7 = .bool true := HU.holds 7 (by decide)
      have tb2 : (Rg.putUse V [(7, 26)] fr).eval (.tmp 2) = .slice PA P.length pc := (Rg.use_eval V fr 2 [(7, 26)] (by simp only [hz]; decide)).trans y2
      show Rg.Does1 _ _ V (Rg.putUse V [(7, 26)] fr) w2 _
      exact Ob.rc_mv (.slice PA P.length pc) (by simp only [execOp, tb2]; go_simp) rfl rfl h7
    · intro V S w2 HM HU HE
      have lw : Below w3.heap.size w3 w2 := Rc.Mod.below HM (fun _ h => h.elim)
      have h7 : V 7 = .bool true := HU.holds 7 (by decide)
      have h8 : V 8 = .slice RA (Mk.root Sh.sum abc).length rc := HU.holds 8 (by decide)
      have tb27 : (Rg.putUse V [(7, 26), (8, 27), (11, 30), (12, 31)] fr).eval (.tmp 27) = .slice RA (Mk.root Sh.sum abc).length rc := (Rg.use_eval V fr 27 [(7, 26), (8, 27), (11, 30), (12, 31)] (by simp only [hz]; decide)).trans h8
      have h11 : V 11 = .slice C2 1 c2 := HU.holds 11 (by decide)
      have tb30 : (Rg.putUse V [(7, 26), (8, 27), (11, 30), (12, 31)] fr).eval (.tmp 30) = .slice C2 1 c2 := (Rg.use_eval V fr 30 [(7, 26), (8, 27), (11, 30), (12, 31)] (by simp only [hz]; decide)).trans h11
      have h12 : V 12 = .slice PA P.length pc := HU.holds 12 (by decide)
      have tb31 : (Rg.putUse V [(7, 26), (8, 27), (11, 30), (12, 31)] fr).eval (.tmp 31) = .slice PA P.length pc := (Rg.use_eval V fr 31 [(7, 26), (8, 27), (11, 30), (12, 31)] (by simp only [hz]; decide)).trans h12
      show Rg.Does1 _ _ V (Rg.putUse V [(7, 26), (8, 27), (11, 30), (12, 31)] fr) w2 _
      exact Ob.step_tell (.bool true) #[.slice RA (Mk.root Sh.sum abc).length rc, .slice C2 1 c2, .int .i64 2, .int .i64 3, .slice PA P.length pc] (fun args w => Rg.call_enter Tryd.func14 (by kernel_rfl) (by kernel_rfl) args w) rfl (by simp only [List.map_toArray, List.map_cons, List.map_nil, Rg.eval_const, tb27, tb30, tb31]) rfl (fun x => Rg.alias_none rfl V x) h7 ((pCheck w2 (Mk.root Sh.sum abc) [99] RA C2 rc c2 2 3 P PA pc (by decide) (by decide) (HR.out.below lw) (HC.out.below lw) hc2l (by simp) (HP.out.below lw) hpc HSP.out (by rw [HPL.out]; decide) (HK.out.later lw)).mono fun e w' h => ⟨by rw [h.1, CK2.out], h.2⟩)
    · intro V S w2 HM HU HE
      have lw : Below w3.heap.size w3 w2 := Rc.Mod.below HM (fun _ h => h.elim)
      have h7 : V 7 = .bool true := HU.holds 7 (by decide)
      have tb26 : (Rg.putUse V [(7, 26), (13, 32)] fr).eval (.tmp 26) = .bool true := (Rg.use_eval V fr 26 [(7, 26), (13, 32)] (by simp only [hz]; decide)).trans h7
      have h13 : V 13 = .bool true := HU.holds 13 (by decide)
      have tb32 : (Rg.putUse V [(7, 26), (13, 32)] fr).eval (.tmp 32) = .bool true := (Rg.use_eval V fr 32 [(7, 26), (13, 32)] (by simp only [hz]; decide)).trans h13
      show Rg.Does1 _ _ V (Rg.putUse V [(7, 26), (13, 32)] fr) w2 _
      exact Ob.rc_mv (.bool true) (by simp only [execOp, tb26, tb32]; go_simp) rfl rfl True.intro
    · intro V S w2 HM HU HE
      have lw : Below w3.heap.size w3 w2 := Rc.Mod.below HM (fun _ h => h.elim)
      have h14 : V 14 = .bool true := HU.holds 14 (by decide)
      have tb33 : (Rg.putUse V [(14, 33)] fr).eval (.tmp 33) = .bool true := (Rg.use_eval V fr 33 [(14, 33)] (by simp only [hz]; decide)).trans h14
      show Rg.Does1 _ _ V (Rg.putUse V [(14, 33)] fr) w2 _
      exact Ob.rc_mv (.bool true) (by simp only [execOp, tb33]; go_simp) rfl rfl True.intro
    · intro V S w2 HM HU HE
      have lw : Below w3.heap.size w3 w2 := Rc.Mod.below HM (fun _ h => h.elim)
      have h15 : V 15 = .bool true := HU.holds 15 (by decide)
      have tb4 : (Rg.putUse V [(15, 34)] fr).eval (.tmp 4) = .slice RA (Mk.root Sh.sum abc).length rc := (Rg.use_eval V fr 4 [(15, 34)] (by simp only [hz]; decide)).trans y4
      show Rg.Does1 _ _ V (Rg.putUse V [(15, 34)] fr) w2 _
      exact Ob.rc_mv (.slice RA (Mk.root Sh.sum abc).length rc) (by simp only [execOp, tb4]; go_simp) rfl rfl h15
    · intro V S w2 HM HU HE
      have lw : Below w3.heap.size w3 w2 := Rc.Mod.below HM (fun _ h => h.elim)
      have h15 : V 15 = .bool true := HU.holds 15 (by decide)
      have tb1 : (Rg.putUse V [(15, 34)] fr).eval (.tmp 1) = .slice (some ⟨g, 0, none⟩) 3 3 := (Rg.use_eval V fr 1 [(15, 34)] (by simp only [hz]; decide)).trans y1
      show Rg.Does1 _ _ V (Rg.putUse V [(15, 34)] fr) w2 _
      exact Ob.rc_mv (.slice (some ⟨g, 0, none⟩) 3 3) (by simp only [execOp, tb1]; go_simp) rfl rfl h15
    · intro V S w2 HM HU HE
      have lw : Below w3.heap.size w3 w2 := Rc.Mod.below HM (fun _ h => h.elim)
      have h15 : V 15 = .bool true := HU.holds 15 (by decide)
      have h17 : V 17 = .slice (some ⟨g, 0, none⟩) 3 3 := HU.holds 17 (by decide)
      have tb36 : (Rg.putUse V [(15, 34), (17, 36)] fr).eval (.tmp 36) = .slice (some ⟨g, 0, none⟩) 3 3 := (Rg.use_eval V fr 36 [(15, 34), (17, 36)] (by simp only [hz]; decide)).trans h17
      show Rg.Does1 _ _ V (Rg.putUse V [(15, 34), (17, 36)] fr) w2 _
      exact Ob.rc_mv (.pointer (some ⟨g, 2, none⟩)) (by simp only [execOp, tb36]; go_simp) rfl rfl h15
    · intro V S w2 HM HU HE
      have lw : Below w3.heap.size w3 w2 := Rc.Mod.below HM (fun _ h => h.elim)
      have h15 : V 15 = .bool true := HU.holds 15 (by decide)
      have h18 : V 18 = .pointer (some ⟨g, 2, none⟩) := HU.holds 18 (by decide)
      have tb37 : (Rg.putUse V [(15, 34), (18, 37)] fr).eval (.tmp 37) = .pointer (some ⟨g, 2, none⟩) := (Rg.use_eval V fr 37 [(15, 34), (18, 37)] (by simp only [hz]; decide)).trans h18
      show Rg.Does1 _ _ V (Rg.putUse V [(15, 34), (18, 37)] fr) w2 _
      have cu := (lw.cell (p := ⟨g, 2, none⟩) HG.out).trans hc2
      exact Ob.rc_mv (.slice C2 1 c2) (by simp only [execOp, tb37]; go_simp) rfl rfl h15
    · intro V S w2 HM HU HE
      have lw : Below w3.heap.size w3 w2 := Rc.Mod.below HM (fun _ h => h.elim)
      have h15 : V 15 = .bool true := HU.holds 15 (by decide)
      have tb2 : (Rg.putUse V [(15, 34)] fr).eval (.tmp 2) = .slice PA P.length pc := (Rg.use_eval V fr 2 [(15, 34)] (by simp only [hz]; decide)).trans y2
      show Rg.Does1 _ _ V (Rg.putUse V [(15, 34)] fr) w2 _
      exact Ob.rc_mv (.slice PA P.length pc) (by simp only [execOp, tb2]; go_simp) rfl rfl h15
    · intro V S w2 HM HU HE
      have lw : Below w3.heap.size w3 w2 := Rc.Mod.below HM (fun _ h => h.elim)
      have h15 : V 15 = .bool true := HU.holds 15 (by decide)
      have h16 : V 16 = .slice RA (Mk.root Sh.sum abc).length rc := HU.holds 16 (by decide)
      have tb35 : (Rg.putUse V [(15, 34), (16, 35), (19, 38), (20, 39)] fr).eval (.tmp 35) = .slice RA (Mk.root Sh.sum abc).length rc := (Rg.use_eval V fr 35 [(15, 34), (16, 35), (19, 38), (20, 39)] (by simp only [hz]; decide)).trans h16
      have h19 : V 19 = .slice C2 1 c2 := HU.holds 19 (by decide)
      have tb38 : (Rg.putUse V [(15, 34), (16, 35), (19, 38), (20, 39)] fr).eval (.tmp 38) = .slice C2 1 c2 := (Rg.use_eval V fr 38 [(15, 34), (16, 35), (19, 38), (20, 39)] (by simp only [hz]; decide)).trans h19
      have h20 : V 20 = .slice PA P.length pc := HU.holds 20 (by decide)
      have tb39 : (Rg.putUse V [(15, 34), (16, 35), (19, 38), (20, 39)] fr).eval (.tmp 39) = .slice PA P.length pc := (Rg.use_eval V fr 39 [(15, 34), (16, 35), (19, 38), (20, 39)] (by simp only [hz]; decide)).trans h20
      show Rg.Does1 _ _ V (Rg.putUse V [(15, 34), (16, 35), (19, 38), (20, 39)] fr) w2 _
      exact Ob.step_tell (.bool false) #[.slice RA (Mk.root Sh.sum abc).length rc, .slice C2 1 c2, .int .i64 1, .int .i64 3, .slice PA P.length pc] (fun args w => Rg.call_enter Tryd.func14 (by kernel_rfl) (by kernel_rfl) args w) rfl (by simp only [List.map_toArray, List.map_cons, List.map_nil, Rg.eval_const, tb35, tb38, tb39]) rfl (fun x => Rg.alias_none rfl V x) h15 ((pCheck w2 (Mk.root Sh.sum abc) [99] RA C2 rc c2 1 3 P PA pc (by decide) (by decide) (HR.out.below lw) (HC.out.below lw) hc2l (by simp) (HP.out.below lw) hpc HSP.out (by rw [HPL.out]; decide) (HK.out.later lw)).mono fun e w' h => ⟨by rw [h.1, CK1.out], h.2⟩)
    · intro V S w2 HM HU HE
      have lw : Below w3.heap.size w3 w2 := Rc.Mod.below HM (fun _ h => h.elim)
      have h15 : V 15 = .bool true := HU.holds 15 (by decide)
      have h21 : V 21 = .bool false := HU.holds 21 (by decide)
      have tb40 : (Rg.putUse V [(15, 34), (21, 40)] fr).eval (.tmp 40) = .bool false := (Rg.use_eval V fr 40 [(15, 34), (21, 40)] (by simp only [hz]; decide)).trans h21
      show Rg.Does1 _ _ V (Rg.putUse V [(15, 34), (21, 40)] fr) w2 _
      exact Ob.rc_mv (.bool true) (by simp only [execOp, tb40]; go_simp) rfl rfl h15
    · intro V S w2 HM HU HE
      have lw : Below w3.heap.size w3 w2 := Rc.Mod.below HM (fun _ h => h.elim)
      have h15 : V 15 = .bool true := HU.holds 15 (by decide)
      have tb34 : (Rg.putUse V [(15, 34), (22, 41)] fr).eval (.tmp 34) = .bool true := (Rg.use_eval V fr 34 [(15, 34), (22, 41)] (by simp only [hz]; decide)).trans h15
      have h22 : V 22 = .bool true := HU.holds 22 (by decide)
      have tb41 : (Rg.putUse V [(15, 34), (22, 41)] fr).eval (.tmp 41) = .bool true := (Rg.use_eval V fr 41 [(15, 34), (22, 41)] (by simp only [hz]; decide)).trans h22
      show Rg.Does1 _ _ V (Rg.putUse V [(15, 34), (22, 41)] fr) w2 _
      exact Ob.rc_mv (.bool true) (by simp only [execOp, tb34, tb41]; go_simp) rfl rfl True.intro
    · intro V S w2 HM HU HE
      have lw : Below w3.heap.size w3 w2 := Rc.Mod.below HM (fun _ h => h.elim)
      have h23 : V 23 = .bool true := HU.holds 23 (by decide)
      have tb42 : (Rg.putUse V [(23, 42)] fr).eval (.tmp 42) = .bool true := (Rg.use_eval V fr 42 [(23, 42)] (by simp only [hz]; decide)).trans h23
      show Rg.Does1 _ _ V (Rg.putUse V [(23, 42)] fr) w2 _
      exact Ob.rc_mv (.bool true) (by simp only [execOp, tb42]; go_simp) rfl rfl True.intro
    · intro V S w2 HM HU HE
      have lw : Below w3.heap.size w3 w2 := Rc.Mod.below HM (fun _ h => h.elim)
      have h24 : V 24 = .bool true := HU.holds 24 (by decide)
      show Rg.Does1 _ _ V (Rg.putUse V [(24, 43)] fr) w2 _
      exact step_hcall (Sh.sum []) #[.slice none 0 0] (fun args w => Rg.call_enter Tryd.func9 (by kernel_rfl) (by kernel_rfl) args w) rfl (by simp only [List.map_toArray, List.map_cons, List.map_nil, Rg.eval_const]) rfl (fun x => Rg.alias_none rfl V x) h24 (by have := pRoot _ w2 [] none 0 rfl (RdL.nil _ _) (Nat.le_refl _) ⟨by simp, by intro y hy; simp at hy⟩ (HK.out.later lw); rw [Mk.root_nil] at this; exact this)
    · intro V S w2 HM HU HE
      have lw : Below w3.heap.size w3 w2 := Rc.Mod.below HM (fun _ h => h.elim)
      have h24 : V 24 = .bool true := HU.holds 24 (by decide)
      obtain ⟨X25, k25, e25, hc25, hr25, hX25⟩ := HU.holds 25 (by decide)
      have tb44 : (Rg.putUse V [(24, 43), (25, 44)] fr).eval (.tmp 44) = .slice X25 (Sh.sum []).length k25 := (Rg.use_eval V fr 44 [(24, 43), (25, 44)] (by simp only [hz]; decide)).trans e25
      show Rg.Does1 _ _ V (Rg.putUse V [(24, 43), (25, 44)] fr) w2 _
      exact Ob.rc_str (Sh.sum []) rfl tb44 (by first | rfl | simp) hr25 rfl rfl h24
    · intro V S w2 HM HU HE
      have lw : Below w3.heap.size w3 w2 := Rc.Mod.below HM (fun _ h => h.elim)
      have h24 : V 24 = .bool true := HU.holds 24 (by decide)
      show Rg.Does1 _ _ V (Rg.putUse V [(24, 43)] fr) w2 _
      exact step_hcall (Sh.sum []) #[.slice none 0 0] (fun args w => Rg.call_enter Tryd.func30 (by kernel_rfl) (by kernel_rfl) args w) rfl (by simp only [List.map_toArray, List.map_cons, List.map_nil, Rg.eval_const]) rfl (fun x => Rg.alias_none rfl V x) h24 (rSum0 w2 trivial)
    · intro V S w2 HM HU HE
      have lw : Below w3.heap.size w3 w2 := Rc.Mod.below HM (fun _ h => h.elim)
      have h24 : V 24 = .bool true := HU.holds 24 (by decide)
      obtain ⟨X27, k27, e27, hc27, hr27, hX27⟩ := HU.holds 27 (by decide)
      have tb46 : (Rg.putUse V [(24, 43), (27, 46)] fr).eval (.tmp 46) = .slice X27 (Sh.sum []).length k27 := (Rg.use_eval V fr 46 [(24, 43), (27, 46)] (by simp only [hz]; decide)).trans e27
      show Rg.Does1 _ _ V (Rg.putUse V [(24, 43), (27, 46)] fr) w2 _
      exact Ob.rc_str (Sh.sum []) rfl tb46 (by first | rfl | simp) hr27 rfl rfl h24
    · intro V S w2 HM HU HE
      have lw : Below w3.heap.size w3 w2 := Rc.Mod.below HM (fun _ h => h.elim)
      have h24 : V 24 = .bool true := HU.holds 24 (by decide)
      have h26 : V 26 = .string (strOf (Sh.sum [])) := HU.holds 26 (by decide)
      have tb45 : (Rg.putUse V [(24, 43), (26, 45), (28, 47)] fr).eval (.tmp 45) = .string (strOf (Sh.sum [])) := (Rg.use_eval V fr 45 [(24, 43), (26, 45), (28, 47)] (by simp only [hz]; decide)).trans h26
      have h28 : V 28 = .string (strOf (Sh.sum [])) := HU.holds 28 (by decide)
      have tb47 : (Rg.putUse V [(24, 43), (26, 45), (28, 47)] fr).eval (.tmp 47) = .string (strOf (Sh.sum [])) := (Rg.use_eval V fr 47 [(24, 43), (26, 45), (28, 47)] (by simp only [hz]; decide)).trans h28
      show Rg.Does1 _ _ V (Rg.putUse V [(24, 43), (26, 45), (28, 47)] fr) w2 _
      exact Ob.rc_mv (.bool true) (by simp only [execOp, tb45, tb47]; go_simp) rfl rfl h24
    · intro V S w2 HM HU HE
      have lw : Below w3.heap.size w3 w2 := Rc.Mod.below HM (fun _ h => h.elim)
      have h24 : V 24 = .bool true := HU.holds 24 (by decide)
      have tb43 : (Rg.putUse V [(24, 43), (29, 48)] fr).eval (.tmp 43) = .bool true := (Rg.use_eval V fr 43 [(24, 43), (29, 48)] (by simp only [hz]; decide)).trans h24
      have h29 : V 29 = .bool true := HU.holds 29 (by decide)
      have tb48 : (Rg.putUse V [(24, 43), (29, 48)] fr).eval (.tmp 48) = .bool true := (Rg.use_eval V fr 48 [(24, 43), (29, 48)] (by simp only [hz]; decide)).trans h29
      show Rg.Does1 _ _ V (Rg.putUse V [(24, 43), (29, 48)] fr) w2 _
      exact Ob.rc_mv (.bool true) (by simp only [execOp, tb43, tb48]; go_simp) rfl rfl True.intro
    · intro V S w2 HM HU HE
      have lw : Below w3.heap.size w3 w2 := Rc.Mod.below HM (fun _ h => h.elim)
      have h30 : V 30 = .bool true := HU.holds 30 (by decide)
      have tb49 : (Rg.putUse V [(30, 49)] fr).eval (.tmp 49) = .bool true := (Rg.use_eval V fr 49 [(30, 49)] (by simp only [hz]; decide)).trans h30
      show Rg.Does1 _ _ V (Rg.putUse V [(30, 49)] fr) w2 _
      exact Ob.rc_mv (.bool true) (by simp only [execOp, tb49]; go_simp) rfl rfl True.intro
  · intro V S w2 HI
    have HL2 : Hid (Below w3.heap.size w3 w2) := Rc.Mod.below HI.mod.undrew (fun _ h => h.elim)
    have hw31 : V 31 = .bool true := HI.get 31 (by decide) (by rfl)
    simp only [Rg.putList, Act.put, List.setIfInBounds_toArray, List.set_cons_zero, List.set_cons_succ, Nat.zero_add, Nat.reduceAdd]
    rw [hw31]
    clear HI hw31
    go_wp2_with fail
    go_ret
    exact ⟨rfl, HB.out.trans (HL2.out.mono HB.out.size)⟩
end Go.Proofs.YtjeclmbableacaaDoor

/-
  OWN WORK. The law MerkleTells, walked.
-/
import Derived.Test.YtjeclmbableacaaDoorMkKnown
import Derived.Test.YtjeclmbableacaaDoorMkCheckR
import Derived.Test.YtjeclmbableacaaDoorMkPathR
import Derived.Test.YtjeclmbableacaaDoorMkLists
import Derived.Test.YtjeclmbableacaaDoorBaWithin
namespace Go.Proofs.YtjeclmbableacaaDoor
open Go.RowKit Rc

/-- What is known behind a turn of the first list; q1 q2, h1 h2: between what blocks the lists were made; b: where all that is new begins. -/
structure TSt (w5 w10 : World) (q1 q2 h1 : Nat) (SH : Nat → Prop) (QA HA : Option Addr) (qc hc : Nat) (X1 X5 : Option Addr) (r s : List UInt8) (Q H : List (List UInt8)) (wx : World) : Prop where
  q : LOwn q1 noOld (.slice QA Q.length qc) Q (fun b => ((q1 ≤ b ∧ b < q2) ∨ w10.heap.size ≤ b) ∧ b < wx.heap.size) wx
  h : LOwn h1 noOld (.slice HA H.length hc) H SH wx
  low : Below w5.heap.size w5 wx
  big : w10.heap.size ≤ wx.heap.size
  r : Rd wx X1 r
  s : Rd wx X5 s
  q32 : ∀ y, y ∈ Q → y.length = 32
  h32 : ∀ y, y ∈ H → y.length = 32
theorem end_get {l : List Oper} {V : Nat → Value} {a0 : Act} (hd : Rg.distinct l.toArray = true) (i d : Nat) (ho : (l.toArray[i]?).bind (·.dst) = some d) (hi : i < l.length) (hlt : d < a0.tmps.size) : (Rg.putList l 0 V a0).tmps.getD d undef = V i := by
  obtain ⟨o, ho1, ho2⟩ := Option.bind_eq_some_iff.1 ho
  have h := (Rg.Frm.putList (V := V) (a0 := a0) hd l 0 a0 (fun k _ => by simp) ((Rg.Frm.refl l.toArray V a0).congr (fun i => by simp) fun _ _ => rfl)).put i o d ho1 ho2 (by omega)
  rw [if_pos hlt] at h
  rw [Array.getD_eq_getD_getElem?, h]
  rfl
theorem end_defers {l : List Oper} {V : Nat → Value} {a0 : Act} (hd : Rg.distinct l.toArray = true) : (Rg.putList l 0 V a0).defers = a0.defers :=
  (Rg.Frm.putList (V := V) (a0 := a0) hd l 0 a0 (fun k _ => by simp) ((Rg.Frm.refl l.toArray V a0).congr (fun i => by simp) fun _ _ => rfl)).defers
theorem set_all {L : List (List UInt8)} {n k : Nat} {y : List UInt8} (h : ∀ z, z ∈ L → z.length = n) (hy : y.length = n) : ∀ z, z ∈ L.set k y → z.length = n := fun z hz => by
  rcases List.mem_or_eq_of_mem_set hz with h1 | h1
  · exact h z h1
  · rw [h1]; exact hy
/-- A row out of the lists, as it is read. -/
theorem LOwn.row {B g c : Nat} {L : List (List UInt8)} {S : Nat → Prop} {w : World} (h : LOwn B noOld (.slice (some ⟨g, 0, none⟩) L.length c) L S w) (hS : ∀ b, S b → b < w.heap.size) (k : Nat) (hk : k < L.length) :
    ∃ y YA yc, L[k]? = some y ∧ w.cell? ⟨g, k, none⟩ = some (.slice YA y.length yc) ∧ y.length ≤ yc ∧ Rd w YA y ∧ g < w.heap.size ∧ w.frozen? ⟨g, k, none⟩ = false ∧ S g := by
  obtain ⟨A, c', e, _, hr, _⟩ := h.rd (fun _ _ h => h.elim)
  injection e with e1
  obtain ⟨b, off, y, YA, yc, e2, hy, hcell, hyc, hyr⟩ := hr.at_ k hk
  rw [← e1] at e2
  injection e2 with e2
  injection e2 with e2 e3
  subst e2 e3
  rw [Nat.zero_add] at hcell
  obtain ⟨g', cap', cur, e4, _, hSg, hblk⟩ := h.blk (by omega)
  injection e4 with e4
  injection e4 with e4
  injection e4 with e4
  subst e4
  exact ⟨y, YA, yc, hy, hcell, hyc, hyr, hS g hSg, hblk.frozen k, hSg⟩
set_option maxHeartbeats 16000000 in
set_option maxRecDepth 200000 in
theorem tells_any (w : World) (L0 : List (List UInt8)) (A0 : Option Addr) (c0 : Nat) (i m : Int) (lf : List UInt8) (A3 : Option Addr) (c3 : Nat) (n tn at_ : Int) (hr0 : RdL w A0 L0) (hl0 : ∀ y, y ∈ L0 → y.length ≤ 9223372036854775807) (hn0 : L0.length ≤ 9223372036854775807) (hk0 : KP w) (hi : -9223372036854775808 ≤ i ∧ i ≤ 9223372036854775807) (hm : -9223372036854775808 ≤ m ∧ m ≤ 9223372036854775807) (hr3 : Rd w A3 lf) (hc3 : lf.length ≤ c3) (hb3 : lf.length ≤ 9223372036854775807) (hn : -9223372036854775808 ≤ n ∧ n ≤ 9223372036854775807) (htn : 0 ≤ tn ∧ tn ≤ 255) (hat_ : -9223372036854775808 ≤ at_ ∧ at_ ≤ 9223372036854775807) :
    Calls Tryd.prog 4 #[.slice A0 L0.length c0, .int .i64 i, .int .i64 m, .slice A3 lf.length c3, .int .i64 n, .int .u8 tn, .int .i64 at_] w fun e w' => e = .returned (.bool true) ∧ Below w.heap.size w w' := by
  have HK0 := Lib.hid hk0
  have HR0 := Lib.hid hr0
  have HL0 := Lib.hid hl0
  have HN0 := Lib.hid hn0
  have HR3 := Lib.hid hr3
  have HI := Lib.hid hi
  have HM := Lib.hid hm
  have HN := Lib.hid hn
  have HT := Lib.hid htn
  have HAT := Lib.hid hat_
  clear hk0 hr0 hl0 hn0 hr3 hi hm hn htn hat_
  obtain ⟨tb, rfl⟩ : ∃ tb : Nat, tn = tb := ⟨tn.toNat, by have := HT.out; omega⟩
  have htb : tb < 256 := by have := HT.out; omega
  clear HT
  go_enter Tryd.func4, Tryd.ntmps4
  go_wp2_with fail
  refine (few_any w L0 A0 c0 HR0.out HL0.out HN0.out).mono ?_
  rintro e w1 ⟨v, R, rfl, hf, h40, hrow, hb⟩
  obtain ⟨A, c, rfl, hc, hrd⟩ := hf.form hb
  have HR1 := Lib.hid hrd
  have HB1 := Lib.hid hb
  have HROW := Lib.hid hrow
  have HS : Hid (Small R) := ⟨by omega, fun y hy => by have := hrow y hy; omega⟩
  have HK1 : Hid (KP w1) := HK0.out.later HB1.out
  have HLF : Hid (Rd w1 A3 lf) := HR3.out.below HB1.out
  clear hf hrd hb hrow HR0 HL0 HN0 HR3
  go_wp2_with fail
  refine (cut_all A3 lf c3 40 w1 hc3 (by omega) hb3).mono ?_
  rintro e w2 ⟨x, rfl, rfl, hx1, hx2, hx3⟩
  have HX1 : Hid (Rd w1 A3 x) := hx3.out w1 HLF.out
  clear hx3 HLF hc3 hb3
  go_upto_region 3 with (fail)
  refine Rc.wp_region (by kernel_rfl) (fun opn => List.getD [Rc.val (.slice A R.length c), Ob.frow (Mk.root Sh.sum R), Rc.val (.string (strOf (Mk.root Sh.sum R))), Rc.val (.slice A R.length c), Ob.frow (Mk.root Sh.sum R), Rc.val (.string (strOf (Mk.root Sh.sum R))), Rc.val (.bool false)] opn Rc.any) 0 [] [[], [(0, 30)], [(1, 31)], [], [(3, 33)], [(4, 34)], [(2, 32), (5, 35)]] [[], [0], [1], [], [3], [4], [2, 5]] [[], [0], [1], [], [3], [4], [2, 5]] [] (by kernel_rfl) (by rfl) (by kernel_rfl) (fun _ => False) (fun _ _ => False) Rc.Inv.none ?_ ?_
  · as_aux_lemma =>
      intro fr ha
      have hz : fr.tmps.size = 302 := by rw [ha]; rfl
      have y15 : fr.eval (.tmp 15) = .slice A R.length c := by rw [ha]; rfl
      clear ha
      refine .cons ?_ (.cons ?_ (.cons ?_ (.cons ?_ (.cons ?_ (.cons ?_ (.cons ?_ (.nil)))))))
      · intro V S w2 HM HU HE
        have lw : Below w1.heap.size w1 w2 := Rc.Mod.below HM (fun _ h => h.elim)
        have tb15 : (Rg.putUse V [] fr).eval (.tmp 15) = .slice A R.length c := (Rg.use_eval V fr 15 [] (by simp only [hz]; decide)).trans y15
        show Rg.Does1 _ _ V (Rg.putUse V [] fr) w2 _
        exact Ob.rc_mv (.slice A R.length c) (by simp only [execOp, tb15]; go_simp) rfl rfl True.intro
      · intro V S w2 HM HU HE
        have lw : Below w1.heap.size w1 w2 := Rc.Mod.below HM (fun _ h => h.elim)
        have h0 : V 0 = .slice A R.length c := HU.holds 0 (by decide)
        have tb30 : (Rg.putUse V [(0, 30)] fr).eval (.tmp 30) = .slice A R.length c := (Rg.use_eval V fr 30 [(0, 30)] (by simp only [hz]; decide)).trans h0
        show Rg.Does1 _ _ V (Rg.putUse V [(0, 30)] fr) w2 _
        exact step_hcall (Mk.root Sh.sum R) #[.slice A R.length c] (fun args w => Rg.call_enter Tryd.func9 (by kernel_rfl) (by kernel_rfl) args w) rfl (by simp only [List.map_toArray, List.map_cons, List.map_nil, tb30]) rfl (fun x => Rg.alias_none rfl V x) True.intro (pRoot _ w2 R A c rfl (HR1.out.below lw) hc HS.out (HK1.out.later lw))
      · intro V S w2 HM HU HE
        have lw : Below w1.heap.size w1 w2 := Rc.Mod.below HM (fun _ h => h.elim)
        obtain ⟨X1, k1, e1, hc1, hr1, hX1⟩ := HU.holds 1 (by decide)
        have tb31 : (Rg.putUse V [(1, 31)] fr).eval (.tmp 31) = .slice X1 (Mk.root Sh.sum R).length k1 := (Rg.use_eval V fr 31 [(1, 31)] (by simp only [hz]; decide)).trans e1
        show Rg.Does1 _ _ V (Rg.putUse V [(1, 31)] fr) w2 _
        exact Ob.rc_str (Mk.root Sh.sum R) rfl tb31 (by first | rfl | simp) hr1 rfl rfl True.intro
      · intro V S w2 HM HU HE
        have lw : Below w1.heap.size w1 w2 := Rc.Mod.below HM (fun _ h => h.elim)
        have tb15 : (Rg.putUse V [] fr).eval (.tmp 15) = .slice A R.length c := (Rg.use_eval V fr 15 [] (by simp only [hz]; decide)).trans y15
        show Rg.Does1 _ _ V (Rg.putUse V [] fr) w2 _
        exact Ob.rc_mv (.slice A R.length c) (by simp only [execOp, tb15]; go_simp) rfl rfl True.intro
      · intro V S w2 HM HU HE
        have lw : Below w1.heap.size w1 w2 := Rc.Mod.below HM (fun _ h => h.elim)
        have h3 : V 3 = .slice A R.length c := HU.holds 3 (by decide)
        have tb33 : (Rg.putUse V [(3, 33)] fr).eval (.tmp 33) = .slice A R.length c := (Rg.use_eval V fr 33 [(3, 33)] (by simp only [hz]; decide)).trans h3
        show Rg.Does1 _ _ V (Rg.putUse V [(3, 33)] fr) w2 _
        exact step_hcall (Mk.root Sh.sum R) #[.slice A R.length c] (fun args w => Rg.call_enter Tryd.func10 (by kernel_rfl) (by kernel_rfl) args w) rfl (by simp only [List.map_toArray, List.map_cons, List.map_nil, tb33]) rfl (fun x => Rg.alias_none rfl V x) True.intro (rRoot _ w2 R A c rfl (HR1.out.below lw) hc HS.out trivial)
      · intro V S w2 HM HU HE
        have lw : Below w1.heap.size w1 w2 := Rc.Mod.below HM (fun _ h => h.elim)
        obtain ⟨X4, k4, e4, hc4, hr4, hX4⟩ := HU.holds 4 (by decide)
        have tb34 : (Rg.putUse V [(4, 34)] fr).eval (.tmp 34) = .slice X4 (Mk.root Sh.sum R).length k4 := (Rg.use_eval V fr 34 [(4, 34)] (by simp only [hz]; decide)).trans e4
        show Rg.Does1 _ _ V (Rg.putUse V [(4, 34)] fr) w2 _
        exact Ob.rc_str (Mk.root Sh.sum R) rfl tb34 (by first | rfl | simp) hr4 rfl rfl True.intro
      · intro V S w2 HM HU HE
        have lw : Below w1.heap.size w1 w2 := Rc.Mod.below HM (fun _ h => h.elim)
        have h2 : V 2 = .string (strOf (Mk.root Sh.sum R)) := HU.holds 2 (by decide)
        have tb32 : (Rg.putUse V [(2, 32), (5, 35)] fr).eval (.tmp 32) = .string (strOf (Mk.root Sh.sum R)) := (Rg.use_eval V fr 32 [(2, 32), (5, 35)] (by simp only [hz]; decide)).trans h2
        have h5 : V 5 = .string (strOf (Mk.root Sh.sum R)) := HU.holds 5 (by decide)
        have tb35 : (Rg.putUse V [(2, 32), (5, 35)] fr).eval (.tmp 35) = .string (strOf (Mk.root Sh.sum R)) := (Rg.use_eval V fr 35 [(2, 32), (5, 35)] (by simp only [hz]; decide)).trans h5
        show Rg.Does1 _ _ V (Rg.putUse V [(2, 32), (5, 35)] fr) w2 _
        exact Ob.rc_mv (.bool false) (by simp only [execOp, tb32, tb35]; go_simp) rfl rfl True.intro
  · intro V S w2 HI
    have HL2 : Hid (Below w1.heap.size w1 w2) := Rc.Mod.below HI.mod.undrew (fun _ h => h.elim)
    have hw6 : V 6 = .bool false := HI.get 6 (by decide) (by rfl)
    simp only [Rg.putList, Act.put, List.setIfInBounds_toArray, List.set_cons_zero, List.set_cons_succ, Nat.zero_add, Nat.reduceAdd]
    rw [hw6]
    clear HI hw6
    obtain ⟨w3, hw3⟩ : ∃ x, x = w2 := ⟨_, rfl⟩
    rw [← hw3] at HL2
    rw [← hw3]
    clear hw3
    have HR3 : Hid (RdL w3 A R) := HR1.out.below HL2.out
    have HB3 : Hid (Below w.heap.size w w3) := HB1.out.trans (HL2.out.mono HB1.out.size)
    have HK3 : Hid (KP w3) := HK1.out.later HL2.out
    have HX3 : Hid (Rd w3 A3 x) := HX1.out.below HL2.out
    clear HL2
    clear HR1 HB1 HK1 HX1
    by_cases h0 : R.length = 0
    · rw [h0]
      clear h0 h40 hc
      go_wp2_with fail
      refine (known_any _ HK3.out).mono ?_
      rintro e wk ⟨rfl, hb⟩
      have HBK : Hid (Below w.heap.size w wk) := HB3.out.trans (hb.mono HB3.out.size)
      clear hb
      go_wp2_with fail
      go_ret
      exact ⟨rfl, HBK.out⟩
    · skip
      go_wp2_with fail
      refine (within_to i _ (R.length - 1) w3 (by omega) (by omega) HI.out.1 HI.out.2).mono ?_
      rintro e w2 ⟨k, hk, rfl, rfl⟩
      have hk2 : k < R.length := by omega
      clear hk
      go_wp2_with fail
      refine (within_nat m _ _ 1 R.length w3 rfl rfl (by omega) (by omega) HM.out.1 HM.out.2).mono ?_
      rintro e w2 ⟨q, hq1, hq2, rfl, rfl⟩
      go_wp2_with fail
      refine (pPath_in w3 R A c k HR3.out hc HS.out HK3.out hk2).mono ?_
      rintro e w4 ⟨x4, rfl, hx, hb⟩
      obtain ⟨PA, pc, rfl, hpc, hpr⟩ := hx.form
      have HR4 : Hid (RdL w4 A R) := HR3.out.below hb
      have HB4 : Hid (Below w.heap.size w w4) := HB3.out.trans (hb.mono HB3.out.size)
      have HK4 : Hid (KP w4) := HK3.out.later hb
      have HX4 : Hid (Rd w4 A3 x) := HX3.out.below hb
      obtain ⟨P, hP⟩ : ∃ P, P = Mk.path Sh.sum R k := ⟨_, rfl⟩
      rw [← hP] at hpr hpc
      rw [← hP]
      have HP4 := Lib.hid hpr
      have hpl : P.length ≤ 6 := by rw [hP]; exact Mk.path_length Sh.sum 6 R k (by omega)
      have HP32 : Hid (∀ y, y ∈ P → y.length = 32) := fun y hy => path_mem R k y (hP ▸ hy)
      have HPE := Lib.hid hP
      clear hx hb hpr hP
      clear HR3 HB3 HK3 HX3
      go_wp2_with fail
      refine (pGrown w4 R A c q HR4.out hc HS.out HK4.out hq1 hq2).mono ?_
      rintro e w5 ⟨x4, rfl, hx, hb⟩
      obtain ⟨GA, gc, rfl, hgc, hgr⟩ := hx.form
      have HR5 : Hid (RdL w5 A R) := HR4.out.below hb
      have HB5 : Hid (Below w.heap.size w w5) := HB4.out.trans (hb.mono HB4.out.size)
      have HK5 : Hid (KP w5) := HK4.out.later hb
      have HX5 : Hid (Rd w5 A3 x) := HX4.out.below hb
      have HP5 : Hid (RdL w5 PA P) := HP4.out.below hb
      obtain ⟨G, hG⟩ : ∃ G, G = Mk.sub Sh.sum R q true := ⟨_, rfl⟩
      rw [← hG] at hgr hgc
      rw [← hG]
      have HG5 := Lib.hid hgr
      have hgl : G.length ≤ 7 := by rw [hG]; exact Mk.sub_length Sh.sum 6 R q true (by omega)
      have HG32 : Hid (∀ y, y ∈ G → y.length = 32) := fun y hy => sub_mem R q true y (hG ▸ hy)
      have HGE := Lib.hid hG
      clear hx hb hgr hG HP4
      clear HR4 HB4 HK4 HX4
      go_wp2_with fail
      refine (rPath _ w5 R A c k rfl HR5.out hc HS.out (by omega)).mono ?_
      rintro e w6 ⟨x4, rfl, hx, hb⟩
      obtain ⟨QA, qc, rfl, hqc, _⟩ := hx.form
      rw [← HPE.out] at hx hqc
      rw [← HPE.out]
      have HR6 : Hid (RdL w6 A R) := HR5.out.below hb
      have HB6 : Hid (Below w.heap.size w w6) := HB5.out.trans (hb.mono HB5.out.size)
      have HK6 : Hid (KP w6) := HK5.out.later hb
      have HX6 : Hid (Rd w6 A3 x) := HX5.out.below hb
      have HP6 : Hid (RdL w6 PA P) := HP5.out.below hb
      have HG6 : Hid (RdL w6 GA G) := HG5.out.below hb
      have HW6 : Hid (Below w5.heap.size w5 w6) := hb
      have HQ6 : Hid (LOwn w5.heap.size noOld (.slice QA P.length qc) P (fun b => w5.heap.size ≤ b ∧ b < w6.heap.size) w6) := hx
      clear hx hb HP5 HG5
      go_wp2_with fail
      refine (rGrown w6 R A c q HR6.out hc HS.out hq1 hq2).mono ?_
      rintro e w7 ⟨x4, rfl, hx, hb⟩
      obtain ⟨HA, hc7, rfl, hhc, _⟩ := hx.form
      rw [← HGE.out] at hx hhc
      rw [← HGE.out]
      have HR7 : Hid (RdL w7 A R) := HR6.out.below hb
      have HB7 : Hid (Below w.heap.size w w7) := HB6.out.trans (hb.mono HB6.out.size)
      have HK7 : Hid (KP w7) := HK6.out.later hb
      have HX7 : Hid (Rd w7 A3 x) := HX6.out.below hb
      have HP7 : Hid (RdL w7 PA P) := HP6.out.below hb
      have HG7 : Hid (RdL w7 GA G) := HG6.out.below hb
      have HW6S : Hid (w5.heap.size ≤ w6.heap.size) := HW6.out.size
      have HW67 : Hid (Below w6.heap.size w6 w7) := hb
      have HW7 : Hid (Below w5.heap.size w5 w7) := HW6.out.trans (hb.mono HW6.out.size)
      have HQ7 : Hid (LOwn w5.heap.size noOld (.slice QA P.length qc) P (fun b => w5.heap.size ≤ b ∧ b < w6.heap.size) w7) := LOwn.keep HQ6.out hb.size fun b h => hb.block b h.2
      have HH7 : Hid (LOwn w6.heap.size noOld (.slice HA G.length hc7) G (fun b => w6.heap.size ≤ b ∧ b < w7.heap.size) w7) := hx
      clear hx hb HP6 HG6 HQ6 HW6
      clear HR6 HB6 HK6 HX6
      go_wp2_with fail
      refine (lists_same w7 P PA QA pc qc HP7.out (by obtain ⟨_, _, e, _, h, _⟩ := HQ7.out.rd (fun _ _ h => h.elim); injection e with e1; rw [e1]; exact h) (by omega)).mono ?_
      rintro e w8 ⟨rfl, hb⟩
      have HW8 : Hid (Below w7.heap.size w7 w8) := hb
      have HG8 : Hid (RdL w8 GA G) := HG7.out.below hb
      clear hb HP7 HG7
      go_wp2_with fail
      refine (lists_same w8 G GA HA gc hc7 HG8.out (by obtain ⟨_, _, e, _, h, _⟩ := HH7.out.rd (fun _ _ h => h.elim); injection e with e1; rw [e1]; exact h.below HW8.out) (by omega)).mono ?_
      rintro e w9 ⟨rfl, hb⟩
      have HW9 : Hid (Below w7.heap.size w7 w9) := HW8.out.trans (hb.mono HW8.out.size)
      clear hb HW8 HG8
      have HR9 : Hid (RdL w9 A R) := HR7.out.below HW9.out
      have HB9 : Hid (Below w.heap.size w w9) := HB7.out.trans (HW9.out.mono HB7.out.size)
      have HK9 : Hid (KP w9) := HK7.out.later HW9.out
      have HX9 : Hid (Rd w9 A3 x) := HX7.out.below HW9.out
      clear HR7 HB7 HK7 HX7
      have S1 := fun W => rows_h W A R c q hq2 hc
      have hqcap : (R.take q).length ≤ c := by rw [List.length_take]; omega
      obtain ⟨T, hT⟩ : ∃ T, T = R.take q := ⟨_, rfl⟩
      have HT2 : Hid (∀ W, RdL W A R → RdL W A T) := fun W h => hT ▸ h.take q
      have HST : Hid (Small T) := hT ▸ HS.out.take q
      rw [← hT] at S1 hqcap
      clear hT
      go_wp2_with fail
      go_upto_region 14 with (fail)
      refine Rc.wp_region (by kernel_rfl) (fun opn => List.getD [Rc.val (.slice A R.length c), Ob.frow (Mk.root Sh.sum R), Rc.val (.slice A R.length c), Rc.val (.int .i64 ((q : Nat) : Int)), Rc.val (.slice A T.length c), Ob.frow (Mk.root Sh.sum T), Rc.any, Rc.any] opn Rc.any) 0 [(6, 1, fun v => v), (7, 5, fun v => v)] [[], [(0, 86)], [], [], [(2, 88), (3, 89)], [(4, 90)], [(1, 87)], [(5, 91)]] [[], [0], [], [], [2, 3], [4], [1], [5]] [[], [0], [], [], [2, 3], [4], [1], [5]] [] (by kernel_rfl) (by rfl) (by kernel_rfl) (fun _ => False) (fun _ _ => False) Rc.Inv.none ?_ ?_
      · as_aux_lemma =>
          intro fr ha
          have hz : fr.tmps.size = 302 := by rw [ha]; rfl
          have y2 : fr.eval (.tmp 2) = .int .i64 ((q : Nat) : Int) := by rw [ha]; rfl
          have y15 : fr.eval (.tmp 15) = .slice A R.length c := by rw [ha]; rfl
          clear ha
          refine .cons ?_ (.cons ?_ (.cons ?_ (.cons ?_ (.cons ?_ (.cons ?_ (.cons ?_ (.cons ?_ (.nil))))))))
          · intro V S w2 HM HU HE
            have lw : Below w9.heap.size w9 w2 := Rc.Mod.below HM (fun _ h => h.elim)
            have tb15 : (Rg.putUse V [] fr).eval (.tmp 15) = .slice A R.length c := (Rg.use_eval V fr 15 [] (by simp only [hz]; decide)).trans y15
            show Rg.Does1 _ _ V (Rg.putUse V [] fr) w2 _
            exact Ob.rc_mv (.slice A R.length c) (by simp only [execOp, tb15]; go_simp) rfl rfl True.intro
          · intro V S w2 HM HU HE
            have lw : Below w9.heap.size w9 w2 := Rc.Mod.below HM (fun _ h => h.elim)
            have h0 : V 0 = .slice A R.length c := HU.holds 0 (by decide)
            have tb86 : (Rg.putUse V [(0, 86)] fr).eval (.tmp 86) = .slice A R.length c := (Rg.use_eval V fr 86 [(0, 86)] (by simp only [hz]; decide)).trans h0
            show Rg.Does1 _ _ V (Rg.putUse V [(0, 86)] fr) w2 _
            exact step_hcall (Mk.root Sh.sum R) #[.slice A R.length c] (fun args w => Rg.call_enter Tryd.func10 (by kernel_rfl) (by kernel_rfl) args w) rfl (by simp only [List.map_toArray, List.map_cons, List.map_nil, tb86]) rfl (fun x => Rg.alias_none rfl V x) True.intro (rRoot _ w2 R A c rfl (HR9.out.below lw) hc HS.out trivial)
          · intro V S w2 HM HU HE
            have lw : Below w9.heap.size w9 w2 := Rc.Mod.below HM (fun _ h => h.elim)
            have tb15 : (Rg.putUse V [] fr).eval (.tmp 15) = .slice A R.length c := (Rg.use_eval V fr 15 [] (by simp only [hz]; decide)).trans y15
            show Rg.Does1 _ _ V (Rg.putUse V [] fr) w2 _
            exact Ob.rc_mv (.slice A R.length c) (by simp only [execOp, tb15]; go_simp) rfl rfl True.intro
          · intro V S w2 HM HU HE
            have lw : Below w9.heap.size w9 w2 := Rc.Mod.below HM (fun _ h => h.elim)
            have tb2 : (Rg.putUse V [] fr).eval (.tmp 2) = .int .i64 ((q : Nat) : Int) := (Rg.use_eval V fr 2 [] (by simp only [hz]; decide)).trans y2
            show Rg.Does1 _ _ V (Rg.putUse V [] fr) w2 _
            exact Ob.rc_mv (.int .i64 ((q : Nat) : Int)) (by simp only [execOp, tb2]; go_simp) rfl rfl True.intro
          · intro V S w2 HM HU HE
            have lw : Below w9.heap.size w9 w2 := Rc.Mod.below HM (fun _ h => h.elim)
            have h2 : V 2 = .slice A R.length c := HU.holds 2 (by decide)
            have tb88 : (Rg.putUse V [(2, 88), (3, 89)] fr).eval (.tmp 88) = .slice A R.length c := (Rg.use_eval V fr 88 [(2, 88), (3, 89)] (by simp only [hz]; decide)).trans h2
            have h3 : V 3 = .int .i64 ((q : Nat) : Int) := HU.holds 3 (by decide)
            have tb89 : (Rg.putUse V [(2, 88), (3, 89)] fr).eval (.tmp 89) = .int .i64 ((q : Nat) : Int) := (Rg.use_eval V fr 89 [(2, 88), (3, 89)] (by simp only [hz]; decide)).trans h3
            show Rg.Does1 _ _ V (Rg.putUse V [(2, 88), (3, 89)] fr) w2 _
            exact Ob.rc_slh rfl tb88 tb89 (S1 w2) rfl rfl True.intro
          · intro V S w2 HM HU HE
            have lw : Below w9.heap.size w9 w2 := Rc.Mod.below HM (fun _ h => h.elim)
            have h4 : V 4 = .slice A T.length c := HU.holds 4 (by decide)
            have tb90 : (Rg.putUse V [(4, 90)] fr).eval (.tmp 90) = .slice A T.length c := (Rg.use_eval V fr 90 [(4, 90)] (by simp only [hz]; decide)).trans h4
            show Rg.Does1 _ _ V (Rg.putUse V [(4, 90)] fr) w2 _
            exact step_hcall (Mk.root Sh.sum T) #[.slice A T.length c] (fun args w => Rg.call_enter Tryd.func10 (by kernel_rfl) (by kernel_rfl) args w) rfl (by simp only [List.map_toArray, List.map_cons, List.map_nil, tb90]) rfl (fun x => Rg.alias_none rfl V x) True.intro (rRoot _ w2 T A c rfl (HT2.out w2 (HR9.out.below lw)) hqcap HST.out trivial)
          · intro V S w2 HM HU HE
            have lw : Below w9.heap.size w9 w2 := Rc.Mod.below HM (fun _ h => h.elim)
            obtain ⟨X1, k1, e1, hc1, hr1, hX1⟩ := HU.holds 1 (by decide)
            have tb87 : (Rg.putUse V [(1, 87)] fr).eval (.tmp 87) = .slice X1 (Mk.root Sh.sum R).length k1 := (Rg.use_eval V fr 87 [(1, 87)] (by simp only [hz]; decide)).trans e1
            show Rg.Does1 _ _ V (Rg.putUse V [(1, 87)] fr) w2 _
            exact Rc.step_val _ (Rg.alias_one rfl V) True.intro (by simp only [execOp, tb87, ← e1]; go_simp) True.intro
          · intro V S w2 HM HU HE
            have lw : Below w9.heap.size w9 w2 := Rc.Mod.below HM (fun _ h => h.elim)
            obtain ⟨X5, k5, e5, hc5, hr5, hX5⟩ := HU.holds 5 (by decide)
            have tb91 : (Rg.putUse V [(5, 91)] fr).eval (.tmp 91) = .slice X5 (Mk.root Sh.sum T).length k5 := (Rg.use_eval V fr 91 [(5, 91)] (by simp only [hz]; decide)).trans e5
            show Rg.Does1 _ _ V (Rg.putUse V [(5, 91)] fr) w2 _
            exact Rc.step_val _ (Rg.alias_one rfl V) True.intro (by simp only [execOp, tb91, ← e5]; go_simp) True.intro
      · intro V S w2 HI
        have HL2 : Hid (Below w9.heap.size w9 w2) := Rc.Mod.below HI.mod.undrew (fun _ h => h.elim)
        have ha6 : V 6 = V 1 := HI.same 6 1 (fun v => v) (by decide) (by simp)
        obtain ⟨X1, k1, hw1, hc1, hr1, hX1⟩ := HI.get 1 (by decide) (by rfl)
        have HN1 : Hid (HNew (Mk.root Sh.sum R) w9 (.slice X1 (Mk.root Sh.sum R).length k1) w2) := ⟨X1, k1, rfl, hc1, hr1, fun b hb => new_in HI 1 (by decide) (by rfl) (hX1 b hb)⟩
        clear hc1 hr1 hX1
        have ha7 : V 7 = V 5 := HI.same 7 5 (fun v => v) (by decide) (by simp)
        obtain ⟨X5, k5, hw5, hc5, hr5, hX5⟩ := HI.get 5 (by decide) (by rfl)
        have HN5 : Hid (HNew (Mk.root Sh.sum T) w9 (.slice X5 (Mk.root Sh.sum T).length k5) w2) := ⟨X5, k5, rfl, hc5, hr5, fun b hb => new_in HI 5 (by decide) (by rfl) (hX5 b hb)⟩
        clear hc5 hr5 hX5
        simp only [Rg.putList, Act.put, List.setIfInBounds_toArray, List.set_cons_zero, List.set_cons_succ, Nat.zero_add, Nat.reduceAdd]
        rw [ha6, hw1, ha7, hw5]
        clear HI ha6 hw1 ha7 hw5
        obtain ⟨w10, hw10⟩ : ∃ x, x = w2 := ⟨_, rfl⟩
        rw [← hw10] at HL2 HN1 HN5
        rw [← hw10]
        clear hw10
        obtain ⟨r, hr⟩ : ∃ r, r = Mk.root Sh.sum R := ⟨_, rfl⟩
        obtain ⟨s, hs⟩ : ∃ s, s = Mk.root Sh.sum T := ⟨_, rfl⟩
        have hrl : Hid (r.length = 32) := by show _ = _; rw [hr]; exact root_length _
        have hsl : Hid (s.length = 32) := by show _ = _; rw [hs]; exact root_length _
        rw [← hr] at HN1
        rw [← hs] at HN5
        rw [← hr, ← hs]
        have hk1 : r.length ≤ k1 := by obtain ⟨_, _, e, h, _⟩ := HN1.out; injection e with _ _ e3; omega
        have hk5 : s.length ≤ k5 := by obtain ⟨_, _, e, h, _⟩ := HN5.out; injection e with _ _ e3; omega
        have HF1 : Hid (∀ b, X1.map (·.block) = some b → w9.heap.size ≤ b) := by obtain ⟨_, _, e, _, _, h⟩ := HN1.out; injection e with e1; rw [e1]; exact fun b hb => (h b hb).1
        have HF5 : Hid (∀ b, X5.map (·.block) = some b → w9.heap.size ≤ b) := by obtain ⟨_, _, e, _, _, h⟩ := HN5.out; injection e with e1; rw [e1]; exact fun b hb => (h b hb).1
        have HQS : Hid (w5.heap.size ≤ w6.heap.size ∧ w6.heap.size ≤ w7.heap.size ∧ w7.heap.size ≤ w9.heap.size ∧ w9.heap.size ≤ w10.heap.size) := ⟨HW6S.out, HW67.out.size, HW9.out.size, HL2.out.size⟩
        have HQ10 : Hid (LOwn w5.heap.size noOld (.slice QA P.length qc) P (fun b => w5.heap.size ≤ b ∧ b < w6.heap.size) w10) := LOwn.keep (LOwn.keep HQ7.out HW9.out.size fun b h => HW9.out.block b (Nat.lt_of_lt_of_le h.2 HW67.out.size)) HL2.out.size fun b h => HL2.out.block b (by have := HQS.out; omega)
        have HH10 : Hid (LOwn w6.heap.size noOld (.slice HA G.length hc7) G (fun b => w6.heap.size ≤ b ∧ b < w7.heap.size) w10) := LOwn.keep (LOwn.keep HH7.out HW9.out.size fun b h => HW9.out.block b h.2) HL2.out.size fun b h => HL2.out.block b (by have := HQS.out; omega)
        have HLOW : Hid (Below w5.heap.size w5 w10) := by have h := HW7.out.trans (HW9.out.mono HW7.out.size); exact h.trans (HL2.out.mono h.size)
        have HR1 : Hid (Rd w10 X1 r) := by obtain ⟨_, _, e, _, h, _⟩ := HN1.out; injection e with e1; rw [e1]; exact h
        have HR5s : Hid (Rd w10 X5 s) := by obtain ⟨_, _, e, _, h, _⟩ := HN5.out; injection e with e1; rw [e1]; exact h
        clear HN1 HN5 HL2 HQ7 HH7 HW67 HW7 HW9 hr hs HR9 HB9 HK9 HX9 S1 HT2 HST hqcap HPE HGE HW6S
        have HSLT : Hid (∀ b, w5.heap.size ≤ b ∧ b < w6.heap.size → b < w10.heap.size) := fun b hb => by have := HQS.out; omega
        go_upto_if 94 with (fail)
        go_cut [24] (fun t24 wx => ∃ (Q : List (List UInt8)) (WX : World), WX = wx ∧ Hid (Q.length = P.length) ∧ Hid (TSt w5 w10 w5.heap.size w6.heap.size w6.heap.size (fun b => w6.heap.size ≤ b ∧ b < w7.heap.size) QA HA qc hc7 X1 X5 r s Q G wx))
        case first =>
          as_aux_lemma =>
            by_cases hpos : 0 < P.length
            · skip
              have hp1 : 0 < P.length := hpos
              obtain ⟨g, cap', cur', e0, -, hS0, -⟩ := HQ10.out.blk hp1
              injection e0 with e0 _ e0c
              subst e0 e0c
              clear cur'
              have HS0 := Lib.hid hS0
              clear hS0
              go_wp2_with fail
              refine (within_to at_ _ (P.length - 1) w10 (by omega) (by omega) HAT.out.1 HAT.out.2).mono ?_
              rintro e w2 ⟨kk, hkk, rfl, rfl⟩
              have hkl : kk < P.length := by omega
              clear hkk
              obtain ⟨y, YA, yc, hy, hcell, hyc, hyr, hgw, hfz, _⟩ := HQ10.out.row HSLT.out kk hkl
              have hy32 : y.length = 32 := HP32.out y (List.mem_of_getElem? hy)
              have HGW := Lib.hid hgw
              have HYR : Hid (Rd (w10.alloc (.cells #[] 5)) YA y) := hyr.below (below_new _ _)
              have hcA : (w10.alloc (.cells #[] 5)).cell? ⟨g, kk, none⟩ = some (.slice YA y.length yc) := ((below_new w10 (.cells #[] 5)).cell (p := ⟨g, kk, none⟩) hgw).trans hcell
              have HFZ := Lib.hid hfz
              have HCE := Lib.hid hcell
              have k0 : (0 : Int) ≤ (kk : Int) := by omega
              have k1 : (kk : Int) < (P.length : Int) := by omega
              obtain ⟨i0, hi, hz0, hz1, hz2⟩ := info_u8
              have HI0 := Lib.hid hi
              have HZ0 := Lib.hid hz0
              have HZ1 := Lib.hid hz1
              have HZ2 := Lib.hid hz2
              have HY32 := Lib.hid hy32
              have hy40 : y.length ≤ 40 := by omega
              clear hi hz0 hz1 hz2 hy hcell hyr hgw hfz hy32
              go_wp2_with (at_builtin; refine wpList_append_rd rfl (.tmp 102) (.tmp 106) 23 rfl w10.heap.size 5 i0 Tryd.underlying23 HI0.out HZ0.out HZ1.out HZ2.out _ 0 (Lib.byteCells []) rfl (own_none w10) YA y y.length yc rfl rfl HYR.out (by omega) (by rw [World.size_alloc]; omega) ?_; intro v1 wA HO1 HG1; obtain ⟨h, cc, rfl, HOW, HLA, hfA, hcellA⟩ := appended_new HO1.out HG1.out HY32.out HGW.out HFZ.out HCE.out; clear HO1 HG1 hcA HYR)
              obtain ⟨j, hj⟩ : ∃ j, j = within0 at_ 31 := ⟨_, rfl⟩
              have hj31 : j ≤ 31 := by rw [hj]; exact within0_le _ _
              have HWI : Hid (∀ W, Calls Tryd.prog 21 #[.int .i64 at_, .int .i64 0, .int .i64 31] W fun e w'' => e = .returned (.int .i64 (j : Nat)) ∧ w'' = W) := fun W => (within_any at_ 31 W (by omega) HAT.out.1 HAT.out.2).mono fun e w' h => ⟨by rw [hj]; exact h.1, h.2.symm⟩
              clear hj
              obtain ⟨yb, hyb⟩ : ∃ yb : Nat, yb = (y.getD j 0).toNat := ⟨_, rfl⟩
              have hyb2 : yb < 256 := by rw [hyb]; exact (y.getD j 0).toNat_lt
              have HTI := Lib.hid (turned_in (k := kk) (j := j) (u := y.getD j 0 ^^^ UInt8.ofNat tb) (X := ((yb ^^^ tb : Nat) : Int)) HQ10.out HS0.out HSLT.out (fun b hb => hb.1) hkl HLA.out HOW.out (by have := HY32.out; omega) (by rw [UInt8.toNat_xor, ← hyb, UInt8.toNat_ofNat', Nat.mod_eq_of_lt htb]) HLOW.out HLOW.out.size)
              have hne : h ≠ g := by have h2 := HOW.out.ownBlock_ge h rfl; have h3 := HGW.out; omega
              have O1 := own_far HOW.out ⟨g, kk, none⟩ (by intro e; injection e with e; exact hne e) (.slice (some ⟨h, 0, none⟩) y.length cc)
              clear hne
              have cB := own_byte O1 j (by have := HY32.out; omega)
              have fB := own_frozen O1 j
              have cA := World.cell?_setCell_same wA ⟨g, kk, none⟩ (.slice (some ⟨h, 0, none⟩) y.length cc) hcellA
              rw [← hyb] at cB
              have HYB := Lib.hid hyb
              obtain ⟨W1, hW1⟩ : ∃ W1, W1 = wA.setCell ⟨g, kk, none⟩ (.slice (some ⟨h, 0, none⟩) y.length cc) := ⟨_, rfl⟩
              rw [← hW1] at HTI cB fB cA
              rw [← hW1]
              clear hW1 O1 hyb hcellA hfA HOW HLA HCE HFZ
              have hx1 := Mk.bits_xor_u8 yb tb hyb2 htb
              have j0 : (0 : Int) ≤ (j : Int) := by omega
              have j1 : (j : Int) < (y.length : Int) := by have := HY32.out; omega
              clear hyb2
              go_upto_region 18 with (fail)
              go_still_tail 11, (by kernel_rfl)
              still_call (HWI.out _)
              repeat still_step
              refine wpStill_nil ?_
              change wpList _ _ _ _ _ W1.drew
              have cB2 : W1.drew.cell? ⟨h, j, none⟩ = some (.int .u8 (yb : Nat)) := cB
              have fB2 : W1.drew.frozen? ⟨h, j, none⟩ = false := fB
              clear cB fB cA hx1
              go_wp2_with fail
              go_meet
              case rel =>
                obtain ⟨q1, q2, q3⟩ := HTI.out
                have hq := HQS.out
                have hS0 := HS0.out
                have hbig := q3.size
                refine ⟨P.set kk (y.set j (y.getD j 0 ^^^ UInt8.ofNat tb)), _, rfl, List.length_set, ?_⟩
                refine ⟨?_, LOwn.keep HH10.out q3.size fun b hb => q3.block b (by omega) (fun e => by injection e with e; omega), q2, q3.size, HR1.out.keeps q3 (fun _ e => by have := HF1.out g e; omega), HR5s.out.keeps q3 (fun _ e => by have := HF5.out g e; omega), set_all HP32.out (by rw [List.length_set]; exact HY32.out), HG32.out⟩
                rw [List.length_set]
                exact q1.mono (Nat.le_refl _) (fun _ _ h => h) fun b hb => by rcases hb with hb | hb; exact ⟨.inl hb, Nat.lt_of_lt_of_le (show b < w10.heap.size by omega) hbig⟩; exact ⟨.inr hb.1, hb.2⟩
            · go_wp2_with fail
              go_meet
              case rel =>
                exact ⟨P, _, rfl, rfl, ⟨HQ10.out.mono (Nat.le_refl _) (fun _ _ h => h) fun b hb => ⟨.inl hb, by have := HQS.out; omega⟩, HH10.out, HLOW.out, Nat.le_refl _, HR1.out, HR5s.out, HP32.out, HG32.out⟩⟩
        case rest =>
          clear HQ10 HH10 HLOW HR1 HR5s HSLT HP32
          obtain ⟨Q, wx, rfl, HQL, HST⟩ := hcut
          rw [← HQL.out] at hpl ⊢
          clear HQL
          have HSTh : Hid (LOwn w6.heap.size noOld (.slice HA G.length hc7) G (fun b => w6.heap.size ≤ b ∧ b < w7.heap.size) wx) := HST.out.h
          have HSLT : Hid (∀ b, w6.heap.size ≤ b ∧ b < w7.heap.size → b < wx.heap.size) := fun b hb => by have := HQS.out; have := HST.out.big; omega
          go_upto_if 122 with (fail)
          go_cut [25] (fun t25 wy => ∃ (H : List (List UInt8)) (WY : World), WY = wy ∧ Hid (H.length = G.length) ∧ Hid (TSt w5 w10 w5.heap.size w6.heap.size w6.heap.size (fun _ => True) QA HA qc hc7 X1 X5 r s Q H wy))
          case first =>
            as_aux_lemma =>
              by_cases hpos : 0 < G.length
              · skip
                have hp1 : 0 < G.length := hpos
                obtain ⟨g, cap', cur', e0, -, hS0, -⟩ := HSTh.out.blk hp1
                injection e0 with e0 _ e0c
                subst e0 e0c
                clear cur'
                have HS0 := Lib.hid hS0
                clear hS0
                go_wp2_with fail
                refine (within_to at_ _ (G.length - 1) wx (by omega) (by omega) HAT.out.1 HAT.out.2).mono ?_
                rintro e w2 ⟨kk, hkk, rfl, rfl⟩
                have hkl : kk < G.length := by omega
                clear hkk
                obtain ⟨y, YA, yc, hy, hcell, hyc, hyr, hgw, hfz, _⟩ := HSTh.out.row HSLT.out kk hkl
                have hy32 : y.length = 32 := HG32.out y (List.mem_of_getElem? hy)
                have HGW := Lib.hid hgw
                have HYR : Hid (Rd (wx.alloc (.cells #[] 5)) YA y) := hyr.below (below_new _ _)
                have hcA : (wx.alloc (.cells #[] 5)).cell? ⟨g, kk, none⟩ = some (.slice YA y.length yc) := ((below_new wx (.cells #[] 5)).cell (p := ⟨g, kk, none⟩) hgw).trans hcell
                have HFZ := Lib.hid hfz
                have HCE := Lib.hid hcell
                have k0 : (0 : Int) ≤ (kk : Int) := by omega
                have k1 : (kk : Int) < (G.length : Int) := by omega
                obtain ⟨i0, hi, hz0, hz1, hz2⟩ := info_u8
                have HI0 := Lib.hid hi
                have HZ0 := Lib.hid hz0
                have HZ1 := Lib.hid hz1
                have HZ2 := Lib.hid hz2
                have HY32 := Lib.hid hy32
                have hy40 : y.length ≤ 40 := by omega
                clear hi hz0 hz1 hz2 hy hcell hyr hgw hfz hy32
                go_wp2_with (at_builtin; refine wpList_append_rd rfl (.tmp 130) (.tmp 134) 23 rfl wx.heap.size 5 i0 Tryd.underlying23 HI0.out HZ0.out HZ1.out HZ2.out _ 0 (Lib.byteCells []) rfl (own_none wx) YA y y.length yc rfl rfl HYR.out (by omega) (by rw [World.size_alloc]; omega) ?_; intro v1 wA HO1 HG1; obtain ⟨h, cc, rfl, HOW, HLA, hfA, hcellA⟩ := appended_new HO1.out HG1.out HY32.out HGW.out HFZ.out HCE.out; clear HO1 HG1 hcA HYR)
                obtain ⟨j, hj⟩ : ∃ j, j = within0 at_ 31 := ⟨_, rfl⟩
                have hj31 : j ≤ 31 := by rw [hj]; exact within0_le _ _
                have HWI : Hid (∀ W, Calls Tryd.prog 21 #[.int .i64 at_, .int .i64 0, .int .i64 31] W fun e w'' => e = .returned (.int .i64 (j : Nat)) ∧ w'' = W) := fun W => (within_any at_ 31 W (by omega) HAT.out.1 HAT.out.2).mono fun e w' h => ⟨by rw [hj]; exact h.1, h.2.symm⟩
                clear hj
                obtain ⟨yb, hyb⟩ : ∃ yb : Nat, yb = (y.getD j 0).toNat := ⟨_, rfl⟩
                have hyb2 : yb < 256 := by rw [hyb]; exact (y.getD j 0).toNat_lt
                have HTI := Lib.hid (turned_in (k := kk) (j := j) (u := y.getD j 0 ^^^ UInt8.ofNat tb) (X := ((yb ^^^ tb : Nat) : Int)) HSTh.out HS0.out HSLT.out (fun b hb => by have := HQS.out; have := hb.1; omega) hkl HLA.out HOW.out (by have := HY32.out; omega) (by rw [UInt8.toNat_xor, ← hyb, UInt8.toNat_ofNat', Nat.mod_eq_of_lt htb]) HST.out.low HST.out.low.size)
                have hne : h ≠ g := by have h2 := HOW.out.ownBlock_ge h rfl; have h3 := HGW.out; omega
                have O1 := own_far HOW.out ⟨g, kk, none⟩ (by intro e; injection e with e; exact hne e) (.slice (some ⟨h, 0, none⟩) y.length cc)
                clear hne
                have cB := own_byte O1 j (by have := HY32.out; omega)
                have fB := own_frozen O1 j
                have cA := World.cell?_setCell_same wA ⟨g, kk, none⟩ (.slice (some ⟨h, 0, none⟩) y.length cc) hcellA
                rw [← hyb] at cB
                have HYB := Lib.hid hyb
                obtain ⟨W1, hW1⟩ : ∃ W1, W1 = wA.setCell ⟨g, kk, none⟩ (.slice (some ⟨h, 0, none⟩) y.length cc) := ⟨_, rfl⟩
                rw [← hW1] at HTI cB fB cA
                rw [← hW1]
                clear hW1 O1 hyb hcellA hfA HOW HLA HCE HFZ
                have hx1 := Mk.bits_xor_u8 yb tb hyb2 htb
                have j0 : (0 : Int) ≤ (j : Int) := by omega
                have j1 : (j : Int) < (y.length : Int) := by have := HY32.out; omega
                clear hyb2
                go_upto_region 22 with (fail)
                go_still_tail 11, (by kernel_rfl)
                still_call (HWI.out _)
                repeat still_step
                refine wpStill_nil ?_
                change wpList _ _ _ _ _ W1.drew
                have cB2 : W1.drew.cell? ⟨h, j, none⟩ = some (.int .u8 (yb : Nat)) := cB
                have fB2 : W1.drew.frozen? ⟨h, j, none⟩ = false := fB
                clear cB fB cA hx1
                go_wp2_with fail
                go_meet
                case rel =>
                  obtain ⟨q1, q2, q3⟩ := HTI.out
                  have hq := HQS.out
                  have hS0 := HS0.out
                  have hbig := q3.size
                  have hst := HST.out.big
                  refine ⟨G.set kk (y.set j (y.getD j 0 ^^^ UInt8.ofNat tb)), _, rfl, List.length_set, ?_⟩
                  refine ⟨LOwn.mono (LOwn.keep HST.out.q q3.size fun b hb => q3.block b hb.2 (fun e => by injection e with e; have := hb.1; omega)) (Nat.le_refl _) (fun _ _ h => h) fun b hb => ⟨hb.1, Nat.lt_of_lt_of_le hb.2 hbig⟩, ?_, q2, Nat.le_trans hst hbig, HST.out.r.keeps q3 (fun _ e => by have := HF1.out g e; omega), HST.out.s.keeps q3 (fun _ e => by have := HF5.out g e; omega), HST.out.q32, set_all HG32.out (by rw [List.length_set]; exact HY32.out)⟩
                  rw [List.length_set]
                  exact q1.mono (Nat.le_refl _) (fun _ _ h => h) fun b hb => trivial
              · go_wp2_with fail
                go_meet
                case rel =>
                  exact ⟨G, _, rfl, rfl, ⟨HST.out.q, HST.out.h.mono (Nat.le_refl _) (fun _ _ h => h) fun _ _ => trivial, HST.out.low, HST.out.big, HST.out.r, HST.out.s, HST.out.q32, HST.out.h32⟩⟩
          case rest =>
            obtain ⟨H, wy, rfl, HHL, HS2⟩ := hcut
            rw [← HHL.out] at hgl ⊢
            have HRz : Hid (RdL wy A R) := HR5.out.below HS2.out.low
            have HXz : Hid (Rd wy A3 x) := HX5.out.below HS2.out.low
            have HKz : Hid (KP wy) := HK5.out.later HS2.out.low
            have HBz : Hid (Below w.heap.size w wy) := HB5.out.trans (HS2.out.low.mono HB5.out.size)
            have HQz : Hid (RdL wy QA Q ∧ Q.length ≤ qc) := by
              obtain ⟨_, _, e, h1, h2, _⟩ := HS2.out.q.rd (fun _ _ h => h.elim)
              injection e with e1 _ e3
              rw [e1, e3]; exact ⟨h2, h1⟩
            have HHz : Hid (RdL wy HA H ∧ H.length ≤ hc7) := by
              obtain ⟨_, _, e, h1, h2, _⟩ := HS2.out.h.rd (fun _ _ h => h.elim)
              injection e with e1 _ e3
              rw [e1, e3]; exact ⟨h2, h1⟩
            have HRr : Hid (Rd wy X1 r) := HS2.out.r
            have HRs : Hid (Rd wy X5 s) := HS2.out.s
            have HSQ : Hid (Small Q) := ⟨by omega, fun y hy => by rw [HS2.out.q32 y hy]; omega⟩
            have HSH : Hid (∀ y, y ∈ H → y.length = 32) := HS2.out.h32
            obtain ⟨b, off, y, YA, yc, rfl, hy, hcell, hyc, hyr⟩ := HRz.out.at_ k hk2
            have HY := Lib.hid hyr
            have hyl : y.length ≤ 40 := HROW.out y (List.mem_of_getElem? hy)
            have HBL : Hid (b < wy.heap.size) := World.block_lt_of_cell? wy ⟨b, _, none⟩ hcell
            have kz0 : (0 : Int) ≤ (k : Int) := by omega
            have kz1 : (k : Int) < (R.length : Int) := by omega
            clear hyr hy HS2 HST HSTh HSLT HHL HRz HR5 HX5 HK5 HB5 HG32 HQS HF1 HF5
            go_wp2_with fail
            refine (within_to n _ 45 wy (by first | rfl | omega) (by omega) HN.out.1 HN.out.2).mono ?_
            rintro e w2 ⟨nk, hnk, rfl, rfl⟩
            go_wp2_with fail
            obtain ⟨nn, hnn⟩ : ∃ nn : Int, nn = (nk : Int) - 2 := ⟨_, rfl⟩
            rw [← hnn]
            have hn1 : -2 ≤ nn ∧ nn ≤ 43 := by omega
            clear hnn hnk
            go_upto_region 24 with (fail)
            refine Rc.wp_region (by kernel_rfl) (fun opn => List.getD [Rc.val (.slice X1 r.length k1), Rc.val (.slice (some ⟨b, off, none⟩) R.length c), Rc.val (.int .i64 ((k : Nat) : Int)), Rc.val (.pointer (some ⟨b, off + k, none⟩)), Rc.val (.slice YA y.length yc), Rc.val (.int .i64 ((k : Nat) : Int)), Rc.val (.slice (some ⟨b, off, none⟩) R.length c), Rc.val (.int .i64 ((R.length : Nat) : Int)), Rc.val (.slice QA Q.length qc), Rc.val (.bool (chk r y (k : Nat) (R.length : Nat) Q)), Rc.val (.slice X1 r.length k1), Rc.val (.slice (some ⟨b, off, none⟩) R.length c), Rc.val (.int .i64 ((k : Nat) : Int)), Rc.val (.pointer (some ⟨b, off + k, none⟩)), Rc.val (.slice YA y.length yc), Rc.val (.int .i64 ((k : Nat) : Int)), Rc.val (.slice (some ⟨b, off, none⟩) R.length c), Rc.val (.int .i64 ((R.length : Nat) : Int)), Rc.val (.slice QA Q.length qc), Rc.val (.bool (chk r y (k : Nat) (R.length : Nat) Q)), Rc.val (.bool true), Rc.val (.bool true), Rc.val (.slice X1 r.length k1), Rc.val (.slice A3 x.length c3), Rc.val (.int .i64 ((k : Nat) : Int)), Rc.val (.slice (some ⟨b, off, none⟩) R.length c), Rc.val (.int .i64 ((R.length : Nat) : Int)), Rc.val (.slice QA Q.length qc), Rc.val (.bool (chk r x (k : Nat) (R.length : Nat) Q)), Rc.val (.slice X1 r.length k1), Rc.val (.slice A3 x.length c3), Rc.val (.int .i64 ((k : Nat) : Int)), Rc.val (.slice (some ⟨b, off, none⟩) R.length c), Rc.val (.int .i64 ((R.length : Nat) : Int)), Rc.val (.slice QA Q.length qc), Rc.val (.bool (chk r x (k : Nat) (R.length : Nat) Q)), Rc.val (.bool true), Rc.val (.bool true), Rc.val (.bool true), Rc.val (.slice X1 r.length k1), Rc.val (.slice (some ⟨b, off, none⟩) R.length c), Rc.val (.int .i64 ((k : Nat) : Int)), Rc.val (.pointer (some ⟨b, off + k, none⟩)), Rc.val (.slice YA y.length yc), Rc.val (.int .i64 ((k : Nat) : Int)), Rc.val (.int .i64 nn), Rc.val (.slice QA Q.length qc), Rc.val (.bool (chk r y (k : Nat) nn Q)), Rc.val (.slice X1 r.length k1), Rc.val (.slice (some ⟨b, off, none⟩) R.length c), Rc.val (.int .i64 ((k : Nat) : Int)), Rc.val (.pointer (some ⟨b, off + k, none⟩)), Rc.val (.slice YA y.length yc), Rc.val (.int .i64 ((k : Nat) : Int)), Rc.val (.int .i64 nn), Rc.val (.slice QA Q.length qc), Rc.val (.bool (chk r y (k : Nat) nn Q)), Rc.val (.bool true), Rc.val (.bool true), Rc.val (.bool true), Rc.val (.slice X1 r.length k1), Rc.val (.slice (some ⟨b, off, none⟩) R.length c), Rc.val (.int .i64 ((k : Nat) : Int)), Rc.val (.pointer (some ⟨b, off + k, none⟩)), Rc.val (.slice YA y.length yc), Rc.val (.int .i64 nn), Rc.val (.slice (some ⟨b, off, none⟩) R.length c), Rc.val (.int .i64 ((R.length : Nat) : Int)), Rc.val (.slice QA Q.length qc), Rc.val (.bool (chk r y nn (R.length : Nat) Q)), Rc.val (.slice X1 r.length k1), Rc.val (.slice (some ⟨b, off, none⟩) R.length c), Rc.val (.int .i64 ((k : Nat) : Int)), Rc.val (.pointer (some ⟨b, off + k, none⟩)), Rc.val (.slice YA y.length yc), Rc.val (.int .i64 nn), Rc.val (.slice (some ⟨b, off, none⟩) R.length c), Rc.val (.int .i64 ((R.length : Nat) : Int)), Rc.val (.slice QA Q.length qc), Rc.val (.bool (chk r y nn (R.length : Nat) Q)), Rc.val (.bool true), Rc.val (.bool true), Rc.val (.bool true), Rc.val (.slice X5 s.length k5), Rc.val (.slice X1 r.length k1), Rc.val (.int .i64 ((q : Nat) : Int)), Rc.val (.slice (some ⟨b, off, none⟩) R.length c), Rc.val (.int .i64 ((R.length : Nat) : Int)), Rc.val (.slice HA H.length hc7), Rc.val (.bool (chkg s r (q : Nat) (R.length : Nat) H)), Rc.val (.slice X5 s.length k5), Rc.val (.slice X1 r.length k1), Rc.val (.int .i64 ((q : Nat) : Int)), Rc.val (.slice (some ⟨b, off, none⟩) R.length c), Rc.val (.int .i64 ((R.length : Nat) : Int)), Rc.val (.slice HA H.length hc7), Rc.val (.bool (chkg s r (q : Nat) (R.length : Nat) H)), Rc.val (.bool true), Rc.val (.bool true), Rc.val (.bool true), Rc.val (.slice X5 s.length k5), Rc.val (.slice X1 r.length k1), Rc.val (.int .i64 nn), Rc.val (.slice (some ⟨b, off, none⟩) R.length c), Rc.val (.int .i64 ((R.length : Nat) : Int)), Rc.val (.slice HA H.length hc7), Rc.val (.bool (chkg s r nn (R.length : Nat) H)), Rc.val (.slice X5 s.length k5), Rc.val (.slice X1 r.length k1), Rc.val (.int .i64 nn), Rc.val (.slice (some ⟨b, off, none⟩) R.length c), Rc.val (.int .i64 ((R.length : Nat) : Int)), Rc.val (.slice HA H.length hc7), Rc.val (.bool (chkg s r nn (R.length : Nat) H)), Rc.val (.bool true), Rc.val (.bool true), Rc.val (.bool true), Rc.val (.slice X5 s.length k5), Rc.val (.slice X1 r.length k1), Rc.val (.int .i64 ((q : Nat) : Int)), Rc.val (.int .i64 nn), Rc.val (.slice HA H.length hc7), Rc.val (.bool (chkg s r (q : Nat) nn H)), Rc.val (.slice X5 s.length k5), Rc.val (.slice X1 r.length k1), Rc.val (.int .i64 ((q : Nat) : Int)), Rc.val (.int .i64 nn), Rc.val (.slice HA H.length hc7), Rc.val (.bool (chkg s r (q : Nat) nn H)), Rc.val (.bool true), Rc.val (.bool true), Rc.val (.bool true), Rc.val (.slice X1 r.length k1), Rc.val (.slice X5 s.length k5), Rc.val (.int .i64 ((q : Nat) : Int)), Rc.val (.slice (some ⟨b, off, none⟩) R.length c), Rc.val (.int .i64 ((R.length : Nat) : Int)), Rc.val (.slice HA H.length hc7), Rc.val (.bool (chkg r s (q : Nat) (R.length : Nat) H)), Rc.val (.slice X1 r.length k1), Rc.val (.slice X5 s.length k5), Rc.val (.int .i64 ((q : Nat) : Int)), Rc.val (.slice (some ⟨b, off, none⟩) R.length c), Rc.val (.int .i64 ((R.length : Nat) : Int)), Rc.val (.slice HA H.length hc7), Rc.val (.bool (chkg r s (q : Nat) (R.length : Nat) H)), Rc.val (.bool true), Rc.val (.bool true), Rc.val (.bool true), Rc.val (.bool true), Rc.val (.bool true), Rc.val (.bool true)] opn Rc.any) 0 [] [[], [], [], [(1, 152), (2, 153)], [(3, 154)], [], [], [(6, 157)], [], [(0, 151), (4, 155), (5, 156), (7, 158), (8, 159)], [], [], [], [(11, 162), (12, 163)], [(13, 164)], [], [], [(16, 167)], [], [(10, 161), (14, 165), (15, 166), (17, 168), (18, 169)], [(9, 160), (19, 170)], [(20, 171)], [(21, 172)], [(21, 172)], [(21, 172)], [(21, 172)], [(21, 172), (25, 176)], [(21, 172)], [(21, 172), (22, 173), (23, 174), (24, 175), (26, 177), (27, 178)], [(21, 172)], [(21, 172)], [(21, 172)], [(21, 172)], [(21, 172), (32, 183)], [(21, 172)], [(21, 172), (29, 180), (30, 181), (31, 182), (33, 184), (34, 185)], [(21, 172), (28, 179), (35, 186)], [(21, 172), (36, 187)], [(37, 188)], [(38, 189)], [(38, 189)], [(38, 189)], [(38, 189), (40, 191), (41, 192)], [(38, 189), (42, 193)], [(38, 189)], [(38, 189)], [(38, 189)], [(38, 189), (39, 190), (43, 194), (44, 195), (45, 196), (46, 197)], [(38, 189)], [(38, 189)], [(38, 189)], [(38, 189), (49, 200), (50, 201)], [(38, 189), (51, 202)], [(38, 189)], [(38, 189)], [(38, 189)], [(38, 189), (48, 199), (52, 203), (53, 204), (54, 205), (55, 206)], [(38, 189), (47, 198), (56, 207)], [(38, 189), (57, 208)], [(58, 209)], [(59, 210)], [(59, 210)], [(59, 210)], [(59, 210), (61, 212), (62, 213)], [(59, 210), (63, 214)], [(59, 210)], [(59, 210)], [(59, 210), (66, 217)], [(59, 210)], [(59, 210), (60, 211), (64, 215), (65, 216), (67, 218), (68, 219)], [(59, 210)], [(59, 210)], [(59, 210)], [(59, 210), (71, 222), (72, 223)], [(59, 210), (73, 224)], [(59, 210)], [(59, 210)], [(59, 210), (76, 227)], [(59, 210)], [(59, 210), (70, 221), (74, 225), (75, 226), (77, 228), (78, 229)], [(59, 210), (69, 220), (79, 230)], [(59, 210), (80, 231)], [(81, 232)], [(82, 233)], [(82, 233)], [(82, 233)], [(82, 233)], [(82, 233), (86, 237)], [(82, 233)], [(82, 233), (83, 234), (84, 235), (85, 236), (87, 238), (88, 239)], [(82, 233)], [(82, 233)], [(82, 233)], [(82, 233)], [(82, 233), (93, 244)], [(82, 233)], [(82, 233), (90, 241), (91, 242), (92, 243), (94, 245), (95, 246)], [(82, 233), (89, 240), (96, 247)], [(82, 233), (97, 248)], [(98, 249)], [(99, 250)], [(99, 250)], [(99, 250)], [(99, 250)], [(99, 250), (103, 254)], [(99, 250)], [(99, 250), (100, 251), (101, 252), (102, 253), (104, 255), (105, 256)], [(99, 250)], [(99, 250)], [(99, 250)], [(99, 250)], [(99, 250), (110, 261)], [(99, 250)], [(99, 250), (107, 258), (108, 259), (109, 260), (111, 262), (112, 263)], [(99, 250), (106, 257), (113, 264)], [(99, 250), (114, 265)], [(115, 266)], [(116, 267)], [(116, 267)], [(116, 267)], [(116, 267)], [(116, 267)], [(116, 267), (117, 268), (118, 269), (119, 270), (120, 271), (121, 272)], [(116, 267)], [(116, 267)], [(116, 267)], [(116, 267)], [(116, 267)], [(116, 267), (123, 274), (124, 275), (125, 276), (126, 277), (127, 278)], [(116, 267), (122, 273), (128, 279)], [(116, 267), (129, 280)], [(130, 281)], [(131, 282)], [(131, 282)], [(131, 282)], [(131, 282)], [(131, 282), (135, 286)], [(131, 282)], [(131, 282), (132, 283), (133, 284), (134, 285), (136, 287), (137, 288)], [(131, 282)], [(131, 282)], [(131, 282)], [(131, 282)], [(131, 282), (142, 293)], [(131, 282)], [(131, 282), (139, 290), (140, 291), (141, 292), (143, 294), (144, 295)], [(131, 282), (138, 289), (145, 296)], [(131, 282), (146, 297)], [(147, 298)], [(148, 299)], [(148, 299), (149, 300)], [(150, 301)]] [[], [], [], [1, 2], [3], [], [], [6], [], [0, 4, 5, 7, 8], [], [], [], [11, 12], [13], [], [], [16], [], [10, 14, 15, 17, 18], [9, 19], [20], [21], [21], [21], [21], [21, 25], [21], [21, 22, 23, 24, 26, 27], [21], [21], [21], [21], [21, 32], [21], [21, 29, 30, 31, 33, 34], [21, 28, 35], [21, 36], [37], [38], [38], [38], [38, 40, 41], [38, 42], [38], [38], [38], [38, 39, 43, 44, 45, 46], [38], [38], [38], [38, 49, 50], [38, 51], [38], [38], [38], [38, 48, 52, 53, 54, 55], [38, 47, 56], [38, 57], [58], [59], [59], [59], [59, 61, 62], [59, 63], [59], [59], [59, 66], [59], [59, 60, 64, 65, 67, 68], [59], [59], [59], [59, 71, 72], [59, 73], [59], [59], [59, 76], [59], [59, 70, 74, 75, 77, 78], [59, 69, 79], [59, 80], [81], [82], [82], [82], [82], [82, 86], [82], [82, 83, 84, 85, 87, 88], [82], [82], [82], [82], [82, 93], [82], [82, 90, 91, 92, 94, 95], [82, 89, 96], [82, 97], [98], [99], [99], [99], [99], [99, 103], [99], [99, 100, 101, 102, 104, 105], [99], [99], [99], [99], [99, 110], [99], [99, 107, 108, 109, 111, 112], [99, 106, 113], [99, 114], [115], [116], [116], [116], [116], [116], [116, 117, 118, 119, 120, 121], [116], [116], [116], [116], [116], [116, 123, 124, 125, 126, 127], [116, 122, 128], [116, 129], [130], [131], [131], [131], [131], [131, 135], [131], [131, 132, 133, 134, 136, 137], [131], [131], [131], [131], [131, 142], [131], [131, 139, 140, 141, 143, 144], [131, 138, 145], [131, 146], [147], [148], [148, 149], [150]] [[], [], [], [1, 2], [3], [], [], [6], [], [0, 4, 5, 7, 8], [], [], [], [11, 12], [13], [], [], [16], [], [10, 14, 15, 17, 18], [9, 19], [20], [21], [21], [21], [21], [21, 25], [21], [21, 22, 23, 24, 26, 27], [21], [21], [21], [21], [21, 32], [21], [21, 29, 30, 31, 33, 34], [21, 28, 35], [21, 36], [37], [38], [38], [38], [38, 40, 41], [38, 42], [38], [38], [38], [38, 39, 43, 44, 45, 46], [38], [38], [38], [38, 49, 50], [38, 51], [38], [38], [38], [38, 48, 52, 53, 54, 55], [38, 47, 56], [38, 57], [58], [59], [59], [59], [59, 61, 62], [59, 63], [59], [59], [59, 66], [59], [59, 60, 64, 65, 67, 68], [59], [59], [59], [59, 71, 72], [59, 73], [59], [59], [59, 76], [59], [59, 70, 74, 75, 77, 78], [59, 69, 79], [59, 80], [81], [82], [82], [82], [82], [82, 86], [82], [82, 83, 84, 85, 87, 88], [82], [82], [82], [82], [82, 93], [82], [82, 90, 91, 92, 94, 95], [82, 89, 96], [82, 97], [98], [99], [99], [99], [99], [99, 103], [99], [99, 100, 101, 102, 104, 105], [99], [99], [99], [99], [99, 110], [99], [99, 107, 108, 109, 111, 112], [99, 106, 113], [99, 114], [115], [116], [116], [116], [116], [116], [116, 117, 118, 119, 120, 121], [116], [116], [116], [116], [116], [116, 123, 124, 125, 126, 127], [116, 122, 128], [116, 129], [130], [131], [131], [131], [131], [131, 135], [131], [131, 132, 133, 134, 136, 137], [131], [131], [131], [131], [131, 142], [131], [131, 139, 140, 141, 143, 144], [131, 138, 145], [131, 146], [147], [148], [148, 149], [150]] [] (by kernel_rfl) (by rfl) (by kernel_rfl) (fun _ => False) (fun _ _ => False) Rc.Inv.none ?_ ?_
            · as_aux_lemma =>
                intro fr ha
                have hz : fr.tmps.size = 302 := by rw [ha]; rfl
                have y22 : fr.eval (.tmp 22) = .slice X1 r.length k1 := by rw [ha]; rfl
                have y23 : fr.eval (.tmp 23) = .slice X5 s.length k5 := by rw [ha]; rfl
                have y15 : fr.eval (.tmp 15) = .slice (some ⟨b, off, none⟩) R.length c := by rw [ha]; rfl
                have y1 : fr.eval (.tmp 1) = .int .i64 ((k : Nat) : Int) := by rw [ha]; rfl
                have y2 : fr.eval (.tmp 2) = .int .i64 ((q : Nat) : Int) := by rw [ha]; rfl
                have y3 : fr.eval (.tmp 3) = .slice A3 x.length c3 := by rw [ha]; rfl
                have y4 : fr.eval (.tmp 4) = .int .i64 nn := by rw [ha]; rfl
                have y20 : fr.eval (.tmp 20) = .slice QA Q.length qc := by rw [ha]; rfl
                have y21 : fr.eval (.tmp 21) = .slice HA H.length hc7 := by rw [ha]; rfl
                clear ha
                refine .cons ?_ (.cons ?_ (.cons ?_ (.cons ?_ (.cons ?_ (.cons ?_ (.cons ?_ (.cons ?_ (.cons ?_ (.cons ?_ (.cons ?_ (.cons ?_ (.cons ?_ (.cons ?_ (.cons ?_ (.cons ?_ (.cons ?_ (.cons ?_ (.cons ?_ (.cons ?_ (.cons ?_ (.cons ?_ (.cons ?_ (.cons ?_ (.cons ?_ (.cons ?_ (.cons ?_ (.cons ?_ (.cons ?_ (.cons ?_ (.cons ?_ (.cons ?_ (.cons ?_ (.cons ?_ (.cons ?_ (.cons ?_ (.cons ?_ (.cons ?_ (.cons ?_ (.cons ?_ (.cons ?_ (.cons ?_ (.cons ?_ (.cons ?_ (.cons ?_ (.cons ?_ (.cons ?_ (.cons ?_ (.cons ?_ (.cons ?_ (.cons ?_ (.cons ?_ (.cons ?_ (.cons ?_ (.cons ?_ (.cons ?_ (.cons ?_ (.cons ?_ (.cons ?_ (.cons ?_ (.cons ?_ (.cons ?_ (.cons ?_ (.cons ?_ (.cons ?_ (.cons ?_ (.cons ?_ (.cons ?_ (.cons ?_ (.cons ?_ (.cons ?_ (.cons ?_ (.cons ?_ (.cons ?_ (.cons ?_ (.cons ?_ (.cons ?_ (.cons ?_ (.cons ?_ (.cons ?_ (.cons ?_ (.cons ?_ (.cons ?_ (.cons ?_ (.cons ?_ (.cons ?_ (.cons ?_ (.cons ?_ (.cons ?_ (.cons ?_ (.cons ?_ (.cons ?_ (.cons ?_ (.cons ?_ (.cons ?_ (.cons ?_ (.cons ?_ (.cons ?_ (.cons ?_ (.cons ?_ (.cons ?_ (.cons ?_ (.cons ?_ (.cons ?_ (.cons ?_ (.cons ?_ (.cons ?_ (.cons ?_ (.cons ?_ (.cons ?_ (.cons ?_ (.cons ?_ (.cons ?_ (.cons ?_ (.cons ?_ (.cons ?_ (.cons ?_ (.cons ?_ (.cons ?_ (.cons ?_ (.cons ?_ (.cons ?_ (.cons ?_ (.cons ?_ (.cons ?_ (.cons ?_ (.cons ?_ (.cons ?_ (.cons ?_ (.cons ?_ (.cons ?_ (.cons ?_ (.cons ?_ (.cons ?_ (.cons ?_ (.cons ?_ (.cons ?_ (.cons ?_ (.cons ?_ (.cons ?_ (.cons ?_ (.cons ?_ (.cons ?_ (.cons ?_ (.cons ?_ (.cons ?_ (.cons ?_ (.cons ?_ (.cons ?_ (.cons ?_ (.cons ?_ (.cons ?_ (.nil))))))))))))))))))))))))))))))))))))))))))))))))))))))))))))))))))))))))))))))))))))))))))))))))))))))))))))))))))))))))))))))))))))))))))))))))))))))))
                · as_aux_lemma =>
                    intro V S w2 HM HU HE
                    have lw : Below wy.heap.size wy w2 := Rc.Mod.below HM (fun _ h => h.elim)
                    have tb22 : (Rg.putUse V [] fr).eval (.tmp 22) = .slice X1 r.length k1 := (Rg.use_eval V fr 22 [] (by simp only [hz]; decide)).trans y22
                    show Rg.Does1 _ _ V (Rg.putUse V [] fr) w2 _
                    exact Ob.rc_mv (.slice X1 r.length k1) (by simp only [execOp, tb22]; go_simp) rfl rfl True.intro
                · as_aux_lemma =>
                    intro V S w2 HM HU HE
                    have lw : Below wy.heap.size wy w2 := Rc.Mod.below HM (fun _ h => h.elim)
                    have tb15 : (Rg.putUse V [] fr).eval (.tmp 15) = .slice (some ⟨b, off, none⟩) R.length c := (Rg.use_eval V fr 15 [] (by simp only [hz]; decide)).trans y15
                    show Rg.Does1 _ _ V (Rg.putUse V [] fr) w2 _
                    exact Ob.rc_mv (.slice (some ⟨b, off, none⟩) R.length c) (by simp only [execOp, tb15]; go_simp) rfl rfl True.intro
                · as_aux_lemma =>
                    intro V S w2 HM HU HE
                    have lw : Below wy.heap.size wy w2 := Rc.Mod.below HM (fun _ h => h.elim)
                    have tb1 : (Rg.putUse V [] fr).eval (.tmp 1) = .int .i64 ((k : Nat) : Int) := (Rg.use_eval V fr 1 [] (by simp only [hz]; decide)).trans y1
                    show Rg.Does1 _ _ V (Rg.putUse V [] fr) w2 _
                    exact Ob.rc_mv (.int .i64 ((k : Nat) : Int)) (by simp only [execOp, tb1]; go_simp) rfl rfl True.intro
                · as_aux_lemma =>
                    intro V S w2 HM HU HE
                    have lw : Below wy.heap.size wy w2 := Rc.Mod.below HM (fun _ h => h.elim)
                    have h1 : V 1 = .slice (some ⟨b, off, none⟩) R.length c := HU.holds 1 (by decide)
                    have tb152 : (Rg.putUse V [(1, 152), (2, 153)] fr).eval (.tmp 152) = .slice (some ⟨b, off, none⟩) R.length c := (Rg.use_eval V fr 152 [(1, 152), (2, 153)] (by simp only [hz]; decide)).trans h1
                    have h2 : V 2 = .int .i64 ((k : Nat) : Int) := HU.holds 2 (by decide)
                    have tb153 : (Rg.putUse V [(1, 152), (2, 153)] fr).eval (.tmp 153) = .int .i64 ((k : Nat) : Int) := (Rg.use_eval V fr 153 [(1, 152), (2, 153)] (by simp only [hz]; decide)).trans h2
                    show Rg.Does1 _ _ V (Rg.putUse V [(1, 152), (2, 153)] fr) w2 _
                    exact Ob.rc_mv (.pointer (some ⟨b, off + k, none⟩)) (by simp only [execOp, tb152, tb153]; go_simp; try (intro h; exfalso; omega)) rfl rfl True.intro
                · as_aux_lemma =>
                    intro V S w2 HM HU HE
                    have lw : Below wy.heap.size wy w2 := Rc.Mod.below HM (fun _ h => h.elim)
                    have h3 : V 3 = .pointer (some ⟨b, off + k, none⟩) := HU.holds 3 (by decide)
                    have tb154 : (Rg.putUse V [(3, 154)] fr).eval (.tmp 154) = .pointer (some ⟨b, off + k, none⟩) := (Rg.use_eval V fr 154 [(3, 154)] (by simp only [hz]; decide)).trans h3
                    show Rg.Does1 _ _ V (Rg.putUse V [(3, 154)] fr) w2 _
                    have cu := (lw.cell (p := ⟨b, off + k, none⟩) HBL.out).trans hcell
                    exact Ob.rc_mv (.slice YA y.length yc) (by simp only [execOp, tb154]; go_simp) rfl rfl True.intro
                · as_aux_lemma =>
                    intro V S w2 HM HU HE
                    have lw : Below wy.heap.size wy w2 := Rc.Mod.below HM (fun _ h => h.elim)
                    have tb1 : (Rg.putUse V [] fr).eval (.tmp 1) = .int .i64 ((k : Nat) : Int) := (Rg.use_eval V fr 1 [] (by simp only [hz]; decide)).trans y1
                    show Rg.Does1 _ _ V (Rg.putUse V [] fr) w2 _
                    exact Ob.rc_mv (.int .i64 ((k : Nat) : Int)) (by simp only [execOp, tb1]; go_simp) rfl rfl True.intro
                · as_aux_lemma =>
                    intro V S w2 HM HU HE
                    have lw : Below wy.heap.size wy w2 := Rc.Mod.below HM (fun _ h => h.elim)
                    have tb15 : (Rg.putUse V [] fr).eval (.tmp 15) = .slice (some ⟨b, off, none⟩) R.length c := (Rg.use_eval V fr 15 [] (by simp only [hz]; decide)).trans y15
                    show Rg.Does1 _ _ V (Rg.putUse V [] fr) w2 _
                    exact Ob.rc_mv (.slice (some ⟨b, off, none⟩) R.length c) (by simp only [execOp, tb15]; go_simp) rfl rfl True.intro
                · as_aux_lemma =>
                    intro V S w2 HM HU HE
                    have lw : Below wy.heap.size wy w2 := Rc.Mod.below HM (fun _ h => h.elim)
                    have h6 : V 6 = .slice (some ⟨b, off, none⟩) R.length c := HU.holds 6 (by decide)
                    have tb157 : (Rg.putUse V [(6, 157)] fr).eval (.tmp 157) = .slice (some ⟨b, off, none⟩) R.length c := (Rg.use_eval V fr 157 [(6, 157)] (by simp only [hz]; decide)).trans h6
                    show Rg.Does1 _ _ V (Rg.putUse V [(6, 157)] fr) w2 _
                    exact Ob.rc_mv (.int .i64 ((R.length : Nat) : Int)) (by simp only [execOp, resolve, List.map_toArray, List.map_cons, List.map_nil, tb157]; go_simp) rfl rfl True.intro
                · as_aux_lemma =>
                    intro V S w2 HM HU HE
                    have lw : Below wy.heap.size wy w2 := Rc.Mod.below HM (fun _ h => h.elim)
                    have tb20 : (Rg.putUse V [] fr).eval (.tmp 20) = .slice QA Q.length qc := (Rg.use_eval V fr 20 [] (by simp only [hz]; decide)).trans y20
                    show Rg.Does1 _ _ V (Rg.putUse V [] fr) w2 _
                    exact Ob.rc_mv (.slice QA Q.length qc) (by simp only [execOp, tb20]; go_simp) rfl rfl True.intro
                · as_aux_lemma =>
                    intro V S w2 HM HU HE
                    have lw : Below wy.heap.size wy w2 := Rc.Mod.below HM (fun _ h => h.elim)
                    have h0 : V 0 = .slice X1 r.length k1 := HU.holds 0 (by decide)
                    have tb151 : (Rg.putUse V [(0, 151), (4, 155), (5, 156), (7, 158), (8, 159)] fr).eval (.tmp 151) = .slice X1 r.length k1 := (Rg.use_eval V fr 151 [(0, 151), (4, 155), (5, 156), (7, 158), (8, 159)] (by simp only [hz]; decide)).trans h0
                    have h4 : V 4 = .slice YA y.length yc := HU.holds 4 (by decide)
                    have tb155 : (Rg.putUse V [(0, 151), (4, 155), (5, 156), (7, 158), (8, 159)] fr).eval (.tmp 155) = .slice YA y.length yc := (Rg.use_eval V fr 155 [(0, 151), (4, 155), (5, 156), (7, 158), (8, 159)] (by simp only [hz]; decide)).trans h4
                    have h5 : V 5 = .int .i64 ((k : Nat) : Int) := HU.holds 5 (by decide)
                    have tb156 : (Rg.putUse V [(0, 151), (4, 155), (5, 156), (7, 158), (8, 159)] fr).eval (.tmp 156) = .int .i64 ((k : Nat) : Int) := (Rg.use_eval V fr 156 [(0, 151), (4, 155), (5, 156), (7, 158), (8, 159)] (by simp only [hz]; decide)).trans h5
                    have h7 : V 7 = .int .i64 ((R.length : Nat) : Int) := HU.holds 7 (by decide)
                    have tb158 : (Rg.putUse V [(0, 151), (4, 155), (5, 156), (7, 158), (8, 159)] fr).eval (.tmp 158) = .int .i64 ((R.length : Nat) : Int) := (Rg.use_eval V fr 158 [(0, 151), (4, 155), (5, 156), (7, 158), (8, 159)] (by simp only [hz]; decide)).trans h7
                    have h8 : V 8 = .slice QA Q.length qc := HU.holds 8 (by decide)
                    have tb159 : (Rg.putUse V [(0, 151), (4, 155), (5, 156), (7, 158), (8, 159)] fr).eval (.tmp 159) = .slice QA Q.length qc := (Rg.use_eval V fr 159 [(0, 151), (4, 155), (5, 156), (7, 158), (8, 159)] (by simp only [hz]; decide)).trans h8
                    show Rg.Does1 _ _ V (Rg.putUse V [(0, 151), (4, 155), (5, 156), (7, 158), (8, 159)] fr) w2 _
                    exact Ob.step_tell (.bool (chk r y (k : Nat) (R.length : Nat) Q)) #[.slice X1 r.length k1, .slice YA y.length yc, .int .i64 ((k : Nat) : Int), .int .i64 ((R.length : Nat) : Int), .slice QA Q.length qc] (fun args w => Rg.call_enter Tryd.func14 (by kernel_rfl) (by kernel_rfl) args w) rfl (by simp only [List.map_toArray, List.map_cons, List.map_nil, tb151, tb155, tb156, tb158, tb159]) rfl (fun x => Rg.alias_none rfl V x) True.intro (pCheck w2 r y X1 YA k1 yc k R.length Q QA qc (by omega) (by omega) (HRr.out.below lw) (HY.out.below lw) hyc (by omega) (HQz.out.1.below lw) HQz.out.2 HSQ.out (by omega) (HKz.out.later lw))
                · as_aux_lemma =>
                    intro V S w2 HM HU HE
                    have lw : Below wy.heap.size wy w2 := Rc.Mod.below HM (fun _ h => h.elim)
                    have tb22 : (Rg.putUse V [] fr).eval (.tmp 22) = .slice X1 r.length k1 := (Rg.use_eval V fr 22 [] (by simp only [hz]; decide)).trans y22
                    show Rg.Does1 _ _ V (Rg.putUse V [] fr) w2 _
                    exact Ob.rc_mv (.slice X1 r.length k1) (by simp only [execOp, tb22]; go_simp) rfl rfl True.intro
                · as_aux_lemma =>
                    intro V S w2 HM HU HE
                    have lw : Below wy.heap.size wy w2 := Rc.Mod.below HM (fun _ h => h.elim)
                    have tb15 : (Rg.putUse V [] fr).eval (.tmp 15) = .slice (some ⟨b, off, none⟩) R.length c := (Rg.use_eval V fr 15 [] (by simp only [hz]; decide)).trans y15
                    show Rg.Does1 _ _ V (Rg.putUse V [] fr) w2 _
                    exact Ob.rc_mv (.slice (some ⟨b, off, none⟩) R.length c) (by simp only [execOp, tb15]; go_simp) rfl rfl True.intro
                · as_aux_lemma =>
                    intro V S w2 HM HU HE
                    have lw : Below wy.heap.size wy w2 := Rc.Mod.below HM (fun _ h => h.elim)
                    have tb1 : (Rg.putUse V [] fr).eval (.tmp 1) = .int .i64 ((k : Nat) : Int) := (Rg.use_eval V fr 1 [] (by simp only [hz]; decide)).trans y1
                    show Rg.Does1 _ _ V (Rg.putUse V [] fr) w2 _
                    exact Ob.rc_mv (.int .i64 ((k : Nat) : Int)) (by simp only [execOp, tb1]; go_simp) rfl rfl True.intro
                · as_aux_lemma =>
                    intro V S w2 HM HU HE
                    have lw : Below wy.heap.size wy w2 := Rc.Mod.below HM (fun _ h => h.elim)
                    have h11 : V 11 = .slice (some ⟨b, off, none⟩) R.length c := HU.holds 11 (by decide)
                    have tb162 : (Rg.putUse V [(11, 162), (12, 163)] fr).eval (.tmp 162) = .slice (some ⟨b, off, none⟩) R.length c := (Rg.use_eval V fr 162 [(11, 162), (12, 163)] (by simp only [hz]; decide)).trans h11
                    have h12 : V 12 = .int .i64 ((k : Nat) : Int) := HU.holds 12 (by decide)
                    have tb163 : (Rg.putUse V [(11, 162), (12, 163)] fr).eval (.tmp 163) = .int .i64 ((k : Nat) : Int) := (Rg.use_eval V fr 163 [(11, 162), (12, 163)] (by simp only [hz]; decide)).trans h12
                    show Rg.Does1 _ _ V (Rg.putUse V [(11, 162), (12, 163)] fr) w2 _
                    exact Ob.rc_mv (.pointer (some ⟨b, off + k, none⟩)) (by simp only [execOp, tb162, tb163]; go_simp; try (intro h; exfalso; omega)) rfl rfl True.intro
                · as_aux_lemma =>
                    intro V S w2 HM HU HE
                    have lw : Below wy.heap.size wy w2 := Rc.Mod.below HM (fun _ h => h.elim)
                    have h13 : V 13 = .pointer (some ⟨b, off + k, none⟩) := HU.holds 13 (by decide)
                    have tb164 : (Rg.putUse V [(13, 164)] fr).eval (.tmp 164) = .pointer (some ⟨b, off + k, none⟩) := (Rg.use_eval V fr 164 [(13, 164)] (by simp only [hz]; decide)).trans h13
                    show Rg.Does1 _ _ V (Rg.putUse V [(13, 164)] fr) w2 _
                    have cu := (lw.cell (p := ⟨b, off + k, none⟩) HBL.out).trans hcell
                    exact Ob.rc_mv (.slice YA y.length yc) (by simp only [execOp, tb164]; go_simp) rfl rfl True.intro
                · as_aux_lemma =>
                    intro V S w2 HM HU HE
                    have lw : Below wy.heap.size wy w2 := Rc.Mod.below HM (fun _ h => h.elim)
                    have tb1 : (Rg.putUse V [] fr).eval (.tmp 1) = .int .i64 ((k : Nat) : Int) := (Rg.use_eval V fr 1 [] (by simp only [hz]; decide)).trans y1
                    show Rg.Does1 _ _ V (Rg.putUse V [] fr) w2 _
                    exact Ob.rc_mv (.int .i64 ((k : Nat) : Int)) (by simp only [execOp, tb1]; go_simp) rfl rfl True.intro
                · as_aux_lemma =>
                    intro V S w2 HM HU HE
                    have lw : Below wy.heap.size wy w2 := Rc.Mod.below HM (fun _ h => h.elim)
                    have tb15 : (Rg.putUse V [] fr).eval (.tmp 15) = .slice (some ⟨b, off, none⟩) R.length c := (Rg.use_eval V fr 15 [] (by simp only [hz]; decide)).trans y15
                    show Rg.Does1 _ _ V (Rg.putUse V [] fr) w2 _
                    exact Ob.rc_mv (.slice (some ⟨b, off, none⟩) R.length c) (by simp only [execOp, tb15]; go_simp) rfl rfl True.intro
                · as_aux_lemma =>
                    intro V S w2 HM HU HE
                    have lw : Below wy.heap.size wy w2 := Rc.Mod.below HM (fun _ h => h.elim)
                    have h16 : V 16 = .slice (some ⟨b, off, none⟩) R.length c := HU.holds 16 (by decide)
                    have tb167 : (Rg.putUse V [(16, 167)] fr).eval (.tmp 167) = .slice (some ⟨b, off, none⟩) R.length c := (Rg.use_eval V fr 167 [(16, 167)] (by simp only [hz]; decide)).trans h16
                    show Rg.Does1 _ _ V (Rg.putUse V [(16, 167)] fr) w2 _
                    exact Ob.rc_mv (.int .i64 ((R.length : Nat) : Int)) (by simp only [execOp, resolve, List.map_toArray, List.map_cons, List.map_nil, tb167]; go_simp) rfl rfl True.intro
                · as_aux_lemma =>
                    intro V S w2 HM HU HE
                    have lw : Below wy.heap.size wy w2 := Rc.Mod.below HM (fun _ h => h.elim)
                    have tb20 : (Rg.putUse V [] fr).eval (.tmp 20) = .slice QA Q.length qc := (Rg.use_eval V fr 20 [] (by simp only [hz]; decide)).trans y20
                    show Rg.Does1 _ _ V (Rg.putUse V [] fr) w2 _
                    exact Ob.rc_mv (.slice QA Q.length qc) (by simp only [execOp, tb20]; go_simp) rfl rfl True.intro
                · as_aux_lemma =>
                    intro V S w2 HM HU HE
                    have lw : Below wy.heap.size wy w2 := Rc.Mod.below HM (fun _ h => h.elim)
                    have h10 : V 10 = .slice X1 r.length k1 := HU.holds 10 (by decide)
                    have tb161 : (Rg.putUse V [(10, 161), (14, 165), (15, 166), (17, 168), (18, 169)] fr).eval (.tmp 161) = .slice X1 r.length k1 := (Rg.use_eval V fr 161 [(10, 161), (14, 165), (15, 166), (17, 168), (18, 169)] (by simp only [hz]; decide)).trans h10
                    have h14 : V 14 = .slice YA y.length yc := HU.holds 14 (by decide)
                    have tb165 : (Rg.putUse V [(10, 161), (14, 165), (15, 166), (17, 168), (18, 169)] fr).eval (.tmp 165) = .slice YA y.length yc := (Rg.use_eval V fr 165 [(10, 161), (14, 165), (15, 166), (17, 168), (18, 169)] (by simp only [hz]; decide)).trans h14
                    have h15 : V 15 = .int .i64 ((k : Nat) : Int) := HU.holds 15 (by decide)
                    have tb166 : (Rg.putUse V [(10, 161), (14, 165), (15, 166), (17, 168), (18, 169)] fr).eval (.tmp 166) = .int .i64 ((k : Nat) : Int) := (Rg.use_eval V fr 166 [(10, 161), (14, 165), (15, 166), (17, 168), (18, 169)] (by simp only [hz]; decide)).trans h15
                    have h17 : V 17 = .int .i64 ((R.length : Nat) : Int) := HU.holds 17 (by decide)
                    have tb168 : (Rg.putUse V [(10, 161), (14, 165), (15, 166), (17, 168), (18, 169)] fr).eval (.tmp 168) = .int .i64 ((R.length : Nat) : Int) := (Rg.use_eval V fr 168 [(10, 161), (14, 165), (15, 166), (17, 168), (18, 169)] (by simp only [hz]; decide)).trans h17
                    have h18 : V 18 = .slice QA Q.length qc := HU.holds 18 (by decide)
                    have tb169 : (Rg.putUse V [(10, 161), (14, 165), (15, 166), (17, 168), (18, 169)] fr).eval (.tmp 169) = .slice QA Q.length qc := (Rg.use_eval V fr 169 [(10, 161), (14, 165), (15, 166), (17, 168), (18, 169)] (by simp only [hz]; decide)).trans h18
                    show Rg.Does1 _ _ V (Rg.putUse V [(10, 161), (14, 165), (15, 166), (17, 168), (18, 169)] fr) w2 _
                    exact Ob.step_tell (.bool (chk r y (k : Nat) (R.length : Nat) Q)) #[.slice X1 r.length k1, .slice YA y.length yc, .int .i64 ((k : Nat) : Int), .int .i64 ((R.length : Nat) : Int), .slice QA Q.length qc] (fun args w => Rg.call_enter Tryd.func22 (by kernel_rfl) (by kernel_rfl) args w) rfl (by simp only [List.map_toArray, List.map_cons, List.map_nil, tb161, tb165, tb166, tb168, tb169]) rfl (fun x => Rg.alias_none rfl V x) True.intro (rCheck w2 r y X1 YA k1 yc k R.length Q QA qc (by omega) (by omega) (HRr.out.below lw) (HY.out.below lw) hyc (by omega) (HQz.out.1.below lw) HQz.out.2 HSQ.out (by omega) trivial)
                · as_aux_lemma =>
                    intro V S w2 HM HU HE
                    have lw : Below wy.heap.size wy w2 := Rc.Mod.below HM (fun _ h => h.elim)
                    have h9 : V 9 = .bool (chk r y (k : Nat) (R.length : Nat) Q) := HU.holds 9 (by decide)
                    have tb160 : (Rg.putUse V [(9, 160), (19, 170)] fr).eval (.tmp 160) = .bool (chk r y (k : Nat) (R.length : Nat) Q) := (Rg.use_eval V fr 160 [(9, 160), (19, 170)] (by simp only [hz]; decide)).trans h9
                    have h19 : V 19 = .bool (chk r y (k : Nat) (R.length : Nat) Q) := HU.holds 19 (by decide)
                    have tb170 : (Rg.putUse V [(9, 160), (19, 170)] fr).eval (.tmp 170) = .bool (chk r y (k : Nat) (R.length : Nat) Q) := (Rg.use_eval V fr 170 [(9, 160), (19, 170)] (by simp only [hz]; decide)).trans h19
                    show Rg.Does1 _ _ V (Rg.putUse V [(9, 160), (19, 170)] fr) w2 _
                    exact Ob.rc_mv (.bool true) (by simp only [execOp, tb160, tb170]; go_simp) rfl rfl True.intro
                · as_aux_lemma =>
                    intro V S w2 HM HU HE
                    have lw : Below wy.heap.size wy w2 := Rc.Mod.below HM (fun _ h => h.elim)
                    have h20 : V 20 = .bool true := HU.holds 20 (by decide)
                    have tb171 : (Rg.putUse V [(20, 171)] fr).eval (.tmp 171) = .bool true := (Rg.use_eval V fr 171 [(20, 171)] (by simp only [hz]; decide)).trans h20
                    show Rg.Does1 _ _ V (Rg.putUse V [(20, 171)] fr) w2 _
                    exact Ob.rc_mv (.bool true) (by simp only [execOp, tb171]; go_simp) rfl rfl True.intro
                · as_aux_lemma =>
                    intro V S w2 HM HU HE
                    have lw : Below wy.heap.size wy w2 := Rc.Mod.below HM (fun _ h => h.elim)
                    have h21 : V 21 = .bool true := HU.holds 21 (by decide)
                    have tb22 : (Rg.putUse V [(21, 172)] fr).eval (.tmp 22) = .slice X1 r.length k1 := (Rg.use_eval V fr 22 [(21, 172)] (by simp only [hz]; decide)).trans y22
                    show Rg.Does1 _ _ V (Rg.putUse V [(21, 172)] fr) w2 _
                    exact Ob.rc_mv (.slice X1 r.length k1) (by simp only [execOp, tb22]; go_simp) rfl rfl h21
                · as_aux_lemma =>
                    intro V S w2 HM HU HE
                    have lw : Below wy.heap.size wy w2 := Rc.Mod.below HM (fun _ h => h.elim)
                    have h21 : V 21 = .bool true := HU.holds 21 (by decide)
                    have tb3 : (Rg.putUse V [(21, 172)] fr).eval (.tmp 3) = .slice A3 x.length c3 := (Rg.use_eval V fr 3 [(21, 172)] (by simp only [hz]; decide)).trans y3
                    show Rg.Does1 _ _ V (Rg.putUse V [(21, 172)] fr) w2 _
                    exact Ob.rc_mv (.slice A3 x.length c3) (by simp only [execOp, tb3]; go_simp) rfl rfl h21
                · as_aux_lemma =>
                    intro V S w2 HM HU HE
                    have lw : Below wy.heap.size wy w2 := Rc.Mod.below HM (fun _ h => h.elim)
                    have h21 : V 21 = .bool true := HU.holds 21 (by decide)
                    have tb1 : (Rg.putUse V [(21, 172)] fr).eval (.tmp 1) = .int .i64 ((k : Nat) : Int) := (Rg.use_eval V fr 1 [(21, 172)] (by simp only [hz]; decide)).trans y1
                    show Rg.Does1 _ _ V (Rg.putUse V [(21, 172)] fr) w2 _
                    exact Ob.rc_mv (.int .i64 ((k : Nat) : Int)) (by simp only [execOp, tb1]; go_simp) rfl rfl h21
                · as_aux_lemma =>
                    intro V S w2 HM HU HE
                    have lw : Below wy.heap.size wy w2 := Rc.Mod.below HM (fun _ h => h.elim)
                    have h21 : V 21 = .bool true := HU.holds 21 (by decide)
                    have tb15 : (Rg.putUse V [(21, 172)] fr).eval (.tmp 15) = .slice (some ⟨b, off, none⟩) R.length c := (Rg.use_eval V fr 15 [(21, 172)] (by simp only [hz]; decide)).trans y15
                    show Rg.Does1 _ _ V (Rg.putUse V [(21, 172)] fr) w2 _
                    exact Ob.rc_mv (.slice (some ⟨b, off, none⟩) R.length c) (by simp only [execOp, tb15]; go_simp) rfl rfl h21
                · as_aux_lemma =>
                    intro V S w2 HM HU HE
                    have lw : Below wy.heap.size wy w2 := Rc.Mod.below HM (fun _ h => h.elim)
                    have h21 : V 21 = .bool true := HU.holds 21 (by decide)
                    have h25 : V 25 = .slice (some ⟨b, off, none⟩) R.length c := HU.holds 25 (by decide)
                    have tb176 : (Rg.putUse V [(21, 172), (25, 176)] fr).eval (.tmp 176) = .slice (some ⟨b, off, none⟩) R.length c := (Rg.use_eval V fr 176 [(21, 172), (25, 176)] (by simp only [hz]; decide)).trans h25
                    show Rg.Does1 _ _ V (Rg.putUse V [(21, 172), (25, 176)] fr) w2 _
                    exact Ob.rc_mv (.int .i64 ((R.length : Nat) : Int)) (by simp only [execOp, resolve, List.map_toArray, List.map_cons, List.map_nil, tb176]; go_simp) rfl rfl h21
                · as_aux_lemma =>
                    intro V S w2 HM HU HE
                    have lw : Below wy.heap.size wy w2 := Rc.Mod.below HM (fun _ h => h.elim)
                    have h21 : V 21 = .bool true := HU.holds 21 (by decide)
                    have tb20 : (Rg.putUse V [(21, 172)] fr).eval (.tmp 20) = .slice QA Q.length qc := (Rg.use_eval V fr 20 [(21, 172)] (by simp only [hz]; decide)).trans y20
                    show Rg.Does1 _ _ V (Rg.putUse V [(21, 172)] fr) w2 _
                    exact Ob.rc_mv (.slice QA Q.length qc) (by simp only [execOp, tb20]; go_simp) rfl rfl h21
                · as_aux_lemma =>
                    intro V S w2 HM HU HE
                    have lw : Below wy.heap.size wy w2 := Rc.Mod.below HM (fun _ h => h.elim)
                    have h21 : V 21 = .bool true := HU.holds 21 (by decide)
                    have h22 : V 22 = .slice X1 r.length k1 := HU.holds 22 (by decide)
                    have tb173 : (Rg.putUse V [(21, 172), (22, 173), (23, 174), (24, 175), (26, 177), (27, 178)] fr).eval (.tmp 173) = .slice X1 r.length k1 := (Rg.use_eval V fr 173 [(21, 172), (22, 173), (23, 174), (24, 175), (26, 177), (27, 178)] (by simp only [hz]; decide)).trans h22
                    have h23 : V 23 = .slice A3 x.length c3 := HU.holds 23 (by decide)
                    have tb174 : (Rg.putUse V [(21, 172), (22, 173), (23, 174), (24, 175), (26, 177), (27, 178)] fr).eval (.tmp 174) = .slice A3 x.length c3 := (Rg.use_eval V fr 174 [(21, 172), (22, 173), (23, 174), (24, 175), (26, 177), (27, 178)] (by simp only [hz]; decide)).trans h23
                    have h24 : V 24 = .int .i64 ((k : Nat) : Int) := HU.holds 24 (by decide)
                    have tb175 : (Rg.putUse V [(21, 172), (22, 173), (23, 174), (24, 175), (26, 177), (27, 178)] fr).eval (.tmp 175) = .int .i64 ((k : Nat) : Int) := (Rg.use_eval V fr 175 [(21, 172), (22, 173), (23, 174), (24, 175), (26, 177), (27, 178)] (by simp only [hz]; decide)).trans h24
                    have h26 : V 26 = .int .i64 ((R.length : Nat) : Int) := HU.holds 26 (by decide)
                    have tb177 : (Rg.putUse V [(21, 172), (22, 173), (23, 174), (24, 175), (26, 177), (27, 178)] fr).eval (.tmp 177) = .int .i64 ((R.length : Nat) : Int) := (Rg.use_eval V fr 177 [(21, 172), (22, 173), (23, 174), (24, 175), (26, 177), (27, 178)] (by simp only [hz]; decide)).trans h26
                    have h27 : V 27 = .slice QA Q.length qc := HU.holds 27 (by decide)
                    have tb178 : (Rg.putUse V [(21, 172), (22, 173), (23, 174), (24, 175), (26, 177), (27, 178)] fr).eval (.tmp 178) = .slice QA Q.length qc := (Rg.use_eval V fr 178 [(21, 172), (22, 173), (23, 174), (24, 175), (26, 177), (27, 178)] (by simp only [hz]; decide)).trans h27
                    show Rg.Does1 _ _ V (Rg.putUse V [(21, 172), (22, 173), (23, 174), (24, 175), (26, 177), (27, 178)] fr) w2 _
                    exact Ob.step_tell (.bool (chk r x (k : Nat) (R.length : Nat) Q)) #[.slice X1 r.length k1, .slice A3 x.length c3, .int .i64 ((k : Nat) : Int), .int .i64 ((R.length : Nat) : Int), .slice QA Q.length qc] (fun args w => Rg.call_enter Tryd.func14 (by kernel_rfl) (by kernel_rfl) args w) rfl (by simp only [List.map_toArray, List.map_cons, List.map_nil, tb173, tb174, tb175, tb177, tb178]) rfl (fun x => Rg.alias_none rfl V x) h21 (pCheck w2 r x X1 A3 k1 c3 k R.length Q QA qc (by omega) (by omega) (HRr.out.below lw) (HXz.out.below lw) hx2 (by omega) (HQz.out.1.below lw) HQz.out.2 HSQ.out (by omega) (HKz.out.later lw))
                · as_aux_lemma =>
                    intro V S w2 HM HU HE
                    have lw : Below wy.heap.size wy w2 := Rc.Mod.below HM (fun _ h => h.elim)
                    have h21 : V 21 = .bool true := HU.holds 21 (by decide)
                    have tb22 : (Rg.putUse V [(21, 172)] fr).eval (.tmp 22) = .slice X1 r.length k1 := (Rg.use_eval V fr 22 [(21, 172)] (by simp only [hz]; decide)).trans y22
                    show Rg.Does1 _ _ V (Rg.putUse V [(21, 172)] fr) w2 _
                    exact Ob.rc_mv (.slice X1 r.length k1) (by simp only [execOp, tb22]; go_simp) rfl rfl h21
                · as_aux_lemma =>
                    intro V S w2 HM HU HE
                    have lw : Below wy.heap.size wy w2 := Rc.Mod.below HM (fun _ h => h.elim)
                    have h21 : V 21 = .bool true := HU.holds 21 (by decide)
                    have tb3 : (Rg.putUse V [(21, 172)] fr).eval (.tmp 3) = .slice A3 x.length c3 := (Rg.use_eval V fr 3 [(21, 172)] (by simp only [hz]; decide)).trans y3
                    show Rg.Does1 _ _ V (Rg.putUse V [(21, 172)] fr) w2 _
                    exact Ob.rc_mv (.slice A3 x.length c3) (by simp only [execOp, tb3]; go_simp) rfl rfl h21
                · as_aux_lemma =>
                    intro V S w2 HM HU HE
                    have lw : Below wy.heap.size wy w2 := Rc.Mod.below HM (fun _ h => h.elim)
                    have h21 : V 21 = .bool true := HU.holds 21 (by decide)
                    have tb1 : (Rg.putUse V [(21, 172)] fr).eval (.tmp 1) = .int .i64 ((k : Nat) : Int) := (Rg.use_eval V fr 1 [(21, 172)] (by simp only [hz]; decide)).trans y1
                    show Rg.Does1 _ _ V (Rg.putUse V [(21, 172)] fr) w2 _
                    exact Ob.rc_mv (.int .i64 ((k : Nat) : Int)) (by simp only [execOp, tb1]; go_simp) rfl rfl h21
                · as_aux_lemma =>
                    intro V S w2 HM HU HE
                    have lw : Below wy.heap.size wy w2 := Rc.Mod.below HM (fun _ h => h.elim)
                    have h21 : V 21 = .bool true := HU.holds 21 (by decide)
                    have tb15 : (Rg.putUse V [(21, 172)] fr).eval (.tmp 15) = .slice (some ⟨b, off, none⟩) R.length c := (Rg.use_eval V fr 15 [(21, 172)] (by simp only [hz]; decide)).trans y15
                    show Rg.Does1 _ _ V (Rg.putUse V [(21, 172)] fr) w2 _
                    exact Ob.rc_mv (.slice (some ⟨b, off, none⟩) R.length c) (by simp only [execOp, tb15]; go_simp) rfl rfl h21
                · as_aux_lemma =>
                    intro V S w2 HM HU HE
                    have lw : Below wy.heap.size wy w2 := Rc.Mod.below HM (fun _ h => h.elim)
                    have h21 : V 21 = .bool true := HU.holds 21 (by decide)
                    have h32 : V 32 = .slice (some ⟨b, off, none⟩) R.length c := HU.holds 32 (by decide)
                    have tb183 : (Rg.putUse V [(21, 172), (32, 183)] fr).eval (.tmp 183) = .slice (some ⟨b, off, none⟩) R.length c := (Rg.use_eval V fr 183 [(21, 172), (32, 183)] (by simp only [hz]; decide)).trans h32
                    show Rg.Does1 _ _ V (Rg.putUse V [(21, 172), (32, 183)] fr) w2 _
                    exact Ob.rc_mv (.int .i64 ((R.length : Nat) : Int)) (by simp only [execOp, resolve, List.map_toArray, List.map_cons, List.map_nil, tb183]; go_simp) rfl rfl h21
                · as_aux_lemma =>
                    intro V S w2 HM HU HE
                    have lw : Below wy.heap.size wy w2 := Rc.Mod.below HM (fun _ h => h.elim)
                    have h21 : V 21 = .bool true := HU.holds 21 (by decide)
                    have tb20 : (Rg.putUse V [(21, 172)] fr).eval (.tmp 20) = .slice QA Q.length qc := (Rg.use_eval V fr 20 [(21, 172)] (by simp only [hz]; decide)).trans y20
                    show Rg.Does1 _ _ V (Rg.putUse V [(21, 172)] fr) w2 _
                    exact Ob.rc_mv (.slice QA Q.length qc) (by simp only [execOp, tb20]; go_simp) rfl rfl h21
                · as_aux_lemma =>
                    intro V S w2 HM HU HE
                    have lw : Below wy.heap.size wy w2 := Rc.Mod.below HM (fun _ h => h.elim)
                    have h21 : V 21 = .bool true := HU.holds 21 (by decide)
                    have h29 : V 29 = .slice X1 r.length k1 := HU.holds 29 (by decide)
                    have tb180 : (Rg.putUse V [(21, 172), (29, 180), (30, 181), (31, 182), (33, 184), (34, 185)] fr).eval (.tmp 180) = .slice X1 r.length k1 := (Rg.use_eval V fr 180 [(21, 172), (29, 180), (30, 181), (31, 182), (33, 184), (34, 185)] (by simp only [hz]; decide)).trans h29
                    have h30 : V 30 = .slice A3 x.length c3 := HU.holds 30 (by decide)
                    have tb181 : (Rg.putUse V [(21, 172), (29, 180), (30, 181), (31, 182), (33, 184), (34, 185)] fr).eval (.tmp 181) = .slice A3 x.length c3 := (Rg.use_eval V fr 181 [(21, 172), (29, 180), (30, 181), (31, 182), (33, 184), (34, 185)] (by simp only [hz]; decide)).trans h30
                    have h31 : V 31 = .int .i64 ((k : Nat) : Int) := HU.holds 31 (by decide)
                    have tb182 : (Rg.putUse V [(21, 172), (29, 180), (30, 181), (31, 182), (33, 184), (34, 185)] fr).eval (.tmp 182) = .int .i64 ((k : Nat) : Int) := (Rg.use_eval V fr 182 [(21, 172), (29, 180), (30, 181), (31, 182), (33, 184), (34, 185)] (by simp only [hz]; decide)).trans h31
                    have h33 : V 33 = .int .i64 ((R.length : Nat) : Int) := HU.holds 33 (by decide)
                    have tb184 : (Rg.putUse V [(21, 172), (29, 180), (30, 181), (31, 182), (33, 184), (34, 185)] fr).eval (.tmp 184) = .int .i64 ((R.length : Nat) : Int) := (Rg.use_eval V fr 184 [(21, 172), (29, 180), (30, 181), (31, 182), (33, 184), (34, 185)] (by simp only [hz]; decide)).trans h33
                    have h34 : V 34 = .slice QA Q.length qc := HU.holds 34 (by decide)
                    have tb185 : (Rg.putUse V [(21, 172), (29, 180), (30, 181), (31, 182), (33, 184), (34, 185)] fr).eval (.tmp 185) = .slice QA Q.length qc := (Rg.use_eval V fr 185 [(21, 172), (29, 180), (30, 181), (31, 182), (33, 184), (34, 185)] (by simp only [hz]; decide)).trans h34
                    show Rg.Does1 _ _ V (Rg.putUse V [(21, 172), (29, 180), (30, 181), (31, 182), (33, 184), (34, 185)] fr) w2 _
                    exact Ob.step_tell (.bool (chk r x (k : Nat) (R.length : Nat) Q)) #[.slice X1 r.length k1, .slice A3 x.length c3, .int .i64 ((k : Nat) : Int), .int .i64 ((R.length : Nat) : Int), .slice QA Q.length qc] (fun args w => Rg.call_enter Tryd.func22 (by kernel_rfl) (by kernel_rfl) args w) rfl (by simp only [List.map_toArray, List.map_cons, List.map_nil, tb180, tb181, tb182, tb184, tb185]) rfl (fun x => Rg.alias_none rfl V x) h21 (rCheck w2 r x X1 A3 k1 c3 k R.length Q QA qc (by omega) (by omega) (HRr.out.below lw) (HXz.out.below lw) hx2 (by omega) (HQz.out.1.below lw) HQz.out.2 HSQ.out (by omega) trivial)
                · as_aux_lemma =>
                    intro V S w2 HM HU HE
                    have lw : Below wy.heap.size wy w2 := Rc.Mod.below HM (fun _ h => h.elim)
                    have h21 : V 21 = .bool true := HU.holds 21 (by decide)
                    have h28 : V 28 = .bool (chk r x (k : Nat) (R.length : Nat) Q) := HU.holds 28 (by decide)
                    have tb179 : (Rg.putUse V [(21, 172), (28, 179), (35, 186)] fr).eval (.tmp 179) = .bool (chk r x (k : Nat) (R.length : Nat) Q) := (Rg.use_eval V fr 179 [(21, 172), (28, 179), (35, 186)] (by simp only [hz]; decide)).trans h28
                    have h35 : V 35 = .bool (chk r x (k : Nat) (R.length : Nat) Q) := HU.holds 35 (by decide)
                    have tb186 : (Rg.putUse V [(21, 172), (28, 179), (35, 186)] fr).eval (.tmp 186) = .bool (chk r x (k : Nat) (R.length : Nat) Q) := (Rg.use_eval V fr 186 [(21, 172), (28, 179), (35, 186)] (by simp only [hz]; decide)).trans h35
                    show Rg.Does1 _ _ V (Rg.putUse V [(21, 172), (28, 179), (35, 186)] fr) w2 _
                    exact Ob.rc_mv (.bool true) (by simp only [execOp, tb179, tb186]; go_simp) rfl rfl h21
                · as_aux_lemma =>
                    intro V S w2 HM HU HE
                    have lw : Below wy.heap.size wy w2 := Rc.Mod.below HM (fun _ h => h.elim)
                    have h21 : V 21 = .bool true := HU.holds 21 (by decide)
                    have tb172 : (Rg.putUse V [(21, 172), (36, 187)] fr).eval (.tmp 172) = .bool true := (Rg.use_eval V fr 172 [(21, 172), (36, 187)] (by simp only [hz]; decide)).trans h21
                    have h36 : V 36 = .bool true := HU.holds 36 (by decide)
                    have tb187 : (Rg.putUse V [(21, 172), (36, 187)] fr).eval (.tmp 187) = .bool true := (Rg.use_eval V fr 187 [(21, 172), (36, 187)] (by simp only [hz]; decide)).trans h36
                    show Rg.Does1 _ _ V (Rg.putUse V [(21, 172), (36, 187)] fr) w2 _
                    exact Ob.rc_mv (.bool true) (by simp only [execOp, tb172, tb187]; go_simp) rfl rfl True.intro
                · as_aux_lemma =>
                    intro V S w2 HM HU HE
                    have lw : Below wy.heap.size wy w2 := Rc.Mod.below HM (fun _ h => h.elim)
                    have h37 : V 37 = .bool true := HU.holds 37 (by decide)
                    have tb188 : (Rg.putUse V [(37, 188)] fr).eval (.tmp 188) = .bool true := (Rg.use_eval V fr 188 [(37, 188)] (by simp only [hz]; decide)).trans h37
                    show Rg.Does1 _ _ V (Rg.putUse V [(37, 188)] fr) w2 _
                    exact Ob.rc_mv (.bool true) (by simp only [execOp, tb188]; go_simp) rfl rfl True.intro
                · as_aux_lemma =>
                    intro V S w2 HM HU HE
                    have lw : Below wy.heap.size wy w2 := Rc.Mod.below HM (fun _ h => h.elim)
                    have h38 : V 38 = .bool true := HU.holds 38 (by decide)
                    have tb22 : (Rg.putUse V [(38, 189)] fr).eval (.tmp 22) = .slice X1 r.length k1 := (Rg.use_eval V fr 22 [(38, 189)] (by simp only [hz]; decide)).trans y22
                    show Rg.Does1 _ _ V (Rg.putUse V [(38, 189)] fr) w2 _
                    exact Ob.rc_mv (.slice X1 r.length k1) (by simp only [execOp, tb22]; go_simp) rfl rfl h38
                · as_aux_lemma =>
                    intro V S w2 HM HU HE
                    have lw : Below wy.heap.size wy w2 := Rc.Mod.below HM (fun _ h => h.elim)
                    have h38 : V 38 = .bool true := HU.holds 38 (by decide)
                    have tb15 : (Rg.putUse V [(38, 189)] fr).eval (.tmp 15) = .slice (some ⟨b, off, none⟩) R.length c := (Rg.use_eval V fr 15 [(38, 189)] (by simp only [hz]; decide)).trans y15
                    show Rg.Does1 _ _ V (Rg.putUse V [(38, 189)] fr) w2 _
                    exact Ob.rc_mv (.slice (some ⟨b, off, none⟩) R.length c) (by simp only [execOp, tb15]; go_simp) rfl rfl h38
                · as_aux_lemma =>
                    intro V S w2 HM HU HE
                    have lw : Below wy.heap.size wy w2 := Rc.Mod.below HM (fun _ h => h.elim)
                    have h38 : V 38 = .bool true := HU.holds 38 (by decide)
                    have tb1 : (Rg.putUse V [(38, 189)] fr).eval (.tmp 1) = .int .i64 ((k : Nat) : Int) := (Rg.use_eval V fr 1 [(38, 189)] (by simp only [hz]; decide)).trans y1
                    show Rg.Does1 _ _ V (Rg.putUse V [(38, 189)] fr) w2 _
                    exact Ob.rc_mv (.int .i64 ((k : Nat) : Int)) (by simp only [execOp, tb1]; go_simp) rfl rfl h38
                · as_aux_lemma =>
                    intro V S w2 HM HU HE
                    have lw : Below wy.heap.size wy w2 := Rc.Mod.below HM (fun _ h => h.elim)
                    have h38 : V 38 = .bool true := HU.holds 38 (by decide)
                    have h40 : V 40 = .slice (some ⟨b, off, none⟩) R.length c := HU.holds 40 (by decide)
                    have tb191 : (Rg.putUse V [(38, 189), (40, 191), (41, 192)] fr).eval (.tmp 191) = .slice (some ⟨b, off, none⟩) R.length c := (Rg.use_eval V fr 191 [(38, 189), (40, 191), (41, 192)] (by simp only [hz]; decide)).trans h40
                    have h41 : V 41 = .int .i64 ((k : Nat) : Int) := HU.holds 41 (by decide)
                    have tb192 : (Rg.putUse V [(38, 189), (40, 191), (41, 192)] fr).eval (.tmp 192) = .int .i64 ((k : Nat) : Int) := (Rg.use_eval V fr 192 [(38, 189), (40, 191), (41, 192)] (by simp only [hz]; decide)).trans h41
                    show Rg.Does1 _ _ V (Rg.putUse V [(38, 189), (40, 191), (41, 192)] fr) w2 _
                    exact Ob.rc_mv (.pointer (some ⟨b, off + k, none⟩)) (by simp only [execOp, tb191, tb192]; go_simp; try (intro h; exfalso; omega)) rfl rfl h38
                · as_aux_lemma =>
                    intro V S w2 HM HU HE
                    have lw : Below wy.heap.size wy w2 := Rc.Mod.below HM (fun _ h => h.elim)
                    have h38 : V 38 = .bool true := HU.holds 38 (by decide)
                    have h42 : V 42 = .pointer (some ⟨b, off + k, none⟩) := HU.holds 42 (by decide)
                    have tb193 : (Rg.putUse V [(38, 189), (42, 193)] fr).eval (.tmp 193) = .pointer (some ⟨b, off + k, none⟩) := (Rg.use_eval V fr 193 [(38, 189), (42, 193)] (by simp only [hz]; decide)).trans h42
                    show Rg.Does1 _ _ V (Rg.putUse V [(38, 189), (42, 193)] fr) w2 _
                    have cu := (lw.cell (p := ⟨b, off + k, none⟩) HBL.out).trans hcell
                    exact Ob.rc_mv (.slice YA y.length yc) (by simp only [execOp, tb193]; go_simp) rfl rfl h38
                · as_aux_lemma =>
                    intro V S w2 HM HU HE
                    have lw : Below wy.heap.size wy w2 := Rc.Mod.below HM (fun _ h => h.elim)
                    have h38 : V 38 = .bool true := HU.holds 38 (by decide)
                    have tb1 : (Rg.putUse V [(38, 189)] fr).eval (.tmp 1) = .int .i64 ((k : Nat) : Int) := (Rg.use_eval V fr 1 [(38, 189)] (by simp only [hz]; decide)).trans y1
                    show Rg.Does1 _ _ V (Rg.putUse V [(38, 189)] fr) w2 _
                    exact Ob.rc_mv (.int .i64 ((k : Nat) : Int)) (by simp only [execOp, tb1]; go_simp) rfl rfl h38
                · as_aux_lemma =>
                    intro V S w2 HM HU HE
                    have lw : Below wy.heap.size wy w2 := Rc.Mod.below HM (fun _ h => h.elim)
                    have h38 : V 38 = .bool true := HU.holds 38 (by decide)
                    have tb4 : (Rg.putUse V [(38, 189)] fr).eval (.tmp 4) = .int .i64 nn := (Rg.use_eval V fr 4 [(38, 189)] (by simp only [hz]; decide)).trans y4
                    show Rg.Does1 _ _ V (Rg.putUse V [(38, 189)] fr) w2 _
                    exact Ob.rc_mv (.int .i64 nn) (by simp only [execOp, tb4]; go_simp) rfl rfl h38
                · as_aux_lemma =>
                    intro V S w2 HM HU HE
                    have lw : Below wy.heap.size wy w2 := Rc.Mod.below HM (fun _ h => h.elim)
                    have h38 : V 38 = .bool true := HU.holds 38 (by decide)
                    have tb20 : (Rg.putUse V [(38, 189)] fr).eval (.tmp 20) = .slice QA Q.length qc := (Rg.use_eval V fr 20 [(38, 189)] (by simp only [hz]; decide)).trans y20
                    show Rg.Does1 _ _ V (Rg.putUse V [(38, 189)] fr) w2 _
                    exact Ob.rc_mv (.slice QA Q.length qc) (by simp only [execOp, tb20]; go_simp) rfl rfl h38
                · as_aux_lemma =>
                    intro V S w2 HM HU HE
                    have lw : Below wy.heap.size wy w2 := Rc.Mod.below HM (fun _ h => h.elim)
                    have h38 : V 38 = .bool true := HU.holds 38 (by decide)
                    have h39 : V 39 = .slice X1 r.length k1 := HU.holds 39 (by decide)
                    have tb190 : (Rg.putUse V [(38, 189), (39, 190), (43, 194), (44, 195), (45, 196), (46, 197)] fr).eval (.tmp 190) = .slice X1 r.length k1 := (Rg.use_eval V fr 190 [(38, 189), (39, 190), (43, 194), (44, 195), (45, 196), (46, 197)] (by simp only [hz]; decide)).trans h39
                    have h43 : V 43 = .slice YA y.length yc := HU.holds 43 (by decide)
                    have tb194 : (Rg.putUse V [(38, 189), (39, 190), (43, 194), (44, 195), (45, 196), (46, 197)] fr).eval (.tmp 194) = .slice YA y.length yc := (Rg.use_eval V fr 194 [(38, 189), (39, 190), (43, 194), (44, 195), (45, 196), (46, 197)] (by simp only [hz]; decide)).trans h43
                    have h44 : V 44 = .int .i64 ((k : Nat) : Int) := HU.holds 44 (by decide)
                    have tb195 : (Rg.putUse V [(38, 189), (39, 190), (43, 194), (44, 195), (45, 196), (46, 197)] fr).eval (.tmp 195) = .int .i64 ((k : Nat) : Int) := (Rg.use_eval V fr 195 [(38, 189), (39, 190), (43, 194), (44, 195), (45, 196), (46, 197)] (by simp only [hz]; decide)).trans h44
                    have h45 : V 45 = .int .i64 nn := HU.holds 45 (by decide)
                    have tb196 : (Rg.putUse V [(38, 189), (39, 190), (43, 194), (44, 195), (45, 196), (46, 197)] fr).eval (.tmp 196) = .int .i64 nn := (Rg.use_eval V fr 196 [(38, 189), (39, 190), (43, 194), (44, 195), (45, 196), (46, 197)] (by simp only [hz]; decide)).trans h45
                    have h46 : V 46 = .slice QA Q.length qc := HU.holds 46 (by decide)
                    have tb197 : (Rg.putUse V [(38, 189), (39, 190), (43, 194), (44, 195), (45, 196), (46, 197)] fr).eval (.tmp 197) = .slice QA Q.length qc := (Rg.use_eval V fr 197 [(38, 189), (39, 190), (43, 194), (44, 195), (45, 196), (46, 197)] (by simp only [hz]; decide)).trans h46
                    show Rg.Does1 _ _ V (Rg.putUse V [(38, 189), (39, 190), (43, 194), (44, 195), (45, 196), (46, 197)] fr) w2 _
                    exact Ob.step_tell (.bool (chk r y (k : Nat) nn Q)) #[.slice X1 r.length k1, .slice YA y.length yc, .int .i64 ((k : Nat) : Int), .int .i64 nn, .slice QA Q.length qc] (fun args w => Rg.call_enter Tryd.func14 (by kernel_rfl) (by kernel_rfl) args w) rfl (by simp only [List.map_toArray, List.map_cons, List.map_nil, tb190, tb194, tb195, tb196, tb197]) rfl (fun x => Rg.alias_none rfl V x) h38 (pCheck w2 r y X1 YA k1 yc k nn Q QA qc (by omega) (by omega) (HRr.out.below lw) (HY.out.below lw) hyc (by omega) (HQz.out.1.below lw) HQz.out.2 HSQ.out (by omega) (HKz.out.later lw))
                · as_aux_lemma =>
                    intro V S w2 HM HU HE
                    have lw : Below wy.heap.size wy w2 := Rc.Mod.below HM (fun _ h => h.elim)
                    have h38 : V 38 = .bool true := HU.holds 38 (by decide)
                    have tb22 : (Rg.putUse V [(38, 189)] fr).eval (.tmp 22) = .slice X1 r.length k1 := (Rg.use_eval V fr 22 [(38, 189)] (by simp only [hz]; decide)).trans y22
                    show Rg.Does1 _ _ V (Rg.putUse V [(38, 189)] fr) w2 _
                    exact Ob.rc_mv (.slice X1 r.length k1) (by simp only [execOp, tb22]; go_simp) rfl rfl h38
                · as_aux_lemma =>
                    intro V S w2 HM HU HE
                    have lw : Below wy.heap.size wy w2 := Rc.Mod.below HM (fun _ h => h.elim)
                    have h38 : V 38 = .bool true := HU.holds 38 (by decide)
                    have tb15 : (Rg.putUse V [(38, 189)] fr).eval (.tmp 15) = .slice (some ⟨b, off, none⟩) R.length c := (Rg.use_eval V fr 15 [(38, 189)] (by simp only [hz]; decide)).trans y15
                    show Rg.Does1 _ _ V (Rg.putUse V [(38, 189)] fr) w2 _
                    exact Ob.rc_mv (.slice (some ⟨b, off, none⟩) R.length c) (by simp only [execOp, tb15]; go_simp) rfl rfl h38
                · as_aux_lemma =>
                    intro V S w2 HM HU HE
                    have lw : Below wy.heap.size wy w2 := Rc.Mod.below HM (fun _ h => h.elim)
                    have h38 : V 38 = .bool true := HU.holds 38 (by decide)
                    have tb1 : (Rg.putUse V [(38, 189)] fr).eval (.tmp 1) = .int .i64 ((k : Nat) : Int) := (Rg.use_eval V fr 1 [(38, 189)] (by simp only [hz]; decide)).trans y1
                    show Rg.Does1 _ _ V (Rg.putUse V [(38, 189)] fr) w2 _
                    exact Ob.rc_mv (.int .i64 ((k : Nat) : Int)) (by simp only [execOp, tb1]; go_simp) rfl rfl h38
                · as_aux_lemma =>
                    intro V S w2 HM HU HE
                    have lw : Below wy.heap.size wy w2 := Rc.Mod.below HM (fun _ h => h.elim)
                    have h38 : V 38 = .bool true := HU.holds 38 (by decide)
                    have h49 : V 49 = .slice (some ⟨b, off, none⟩) R.length c := HU.holds 49 (by decide)
                    have tb200 : (Rg.putUse V [(38, 189), (49, 200), (50, 201)] fr).eval (.tmp 200) = .slice (some ⟨b, off, none⟩) R.length c := (Rg.use_eval V fr 200 [(38, 189), (49, 200), (50, 201)] (by simp only [hz]; decide)).trans h49
                    have h50 : V 50 = .int .i64 ((k : Nat) : Int) := HU.holds 50 (by decide)
                    have tb201 : (Rg.putUse V [(38, 189), (49, 200), (50, 201)] fr).eval (.tmp 201) = .int .i64 ((k : Nat) : Int) := (Rg.use_eval V fr 201 [(38, 189), (49, 200), (50, 201)] (by simp only [hz]; decide)).trans h50
                    show Rg.Does1 _ _ V (Rg.putUse V [(38, 189), (49, 200), (50, 201)] fr) w2 _
                    exact Ob.rc_mv (.pointer (some ⟨b, off + k, none⟩)) (by simp only [execOp, tb200, tb201]; go_simp; try (intro h; exfalso; omega)) rfl rfl h38
                · as_aux_lemma =>
                    intro V S w2 HM HU HE
                    have lw : Below wy.heap.size wy w2 := Rc.Mod.below HM (fun _ h => h.elim)
                    have h38 : V 38 = .bool true := HU.holds 38 (by decide)
                    have h51 : V 51 = .pointer (some ⟨b, off + k, none⟩) := HU.holds 51 (by decide)
                    have tb202 : (Rg.putUse V [(38, 189), (51, 202)] fr).eval (.tmp 202) = .pointer (some ⟨b, off + k, none⟩) := (Rg.use_eval V fr 202 [(38, 189), (51, 202)] (by simp only [hz]; decide)).trans h51
                    show Rg.Does1 _ _ V (Rg.putUse V [(38, 189), (51, 202)] fr) w2 _
                    have cu := (lw.cell (p := ⟨b, off + k, none⟩) HBL.out).trans hcell
                    exact Ob.rc_mv (.slice YA y.length yc) (by simp only [execOp, tb202]; go_simp) rfl rfl h38
                · as_aux_lemma =>
                    intro V S w2 HM HU HE
                    have lw : Below wy.heap.size wy w2 := Rc.Mod.below HM (fun _ h => h.elim)
                    have h38 : V 38 = .bool true := HU.holds 38 (by decide)
                    have tb1 : (Rg.putUse V [(38, 189)] fr).eval (.tmp 1) = .int .i64 ((k : Nat) : Int) := (Rg.use_eval V fr 1 [(38, 189)] (by simp only [hz]; decide)).trans y1
                    show Rg.Does1 _ _ V (Rg.putUse V [(38, 189)] fr) w2 _
                    exact Ob.rc_mv (.int .i64 ((k : Nat) : Int)) (by simp only [execOp, tb1]; go_simp) rfl rfl h38
                · as_aux_lemma =>
                    intro V S w2 HM HU HE
                    have lw : Below wy.heap.size wy w2 := Rc.Mod.below HM (fun _ h => h.elim)
                    have h38 : V 38 = .bool true := HU.holds 38 (by decide)
                    have tb4 : (Rg.putUse V [(38, 189)] fr).eval (.tmp 4) = .int .i64 nn := (Rg.use_eval V fr 4 [(38, 189)] (by simp only [hz]; decide)).trans y4
                    show Rg.Does1 _ _ V (Rg.putUse V [(38, 189)] fr) w2 _
                    exact Ob.rc_mv (.int .i64 nn) (by simp only [execOp, tb4]; go_simp) rfl rfl h38
                · as_aux_lemma =>
                    intro V S w2 HM HU HE
                    have lw : Below wy.heap.size wy w2 := Rc.Mod.below HM (fun _ h => h.elim)
                    have h38 : V 38 = .bool true := HU.holds 38 (by decide)
                    have tb20 : (Rg.putUse V [(38, 189)] fr).eval (.tmp 20) = .slice QA Q.length qc := (Rg.use_eval V fr 20 [(38, 189)] (by simp only [hz]; decide)).trans y20
                    show Rg.Does1 _ _ V (Rg.putUse V [(38, 189)] fr) w2 _
                    exact Ob.rc_mv (.slice QA Q.length qc) (by simp only [execOp, tb20]; go_simp) rfl rfl h38
                · as_aux_lemma =>
                    intro V S w2 HM HU HE
                    have lw : Below wy.heap.size wy w2 := Rc.Mod.below HM (fun _ h => h.elim)
                    have h38 : V 38 = .bool true := HU.holds 38 (by decide)
                    have h48 : V 48 = .slice X1 r.length k1 := HU.holds 48 (by decide)
                    have tb199 : (Rg.putUse V [(38, 189), (48, 199), (52, 203), (53, 204), (54, 205), (55, 206)] fr).eval (.tmp 199) = .slice X1 r.length k1 := (Rg.use_eval V fr 199 [(38, 189), (48, 199), (52, 203), (53, 204), (54, 205), (55, 206)] (by simp only [hz]; decide)).trans h48
                    have h52 : V 52 = .slice YA y.length yc := HU.holds 52 (by decide)
                    have tb203 : (Rg.putUse V [(38, 189), (48, 199), (52, 203), (53, 204), (54, 205), (55, 206)] fr).eval (.tmp 203) = .slice YA y.length yc := (Rg.use_eval V fr 203 [(38, 189), (48, 199), (52, 203), (53, 204), (54, 205), (55, 206)] (by simp only [hz]; decide)).trans h52
                    have h53 : V 53 = .int .i64 ((k : Nat) : Int) := HU.holds 53 (by decide)
                    have tb204 : (Rg.putUse V [(38, 189), (48, 199), (52, 203), (53, 204), (54, 205), (55, 206)] fr).eval (.tmp 204) = .int .i64 ((k : Nat) : Int) := (Rg.use_eval V fr 204 [(38, 189), (48, 199), (52, 203), (53, 204), (54, 205), (55, 206)] (by simp only [hz]; decide)).trans h53
                    have h54 : V 54 = .int .i64 nn := HU.holds 54 (by decide)
                    have tb205 : (Rg.putUse V [(38, 189), (48, 199), (52, 203), (53, 204), (54, 205), (55, 206)] fr).eval (.tmp 205) = .int .i64 nn := (Rg.use_eval V fr 205 [(38, 189), (48, 199), (52, 203), (53, 204), (54, 205), (55, 206)] (by simp only [hz]; decide)).trans h54
                    have h55 : V 55 = .slice QA Q.length qc := HU.holds 55 (by decide)
                    have tb206 : (Rg.putUse V [(38, 189), (48, 199), (52, 203), (53, 204), (54, 205), (55, 206)] fr).eval (.tmp 206) = .slice QA Q.length qc := (Rg.use_eval V fr 206 [(38, 189), (48, 199), (52, 203), (53, 204), (54, 205), (55, 206)] (by simp only [hz]; decide)).trans h55
                    show Rg.Does1 _ _ V (Rg.putUse V [(38, 189), (48, 199), (52, 203), (53, 204), (54, 205), (55, 206)] fr) w2 _
                    exact Ob.step_tell (.bool (chk r y (k : Nat) nn Q)) #[.slice X1 r.length k1, .slice YA y.length yc, .int .i64 ((k : Nat) : Int), .int .i64 nn, .slice QA Q.length qc] (fun args w => Rg.call_enter Tryd.func22 (by kernel_rfl) (by kernel_rfl) args w) rfl (by simp only [List.map_toArray, List.map_cons, List.map_nil, tb199, tb203, tb204, tb205, tb206]) rfl (fun x => Rg.alias_none rfl V x) h38 (rCheck w2 r y X1 YA k1 yc k nn Q QA qc (by omega) (by omega) (HRr.out.below lw) (HY.out.below lw) hyc (by omega) (HQz.out.1.below lw) HQz.out.2 HSQ.out (by omega) trivial)
                · as_aux_lemma =>
                    intro V S w2 HM HU HE
                    have lw : Below wy.heap.size wy w2 := Rc.Mod.below HM (fun _ h => h.elim)
                    have h38 : V 38 = .bool true := HU.holds 38 (by decide)
                    have h47 : V 47 = .bool (chk r y (k : Nat) nn Q) := HU.holds 47 (by decide)
                    have tb198 : (Rg.putUse V [(38, 189), (47, 198), (56, 207)] fr).eval (.tmp 198) = .bool (chk r y (k : Nat) nn Q) := (Rg.use_eval V fr 198 [(38, 189), (47, 198), (56, 207)] (by simp only [hz]; decide)).trans h47
                    have h56 : V 56 = .bool (chk r y (k : Nat) nn Q) := HU.holds 56 (by decide)
                    have tb207 : (Rg.putUse V [(38, 189), (47, 198), (56, 207)] fr).eval (.tmp 207) = .bool (chk r y (k : Nat) nn Q) := (Rg.use_eval V fr 207 [(38, 189), (47, 198), (56, 207)] (by simp only [hz]; decide)).trans h56
                    show Rg.Does1 _ _ V (Rg.putUse V [(38, 189), (47, 198), (56, 207)] fr) w2 _
                    exact Ob.rc_mv (.bool true) (by simp only [execOp, tb198, tb207]; go_simp) rfl rfl h38
                · as_aux_lemma =>
                    intro V S w2 HM HU HE
                    have lw : Below wy.heap.size wy w2 := Rc.Mod.below HM (fun _ h => h.elim)
                    have h38 : V 38 = .bool true := HU.holds 38 (by decide)
                    have tb189 : (Rg.putUse V [(38, 189), (57, 208)] fr).eval (.tmp 189) = .bool true := (Rg.use_eval V fr 189 [(38, 189), (57, 208)] (by simp only [hz]; decide)).trans h38
                    have h57 : V 57 = .bool true := HU.holds 57 (by decide)
                    have tb208 : (Rg.putUse V [(38, 189), (57, 208)] fr).eval (.tmp 208) = .bool true := (Rg.use_eval V fr 208 [(38, 189), (57, 208)] (by simp only [hz]; decide)).trans h57
                    show Rg.Does1 _ _ V (Rg.putUse V [(38, 189), (57, 208)] fr) w2 _
                    exact Ob.rc_mv (.bool true) (by simp only [execOp, tb189, tb208]; go_simp) rfl rfl True.intro
                · as_aux_lemma =>
                    intro V S w2 HM HU HE
                    have lw : Below wy.heap.size wy w2 := Rc.Mod.below HM (fun _ h => h.elim)
                    have h58 : V 58 = .bool true := HU.holds 58 (by decide)
                    have tb209 : (Rg.putUse V [(58, 209)] fr).eval (.tmp 209) = .bool true := (Rg.use_eval V fr 209 [(58, 209)] (by simp only [hz]; decide)).trans h58
                    show Rg.Does1 _ _ V (Rg.putUse V [(58, 209)] fr) w2 _
                    exact Ob.rc_mv (.bool true) (by simp only [execOp, tb209]; go_simp) rfl rfl True.intro
                · as_aux_lemma =>
                    intro V S w2 HM HU HE
                    have lw : Below wy.heap.size wy w2 := Rc.Mod.below HM (fun _ h => h.elim)
                    have h59 : V 59 = .bool true := HU.holds 59 (by decide)
                    have tb22 : (Rg.putUse V [(59, 210)] fr).eval (.tmp 22) = .slice X1 r.length k1 := (Rg.use_eval V fr 22 [(59, 210)] (by simp only [hz]; decide)).trans y22
                    show Rg.Does1 _ _ V (Rg.putUse V [(59, 210)] fr) w2 _
                    exact Ob.rc_mv (.slice X1 r.length k1) (by simp only [execOp, tb22]; go_simp) rfl rfl h59
                · as_aux_lemma =>
                    intro V S w2 HM HU HE
                    have lw : Below wy.heap.size wy w2 := Rc.Mod.below HM (fun _ h => h.elim)
                    have h59 : V 59 = .bool true := HU.holds 59 (by decide)
                    have tb15 : (Rg.putUse V [(59, 210)] fr).eval (.tmp 15) = .slice (some ⟨b, off, none⟩) R.length c := (Rg.use_eval V fr 15 [(59, 210)] (by simp only [hz]; decide)).trans y15
                    show Rg.Does1 _ _ V (Rg.putUse V [(59, 210)] fr) w2 _
                    exact Ob.rc_mv (.slice (some ⟨b, off, none⟩) R.length c) (by simp only [execOp, tb15]; go_simp) rfl rfl h59
                · as_aux_lemma =>
                    intro V S w2 HM HU HE
                    have lw : Below wy.heap.size wy w2 := Rc.Mod.below HM (fun _ h => h.elim)
                    have h59 : V 59 = .bool true := HU.holds 59 (by decide)
                    have tb1 : (Rg.putUse V [(59, 210)] fr).eval (.tmp 1) = .int .i64 ((k : Nat) : Int) := (Rg.use_eval V fr 1 [(59, 210)] (by simp only [hz]; decide)).trans y1
                    show Rg.Does1 _ _ V (Rg.putUse V [(59, 210)] fr) w2 _
                    exact Ob.rc_mv (.int .i64 ((k : Nat) : Int)) (by simp only [execOp, tb1]; go_simp) rfl rfl h59
                · as_aux_lemma =>
                    intro V S w2 HM HU HE
                    have lw : Below wy.heap.size wy w2 := Rc.Mod.below HM (fun _ h => h.elim)
                    have h59 : V 59 = .bool true := HU.holds 59 (by decide)
                    have h61 : V 61 = .slice (some ⟨b, off, none⟩) R.length c := HU.holds 61 (by decide)
                    have tb212 : (Rg.putUse V [(59, 210), (61, 212), (62, 213)] fr).eval (.tmp 212) = .slice (some ⟨b, off, none⟩) R.length c := (Rg.use_eval V fr 212 [(59, 210), (61, 212), (62, 213)] (by simp only [hz]; decide)).trans h61
                    have h62 : V 62 = .int .i64 ((k : Nat) : Int) := HU.holds 62 (by decide)
                    have tb213 : (Rg.putUse V [(59, 210), (61, 212), (62, 213)] fr).eval (.tmp 213) = .int .i64 ((k : Nat) : Int) := (Rg.use_eval V fr 213 [(59, 210), (61, 212), (62, 213)] (by simp only [hz]; decide)).trans h62
                    show Rg.Does1 _ _ V (Rg.putUse V [(59, 210), (61, 212), (62, 213)] fr) w2 _
                    exact Ob.rc_mv (.pointer (some ⟨b, off + k, none⟩)) (by simp only [execOp, tb212, tb213]; go_simp; try (intro h; exfalso; omega)) rfl rfl h59
                · as_aux_lemma =>
                    intro V S w2 HM HU HE
                    have lw : Below wy.heap.size wy w2 := Rc.Mod.below HM (fun _ h => h.elim)
                    have h59 : V 59 = .bool true := HU.holds 59 (by decide)
                    have h63 : V 63 = .pointer (some ⟨b, off + k, none⟩) := HU.holds 63 (by decide)
                    have tb214 : (Rg.putUse V [(59, 210), (63, 214)] fr).eval (.tmp 214) = .pointer (some ⟨b, off + k, none⟩) := (Rg.use_eval V fr 214 [(59, 210), (63, 214)] (by simp only [hz]; decide)).trans h63
                    show Rg.Does1 _ _ V (Rg.putUse V [(59, 210), (63, 214)] fr) w2 _
                    have cu := (lw.cell (p := ⟨b, off + k, none⟩) HBL.out).trans hcell
                    exact Ob.rc_mv (.slice YA y.length yc) (by simp only [execOp, tb214]; go_simp) rfl rfl h59
                · as_aux_lemma =>
                    intro V S w2 HM HU HE
                    have lw : Below wy.heap.size wy w2 := Rc.Mod.below HM (fun _ h => h.elim)
                    have h59 : V 59 = .bool true := HU.holds 59 (by decide)
                    have tb4 : (Rg.putUse V [(59, 210)] fr).eval (.tmp 4) = .int .i64 nn := (Rg.use_eval V fr 4 [(59, 210)] (by simp only [hz]; decide)).trans y4
                    show Rg.Does1 _ _ V (Rg.putUse V [(59, 210)] fr) w2 _
                    exact Ob.rc_mv (.int .i64 nn) (by simp only [execOp, tb4]; go_simp) rfl rfl h59
                · as_aux_lemma =>
                    intro V S w2 HM HU HE
                    have lw : Below wy.heap.size wy w2 := Rc.Mod.below HM (fun _ h => h.elim)
                    have h59 : V 59 = .bool true := HU.holds 59 (by decide)
                    have tb15 : (Rg.putUse V [(59, 210)] fr).eval (.tmp 15) = .slice (some ⟨b, off, none⟩) R.length c := (Rg.use_eval V fr 15 [(59, 210)] (by simp only [hz]; decide)).trans y15
                    show Rg.Does1 _ _ V (Rg.putUse V [(59, 210)] fr) w2 _
                    exact Ob.rc_mv (.slice (some ⟨b, off, none⟩) R.length c) (by simp only [execOp, tb15]; go_simp) rfl rfl h59
                · as_aux_lemma =>
                    intro V S w2 HM HU HE
                    have lw : Below wy.heap.size wy w2 := Rc.Mod.below HM (fun _ h => h.elim)
                    have h59 : V 59 = .bool true := HU.holds 59 (by decide)
                    have h66 : V 66 = .slice (some ⟨b, off, none⟩) R.length c := HU.holds 66 (by decide)
                    have tb217 : (Rg.putUse V [(59, 210), (66, 217)] fr).eval (.tmp 217) = .slice (some ⟨b, off, none⟩) R.length c := (Rg.use_eval V fr 217 [(59, 210), (66, 217)] (by simp only [hz]; decide)).trans h66
                    show Rg.Does1 _ _ V (Rg.putUse V [(59, 210), (66, 217)] fr) w2 _
                    exact Ob.rc_mv (.int .i64 ((R.length : Nat) : Int)) (by simp only [execOp, resolve, List.map_toArray, List.map_cons, List.map_nil, tb217]; go_simp) rfl rfl h59
                · as_aux_lemma =>
                    intro V S w2 HM HU HE
                    have lw : Below wy.heap.size wy w2 := Rc.Mod.below HM (fun _ h => h.elim)
                    have h59 : V 59 = .bool true := HU.holds 59 (by decide)
                    have tb20 : (Rg.putUse V [(59, 210)] fr).eval (.tmp 20) = .slice QA Q.length qc := (Rg.use_eval V fr 20 [(59, 210)] (by simp only [hz]; decide)).trans y20
                    show Rg.Does1 _ _ V (Rg.putUse V [(59, 210)] fr) w2 _
                    exact Ob.rc_mv (.slice QA Q.length qc) (by simp only [execOp, tb20]; go_simp) rfl rfl h59
                · as_aux_lemma =>
                    intro V S w2 HM HU HE
                    have lw : Below wy.heap.size wy w2 := Rc.Mod.below HM (fun _ h => h.elim)
                    have h59 : V 59 = .bool true := HU.holds 59 (by decide)
                    have h60 : V 60 = .slice X1 r.length k1 := HU.holds 60 (by decide)
                    have tb211 : (Rg.putUse V [(59, 210), (60, 211), (64, 215), (65, 216), (67, 218), (68, 219)] fr).eval (.tmp 211) = .slice X1 r.length k1 := (Rg.use_eval V fr 211 [(59, 210), (60, 211), (64, 215), (65, 216), (67, 218), (68, 219)] (by simp only [hz]; decide)).trans h60
                    have h64 : V 64 = .slice YA y.length yc := HU.holds 64 (by decide)
                    have tb215 : (Rg.putUse V [(59, 210), (60, 211), (64, 215), (65, 216), (67, 218), (68, 219)] fr).eval (.tmp 215) = .slice YA y.length yc := (Rg.use_eval V fr 215 [(59, 210), (60, 211), (64, 215), (65, 216), (67, 218), (68, 219)] (by simp only [hz]; decide)).trans h64
                    have h65 : V 65 = .int .i64 nn := HU.holds 65 (by decide)
                    have tb216 : (Rg.putUse V [(59, 210), (60, 211), (64, 215), (65, 216), (67, 218), (68, 219)] fr).eval (.tmp 216) = .int .i64 nn := (Rg.use_eval V fr 216 [(59, 210), (60, 211), (64, 215), (65, 216), (67, 218), (68, 219)] (by simp only [hz]; decide)).trans h65
                    have h67 : V 67 = .int .i64 ((R.length : Nat) : Int) := HU.holds 67 (by decide)
                    have tb218 : (Rg.putUse V [(59, 210), (60, 211), (64, 215), (65, 216), (67, 218), (68, 219)] fr).eval (.tmp 218) = .int .i64 ((R.length : Nat) : Int) := (Rg.use_eval V fr 218 [(59, 210), (60, 211), (64, 215), (65, 216), (67, 218), (68, 219)] (by simp only [hz]; decide)).trans h67
                    have h68 : V 68 = .slice QA Q.length qc := HU.holds 68 (by decide)
                    have tb219 : (Rg.putUse V [(59, 210), (60, 211), (64, 215), (65, 216), (67, 218), (68, 219)] fr).eval (.tmp 219) = .slice QA Q.length qc := (Rg.use_eval V fr 219 [(59, 210), (60, 211), (64, 215), (65, 216), (67, 218), (68, 219)] (by simp only [hz]; decide)).trans h68
                    show Rg.Does1 _ _ V (Rg.putUse V [(59, 210), (60, 211), (64, 215), (65, 216), (67, 218), (68, 219)] fr) w2 _
                    exact Ob.step_tell (.bool (chk r y nn (R.length : Nat) Q)) #[.slice X1 r.length k1, .slice YA y.length yc, .int .i64 nn, .int .i64 ((R.length : Nat) : Int), .slice QA Q.length qc] (fun args w => Rg.call_enter Tryd.func14 (by kernel_rfl) (by kernel_rfl) args w) rfl (by simp only [List.map_toArray, List.map_cons, List.map_nil, tb211, tb215, tb216, tb218, tb219]) rfl (fun x => Rg.alias_none rfl V x) h59 (pCheck w2 r y X1 YA k1 yc nn R.length Q QA qc (by omega) (by omega) (HRr.out.below lw) (HY.out.below lw) hyc (by omega) (HQz.out.1.below lw) HQz.out.2 HSQ.out (by omega) (HKz.out.later lw))
                · as_aux_lemma =>
                    intro V S w2 HM HU HE
                    have lw : Below wy.heap.size wy w2 := Rc.Mod.below HM (fun _ h => h.elim)
                    have h59 : V 59 = .bool true := HU.holds 59 (by decide)
                    have tb22 : (Rg.putUse V [(59, 210)] fr).eval (.tmp 22) = .slice X1 r.length k1 := (Rg.use_eval V fr 22 [(59, 210)] (by simp only [hz]; decide)).trans y22
                    show Rg.Does1 _ _ V (Rg.putUse V [(59, 210)] fr) w2 _
                    exact Ob.rc_mv (.slice X1 r.length k1) (by simp only [execOp, tb22]; go_simp) rfl rfl h59
                · as_aux_lemma =>
                    intro V S w2 HM HU HE
                    have lw : Below wy.heap.size wy w2 := Rc.Mod.below HM (fun _ h => h.elim)
                    have h59 : V 59 = .bool true := HU.holds 59 (by decide)
                    have tb15 : (Rg.putUse V [(59, 210)] fr).eval (.tmp 15) = .slice (some ⟨b, off, none⟩) R.length c := (Rg.use_eval V fr 15 [(59, 210)] (by simp only [hz]; decide)).trans y15
                    show Rg.Does1 _ _ V (Rg.putUse V [(59, 210)] fr) w2 _
                    exact Ob.rc_mv (.slice (some ⟨b, off, none⟩) R.length c) (by simp only [execOp, tb15]; go_simp) rfl rfl h59
                · as_aux_lemma =>
                    intro V S w2 HM HU HE
                    have lw : Below wy.heap.size wy w2 := Rc.Mod.below HM (fun _ h => h.elim)
                    have h59 : V 59 = .bool true := HU.holds 59 (by decide)
                    have tb1 : (Rg.putUse V [(59, 210)] fr).eval (.tmp 1) = .int .i64 ((k : Nat) : Int) := (Rg.use_eval V fr 1 [(59, 210)] (by simp only [hz]; decide)).trans y1
                    show Rg.Does1 _ _ V (Rg.putUse V [(59, 210)] fr) w2 _
                    exact Ob.rc_mv (.int .i64 ((k : Nat) : Int)) (by simp only [execOp, tb1]; go_simp) rfl rfl h59
                · as_aux_lemma =>
                    intro V S w2 HM HU HE
                    have lw : Below wy.heap.size wy w2 := Rc.Mod.below HM (fun _ h => h.elim)
                    have h59 : V 59 = .bool true := HU.holds 59 (by decide)
                    have h71 : V 71 = .slice (some ⟨b, off, none⟩) R.length c := HU.holds 71 (by decide)
                    have tb222 : (Rg.putUse V [(59, 210), (71, 222), (72, 223)] fr).eval (.tmp 222) = .slice (some ⟨b, off, none⟩) R.length c := (Rg.use_eval V fr 222 [(59, 210), (71, 222), (72, 223)] (by simp only [hz]; decide)).trans h71
                    have h72 : V 72 = .int .i64 ((k : Nat) : Int) := HU.holds 72 (by decide)
                    have tb223 : (Rg.putUse V [(59, 210), (71, 222), (72, 223)] fr).eval (.tmp 223) = .int .i64 ((k : Nat) : Int) := (Rg.use_eval V fr 223 [(59, 210), (71, 222), (72, 223)] (by simp only [hz]; decide)).trans h72
                    show Rg.Does1 _ _ V (Rg.putUse V [(59, 210), (71, 222), (72, 223)] fr) w2 _
                    exact Ob.rc_mv (.pointer (some ⟨b, off + k, none⟩)) (by simp only [execOp, tb222, tb223]; go_simp; try (intro h; exfalso; omega)) rfl rfl h59
                · as_aux_lemma =>
                    intro V S w2 HM HU HE
                    have lw : Below wy.heap.size wy w2 := Rc.Mod.below HM (fun _ h => h.elim)
                    have h59 : V 59 = .bool true := HU.holds 59 (by decide)
                    have h73 : V 73 = .pointer (some ⟨b, off + k, none⟩) := HU.holds 73 (by decide)
                    have tb224 : (Rg.putUse V [(59, 210), (73, 224)] fr).eval (.tmp 224) = .pointer (some ⟨b, off + k, none⟩) := (Rg.use_eval V fr 224 [(59, 210), (73, 224)] (by simp only [hz]; decide)).trans h73
                    show Rg.Does1 _ _ V (Rg.putUse V [(59, 210), (73, 224)] fr) w2 _
                    have cu := (lw.cell (p := ⟨b, off + k, none⟩) HBL.out).trans hcell
                    exact Ob.rc_mv (.slice YA y.length yc) (by simp only [execOp, tb224]; go_simp) rfl rfl h59
                · as_aux_lemma =>
                    intro V S w2 HM HU HE
                    have lw : Below wy.heap.size wy w2 := Rc.Mod.below HM (fun _ h => h.elim)
                    have h59 : V 59 = .bool true := HU.holds 59 (by decide)
                    have tb4 : (Rg.putUse V [(59, 210)] fr).eval (.tmp 4) = .int .i64 nn := (Rg.use_eval V fr 4 [(59, 210)] (by simp only [hz]; decide)).trans y4
                    show Rg.Does1 _ _ V (Rg.putUse V [(59, 210)] fr) w2 _
                    exact Ob.rc_mv (.int .i64 nn) (by simp only [execOp, tb4]; go_simp) rfl rfl h59
                · as_aux_lemma =>
                    intro V S w2 HM HU HE
                    have lw : Below wy.heap.size wy w2 := Rc.Mod.below HM (fun _ h => h.elim)
                    have h59 : V 59 = .bool true := HU.holds 59 (by decide)
                    have tb15 : (Rg.putUse V [(59, 210)] fr).eval (.tmp 15) = .slice (some ⟨b, off, none⟩) R.length c := (Rg.use_eval V fr 15 [(59, 210)] (by simp only [hz]; decide)).trans y15
                    show Rg.Does1 _ _ V (Rg.putUse V [(59, 210)] fr) w2 _
                    exact Ob.rc_mv (.slice (some ⟨b, off, none⟩) R.length c) (by simp only [execOp, tb15]; go_simp) rfl rfl h59
                · as_aux_lemma =>
                    intro V S w2 HM HU HE
                    have lw : Below wy.heap.size wy w2 := Rc.Mod.below HM (fun _ h => h.elim)
                    have h59 : V 59 = .bool true := HU.holds 59 (by decide)
                    have h76 : V 76 = .slice (some ⟨b, off, none⟩) R.length c := HU.holds 76 (by decide)
                    have tb227 : (Rg.putUse V [(59, 210), (76, 227)] fr).eval (.tmp 227) = .slice (some ⟨b, off, none⟩) R.length c := (Rg.use_eval V fr 227 [(59, 210), (76, 227)] (by simp only [hz]; decide)).trans h76
                    show Rg.Does1 _ _ V (Rg.putUse V [(59, 210), (76, 227)] fr) w2 _
                    exact Ob.rc_mv (.int .i64 ((R.length : Nat) : Int)) (by simp only [execOp, resolve, List.map_toArray, List.map_cons, List.map_nil, tb227]; go_simp) rfl rfl h59
                · as_aux_lemma =>
                    intro V S w2 HM HU HE
                    have lw : Below wy.heap.size wy w2 := Rc.Mod.below HM (fun _ h => h.elim)
                    have h59 : V 59 = .bool true := HU.holds 59 (by decide)
                    have tb20 : (Rg.putUse V [(59, 210)] fr).eval (.tmp 20) = .slice QA Q.length qc := (Rg.use_eval V fr 20 [(59, 210)] (by simp only [hz]; decide)).trans y20
                    show Rg.Does1 _ _ V (Rg.putUse V [(59, 210)] fr) w2 _
                    exact Ob.rc_mv (.slice QA Q.length qc) (by simp only [execOp, tb20]; go_simp) rfl rfl h59
                · as_aux_lemma =>
                    intro V S w2 HM HU HE
                    have lw : Below wy.heap.size wy w2 := Rc.Mod.below HM (fun _ h => h.elim)
                    have h59 : V 59 = .bool true := HU.holds 59 (by decide)
                    have h70 : V 70 = .slice X1 r.length k1 := HU.holds 70 (by decide)
                    have tb221 : (Rg.putUse V [(59, 210), (70, 221), (74, 225), (75, 226), (77, 228), (78, 229)] fr).eval (.tmp 221) = .slice X1 r.length k1 := (Rg.use_eval V fr 221 [(59, 210), (70, 221), (74, 225), (75, 226), (77, 228), (78, 229)] (by simp only [hz]; decide)).trans h70
                    have h74 : V 74 = .slice YA y.length yc := HU.holds 74 (by decide)
                    have tb225 : (Rg.putUse V [(59, 210), (70, 221), (74, 225), (75, 226), (77, 228), (78, 229)] fr).eval (.tmp 225) = .slice YA y.length yc := (Rg.use_eval V fr 225 [(59, 210), (70, 221), (74, 225), (75, 226), (77, 228), (78, 229)] (by simp only [hz]; decide)).trans h74
                    have h75 : V 75 = .int .i64 nn := HU.holds 75 (by decide)
                    have tb226 : (Rg.putUse V [(59, 210), (70, 221), (74, 225), (75, 226), (77, 228), (78, 229)] fr).eval (.tmp 226) = .int .i64 nn := (Rg.use_eval V fr 226 [(59, 210), (70, 221), (74, 225), (75, 226), (77, 228), (78, 229)] (by simp only [hz]; decide)).trans h75
                    have h77 : V 77 = .int .i64 ((R.length : Nat) : Int) := HU.holds 77 (by decide)
                    have tb228 : (Rg.putUse V [(59, 210), (70, 221), (74, 225), (75, 226), (77, 228), (78, 229)] fr).eval (.tmp 228) = .int .i64 ((R.length : Nat) : Int) := (Rg.use_eval V fr 228 [(59, 210), (70, 221), (74, 225), (75, 226), (77, 228), (78, 229)] (by simp only [hz]; decide)).trans h77
                    have h78 : V 78 = .slice QA Q.length qc := HU.holds 78 (by decide)
                    have tb229 : (Rg.putUse V [(59, 210), (70, 221), (74, 225), (75, 226), (77, 228), (78, 229)] fr).eval (.tmp 229) = .slice QA Q.length qc := (Rg.use_eval V fr 229 [(59, 210), (70, 221), (74, 225), (75, 226), (77, 228), (78, 229)] (by simp only [hz]; decide)).trans h78
                    show Rg.Does1 _ _ V (Rg.putUse V [(59, 210), (70, 221), (74, 225), (75, 226), (77, 228), (78, 229)] fr) w2 _
                    exact Ob.step_tell (.bool (chk r y nn (R.length : Nat) Q)) #[.slice X1 r.length k1, .slice YA y.length yc, .int .i64 nn, .int .i64 ((R.length : Nat) : Int), .slice QA Q.length qc] (fun args w => Rg.call_enter Tryd.func22 (by kernel_rfl) (by kernel_rfl) args w) rfl (by simp only [List.map_toArray, List.map_cons, List.map_nil, tb221, tb225, tb226, tb228, tb229]) rfl (fun x => Rg.alias_none rfl V x) h59 (rCheck w2 r y X1 YA k1 yc nn R.length Q QA qc (by omega) (by omega) (HRr.out.below lw) (HY.out.below lw) hyc (by omega) (HQz.out.1.below lw) HQz.out.2 HSQ.out (by omega) trivial)
                · as_aux_lemma =>
                    intro V S w2 HM HU HE
                    have lw : Below wy.heap.size wy w2 := Rc.Mod.below HM (fun _ h => h.elim)
                    have h59 : V 59 = .bool true := HU.holds 59 (by decide)
                    have h69 : V 69 = .bool (chk r y nn (R.length : Nat) Q) := HU.holds 69 (by decide)
                    have tb220 : (Rg.putUse V [(59, 210), (69, 220), (79, 230)] fr).eval (.tmp 220) = .bool (chk r y nn (R.length : Nat) Q) := (Rg.use_eval V fr 220 [(59, 210), (69, 220), (79, 230)] (by simp only [hz]; decide)).trans h69
                    have h79 : V 79 = .bool (chk r y nn (R.length : Nat) Q) := HU.holds 79 (by decide)
                    have tb230 : (Rg.putUse V [(59, 210), (69, 220), (79, 230)] fr).eval (.tmp 230) = .bool (chk r y nn (R.length : Nat) Q) := (Rg.use_eval V fr 230 [(59, 210), (69, 220), (79, 230)] (by simp only [hz]; decide)).trans h79
                    show Rg.Does1 _ _ V (Rg.putUse V [(59, 210), (69, 220), (79, 230)] fr) w2 _
                    exact Ob.rc_mv (.bool true) (by simp only [execOp, tb220, tb230]; go_simp) rfl rfl h59
                · as_aux_lemma =>
                    intro V S w2 HM HU HE
                    have lw : Below wy.heap.size wy w2 := Rc.Mod.below HM (fun _ h => h.elim)
                    have h59 : V 59 = .bool true := HU.holds 59 (by decide)
                    have tb210 : (Rg.putUse V [(59, 210), (80, 231)] fr).eval (.tmp 210) = .bool true := (Rg.use_eval V fr 210 [(59, 210), (80, 231)] (by simp only [hz]; decide)).trans h59
                    have h80 : V 80 = .bool true := HU.holds 80 (by decide)
                    have tb231 : (Rg.putUse V [(59, 210), (80, 231)] fr).eval (.tmp 231) = .bool true := (Rg.use_eval V fr 231 [(59, 210), (80, 231)] (by simp only [hz]; decide)).trans h80
                    show Rg.Does1 _ _ V (Rg.putUse V [(59, 210), (80, 231)] fr) w2 _
                    exact Ob.rc_mv (.bool true) (by simp only [execOp, tb210, tb231]; go_simp) rfl rfl True.intro
                · as_aux_lemma =>
                    intro V S w2 HM HU HE
                    have lw : Below wy.heap.size wy w2 := Rc.Mod.below HM (fun _ h => h.elim)
                    have h81 : V 81 = .bool true := HU.holds 81 (by decide)
                    have tb232 : (Rg.putUse V [(81, 232)] fr).eval (.tmp 232) = .bool true := (Rg.use_eval V fr 232 [(81, 232)] (by simp only [hz]; decide)).trans h81
                    show Rg.Does1 _ _ V (Rg.putUse V [(81, 232)] fr) w2 _
                    exact Ob.rc_mv (.bool true) (by simp only [execOp, tb232]; go_simp) rfl rfl True.intro
                · as_aux_lemma =>
                    intro V S w2 HM HU HE
                    have lw : Below wy.heap.size wy w2 := Rc.Mod.below HM (fun _ h => h.elim)
                    have h82 : V 82 = .bool true := HU.holds 82 (by decide)
                    have tb23 : (Rg.putUse V [(82, 233)] fr).eval (.tmp 23) = .slice X5 s.length k5 := (Rg.use_eval V fr 23 [(82, 233)] (by simp only [hz]; decide)).trans y23
                    show Rg.Does1 _ _ V (Rg.putUse V [(82, 233)] fr) w2 _
                    exact Ob.rc_mv (.slice X5 s.length k5) (by simp only [execOp, tb23]; go_simp) rfl rfl h82
                · as_aux_lemma =>
                    intro V S w2 HM HU HE
                    have lw : Below wy.heap.size wy w2 := Rc.Mod.below HM (fun _ h => h.elim)
                    have h82 : V 82 = .bool true := HU.holds 82 (by decide)
                    have tb22 : (Rg.putUse V [(82, 233)] fr).eval (.tmp 22) = .slice X1 r.length k1 := (Rg.use_eval V fr 22 [(82, 233)] (by simp only [hz]; decide)).trans y22
                    show Rg.Does1 _ _ V (Rg.putUse V [(82, 233)] fr) w2 _
                    exact Ob.rc_mv (.slice X1 r.length k1) (by simp only [execOp, tb22]; go_simp) rfl rfl h82
                · as_aux_lemma =>
                    intro V S w2 HM HU HE
                    have lw : Below wy.heap.size wy w2 := Rc.Mod.below HM (fun _ h => h.elim)
                    have h82 : V 82 = .bool true := HU.holds 82 (by decide)
                    have tb2 : (Rg.putUse V [(82, 233)] fr).eval (.tmp 2) = .int .i64 ((q : Nat) : Int) := (Rg.use_eval V fr 2 [(82, 233)] (by simp only [hz]; decide)).trans y2
                    show Rg.Does1 _ _ V (Rg.putUse V [(82, 233)] fr) w2 _
                    exact Ob.rc_mv (.int .i64 ((q : Nat) : Int)) (by simp only [execOp, tb2]; go_simp) rfl rfl h82
                · as_aux_lemma =>
                    intro V S w2 HM HU HE
                    have lw : Below wy.heap.size wy w2 := Rc.Mod.below HM (fun _ h => h.elim)
                    have h82 : V 82 = .bool true := HU.holds 82 (by decide)
                    have tb15 : (Rg.putUse V [(82, 233)] fr).eval (.tmp 15) = .slice (some ⟨b, off, none⟩) R.length c := (Rg.use_eval V fr 15 [(82, 233)] (by simp only [hz]; decide)).trans y15
                    show Rg.Does1 _ _ V (Rg.putUse V [(82, 233)] fr) w2 _
                    exact Ob.rc_mv (.slice (some ⟨b, off, none⟩) R.length c) (by simp only [execOp, tb15]; go_simp) rfl rfl h82
                · as_aux_lemma =>
                    intro V S w2 HM HU HE
                    have lw : Below wy.heap.size wy w2 := Rc.Mod.below HM (fun _ h => h.elim)
                    have h82 : V 82 = .bool true := HU.holds 82 (by decide)
                    have h86 : V 86 = .slice (some ⟨b, off, none⟩) R.length c := HU.holds 86 (by decide)
                    have tb237 : (Rg.putUse V [(82, 233), (86, 237)] fr).eval (.tmp 237) = .slice (some ⟨b, off, none⟩) R.length c := (Rg.use_eval V fr 237 [(82, 233), (86, 237)] (by simp only [hz]; decide)).trans h86
                    show Rg.Does1 _ _ V (Rg.putUse V [(82, 233), (86, 237)] fr) w2 _
                    exact Ob.rc_mv (.int .i64 ((R.length : Nat) : Int)) (by simp only [execOp, resolve, List.map_toArray, List.map_cons, List.map_nil, tb237]; go_simp) rfl rfl h82
                · as_aux_lemma =>
                    intro V S w2 HM HU HE
                    have lw : Below wy.heap.size wy w2 := Rc.Mod.below HM (fun _ h => h.elim)
                    have h82 : V 82 = .bool true := HU.holds 82 (by decide)
                    have tb21 : (Rg.putUse V [(82, 233)] fr).eval (.tmp 21) = .slice HA H.length hc7 := (Rg.use_eval V fr 21 [(82, 233)] (by simp only [hz]; decide)).trans y21
                    show Rg.Does1 _ _ V (Rg.putUse V [(82, 233)] fr) w2 _
                    exact Ob.rc_mv (.slice HA H.length hc7) (by simp only [execOp, tb21]; go_simp) rfl rfl h82
                · as_aux_lemma =>
                    intro V S w2 HM HU HE
                    have lw : Below wy.heap.size wy w2 := Rc.Mod.below HM (fun _ h => h.elim)
                    have h82 : V 82 = .bool true := HU.holds 82 (by decide)
                    have h83 : V 83 = .slice X5 s.length k5 := HU.holds 83 (by decide)
                    have tb234 : (Rg.putUse V [(82, 233), (83, 234), (84, 235), (85, 236), (87, 238), (88, 239)] fr).eval (.tmp 234) = .slice X5 s.length k5 := (Rg.use_eval V fr 234 [(82, 233), (83, 234), (84, 235), (85, 236), (87, 238), (88, 239)] (by simp only [hz]; decide)).trans h83
                    have h84 : V 84 = .slice X1 r.length k1 := HU.holds 84 (by decide)
                    have tb235 : (Rg.putUse V [(82, 233), (83, 234), (84, 235), (85, 236), (87, 238), (88, 239)] fr).eval (.tmp 235) = .slice X1 r.length k1 := (Rg.use_eval V fr 235 [(82, 233), (83, 234), (84, 235), (85, 236), (87, 238), (88, 239)] (by simp only [hz]; decide)).trans h84
                    have h85 : V 85 = .int .i64 ((q : Nat) : Int) := HU.holds 85 (by decide)
                    have tb236 : (Rg.putUse V [(82, 233), (83, 234), (84, 235), (85, 236), (87, 238), (88, 239)] fr).eval (.tmp 236) = .int .i64 ((q : Nat) : Int) := (Rg.use_eval V fr 236 [(82, 233), (83, 234), (84, 235), (85, 236), (87, 238), (88, 239)] (by simp only [hz]; decide)).trans h85
                    have h87 : V 87 = .int .i64 ((R.length : Nat) : Int) := HU.holds 87 (by decide)
                    have tb238 : (Rg.putUse V [(82, 233), (83, 234), (84, 235), (85, 236), (87, 238), (88, 239)] fr).eval (.tmp 238) = .int .i64 ((R.length : Nat) : Int) := (Rg.use_eval V fr 238 [(82, 233), (83, 234), (84, 235), (85, 236), (87, 238), (88, 239)] (by simp only [hz]; decide)).trans h87
                    have h88 : V 88 = .slice HA H.length hc7 := HU.holds 88 (by decide)
                    have tb239 : (Rg.putUse V [(82, 233), (83, 234), (84, 235), (85, 236), (87, 238), (88, 239)] fr).eval (.tmp 239) = .slice HA H.length hc7 := (Rg.use_eval V fr 239 [(82, 233), (83, 234), (84, 235), (85, 236), (87, 238), (88, 239)] (by simp only [hz]; decide)).trans h88
                    show Rg.Does1 _ _ V (Rg.putUse V [(82, 233), (83, 234), (84, 235), (85, 236), (87, 238), (88, 239)] fr) w2 _
                    exact Ob.step_tell (.bool (chkg s r (q : Nat) (R.length : Nat) H)) #[.slice X5 s.length k5, .slice X1 r.length k1, .int .i64 ((q : Nat) : Int), .int .i64 ((R.length : Nat) : Int), .slice HA H.length hc7] (fun args w => Rg.call_enter Tryd.func17 (by kernel_rfl) (by kernel_rfl) args w) rfl (by simp only [List.map_toArray, List.map_cons, List.map_nil, tb234, tb235, tb236, tb238, tb239]) rfl (fun x => Rg.alias_none rfl V x) h82 (pCheckGrown w2 s r X5 X1 k5 k1 q R.length H HA hc7 (by omega) (by omega) (HRr.out.below lw) (HRs.out.below lw) hk5 (.inl hsl.out) (HHz.out.1.below lw) HHz.out.2 HSH.out (by omega) (HKz.out.later lw))
                · as_aux_lemma =>
                    intro V S w2 HM HU HE
                    have lw : Below wy.heap.size wy w2 := Rc.Mod.below HM (fun _ h => h.elim)
                    have h82 : V 82 = .bool true := HU.holds 82 (by decide)
                    have tb23 : (Rg.putUse V [(82, 233)] fr).eval (.tmp 23) = .slice X5 s.length k5 := (Rg.use_eval V fr 23 [(82, 233)] (by simp only [hz]; decide)).trans y23
                    show Rg.Does1 _ _ V (Rg.putUse V [(82, 233)] fr) w2 _
                    exact Ob.rc_mv (.slice X5 s.length k5) (by simp only [execOp, tb23]; go_simp) rfl rfl h82
                · as_aux_lemma =>
                    intro V S w2 HM HU HE
                    have lw : Below wy.heap.size wy w2 := Rc.Mod.below HM (fun _ h => h.elim)
                    have h82 : V 82 = .bool true := HU.holds 82 (by decide)
                    have tb22 : (Rg.putUse V [(82, 233)] fr).eval (.tmp 22) = .slice X1 r.length k1 := (Rg.use_eval V fr 22 [(82, 233)] (by simp only [hz]; decide)).trans y22
                    show Rg.Does1 _ _ V (Rg.putUse V [(82, 233)] fr) w2 _
                    exact Ob.rc_mv (.slice X1 r.length k1) (by simp only [execOp, tb22]; go_simp) rfl rfl h82
                · as_aux_lemma =>
                    intro V S w2 HM HU HE
                    have lw : Below wy.heap.size wy w2 := Rc.Mod.below HM (fun _ h => h.elim)
                    have h82 : V 82 = .bool true := HU.holds 82 (by decide)
                    have tb2 : (Rg.putUse V [(82, 233)] fr).eval (.tmp 2) = .int .i64 ((q : Nat) : Int) := (Rg.use_eval V fr 2 [(82, 233)] (by simp only [hz]; decide)).trans y2
                    show Rg.Does1 _ _ V (Rg.putUse V [(82, 233)] fr) w2 _
                    exact Ob.rc_mv (.int .i64 ((q : Nat) : Int)) (by simp only [execOp, tb2]; go_simp) rfl rfl h82
                · as_aux_lemma =>
                    intro V S w2 HM HU HE
                    have lw : Below wy.heap.size wy w2 := Rc.Mod.below HM (fun _ h => h.elim)
                    have h82 : V 82 = .bool true := HU.holds 82 (by decide)
                    have tb15 : (Rg.putUse V [(82, 233)] fr).eval (.tmp 15) = .slice (some ⟨b, off, none⟩) R.length c := (Rg.use_eval V fr 15 [(82, 233)] (by simp only [hz]; decide)).trans y15
                    show Rg.Does1 _ _ V (Rg.putUse V [(82, 233)] fr) w2 _
                    exact Ob.rc_mv (.slice (some ⟨b, off, none⟩) R.length c) (by simp only [execOp, tb15]; go_simp) rfl rfl h82
                · as_aux_lemma =>
                    intro V S w2 HM HU HE
                    have lw : Below wy.heap.size wy w2 := Rc.Mod.below HM (fun _ h => h.elim)
                    have h82 : V 82 = .bool true := HU.holds 82 (by decide)
                    have h93 : V 93 = .slice (some ⟨b, off, none⟩) R.length c := HU.holds 93 (by decide)
                    have tb244 : (Rg.putUse V [(82, 233), (93, 244)] fr).eval (.tmp 244) = .slice (some ⟨b, off, none⟩) R.length c := (Rg.use_eval V fr 244 [(82, 233), (93, 244)] (by simp only [hz]; decide)).trans h93
                    show Rg.Does1 _ _ V (Rg.putUse V [(82, 233), (93, 244)] fr) w2 _
                    exact Ob.rc_mv (.int .i64 ((R.length : Nat) : Int)) (by simp only [execOp, resolve, List.map_toArray, List.map_cons, List.map_nil, tb244]; go_simp) rfl rfl h82
                · as_aux_lemma =>
                    intro V S w2 HM HU HE
                    have lw : Below wy.heap.size wy w2 := Rc.Mod.below HM (fun _ h => h.elim)
                    have h82 : V 82 = .bool true := HU.holds 82 (by decide)
                    have tb21 : (Rg.putUse V [(82, 233)] fr).eval (.tmp 21) = .slice HA H.length hc7 := (Rg.use_eval V fr 21 [(82, 233)] (by simp only [hz]; decide)).trans y21
                    show Rg.Does1 _ _ V (Rg.putUse V [(82, 233)] fr) w2 _
                    exact Ob.rc_mv (.slice HA H.length hc7) (by simp only [execOp, tb21]; go_simp) rfl rfl h82
                · as_aux_lemma =>
                    intro V S w2 HM HU HE
                    have lw : Below wy.heap.size wy w2 := Rc.Mod.below HM (fun _ h => h.elim)
                    have h82 : V 82 = .bool true := HU.holds 82 (by decide)
                    have h90 : V 90 = .slice X5 s.length k5 := HU.holds 90 (by decide)
                    have tb241 : (Rg.putUse V [(82, 233), (90, 241), (91, 242), (92, 243), (94, 245), (95, 246)] fr).eval (.tmp 241) = .slice X5 s.length k5 := (Rg.use_eval V fr 241 [(82, 233), (90, 241), (91, 242), (92, 243), (94, 245), (95, 246)] (by simp only [hz]; decide)).trans h90
                    have h91 : V 91 = .slice X1 r.length k1 := HU.holds 91 (by decide)
                    have tb242 : (Rg.putUse V [(82, 233), (90, 241), (91, 242), (92, 243), (94, 245), (95, 246)] fr).eval (.tmp 242) = .slice X1 r.length k1 := (Rg.use_eval V fr 242 [(82, 233), (90, 241), (91, 242), (92, 243), (94, 245), (95, 246)] (by simp only [hz]; decide)).trans h91
                    have h92 : V 92 = .int .i64 ((q : Nat) : Int) := HU.holds 92 (by decide)
                    have tb243 : (Rg.putUse V [(82, 233), (90, 241), (91, 242), (92, 243), (94, 245), (95, 246)] fr).eval (.tmp 243) = .int .i64 ((q : Nat) : Int) := (Rg.use_eval V fr 243 [(82, 233), (90, 241), (91, 242), (92, 243), (94, 245), (95, 246)] (by simp only [hz]; decide)).trans h92
                    have h94 : V 94 = .int .i64 ((R.length : Nat) : Int) := HU.holds 94 (by decide)
                    have tb245 : (Rg.putUse V [(82, 233), (90, 241), (91, 242), (92, 243), (94, 245), (95, 246)] fr).eval (.tmp 245) = .int .i64 ((R.length : Nat) : Int) := (Rg.use_eval V fr 245 [(82, 233), (90, 241), (91, 242), (92, 243), (94, 245), (95, 246)] (by simp only [hz]; decide)).trans h94
                    have h95 : V 95 = .slice HA H.length hc7 := HU.holds 95 (by decide)
                    have tb246 : (Rg.putUse V [(82, 233), (90, 241), (91, 242), (92, 243), (94, 245), (95, 246)] fr).eval (.tmp 246) = .slice HA H.length hc7 := (Rg.use_eval V fr 246 [(82, 233), (90, 241), (91, 242), (92, 243), (94, 245), (95, 246)] (by simp only [hz]; decide)).trans h95
                    show Rg.Does1 _ _ V (Rg.putUse V [(82, 233), (90, 241), (91, 242), (92, 243), (94, 245), (95, 246)] fr) w2 _
                    exact Ob.step_tell (.bool (chkg s r (q : Nat) (R.length : Nat) H)) #[.slice X5 s.length k5, .slice X1 r.length k1, .int .i64 ((q : Nat) : Int), .int .i64 ((R.length : Nat) : Int), .slice HA H.length hc7] (fun args w => Rg.call_enter Tryd.func23 (by kernel_rfl) (by kernel_rfl) args w) rfl (by simp only [List.map_toArray, List.map_cons, List.map_nil, tb241, tb242, tb243, tb245, tb246]) rfl (fun x => Rg.alias_none rfl V x) h82 (rCheckGrown w2 s r X5 X1 k5 k1 q R.length H HA hc7 (by omega) (by omega) (HRr.out.below lw) (HRs.out.below lw) hk5 (.inl hsl.out) (HHz.out.1.below lw) HHz.out.2 HSH.out (by omega) trivial)
                · as_aux_lemma =>
                    intro V S w2 HM HU HE
                    have lw : Below wy.heap.size wy w2 := Rc.Mod.below HM (fun _ h => h.elim)
                    have h82 : V 82 = .bool true := HU.holds 82 (by decide)
                    have h89 : V 89 = .bool (chkg s r (q : Nat) (R.length : Nat) H) := HU.holds 89 (by decide)
                    have tb240 : (Rg.putUse V [(82, 233), (89, 240), (96, 247)] fr).eval (.tmp 240) = .bool (chkg s r (q : Nat) (R.length : Nat) H) := (Rg.use_eval V fr 240 [(82, 233), (89, 240), (96, 247)] (by simp only [hz]; decide)).trans h89
                    have h96 : V 96 = .bool (chkg s r (q : Nat) (R.length : Nat) H) := HU.holds 96 (by decide)
                    have tb247 : (Rg.putUse V [(82, 233), (89, 240), (96, 247)] fr).eval (.tmp 247) = .bool (chkg s r (q : Nat) (R.length : Nat) H) := (Rg.use_eval V fr 247 [(82, 233), (89, 240), (96, 247)] (by simp only [hz]; decide)).trans h96
                    show Rg.Does1 _ _ V (Rg.putUse V [(82, 233), (89, 240), (96, 247)] fr) w2 _
                    exact Ob.rc_mv (.bool true) (by simp only [execOp, tb240, tb247]; go_simp) rfl rfl h82
                · as_aux_lemma =>
                    intro V S w2 HM HU HE
                    have lw : Below wy.heap.size wy w2 := Rc.Mod.below HM (fun _ h => h.elim)
                    have h82 : V 82 = .bool true := HU.holds 82 (by decide)
                    have tb233 : (Rg.putUse V [(82, 233), (97, 248)] fr).eval (.tmp 233) = .bool true := (Rg.use_eval V fr 233 [(82, 233), (97, 248)] (by simp only [hz]; decide)).trans h82
                    have h97 : V 97 = .bool true := HU.holds 97 (by decide)
                    have tb248 : (Rg.putUse V [(82, 233), (97, 248)] fr).eval (.tmp 248) = .bool true := (Rg.use_eval V fr 248 [(82, 233), (97, 248)] (by simp only [hz]; decide)).trans h97
                    show Rg.Does1 _ _ V (Rg.putUse V [(82, 233), (97, 248)] fr) w2 _
                    exact Ob.rc_mv (.bool true) (by simp only [execOp, tb233, tb248]; go_simp) rfl rfl True.intro
                · as_aux_lemma =>
                    intro V S w2 HM HU HE
                    have lw : Below wy.heap.size wy w2 := Rc.Mod.below HM (fun _ h => h.elim)
                    have h98 : V 98 = .bool true := HU.holds 98 (by decide)
                    have tb249 : (Rg.putUse V [(98, 249)] fr).eval (.tmp 249) = .bool true := (Rg.use_eval V fr 249 [(98, 249)] (by simp only [hz]; decide)).trans h98
                    show Rg.Does1 _ _ V (Rg.putUse V [(98, 249)] fr) w2 _
                    exact Ob.rc_mv (.bool true) (by simp only [execOp, tb249]; go_simp) rfl rfl True.intro
                · as_aux_lemma =>
                    intro V S w2 HM HU HE
                    have lw : Below wy.heap.size wy w2 := Rc.Mod.below HM (fun _ h => h.elim)
                    have h99 : V 99 = .bool true := HU.holds 99 (by decide)
                    have tb23 : (Rg.putUse V [(99, 250)] fr).eval (.tmp 23) = .slice X5 s.length k5 := (Rg.use_eval V fr 23 [(99, 250)] (by simp only [hz]; decide)).trans y23
                    show Rg.Does1 _ _ V (Rg.putUse V [(99, 250)] fr) w2 _
                    exact Ob.rc_mv (.slice X5 s.length k5) (by simp only [execOp, tb23]; go_simp) rfl rfl h99
                · as_aux_lemma =>
                    intro V S w2 HM HU HE
                    have lw : Below wy.heap.size wy w2 := Rc.Mod.below HM (fun _ h => h.elim)
                    have h99 : V 99 = .bool true := HU.holds 99 (by decide)
                    have tb22 : (Rg.putUse V [(99, 250)] fr).eval (.tmp 22) = .slice X1 r.length k1 := (Rg.use_eval V fr 22 [(99, 250)] (by simp only [hz]; decide)).trans y22
                    show Rg.Does1 _ _ V (Rg.putUse V [(99, 250)] fr) w2 _
                    exact Ob.rc_mv (.slice X1 r.length k1) (by simp only [execOp, tb22]; go_simp) rfl rfl h99
                · as_aux_lemma =>
                    intro V S w2 HM HU HE
                    have lw : Below wy.heap.size wy w2 := Rc.Mod.below HM (fun _ h => h.elim)
                    have h99 : V 99 = .bool true := HU.holds 99 (by decide)
                    have tb4 : (Rg.putUse V [(99, 250)] fr).eval (.tmp 4) = .int .i64 nn := (Rg.use_eval V fr 4 [(99, 250)] (by simp only [hz]; decide)).trans y4
                    show Rg.Does1 _ _ V (Rg.putUse V [(99, 250)] fr) w2 _
                    exact Ob.rc_mv (.int .i64 nn) (by simp only [execOp, tb4]; go_simp) rfl rfl h99
                · as_aux_lemma =>
                    intro V S w2 HM HU HE
                    have lw : Below wy.heap.size wy w2 := Rc.Mod.below HM (fun _ h => h.elim)
                    have h99 : V 99 = .bool true := HU.holds 99 (by decide)
                    have tb15 : (Rg.putUse V [(99, 250)] fr).eval (.tmp 15) = .slice (some ⟨b, off, none⟩) R.length c := (Rg.use_eval V fr 15 [(99, 250)] (by simp only [hz]; decide)).trans y15
                    show Rg.Does1 _ _ V (Rg.putUse V [(99, 250)] fr) w2 _
                    exact Ob.rc_mv (.slice (some ⟨b, off, none⟩) R.length c) (by simp only [execOp, tb15]; go_simp) rfl rfl h99
                · as_aux_lemma =>
                    intro V S w2 HM HU HE
                    have lw : Below wy.heap.size wy w2 := Rc.Mod.below HM (fun _ h => h.elim)
                    have h99 : V 99 = .bool true := HU.holds 99 (by decide)
                    have h103 : V 103 = .slice (some ⟨b, off, none⟩) R.length c := HU.holds 103 (by decide)
                    have tb254 : (Rg.putUse V [(99, 250), (103, 254)] fr).eval (.tmp 254) = .slice (some ⟨b, off, none⟩) R.length c := (Rg.use_eval V fr 254 [(99, 250), (103, 254)] (by simp only [hz]; decide)).trans h103
                    show Rg.Does1 _ _ V (Rg.putUse V [(99, 250), (103, 254)] fr) w2 _
                    exact Ob.rc_mv (.int .i64 ((R.length : Nat) : Int)) (by simp only [execOp, resolve, List.map_toArray, List.map_cons, List.map_nil, tb254]; go_simp) rfl rfl h99
                · as_aux_lemma =>
                    intro V S w2 HM HU HE
                    have lw : Below wy.heap.size wy w2 := Rc.Mod.below HM (fun _ h => h.elim)
                    have h99 : V 99 = .bool true := HU.holds 99 (by decide)
                    have tb21 : (Rg.putUse V [(99, 250)] fr).eval (.tmp 21) = .slice HA H.length hc7 := (Rg.use_eval V fr 21 [(99, 250)] (by simp only [hz]; decide)).trans y21
                    show Rg.Does1 _ _ V (Rg.putUse V [(99, 250)] fr) w2 _
                    exact Ob.rc_mv (.slice HA H.length hc7) (by simp only [execOp, tb21]; go_simp) rfl rfl h99
                · as_aux_lemma =>
                    intro V S w2 HM HU HE
                    have lw : Below wy.heap.size wy w2 := Rc.Mod.below HM (fun _ h => h.elim)
                    have h99 : V 99 = .bool true := HU.holds 99 (by decide)
                    have h100 : V 100 = .slice X5 s.length k5 := HU.holds 100 (by decide)
                    have tb251 : (Rg.putUse V [(99, 250), (100, 251), (101, 252), (102, 253), (104, 255), (105, 256)] fr).eval (.tmp 251) = .slice X5 s.length k5 := (Rg.use_eval V fr 251 [(99, 250), (100, 251), (101, 252), (102, 253), (104, 255), (105, 256)] (by simp only [hz]; decide)).trans h100
                    have h101 : V 101 = .slice X1 r.length k1 := HU.holds 101 (by decide)
                    have tb252 : (Rg.putUse V [(99, 250), (100, 251), (101, 252), (102, 253), (104, 255), (105, 256)] fr).eval (.tmp 252) = .slice X1 r.length k1 := (Rg.use_eval V fr 252 [(99, 250), (100, 251), (101, 252), (102, 253), (104, 255), (105, 256)] (by simp only [hz]; decide)).trans h101
                    have h102 : V 102 = .int .i64 nn := HU.holds 102 (by decide)
                    have tb253 : (Rg.putUse V [(99, 250), (100, 251), (101, 252), (102, 253), (104, 255), (105, 256)] fr).eval (.tmp 253) = .int .i64 nn := (Rg.use_eval V fr 253 [(99, 250), (100, 251), (101, 252), (102, 253), (104, 255), (105, 256)] (by simp only [hz]; decide)).trans h102
                    have h104 : V 104 = .int .i64 ((R.length : Nat) : Int) := HU.holds 104 (by decide)
                    have tb255 : (Rg.putUse V [(99, 250), (100, 251), (101, 252), (102, 253), (104, 255), (105, 256)] fr).eval (.tmp 255) = .int .i64 ((R.length : Nat) : Int) := (Rg.use_eval V fr 255 [(99, 250), (100, 251), (101, 252), (102, 253), (104, 255), (105, 256)] (by simp only [hz]; decide)).trans h104
                    have h105 : V 105 = .slice HA H.length hc7 := HU.holds 105 (by decide)
                    have tb256 : (Rg.putUse V [(99, 250), (100, 251), (101, 252), (102, 253), (104, 255), (105, 256)] fr).eval (.tmp 256) = .slice HA H.length hc7 := (Rg.use_eval V fr 256 [(99, 250), (100, 251), (101, 252), (102, 253), (104, 255), (105, 256)] (by simp only [hz]; decide)).trans h105
                    show Rg.Does1 _ _ V (Rg.putUse V [(99, 250), (100, 251), (101, 252), (102, 253), (104, 255), (105, 256)] fr) w2 _
                    exact Ob.step_tell (.bool (chkg s r nn (R.length : Nat) H)) #[.slice X5 s.length k5, .slice X1 r.length k1, .int .i64 nn, .int .i64 ((R.length : Nat) : Int), .slice HA H.length hc7] (fun args w => Rg.call_enter Tryd.func17 (by kernel_rfl) (by kernel_rfl) args w) rfl (by simp only [List.map_toArray, List.map_cons, List.map_nil, tb251, tb252, tb253, tb255, tb256]) rfl (fun x => Rg.alias_none rfl V x) h99 (pCheckGrown w2 s r X5 X1 k5 k1 nn R.length H HA hc7 (by omega) (by omega) (HRr.out.below lw) (HRs.out.below lw) hk5 (.inl hsl.out) (HHz.out.1.below lw) HHz.out.2 HSH.out (by omega) (HKz.out.later lw))
                · as_aux_lemma =>
                    intro V S w2 HM HU HE
                    have lw : Below wy.heap.size wy w2 := Rc.Mod.below HM (fun _ h => h.elim)
                    have h99 : V 99 = .bool true := HU.holds 99 (by decide)
                    have tb23 : (Rg.putUse V [(99, 250)] fr).eval (.tmp 23) = .slice X5 s.length k5 := (Rg.use_eval V fr 23 [(99, 250)] (by simp only [hz]; decide)).trans y23
                    show Rg.Does1 _ _ V (Rg.putUse V [(99, 250)] fr) w2 _
                    exact Ob.rc_mv (.slice X5 s.length k5) (by simp only [execOp, tb23]; go_simp) rfl rfl h99
                · as_aux_lemma =>
                    intro V S w2 HM HU HE
                    have lw : Below wy.heap.size wy w2 := Rc.Mod.below HM (fun _ h => h.elim)
                    have h99 : V 99 = .bool true := HU.holds 99 (by decide)
                    have tb22 : (Rg.putUse V [(99, 250)] fr).eval (.tmp 22) = .slice X1 r.length k1 := (Rg.use_eval V fr 22 [(99, 250)] (by simp only [hz]; decide)).trans y22
                    show Rg.Does1 _ _ V (Rg.putUse V [(99, 250)] fr) w2 _
                    exact Ob.rc_mv (.slice X1 r.length k1) (by simp only [execOp, tb22]; go_simp) rfl rfl h99
                · as_aux_lemma =>
                    intro V S w2 HM HU HE
                    have lw : Below wy.heap.size wy w2 := Rc.Mod.below HM (fun _ h => h.elim)
                    have h99 : V 99 = .bool true := HU.holds 99 (by decide)
                    have tb4 : (Rg.putUse V [(99, 250)] fr).eval (.tmp 4) = .int .i64 nn := (Rg.use_eval V fr 4 [(99, 250)] (by simp only [hz]; decide)).trans y4
                    show Rg.Does1 _ _ V (Rg.putUse V [(99, 250)] fr) w2 _
                    exact Ob.rc_mv (.int .i64 nn) (by simp only [execOp, tb4]; go_simp) rfl rfl h99
                · as_aux_lemma =>
                    intro V S w2 HM HU HE
                    have lw : Below wy.heap.size wy w2 := Rc.Mod.below HM (fun _ h => h.elim)
                    have h99 : V 99 = .bool true := HU.holds 99 (by decide)
                    have tb15 : (Rg.putUse V [(99, 250)] fr).eval (.tmp 15) = .slice (some ⟨b, off, none⟩) R.length c := (Rg.use_eval V fr 15 [(99, 250)] (by simp only [hz]; decide)).trans y15
                    show Rg.Does1 _ _ V (Rg.putUse V [(99, 250)] fr) w2 _
                    exact Ob.rc_mv (.slice (some ⟨b, off, none⟩) R.length c) (by simp only [execOp, tb15]; go_simp) rfl rfl h99
                · as_aux_lemma =>
                    intro V S w2 HM HU HE
                    have lw : Below wy.heap.size wy w2 := Rc.Mod.below HM (fun _ h => h.elim)
                    have h99 : V 99 = .bool true := HU.holds 99 (by decide)
                    have h110 : V 110 = .slice (some ⟨b, off, none⟩) R.length c := HU.holds 110 (by decide)
                    have tb261 : (Rg.putUse V [(99, 250), (110, 261)] fr).eval (.tmp 261) = .slice (some ⟨b, off, none⟩) R.length c := (Rg.use_eval V fr 261 [(99, 250), (110, 261)] (by simp only [hz]; decide)).trans h110
                    show Rg.Does1 _ _ V (Rg.putUse V [(99, 250), (110, 261)] fr) w2 _
                    exact Ob.rc_mv (.int .i64 ((R.length : Nat) : Int)) (by simp only [execOp, resolve, List.map_toArray, List.map_cons, List.map_nil, tb261]; go_simp) rfl rfl h99
                · as_aux_lemma =>
                    intro V S w2 HM HU HE
                    have lw : Below wy.heap.size wy w2 := Rc.Mod.below HM (fun _ h => h.elim)
                    have h99 : V 99 = .bool true := HU.holds 99 (by decide)
                    have tb21 : (Rg.putUse V [(99, 250)] fr).eval (.tmp 21) = .slice HA H.length hc7 := (Rg.use_eval V fr 21 [(99, 250)] (by simp only [hz]; decide)).trans y21
                    show Rg.Does1 _ _ V (Rg.putUse V [(99, 250)] fr) w2 _
                    exact Ob.rc_mv (.slice HA H.length hc7) (by simp only [execOp, tb21]; go_simp) rfl rfl h99
                · as_aux_lemma =>
                    intro V S w2 HM HU HE
                    have lw : Below wy.heap.size wy w2 := Rc.Mod.below HM (fun _ h => h.elim)
                    have h99 : V 99 = .bool true := HU.holds 99 (by decide)
                    have h107 : V 107 = .slice X5 s.length k5 := HU.holds 107 (by decide)
                    have tb258 : (Rg.putUse V [(99, 250), (107, 258), (108, 259), (109, 260), (111, 262), (112, 263)] fr).eval (.tmp 258) = .slice X5 s.length k5 := (Rg.use_eval V fr 258 [(99, 250), (107, 258), (108, 259), (109, 260), (111, 262), (112, 263)] (by simp only [hz]; decide)).trans h107
                    have h108 : V 108 = .slice X1 r.length k1 := HU.holds 108 (by decide)
                    have tb259 : (Rg.putUse V [(99, 250), (107, 258), (108, 259), (109, 260), (111, 262), (112, 263)] fr).eval (.tmp 259) = .slice X1 r.length k1 := (Rg.use_eval V fr 259 [(99, 250), (107, 258), (108, 259), (109, 260), (111, 262), (112, 263)] (by simp only [hz]; decide)).trans h108
                    have h109 : V 109 = .int .i64 nn := HU.holds 109 (by decide)
                    have tb260 : (Rg.putUse V [(99, 250), (107, 258), (108, 259), (109, 260), (111, 262), (112, 263)] fr).eval (.tmp 260) = .int .i64 nn := (Rg.use_eval V fr 260 [(99, 250), (107, 258), (108, 259), (109, 260), (111, 262), (112, 263)] (by simp only [hz]; decide)).trans h109
                    have h111 : V 111 = .int .i64 ((R.length : Nat) : Int) := HU.holds 111 (by decide)
                    have tb262 : (Rg.putUse V [(99, 250), (107, 258), (108, 259), (109, 260), (111, 262), (112, 263)] fr).eval (.tmp 262) = .int .i64 ((R.length : Nat) : Int) := (Rg.use_eval V fr 262 [(99, 250), (107, 258), (108, 259), (109, 260), (111, 262), (112, 263)] (by simp only [hz]; decide)).trans h111
                    have h112 : V 112 = .slice HA H.length hc7 := HU.holds 112 (by decide)
                    have tb263 : (Rg.putUse V [(99, 250), (107, 258), (108, 259), (109, 260), (111, 262), (112, 263)] fr).eval (.tmp 263) = .slice HA H.length hc7 := (Rg.use_eval V fr 263 [(99, 250), (107, 258), (108, 259), (109, 260), (111, 262), (112, 263)] (by simp only [hz]; decide)).trans h112
                    show Rg.Does1 _ _ V (Rg.putUse V [(99, 250), (107, 258), (108, 259), (109, 260), (111, 262), (112, 263)] fr) w2 _
                    exact Ob.step_tell (.bool (chkg s r nn (R.length : Nat) H)) #[.slice X5 s.length k5, .slice X1 r.length k1, .int .i64 nn, .int .i64 ((R.length : Nat) : Int), .slice HA H.length hc7] (fun args w => Rg.call_enter Tryd.func23 (by kernel_rfl) (by kernel_rfl) args w) rfl (by simp only [List.map_toArray, List.map_cons, List.map_nil, tb258, tb259, tb260, tb262, tb263]) rfl (fun x => Rg.alias_none rfl V x) h99 (rCheckGrown w2 s r X5 X1 k5 k1 nn R.length H HA hc7 (by omega) (by omega) (HRr.out.below lw) (HRs.out.below lw) hk5 (.inl hsl.out) (HHz.out.1.below lw) HHz.out.2 HSH.out (by omega) trivial)
                · as_aux_lemma =>
                    intro V S w2 HM HU HE
                    have lw : Below wy.heap.size wy w2 := Rc.Mod.below HM (fun _ h => h.elim)
                    have h99 : V 99 = .bool true := HU.holds 99 (by decide)
                    have h106 : V 106 = .bool (chkg s r nn (R.length : Nat) H) := HU.holds 106 (by decide)
                    have tb257 : (Rg.putUse V [(99, 250), (106, 257), (113, 264)] fr).eval (.tmp 257) = .bool (chkg s r nn (R.length : Nat) H) := (Rg.use_eval V fr 257 [(99, 250), (106, 257), (113, 264)] (by simp only [hz]; decide)).trans h106
                    have h113 : V 113 = .bool (chkg s r nn (R.length : Nat) H) := HU.holds 113 (by decide)
                    have tb264 : (Rg.putUse V [(99, 250), (106, 257), (113, 264)] fr).eval (.tmp 264) = .bool (chkg s r nn (R.length : Nat) H) := (Rg.use_eval V fr 264 [(99, 250), (106, 257), (113, 264)] (by simp only [hz]; decide)).trans h113
                    show Rg.Does1 _ _ V (Rg.putUse V [(99, 250), (106, 257), (113, 264)] fr) w2 _
                    exact Ob.rc_mv (.bool true) (by simp only [execOp, tb257, tb264]; go_simp) rfl rfl h99
                · as_aux_lemma =>
                    intro V S w2 HM HU HE
                    have lw : Below wy.heap.size wy w2 := Rc.Mod.below HM (fun _ h => h.elim)
                    have h99 : V 99 = .bool true := HU.holds 99 (by decide)
                    have tb250 : (Rg.putUse V [(99, 250), (114, 265)] fr).eval (.tmp 250) = .bool true := (Rg.use_eval V fr 250 [(99, 250), (114, 265)] (by simp only [hz]; decide)).trans h99
                    have h114 : V 114 = .bool true := HU.holds 114 (by decide)
                    have tb265 : (Rg.putUse V [(99, 250), (114, 265)] fr).eval (.tmp 265) = .bool true := (Rg.use_eval V fr 265 [(99, 250), (114, 265)] (by simp only [hz]; decide)).trans h114
                    show Rg.Does1 _ _ V (Rg.putUse V [(99, 250), (114, 265)] fr) w2 _
                    exact Ob.rc_mv (.bool true) (by simp only [execOp, tb250, tb265]; go_simp) rfl rfl True.intro
                · as_aux_lemma =>
                    intro V S w2 HM HU HE
                    have lw : Below wy.heap.size wy w2 := Rc.Mod.below HM (fun _ h => h.elim)
                    have h115 : V 115 = .bool true := HU.holds 115 (by decide)
                    have tb266 : (Rg.putUse V [(115, 266)] fr).eval (.tmp 266) = .bool true := (Rg.use_eval V fr 266 [(115, 266)] (by simp only [hz]; decide)).trans h115
                    show Rg.Does1 _ _ V (Rg.putUse V [(115, 266)] fr) w2 _
                    exact Ob.rc_mv (.bool true) (by simp only [execOp, tb266]; go_simp) rfl rfl True.intro
                · as_aux_lemma =>
                    intro V S w2 HM HU HE
                    have lw : Below wy.heap.size wy w2 := Rc.Mod.below HM (fun _ h => h.elim)
                    have h116 : V 116 = .bool true := HU.holds 116 (by decide)
                    have tb23 : (Rg.putUse V [(116, 267)] fr).eval (.tmp 23) = .slice X5 s.length k5 := (Rg.use_eval V fr 23 [(116, 267)] (by simp only [hz]; decide)).trans y23
                    show Rg.Does1 _ _ V (Rg.putUse V [(116, 267)] fr) w2 _
                    exact Ob.rc_mv (.slice X5 s.length k5) (by simp only [execOp, tb23]; go_simp) rfl rfl h116
                · as_aux_lemma =>
                    intro V S w2 HM HU HE
                    have lw : Below wy.heap.size wy w2 := Rc.Mod.below HM (fun _ h => h.elim)
                    have h116 : V 116 = .bool true := HU.holds 116 (by decide)
                    have tb22 : (Rg.putUse V [(116, 267)] fr).eval (.tmp 22) = .slice X1 r.length k1 := (Rg.use_eval V fr 22 [(116, 267)] (by simp only [hz]; decide)).trans y22
                    show Rg.Does1 _ _ V (Rg.putUse V [(116, 267)] fr) w2 _
                    exact Ob.rc_mv (.slice X1 r.length k1) (by simp only [execOp, tb22]; go_simp) rfl rfl h116
                · as_aux_lemma =>
                    intro V S w2 HM HU HE
                    have lw : Below wy.heap.size wy w2 := Rc.Mod.below HM (fun _ h => h.elim)
                    have h116 : V 116 = .bool true := HU.holds 116 (by decide)
                    have tb2 : (Rg.putUse V [(116, 267)] fr).eval (.tmp 2) = .int .i64 ((q : Nat) : Int) := (Rg.use_eval V fr 2 [(116, 267)] (by simp only [hz]; decide)).trans y2
                    show Rg.Does1 _ _ V (Rg.putUse V [(116, 267)] fr) w2 _
                    exact Ob.rc_mv (.int .i64 ((q : Nat) : Int)) (by simp only [execOp, tb2]; go_simp) rfl rfl h116
                · as_aux_lemma =>
                    intro V S w2 HM HU HE
                    have lw : Below wy.heap.size wy w2 := Rc.Mod.below HM (fun _ h => h.elim)
                    have h116 : V 116 = .bool true := HU.holds 116 (by decide)
                    have tb4 : (Rg.putUse V [(116, 267)] fr).eval (.tmp 4) = .int .i64 nn := (Rg.use_eval V fr 4 [(116, 267)] (by simp only [hz]; decide)).trans y4
                    show Rg.Does1 _ _ V (Rg.putUse V [(116, 267)] fr) w2 _
                    exact Ob.rc_mv (.int .i64 nn) (by simp only [execOp, tb4]; go_simp) rfl rfl h116
                · as_aux_lemma =>
                    intro V S w2 HM HU HE
                    have lw : Below wy.heap.size wy w2 := Rc.Mod.below HM (fun _ h => h.elim)
                    have h116 : V 116 = .bool true := HU.holds 116 (by decide)
                    have tb21 : (Rg.putUse V [(116, 267)] fr).eval (.tmp 21) = .slice HA H.length hc7 := (Rg.use_eval V fr 21 [(116, 267)] (by simp only [hz]; decide)).trans y21
                    show Rg.Does1 _ _ V (Rg.putUse V [(116, 267)] fr) w2 _
                    exact Ob.rc_mv (.slice HA H.length hc7) (by simp only [execOp, tb21]; go_simp) rfl rfl h116
                · as_aux_lemma =>
                    intro V S w2 HM HU HE
                    have lw : Below wy.heap.size wy w2 := Rc.Mod.below HM (fun _ h => h.elim)
                    have h116 : V 116 = .bool true := HU.holds 116 (by decide)
                    have h117 : V 117 = .slice X5 s.length k5 := HU.holds 117 (by decide)
                    have tb268 : (Rg.putUse V [(116, 267), (117, 268), (118, 269), (119, 270), (120, 271), (121, 272)] fr).eval (.tmp 268) = .slice X5 s.length k5 := (Rg.use_eval V fr 268 [(116, 267), (117, 268), (118, 269), (119, 270), (120, 271), (121, 272)] (by simp only [hz]; decide)).trans h117
                    have h118 : V 118 = .slice X1 r.length k1 := HU.holds 118 (by decide)
                    have tb269 : (Rg.putUse V [(116, 267), (117, 268), (118, 269), (119, 270), (120, 271), (121, 272)] fr).eval (.tmp 269) = .slice X1 r.length k1 := (Rg.use_eval V fr 269 [(116, 267), (117, 268), (118, 269), (119, 270), (120, 271), (121, 272)] (by simp only [hz]; decide)).trans h118
                    have h119 : V 119 = .int .i64 ((q : Nat) : Int) := HU.holds 119 (by decide)
                    have tb270 : (Rg.putUse V [(116, 267), (117, 268), (118, 269), (119, 270), (120, 271), (121, 272)] fr).eval (.tmp 270) = .int .i64 ((q : Nat) : Int) := (Rg.use_eval V fr 270 [(116, 267), (117, 268), (118, 269), (119, 270), (120, 271), (121, 272)] (by simp only [hz]; decide)).trans h119
                    have h120 : V 120 = .int .i64 nn := HU.holds 120 (by decide)
                    have tb271 : (Rg.putUse V [(116, 267), (117, 268), (118, 269), (119, 270), (120, 271), (121, 272)] fr).eval (.tmp 271) = .int .i64 nn := (Rg.use_eval V fr 271 [(116, 267), (117, 268), (118, 269), (119, 270), (120, 271), (121, 272)] (by simp only [hz]; decide)).trans h120
                    have h121 : V 121 = .slice HA H.length hc7 := HU.holds 121 (by decide)
                    have tb272 : (Rg.putUse V [(116, 267), (117, 268), (118, 269), (119, 270), (120, 271), (121, 272)] fr).eval (.tmp 272) = .slice HA H.length hc7 := (Rg.use_eval V fr 272 [(116, 267), (117, 268), (118, 269), (119, 270), (120, 271), (121, 272)] (by simp only [hz]; decide)).trans h121
                    show Rg.Does1 _ _ V (Rg.putUse V [(116, 267), (117, 268), (118, 269), (119, 270), (120, 271), (121, 272)] fr) w2 _
                    exact Ob.step_tell (.bool (chkg s r (q : Nat) nn H)) #[.slice X5 s.length k5, .slice X1 r.length k1, .int .i64 ((q : Nat) : Int), .int .i64 nn, .slice HA H.length hc7] (fun args w => Rg.call_enter Tryd.func17 (by kernel_rfl) (by kernel_rfl) args w) rfl (by simp only [List.map_toArray, List.map_cons, List.map_nil, tb268, tb269, tb270, tb271, tb272]) rfl (fun x => Rg.alias_none rfl V x) h116 (pCheckGrown w2 s r X5 X1 k5 k1 q nn H HA hc7 (by omega) (by omega) (HRr.out.below lw) (HRs.out.below lw) hk5 (.inl hsl.out) (HHz.out.1.below lw) HHz.out.2 HSH.out (by omega) (HKz.out.later lw))
                · as_aux_lemma =>
                    intro V S w2 HM HU HE
                    have lw : Below wy.heap.size wy w2 := Rc.Mod.below HM (fun _ h => h.elim)
                    have h116 : V 116 = .bool true := HU.holds 116 (by decide)
                    have tb23 : (Rg.putUse V [(116, 267)] fr).eval (.tmp 23) = .slice X5 s.length k5 := (Rg.use_eval V fr 23 [(116, 267)] (by simp only [hz]; decide)).trans y23
                    show Rg.Does1 _ _ V (Rg.putUse V [(116, 267)] fr) w2 _
                    exact Ob.rc_mv (.slice X5 s.length k5) (by simp only [execOp, tb23]; go_simp) rfl rfl h116
                · as_aux_lemma =>
                    intro V S w2 HM HU HE
                    have lw : Below wy.heap.size wy w2 := Rc.Mod.below HM (fun _ h => h.elim)
                    have h116 : V 116 = .bool true := HU.holds 116 (by decide)
                    have tb22 : (Rg.putUse V [(116, 267)] fr).eval (.tmp 22) = .slice X1 r.length k1 := (Rg.use_eval V fr 22 [(116, 267)] (by simp only [hz]; decide)).trans y22
                    show Rg.Does1 _ _ V (Rg.putUse V [(116, 267)] fr) w2 _
                    exact Ob.rc_mv (.slice X1 r.length k1) (by simp only [execOp, tb22]; go_simp) rfl rfl h116
                · as_aux_lemma =>
                    intro V S w2 HM HU HE
                    have lw : Below wy.heap.size wy w2 := Rc.Mod.below HM (fun _ h => h.elim)
                    have h116 : V 116 = .bool true := HU.holds 116 (by decide)
                    have tb2 : (Rg.putUse V [(116, 267)] fr).eval (.tmp 2) = .int .i64 ((q : Nat) : Int) := (Rg.use_eval V fr 2 [(116, 267)] (by simp only [hz]; decide)).trans y2
                    show Rg.Does1 _ _ V (Rg.putUse V [(116, 267)] fr) w2 _
                    exact Ob.rc_mv (.int .i64 ((q : Nat) : Int)) (by simp only [execOp, tb2]; go_simp) rfl rfl h116
                · as_aux_lemma =>
                    intro V S w2 HM HU HE
                    have lw : Below wy.heap.size wy w2 := Rc.Mod.below HM (fun _ h => h.elim)
                    have h116 : V 116 = .bool true := HU.holds 116 (by decide)
                    have tb4 : (Rg.putUse V [(116, 267)] fr).eval (.tmp 4) = .int .i64 nn := (Rg.use_eval V fr 4 [(116, 267)] (by simp only [hz]; decide)).trans y4
                    show Rg.Does1 _ _ V (Rg.putUse V [(116, 267)] fr) w2 _
                    exact Ob.rc_mv (.int .i64 nn) (by simp only [execOp, tb4]; go_simp) rfl rfl h116
                · as_aux_lemma =>
                    intro V S w2 HM HU HE
                    have lw : Below wy.heap.size wy w2 := Rc.Mod.below HM (fun _ h => h.elim)
                    have h116 : V 116 = .bool true := HU.holds 116 (by decide)
                    have tb21 : (Rg.putUse V [(116, 267)] fr).eval (.tmp 21) = .slice HA H.length hc7 := (Rg.use_eval V fr 21 [(116, 267)] (by simp only [hz]; decide)).trans y21
                    show Rg.Does1 _ _ V (Rg.putUse V [(116, 267)] fr) w2 _
                    exact Ob.rc_mv (.slice HA H.length hc7) (by simp only [execOp, tb21]; go_simp) rfl rfl h116
                · as_aux_lemma =>
                    intro V S w2 HM HU HE
                    have lw : Below wy.heap.size wy w2 := Rc.Mod.below HM (fun _ h => h.elim)
                    have h116 : V 116 = .bool true := HU.holds 116 (by decide)
                    have h123 : V 123 = .slice X5 s.length k5 := HU.holds 123 (by decide)
                    have tb274 : (Rg.putUse V [(116, 267), (123, 274), (124, 275), (125, 276), (126, 277), (127, 278)] fr).eval (.tmp 274) = .slice X5 s.length k5 := (Rg.use_eval V fr 274 [(116, 267), (123, 274), (124, 275), (125, 276), (126, 277), (127, 278)] (by simp only [hz]; decide)).trans h123
                    have h124 : V 124 = .slice X1 r.length k1 := HU.holds 124 (by decide)
                    have tb275 : (Rg.putUse V [(116, 267), (123, 274), (124, 275), (125, 276), (126, 277), (127, 278)] fr).eval (.tmp 275) = .slice X1 r.length k1 := (Rg.use_eval V fr 275 [(116, 267), (123, 274), (124, 275), (125, 276), (126, 277), (127, 278)] (by simp only [hz]; decide)).trans h124
                    have h125 : V 125 = .int .i64 ((q : Nat) : Int) := HU.holds 125 (by decide)
                    have tb276 : (Rg.putUse V [(116, 267), (123, 274), (124, 275), (125, 276), (126, 277), (127, 278)] fr).eval (.tmp 276) = .int .i64 ((q : Nat) : Int) := (Rg.use_eval V fr 276 [(116, 267), (123, 274), (124, 275), (125, 276), (126, 277), (127, 278)] (by simp only [hz]; decide)).trans h125
                    have h126 : V 126 = .int .i64 nn := HU.holds 126 (by decide)
                    have tb277 : (Rg.putUse V [(116, 267), (123, 274), (124, 275), (125, 276), (126, 277), (127, 278)] fr).eval (.tmp 277) = .int .i64 nn := (Rg.use_eval V fr 277 [(116, 267), (123, 274), (124, 275), (125, 276), (126, 277), (127, 278)] (by simp only [hz]; decide)).trans h126
                    have h127 : V 127 = .slice HA H.length hc7 := HU.holds 127 (by decide)
                    have tb278 : (Rg.putUse V [(116, 267), (123, 274), (124, 275), (125, 276), (126, 277), (127, 278)] fr).eval (.tmp 278) = .slice HA H.length hc7 := (Rg.use_eval V fr 278 [(116, 267), (123, 274), (124, 275), (125, 276), (126, 277), (127, 278)] (by simp only [hz]; decide)).trans h127
                    show Rg.Does1 _ _ V (Rg.putUse V [(116, 267), (123, 274), (124, 275), (125, 276), (126, 277), (127, 278)] fr) w2 _
                    exact Ob.step_tell (.bool (chkg s r (q : Nat) nn H)) #[.slice X5 s.length k5, .slice X1 r.length k1, .int .i64 ((q : Nat) : Int), .int .i64 nn, .slice HA H.length hc7] (fun args w => Rg.call_enter Tryd.func23 (by kernel_rfl) (by kernel_rfl) args w) rfl (by simp only [List.map_toArray, List.map_cons, List.map_nil, tb274, tb275, tb276, tb277, tb278]) rfl (fun x => Rg.alias_none rfl V x) h116 (rCheckGrown w2 s r X5 X1 k5 k1 q nn H HA hc7 (by omega) (by omega) (HRr.out.below lw) (HRs.out.below lw) hk5 (.inl hsl.out) (HHz.out.1.below lw) HHz.out.2 HSH.out (by omega) trivial)
                · as_aux_lemma =>
                    intro V S w2 HM HU HE
                    have lw : Below wy.heap.size wy w2 := Rc.Mod.below HM (fun _ h => h.elim)
                    have h116 : V 116 = .bool true := HU.holds 116 (by decide)
                    have h122 : V 122 = .bool (chkg s r (q : Nat) nn H) := HU.holds 122 (by decide)
                    have tb273 : (Rg.putUse V [(116, 267), (122, 273), (128, 279)] fr).eval (.tmp 273) = .bool (chkg s r (q : Nat) nn H) := (Rg.use_eval V fr 273 [(116, 267), (122, 273), (128, 279)] (by simp only [hz]; decide)).trans h122
                    have h128 : V 128 = .bool (chkg s r (q : Nat) nn H) := HU.holds 128 (by decide)
                    have tb279 : (Rg.putUse V [(116, 267), (122, 273), (128, 279)] fr).eval (.tmp 279) = .bool (chkg s r (q : Nat) nn H) := (Rg.use_eval V fr 279 [(116, 267), (122, 273), (128, 279)] (by simp only [hz]; decide)).trans h128
                    show Rg.Does1 _ _ V (Rg.putUse V [(116, 267), (122, 273), (128, 279)] fr) w2 _
                    exact Ob.rc_mv (.bool true) (by simp only [execOp, tb273, tb279]; go_simp) rfl rfl h116
                · as_aux_lemma =>
                    intro V S w2 HM HU HE
                    have lw : Below wy.heap.size wy w2 := Rc.Mod.below HM (fun _ h => h.elim)
                    have h116 : V 116 = .bool true := HU.holds 116 (by decide)
                    have tb267 : (Rg.putUse V [(116, 267), (129, 280)] fr).eval (.tmp 267) = .bool true := (Rg.use_eval V fr 267 [(116, 267), (129, 280)] (by simp only [hz]; decide)).trans h116
                    have h129 : V 129 = .bool true := HU.holds 129 (by decide)
                    have tb280 : (Rg.putUse V [(116, 267), (129, 280)] fr).eval (.tmp 280) = .bool true := (Rg.use_eval V fr 280 [(116, 267), (129, 280)] (by simp only [hz]; decide)).trans h129
                    show Rg.Does1 _ _ V (Rg.putUse V [(116, 267), (129, 280)] fr) w2 _
                    exact Ob.rc_mv (.bool true) (by simp only [execOp, tb267, tb280]; go_simp) rfl rfl True.intro
                · as_aux_lemma =>
                    intro V S w2 HM HU HE
                    have lw : Below wy.heap.size wy w2 := Rc.Mod.below HM (fun _ h => h.elim)
                    have h130 : V 130 = .bool true := HU.holds 130 (by decide)
                    have tb281 : (Rg.putUse V [(130, 281)] fr).eval (.tmp 281) = .bool true := (Rg.use_eval V fr 281 [(130, 281)] (by simp only [hz]; decide)).trans h130
                    show Rg.Does1 _ _ V (Rg.putUse V [(130, 281)] fr) w2 _
                    exact Ob.rc_mv (.bool true) (by simp only [execOp, tb281]; go_simp) rfl rfl True.intro
                · as_aux_lemma =>
                    intro V S w2 HM HU HE
                    have lw : Below wy.heap.size wy w2 := Rc.Mod.below HM (fun _ h => h.elim)
                    have h131 : V 131 = .bool true := HU.holds 131 (by decide)
                    have tb22 : (Rg.putUse V [(131, 282)] fr).eval (.tmp 22) = .slice X1 r.length k1 := (Rg.use_eval V fr 22 [(131, 282)] (by simp only [hz]; decide)).trans y22
                    show Rg.Does1 _ _ V (Rg.putUse V [(131, 282)] fr) w2 _
                    exact Ob.rc_mv (.slice X1 r.length k1) (by simp only [execOp, tb22]; go_simp) rfl rfl h131
                · as_aux_lemma =>
                    intro V S w2 HM HU HE
                    have lw : Below wy.heap.size wy w2 := Rc.Mod.below HM (fun _ h => h.elim)
                    have h131 : V 131 = .bool true := HU.holds 131 (by decide)
                    have tb23 : (Rg.putUse V [(131, 282)] fr).eval (.tmp 23) = .slice X5 s.length k5 := (Rg.use_eval V fr 23 [(131, 282)] (by simp only [hz]; decide)).trans y23
                    show Rg.Does1 _ _ V (Rg.putUse V [(131, 282)] fr) w2 _
                    exact Ob.rc_mv (.slice X5 s.length k5) (by simp only [execOp, tb23]; go_simp) rfl rfl h131
                · as_aux_lemma =>
                    intro V S w2 HM HU HE
                    have lw : Below wy.heap.size wy w2 := Rc.Mod.below HM (fun _ h => h.elim)
                    have h131 : V 131 = .bool true := HU.holds 131 (by decide)
                    have tb2 : (Rg.putUse V [(131, 282)] fr).eval (.tmp 2) = .int .i64 ((q : Nat) : Int) := (Rg.use_eval V fr 2 [(131, 282)] (by simp only [hz]; decide)).trans y2
                    show Rg.Does1 _ _ V (Rg.putUse V [(131, 282)] fr) w2 _
                    exact Ob.rc_mv (.int .i64 ((q : Nat) : Int)) (by simp only [execOp, tb2]; go_simp) rfl rfl h131
                · as_aux_lemma =>
                    intro V S w2 HM HU HE
                    have lw : Below wy.heap.size wy w2 := Rc.Mod.below HM (fun _ h => h.elim)
                    have h131 : V 131 = .bool true := HU.holds 131 (by decide)
                    have tb15 : (Rg.putUse V [(131, 282)] fr).eval (.tmp 15) = .slice (some ⟨b, off, none⟩) R.length c := (Rg.use_eval V fr 15 [(131, 282)] (by simp only [hz]; decide)).trans y15
                    show Rg.Does1 _ _ V (Rg.putUse V [(131, 282)] fr) w2 _
                    exact Ob.rc_mv (.slice (some ⟨b, off, none⟩) R.length c) (by simp only [execOp, tb15]; go_simp) rfl rfl h131
                · as_aux_lemma =>
                    intro V S w2 HM HU HE
                    have lw : Below wy.heap.size wy w2 := Rc.Mod.below HM (fun _ h => h.elim)
                    have h131 : V 131 = .bool true := HU.holds 131 (by decide)
                    have h135 : V 135 = .slice (some ⟨b, off, none⟩) R.length c := HU.holds 135 (by decide)
                    have tb286 : (Rg.putUse V [(131, 282), (135, 286)] fr).eval (.tmp 286) = .slice (some ⟨b, off, none⟩) R.length c := (Rg.use_eval V fr 286 [(131, 282), (135, 286)] (by simp only [hz]; decide)).trans h135
                    show Rg.Does1 _ _ V (Rg.putUse V [(131, 282), (135, 286)] fr) w2 _
                    exact Ob.rc_mv (.int .i64 ((R.length : Nat) : Int)) (by simp only [execOp, resolve, List.map_toArray, List.map_cons, List.map_nil, tb286]; go_simp) rfl rfl h131
                · as_aux_lemma =>
                    intro V S w2 HM HU HE
                    have lw : Below wy.heap.size wy w2 := Rc.Mod.below HM (fun _ h => h.elim)
                    have h131 : V 131 = .bool true := HU.holds 131 (by decide)
                    have tb21 : (Rg.putUse V [(131, 282)] fr).eval (.tmp 21) = .slice HA H.length hc7 := (Rg.use_eval V fr 21 [(131, 282)] (by simp only [hz]; decide)).trans y21
                    show Rg.Does1 _ _ V (Rg.putUse V [(131, 282)] fr) w2 _
                    exact Ob.rc_mv (.slice HA H.length hc7) (by simp only [execOp, tb21]; go_simp) rfl rfl h131
                · as_aux_lemma =>
                    intro V S w2 HM HU HE
                    have lw : Below wy.heap.size wy w2 := Rc.Mod.below HM (fun _ h => h.elim)
                    have h131 : V 131 = .bool true := HU.holds 131 (by decide)
                    have h132 : V 132 = .slice X1 r.length k1 := HU.holds 132 (by decide)
                    have tb283 : (Rg.putUse V [(131, 282), (132, 283), (133, 284), (134, 285), (136, 287), (137, 288)] fr).eval (.tmp 283) = .slice X1 r.length k1 := (Rg.use_eval V fr 283 [(131, 282), (132, 283), (133, 284), (134, 285), (136, 287), (137, 288)] (by simp only [hz]; decide)).trans h132
                    have h133 : V 133 = .slice X5 s.length k5 := HU.holds 133 (by decide)
                    have tb284 : (Rg.putUse V [(131, 282), (132, 283), (133, 284), (134, 285), (136, 287), (137, 288)] fr).eval (.tmp 284) = .slice X5 s.length k5 := (Rg.use_eval V fr 284 [(131, 282), (132, 283), (133, 284), (134, 285), (136, 287), (137, 288)] (by simp only [hz]; decide)).trans h133
                    have h134 : V 134 = .int .i64 ((q : Nat) : Int) := HU.holds 134 (by decide)
                    have tb285 : (Rg.putUse V [(131, 282), (132, 283), (133, 284), (134, 285), (136, 287), (137, 288)] fr).eval (.tmp 285) = .int .i64 ((q : Nat) : Int) := (Rg.use_eval V fr 285 [(131, 282), (132, 283), (133, 284), (134, 285), (136, 287), (137, 288)] (by simp only [hz]; decide)).trans h134
                    have h136 : V 136 = .int .i64 ((R.length : Nat) : Int) := HU.holds 136 (by decide)
                    have tb287 : (Rg.putUse V [(131, 282), (132, 283), (133, 284), (134, 285), (136, 287), (137, 288)] fr).eval (.tmp 287) = .int .i64 ((R.length : Nat) : Int) := (Rg.use_eval V fr 287 [(131, 282), (132, 283), (133, 284), (134, 285), (136, 287), (137, 288)] (by simp only [hz]; decide)).trans h136
                    have h137 : V 137 = .slice HA H.length hc7 := HU.holds 137 (by decide)
                    have tb288 : (Rg.putUse V [(131, 282), (132, 283), (133, 284), (134, 285), (136, 287), (137, 288)] fr).eval (.tmp 288) = .slice HA H.length hc7 := (Rg.use_eval V fr 288 [(131, 282), (132, 283), (133, 284), (134, 285), (136, 287), (137, 288)] (by simp only [hz]; decide)).trans h137
                    show Rg.Does1 _ _ V (Rg.putUse V [(131, 282), (132, 283), (133, 284), (134, 285), (136, 287), (137, 288)] fr) w2 _
                    exact Ob.step_tell (.bool (chkg r s (q : Nat) (R.length : Nat) H)) #[.slice X1 r.length k1, .slice X5 s.length k5, .int .i64 ((q : Nat) : Int), .int .i64 ((R.length : Nat) : Int), .slice HA H.length hc7] (fun args w => Rg.call_enter Tryd.func17 (by kernel_rfl) (by kernel_rfl) args w) rfl (by simp only [List.map_toArray, List.map_cons, List.map_nil, tb283, tb284, tb285, tb287, tb288]) rfl (fun x => Rg.alias_none rfl V x) h131 (pCheckGrown w2 r s X1 X5 k1 k5 q R.length H HA hc7 (by omega) (by omega) (HRs.out.below lw) (HRr.out.below lw) hk1 (.inl hrl.out) (HHz.out.1.below lw) HHz.out.2 HSH.out (by omega) (HKz.out.later lw))
                · as_aux_lemma =>
                    intro V S w2 HM HU HE
                    have lw : Below wy.heap.size wy w2 := Rc.Mod.below HM (fun _ h => h.elim)
                    have h131 : V 131 = .bool true := HU.holds 131 (by decide)
                    have tb22 : (Rg.putUse V [(131, 282)] fr).eval (.tmp 22) = .slice X1 r.length k1 := (Rg.use_eval V fr 22 [(131, 282)] (by simp only [hz]; decide)).trans y22
                    show Rg.Does1 _ _ V (Rg.putUse V [(131, 282)] fr) w2 _
                    exact Ob.rc_mv (.slice X1 r.length k1) (by simp only [execOp, tb22]; go_simp) rfl rfl h131
                · as_aux_lemma =>
                    intro V S w2 HM HU HE
                    have lw : Below wy.heap.size wy w2 := Rc.Mod.below HM (fun _ h => h.elim)
                    have h131 : V 131 = .bool true := HU.holds 131 (by decide)
                    have tb23 : (Rg.putUse V [(131, 282)] fr).eval (.tmp 23) = .slice X5 s.length k5 := (Rg.use_eval V fr 23 [(131, 282)] (by simp only [hz]; decide)).trans y23
                    show Rg.Does1 _ _ V (Rg.putUse V [(131, 282)] fr) w2 _
                    exact Ob.rc_mv (.slice X5 s.length k5) (by simp only [execOp, tb23]; go_simp) rfl rfl h131
                · as_aux_lemma =>
                    intro V S w2 HM HU HE
                    have lw : Below wy.heap.size wy w2 := Rc.Mod.below HM (fun _ h => h.elim)
                    have h131 : V 131 = .bool true := HU.holds 131 (by decide)
                    have tb2 : (Rg.putUse V [(131, 282)] fr).eval (.tmp 2) = .int .i64 ((q : Nat) : Int) := (Rg.use_eval V fr 2 [(131, 282)] (by simp only [hz]; decide)).trans y2
                    show Rg.Does1 _ _ V (Rg.putUse V [(131, 282)] fr) w2 _
                    exact Ob.rc_mv (.int .i64 ((q : Nat) : Int)) (by simp only [execOp, tb2]; go_simp) rfl rfl h131
                · as_aux_lemma =>
                    intro V S w2 HM HU HE
                    have lw : Below wy.heap.size wy w2 := Rc.Mod.below HM (fun _ h => h.elim)
                    have h131 : V 131 = .bool true := HU.holds 131 (by decide)
                    have tb15 : (Rg.putUse V [(131, 282)] fr).eval (.tmp 15) = .slice (some ⟨b, off, none⟩) R.length c := (Rg.use_eval V fr 15 [(131, 282)] (by simp only [hz]; decide)).trans y15
                    show Rg.Does1 _ _ V (Rg.putUse V [(131, 282)] fr) w2 _
                    exact Ob.rc_mv (.slice (some ⟨b, off, none⟩) R.length c) (by simp only [execOp, tb15]; go_simp) rfl rfl h131
                · as_aux_lemma =>
                    intro V S w2 HM HU HE
                    have lw : Below wy.heap.size wy w2 := Rc.Mod.below HM (fun _ h => h.elim)
                    have h131 : V 131 = .bool true := HU.holds 131 (by decide)
                    have h142 : V 142 = .slice (some ⟨b, off, none⟩) R.length c := HU.holds 142 (by decide)
                    have tb293 : (Rg.putUse V [(131, 282), (142, 293)] fr).eval (.tmp 293) = .slice (some ⟨b, off, none⟩) R.length c := (Rg.use_eval V fr 293 [(131, 282), (142, 293)] (by simp only [hz]; decide)).trans h142
                    show Rg.Does1 _ _ V (Rg.putUse V [(131, 282), (142, 293)] fr) w2 _
                    exact Ob.rc_mv (.int .i64 ((R.length : Nat) : Int)) (by simp only [execOp, resolve, List.map_toArray, List.map_cons, List.map_nil, tb293]; go_simp) rfl rfl h131
                · as_aux_lemma =>
                    intro V S w2 HM HU HE
                    have lw : Below wy.heap.size wy w2 := Rc.Mod.below HM (fun _ h => h.elim)
                    have h131 : V 131 = .bool true := HU.holds 131 (by decide)
                    have tb21 : (Rg.putUse V [(131, 282)] fr).eval (.tmp 21) = .slice HA H.length hc7 := (Rg.use_eval V fr 21 [(131, 282)] (by simp only [hz]; decide)).trans y21
                    show Rg.Does1 _ _ V (Rg.putUse V [(131, 282)] fr) w2 _
                    exact Ob.rc_mv (.slice HA H.length hc7) (by simp only [execOp, tb21]; go_simp) rfl rfl h131
                · as_aux_lemma =>
                    intro V S w2 HM HU HE
                    have lw : Below wy.heap.size wy w2 := Rc.Mod.below HM (fun _ h => h.elim)
                    have h131 : V 131 = .bool true := HU.holds 131 (by decide)
                    have h139 : V 139 = .slice X1 r.length k1 := HU.holds 139 (by decide)
                    have tb290 : (Rg.putUse V [(131, 282), (139, 290), (140, 291), (141, 292), (143, 294), (144, 295)] fr).eval (.tmp 290) = .slice X1 r.length k1 := (Rg.use_eval V fr 290 [(131, 282), (139, 290), (140, 291), (141, 292), (143, 294), (144, 295)] (by simp only [hz]; decide)).trans h139
                    have h140 : V 140 = .slice X5 s.length k5 := HU.holds 140 (by decide)
                    have tb291 : (Rg.putUse V [(131, 282), (139, 290), (140, 291), (141, 292), (143, 294), (144, 295)] fr).eval (.tmp 291) = .slice X5 s.length k5 := (Rg.use_eval V fr 291 [(131, 282), (139, 290), (140, 291), (141, 292), (143, 294), (144, 295)] (by simp only [hz]; decide)).trans h140
                    have h141 : V 141 = .int .i64 ((q : Nat) : Int) := HU.holds 141 (by decide)
                    have tb292 : (Rg.putUse V [(131, 282), (139, 290), (140, 291), (141, 292), (143, 294), (144, 295)] fr).eval (.tmp 292) = .int .i64 ((q : Nat) : Int) := (Rg.use_eval V fr 292 [(131, 282), (139, 290), (140, 291), (141, 292), (143, 294), (144, 295)] (by simp only [hz]; decide)).trans h141
                    have h143 : V 143 = .int .i64 ((R.length : Nat) : Int) := HU.holds 143 (by decide)
                    have tb294 : (Rg.putUse V [(131, 282), (139, 290), (140, 291), (141, 292), (143, 294), (144, 295)] fr).eval (.tmp 294) = .int .i64 ((R.length : Nat) : Int) := (Rg.use_eval V fr 294 [(131, 282), (139, 290), (140, 291), (141, 292), (143, 294), (144, 295)] (by simp only [hz]; decide)).trans h143
                    have h144 : V 144 = .slice HA H.length hc7 := HU.holds 144 (by decide)
                    have tb295 : (Rg.putUse V [(131, 282), (139, 290), (140, 291), (141, 292), (143, 294), (144, 295)] fr).eval (.tmp 295) = .slice HA H.length hc7 := (Rg.use_eval V fr 295 [(131, 282), (139, 290), (140, 291), (141, 292), (143, 294), (144, 295)] (by simp only [hz]; decide)).trans h144
                    show Rg.Does1 _ _ V (Rg.putUse V [(131, 282), (139, 290), (140, 291), (141, 292), (143, 294), (144, 295)] fr) w2 _
                    exact Ob.step_tell (.bool (chkg r s (q : Nat) (R.length : Nat) H)) #[.slice X1 r.length k1, .slice X5 s.length k5, .int .i64 ((q : Nat) : Int), .int .i64 ((R.length : Nat) : Int), .slice HA H.length hc7] (fun args w => Rg.call_enter Tryd.func23 (by kernel_rfl) (by kernel_rfl) args w) rfl (by simp only [List.map_toArray, List.map_cons, List.map_nil, tb290, tb291, tb292, tb294, tb295]) rfl (fun x => Rg.alias_none rfl V x) h131 (rCheckGrown w2 r s X1 X5 k1 k5 q R.length H HA hc7 (by omega) (by omega) (HRs.out.below lw) (HRr.out.below lw) hk1 (.inl hrl.out) (HHz.out.1.below lw) HHz.out.2 HSH.out (by omega) trivial)
                · as_aux_lemma =>
                    intro V S w2 HM HU HE
                    have lw : Below wy.heap.size wy w2 := Rc.Mod.below HM (fun _ h => h.elim)
                    have h131 : V 131 = .bool true := HU.holds 131 (by decide)
                    have h138 : V 138 = .bool (chkg r s (q : Nat) (R.length : Nat) H) := HU.holds 138 (by decide)
                    have tb289 : (Rg.putUse V [(131, 282), (138, 289), (145, 296)] fr).eval (.tmp 289) = .bool (chkg r s (q : Nat) (R.length : Nat) H) := (Rg.use_eval V fr 289 [(131, 282), (138, 289), (145, 296)] (by simp only [hz]; decide)).trans h138
                    have h145 : V 145 = .bool (chkg r s (q : Nat) (R.length : Nat) H) := HU.holds 145 (by decide)
                    have tb296 : (Rg.putUse V [(131, 282), (138, 289), (145, 296)] fr).eval (.tmp 296) = .bool (chkg r s (q : Nat) (R.length : Nat) H) := (Rg.use_eval V fr 296 [(131, 282), (138, 289), (145, 296)] (by simp only [hz]; decide)).trans h145
                    show Rg.Does1 _ _ V (Rg.putUse V [(131, 282), (138, 289), (145, 296)] fr) w2 _
                    exact Ob.rc_mv (.bool true) (by simp only [execOp, tb289, tb296]; go_simp) rfl rfl h131
                · as_aux_lemma =>
                    intro V S w2 HM HU HE
                    have lw : Below wy.heap.size wy w2 := Rc.Mod.below HM (fun _ h => h.elim)
                    have h131 : V 131 = .bool true := HU.holds 131 (by decide)
                    have tb282 : (Rg.putUse V [(131, 282), (146, 297)] fr).eval (.tmp 282) = .bool true := (Rg.use_eval V fr 282 [(131, 282), (146, 297)] (by simp only [hz]; decide)).trans h131
                    have h146 : V 146 = .bool true := HU.holds 146 (by decide)
                    have tb297 : (Rg.putUse V [(131, 282), (146, 297)] fr).eval (.tmp 297) = .bool true := (Rg.use_eval V fr 297 [(131, 282), (146, 297)] (by simp only [hz]; decide)).trans h146
                    show Rg.Does1 _ _ V (Rg.putUse V [(131, 282), (146, 297)] fr) w2 _
                    exact Ob.rc_mv (.bool true) (by simp only [execOp, tb282, tb297]; go_simp) rfl rfl True.intro
                · as_aux_lemma =>
                    intro V S w2 HM HU HE
                    have lw : Below wy.heap.size wy w2 := Rc.Mod.below HM (fun _ h => h.elim)
                    have h147 : V 147 = .bool true := HU.holds 147 (by decide)
                    have tb298 : (Rg.putUse V [(147, 298)] fr).eval (.tmp 298) = .bool true := (Rg.use_eval V fr 298 [(147, 298)] (by simp only [hz]; decide)).trans h147
                    show Rg.Does1 _ _ V (Rg.putUse V [(147, 298)] fr) w2 _
                    exact Ob.rc_mv (.bool true) (by simp only [execOp, tb298]; go_simp) rfl rfl True.intro
                · as_aux_lemma =>
                    intro V S w2 HM HU HE
                    have lw : Below wy.heap.size wy w2 := Rc.Mod.below HM (fun _ h => h.elim)
                    have h148 : V 148 = .bool true := HU.holds 148 (by decide)
                    show Rg.Does1 _ _ V (Rg.putUse V [(148, 299)] fr) w2 _
                    exact Ob.step_tell (.bool true) #[] (fun args w => Rg.call_enter Tryd.func18 (by kernel_rfl) (by kernel_rfl) args w) rfl (by simp only [List.map_toArray, List.map_nil]) rfl (fun x => Rg.alias_none rfl V x) h148 (known_any w2 (HKz.out.later lw))
                · as_aux_lemma =>
                    intro V S w2 HM HU HE
                    have lw : Below wy.heap.size wy w2 := Rc.Mod.below HM (fun _ h => h.elim)
                    have h148 : V 148 = .bool true := HU.holds 148 (by decide)
                    have tb299 : (Rg.putUse V [(148, 299), (149, 300)] fr).eval (.tmp 299) = .bool true := (Rg.use_eval V fr 299 [(148, 299), (149, 300)] (by simp only [hz]; decide)).trans h148
                    have h149 : V 149 = .bool true := HU.holds 149 (by decide)
                    have tb300 : (Rg.putUse V [(148, 299), (149, 300)] fr).eval (.tmp 300) = .bool true := (Rg.use_eval V fr 300 [(148, 299), (149, 300)] (by simp only [hz]; decide)).trans h149
                    show Rg.Does1 _ _ V (Rg.putUse V [(148, 299), (149, 300)] fr) w2 _
                    exact Ob.rc_mv (.bool true) (by simp only [execOp, tb299, tb300]; go_simp) rfl rfl True.intro
                · as_aux_lemma =>
                    intro V S w2 HM HU HE
                    have lw : Below wy.heap.size wy w2 := Rc.Mod.below HM (fun _ h => h.elim)
                    have h150 : V 150 = .bool true := HU.holds 150 (by decide)
                    have tb301 : (Rg.putUse V [(150, 301)] fr).eval (.tmp 301) = .bool true := (Rg.use_eval V fr 301 [(150, 301)] (by simp only [hz]; decide)).trans h150
                    show Rg.Does1 _ _ V (Rg.putUse V [(150, 301)] fr) w2 _
                    exact Ob.rc_mv (.bool true) (by simp only [execOp, tb301]; go_simp) rfl rfl True.intro
            · intro V S w2 HI
              have HL2 : Hid (Below wy.heap.size wy w2) := Rc.Mod.below HI.mod.undrew (fun _ h => h.elim)
              have hw151 : V 151 = .bool true := HI.get 151 (by decide) (by rfl)
              generalize hA : Rg.putList _ 0 V _ = aF
              have hz1 : aF.tmps.getD 14 undef = V 151 := by rw [← hA]; exact end_get (by kernel_rfl) 151 14 (by kernel_rfl) (by simp) (by simp)
              have hz2 : aF.defers = [] := by rw [← hA]; exact end_defers (by kernel_rfl)
              rw [hw151] at hz1
              clear HI hA hw151
              go_wp2_with fail
              refine bodyPost_ret (results_tmp rfl _ _ _) hz2 ?_
              rw [hz1]
              exact ⟨rfl, HBz.out.trans (HL2.out.mono HBz.out.size)⟩
end Go.Proofs.YtjeclmbableacaaDoor

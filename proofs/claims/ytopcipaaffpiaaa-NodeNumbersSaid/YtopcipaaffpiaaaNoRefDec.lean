/-
  OWN WORK. permafrostref10.Decode, by its contract.
-/
import Derived.Test.YtopcipaaffpiaaaNoRight
import Derived.Test.YtopcipaaffpiaaaBaCell
import Derived.Test.YtopcipaaffpiaaaCpRefS
import Derived.Test.YtopcipaaffpiaaaCpOne
namespace Go.Proofs.Ytopcipaaffpiaaa
open Go.RowKit Rc

set_option maxHeartbeats 1500000 in
set_option maxRecDepth 100000 in
theorem refDec_any (w : World) (A : Option Addr) (L : List UInt8) (cap : Nat) (hr : Rd w A L) (hc : L.length ≤ cap) (hl : L.length ≤ 1000000) :
    Calls Try.prog 21 #[.slice A L.length cap] w fun e w' => e = .returned (.tuple #[(ndDec L).1.val, .int .i64 ((ndDec L).2 : Nat)]) ∧ Below w.heap.size w w' := by
  obtain ⟨a1, s1, h1⟩ : ∃ a s, Co.num 2 ⟨L, 0⟩ = (a, s) := ⟨_, _, rfl⟩
  obtain ⟨a2, s2, h2⟩ : ∃ a s, Co.num 1 s1 = (a, s) := ⟨_, _, rfl⟩
  obtain ⟨a3, s3, h3⟩ : ∃ a s, Co.num 2 s2 = (a, s) := ⟨_, _, rfl⟩
  obtain ⟨a4, s4, h4⟩ : ∃ a s, Co.num 2 s3 = (a, s) := ⟨_, _, rfl⟩
  obtain ⟨a5, s5, h5⟩ : ∃ a s, Co.num 8 s4 = (a, s) := ⟨_, _, rfl⟩
  obtain ⟨a6, s6, h6⟩ : ∃ a s, Co.flag s5 = (a, s) := ⟨_, _, rfl⟩
  obtain ⟨f, hf⟩ : ∃ f, Co.fin s6 = f := ⟨_, rfl⟩
  have HN : Hid (ndRead L = (⟨(a1 : Nat), (a2 : Nat), (a3 : Nat), (a4 : Nat), a5, a6⟩, s6)) := by show _ = _; simp only [ndRead, h1, h2, h3, h4, h5, h6]
  have HY : Hid (f = 0 → Nd.right ⟨(a1 : Nat), (a2 : Nat), (a3 : Nat), (a4 : Nat), a5, a6⟩ = true → ndDec L = (⟨(a1 : Nat), (a2 : Nat), (a3 : Nat), (a4 : Nat), a5, a6⟩, 0)) := by
    show _ → _ → _
    intro h0 hr0
    unfold ndDec
    rw [HN.out, if_neg (by simp [hf, h0, hr0])]
  have HNO : Hid (f ≠ 0 ∨ Nd.right ⟨(a1 : Nat), (a2 : Nat), (a3 : Nat), (a4 : Nat), a5, a6⟩ = false → ndDec L = (Nd.zero, 12)) := by
    show _ → _
    intro h0
    unfold ndDec
    rw [HN.out, if_pos (by rcases h0 with h0 | h0 <;> simp [hf, h0])]
  have H1E := Lib.hid h1
  have H2E := Lib.hid h2
  have H3E := Lib.hid h3
  have H4E := Lib.hid h4
  have H5E := Lib.hid h5
  have H6E := Lib.hid h6
  have HFE := Lib.hid hf
  clear h1 h2 h3 h4 h5 h6 hf HN
  have HRW : Hid (Rd (w.alloc (.cells #[.int .i64 0, .int .i64 0, .int .i64 0, .int .i64 0, .int .u64 0, .bool false] 25)) A L) := hr.below (below_new w _)
  have HR0 : Hid (Blk (w.alloc (.cells #[.int .i64 0, .int .i64 0, .int .i64 0, .int .i64 0, .int .u64 0, .bool false] 25)) w.heap.size 25 [.int .i64 0, .int .i64 0, .int .i64 0, .int .i64 0, .int .u64 0, .bool false]) := Blk.new w _ _
  have HSZ : Hid ((w.alloc (.cells #[.int .i64 0, .int .i64 0, .int .i64 0, .int .i64 0, .int .u64 0, .bool false] 25)).heap.size = w.heap.size + 1) := World.size_alloc _ _
  have HWB : Hid (Below w.heap.size w (w.alloc (.cells #[.int .i64 0, .int .i64 0, .int .i64 0, .int .i64 0, .int .u64 0, .bool false] 25))) := below_new w _
  have HC := Lib.hid hc
  have HL := Lib.hid hl
  clear hr hc hl
  go_enter Try.func21, Try.ntmps21
  go_upto_region 2 with (fail)
  have H1 : Hid (OneP refSaid (.pointer (some ⟨(w.alloc (.cells #[.int .i64 0, .int .i64 0, .int .i64 0, .int .i64 0, .int .u64 0, .bool false] 25)).heap.size, 0, none⟩)) A L (w.alloc (.cells #[.int .i64 0, .int .i64 0, .int .i64 0, .int .i64 0, .int .u64 0, .bool false] 25)) ⟨L, 0⟩ (fun b => b < (w.alloc (.cells #[.int .i64 0, .int .i64 0, .int .i64 0, .int .i64 0, .int .u64 0, .bool false] 25)).heap.size) ((w.alloc (.cells #[.int .i64 0, .int .i64 0, .int .i64 0, .int .i64 0, .int .u64 0, .bool false] 25)).alloc (.cells #[.slice A L.length cap, .int .i64 0, .int .i64 0] 60))) :=
    ⟨fun b => b = (w.alloc (.cells #[.int .i64 0, .int .i64 0, .int .i64 0, .int .i64 0, .int .u64 0, .bool false] 25)).heap.size, ⟨Mod.of_below (below_new _ _) _, HRW.out, fun _ _ _ h => h, ⟨_, cap, rfl, ⟨0, Nat.zero_le _, rfl, Blk.new _ _ _⟩, HC.out, Nat.le_trans HL.out (by decide), rfl⟩, fun b hb => .inr (by subst hb; exact Nat.le_refl _)⟩, fun b hb => ⟨Nat.ne_of_lt hb, by rw [World.size_alloc]; exact Nat.lt_succ_of_lt hb⟩⟩
  rw [HSZ.out] at H1
  refine wp_world (fun W => Hid (OneP refSaid (.pointer (some ⟨w.heap.size + 1, 0, none⟩)) A L (w.alloc (.cells #[.int .i64 0, .int .i64 0, .int .i64 0, .int .i64 0, .int .u64 0, .bool false] 25)) ⟨L, 0⟩ (fun b => b < w.heap.size + 1) W)) H1 ?_
  intro w2 H2
  have HR2 : Hid (Blk w2 w.heap.size 25 [.int .i64 0, .int .i64 0, .int .i64 0, .int .i64 0, .int .u64 0, .bool false]) := HR0.out.below (OneP.low H2.out) HR0.out.lt
  clear H1 HRW HC HL HR0
  obtain ⟨WA, hWA⟩ : ∃ WA, WA = (w.alloc (.cells #[.int .i64 0, .int .i64 0, .int .i64 0, .int .i64 0, .int .u64 0, .bool false] 25)) := ⟨_, rfl⟩
  rw [← hWA] at H2 HSZ HWB
  clear hWA
  have HRI : Hid (w.heap.size < w.heap.size + 1) := Nat.lt_succ_self _
  go_wp2_with fail
  refine (OneP.short rfl H2.out H1E.out).mono ?_
  rintro e w3 ⟨rfl, H3, hk⟩
  have HR3 : Hid (Blk w3 w.heap.size 25 [.int .i64 0, .int .i64 0, .int .i64 0, .int .i64 0, .int .u64 0, .bool false]) := (hk.out _ HRI.out).trans HR2.out
  clear hk H2 HR2
  go_wp2_with fail
  refine (OneP.byte rfl H3.out H2E.out).mono ?_
  rintro e w4 ⟨rfl, H4, hk⟩
  have HR4 : Hid (Blk w4 w.heap.size 25 [.int .i64 0, .int .i64 0, .int .i64 0, .int .i64 0, .int .u64 0, .bool false]) := (hk.out _ HRI.out).trans HR3.out
  clear hk H3 HR3
  go_wp2_with fail
  refine (OneP.short rfl H4.out H3E.out).mono ?_
  rintro e w5 ⟨rfl, H5, hk⟩
  have HR5 : Hid (Blk w5 w.heap.size 25 [.int .i64 0, .int .i64 0, .int .i64 0, .int .i64 0, .int .u64 0, .bool false]) := (hk.out _ HRI.out).trans HR4.out
  clear hk H4 HR4
  go_wp2_with fail
  refine (OneP.short rfl H5.out H4E.out).mono ?_
  rintro e w6 ⟨rfl, H6, hk⟩
  have HR6 : Hid (Blk w6 w.heap.size 25 [.int .i64 0, .int .i64 0, .int .i64 0, .int .i64 0, .int .u64 0, .bool false]) := (hk.out _ HRI.out).trans HR5.out
  clear hk H5 HR5
  go_wp2_with fail
  refine (OneP.long rfl H6.out H5E.out).mono ?_
  rintro e w7 ⟨rfl, H7, hk⟩
  have HR7 : Hid (Blk w7 w.heap.size 25 [.int .i64 0, .int .i64 0, .int .i64 0, .int .i64 0, .int .u64 0, .bool false]) := (hk.out _ HRI.out).trans HR6.out
  clear hk H6 HR6
  go_wp2_with fail
  refine (OneP.flag rfl H7.out H6E.out).mono ?_
  rintro e w8 ⟨rfl, H8, hk⟩
  have HR8 : Hid (Blk w8 w.heap.size 25 [.int .i64 0, .int .i64 0, .int .i64 0, .int .i64 0, .int .u64 0, .bool false]) := (hk.out _ HRI.out).trans HR7.out
  clear hk H7 HR7
  have HGN : Hid (Blk (w8.alloc (.cells #[.int .i64 0, .int .i64 0, .int .i64 0, .int .i64 0, .int .u64 0, .bool false] 25)) w8.heap.size 25 [.int .i64 0, .int .i64 0, .int .i64 0, .int .i64 0, .int .u64 0, .bool false]) := Blk.new w8 _ _
  have H9 : Hid (OneP refSaid (.pointer (some ⟨w.heap.size + 1, 0, none⟩)) A L WA s6 (fun b => b = w8.heap.size ∨ b < w.heap.size + 1) (w8.alloc (.cells #[.int .i64 (a1 : Nat), .int .i64 (a2 : Nat), .int .i64 (a3 : Nat), .int .i64 (a4 : Nat), .int .u64 (a5 : Nat), .bool a6] 25))) := H8.out.made (below_new w8 _) w8.heap.size (Nat.le_refl _) (by rw [World.size_alloc]; omega)
  have HG9 : Hid (Blk (w8.alloc (.cells #[.int .i64 (a1 : Nat), .int .i64 (a2 : Nat), .int .i64 (a3 : Nat), .int .i64 (a4 : Nat), .int .u64 (a5 : Nat), .bool a6] 25)) w8.heap.size 25 [.int .i64 (a1 : Nat), .int .i64 (a2 : Nat), .int .i64 (a3 : Nat), .int .i64 (a4 : Nat), .int .u64 (a5 : Nat), .bool a6]) := Blk.new w8 _ _
  have HR9 : Hid (Blk (w8.alloc (.cells #[.int .i64 (a1 : Nat), .int .i64 (a2 : Nat), .int .i64 (a3 : Nat), .int .i64 (a4 : Nat), .int .u64 (a5 : Nat), .bool a6] 25)) w.heap.size 25 [.int .i64 0, .int .i64 0, .int .i64 0, .int .i64 0, .int .u64 0, .bool false]) := HR8.out.alloc _
  go_wp2_with (refine wpList_store_row rfl 25 (.tmp 5) (.tmp 21) rfl w8.heap.size #[.int .i64 (a1 : Nat), .int .i64 (a2 : Nat), .int .i64 (a3 : Nat), .int .i64 (a4 : Nat), .int .u64 (a5 : Nat), .bool a6] rfl rfl 25 #[.int .i64 0, .int .i64 0, .int .i64 0, .int .i64 0, .int .u64 0, .bool false] HGN.out rfl rfl rfl ?_)
  clear H8 HR8 HGN
  refine (OneP.fin rfl H9.out HFE.out).mono ?_
  rintro e we ⟨rfl, hb⟩
  have HE : Hid (OneP refSaid _ A L WA s6 _ we) := H9.out.below hb.out
  have HGE : Hid (Blk we w8.heap.size 25 [.int .i64 (a1 : Nat), .int .i64 (a2 : Nat), .int .i64 (a3 : Nat), .int .i64 (a4 : Nat), .int .u64 (a5 : Nat), .bool a6]) := HG9.out.below hb.out HG9.out.lt
  have HRE : Hid (Blk we w.heap.size 25 [.int .i64 0, .int .i64 0, .int .i64 0, .int .i64 0, .int .u64 0, .bool false]) := HR9.out.below hb.out HR9.out.lt
  have HLO : Hid (Below w.heap.size w we) := HWB.out.trans ((OneP.low HE.out).mono (by have h2 := HSZ.out; omega))
  clear hb HE H9 HG9 HR9
  by_cases h0 : f = 0
  · subst h0
    have cz : ((0 : Nat) : Int) = 0 := rfl
    have HYY : Hid (∀ h, ndDec L = (⟨(a1 : Nat), (a2 : Nat), (a3 : Nat), (a4 : Nat), a5, a6⟩, 0)) := HY.out rfl
    clear HY
    have d0 := HGE.out.cell 0
    have d1 := HGE.out.cell 1
    have d2 := HGE.out.cell 2
    have d3 := HGE.out.cell 3
    have d4 := HGE.out.cell 4
    have d5 := HGE.out.cell 5
    go_wp2_with fail
    clear d0 d1 d2 d3 d4 d5
    refine (refRight_any ⟨(a1 : Nat), (a2 : Nat), (a3 : Nat), (a4 : Nat), a5, a6⟩ _).mono ?_
    rintro e wr ⟨rfl, hb⟩
    have HG2 : Hid (Blk wr w8.heap.size 25 [.int .i64 (a1 : Nat), .int .i64 (a2 : Nat), .int .i64 (a3 : Nat), .int .i64 (a4 : Nat), .int .u64 (a5 : Nat), .bool a6]) := HGE.out.below hb HGE.out.lt
    have HR2 : Hid (Blk wr w.heap.size 25 [.int .i64 0, .int .i64 0, .int .i64 0, .int .i64 0, .int .u64 0, .bool false]) := HRE.out.below hb HRE.out.lt
    have HL2 : Hid (Below w.heap.size w wr) := HLO.out.trans (hb.mono HLO.out.size)
    clear hb HGE HRE HLO
    cases hb : Nd.right ⟨(a1 : Nat), (a2 : Nat), (a3 : Nat), (a4 : Nat), a5, a6⟩
    · have HAN := Lib.hid (HNO.out (.inr hb))
      clear hb
      have d0 := HR2.out.cell 0
      have f0 := HR2.out.frozen 0
      have d1 := HR2.out.cell 1
      have f1 := HR2.out.frozen 1
      have d2 := HR2.out.cell 2
      have f2 := HR2.out.frozen 2
      have d3 := HR2.out.cell 3
      have f3 := HR2.out.frozen 3
      have d4 := HR2.out.cell 4
      have f4 := HR2.out.frozen 4
      have d5 := HR2.out.cell 5
      have f5 := HR2.out.frozen 5
      go_wp2_with fail
      (try simp only [Exit.inBlock, Exit.then])
      refine bodyPost_ret (results_blk_tmp rfl _ _ w.heap.size 25 [.int .i64 0, .int .i64 0, .int .i64 0, .int .i64 0, .int .u64 0, .bool false] _ rfl (HR2.out.set6 _ _ _ _ _ _) rfl rfl rfl) rfl ⟨?_, ?_⟩
      · rw [HAN.out]; rfl
      · exact below_set6 HL2.out (Nat.le_refl _) _ _ _ _ _ _
    · have HAN := Lib.hid (HYY.out hb)
      clear hb
      have d0 := HR2.out.cell 0
      have f0 := HR2.out.frozen 0
      have g0 := HG2.out.cell 0
      have d1 := HR2.out.cell 1
      have f1 := HR2.out.frozen 1
      have g1 := HG2.out.cell 1
      have d2 := HR2.out.cell 2
      have f2 := HR2.out.frozen 2
      have g2 := HG2.out.cell 2
      have d3 := HR2.out.cell 3
      have f3 := HR2.out.frozen 3
      have g3 := HG2.out.cell 3
      have d4 := HR2.out.cell 4
      have f4 := HR2.out.frozen 4
      have g4 := HG2.out.cell 4
      have d5 := HR2.out.cell 5
      have f5 := HR2.out.frozen 5
      have g5 := HG2.out.cell 5
      go_wp2_with fail
      (try simp only [Exit.inBlock, Exit.then])
      refine bodyPost_ret (results_blk_tmp rfl _ _ w.heap.size 25 [.int .i64 (a1 : Nat), .int .i64 (a2 : Nat), .int .i64 (a3 : Nat), .int .i64 (a4 : Nat), .int .u64 (a5 : Nat), .bool a6] _ rfl (HR2.out.set6 _ _ _ _ _ _) rfl rfl rfl) rfl ⟨?_, ?_⟩
      · rw [HAN.out]; rfl
      · exact below_set6 HL2.out (Nat.le_refl _) _ _ _ _ _ _
  · have HAN := Lib.hid (HNO.out (.inl h0))
    have h0i : (((f : Nat) : Int) != 0) = true := by simpa using h0
    have d0 := HRE.out.cell 0
    have f0 := HRE.out.frozen 0
    have d1 := HRE.out.cell 1
    have f1 := HRE.out.frozen 1
    have d2 := HRE.out.cell 2
    have f2 := HRE.out.frozen 2
    have d3 := HRE.out.cell 3
    have f3 := HRE.out.frozen 3
    have d4 := HRE.out.cell 4
    have f4 := HRE.out.frozen 4
    have d5 := HRE.out.cell 5
    have f5 := HRE.out.frozen 5
    go_wp2_with fail
    (try simp only [Exit.inBlock, Exit.then])
    refine bodyPost_ret (results_blk_tmp rfl _ _ w.heap.size 25 [.int .i64 0, .int .i64 0, .int .i64 0, .int .i64 0, .int .u64 0, .bool false] _ rfl (HRE.out.set6 _ _ _ _ _ _) rfl rfl rfl) rfl ⟨?_, ?_⟩
    · rw [HAN.out]; rfl
    · exact below_set6 HLO.out (Nat.le_refl _) _ _ _ _ _ _
end Go.Proofs.Ytopcipaaffpiaaa

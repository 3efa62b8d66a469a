/-
  OWN WORK. node.Decode, by its contract.
-/
import Derived.Test.YtopcipaaffpiaaaNoRight
import Derived.Test.YtopcipaaffpiaaaBaCell
import Derived.Test.YtopcipaaffpiaaaCpMake
namespace Go.Proofs.Ytopcipaaffpiaaa
open Go.RowKit Rc

set_option maxHeartbeats 1500000 in
set_option maxRecDepth 100000 in
theorem dec_any (R : RSaid codecFns) (hM : RMake R) (w : World) (A : Option Addr) (L : List UInt8) (cap : Nat) (hr : Rd w A L) (hc : L.length ≤ cap) (hl : L.length ≤ 140737488351232) :
    Calls Try.prog 14 #[.slice A L.length cap] w fun e w' => e = .returned (.tuple #[(ndDec L).1.val, .int .i64 ((ndDec L).2 : Nat)]) ∧ Below w.heap.size w w' := by
  obtain ⟨a1, s1, h1⟩ : ∃ a s, Co.num 2 ⟨L, 0⟩ = (a, s) := ⟨_, _, rfl⟩
  obtain ⟨a2, s2, h2⟩ : ∃ a s, Co.num 1 s1 = (a, s) := ⟨_, _, rfl⟩
  obtain ⟨a3, s3, h3⟩ : ∃ a s, Co.num 2 s2 = (a, s) := ⟨_, _, rfl⟩
  obtain ⟨a4, s4, h4⟩ : ∃ a s, Co.num 2 s3 = (a, s) := ⟨_, _, rfl⟩
  obtain ⟨a5, s5, h5⟩ : ∃ a s, Co.num 8 s4 = (a, s) := ⟨_, _, rfl⟩
  obtain ⟨a6, s6, h6⟩ : ∃ a s, Co.flag s5 = (a, s) := ⟨_, _, rfl⟩
  obtain ⟨f, hf⟩ : ∃ f, Co.fin s6 = f := ⟨_, rfl⟩
  have HN : Hid (ndRead L = (⟨(a1 : Nat), (a2 : Nat), (a3 : Nat), (a4 : Nat), a5, a6⟩, s6)) := by show _ = _; simp only [ndRead, h1, h2, h3, h4, h5, h6]
  have HY : Hid (f = 0 → Nd.right ⟨(a1 : Nat), (a2 : Nat), (a3 : Nat), (a4 : Nat), a5, a6⟩ = true → ndDec L = (⟨(a1 : Nat), (a2 : Nat), (a3 : Nat), (a4 : Nat), a5, a6⟩, 0)) := by
    show _ → _ → _
    intro h0 hr0
    unfold ndDec
    rw [HN.out, if_neg (by simp [hf, h0, hr0])]
  have HNO : Hid (f ≠ 0 ∨ Nd.right ⟨(a1 : Nat), (a2 : Nat), (a3 : Nat), (a4 : Nat), a5, a6⟩ = false → ndDec L = (Nd.zero, 12)) := by
    show _ → _
    intro h0
    unfold ndDec
    rw [HN.out, if_pos (by rcases h0 with h0 | h0 <;> simp [hf, h0])]
  have H1E := Lib.hid h1
  have H2E := Lib.hid h2
  have H3E := Lib.hid h3
  have H4E := Lib.hid h4
  have H5E := Lib.hid h5
  have H6E := Lib.hid h6
  have HFE := Lib.hid hf
  clear h1 h2 h3 h4 h5 h6 hf HN
  have HRW : Hid (Rd (w.alloc (.cells #[.int .i64 0, .int .i64 0, .int .i64 0, .int .i64 0, .int .u64 0, .bool false] 25)) A L) := hr.below (below_new w _)
  have HR0 : Hid (Blk (w.alloc (.cells #[.int .i64 0, .int .i64 0, .int .i64 0, .int .i64 0, .int .u64 0, .bool false] 25)) w.heap.size 25 [.int .i64 0, .int .i64 0, .int .i64 0, .int .i64 0, .int .u64 0, .bool false]) := Blk.new w _ _
  have HSZ : Hid ((w.alloc (.cells #[.int .i64 0, .int .i64 0, .int .i64 0, .int .i64 0, .int .u64 0, .bool false] 25)).heap.size = w.heap.size + 1) := World.size_alloc _ _
  have HWB : Hid (Below w.heap.size w (w.alloc (.cells #[.int .i64 0, .int .i64 0, .int .i64 0, .int .i64 0, .int .u64 0, .bool false] 25))) := below_new w _
  have HC := Lib.hid hc
  have HL := Lib.hid hl
  clear hr hc hl
  go_enter Try.func14, Try.ntmps14
  go_wp2_with fail
  refine (hM.one _ A L cap HRW.out HC.out HL.out).mono ?_
  rintro e w1 ⟨ad, rfl, H0⟩
  obtain ⟨WA, hWA⟩ : ∃ WA, WA = (w.alloc (.cells #[.int .i64 0, .int .i64 0, .int .i64 0, .int .i64 0, .int .u64 0, .bool false] 25)) := ⟨_, rfl⟩
  rw [← hWA] at H0 HR0 HSZ HWB
  clear hWA HRW HC HL
  have H1 : Hid (OneP R (.pointer (some ad)) A L WA ⟨L, 0⟩ (fun b => b < WA.heap.size) w1) := OneP.of_one H0.out
  have HR1 : Hid (Blk w1 w.heap.size 25 [.int .i64 0, .int .i64 0, .int .i64 0, .int .i64 0, .int .u64 0, .bool false]) := HR0.out.below (OneP.low H1.out) HR0.out.lt
  clear H0 HR0
  have HGW : Hid (WA.heap.size ≤ w1.heap.size) := (OneP.low H1.out).size
  have H2 : Hid (OneP R (.pointer (some ad)) A L WA ⟨L, 0⟩ (fun b => b = w1.heap.size ∨ b < WA.heap.size) (w1.alloc (.cells #[.int .i64 0, .int .i64 0, .int .i64 0, .int .i64 0, .int .u64 0, .bool false] 25))) := H1.out.made (below_new w1 _) w1.heap.size (Nat.le_refl _) (by rw [World.size_alloc]; omega)
  have HR2 : Hid (Blk (w1.alloc (.cells #[.int .i64 0, .int .i64 0, .int .i64 0, .int .i64 0, .int .u64 0, .bool false] 25)) w.heap.size 25 [.int .i64 0, .int .i64 0, .int .i64 0, .int .i64 0, .int .u64 0, .bool false]) := HR1.out.alloc _
  have HG2 : Hid (Blk (w1.alloc (.cells #[.int .i64 0, .int .i64 0, .int .i64 0, .int .i64 0, .int .u64 0, .bool false] 25)) w1.heap.size 25 [.int .i64 0, .int .i64 0, .int .i64 0, .int .i64 0, .int .u64 0, .bool false]) := Blk.new w1 _ _
  have HNE : Hid (w.heap.size ≠ w1.heap.size) := by show _ ≠ _; have h1 := HGW.out; have h2 := HSZ.out; omega
  have HRI : Hid (w.heap.size < WA.heap.size) := by show _ < _; have h2 := HSZ.out; omega
  clear H1 HR1
  go_wp2_with fail
  refine (OneP.short rfl H2.out H1E.out).mono ?_
  rintro e w3 ⟨rfl, K3, hk⟩
  have HG3x : Hid (Blk w3 w1.heap.size 25 [.int .i64 0, .int .i64 0, .int .i64 0, .int .i64 0, .int .u64 0, .bool false]) := (hk.out _ (.inl rfl)).trans HG2.out
  have HR3x : Hid (Blk w3 w.heap.size 25 [.int .i64 0, .int .i64 0, .int .i64 0, .int .i64 0, .int .u64 0, .bool false]) := (hk.out _ (.inr HRI.out)).trans HR2.out
  clear hk H2 HG2 HR2
  have c := HG3x.out.cell 0
  have f0 := HG3x.out.frozen 0
  have H3 : Hid (OneP R (.pointer (some ad)) A L WA s1 (fun b => b = w1.heap.size ∨ b < WA.heap.size) (w3.setCell ⟨w1.heap.size, 0, none⟩ (.int .i64 (a1 : Nat)))) := K3.out.poke w1.heap.size ((Keeps.refl _ _).setCell _ _) (.inl rfl) HGW.out
  have HG3 : Hid (Blk (w3.setCell ⟨w1.heap.size, 0, none⟩ (.int .i64 (a1 : Nat))) w1.heap.size 25 [.int .i64 (a1 : Nat), .int .i64 0, .int .i64 0, .int .i64 0, .int .u64 0, .bool false]) := HG3x.out.set_ 0 (.int .i64 (a1 : Nat))
  have HR3 : Hid (Blk (w3.setCell ⟨w1.heap.size, 0, none⟩ (.int .i64 (a1 : Nat))) w.heap.size 25 [.int .i64 0, .int .i64 0, .int .i64 0, .int .i64 0, .int .u64 0, .bool false]) := HR3x.out.far HNE.out _
  clear K3 HG3x HR3x
  go_wp2_with fail
  clear c f0
  refine (OneP.byte rfl H3.out H2E.out).mono ?_
  rintro e w4 ⟨rfl, K4, hk⟩
  have HG4x : Hid (Blk w4 w1.heap.size 25 [.int .i64 (a1 : Nat), .int .i64 0, .int .i64 0, .int .i64 0, .int .u64 0, .bool false]) := (hk.out _ (.inl rfl)).trans HG3.out
  have HR4x : Hid (Blk w4 w.heap.size 25 [.int .i64 0, .int .i64 0, .int .i64 0, .int .i64 0, .int .u64 0, .bool false]) := (hk.out _ (.inr HRI.out)).trans HR3.out
  clear hk H3 HG3 HR3
  have c := HG4x.out.cell 1
  have f0 := HG4x.out.frozen 1
  have H4 : Hid (OneP R (.pointer (some ad)) A L WA s2 (fun b => b = w1.heap.size ∨ b < WA.heap.size) (w4.setCell ⟨w1.heap.size, 1, none⟩ (.int .i64 (a2 : Nat)))) := K4.out.poke w1.heap.size ((Keeps.refl _ _).setCell _ _) (.inl rfl) HGW.out
  have HG4 : Hid (Blk (w4.setCell ⟨w1.heap.size, 1, none⟩ (.int .i64 (a2 : Nat))) w1.heap.size 25 [.int .i64 (a1 : Nat), .int .i64 (a2 : Nat), .int .i64 0, .int .i64 0, .int .u64 0, .bool false]) := HG4x.out.set_ 1 (.int .i64 (a2 : Nat))
  have HR4 : Hid (Blk (w4.setCell ⟨w1.heap.size, 1, none⟩ (.int .i64 (a2 : Nat))) w.heap.size 25 [.int .i64 0, .int .i64 0, .int .i64 0, .int .i64 0, .int .u64 0, .bool false]) := HR4x.out.far HNE.out _
  clear K4 HG4x HR4x
  go_wp2_with fail
  clear c f0
  refine (OneP.short rfl H4.out H3E.out).mono ?_
  rintro e w5 ⟨rfl, K5, hk⟩
  have HG5x : Hid (Blk w5 w1.heap.size 25 [.int .i64 (a1 : Nat), .int .i64 (a2 : Nat), .int .i64 0, .int .i64 0, .int .u64 0, .bool false]) := (hk.out _ (.inl rfl)).trans HG4.out
  have HR5x : Hid (Blk w5 w.heap.size 25 [.int .i64 0, .int .i64 0, .int .i64 0, .int .i64 0, .int .u64 0, .bool false]) := (hk.out _ (.inr HRI.out)).trans HR4.out
  clear hk H4 HG4 HR4
  have c := HG5x.out.cell 2
  have f0 := HG5x.out.frozen 2
  have H5 : Hid (OneP R (.pointer (some ad)) A L WA s3 (fun b => b = w1.heap.size ∨ b < WA.heap.size) (w5.setCell ⟨w1.heap.size, 2, none⟩ (.int .i64 (a3 : Nat)))) := K5.out.poke w1.heap.size ((Keeps.refl _ _).setCell _ _) (.inl rfl) HGW.out
  have HG5 : Hid (Blk (w5.setCell ⟨w1.heap.size, 2, none⟩ (.int .i64 (a3 : Nat))) w1.heap.size 25 [.int .i64 (a1 : Nat), .int .i64 (a2 : Nat), .int .i64 (a3 : Nat), .int .i64 0, .int .u64 0, .bool false]) := HG5x.out.set_ 2 (.int .i64 (a3 : Nat))
  have HR5 : Hid (Blk (w5.setCell ⟨w1.heap.size, 2, none⟩ (.int .i64 (a3 : Nat))) w.heap.size 25 [.int .i64 0, .int .i64 0, .int .i64 0, .int .i64 0, .int .u64 0, .bool false]) := HR5x.out.far HNE.out _
  clear K5 HG5x HR5x
  go_wp2_with fail
  clear c f0
  refine (OneP.short rfl H5.out H4E.out).mono ?_
  rintro e w6 ⟨rfl, K6, hk⟩
  have HG6x : Hid (Blk w6 w1.heap.size 25 [.int .i64 (a1 : Nat), .int .i64 (a2 : Nat), .int .i64 (a3 : Nat), .int .i64 0, .int .u64 0, .bool false]) := (hk.out _ (.inl rfl)).trans HG5.out
  have HR6x : Hid (Blk w6 w.heap.size 25 [.int .i64 0, .int .i64 0, .int .i64 0, .int .i64 0, .int .u64 0, .bool false]) := (hk.out _ (.inr HRI.out)).trans HR5.out
  clear hk H5 HG5 HR5
  have c := HG6x.out.cell 3
  have f0 := HG6x.out.frozen 3
  have H6 : Hid (OneP R (.pointer (some ad)) A L WA s4 (fun b => b = w1.heap.size ∨ b < WA.heap.size) (w6.setCell ⟨w1.heap.size, 3, none⟩ (.int .i64 (a4 : Nat)))) := K6.out.poke w1.heap.size ((Keeps.refl _ _).setCell _ _) (.inl rfl) HGW.out
  have HG6 : Hid (Blk (w6.setCell ⟨w1.heap.size, 3, none⟩ (.int .i64 (a4 : Nat))) w1.heap.size 25 [.int .i64 (a1 : Nat), .int .i64 (a2 : Nat), .int .i64 (a3 : Nat), .int .i64 (a4 : Nat), .int .u64 0, .bool false]) := HG6x.out.set_ 3 (.int .i64 (a4 : Nat))
  have HR6 : Hid (Blk (w6.setCell ⟨w1.heap.size, 3, none⟩ (.int .i64 (a4 : Nat))) w.heap.size 25 [.int .i64 0, .int .i64 0, .int .i64 0, .int .i64 0, .int .u64 0, .bool false]) := HR6x.out.far HNE.out _
  clear K6 HG6x HR6x
  go_wp2_with fail
  clear c f0
  refine (OneP.long rfl H6.out H5E.out).mono ?_
  rintro e w7 ⟨rfl, K7, hk⟩
  have HG7x : Hid (Blk w7 w1.heap.size 25 [.int .i64 (a1 : Nat), .int .i64 (a2 : Nat), .int .i64 (a3 : Nat), .int .i64 (a4 : Nat), .int .u64 0, .bool false]) := (hk.out _ (.inl rfl)).trans HG6.out
  have HR7x : Hid (Blk w7 w.heap.size 25 [.int .i64 0, .int .i64 0, .int .i64 0, .int .i64 0, .int .u64 0, .bool false]) := (hk.out _ (.inr HRI.out)).trans HR6.out
  clear hk H6 HG6 HR6
  have c := HG7x.out.cell 4
  have f0 := HG7x.out.frozen 4
  have H7 : Hid (OneP R (.pointer (some ad)) A L WA s5 (fun b => b = w1.heap.size ∨ b < WA.heap.size) (w7.setCell ⟨w1.heap.size, 4, none⟩ (.int .u64 (a5 : Nat)))) := K7.out.poke w1.heap.size ((Keeps.refl _ _).setCell _ _) (.inl rfl) HGW.out
  have HG7 : Hid (Blk (w7.setCell ⟨w1.heap.size, 4, none⟩ (.int .u64 (a5 : Nat))) w1.heap.size 25 [.int .i64 (a1 : Nat), .int .i64 (a2 : Nat), .int .i64 (a3 : Nat), .int .i64 (a4 : Nat), .int .u64 (a5 : Nat), .bool false]) := HG7x.out.set_ 4 (.int .u64 (a5 : Nat))
  have HR7 : Hid (Blk (w7.setCell ⟨w1.heap.size, 4, none⟩ (.int .u64 (a5 : Nat))) w.heap.size 25 [.int .i64 0, .int .i64 0, .int .i64 0, .int .i64 0, .int .u64 0, .bool false]) := HR7x.out.far HNE.out _
  clear K7 HG7x HR7x
  go_wp2_with fail
  clear c f0
  refine (OneP.flag rfl H7.out H6E.out).mono ?_
  rintro e w8 ⟨rfl, K8, hk⟩
  have HG8x : Hid (Blk w8 w1.heap.size 25 [.int .i64 (a1 : Nat), .int .i64 (a2 : Nat), .int .i64 (a3 : Nat), .int .i64 (a4 : Nat), .int .u64 (a5 : Nat), .bool false]) := (hk.out _ (.inl rfl)).trans HG7.out
  have HR8x : Hid (Blk w8 w.heap.size 25 [.int .i64 0, .int .i64 0, .int .i64 0, .int .i64 0, .int .u64 0, .bool false]) := (hk.out _ (.inr HRI.out)).trans HR7.out
  clear hk H7 HG7 HR7
  have c := HG8x.out.cell 5
  have f0 := HG8x.out.frozen 5
  have H8 : Hid (OneP R (.pointer (some ad)) A L WA s6 (fun b => b = w1.heap.size ∨ b < WA.heap.size) (w8.setCell ⟨w1.heap.size, 5, none⟩ (.bool a6))) := K8.out.poke w1.heap.size ((Keeps.refl _ _).setCell _ _) (.inl rfl) HGW.out
  have HG8 : Hid (Blk (w8.setCell ⟨w1.heap.size, 5, none⟩ (.bool a6)) w1.heap.size 25 [.int .i64 (a1 : Nat), .int .i64 (a2 : Nat), .int .i64 (a3 : Nat), .int .i64 (a4 : Nat), .int .u64 (a5 : Nat), .bool a6]) := HG8x.out.set_ 5 (.bool a6)
  have HR8 : Hid (Blk (w8.setCell ⟨w1.heap.size, 5, none⟩ (.bool a6)) w.heap.size 25 [.int .i64 0, .int .i64 0, .int .i64 0, .int .i64 0, .int .u64 0, .bool false]) := HR8x.out.far HNE.out _
  clear K8 HG8x HR8x
  go_wp2_with fail
  clear c f0
  refine (OneP.fin rfl H8.out HFE.out).mono ?_
  rintro e we ⟨rfl, hb⟩
  have HE : Hid (OneP R _ A L WA s6 _ we) := H8.out.below hb.out
  have HGE : Hid (Blk we w1.heap.size 25 [.int .i64 (a1 : Nat), .int .i64 (a2 : Nat), .int .i64 (a3 : Nat), .int .i64 (a4 : Nat), .int .u64 (a5 : Nat), .bool a6]) := HG8.out.below hb.out HG8.out.lt
  have HRE : Hid (Blk we w.heap.size 25 [.int .i64 0, .int .i64 0, .int .i64 0, .int .i64 0, .int .u64 0, .bool false]) := HR8.out.below hb.out HR8.out.lt
  have HLO : Hid (Below w.heap.size w we) := HWB.out.trans ((OneP.low HE.out).mono (by have h2 := HSZ.out; omega))
  clear hb HE H8 HG8 HR8
  by_cases h0 : f = 0
  · subst h0
    have cz : ((0 : Nat) : Int) = 0 := rfl
    have HYY : Hid (∀ h, ndDec L = (⟨(a1 : Nat), (a2 : Nat), (a3 : Nat), (a4 : Nat), a5, a6⟩, 0)) := HY.out rfl
    clear HY
    have d0 := HGE.out.cell 0
    have d1 := HGE.out.cell 1
    have d2 := HGE.out.cell 2
    have d3 := HGE.out.cell 3
    have d4 := HGE.out.cell 4
    have d5 := HGE.out.cell 5
    go_wp2_with fail
    clear d0 d1 d2 d3 d4 d5
    refine (right_any ⟨(a1 : Nat), (a2 : Nat), (a3 : Nat), (a4 : Nat), a5, a6⟩ _).mono ?_
    rintro e wr ⟨rfl, hb⟩
    have HG2 : Hid (Blk wr w1.heap.size 25 [.int .i64 (a1 : Nat), .int .i64 (a2 : Nat), .int .i64 (a3 : Nat), .int .i64 (a4 : Nat), .int .u64 (a5 : Nat), .bool a6]) := HGE.out.below hb HGE.out.lt
    have HR2 : Hid (Blk wr w.heap.size 25 [.int .i64 0, .int .i64 0, .int .i64 0, .int .i64 0, .int .u64 0, .bool false]) := HRE.out.below hb HRE.out.lt
    have HL2 : Hid (Below w.heap.size w wr) := HLO.out.trans (hb.mono HLO.out.size)
    clear hb HGE HRE HLO
    cases hb : Nd.right ⟨(a1 : Nat), (a2 : Nat), (a3 : Nat), (a4 : Nat), a5, a6⟩
    · have HAN := Lib.hid (HNO.out (.inr hb))
      clear hb
      have d0 := HR2.out.cell 0
      have f0 := HR2.out.frozen 0
      have d1 := HR2.out.cell 1
      have f1 := HR2.out.frozen 1
      have d2 := HR2.out.cell 2
      have f2 := HR2.out.frozen 2
      have d3 := HR2.out.cell 3
      have f3 := HR2.out.frozen 3
      have d4 := HR2.out.cell 4
      have f4 := HR2.out.frozen 4
      have d5 := HR2.out.cell 5
      have f5 := HR2.out.frozen 5
      go_wp2_with fail
      (try simp only [Exit.inBlock, Exit.then])
      refine bodyPost_ret (results_blk_tmp rfl _ _ w.heap.size 25 [.int .i64 0, .int .i64 0, .int .i64 0, .int .i64 0, .int .u64 0, .bool false] _ rfl (HR2.out.set6 _ _ _ _ _ _) rfl rfl rfl) rfl ⟨?_, ?_⟩
      · rw [HAN.out]; rfl
      · exact below_set6 HL2.out (Nat.le_refl _) _ _ _ _ _ _
    · have HAN := Lib.hid (HYY.out hb)
      clear hb
      have d0 := HR2.out.cell 0
      have f0 := HR2.out.frozen 0
      have g0 := HG2.out.cell 0
      have d1 := HR2.out.cell 1
      have f1 := HR2.out.frozen 1
      have g1 := HG2.out.cell 1
      have d2 := HR2.out.cell 2
      have f2 := HR2.out.frozen 2
      have g2 := HG2.out.cell 2
      have d3 := HR2.out.cell 3
      have f3 := HR2.out.frozen 3
      have g3 := HG2.out.cell 3
      have d4 := HR2.out.cell 4
      have f4 := HR2.out.frozen 4
      have g4 := HG2.out.cell 4
      have d5 := HR2.out.cell 5
      have f5 := HR2.out.frozen 5
      have g5 := HG2.out.cell 5
      go_wp2_with fail
      (try simp only [Exit.inBlock, Exit.then])
      refine bodyPost_ret (results_blk_tmp rfl _ _ w.heap.size 25 [.int .i64 (a1 : Nat), .int .i64 (a2 : Nat), .int .i64 (a3 : Nat), .int .i64 (a4 : Nat), .int .u64 (a5 : Nat), .bool a6] _ rfl (HR2.out.set6 _ _ _ _ _ _) rfl rfl rfl) rfl ⟨?_, ?_⟩
      · rw [HAN.out]; rfl
      · exact below_set6 HL2.out (Nat.le_refl _) _ _ _ _ _ _
  · have HAN := Lib.hid (HNO.out (.inl h0))
    have h0i : (((f : Nat) : Int) != 0) = true := by simpa using h0
    have d0 := HRE.out.cell 0
    have f0 := HRE.out.frozen 0
    have d1 := HRE.out.cell 1
    have f1 := HRE.out.frozen 1
    have d2 := HRE.out.cell 2
    have f2 := HRE.out.frozen 2
    have d3 := HRE.out.cell 3
    have f3 := HRE.out.frozen 3
    have d4 := HRE.out.cell 4
    have f4 := HRE.out.frozen 4
    have d5 := HRE.out.cell 5
    have f5 := HRE.out.frozen 5
    go_wp2_with fail
    (try simp only [Exit.inBlock, Exit.then])
    refine bodyPost_ret (results_blk_tmp rfl _ _ w.heap.size 25 [.int .i64 0, .int .i64 0, .int .i64 0, .int .i64 0, .int .u64 0, .bool false] _ rfl (HRE.out.set6 _ _ _ _ _ _) rfl rfl rfl) rfl ⟨?_, ?_⟩
    · rw [HAN.out]; rfl
    · exact below_set6 HLO.out (Nat.le_refl _) _ _ _ _ _ _
end Go.Proofs.Ytopcipaaffpiaaa

/-
  OWN WORK. OpRead
-/
import Derived.Test.YtmcbpgbiephllaaK02
import Derived.Test.YtmcbpgbiephllaaK03
import Derived.Test.YtmcbpgbiephllaaK01

namespace Go.Proofs.Ytmcbpgbiephllaa
open Go.RowKit Rc
open St (Opn)
namespace Op
theorem set9_blk {w : World} {g : Nat} {t : TypeId} {a0 a1 a2 a3 a4 a5 a6 a7 a8 : Value} (h : Blk w g t [a0, a1, a2, a3, a4, a5, a6, a7, a8]) (x0 x1 x2 x3 x4 x5 x6 x7 x8 : Value) : Blk (((((((((w.setCell ⟨g, 0, none⟩ x0).setCell ⟨g, 1, none⟩ x1).setCell ⟨g, 2, none⟩ x2).setCell ⟨g, 3, none⟩ x3).setCell ⟨g, 4, none⟩ x4).setCell ⟨g, 5, none⟩ x5).setCell ⟨g, 6, none⟩ x6).setCell ⟨g, 7, none⟩ x7).setCell ⟨g, 8, none⟩ x8) g t [x0, x1, x2, x3, x4, x5, x6, x7, x8] :=
  ((((((((h.set_ 0 x0).set_ 1 x1).set_ 2 x2).set_ 3 x3).set_ 4 x4).set_ 5 x5).set_ 6 x6).set_ 7 x7).set_ 8 x8
theorem set9_keeps (w : World) (g : Nat) (x0 x1 x2 x3 x4 x5 x6 x7 x8 : Value) : Keeps w (((((((((w.setCell ⟨g, 0, none⟩ x0).setCell ⟨g, 1, none⟩ x1).setCell ⟨g, 2, none⟩ x2).setCell ⟨g, 3, none⟩ x3).setCell ⟨g, 4, none⟩ x4).setCell ⟨g, 5, none⟩ x5).setCell ⟨g, 6, none⟩ x6).setCell ⟨g, 7, none⟩ x7).setCell ⟨g, 8, none⟩ x8) g :=
  (((((((((Keeps.refl w g).setCell 0 x0).setCell 1 x1).setCell 2 x2).setCell 3 x3).setCell 4 x4).setCell 5 x5).setCell 6 x6).setCell 7 x7).setCell 8 x8
def rds (k : Int) (s : Co.Rs) : Opn × Co.Rs :=
  let p1 := fld (hasPath k) Co.bytes [] s
  let p2 := fld (hasTo k) Co.bytes [] p1.2
  let p3 := fld (hasFd k) (Co.num 2) 0 p2.2
  let p4 := fld (hasSpan k) (Co.num 2) 0 p3.2
  let p5 := fld (hasSpan k) (Co.num 2) 0 p4.2
  let p6 := fld (hasTill k) (Co.num 8) 0 p5.2
  let p7 := fld (hasSnap k) (Co.num 2) 0 p6.2
  let p8 := fld (hasData k) Co.bytes [] p7.2
  (⟨0, p1.1, p2.1, (p3.1 : Nat), (p4.1 : Nat), (p5.1 : Nat), p6.1, (p7.1 : Nat), p8.1⟩, p8.2)
theorem reads_rds (L : List UInt8) : reads L = ({ (rds ((Co.num 1 ⟨L, 0⟩).1 : Nat) (Co.num 1 ⟨L, 0⟩).2).1 with kind := ((Co.num 1 ⟨L, 0⟩).1 : Nat) }, (rds ((Co.num 1 ⟨L, 0⟩).1 : Nat) (Co.num 1 ⟨L, 0⟩).2).2) := rfl
variable {f : RFns} {C : RSaid f} {v : Value} {A : Option Addr} {L : List UInt8} {W0 w : World} {s : Co.Rs} {Q : Nat → Prop}
def ROp (C : RSaid f) (v : Value) (A : Option Addr) (L : List UInt8) (W0 : World) (x : Opn) (s : Co.Rs) (Q : Nat → Prop) (w : World) (e : Ending) (w' : World) : Prop :=
  ∃ X c, e = .returned (opV x (.slice X x.data.length c)) ∧ x.data.length ≤ c ∧ Hid (Rd w' X x.data) ∧ Hid (OneP C v A L W0 s Q w') ∧ Hid (∀ b, Q b → w'.heap[b]? = w.heap[b]?) ∧ Hid (∀ w2 : World, w'.heap.size ≤ w2.heap.size → (∀ b, b < w'.heap.size → W0.heap.size ≤ b → ¬ Q b → w2.heap[b]? = w'.heap[b]?) → Rd w2 A L → Rd w2 X x.data)
theorem OneP.less {Q2 : Nat → Prop} (h : OneP C v A L W0 s Q w) (hQ : ∀ b, Q2 b → Q b) : OneP C v A L W0 s Q2 w := by
  obtain ⟨B, h1, h2⟩ := h
  exact ⟨B, h1, fun b hb => h2 b (hQ b hb)⟩
def ORow (C : RSaid f) (v : Value) (A : Option Addr) (L : List UInt8) (W0 : World) (l : List UInt8) (s : Co.Rs) (Q : Nat → Prop) (w : World) (e : Ending) (w' : World) : Prop :=
  ∃ X c, e = .returned (.slice X l.length c) ∧ l.length ≤ c ∧ Hid (Rd w' X l) ∧ Hid (OneP C v A L W0 s Q w') ∧ Hid (∀ b, Q b → w'.heap[b]? = w.heap[b]?) ∧ Hid (∀ w2 : World, w'.heap.size ≤ w2.heap.size → (∀ b, b < w'.heap.size → W0.heap.size ≤ b → ¬ Q b → w2.heap[b]? = w'.heap[b]?) → Rd w2 A L → Rd w2 X l)
theorem OneP.bytesK {fn : FuncId} (hf : f.bytes = some fn) {l : List UInt8} {s' : Co.Rs} (h : OneP C v A L W0 s Q w) (hr : Co.bytes s = (l, s')) : Calls Try.prog fn #[v] w (ORow C v A L W0 l s' Q w) := by
  obtain ⟨B, h, hQ⟩ := h
  refine (C.bytes hf h.at_ h.rd h.ap).mono fun e w' ho => ?_
  have ho2 := ho
  obtain ⟨X, c, S', T, rfl, hc, hrow, ha, hm, hs, ht⟩ := ho
  obtain ⟨X9, c9, q1, q2, q3, q4, q5⟩ := OneP.of_row h hQ ho2 hr
  rw [hr] at hrow hc
  have h2 := h.step ha hm hs
  injection q1 with q1
  rw [hr] at q1
  injection q1 with q1 _ q6
  subst q1 q6
  refine ⟨X, c, by rw [hr], hc, q3, q4, q5, fun w2 hz hk hA => ?_⟩
  refine hrow w2 hz (fun b hb => hk b (ht b hb).2 ?_ (fun hq => ?_)) hA
  · rcases (ht _ hb).1 with h9 | h9
    · exact (h.sub b h9).resolve_left id
    · exact Nat.le_trans h.mod.size h9
  · rcases (ht _ hb).1 with h9 | h9
    · exact (hQ _ hq).1 h9
    · have := (hQ _ hq).2
      omega
theorem results_blk1 {P : Program} {fn : Func} {p : Tmp} {ty : TypeId} (h : fn.results = #[.cell p ty]) (tmps : Array Value) (w : World) (g : Nat) (t : TypeId) (cs : List Value) (d : TypeDesc)
    (hp : tmps.getD p undef = .pointer (some ⟨g, 0, none⟩)) (hb : Blk w g t cs)
    (hu : P.underlying ty = some d) (hd : (match d with | .struct _ | .array _ _ => true | _ => false) = true) (hi : (P.info? ty).map (·.size) = some cs.length) :
    (results fn tmps).run P w = .ok (.agg cs.toArray) w :=
  results_cell_row h tmps w g t cs.toArray (0, 0) d hp hb hu hd (by simpa using hi)
set_option maxHeartbeats 4000000 in
set_option maxRecDepth 100000 in
theorem read_p {R : RSaid codecFns} (h : OneP R v A L W0 s Q w) (vp : List UInt8) (s1 : Co.Rs) (e1 : Co.bytes s = (vp, s1)) :
    Calls Try.prog 54 #[.agg #[.bool true, .bool false, .bool false, .bool false, .bool false, .bool false, .bool false], v] w (ROp R v A L W0 ⟨0, vp, [], 0, 0, 0, 0, 0, []⟩ s1 Q w) := by
  obtain ⟨a, rfl⟩ : ∃ a, v = .pointer (some a) := by obtain ⟨B, h1, _⟩ := h; exact R.ptr h1.at_
  have HQL : Hid (∀ b, Q b → b < w.heap.size) := fun b hb => by obtain ⟨B, _, h2⟩ := h; exact (h2 b hb).2
  obtain ⟨WA, hWA⟩ : ∃ WA, WA = w.alloc (.cells #[.bool true, .bool false, .bool false, .bool false, .bool false, .bool false, .bool false] 68) := ⟨_, rfl⟩
  obtain ⟨WR, hWR⟩ : ∃ WR, WR = WA.alloc (.cells #[.int .i64 0, .string ⟨#[]⟩, .string ⟨#[]⟩, .int .i64 0, .int .i64 0, .int .i64 0, .int .u64 0, .int .i64 0, .slice none 0 0] 25) := ⟨_, rfl⟩
  obtain ⟨WO, hWO⟩ : ∃ WO, WO = WR.alloc (.cells #[.int .i64 0, .string ⟨#[]⟩, .string ⟨#[]⟩, .int .i64 0, .int .i64 0, .int .i64 0, .int .u64 0, .int .i64 0, .slice none 0 0] 25) := ⟨_, rfl⟩
  obtain ⟨ga, hga⟩ : ∃ ga, ga = w.heap.size := ⟨_, rfl⟩
  have hzA : WA.heap.size = ga + 1 := by rw [hWA, World.size_alloc, hga]
  have hzR : WR.heap.size = ga + 2 := by rw [hWR, World.size_alloc, hzA]
  have hzO : WO.heap.size = ga + 3 := by rw [hWO, World.size_alloc, hzR]
  have hb1 : Below w.heap.size w WA := by rw [hWA]; exact below_new w _
  have hb2 : Below WA.heap.size WA WR := by rw [hWR]; exact below_new WA _
  have hb3 : Below WR.heap.size WR WO := by rw [hWO]; exact below_new WR _
  have hA : Blk WA ga 68 [.bool true, .bool false, .bool false, .bool false, .bool false, .bool false, .bool false] := by rw [hWA, hga]; exact Blk.new w _ _
  have hR : Blk WR (ga + 1) 25 [.int .i64 0, .string ⟨#[]⟩, .string ⟨#[]⟩, .int .i64 0, .int .i64 0, .int .i64 0, .int .u64 0, .int .i64 0, .slice none 0 0] := by rw [hWR, ← hzA]; exact Blk.new WA _ _
  have HA0 : Hid (Blk WO ga 68 [.bool true, .bool false, .bool false, .bool false, .bool false, .bool false, .bool false]) := (hA.below hb2 hA.lt).below hb3 (hA.below hb2 hA.lt).lt
  have HR0 : Hid (Blk WO (ga + 1) 25 [.int .i64 0, .string ⟨#[]⟩, .string ⟨#[]⟩, .int .i64 0, .int .i64 0, .int .i64 0, .int .u64 0, .int .i64 0, .slice none 0 0]) := hR.below hb3 hR.lt
  have HG0 : Hid (Blk WO (ga + 2) 25 [.int .i64 0, .string ⟨#[]⟩, .string ⟨#[]⟩, .int .i64 0, .int .i64 0, .int .i64 0, .int .u64 0, .int .i64 0, .slice none 0 0]) := by show Blk _ _ _ _; rw [hWO, ← hzR]; exact Blk.new WR _ _
  have H0 : Hid (OneP R (.pointer (some a)) A L W0 s (fun b => b = ga + 2 ∨ b = ga + 1 ∨ b = ga ∨ Q b) WO) :=
    ((h.made hb1 ga (Nat.le_of_eq hga.symm) (by omega)).made hb2 (ga + 1) (by omega) (by omega)).made hb3 (ga + 2) (by omega) (by omega)
  have HW0 : Hid (W0.heap.size ≤ ga) := by show _ ≤ _; rw [hga]; exact h.low.size
  have HQ0 : Hid (∀ b, Q b → WO.heap[b]? = w.heap[b]?) := fun b hb => by
    have := HQL.out b hb
    rw [hb3.block b (by omega), hb2.block b (by omega), hb1.block b (by omega)]
  have HGA : Hid (∀ b, Q b → b < ga) := by show ∀ b, Q b → b < ga; rw [hga]; exact HQL.out
  have E1 := Lib.hid e1
  clear hb1 hb2 hb3 hA hR h HQL hzA hzR e1
  go_enter Try.func54, Try.ntmps54
  go_upto_region 2 with (fail)
  rw [← hWA, ← hWR, ← hWO, ← hga]
  try rw [show ga + 1 + 1 = ga + 2 from rfl]
  clear hWA hWR hWO hga hzO
  have a0 := HA0.out.cell 0
  have a1 := HA0.out.cell 1
  have a2 := HA0.out.cell 2
  have a3 := HA0.out.cell 3
  have a4 := HA0.out.cell 4
  have a5 := HA0.out.cell 5
  have a6 := HA0.out.cell 6
  go_wp2_with fail
  refine (OneP.bytesK rfl H0.out E1.out).mono ?_
  rintro e w1 ⟨X1, cx1, rfl, hcx1, HRX1, K1, hk, HKX1⟩
  have hst := str_any w1 X1 vp cx1 HRX1.out
  clear HKX1 hcx1
  clear a0 a1 a2 a3 a4 a5 a6
  have HGx : Hid (Blk w1 (ga + 2) 25 [.int .i64 0, .string ⟨#[]⟩, .string ⟨#[]⟩, .int .i64 0, .int .i64 0, .int .i64 0, .int .u64 0, .int .i64 0, .slice none 0 0]) := (hk.out _ (.inl rfl)).trans HG0.out
  have HRx : Hid (Blk w1 (ga + 1) 25 [.int .i64 0, .string ⟨#[]⟩, .string ⟨#[]⟩, .int .i64 0, .int .i64 0, .int .i64 0, .int .u64 0, .int .i64 0, .slice none 0 0]) := (hk.out _ (.inr (.inl rfl))).trans HR0.out
  have HAx : Hid (Blk w1 ga 68 _) := (hk.out _ (.inr (.inr (.inl rfl)))).trans HA0.out
  have HQx : Hid (∀ b, Q b → w1.heap[b]? = w.heap[b]?) := fun b hb => (hk.out b (.inr (.inr (.inr hb)))).trans (HQ0.out b hb)
  have c := HGx.out.cell 1
  have f0 := HGx.out.frozen 1
  have H1 : Hid (OneP R (.pointer (some a)) A L W0 s1 (fun b => b = ga + 2 ∨ b = ga + 1 ∨ b = ga ∨ Q b) (w1.setCell ⟨ga + 2, 1, none⟩ (.string (strOf vp)))) := K1.out.poke (ga + 2) ((Keeps.refl _ _).setCell _ _) (.inl rfl) (Nat.le_trans HW0.out (by omega))
  have HG1 : Hid (Blk (w1.setCell ⟨ga + 2, 1, none⟩ (.string (strOf vp))) (ga + 2) 25 [.int .i64 0, .string (strOf vp), .string ⟨#[]⟩, .int .i64 0, .int .i64 0, .int .i64 0, .int .u64 0, .int .i64 0, .slice none 0 0]) := HGx.out.set_ 1 (.string (strOf vp))
  have HR1 : Hid (Blk (w1.setCell ⟨ga + 2, 1, none⟩ (.string (strOf vp))) (ga + 1) 25 [.int .i64 0, .string ⟨#[]⟩, .string ⟨#[]⟩, .int .i64 0, .int .i64 0, .int .i64 0, .int .u64 0, .int .i64 0, .slice none 0 0]) := HRx.out.far (by show ga + 1 ≠ ga + 2; omega) _
  have HA1 : Hid (Blk (w1.setCell ⟨ga + 2, 1, none⟩ (.string (strOf vp))) ga 68 _) := HAx.out.far (by show ga ≠ ga + 2; omega) _
  have HQ1 : Hid (∀ b, Q b → (w1.setCell ⟨ga + 2, 1, none⟩ (.string (strOf vp))).heap[b]? = w.heap[b]?) := fun b hb => (Below.heap_setCell w1 ⟨ga + 2, 1, none⟩ _ b (by have := HGA.out b hb; show b ≠ ga + 2; omega)).trans (HQx.out b hb)
  clear hk H0 HG0 HR0 HA0 HQ0 K1 HGx HRx HAx HQx
  have a0 := HA1.out.cell 0
  have a1 := HA1.out.cell 1
  have a2 := HA1.out.cell 2
  have a3 := HA1.out.cell 3
  have a4 := HA1.out.cell 4
  have a5 := HA1.out.cell 5
  have a6 := HA1.out.cell 6
  have r0 := HR1.out.cell 0
  have q0 := HR1.out.frozen 0
  have b0 := HG1.out.cell 0
  have r1 := HR1.out.cell 1
  have q1 := HR1.out.frozen 1
  have b1 := HG1.out.cell 1
  have r2 := HR1.out.cell 2
  have q2 := HR1.out.frozen 2
  have b2 := HG1.out.cell 2
  have r3 := HR1.out.cell 3
  have q3 := HR1.out.frozen 3
  have b3 := HG1.out.cell 3
  have r4 := HR1.out.cell 4
  have q4 := HR1.out.frozen 4
  have b4 := HG1.out.cell 4
  have r5 := HR1.out.cell 5
  have q5 := HR1.out.frozen 5
  have b5 := HG1.out.cell 5
  have r6 := HR1.out.cell 6
  have q6 := HR1.out.frozen 6
  have b6 := HG1.out.cell 6
  have r7 := HR1.out.cell 7
  have q7 := HR1.out.frozen 7
  have b7 := HG1.out.cell 7
  have r8 := HR1.out.cell 8
  have q8 := HR1.out.frozen 8
  have b8 := HG1.out.cell 8
  obtain ⟨WF, hWF⟩ : ∃ W, W = ((((((((((w1.setCell ⟨ga + 2, 1, none⟩ (.string (strOf vp))).setCell ⟨ga + 1, 0, none⟩ (.int .i64 0)).setCell ⟨ga + 1, 1, none⟩ (.string (strOf vp))).setCell ⟨ga + 1, 2, none⟩ (.string ⟨#[]⟩)).setCell ⟨ga + 1, 3, none⟩ (.int .i64 0)).setCell ⟨ga + 1, 4, none⟩ (.int .i64 0)).setCell ⟨ga + 1, 5, none⟩ (.int .i64 0)).setCell ⟨ga + 1, 6, none⟩ (.int .u64 0)).setCell ⟨ga + 1, 7, none⟩ (.int .i64 0)).setCell ⟨ga + 1, 8, none⟩ (.slice none 0 0)) := ⟨_, rfl⟩
  have hkp : Keeps (w1.setCell ⟨ga + 2, 1, none⟩ (.string (strOf vp))) WF (ga + 1) := by rw [hWF]; exact set9_keeps (w1.setCell ⟨ga + 2, 1, none⟩ (.string (strOf vp))) (ga + 1) (.int .i64 0) (.string (strOf vp)) (.string ⟨#[]⟩) (.int .i64 0) (.int .i64 0) (.int .i64 0) (.int .u64 0) (.int .i64 0) (.slice none 0 0)
  have HRF : Hid (Blk WF (ga + 1) 25 [.int .i64 0, .string (strOf vp), .string ⟨#[]⟩, .int .i64 0, .int .i64 0, .int .i64 0, .int .u64 0, .int .i64 0, .slice none 0 0]) := by show Blk _ _ _ _; rw [hWF]; exact set9_blk HR1.out _ _ _ _ _ _ _ _ _
  have HPF : Hid (OneP R (.pointer (some a)) A L W0 s1 Q WF) := OneP.less (H1.out.poke (ga + 1) hkp (.inr (.inl rfl)) (Nat.le_trans HW0.out (by omega))) fun b hb => .inr (.inr (.inr hb))
  have HQF : Hid (∀ b, Q b → WF.heap[b]? = w.heap[b]?) := fun b hb => (hkp.block b (by have := HGA.out b hb; have := HG1.out.lt; omega) (fun e => by have := HGA.out b hb; injection e <;> omega)).trans (HQ1.out b hb)
  clear hkp
  go_wp2_with fail
  try clear c f0
  try clear hst
  rw [← hWF]
  refine bodyPost_ret (results_blk1 rfl _ _ (ga + 1) 25 [.int .i64 0, .string (strOf vp), .string ⟨#[]⟩, .int .i64 0, .int .i64 0, .int .i64 0, .int .u64 0, .int .i64 0, .slice none 0 0] _ rfl HRF.out rfl rfl rfl) rfl ?_
  exact ⟨none, 0, rfl, Nat.le_refl _, Rd.nil _ _, HPF, HQF, fun _ _ _ _ => Rd.nil _ _⟩
set_option maxHeartbeats 4000000 in
set_option maxRecDepth 100000 in
theorem read_ps {R : RSaid codecFns} (h : OneP R v A L W0 s Q w) (vp : List UInt8) (s1 : Co.Rs) (e1 : Co.bytes s = (vp, s1)) (vs : Nat) (s2 : Co.Rs) (e2 : Co.num 2 s1 = (vs, s2)) :
    Calls Try.prog 54 #[.agg #[.bool true, .bool false, .bool false, .bool false, .bool false, .bool true, .bool false], v] w (ROp R v A L W0 ⟨0, vp, [], 0, 0, 0, 0, ((vs : Nat) : Int), []⟩ s2 Q w) := by
  obtain ⟨a, rfl⟩ : ∃ a, v = .pointer (some a) := by obtain ⟨B, h1, _⟩ := h; exact R.ptr h1.at_
  have HQL : Hid (∀ b, Q b → b < w.heap.size) := fun b hb => by obtain ⟨B, _, h2⟩ := h; exact (h2 b hb).2
  obtain ⟨WA, hWA⟩ : ∃ WA, WA = w.alloc (.cells #[.bool true, .bool false, .bool false, .bool false, .bool false, .bool true, .bool false] 68) := ⟨_, rfl⟩
  obtain ⟨WR, hWR⟩ : ∃ WR, WR = WA.alloc (.cells #[.int .i64 0, .string ⟨#[]⟩, .string ⟨#[]⟩, .int .i64 0, .int .i64 0, .int .i64 0, .int .u64 0, .int .i64 0, .slice none 0 0] 25) := ⟨_, rfl⟩
  obtain ⟨WO, hWO⟩ : ∃ WO, WO = WR.alloc (.cells #[.int .i64 0, .string ⟨#[]⟩, .string ⟨#[]⟩, .int .i64 0, .int .i64 0, .int .i64 0, .int .u64 0, .int .i64 0, .slice none 0 0] 25) := ⟨_, rfl⟩
  obtain ⟨ga, hga⟩ : ∃ ga, ga = w.heap.size := ⟨_, rfl⟩
  have hzA : WA.heap.size = ga + 1 := by rw [hWA, World.size_alloc, hga]
  have hzR : WR.heap.size = ga + 2 := by rw [hWR, World.size_alloc, hzA]
  have hzO : WO.heap.size = ga + 3 := by rw [hWO, World.size_alloc, hzR]
  have hb1 : Below w.heap.size w WA := by rw [hWA]; exact below_new w _
  have hb2 : Below WA.heap.size WA WR := by rw [hWR]; exact below_new WA _
  have hb3 : Below WR.heap.size WR WO := by rw [hWO]; exact below_new WR _
  have hA : Blk WA ga 68 [.bool true, .bool false, .bool false, .bool false, .bool false, .bool true, .bool false] := by rw [hWA, hga]; exact Blk.new w _ _
  have hR : Blk WR (ga + 1) 25 [.int .i64 0, .string ⟨#[]⟩, .string ⟨#[]⟩, .int .i64 0, .int .i64 0, .int .i64 0, .int .u64 0, .int .i64 0, .slice none 0 0] := by rw [hWR, ← hzA]; exact Blk.new WA _ _
  have HA0 : Hid (Blk WO ga 68 [.bool true, .bool false, .bool false, .bool false, .bool false, .bool true, .bool false]) := (hA.below hb2 hA.lt).below hb3 (hA.below hb2 hA.lt).lt
  have HR0 : Hid (Blk WO (ga + 1) 25 [.int .i64 0, .string ⟨#[]⟩, .string ⟨#[]⟩, .int .i64 0, .int .i64 0, .int .i64 0, .int .u64 0, .int .i64 0, .slice none 0 0]) := hR.below hb3 hR.lt
  have HG0 : Hid (Blk WO (ga + 2) 25 [.int .i64 0, .string ⟨#[]⟩, .string ⟨#[]⟩, .int .i64 0, .int .i64 0, .int .i64 0, .int .u64 0, .int .i64 0, .slice none 0 0]) := by show Blk _ _ _ _; rw [hWO, ← hzR]; exact Blk.new WR _ _
  have H0 : Hid (OneP R (.pointer (some a)) A L W0 s (fun b => b = ga + 2 ∨ b = ga + 1 ∨ b = ga ∨ Q b) WO) :=
    ((h.made hb1 ga (Nat.le_of_eq hga.symm) (by omega)).made hb2 (ga + 1) (by omega) (by omega)).made hb3 (ga + 2) (by omega) (by omega)
  have HW0 : Hid (W0.heap.size ≤ ga) := by show _ ≤ _; rw [hga]; exact h.low.size
  have HQ0 : Hid (∀ b, Q b → WO.heap[b]? = w.heap[b]?) := fun b hb => by
    have := HQL.out b hb
    rw [hb3.block b (by omega), hb2.block b (by omega), hb1.block b (by omega)]
  have HGA : Hid (∀ b, Q b → b < ga) := by show ∀ b, Q b → b < ga; rw [hga]; exact HQL.out
  have E1 := Lib.hid e1
  have E2 := Lib.hid e2
  clear hb1 hb2 hb3 hA hR h HQL hzA hzR e1 e2
  go_enter Try.func54, Try.ntmps54
  go_upto_region 2 with (fail)
  rw [← hWA, ← hWR, ← hWO, ← hga]
  try rw [show ga + 1 + 1 = ga + 2 from rfl]
  clear hWA hWR hWO hga hzO
  have a0 := HA0.out.cell 0
  have a1 := HA0.out.cell 1
  have a2 := HA0.out.cell 2
  have a3 := HA0.out.cell 3
  have a4 := HA0.out.cell 4
  have a5 := HA0.out.cell 5
  have a6 := HA0.out.cell 6
  go_wp2_with fail
  refine (OneP.bytesK rfl H0.out E1.out).mono ?_
  rintro e w1 ⟨X1, cx1, rfl, hcx1, HRX1, K1, hk, HKX1⟩
  have hst := str_any w1 X1 vp cx1 HRX1.out
  clear HKX1 hcx1
  clear a0 a1 a2 a3 a4 a5 a6
  have HGx : Hid (Blk w1 (ga + 2) 25 [.int .i64 0, .string ⟨#[]⟩, .string ⟨#[]⟩, .int .i64 0, .int .i64 0, .int .i64 0, .int .u64 0, .int .i64 0, .slice none 0 0]) := (hk.out _ (.inl rfl)).trans HG0.out
  have HRx : Hid (Blk w1 (ga + 1) 25 [.int .i64 0, .string ⟨#[]⟩, .string ⟨#[]⟩, .int .i64 0, .int .i64 0, .int .i64 0, .int .u64 0, .int .i64 0, .slice none 0 0]) := (hk.out _ (.inr (.inl rfl))).trans HR0.out
  have HAx : Hid (Blk w1 ga 68 _) := (hk.out _ (.inr (.inr (.inl rfl)))).trans HA0.out
  have HQx : Hid (∀ b, Q b → w1.heap[b]? = w.heap[b]?) := fun b hb => (hk.out b (.inr (.inr (.inr hb)))).trans (HQ0.out b hb)
  have c := HGx.out.cell 1
  have f0 := HGx.out.frozen 1
  have H1 : Hid (OneP R (.pointer (some a)) A L W0 s1 (fun b => b = ga + 2 ∨ b = ga + 1 ∨ b = ga ∨ Q b) (w1.setCell ⟨ga + 2, 1, none⟩ (.string (strOf vp)))) := K1.out.poke (ga + 2) ((Keeps.refl _ _).setCell _ _) (.inl rfl) (Nat.le_trans HW0.out (by omega))
  have HG1 : Hid (Blk (w1.setCell ⟨ga + 2, 1, none⟩ (.string (strOf vp))) (ga + 2) 25 [.int .i64 0, .string (strOf vp), .string ⟨#[]⟩, .int .i64 0, .int .i64 0, .int .i64 0, .int .u64 0, .int .i64 0, .slice none 0 0]) := HGx.out.set_ 1 (.string (strOf vp))
  have HR1 : Hid (Blk (w1.setCell ⟨ga + 2, 1, none⟩ (.string (strOf vp))) (ga + 1) 25 [.int .i64 0, .string ⟨#[]⟩, .string ⟨#[]⟩, .int .i64 0, .int .i64 0, .int .i64 0, .int .u64 0, .int .i64 0, .slice none 0 0]) := HRx.out.far (by show ga + 1 ≠ ga + 2; omega) _
  have HA1 : Hid (Blk (w1.setCell ⟨ga + 2, 1, none⟩ (.string (strOf vp))) ga 68 _) := HAx.out.far (by show ga ≠ ga + 2; omega) _
  have HQ1 : Hid (∀ b, Q b → (w1.setCell ⟨ga + 2, 1, none⟩ (.string (strOf vp))).heap[b]? = w.heap[b]?) := fun b hb => (Below.heap_setCell w1 ⟨ga + 2, 1, none⟩ _ b (by have := HGA.out b hb; show b ≠ ga + 2; omega)).trans (HQx.out b hb)
  clear hk H0 HG0 HR0 HA0 HQ0 K1 HGx HRx HAx HQx
  have a0 := HA1.out.cell 0
  have a1 := HA1.out.cell 1
  have a2 := HA1.out.cell 2
  have a3 := HA1.out.cell 3
  have a4 := HA1.out.cell 4
  have a5 := HA1.out.cell 5
  have a6 := HA1.out.cell 6
  go_wp2_with fail
  try clear c f0
  try clear hst
  refine (OneP.short rfl H1.out E2.out).mono ?_
  rintro e w2 ⟨rfl, K2, hk⟩
  clear a0 a1 a2 a3 a4 a5 a6
  have HGx : Hid (Blk w2 (ga + 2) 25 [.int .i64 0, .string (strOf vp), .string ⟨#[]⟩, .int .i64 0, .int .i64 0, .int .i64 0, .int .u64 0, .int .i64 0, .slice none 0 0]) := (hk.out _ (.inl rfl)).trans HG1.out
  have HRx : Hid (Blk w2 (ga + 1) 25 [.int .i64 0, .string ⟨#[]⟩, .string ⟨#[]⟩, .int .i64 0, .int .i64 0, .int .i64 0, .int .u64 0, .int .i64 0, .slice none 0 0]) := (hk.out _ (.inr (.inl rfl))).trans HR1.out
  have HAx : Hid (Blk w2 ga 68 _) := (hk.out _ (.inr (.inr (.inl rfl)))).trans HA1.out
  have HQx : Hid (∀ b, Q b → w2.heap[b]? = w.heap[b]?) := fun b hb => (hk.out b (.inr (.inr (.inr hb)))).trans (HQ1.out b hb)
  have c := HGx.out.cell 7
  have f0 := HGx.out.frozen 7
  have H2 : Hid (OneP R (.pointer (some a)) A L W0 s2 (fun b => b = ga + 2 ∨ b = ga + 1 ∨ b = ga ∨ Q b) (w2.setCell ⟨ga + 2, 7, none⟩ (.int .i64 (vs : Nat)))) := K2.out.poke (ga + 2) ((Keeps.refl _ _).setCell _ _) (.inl rfl) (Nat.le_trans HW0.out (by omega))
  have HG2 : Hid (Blk (w2.setCell ⟨ga + 2, 7, none⟩ (.int .i64 (vs : Nat))) (ga + 2) 25 [.int .i64 0, .string (strOf vp), .string ⟨#[]⟩, .int .i64 0, .int .i64 0, .int .i64 0, .int .u64 0, .int .i64 (vs : Nat), .slice none 0 0]) := HGx.out.set_ 7 (.int .i64 (vs : Nat))
  have HR2 : Hid (Blk (w2.setCell ⟨ga + 2, 7, none⟩ (.int .i64 (vs : Nat))) (ga + 1) 25 [.int .i64 0, .string ⟨#[]⟩, .string ⟨#[]⟩, .int .i64 0, .int .i64 0, .int .i64 0, .int .u64 0, .int .i64 0, .slice none 0 0]) := HRx.out.far (by show ga + 1 ≠ ga + 2; omega) _
  have HA2 : Hid (Blk (w2.setCell ⟨ga + 2, 7, none⟩ (.int .i64 (vs : Nat))) ga 68 _) := HAx.out.far (by show ga ≠ ga + 2; omega) _
  have HQ2 : Hid (∀ b, Q b → (w2.setCell ⟨ga + 2, 7, none⟩ (.int .i64 (vs : Nat))).heap[b]? = w.heap[b]?) := fun b hb => (Below.heap_setCell w2 ⟨ga + 2, 7, none⟩ _ b (by have := HGA.out b hb; show b ≠ ga + 2; omega)).trans (HQx.out b hb)
  clear hk H1 HG1 HR1 HA1 HQ1 K2 HGx HRx HAx HQx
  have a0 := HA2.out.cell 0
  have a1 := HA2.out.cell 1
  have a2 := HA2.out.cell 2
  have a3 := HA2.out.cell 3
  have a4 := HA2.out.cell 4
  have a5 := HA2.out.cell 5
  have a6 := HA2.out.cell 6
  have r0 := HR2.out.cell 0
  have q0 := HR2.out.frozen 0
  have b0 := HG2.out.cell 0
  have r1 := HR2.out.cell 1
  have q1 := HR2.out.frozen 1
  have b1 := HG2.out.cell 1
  have r2 := HR2.out.cell 2
  have q2 := HR2.out.frozen 2
  have b2 := HG2.out.cell 2
  have r3 := HR2.out.cell 3
  have q3 := HR2.out.frozen 3
  have b3 := HG2.out.cell 3
  have r4 := HR2.out.cell 4
  have q4 := HR2.out.frozen 4
  have b4 := HG2.out.cell 4
  have r5 := HR2.out.cell 5
  have q5 := HR2.out.frozen 5
  have b5 := HG2.out.cell 5
  have r6 := HR2.out.cell 6
  have q6 := HR2.out.frozen 6
  have b6 := HG2.out.cell 6
  have r7 := HR2.out.cell 7
  have q7 := HR2.out.frozen 7
  have b7 := HG2.out.cell 7
  have r8 := HR2.out.cell 8
  have q8 := HR2.out.frozen 8
  have b8 := HG2.out.cell 8
  obtain ⟨WF, hWF⟩ : ∃ W, W = ((((((((((w2.setCell ⟨ga + 2, 7, none⟩ (.int .i64 (vs : Nat))).setCell ⟨ga + 1, 0, none⟩ (.int .i64 0)).setCell ⟨ga + 1, 1, none⟩ (.string (strOf vp))).setCell ⟨ga + 1, 2, none⟩ (.string ⟨#[]⟩)).setCell ⟨ga + 1, 3, none⟩ (.int .i64 0)).setCell ⟨ga + 1, 4, none⟩ (.int .i64 0)).setCell ⟨ga + 1, 5, none⟩ (.int .i64 0)).setCell ⟨ga + 1, 6, none⟩ (.int .u64 0)).setCell ⟨ga + 1, 7, none⟩ (.int .i64 (vs : Nat))).setCell ⟨ga + 1, 8, none⟩ (.slice none 0 0)) := ⟨_, rfl⟩
  have hkp : Keeps (w2.setCell ⟨ga + 2, 7, none⟩ (.int .i64 (vs : Nat))) WF (ga + 1) := by rw [hWF]; exact set9_keeps (w2.setCell ⟨ga + 2, 7, none⟩ (.int .i64 (vs : Nat))) (ga + 1) (.int .i64 0) (.string (strOf vp)) (.string ⟨#[]⟩) (.int .i64 0) (.int .i64 0) (.int .i64 0) (.int .u64 0) (.int .i64 (vs : Nat)) (.slice none 0 0)
  have HRF : Hid (Blk WF (ga + 1) 25 [.int .i64 0, .string (strOf vp), .string ⟨#[]⟩, .int .i64 0, .int .i64 0, .int .i64 0, .int .u64 0, .int .i64 (vs : Nat), .slice none 0 0]) := by show Blk _ _ _ _; rw [hWF]; exact set9_blk HR2.out _ _ _ _ _ _ _ _ _
  have HPF : Hid (OneP R (.pointer (some a)) A L W0 s2 Q WF) := OneP.less (H2.out.poke (ga + 1) hkp (.inr (.inl rfl)) (Nat.le_trans HW0.out (by omega))) fun b hb => .inr (.inr (.inr hb))
  have HQF : Hid (∀ b, Q b → WF.heap[b]? = w.heap[b]?) := fun b hb => (hkp.block b (by have := HGA.out b hb; have := HG2.out.lt; omega) (fun e => by have := HGA.out b hb; injection e <;> omega)).trans (HQ2.out b hb)
  clear hkp
  go_wp2_with fail
  try clear c f0
  try clear hst
  rw [← hWF]
  refine bodyPost_ret (results_blk1 rfl _ _ (ga + 1) 25 [.int .i64 0, .string (strOf vp), .string ⟨#[]⟩, .int .i64 0, .int .i64 0, .int .i64 0, .int .u64 0, .int .i64 (vs : Nat), .slice none 0 0] _ rfl HRF.out rfl rfl rfl) rfl ?_
  exact ⟨none, 0, rfl, Nat.le_refl _, Rd.nil _ _, HPF, HQF, fun _ _ _ _ => Rd.nil _ _⟩
set_option maxHeartbeats 4000000 in
set_option maxRecDepth 100000 in
theorem read_fan {R : RSaid codecFns} (h : OneP R v A L W0 s Q w) (vf : Nat) (s1 : Co.Rs) (e1 : Co.num 2 s = (vf, s1)) (va : Nat) (s2 : Co.Rs) (e2 : Co.num 2 s1 = (va, s2)) (vn : Nat) (s3 : Co.Rs) (e3 : Co.num 2 s2 = (vn, s3)) :
    Calls Try.prog 54 #[.agg #[.bool false, .bool false, .bool true, .bool true, .bool false, .bool false, .bool false], v] w (ROp R v A L W0 ⟨0, [], [], ((vf : Nat) : Int), ((va : Nat) : Int), ((vn : Nat) : Int), 0, 0, []⟩ s3 Q w) := by
  obtain ⟨a, rfl⟩ : ∃ a, v = .pointer (some a) := by obtain ⟨B, h1, _⟩ := h; exact R.ptr h1.at_
  have HQL : Hid (∀ b, Q b → b < w.heap.size) := fun b hb => by obtain ⟨B, _, h2⟩ := h; exact (h2 b hb).2
  obtain ⟨WA, hWA⟩ : ∃ WA, WA = w.alloc (.cells #[.bool false, .bool false, .bool true, .bool true, .bool false, .bool false, .bool false] 68) := ⟨_, rfl⟩
  obtain ⟨WR, hWR⟩ : ∃ WR, WR = WA.alloc (.cells #[.int .i64 0, .string ⟨#[]⟩, .string ⟨#[]⟩, .int .i64 0, .int .i64 0, .int .i64 0, .int .u64 0, .int .i64 0, .slice none 0 0] 25) := ⟨_, rfl⟩
  obtain ⟨WO, hWO⟩ : ∃ WO, WO = WR.alloc (.cells #[.int .i64 0, .string ⟨#[]⟩, .string ⟨#[]⟩, .int .i64 0, .int .i64 0, .int .i64 0, .int .u64 0, .int .i64 0, .slice none 0 0] 25) := ⟨_, rfl⟩
  obtain ⟨ga, hga⟩ : ∃ ga, ga = w.heap.size := ⟨_, rfl⟩
  have hzA : WA.heap.size = ga + 1 := by rw [hWA, World.size_alloc, hga]
  have hzR : WR.heap.size = ga + 2 := by rw [hWR, World.size_alloc, hzA]
  have hzO : WO.heap.size = ga + 3 := by rw [hWO, World.size_alloc, hzR]
  have hb1 : Below w.heap.size w WA := by rw [hWA]; exact below_new w _
  have hb2 : Below WA.heap.size WA WR := by rw [hWR]; exact below_new WA _
  have hb3 : Below WR.heap.size WR WO := by rw [hWO]; exact below_new WR _
  have hA : Blk WA ga 68 [.bool false, .bool false, .bool true, .bool true, .bool false, .bool false, .bool false] := by rw [hWA, hga]; exact Blk.new w _ _
  have hR : Blk WR (ga + 1) 25 [.int .i64 0, .string ⟨#[]⟩, .string ⟨#[]⟩, .int .i64 0, .int .i64 0, .int .i64 0, .int .u64 0, .int .i64 0, .slice none 0 0] := by rw [hWR, ← hzA]; exact Blk.new WA _ _
  have HA0 : Hid (Blk WO ga 68 [.bool false, .bool false, .bool true, .bool true, .bool false, .bool false, .bool false]) := (hA.below hb2 hA.lt).below hb3 (hA.below hb2 hA.lt).lt
  have HR0 : Hid (Blk WO (ga + 1) 25 [.int .i64 0, .string ⟨#[]⟩, .string ⟨#[]⟩, .int .i64 0, .int .i64 0, .int .i64 0, .int .u64 0, .int .i64 0, .slice none 0 0]) := hR.below hb3 hR.lt
  have HG0 : Hid (Blk WO (ga + 2) 25 [.int .i64 0, .string ⟨#[]⟩, .string ⟨#[]⟩, .int .i64 0, .int .i64 0, .int .i64 0, .int .u64 0, .int .i64 0, .slice none 0 0]) := by show Blk _ _ _ _; rw [hWO, ← hzR]; exact Blk.new WR _ _
  have H0 : Hid (OneP R (.pointer (some a)) A L W0 s (fun b => b = ga + 2 ∨ b = ga + 1 ∨ b = ga ∨ Q b) WO) :=
    ((h.made hb1 ga (Nat.le_of_eq hga.symm) (by omega)).made hb2 (ga + 1) (by omega) (by omega)).made hb3 (ga + 2) (by omega) (by omega)
  have HW0 : Hid (W0.heap.size ≤ ga) := by show _ ≤ _; rw [hga]; exact h.low.size
  have HQ0 : Hid (∀ b, Q b → WO.heap[b]? = w.heap[b]?) := fun b hb => by
    have := HQL.out b hb
    rw [hb3.block b (by omega), hb2.block b (by omega), hb1.block b (by omega)]
  have HGA : Hid (∀ b, Q b → b < ga) := by show ∀ b, Q b → b < ga; rw [hga]; exact HQL.out
  have E1 := Lib.hid e1
  have E2 := Lib.hid e2
  have E3 := Lib.hid e3
  clear hb1 hb2 hb3 hA hR h HQL hzA hzR e1 e2 e3
  go_enter Try.func54, Try.ntmps54
  go_upto_region 2 with (fail)
  rw [← hWA, ← hWR, ← hWO, ← hga]
  try rw [show ga + 1 + 1 = ga + 2 from rfl]
  clear hWA hWR hWO hga hzO
  have a0 := HA0.out.cell 0
  have a1 := HA0.out.cell 1
  have a2 := HA0.out.cell 2
  have a3 := HA0.out.cell 3
  have a4 := HA0.out.cell 4
  have a5 := HA0.out.cell 5
  have a6 := HA0.out.cell 6
  go_wp2_with fail
  refine (OneP.short rfl H0.out E1.out).mono ?_
  rintro e w1 ⟨rfl, K1, hk⟩
  clear a0 a1 a2 a3 a4 a5 a6
  have HGx : Hid (Blk w1 (ga + 2) 25 [.int .i64 0, .string ⟨#[]⟩, .string ⟨#[]⟩, .int .i64 0, .int .i64 0, .int .i64 0, .int .u64 0, .int .i64 0, .slice none 0 0]) := (hk.out _ (.inl rfl)).trans HG0.out
  have HRx : Hid (Blk w1 (ga + 1) 25 [.int .i64 0, .string ⟨#[]⟩, .string ⟨#[]⟩, .int .i64 0, .int .i64 0, .int .i64 0, .int .u64 0, .int .i64 0, .slice none 0 0]) := (hk.out _ (.inr (.inl rfl))).trans HR0.out
  have HAx : Hid (Blk w1 ga 68 _) := (hk.out _ (.inr (.inr (.inl rfl)))).trans HA0.out
  have HQx : Hid (∀ b, Q b → w1.heap[b]? = w.heap[b]?) := fun b hb => (hk.out b (.inr (.inr (.inr hb)))).trans (HQ0.out b hb)
  have c := HGx.out.cell 3
  have f0 := HGx.out.frozen 3
  have H1 : Hid (OneP R (.pointer (some a)) A L W0 s1 (fun b => b = ga + 2 ∨ b = ga + 1 ∨ b = ga ∨ Q b) (w1.setCell ⟨ga + 2, 3, none⟩ (.int .i64 (vf : Nat)))) := K1.out.poke (ga + 2) ((Keeps.refl _ _).setCell _ _) (.inl rfl) (Nat.le_trans HW0.out (by omega))
  have HG1 : Hid (Blk (w1.setCell ⟨ga + 2, 3, none⟩ (.int .i64 (vf : Nat))) (ga + 2) 25 [.int .i64 0, .string ⟨#[]⟩, .string ⟨#[]⟩, .int .i64 (vf : Nat), .int .i64 0, .int .i64 0, .int .u64 0, .int .i64 0, .slice none 0 0]) := HGx.out.set_ 3 (.int .i64 (vf : Nat))
  have HR1 : Hid (Blk (w1.setCell ⟨ga + 2, 3, none⟩ (.int .i64 (vf : Nat))) (ga + 1) 25 [.int .i64 0, .string ⟨#[]⟩, .string ⟨#[]⟩, .int .i64 0, .int .i64 0, .int .i64 0, .int .u64 0, .int .i64 0, .slice none 0 0]) := HRx.out.far (by show ga + 1 ≠ ga + 2; omega) _
  have HA1 : Hid (Blk (w1.setCell ⟨ga + 2, 3, none⟩ (.int .i64 (vf : Nat))) ga 68 _) := HAx.out.far (by show ga ≠ ga + 2; omega) _
  have HQ1 : Hid (∀ b, Q b → (w1.setCell ⟨ga + 2, 3, none⟩ (.int .i64 (vf : Nat))).heap[b]? = w.heap[b]?) := fun b hb => (Below.heap_setCell w1 ⟨ga + 2, 3, none⟩ _ b (by have := HGA.out b hb; show b ≠ ga + 2; omega)).trans (HQx.out b hb)
  clear hk H0 HG0 HR0 HA0 HQ0 K1 HGx HRx HAx HQx
  have a0 := HA1.out.cell 0
  have a1 := HA1.out.cell 1
  have a2 := HA1.out.cell 2
  have a3 := HA1.out.cell 3
  have a4 := HA1.out.cell 4
  have a5 := HA1.out.cell 5
  have a6 := HA1.out.cell 6
  go_wp2_with fail
  try clear c f0
  try clear hst
  refine (OneP.short rfl H1.out E2.out).mono ?_
  rintro e w2 ⟨rfl, K2, hk⟩
  clear a0 a1 a2 a3 a4 a5 a6
  have HGx : Hid (Blk w2 (ga + 2) 25 [.int .i64 0, .string ⟨#[]⟩, .string ⟨#[]⟩, .int .i64 (vf : Nat), .int .i64 0, .int .i64 0, .int .u64 0, .int .i64 0, .slice none 0 0]) := (hk.out _ (.inl rfl)).trans HG1.out
  have HRx : Hid (Blk w2 (ga + 1) 25 [.int .i64 0, .string ⟨#[]⟩, .string ⟨#[]⟩, .int .i64 0, .int .i64 0, .int .i64 0, .int .u64 0, .int .i64 0, .slice none 0 0]) := (hk.out _ (.inr (.inl rfl))).trans HR1.out
  have HAx : Hid (Blk w2 ga 68 _) := (hk.out _ (.inr (.inr (.inl rfl)))).trans HA1.out
  have HQx : Hid (∀ b, Q b → w2.heap[b]? = w.heap[b]?) := fun b hb => (hk.out b (.inr (.inr (.inr hb)))).trans (HQ1.out b hb)
  have c := HGx.out.cell 4
  have f0 := HGx.out.frozen 4
  have H2 : Hid (OneP R (.pointer (some a)) A L W0 s2 (fun b => b = ga + 2 ∨ b = ga + 1 ∨ b = ga ∨ Q b) (w2.setCell ⟨ga + 2, 4, none⟩ (.int .i64 (va : Nat)))) := K2.out.poke (ga + 2) ((Keeps.refl _ _).setCell _ _) (.inl rfl) (Nat.le_trans HW0.out (by omega))
  have HG2 : Hid (Blk (w2.setCell ⟨ga + 2, 4, none⟩ (.int .i64 (va : Nat))) (ga + 2) 25 [.int .i64 0, .string ⟨#[]⟩, .string ⟨#[]⟩, .int .i64 (vf : Nat), .int .i64 (va : Nat), .int .i64 0, .int .u64 0, .int .i64 0, .slice none 0 0]) := HGx.out.set_ 4 (.int .i64 (va : Nat))
  have HR2 : Hid (Blk (w2.setCell ⟨ga + 2, 4, none⟩ (.int .i64 (va : Nat))) (ga + 1) 25 [.int .i64 0, .string ⟨#[]⟩, .string ⟨#[]⟩, .int .i64 0, .int .i64 0, .int .i64 0, .int .u64 0, .int .i64 0, .slice none 0 0]) := HRx.out.far (by show ga + 1 ≠ ga + 2; omega) _
  have HA2 : Hid (Blk (w2.setCell ⟨ga + 2, 4, none⟩ (.int .i64 (va : Nat))) ga 68 _) := HAx.out.far (by show ga ≠ ga + 2; omega) _
  have HQ2 : Hid (∀ b, Q b → (w2.setCell ⟨ga + 2, 4, none⟩ (.int .i64 (va : Nat))).heap[b]? = w.heap[b]?) := fun b hb => (Below.heap_setCell w2 ⟨ga + 2, 4, none⟩ _ b (by have := HGA.out b hb; show b ≠ ga + 2; omega)).trans (HQx.out b hb)
  clear hk H1 HG1 HR1 HA1 HQ1 K2 HGx HRx HAx HQx
  have a0 := HA2.out.cell 0
  have a1 := HA2.out.cell 1
  have a2 := HA2.out.cell 2
  have a3 := HA2.out.cell 3
  have a4 := HA2.out.cell 4
  have a5 := HA2.out.cell 5
  have a6 := HA2.out.cell 6
  go_wp2_with fail
  try clear c f0
  try clear hst
  refine (OneP.short rfl H2.out E3.out).mono ?_
  rintro e w3 ⟨rfl, K3, hk⟩
  clear a0 a1 a2 a3 a4 a5 a6
  have HGx : Hid (Blk w3 (ga + 2) 25 [.int .i64 0, .string ⟨#[]⟩, .string ⟨#[]⟩, .int .i64 (vf : Nat), .int .i64 (va : Nat), .int .i64 0, .int .u64 0, .int .i64 0, .slice none 0 0]) := (hk.out _ (.inl rfl)).trans HG2.out
  have HRx : Hid (Blk w3 (ga + 1) 25 [.int .i64 0, .string ⟨#[]⟩, .string ⟨#[]⟩, .int .i64 0, .int .i64 0, .int .i64 0, .int .u64 0, .int .i64 0, .slice none 0 0]) := (hk.out _ (.inr (.inl rfl))).trans HR2.out
  have HAx : Hid (Blk w3 ga 68 _) := (hk.out _ (.inr (.inr (.inl rfl)))).trans HA2.out
  have HQx : Hid (∀ b, Q b → w3.heap[b]? = w.heap[b]?) := fun b hb => (hk.out b (.inr (.inr (.inr hb)))).trans (HQ2.out b hb)
  have c := HGx.out.cell 5
  have f0 := HGx.out.frozen 5
  have H3 : Hid (OneP R (.pointer (some a)) A L W0 s3 (fun b => b = ga + 2 ∨ b = ga + 1 ∨ b = ga ∨ Q b) (w3.setCell ⟨ga + 2, 5, none⟩ (.int .i64 (vn : Nat)))) := K3.out.poke (ga + 2) ((Keeps.refl _ _).setCell _ _) (.inl rfl) (Nat.le_trans HW0.out (by omega))
  have HG3 : Hid (Blk (w3.setCell ⟨ga + 2, 5, none⟩ (.int .i64 (vn : Nat))) (ga + 2) 25 [.int .i64 0, .string ⟨#[]⟩, .string ⟨#[]⟩, .int .i64 (vf : Nat), .int .i64 (va : Nat), .int .i64 (vn : Nat), .int .u64 0, .int .i64 0, .slice none 0 0]) := HGx.out.set_ 5 (.int .i64 (vn : Nat))
  have HR3 : Hid (Blk (w3.setCell ⟨ga + 2, 5, none⟩ (.int .i64 (vn : Nat))) (ga + 1) 25 [.int .i64 0, .string ⟨#[]⟩, .string ⟨#[]⟩, .int .i64 0, .int .i64 0, .int .i64 0, .int .u64 0, .int .i64 0, .slice none 0 0]) := HRx.out.far (by show ga + 1 ≠ ga + 2; omega) _
  have HA3 : Hid (Blk (w3.setCell ⟨ga + 2, 5, none⟩ (.int .i64 (vn : Nat))) ga 68 _) := HAx.out.far (by show ga ≠ ga + 2; omega) _
  have HQ3 : Hid (∀ b, Q b → (w3.setCell ⟨ga + 2, 5, none⟩ (.int .i64 (vn : Nat))).heap[b]? = w.heap[b]?) := fun b hb => (Below.heap_setCell w3 ⟨ga + 2, 5, none⟩ _ b (by have := HGA.out b hb; show b ≠ ga + 2; omega)).trans (HQx.out b hb)
  clear hk H2 HG2 HR2 HA2 HQ2 K3 HGx HRx HAx HQx
  have a0 := HA3.out.cell 0
  have a1 := HA3.out.cell 1
  have a2 := HA3.out.cell 2
  have a3 := HA3.out.cell 3
  have a4 := HA3.out.cell 4
  have a5 := HA3.out.cell 5
  have a6 := HA3.out.cell 6
  have r0 := HR3.out.cell 0
  have q0 := HR3.out.frozen 0
  have b0 := HG3.out.cell 0
  have r1 := HR3.out.cell 1
  have q1 := HR3.out.frozen 1
  have b1 := HG3.out.cell 1
  have r2 := HR3.out.cell 2
  have q2 := HR3.out.frozen 2
  have b2 := HG3.out.cell 2
  have r3 := HR3.out.cell 3
  have q3 := HR3.out.frozen 3
  have b3 := HG3.out.cell 3
  have r4 := HR3.out.cell 4
  have q4 := HR3.out.frozen 4
  have b4 := HG3.out.cell 4
  have r5 := HR3.out.cell 5
  have q5 := HR3.out.frozen 5
  have b5 := HG3.out.cell 5
  have r6 := HR3.out.cell 6
  have q6 := HR3.out.frozen 6
  have b6 := HG3.out.cell 6
  have r7 := HR3.out.cell 7
  have q7 := HR3.out.frozen 7
  have b7 := HG3.out.cell 7
  have r8 := HR3.out.cell 8
  have q8 := HR3.out.frozen 8
  have b8 := HG3.out.cell 8
  obtain ⟨WF, hWF⟩ : ∃ W, W = ((((((((((w3.setCell ⟨ga + 2, 5, none⟩ (.int .i64 (vn : Nat))).setCell ⟨ga + 1, 0, none⟩ (.int .i64 0)).setCell ⟨ga + 1, 1, none⟩ (.string ⟨#[]⟩)).setCell ⟨ga + 1, 2, none⟩ (.string ⟨#[]⟩)).setCell ⟨ga + 1, 3, none⟩ (.int .i64 (vf : Nat))).setCell ⟨ga + 1, 4, none⟩ (.int .i64 (va : Nat))).setCell ⟨ga + 1, 5, none⟩ (.int .i64 (vn : Nat))).setCell ⟨ga + 1, 6, none⟩ (.int .u64 0)).setCell ⟨ga + 1, 7, none⟩ (.int .i64 0)).setCell ⟨ga + 1, 8, none⟩ (.slice none 0 0)) := ⟨_, rfl⟩
  have hkp : Keeps (w3.setCell ⟨ga + 2, 5, none⟩ (.int .i64 (vn : Nat))) WF (ga + 1) := by rw [hWF]; exact set9_keeps (w3.setCell ⟨ga + 2, 5, none⟩ (.int .i64 (vn : Nat))) (ga + 1) (.int .i64 0) (.string ⟨#[]⟩) (.string ⟨#[]⟩) (.int .i64 (vf : Nat)) (.int .i64 (va : Nat)) (.int .i64 (vn : Nat)) (.int .u64 0) (.int .i64 0) (.slice none 0 0)
  have HRF : Hid (Blk WF (ga + 1) 25 [.int .i64 0, .string ⟨#[]⟩, .string ⟨#[]⟩, .int .i64 (vf : Nat), .int .i64 (va : Nat), .int .i64 (vn : Nat), .int .u64 0, .int .i64 0, .slice none 0 0]) := by show Blk _ _ _ _; rw [hWF]; exact set9_blk HR3.out _ _ _ _ _ _ _ _ _
  have HPF : Hid (OneP R (.pointer (some a)) A L W0 s3 Q WF) := OneP.less (H3.out.poke (ga + 1) hkp (.inr (.inl rfl)) (Nat.le_trans HW0.out (by omega))) fun b hb => .inr (.inr (.inr hb))
  have HQF : Hid (∀ b, Q b → WF.heap[b]? = w.heap[b]?) := fun b hb => (hkp.block b (by have := HGA.out b hb; have := HG3.out.lt; omega) (fun e => by have := HGA.out b hb; injection e <;> omega)).trans (HQ3.out b hb)
  clear hkp
  go_wp2_with fail
  try clear c f0
  try clear hst
  rw [← hWF]
  refine bodyPost_ret (results_blk1 rfl _ _ (ga + 1) 25 [.int .i64 0, .string ⟨#[]⟩, .string ⟨#[]⟩, .int .i64 (vf : Nat), .int .i64 (va : Nat), .int .i64 (vn : Nat), .int .u64 0, .int .i64 0, .slice none 0 0] _ rfl HRF.out rfl rfl rfl) rfl ?_
  exact ⟨none, 0, rfl, Nat.le_refl _, Rd.nil _ _, HPF, HQF, fun _ _ _ _ => Rd.nil _ _⟩
set_option maxHeartbeats 4000000 in
set_option maxRecDepth 100000 in
theorem read_fd {R : RSaid codecFns} (h : OneP R v A L W0 s Q w) (vf : Nat) (s1 : Co.Rs) (e1 : Co.num 2 s = (vf, s1)) (vd : List UInt8) (s2 : Co.Rs) (e2 : Co.bytes s1 = (vd, s2)) :
    Calls Try.prog 54 #[.agg #[.bool false, .bool false, .bool true, .bool false, .bool false, .bool false, .bool true], v] w (ROp R v A L W0 ⟨0, [], [], ((vf : Nat) : Int), 0, 0, 0, 0, vd⟩ s2 Q w) := by
  obtain ⟨a, rfl⟩ : ∃ a, v = .pointer (some a) := by obtain ⟨B, h1, _⟩ := h; exact R.ptr h1.at_
  have HQL : Hid (∀ b, Q b → b < w.heap.size) := fun b hb => by obtain ⟨B, _, h2⟩ := h; exact (h2 b hb).2
  obtain ⟨WA, hWA⟩ : ∃ WA, WA = w.alloc (.cells #[.bool false, .bool false, .bool true, .bool false, .bool false, .bool false, .bool true] 68) := ⟨_, rfl⟩
  obtain ⟨WR, hWR⟩ : ∃ WR, WR = WA.alloc (.cells #[.int .i64 0, .string ⟨#[]⟩, .string ⟨#[]⟩, .int .i64 0, .int .i64 0, .int .i64 0, .int .u64 0, .int .i64 0, .slice none 0 0] 25) := ⟨_, rfl⟩
  obtain ⟨WO, hWO⟩ : ∃ WO, WO = WR.alloc (.cells #[.int .i64 0, .string ⟨#[]⟩, .string ⟨#[]⟩, .int .i64 0, .int .i64 0, .int .i64 0, .int .u64 0, .int .i64 0, .slice none 0 0] 25) := ⟨_, rfl⟩
  obtain ⟨ga, hga⟩ : ∃ ga, ga = w.heap.size := ⟨_, rfl⟩
  have hzA : WA.heap.size = ga + 1 := by rw [hWA, World.size_alloc, hga]
  have hzR : WR.heap.size = ga + 2 := by rw [hWR, World.size_alloc, hzA]
  have hzO : WO.heap.size = ga + 3 := by rw [hWO, World.size_alloc, hzR]
  have hb1 : Below w.heap.size w WA := by rw [hWA]; exact below_new w _
  have hb2 : Below WA.heap.size WA WR := by rw [hWR]; exact below_new WA _
  have hb3 : Below WR.heap.size WR WO := by rw [hWO]; exact below_new WR _
  have hA : Blk WA ga 68 [.bool false, .bool false, .bool true, .bool false, .bool false, .bool false, .bool true] := by rw [hWA, hga]; exact Blk.new w _ _
  have hR : Blk WR (ga + 1) 25 [.int .i64 0, .string ⟨#[]⟩, .string ⟨#[]⟩, .int .i64 0, .int .i64 0, .int .i64 0, .int .u64 0, .int .i64 0, .slice none 0 0] := by rw [hWR, ← hzA]; exact Blk.new WA _ _
  have HA0 : Hid (Blk WO ga 68 [.bool false, .bool false, .bool true, .bool false, .bool false, .bool false, .bool true]) := (hA.below hb2 hA.lt).below hb3 (hA.below hb2 hA.lt).lt
  have HR0 : Hid (Blk WO (ga + 1) 25 [.int .i64 0, .string ⟨#[]⟩, .string ⟨#[]⟩, .int .i64 0, .int .i64 0, .int .i64 0, .int .u64 0, .int .i64 0, .slice none 0 0]) := hR.below hb3 hR.lt
  have HG0 : Hid (Blk WO (ga + 2) 25 [.int .i64 0, .string ⟨#[]⟩, .string ⟨#[]⟩, .int .i64 0, .int .i64 0, .int .i64 0, .int .u64 0, .int .i64 0, .slice none 0 0]) := by show Blk _ _ _ _; rw [hWO, ← hzR]; exact Blk.new WR _ _
  have H0 : Hid (OneP R (.pointer (some a)) A L W0 s (fun b => b = ga + 2 ∨ b = ga + 1 ∨ b = ga ∨ Q b) WO) :=
    ((h.made hb1 ga (Nat.le_of_eq hga.symm) (by omega)).made hb2 (ga + 1) (by omega) (by omega)).made hb3 (ga + 2) (by omega) (by omega)
  have HW0 : Hid (W0.heap.size ≤ ga) := by show _ ≤ _; rw [hga]; exact h.low.size
  have HQ0 : Hid (∀ b, Q b → WO.heap[b]? = w.heap[b]?) := fun b hb => by
    have := HQL.out b hb
    rw [hb3.block b (by omega), hb2.block b (by omega), hb1.block b (by omega)]
  have HGA : Hid (∀ b, Q b → b < ga) := by show ∀ b, Q b → b < ga; rw [hga]; exact HQL.out
  have E1 := Lib.hid e1
  have E2 := Lib.hid e2
  clear hb1 hb2 hb3 hA hR h HQL hzA hzR e1 e2
  go_enter Try.func54, Try.ntmps54
  go_upto_region 2 with (fail)
  rw [← hWA, ← hWR, ← hWO, ← hga]
  try rw [show ga + 1 + 1 = ga + 2 from rfl]
  clear hWA hWR hWO hga hzO
  have a0 := HA0.out.cell 0
  have a1 := HA0.out.cell 1
  have a2 := HA0.out.cell 2
  have a3 := HA0.out.cell 3
  have a4 := HA0.out.cell 4
  have a5 := HA0.out.cell 5
  have a6 := HA0.out.cell 6
  go_wp2_with fail
  refine (OneP.short rfl H0.out E1.out).mono ?_
  rintro e w1 ⟨rfl, K1, hk⟩
  clear a0 a1 a2 a3 a4 a5 a6
  have HGx : Hid (Blk w1 (ga + 2) 25 [.int .i64 0, .string ⟨#[]⟩, .string ⟨#[]⟩, .int .i64 0, .int .i64 0, .int .i64 0, .int .u64 0, .int .i64 0, .slice none 0 0]) := (hk.out _ (.inl rfl)).trans HG0.out
  have HRx : Hid (Blk w1 (ga + 1) 25 [.int .i64 0, .string ⟨#[]⟩, .string ⟨#[]⟩, .int .i64 0, .int .i64 0, .int .i64 0, .int .u64 0, .int .i64 0, .slice none 0 0]) := (hk.out _ (.inr (.inl rfl))).trans HR0.out
  have HAx : Hid (Blk w1 ga 68 _) := (hk.out _ (.inr (.inr (.inl rfl)))).trans HA0.out
  have HQx : Hid (∀ b, Q b → w1.heap[b]? = w.heap[b]?) := fun b hb => (hk.out b (.inr (.inr (.inr hb)))).trans (HQ0.out b hb)
  have c := HGx.out.cell 3
  have f0 := HGx.out.frozen 3
  have H1 : Hid (OneP R (.pointer (some a)) A L W0 s1 (fun b => b = ga + 2 ∨ b = ga + 1 ∨ b = ga ∨ Q b) (w1.setCell ⟨ga + 2, 3, none⟩ (.int .i64 (vf : Nat)))) := K1.out.poke (ga + 2) ((Keeps.refl _ _).setCell _ _) (.inl rfl) (Nat.le_trans HW0.out (by omega))
  have HG1 : Hid (Blk (w1.setCell ⟨ga + 2, 3, none⟩ (.int .i64 (vf : Nat))) (ga + 2) 25 [.int .i64 0, .string ⟨#[]⟩, .string ⟨#[]⟩, .int .i64 (vf : Nat), .int .i64 0, .int .i64 0, .int .u64 0, .int .i64 0, .slice none 0 0]) := HGx.out.set_ 3 (.int .i64 (vf : Nat))
  have HR1 : Hid (Blk (w1.setCell ⟨ga + 2, 3, none⟩ (.int .i64 (vf : Nat))) (ga + 1) 25 [.int .i64 0, .string ⟨#[]⟩, .string ⟨#[]⟩, .int .i64 0, .int .i64 0, .int .i64 0, .int .u64 0, .int .i64 0, .slice none 0 0]) := HRx.out.far (by show ga + 1 ≠ ga + 2; omega) _
  have HA1 : Hid (Blk (w1.setCell ⟨ga + 2, 3, none⟩ (.int .i64 (vf : Nat))) ga 68 _) := HAx.out.far (by show ga ≠ ga + 2; omega) _
  have HQ1 : Hid (∀ b, Q b → (w1.setCell ⟨ga + 2, 3, none⟩ (.int .i64 (vf : Nat))).heap[b]? = w.heap[b]?) := fun b hb => (Below.heap_setCell w1 ⟨ga + 2, 3, none⟩ _ b (by have := HGA.out b hb; show b ≠ ga + 2; omega)).trans (HQx.out b hb)
  clear hk H0 HG0 HR0 HA0 HQ0 K1 HGx HRx HAx HQx
  have a0 := HA1.out.cell 0
  have a1 := HA1.out.cell 1
  have a2 := HA1.out.cell 2
  have a3 := HA1.out.cell 3
  have a4 := HA1.out.cell 4
  have a5 := HA1.out.cell 5
  have a6 := HA1.out.cell 6
  go_wp2_with fail
  try clear c f0
  try clear hst
  refine (OneP.bytesK rfl H1.out E2.out).mono ?_
  rintro e w2 ⟨X2, cx2, rfl, hcx2, HRX2, K2, hk, HKX2⟩
  clear a0 a1 a2 a3 a4 a5 a6
  have HGx : Hid (Blk w2 (ga + 2) 25 [.int .i64 0, .string ⟨#[]⟩, .string ⟨#[]⟩, .int .i64 (vf : Nat), .int .i64 0, .int .i64 0, .int .u64 0, .int .i64 0, .slice none 0 0]) := (hk.out _ (.inl rfl)).trans HG1.out
  have HRx : Hid (Blk w2 (ga + 1) 25 [.int .i64 0, .string ⟨#[]⟩, .string ⟨#[]⟩, .int .i64 0, .int .i64 0, .int .i64 0, .int .u64 0, .int .i64 0, .slice none 0 0]) := (hk.out _ (.inr (.inl rfl))).trans HR1.out
  have HAx : Hid (Blk w2 ga 68 _) := (hk.out _ (.inr (.inr (.inl rfl)))).trans HA1.out
  have HQx : Hid (∀ b, Q b → w2.heap[b]? = w.heap[b]?) := fun b hb => (hk.out b (.inr (.inr (.inr hb)))).trans (HQ1.out b hb)
  have c := HGx.out.cell 8
  have f0 := HGx.out.frozen 8
  have H2 : Hid (OneP R (.pointer (some a)) A L W0 s2 (fun b => b = ga + 2 ∨ b = ga + 1 ∨ b = ga ∨ Q b) (w2.setCell ⟨ga + 2, 8, none⟩ (.slice X2 vd.length cx2))) := K2.out.poke (ga + 2) ((Keeps.refl _ _).setCell _ _) (.inl rfl) (Nat.le_trans HW0.out (by omega))
  have HG2 : Hid (Blk (w2.setCell ⟨ga + 2, 8, none⟩ (.slice X2 vd.length cx2)) (ga + 2) 25 [.int .i64 0, .string ⟨#[]⟩, .string ⟨#[]⟩, .int .i64 (vf : Nat), .int .i64 0, .int .i64 0, .int .u64 0, .int .i64 0, .slice X2 vd.length cx2]) := HGx.out.set_ 8 (.slice X2 vd.length cx2)
  have HR2 : Hid (Blk (w2.setCell ⟨ga + 2, 8, none⟩ (.slice X2 vd.length cx2)) (ga + 1) 25 [.int .i64 0, .string ⟨#[]⟩, .string ⟨#[]⟩, .int .i64 0, .int .i64 0, .int .i64 0, .int .u64 0, .int .i64 0, .slice none 0 0]) := HRx.out.far (by show ga + 1 ≠ ga + 2; omega) _
  have HA2 : Hid (Blk (w2.setCell ⟨ga + 2, 8, none⟩ (.slice X2 vd.length cx2)) ga 68 _) := HAx.out.far (by show ga ≠ ga + 2; omega) _
  have HQ2 : Hid (∀ b, Q b → (w2.setCell ⟨ga + 2, 8, none⟩ (.slice X2 vd.length cx2)).heap[b]? = w.heap[b]?) := fun b hb => (Below.heap_setCell w2 ⟨ga + 2, 8, none⟩ _ b (by have := HGA.out b hb; show b ≠ ga + 2; omega)).trans (HQx.out b hb)
  clear hk H1 HG1 HR1 HA1 HQ1 K2 HGx HRx HAx HQx
  have a0 := HA2.out.cell 0
  have a1 := HA2.out.cell 1
  have a2 := HA2.out.cell 2
  have a3 := HA2.out.cell 3
  have a4 := HA2.out.cell 4
  have a5 := HA2.out.cell 5
  have a6 := HA2.out.cell 6
  have r0 := HR2.out.cell 0
  have q0 := HR2.out.frozen 0
  have b0 := HG2.out.cell 0
  have r1 := HR2.out.cell 1
  have q1 := HR2.out.frozen 1
  have b1 := HG2.out.cell 1
  have r2 := HR2.out.cell 2
  have q2 := HR2.out.frozen 2
  have b2 := HG2.out.cell 2
  have r3 := HR2.out.cell 3
  have q3 := HR2.out.frozen 3
  have b3 := HG2.out.cell 3
  have r4 := HR2.out.cell 4
  have q4 := HR2.out.frozen 4
  have b4 := HG2.out.cell 4
  have r5 := HR2.out.cell 5
  have q5 := HR2.out.frozen 5
  have b5 := HG2.out.cell 5
  have r6 := HR2.out.cell 6
  have q6 := HR2.out.frozen 6
  have b6 := HG2.out.cell 6
  have r7 := HR2.out.cell 7
  have q7 := HR2.out.frozen 7
  have b7 := HG2.out.cell 7
  have r8 := HR2.out.cell 8
  have q8 := HR2.out.frozen 8
  have b8 := HG2.out.cell 8
  obtain ⟨WF, hWF⟩ : ∃ W, W = ((((((((((w2.setCell ⟨ga + 2, 8, none⟩ (.slice X2 vd.length cx2)).setCell ⟨ga + 1, 0, none⟩ (.int .i64 0)).setCell ⟨ga + 1, 1, none⟩ (.string ⟨#[]⟩)).setCell ⟨ga + 1, 2, none⟩ (.string ⟨#[]⟩)).setCell ⟨ga + 1, 3, none⟩ (.int .i64 (vf : Nat))).setCell ⟨ga + 1, 4, none⟩ (.int .i64 0)).setCell ⟨ga + 1, 5, none⟩ (.int .i64 0)).setCell ⟨ga + 1, 6, none⟩ (.int .u64 0)).setCell ⟨ga + 1, 7, none⟩ (.int .i64 0)).setCell ⟨ga + 1, 8, none⟩ (.slice X2 vd.length cx2)) := ⟨_, rfl⟩
  have hkp : Keeps (w2.setCell ⟨ga + 2, 8, none⟩ (.slice X2 vd.length cx2)) WF (ga + 1) := by rw [hWF]; exact set9_keeps (w2.setCell ⟨ga + 2, 8, none⟩ (.slice X2 vd.length cx2)) (ga + 1) (.int .i64 0) (.string ⟨#[]⟩) (.string ⟨#[]⟩) (.int .i64 (vf : Nat)) (.int .i64 0) (.int .i64 0) (.int .u64 0) (.int .i64 0) (.slice X2 vd.length cx2)
  have HRF : Hid (Blk WF (ga + 1) 25 [.int .i64 0, .string ⟨#[]⟩, .string ⟨#[]⟩, .int .i64 (vf : Nat), .int .i64 0, .int .i64 0, .int .u64 0, .int .i64 0, .slice X2 vd.length cx2]) := by show Blk _ _ _ _; rw [hWF]; exact set9_blk HR2.out _ _ _ _ _ _ _ _ _
  have HPF : Hid (OneP R (.pointer (some a)) A L W0 s2 Q WF) := OneP.less (H2.out.poke (ga + 1) hkp (.inr (.inl rfl)) (Nat.le_trans HW0.out (by omega))) fun b hb => .inr (.inr (.inr hb))
  have HQF : Hid (∀ b, Q b → WF.heap[b]? = w.heap[b]?) := fun b hb => (hkp.block b (by have := HGA.out b hb; have := HG2.out.lt; omega) (fun e => by have := HGA.out b hb; injection e <;> omega)).trans (HQ2.out b hb)
  have HROW : Hid (∀ wq : World, WF.heap.size ≤ wq.heap.size → (∀ b, b < WF.heap.size → W0.heap.size ≤ b → ¬ Q b → wq.heap[b]? = WF.heap[b]?) → Rd wq A L → Rd wq X2 vd) := fun wq hz hk hA => by
    have hsz : w2.heap.size ≤ WF.heap.size := Nat.le_trans ((Keeps.refl w2 (ga + 2)).setCell 8 _).size hkp.size
    refine HKX2.out wq (Nat.le_trans hsz hz) (fun b hb h0 hn => ?_) hA
    have n1 : b ≠ ga + 2 := fun h => hn (.inl h)
    have n2 : b ≠ ga + 1 := fun h => hn (.inr (.inl h))
    refine (hk b (Nat.lt_of_lt_of_le hb hsz) h0 (fun h => hn (.inr (.inr (.inr h))))).trans ((hkp.block b (Nat.lt_of_lt_of_le hb ((Keeps.refl w2 (ga + 2)).setCell 8 _).size) (fun e => n2 (by injection e <;> omega))).trans ?_)
    exact Below.heap_setCell w2 ⟨ga + 2, 8, none⟩ _ b n1
  have HRDF : Hid (Rd WF X2 vd) := HROW.out WF (Nat.le_refl _) (fun _ _ _ _ => rfl) (by obtain ⟨B, h1, _⟩ := HPF.out; exact h1.rd)
  clear hkp
  go_wp2_with fail
  try clear c f0
  try clear hst
  rw [← hWF]
  refine bodyPost_ret (results_blk1 rfl _ _ (ga + 1) 25 [.int .i64 0, .string ⟨#[]⟩, .string ⟨#[]⟩, .int .i64 (vf : Nat), .int .i64 0, .int .i64 0, .int .u64 0, .int .i64 0, .slice X2 vd.length cx2] _ rfl HRF.out rfl rfl rfl) rfl ?_
  exact ⟨X2, cx2, rfl, hcx2, HRDF, HPF, HQF, HROW⟩
set_option maxHeartbeats 4000000 in
set_option maxRecDepth 100000 in
theorem read_fu {R : RSaid codecFns} (h : OneP R v A L W0 s Q w) (vf : Nat) (s1 : Co.Rs) (e1 : Co.num 2 s = (vf, s1)) (vu : Nat) (s2 : Co.Rs) (e2 : Co.num 8 s1 = (vu, s2)) :
    Calls Try.prog 54 #[.agg #[.bool false, .bool false, .bool true, .bool false, .bool true, .bool false, .bool false], v] w (ROp R v A L W0 ⟨0, [], [], ((vf : Nat) : Int), 0, 0, vu, 0, []⟩ s2 Q w) := by
  obtain ⟨a, rfl⟩ : ∃ a, v = .pointer (some a) := by obtain ⟨B, h1, _⟩ := h; exact R.ptr h1.at_
  have HQL : Hid (∀ b, Q b → b < w.heap.size) := fun b hb => by obtain ⟨B, _, h2⟩ := h; exact (h2 b hb).2
  obtain ⟨WA, hWA⟩ : ∃ WA, WA = w.alloc (.cells #[.bool false, .bool false, .bool true, .bool false, .bool true, .bool false, .bool false] 68) := ⟨_, rfl⟩
  obtain ⟨WR, hWR⟩ : ∃ WR, WR = WA.alloc (.cells #[.int .i64 0, .string ⟨#[]⟩, .string ⟨#[]⟩, .int .i64 0, .int .i64 0, .int .i64 0, .int .u64 0, .int .i64 0, .slice none 0 0] 25) := ⟨_, rfl⟩
  obtain ⟨WO, hWO⟩ : ∃ WO, WO = WR.alloc (.cells #[.int .i64 0, .string ⟨#[]⟩, .string ⟨#[]⟩, .int .i64 0, .int .i64 0, .int .i64 0, .int .u64 0, .int .i64 0, .slice none 0 0] 25) := ⟨_, rfl⟩
  obtain ⟨ga, hga⟩ : ∃ ga, ga = w.heap.size := ⟨_, rfl⟩
  have hzA : WA.heap.size = ga + 1 := by rw [hWA, World.size_alloc, hga]
  have hzR : WR.heap.size = ga + 2 := by rw [hWR, World.size_alloc, hzA]
  have hzO : WO.heap.size = ga + 3 := by rw [hWO, World.size_alloc, hzR]
  have hb1 : Below w.heap.size w WA := by rw [hWA]; exact below_new w _
  have hb2 : Below WA.heap.size WA WR := by rw [hWR]; exact below_new WA _
  have hb3 : Below WR.heap.size WR WO := by rw [hWO]; exact below_new WR _
  have hA : Blk WA ga 68 [.bool false, .bool false, .bool true, .bool false, .bool true, .bool false, .bool false] := by rw [hWA, hga]; exact Blk.new w _ _
  have hR : Blk WR (ga + 1) 25 [.int .i64 0, .string ⟨#[]⟩, .string ⟨#[]⟩, .int .i64 0, .int .i64 0, .int .i64 0, .int .u64 0, .int .i64 0, .slice none 0 0] := by rw [hWR, ← hzA]; exact Blk.new WA _ _
  have HA0 : Hid (Blk WO ga 68 [.bool false, .bool false, .bool true, .bool false, .bool true, .bool false, .bool false]) := (hA.below hb2 hA.lt).below hb3 (hA.below hb2 hA.lt).lt
  have HR0 : Hid (Blk WO (ga + 1) 25 [.int .i64 0, .string ⟨#[]⟩, .string ⟨#[]⟩, .int .i64 0, .int .i64 0, .int .i64 0, .int .u64 0, .int .i64 0, .slice none 0 0]) := hR.below hb3 hR.lt
  have HG0 : Hid (Blk WO (ga + 2) 25 [.int .i64 0, .string ⟨#[]⟩, .string ⟨#[]⟩, .int .i64 0, .int .i64 0, .int .i64 0, .int .u64 0, .int .i64 0, .slice none 0 0]) := by show Blk _ _ _ _; rw [hWO, ← hzR]; exact Blk.new WR _ _
  have H0 : Hid (OneP R (.pointer (some a)) A L W0 s (fun b => b = ga + 2 ∨ b = ga + 1 ∨ b = ga ∨ Q b) WO) :=
    ((h.made hb1 ga (Nat.le_of_eq hga.symm) (by omega)).made hb2 (ga + 1) (by omega) (by omega)).made hb3 (ga + 2) (by omega) (by omega)
  have HW0 : Hid (W0.heap.size ≤ ga) := by show _ ≤ _; rw [hga]; exact h.low.size
  have HQ0 : Hid (∀ b, Q b → WO.heap[b]? = w.heap[b]?) := fun b hb => by
    have := HQL.out b hb
    rw [hb3.block b (by omega), hb2.block b (by omega), hb1.block b (by omega)]
  have HGA : Hid (∀ b, Q b → b < ga) := by show ∀ b, Q b → b < ga; rw [hga]; exact HQL.out
  have E1 := Lib.hid e1
  have E2 := Lib.hid e2
  clear hb1 hb2 hb3 hA hR h HQL hzA hzR e1 e2
  go_enter Try.func54, Try.ntmps54
  go_upto_region 2 with (fail)
  rw [← hWA, ← hWR, ← hWO, ← hga]
  try rw [show ga + 1 + 1 = ga + 2 from rfl]
  clear hWA hWR hWO hga hzO
  have a0 := HA0.out.cell 0
  have a1 := HA0.out.cell 1
  have a2 := HA0.out.cell 2
  have a3 := HA0.out.cell 3
  have a4 := HA0.out.cell 4
  have a5 := HA0.out.cell 5
  have a6 := HA0.out.cell 6
  go_wp2_with fail
  refine (OneP.short rfl H0.out E1.out).mono ?_
  rintro e w1 ⟨rfl, K1, hk⟩
  clear a0 a1 a2 a3 a4 a5 a6
  have HGx : Hid (Blk w1 (ga + 2) 25 [.int .i64 0, .string ⟨#[]⟩, .string ⟨#[]⟩, .int .i64 0, .int .i64 0, .int .i64 0, .int .u64 0, .int .i64 0, .slice none 0 0]) := (hk.out _ (.inl rfl)).trans HG0.out
  have HRx : Hid (Blk w1 (ga + 1) 25 [.int .i64 0, .string ⟨#[]⟩, .string ⟨#[]⟩, .int .i64 0, .int .i64 0, .int .i64 0, .int .u64 0, .int .i64 0, .slice none 0 0]) := (hk.out _ (.inr (.inl rfl))).trans HR0.out
  have HAx : Hid (Blk w1 ga 68 _) := (hk.out _ (.inr (.inr (.inl rfl)))).trans HA0.out
  have HQx : Hid (∀ b, Q b → w1.heap[b]? = w.heap[b]?) := fun b hb => (hk.out b (.inr (.inr (.inr hb)))).trans (HQ0.out b hb)
  have c := HGx.out.cell 3
  have f0 := HGx.out.frozen 3
  have H1 : Hid (OneP R (.pointer (some a)) A L W0 s1 (fun b => b = ga + 2 ∨ b = ga + 1 ∨ b = ga ∨ Q b) (w1.setCell ⟨ga + 2, 3, none⟩ (.int .i64 (vf : Nat)))) := K1.out.poke (ga + 2) ((Keeps.refl _ _).setCell _ _) (.inl rfl) (Nat.le_trans HW0.out (by omega))
  have HG1 : Hid (Blk (w1.setCell ⟨ga + 2, 3, none⟩ (.int .i64 (vf : Nat))) (ga + 2) 25 [.int .i64 0, .string ⟨#[]⟩, .string ⟨#[]⟩, .int .i64 (vf : Nat), .int .i64 0, .int .i64 0, .int .u64 0, .int .i64 0, .slice none 0 0]) := HGx.out.set_ 3 (.int .i64 (vf : Nat))
  have HR1 : Hid (Blk (w1.setCell ⟨ga + 2, 3, none⟩ (.int .i64 (vf : Nat))) (ga + 1) 25 [.int .i64 0, .string ⟨#[]⟩, .string ⟨#[]⟩, .int .i64 0, .int .i64 0, .int .i64 0, .int .u64 0, .int .i64 0, .slice none 0 0]) := HRx.out.far (by show ga + 1 ≠ ga + 2; omega) _
  have HA1 : Hid (Blk (w1.setCell ⟨ga + 2, 3, none⟩ (.int .i64 (vf : Nat))) ga 68 _) := HAx.out.far (by show ga ≠ ga + 2; omega) _
  have HQ1 : Hid (∀ b, Q b → (w1.setCell ⟨ga + 2, 3, none⟩ (.int .i64 (vf : Nat))).heap[b]? = w.heap[b]?) := fun b hb => (Below.heap_setCell w1 ⟨ga + 2, 3, none⟩ _ b (by have := HGA.out b hb; show b ≠ ga + 2; omega)).trans (HQx.out b hb)
  clear hk H0 HG0 HR0 HA0 HQ0 K1 HGx HRx HAx HQx
  have a0 := HA1.out.cell 0
  have a1 := HA1.out.cell 1
  have a2 := HA1.out.cell 2
  have a3 := HA1.out.cell 3
  have a4 := HA1.out.cell 4
  have a5 := HA1.out.cell 5
  have a6 := HA1.out.cell 6
  go_wp2_with fail
  try clear c f0
  try clear hst
  refine (OneP.long rfl H1.out E2.out).mono ?_
  rintro e w2 ⟨rfl, K2, hk⟩
  clear a0 a1 a2 a3 a4 a5 a6
  have HGx : Hid (Blk w2 (ga + 2) 25 [.int .i64 0, .string ⟨#[]⟩, .string ⟨#[]⟩, .int .i64 (vf : Nat), .int .i64 0, .int .i64 0, .int .u64 0, .int .i64 0, .slice none 0 0]) := (hk.out _ (.inl rfl)).trans HG1.out
  have HRx : Hid (Blk w2 (ga + 1) 25 [.int .i64 0, .string ⟨#[]⟩, .string ⟨#[]⟩, .int .i64 0, .int .i64 0, .int .i64 0, .int .u64 0, .int .i64 0, .slice none 0 0]) := (hk.out _ (.inr (.inl rfl))).trans HR1.out
  have HAx : Hid (Blk w2 ga 68 _) := (hk.out _ (.inr (.inr (.inl rfl)))).trans HA1.out
  have HQx : Hid (∀ b, Q b → w2.heap[b]? = w.heap[b]?) := fun b hb => (hk.out b (.inr (.inr (.inr hb)))).trans (HQ1.out b hb)
  have c := HGx.out.cell 6
  have f0 := HGx.out.frozen 6
  have H2 : Hid (OneP R (.pointer (some a)) A L W0 s2 (fun b => b = ga + 2 ∨ b = ga + 1 ∨ b = ga ∨ Q b) (w2.setCell ⟨ga + 2, 6, none⟩ (.int .u64 (vu : Nat)))) := K2.out.poke (ga + 2) ((Keeps.refl _ _).setCell _ _) (.inl rfl) (Nat.le_trans HW0.out (by omega))
  have HG2 : Hid (Blk (w2.setCell ⟨ga + 2, 6, none⟩ (.int .u64 (vu : Nat))) (ga + 2) 25 [.int .i64 0, .string ⟨#[]⟩, .string ⟨#[]⟩, .int .i64 (vf : Nat), .int .i64 0, .int .i64 0, .int .u64 (vu : Nat), .int .i64 0, .slice none 0 0]) := HGx.out.set_ 6 (.int .u64 (vu : Nat))
  have HR2 : Hid (Blk (w2.setCell ⟨ga + 2, 6, none⟩ (.int .u64 (vu : Nat))) (ga + 1) 25 [.int .i64 0, .string ⟨#[]⟩, .string ⟨#[]⟩, .int .i64 0, .int .i64 0, .int .i64 0, .int .u64 0, .int .i64 0, .slice none 0 0]) := HRx.out.far (by show ga + 1 ≠ ga + 2; omega) _
  have HA2 : Hid (Blk (w2.setCell ⟨ga + 2, 6, none⟩ (.int .u64 (vu : Nat))) ga 68 _) := HAx.out.far (by show ga ≠ ga + 2; omega) _
  have HQ2 : Hid (∀ b, Q b → (w2.setCell ⟨ga + 2, 6, none⟩ (.int .u64 (vu : Nat))).heap[b]? = w.heap[b]?) := fun b hb => (Below.heap_setCell w2 ⟨ga + 2, 6, none⟩ _ b (by have := HGA.out b hb; show b ≠ ga + 2; omega)).trans (HQx.out b hb)
  clear hk H1 HG1 HR1 HA1 HQ1 K2 HGx HRx HAx HQx
  have a0 := HA2.out.cell 0
  have a1 := HA2.out.cell 1
  have a2 := HA2.out.cell 2
  have a3 := HA2.out.cell 3
  have a4 := HA2.out.cell 4
  have a5 := HA2.out.cell 5
  have a6 := HA2.out.cell 6
  have r0 := HR2.out.cell 0
  have q0 := HR2.out.frozen 0
  have b0 := HG2.out.cell 0
  have r1 := HR2.out.cell 1
  have q1 := HR2.out.frozen 1
  have b1 := HG2.out.cell 1
  have r2 := HR2.out.cell 2
  have q2 := HR2.out.frozen 2
  have b2 := HG2.out.cell 2
  have r3 := HR2.out.cell 3
  have q3 := HR2.out.frozen 3
  have b3 := HG2.out.cell 3
  have r4 := HR2.out.cell 4
  have q4 := HR2.out.frozen 4
  have b4 := HG2.out.cell 4
  have r5 := HR2.out.cell 5
  have q5 := HR2.out.frozen 5
  have b5 := HG2.out.cell 5
  have r6 := HR2.out.cell 6
  have q6 := HR2.out.frozen 6
  have b6 := HG2.out.cell 6
  have r7 := HR2.out.cell 7
  have q7 := HR2.out.frozen 7
  have b7 := HG2.out.cell 7
  have r8 := HR2.out.cell 8
  have q8 := HR2.out.frozen 8
  have b8 := HG2.out.cell 8
  obtain ⟨WF, hWF⟩ : ∃ W, W = ((((((((((w2.setCell ⟨ga + 2, 6, none⟩ (.int .u64 (vu : Nat))).setCell ⟨ga + 1, 0, none⟩ (.int .i64 0)).setCell ⟨ga + 1, 1, none⟩ (.string ⟨#[]⟩)).setCell ⟨ga + 1, 2, none⟩ (.string ⟨#[]⟩)).setCell ⟨ga + 1, 3, none⟩ (.int .i64 (vf : Nat))).setCell ⟨ga + 1, 4, none⟩ (.int .i64 0)).setCell ⟨ga + 1, 5, none⟩ (.int .i64 0)).setCell ⟨ga + 1, 6, none⟩ (.int .u64 (vu : Nat))).setCell ⟨ga + 1, 7, none⟩ (.int .i64 0)).setCell ⟨ga + 1, 8, none⟩ (.slice none 0 0)) := ⟨_, rfl⟩
  have hkp : Keeps (w2.setCell ⟨ga + 2, 6, none⟩ (.int .u64 (vu : Nat))) WF (ga + 1) := by rw [hWF]; exact set9_keeps (w2.setCell ⟨ga + 2, 6, none⟩ (.int .u64 (vu : Nat))) (ga + 1) (.int .i64 0) (.string ⟨#[]⟩) (.string ⟨#[]⟩) (.int .i64 (vf : Nat)) (.int .i64 0) (.int .i64 0) (.int .u64 (vu : Nat)) (.int .i64 0) (.slice none 0 0)
  have HRF : Hid (Blk WF (ga + 1) 25 [.int .i64 0, .string ⟨#[]⟩, .string ⟨#[]⟩, .int .i64 (vf : Nat), .int .i64 0, .int .i64 0, .int .u64 (vu : Nat), .int .i64 0, .slice none 0 0]) := by show Blk _ _ _ _; rw [hWF]; exact set9_blk HR2.out _ _ _ _ _ _ _ _ _
  have HPF : Hid (OneP R (.pointer (some a)) A L W0 s2 Q WF) := OneP.less (H2.out.poke (ga + 1) hkp (.inr (.inl rfl)) (Nat.le_trans HW0.out (by omega))) fun b hb => .inr (.inr (.inr hb))
  have HQF : Hid (∀ b, Q b → WF.heap[b]? = w.heap[b]?) := fun b hb => (hkp.block b (by have := HGA.out b hb; have := HG2.out.lt; omega) (fun e => by have := HGA.out b hb; injection e <;> omega)).trans (HQ2.out b hb)
  clear hkp
  go_wp2_with fail
  try clear c f0
  try clear hst
  rw [← hWF]
  refine bodyPost_ret (results_blk1 rfl _ _ (ga + 1) 25 [.int .i64 0, .string ⟨#[]⟩, .string ⟨#[]⟩, .int .i64 (vf : Nat), .int .i64 0, .int .i64 0, .int .u64 (vu : Nat), .int .i64 0, .slice none 0 0] _ rfl HRF.out rfl rfl rfl) rfl ?_
  exact ⟨none, 0, rfl, Nat.le_refl _, Rd.nil _ _, HPF, HQF, fun _ _ _ _ => Rd.nil _ _⟩
set_option maxHeartbeats 4000000 in
set_option maxRecDepth 100000 in
theorem read_pt {R : RSaid codecFns} (h : OneP R v A L W0 s Q w) (vp : List UInt8) (s1 : Co.Rs) (e1 : Co.bytes s = (vp, s1)) (vt : List UInt8) (s2 : Co.Rs) (e2 : Co.bytes s1 = (vt, s2)) :
    Calls Try.prog 54 #[.agg #[.bool true, .bool true, .bool false, .bool false, .bool false, .bool false, .bool false], v] w (ROp R v A L W0 ⟨0, vp, vt, 0, 0, 0, 0, 0, []⟩ s2 Q w) := by
  obtain ⟨a, rfl⟩ : ∃ a, v = .pointer (some a) := by obtain ⟨B, h1, _⟩ := h; exact R.ptr h1.at_
  have HQL : Hid (∀ b, Q b → b < w.heap.size) := fun b hb => by obtain ⟨B, _, h2⟩ := h; exact (h2 b hb).2
  obtain ⟨WA, hWA⟩ : ∃ WA, WA = w.alloc (.cells #[.bool true, .bool true, .bool false, .bool false, .bool false, .bool false, .bool false] 68) := ⟨_, rfl⟩
  obtain ⟨WR, hWR⟩ : ∃ WR, WR = WA.alloc (.cells #[.int .i64 0, .string ⟨#[]⟩, .string ⟨#[]⟩, .int .i64 0, .int .i64 0, .int .i64 0, .int .u64 0, .int .i64 0, .slice none 0 0] 25) := ⟨_, rfl⟩
  obtain ⟨WO, hWO⟩ : ∃ WO, WO = WR.alloc (.cells #[.int .i64 0, .string ⟨#[]⟩, .string ⟨#[]⟩, .int .i64 0, .int .i64 0, .int .i64 0, .int .u64 0, .int .i64 0, .slice none 0 0] 25) := ⟨_, rfl⟩
  obtain ⟨ga, hga⟩ : ∃ ga, ga = w.heap.size := ⟨_, rfl⟩
  have hzA : WA.heap.size = ga + 1 := by rw [hWA, World.size_alloc, hga]
  have hzR : WR.heap.size = ga + 2 := by rw [hWR, World.size_alloc, hzA]
  have hzO : WO.heap.size = ga + 3 := by rw [hWO, World.size_alloc, hzR]
  have hb1 : Below w.heap.size w WA := by rw [hWA]; exact below_new w _
  have hb2 : Below WA.heap.size WA WR := by rw [hWR]; exact below_new WA _
  have hb3 : Below WR.heap.size WR WO := by rw [hWO]; exact below_new WR _
  have hA : Blk WA ga 68 [.bool true, .bool true, .bool false, .bool false, .bool false, .bool false, .bool false] := by rw [hWA, hga]; exact Blk.new w _ _
  have hR : Blk WR (ga + 1) 25 [.int .i64 0, .string ⟨#[]⟩, .string ⟨#[]⟩, .int .i64 0, .int .i64 0, .int .i64 0, .int .u64 0, .int .i64 0, .slice none 0 0] := by rw [hWR, ← hzA]; exact Blk.new WA _ _
  have HA0 : Hid (Blk WO ga 68 [.bool true, .bool true, .bool false, .bool false, .bool false, .bool false, .bool false]) := (hA.below hb2 hA.lt).below hb3 (hA.below hb2 hA.lt).lt
  have HR0 : Hid (Blk WO (ga + 1) 25 [.int .i64 0, .string ⟨#[]⟩, .string ⟨#[]⟩, .int .i64 0, .int .i64 0, .int .i64 0, .int .u64 0, .int .i64 0, .slice none 0 0]) := hR.below hb3 hR.lt
  have HG0 : Hid (Blk WO (ga + 2) 25 [.int .i64 0, .string ⟨#[]⟩, .string ⟨#[]⟩, .int .i64 0, .int .i64 0, .int .i64 0, .int .u64 0, .int .i64 0, .slice none 0 0]) := by show Blk _ _ _ _; rw [hWO, ← hzR]; exact Blk.new WR _ _
  have H0 : Hid (OneP R (.pointer (some a)) A L W0 s (fun b => b = ga + 2 ∨ b = ga + 1 ∨ b = ga ∨ Q b) WO) :=
    ((h.made hb1 ga (Nat.le_of_eq hga.symm) (by omega)).made hb2 (ga + 1) (by omega) (by omega)).made hb3 (ga + 2) (by omega) (by omega)
  have HW0 : Hid (W0.heap.size ≤ ga) := by show _ ≤ _; rw [hga]; exact h.low.size
  have HQ0 : Hid (∀ b, Q b → WO.heap[b]? = w.heap[b]?) := fun b hb => by
    have := HQL.out b hb
    rw [hb3.block b (by omega), hb2.block b (by omega), hb1.block b (by omega)]
  have HGA : Hid (∀ b, Q b → b < ga) := by show ∀ b, Q b → b < ga; rw [hga]; exact HQL.out
  have E1 := Lib.hid e1
  have E2 := Lib.hid e2
  clear hb1 hb2 hb3 hA hR h HQL hzA hzR e1 e2
  go_enter Try.func54, Try.ntmps54
  go_upto_region 2 with (fail)
  rw [← hWA, ← hWR, ← hWO, ← hga]
  try rw [show ga + 1 + 1 = ga + 2 from rfl]
  clear hWA hWR hWO hga hzO
  have a0 := HA0.out.cell 0
  have a1 := HA0.out.cell 1
  have a2 := HA0.out.cell 2
  have a3 := HA0.out.cell 3
  have a4 := HA0.out.cell 4
  have a5 := HA0.out.cell 5
  have a6 := HA0.out.cell 6
  go_wp2_with fail
  refine (OneP.bytesK rfl H0.out E1.out).mono ?_
  rintro e w1 ⟨X1, cx1, rfl, hcx1, HRX1, K1, hk, HKX1⟩
  have hst := str_any w1 X1 vp cx1 HRX1.out
  clear HKX1 hcx1
  clear a0 a1 a2 a3 a4 a5 a6
  have HGx : Hid (Blk w1 (ga + 2) 25 [.int .i64 0, .string ⟨#[]⟩, .string ⟨#[]⟩, .int .i64 0, .int .i64 0, .int .i64 0, .int .u64 0, .int .i64 0, .slice none 0 0]) := (hk.out _ (.inl rfl)).trans HG0.out
  have HRx : Hid (Blk w1 (ga + 1) 25 [.int .i64 0, .string ⟨#[]⟩, .string ⟨#[]⟩, .int .i64 0, .int .i64 0, .int .i64 0, .int .u64 0, .int .i64 0, .slice none 0 0]) := (hk.out _ (.inr (.inl rfl))).trans HR0.out
  have HAx : Hid (Blk w1 ga 68 _) := (hk.out _ (.inr (.inr (.inl rfl)))).trans HA0.out
  have HQx : Hid (∀ b, Q b → w1.heap[b]? = w.heap[b]?) := fun b hb => (hk.out b (.inr (.inr (.inr hb)))).trans (HQ0.out b hb)
  have c := HGx.out.cell 1
  have f0 := HGx.out.frozen 1
  have H1 : Hid (OneP R (.pointer (some a)) A L W0 s1 (fun b => b = ga + 2 ∨ b = ga + 1 ∨ b = ga ∨ Q b) (w1.setCell ⟨ga + 2, 1, none⟩ (.string (strOf vp)))) := K1.out.poke (ga + 2) ((Keeps.refl _ _).setCell _ _) (.inl rfl) (Nat.le_trans HW0.out (by omega))
  have HG1 : Hid (Blk (w1.setCell ⟨ga + 2, 1, none⟩ (.string (strOf vp))) (ga + 2) 25 [.int .i64 0, .string (strOf vp), .string ⟨#[]⟩, .int .i64 0, .int .i64 0, .int .i64 0, .int .u64 0, .int .i64 0, .slice none 0 0]) := HGx.out.set_ 1 (.string (strOf vp))
  have HR1 : Hid (Blk (w1.setCell ⟨ga + 2, 1, none⟩ (.string (strOf vp))) (ga + 1) 25 [.int .i64 0, .string ⟨#[]⟩, .string ⟨#[]⟩, .int .i64 0, .int .i64 0, .int .i64 0, .int .u64 0, .int .i64 0, .slice none 0 0]) := HRx.out.far (by show ga + 1 ≠ ga + 2; omega) _
  have HA1 : Hid (Blk (w1.setCell ⟨ga + 2, 1, none⟩ (.string (strOf vp))) ga 68 _) := HAx.out.far (by show ga ≠ ga + 2; omega) _
  have HQ1 : Hid (∀ b, Q b → (w1.setCell ⟨ga + 2, 1, none⟩ (.string (strOf vp))).heap[b]? = w.heap[b]?) := fun b hb => (Below.heap_setCell w1 ⟨ga + 2, 1, none⟩ _ b (by have := HGA.out b hb; show b ≠ ga + 2; omega)).trans (HQx.out b hb)
  clear hk H0 HG0 HR0 HA0 HQ0 K1 HGx HRx HAx HQx
  have a0 := HA1.out.cell 0
  have a1 := HA1.out.cell 1
  have a2 := HA1.out.cell 2
  have a3 := HA1.out.cell 3
  have a4 := HA1.out.cell 4
  have a5 := HA1.out.cell 5
  have a6 := HA1.out.cell 6
  go_wp2_with fail
  try clear c f0
  try clear hst
  refine (OneP.bytesK rfl H1.out E2.out).mono ?_
  rintro e w2 ⟨X2, cx2, rfl, hcx2, HRX2, K2, hk, HKX2⟩
  have hst := str_any w2 X2 vt cx2 HRX2.out
  clear HKX2 hcx2
  clear a0 a1 a2 a3 a4 a5 a6
  have HGx : Hid (Blk w2 (ga + 2) 25 [.int .i64 0, .string (strOf vp), .string ⟨#[]⟩, .int .i64 0, .int .i64 0, .int .i64 0, .int .u64 0, .int .i64 0, .slice none 0 0]) := (hk.out _ (.inl rfl)).trans HG1.out
  have HRx : Hid (Blk w2 (ga + 1) 25 [.int .i64 0, .string ⟨#[]⟩, .string ⟨#[]⟩, .int .i64 0, .int .i64 0, .int .i64 0, .int .u64 0, .int .i64 0, .slice none 0 0]) := (hk.out _ (.inr (.inl rfl))).trans HR1.out
  have HAx : Hid (Blk w2 ga 68 _) := (hk.out _ (.inr (.inr (.inl rfl)))).trans HA1.out
  have HQx : Hid (∀ b, Q b → w2.heap[b]? = w.heap[b]?) := fun b hb => (hk.out b (.inr (.inr (.inr hb)))).trans (HQ1.out b hb)
  have c := HGx.out.cell 2
  have f0 := HGx.out.frozen 2
  have H2 : Hid (OneP R (.pointer (some a)) A L W0 s2 (fun b => b = ga + 2 ∨ b = ga + 1 ∨ b = ga ∨ Q b) (w2.setCell ⟨ga + 2, 2, none⟩ (.string (strOf vt)))) := K2.out.poke (ga + 2) ((Keeps.refl _ _).setCell _ _) (.inl rfl) (Nat.le_trans HW0.out (by omega))
  have HG2 : Hid (Blk (w2.setCell ⟨ga + 2, 2, none⟩ (.string (strOf vt))) (ga + 2) 25 [.int .i64 0, .string (strOf vp), .string (strOf vt), .int .i64 0, .int .i64 0, .int .i64 0, .int .u64 0, .int .i64 0, .slice none 0 0]) := HGx.out.set_ 2 (.string (strOf vt))
  have HR2 : Hid (Blk (w2.setCell ⟨ga + 2, 2, none⟩ (.string (strOf vt))) (ga + 1) 25 [.int .i64 0, .string ⟨#[]⟩, .string ⟨#[]⟩, .int .i64 0, .int .i64 0, .int .i64 0, .int .u64 0, .int .i64 0, .slice none 0 0]) := HRx.out.far (by show ga + 1 ≠ ga + 2; omega) _
  have HA2 : Hid (Blk (w2.setCell ⟨ga + 2, 2, none⟩ (.string (strOf vt))) ga 68 _) := HAx.out.far (by show ga ≠ ga + 2; omega) _
  have HQ2 : Hid (∀ b, Q b → (w2.setCell ⟨ga + 2, 2, none⟩ (.string (strOf vt))).heap[b]? = w.heap[b]?) := fun b hb => (Below.heap_setCell w2 ⟨ga + 2, 2, none⟩ _ b (by have := HGA.out b hb; show b ≠ ga + 2; omega)).trans (HQx.out b hb)
  clear hk H1 HG1 HR1 HA1 HQ1 K2 HGx HRx HAx HQx
  have a0 := HA2.out.cell 0
  have a1 := HA2.out.cell 1
  have a2 := HA2.out.cell 2
  have a3 := HA2.out.cell 3
  have a4 := HA2.out.cell 4
  have a5 := HA2.out.cell 5
  have a6 := HA2.out.cell 6
  have r0 := HR2.out.cell 0
  have q0 := HR2.out.frozen 0
  have b0 := HG2.out.cell 0
  have r1 := HR2.out.cell 1
  have q1 := HR2.out.frozen 1
  have b1 := HG2.out.cell 1
  have r2 := HR2.out.cell 2
  have q2 := HR2.out.frozen 2
  have b2 := HG2.out.cell 2
  have r3 := HR2.out.cell 3
  have q3 := HR2.out.frozen 3
  have b3 := HG2.out.cell 3
  have r4 := HR2.out.cell 4
  have q4 := HR2.out.frozen 4
  have b4 := HG2.out.cell 4
  have r5 := HR2.out.cell 5
  have q5 := HR2.out.frozen 5
  have b5 := HG2.out.cell 5
  have r6 := HR2.out.cell 6
  have q6 := HR2.out.frozen 6
  have b6 := HG2.out.cell 6
  have r7 := HR2.out.cell 7
  have q7 := HR2.out.frozen 7
  have b7 := HG2.out.cell 7
  have r8 := HR2.out.cell 8
  have q8 := HR2.out.frozen 8
  have b8 := HG2.out.cell 8
  obtain ⟨WF, hWF⟩ : ∃ W, W = ((((((((((w2.setCell ⟨ga + 2, 2, none⟩ (.string (strOf vt))).setCell ⟨ga + 1, 0, none⟩ (.int .i64 0)).setCell ⟨ga + 1, 1, none⟩ (.string (strOf vp))).setCell ⟨ga + 1, 2, none⟩ (.string (strOf vt))).setCell ⟨ga + 1, 3, none⟩ (.int .i64 0)).setCell ⟨ga + 1, 4, none⟩ (.int .i64 0)).setCell ⟨ga + 1, 5, none⟩ (.int .i64 0)).setCell ⟨ga + 1, 6, none⟩ (.int .u64 0)).setCell ⟨ga + 1, 7, none⟩ (.int .i64 0)).setCell ⟨ga + 1, 8, none⟩ (.slice none 0 0)) := ⟨_, rfl⟩
  have hkp : Keeps (w2.setCell ⟨ga + 2, 2, none⟩ (.string (strOf vt))) WF (ga + 1) := by rw [hWF]; exact set9_keeps (w2.setCell ⟨ga + 2, 2, none⟩ (.string (strOf vt))) (ga + 1) (.int .i64 0) (.string (strOf vp)) (.string (strOf vt)) (.int .i64 0) (.int .i64 0) (.int .i64 0) (.int .u64 0) (.int .i64 0) (.slice none 0 0)
  have HRF : Hid (Blk WF (ga + 1) 25 [.int .i64 0, .string (strOf vp), .string (strOf vt), .int .i64 0, .int .i64 0, .int .i64 0, .int .u64 0, .int .i64 0, .slice none 0 0]) := by show Blk _ _ _ _; rw [hWF]; exact set9_blk HR2.out _ _ _ _ _ _ _ _ _
  have HPF : Hid (OneP R (.pointer (some a)) A L W0 s2 Q WF) := OneP.less (H2.out.poke (ga + 1) hkp (.inr (.inl rfl)) (Nat.le_trans HW0.out (by omega))) fun b hb => .inr (.inr (.inr hb))
  have HQF : Hid (∀ b, Q b → WF.heap[b]? = w.heap[b]?) := fun b hb => (hkp.block b (by have := HGA.out b hb; have := HG2.out.lt; omega) (fun e => by have := HGA.out b hb; injection e <;> omega)).trans (HQ2.out b hb)
  clear hkp
  go_wp2_with fail
  try clear c f0
  try clear hst
  rw [← hWF]
  refine bodyPost_ret (results_blk1 rfl _ _ (ga + 1) 25 [.int .i64 0, .string (strOf vp), .string (strOf vt), .int .i64 0, .int .i64 0, .int .i64 0, .int .u64 0, .int .i64 0, .slice none 0 0] _ rfl HRF.out rfl rfl rfl) rfl ?_
  exact ⟨none, 0, rfl, Nat.le_refl _, Rd.nil _ _, HPF, HQF, fun _ _ _ _ => Rd.nil _ _⟩
set_option maxHeartbeats 4000000 in
set_option maxRecDepth 100000 in
theorem read_pu {R : RSaid codecFns} (h : OneP R v A L W0 s Q w) (vp : List UInt8) (s1 : Co.Rs) (e1 : Co.bytes s = (vp, s1)) (vu : Nat) (s2 : Co.Rs) (e2 : Co.num 8 s1 = (vu, s2)) :
    Calls Try.prog 54 #[.agg #[.bool true, .bool false, .bool false, .bool false, .bool true, .bool false, .bool false], v] w (ROp R v A L W0 ⟨0, vp, [], 0, 0, 0, vu, 0, []⟩ s2 Q w) := by
  obtain ⟨a, rfl⟩ : ∃ a, v = .pointer (some a) := by obtain ⟨B, h1, _⟩ := h; exact R.ptr h1.at_
  have HQL : Hid (∀ b, Q b → b < w.heap.size) := fun b hb => by obtain ⟨B, _, h2⟩ := h; exact (h2 b hb).2
  obtain ⟨WA, hWA⟩ : ∃ WA, WA = w.alloc (.cells #[.bool true, .bool false, .bool false, .bool false, .bool true, .bool false, .bool false] 68) := ⟨_, rfl⟩
  obtain ⟨WR, hWR⟩ : ∃ WR, WR = WA.alloc (.cells #[.int .i64 0, .string ⟨#[]⟩, .string ⟨#[]⟩, .int .i64 0, .int .i64 0, .int .i64 0, .int .u64 0, .int .i64 0, .slice none 0 0] 25) := ⟨_, rfl⟩
  obtain ⟨WO, hWO⟩ : ∃ WO, WO = WR.alloc (.cells #[.int .i64 0, .string ⟨#[]⟩, .string ⟨#[]⟩, .int .i64 0, .int .i64 0, .int .i64 0, .int .u64 0, .int .i64 0, .slice none 0 0] 25) := ⟨_, rfl⟩
  obtain ⟨ga, hga⟩ : ∃ ga, ga = w.heap.size := ⟨_, rfl⟩
  have hzA : WA.heap.size = ga + 1 := by rw [hWA, World.size_alloc, hga]
  have hzR : WR.heap.size = ga + 2 := by rw [hWR, World.size_alloc, hzA]
  have hzO : WO.heap.size = ga + 3 := by rw [hWO, World.size_alloc, hzR]
  have hb1 : Below w.heap.size w WA := by rw [hWA]; exact below_new w _
  have hb2 : Below WA.heap.size WA WR := by rw [hWR]; exact below_new WA _
  have hb3 : Below WR.heap.size WR WO := by rw [hWO]; exact below_new WR _
  have hA : Blk WA ga 68 [.bool true, .bool false, .bool false, .bool false, .bool true, .bool false, .bool false] := by rw [hWA, hga]; exact Blk.new w _ _
  have hR : Blk WR (ga + 1) 25 [.int .i64 0, .string ⟨#[]⟩, .string ⟨#[]⟩, .int .i64 0, .int .i64 0, .int .i64 0, .int .u64 0, .int .i64 0, .slice none 0 0] := by rw [hWR, ← hzA]; exact Blk.new WA _ _
  have HA0 : Hid (Blk WO ga 68 [.bool true, .bool false, .bool false, .bool false, .bool true, .bool false, .bool false]) := (hA.below hb2 hA.lt).below hb3 (hA.below hb2 hA.lt).lt
  have HR0 : Hid (Blk WO (ga + 1) 25 [.int .i64 0, .string ⟨#[]⟩, .string ⟨#[]⟩, .int .i64 0, .int .i64 0, .int .i64 0, .int .u64 0, .int .i64 0, .slice none 0 0]) := hR.below hb3 hR.lt
  have HG0 : Hid (Blk WO (ga + 2) 25 [.int .i64 0, .string ⟨#[]⟩, .string ⟨#[]⟩, .int .i64 0, .int .i64 0, .int .i64 0, .int .u64 0, .int .i64 0, .slice none 0 0]) := by show Blk _ _ _ _; rw [hWO, ← hzR]; exact Blk.new WR _ _
  have H0 : Hid (OneP R (.pointer (some a)) A L W0 s (fun b => b = ga + 2 ∨ b = ga + 1 ∨ b = ga ∨ Q b) WO) :=
    ((h.made hb1 ga (Nat.le_of_eq hga.symm) (by omega)).made hb2 (ga + 1) (by omega) (by omega)).made hb3 (ga + 2) (by omega) (by omega)
  have HW0 : Hid (W0.heap.size ≤ ga) := by show _ ≤ _; rw [hga]; exact h.low.size
  have HQ0 : Hid (∀ b, Q b → WO.heap[b]? = w.heap[b]?) := fun b hb => by
    have := HQL.out b hb
    rw [hb3.block b (by omega), hb2.block b (by omega), hb1.block b (by omega)]
  have HGA : Hid (∀ b, Q b → b < ga) := by show ∀ b, Q b → b < ga; rw [hga]; exact HQL.out
  have E1 := Lib.hid e1
  have E2 := Lib.hid e2
  clear hb1 hb2 hb3 hA hR h HQL hzA hzR e1 e2
  go_enter Try.func54, Try.ntmps54
  go_upto_region 2 with (fail)
  rw [← hWA, ← hWR, ← hWO, ← hga]
  try rw [show ga + 1 + 1 = ga + 2 from rfl]
  clear hWA hWR hWO hga hzO
  have a0 := HA0.out.cell 0
  have a1 := HA0.out.cell 1
  have a2 := HA0.out.cell 2
  have a3 := HA0.out.cell 3
  have a4 := HA0.out.cell 4
  have a5 := HA0.out.cell 5
  have a6 := HA0.out.cell 6
  go_wp2_with fail
  refine (OneP.bytesK rfl H0.out E1.out).mono ?_
  rintro e w1 ⟨X1, cx1, rfl, hcx1, HRX1, K1, hk, HKX1⟩
  have hst := str_any w1 X1 vp cx1 HRX1.out
  clear HKX1 hcx1
  clear a0 a1 a2 a3 a4 a5 a6
  have HGx : Hid (Blk w1 (ga + 2) 25 [.int .i64 0, .string ⟨#[]⟩, .string ⟨#[]⟩, .int .i64 0, .int .i64 0, .int .i64 0, .int .u64 0, .int .i64 0, .slice none 0 0]) := (hk.out _ (.inl rfl)).trans HG0.out
  have HRx : Hid (Blk w1 (ga + 1) 25 [.int .i64 0, .string ⟨#[]⟩, .string ⟨#[]⟩, .int .i64 0, .int .i64 0, .int .i64 0, .int .u64 0, .int .i64 0, .slice none 0 0]) := (hk.out _ (.inr (.inl rfl))).trans HR0.out
  have HAx : Hid (Blk w1 ga 68 _) := (hk.out _ (.inr (.inr (.inl rfl)))).trans HA0.out
  have HQx : Hid (∀ b, Q b → w1.heap[b]? = w.heap[b]?) := fun b hb => (hk.out b (.inr (.inr (.inr hb)))).trans (HQ0.out b hb)
  have c := HGx.out.cell 1
  have f0 := HGx.out.frozen 1
  have H1 : Hid (OneP R (.pointer (some a)) A L W0 s1 (fun b => b = ga + 2 ∨ b = ga + 1 ∨ b = ga ∨ Q b) (w1.setCell ⟨ga + 2, 1, none⟩ (.string (strOf vp)))) := K1.out.poke (ga + 2) ((Keeps.refl _ _).setCell _ _) (.inl rfl) (Nat.le_trans HW0.out (by omega))
  have HG1 : Hid (Blk (w1.setCell ⟨ga + 2, 1, none⟩ (.string (strOf vp))) (ga + 2) 25 [.int .i64 0, .string (strOf vp), .string ⟨#[]⟩, .int .i64 0, .int .i64 0, .int .i64 0, .int .u64 0, .int .i64 0, .slice none 0 0]) := HGx.out.set_ 1 (.string (strOf vp))
  have HR1 : Hid (Blk (w1.setCell ⟨ga + 2, 1, none⟩ (.string (strOf vp))) (ga + 1) 25 [.int .i64 0, .string ⟨#[]⟩, .string ⟨#[]⟩, .int .i64 0, .int .i64 0, .int .i64 0, .int .u64 0, .int .i64 0, .slice none 0 0]) := HRx.out.far (by show ga + 1 ≠ ga + 2; omega) _
  have HA1 : Hid (Blk (w1.setCell ⟨ga + 2, 1, none⟩ (.string (strOf vp))) ga 68 _) := HAx.out.far (by show ga ≠ ga + 2; omega) _
  have HQ1 : Hid (∀ b, Q b → (w1.setCell ⟨ga + 2, 1, none⟩ (.string (strOf vp))).heap[b]? = w.heap[b]?) := fun b hb => (Below.heap_setCell w1 ⟨ga + 2, 1, none⟩ _ b (by have := HGA.out b hb; show b ≠ ga + 2; omega)).trans (HQx.out b hb)
  clear hk H0 HG0 HR0 HA0 HQ0 K1 HGx HRx HAx HQx
  have a0 := HA1.out.cell 0
  have a1 := HA1.out.cell 1
  have a2 := HA1.out.cell 2
  have a3 := HA1.out.cell 3
  have a4 := HA1.out.cell 4
  have a5 := HA1.out.cell 5
  have a6 := HA1.out.cell 6
  go_wp2_with fail
  try clear c f0
  try clear hst
  refine (OneP.long rfl H1.out E2.out).mono ?_
  rintro e w2 ⟨rfl, K2, hk⟩
  clear a0 a1 a2 a3 a4 a5 a6
  have HGx : Hid (Blk w2 (ga + 2) 25 [.int .i64 0, .string (strOf vp), .string ⟨#[]⟩, .int .i64 0, .int .i64 0, .int .i64 0, .int .u64 0, .int .i64 0, .slice none 0 0]) := (hk.out _ (.inl rfl)).trans HG1.out
  have HRx : Hid (Blk w2 (ga + 1) 25 [.int .i64 0, .string ⟨#[]⟩, .string ⟨#[]⟩, .int .i64 0, .int .i64 0, .int .i64 0, .int .u64 0, .int .i64 0, .slice none 0 0]) := (hk.out _ (.inr (.inl rfl))).trans HR1.out
  have HAx : Hid (Blk w2 ga 68 _) := (hk.out _ (.inr (.inr (.inl rfl)))).trans HA1.out
  have HQx : Hid (∀ b, Q b → w2.heap[b]? = w.heap[b]?) := fun b hb => (hk.out b (.inr (.inr (.inr hb)))).trans (HQ1.out b hb)
  have c := HGx.out.cell 6
  have f0 := HGx.out.frozen 6
  have H2 : Hid (OneP R (.pointer (some a)) A L W0 s2 (fun b => b = ga + 2 ∨ b = ga + 1 ∨ b = ga ∨ Q b) (w2.setCell ⟨ga + 2, 6, none⟩ (.int .u64 (vu : Nat)))) := K2.out.poke (ga + 2) ((Keeps.refl _ _).setCell _ _) (.inl rfl) (Nat.le_trans HW0.out (by omega))
  have HG2 : Hid (Blk (w2.setCell ⟨ga + 2, 6, none⟩ (.int .u64 (vu : Nat))) (ga + 2) 25 [.int .i64 0, .string (strOf vp), .string ⟨#[]⟩, .int .i64 0, .int .i64 0, .int .i64 0, .int .u64 (vu : Nat), .int .i64 0, .slice none 0 0]) := HGx.out.set_ 6 (.int .u64 (vu : Nat))
  have HR2 : Hid (Blk (w2.setCell ⟨ga + 2, 6, none⟩ (.int .u64 (vu : Nat))) (ga + 1) 25 [.int .i64 0, .string ⟨#[]⟩, .string ⟨#[]⟩, .int .i64 0, .int .i64 0, .int .i64 0, .int .u64 0, .int .i64 0, .slice none 0 0]) := HRx.out.far (by show ga + 1 ≠ ga + 2; omega) _
  have HA2 : Hid (Blk (w2.setCell ⟨ga + 2, 6, none⟩ (.int .u64 (vu : Nat))) ga 68 _) := HAx.out.far (by show ga ≠ ga + 2; omega) _
  have HQ2 : Hid (∀ b, Q b → (w2.setCell ⟨ga + 2, 6, none⟩ (.int .u64 (vu : Nat))).heap[b]? = w.heap[b]?) := fun b hb => (Below.heap_setCell w2 ⟨ga + 2, 6, none⟩ _ b (by have := HGA.out b hb; show b ≠ ga + 2; omega)).trans (HQx.out b hb)
  clear hk H1 HG1 HR1 HA1 HQ1 K2 HGx HRx HAx HQx
  have a0 := HA2.out.cell 0
  have a1 := HA2.out.cell 1
  have a2 := HA2.out.cell 2
  have a3 := HA2.out.cell 3
  have a4 := HA2.out.cell 4
  have a5 := HA2.out.cell 5
  have a6 := HA2.out.cell 6
  have r0 := HR2.out.cell 0
  have q0 := HR2.out.frozen 0
  have b0 := HG2.out.cell 0
  have r1 := HR2.out.cell 1
  have q1 := HR2.out.frozen 1
  have b1 := HG2.out.cell 1
  have r2 := HR2.out.cell 2
  have q2 := HR2.out.frozen 2
  have b2 := HG2.out.cell 2
  have r3 := HR2.out.cell 3
  have q3 := HR2.out.frozen 3
  have b3 := HG2.out.cell 3
  have r4 := HR2.out.cell 4
  have q4 := HR2.out.frozen 4
  have b4 := HG2.out.cell 4
  have r5 := HR2.out.cell 5
  have q5 := HR2.out.frozen 5
  have b5 := HG2.out.cell 5
  have r6 := HR2.out.cell 6
  have q6 := HR2.out.frozen 6
  have b6 := HG2.out.cell 6
  have r7 := HR2.out.cell 7
  have q7 := HR2.out.frozen 7
  have b7 := HG2.out.cell 7
  have r8 := HR2.out.cell 8
  have q8 := HR2.out.frozen 8
  have b8 := HG2.out.cell 8
  obtain ⟨WF, hWF⟩ : ∃ W, W = ((((((((((w2.setCell ⟨ga + 2, 6, none⟩ (.int .u64 (vu : Nat))).setCell ⟨ga + 1, 0, none⟩ (.int .i64 0)).setCell ⟨ga + 1, 1, none⟩ (.string (strOf vp))).setCell ⟨ga + 1, 2, none⟩ (.string ⟨#[]⟩)).setCell ⟨ga + 1, 3, none⟩ (.int .i64 0)).setCell ⟨ga + 1, 4, none⟩ (.int .i64 0)).setCell ⟨ga + 1, 5, none⟩ (.int .i64 0)).setCell ⟨ga + 1, 6, none⟩ (.int .u64 (vu : Nat))).setCell ⟨ga + 1, 7, none⟩ (.int .i64 0)).setCell ⟨ga + 1, 8, none⟩ (.slice none 0 0)) := ⟨_, rfl⟩
  have hkp : Keeps (w2.setCell ⟨ga + 2, 6, none⟩ (.int .u64 (vu : Nat))) WF (ga + 1) := by rw [hWF]; exact set9_keeps (w2.setCell ⟨ga + 2, 6, none⟩ (.int .u64 (vu : Nat))) (ga + 1) (.int .i64 0) (.string (strOf vp)) (.string ⟨#[]⟩) (.int .i64 0) (.int .i64 0) (.int .i64 0) (.int .u64 (vu : Nat)) (.int .i64 0) (.slice none 0 0)
  have HRF : Hid (Blk WF (ga + 1) 25 [.int .i64 0, .string (strOf vp), .string ⟨#[]⟩, .int .i64 0, .int .i64 0, .int .i64 0, .int .u64 (vu : Nat), .int .i64 0, .slice none 0 0]) := by show Blk _ _ _ _; rw [hWF]; exact set9_blk HR2.out _ _ _ _ _ _ _ _ _
  have HPF : Hid (OneP R (.pointer (some a)) A L W0 s2 Q WF) := OneP.less (H2.out.poke (ga + 1) hkp (.inr (.inl rfl)) (Nat.le_trans HW0.out (by omega))) fun b hb => .inr (.inr (.inr hb))
  have HQF : Hid (∀ b, Q b → WF.heap[b]? = w.heap[b]?) := fun b hb => (hkp.block b (by have := HGA.out b hb; have := HG2.out.lt; omega) (fun e => by have := HGA.out b hb; injection e <;> omega)).trans (HQ2.out b hb)
  clear hkp
  go_wp2_with fail
  try clear c f0
  try clear hst
  rw [← hWF]
  refine bodyPost_ret (results_blk1 rfl _ _ (ga + 1) 25 [.int .i64 0, .string (strOf vp), .string ⟨#[]⟩, .int .i64 0, .int .i64 0, .int .i64 0, .int .u64 (vu : Nat), .int .i64 0, .slice none 0 0] _ rfl HRF.out rfl rfl rfl) rfl ?_
  exact ⟨none, 0, rfl, Nat.le_refl _, Rd.nil _ _, HPF, HQF, fun _ _ _ _ => Rd.nil _ _⟩
set_option maxHeartbeats 4000000 in
set_option maxRecDepth 100000 in
theorem read_s {R : RSaid codecFns} (h : OneP R v A L W0 s Q w) (vs : Nat) (s1 : Co.Rs) (e1 : Co.num 2 s = (vs, s1)) :
    Calls Try.prog 54 #[.agg #[.bool false, .bool false, .bool false, .bool false, .bool false, .bool true, .bool false], v] w (ROp R v A L W0 ⟨0, [], [], 0, 0, 0, 0, ((vs : Nat) : Int), []⟩ s1 Q w) := by
  obtain ⟨a, rfl⟩ : ∃ a, v = .pointer (some a) := by obtain ⟨B, h1, _⟩ := h; exact R.ptr h1.at_
  have HQL : Hid (∀ b, Q b → b < w.heap.size) := fun b hb => by obtain ⟨B, _, h2⟩ := h; exact (h2 b hb).2
  obtain ⟨WA, hWA⟩ : ∃ WA, WA = w.alloc (.cells #[.bool false, .bool false, .bool false, .bool false, .bool false, .bool true, .bool false] 68) := ⟨_, rfl⟩
  obtain ⟨WR, hWR⟩ : ∃ WR, WR = WA.alloc (.cells #[.int .i64 0, .string ⟨#[]⟩, .string ⟨#[]⟩, .int .i64 0, .int .i64 0, .int .i64 0, .int .u64 0, .int .i64 0, .slice none 0 0] 25) := ⟨_, rfl⟩
  obtain ⟨WO, hWO⟩ : ∃ WO, WO = WR.alloc (.cells #[.int .i64 0, .string ⟨#[]⟩, .string ⟨#[]⟩, .int .i64 0, .int .i64 0, .int .i64 0, .int .u64 0, .int .i64 0, .slice none 0 0] 25) := ⟨_, rfl⟩
  obtain ⟨ga, hga⟩ : ∃ ga, ga = w.heap.size := ⟨_, rfl⟩
  have hzA : WA.heap.size = ga + 1 := by rw [hWA, World.size_alloc, hga]
  have hzR : WR.heap.size = ga + 2 := by rw [hWR, World.size_alloc, hzA]
  have hzO : WO.heap.size = ga + 3 := by rw [hWO, World.size_alloc, hzR]
  have hb1 : Below w.heap.size w WA := by rw [hWA]; exact below_new w _
  have hb2 : Below WA.heap.size WA WR := by rw [hWR]; exact below_new WA _
  have hb3 : Below WR.heap.size WR WO := by rw [hWO]; exact below_new WR _
  have hA : Blk WA ga 68 [.bool false, .bool false, .bool false, .bool false, .bool false, .bool true, .bool false] := by rw [hWA, hga]; exact Blk.new w _ _
  have hR : Blk WR (ga + 1) 25 [.int .i64 0, .string ⟨#[]⟩, .string ⟨#[]⟩, .int .i64 0, .int .i64 0, .int .i64 0, .int .u64 0, .int .i64 0, .slice none 0 0] := by rw [hWR, ← hzA]; exact Blk.new WA _ _
  have HA0 : Hid (Blk WO ga 68 [.bool false, .bool false, .bool false, .bool false, .bool false, .bool true, .bool false]) := (hA.below hb2 hA.lt).below hb3 (hA.below hb2 hA.lt).lt
  have HR0 : Hid (Blk WO (ga + 1) 25 [.int .i64 0, .string ⟨#[]⟩, .string ⟨#[]⟩, .int .i64 0, .int .i64 0, .int .i64 0, .int .u64 0, .int .i64 0, .slice none 0 0]) := hR.below hb3 hR.lt
  have HG0 : Hid (Blk WO (ga + 2) 25 [.int .i64 0, .string ⟨#[]⟩, .string ⟨#[]⟩, .int .i64 0, .int .i64 0, .int .i64 0, .int .u64 0, .int .i64 0, .slice none 0 0]) := by show Blk _ _ _ _; rw [hWO, ← hzR]; exact Blk.new WR _ _
  have H0 : Hid (OneP R (.pointer (some a)) A L W0 s (fun b => b = ga + 2 ∨ b = ga + 1 ∨ b = ga ∨ Q b) WO) :=
    ((h.made hb1 ga (Nat.le_of_eq hga.symm) (by omega)).made hb2 (ga + 1) (by omega) (by omega)).made hb3 (ga + 2) (by omega) (by omega)
  have HW0 : Hid (W0.heap.size ≤ ga) := by show _ ≤ _; rw [hga]; exact h.low.size
  have HQ0 : Hid (∀ b, Q b → WO.heap[b]? = w.heap[b]?) := fun b hb => by
    have := HQL.out b hb
    rw [hb3.block b (by omega), hb2.block b (by omega), hb1.block b (by omega)]
  have HGA : Hid (∀ b, Q b → b < ga) := by show ∀ b, Q b → b < ga; rw [hga]; exact HQL.out
  have E1 := Lib.hid e1
  clear hb1 hb2 hb3 hA hR h HQL hzA hzR e1
  go_enter Try.func54, Try.ntmps54
  go_upto_region 2 with (fail)
  rw [← hWA, ← hWR, ← hWO, ← hga]
  try rw [show ga + 1 + 1 = ga + 2 from rfl]
  clear hWA hWR hWO hga hzO
  have a0 := HA0.out.cell 0
  have a1 := HA0.out.cell 1
  have a2 := HA0.out.cell 2
  have a3 := HA0.out.cell 3
  have a4 := HA0.out.cell 4
  have a5 := HA0.out.cell 5
  have a6 := HA0.out.cell 6
  go_wp2_with fail
  refine (OneP.short rfl H0.out E1.out).mono ?_
  rintro e w1 ⟨rfl, K1, hk⟩
  clear a0 a1 a2 a3 a4 a5 a6
  have HGx : Hid (Blk w1 (ga + 2) 25 [.int .i64 0, .string ⟨#[]⟩, .string ⟨#[]⟩, .int .i64 0, .int .i64 0, .int .i64 0, .int .u64 0, .int .i64 0, .slice none 0 0]) := (hk.out _ (.inl rfl)).trans HG0.out
  have HRx : Hid (Blk w1 (ga + 1) 25 [.int .i64 0, .string ⟨#[]⟩, .string ⟨#[]⟩, .int .i64 0, .int .i64 0, .int .i64 0, .int .u64 0, .int .i64 0, .slice none 0 0]) := (hk.out _ (.inr (.inl rfl))).trans HR0.out
  have HAx : Hid (Blk w1 ga 68 _) := (hk.out _ (.inr (.inr (.inl rfl)))).trans HA0.out
  have HQx : Hid (∀ b, Q b → w1.heap[b]? = w.heap[b]?) := fun b hb => (hk.out b (.inr (.inr (.inr hb)))).trans (HQ0.out b hb)
  have c := HGx.out.cell 7
  have f0 := HGx.out.frozen 7
  have H1 : Hid (OneP R (.pointer (some a)) A L W0 s1 (fun b => b = ga + 2 ∨ b = ga + 1 ∨ b = ga ∨ Q b) (w1.setCell ⟨ga + 2, 7, none⟩ (.int .i64 (vs : Nat)))) := K1.out.poke (ga + 2) ((Keeps.refl _ _).setCell _ _) (.inl rfl) (Nat.le_trans HW0.out (by omega))
  have HG1 : Hid (Blk (w1.setCell ⟨ga + 2, 7, none⟩ (.int .i64 (vs : Nat))) (ga + 2) 25 [.int .i64 0, .string ⟨#[]⟩, .string ⟨#[]⟩, .int .i64 0, .int .i64 0, .int .i64 0, .int .u64 0, .int .i64 (vs : Nat), .slice none 0 0]) := HGx.out.set_ 7 (.int .i64 (vs : Nat))
  have HR1 : Hid (Blk (w1.setCell ⟨ga + 2, 7, none⟩ (.int .i64 (vs : Nat))) (ga + 1) 25 [.int .i64 0, .string ⟨#[]⟩, .string ⟨#[]⟩, .int .i64 0, .int .i64 0, .int .i64 0, .int .u64 0, .int .i64 0, .slice none 0 0]) := HRx.out.far (by show ga + 1 ≠ ga + 2; omega) _
  have HA1 : Hid (Blk (w1.setCell ⟨ga + 2, 7, none⟩ (.int .i64 (vs : Nat))) ga 68 _) := HAx.out.far (by show ga ≠ ga + 2; omega) _
  have HQ1 : Hid (∀ b, Q b → (w1.setCell ⟨ga + 2, 7, none⟩ (.int .i64 (vs : Nat))).heap[b]? = w.heap[b]?) := fun b hb => (Below.heap_setCell w1 ⟨ga + 2, 7, none⟩ _ b (by have := HGA.out b hb; show b ≠ ga + 2; omega)).trans (HQx.out b hb)
  clear hk H0 HG0 HR0 HA0 HQ0 K1 HGx HRx HAx HQx
  have a0 := HA1.out.cell 0
  have a1 := HA1.out.cell 1
  have a2 := HA1.out.cell 2
  have a3 := HA1.out.cell 3
  have a4 := HA1.out.cell 4
  have a5 := HA1.out.cell 5
  have a6 := HA1.out.cell 6
  have r0 := HR1.out.cell 0
  have q0 := HR1.out.frozen 0
  have b0 := HG1.out.cell 0
  have r1 := HR1.out.cell 1
  have q1 := HR1.out.frozen 1
  have b1 := HG1.out.cell 1
  have r2 := HR1.out.cell 2
  have q2 := HR1.out.frozen 2
  have b2 := HG1.out.cell 2
  have r3 := HR1.out.cell 3
  have q3 := HR1.out.frozen 3
  have b3 := HG1.out.cell 3
  have r4 := HR1.out.cell 4
  have q4 := HR1.out.frozen 4
  have b4 := HG1.out.cell 4
  have r5 := HR1.out.cell 5
  have q5 := HR1.out.frozen 5
  have b5 := HG1.out.cell 5
  have r6 := HR1.out.cell 6
  have q6 := HR1.out.frozen 6
  have b6 := HG1.out.cell 6
  have r7 := HR1.out.cell 7
  have q7 := HR1.out.frozen 7
  have b7 := HG1.out.cell 7
  have r8 := HR1.out.cell 8
  have q8 := HR1.out.frozen 8
  have b8 := HG1.out.cell 8
  obtain ⟨WF, hWF⟩ : ∃ W, W = ((((((((((w1.setCell ⟨ga + 2, 7, none⟩ (.int .i64 (vs : Nat))).setCell ⟨ga + 1, 0, none⟩ (.int .i64 0)).setCell ⟨ga + 1, 1, none⟩ (.string ⟨#[]⟩)).setCell ⟨ga + 1, 2, none⟩ (.string ⟨#[]⟩)).setCell ⟨ga + 1, 3, none⟩ (.int .i64 0)).setCell ⟨ga + 1, 4, none⟩ (.int .i64 0)).setCell ⟨ga + 1, 5, none⟩ (.int .i64 0)).setCell ⟨ga + 1, 6, none⟩ (.int .u64 0)).setCell ⟨ga + 1, 7, none⟩ (.int .i64 (vs : Nat))).setCell ⟨ga + 1, 8, none⟩ (.slice none 0 0)) := ⟨_, rfl⟩
  have hkp : Keeps (w1.setCell ⟨ga + 2, 7, none⟩ (.int .i64 (vs : Nat))) WF (ga + 1) := by rw [hWF]; exact set9_keeps (w1.setCell ⟨ga + 2, 7, none⟩ (.int .i64 (vs : Nat))) (ga + 1) (.int .i64 0) (.string ⟨#[]⟩) (.string ⟨#[]⟩) (.int .i64 0) (.int .i64 0) (.int .i64 0) (.int .u64 0) (.int .i64 (vs : Nat)) (.slice none 0 0)
  have HRF : Hid (Blk WF (ga + 1) 25 [.int .i64 0, .string ⟨#[]⟩, .string ⟨#[]⟩, .int .i64 0, .int .i64 0, .int .i64 0, .int .u64 0, .int .i64 (vs : Nat), .slice none 0 0]) := by show Blk _ _ _ _; rw [hWF]; exact set9_blk HR1.out _ _ _ _ _ _ _ _ _
  have HPF : Hid (OneP R (.pointer (some a)) A L W0 s1 Q WF) := OneP.less (H1.out.poke (ga + 1) hkp (.inr (.inl rfl)) (Nat.le_trans HW0.out (by omega))) fun b hb => .inr (.inr (.inr hb))
  have HQF : Hid (∀ b, Q b → WF.heap[b]? = w.heap[b]?) := fun b hb => (hkp.block b (by have := HGA.out b hb; have := HG1.out.lt; omega) (fun e => by have := HGA.out b hb; injection e <;> omega)).trans (HQ1.out b hb)
  clear hkp
  go_wp2_with fail
  try clear c f0
  try clear hst
  rw [← hWF]
  refine bodyPost_ret (results_blk1 rfl _ _ (ga + 1) 25 [.int .i64 0, .string ⟨#[]⟩, .string ⟨#[]⟩, .int .i64 0, .int .i64 0, .int .i64 0, .int .u64 0, .int .i64 (vs : Nat), .slice none 0 0] _ rfl HRF.out rfl rfl rfl) rfl ?_
  exact ⟨none, 0, rfl, Nat.le_refl _, Rd.nil _ _, HPF, HQF, fun _ _ _ _ => Rd.nil _ _⟩
set_option maxHeartbeats 4000000 in
set_option maxRecDepth 100000 in
theorem read_u {R : RSaid codecFns} (h : OneP R v A L W0 s Q w) (vu : Nat) (s1 : Co.Rs) (e1 : Co.num 8 s = (vu, s1)) :
    Calls Try.prog 54 #[.agg #[.bool false, .bool false, .bool false, .bool false, .bool true, .bool false, .bool false], v] w (ROp R v A L W0 ⟨0, [], [], 0, 0, 0, vu, 0, []⟩ s1 Q w) := by
  obtain ⟨a, rfl⟩ : ∃ a, v = .pointer (some a) := by obtain ⟨B, h1, _⟩ := h; exact R.ptr h1.at_
  have HQL : Hid (∀ b, Q b → b < w.heap.size) := fun b hb => by obtain ⟨B, _, h2⟩ := h; exact (h2 b hb).2
  obtain ⟨WA, hWA⟩ : ∃ WA, WA = w.alloc (.cells #[.bool false, .bool false, .bool false, .bool false, .bool true, .bool false, .bool false] 68) := ⟨_, rfl⟩
  obtain ⟨WR, hWR⟩ : ∃ WR, WR = WA.alloc (.cells #[.int .i64 0, .string ⟨#[]⟩, .string ⟨#[]⟩, .int .i64 0, .int .i64 0, .int .i64 0, .int .u64 0, .int .i64 0, .slice none 0 0] 25) := ⟨_, rfl⟩
  obtain ⟨WO, hWO⟩ : ∃ WO, WO = WR.alloc (.cells #[.int .i64 0, .string ⟨#[]⟩, .string ⟨#[]⟩, .int .i64 0, .int .i64 0, .int .i64 0, .int .u64 0, .int .i64 0, .slice none 0 0] 25) := ⟨_, rfl⟩
  obtain ⟨ga, hga⟩ : ∃ ga, ga = w.heap.size := ⟨_, rfl⟩
  have hzA : WA.heap.size = ga + 1 := by rw [hWA, World.size_alloc, hga]
  have hzR : WR.heap.size = ga + 2 := by rw [hWR, World.size_alloc, hzA]
  have hzO : WO.heap.size = ga + 3 := by rw [hWO, World.size_alloc, hzR]
  have hb1 : Below w.heap.size w WA := by rw [hWA]; exact below_new w _
  have hb2 : Below WA.heap.size WA WR := by rw [hWR]; exact below_new WA _
  have hb3 : Below WR.heap.size WR WO := by rw [hWO]; exact below_new WR _
  have hA : Blk WA ga 68 [.bool false, .bool false, .bool false, .bool false, .bool true, .bool false, .bool false] := by rw [hWA, hga]; exact Blk.new w _ _
  have hR : Blk WR (ga + 1) 25 [.int .i64 0, .string ⟨#[]⟩, .string ⟨#[]⟩, .int .i64 0, .int .i64 0, .int .i64 0, .int .u64 0, .int .i64 0, .slice none 0 0] := by rw [hWR, ← hzA]; exact Blk.new WA _ _
  have HA0 : Hid (Blk WO ga 68 [.bool false, .bool false, .bool false, .bool false, .bool true, .bool false, .bool false]) := (hA.below hb2 hA.lt).below hb3 (hA.below hb2 hA.lt).lt
  have HR0 : Hid (Blk WO (ga + 1) 25 [.int .i64 0, .string ⟨#[]⟩, .string ⟨#[]⟩, .int .i64 0, .int .i64 0, .int .i64 0, .int .u64 0, .int .i64 0, .slice none 0 0]) := hR.below hb3 hR.lt
  have HG0 : Hid (Blk WO (ga + 2) 25 [.int .i64 0, .string ⟨#[]⟩, .string ⟨#[]⟩, .int .i64 0, .int .i64 0, .int .i64 0, .int .u64 0, .int .i64 0, .slice none 0 0]) := by show Blk _ _ _ _; rw [hWO, ← hzR]; exact Blk.new WR _ _
  have H0 : Hid (OneP R (.pointer (some a)) A L W0 s (fun b => b = ga + 2 ∨ b = ga + 1 ∨ b = ga ∨ Q b) WO) :=
    ((h.made hb1 ga (Nat.le_of_eq hga.symm) (by omega)).made hb2 (ga + 1) (by omega) (by omega)).made hb3 (ga + 2) (by omega) (by omega)
  have HW0 : Hid (W0.heap.size ≤ ga) := by show _ ≤ _; rw [hga]; exact h.low.size
  have HQ0 : Hid (∀ b, Q b → WO.heap[b]? = w.heap[b]?) := fun b hb => by
    have := HQL.out b hb
    rw [hb3.block b (by omega), hb2.block b (by omega), hb1.block b (by omega)]
  have HGA : Hid (∀ b, Q b → b < ga) := by show ∀ b, Q b → b < ga; rw [hga]; exact HQL.out
  have E1 := Lib.hid e1
  clear hb1 hb2 hb3 hA hR h HQL hzA hzR e1
  go_enter Try.func54, Try.ntmps54
  go_upto_region 2 with (fail)
  rw [← hWA, ← hWR, ← hWO, ← hga]
  try rw [show ga + 1 + 1 = ga + 2 from rfl]
  clear hWA hWR hWO hga hzO
  have a0 := HA0.out.cell 0
  have a1 := HA0.out.cell 1
  have a2 := HA0.out.cell 2
  have a3 := HA0.out.cell 3
  have a4 := HA0.out.cell 4
  have a5 := HA0.out.cell 5
  have a6 := HA0.out.cell 6
  go_wp2_with fail
  refine (OneP.long rfl H0.out E1.out).mono ?_
  rintro e w1 ⟨rfl, K1, hk⟩
  clear a0 a1 a2 a3 a4 a5 a6
  have HGx : Hid (Blk w1 (ga + 2) 25 [.int .i64 0, .string ⟨#[]⟩, .string ⟨#[]⟩, .int .i64 0, .int .i64 0, .int .i64 0, .int .u64 0, .int .i64 0, .slice none 0 0]) := (hk.out _ (.inl rfl)).trans HG0.out
  have HRx : Hid (Blk w1 (ga + 1) 25 [.int .i64 0, .string ⟨#[]⟩, .string ⟨#[]⟩, .int .i64 0, .int .i64 0, .int .i64 0, .int .u64 0, .int .i64 0, .slice none 0 0]) := (hk.out _ (.inr (.inl rfl))).trans HR0.out
  have HAx : Hid (Blk w1 ga 68 _) := (hk.out _ (.inr (.inr (.inl rfl)))).trans HA0.out
  have HQx : Hid (∀ b, Q b → w1.heap[b]? = w.heap[b]?) := fun b hb => (hk.out b (.inr (.inr (.inr hb)))).trans (HQ0.out b hb)
  have c := HGx.out.cell 6
  have f0 := HGx.out.frozen 6
  have H1 : Hid (OneP R (.pointer (some a)) A L W0 s1 (fun b => b = ga + 2 ∨ b = ga + 1 ∨ b = ga ∨ Q b) (w1.setCell ⟨ga + 2, 6, none⟩ (.int .u64 (vu : Nat)))) := K1.out.poke (ga + 2) ((Keeps.refl _ _).setCell _ _) (.inl rfl) (Nat.le_trans HW0.out (by omega))
  have HG1 : Hid (Blk (w1.setCell ⟨ga + 2, 6, none⟩ (.int .u64 (vu : Nat))) (ga + 2) 25 [.int .i64 0, .string ⟨#[]⟩, .string ⟨#[]⟩, .int .i64 0, .int .i64 0, .int .i64 0, .int .u64 (vu : Nat), .int .i64 0, .slice none 0 0]) := HGx.out.set_ 6 (.int .u64 (vu : Nat))
  have HR1 : Hid (Blk (w1.setCell ⟨ga + 2, 6, none⟩ (.int .u64 (vu : Nat))) (ga + 1) 25 [.int .i64 0, .string ⟨#[]⟩, .string ⟨#[]⟩, .int .i64 0, .int .i64 0, .int .i64 0, .int .u64 0, .int .i64 0, .slice none 0 0]) := HRx.out.far (by show ga + 1 ≠ ga + 2; omega) _
  have HA1 : Hid (Blk (w1.setCell ⟨ga + 2, 6, none⟩ (.int .u64 (vu : Nat))) ga 68 _) := HAx.out.far (by show ga ≠ ga + 2; omega) _
  have HQ1 : Hid (∀ b, Q b → (w1.setCell ⟨ga + 2, 6, none⟩ (.int .u64 (vu : Nat))).heap[b]? = w.heap[b]?) := fun b hb => (Below.heap_setCell w1 ⟨ga + 2, 6, none⟩ _ b (by have := HGA.out b hb; show b ≠ ga + 2; omega)).trans (HQx.out b hb)
  clear hk H0 HG0 HR0 HA0 HQ0 K1 HGx HRx HAx HQx
  have a0 := HA1.out.cell 0
  have a1 := HA1.out.cell 1
  have a2 := HA1.out.cell 2
  have a3 := HA1.out.cell 3
  have a4 := HA1.out.cell 4
  have a5 := HA1.out.cell 5
  have a6 := HA1.out.cell 6
  have r0 := HR1.out.cell 0
  have q0 := HR1.out.frozen 0
  have b0 := HG1.out.cell 0
  have r1 := HR1.out.cell 1
  have q1 := HR1.out.frozen 1
  have b1 := HG1.out.cell 1
  have r2 := HR1.out.cell 2
  have q2 := HR1.out.frozen 2
  have b2 := HG1.out.cell 2
  have r3 := HR1.out.cell 3
  have q3 := HR1.out.frozen 3
  have b3 := HG1.out.cell 3
  have r4 := HR1.out.cell 4
  have q4 := HR1.out.frozen 4
  have b4 := HG1.out.cell 4
  have r5 := HR1.out.cell 5
  have q5 := HR1.out.frozen 5
  have b5 := HG1.out.cell 5
  have r6 := HR1.out.cell 6
  have q6 := HR1.out.frozen 6
  have b6 := HG1.out.cell 6
  have r7 := HR1.out.cell 7
  have q7 := HR1.out.frozen 7
  have b7 := HG1.out.cell 7
  have r8 := HR1.out.cell 8
  have q8 := HR1.out.frozen 8
  have b8 := HG1.out.cell 8
  obtain ⟨WF, hWF⟩ : ∃ W, W = ((((((((((w1.setCell ⟨ga + 2, 6, none⟩ (.int .u64 (vu : Nat))).setCell ⟨ga + 1, 0, none⟩ (.int .i64 0)).setCell ⟨ga + 1, 1, none⟩ (.string ⟨#[]⟩)).setCell ⟨ga + 1, 2, none⟩ (.string ⟨#[]⟩)).setCell ⟨ga + 1, 3, none⟩ (.int .i64 0)).setCell ⟨ga + 1, 4, none⟩ (.int .i64 0)).setCell ⟨ga + 1, 5, none⟩ (.int .i64 0)).setCell ⟨ga + 1, 6, none⟩ (.int .u64 (vu : Nat))).setCell ⟨ga + 1, 7, none⟩ (.int .i64 0)).setCell ⟨ga + 1, 8, none⟩ (.slice none 0 0)) := ⟨_, rfl⟩
  have hkp : Keeps (w1.setCell ⟨ga + 2, 6, none⟩ (.int .u64 (vu : Nat))) WF (ga + 1) := by rw [hWF]; exact set9_keeps (w1.setCell ⟨ga + 2, 6, none⟩ (.int .u64 (vu : Nat))) (ga + 1) (.int .i64 0) (.string ⟨#[]⟩) (.string ⟨#[]⟩) (.int .i64 0) (.int .i64 0) (.int .i64 0) (.int .u64 (vu : Nat)) (.int .i64 0) (.slice none 0 0)
  have HRF : Hid (Blk WF (ga + 1) 25 [.int .i64 0, .string ⟨#[]⟩, .string ⟨#[]⟩, .int .i64 0, .int .i64 0, .int .i64 0, .int .u64 (vu : Nat), .int .i64 0, .slice none 0 0]) := by show Blk _ _ _ _; rw [hWF]; exact set9_blk HR1.out _ _ _ _ _ _ _ _ _
  have HPF : Hid (OneP R (.pointer (some a)) A L W0 s1 Q WF) := OneP.less (H1.out.poke (ga + 1) hkp (.inr (.inl rfl)) (Nat.le_trans HW0.out (by omega))) fun b hb => .inr (.inr (.inr hb))
  have HQF : Hid (∀ b, Q b → WF.heap[b]? = w.heap[b]?) := fun b hb => (hkp.block b (by have := HGA.out b hb; have := HG1.out.lt; omega) (fun e => by have := HGA.out b hb; injection e <;> omega)).trans (HQ1.out b hb)
  clear hkp
  go_wp2_with fail
  try clear c f0
  try clear hst
  rw [← hWF]
  refine bodyPost_ret (results_blk1 rfl _ _ (ga + 1) 25 [.int .i64 0, .string ⟨#[]⟩, .string ⟨#[]⟩, .int .i64 0, .int .i64 0, .int .i64 0, .int .u64 (vu : Nat), .int .i64 0, .slice none 0 0] _ rfl HRF.out rfl rfl rfl) rfl ?_
  exact ⟨none, 0, rfl, Nat.le_refl _, Rd.nil _ _, HPF, HQF, fun _ _ _ _ => Rd.nil _ _⟩
set_option maxHeartbeats 4000000 in
set_option maxRecDepth 100000 in
theorem read_z {R : RSaid codecFns} (h : OneP R v A L W0 s Q w) :
    Calls Try.prog 54 #[.agg #[.bool false, .bool false, .bool false, .bool false, .bool false, .bool false, .bool false], v] w (ROp R v A L W0 ⟨0, [], [], 0, 0, 0, 0, 0, []⟩ s Q w) := by
  obtain ⟨a, rfl⟩ : ∃ a, v = .pointer (some a) := by obtain ⟨B, h1, _⟩ := h; exact R.ptr h1.at_
  have HQL : Hid (∀ b, Q b → b < w.heap.size) := fun b hb => by obtain ⟨B, _, h2⟩ := h; exact (h2 b hb).2
  obtain ⟨WA, hWA⟩ : ∃ WA, WA = w.alloc (.cells #[.bool false, .bool false, .bool false, .bool false, .bool false, .bool false, .bool false] 68) := ⟨_, rfl⟩
  obtain ⟨WR, hWR⟩ : ∃ WR, WR = WA.alloc (.cells #[.int .i64 0, .string ⟨#[]⟩, .string ⟨#[]⟩, .int .i64 0, .int .i64 0, .int .i64 0, .int .u64 0, .int .i64 0, .slice none 0 0] 25) := ⟨_, rfl⟩
  obtain ⟨WO, hWO⟩ : ∃ WO, WO = WR.alloc (.cells #[.int .i64 0, .string ⟨#[]⟩, .string ⟨#[]⟩, .int .i64 0, .int .i64 0, .int .i64 0, .int .u64 0, .int .i64 0, .slice none 0 0] 25) := ⟨_, rfl⟩
  obtain ⟨ga, hga⟩ : ∃ ga, ga = w.heap.size := ⟨_, rfl⟩
  have hzA : WA.heap.size = ga + 1 := by rw [hWA, World.size_alloc, hga]
  have hzR : WR.heap.size = ga + 2 := by rw [hWR, World.size_alloc, hzA]
  have hzO : WO.heap.size = ga + 3 := by rw [hWO, World.size_alloc, hzR]
  have hb1 : Below w.heap.size w WA := by rw [hWA]; exact below_new w _
  have hb2 : Below WA.heap.size WA WR := by rw [hWR]; exact below_new WA _
  have hb3 : Below WR.heap.size WR WO := by rw [hWO]; exact below_new WR _
  have hA : Blk WA ga 68 [.bool false, .bool false, .bool false, .bool false, .bool false, .bool false, .bool false] := by rw [hWA, hga]; exact Blk.new w _ _
  have hR : Blk WR (ga + 1) 25 [.int .i64 0, .string ⟨#[]⟩, .string ⟨#[]⟩, .int .i64 0, .int .i64 0, .int .i64 0, .int .u64 0, .int .i64 0, .slice none 0 0] := by rw [hWR, ← hzA]; exact Blk.new WA _ _
  have HA0 : Hid (Blk WO ga 68 [.bool false, .bool false, .bool false, .bool false, .bool false, .bool false, .bool false]) := (hA.below hb2 hA.lt).below hb3 (hA.below hb2 hA.lt).lt
  have HR0 : Hid (Blk WO (ga + 1) 25 [.int .i64 0, .string ⟨#[]⟩, .string ⟨#[]⟩, .int .i64 0, .int .i64 0, .int .i64 0, .int .u64 0, .int .i64 0, .slice none 0 0]) := hR.below hb3 hR.lt
  have HG0 : Hid (Blk WO (ga + 2) 25 [.int .i64 0, .string ⟨#[]⟩, .string ⟨#[]⟩, .int .i64 0, .int .i64 0, .int .i64 0, .int .u64 0, .int .i64 0, .slice none 0 0]) := by show Blk _ _ _ _; rw [hWO, ← hzR]; exact Blk.new WR _ _
  have H0 : Hid (OneP R (.pointer (some a)) A L W0 s (fun b => b = ga + 2 ∨ b = ga + 1 ∨ b = ga ∨ Q b) WO) :=
    ((h.made hb1 ga (Nat.le_of_eq hga.symm) (by omega)).made hb2 (ga + 1) (by omega) (by omega)).made hb3 (ga + 2) (by omega) (by omega)
  have HW0 : Hid (W0.heap.size ≤ ga) := by show _ ≤ _; rw [hga]; exact h.low.size
  have HQ0 : Hid (∀ b, Q b → WO.heap[b]? = w.heap[b]?) := fun b hb => by
    have := HQL.out b hb
    rw [hb3.block b (by omega), hb2.block b (by omega), hb1.block b (by omega)]
  have HGA : Hid (∀ b, Q b → b < ga) := by show ∀ b, Q b → b < ga; rw [hga]; exact HQL.out
  clear hb1 hb2 hb3 hA hR h HQL hzA hzR
  go_enter Try.func54, Try.ntmps54
  go_upto_region 2 with (fail)
  rw [← hWA, ← hWR, ← hWO, ← hga]
  try rw [show ga + 1 + 1 = ga + 2 from rfl]
  clear hWA hWR hWO hga hzO
  have a0 := HA0.out.cell 0
  have a1 := HA0.out.cell 1
  have a2 := HA0.out.cell 2
  have a3 := HA0.out.cell 3
  have a4 := HA0.out.cell 4
  have a5 := HA0.out.cell 5
  have a6 := HA0.out.cell 6
  have r0 := HR0.out.cell 0
  have q0 := HR0.out.frozen 0
  have b0 := HG0.out.cell 0
  have r1 := HR0.out.cell 1
  have q1 := HR0.out.frozen 1
  have b1 := HG0.out.cell 1
  have r2 := HR0.out.cell 2
  have q2 := HR0.out.frozen 2
  have b2 := HG0.out.cell 2
  have r3 := HR0.out.cell 3
  have q3 := HR0.out.frozen 3
  have b3 := HG0.out.cell 3
  have r4 := HR0.out.cell 4
  have q4 := HR0.out.frozen 4
  have b4 := HG0.out.cell 4
  have r5 := HR0.out.cell 5
  have q5 := HR0.out.frozen 5
  have b5 := HG0.out.cell 5
  have r6 := HR0.out.cell 6
  have q6 := HR0.out.frozen 6
  have b6 := HG0.out.cell 6
  have r7 := HR0.out.cell 7
  have q7 := HR0.out.frozen 7
  have b7 := HG0.out.cell 7
  have r8 := HR0.out.cell 8
  have q8 := HR0.out.frozen 8
  have b8 := HG0.out.cell 8
  obtain ⟨WF, hWF⟩ : ∃ W, W = (((((((((WO.setCell ⟨ga + 1, 0, none⟩ (.int .i64 0)).setCell ⟨ga + 1, 1, none⟩ (.string ⟨#[]⟩)).setCell ⟨ga + 1, 2, none⟩ (.string ⟨#[]⟩)).setCell ⟨ga + 1, 3, none⟩ (.int .i64 0)).setCell ⟨ga + 1, 4, none⟩ (.int .i64 0)).setCell ⟨ga + 1, 5, none⟩ (.int .i64 0)).setCell ⟨ga + 1, 6, none⟩ (.int .u64 0)).setCell ⟨ga + 1, 7, none⟩ (.int .i64 0)).setCell ⟨ga + 1, 8, none⟩ (.slice none 0 0)) := ⟨_, rfl⟩
  have hkp : Keeps WO WF (ga + 1) := by rw [hWF]; exact set9_keeps WO (ga + 1) (.int .i64 0) (.string ⟨#[]⟩) (.string ⟨#[]⟩) (.int .i64 0) (.int .i64 0) (.int .i64 0) (.int .u64 0) (.int .i64 0) (.slice none 0 0)
  have HRF : Hid (Blk WF (ga + 1) 25 [.int .i64 0, .string ⟨#[]⟩, .string ⟨#[]⟩, .int .i64 0, .int .i64 0, .int .i64 0, .int .u64 0, .int .i64 0, .slice none 0 0]) := by show Blk _ _ _ _; rw [hWF]; exact set9_blk HR0.out _ _ _ _ _ _ _ _ _
  have HPF : Hid (OneP R (.pointer (some a)) A L W0 s Q WF) := OneP.less (H0.out.poke (ga + 1) hkp (.inr (.inl rfl)) (Nat.le_trans HW0.out (by omega))) fun b hb => .inr (.inr (.inr hb))
  have HQF : Hid (∀ b, Q b → WF.heap[b]? = w.heap[b]?) := fun b hb => (hkp.block b (by have := HGA.out b hb; have := HG0.out.lt; omega) (fun e => by have := HGA.out b hb; injection e <;> omega)).trans (HQ0.out b hb)
  clear hkp
  go_wp2_with fail
  rw [← hWF]
  refine bodyPost_ret (results_blk1 rfl _ _ (ga + 1) 25 [.int .i64 0, .string ⟨#[]⟩, .string ⟨#[]⟩, .int .i64 0, .int .i64 0, .int .i64 0, .int .u64 0, .int .i64 0, .slice none 0 0] _ rfl HRF.out rfl rfl rfl) rfl ?_
  exact ⟨none, 0, rfl, Nat.le_refl _, Rd.nil _ _, HPF, HQF, fun _ _ _ _ => Rd.nil _ _⟩
theorem read_any {R : RSaid codecFns} (h : OneP R v A L W0 s Q w) (k : Int) (hk : Kd k) :
    Calls Try.prog 54 #[.agg #[.bool (hasPath k), .bool (hasTo k), .bool (hasFd k), .bool (hasSpan k), .bool (hasTill k), .bool (hasSnap k), .bool (hasData k)], v] w (ROp R v A L W0 (rds k s).1 (rds k s).2 Q w) := by
  rcases kd_cases hk with rfl | rfl | rfl | rfl | rfl | rfl | rfl | rfl | rfl | rfl | rfl | rfl | rfl | rfl | rfl | rfl | rfl
  · exact read_p h _ _ rfl
  · exact read_p h _ _ rfl
  · exact read_ps h _ _ rfl _ _ rfl
  · exact read_fan h _ _ rfl _ _ rfl _ _ rfl
  · exact read_fd h _ _ rfl _ _ rfl
  · exact read_fu h _ _ rfl _ _ rfl
  · exact read_pt h _ _ rfl _ _ rfl
  · exact read_p h _ _ rfl
  · exact read_p h _ _ rfl
  · exact read_pt h _ _ rfl _ _ rfl
  · exact read_ps h _ _ rfl _ _ rfl
  · exact read_ps h _ _ rfl _ _ rfl
  · exact read_pu h _ _ rfl _ _ rfl
  · exact read_z h
  · exact read_s h _ _ rfl
  · exact read_u h _ _ rfl
  · exact read_z h
end Op
end Go.Proofs.Ytmcbpgbiephllaa

/-
  OWN WORK. ReRd, OpWr, ReEnc, ReDec, ReRefDec, ReLaw, ReSizes
-/
import Derived.Test.YtmcbpgbiephllaaDoorU03
import Derived.Test.YtmcbpgbiephllaaDoorU02
import Derived.Lib.ConvBytes
import Derived.BigRegion

namespace Go.Proofs.YtmcbpgbiephllaaDoor
open Go.RowKit Rc
namespace Re
theorem results_blk1 {P : Program} {fn : Func} {p : Tmp} {ty : TypeId} (h : fn.results = #[.cell p ty]) (tmps : Array Value) (w : World) (g : Nat) (t : TypeId) (cs : List Value) (d : TypeDesc)
    (hp : tmps.getD p undef = .pointer (some ⟨g, 0, none⟩)) (hb : Blk w g t cs)
    (hu : P.underlying ty = some d) (hd : (match d with | .struct _ | .array _ _ => true | _ => false) = true) (hi : (P.info? ty).map (·.size) = some cs.length) :
    (results fn tmps).run P w = .ok (.agg cs.toArray) w :=
  results_cell_row h tmps w g t cs.toArray (0, 0) d hp hb hu hd (by simpa using hi)
theorem results_cell_tmp2 {fn : Func} {p u x : Tmp} {ty : TypeId} (h : fn.results = #[.cell p ty, .tmp u, .tmp x]) (tmps : Array Value) (P : Program) (w : World) :
    (results fn tmps).run P w = ((asAddr (tmps.getD p undef)).run P w).andThen fun a w₁ => ((loadVar ty a).run P w₁).andThen fun v w₂ => .ok (.tuple #[v, tmps.getD u undef, tmps.getD x undef]) w₂ := by
  simp only [results, h]
  simp [Sem.run_bind, Result.andThen]
theorem results_blk_tmp2 {P : Program} {fn : Func} {p u x : Tmp} {ty : TypeId} (h : fn.results = #[.cell p ty, .tmp u, .tmp x]) (tmps : Array Value) (w : World) (g : Nat) (t : TypeId) (cs : List Value) (d : TypeDesc)
    (hp : tmps.getD p undef = .pointer (some ⟨g, 0, none⟩)) (hb : Blk w g t cs)
    (hu : P.underlying ty = some d) (hd : (match d with | .struct _ | .array _ _ => true | _ => false) = true) (hi : (P.info? ty).map (·.size) = some cs.length) :
    (results fn tmps).run P w = .ok (.tuple #[.agg cs.toArray, tmps.getD u undef, tmps.getD x undef]) w := by
  rw [results_cell_tmp2 h, hp]
  have hl := run_loadVar_row (P := P) w g t ty cs.toArray (0, 0) d hb hu hd (by simpa using hi)
  simp [asAddr, hl, Result.andThen]
theorem set3_blk {w : World} {g : Nat} {t : TypeId} {a b c : Value} (h : Blk w g t [a, b, c]) (x0 x1 x2 : Value) : Blk (((w.setCell ⟨g, 0, none⟩ x0).setCell ⟨g, 1, none⟩ x1).setCell ⟨g, 2, none⟩ x2) g t [x0, x1, x2] := ((h.set_ 0 x0).set_ 1 x1).set_ 2 x2
theorem set3_keeps (w : World) (g : Nat) (x0 x1 x2 : Value) : Keeps w (((w.setCell ⟨g, 0, none⟩ x0).setCell ⟨g, 1, none⟩ x1).setCell ⟨g, 2, none⟩ x2) g := (((Keeps.refl w g).setCell 0 x0).setCell 1 x1).setCell 2 x2
theorem below_keeps {B : Nat} {w0 w w' : World} {g : Nat} (h : Below B w0 w) (hk : Keeps w w' g) (hg : B ≤ g) (hB : B ≤ w.heap.size) : Below B w0 w' := Keeps.below h hk hg hB
def PAt (gR lo hi : Nat) (s : Co.Rs) (w : World) : Prop := ∃ X cap r, RrIn gR X cap r s.why w ∧ r = (if s.why = 0 then s.rem else []) ∧ s.why ≤ 1000 ∧ (lo ≤ gR ∧ gR < hi) ∧ ∀ b, X.map (·.block) = some b → lo ≤ b ∧ b < hi
variable {gR lo hi : Nat} {s s' : Co.Rs} {w w' : World}
theorem PAt.keep (h : PAt gR lo hi s w) (hs : w.heap.size ≤ w'.heap.size) (hb : ∀ b, lo ≤ b → b < hi → w'.heap[b]? = w.heap[b]?) : PAt gR lo hi s w' := by
  obtain ⟨X, cap, r, ⟨h1, h2, h3, h4, h5⟩, hr, hy, hg, hX⟩ := h
  refine ⟨X, cap, r, ⟨(hb gR hg.1 hg.2).trans h1, h2, h3, h4.keep (fun p _ hp => ?_) hs, fun b hb' => ⟨(h5 b hb').1, Nat.lt_of_lt_of_le (h5 b hb').2 hs⟩⟩, hr, hy, hg, hX⟩
  have := hX p.block hp
  unfold World.cell?
  rw [hb p.block this.1 this.2]
theorem PAt.rng (h : PAt gR lo hi s w) : lo ≤ gR ∧ gR < hi := by obtain ⟨_, _, _, _, _, _, h, _⟩ := h; exact h
theorem PAt.later (h : PAt gR lo hi s w) (hb : Below w.heap.size w w') (hh : hi ≤ w.heap.size) : PAt gR lo hi s w' := h.keep hb.size fun b _ h2 => hb.block b (by omega)
theorem PAt.poke {g : Nat} (h : PAt gR lo hi s w) (hk : Keeps w w' g) (hg : g < lo ∨ hi ≤ g) (hh : hi ≤ w.heap.size) : PAt gR lo hi s w' := h.keep hk.size fun b h1 h2 => hk.block b (by omega) (fun e => by injection e; omega)
def POut (gR lo hi : Nat) (x : Value) (s' : Co.Rs) (w : World) (e : Ending) (w' : World) : Prop := e = .returned x ∧ Hid (PAt gR lo hi s' w') ∧ Hid (Keeps w w' gR)
theorem PAt.next {X : Option Addr} (hn : RrNext gR X s' w w') (hy : s'.why ≤ 1000) (hg : lo ≤ gR ∧ gR < hi) (hX : ∀ b, X.map (·.block) = some b → lo ≤ b ∧ b < hi) : PAt gR lo hi s' w' ∧ Keeps w w' gR := by
  obtain ⟨X2, c2, r2, h1, h2, h3, h4⟩ := hn
  exact ⟨⟨X2, c2, r2, h1, h2, hy, hg, fun b hb => hX b (h3 b hb)⟩, h4⟩
theorem PAt.byte (h : PAt gR lo hi s w) {r : Nat} (hr : Co.num 1 s = (r, s')) : Calls Tryd.prog 34 #[.pointer (some ⟨gR, 0, none⟩)] w (POut gR lo hi (.int .i64 (r : Nat)) s' w) := by
  obtain ⟨X, cap, l, h1, h2, hy, hg, hX⟩ := h
  refine (rbyte_any h1 h2).mono fun e w' ⟨he, hn⟩ => ?_
  have := _root_.Go.Proofs.YtmcbpgbiephllaaDoor.num_why 1 s hy
  rw [hr] at he hn this
  have hp := PAt.next hn this hg hX
  exact ⟨he, hp.1, hp.2⟩
theorem PAt.short (h : PAt gR lo hi s w) {r : Nat} (hr : Co.num 2 s = (r, s')) : Calls Tryd.prog 38 #[.pointer (some ⟨gR, 0, none⟩)] w (POut gR lo hi (.int .i64 (r : Nat)) s' w) := by
  obtain ⟨X, cap, l, h1, h2, hy, hg, hX⟩ := h
  refine (rshort_any h1 h2).mono fun e w' ⟨he, hn⟩ => ?_
  have := _root_.Go.Proofs.YtmcbpgbiephllaaDoor.num_why 2 s hy
  rw [hr] at he hn this
  have hp := PAt.next hn this hg hX
  exact ⟨he, hp.1, hp.2⟩
theorem PAt.long (h : PAt gR lo hi s w) {r : Nat} (hr : Co.num 8 s = (r, s')) : Calls Tryd.prog 36 #[.pointer (some ⟨gR, 0, none⟩)] w (POut gR lo hi (.int .u64 (r : Nat)) s' w) := by
  obtain ⟨X, cap, l, h1, h2, hy, hg, hX⟩ := h
  refine (rlong_any h1 h2).mono fun e w' ⟨he, hn⟩ => ?_
  have := _root_.Go.Proofs.YtmcbpgbiephllaaDoor.num_why 8 s hy
  rw [hr] at he hn this
  have hp := PAt.next hn this hg hX
  exact ⟨he, hp.1, hp.2⟩
def PRow (gR lo hi : Nat) (l : List UInt8) (s' : Co.Rs) (w : World) (e : Ending) (w' : World) : Prop := ∃ X c, e = .returned (.slice X l.length c) ∧ Hid (l.length ≤ c) ∧ Hid (Rd w' X l) ∧ Hid (∀ b, X.map (·.block) = some b → w.heap.size ≤ b) ∧ Hid (PAt gR lo hi s' w') ∧ Hid (Keeps w w' gR)
theorem PAt.bytes (h : PAt gR lo hi s w) {l : List UInt8} (hr : Co.bytes s = (l, s')) : Calls Tryd.prog 37 #[.pointer (some ⟨gR, 0, none⟩)] w (PRow gR lo hi l s' w) := by
  obtain ⟨X, cap, r, h1, h2, hy, hg, hX⟩ := h
  refine (rbytes_any h1 h2).mono fun e w' ⟨v, he, ho, hn⟩ => ?_
  have := _root_.Go.Proofs.YtmcbpgbiephllaaDoor.bytes_why s hy
  rw [hr] at ho hn this
  have hp := PAt.next hn this hg hX
  obtain ⟨Y, c, rfl, hc, hrow⟩ := own_form ho
  refine ⟨Y, c, he, hc, hrow, fun b hb => (own_lt ho ?_).1, hp.1, hp.2⟩
  cases Y with
  | none => simp at hb
  | some a => simpa [Value.ownBlock] using hb
theorem PAt.fin (h : PAt gR lo hi s w) {n : Nat} (hr : Co.fin s = n) : Calls Tryd.prog 39 #[.pointer (some ⟨gR, 0, none⟩)] w fun e w' => e = .returned (.int .i64 (n : Nat)) ∧ Hid (Below w.heap.size w w') := by
  obtain ⟨X, cap, r, h1, h2, hy, hg, hX⟩ := h
  exact (rend_any h1 h2).mono fun e w' ⟨he, hb⟩ => ⟨by rw [he, hr], hb⟩
theorem PAt.new (w : World) (A : Option Addr) (L : List UInt8) (cap : Nat) (hr : Rd w A L) (hl : L.length ≤ 140737488351232) : Calls Tryd.prog 33 #[.slice A L.length cap] w fun e w' => ∃ gR, e = .returned (.pointer (some ⟨gR, 0, none⟩)) ∧ Hid (PAt gR w.heap.size w'.heap.size ⟨L, 0⟩ w') ∧ Hid (Below w.heap.size w w') := by
  refine (rnew_any w A L cap hr hl).mono fun e w' ⟨v, S, he, ha, hb, hS⟩ => ?_
  have hlt := ha.lt
  obtain ⟨g, X, c, r, rfl, h1, h2, h3, rfl⟩ := ha
  exact ⟨g, he, ⟨X, c, r, h1, h2, h3, ⟨hS g (.inl rfl), hlt g (.inl rfl)⟩, fun b hb => ⟨hS b (.inr hb), hlt b (.inr hb)⟩⟩, hb⟩
end Re
end Go.Proofs.YtmcbpgbiephllaaDoor

namespace Go.Proofs.YtmcbpgbiephllaaDoor
open Go.RowKit Rc
namespace Op
def WIn (C : WSaid) (v : Value) (l : List UInt8) (S0 : Nat → Prop) (W0 w : World) : Prop := ∃ S, C.At v l S w ∧ Mod W0 w S0 ∧ ∀ b, S b → S0 b ∨ W0.heap.size ≤ b
def WInR (C : WSaid) (v : Value) (l : List UInt8) (S0 : Nat → Prop) (W0 : World) (e : Ending) (w : World) : Prop := (∃ x, e = .returned x) ∧ Hid (WIn C v l S0 W0 w)
variable {C : WSaid} {v : Value} {l : List UInt8} {S0 : Nat → Prop} {W0 w : World}
theorem WIn.start {S : Nat → Prop} (h : C.At v l S w) : WIn C v l S w w := ⟨S, h, Mod.refl _ _, fun _ h => .inl h⟩
theorem WIn.eq {l' : List UInt8} (h : WIn C v l S0 W0 w) (e : l = l') : WIn C v l' S0 W0 w := e ▸ h
theorem WIn.mod (h : WIn C v l S0 W0 w) : Mod W0 w S0 := by obtain ⟨_, _, h, _⟩ := h; exact h
theorem WIn.block (h : WIn C v l S0 W0 w) (b : Nat) (hb : b < W0.heap.size) (hn : ¬ S0 b) : w.heap[b]? = W0.heap[b]? := h.mod.block b hb hn
theorem WIn.later {w' : World} (h : WIn C v l S0 W0 w) (hb : Below w.heap.size w w') : WIn C v l S0 W0 w' := by
  obtain ⟨S, h1, h2, h3⟩ := h
  exact ⟨S, C.keep h1 hb.size (fun b hB => hb.block b (C.lt h1 b hB)), Ob.mod_more h2 (Mod.of_below hb (fun _ => False)) (fun _ h => h.elim), h3⟩
theorem WIn.out {S : Nat → Prop} {l' : List UInt8} {e : Ending} {w' : World} (h2 : Mod W0 w S0) (h3 : ∀ b, S b → S0 b ∨ W0.heap.size ≤ b) (h : WOut C.At v l' S w e w') : WInR C v l' S0 W0 e w' := by
  obtain ⟨he, S', k1, k2, k3⟩ := h
  exact ⟨he, S', k1, Ob.mod_more h2 k2 h3, fun b hb => (k3 b hb).elim (h3 b) (fun h => .inr (Nat.le_trans h2.size h))⟩
theorem WIn.byte (h : WIn C v l S0 W0 w) (hl : l.length ≤ 1099511500000) (n : Nat) (hn : n ≤ 9223372036854775807) : Calls Tryd.prog 27 #[v, .int .i64 (n : Nat)] w (WInR C v (l ++ Co.wByte n) S0 W0) := by
  obtain ⟨S, h1, h2, h3⟩ := h
  exact (C.byte h1 hl n hn).mono fun e w' h => WIn.out h2 h3 h
theorem WIn.short (h : WIn C v l S0 W0 w) (hl : l.length ≤ 1099511500000) (n : Nat) (hn : n ≤ 9223372036854775807) : Calls Tryd.prog 32 #[v, .int .i64 (n : Nat)] w (WInR C v (l ++ Co.wShort n) S0 W0) := by
  obtain ⟨S, h1, h2, h3⟩ := h
  exact (C.short h1 hl n hn).mono fun e w' h => WIn.out h2 h3 h
theorem WIn.long (h : WIn C v l S0 W0 w) (hl : l.length ≤ 1099511500000) (n : Nat) (hn : n ≤ 18446744073709551615) : Calls Tryd.prog 28 #[v, .int .u64 (n : Nat)] w (WInR C v (l ++ Co.wLong n) S0 W0) := by
  obtain ⟨S, h1, h2, h3⟩ := h
  exact (C.long h1 hl n hn).mono fun e w' h => WIn.out h2 h3 h
theorem WIn.bytesD (h : WIn C v l S0 W0 w) (hl : l.length ≤ 1099511500000) (A : Option Addr) (x : List UInt8) (c : Nat) (hr : Rd W0 A x) (hA : 0 < x.length → ∀ b, A.map (·.block) = some b → ¬ S0 b) (hc : x.length ≤ c) (hx : x.length ≤ 1000000) : Calls Tryd.prog 29 #[v, .slice A x.length c] w (WInR C v (l ++ Co.wBytes x) S0 W0) := by
  obtain ⟨S, h1, h2, h3⟩ := h
  refine (C.bytes h1 hl A x c (hr.mod h2 hA) hc hx fun h0 b hb hB => ?_).mono fun e w' h => WIn.out h2 h3 h
  rcases h3 b hB with h4 | h4
  · exact hA h0 b hb h4
  · obtain ⟨b', off, rfl, hlt, _⟩ := hr h0
    simp at hb
    omega
end Op
end Go.Proofs.YtmcbpgbiephllaaDoor

namespace Go.Proofs.YtmcbpgbiephllaaDoor
open Go.RowKit Rc
open _root_.Go.Proofs.YtmcbpgbiephllaaDoor.Op (WIn WInR)
namespace Re
theorem _root_.Go.Proofs.YtmcbpgbiephllaaDoor.Env.blk {w w' : World} (h : Env w) (hb : w'.heap[0]? = w.heap[0]?) : Env w' := fun i hi => by
  have := h i hi
  unfold World.cell? at this ⊢
  rw [show (⟨0, i, none⟩ : Addr).block = 0 from rfl] at this ⊢
  rw [hb]
  exact this
theorem wr64 (n : Nat) (h : n < 4294967296) : wrap64 (n : Int) = (n : Int) := by unfold wrap64; omega
theorem wr64h (n : Nat) (h : n < 4294967296) : wrap64 ((n : Int) / 65536) = ((n / 65536 : Nat) : Int) := by unfold wrap64; omega
def EAns (b : List UInt8) (k : Nat) (w : World) (e : Ending) (w' : World) : Prop := ∃ X c, e = .returned (.tuple #[.slice X b.length c, .int .i64 (k : Nat)]) ∧ b.length ≤ c ∧ Rd w' X b ∧ Below w.heap.size w w'
set_option maxHeartbeats 2000000 in
set_option maxRecDepth 100000 in
theorem re_encode_any (C : WSaid) (hS : SumSaid) (r : Rec) (w : World) (A : Option Addr) (c : Nat) (hc : r.body.length ≤ c) (hr : Rd w A r.body) (hE : Env w) : Calls Tryd.prog 14 #[val r A c] w (EAns (enc r).1 (enc r).2 w) := by
  obtain ⟨k, q, b⟩ := r
  dsimp only at hc hr
  have HRT : Hid (∀ W, Calls Tryd.prog 23 #[.agg #[.int .i64 k, .int .u64 (q : Nat), .slice A b.length c]] W fun e w' => e = .returned (.bool (decide (Right ⟨k, q, b⟩))) ∧ Below W.heap.size W w') := fun W => re_right_any ⟨k, q, b⟩ A c W
  obtain ⟨en, hen⟩ : ∃ x, x = enc ⟨k, q, b⟩ := ⟨_, rfl⟩
  have HNO : Hid (¬ Right ⟨k, q, b⟩ → en = ([], 12)) := fun h => hen.trans (if_neg h)
  have HYES : Hid (Right ⟨k, q, b⟩ → en = (form ⟨k, q, b⟩, 0)) := fun h => hen.trans (if_pos h)
  rw [← hen]
  clear hen
  unfold val
  dsimp only
  obtain ⟨W0, hW0⟩ : ∃ W0, W0 = w.alloc (.cells #[.int .i64 k, .int .u64 (q : Nat), .slice A b.length c] 27) := ⟨_, rfl⟩
  obtain ⟨g, hg⟩ : ∃ g, g = w.heap.size := ⟨_, rfl⟩
  have HB0 : Hid (Blk W0 g 27 [.int .i64 k, .int .u64 (q : Nat), .slice A b.length c]) := by show Blk _ _ _ _; rw [hW0, hg]; exact Blk.new w _ _
  have hbw : Below w.heap.size w W0 := by rw [hW0]; exact below_new w _
  have HBW := Lib.hid hbw
  have HR0 : Hid (Rd W0 A b) := hr.below hbw
  have HE0 : Hid (Env W0) := hE.under hbw hE.pos
  have HC := Lib.hid hc
  have HS := Lib.hid hS
  clear hbw hr hE hc hS
  go_enter Tryd.func14, Tryd.ntmps14
  go_upto_region 1 with (fail)
  rw [← hW0, ← hg]
  clear hW0 hg
  have c0 := HB0.out.cell 0
  have c1 := HB0.out.cell 1
  have c2 := HB0.out.cell 2
  go_wp2_with fail
  refine (HRT.out W0).mono ?_
  rintro e w1 ⟨rfl, hb1⟩
  have HB1 : Hid (Blk w1 g 27 [.int .i64 k, .int .u64 (q : Nat), .slice A b.length c]) := HB0.out.below hb1 HB0.out.lt
  have HBW1 : Hid (Below w.heap.size w w1) := Later.trans HBW.out hb1
  have HR1 : Hid (Rd w1 A b) := HR0.out.below hb1
  have HE1 : Hid (Env w1) := HE0.out.under hb1 HE0.out.pos
  clear hb1 c0 c1 c2 HB0 HBW HR0 HE0 HRT
  by_cases hri : Right ⟨k, q, b⟩
  · rw [decide_eq_true hri]
    have HEN := Lib.hid (HYES.out hri)
    have hl := right_len hri
    dsimp only at hl
    have HL := Lib.hid hl
    have HQ : Hid (q ≤ 18446744073709551615) := by have := hri.2; dsimp only at this; show _ ≤ _; omega
    obtain ⟨j, rfl, hj⟩ : ∃ j : Nat, k = j ∧ j ≤ 9223372036854775807 := by
      have := right_kind hri
      dsimp only at this
      exact ⟨k.toNat, by omega, by omega⟩
    have HJ := Lib.hid hj
    obtain ⟨hd, hhd⟩ : ∃ x, x = head ⟨(j : Nat), q, b⟩ := ⟨_, rfl⟩
    have HF : Hid (form ⟨(j : Nat), q, b⟩ = hd ++ four (Cr.sum hd)) := by show _ = _; rw [hhd]; rfl
    have HH : Hid ((([] ++ Co.wByte j) ++ Co.wLong q) ++ Co.wBytes b = hd) := by show _ = _; rw [hhd]; unfold head; simp
    have HHL : Hid (hd.length = 11 + b.length) := by show _ = _; rw [hhd]; exact head_length (by dsimp only; omega)
    clear hhd hri HYES HNO hl hj
    go_wp2_with fail
    refine (C.new w1).mono ?_
    rintro e w2 ⟨v, S, rfl, hat, hb2, hS⟩
    obtain ⟨a, rfl⟩ := C.ptr hat
    have HW2 : Hid (WIn C (.pointer (some a)) [] S w2 w2) := WIn.start hat
    have HB2 : Hid (Blk w2 g 27 [.int .i64 (j : Nat), .int .u64 (q : Nat), .slice A b.length c]) := HB1.out.below hb2 HB1.out.lt
    have HBW2 : Hid (Below w.heap.size w w2) := Later.trans HBW1.out hb2
    have HR2 : Hid (Rd w2 A b) := HR1.out.below hb2
    have HE2 : Hid (Env w2) := HE1.out.under hb2 HE1.out.pos
    have HS2 : Hid (∀ x, S x → w1.heap.size ≤ x) := hS
    have HLE : Hid (w.heap.size ≤ w1.heap.size) := HBW1.out.size
    have HEP : Hid (0 < w1.heap.size) := HE1.out.pos
    have HG1 : Hid (g < w1.heap.size) := HB1.out.lt
    have HAS : Hid (0 < b.length → ∀ x, A.map (·.block) = some x → ¬ S x) := fun h0 x hx hs => by
      have := HS2.out x hs
      obtain ⟨b', off, rfl, hlt, _⟩ := HR1.out h0
      simp at hx
      omega
    have HKG : Hid (∀ W l, WIn C (.pointer (some a)) l S w2 W → Blk W g 27 [.int .i64 (j : Nat), .int .u64 (q : Nat), .slice A b.length c]) := fun W l h => (h.block g (by have := HB2.out.lt; omega) (fun hs => by have := HS2.out g hs; have := HG1.out; omega)).trans HB2.out
    clear hat hb2 hS HBW1 HB1 HR1 HE1
    have c0 := HB2.out.cell 0
    go_wp2_with fail
    refine (HW2.out.byte (by simp) j HJ.out).mono ?_
    rintro e w3 ⟨⟨x3, rfl⟩, HW3⟩
    clear c0
    have c1 := (HKG.out _ _ HW3.out).cell 1
    go_wp2_with fail
    refine (HW3.out.long (by simp [Co.wByte]) q HQ.out).mono ?_
    rintro e w4 ⟨⟨x4, rfl⟩, HW4⟩
    clear c1
    have c2 := (HKG.out _ _ HW4.out).cell 2
    go_wp2_with fail
    refine (HW4.out.bytesD (by simp [Co.wByte, Co.wLong_length]) A b c HR2.out HAS.out HC.out (by have := HL.out; omega)).mono ?_
    rintro e w5 ⟨⟨x5, rfl⟩, HW5⟩
    have HW5' : Hid (WIn C (.pointer (some a)) hd S w2 w5) := HW5.out.eq HH.out
    clear c2 HW5 HW4 HW3 HW2
    go_wp2_with fail
    obtain ⟨S5, h51, h52, h53⟩ := HW5'.out
    refine (C.done h51).mono ?_
    rintro e w6 ⟨x, rfl, ho, hb6, hx⟩
    obtain ⟨X, cx, rfl, hcx, hrx⟩ := own_form ho
    have HW6 : Hid (WIn C (.pointer (some a)) hd S w2 w6) := HW5'.out.later hb6
    have HE6 : Hid (Env w6) := HE2.out.blk (HW6.out.block _ HE2.out.pos fun hs => by have := HS2.out _ hs; have := HEP.out; omega)
    clear h51 h52 h53 ho hx hb6 HW5'
    go_wp2_with fail
    refine (HS.out w6 hd X cx HE6.out hrx hcx (by have := HHL.out; have := HL.out; omega)).mono ?_
    rintro e w7 ⟨rfl, hb7⟩
    have HW7 : Hid (WIn C (.pointer (some a)) hd S w2 w7) := HW6.out.later hb7
    obtain ⟨sm, hsm⟩ : ∃ s, s = Cr.sum hd := ⟨_, rfl⟩
    have HSM : Hid (sm < 4294967296) := by show _ < _; rw [hsm]; exact sum_lt _
    rw [← hsm] at HF ⊢
    clear hsm hrx hcx hb7 HW6
    go_wp2_with fail
    rw [show wrap64 ((sm : Int) / 65536) = ((sm / 65536 : Nat) : Int) from wr64h sm HSM.out]
    refine (HW7.out.short (by have := HHL.out; have := HL.out; omega) (sm / 65536) (by have := HSM.out; omega)).mono ?_
    rintro e w8 ⟨⟨x8, rfl⟩, HW8⟩
    clear HW7
    go_wp2_with fail
    rw [show wrap64 (sm : Int) = (sm : Int) from wr64 sm HSM.out]
    refine (HW8.out.short (by have := HHL.out; have := HL.out; rw [List.length_append]; simp [Co.wShort]; omega) sm (by have := HSM.out; omega)).mono ?_
    rintro e w9 ⟨⟨x9, rfl⟩, HW9⟩
    have HW9' : Hid (WIn C (.pointer (some a)) en.1 S w2 w9) := HW9.out.eq (by rw [HEN.out]; show _ = form _; rw [HF.out]; unfold four; rw [List.append_assoc])
    clear HW8 HW9
    go_wp2_with fail
    obtain ⟨S9, h91, h92, h93⟩ := HW9'.out
    refine (C.done h91).mono ?_
    rintro e wz ⟨x, rfl, ho, hbz, hx⟩
    obtain ⟨X2, cx2, rfl, hcx2, hrx2⟩ := own_form ho
    have HEND : Hid (EAns en.1 en.2 w (.returned (.tuple #[.slice X2 en.1.length cx2, .int .i64 0])) wz) := by
      have e2 : en.2 = 0 := by rw [HEN.out]
      rw [e2]
      exact ⟨X2, cx2, rfl, hcx2, hrx2, Later.trans (wout_below HBW2.out (fun b hb => by have := HS2.out b hb; have := HLE.out; omega) HW9'.out.mod) hbz⟩
    clear h91 h92 h93 ho hx hbz HW9' hcx2 hrx2
    go_wp2_with fail
    go_ret2
    exact HEND.out
  · rw [decide_eq_false hri]
    have HEN := Lib.hid (HNO.out hri)
    clear hri HYES HNO
    go_wp2_with fail
    go_ret2
    rw [HEN.out]
    exact ⟨none, 0, rfl, Nat.le_refl _, Rd.nil _ _, HBW1.out⟩
end Re
end Go.Proofs.YtmcbpgbiephllaaDoor

namespace Go.Proofs.YtmcbpgbiephllaaDoor
open Go.RowKit Rc
namespace Re
theorem or_hl (hi lo : Nat) (h1 : hi < 65536) (h2 : lo < 65536) : bits .or .u32 ((hi : Int) % 4294967296 * 65536 % 4294967296) ((lo : Int) % 4294967296) = ((hi * 65536 + lo : Nat) : Int) := by
  show IntKind.u32.wrap ((BitVec.ofInt 32 _ ||| BitVec.ofInt 32 _).toNat : Int) = _
  obtain ⟨y, hy⟩ : ∃ y : Nat, y = hi <<< 16 := ⟨_, rfl⟩
  have hy2 : y = hi * 65536 := by rw [hy, Nat.shiftLeft_eq]
  have e1 : (hi : Int) % 4294967296 * 65536 % 4294967296 = (y : Int) := by omega
  have e2 : (lo : Int) % 4294967296 = (lo : Int) := by omega
  have hor : y ||| lo = y + lo := by rw [hy]; exact (Nat.shiftLeft_add_eq_or_of_lt (by omega : lo < 2 ^ 16) _).symm
  rw [e1, e2, BitVec.ofInt_natCast, BitVec.ofInt_natCast, BitVec.toNat_or, BitVec.toNat_ofNat, BitVec.toNat_ofNat, Nat.mod_eq_of_lt (by omega), Nat.mod_eq_of_lt (by omega), hor]
  rw [IntKind.wrap_u32]
  omega
theorem fin10 (s : Co.Rs) (h : s.why = 0 ∨ s.why = 10) : (Co.fin s = 10 ∧ s.why ≠ 0) ∨ (Co.fin s ≠ 10 ∧ s.why = 0) := by
  unfold Co.fin
  rcases h with h | h
  · rw [h]
    by_cases h2 : 0 < s.rem.length <;> simp [h2]
  · rw [h]; simp
def DAns2 (D : Rec × Nat × Nat) (w : World) (e : Ending) (w' : World) : Prop := ∃ X c, e = .returned (.tuple #[val D.1 X c, .int .i64 (D.2.1 : Nat), .int .i64 (D.2.2 : Nat)]) ∧ D.1.body.length ≤ c ∧ Rd w' X D.1.body ∧ Below w.heap.size w w'
def DAns (L : List UInt8) : World → Ending → World → Prop := DAns2 (dec L)
set_option maxHeartbeats 4000000 in
set_option maxRecDepth 100000 in
theorem re_decode_any (hS : SumSaid) (w : World) (A : Option Addr) (L : List UInt8) (cap : Nat) (hr : Rd w A L) (hc : L.length ≤ cap) (hl : L.length ≤ 65550) (hE : Env w) :
    Calls Tryd.prog 15 #[.slice A L.length cap] w (DAns L w) := by
  obtain ⟨k0, s1, h1⟩ : ∃ a s, Co.num 1 ⟨L, 0⟩ = (a, s) := ⟨_, _, rfl⟩
  obtain ⟨q0, s2, h2⟩ : ∃ a s, Co.num 8 s1 = (a, s) := ⟨_, _, rfl⟩
  obtain ⟨b0, s3, h3⟩ : ∃ a s, Co.bytes s2 = (a, s) := ⟨_, _, rfl⟩
  obtain ⟨hi0, s4, h4⟩ : ∃ a s, Co.num 2 s3 = (a, s) := ⟨_, _, rfl⟩
  obtain ⟨lo0, s5, h5⟩ : ∃ a s, Co.num 2 s4 = (a, s) := ⟨_, _, rfl⟩
  have HFI : Hid (fields L = (⟨(k0 : Nat), q0, b0⟩, hi0 * 65536 + lo0, s5)) := by show _ = _; unfold fields; simp only [h1, h2, h3, h4, h5]
  have HW5 : Hid (s5.why = 0 ∨ s5.why = 10) := by have := fields_why L; rw [HFI.out] at this; exact this
  have HHI : Hid (hi0 < 65536) := by have := num_small2 s3; rw [h4] at this; exact this
  have HLO : Hid (lo0 < 65536) := by have := num_small2 s4; rw [h5] at this; exact this
  have HIN : Hid (s5.why = 0 → 15 + b0.length ≤ L.length) := fun h0 => by
    have hv := fields_inv L (by rw [HFI.out]; exact h0)
    rw [HFI.out] at hv
    have := congrArg List.length hv.2.2
    rw [List.length_append, List.length_append, head_length hv.1, four_length] at this
    dsimp only at this
    omega
  obtain ⟨D, hD⟩ : ∃ D, D = dec L := ⟨_, rfl⟩
  have HK : Hid (0 < L.length → ¬ Kd k0 → D = (zero, 0, 12)) := fun ha hb => by rw [hD]; unfold dec; rw [h1]; exact if_pos ⟨ha, hb⟩
  have HND : Hid ((L.length = 0 ∨ Kd k0) → s5.why ≠ 0 → D = (zero, 0, 10)) := fun ha hb => by
    rw [hD]; unfold dec; rw [h1, HFI.out, if_neg (fun h => ha.elim (fun h0 => by have := h.1; omega) h.2)]; exact if_pos hb
  have HSU : Hid ((L.length = 0 ∨ Kd k0) → s5.why = 0 → Cr.sum (L.take (11 + b0.length)) ≠ hi0 * 65536 + lo0 → D = (zero, 0, 14)) := fun ha hb hs => by
    rw [hD]; unfold dec; rw [h1, HFI.out, if_neg (fun h => ha.elim (fun h0 => by have := h.1; omega) h.2), if_neg (by simpa using hb)]; exact if_pos hs
  have HBAD : Hid ((L.length = 0 ∨ Kd k0) → s5.why = 0 → Cr.sum (L.take (11 + b0.length)) = hi0 * 65536 + lo0 → ¬ Right ⟨(k0 : Nat), q0, b0⟩ → D = (zero, 0, 12)) := fun ha hb hs hn => by
    rw [hD]; unfold dec; rw [h1, HFI.out, if_neg (fun h => ha.elim (fun h0 => by have := h.1; omega) h.2), if_neg (by simpa using hb), if_neg (by simpa using hs)]; exact if_pos hn
  have HYES : Hid ((L.length = 0 ∨ Kd k0) → s5.why = 0 → Cr.sum (L.take (11 + b0.length)) = hi0 * 65536 + lo0 → Right ⟨(k0 : Nat), q0, b0⟩ → D = (⟨(k0 : Nat), q0, b0⟩, 15 + b0.length, 0)) := fun ha hb hs hn => by
    rw [hD]; unfold dec; rw [h1, HFI.out, if_neg (fun h => ha.elim (fun h0 => by have := h.1; omega) h.2), if_neg (by simpa using hb), if_neg (by simpa using hs)]; exact if_neg (fun h => h hn)
  unfold DAns
  rw [← hD]
  have H1E := Lib.hid h1
  have H2E := Lib.hid h2
  have H3E := Lib.hid h3
  have H4E := Lib.hid h4
  have H5E := Lib.hid h5
  have HRT : Hid (∀ (X : Option Addr) (c : Nat) W, Calls Tryd.prog 23 #[.agg #[.int .i64 (k0 : Nat), .int .u64 (q0 : Nat), .slice X b0.length c]] W fun e w' => e = .returned (.bool (decide (Right ⟨(k0 : Nat), q0, b0⟩))) ∧ Below W.heap.size W w') := fun X c W => re_right_any ⟨(k0 : Nat), q0, b0⟩ X c W
  clear h1 h2 h3 h4 h5 hD HFI
  obtain ⟨W0, hW0⟩ : ∃ W0, W0 = w.alloc (.cells #[.int .i64 0, .int .u64 0, .slice none 0 0] 27) := ⟨_, rfl⟩
  obtain ⟨g, hg⟩ : ∃ g, g = w.heap.size := ⟨_, rfl⟩
  have HZ0 : Hid (Blk W0 g 27 [.int .i64 0, .int .u64 0, .slice none 0 0]) := by show Blk _ _ _ _; rw [hW0, hg]; exact Blk.new w _ _
  have hbw : Below w.heap.size w W0 := by rw [hW0]; exact below_new w _
  have HBW := Lib.hid hbw
  have HR0 : Hid (Rd W0 A L) := hr.below hbw
  have HE0 : Hid (Env W0) := hE.under hbw hE.pos
  have HC := Lib.hid hc
  have HL := Lib.hid hl
  have HS := Lib.hid hS
  have HGG : Hid (w.heap.size ≤ g) := Nat.le_of_eq hg.symm
  have hmin : min (L.length : Int) 65550 = L.length := by omega
  have HRW := Lib.hid hr
  have HEW := Lib.hid hE
  clear hbw hr hE hS HE0
  go_enter Tryd.func15, Tryd.ntmps15
  go_upto_region 2 with (fail)
  rw [← hW0, ← hg]
  clear hW0 hg hmin hc hl
  go_wp2_with fail
  refine (PAt.new W0 A L cap HR0.out (by have := HL.out; omega)).mono ?_
  rintro e w1 ⟨gR, rfl, P1, hb1⟩
  obtain ⟨lo, hlo⟩ : ∃ lo, lo = W0.heap.size := ⟨_, rfl⟩
  obtain ⟨hi, hhi⟩ : ∃ hi, hi = w1.heap.size := ⟨_, rfl⟩
  rw [← hlo, ← hhi] at P1
  have HGL : Hid (g < lo) := by show _ < _; rw [hlo]; exact HZ0.out.lt
  have HRG := Lib.hid P1.out.rng
  have HZ1 : Hid (Blk w1 g 27 [.int .i64 0, .int .u64 0, .slice none 0 0]) := HZ0.out.below hb1.out HZ0.out.lt
  have HBW1 : Hid (Below w.heap.size w w1) := Later.trans HBW.out hb1.out
  have HI1 : Hid (hi ≤ w1.heap.size) := Nat.le_of_eq hhi
  clear hlo hhi hb1 HZ0 HBW HR0
  go_wp2_with fail
  refine (P1.out.byte H1E.out).mono ?_
  rintro e w2 ⟨rfl, P2, k2⟩
  have HZ2 : Hid (Blk w2 g 27 [.int .i64 0, .int .u64 0, .slice none 0 0]) := (k2.out.block g HZ1.out.lt (fun e => by injection e with e; have := HGL.out; have := HRG.out.1; omega)).trans HZ1.out
  have HBW2 : Hid (Below w.heap.size w w2) := below_keeps HBW1.out k2.out (by have := HGG.out; have := HGL.out; have := HRG.out.1; omega) HBW1.out.size
  have HI2 : Hid (hi ≤ w2.heap.size) := Nat.le_trans HI1.out k2.out.size
  clear k2 P1 HZ1 HBW1 HI1 H1E
  obtain ⟨WA, hWA⟩ : ∃ W, W = w2.alloc (.cells #[.int .i64 (k0 : Nat), .int .u64 0, .slice none 0 0] 27) := ⟨_, rfl⟩
  obtain ⟨gr, hgr⟩ : ∃ x, x = w2.heap.size := ⟨_, rfl⟩
  go_upto_region 4 with (fail)
  rw [← hWA, ← hgr]
  have hbA : Below w2.heap.size w2 WA := by rw [hWA]; exact below_new w2 _
  have HB3 : Hid (Blk WA gr 27 [.int .i64 (k0 : Nat), .int .u64 0, .slice none 0 0]) := by show Blk _ _ _ _; rw [hWA, hgr]; exact Blk.new w2 _ _
  have HGR : Hid (hi ≤ gr) := by show _ ≤ _; rw [hgr]; exact HI2.out
  have P3 : Hid (PAt gR lo hi s1 WA) := P2.out.later hbA HI2.out
  have HZ3 : Hid (Blk WA g 27 [.int .i64 0, .int .u64 0, .slice none 0 0]) := HZ2.out.below hbA HZ2.out.lt
  have HBW3 : Hid (Below w.heap.size w WA) := Later.trans HBW2.out hbA
  have HI3 : Hid (hi ≤ WA.heap.size) := Nat.le_trans HI2.out (Below.size hbA)
  clear hWA hgr hbA P2 HZ2 HBW2 HI2
  have HRET : Hid (∀ (W : World) (m : Nat), Below w.heap.size w W → D = (zero, 0, m) → DAns2 D w (.returned (.tuple #[.agg #[.int .i64 0, .int .u64 0, .slice none 0 0], .int .i64 0, .int .i64 (m : Nat)])) W) := fun W m hb hd => by rw [hd]; exact ⟨none, 0, rfl, Nat.le_refl _, Rd.nil _ _, hb⟩
  obtain ⟨n, hn⟩ : ∃ n, n = L.length := ⟨_, rfl⟩
  rw [← hn] at HK HND HSU HBAD HYES HIN HL HC ⊢
  have HN := Lib.hid hn
  clear hn
  by_cases hn0 : 0 < n
  · by_cases hkd : Kd k0
    · have HOK : Hid (n = 0 ∨ Kd k0) := .inr hkd
      have hdk : decide ((k0 : Int) = 1 ∨ (k0 : Int) = 2) = true := decide_eq_true (by unfold Kd at hkd; omega)
      have c0 := HB3.out.cell 0
      clear HK hkd
      go_wp2_with fail
      refine (isKind_any (k0 : Nat) WA).mono ?_
      rintro e _ ⟨rfl, rfl⟩
      rw [hdk]
      clear hdk c0 hn0
      go_wp2_with fail
      refine (P3.out.long H2E.out).mono ?_
      rintro e w4 ⟨rfl, P4, k4⟩
      have HZ4 : Hid (Blk w4 g 27 [.int .i64 0, .int .u64 0, .slice none 0 0]) := (k4.out.block g HZ3.out.lt (fun e => by injection e with e; have := HGL.out; have := HRG.out.1; omega)).trans HZ3.out
      have HB4 : Hid (Blk w4 gr 27 [.int .i64 (k0 : Nat), .int .u64 0, .slice none 0 0]) := (k4.out.block gr HB3.out.lt (fun e => by injection e with e; have := HGR.out; have := HRG.out.2; omega)).trans HB3.out
      have HBW4 : Hid (Below w.heap.size w w4) := below_keeps HBW3.out k4.out (by have := HGG.out; have := HGL.out; have := HRG.out.1; omega) HBW3.out.size
      have HI4 : Hid (hi ≤ w4.heap.size) := Nat.le_trans HI3.out k4.out.size
      clear k4
      clear P3 HZ3 HB3 HBW3 HI3
      have c1 := HB4.out.cell 1
      have f1 := HB4.out.frozen 1
      obtain ⟨W5, hW5⟩ : ∃ W, W = w4.setCell ⟨gr, 1, none⟩ (.int .u64 (q0 : Nat)) := ⟨_, rfl⟩
      have hk5 : Keeps w4 W5 gr := by rw [hW5]; exact (Keeps.refl w4 gr).setCell 1 _
      have P5 : Hid (PAt gR lo hi s2 W5) := P4.out.poke hk5 (.inr HGR.out) HI4.out
      have HZ5 : Hid (Blk W5 g 27 [.int .i64 0, .int .u64 0, .slice none 0 0]) := (hk5.block g HZ4.out.lt (fun e => by injection e with e; have := HGL.out; have := HRG.out; have := HGR.out; omega)).trans HZ4.out
      have HB5 : Hid (Blk W5 gr 27 [.int .i64 (k0 : Nat), .int .u64 (q0 : Nat), .slice none 0 0]) := by show Blk _ _ _ _; rw [hW5]; exact HB4.out.set_ 1 _
      have HBW5 : Hid (Below w.heap.size w W5) := below_keeps HBW4.out hk5 (by have := HGG.out; have := HGL.out; have := HRG.out; have := HGR.out; omega) HBW4.out.size
      have HI5 : Hid (hi ≤ W5.heap.size) := Nat.le_trans HI4.out hk5.size
      clear hk5
      go_upto_region 7 with (fail)
      rw [← hW5]
      clear hW5 c1 f1
      clear P4 HZ4 HB4 HBW4 HI4
      go_wp2_with fail
      refine (P5.out.bytes H3E.out).mono ?_
      rintro e w6 ⟨X, cx, rfl, HCX, HX6, hxn, P6, k6⟩
      have HZ6 : Hid (Blk w6 g 27 [.int .i64 0, .int .u64 0, .slice none 0 0]) := (k6.out.block g HZ5.out.lt (fun e => by injection e with e; have := HGL.out; have := HRG.out.1; omega)).trans HZ5.out
      have HB6 : Hid (Blk w6 gr 27 [.int .i64 (k0 : Nat), .int .u64 (q0 : Nat), .slice none 0 0]) := (k6.out.block gr HB5.out.lt (fun e => by injection e with e; have := HGR.out; have := HRG.out.2; omega)).trans HB5.out
      have HBW6 : Hid (Below w.heap.size w w6) := below_keeps HBW5.out k6.out (by have := HGG.out; have := HGL.out; have := HRG.out.1; omega) HBW5.out.size
      have HI6 : Hid (hi ≤ w6.heap.size) := Nat.le_trans HI5.out k6.out.size
      have HXN : Hid (∀ b, X.map (·.block) = some b → gr < b) := fun b hb => by have := hxn.out b hb; have := HB5.out.lt; omega
      clear k6 hxn
      clear P5 HZ5 HB5 HBW5 HI5
      have c2 := HB6.out.cell 2
      have f2 := HB6.out.frozen 2
      obtain ⟨W7, hW7⟩ : ∃ W, W = w6.setCell ⟨gr, 2, none⟩ (.slice X b0.length cx) := ⟨_, rfl⟩
      have hk7 : Keeps w6 W7 gr := by rw [hW7]; exact (Keeps.refl w6 gr).setCell 2 _
      have P7 : Hid (PAt gR lo hi s3 W7) := P6.out.poke hk7 (.inr HGR.out) HI6.out
      have HZ7 : Hid (Blk W7 g 27 [.int .i64 0, .int .u64 0, .slice none 0 0]) := (hk7.block g HZ6.out.lt (fun e => by injection e with e; have := HGL.out; have := HRG.out; have := HGR.out; omega)).trans HZ6.out
      have HB7 : Hid (Blk W7 gr 27 [.int .i64 (k0 : Nat), .int .u64 (q0 : Nat), .slice X b0.length cx]) := by show Blk _ _ _ _; rw [hW7]; exact HB6.out.set_ 2 _
      have HBW7 : Hid (Below w.heap.size w W7) := below_keeps HBW6.out hk7 (by have := HGG.out; have := HGL.out; have := HRG.out; have := HGR.out; omega) HBW6.out.size
      have HI7 : Hid (hi ≤ W7.heap.size) := Nat.le_trans HI6.out hk7.size
      have HX7 : Hid (Rd W7 X b0) := HX6.out.keeps hk7 (fun _ e => by have := HXN.out _ e; omega)
      clear hk7
      go_upto_region 8 with (fail)
      rw [← hW7]
      clear hW7 c2 f2
      clear P6 HZ6 HB6 HBW6 HI6 HX6
      go_wp2_with fail
      refine (P7.out.short H4E.out).mono ?_
      rintro e w8 ⟨rfl, P8, k8⟩
      have HZ8 : Hid (Blk w8 g 27 [.int .i64 0, .int .u64 0, .slice none 0 0]) := (k8.out.block g HZ7.out.lt (fun e => by injection e with e; have := HGL.out; have := HRG.out.1; omega)).trans HZ7.out
      have HB8 : Hid (Blk w8 gr 27 [.int .i64 (k0 : Nat), .int .u64 (q0 : Nat), .slice X b0.length cx]) := (k8.out.block gr HB7.out.lt (fun e => by injection e with e; have := HGR.out; have := HRG.out.2; omega)).trans HB7.out
      have HBW8 : Hid (Below w.heap.size w w8) := below_keeps HBW7.out k8.out (by have := HGG.out; have := HGL.out; have := HRG.out.1; omega) HBW7.out.size
      have HI8 : Hid (hi ≤ w8.heap.size) := Nat.le_trans HI7.out k8.out.size
      have HX8 : Hid (Rd w8 X b0) := HX7.out.keeps k8.out (fun _ e => by have := HXN.out _ e; have := HGR.out; have := HRG.out.2; omega)
      clear k8
      clear P7 HZ7 HB7 HBW7 HI7 HX7
      go_wp2_with fail
      refine (P8.out.short H5E.out).mono ?_
      rintro e w9 ⟨rfl, P9, k9⟩
      have HZ9 : Hid (Blk w9 g 27 [.int .i64 0, .int .u64 0, .slice none 0 0]) := (k9.out.block g HZ8.out.lt (fun e => by injection e with e; have := HGL.out; have := HRG.out.1; omega)).trans HZ8.out
      have HB9 : Hid (Blk w9 gr 27 [.int .i64 (k0 : Nat), .int .u64 (q0 : Nat), .slice X b0.length cx]) := (k9.out.block gr HB8.out.lt (fun e => by injection e with e; have := HGR.out; have := HRG.out.2; omega)).trans HB8.out
      have HBW9 : Hid (Below w.heap.size w w9) := below_keeps HBW8.out k9.out (by have := HGG.out; have := HGL.out; have := HRG.out.1; omega) HBW8.out.size
      have HI9 : Hid (hi ≤ w9.heap.size) := Nat.le_trans HI8.out k9.out.size
      have HX9 : Hid (Rd w9 X b0) := HX8.out.keeps k9.out (fun _ e => by have := HXN.out _ e; have := HGR.out; have := HRG.out.2; omega)
      clear k9
      clear P8 HZ8 HB8 HBW8 HI8 HX8
      go_upto_region 9 with (fail)
      rw [or_hl hi0 lo0 HHI.out HLO.out]
      obtain ⟨sm, hsm⟩ : ∃ x, x = hi0 * 65536 + lo0 := ⟨_, rfl⟩
      rw [← hsm] at HSU HBAD HYES ⊢
      clear hsm HHI HLO
      go_wp2_with fail
      obtain ⟨f, hf⟩ : ∃ f, f = Co.fin s5 := ⟨_, rfl⟩
      have hf10 : (f = 10 ∧ s5.why ≠ 0) ∨ (f ≠ 10 ∧ s5.why = 0) := by rw [hf]; exact fin10 s5 HW5.out
      refine (P9.out.fin hf.symm).mono ?_
      rintro e w10 ⟨rfl, hb10⟩
      have P10 : Hid (PAt gR lo hi s5 w10) := P9.out.later hb10.out HI9.out
      have HZ10 : Hid (Blk w10 g 27 [.int .i64 0, .int .u64 0, .slice none 0 0]) := HZ9.out.below hb10.out HZ9.out.lt
      have HB10 : Hid (Blk w10 gr 27 [.int .i64 (k0 : Nat), .int .u64 (q0 : Nat), .slice X b0.length cx]) := HB9.out.below hb10.out HB9.out.lt
      have HBW10 : Hid (Below w.heap.size w w10) := Later.trans HBW9.out hb10.out
      have HI10 : Hid (hi ≤ w10.heap.size) := Nat.le_trans HI9.out (Below.size hb10.out)
      have HX10 : Hid (Rd w10 X b0) := HX9.out.below hb10.out
      clear hb10 hf
      clear P9 HZ9 HB9 HBW9 HI9 HX9
      rcases hf10 with ⟨rfl, hw5⟩ | ⟨hf10, hw5⟩
      · have HD := Lib.hid (HND.out HOK.out hw5)
        clear hw5 HND HSU HBAD HYES
        have r0 := HZ10.out.cell 0
        have f0 := HZ10.out.frozen 0
        have r1 := HZ10.out.cell 1
        have f1 := HZ10.out.frozen 1
        have r2 := HZ10.out.cell 2
        have f2 := HZ10.out.frozen 2
        go_wp2_with fail
        refine bodyPost_ret (results_blk_tmp2 rfl _ _ g 27 _ _ rfl (set3_blk HZ10.out _ _ _) rfl rfl rfl) rfl ?_
        exact HRET.out _ 10 (below_keeps HBW10.out (set3_keeps _ g _ _ _) HGG.out HBW10.out.size) (HD.out)
      · have hf10 : ((f : Nat) : Int) ≠ 10 := by omega
        have HW0 := Lib.hid hw5
        have HLE := Lib.hid (HIN.out hw5)
        clear hw5 HND HIN
        have c2 := HB10.out.cell 2
        have hb0 : (b0.length : Int) ≤ 65550 := by have := HLE.out; have := HL.out; omega
        go_upto_region 12 with (fail)
        have hbn : (11 : Int) + b0.length ≤ n := by have := HLE.out; omega
        have hnc : (n : Int) ≤ cap := by have := HC.out; omega
        go_wp2_with fail
        obtain ⟨y, hy⟩ : ∃ y, y = L.take (11 + b0.length) := ⟨_, rfl⟩
        have hyl : y.length = 11 + b0.length := by have := HLE.out; have := HN.out; rw [hy, List.length_take]; omega
        rw [← hy] at HSU HBAD HYES
        have HYR : Hid (Rd w10 A y) := by show Rd _ _ _; rw [hy]; exact (HRW.out.below HBW10.out).take _
        rw [← hyl]
        have hyc : y.length ≤ cap := by have := HC.out; have := HLE.out; omega
        have hy6 : y.length ≤ 1000000 := by have := HL.out; have := HLE.out; omega
        refine (HS.out w10 y A cap (HEW.out.under HBW10.out HEW.out.pos) HYR.out hyc hy6).mono ?_
        rintro e w11 ⟨rfl, hb11⟩
        have P11 : Hid (PAt gR lo hi s5 w11) := P10.out.later hb11 HI10.out
        have HZ11 : Hid (Blk w11 g 27 [.int .i64 0, .int .u64 0, .slice none 0 0]) := HZ10.out.below hb11 HZ10.out.lt
        have HB11 : Hid (Blk w11 gr 27 [.int .i64 (k0 : Nat), .int .u64 (q0 : Nat), .slice X b0.length cx]) := HB10.out.below hb11 HB10.out.lt
        have HBW11 : Hid (Below w.heap.size w w11) := Later.trans HBW10.out hb11
        have HI11 : Hid (hi ≤ w11.heap.size) := Nat.le_trans HI10.out (Below.size hb11)
        have HX11 : Hid (Rd w11 X b0) := HX10.out.below hb11
        obtain ⟨cs, hcs⟩ : ∃ x, x = Cr.sum y := ⟨_, rfl⟩
        rw [← hcs] at HSU HBAD HYES ⊢
        clear hb11 hcs hy hyl HYR hyc hy6 c2
        clear P10 HZ10 HB10 HBW10 HI10 HX10
        by_cases hcm : cs = sm
        · subst hcm
          have c0 := HB11.out.cell 0
          have c1 := HB11.out.cell 1
          have c2 := HB11.out.cell 2
          clear HSU
          go_wp2_with fail
          refine (HRT.out X cx w11).mono ?_
          rintro e w12 ⟨rfl, hb12⟩
          have P12 : Hid (PAt gR lo hi s5 w12) := P11.out.later hb12 HI11.out
          have HZ12 : Hid (Blk w12 g 27 [.int .i64 0, .int .u64 0, .slice none 0 0]) := HZ11.out.below hb12 HZ11.out.lt
          have HB12 : Hid (Blk w12 gr 27 [.int .i64 (k0 : Nat), .int .u64 (q0 : Nat), .slice X b0.length cx]) := HB11.out.below hb12 HB11.out.lt
          have HBW12 : Hid (Below w.heap.size w w12) := Later.trans HBW11.out hb12
          have HI12 : Hid (hi ≤ w12.heap.size) := Nat.le_trans HI11.out (Below.size hb12)
          have HX12 : Hid (Rd w12 X b0) := HX11.out.below hb12
          clear hb12 c0 c1 c2
          clear P11 HZ11 HB11 HBW11 HI11 HX11
          by_cases hri : Right ⟨(k0 : Nat), q0, b0⟩
          · have HD := Lib.hid (HYES.out HOK.out HW0.out (by first | rfl | trivial) hri)
            rw [decide_eq_true hri]
            clear hri HYES HBAD
            have c0 := HB12.out.cell 0
            have c1 := HB12.out.cell 1
            have c2 := HB12.out.cell 2
            have r0 := HZ12.out.cell 0
            have f0 := HZ12.out.frozen 0
            have r1 := HZ12.out.cell 1
            have f1 := HZ12.out.frozen 1
            have r2 := HZ12.out.cell 2
            have f2 := HZ12.out.frozen 2
            go_wp2_with fail
            refine bodyPost_ret (results_blk_tmp2 rfl _ _ g 27 _ _ rfl (set3_blk HZ12.out _ _ _) rfl rfl rfl) rfl ?_
            rw [HD.out]
            have e15 : (11 : Int) + b0.length + 4 = ((15 + b0.length : Nat) : Int) := by omega
            refine ⟨X, cx, ?_, HCX.out, HX12.out.keeps (set3_keeps _ g _ _ _) (fun _ e => by have := HXN.out _ e; have := HGR.out; have := HRG.out; have := HGL.out; omega), below_keeps HBW12.out (set3_keeps _ g _ _ _) HGG.out HBW12.out.size⟩
            show Ending.returned (.tuple #[.agg #[.int .i64 (k0 : Nat), .int .u64 (q0 : Nat), .slice X b0.length cx], .int .i64 ((11 : Int) + b0.length + 4), .int .i64 0]) = _
            rw [e15]
            rfl
          · have HD := Lib.hid (HBAD.out HOK.out HW0.out (by first | rfl | trivial) hri)
            rw [decide_eq_false hri]
            clear hri HYES HBAD
            have r0 := HZ12.out.cell 0
            have f0 := HZ12.out.frozen 0
            have r1 := HZ12.out.cell 1
            have f1 := HZ12.out.frozen 1
            have r2 := HZ12.out.cell 2
            have f2 := HZ12.out.frozen 2
            go_wp2_with fail
            refine bodyPost_ret (results_blk_tmp2 rfl _ _ g 27 _ _ rfl (set3_blk HZ12.out _ _ _) rfl rfl rfl) rfl ?_
            exact HRET.out _ 12 (below_keeps HBW12.out (set3_keeps _ g _ _ _) HGG.out HBW12.out.size) (HD.out)
        · have HD := Lib.hid (HSU.out HOK.out HW0.out hcm)
          have hcm : (cs : Int) ≠ (sm : Int) := by omega
          clear HSU HBAD HYES
          have r0 := HZ11.out.cell 0
          have f0 := HZ11.out.frozen 0
          have r1 := HZ11.out.cell 1
          have f1 := HZ11.out.frozen 1
          have r2 := HZ11.out.cell 2
          have f2 := HZ11.out.frozen 2
          go_wp2_with fail
          refine bodyPost_ret (results_blk_tmp2 rfl _ _ g 27 _ _ rfl (set3_blk HZ11.out _ _ _) rfl rfl rfl) rfl ?_
          exact HRET.out _ 14 (below_keeps HBW11.out (set3_keeps _ g _ _ _) HGG.out HBW11.out.size) (HD.out)
    · have HD := Lib.hid (HK.out hn0 hkd)
      have hdk : decide ((k0 : Int) = 1 ∨ (k0 : Int) = 2) = false := decide_eq_false (by unfold Kd at hkd; omega)
      have c0 := HB3.out.cell 0
      clear HK hkd HND HSU HBAD HYES
      go_wp2_with fail
      refine (isKind_any (k0 : Nat) WA).mono ?_
      rintro e _ ⟨rfl, rfl⟩
      rw [hdk]
      clear hdk c0 hn0
      have r0 := HZ3.out.cell 0
      have f0 := HZ3.out.frozen 0
      have r1 := HZ3.out.cell 1
      have f1 := HZ3.out.frozen 1
      have r2 := HZ3.out.cell 2
      have f2 := HZ3.out.frozen 2
      go_wp2_with fail
      refine bodyPost_ret (results_blk_tmp2 rfl _ _ g 27 _ _ rfl (set3_blk HZ3.out _ _ _) rfl rfl rfl) rfl ?_
      exact HRET.out _ 12 (below_keeps HBW3.out (set3_keeps _ g _ _ _) HGG.out HBW3.out.size) (HD.out)
  · obtain rfl : n = 0 := by omega
    have HOK : Hid (0 = 0 ∨ Kd k0) := .inl rfl
    clear HK hn0
    go_wp2_with fail
    refine (P3.out.long H2E.out).mono ?_
    rintro e w4 ⟨rfl, P4, k4⟩
    have HZ4 : Hid (Blk w4 g 27 [.int .i64 0, .int .u64 0, .slice none 0 0]) := (k4.out.block g HZ3.out.lt (fun e => by injection e with e; have := HGL.out; have := HRG.out.1; omega)).trans HZ3.out
    have HB4 : Hid (Blk w4 gr 27 [.int .i64 (k0 : Nat), .int .u64 0, .slice none 0 0]) := (k4.out.block gr HB3.out.lt (fun e => by injection e with e; have := HGR.out; have := HRG.out.2; omega)).trans HB3.out
    have HBW4 : Hid (Below w.heap.size w w4) := below_keeps HBW3.out k4.out (by have := HGG.out; have := HGL.out; have := HRG.out.1; omega) HBW3.out.size
    have HI4 : Hid (hi ≤ w4.heap.size) := Nat.le_trans HI3.out k4.out.size
    clear k4
    clear P3 HZ3 HB3 HBW3 HI3
    have c1 := HB4.out.cell 1
    have f1 := HB4.out.frozen 1
    obtain ⟨W5, hW5⟩ : ∃ W, W = w4.setCell ⟨gr, 1, none⟩ (.int .u64 (q0 : Nat)) := ⟨_, rfl⟩
    have hk5 : Keeps w4 W5 gr := by rw [hW5]; exact (Keeps.refl w4 gr).setCell 1 _
    have P5 : Hid (PAt gR lo hi s2 W5) := P4.out.poke hk5 (.inr HGR.out) HI4.out
    have HZ5 : Hid (Blk W5 g 27 [.int .i64 0, .int .u64 0, .slice none 0 0]) := (hk5.block g HZ4.out.lt (fun e => by injection e with e; have := HGL.out; have := HRG.out; have := HGR.out; omega)).trans HZ4.out
    have HB5 : Hid (Blk W5 gr 27 [.int .i64 (k0 : Nat), .int .u64 (q0 : Nat), .slice none 0 0]) := by show Blk _ _ _ _; rw [hW5]; exact HB4.out.set_ 1 _
    have HBW5 : Hid (Below w.heap.size w W5) := below_keeps HBW4.out hk5 (by have := HGG.out; have := HGL.out; have := HRG.out; have := HGR.out; omega) HBW4.out.size
    have HI5 : Hid (hi ≤ W5.heap.size) := Nat.le_trans HI4.out hk5.size
    clear hk5
    go_upto_region 7 with (fail)
    rw [← hW5]
    clear hW5 c1 f1
    clear P4 HZ4 HB4 HBW4 HI4
    go_wp2_with fail
    refine (P5.out.bytes H3E.out).mono ?_
    rintro e w6 ⟨X, cx, rfl, HCX, HX6, hxn, P6, k6⟩
    have HZ6 : Hid (Blk w6 g 27 [.int .i64 0, .int .u64 0, .slice none 0 0]) := (k6.out.block g HZ5.out.lt (fun e => by injection e with e; have := HGL.out; have := HRG.out.1; omega)).trans HZ5.out
    have HB6 : Hid (Blk w6 gr 27 [.int .i64 (k0 : Nat), .int .u64 (q0 : Nat), .slice none 0 0]) := (k6.out.block gr HB5.out.lt (fun e => by injection e with e; have := HGR.out; have := HRG.out.2; omega)).trans HB5.out
    have HBW6 : Hid (Below w.heap.size w w6) := below_keeps HBW5.out k6.out (by have := HGG.out; have := HGL.out; have := HRG.out.1; omega) HBW5.out.size
    have HI6 : Hid (hi ≤ w6.heap.size) := Nat.le_trans HI5.out k6.out.size
    have HXN : Hid (∀ b, X.map (·.block) = some b → gr < b) := fun b hb => by have := hxn.out b hb; have := HB5.out.lt; omega
    clear k6 hxn
    clear P5 HZ5 HB5 HBW5 HI5
    have c2 := HB6.out.cell 2
    have f2 := HB6.out.frozen 2
    obtain ⟨W7, hW7⟩ : ∃ W, W = w6.setCell ⟨gr, 2, none⟩ (.slice X b0.length cx) := ⟨_, rfl⟩
    have hk7 : Keeps w6 W7 gr := by rw [hW7]; exact (Keeps.refl w6 gr).setCell 2 _
    have P7 : Hid (PAt gR lo hi s3 W7) := P6.out.poke hk7 (.inr HGR.out) HI6.out
    have HZ7 : Hid (Blk W7 g 27 [.int .i64 0, .int .u64 0, .slice none 0 0]) := (hk7.block g HZ6.out.lt (fun e => by injection e with e; have := HGL.out; have := HRG.out; have := HGR.out; omega)).trans HZ6.out
    have HB7 : Hid (Blk W7 gr 27 [.int .i64 (k0 : Nat), .int .u64 (q0 : Nat), .slice X b0.length cx]) := by show Blk _ _ _ _; rw [hW7]; exact HB6.out.set_ 2 _
    have HBW7 : Hid (Below w.heap.size w W7) := below_keeps HBW6.out hk7 (by have := HGG.out; have := HGL.out; have := HRG.out; have := HGR.out; omega) HBW6.out.size
    have HI7 : Hid (hi ≤ W7.heap.size) := Nat.le_trans HI6.out hk7.size
    have HX7 : Hid (Rd W7 X b0) := HX6.out.keeps hk7 (fun _ e => by have := HXN.out _ e; omega)
    clear hk7
    go_upto_region 8 with (fail)
    rw [← hW7]
    clear hW7 c2 f2
    clear P6 HZ6 HB6 HBW6 HI6 HX6
    go_wp2_with fail
    refine (P7.out.short H4E.out).mono ?_
    rintro e w8 ⟨rfl, P8, k8⟩
    have HZ8 : Hid (Blk w8 g 27 [.int .i64 0, .int .u64 0, .slice none 0 0]) := (k8.out.block g HZ7.out.lt (fun e => by injection e with e; have := HGL.out; have := HRG.out.1; omega)).trans HZ7.out
    have HB8 : Hid (Blk w8 gr 27 [.int .i64 (k0 : Nat), .int .u64 (q0 : Nat), .slice X b0.length cx]) := (k8.out.block gr HB7.out.lt (fun e => by injection e with e; have := HGR.out; have := HRG.out.2; omega)).trans HB7.out
    have HBW8 : Hid (Below w.heap.size w w8) := below_keeps HBW7.out k8.out (by have := HGG.out; have := HGL.out; have := HRG.out.1; omega) HBW7.out.size
    have HI8 : Hid (hi ≤ w8.heap.size) := Nat.le_trans HI7.out k8.out.size
    have HX8 : Hid (Rd w8 X b0) := HX7.out.keeps k8.out (fun _ e => by have := HXN.out _ e; have := HGR.out; have := HRG.out.2; omega)
    clear k8
    clear P7 HZ7 HB7 HBW7 HI7 HX7
    go_wp2_with fail
    refine (P8.out.short H5E.out).mono ?_
    rintro e w9 ⟨rfl, P9, k9⟩
    have HZ9 : Hid (Blk w9 g 27 [.int .i64 0, .int .u64 0, .slice none 0 0]) := (k9.out.block g HZ8.out.lt (fun e => by injection e with e; have := HGL.out; have := HRG.out.1; omega)).trans HZ8.out
    have HB9 : Hid (Blk w9 gr 27 [.int .i64 (k0 : Nat), .int .u64 (q0 : Nat), .slice X b0.length cx]) := (k9.out.block gr HB8.out.lt (fun e => by injection e with e; have := HGR.out; have := HRG.out.2; omega)).trans HB8.out
    have HBW9 : Hid (Below w.heap.size w w9) := below_keeps HBW8.out k9.out (by have := HGG.out; have := HGL.out; have := HRG.out.1; omega) HBW8.out.size
    have HI9 : Hid (hi ≤ w9.heap.size) := Nat.le_trans HI8.out k9.out.size
    have HX9 : Hid (Rd w9 X b0) := HX8.out.keeps k9.out (fun _ e => by have := HXN.out _ e; have := HGR.out; have := HRG.out.2; omega)
    clear k9
    clear P8 HZ8 HB8 HBW8 HI8 HX8
    go_upto_region 9 with (fail)
    rw [or_hl hi0 lo0 HHI.out HLO.out]
    obtain ⟨sm, hsm⟩ : ∃ x, x = hi0 * 65536 + lo0 := ⟨_, rfl⟩
    rw [← hsm] at HSU HBAD HYES ⊢
    clear hsm HHI HLO
    go_wp2_with fail
    obtain ⟨f, hf⟩ : ∃ f, f = Co.fin s5 := ⟨_, rfl⟩
    have hf10 : (f = 10 ∧ s5.why ≠ 0) ∨ (f ≠ 10 ∧ s5.why = 0) := by rw [hf]; exact fin10 s5 HW5.out
    refine (P9.out.fin hf.symm).mono ?_
    rintro e w10 ⟨rfl, hb10⟩
    have P10 : Hid (PAt gR lo hi s5 w10) := P9.out.later hb10.out HI9.out
    have HZ10 : Hid (Blk w10 g 27 [.int .i64 0, .int .u64 0, .slice none 0 0]) := HZ9.out.below hb10.out HZ9.out.lt
    have HB10 : Hid (Blk w10 gr 27 [.int .i64 (k0 : Nat), .int .u64 (q0 : Nat), .slice X b0.length cx]) := HB9.out.below hb10.out HB9.out.lt
    have HBW10 : Hid (Below w.heap.size w w10) := Later.trans HBW9.out hb10.out
    have HI10 : Hid (hi ≤ w10.heap.size) := Nat.le_trans HI9.out (Below.size hb10.out)
    have HX10 : Hid (Rd w10 X b0) := HX9.out.below hb10.out
    clear hb10 hf
    clear P9 HZ9 HB9 HBW9 HI9 HX9
    rcases hf10 with ⟨rfl, hw5⟩ | ⟨hf10, hw5⟩
    · have HD := Lib.hid (HND.out HOK.out hw5)
      clear hw5 HND HSU HBAD HYES
      have r0 := HZ10.out.cell 0
      have f0 := HZ10.out.frozen 0
      have r1 := HZ10.out.cell 1
      have f1 := HZ10.out.frozen 1
      have r2 := HZ10.out.cell 2
      have f2 := HZ10.out.frozen 2
      go_wp2_with fail
      refine bodyPost_ret (results_blk_tmp2 rfl _ _ g 27 _ _ rfl (set3_blk HZ10.out _ _ _) rfl rfl rfl) rfl ?_
      exact HRET.out _ 10 (below_keeps HBW10.out (set3_keeps _ g _ _ _) HGG.out HBW10.out.size) (HD.out)
    · exact absurd (HIN.out hw5) (by omega)
end Re
end Go.Proofs.YtmcbpgbiephllaaDoor

namespace Go.Proofs.YtmcbpgbiephllaaDoor
open Go.RowKit Rc
namespace Re
end Re
end Go.Proofs.YtmcbpgbiephllaaDoor

namespace Go.Proofs.YtmcbpgbiephllaaDoor
open Go.RowKit Rc
namespace Re
theorem dec_nil : dec [] = (zero, 0, 10) := by kernel_rfl
set_option maxHeartbeats 2000000 in
set_option maxRecDepth 100000 in
theorem re_known_any (hS : SumSaid) (w : World) (hE : Env w) : Calls Tryd.prog 11 #[] w fun e w' => e = .returned (.bool true) ∧ Below w.heap.size w w' := by
  have HD := Lib.hid (re_decode_any hS w none [] 0 (Rd.nil _ _) (Nat.le_refl _) (by simp) hE)
  unfold DAns at HD
  rw [dec_nil] at HD
  have HSZ : Hid (∀ W, Calls Tryd.prog 16 #[.agg #[.int .i64 2, .int .u64 1, .slice none 0 0]] W fun e w' => e = .returned (.int .i64 (15 : Nat)) ∧ Below W.heap.size W w') := fun W => re_size_any ⟨2, 1, []⟩ none 0 W
  clear hS hE
  go_enter Tryd.func11, Tryd.ntmps11
  go_wp2_with fail
  refine HD.out.mono ?_
  rintro e w1 ⟨X, c, rfl, _, _, hb1⟩
  have HB1 := Lib.hid hb1
  clear hb1 HD
  unfold val zero
  dsimp only
  go_wp2_with fail
  refine (HSZ.out _).mono ?_
  rintro e w3 ⟨rfl, hb3⟩
  have HB3 : Hid (Below w.heap.size w w3) := Later.trans (Later.trans HB1.out (below_new _ _)) hb3
  clear hb3 HB1 HSZ
  go_wp2_with fail
  go_ret
  exact ⟨rfl, HB3.out⟩
end Re
end Go.Proofs.YtmcbpgbiephllaaDoor

namespace Go.Proofs.YtmcbpgbiephllaaDoor
open Go.RowKit Rc
namespace Re
set_option maxHeartbeats 8000000 in
set_option maxRecDepth 100000 in
theorem sizes_any (C : WSaid) (hS : SumSaid) (w : World) (r : Rec) (A : Option Addr) (c : Nat) (ok : RecOk w r A c) (l : List UInt8) (A1 : Option Addr) (c1 : Nat) (hr1 : Rd w A1 l) (hc1 : l.length ≤ c1) (hl1 : l.length ≤ 9223372036854775807) (n : Int) (hn : -9223372036854775808 ≤ n ∧ n ≤ 9223372036854775807) (hE : Env w) :
    Calls Tryd.prog 6 #[val r A c, .slice A1 l.length c1, .int .i64 n] w fun e w' => e = .returned (.bool true) ∧ Below w.heap.size w w' := by
  obtain ⟨k, q, b0⟩ := r
  obtain ⟨_, _, hq, hfit, hlen, hrd⟩ := ok
  dsimp only at hq hfit hlen hrd
  obtain ⟨b, hb⟩ : ∃ b, b = b0.take 200 := ⟨_, rfl⟩
  obtain ⟨q1, hq1⟩ : ∃ x, x = q % 1099511627777 := ⟨_, rfl⟩
  have hbl : b.length ≤ 200 := by rw [hb]; exact List.length_take_le _ _
  have hbc : b.length ≤ c := by rw [hb, List.length_take]; omega
  have hrb : Rd w A b := by rw [hb]; exact hrd.take 200
  have hri : Right ⟨1, q1, b⟩ := ⟨.inl ⟨rfl, by show b.length ≤ 900; omega⟩, by show q1 ≤ _; omega⟩
  have HCUT : Hid (∀ W, Calls Tryd.prog 12 #[.slice A b0.length c, .int .i64 200] W fun e w' => e = .returned (.slice A b.length c) ∧ W = w') := fun W => by rw [hb]; exact cut_any A b0 c 200 hfit (by omega) hlen W
  have HQ1 : Hid ((q : Int) % 1099511627777 = (q1 : Int)) := by show _ = _; rw [hq1]; omega
  have HENC : Hid (∀ W, Below w.heap.size w W → Calls Tryd.prog 14 #[.agg #[.int .i64 1, .int .u64 (q1 : Nat), .slice A b.length c]] W (EAns (form ⟨1, q1, b⟩) 0 W)) := fun W hb9 => by
    have := re_encode_any C hS ⟨1, q1, b⟩ W A c hbc (hrb.below hb9) (hE.under hb9 hE.pos)
    unfold enc at this
    rw [if_pos hri] at this
    exact this
  have HKN : Hid (∀ W, Below w.heap.size w W → Calls Tryd.prog 11 #[] W fun e w' => e = .returned (.bool true) ∧ Below W.heap.size W w') := fun W hb9 => re_known_any hS W (hE.under hb9 hE.pos)
  obtain ⟨fo, hfo⟩ : ∃ x, x = form ⟨1, q1, b⟩ := ⟨_, rfl⟩
  have hfl : fo.length = 15 + b.length := by rw [hfo]; exact form_length (by show b.length ≤ _; omega)
  have HFL : Hid ((fo.length : Int) = 15 + (b.length : Int)) := by show _ = _; omega
  have HSZ : Hid (∀ W, Calls Tryd.prog 16 #[.agg #[.int .i64 1, .int .u64 (q1 : Nat), .slice A b.length c]] W fun e w' => e = .returned (.int .i64 (fo.length : Nat)) ∧ Below W.heap.size W w') := fun W => by
    rw [hfl]
    have := re_size_any ⟨1, q1, b⟩ A c W
    unfold size at this
    rw [if_pos hri] at this
    exact this
  have HMORE : Hid (∀ m, dec (fo ++ m) = (⟨1, q1, b⟩, 15 + b.length, 0)) := fun m => by rw [hfo]; exact dec_form _ hri m
  have HLESS : Hid (∀ j, j < 15 + b.length → dec (fo.take j) = (zero, 0, 10)) := fun j hj => by rw [hfo]; exact dec_cut _ hri j hj
  have HDEC : Hid (∀ W (X : Option Addr) (L : List UInt8) (cap : Nat), Below w.heap.size w W → Rd W X L → L.length ≤ cap → L.length ≤ 65550 → Calls Tryd.prog 15 #[.slice X L.length cap] W (DAns L W)) := fun W X L cap h1 h2 h3 h4 => re_decode_any hS W X L cap h2 h3 h4 (hE.under h1 hE.pos)
  rw [← hfo] at HENC
  have HBL : Hid (b.length ≤ 200 ∧ b.length ≤ c) := ⟨hbl, hbc⟩
  have HRB := Lib.hid hrb
  have HCUT1 : Hid (∀ W, Calls Tryd.prog 12 #[.slice A1 l.length c1, .int .i64 50] W fun e w' => e = .returned (.slice A1 (l.take 50).length c1) ∧ W = w') := fun W => cut_any A1 l c1 50 hc1 (by omega) hl1 W
  obtain ⟨m, hm⟩ : ∃ m, m = l.take 50 := ⟨_, rfl⟩
  have HRM : Hid (Rd w A1 m) := by show Rd _ _ _; rw [hm]; exact hr1.take 50
  have HML : Hid (m.length ≤ 50) := by show _ ≤ _; rw [hm]; exact List.length_take_le _ _
  rw [← hm] at HCUT1
  have HN := Lib.hid hn
  clear hq hfit hlen hrd hbl hbc hrb hri hS hE hfo hfl hb hq1 hm hr1 hc1 hl1 hn
  unfold val
  dsimp only
  obtain ⟨W0, hW0⟩ : ∃ W0, W0 = w.alloc (.cells #[.int .i64 k, .int .u64 (q : Nat), .slice A b0.length c] 27) := ⟨_, rfl⟩
  obtain ⟨g, hg⟩ : ∃ g, g = w.heap.size := ⟨_, rfl⟩
  have HB0 : Hid (Blk W0 g 27 [.int .i64 k, .int .u64 (q : Nat), .slice A b0.length c]) := by show Blk _ _ _ _; rw [hW0, hg]; exact Blk.new w _ _
  have HBW : Hid (Below w.heap.size w W0) := by show Below _ _ _; rw [hW0]; exact below_new w _
  have HGG : Hid (w.heap.size ≤ g) := Nat.le_of_eq hg.symm
  go_enter Tryd.func6, Tryd.ntmps6
  go_upto_region 1 with (fail)
  rw [← hW0, ← hg]
  clear hW0 hg
  have a0 := HB0.out.cell 0
  have a1 := HB0.out.cell 1
  have a2 := HB0.out.cell 2
  have f0 := HB0.out.frozen 0
  have f1 := HB0.out.frozen 1
  have f2 := HB0.out.frozen 2
  go_wp2_with fail
  refine (HCUT.out W0).mono ?_
  rintro e _ ⟨rfl, rfl⟩
  go_upto_region 4 with (fail)
  rw [HQ1.out]
  obtain ⟨W3, hW3⟩ : ∃ W, W = ((W0.setCell ⟨g, 2, none⟩ (.slice A b.length c)).setCell ⟨g, 0, none⟩ (.int .i64 1)).setCell ⟨g, 1, none⟩ (.int .u64 (q1 : Nat)) := ⟨_, rfl⟩
  have hk3 : Keeps W0 W3 g := by rw [hW3]; exact (((Keeps.refl W0 g).setCell 2 _).setCell 0 _).setCell 1 _
  have HB3 : Hid (Blk W3 g 27 [.int .i64 1, .int .u64 (q1 : Nat), .slice A b.length c]) := by show Blk _ _ _ _; rw [hW3]; exact ((HB0.out.set_ 2 _).set_ 0 _).set_ 1 _
  have HBW3 : Hid (Below w.heap.size w W3) := below_keeps HBW.out hk3 HGG.out HBW.out.size
  rw [← hW3]
  clear hW3 hk3 a0 a1 a2 f0 f1 f2 HB0 HBW HCUT HQ1
  have a0 := HB3.out.cell 0
  have a1 := HB3.out.cell 1
  have a2 := HB3.out.cell 2
  go_wp2_with fail
  refine (HENC.out W3 HBW3.out).mono ?_
  rintro e w4 ⟨X, cx, rfl, hcx, hx4, hb4⟩
  have HB4 : Hid (Blk w4 g 27 [.int .i64 1, .int .u64 (q1 : Nat), .slice A b.length c]) := HB3.out.below hb4 HB3.out.lt
  have HBW4 : Hid (Below w.heap.size w w4) := Later.trans HBW3.out hb4
  have HX4 : Hid (Rd w4 X fo) := hx4
  have HCX : Hid (fo.length ≤ cx) := hcx
  clear hb4 hx4 hcx a0 a1 a2 HB3 HBW3 HENC
  have a0 := HB4.out.cell 0
  have a1 := HB4.out.cell 1
  have a2 := HB4.out.cell 2
  have hfi : ((fo.length : Int) != 15 + (b.length : Int)) = false := by rw [HFL.out]; simp
  have hbb : (b.length : Int) ≤ 200 := by have := HBL.out.1; omega
  go_wp2_with fail
  refine (HSZ.out w4).mono ?_
  rintro e w5 ⟨rfl, hb5⟩
  have HB5 : Hid (Blk w5 g 27 [.int .i64 1, .int .u64 (q1 : Nat), .slice A b.length c]) := HB4.out.below hb5 HB4.out.lt
  have HBW5 : Hid (Below w.heap.size w w5) := Later.trans HBW4.out hb5
  have HX5 : Hid (Rd w5 X fo) := HX4.out.below hb5
  clear hb5 a0 a1 a2 HB4 HBW4 HX4 HSZ
  obtain ⟨i0, hi, hz0, hz1, hz2⟩ := info_parts Tryd.infoU8
  have HI0 := Lib.hid hi
  have HZ0 := Lib.hid hz0
  have HZ1 := Lib.hid hz1
  have HZ2 := Lib.hid hz2
  have H0 : Hid (MAt w5.heap.size (.slice (some ⟨w5.heap.size, 0, none⟩) 0 0) [] w5 (w5.alloc (.cells #[] 5))) := MAt.empty w5
  have HXA : Hid (Rd (w5.alloc (.cells #[] 5)) X fo) := HX5.out.below (below_new w5 _)
  clear hi hz0 hz1 hz2
  go_upto_region 7 with (fail)
  clear hfi hbb
  go_wp2_with (at_builtin; refine wpList_append_rd rfl (.tmp 48) (.tmp 49) 25 rfl w5.heap.size 5 i0 Tryd.underlying25 HI0.out HZ0.out HZ1.out HZ2.out _ 0 [] rfl H0.out.1 X fo fo.length cx rfl rfl HXA.out (by have := HFL.out; have := HBL.out; omega) (by rw [World.size_alloc]; omega) ?_; intro v1 w6 HO1 HG1; have H1 : Hid (MAt w5.heap.size v1 fo w5 w6) := H0.out.push (Below.refl _ _) HO1.out HG1.out)
  clear HO1 HG1 H0 HXA
  refine (HCUT1.out w6).mono ?_
  rintro e _ ⟨rfl, rfl⟩
  have HM6 : Hid (Rd w6 A1 m) := HRM.out.below (Later.trans HBW5.out H1.out.2.1)
  go_wp2_with (at_builtin; refine wpList_append_rd rfl (.tmp 50) (.tmp 52) 25 rfl w5.heap.size 5 i0 Tryd.underlying25 HI0.out HZ0.out HZ1.out HZ2.out v1 fo.length (Lib.byteCells fo) rfl H1.out.1 A1 m m.length c1 rfl rfl HM6.out (by have := HFL.out; have := HBL.out; have := HML.out; omega) H1.out.2.1.size ?_; intro v2 w7 HO2 HG2; have H2 : Hid (MAt w5.heap.size v2 (fo ++ m) w5 w7) := H1.out.push (Below.refl _ _) HO2.out HG2.out)
  clear HO2 HG2 HM6
  have HBW7 : Hid (Below w.heap.size w w7) := Later.trans HBW5.out H2.out.2.1
  have HX7 : Hid (Rd w7 X fo) := HX5.out.below H2.out.2.1
  have HB7 : Hid (Blk w7 g 27 [.int .i64 1, .int .u64 (q1 : Nat), .slice A b.length c]) := HB5.out.below H2.out.2.1 HB5.out.lt
  obtain ⟨Y, cy, rfl, hcy, hry⟩ := own_form H2.out.1
  have HD7 := Lib.hid (HDEC.out w7 Y (fo ++ m) cy HBW7.out hry hcy (by rw [List.length_append]; have := HFL.out; have := HBL.out; have := HML.out; omega))
  unfold DAns at HD7
  rw [HMORE.out m] at HD7
  clear hcy hry H1 H2 HBW5 HX5 HB5
  refine HD7.out.mono ?_
  rintro e w8 ⟨Z, cz, rfl, _, hz8, hb8⟩
  dsimp only at hz8 ⊢
  unfold val
  dsimp only
  obtain ⟨W9, hW9⟩ : ∃ W, W = w8.alloc (.cells #[.int .i64 1, .int .u64 (q1 : Nat), .slice Z b.length cz] 27) := ⟨_, rfl⟩
  obtain ⟨g9, hg9⟩ : ∃ g, g = w8.heap.size := ⟨_, rfl⟩
  have hbw9 : Below w8.heap.size w8 W9 := by rw [hW9]; exact below_new w8 _
  have HB9 : Hid (Blk W9 g 27 [.int .i64 1, .int .u64 (q1 : Nat), .slice A b.length c]) := by
    have h1 := HB7.out.below hb8 HB7.out.lt
    exact h1.below hbw9 h1.lt
  have HG9 : Hid (Blk W9 g9 27 [.int .i64 1, .int .u64 (q1 : Nat), .slice Z b.length cz]) := by show Blk _ _ _ _; rw [hW9, hg9]; exact Blk.new w8 _ _
  have HBW9 : Hid (Below w.heap.size w W9) := Later.trans (Later.trans HBW7.out hb8) hbw9
  have HX9 : Hid (Rd W9 X fo) := (HX7.out.below hb8).below hbw9
  have HZ9 : Hid (Rd W9 Z b) := hz8.below hbw9
  go_upto_region 8 with (fail)
  rw [← hW9, ← hg9]
  clear hW9 hg9 hbw9 hb8 hz8 HB7 HX7 HBW7 HD7 HCUT1 HMORE HRM HML
  have hfi : ((fo.length : Nat) : Int) ≤ 215 := by have := HFL.out; have := HBL.out.1; omega
  have hfo : (15 : Int) ≤ ((fo.length : Nat) : Int) := by have := HFL.out; omega
  go_wp2_with fail
  refine (within_nat n 0 _ 0 (fo.length - 1) W9 rfl (by omega) (by omega) (by omega) HN.out.1 HN.out.2).mono ?_
  rintro e _ ⟨j, _, hj, rfl, rfl⟩
  have hjc : ((j : Nat) : Int) ≤ (cx : Int) := by have := HCX.out; omega
  have hj0 : (0 : Int) ≤ ((j : Nat) : Int) := by omega
  have HJ : Hid (j < 15 + b.length) := by have := HFL.out; show _ < _; omega
  go_wp2_with fail
  clear hjc hj0 hfi hfo
  obtain ⟨y, hy⟩ : ∃ y, y = fo.take j := ⟨_, rfl⟩
  have hyl : y.length = j := by have := HFL.out; have := HJ.out; rw [hy, List.length_take]; omega
  have HDL := HLESS.out j HJ.out
  rw [← hy] at HDL
  have HD9 := Lib.hid (HDEC.out W9 X y cx HBW9.out (by rw [hy]; exact HX9.out.take j) (by have := HCX.out; have := HFL.out; have := HJ.out; omega) (by have := HBL.out; have := HJ.out; omega))
  unfold DAns at HD9
  rw [HDL, hyl] at HD9
  clear hy hyl HDL hj HJ
  refine HD9.out.mono ?_
  rintro e w10 ⟨Z2, cz2, rfl, _, _, hb10⟩
  unfold val zero
  dsimp only
  obtain ⟨WE, hWE⟩ : ∃ W, W = w10.alloc (.cells #[.int .i64 0, .int .u64 0, .slice Z2 0 cz2] 27) := ⟨_, rfl⟩
  obtain ⟨g12, hg12⟩ : ∃ g, g = w10.heap.size := ⟨_, rfl⟩
  have hbE : Below W9.heap.size W9 WE := Later.trans hb10 (by rw [hWE]; exact below_new w10 _)
  have HBE : Hid (Blk WE g 27 [.int .i64 1, .int .u64 (q1 : Nat), .slice A b.length c]) := HB9.out.below hbE HB9.out.lt
  have HGE : Hid (Blk WE g9 27 [.int .i64 1, .int .u64 (q1 : Nat), .slice Z b.length cz]) := HG9.out.below hbE HG9.out.lt
  have HHE : Hid (Blk WE g12 27 [.int .i64 0, .int .u64 0, .slice Z2 0 cz2]) := by show Blk _ _ _ _; rw [hWE, hg12]; exact Blk.new w10 _ _
  have HBWE : Hid (Below w.heap.size w WE) := Later.trans HBW9.out hbE
  have HZE : Hid (Rd WE Z b) := HZ9.out.below hbE
  have HAE : Hid (Rd WE A b) := HRB.out.below HBWE.out
  go_upto_region 9 with (fail)
  rw [← hWE, ← hg12]
  clear hWE hg12 hbE hb10 HB9 HG9 HX9 HBW9 HZ9 HD9
  have a0 := HBE.out.cell 0
  have a1 := HBE.out.cell 1
  have a2 := HBE.out.cell 2
  have d0 := HGE.out.cell 0
  have d1 := HGE.out.cell 1
  have d2 := HGE.out.cell 2
  have e0 := HHE.out.cell 0
  have e1 := HHE.out.cell 1
  have e2 := HHE.out.cell 2
  have ht : ((15 : Int) + (b.length : Int) == (fo.length : Int)) = true := by rw [HFL.out]; simp
  have s1 := str_any WE Z b cz HZE.out
  have s2 := str_any WE A b c HAE.out
  go_wp2_with fail
  refine (HKN.out WE HBWE.out).mono ?_
  rintro e wz ⟨rfl, hbz⟩
  have HEND : Hid (Below w.heap.size w wz) := Later.trans HBWE.out hbz
  clear hbz
  go_wp2_with fail
  go_ret
  exact ⟨by simp, HEND.out⟩
end Re
end Go.Proofs.YtmcbpgbiephllaaDoor

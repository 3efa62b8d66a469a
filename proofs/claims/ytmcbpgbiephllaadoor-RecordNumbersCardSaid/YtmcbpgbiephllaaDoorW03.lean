/-
  OWN WORK. CpOne, CpMake, NoDec, CpRefW, CpRefR, CpRefN, CpRefT, CpRefS, NoRefDec, CpWr, NoEnc, CpRefI, NoRefEnc, NoAs
-/
import Derived.Test.YtmcbpgbiephllaaDoorW02
import Derived.Test.YtmcbpgbiephllaaDoorW01

namespace Go.Proofs.YtmcbpgbiephllaaDoor
open Go.RowKit Rc
structure One {f : RFns} (C : RSaid f) (v : Value) (A : Option Addr) (L : List UInt8) (W0 : World) (X0 : Nat → Prop) (s : Co.Rs) (B : Nat → Prop) (w : World) : Prop where
  mod : Mod W0 w X0
  rd0 : Rd W0 A L
  ap0 : Apart A L X0
  at_ : C.At v A L s B w
  sub : ∀ b, B b → X0 b ∨ W0.heap.size ≤ b
section
variable {f : RFns} {C : RSaid f} {v : Value} {A : Option Addr} {L : List UInt8} {W0 : World} {X0 : Nat → Prop} {s : Co.Rs} {B : Nat → Prop} {w : World}
theorem One.rd (h : One C v A L W0 X0 s B w) : Rd w A L := h.rd0.mod h.mod h.ap0
theorem One.ap (h : One C v A L W0 X0 s B w) : Apart A L B := fun hl b hA hB => by
  rcases h.sub b hB with h1 | h1
  · exact h.ap0 hl b hA h1
  · obtain ⟨b', off, rfl, hlt, _⟩ := h.rd0 hl
    simp at hA
    omega
theorem One.more {w' : World} {X : Nat → Prop} (h : Mod W0 w X0) (hm : Mod w w' X) (hX : ∀ b, X b → X0 b ∨ W0.heap.size ≤ b) : Mod W0 w' X0 :=
  ⟨hm.os.trans h.os, hm.tape.trans h.tape, hm.output.trans h.output, Nat.le_trans h.size hm.size, fun k hk hn => (hm.block k (Nat.lt_of_lt_of_le hk h.size) fun hx => by
    rcases hX k hx with h1 | h1
    · exact hn h1
    · omega).trans (h.block k hk hn)⟩
theorem One.below {w' : World} (h : One C v A L W0 X0 s B w) (hb : Below w.heap.size w w') : One C v A L W0 X0 s B w' :=
  ⟨One.more h.mod (Mod.of_below hb (fun _ => False)) (fun _ h => h.elim), h.rd0, h.ap0, C.keep h.at_ hb.size (fun b hB => hb.block b (C.lt h.at_ b hB)), h.sub⟩
theorem One.step {w' : World} {s' : Co.Rs} {B' : Nat → Prop} (h : One C v A L W0 X0 s B w) (ha : C.At v A L s' B' w') (hm : Mod w w' B) (hs : ∀ b, B' b → B b ∨ w.heap.size ≤ b) : One C v A L W0 X0 s' B' w' :=
  ⟨One.more h.mod hm h.sub, h.rd0, h.ap0, ha, fun b hB => (hs b hB).elim (h.sub b) (fun h1 => .inr (Nat.le_trans h.mod.size h1))⟩
def OneAt {f : RFns} (C : RSaid f) (v : Value) (A : Option Addr) (L : List UInt8) (W0 : World) (X0 : Nat → Prop) (s : Co.Rs) (w : World) : Prop := ∃ B, One C v A L W0 X0 s B w
theorem OneAt.of_out {x : Value} {s' : Co.Rs} {e : Ending} {w' : World} (h : One C v A L W0 X0 s B w) (ho : ROut C.At v A L x s' B w e w') : e = .returned x ∧ Hid (OneAt C v A L W0 X0 s' w') := by
  obtain ⟨rfl, S', ha, hm, hs⟩ := ho
  exact ⟨rfl, S', h.step ha hm hs⟩
theorem OneAt.flag {fn : FuncId} (hf : f.flag = some fn) {r : Bool} {s' : Co.Rs} (h : OneAt C v A L W0 X0 s w) (hr : Co.flag s = (r, s')) : Calls Tryd.prog fn #[v] w fun e w' => e = .returned (.bool r) ∧ Hid (OneAt C v A L W0 X0 s' w') := by
  obtain ⟨B, h⟩ := h
  refine (C.flag hf h.at_ h.rd h.ap).mono fun e w' ho => ?_
  have := OneAt.of_out h ho
  rwa [hr] at this
theorem OneAt.byte {fn : FuncId} (hf : f.byte = some fn) {r : Nat} {s' : Co.Rs} (h : OneAt C v A L W0 X0 s w) (hr : Co.num 1 s = (r, s')) : Calls Tryd.prog fn #[v] w fun e w' => e = .returned (.int .i64 (r : Nat)) ∧ Hid (OneAt C v A L W0 X0 s' w') := by
  obtain ⟨B, h⟩ := h
  refine (C.byte hf h.at_ h.rd h.ap).mono fun e w' ho => ?_
  have := OneAt.of_out h ho
  rwa [hr] at this
theorem OneAt.short {fn : FuncId} (hf : f.short = some fn) {r : Nat} {s' : Co.Rs} (h : OneAt C v A L W0 X0 s w) (hr : Co.num 2 s = (r, s')) : Calls Tryd.prog fn #[v] w fun e w' => e = .returned (.int .i64 (r : Nat)) ∧ Hid (OneAt C v A L W0 X0 s' w') := by
  obtain ⟨B, h⟩ := h
  refine (C.short hf h.at_ h.rd h.ap).mono fun e w' ho => ?_
  have := OneAt.of_out h ho
  rwa [hr] at this
theorem OneAt.long {fn : FuncId} (hf : f.long = some fn) {r : Nat} {s' : Co.Rs} (h : OneAt C v A L W0 X0 s w) (hr : Co.num 8 s = (r, s')) : Calls Tryd.prog fn #[v] w fun e w' => e = .returned (.int .u64 (r : Nat)) ∧ Hid (OneAt C v A L W0 X0 s' w') := by
  obtain ⟨B, h⟩ := h
  refine (C.long hf h.at_ h.rd h.ap).mono fun e w' ho => ?_
  have := OneAt.of_out h ho
  rwa [hr] at this
def RowOut {f : RFns} (C : RSaid f) (v : Value) (A : Option Addr) (L : List UInt8) (W0 : World) (X0 : Nat → Prop) (l : List UInt8) (s : Co.Rs) (e : Ending) (w : World) : Prop :=
  ∃ X c, e = .returned (.slice X l.length c) ∧ l.length ≤ c ∧ Hid (Rd w X l) ∧ Hid (OneAt C v A L W0 X0 s w)
theorem OneAt.of_row {l : List UInt8} {s' : Co.Rs} {r : List UInt8 × Co.Rs} {e : Ending} {w' : World} (h : One C v A L W0 X0 s B w) (ho : RRow C.At v A L r B w e w') (hr : r = (l, s')) : RowOut C v A L W0 X0 l s' e w' := by
  subst hr
  obtain ⟨X, c, S', T, rfl, hc, hrow, ha, hm, hs, ht⟩ := ho
  have h2 := h.step ha hm hs
  exact ⟨X, c, rfl, hc, hrow.now h2.rd, S', h2⟩
theorem OneAt.bytes {fn : FuncId} (hf : f.bytes = some fn) {l : List UInt8} {s' : Co.Rs} (h : OneAt C v A L W0 X0 s w) (hr : Co.bytes s = (l, s')) : Calls Tryd.prog fn #[v] w (RowOut C v A L W0 X0 l s') := by
  obtain ⟨B, h⟩ := h
  exact (C.bytes hf h.at_ h.rd h.ap).mono fun e w' ho => OneAt.of_row h ho hr
theorem OneAt.raw {fn : FuncId} (hf : f.raw = some fn) {n : Int} {l : List UInt8} {s' : Co.Rs} (h : OneAt C v A L W0 X0 s w) (h0 : -1000000 ≤ n) (h1 : n ≤ 1000000) (hr : Co.raw n s = (l, s')) : Calls Tryd.prog fn #[v, .int .i64 n] w (RowOut C v A L W0 X0 l s') := by
  obtain ⟨B, h⟩ := h
  exact (C.raw hf h.at_ h.rd h.ap n h0 h1).mono fun e w' ho => OneAt.of_row h ho hr
theorem OneAt.left {fn : FuncId} (hf : f.left = some fn) {n : Nat} (h : OneAt C v A L W0 X0 s w) (hr : Co.left s = n) : Calls Tryd.prog fn #[v] w fun e w' => e = .returned (.int .i64 (n : Nat)) ∧ Hid (OneAt C v A L W0 X0 s w') := by
  obtain ⟨B, h⟩ := h
  exact (C.left hf h.at_ h.rd h.ap).mono fun e w' ⟨he, hb⟩ => ⟨by rw [he, hr], B, h.below hb⟩
theorem OneAt.fin {fn : FuncId} (hf : f.fin = some fn) {n : Nat} (h : OneAt C v A L W0 X0 s w) (hr : Co.fin s = n) : Calls Tryd.prog fn #[v] w fun e w' => e = .returned (.int .i64 (n : Nat)) ∧ Hid (OneAt C v A L W0 X0 s w') := by
  obtain ⟨B, h⟩ := h
  exact (C.fin hf h.at_ h.rd h.ap).mono fun e w' ⟨he, hb⟩ => ⟨by rw [he, hr], B, h.below hb⟩
theorem OneAt.mod (h : OneAt C v A L W0 X0 s w) : Mod W0 w X0 := by obtain ⟨B, h⟩ := h; exact h.mod
end
def OneP {f : RFns} (C : RSaid f) (v : Value) (A : Option Addr) (L : List UInt8) (W0 : World) (s : Co.Rs) (Q : Nat → Prop) (w : World) : Prop :=
  ∃ B, One C v A L W0 (fun _ => False) s B w ∧ ∀ b, Q b → ¬ B b ∧ b < w.heap.size
section
variable {f : RFns} {C : RSaid f} {v : Value} {A : Option Addr} {L : List UInt8} {W0 : World} {s : Co.Rs} {Q : Nat → Prop} {w : World}
theorem OneP.low (h : OneP C v A L W0 s Q w) : Below W0.heap.size W0 w := by obtain ⟨B, h, _⟩ := h; exact h.mod.below fun _ hf => hf.elim
theorem OneP.below {w' : World} (h : OneP C v A L W0 s Q w) (hb : Below w.heap.size w w') : OneP C v A L W0 s Q w' := by
  obtain ⟨B, h, hQ⟩ := h
  exact ⟨B, h.below hb, fun b hb2 => ⟨(hQ b hb2).1, Nat.lt_of_lt_of_le (hQ b hb2).2 hb.size⟩⟩
def OnePOut {f : RFns} (C : RSaid f) (v : Value) (A : Option Addr) (L : List UInt8) (W0 : World) (x : Value) (s : Co.Rs) (Q : Nat → Prop) (w : World) (e : Ending) (w' : World) : Prop :=
  e = .returned x ∧ Hid (OneP C v A L W0 s Q w') ∧ Hid (∀ b, Q b → w'.heap[b]? = w.heap[b]?)
theorem OneP.of_out {B : Nat → Prop} {x : Value} {s' : Co.Rs} {e : Ending} {w' : World} (h : One C v A L W0 (fun _ => False) s B w) (hQ : ∀ b, Q b → ¬ B b ∧ b < w.heap.size) (ho : ROut C.At v A L x s' B w e w') : OnePOut C v A L W0 x s' Q w e w' := by
  obtain ⟨rfl, S', ha, hm, hs⟩ := ho
  refine ⟨rfl, ⟨S', h.step ha hm hs, fun b hb => ⟨fun hB => ?_, Nat.lt_of_lt_of_le (hQ b hb).2 hm.size⟩⟩, fun b hb => hm.block b (hQ b hb).2 (hQ b hb).1⟩
  rcases hs b hB with h1 | h1
  · exact (hQ b hb).1 h1
  · have := (hQ b hb).2
    omega
theorem OneP.byte {fn : FuncId} (hf : f.byte = some fn) {r : Nat} {s' : Co.Rs} (h : OneP C v A L W0 s Q w) (hr : Co.num 1 s = (r, s')) : Calls Tryd.prog fn #[v] w (OnePOut C v A L W0 (.int .i64 (r : Nat)) s' Q w) := by
  obtain ⟨B, h, hQ⟩ := h
  refine (C.byte hf h.at_ h.rd h.ap).mono fun e w' ho => ?_
  have := OneP.of_out h hQ ho
  rwa [hr] at this
theorem OneP.short {fn : FuncId} (hf : f.short = some fn) {r : Nat} {s' : Co.Rs} (h : OneP C v A L W0 s Q w) (hr : Co.num 2 s = (r, s')) : Calls Tryd.prog fn #[v] w (OnePOut C v A L W0 (.int .i64 (r : Nat)) s' Q w) := by
  obtain ⟨B, h, hQ⟩ := h
  refine (C.short hf h.at_ h.rd h.ap).mono fun e w' ho => ?_
  have := OneP.of_out h hQ ho
  rwa [hr] at this
theorem OneP.long {fn : FuncId} (hf : f.long = some fn) {r : Nat} {s' : Co.Rs} (h : OneP C v A L W0 s Q w) (hr : Co.num 8 s = (r, s')) : Calls Tryd.prog fn #[v] w (OnePOut C v A L W0 (.int .u64 (r : Nat)) s' Q w) := by
  obtain ⟨B, h, hQ⟩ := h
  refine (C.long hf h.at_ h.rd h.ap).mono fun e w' ho => ?_
  have := OneP.of_out h hQ ho
  rwa [hr] at this
theorem OneP.flag {fn : FuncId} (hf : f.flag = some fn) {r : Bool} {s' : Co.Rs} (h : OneP C v A L W0 s Q w) (hr : Co.flag s = (r, s')) : Calls Tryd.prog fn #[v] w (OnePOut C v A L W0 (.bool r) s' Q w) := by
  obtain ⟨B, h, hQ⟩ := h
  refine (C.flag hf h.at_ h.rd h.ap).mono fun e w' ho => ?_
  have := OneP.of_out h hQ ho
  rwa [hr] at this
theorem OneP.fin {fn : FuncId} (hf : f.fin = some fn) {n : Nat} (h : OneP C v A L W0 s Q w) (hr : Co.fin s = n) : Calls Tryd.prog fn #[v] w fun e w' => e = .returned (.int .i64 (n : Nat)) ∧ Hid (Below w.heap.size w w') := by
  obtain ⟨B, h, hQ⟩ := h
  exact (C.fin hf h.at_ h.rd h.ap).mono fun e w' ⟨he, hb⟩ => ⟨by rw [he, hr], hb⟩
def OnePRow {f : RFns} (C : RSaid f) (v : Value) (A : Option Addr) (L : List UInt8) (W0 : World) (l : List UInt8) (s : Co.Rs) (Q : Nat → Prop) (w : World) (e : Ending) (w' : World) : Prop :=
  ∃ X c, e = .returned (.slice X l.length c) ∧ l.length ≤ c ∧ Hid (Rd w' X l) ∧ Hid (OneP C v A L W0 s Q w') ∧ Hid (∀ b, Q b → w'.heap[b]? = w.heap[b]?)
theorem OneP.of_row {B : Nat → Prop} {l : List UInt8} {s' : Co.Rs} {r : List UInt8 × Co.Rs} {e : Ending} {w' : World} (h : One C v A L W0 (fun _ => False) s B w) (hQ : ∀ b, Q b → ¬ B b ∧ b < w.heap.size) (ho : RRow C.At v A L r B w e w') (hr : r = (l, s')) : OnePRow C v A L W0 l s' Q w e w' := by
  subst hr
  obtain ⟨X, c, S', T, rfl, hc, hrow, ha, hm, hs, ht⟩ := ho
  have h2 := h.step ha hm hs
  refine ⟨X, c, rfl, hc, hrow.now h2.rd, ⟨S', h2, fun b hb => ⟨fun hB => ?_, Nat.lt_of_lt_of_le (hQ b hb).2 hm.size⟩⟩, fun b hb => hm.block b (hQ b hb).2 (hQ b hb).1⟩
  rcases hs b hB with h1 | h1
  · exact (hQ b hb).1 h1
  · have := (hQ b hb).2
    omega
theorem OneP.bytes {fn : FuncId} (hf : f.bytes = some fn) {l : List UInt8} {s' : Co.Rs} (h : OneP C v A L W0 s Q w) (hr : Co.bytes s = (l, s')) : Calls Tryd.prog fn #[v] w (OnePRow C v A L W0 l s' Q w) := by
  obtain ⟨B, h, hQ⟩ := h
  exact (C.bytes hf h.at_ h.rd h.ap).mono fun e w' ho => OneP.of_row h hQ ho hr
end
end Go.Proofs.YtmcbpgbiephllaaDoor

namespace Go.Proofs.YtmcbpgbiephllaaDoor
open Go.RowKit Rc
theorem OneAt.low {f : RFns} {C : RSaid f} {v : Value} {A : Option Addr} {L : List UInt8} {W0 w : World} {s : Co.Rs} (h : OneAt C v A L W0 (fun _ => False) s w) : Below W0.heap.size W0 w := h.mod.below fun _ hf => hf.elim
end Go.Proofs.YtmcbpgbiephllaaDoor

namespace Go.Proofs.YtmcbpgbiephllaaDoor
open Go.RowKit Rc

end Go.Proofs.YtmcbpgbiephllaaDoor

namespace Go.Proofs.YtmcbpgbiephllaaDoor
open Go.RowKit

set_option maxHeartbeats 1000000 in
set_option maxRecDepth 100000 in
theorem refByte_any (w : World) (l : List UInt8) (A : Option Addr) (cap n : Nat) (hr : Rd w A l) (hl : l.length ≤ 1099511620000) (_hn : n ≤ 9223372036854775807) :
    Calls Tryd.prog 19 #[.slice A l.length cap, .int .i64 (n : Nat)] w fun e w' => ∃ v, e = .returned v ∧ w'.ownsRow w.heap.size 5 1 v (l.length + 1) (Lib.byteCells (l ++ Co.wByte n)) ∧ Below w.heap.size w w' := by
  obtain ⟨i0, hi, hz0, hz1, hz2⟩ := info_parts Tryd.infoU8
  have HI0 := Lib.hid hi
  have HZ0 := Lib.hid hz0
  have HZ1 := Lib.hid hz1
  have HZ2 := Lib.hid hz2
  have H0 : Hid (MAt w.heap.size (.slice (some ⟨w.heap.size, 0, none⟩) 0 0) [] w (w.alloc (.cells #[] 5))) := MAt.empty w
  have HRW : Hid (Rd (w.alloc (.cells #[] 5)) A l) := hr.below (below_new w _)
  clear hi hz0 hz1 hz2 hr
  go_enter Tryd.func19, Tryd.ntmps19
  go_wp2_with (first
    | (at_builtin; refine wpList_append_rd rfl (.tmp 5) (.tmp 6) 25 rfl w.heap.size 5 i0 Tryd.underlying25 HI0.out HZ0.out HZ1.out HZ2.out _ 0 [] rfl H0.out.1 A l l.length cap rfl rfl HRW.out (by omega) (by rw [World.size_alloc]; omega) ?_; intro v1 w1 HO1 HG1; have H1 : Hid (MAt w.heap.size v1 l w w1) := H0.out.push (Below.refl _ _) HO1.out HG1.out)
    | (at_builtin; refine wpList_append_rd rfl (.tmp 7) (.tmp 10) 25 rfl w.heap.size 5 i0 Tryd.underlying25 HI0.out HZ0.out HZ1.out HZ2.out v1 l.length (Lib.byteCells l) rfl (H1.out.own (below_new w1 _)) (some ⟨w1.heap.size, 0, none⟩) (Co.wByte n) 1 1 rfl rfl (rd_cells w1 (Co.wByte n) _ _ _ (by simp [Co.wByte, Lib.byteCells])) (by simp [Co.wByte]; omega) (by rw [World.size_alloc]; have := H1.out.2.1.size; omega) ?_; intro v2 w2 HO2 HG2; have H2 : Hid (MAt w.heap.size v2 (l ++ Co.wByte n) w w2) := H1.out.push (below_new w1 _) HO2.out HG2.out))
  clear HO1 HG1 HO2 HG2
  go_ret
  refine ⟨_, rfl, ?_, H2.out.2.1⟩
  have := H2.out.1
  rw [List.length_append] at this
  exact this

set_option maxHeartbeats 1000000 in
set_option maxRecDepth 100000 in
theorem refShort_any (w : World) (l : List UInt8) (A : Option Addr) (cap n : Nat) (hr : Rd w A l) (hl : l.length ≤ 1099511620000) (_hn : n ≤ 9223372036854775807) :
    Calls Tryd.prog 40 #[.slice A l.length cap, .int .i64 (n : Nat)] w fun e w' => ∃ v, e = .returned v ∧ w'.ownsRow w.heap.size 5 1 v (l.length + 2) (Lib.byteCells (l ++ Co.wShort n)) ∧ Below w.heap.size w w' := by
  obtain ⟨i0, hi, hz0, hz1, hz2⟩ := info_parts Tryd.infoU8
  have HI0 := Lib.hid hi
  have HZ0 := Lib.hid hz0
  have HZ1 := Lib.hid hz1
  have HZ2 := Lib.hid hz2
  have H0 : Hid (MAt w.heap.size (.slice (some ⟨w.heap.size, 0, none⟩) 0 0) [] w (w.alloc (.cells #[] 5))) := MAt.empty w
  have HRW : Hid (Rd (w.alloc (.cells #[] 5)) A l) := hr.below (below_new w _)
  clear hi hz0 hz1 hz2 hr
  go_enter Tryd.func40, Tryd.ntmps40
  go_wp2_with (first
    | (at_builtin; refine wpList_append_rd rfl (.tmp 5) (.tmp 6) 25 rfl w.heap.size 5 i0 Tryd.underlying25 HI0.out HZ0.out HZ1.out HZ2.out _ 0 [] rfl H0.out.1 A l l.length cap rfl rfl HRW.out (by omega) (by rw [World.size_alloc]; omega) ?_; intro v1 w1 HO1 HG1; have H1 : Hid (MAt w.heap.size v1 l w w1) := H0.out.push (Below.refl _ _) HO1.out HG1.out)
    | (at_builtin; refine wpList_append_rd rfl (.tmp 7) (.tmp 13) 25 rfl w.heap.size 5 i0 Tryd.underlying25 HI0.out HZ0.out HZ1.out HZ2.out v1 l.length (Lib.byteCells l) rfl (H1.out.own (below_new w1 _)) (some ⟨w1.heap.size, 0, none⟩) (Co.wShort n) 2 2 rfl rfl (rd_cells w1 (Co.wShort n) _ _ _ (by simp [Co.wShort, Lib.byteCells])) (by simp [Co.wShort]; omega) (by rw [World.size_alloc]; have := H1.out.2.1.size; omega) ?_; intro v2 w2 HO2 HG2; have H2 : Hid (MAt w.heap.size v2 (l ++ Co.wShort n) w w2) := H1.out.push (below_new w1 _) HO2.out HG2.out))
  clear HO1 HG1 HO2 HG2
  go_ret
  refine ⟨_, rfl, ?_, H2.out.2.1⟩
  have := H2.out.1
  rw [List.length_append] at this
  exact this

set_option maxHeartbeats 1000000 in
set_option maxRecDepth 100000 in
theorem refBytes_any (w : World) (l x : List UInt8) (A A2 : Option Addr) (cap cap2 : Nat) (hr : Rd w A l) (hr2 : Rd w A2 x) (hl : l.length ≤ 1099511500000) (hx : x.length ≤ 65535) :
    Calls Tryd.prog 17 #[.slice A l.length cap, .slice A2 x.length cap2] w fun e w' => ∃ v, e = .returned v ∧ w'.ownsRow w.heap.size 5 1 v (l.length + 2 + x.length) (Lib.byteCells (l ++ Co.wBytes x)) ∧ Below w.heap.size w w' := by
  obtain ⟨i0, hi, hz0, hz1, hz2⟩ := info_parts Tryd.infoU8
  have HI0 := Lib.hid hi
  have HZ0 := Lib.hid hz0
  have HZ1 := Lib.hid hz1
  have HZ2 := Lib.hid hz2
  have HR : Hid (Rd w A l) := hr
  have HR2 : Hid (Rd w A2 x) := hr2
  have hw : Hid (Co.wBytes x = Co.wShort x.length ++ x) := by show _ = _; unfold Co.wBytes; rw [List.take_of_length_le hx]
  clear hi hz0 hz1 hz2 hr hr2
  go_enter Tryd.func17, Tryd.ntmps17
  go_wp2_with fail
  refine (refShort_any w l A cap x.length HR.out (by omega) (by omega)).mono ?_
  rintro e w1 ⟨v, rfl, hown, hb⟩
  have HO : Hid (w1.ownsRow w.heap.size 5 1 v (l.length + 2) (Lib.byteCells (l ++ Co.wShort x.length))) := hown
  have HB : Hid (Later w w1) := hb
  have HRX : Hid (Rd w1 A2 x) := HB.out.rd HR2.out
  clear hown hb
  go_wp2_with (at_builtin; refine wpList_append_rd rfl (.tmp 13) (.tmp 14) 25 rfl w.heap.size 5 i0 Tryd.underlying25 HI0.out HZ0.out HZ1.out HZ2.out _ (l.length + 2) (Lib.byteCells (l ++ Co.wShort x.length)) rfl HO.out A2 x x.length cap2 rfl rfl HRX.out (by omega) HB.out.size ?_; intro v2 w2 HO2 HG2)
  have HF : Hid (w2.ownsRow w.heap.size 5 1 v2 (l.length + 2 + x.length) (Lib.byteCells (l ++ Co.wBytes x)) ∧ Below w.heap.size w w2) := by
    refine ⟨?_, HB.out.grown HG2.out HO.out⟩
    rw [hw.out, ← List.append_assoc, Lib.byteCells_append]
    exact HO2.out
  clear HO2 HG2
  go_ret
  exact ⟨_, rfl, HF.out⟩

set_option maxHeartbeats 1000000 in
set_option maxRecDepth 100000 in
theorem refLong_any (w : World) (l : List UInt8) (A : Option Addr) (cap n : Nat) (hr : Rd w A l) (hl : l.length ≤ 1099511620000) (_hn : n ≤ 18446744073709551615) :
    Calls Tryd.prog 18 #[.slice A l.length cap, .int .u64 (n : Nat)] w fun e w' => ∃ v, e = .returned v ∧ w'.ownsRow w.heap.size 5 1 v (l.length + 8) (Lib.byteCells (l ++ Co.wLong n)) ∧ Below w.heap.size w w' := by
  obtain ⟨i0, hi, hz0, hz1, hz2⟩ := info_parts Tryd.infoU8
  have HI0 := Lib.hid hi
  have HZ0 := Lib.hid hz0
  have HZ1 := Lib.hid hz1
  have HZ2 := Lib.hid hz2
  have H0 : Hid (MAt w.heap.size (.slice (some ⟨w.heap.size, 0, none⟩) 0 0) [] w (w.alloc (.cells #[] 5))) := MAt.empty w
  have HRW : Hid (Rd (w.alloc (.cells #[] 5)) A l) := hr.below (below_new w _)
  clear hi hz0 hz1 hz2 hr
  go_enter Tryd.func18, Tryd.ntmps18
  go_upto_region 3 with (first
    | (at_builtin; refine wpList_append_rd rfl (.tmp 7) (.tmp 8) 25 rfl w.heap.size 5 i0 Tryd.underlying25 HI0.out HZ0.out HZ1.out HZ2.out _ 0 [] rfl H0.out.1 A l l.length cap rfl rfl HRW.out (by omega) (by rw [World.size_alloc]; omega) ?_; intro v1 w1 HO1 HG1; have H1 : Hid (MAt w.heap.size v1 l w w1) := H0.out.push (Below.refl _ _) HO1.out HG1.out))
  clear HO1 HG1
  have H1b : Hid (MAt w.heap.size v1 (l ++ (Co.wLong n).take 0) w w1) := by show MAt _ _ _ _ _; rw [List.take_zero, List.append_nil]; exact H1.out
  clear H1
  go_wp2_with fail
  go_loopw [5, 6] (fun t5 t6 wr => ∃ j : Nat, j ≤ 8 ∧ t6 = .int .i64 (56 - 8 * ((j : Nat) : Int)) ∧ Hid (MAt w.heap.size t5 (l ++ (Co.wLong n).take j) w wr)) (fun _ t6 _ => (intOf t6 + 8).toNat)
  case atStart => exact ⟨0, by omega, rfl, H1b⟩
  case round =>
    obtain ⟨j, hj, rfl, HM⟩ := hrel
    by_cases hlt : j < 8
    · have HOL : Hid ((l ++ (Co.wLong n).take j).length = l.length + j) := by show _ = _; rw [List.length_append, List.length_take, Co.wLong_length]; omega
      have hmod : (((n : Nat) : Int)) / 2 ^ (56 - 8 * j) % 256 = (((UInt8.ofNat (n / 2 ^ (56 - 8 * j))).toNat : Nat) : Int) := by rw [u8_cast]; norm_cast
      have HOWN : Hid ((wr.alloc (.cells #[Value.int .u8 (((n : Nat) : Int) / 2 ^ (56 - 8 * j) % 256)] 5)).ownsRow w.heap.size 5 1 u5 (l.length + j) (Lib.byteCells (l ++ (Co.wLong n).take j))) := by
        have := HM.out.own (below_new wr (.cells #[Value.int .u8 (((n : Nat) : Int) / 2 ^ (56 - 8 * j) % 256)] 5))
        rw [HOL.out] at this
        exact this
      have HBS : Hid (w.heap.size ≤ (wr.alloc (.cells #[Value.int .u8 (((n : Nat) : Int) / 2 ^ (56 - 8 * j) % 256)] 5)).heap.size) := by show _ ≤ _; rw [World.size_alloc]; have := HM.out.2.1.size; omega
      obtain ⟨bx, hbx⟩ : ∃ b : UInt8, b = UInt8.ofNat (n / 2 ^ (56 - 8 * j)) := ⟨_, rfl⟩
      have HBX := Lib.hid hbx
      have HXB : Hid (((bx.toNat : Nat) : Int) = ((n : Nat) : Int) / 2 ^ (56 - 8 * j) % 256) := by show _ = _; rw [hbx, hmod]
      have HNN1 : Hid (l.length + j + [bx].length ≤ 1099511627776) := by show l.length + j + 1 ≤ _; omega
      clear hbx hmod
      go_wp2_with (at_builtin; refine wpList_append_rd rfl (.tmp 14) (.tmp 20) 25 rfl w.heap.size 5 i0 Tryd.underlying25 HI0.out HZ0.out HZ1.out HZ2.out _ (l.length + j) (Lib.byteCells (l ++ (Co.wLong n).take j)) rfl HOWN.out (some ⟨wr.heap.size, 0, none⟩) [bx] 1 1 rfl rfl (rd_new wr _ _ _ HXB.out) HNN1.out HBS.out ?_; intro v3 w3 HO3 HG3)
      have HM4 : Hid (MAt w.heap.size v3 (l ++ (Co.wLong n).take (j + 1)) w w3) := by
        show MAt _ _ _ _ _
        rw [Co.wLong_take _ _ hlt, ← List.append_assoc, ← HBX.out]
        exact HM.out.push (below_new wr _) (by rw [HOL.out]; exact HO3.out) HG3.out
      clear HO3 HG3
      go_roundw
      case rel => exact ⟨j + 1, by omega, by go_num, HM4⟩
      case measure => simp [intOf]; omega
    · obtain rfl : j = 8 := by omega
      have HF : Hid (MAt w.heap.size u5 (l ++ Co.wLong n) w wr) := by
        have := HM.out
        rw [List.take_of_length_le (by rw [Co.wLong_length]; omega)] at this
        exact this
      clear HM
      go_wp2_with fail
      go_ret
      refine ⟨_, rfl, ?_, HF.out.2.1⟩
      have := HF.out.1
      rw [List.length_append, Co.wLong_length] at this
      exact this
end Go.Proofs.YtmcbpgbiephllaaDoor

namespace Go.Proofs.YtmcbpgbiephllaaDoor
open Go.RowKit
def RHd (g : Nat) (T : TypeId) (A : Option Addr) (L : List UInt8) (cap : Nat) (s : Co.Rs) (w : World) : Prop :=
  ∃ k, k ≤ L.length ∧ s.rem = L.drop k ∧ Blk w g T [.slice A L.length cap, .int .i64 (k : Nat), .int .i64 (s.why : Nat)]
def RawSaid (g : Nat) (T : TypeId) (A : Option Addr) (L : List UInt8) (cap : Nat) (r : List UInt8 × Co.Rs) (w : World) (e : Ending) (w' : World) : Prop :=
  ∃ v, e = .returned v ∧ w'.ownsRow w.heap.size 5 1 v r.1.length (Lib.byteCells r.1) ∧ Keeps w w' g ∧ RHd g T A L cap r.2 w'
set_option maxHeartbeats 1000000 in
set_option maxRecDepth 100000 in
theorem refRaw_any (w : World) (g : Nat) (A : Option Addr) (L : List UInt8) (cap k why : Nat) (n : Int) (hb : Blk w g 71 [.slice A L.length cap, .int .i64 (k : Nat), .int .i64 (why : Nat)])
    (hr : Rd w A L) (hA : 0 < L.length → A.map (·.block) ≠ some g) (hk : k ≤ L.length) (hcap : L.length ≤ cap) (hL : L.length ≤ 1099511620000) (hn : n ≤ 1099511620000) (hn0 : -1099511620000 ≤ n) :
    Calls Tryd.prog 45 #[.pointer (some ⟨g, 0, none⟩), .int .i64 n] w (RawSaid g 71 A L cap (Co.raw n ⟨L.drop k, why⟩) w) := by
  have c0 : w.cell? ⟨g, 0, none⟩ = some (.slice A L.length cap) := hb.cell 0
  have c1 : w.cell? ⟨g, 1, none⟩ = some (.int .i64 (k : Nat)) := hb.cell 1
  have c2 : w.cell? ⟨g, 2, none⟩ = some (.int .i64 (why : Nat)) := hb.cell 2
  have f1 : w.frozen? ⟨g, 1, none⟩ = false := hb.frozen 1
  have f2 : w.frozen? ⟨g, 2, none⟩ = false := hb.frozen 2
  have HB := Lib.hid hb
  have HR := Lib.hid hr
  have HA := Lib.hid hA
  clear hb hr hA
  by_cases h1 : why = 0
  · subst h1
    by_cases h2 : n < 1
    · go_enter Tryd.func45, Tryd.ntmps45
      go_wp2_with fail
      go_ret
      have e : Co.raw n ⟨L.drop k, 0⟩ = ([], ⟨L.drop k, 0⟩) := by unfold Co.raw; rw [if_pos (.inr h2)]
      rw [e]
      exact ⟨_, rfl, own_nil _ _, Keeps.refl _ _, k, hk, rfl, HB.out⟩
    · by_cases h3 : ((L.length : Nat) : Int) - (k : Nat) < n
      · go_enter Tryd.func45, Tryd.ntmps45
        go_upto_region 3 with (fail)
        go_quiet (fail)
        have c2' : (w.drewN nq).cell? ⟨g, 2, none⟩ = some (.int .i64 (0 : Nat)) := c2
        have f2' : (w.drewN nq).frozen? ⟨g, 2, none⟩ = false := f2
        go_wp2_with fail
        go_ret
        have e : Co.raw n ⟨L.drop k, 0⟩ = ([], ⟨L.drop k, 10⟩) := by
          unfold Co.raw
          rw [if_neg (by simp; omega), if_pos (by rw [List.length_drop]; omega)]
        rw [e]
        exact ⟨_, rfl, own_nil _ _, ((Keeps.refl _ _).drewN _).setCell _ _, k, hk, rfl, (HB.out.drewN _).set_ _ _⟩
      · obtain ⟨q, rfl⟩ : ∃ q : Nat, n = (q : Nat) := ⟨n.toNat, by omega⟩
        obtain ⟨A2, r, cz, hsl, hrc, HRD, _, HEQ, hrl, hkr⟩ := part_lh A L cap k (k + q) (by omega) (by omega) hcap
        have hrr : r = (L.drop k).take q := by
          have h4 := congrArg (List.drop k) HEQ.out
          rw [List.drop_take, Nat.add_sub_cancel_left, List.drop_left' (by rw [List.length_take]; omega)] at h4
          exact h4.symm
        have HRR := Lib.hid hrr
        have HKR := Lib.hid hkr
        clear hrr hkr HEQ
        go_enter Tryd.func45, Tryd.ntmps45
        go_upto_region 3 with (fail)
        go_quiet (fail)
        go_upto_region 6 with (fail)
        refine wp_world (fun W => Hid (Blk W g 71 [.slice A L.length cap, .int .i64 (k : Nat), .int .i64 (0 : Nat)]) ∧ Hid (Rd W A L) ∧ Hid (Below w.heap.size w W)) ⟨HB.out.drewN _, HR.out.below (below_drewN w _), below_drewN w _⟩ ?_
        clear c0 c1 c2 f1 f2 HB HR
        rintro w0 ⟨HB, HR, HW⟩
        refine Rg.wp_region_facts (by kernel_rfl) (fun opn => List.getD [bRow ([]), Rg.val (.pointer (some ⟨g, 0, none⟩)), Rg.val (.pointer (some ⟨g, 0, none⟩)), Rg.val (.pointer (some ⟨g, 0, none⟩)), Rg.val (.slice A L.length cap), Rg.val (.pointer (some ⟨g, 0, none⟩)), Rg.val (.pointer (some ⟨g, 0, none⟩)), Rg.val (.pointer (some ⟨g, 1, none⟩)), Rg.val (.int .i64 (k : Nat)), Rg.val (.pointer (some ⟨g, 0, none⟩)), Rg.val (.pointer (some ⟨g, 0, none⟩)), Rg.val (.pointer (some ⟨g, 1, none⟩)), Rg.val (.int .i64 (k : Nat)), Rg.val (.int .i64 (q : Nat)), Rg.val (.int .i64 ((k + q : Nat) : Int)), Rg.val (.slice A2 r.length cz), bRow (r), Rg.any] opn Rg.any) [(17, 16, fun v => v)] [[], [], [(1, 31)], [(2, 32)], [(3, 33)], [], [(5, 35)], [(6, 36)], [(7, 37)], [], [(9, 39)], [(10, 40)], [(11, 41)], [], [(12, 42), (13, 43)], [(4, 34), (8, 38), (14, 44)], [(0, 30), (15, 45)], [(16, 46)]] [(16, 0)] (by kernel_rfl) (by rfl) (by kernel_rfl) ?_ ?_
        · intro fr ha
          have hz : fr.tmps.size = 57 := by rw [ha]; rfl
          have y0 : fr.eval (.tmp 0) = .pointer (some ⟨g, 0, none⟩) := by rw [ha]; rfl
          have y1 : fr.eval (.tmp 1) = .int .i64 (q : Nat) := by rw [ha]; rfl
          clear ha
          refine .cons ?_ (.cons ?_ (.cons ?_ (.cons ?_ (.cons ?_ (.cons ?_ (.cons ?_ (.cons ?_ (.cons ?_ (.cons ?_ (.cons ?_ (.cons ?_ (.cons ?_ (.cons ?_ (.cons ?_ (.cons ?_ (.cons ?_ (.cons ?_ (.nil))))))))))))))))))
          · intro V w2 HL HH
            have HL : Later w0 w2 := HL
            show Rg.Does1 _ _ V (Rg.putUse V [] fr) w2 _
            exact step_none rfl rfl rfl rfl True.intro
          · intro V w2 HL HH
            have HL : Later w0 w2 := HL
            have tb0 : (Rg.putUse V [] fr).eval (.tmp 0) = .pointer (some ⟨g, 0, none⟩) := (Rg.use_eval V fr 0 [] (by simp only [hz]; decide)).trans y0
            show Rg.Does1 _ _ V (Rg.putUse V [] fr) w2 _
            exact step_mv (.pointer (some ⟨g, 0, none⟩)) (by simp only [execOp, tb0]; go_simp) rfl rfl rfl True.intro
          · intro V w2 HL HH
            have HL : Later w0 w2 := HL
            have h1 : V 1 = .pointer (some ⟨g, 0, none⟩) := HH.1
            have tb31 : (Rg.putUse V [(1, 31)] fr).eval (.tmp 31) = .pointer (some ⟨g, 0, none⟩) := (Rg.use_eval V fr 31 [(1, 31)] (by simp only [hz]; decide)).trans h1
            show Rg.Does1 _ _ V (Rg.putUse V [(1, 31)] fr) w2 _
            exact step_mv (.pointer (some ⟨g, 0, none⟩)) (by simp only [execOp, tb31]; go_simp) rfl rfl rfl True.intro
          · intro V w2 HL HH
            have HL : Later w0 w2 := HL
            have h2 : V 2 = .pointer (some ⟨g, 0, none⟩) := HH.1
            have tb32 : (Rg.putUse V [(2, 32)] fr).eval (.tmp 32) = .pointer (some ⟨g, 0, none⟩) := (Rg.use_eval V fr 32 [(2, 32)] (by simp only [hz]; decide)).trans h2
            show Rg.Does1 _ _ V (Rg.putUse V [(2, 32)] fr) w2 _
            exact step_mv (.pointer (some ⟨g, 0, none⟩)) (by simp only [execOp, tb32]; go_simp) rfl rfl rfl True.intro
          · intro V w2 HL HH
            have HL : Later w0 w2 := HL
            have h3 : V 3 = .pointer (some ⟨g, 0, none⟩) := HH.1
            have tb33 : (Rg.putUse V [(3, 33)] fr).eval (.tmp 33) = .pointer (some ⟨g, 0, none⟩) := (Rg.use_eval V fr 33 [(3, 33)] (by simp only [hz]; decide)).trans h3
            show Rg.Does1 _ _ V (Rg.putUse V [(3, 33)] fr) w2 _
            have cl : w2.cell? ⟨g, 0, none⟩ = some (.slice A L.length cap) := (HB.out.below HL HB.out.lt).cell 0
            exact step_mv (.slice A L.length cap) (by simp only [execOp, tb33]; go_simp) rfl rfl rfl True.intro
          · intro V w2 HL HH
            have HL : Later w0 w2 := HL
            have tb0 : (Rg.putUse V [] fr).eval (.tmp 0) = .pointer (some ⟨g, 0, none⟩) := (Rg.use_eval V fr 0 [] (by simp only [hz]; decide)).trans y0
            show Rg.Does1 _ _ V (Rg.putUse V [] fr) w2 _
            exact step_mv (.pointer (some ⟨g, 0, none⟩)) (by simp only [execOp, tb0]; go_simp) rfl rfl rfl True.intro
          · intro V w2 HL HH
            have HL : Later w0 w2 := HL
            have h5 : V 5 = .pointer (some ⟨g, 0, none⟩) := HH.1
            have tb35 : (Rg.putUse V [(5, 35)] fr).eval (.tmp 35) = .pointer (some ⟨g, 0, none⟩) := (Rg.use_eval V fr 35 [(5, 35)] (by simp only [hz]; decide)).trans h5
            show Rg.Does1 _ _ V (Rg.putUse V [(5, 35)] fr) w2 _
            exact step_mv (.pointer (some ⟨g, 0, none⟩)) (by simp only [execOp, tb35]; go_simp) rfl rfl rfl True.intro
          · intro V w2 HL HH
            have HL : Later w0 w2 := HL
            have h6 : V 6 = .pointer (some ⟨g, 0, none⟩) := HH.1
            have tb36 : (Rg.putUse V [(6, 36)] fr).eval (.tmp 36) = .pointer (some ⟨g, 0, none⟩) := (Rg.use_eval V fr 36 [(6, 36)] (by simp only [hz]; decide)).trans h6
            show Rg.Does1 _ _ V (Rg.putUse V [(6, 36)] fr) w2 _
            exact step_mv (.pointer (some ⟨g, 1, none⟩)) (by simp only [execOp, tb36]; go_simp) rfl rfl rfl True.intro
          · intro V w2 HL HH
            have HL : Later w0 w2 := HL
            have h7 : V 7 = .pointer (some ⟨g, 1, none⟩) := HH.1
            have tb37 : (Rg.putUse V [(7, 37)] fr).eval (.tmp 37) = .pointer (some ⟨g, 1, none⟩) := (Rg.use_eval V fr 37 [(7, 37)] (by simp only [hz]; decide)).trans h7
            show Rg.Does1 _ _ V (Rg.putUse V [(7, 37)] fr) w2 _
            have cl : w2.cell? ⟨g, 1, none⟩ = some (.int .i64 (k : Nat)) := (HB.out.below HL HB.out.lt).cell 1
            exact step_mv (.int .i64 (k : Nat)) (by simp only [execOp, tb37]; go_simp) rfl rfl rfl True.intro
          · intro V w2 HL HH
            have HL : Later w0 w2 := HL
            have tb0 : (Rg.putUse V [] fr).eval (.tmp 0) = .pointer (some ⟨g, 0, none⟩) := (Rg.use_eval V fr 0 [] (by simp only [hz]; decide)).trans y0
            show Rg.Does1 _ _ V (Rg.putUse V [] fr) w2 _
            exact step_mv (.pointer (some ⟨g, 0, none⟩)) (by simp only [execOp, tb0]; go_simp) rfl rfl rfl True.intro
          · intro V w2 HL HH
            have HL : Later w0 w2 := HL
            have h9 : V 9 = .pointer (some ⟨g, 0, none⟩) := HH.1
            have tb39 : (Rg.putUse V [(9, 39)] fr).eval (.tmp 39) = .pointer (some ⟨g, 0, none⟩) := (Rg.use_eval V fr 39 [(9, 39)] (by simp only [hz]; decide)).trans h9
            show Rg.Does1 _ _ V (Rg.putUse V [(9, 39)] fr) w2 _
            exact step_mv (.pointer (some ⟨g, 0, none⟩)) (by simp only [execOp, tb39]; go_simp) rfl rfl rfl True.intro
          · intro V w2 HL HH
            have HL : Later w0 w2 := HL
            have h10 : V 10 = .pointer (some ⟨g, 0, none⟩) := HH.1
            have tb40 : (Rg.putUse V [(10, 40)] fr).eval (.tmp 40) = .pointer (some ⟨g, 0, none⟩) := (Rg.use_eval V fr 40 [(10, 40)] (by simp only [hz]; decide)).trans h10
            show Rg.Does1 _ _ V (Rg.putUse V [(10, 40)] fr) w2 _
            exact step_mv (.pointer (some ⟨g, 1, none⟩)) (by simp only [execOp, tb40]; go_simp) rfl rfl rfl True.intro
          · intro V w2 HL HH
            have HL : Later w0 w2 := HL
            have h11 : V 11 = .pointer (some ⟨g, 1, none⟩) := HH.1
            have tb41 : (Rg.putUse V [(11, 41)] fr).eval (.tmp 41) = .pointer (some ⟨g, 1, none⟩) := (Rg.use_eval V fr 41 [(11, 41)] (by simp only [hz]; decide)).trans h11
            show Rg.Does1 _ _ V (Rg.putUse V [(11, 41)] fr) w2 _
            have cl : w2.cell? ⟨g, 1, none⟩ = some (.int .i64 (k : Nat)) := (HB.out.below HL HB.out.lt).cell 1
            exact step_mv (.int .i64 (k : Nat)) (by simp only [execOp, tb41]; go_simp) rfl rfl rfl True.intro
          · intro V w2 HL HH
            have HL : Later w0 w2 := HL
            have tb1 : (Rg.putUse V [] fr).eval (.tmp 1) = .int .i64 (q : Nat) := (Rg.use_eval V fr 1 [] (by simp only [hz]; decide)).trans y1
            show Rg.Does1 _ _ V (Rg.putUse V [] fr) w2 _
            exact step_mv (.int .i64 (q : Nat)) (by simp only [execOp, tb1]; go_simp) rfl rfl rfl True.intro
          · intro V w2 HL HH
            have HL : Later w0 w2 := HL
            have h12 : V 12 = .int .i64 (k : Nat) := HH.1
            have h13 : V 13 = .int .i64 (q : Nat) := HH.2.1
            have tb42 : (Rg.putUse V [(12, 42), (13, 43)] fr).eval (.tmp 42) = .int .i64 (k : Nat) := (Rg.use_eval V fr 42 [(12, 42), (13, 43)] (by simp only [hz]; decide)).trans h12
            have tb43 : (Rg.putUse V [(12, 42), (13, 43)] fr).eval (.tmp 43) = .int .i64 (q : Nat) := (Rg.use_eval V fr 43 [(12, 42), (13, 43)] (by simp only [hz]; decide)).trans h13
            show Rg.Does1 _ _ V (Rg.putUse V [(12, 42), (13, 43)] fr) w2 _
            have hwr : IntKind.i64.wrap (((k : Nat) : Int) + ((q : Nat) : Int)) = ((k + q : Nat) : Int) := (IntWalk.i64_in _ (by omega)).trans (by omega)
            exact step_mv (.int .i64 ((k + q : Nat) : Int)) (by simp only [execOp, tb42, tb43]; go_simp) rfl rfl rfl True.intro
          · intro V w2 HL HH
            have HL : Later w0 w2 := HL
            have h4 : V 4 = .slice A L.length cap := HH.1
            have h8 : V 8 = .int .i64 (k : Nat) := HH.2.1
            have h14 : V 14 = .int .i64 ((k + q : Nat) : Int) := HH.2.2.1
            have tb34 : (Rg.putUse V [(4, 34), (8, 38), (14, 44)] fr).eval (.tmp 34) = .slice A L.length cap := (Rg.use_eval V fr 34 [(4, 34), (8, 38), (14, 44)] (by simp only [hz]; decide)).trans h4
            have tb38 : (Rg.putUse V [(4, 34), (8, 38), (14, 44)] fr).eval (.tmp 38) = .int .i64 (k : Nat) := (Rg.use_eval V fr 38 [(4, 34), (8, 38), (14, 44)] (by simp only [hz]; decide)).trans h8
            have tb44 : (Rg.putUse V [(4, 34), (8, 38), (14, 44)] fr).eval (.tmp 44) = .int .i64 ((k + q : Nat) : Int) := (Rg.use_eval V fr 44 [(4, 34), (8, 38), (14, 44)] (by simp only [hz]; decide)).trans h14
            show Rg.Does1 _ _ V (Rg.putUse V [(4, 34), (8, 38), (14, 44)] fr) w2 _
            exact step_sllh rfl tb34 tb38 tb44 (hsl.out w2) rfl rfl rfl True.intro
          · intro V w2 HL HH
            have HL : Later w0 w2 := HL
            have h0 : (bRow ([])).holds (V 0) w2 := HH.1
            obtain ⟨X0, k0, e0, hc0, hr0⟩ := bRow_form h0
            have h15 : V 15 = .slice A2 r.length cz := HH.2.1
            have tb30 : (Rg.putUse V [(0, 30), (15, 45)] fr).eval (.tmp 30) = .slice X0 ([]).length k0 := (Rg.use_eval V fr 30 [(0, 30), (15, 45)] (by simp only [hz]; decide)).trans e0
            have tb45 : (Rg.putUse V [(0, 30), (15, 45)] fr).eval (.tmp 45) = .slice A2 r.length cz := (Rg.use_eval V fr 45 [(0, 30), (15, 45)] (by simp only [hz]; decide)).trans h15
            show Rg.Does1 _ _ V (Rg.putUse V [(0, 30), (15, 45)] fr) w2 _
            have bs : (Rg.putUse V [(0, 30), (15, 45)] fr).eval (.tmp 30) = V 0 := Rg.use_eval V fr 30 [(0, 30), (15, 45)] (by simp only [hz]; decide)
            exact step_app (i := 0) ([]) (r) (r) (by simp) rfl bs tb45 rfl h0 (HRD.out _ (HL.rd HR.out)) (by first | omega | (simp; omega)) rfl rfl rfl rfl True.intro
          · intro V w2 HL HH
            have HL : Later w0 w2 := HL
            have h16 : (bRow (r)).holds (V 16) w2 := HH.1
            obtain ⟨X16, k16, e16, hc16, hr16⟩ := bRow_form h16
            have tb46 : (Rg.putUse V [(16, 46)] fr).eval (.tmp 46) = V 16 := (Rg.use_eval V fr 46 [(16, 46)] (by simp only [hz]; decide)).trans rfl
            show Rg.Does1 _ _ V (Rg.putUse V [(16, 46)] fr) w2 _
            exact step_as 16 (fun v => v) rfl (by simp only [execOp, tb46]; go_simp) rfl rfl True.intro
        · intro V w2 HI
          have h17 : V 17 = V 16 := HI.same 17 16 (fun v => v) (by decide) (by simp)
          have h16 : (bRow r).holds (V 16) w2 := HI.get 16 (by decide) (by rfl)
          have L16 : Rg.Live (Rg.consOf [(16, 0)]) (fun i => i < 18) 16 := ⟨by decide, fun k _ hk => by have := Rg.consOf_mem hk; simp at this⟩
          have hf16 : ∀ b, (V 16).ownBlock = some b → w0.heap.size ≤ b := fun b hb => (HI.lt 16 b L16 hb).1
          have hlt := later_drew HI.later
          simp only [Rg.putList, Act.put, List.setIfInBounds_toArray, List.set_cons_zero, List.set_cons_succ, Nat.zero_add, Nat.reduceAdd]
          rw [h17]
          obtain ⟨x, hx⟩ : ∃ x, x = V 16 := ⟨_, rfl⟩
          rw [← hx] at h16 hf16 ⊢
          have HO : Hid (w2.ownsRow w.heap.size 5 1 x r.length (Lib.byteCells r)) := own_up h16 fun b hb => Nat.le_trans HW.out.size (hf16 b hb)
          have HOF : Hid (∀ b, x.ownBlock = some b → w0.heap.size ≤ b) := hf16
          have hb2 : Blk w2 g 71 [.slice A L.length cap, .int .i64 (k : Nat), .int .i64 (0 : Nat)] := HB.out.below hlt HB.out.lt
          have c0 : w2.cell? ⟨g, 0, none⟩ = some (.slice A L.length cap) := hb2.cell 0
          have c1 : w2.cell? ⟨g, 1, none⟩ = some (.int .i64 (k : Nat)) := hb2.cell 1
          have f1 : w2.frozen? ⟨g, 1, none⟩ = false := hb2.frozen 1
          have HB2 := Lib.hid hb2
          have HG := Lib.hid HB.out.lt
          have HLT := Lib.hid hlt
          clear HI hx h16 hf16 L16 h17 hlt hb2 HB HR HRD hsl
          go_wp2_with fail
          go_ret
          have e : Co.raw (q : Int) ⟨L.drop k, 0⟩ = (r, ⟨L.drop (k + q), 0⟩) := by
            unfold Co.raw
            rw [if_neg (by simp; omega), if_neg (by rw [List.length_drop]; omega)]
            simp only [Int.toNat_natCast, List.drop_drop]
            rw [← HRR.out]
          rw [e]
          exact ⟨_, rfl, own_far HO.out _ (fun h => Nat.not_le.2 HG.out (HOF.out _ h)) _, ((Keeps.of_below (HW.out.trans (HLT.out.mono HW.out.size))).setCell _ _), k + q, by have := HKR.out; omega, rfl, HB2.out.set_ 1 _⟩
  · have hw : ((why : Nat) : Int) ≠ 0 := by omega
    go_enter Tryd.func45, Tryd.ntmps45
    go_wp2_with fail
    go_ret
    have e : Co.raw n ⟨L.drop k, why⟩ = ([], ⟨L.drop k, why⟩) := by unfold Co.raw; rw [if_pos (.inl h1)]
    rw [e]
    exact ⟨_, rfl, own_nil _ _, Keeps.refl _ _, k, hk, rfl, HB.out⟩
end Go.Proofs.YtmcbpgbiephllaaDoor

namespace Go.Proofs.YtmcbpgbiephllaaDoor
open Go.RowKit
structure RIn (g : Nat) (T : TypeId) (A : Option Addr) (L : List UInt8) (cap : Nat) (s : Co.Rs) (w : World) : Prop where
  hd : RHd g T A L cap s w
  rd : Rd w A L
  off : 0 < L.length → A.map (·.block) ≠ some g
  fits : L.length ≤ cap
  small : L.length ≤ 1099511620000
theorem RHd.lt {g : Nat} {T : TypeId} {A : Option Addr} {L : List UInt8} {cap : Nat} {s : Co.Rs} {w : World} (h : RHd g T A L cap s w) : g < w.heap.size := by
  obtain ⟨_, _, _, h⟩ := h; exact h.lt
theorem RIn.next {g : Nat} {T : TypeId} {A : Option Addr} {L : List UInt8} {cap : Nat} {s s' : Co.Rs} {w w' : World} (h : RIn g T A L cap s w) (hk : Keeps w w' g) (hd : RHd g T A L cap s' w') : RIn g T A L cap s' w' :=
  ⟨hd, h.rd.keeps hk h.off, h.off, h.fits, h.small⟩
theorem RIn.below {g : Nat} {T : TypeId} {A : Option Addr} {L : List UInt8} {cap : Nat} {s : Co.Rs} {w w' : World} (h : RIn g T A L cap s w) (hb : Below w.heap.size w w') : RIn g T A L cap s w' := by
  obtain ⟨⟨k, h1, h2, h3⟩, h4, h5, h6, h7⟩ := h
  exact ⟨⟨k, h1, h2, h3.below hb h3.lt⟩, h4.below hb, h5, h6, h7⟩
def RawOut (g : Nat) (T : TypeId) (A : Option Addr) (L : List UInt8) (cap : Nat) (r : List UInt8 × Co.Rs) (w : World) (e : Ending) (w' : World) : Prop :=
  ∃ v, e = .returned v ∧ w'.ownsRow w.heap.size 5 1 v r.1.length (Lib.byteCells r.1) ∧ Keeps w w' g ∧ RIn g T A L cap r.2 w'
def NumOut (g : Nat) (T : TypeId) (A : Option Addr) (L : List UInt8) (cap : Nat) (x : Value) (s : Co.Rs) (w : World) (e : Ending) (w' : World) : Prop :=
  e = .returned x ∧ Keeps w w' g ∧ RIn g T A L cap s w'
theorem refRaw_to {g : Nat} {A : Option Addr} {L : List UInt8} {cap : Nat} {s : Co.Rs} {w : World} (h : RIn g 71 A L cap s w) (n : Int) (hn : n ≤ 1099511620000) (hn0 : -1099511620000 ≤ n) :
    Calls Tryd.prog 45 #[.pointer (some ⟨g, 0, none⟩), .int .i64 n] w (RawOut g 71 A L cap (Co.raw n s) w) := by
  obtain ⟨k, hk, hs, hb⟩ := h.hd
  obtain ⟨rem, why⟩ := s
  simp only at hs
  subst hs
  exact (refRaw_any w g A L cap k why n hb h.rd h.off hk h.fits h.small hn hn0).mono fun e w' ⟨v, h1, h2, h3, h4⟩ => ⟨v, h1, h2, h3, h.next h3 h4⟩

set_option maxHeartbeats 1000000 in
set_option maxRecDepth 100000 in
theorem refNumber_to {g : Nat} {A : Option Addr} {L : List UInt8} {cap : Nat} {s : Co.Rs} {w : World} (h : RIn g 71 A L cap s w) (n : Int) (hn : n ≤ 1099511620000) (hn0 : -1099511620000 ≤ n) :
    Calls Tryd.prog 52 #[.pointer (some ⟨g, 0, none⟩), .int .i64 n] w (NumOut g 71 A L cap (.int .u64 ((Co.num n s).1 : Nat)) (Co.num n s).2 w) := by
  have H := Lib.hid h
  clear h
  go_enter Tryd.func52, Tryd.ntmps52
  go_wp2_with fail
  refine (refRaw_to H.out n hn hn0).mono ?_
  rintro e w1 ⟨v, rfl, hown, hk, hin⟩
  obtain ⟨l, hl⟩ : ∃ l, l = (Co.raw n s).1 := ⟨_, rfl⟩
  rw [← hl] at hown
  have hsm : l.length ≤ 1099511620000 := by
    rw [hl]; unfold Co.raw
    split
    · simp
    · split
      · simp
      · obtain ⟨k, h1, h2, _⟩ := H.out.hd
        rw [List.length_take, h2, List.length_drop]
        have := H.out.small
        omega
  have HL := Lib.hid hl
  obtain ⟨X, c, rfl, hc, hr⟩ := own_form hown
  have HR := Lib.hid hr
  have HK := Lib.hid hk
  have HIN := Lib.hid hin
  clear hown hl hr hk hin hc
  go_wp2_with fail
  go_loop [6, 7] (fun t6 t7 => ∃ (k x : Nat), k ≤ l.length ∧ t7 = .int .i64 (k : Nat) ∧ t6 = .int .u64 (x : Nat) ∧ Hid (x = Co.beVal (l.take k))) (fun _ t7 => l.length - (intOf t7).toNat)
  case atStart => exact ⟨0, 0, by omega, rfl, rfl, rfl⟩
  case round =>
    obtain ⟨k, x, hk, rfl, rfl, HX⟩ := hrel
    by_cases hlt : k < l.length
    · obtain ⟨b, off, rfl, _, hcell⟩ := HR.out.at_ (by omega)
      have c0 := hcell k hlt
      obtain ⟨y, hy⟩ : ∃ y : Nat, y = (l.getD k 0).toNat := ⟨_, rfl⟩
      have hy8 : y < 256 := by rw [hy]; exact (l.getD k 0).toNat_lt
      rw [← hy] at c0
      have HY := Lib.hid hy
      have hor := Co.bits_or64 x y hy8
      obtain ⟨z, hz⟩ : ∃ z : Nat, z = (x * 256 + y) % 18446744073709551616 := ⟨_, rfl⟩
      rw [← hz] at hor
      have HZ := Lib.hid hz
      clear hcell hy hz
      go_wp2_with fail
      go_round
      case rel => exact ⟨k + 1, z, by omega, by go_num, rfl, by show _ = _; rw [Co.beVal_snoc _ _ hlt, ← HX.out, ← HY.out, HZ.out]⟩
      case measure => simp [intOf]; omega
    · obtain rfl : k = l.length := by omega
      have HF : Hid (x = Co.beVal l) := by show _ = _; rw [HX.out, List.take_length]
      clear HX
      go_wp2_with fail
      go_ret
      refine ⟨?_, HK.out, HIN.out⟩
      rw [HF.out, HL.out]
      rfl

set_option maxHeartbeats 1000000 in
theorem refByteR_to {g : Nat} {A : Option Addr} {L : List UInt8} {cap : Nat} {s : Co.Rs} {w : World} (h : RIn g 71 A L cap s w) :
    Calls Tryd.prog 42 #[.pointer (some ⟨g, 0, none⟩)] w (NumOut g 71 A L cap (.int .i64 ((Co.num 1 s).1 : Nat)) (Co.num 1 s).2 w) := by
  have H := Lib.hid h
  have hs := num_small1 s
  clear h
  go_enter Tryd.func42, Tryd.ntmps42
  go_wp2_with fail
  refine (refNumber_to H.out 1 (by omega) (by omega)).mono ?_
  rintro e w1 ⟨rfl, hk, hin⟩
  have HK := Lib.hid hk
  have HIN := Lib.hid hin
  obtain ⟨x, hx⟩ : ∃ x, x = (Co.num 1 s).1 := ⟨_, rfl⟩
  rw [← hx] at hs ⊢
  have HX := Lib.hid hx
  clear hk hin hx
  go_wp2_with fail
  go_ret
  exact ⟨by rw [← HX.out]; rfl, HK.out, HIN.out⟩
set_option maxHeartbeats 1000000 in
theorem refShortR_to {g : Nat} {A : Option Addr} {L : List UInt8} {cap : Nat} {s : Co.Rs} {w : World} (h : RIn g 71 A L cap s w) :
    Calls Tryd.prog 53 #[.pointer (some ⟨g, 0, none⟩)] w (NumOut g 71 A L cap (.int .i64 ((Co.num 2 s).1 : Nat)) (Co.num 2 s).2 w) := by
  have H := Lib.hid h
  have hs := num_small2 s
  clear h
  go_enter Tryd.func53, Tryd.ntmps53
  go_wp2_with fail
  refine (refNumber_to H.out 2 (by omega) (by omega)).mono ?_
  rintro e w1 ⟨rfl, hk, hin⟩
  have HK := Lib.hid hk
  have HIN := Lib.hid hin
  obtain ⟨x, hx⟩ : ∃ x, x = (Co.num 2 s).1 := ⟨_, rfl⟩
  rw [← hx] at hs ⊢
  have HX := Lib.hid hx
  clear hk hin hx
  go_wp2_with fail
  go_ret
  exact ⟨by rw [← HX.out]; rfl, HK.out, HIN.out⟩
set_option maxHeartbeats 1000000 in
theorem refLongR_to {g : Nat} {A : Option Addr} {L : List UInt8} {cap : Nat} {s : Co.Rs} {w : World} (h : RIn g 71 A L cap s w) :
    Calls Tryd.prog 43 #[.pointer (some ⟨g, 0, none⟩)] w (NumOut g 71 A L cap (.int .u64 ((Co.num 8 s).1 : Nat)) (Co.num 8 s).2 w) := by
  have H := Lib.hid h
  clear h
  go_enter Tryd.func43, Tryd.ntmps43
  go_wp2_with fail
  refine (refNumber_to H.out 8 (by omega) (by omega)).mono ?_
  rintro e w1 ⟨rfl, hk, hin⟩
  have HK := Lib.hid hk
  have HIN := Lib.hid hin
  obtain ⟨x, hx⟩ : ∃ x, x = (Co.num 8 s).1 := ⟨_, rfl⟩
  rw [← hx]
  have HX := Lib.hid hx
  clear hk hin hx
  go_wp2_with fail
  go_ret
  exact ⟨by rw [← HX.out]; rfl, HK.out, HIN.out⟩
end Go.Proofs.YtmcbpgbiephllaaDoor

namespace Go.Proofs.YtmcbpgbiephllaaDoor
open Go.RowKit

set_option maxHeartbeats 1000000 in
theorem refBytesR_to {g : Nat} {A : Option Addr} {L : List UInt8} {cap : Nat} {s : Co.Rs} {w : World} (h : RIn g 71 A L cap s w) :
    Calls Tryd.prog 44 #[.pointer (some ⟨g, 0, none⟩)] w (RawOut g 71 A L cap (Co.bytes s) w) := by
  have H := Lib.hid h
  have hs := num_small2 s
  clear h
  go_enter Tryd.func44, Tryd.ntmps44
  go_wp2_with fail
  refine (refShortR_to H.out).mono ?_
  rintro e w1 ⟨rfl, hk, hin⟩
  have HK := Lib.hid hk
  have HIN := Lib.hid hin
  obtain ⟨x, hx⟩ : ∃ x, x = (Co.num 2 s).1 := ⟨_, rfl⟩
  rw [← hx] at hs ⊢
  have HX := Lib.hid hx
  clear hk hin hx
  go_wp2_with fail
  refine (refRaw_to HIN.out (x : Int) (by omega) (by omega)).mono ?_
  rintro e w2 ⟨v, rfl, hown, hk, hin⟩
  have HF : Hid (RawOut g 71 A L cap (Co.bytes s) w (.returned v) w2) := by
    refine ⟨v, rfl, ?_, HK.out.trans hk, ?_⟩
    · have := own_mono hown HK.out.size
      rw [HX.out] at this
      exact this
    · have := hin
      rw [HX.out] at this
      exact this
  clear hown hk hin
  go_wp2_with fail
  go_ret
  exact HF.out

end Go.Proofs.YtmcbpgbiephllaaDoor

namespace Go.Proofs.YtmcbpgbiephllaaDoor
open Go.RowKit Rc
theorem RHd.keep {g : Nat} {T : TypeId} {A : Option Addr} {L : List UInt8} {cap : Nat} {s : Co.Rs} {w w' : World} (h : RHd g T A L cap s w) (hb : w'.heap[g]? = w.heap[g]?) : RHd g T A L cap s w' := by
  obtain ⟨k, h1, h2, h3⟩ := h
  exact ⟨k, h1, h2, hb.trans h3⟩

end Go.Proofs.YtmcbpgbiephllaaDoor

namespace Go.Proofs.YtmcbpgbiephllaaDoor
open Go.RowKit Rc

end Go.Proofs.YtmcbpgbiephllaaDoor

namespace Go.Proofs.YtmcbpgbiephllaaDoor
open Go.RowKit Rc

def WAt (C : WSaid) (v : Value) (w0 : World) (l : List UInt8) (w : World) : Prop := ∃ S, C.At v l S w ∧ Below w0.heap.size w0 w ∧ ∀ b, S b → w0.heap.size ≤ b
def WRet (C : WSaid) (v : Value) (w0 : World) (l : List UInt8) (e : Ending) (w : World) : Prop := (∃ x, e = .returned x) ∧ Hid (WAt C v w0 l w)
section
variable {C : WSaid} {v : Value} {w0 w : World} {l : List UInt8}
theorem WAt.out {S : Nat → Prop} {l' : List UInt8} {e : Ending} {w' : World} (hb : Below w0.heap.size w0 w) (hS : ∀ b, S b → w0.heap.size ≤ b) (h : WOut C.At v l' S w e w') : WRet C v w0 l' e w' := by
  obtain ⟨hx, S', hat, hm, hs⟩ := h
  exact ⟨hx, S', hat, wout_below hb hS hm, fun b h => (hs b h).elim (hS b) (fun h => Nat.le_trans hb.size h)⟩
theorem WAt.byte (h : WAt C v w0 l w) (hl : l.length ≤ 1099511500000) (n : Nat) (hn : n ≤ 9223372036854775807) : Calls Tryd.prog 27 #[v, .int .i64 (n : Nat)] w (WRet C v w0 (l ++ Co.wByte n)) := by
  obtain ⟨S, hat, hb, hS⟩ := h
  exact (C.byte hat hl n hn).mono fun e w' h => WAt.out hb hS h
theorem WAt.short (h : WAt C v w0 l w) (hl : l.length ≤ 1099511500000) (n : Nat) (hn : n ≤ 9223372036854775807) : Calls Tryd.prog 32 #[v, .int .i64 (n : Nat)] w (WRet C v w0 (l ++ Co.wShort n)) := by
  obtain ⟨S, hat, hb, hS⟩ := h
  exact (C.short hat hl n hn).mono fun e w' h => WAt.out hb hS h
theorem WAt.long (h : WAt C v w0 l w) (hl : l.length ≤ 1099511500000) (n : Nat) (hn : n ≤ 18446744073709551615) : Calls Tryd.prog 28 #[v, .int .u64 (n : Nat)] w (WRet C v w0 (l ++ Co.wLong n)) := by
  obtain ⟨S, hat, hb, hS⟩ := h
  exact (C.long hat hl n hn).mono fun e w' h => WAt.out hb hS h
theorem WAt.bytes (h : WAt C v w0 l w) (hl : l.length ≤ 1099511500000) (A : Option Addr) (x : List UInt8) (c : Nat) (hr : Rd w0 A x) (hc : x.length ≤ c) (hx : x.length ≤ 1000000) : Calls Tryd.prog 29 #[v, .slice A x.length c] w (WRet C v w0 (l ++ Co.wBytes x)) := by
  obtain ⟨S, hat, hb, hS⟩ := h
  refine (C.bytes hat hl A x c (hr.below hb) hc hx fun h0 b hA hB => ?_).mono fun e w' h => WAt.out hb hS h
  obtain ⟨b', off, rfl, hlt, _⟩ := hr h0
  simp at hA
  have := hS b hB
  omega
theorem WAt.low (h : WAt C v w0 l w) : Below w0.heap.size w0 w := by obtain ⟨_, _, h, _⟩ := h; exact h
theorem WAt.more {w' : World} (h : WAt C v w0 l w) (hb : Below w.heap.size w w') : WAt C v w0 l w' := by
  obtain ⟨S, hat, hb0, hS⟩ := h
  exact ⟨S, C.keep hat hb.size (fun b hB => hb.block b (C.lt hat b hB)), hb0.trans (hb.mono hb0.size), hS⟩
theorem WAt.done (h : WAt C v w0 l w) : Calls Tryd.prog 31 #[v] w fun e w' => ∃ X c, e = .returned (.slice X l.length c) ∧ l.length ≤ c ∧ Hid (w'.ownsRow 0 5 1 (.slice X l.length c) l.length (Lib.byteCells l)) ∧ Hid (∀ b, (Value.slice X l.length c).ownBlock = some b → w0.heap.size ≤ b) ∧ Hid (Below w.heap.size w w') ∧ Hid (WAt C v w0 l w') := by
  have h' := h
  obtain ⟨S, hat, hb, hS⟩ := h
  refine (C.done hat).mono ?_
  rintro e w' ⟨x, rfl, hown, hb2, ho⟩
  obtain ⟨X, c, rfl, hc, hr⟩ := own_form hown
  exact ⟨X, c, rfl, hc, hown, fun b hb3 => (ho b hb3).elim (hS b) (fun h => Nat.le_trans hb.size h), hb2, h'.more hb2⟩
end
end Go.Proofs.YtmcbpgbiephllaaDoor

namespace Go.Proofs.YtmcbpgbiephllaaDoor
open Go.RowKit Rc

end Go.Proofs.YtmcbpgbiephllaaDoor

namespace Go.Proofs.YtmcbpgbiephllaaDoor
open Go.RowKit

theorem cells_byte (n : Int) : Lib.byteCells (Co.wByte (n % 256).toNat) = [.int .u8 (IntKind.u8.wrap n)] := by
  simp only [Co.wByte, Lib.byteCells, List.map_cons, List.map_nil, u8_cast, IntKind.wrap_u8]
  have h2 : (((n % 256).toNat : Nat) : Int) % 256 = n % 256 := by omega
  rw [h2]
set_option maxHeartbeats 1000000 in
set_option maxRecDepth 100000 in
theorem refByte_int (w : World) (l : List UInt8) (A : Option Addr) (cap : Nat) (n : Int) (hr : Rd w A l) (hl : l.length ≤ 1099511620000) (_hn0 : -9223372036854775808 ≤ n) (_hn : n ≤ 9223372036854775807) :
    Calls Tryd.prog 19 #[.slice A l.length cap, .int .i64 n] w fun e w' => ∃ v, e = .returned v ∧ w'.ownsRow w.heap.size 5 1 v (l.length + 1) (Lib.byteCells (l ++ Co.wByte (n % 256).toNat)) ∧ Below w.heap.size w w' := by
  obtain ⟨i0, hi, hz0, hz1, hz2⟩ := info_parts Tryd.infoU8
  have HI0 := Lib.hid hi
  have HZ0 := Lib.hid hz0
  have HZ1 := Lib.hid hz1
  have HZ2 := Lib.hid hz2
  have H0 : Hid (MAt w.heap.size (.slice (some ⟨w.heap.size, 0, none⟩) 0 0) [] w (w.alloc (.cells #[] 5))) := MAt.empty w
  have HRW : Hid (Rd (w.alloc (.cells #[] 5)) A l) := hr.below (below_new w _)
  clear hi hz0 hz1 hz2 hr
  go_enter Tryd.func19, Tryd.ntmps19
  go_wp2_with (first
    | (at_builtin; refine wpList_append_rd rfl (.tmp 5) (.tmp 6) 25 rfl w.heap.size 5 i0 Tryd.underlying25 HI0.out HZ0.out HZ1.out HZ2.out _ 0 [] rfl H0.out.1 A l l.length cap rfl rfl HRW.out (by omega) (by rw [World.size_alloc]; omega) ?_; intro v1 w1 HO1 HG1; have H1 : Hid (MAt w.heap.size v1 l w w1) := H0.out.push (Below.refl _ _) HO1.out HG1.out)
    | (at_builtin; refine wpList_append_rd rfl (.tmp 7) (.tmp 10) 25 rfl w.heap.size 5 i0 Tryd.underlying25 HI0.out HZ0.out HZ1.out HZ2.out v1 l.length (Lib.byteCells l) rfl (H1.out.own (below_new w1 _)) (some ⟨w1.heap.size, 0, none⟩) (Co.wByte (n % 256).toNat) 1 1 rfl rfl (rd_cells w1 (Co.wByte (n % 256).toNat) _ _ _ (by rw [cells_byte]; simp [IntKind.wrap_u8])) (by simp [Co.wByte]; omega) (by rw [World.size_alloc]; have := H1.out.2.1.size; omega) ?_; intro v2 w2 HO2 HG2; have H2 : Hid (MAt w.heap.size v2 (l ++ Co.wByte (n % 256).toNat) w w2) := H1.out.push (below_new w1 _) HO2.out HG2.out))
  clear HO1 HG1 HO2 HG2
  go_ret
  refine ⟨_, rfl, ?_, H2.out.2.1⟩
  have := H2.out.1
  rw [List.length_append] at this
  exact this

end Go.Proofs.YtmcbpgbiephllaaDoor

namespace Go.Proofs.YtmcbpgbiephllaaDoor
open Go.RowKit

end Go.Proofs.YtmcbpgbiephllaaDoor

namespace Go.Proofs.YtmcbpgbiephllaaDoor
open Go.RowKit Rc

section
variable {id kind links size : Int} {till : Nat} {shut : Bool}
end
end Go.Proofs.YtmcbpgbiephllaaDoor

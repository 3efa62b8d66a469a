/-
  OWN WORK. KpPure, PtWithin, KpName, BaCut, Ag2, KpTame, OpEq, BaBig, CpClone
-/
import Derived.Test.YtmcbpgbiephllaaK06
import Derived.Test.YtmcbpgbiephllaaK01
import Derived.OwnWalk
import Derived.Test.YtmcbpgbiephllaaK02
import Derived.Lib.SliceRun

namespace Go.Proofs.Ytmcbpgbiephllaa
open Go.RowKit
namespace St
def allNames : List Bs := [[47, 97], [47, 98], [47, 99], [47, 97, 47, 97], [47, 97, 47, 98], [47, 98, 47, 97], [47, 98, 47, 98, 47, 97], [47], [47, 99, 47, 97], [47, 98, 47, 98], [47, 65], [97], [47, 97, 47, 47, 98], [47, 97, 47]]
def name (n : Int) : Bs := allNames.getD (n % 1048577 % 14).toNat []
theorem name_short (n : Int) : (name n).length ≤ 6 := by
  unfold name
  rw [List.getD_eq_getElem?_getD]
  cases h : allNames[(n % 1048577 % 14).toNat]? with
  | none => simp
  | some x =>
    have hx := List.mem_of_getElem? h
    have : ∀ y ∈ allNames, y.length ≤ 6 := by decide
    exact this x hx
def tame (o : Opn) : Opn :=
  ⟨o.kind, name (IntKind.i64.wrap ((o.path.length : Nat) + o.at_.tmod 7)), name (IntKind.i64.wrap ((o.dest.length : Nat) + o.n.tmod 7)), o.fd % 4, o.at_ % 51, o.n % 61, o.till % 12, if (o.kind = 3 ∨ o.kind = 11 ∨ o.kind = 12) ∧ o.snap.tmod 3 ≠ 0 then 0 else o.snap % 5, o.data.take 40⟩
end St
end Go.Proofs.Ytmcbpgbiephllaa

namespace Go.Proofs.Ytmcbpgbiephllaa
open Go.RowKit
namespace Wi

theorem emod_of_tmod (n d : Int) (h : 0 < d) : (n.tmod d < 0 → n % d = n.tmod d + d) ∧ (¬ n.tmod d < 0 → n % d = n.tmod d) := by
  have l1 := Int.lt_tmod_of_pos n h
  have l2 := Int.tmod_lt_of_pos n h
  have e : n.tmod d % d = n % d := by rw [Int.tmod_def, Int.sub_mul_emod_self_left]
  constructor
  · intro hn
    rw [← e, ← Int.add_emod_right]
    exact Int.emod_eq_of_lt (by omega) (by omega)
  · intro hn
    rw [← e]
    exact Int.emod_eq_of_lt (by omega) (by omega)

def within0 (n : Int) (m : Nat) : Nat := (n % ((m : Int) + 1)).toNat

theorem within0_le (n : Int) (m : Nat) : within0 n m ≤ m := by
  have := Int.emod_lt_of_pos n (b := (m : Int) + 1) (by omega)
  unfold within0; omega

theorem within0_cast (n : Int) (m : Nat) : ((within0 n m : Nat) : Int) = n % ((m : Int) + 1) := by
  have := Int.emod_nonneg n (b := (m : Int) + 1) (by omega)
  unfold within0; omega

theorem within_any (n : Int) (m : Nat) (w : World) (h2 : m ≤ 2000000) (_hn0 : -9223372036854775808 ≤ n) (_hn1 : n ≤ 9223372036854775807) :
    Calls Try.prog 18 #[.int .i64 n, .int .i64 0, .int .i64 m] w fun e w' => e = .returned (.int .i64 (within0 n m)) ∧ w = w' := by
  have l1 := Int.lt_tmod_of_pos n (b := (m : Int) + 1) (by omega)
  have l2 := Int.tmod_lt_of_pos n (b := (m : Int) + 1) (by omega)
  have em := emod_of_tmod n ((m : Int) + 1) (by omega)
  by_cases hn : n.tmod ((m : Int) + 1) < 0
  · have HD : Hid (((within0 n m : Nat) : Int) = n.tmod ((m : Int) + 1) + m + 1) := by
      show _ = _
      rw [within0_cast, em.1 hn]
      omega
    clear em
    go_enter Try.func18, Try.ntmps18
    go_wp2
    go_ret
    exact ⟨ret_num HD.out, rfl⟩
  · have HD : Hid (((within0 n m : Nat) : Int) = n.tmod ((m : Int) + 1)) := by
      show _ = _
      rw [within0_cast, em.2 hn]
    clear em
    go_enter Try.func18, Try.ntmps18
    go_wp2
    go_ret
    exact ⟨ret_num HD.out, rfl⟩

end Wi
end Go.Proofs.Ytmcbpgbiephllaa

namespace Go.Proofs.Ytmcbpgbiephllaa
open Go.RowKit
namespace Kp
set_option maxHeartbeats 2000000 in
set_option maxRecDepth 100000 in
theorem name_any (n : Int) (h0 : -9223372036854775808 ≤ n) (h1 : n ≤ 9223372036854775807) (w : World) : Calls Try.prog 44 #[.int .i64 n] w fun e w' => e = .returned (.string (strOf (St.name n))) ∧ Below w.heap.size w w' := by
  obtain ⟨k, hk⟩ : ∃ k, k = Wi.within0 n 1048576 % 14 := ⟨_, rfl⟩
  have hk14 : k < 14 := by omega
  have hnm : St.name n = St.allNames.getD k [] := by
    unfold St.name
    have := Wi.within0_cast n 1048576
    have e : (n % 1048577 % 14).toNat = k := by rw [hk]; omega
    rw [e]
  obtain ⟨W0, hW0⟩ : ∃ W0, W0 = w.alloc (.cells #[.string { data := #[47, 97] }, .string { data := #[47, 98] }, .string { data := #[47, 99] }, .string { data := #[47, 97, 47, 97] }, .string { data := #[47, 97, 47, 98] }, .string { data := #[47, 98, 47, 97] }, .string { data := #[47, 98, 47, 98, 47, 97] }, .string { data := #[47] }, .string { data := #[47, 99, 47, 97] }, .string { data := #[47, 98, 47, 98] }, .string { data := #[47, 65] }, .string { data := #[97] }, .string { data := #[47, 97, 47, 47, 98] }, .string { data := #[47, 97, 47] }] 9) := ⟨_, rfl⟩
  have c0 : W0.cell? ⟨w.heap.size, k, none⟩ = some (.string (strOf (St.name n))) := by
    rw [hnm, hW0]
    have hc : ∀ j, (w.alloc (.cells #[.string { data := #[47, 97] }, .string { data := #[47, 98] }, .string { data := #[47, 99] }, .string { data := #[47, 97, 47, 97] }, .string { data := #[47, 97, 47, 98] }, .string { data := #[47, 98, 47, 97] }, .string { data := #[47, 98, 47, 98, 47, 97] }, .string { data := #[47] }, .string { data := #[47, 99, 47, 97] }, .string { data := #[47, 98, 47, 98] }, .string { data := #[47, 65] }, .string { data := #[97] }, .string { data := #[47, 97, 47, 47, 98] }, .string { data := #[47, 97, 47] }] 9)).cell? ⟨w.heap.size, j, none⟩ = (#[.string { data := #[47, 97] }, .string { data := #[47, 98] }, .string { data := #[47, 99] }, .string { data := #[47, 97, 47, 97] }, .string { data := #[47, 97, 47, 98] }, .string { data := #[47, 98, 47, 97] }, .string { data := #[47, 98, 47, 98, 47, 97] }, .string { data := #[47] }, .string { data := #[47, 99, 47, 97] }, .string { data := #[47, 98, 47, 98] }, .string { data := #[47, 65] }, .string { data := #[97] }, .string { data := #[47, 97, 47, 47, 98] }, .string { data := #[47, 97, 47] }] : Array Value)[j]? := fun j => by
      unfold World.cell?
      rw [heap_alloc_new]
      rfl
    rw [hc]
    have : k = 0 ∨ k = 1 ∨ k = 2 ∨ k = 3 ∨ k = 4 ∨ k = 5 ∨ k = 6 ∨ k = 7 ∨ k = 8 ∨ k = 9 ∨ k = 10 ∨ k = 11 ∨ k = 12 ∨ k = 13 := by omega
    clear hnm hk hk14 hc
    rcases this with rfl | rfl | rfl | rfl | rfl | rfl | rfl | rfl | rfl | rfl | rfl | rfl | rfl | rfl
    all_goals rfl
  have hb : Below w.heap.size w W0 := by rw [hW0]; exact below_new w _
  have HB := Lib.hid hb
  have HWI : Hid (∀ W, Calls Try.prog 18 #[.int .i64 n, .int .i64 0, .int .i64 1048576] W fun e w' => e = .returned (.int .i64 (Wi.within0 n 1048576)) ∧ W = w') := fun W => Wi.within_any n 1048576 W (by decide) h0 h1
  obtain ⟨q, hq⟩ : ∃ q, q = Wi.within0 n 1048576 := ⟨_, rfl⟩
  rw [← hq] at HWI hk
  have hrm : ((q : Int)).tmod 14 = (k : Int) := by rw [hk]; exact (Int.ofNat_tmod q 14).symm
  have hlt : (k : Int) < 14 := by omega
  have hge : (0 : Int) ≤ (k : Int) := by omega
  clear hk hnm hq hb h0 h1
  go_enter Try.func44, Try.ntmps44
  go_upto_region 2 with (fail)
  rw [← hW0]
  clear hW0
  go_wp2_with fail
  refine (HWI.out W0).mono ?_
  rintro e _ ⟨rfl, rfl⟩
  clear HWI
  go_wp2_with fail
  go_ret
  exact ⟨rfl, HB.out⟩
end Kp
end Go.Proofs.Ytmcbpgbiephllaa

namespace Go.Proofs.Ytmcbpgbiephllaa
open Go.RowKit

theorem cut_any (A : Option Addr) (l : List UInt8) (cap n : Nat) (hc : l.length ≤ cap) (_hn : n ≤ 1000000) (_hl : l.length ≤ 9223372036854775807) (w : World) :
    Calls Try.prog 19 #[.slice A l.length cap, .int .i64 n] w fun e w' => e = .returned (.slice A (l.take n).length cap) ∧ w = w' := by
  by_cases h : n < l.length
  · have HD : Hid ((l.take n).length = n) := by show _ = _; rw [List.length_take]; omega
    have hsl := fun W => sl_h W A l.length cap n (by omega)
    go_enter Try.func19, Try.ntmps19
    go_wp2
    go_ret
    exact ⟨by rw [HD.out]; rfl, rfl⟩
  · have HD : Hid ((l.take n).length = l.length) := by show _ = _; rw [List.length_take]; omega
    go_enter Try.func19, Try.ntmps19
    go_wp2
    go_ret
    exact ⟨by rw [HD.out]; rfl, rfl⟩

end Go.Proofs.Ytmcbpgbiephllaa

namespace Go.Proofs.Ytmcbpgbiephllaa
open Go.RowKit Rc
namespace Ag2
def bx (T : TypeId) (cs : List Value) : Rc.Fact := ⟨fun x w S => ∃ g, x = .pointer (some ⟨g, 0, none⟩) ∧ Blk w g T cs ∧ S g, fun _ _ _ _ h _ hb => by
  obtain ⟨g, h1, h2, h3⟩ := h
  exact ⟨g, h1, (hb g h3).trans h2, h3⟩⟩
section
variable {F : Nat → Rc.Fact} {cons : List (Nat × Nat)} {E : Nat → (Nat → Value) → Value → Prop} {V : Nat → Value} {S : Nat → Nat → Prop} {j : Nat} {o : Oper} {b : Act} {w : World}
theorem step_alloc (T : TypeId) (cs : List Value) (hF : F j = bx T cs) (hE : ∀ v, E j V v) (hg : Rg.Open o V) (hrun : (execOp b.eval o).run Try.prog w = .ok (.value (.pointer (some ⟨w.heap.size, 0, none⟩))) (w.alloc (.cells cs.toArray T))) : Rg.Does1 Try.prog o V b w (Rc.Good F cons E V S j w) := by
  refine Rc.step_new (.pointer (some ⟨w.heap.size, 0, none⟩)) (w.alloc (.cells cs.toArray T)) (fun k => k = w.heap.size) (hE _) hg hrun (below_new _ _) ?_ (fun k hk => ⟨by omega, by rw [World.size_alloc]; omega⟩)
  rw [hF]
  exact ⟨w.heap.size, rfl, Blk.new w _ _, rfl⟩
theorem step_put (T : TypeId) {n0 : Nat} {cs : List Value} (cs' : List Value) (x y : Operand) (ho : o.op = .store T x y) (hd : o.dst = none) (hx : b.eval x = V n0) (hy : b.eval y = .agg cs'.toArray) (hF : F j = bx T cs') (hc : (j, n0) ∈ cons) (h0 : (bx T cs).holds (V n0) w (S n0)) (hE : E j V (V n0)) (hg : Rg.Open o V)
    (hi : (Try.prog.info? T).map (·.size) = some cs'.toArray.size) (hold : cs.toArray.size = cs'.toArray.size) (h1 : cs'.toArray.all (·.oneCell') = true) : Rg.Does1 Try.prog o V b w (Rc.Good F cons E V S j w) := by
  obtain ⟨g, hv, hb, hS⟩ := h0
  refine .of hg fun K hK => ?_
  refine wp_store_row T x y ho g cs'.toArray (hx.trans hv) hy T cs.toArray hb hi hold h1 ?_
  have h9 := hK (V n0) (w.setRow g cs'.toArray) ⟨fun k => k = g, ?_, ?_, fun k hk => ⟨.inl ⟨n0, hc, by subst hk; exact hS⟩, ?_⟩, hE⟩
  · rw [hd] at h9 ⊢
    exact h9
  · exact ⟨rfl, rfl, rfl, by simp [World.setRow], fun k hk hn => setRow_other w g k _ (fun e => hn ⟨n0, hc, by subst e; exact hS⟩)⟩
  · rw [hF]
    exact ⟨g, hv, hb.row cs', rfl⟩
  · subst hk
    have := hb.lt
    simpa [World.setRow] using this
end
end Ag2
end Go.Proofs.Ytmcbpgbiephllaa

namespace Go.Proofs.Ytmcbpgbiephllaa
open Go.RowKit Rc
namespace Kp
theorem set9 {w : World} {g : Nat} {t : TypeId} {a0 a1 a2 a3 a4 a5 a6 a7 a8 : Value} (h : Blk w g t [a0, a1, a2, a3, a4, a5, a6, a7, a8]) (x0 x1 x2 x3 x4 x5 x6 x7 x8 : Value) : Blk (((((((((w.setCell ⟨g, 0, none⟩ x0).setCell ⟨g, 1, none⟩ x1).setCell ⟨g, 2, none⟩ x2).setCell ⟨g, 3, none⟩ x3).setCell ⟨g, 4, none⟩ x4).setCell ⟨g, 5, none⟩ x5).setCell ⟨g, 6, none⟩ x6).setCell ⟨g, 7, none⟩ x7).setCell ⟨g, 8, none⟩ x8) g t [x0, x1, x2, x3, x4, x5, x6, x7, x8] :=
  ((((((((h.set_ 0 x0).set_ 1 x1).set_ 2 x2).set_ 3 x3).set_ 4 x4).set_ 5 x5).set_ 6 x6).set_ 7 x7).set_ 8 x8
theorem set9_below {w0 w : World} {B g : Nat} (h : Below B w0 w) (hg : B ≤ g) (x0 x1 x2 x3 x4 x5 x6 x7 x8 : Value) : Below B w0 (((((((((w.setCell ⟨g, 0, none⟩ x0).setCell ⟨g, 1, none⟩ x1).setCell ⟨g, 2, none⟩ x2).setCell ⟨g, 3, none⟩ x3).setCell ⟨g, 4, none⟩ x4).setCell ⟨g, 5, none⟩ x5).setCell ⟨g, 6, none⟩ x6).setCell ⟨g, 7, none⟩ x7).setCell ⟨g, 8, none⟩ x8) :=
  below_set1 (below_set1 (below_set1 (below_set1 (below_set1 (below_set1 (below_set1 (below_set1 (below_set1 h hg 0 x0) hg 1 x1) hg 2 x2) hg 3 x3) hg 4 x4) hg 5 x5) hg 6 x6) hg 7 x7) hg 8 x8
theorem results_blk1 {P : Program} {fn : Func} {p : Tmp} {ty : TypeId} (h : fn.results = #[.cell p ty]) (tmps : Array Value) (w : World) (g : Nat) (t : TypeId) (cs : List Value) (d : TypeDesc)
    (hp : tmps.getD p undef = .pointer (some ⟨g, 0, none⟩)) (hb : Blk w g t cs)
    (hu : P.underlying ty = some d) (hd : (match d with | .struct _ | .array _ _ => true | _ => false) = true) (hi : (P.info? ty).map (·.size) = some cs.length) :
    (results fn tmps).run P w = .ok (.agg cs.toArray) w :=
  results_cell_row h tmps w g t cs.toArray (0, 0) d hp hb hu hd (by simpa using hi)
theorem wrap_in (x : Int) : -9223372036854775808 ≤ IntKind.i64.wrap x ∧ IntKind.i64.wrap x ≤ 9223372036854775807 := by
  rw [IntKind.wrap_i64]
  omega
def lit (o : St.Opn) (dv : Value) : Value := .agg #[.int .i64 o.kind, .string (strOf o.path), .string (strOf o.dest), .int .i64 o.fd, .int .i64 o.at_, .int .i64 o.n, .int .u64 (o.till : Nat), .int .i64 o.snap, dv]
theorem with_in (n : Int) (m : Nat) (k : Nat) (hm : m ≤ 2000000) (h0 : -9223372036854775808 ≤ n) (h1 : n ≤ 9223372036854775807) (hk : k = Wi.within0 n m) (w : World) : Calls Try.prog 18 #[.int .i64 n, .int .i64 0, .int .i64 m] w fun e w' => e = .returned (.int .i64 (k : Nat)) ∧ Below w.heap.size w w' := by
  subst hk
  exact (Wi.within_any n m w hm h0 h1).mono fun e w' ⟨h, hw⟩ => by subst hw; exact ⟨h, Below.refl _ _⟩
set_option maxHeartbeats 4000000 in
set_option maxRecDepth 100000 in
theorem tame_any (o : St.Opn) (hfd : -9223372036854775808 ≤ o.fd ∧ o.fd ≤ 9223372036854775807) (hat : -9223372036854775808 ≤ o.at_ ∧ o.at_ ≤ 9223372036854775807) (hn : -9223372036854775808 ≤ o.n ∧ o.n ≤ 9223372036854775807) (hsn : -9223372036854775808 ≤ o.snap ∧ o.snap ≤ 9223372036854775807) (hlp : o.path.length ≤ 9223372036854775807) (hld : o.dest.length ≤ 9223372036854775807) (hdl : o.data.length ≤ 9223372036854775807) (A : Option Addr) (c : Nat) (hc : o.data.length ≤ c) (w : World) :
    Calls Try.prog 17 #[lit o (.slice A o.data.length c)] w fun e w' => e = .returned (lit (St.tame o) (.slice A (St.tame o).data.length c)) ∧ Below w.heap.size w w' := by
  obtain ⟨kind, path, dest, fd, at_, n, till, snap, data⟩ := o
  unfold lit St.tame
  dsimp only at hfd hat hn hsn hlp hld hdl hc ⊢
  obtain ⟨x1, hx1⟩ : ∃ x, x = IntKind.i64.wrap ((path.length : Nat) + at_.tmod 7) := ⟨_, rfl⟩
  obtain ⟨x2, hx2⟩ : ∃ x, x = IntKind.i64.wrap ((dest.length : Nat) + n.tmod 7) := ⟨_, rfl⟩
  rw [← hx1, ← hx2]
  obtain ⟨na, hna⟩ : ∃ x, x = St.name x1 := ⟨_, rfl⟩
  obtain ⟨nb, hnb⟩ : ∃ x, x = St.name x2 := ⟨_, rfl⟩
  rw [← hna, ← hnb]
  obtain ⟨f4, hf4⟩ : ∃ x, x = Wi.within0 fd 3 := ⟨_, rfl⟩
  obtain ⟨a51, ha51⟩ : ∃ x, x = Wi.within0 at_ 50 := ⟨_, rfl⟩
  obtain ⟨n61, hn61⟩ : ∃ x, x = Wi.within0 n 60 := ⟨_, rfl⟩
  obtain ⟨s5, hs5⟩ : ∃ x, x = Wi.within0 snap 4 := ⟨_, rfl⟩
  obtain ⟨t12, ht12⟩ : ∃ x, x = till % 12 := ⟨_, rfl⟩
  obtain ⟨dl, hdl2⟩ : ∃ x, x = data.take 40 := ⟨_, rfl⟩
  have e1 : fd % 4 = (f4 : Int) := by rw [hf4, Wi.within0_cast]; rfl
  have e2 : at_ % 51 = (a51 : Int) := by rw [ha51, Wi.within0_cast]; rfl
  have e3 : n % 61 = (n61 : Int) := by rw [hn61, Wi.within0_cast]; rfl
  have e4 : snap % 5 = (s5 : Int) := by rw [hs5, Wi.within0_cast]; rfl
  rw [e1, e2, e3, e4, ← ht12, ← hdl2]
  obtain ⟨sv, hsv⟩ : ∃ x : Int, x = (if (kind = 3 ∨ kind = 11 ∨ kind = 12) ∧ snap.tmod 3 ≠ 0 then (0 : Int) else (s5 : Nat)) := ⟨_, rfl⟩
  rw [← hsv]
  have HSV := Lib.hid hsv
  clear hsv
  have b1 : -9223372036854775808 ≤ x1 ∧ x1 ≤ 9223372036854775807 := by rw [hx1]; exact wrap_in _
  have b2 : -9223372036854775808 ≤ x2 ∧ x2 ≤ 9223372036854775807 := by rw [hx2]; exact wrap_in _
  have HNA : Hid (∀ W, Calls Try.prog 44 #[.int .i64 x1] W fun e w' => e = .returned (.string (strOf na)) ∧ Below W.heap.size W w') := fun W => by rw [hna]; exact name_any x1 b1.1 b1.2 W
  have HNB : Hid (∀ W, Calls Try.prog 44 #[.int .i64 x2] W fun e w' => e = .returned (.string (strOf nb)) ∧ Below W.heap.size W w') := fun W => by rw [hnb]; exact name_any x2 b2.1 b2.2 W
  have HF4 : Hid (∀ W, Calls Try.prog 18 #[.int .i64 fd, .int .i64 0, .int .i64 3] W fun e w' => e = .returned (.int .i64 (f4 : Nat)) ∧ Below W.heap.size W w') := fun W => with_in fd 3 f4 (by decide) hfd.1 hfd.2 hf4 W
  have HA51 : Hid (∀ W, Calls Try.prog 18 #[.int .i64 at_, .int .i64 0, .int .i64 50] W fun e w' => e = .returned (.int .i64 (a51 : Nat)) ∧ Below W.heap.size W w') := fun W => with_in at_ 50 a51 (by decide) hat.1 hat.2 ha51 W
  have HN61 : Hid (∀ W, Calls Try.prog 18 #[.int .i64 n, .int .i64 0, .int .i64 60] W fun e w' => e = .returned (.int .i64 (n61 : Nat)) ∧ Below W.heap.size W w') := fun W => with_in n 60 n61 (by decide) hn.1 hn.2 hn61 W
  have HS5 : Hid (∀ W, Calls Try.prog 18 #[.int .i64 snap, .int .i64 0, .int .i64 4] W fun e w' => e = .returned (.int .i64 (s5 : Nat)) ∧ Below W.heap.size W w') := fun W => with_in snap 4 s5 (by decide) hsn.1 hsn.2 hs5 W
  have HCU : Hid (∀ W, Calls Try.prog 19 #[.slice A data.length c, .int .i64 40] W fun e w' => e = .returned (.slice A dl.length c) ∧ Below W.heap.size W w') := fun W => by
    rw [hdl2]
    exact (cut_any A data c 40 hc (by decide) hdl W).mono fun e w' h => ⟨h.1, by rw [h.2]; exact Below.refl _ _⟩
  have HX1 : Hid (IntKind.i64.wrap ((path.length : Nat) + at_.tmod 7) = x1) := hx1.symm
  have HX2 : Hid (IntKind.i64.wrap ((dest.length : Nat) + n.tmod 7) = x2) := hx2.symm
  have HS1 : Hid ((strOf path).size = path.length) := strOf_size path
  have HS2 : Hid ((strOf dest).size = dest.length) := strOf_size dest
  have HT12 : Hid (((till : Nat) : Int).tmod 12 = (t12 : Nat)) := by show _ = _; rw [ht12]; exact (Int.ofNat_tmod till 12).symm
  obtain ⟨V0, hV0⟩ : ∃ V0, V0 = w.alloc (.cells #[.int .i64 kind, .string (strOf path), .string (strOf dest), .int .i64 fd, .int .i64 at_, .int .i64 n, .int .u64 (till : Nat), .int .i64 snap, .slice A data.length c] 25) := ⟨_, rfl⟩
  obtain ⟨W0, hW0⟩ : ∃ W0, W0 = V0.alloc (.cells #[.int .i64 0, .string ⟨#[]⟩, .string ⟨#[]⟩, .int .i64 0, .int .i64 0, .int .i64 0, .int .u64 0, .int .i64 0, .slice none 0 0] 25) := ⟨_, rfl⟩
  obtain ⟨g, hg⟩ : ∃ g, g = w.heap.size := ⟨_, rfl⟩
  have hz : Blk V0 g 25 [.int .i64 kind, .string (strOf path), .string (strOf dest), .int .i64 fd, .int .i64 at_, .int .i64 n, .int .u64 (till : Nat), .int .i64 snap, .slice A data.length c] := by rw [hV0, hg]; exact Blk.new w _ _
  have HZ0 : Hid (Blk W0 g 25 [.int .i64 kind, .string (strOf path), .string (strOf dest), .int .i64 fd, .int .i64 at_, .int .i64 n, .int .u64 (till : Nat), .int .i64 snap, .slice A data.length c]) := by show Blk _ _ _ _; rw [hW0]; exact hz.alloc _
  have HR0 : Hid (Blk W0 (g + 1) 25 [.int .i64 0, .string ⟨#[]⟩, .string ⟨#[]⟩, .int .i64 0, .int .i64 0, .int .i64 0, .int .u64 0, .int .i64 0, .slice none 0 0]) := by
    show Blk _ _ _ _
    rw [hW0, show g + 1 = V0.heap.size by rw [hV0, World.size_alloc, hg]]
    exact Blk.new V0 _ _
  have HB0 : Hid (Below w.heap.size w W0) := by show Below _ _ _; rw [hW0, hV0]; exact (below_new w _).trans ((below_new _ _).mono (by rw [World.size_alloc]; omega))
  have HGG : Hid (w.heap.size ≤ g) := Nat.le_of_eq hg.symm
  clear hz hna hnb hf4 ha51 hn61 hs5 ht12 e1 e2 e3 e4 hx1 hx2 b1 b2 hfd hat hn hsn hlp hld hdl hc hdl2
  go_enter Try.func17, Try.ntmps17
  go_upto_region 1 with (fail)
  rw [← hV0, ← hW0, ← hg]
  clear hV0 hW0 hg
  refine Rc.wp_region (by kernel_rfl) (fun opn => List.getD [Rc.val (.pointer (some ⟨g, 0, none⟩)), Rc.val (.int .i64 kind), Rc.val (.pointer (some ⟨g, 1, none⟩)), Rc.val (.string (strOf path)), Rc.val (.int .i64 (path.length : Nat)), Rc.val (.pointer (some ⟨g, 4, none⟩)), Rc.val (.int .i64 at_), Rc.val (.int .i64 (at_.tmod 7)), Rc.val (.int .i64 x1), Rc.val (.string (strOf na)), Rc.val (.pointer (some ⟨g, 2, none⟩)), Rc.val (.string (strOf dest)), Rc.val (.int .i64 (dest.length : Nat)), Rc.val (.pointer (some ⟨g, 5, none⟩)), Rc.val (.int .i64 n), Rc.val (.int .i64 (n.tmod 7)), Rc.val (.int .i64 x2), Rc.val (.string (strOf nb)), Rc.val (.pointer (some ⟨g, 3, none⟩)), Rc.val (.int .i64 fd), Rc.val (.int .i64 (f4 : Nat)), Rc.val (.pointer (some ⟨g, 4, none⟩)), Rc.val (.int .i64 at_), Rc.val (.int .i64 (a51 : Nat)), Rc.val (.pointer (some ⟨g, 5, none⟩)), Rc.val (.int .i64 n), Rc.val (.int .i64 (n61 : Nat)), Rc.val (.pointer (some ⟨g, 6, none⟩)), Rc.val (.int .u64 (till : Nat)), Rc.val (.int .u64 (t12 : Nat)), Rc.val (.pointer (some ⟨g, 7, none⟩)), Rc.val (.int .i64 snap), Rc.val (.int .i64 (s5 : Nat)), Rc.val (.pointer (some ⟨g, 8, none⟩)), Rc.val (.slice A data.length c), Rc.val (.slice A dl.length c), Rc.val (.agg #[.int .i64 kind, .string (strOf na), .string (strOf nb), .int .i64 (f4 : Nat), .int .i64 (a51 : Nat), .int .i64 (n61 : Nat), .int .u64 (t12 : Nat), .int .i64 (s5 : Nat), .slice A dl.length c]), Ag2.bx 25 [.int .i64 0, .string ⟨#[]⟩, .string ⟨#[]⟩, .int .i64 0, .int .i64 0, .int .i64 0, .int .u64 0, .int .i64 0, .slice none 0 0], Ag2.bx 25 [.int .i64 kind, .string (strOf na), .string (strOf nb), .int .i64 (f4 : Nat), .int .i64 (a51 : Nat), .int .i64 (n61 : Nat), .int .u64 (t12 : Nat), .int .i64 (s5 : Nat), .slice A dl.length c]] opn Rc.any) 0 [(38, 37, fun v => v)] [[], [(0, 4)], [], [(2, 6)], [(3, 7)], [], [(5, 9)], [(6, 10)], [(4, 8), (7, 11)], [(8, 12)], [], [(10, 14)], [(11, 15)], [], [(13, 17)], [(14, 18)], [(12, 16), (15, 19)], [(16, 20)], [], [(18, 22)], [(19, 23)], [], [(21, 25)], [(22, 26)], [], [(24, 28)], [(25, 29)], [], [(27, 31)], [(28, 32)], [], [(30, 34)], [(31, 35)], [], [(33, 37)], [(34, 38)], [(1, 5), (9, 13), (17, 21), (20, 24), (23, 27), (26, 30), (29, 33), (32, 36), (35, 39)], [], [(37, 3), (36, 40)]] [[], [0], [], [2], [3], [], [5], [6], [4, 7], [8], [], [10], [11], [], [13], [14], [12, 15], [16], [], [18], [19], [], [21], [22], [], [24], [25], [], [27], [28], [], [30], [31], [], [33], [34], [1, 9, 17, 20, 23, 26, 29, 32, 35], [], [36, 37]] [[], [0], [], [2], [3], [], [5], [6], [4, 7], [8], [], [10], [11], [], [13], [14], [12, 15], [16], [], [18], [19], [], [21], [22], [], [24], [25], [], [27], [28], [], [30], [31], [], [33], [34], [1, 9, 17, 20, 23, 26, 29, 32, 35], [], [37, 36]] [(38, 37)] (by kernel_rfl) (by rfl) (by kernel_rfl) (fun _ => False) (fun _ _ => False) Rc.Inv.none ?_ ?_
  · intro fr ha
    have hz : fr.tmps.size = 60 := by rw [ha]; rfl
    have y1 : fr.eval (.tmp 1) = .pointer (some ⟨g, 0, none⟩) := by rw [ha]; rfl
    clear ha
    refine .cons ?_ (.cons ?_ (.cons ?_ (.cons ?_ (.cons ?_ (.cons ?_ (.cons ?_ (.cons ?_ (.cons ?_ (.cons ?_ (.cons ?_ (.cons ?_ (.cons ?_ (.cons ?_ (.cons ?_ (.cons ?_ (.cons ?_ (.cons ?_ (.cons ?_ (.cons ?_ (.cons ?_ (.cons ?_ (.cons ?_ (.cons ?_ (.cons ?_ (.cons ?_ (.cons ?_ (.cons ?_ (.cons ?_ (.cons ?_ (.cons ?_ (.cons ?_ (.cons ?_ (.cons ?_ (.cons ?_ (.cons ?_ (.cons ?_ (.cons ?_ (.cons ?_ (.nil)))))))))))))))))))))))))))))))))))))))
    · intro V S w2 HM HU HE
      have lw : Below W0.heap.size W0 w2 := Rc.Mod.below HM (fun _ h => h.elim)
      have tb1 : (Rg.putUse V [] fr).eval (.tmp 1) = .pointer (some ⟨g, 0, none⟩) := (Rg.use_eval V fr 1 [] (by simp only [hz]; decide)).trans y1
      show Rg.Does1 _ _ V (Rg.putUse V [] fr) w2 _
      exact Ob.rc_mv (.pointer (some ⟨g, 0, none⟩)) (by simp only [execOp, tb1]; go_simp) rfl rfl True.intro
    · intro V S w2 HM HU HE
      have lw : Below W0.heap.size W0 w2 := Rc.Mod.below HM (fun _ h => h.elim)
      have h0 : V 0 = .pointer (some ⟨g, 0, none⟩) := HU.holds 0 (by decide)
      have tb4 : (Rg.putUse V [(0, 4)] fr).eval (.tmp 4) = .pointer (some ⟨g, 0, none⟩) := (Rg.use_eval V fr 4 [(0, 4)] (by simp only [hz]; decide)).trans h0
      show Rg.Does1 _ _ V (Rg.putUse V [(0, 4)] fr) w2 _
      have cl := (lw.cell (p := ⟨g, 0, none⟩) HZ0.out.lt).trans (HZ0.out.cell 0)
      exact Ob.rc_mv (.int .i64 kind) (by simp only [execOp, tb4]; go_simp) rfl rfl True.intro
    · intro V S w2 HM HU HE
      have lw : Below W0.heap.size W0 w2 := Rc.Mod.below HM (fun _ h => h.elim)
      have tb1 : (Rg.putUse V [] fr).eval (.tmp 1) = .pointer (some ⟨g, 0, none⟩) := (Rg.use_eval V fr 1 [] (by simp only [hz]; decide)).trans y1
      show Rg.Does1 _ _ V (Rg.putUse V [] fr) w2 _
      exact Ob.rc_mv (.pointer (some ⟨g, 1, none⟩)) (by simp only [execOp, tb1]; go_simp) rfl rfl True.intro
    · intro V S w2 HM HU HE
      have lw : Below W0.heap.size W0 w2 := Rc.Mod.below HM (fun _ h => h.elim)
      have h2 : V 2 = .pointer (some ⟨g, 1, none⟩) := HU.holds 2 (by decide)
      have tb6 : (Rg.putUse V [(2, 6)] fr).eval (.tmp 6) = .pointer (some ⟨g, 1, none⟩) := (Rg.use_eval V fr 6 [(2, 6)] (by simp only [hz]; decide)).trans h2
      show Rg.Does1 _ _ V (Rg.putUse V [(2, 6)] fr) w2 _
      have cl := (lw.cell (p := ⟨g, 1, none⟩) HZ0.out.lt).trans (HZ0.out.cell 1)
      exact Ob.rc_mv (.string (strOf path)) (by simp only [execOp, tb6]; go_simp) rfl rfl True.intro
    · intro V S w2 HM HU HE
      have lw : Below W0.heap.size W0 w2 := Rc.Mod.below HM (fun _ h => h.elim)
      have h3 : V 3 = .string (strOf path) := HU.holds 3 (by decide)
      have tb7 : (Rg.putUse V [(3, 7)] fr).eval (.tmp 7) = .string (strOf path) := (Rg.use_eval V fr 7 [(3, 7)] (by simp only [hz]; decide)).trans h3
      show Rg.Does1 _ _ V (Rg.putUse V [(3, 7)] fr) w2 _
      have hsz := HS1.out
      exact Ob.rc_mv (.int .i64 (path.length : Nat)) (by simp only [execOp, resolve, List.map_toArray, List.map_cons, List.map_nil, tb7]; go_simp) rfl rfl True.intro
    · intro V S w2 HM HU HE
      have lw : Below W0.heap.size W0 w2 := Rc.Mod.below HM (fun _ h => h.elim)
      have tb1 : (Rg.putUse V [] fr).eval (.tmp 1) = .pointer (some ⟨g, 0, none⟩) := (Rg.use_eval V fr 1 [] (by simp only [hz]; decide)).trans y1
      show Rg.Does1 _ _ V (Rg.putUse V [] fr) w2 _
      exact Ob.rc_mv (.pointer (some ⟨g, 4, none⟩)) (by simp only [execOp, tb1]; go_simp) rfl rfl True.intro
    · intro V S w2 HM HU HE
      have lw : Below W0.heap.size W0 w2 := Rc.Mod.below HM (fun _ h => h.elim)
      have h5 : V 5 = .pointer (some ⟨g, 4, none⟩) := HU.holds 5 (by decide)
      have tb9 : (Rg.putUse V [(5, 9)] fr).eval (.tmp 9) = .pointer (some ⟨g, 4, none⟩) := (Rg.use_eval V fr 9 [(5, 9)] (by simp only [hz]; decide)).trans h5
      show Rg.Does1 _ _ V (Rg.putUse V [(5, 9)] fr) w2 _
      have cl := (lw.cell (p := ⟨g, 4, none⟩) HZ0.out.lt).trans (HZ0.out.cell 4)
      exact Ob.rc_mv (.int .i64 at_) (by simp only [execOp, tb9]; go_simp) rfl rfl True.intro
    · intro V S w2 HM HU HE
      have lw : Below W0.heap.size W0 w2 := Rc.Mod.below HM (fun _ h => h.elim)
      have h6 : V 6 = .int .i64 at_ := HU.holds 6 (by decide)
      have tb10 : (Rg.putUse V [(6, 10)] fr).eval (.tmp 10) = .int .i64 at_ := (Rg.use_eval V fr 10 [(6, 10)] (by simp only [hz]; decide)).trans h6
      show Rg.Does1 _ _ V (Rg.putUse V [(6, 10)] fr) w2 _
      exact Ob.rc_mv (.int .i64 (at_.tmod 7)) (by simp only [execOp, tb10]; go_simp) rfl rfl True.intro
    · intro V S w2 HM HU HE
      have lw : Below W0.heap.size W0 w2 := Rc.Mod.below HM (fun _ h => h.elim)
      have h4 : V 4 = .int .i64 (path.length : Nat) := HU.holds 4 (by decide)
      have tb8 : (Rg.putUse V [(4, 8), (7, 11)] fr).eval (.tmp 8) = .int .i64 (path.length : Nat) := (Rg.use_eval V fr 8 [(4, 8), (7, 11)] (by simp only [hz]; decide)).trans h4
      have h7 : V 7 = .int .i64 (at_.tmod 7) := HU.holds 7 (by decide)
      have tb11 : (Rg.putUse V [(4, 8), (7, 11)] fr).eval (.tmp 11) = .int .i64 (at_.tmod 7) := (Rg.use_eval V fr 11 [(4, 8), (7, 11)] (by simp only [hz]; decide)).trans h7
      show Rg.Does1 _ _ V (Rg.putUse V [(4, 8), (7, 11)] fr) w2 _
      have hx1 := HX1.out
      exact Ob.rc_mv (.int .i64 x1) (by simp only [execOp, tb8, tb11]; go_simp) rfl rfl True.intro
    · intro V S w2 HM HU HE
      have lw : Below W0.heap.size W0 w2 := Rc.Mod.below HM (fun _ h => h.elim)
      have h8 : V 8 = .int .i64 x1 := HU.holds 8 (by decide)
      have tb12 : (Rg.putUse V [(8, 12)] fr).eval (.tmp 12) = .int .i64 x1 := (Rg.use_eval V fr 12 [(8, 12)] (by simp only [hz]; decide)).trans h8
      show Rg.Does1 _ _ V (Rg.putUse V [(8, 12)] fr) w2 _
      exact Ob.step_tell (.string (strOf na)) #[.int .i64 x1] (fun args w => Rg.call_enter Try.func44 (by kernel_rfl) (by kernel_rfl) args w) rfl (by simp only [List.map_toArray, List.map_cons, List.map_nil, tb12]) rfl (fun x => Rg.alias_none rfl V x) True.intro (HNA.out w2)
    · intro V S w2 HM HU HE
      have lw : Below W0.heap.size W0 w2 := Rc.Mod.below HM (fun _ h => h.elim)
      have tb1 : (Rg.putUse V [] fr).eval (.tmp 1) = .pointer (some ⟨g, 0, none⟩) := (Rg.use_eval V fr 1 [] (by simp only [hz]; decide)).trans y1
      show Rg.Does1 _ _ V (Rg.putUse V [] fr) w2 _
      exact Ob.rc_mv (.pointer (some ⟨g, 2, none⟩)) (by simp only [execOp, tb1]; go_simp) rfl rfl True.intro
    · intro V S w2 HM HU HE
      have lw : Below W0.heap.size W0 w2 := Rc.Mod.below HM (fun _ h => h.elim)
      have h10 : V 10 = .pointer (some ⟨g, 2, none⟩) := HU.holds 10 (by decide)
      have tb14 : (Rg.putUse V [(10, 14)] fr).eval (.tmp 14) = .pointer (some ⟨g, 2, none⟩) := (Rg.use_eval V fr 14 [(10, 14)] (by simp only [hz]; decide)).trans h10
      show Rg.Does1 _ _ V (Rg.putUse V [(10, 14)] fr) w2 _
      have cl := (lw.cell (p := ⟨g, 2, none⟩) HZ0.out.lt).trans (HZ0.out.cell 2)
      exact Ob.rc_mv (.string (strOf dest)) (by simp only [execOp, tb14]; go_simp) rfl rfl True.intro
    · intro V S w2 HM HU HE
      have lw : Below W0.heap.size W0 w2 := Rc.Mod.below HM (fun _ h => h.elim)
      have h11 : V 11 = .string (strOf dest) := HU.holds 11 (by decide)
      have tb15 : (Rg.putUse V [(11, 15)] fr).eval (.tmp 15) = .string (strOf dest) := (Rg.use_eval V fr 15 [(11, 15)] (by simp only [hz]; decide)).trans h11
      show Rg.Does1 _ _ V (Rg.putUse V [(11, 15)] fr) w2 _
      have hsz := HS2.out
      exact Ob.rc_mv (.int .i64 (dest.length : Nat)) (by simp only [execOp, resolve, List.map_toArray, List.map_cons, List.map_nil, tb15]; go_simp) rfl rfl True.intro
    · intro V S w2 HM HU HE
      have lw : Below W0.heap.size W0 w2 := Rc.Mod.below HM (fun _ h => h.elim)
      have tb1 : (Rg.putUse V [] fr).eval (.tmp 1) = .pointer (some ⟨g, 0, none⟩) := (Rg.use_eval V fr 1 [] (by simp only [hz]; decide)).trans y1
      show Rg.Does1 _ _ V (Rg.putUse V [] fr) w2 _
      exact Ob.rc_mv (.pointer (some ⟨g, 5, none⟩)) (by simp only [execOp, tb1]; go_simp) rfl rfl True.intro
    · intro V S w2 HM HU HE
      have lw : Below W0.heap.size W0 w2 := Rc.Mod.below HM (fun _ h => h.elim)
      have h13 : V 13 = .pointer (some ⟨g, 5, none⟩) := HU.holds 13 (by decide)
      have tb17 : (Rg.putUse V [(13, 17)] fr).eval (.tmp 17) = .pointer (some ⟨g, 5, none⟩) := (Rg.use_eval V fr 17 [(13, 17)] (by simp only [hz]; decide)).trans h13
      show Rg.Does1 _ _ V (Rg.putUse V [(13, 17)] fr) w2 _
      have cl := (lw.cell (p := ⟨g, 5, none⟩) HZ0.out.lt).trans (HZ0.out.cell 5)
      exact Ob.rc_mv (.int .i64 n) (by simp only [execOp, tb17]; go_simp) rfl rfl True.intro
    · intro V S w2 HM HU HE
      have lw : Below W0.heap.size W0 w2 := Rc.Mod.below HM (fun _ h => h.elim)
      have h14 : V 14 = .int .i64 n := HU.holds 14 (by decide)
      have tb18 : (Rg.putUse V [(14, 18)] fr).eval (.tmp 18) = .int .i64 n := (Rg.use_eval V fr 18 [(14, 18)] (by simp only [hz]; decide)).trans h14
      show Rg.Does1 _ _ V (Rg.putUse V [(14, 18)] fr) w2 _
      exact Ob.rc_mv (.int .i64 (n.tmod 7)) (by simp only [execOp, tb18]; go_simp) rfl rfl True.intro
    · intro V S w2 HM HU HE
      have lw : Below W0.heap.size W0 w2 := Rc.Mod.below HM (fun _ h => h.elim)
      have h12 : V 12 = .int .i64 (dest.length : Nat) := HU.holds 12 (by decide)
      have tb16 : (Rg.putUse V [(12, 16), (15, 19)] fr).eval (.tmp 16) = .int .i64 (dest.length : Nat) := (Rg.use_eval V fr 16 [(12, 16), (15, 19)] (by simp only [hz]; decide)).trans h12
      have h15 : V 15 = .int .i64 (n.tmod 7) := HU.holds 15 (by decide)
      have tb19 : (Rg.putUse V [(12, 16), (15, 19)] fr).eval (.tmp 19) = .int .i64 (n.tmod 7) := (Rg.use_eval V fr 19 [(12, 16), (15, 19)] (by simp only [hz]; decide)).trans h15
      show Rg.Does1 _ _ V (Rg.putUse V [(12, 16), (15, 19)] fr) w2 _
      have hx2 := HX2.out
      exact Ob.rc_mv (.int .i64 x2) (by simp only [execOp, tb16, tb19]; go_simp) rfl rfl True.intro
    · intro V S w2 HM HU HE
      have lw : Below W0.heap.size W0 w2 := Rc.Mod.below HM (fun _ h => h.elim)
      have h16 : V 16 = .int .i64 x2 := HU.holds 16 (by decide)
      have tb20 : (Rg.putUse V [(16, 20)] fr).eval (.tmp 20) = .int .i64 x2 := (Rg.use_eval V fr 20 [(16, 20)] (by simp only [hz]; decide)).trans h16
      show Rg.Does1 _ _ V (Rg.putUse V [(16, 20)] fr) w2 _
      exact Ob.step_tell (.string (strOf nb)) #[.int .i64 x2] (fun args w => Rg.call_enter Try.func44 (by kernel_rfl) (by kernel_rfl) args w) rfl (by simp only [List.map_toArray, List.map_cons, List.map_nil, tb20]) rfl (fun x => Rg.alias_none rfl V x) True.intro (HNB.out w2)
    · intro V S w2 HM HU HE
      have lw : Below W0.heap.size W0 w2 := Rc.Mod.below HM (fun _ h => h.elim)
      have tb1 : (Rg.putUse V [] fr).eval (.tmp 1) = .pointer (some ⟨g, 0, none⟩) := (Rg.use_eval V fr 1 [] (by simp only [hz]; decide)).trans y1
      show Rg.Does1 _ _ V (Rg.putUse V [] fr) w2 _
      exact Ob.rc_mv (.pointer (some ⟨g, 3, none⟩)) (by simp only [execOp, tb1]; go_simp) rfl rfl True.intro
    · intro V S w2 HM HU HE
      have lw : Below W0.heap.size W0 w2 := Rc.Mod.below HM (fun _ h => h.elim)
      have h18 : V 18 = .pointer (some ⟨g, 3, none⟩) := HU.holds 18 (by decide)
      have tb22 : (Rg.putUse V [(18, 22)] fr).eval (.tmp 22) = .pointer (some ⟨g, 3, none⟩) := (Rg.use_eval V fr 22 [(18, 22)] (by simp only [hz]; decide)).trans h18
      show Rg.Does1 _ _ V (Rg.putUse V [(18, 22)] fr) w2 _
      have cl := (lw.cell (p := ⟨g, 3, none⟩) HZ0.out.lt).trans (HZ0.out.cell 3)
      exact Ob.rc_mv (.int .i64 fd) (by simp only [execOp, tb22]; go_simp) rfl rfl True.intro
    · intro V S w2 HM HU HE
      have lw : Below W0.heap.size W0 w2 := Rc.Mod.below HM (fun _ h => h.elim)
      have h19 : V 19 = .int .i64 fd := HU.holds 19 (by decide)
      have tb23 : (Rg.putUse V [(19, 23)] fr).eval (.tmp 23) = .int .i64 fd := (Rg.use_eval V fr 23 [(19, 23)] (by simp only [hz]; decide)).trans h19
      show Rg.Does1 _ _ V (Rg.putUse V [(19, 23)] fr) w2 _
      exact Ob.step_tell (.int .i64 (f4 : Nat)) #[.int .i64 fd, .int .i64 0, .int .i64 3] (fun args w => Rg.call_enter Try.func18 (by kernel_rfl) (by kernel_rfl) args w) rfl (by simp only [List.map_toArray, List.map_cons, List.map_nil, Rg.eval_const, tb23]) rfl (fun x => Rg.alias_none rfl V x) True.intro (HF4.out w2)
    · intro V S w2 HM HU HE
      have lw : Below W0.heap.size W0 w2 := Rc.Mod.below HM (fun _ h => h.elim)
      have tb1 : (Rg.putUse V [] fr).eval (.tmp 1) = .pointer (some ⟨g, 0, none⟩) := (Rg.use_eval V fr 1 [] (by simp only [hz]; decide)).trans y1
      show Rg.Does1 _ _ V (Rg.putUse V [] fr) w2 _
      exact Ob.rc_mv (.pointer (some ⟨g, 4, none⟩)) (by simp only [execOp, tb1]; go_simp) rfl rfl True.intro
    · intro V S w2 HM HU HE
      have lw : Below W0.heap.size W0 w2 := Rc.Mod.below HM (fun _ h => h.elim)
      have h21 : V 21 = .pointer (some ⟨g, 4, none⟩) := HU.holds 21 (by decide)
      have tb25 : (Rg.putUse V [(21, 25)] fr).eval (.tmp 25) = .pointer (some ⟨g, 4, none⟩) := (Rg.use_eval V fr 25 [(21, 25)] (by simp only [hz]; decide)).trans h21
      show Rg.Does1 _ _ V (Rg.putUse V [(21, 25)] fr) w2 _
      have cl := (lw.cell (p := ⟨g, 4, none⟩) HZ0.out.lt).trans (HZ0.out.cell 4)
      exact Ob.rc_mv (.int .i64 at_) (by simp only [execOp, tb25]; go_simp) rfl rfl True.intro
    · intro V S w2 HM HU HE
      have lw : Below W0.heap.size W0 w2 := Rc.Mod.below HM (fun _ h => h.elim)
      have h22 : V 22 = .int .i64 at_ := HU.holds 22 (by decide)
      have tb26 : (Rg.putUse V [(22, 26)] fr).eval (.tmp 26) = .int .i64 at_ := (Rg.use_eval V fr 26 [(22, 26)] (by simp only [hz]; decide)).trans h22
      show Rg.Does1 _ _ V (Rg.putUse V [(22, 26)] fr) w2 _
      exact Ob.step_tell (.int .i64 (a51 : Nat)) #[.int .i64 at_, .int .i64 0, .int .i64 50] (fun args w => Rg.call_enter Try.func18 (by kernel_rfl) (by kernel_rfl) args w) rfl (by simp only [List.map_toArray, List.map_cons, List.map_nil, Rg.eval_const, tb26]) rfl (fun x => Rg.alias_none rfl V x) True.intro (HA51.out w2)
    · intro V S w2 HM HU HE
      have lw : Below W0.heap.size W0 w2 := Rc.Mod.below HM (fun _ h => h.elim)
      have tb1 : (Rg.putUse V [] fr).eval (.tmp 1) = .pointer (some ⟨g, 0, none⟩) := (Rg.use_eval V fr 1 [] (by simp only [hz]; decide)).trans y1
      show Rg.Does1 _ _ V (Rg.putUse V [] fr) w2 _
      exact Ob.rc_mv (.pointer (some ⟨g, 5, none⟩)) (by simp only [execOp, tb1]; go_simp) rfl rfl True.intro
    · intro V S w2 HM HU HE
      have lw : Below W0.heap.size W0 w2 := Rc.Mod.below HM (fun _ h => h.elim)
      have h24 : V 24 = .pointer (some ⟨g, 5, none⟩) := HU.holds 24 (by decide)
      have tb28 : (Rg.putUse V [(24, 28)] fr).eval (.tmp 28) = .pointer (some ⟨g, 5, none⟩) := (Rg.use_eval V fr 28 [(24, 28)] (by simp only [hz]; decide)).trans h24
      show Rg.Does1 _ _ V (Rg.putUse V [(24, 28)] fr) w2 _
      have cl := (lw.cell (p := ⟨g, 5, none⟩) HZ0.out.lt).trans (HZ0.out.cell 5)
      exact Ob.rc_mv (.int .i64 n) (by simp only [execOp, tb28]; go_simp) rfl rfl True.intro
    · intro V S w2 HM HU HE
      have lw : Below W0.heap.size W0 w2 := Rc.Mod.below HM (fun _ h => h.elim)
      have h25 : V 25 = .int .i64 n := HU.holds 25 (by decide)
      have tb29 : (Rg.putUse V [(25, 29)] fr).eval (.tmp 29) = .int .i64 n := (Rg.use_eval V fr 29 [(25, 29)] (by simp only [hz]; decide)).trans h25
      show Rg.Does1 _ _ V (Rg.putUse V [(25, 29)] fr) w2 _
      exact Ob.step_tell (.int .i64 (n61 : Nat)) #[.int .i64 n, .int .i64 0, .int .i64 60] (fun args w => Rg.call_enter Try.func18 (by kernel_rfl) (by kernel_rfl) args w) rfl (by simp only [List.map_toArray, List.map_cons, List.map_nil, Rg.eval_const, tb29]) rfl (fun x => Rg.alias_none rfl V x) True.intro (HN61.out w2)
    · intro V S w2 HM HU HE
      have lw : Below W0.heap.size W0 w2 := Rc.Mod.below HM (fun _ h => h.elim)
      have tb1 : (Rg.putUse V [] fr).eval (.tmp 1) = .pointer (some ⟨g, 0, none⟩) := (Rg.use_eval V fr 1 [] (by simp only [hz]; decide)).trans y1
      show Rg.Does1 _ _ V (Rg.putUse V [] fr) w2 _
      exact Ob.rc_mv (.pointer (some ⟨g, 6, none⟩)) (by simp only [execOp, tb1]; go_simp) rfl rfl True.intro
    · intro V S w2 HM HU HE
      have lw : Below W0.heap.size W0 w2 := Rc.Mod.below HM (fun _ h => h.elim)
      have h27 : V 27 = .pointer (some ⟨g, 6, none⟩) := HU.holds 27 (by decide)
      have tb31 : (Rg.putUse V [(27, 31)] fr).eval (.tmp 31) = .pointer (some ⟨g, 6, none⟩) := (Rg.use_eval V fr 31 [(27, 31)] (by simp only [hz]; decide)).trans h27
      show Rg.Does1 _ _ V (Rg.putUse V [(27, 31)] fr) w2 _
      have cl := (lw.cell (p := ⟨g, 6, none⟩) HZ0.out.lt).trans (HZ0.out.cell 6)
      exact Ob.rc_mv (.int .u64 (till : Nat)) (by simp only [execOp, tb31]; go_simp) rfl rfl True.intro
    · intro V S w2 HM HU HE
      have lw : Below W0.heap.size W0 w2 := Rc.Mod.below HM (fun _ h => h.elim)
      have h28 : V 28 = .int .u64 (till : Nat) := HU.holds 28 (by decide)
      have tb32 : (Rg.putUse V [(28, 32)] fr).eval (.tmp 32) = .int .u64 (till : Nat) := (Rg.use_eval V fr 32 [(28, 32)] (by simp only [hz]; decide)).trans h28
      show Rg.Does1 _ _ V (Rg.putUse V [(28, 32)] fr) w2 _
      have ht12 := HT12.out
      exact Ob.rc_mv (.int .u64 (t12 : Nat)) (by simp only [execOp, tb32]; go_simp) rfl rfl True.intro
    · intro V S w2 HM HU HE
      have lw : Below W0.heap.size W0 w2 := Rc.Mod.below HM (fun _ h => h.elim)
      have tb1 : (Rg.putUse V [] fr).eval (.tmp 1) = .pointer (some ⟨g, 0, none⟩) := (Rg.use_eval V fr 1 [] (by simp only [hz]; decide)).trans y1
      show Rg.Does1 _ _ V (Rg.putUse V [] fr) w2 _
      exact Ob.rc_mv (.pointer (some ⟨g, 7, none⟩)) (by simp only [execOp, tb1]; go_simp) rfl rfl True.intro
    · intro V S w2 HM HU HE
      have lw : Below W0.heap.size W0 w2 := Rc.Mod.below HM (fun _ h => h.elim)
      have h30 : V 30 = .pointer (some ⟨g, 7, none⟩) := HU.holds 30 (by decide)
      have tb34 : (Rg.putUse V [(30, 34)] fr).eval (.tmp 34) = .pointer (some ⟨g, 7, none⟩) := (Rg.use_eval V fr 34 [(30, 34)] (by simp only [hz]; decide)).trans h30
      show Rg.Does1 _ _ V (Rg.putUse V [(30, 34)] fr) w2 _
      have cl := (lw.cell (p := ⟨g, 7, none⟩) HZ0.out.lt).trans (HZ0.out.cell 7)
      exact Ob.rc_mv (.int .i64 snap) (by simp only [execOp, tb34]; go_simp) rfl rfl True.intro
    · intro V S w2 HM HU HE
      have lw : Below W0.heap.size W0 w2 := Rc.Mod.below HM (fun _ h => h.elim)
      have h31 : V 31 = .int .i64 snap := HU.holds 31 (by decide)
      have tb35 : (Rg.putUse V [(31, 35)] fr).eval (.tmp 35) = .int .i64 snap := (Rg.use_eval V fr 35 [(31, 35)] (by simp only [hz]; decide)).trans h31
      show Rg.Does1 _ _ V (Rg.putUse V [(31, 35)] fr) w2 _
      exact Ob.step_tell (.int .i64 (s5 : Nat)) #[.int .i64 snap, .int .i64 0, .int .i64 4] (fun args w => Rg.call_enter Try.func18 (by kernel_rfl) (by kernel_rfl) args w) rfl (by simp only [List.map_toArray, List.map_cons, List.map_nil, Rg.eval_const, tb35]) rfl (fun x => Rg.alias_none rfl V x) True.intro (HS5.out w2)
    · intro V S w2 HM HU HE
      have lw : Below W0.heap.size W0 w2 := Rc.Mod.below HM (fun _ h => h.elim)
      have tb1 : (Rg.putUse V [] fr).eval (.tmp 1) = .pointer (some ⟨g, 0, none⟩) := (Rg.use_eval V fr 1 [] (by simp only [hz]; decide)).trans y1
      show Rg.Does1 _ _ V (Rg.putUse V [] fr) w2 _
      exact Ob.rc_mv (.pointer (some ⟨g, 8, none⟩)) (by simp only [execOp, tb1]; go_simp) rfl rfl True.intro
    · intro V S w2 HM HU HE
      have lw : Below W0.heap.size W0 w2 := Rc.Mod.below HM (fun _ h => h.elim)
      have h33 : V 33 = .pointer (some ⟨g, 8, none⟩) := HU.holds 33 (by decide)
      have tb37 : (Rg.putUse V [(33, 37)] fr).eval (.tmp 37) = .pointer (some ⟨g, 8, none⟩) := (Rg.use_eval V fr 37 [(33, 37)] (by simp only [hz]; decide)).trans h33
      show Rg.Does1 _ _ V (Rg.putUse V [(33, 37)] fr) w2 _
      have cl := (lw.cell (p := ⟨g, 8, none⟩) HZ0.out.lt).trans (HZ0.out.cell 8)
      exact Ob.rc_mv (.slice A data.length c) (by simp only [execOp, tb37]; go_simp) rfl rfl True.intro
    · intro V S w2 HM HU HE
      have lw : Below W0.heap.size W0 w2 := Rc.Mod.below HM (fun _ h => h.elim)
      have h34 : V 34 = .slice A data.length c := HU.holds 34 (by decide)
      have tb38 : (Rg.putUse V [(34, 38)] fr).eval (.tmp 38) = .slice A data.length c := (Rg.use_eval V fr 38 [(34, 38)] (by simp only [hz]; decide)).trans h34
      show Rg.Does1 _ _ V (Rg.putUse V [(34, 38)] fr) w2 _
      exact Ob.step_tell (.slice A dl.length c) #[.slice A data.length c, .int .i64 40] (fun args w => Rg.call_enter Try.func19 (by kernel_rfl) (by kernel_rfl) args w) rfl (by simp only [List.map_toArray, List.map_cons, List.map_nil, Rg.eval_const, tb38]) rfl (fun x => Rg.alias_none rfl V x) True.intro (HCU.out w2)
    · intro V S w2 HM HU HE
      have lw : Below W0.heap.size W0 w2 := Rc.Mod.below HM (fun _ h => h.elim)
      have h1 : V 1 = .int .i64 kind := HU.holds 1 (by decide)
      have tb5 : (Rg.putUse V [(1, 5), (9, 13), (17, 21), (20, 24), (23, 27), (26, 30), (29, 33), (32, 36), (35, 39)] fr).eval (.tmp 5) = .int .i64 kind := (Rg.use_eval V fr 5 [(1, 5), (9, 13), (17, 21), (20, 24), (23, 27), (26, 30), (29, 33), (32, 36), (35, 39)] (by simp only [hz]; decide)).trans h1
      have h9 : V 9 = .string (strOf na) := HU.holds 9 (by decide)
      have tb13 : (Rg.putUse V [(1, 5), (9, 13), (17, 21), (20, 24), (23, 27), (26, 30), (29, 33), (32, 36), (35, 39)] fr).eval (.tmp 13) = .string (strOf na) := (Rg.use_eval V fr 13 [(1, 5), (9, 13), (17, 21), (20, 24), (23, 27), (26, 30), (29, 33), (32, 36), (35, 39)] (by simp only [hz]; decide)).trans h9
      have h17 : V 17 = .string (strOf nb) := HU.holds 17 (by decide)
      have tb21 : (Rg.putUse V [(1, 5), (9, 13), (17, 21), (20, 24), (23, 27), (26, 30), (29, 33), (32, 36), (35, 39)] fr).eval (.tmp 21) = .string (strOf nb) := (Rg.use_eval V fr 21 [(1, 5), (9, 13), (17, 21), (20, 24), (23, 27), (26, 30), (29, 33), (32, 36), (35, 39)] (by simp only [hz]; decide)).trans h17
      have h20 : V 20 = .int .i64 (f4 : Nat) := HU.holds 20 (by decide)
      have tb24 : (Rg.putUse V [(1, 5), (9, 13), (17, 21), (20, 24), (23, 27), (26, 30), (29, 33), (32, 36), (35, 39)] fr).eval (.tmp 24) = .int .i64 (f4 : Nat) := (Rg.use_eval V fr 24 [(1, 5), (9, 13), (17, 21), (20, 24), (23, 27), (26, 30), (29, 33), (32, 36), (35, 39)] (by simp only [hz]; decide)).trans h20
      have h23 : V 23 = .int .i64 (a51 : Nat) := HU.holds 23 (by decide)
      have tb27 : (Rg.putUse V [(1, 5), (9, 13), (17, 21), (20, 24), (23, 27), (26, 30), (29, 33), (32, 36), (35, 39)] fr).eval (.tmp 27) = .int .i64 (a51 : Nat) := (Rg.use_eval V fr 27 [(1, 5), (9, 13), (17, 21), (20, 24), (23, 27), (26, 30), (29, 33), (32, 36), (35, 39)] (by simp only [hz]; decide)).trans h23
      have h26 : V 26 = .int .i64 (n61 : Nat) := HU.holds 26 (by decide)
      have tb30 : (Rg.putUse V [(1, 5), (9, 13), (17, 21), (20, 24), (23, 27), (26, 30), (29, 33), (32, 36), (35, 39)] fr).eval (.tmp 30) = .int .i64 (n61 : Nat) := (Rg.use_eval V fr 30 [(1, 5), (9, 13), (17, 21), (20, 24), (23, 27), (26, 30), (29, 33), (32, 36), (35, 39)] (by simp only [hz]; decide)).trans h26
      have h29 : V 29 = .int .u64 (t12 : Nat) := HU.holds 29 (by decide)
      have tb33 : (Rg.putUse V [(1, 5), (9, 13), (17, 21), (20, 24), (23, 27), (26, 30), (29, 33), (32, 36), (35, 39)] fr).eval (.tmp 33) = .int .u64 (t12 : Nat) := (Rg.use_eval V fr 33 [(1, 5), (9, 13), (17, 21), (20, 24), (23, 27), (26, 30), (29, 33), (32, 36), (35, 39)] (by simp only [hz]; decide)).trans h29
      have h32 : V 32 = .int .i64 (s5 : Nat) := HU.holds 32 (by decide)
      have tb36 : (Rg.putUse V [(1, 5), (9, 13), (17, 21), (20, 24), (23, 27), (26, 30), (29, 33), (32, 36), (35, 39)] fr).eval (.tmp 36) = .int .i64 (s5 : Nat) := (Rg.use_eval V fr 36 [(1, 5), (9, 13), (17, 21), (20, 24), (23, 27), (26, 30), (29, 33), (32, 36), (35, 39)] (by simp only [hz]; decide)).trans h32
      have h35 : V 35 = .slice A dl.length c := HU.holds 35 (by decide)
      have tb39 : (Rg.putUse V [(1, 5), (9, 13), (17, 21), (20, 24), (23, 27), (26, 30), (29, 33), (32, 36), (35, 39)] fr).eval (.tmp 39) = .slice A dl.length c := (Rg.use_eval V fr 39 [(1, 5), (9, 13), (17, 21), (20, 24), (23, 27), (26, 30), (29, 33), (32, 36), (35, 39)] (by simp only [hz]; decide)).trans h35
      show Rg.Does1 _ _ V (Rg.putUse V [(1, 5), (9, 13), (17, 21), (20, 24), (23, 27), (26, 30), (29, 33), (32, 36), (35, 39)] fr) w2 _
      exact Ob.rc_mv (.agg #[.int .i64 kind, .string (strOf na), .string (strOf nb), .int .i64 (f4 : Nat), .int .i64 (a51 : Nat), .int .i64 (n61 : Nat), .int .u64 (t12 : Nat), .int .i64 (s5 : Nat), .slice A dl.length c]) (by simp only [execOp, resolve, List.map_toArray, List.map_cons, List.map_nil, tb5, tb13, tb21, tb24, tb27, tb30, tb33, tb36, tb39]; go_simp) rfl rfl True.intro
    · intro V S w2 HM HU HE
      have lw : Below W0.heap.size W0 w2 := Rc.Mod.below HM (fun _ h => h.elim)
      show Rg.Does1 _ _ V (Rg.putUse V [] fr) w2 _
      exact Ag2.step_alloc 25 [.int .i64 0, .string ⟨#[]⟩, .string ⟨#[]⟩, .int .i64 0, .int .i64 0, .int .i64 0, .int .u64 0, .int .i64 0, .slice none 0 0] rfl (fun x => Rg.alias_none rfl V x) True.intro (by go_simp)
    · intro V S w2 HM HU HE
      have lw : Below W0.heap.size W0 w2 := Rc.Mod.below HM (fun _ h => h.elim)
      have tb3 : (Rg.putUse V [(37, 3), (36, 40)] fr).eval (.tmp 3) = V 37 := (Rg.use_eval V fr 3 [(37, 3), (36, 40)] (by simp only [hz]; decide)).trans rfl
      have h36 : V 36 = .agg #[.int .i64 kind, .string (strOf na), .string (strOf nb), .int .i64 (f4 : Nat), .int .i64 (a51 : Nat), .int .i64 (n61 : Nat), .int .u64 (t12 : Nat), .int .i64 (s5 : Nat), .slice A dl.length c] := HU.holds 36 (by decide)
      have tb40 : (Rg.putUse V [(37, 3), (36, 40)] fr).eval (.tmp 40) = .agg #[.int .i64 kind, .string (strOf na), .string (strOf nb), .int .i64 (f4 : Nat), .int .i64 (a51 : Nat), .int .i64 (n61 : Nat), .int .u64 (t12 : Nat), .int .i64 (s5 : Nat), .slice A dl.length c] := (Rg.use_eval V fr 40 [(37, 3), (36, 40)] (by simp only [hz]; decide)).trans h36
      show Rg.Does1 _ _ V (Rg.putUse V [(37, 3), (36, 40)] fr) w2 _
      exact Ag2.step_put (n0 := 37) 25 [.int .i64 kind, .string (strOf na), .string (strOf nb), .int .i64 (f4 : Nat), .int .i64 (a51 : Nat), .int .i64 (n61 : Nat), .int .u64 (t12 : Nat), .int .i64 (s5 : Nat), .slice A dl.length c] _ _ rfl rfl tb3 tb40 rfl (by decide) (HU.holds 37 (by decide)) (Rg.alias_one (i := 37) (f := fun v => v) rfl V) True.intro rfl rfl (by simp [Value.oneCell'])
  intro V S w2 HI
  have HL2 : Hid (Below W0.heap.size W0 w2) := Rc.Mod.below HI.mod.undrew (fun _ h => h.elim)
  obtain ⟨g38, hv38, hb38, hs38⟩ := HI.get 38 (by decide) (by rfl)
  have HNW38 : Hid (W0.heap.size ≤ g38) := (HI.lt 38 g38 ⟨by decide, fun k _ h => by simp at h⟩ hs38).2.resolve_left id
  have hw38 : V 37 = .pointer (some ⟨g38, 0, none⟩) := (HI.same 38 37 (fun v => v) (by decide) (by simp)).symm.trans hv38
  have HX38 : Hid (Blk w2 g38 25 [.int .i64 kind, .string (strOf na), .string (strOf nb), .int .i64 (f4 : Nat), .int .i64 (a51 : Nat), .int .i64 (n61 : Nat), .int .u64 (t12 : Nat), .int .i64 (s5 : Nat), .slice A dl.length c]) := hb38
  clear hv38 hb38 hs38
  simp only [Rg.putList, Act.put, List.setIfInBounds_toArray, List.set_cons_zero, List.set_cons_succ, Nat.zero_add, Nat.reduceAdd]
  rw [hw38]
  clear HI hw38
  have HB2 : Hid (Below w.heap.size w w2) := HB0.out.trans (HL2.out.mono HB0.out.size)
  have HZ2 : Hid (Blk w2 g 25 [.int .i64 kind, .string (strOf path), .string (strOf dest), .int .i64 fd, .int .i64 at_, .int .i64 n, .int .u64 (till : Nat), .int .i64 snap, .slice A data.length c]) := HZ0.out.below HL2.out HZ0.out.lt
  have HR2 : Hid (Blk w2 (g + 1) 25 [.int .i64 0, .string ⟨#[]⟩, .string ⟨#[]⟩, .int .i64 0, .int .i64 0, .int .i64 0, .int .u64 0, .int .i64 0, .slice none 0 0]) := HR0.out.below HL2.out HR0.out.lt
  have HNE : Hid (g + 1 ≠ g38) := fun e => by
    have := HR0.out.lt
    have := HNW38.out
    omega
  by_cases hk : kind = 3 ∨ kind = 11 ∨ kind = 12
  · have HK : Hid ((if (kind = 3 ∨ kind = 11 ∨ kind = 12) ∧ snap.tmod 3 ≠ 0 then (0 : Int) else (s5 : Nat)) = if snap.tmod 3 ≠ 0 then (0 : Int) else (s5 : Nat)) := by
      show _ = _
      by_cases h9 : snap.tmod 3 ≠ 0
      · rw [if_pos ⟨hk, h9⟩, if_pos h9]
      · rw [if_neg (fun h => h9 h.2), if_neg h9]
    by_cases hs : snap.tmod 3 = 0
    · have HQ : Hid (sv = (s5 : Nat)) := by show _ = _; rw [HSV.out, HK.out, if_neg (fun h => h hs)]
      clear HK
      rcases hk with rfl | rfl | rfl
      all_goals
        have o0 := HZ2.out.cell 0
        have o7 := HZ2.out.cell 7
        have x0 := HX38.out.cell 0
        have x1 := HX38.out.cell 1
        have x2 := HX38.out.cell 2
        have x3 := HX38.out.cell 3
        have x4 := HX38.out.cell 4
        have x5 := HX38.out.cell 5
        have x6 := HX38.out.cell 6
        have x7 := HX38.out.cell 7
        have x8 := HX38.out.cell 8
        have r0 := HR2.out.cell 0
        have q0 := HR2.out.frozen 0
        have r1 := HR2.out.cell 1
        have q1 := HR2.out.frozen 1
        have r2 := HR2.out.cell 2
        have q2 := HR2.out.frozen 2
        have r3 := HR2.out.cell 3
        have q3 := HR2.out.frozen 3
        have r4 := HR2.out.cell 4
        have q4 := HR2.out.frozen 4
        have r5 := HR2.out.cell 5
        have q5 := HR2.out.frozen 5
        have r6 := HR2.out.cell 6
        have q6 := HR2.out.frozen 6
        have r7 := HR2.out.cell 7
        have q7 := HR2.out.frozen 7
        have r8 := HR2.out.cell 8
        have q8 := HR2.out.frozen 8
        go_wp2_with fail
        refine bodyPost_ret (results_blk1 rfl _ _ (g + 1) 25 _ _ rfl (set9 HR2.out _ _ _ _ _ _ _ _ _) rfl rfl rfl) rfl ⟨by rw [HQ.out], set9_below HB2.out (Nat.le_trans HGG.out (Nat.le_succ g)) _ _ _ _ _ _ _ _ _⟩
    · have hs2 : (snap.tmod 3 == 0) = false := by rw [beq_eq_false_iff_ne]; exact hs
      have HQ : Hid (sv = 0) := by show _ = _; rw [HSV.out, HK.out, if_pos hs]
      clear HK
      have HX3 : Hid (Blk (w2.setCell ⟨g38, 7, none⟩ (.int .i64 0)) g38 25 _) := HX38.out.set_ 7 _
      have HR3 : Hid (Blk (w2.setCell ⟨g38, 7, none⟩ (.int .i64 0)) (g + 1) 25 [.int .i64 0, .string ⟨#[]⟩, .string ⟨#[]⟩, .int .i64 0, .int .i64 0, .int .i64 0, .int .u64 0, .int .i64 0, .slice none 0 0]) := HR2.out.far HNE.out _
      have HB3 : Hid (Below w.heap.size w (w2.setCell ⟨g38, 7, none⟩ (.int .i64 0))) := below_set1 HB2.out (by have := HNW38.out; have := HB0.out.size; omega) 7 _
      rcases hk with rfl | rfl | rfl
      all_goals
        have o0 := HZ2.out.cell 0
        have o7 := HZ2.out.cell 7
        have x7 := HX38.out.cell 7
        have f7 := HX38.out.frozen 7
        have y0 := HX3.out.cell 0
        have y1 := HX3.out.cell 1
        have y2 := HX3.out.cell 2
        have y3 := HX3.out.cell 3
        have y4 := HX3.out.cell 4
        have y5 := HX3.out.cell 5
        have y6 := HX3.out.cell 6
        have y7 := HX3.out.cell 7
        have y8 := HX3.out.cell 8
        have r0 := HR3.out.cell 0
        have q0 := HR3.out.frozen 0
        have r1 := HR3.out.cell 1
        have q1 := HR3.out.frozen 1
        have r2 := HR3.out.cell 2
        have q2 := HR3.out.frozen 2
        have r3 := HR3.out.cell 3
        have q3 := HR3.out.frozen 3
        have r4 := HR3.out.cell 4
        have q4 := HR3.out.frozen 4
        have r5 := HR3.out.cell 5
        have q5 := HR3.out.frozen 5
        have r6 := HR3.out.cell 6
        have q6 := HR3.out.frozen 6
        have r7 := HR3.out.cell 7
        have q7 := HR3.out.frozen 7
        have r8 := HR3.out.cell 8
        have q8 := HR3.out.frozen 8
        go_wp2_with fail
        refine bodyPost_ret (results_blk1 rfl _ _ (g + 1) 25 _ _ rfl (set9 HR3.out _ _ _ _ _ _ _ _ _) rfl rfl rfl) rfl ⟨by rw [HQ.out], set9_below HB3.out (Nat.le_trans HGG.out (Nat.le_succ g)) _ _ _ _ _ _ _ _ _⟩
  · have HQ : Hid (sv = (s5 : Nat)) := by show _ = _; rw [HSV.out, if_neg (fun h => hk h.1)]
    have k3 : (kind == 3) = false := by rw [beq_eq_false_iff_ne]; exact fun e => hk (.inl e)
    have k11 : (kind == 11) = false := by rw [beq_eq_false_iff_ne]; exact fun e => hk (.inr (.inl e))
    have k12 : (kind == 12) = false := by rw [beq_eq_false_iff_ne]; exact fun e => hk (.inr (.inr e))
    clear hk
    have o0 := HZ2.out.cell 0
    have x0 := HX38.out.cell 0
    have x1 := HX38.out.cell 1
    have x2 := HX38.out.cell 2
    have x3 := HX38.out.cell 3
    have x4 := HX38.out.cell 4
    have x5 := HX38.out.cell 5
    have x6 := HX38.out.cell 6
    have x7 := HX38.out.cell 7
    have x8 := HX38.out.cell 8
    have r0 := HR2.out.cell 0
    have q0 := HR2.out.frozen 0
    have r1 := HR2.out.cell 1
    have q1 := HR2.out.frozen 1
    have r2 := HR2.out.cell 2
    have q2 := HR2.out.frozen 2
    have r3 := HR2.out.cell 3
    have q3 := HR2.out.frozen 3
    have r4 := HR2.out.cell 4
    have q4 := HR2.out.frozen 4
    have r5 := HR2.out.cell 5
    have q5 := HR2.out.frozen 5
    have r6 := HR2.out.cell 6
    have q6 := HR2.out.frozen 6
    have r7 := HR2.out.cell 7
    have q7 := HR2.out.frozen 7
    have r8 := HR2.out.cell 8
    have q8 := HR2.out.frozen 8
    go_wp2_with fail
    refine bodyPost_ret (results_blk1 rfl _ _ (g + 1) 25 _ _ rfl (set9 HR2.out _ _ _ _ _ _ _ _ _) rfl rfl rfl) rfl ⟨by rw [HQ.out], set9_below HB2.out (Nat.le_trans HGG.out (Nat.le_succ g)) _ _ _ _ _ _ _ _ _⟩
end Kp
end Go.Proofs.Ytmcbpgbiephllaa

namespace Go.Proofs.Ytmcbpgbiephllaa
open Go.RowKit Rc
deriving instance DecidableEq for St.Opn
namespace Kp
set_option maxHeartbeats 4000000 in
set_option maxRecDepth 100000 in
theorem eq_any (x y : St.Opn) (A B : Option Addr) (ac bc : Nat) (w : World) (hA : Rd w A x.data) (hB : Rd w B y.data) :
    Calls Try.prog 23 #[lit x (.slice A x.data.length ac), lit y (.slice B y.data.length bc)] w fun e w' => e = .returned (.bool (decide (x = y))) ∧ Below w.heap.size w w' := by
  obtain ⟨r, hr⟩ : ∃ r, r = decide (x = y) := ⟨_, rfl⟩
  rw [← hr]
  obtain ⟨ak, ap, at_, af, aa, an, au, as_, ad⟩ := x
  obtain ⟨bk, bp, bt, bf, ba, bn, bu, bs_, bd⟩ := y
  have HR : Hid (r = true ↔ (ak = bk ∧ ap = bp ∧ at_ = bt ∧ af = bf ∧ aa = ba ∧ an = bn ∧ au = bu ∧ as_ = bs_ ∧ ad = bd)) := by
    show _ ↔ _
    rw [hr, decide_eq_true_iff]
    simp only [St.Opn.mk.injEq]
  clear hr
  unfold lit
  dsimp only at hA hB ⊢
  obtain ⟨WA, hWA⟩ : ∃ W, W = w.alloc (.cells #[.int .i64 ak, .string (strOf ap), .string (strOf at_), .int .i64 af, .int .i64 aa, .int .i64 an, .int .u64 (au : Nat), .int .i64 as_, .slice A ad.length ac] 25) := ⟨_, rfl⟩
  obtain ⟨W0, hW0⟩ : ∃ W, W = WA.alloc (.cells #[.int .i64 bk, .string (strOf bp), .string (strOf bt), .int .i64 bf, .int .i64 ba, .int .i64 bn, .int .u64 (bu : Nat), .int .i64 bs_, .slice B bd.length bc] 25) := ⟨_, rfl⟩
  obtain ⟨g, hg⟩ : ∃ g, g = w.heap.size := ⟨_, rfl⟩
  have h1 : Blk WA g 25 [.int .i64 ak, .string (strOf ap), .string (strOf at_), .int .i64 af, .int .i64 aa, .int .i64 an, .int .u64 (au : Nat), .int .i64 as_, .slice A ad.length ac] := by rw [hWA, hg]; exact Blk.new w _ _
  have HA : Hid (Blk W0 g 25 [.int .i64 ak, .string (strOf ap), .string (strOf at_), .int .i64 af, .int .i64 aa, .int .i64 an, .int .u64 (au : Nat), .int .i64 as_, .slice A ad.length ac]) := by show Blk _ _ _ _; rw [hW0]; exact h1.alloc _
  have HB : Hid (Blk W0 (g + 1) 25 [.int .i64 bk, .string (strOf bp), .string (strOf bt), .int .i64 bf, .int .i64 ba, .int .i64 bn, .int .u64 (bu : Nat), .int .i64 bs_, .slice B bd.length bc]) := by
    show Blk _ _ _ _
    rw [hW0, show g + 1 = WA.heap.size by rw [hWA, World.size_alloc, hg]]
    exact Blk.new WA _ _
  have hb : Below w.heap.size w W0 := by rw [hW0, hWA]; exact (below_new w _).trans ((below_new _ _).mono (by rw [World.size_alloc]; omega))
  have HBW := Lib.hid hb
  have hs1 := str_any W0 A ad ac (hA.below hb)
  have hs2 := str_any W0 B bd bc (hB.below hb)
  clear h1 hb hA hB
  go_enter Try.func23, Try.ntmps23
  go_upto_region 1 with (fail)
  rw [← hWA, ← hW0, ← hg]
  clear hWA hW0 hg
  have a0 := HA.out.cell 0
  have b0 := HB.out.cell 0
  have a1 := HA.out.cell 1
  have b1 := HB.out.cell 1
  have a2 := HA.out.cell 2
  have b2 := HB.out.cell 2
  have a3 := HA.out.cell 3
  have b3 := HB.out.cell 3
  have a4 := HA.out.cell 4
  have b4 := HB.out.cell 4
  have a5 := HA.out.cell 5
  have b5 := HB.out.cell 5
  have a6 := HA.out.cell 6
  have b6 := HB.out.cell 6
  have a7 := HA.out.cell 7
  have b7 := HB.out.cell 7
  have a8 := HA.out.cell 8
  have b8 := HB.out.cell 8
  by_cases h0 : ak = bk
  rotate_left
  · have HV : Hid (r = false) := by
      show _ = _
      cases hr : r with
      | false => rfl
      | true => exact absurd (HR.out.1 hr).1 h0
    have hn : (ak == bk) = false := by rw [beq_eq_false_iff_ne]; exact h0
    clear h0 HR
    go_wp2_with fail
    go_ret
    exact ⟨by rw [HV.out]; rfl, HBW.out⟩
  subst h0
  by_cases h1 : ap = bp
  rotate_left
  · have HV : Hid (r = false) := by
      show _ = _
      cases hr : r with
      | false => rfl
      | true => exact absurd (HR.out.1 hr).2.1 h1
    have hn : ((strOf ap).toList == (strOf bp).toList) = false := by rw [strOf_beq, decide_eq_false h1]
    clear h1 HR
    go_wp2_with fail
    go_ret
    exact ⟨by rw [HV.out]; rfl, HBW.out⟩
  subst h1
  by_cases h2 : at_ = bt
  rotate_left
  · have HV : Hid (r = false) := by
      show _ = _
      cases hr : r with
      | false => rfl
      | true => exact absurd (HR.out.1 hr).2.2.1 h2
    have hn : ((strOf at_).toList == (strOf bt).toList) = false := by rw [strOf_beq, decide_eq_false h2]
    clear h2 HR
    go_wp2_with fail
    go_ret
    exact ⟨by rw [HV.out]; rfl, HBW.out⟩
  subst h2
  by_cases h3 : af = bf
  rotate_left
  · have HV : Hid (r = false) := by
      show _ = _
      cases hr : r with
      | false => rfl
      | true => exact absurd (HR.out.1 hr).2.2.2.1 h3
    have hn : (af == bf) = false := by rw [beq_eq_false_iff_ne]; exact h3
    clear h3 HR
    go_wp2_with fail
    go_ret
    exact ⟨by rw [HV.out]; rfl, HBW.out⟩
  subst h3
  by_cases h4 : aa = ba
  rotate_left
  · have HV : Hid (r = false) := by
      show _ = _
      cases hr : r with
      | false => rfl
      | true => exact absurd (HR.out.1 hr).2.2.2.2.1 h4
    have hn : (aa == ba) = false := by rw [beq_eq_false_iff_ne]; exact h4
    clear h4 HR
    go_wp2_with fail
    go_ret
    exact ⟨by rw [HV.out]; rfl, HBW.out⟩
  subst h4
  by_cases h5 : an = bn
  rotate_left
  · have HV : Hid (r = false) := by
      show _ = _
      cases hr : r with
      | false => rfl
      | true => exact absurd (HR.out.1 hr).2.2.2.2.2.1 h5
    have hn : (an == bn) = false := by rw [beq_eq_false_iff_ne]; exact h5
    clear h5 HR
    go_wp2_with fail
    go_ret
    exact ⟨by rw [HV.out]; rfl, HBW.out⟩
  subst h5
  by_cases h6 : au = bu
  rotate_left
  · have HV : Hid (r = false) := by
      show _ = _
      cases hr : r with
      | false => rfl
      | true => exact absurd (HR.out.1 hr).2.2.2.2.2.2.1 h6
    have hn : (((au : Nat) : Int) == ((bu : Nat) : Int)) = false := by rw [beq_eq_false_iff_ne]; omega
    clear h6 HR
    go_wp2_with fail
    go_ret
    exact ⟨by rw [HV.out]; rfl, HBW.out⟩
  subst h6
  by_cases h7 : as_ = bs_
  rotate_left
  · have HV : Hid (r = false) := by
      show _ = _
      cases hr : r with
      | false => rfl
      | true => exact absurd (HR.out.1 hr).2.2.2.2.2.2.2.1 h7
    have hn : (as_ == bs_) = false := by rw [beq_eq_false_iff_ne]; exact h7
    clear h7 HR
    go_wp2_with fail
    go_ret
    exact ⟨by rw [HV.out]; rfl, HBW.out⟩
  subst h7
  by_cases h8 : ad = bd
  rotate_left
  · have HV : Hid (r = false) := by
      show _ = _
      cases hr : r with
      | false => rfl
      | true => exact absurd (HR.out.1 hr).2.2.2.2.2.2.2.2 h8
    have hn : ((strOf ad).toList == (strOf bd).toList) = false := by rw [strOf_beq, decide_eq_false h8]
    clear h8 HR
    go_wp2_with fail
    go_ret
    exact ⟨by rw [HV.out]; rfl, HBW.out⟩
  subst h8
  have HV : Hid (r = true) := HR.out.2 ⟨rfl, rfl, rfl, rfl, rfl, rfl, rfl, rfl, rfl⟩
  clear HR
  go_wp2_with fail
  go_ret
  exact ⟨by rw [HV.out]; rfl, HBW.out⟩
end Kp
end Go.Proofs.Ytmcbpgbiephllaa

namespace Go.Proofs.Ytmcbpgbiephllaa
open Go.RowKit

theorem run_append_big {P : Program} (w : World) (base : Nat) (t ty e : TypeId) (i : TypeInfo) (ht : P.underlying t = some (.slice e)) (hi : P.info? e = some i) (hz : i.zero = some (.int .u8 0)) (hsize : i.size = 1) (hby : i.bytes = 1)
    (v : Value) (n : Nat) (xs : List Value) (hown : w.ownsRow base e 1 v n xs) (A : Option Addr) (l : List UInt8) (c : Nat) (hr : Rd w A l) (hn : n + l.length ≤ 140737488355328) (hbase : base ≤ w.heap.size) :
    ∃ v' w', (Builtin.append_ #[t, t] ty #[v, .slice A l.length c]).run P w = .ok v' w' ∧ w'.ownsRow base e 1 v' (n + l.length) (xs ++ Lib.byteCells l) ∧ w.grownBy w' v.ownBlock := by
  cases A with
  | none =>
    have hl : l = [] := by
      rcases Nat.eq_zero_or_pos l.length with h | h
      · exact List.eq_nil_of_length_eq_zero h
      · obtain ⟨b, off, h1, _⟩ := hr h
        cases h1
    subst hl
    refine ⟨v, w, ?_, by simpa [Lib.byteCells] using hown, ⟨rfl, rfl, rfl, Nat.le_refl _, fun _ _ _ => rfl⟩⟩
    show (Builtin.append_ #[t, t] ty #[v, .slice none 0 c]).run P w = .ok v w
    rcases hown.2 with ⟨rfl, rfl⟩ | ⟨g, cap, cur, rfl, _, _, hnc, _⟩
    · simp [Builtin.append_, run_underlying ht, sizeOf, typeInfo, hi, Builtin.lenOf, Builtin.firstCells]
    · simp [Builtin.append_, run_underlying ht, sizeOf, typeInfo, hi, Builtin.lenOf, Builtin.firstCells, hnc, storeCells]
  | some ad =>
    have hc : ∀ j u, (Lib.byteCells l)[j]? = some u → w.cell? (ad.add j) = some u := by
      intro j u hu
      simp only [Lib.byteCells, List.getElem?_map, Option.map_eq_some_iff] at hu
      obtain ⟨x, hx, rfl⟩ := hu
      obtain ⟨b, off, h1, _, h2⟩ := hr (by have := (List.getElem?_eq_some_iff.1 hx).1; omega)
      obtain rfl : ad = ⟨b, off, none⟩ := by injection h1
      rw [add_plain]
      exact h2 j x hx
    obtain ⟨v', w', h1, h2, h3, _⟩ := run_append_own (P := P) (w := w) base t ty e i (.int .u8 0) 1 1 ht hi hz hsize hby rfl (by decide) v n xs hown ad l.length c (Lib.byteCells l) (by simp [Lib.byteCells_length]) hc (bytes_one l) (by unfold maxLen; omega) (by omega) hbase
    exact ⟨v', w', h1, h2, h3⟩

theorem wpList_append_big {P : Program} {w : World} {ops : Array Oper} {rest : List Oper} {o : Oper} {a : Act} {Q : Exit → Act → World → Prop} (hgd : o.guard = none) (s x : Operand) (t : TypeId)
    (ho : o.op = .call { callee := .builtin .append, args := #[s, x], argTypes := #[t, t] })
    (base : Nat) (e : TypeId) (i : TypeInfo) (ht : P.underlying t = some (.slice e)) (hi : P.info? e = some i) (hz : i.zero = some (.int .u8 0)) (hsize : i.size = 1) (hby : i.bytes = 1)
    (v : Value) (n : Nat) (xs : List Value) (hs : a.eval s = v) (hown : w.ownsRow base e 1 v n xs) (A : Option Addr) (l : List UInt8) (m c : Nat) (hm : l.length = m) (hx : a.eval x = .slice A m c) (hr : Rd w A l) (hn : n + l.length ≤ 140737488355328) (hbase : base ≤ w.heap.size)
    (h : ∀ v' w', Hid (w'.ownsRow base e 1 v' (n + l.length) (xs ++ Lib.byteCells l)) → Hid (w.grownBy w' v.ownBlock) → wpList P ops Q rest (a.put o.dst v') w') : wpList P ops Q (o :: rest) a w := by
  subst hm
  refine wpList_plain hgd fun K hK => ?_
  obtain ⟨v', w', hrun, h1, h2⟩ := run_append_big w base t o.type e i ht hi hz hsize hby v n xs hown A l c hr hn hbase
  unfold Oper.wp
  simp [execOp, ho, resolve, invoke, builtin, hs, hx, hrun, Result.andThen]
  exact hK _ _ (h v' w' h1 h2)
end Go.Proofs.Ytmcbpgbiephllaa

namespace Go.Proofs.Ytmcbpgbiephllaa
open Go.RowKit Rc

set_option maxHeartbeats 1000000 in
set_option maxRecDepth 100000 in
theorem clone_any (w : World) (A : Option Addr) (x : List UInt8) (cap : Nat) (hr : Rd w A x) (hx : x.length ≤ 140737488355328) :
    Calls Try.prog 77 #[.slice A x.length cap] w fun e w' => ∃ v, e = .returned v ∧ w'.ownsRow w.heap.size 5 1 v x.length (Lib.byteCells x) ∧ Below w.heap.size w w' := by
  have q22 : ∀ (w : World) (a : Option Addr) (n c n' c' : Nat), (binOp .eql 23 (.slice a n c) (.slice none n' c')).run Try.prog w = .ok (.bool a.isNone) w := fun w a n c n' c' => Lib.run_eql_slice_nil w _ _ a n c n' c' Try.underlying23
  cases A with
  | none =>
    obtain rfl : x = [] := by
      rcases Nat.eq_zero_or_pos x.length with h | h
      · exact List.eq_nil_of_length_eq_zero h
      · obtain ⟨b, off, h1, _⟩ := hr h
        cases h1
    go_enter Try.func77, Try.ntmps77
    go_wp2_with fail
    go_ret
    exact ⟨_, rfl, own_nil _ _, Below.refl _ _⟩
  | some ad =>
    obtain ⟨i0, hi, hz0, hz1, hz2⟩ := info_parts Try.infoU8
    have HI0 := Lib.hid hi
    have HZ0 := Lib.hid hz0
    have HZ1 := Lib.hid hz1
    have HZ2 := Lib.hid hz2
    have H0 : Hid (MAt w.heap.size (.slice (some ⟨w.heap.size, 0, none⟩) 0 0) [] w (w.alloc (.cells #[] 5))) := MAt.empty w
    have HRW : Hid (Rd (w.alloc (.cells #[] 5)) (some ad) x) := hr.below (below_new w _)
    clear hi hz0 hz1 hz2 hr
    go_enter Try.func77, Try.ntmps77
    go_wp2_with (at_builtin; refine wpList_append_big rfl (.tmp 5) (.tmp 6) 23 rfl w.heap.size 5 i0 Try.underlying23 HI0.out HZ0.out HZ1.out HZ2.out _ 0 [] rfl H0.out.1 (some ad) x x.length cap rfl rfl HRW.out (by omega) (by rw [World.size_alloc]; omega) ?_; intro v1 w1 HO1 HG1; have H1 : Hid (MAt w.heap.size v1 x w w1) := H0.out.push (Below.refl _ _) HO1.out HG1.out)
    clear HO1 HG1
    go_ret
    exact ⟨_, rfl, H1.out.1, H1.out.2.1⟩

theorem wpList_append_at_rd {P : Program} {w : World} {ops : Array Oper} {rest : List Oper} {o : Oper} {a : Act} {Q : Exit → Act → World → Prop} (hgd : o.guard = none) (s x : Operand) (t : TypeId)
    (ho : o.op = .call { callee := .builtin .append, args := #[s, x], argTypes := #[t, t] })
    (base : Nat) (e : TypeId) (i : TypeInfo) (ht : P.underlying t = some (.slice e)) (hi : P.info? e = some i) (hz : i.zero = some (.int .u8 0)) (hsize : i.size = 1) (hby : i.bytes = 1)
    (v : Value) (n : Nat) (xs : List Value) (hs : a.eval s = v) (hown : w.ownsRow base e 1 v n xs) (A : Option Addr) (l : List UInt8) (m c : Nat) (hm : l.length = m) (hx : a.eval x = .slice A m c) (hr : Rd w A l) (hn : n + l.length ≤ 1099511627776) (hbase : base ≤ w.heap.size)
    (h : ∀ v' w', Hid (w'.ownsRow base e 1 v' (n + l.length) (xs ++ Lib.byteCells l)) → Hid (w.grownBy w' v.ownBlock) → Hid (v'.ownBlock = v.ownBlock ∨ v'.ownBlock = some w.heap.size) → wpList P ops Q rest (a.put o.dst v') w') : wpList P ops Q (o :: rest) a w :=
  wpList_plain hgd fun _ hK => wp_append_at s x t ho base e i ht hi hz hsize hby v n xs hs hown A l m c hm hx hr hn hbase fun v' w' h1 h2 h3 => hK _ _ (h v' w' h1 h2 h3)

theorem step_append_rd {P : Program} {ops : Array Oper} {o : Oper} {a : Act} {w : World} {K : Act → World → Prop} {Q : Exit → Act → World → Prop} {E : Prop} (hgd : o.guard = none) (s x : Operand) (t : TypeId)
    (ho : o.op = .call { callee := .builtin .append, args := #[s, x], argTypes := #[t, t] })
    (base : Nat) (e : TypeId) (i : TypeInfo) (ht : P.underlying t = some (.slice e)) (hi : P.info? e = some i) (hz : i.zero = some (.int .u8 0)) (hsize : i.size = 1) (hby : i.bytes = 1)
    (v : Value) (n : Nat) (xs : List Value) (hs : a.eval s = v) (hown : w.ownsRow base e 1 v n xs) (A : Option Addr) (l : List UInt8) (m c : Nat) (hm : l.length = m) (hx : a.eval x = .slice A m c) (hr : Rd w A l) (hn : n + l.length ≤ 1099511627776) (hbase : base ≤ w.heap.size)
    (h : ∀ v' w', Hid (w'.ownsRow base e 1 v' (n + l.length) (xs ++ Lib.byteCells l)) → Hid (w.grownBy w' v.ownBlock) → Hid (v'.ownBlock = v.ownBlock ∨ v'.ownBlock = some w.heap.size) → K (a.put o.dst v') w') :
    if Region.wanted o (yielded ops a.tmps) = true then Oper.wp P o a w K Q else E := by
  rw [if_pos (show Region.wanted o (yielded ops a.tmps) = true by simp [Region.wanted, hgd])]
  exact wp_append_at s x t ho base e i ht hi hz hsize hby v n xs hs hown A l m c hm hx hr hn hbase h
end Go.Proofs.Ytmcbpgbiephllaa

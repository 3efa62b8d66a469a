/-
  OWN WORK. What the program's own writer does.
-/
import Derived.Test.YtmcbpgbiephllaaDoorX02
namespace Go.Proofs.YtmcbpgbiephllaaDoor
open Go.RowKit Rc

def WrAt (v : Value) (l : List UInt8) (S : Nat → Prop) (w : World) : Prop :=
  ∃ g x, v = .pointer (some ⟨g, 0, none⟩) ∧ Blk w g 74 [x] ∧ w.ownsRow 0 5 1 x l.length (Lib.byteCells l) ∧ x.ownBlock ≠ some g ∧ l.length ≤ 1099511627776 ∧ S = fun b => b = g ∨ x.ownBlock = some b
theorem own_keep {w w' : World} {base n : Nat} {v : Value} {xs : List Value} (h : w.ownsRow base 5 1 v n xs) (hb : ∀ b, v.ownBlock = some b → w'.heap[b]? = w.heap[b]?) : w'.ownsRow base 5 1 v n xs := by
  refine ⟨h.1, ?_⟩
  rcases h.2 with h2 | ⟨g, cap, cur, rfl, h4, h5, h6⟩
  · exact .inl h2
  · exact .inr ⟨g, cap, cur, rfl, h4, (hb g rfl).trans h5, h6⟩
theorem WrAt.keep {v : Value} {l : List UInt8} {S : Nat → Prop} {w w' : World} (h : WrAt v l S w) (hb : ∀ b, S b → w'.heap[b]? = w.heap[b]?) : WrAt v l S w' := by
  obtain ⟨g, x, rfl, h1, h2, h3, h4, rfl⟩ := h
  exact ⟨g, x, rfl, (hb g (.inl rfl)).trans h1, own_keep h2 fun b h => hb b (.inr h), h3, h4, rfl⟩
theorem WrAt.lt {v : Value} {l : List UInt8} {S : Nat → Prop} {w : World} (h : WrAt v l S w) : ∀ b, S b → b < w.heap.size := by
  obtain ⟨g, x, rfl, h1, h2, h3, h4, rfl⟩ := h
  rintro b (rfl | hb)
  · exact h1.lt
  · exact (own_lt h2 hb).2

set_option maxHeartbeats 1000000 in
set_option maxRecDepth 100000 in
theorem done_any {v : Value} {l : List UInt8} {S : Nat → Prop} {w : World} (h : WrAt v l S w) :
    Calls Tryd.prog 31 #[v] w fun e w' => ∃ x, e = .returned x ∧ w'.ownsRow 0 5 1 x l.length (Lib.byteCells l) ∧ Below w.heap.size w w' ∧ ∀ b, x.ownBlock = some b → S b ∨ w.heap.size ≤ b := by
  obtain ⟨g, x, rfl, hb, hown, hne, hl, rfl⟩ := h
  have c0 : w.cell? ⟨g, 0, none⟩ = some x := hb.cell 0
  obtain ⟨X, c, rfl, hc, hr⟩ := own_form hown
  have HR := Lib.hid hr
  clear hb hown hne hr
  go_enter Tryd.func31, Tryd.ntmps31
  go_wp2_with fail
  refine (clone_any w X l c HR.out (by omega)).mono ?_
  rintro e w1 ⟨v, rfl, hown, hb⟩
  have HO := Lib.hid hown
  have HB := Lib.hid hb
  clear hown hb
  go_wp2_with fail
  go_ret
  exact ⟨_, rfl, own_base HO.out, HB.out, fun b hb => .inr (HO.out.ownBlock_ge b hb)⟩

set_option maxHeartbeats 1000000 in
set_option maxRecDepth 100000 in
theorem neww_any (w : World) : Calls Tryd.prog 26 #[] w fun e w' => ∃ v S, e = .returned v ∧ WrAt v [] S w' ∧ Below w.heap.size w w' ∧ ∀ b, S b → w.heap.size ≤ b := by
  have HB : Hid (Blk (w.alloc (.cells #[.slice none 0 0] 74)) w.heap.size 74 [.slice none 0 0]) := Blk.new w _ _
  have HL : Hid (Below w.heap.size w (w.alloc (.cells #[.slice none 0 0] 74))) := below_new w _
  go_enter Tryd.func26, Tryd.ntmps26
  go_wp2_with fail
  go_ret
  refine ⟨_, _, rfl, ⟨_, _, rfl, HB.out, own_base (own_nil _ 0), by simp [Value.ownBlock], by simp, rfl⟩, HL.out, ?_⟩
  rintro b (rfl | hb)
  · exact Nat.le_refl _
  · cases hb

theorem own_slice {w : World} {B n : Nat} {v : Value} {xs : List Value} (h : w.ownsRow B 5 1 v n xs) : ∃ X c, v = .slice X n c := by
  rcases h.2 with ⟨rfl, rfl⟩ | ⟨g, cap, cur, rfl, _⟩
  · exact ⟨_, _, rfl⟩
  · exact ⟨_, _, rfl⟩
theorem WrAt.pushed {g : Nat} {l y : List UInt8} {u x : Value} {w wa w1 : World} (hb : Blk w g 74 [u]) (_ho : w.ownsRow 0 5 1 u l.length (Lib.byteCells l)) (hne : u.ownBlock ≠ some g) (ha : Below w.heap.size w wa)
    (hsm : l.length + y.length ≤ 1099511627776) (ho1 : w1.ownsRow 0 5 1 x (l.length + y.length) (Lib.byteCells l ++ Lib.byteCells y)) (hg : wa.grownBy w1 u.ownBlock) (hp : x.ownBlock = u.ownBlock ∨ x.ownBlock = some wa.heap.size) :
    ∃ S', WrAt (.pointer (some ⟨g, 0, none⟩)) (l ++ y) S' (w1.setCell ⟨g, 0, none⟩ x) ∧ Mod w (w1.setCell ⟨g, 0, none⟩ x) (fun b => b = g ∨ u.ownBlock = some b) ∧ ∀ b, S' b → (b = g ∨ u.ownBlock = some b) ∨ w.heap.size ≤ b := by
  have hne1 : x.ownBlock ≠ some g := by
    rcases hp with h | h
    · rw [h]; exact hne
    · rw [h]; intro e; injection e with e; have := ha.size; have := hb.lt; omega
  have hb1 : Blk w1 g 74 [u] := (hb.below ha hb.lt).grown hg (fun e => hne e.symm)
  refine ⟨fun b => b = g ∨ x.ownBlock = some b, ⟨g, x, rfl, hb1.set_ 0 x, ?_, hne1, by rw [List.length_append]; exact hsm, rfl⟩, ?_, ?_⟩
  · rw [List.length_append, Lib.byteCells_append]
    exact own_far ho1 _ hne1 _
  · refine ⟨hg.os.trans ha.os, hg.tape.trans ha.tape, hg.output.trans ha.output, ?_, ?_⟩
    · have := ha.size; have := hg.size; simp [World.setCell]; omega
    · intro k hk hn
      have hkg : k ≠ g := fun e => hn (.inl e)
      refine (Below.heap_setCell _ _ _ _ hkg).trans ((hg.block k (by have := ha.size; omega) (fun e => hn (.inr e.symm))).trans (ha.block k hk))
  · rintro b (h | h)
    · exact .inl (.inl h)
    · rcases hp with h2 | h2
      · exact .inl (.inr (h2 ▸ h))
      · rw [h2] at h; injection h with h; have := ha.size; exact .inr (by omega)

set_option maxHeartbeats 1000000 in
set_option maxRecDepth 100000 in
theorem raw_any {v : Value} {l : List UInt8} {S : Nat → Prop} {w : World} (h : WrAt v l S w) (A : Option Addr) (x : List UInt8) (c : Nat) (hr : Rd w A x) (hS : 0 < x.length → ∀ b, A.map (·.block) = some b → ¬ S b) (hl : l.length + x.length ≤ 1099511627776) :
    Calls Tryd.prog 47 #[v, .slice A x.length c] w (WOut WrAt v (l ++ x) S w) := by
  obtain ⟨g, u, rfl, hb, hown, hne, _, rfl⟩ := h
  have c0 : w.cell? ⟨g, 0, none⟩ = some u := hb.cell 0
  have f0 := hb.frozen 0
  obtain ⟨i0, hi, hz0, hz1, hz2⟩ := info_parts Tryd.infoU8
  have HI0 := Lib.hid hi
  have HZ0 := Lib.hid hz0
  have HZ1 := Lib.hid hz1
  have HZ2 := Lib.hid hz2
  have HR := Lib.hid hr
  have HB := Lib.hid hb
  have HO := Lib.hid hown
  have HNE := Lib.hid hne
  have HS := Lib.hid hS
  clear hi hz0 hz1 hz2 hr hb hown hne hS
  go_enter Tryd.func47, Tryd.ntmps47
  go_wp2_with (at_builtin; refine wpList_append_at_rd rfl (.tmp 8) (.tmp 9) 25 rfl 0 5 i0 Tryd.underlying25 HI0.out HZ0.out HZ1.out HZ2.out u l.length (Lib.byteCells l) rfl HO.out A x x.length c rfl rfl HR.out hl (Nat.zero_le _) ?_; intro v1 w1 HO1 HG1 HP1; obtain ⟨X1, k1, rfl⟩ := own_slice HO1.out; have HB1 : Hid (Blk w1 g 74 [u]) := HB.out.grown HG1.out (fun e => HNE.out e.symm); have c1 := HB1.out.cell 0; have f1 := HB1.out.frozen 0)
  go_end0
  obtain ⟨S', h1, h2, h3⟩ := WrAt.pushed HB.out HO.out HNE.out (Below.refl _ _) hl HO1.out HG1.out HP1.out
  exact ⟨⟨_, rfl⟩, S', h1, h2, h3⟩

def wNum (n size : Nat) : List UInt8 := (List.range size).map fun j => UInt8.ofNat (n / 2 ^ (8 * (size - 1 - j)))
theorem wNum_length (n size : Nat) : (wNum n size).length = size := by simp [wNum]
theorem wNum_take (n size m : Nat) (h : m + 1 ≤ size) : (wNum n size).take (size - m) = (wNum n size).take (size - (m + 1)) ++ [UInt8.ofNat (n / 2 ^ (8 * m))] := by
  have e : size - m = (size - (m + 1)) + 1 := by omega
  rw [e, List.take_succ_eq_append_getElem (by rw [wNum_length]; omega)]
  congr 1
  simp only [wNum, List.getElem_map, List.getElem_range]
  rw [show size - 1 - (size - (m + 1)) = m by omega]
theorem wNum1 (n : Nat) : wNum n 1 = Co.wByte n := by simp [wNum, Co.wByte]
theorem wNum2 (n : Nat) : wNum n 2 = Co.wShort n := by simp [wNum, Co.wShort, List.range_succ]
theorem wNum8 (n : Nat) : wNum n 8 = Co.wLong n := by simp [wNum, Co.wLong, List.range_succ]
def NumAt (v : Value) (S : Nat → Prop) (l : List UInt8) (w wr : World) : Prop := ∃ S', WrAt v l S' wr ∧ Mod w wr S ∧ ∀ b, S' b → S b ∨ w.heap.size ≤ b
theorem NumAt.push {g : Nat} {S : Nat → Prop} {l y : List UInt8} {u x : Value} {w wr wa w1 : World} (hM : Mod w wr S) (hS : ∀ b, (b = g ∨ u.ownBlock = some b) → S b ∨ w.heap.size ≤ b) (hb : Blk wr g 74 [u]) (ho : wr.ownsRow 0 5 1 u l.length (Lib.byteCells l)) (hne : u.ownBlock ≠ some g) (ha : Below wr.heap.size wr wa)
    (hsm : l.length + y.length ≤ 1099511627776) (ho1 : w1.ownsRow 0 5 1 x (l.length + y.length) (Lib.byteCells l ++ Lib.byteCells y)) (hg : wa.grownBy w1 u.ownBlock) (hp : x.ownBlock = u.ownBlock ∨ x.ownBlock = some wa.heap.size) :
    NumAt (.pointer (some ⟨g, 0, none⟩)) S (l ++ y) w (w1.setCell ⟨g, 0, none⟩ x) := by
  obtain ⟨S', h1, h2, h3⟩ := WrAt.pushed hb ho hne ha hsm ho1 hg hp
  refine ⟨S', h1, ⟨h2.os.trans hM.os, h2.tape.trans hM.tape, h2.output.trans hM.output, Nat.le_trans hM.size h2.size, fun k hk hn => (h2.block k (Nat.lt_of_lt_of_le hk hM.size) fun hX => ?_).trans (hM.block k hk hn)⟩, fun b hb => ?_⟩
  · rcases hS k hX with h | h
    · exact hn h
    · omega
  · rcases h3 b hb with h | h
    · exact hS b h
    · exact .inr (Nat.le_trans hM.size h)

set_option maxHeartbeats 1000000 in
set_option maxRecDepth 100000 in
theorem number_any {v : Value} {l : List UInt8} {S : Nat → Prop} {w : World} (h : WrAt v l S w) (n size : Nat) (_hn : n ≤ 18446744073709551615) (hs : size ≤ 8) (hl : l.length ≤ 1099511620000) :
    Calls Tryd.prog 46 #[v, .int .u64 (n : Nat), .int .i64 (size : Nat)] w (WOut WrAt v (l ++ wNum n size) S w) := by
  obtain ⟨i0, hi, hz0, hz1, hz2⟩ := info_parts Tryd.infoU8
  have HI0 := Lib.hid hi
  have HZ0 := Lib.hid hz0
  have HZ1 := Lib.hid hz1
  have HZ2 := Lib.hid hz2
  obtain ⟨g, hv⟩ : ∃ g, v = .pointer (some ⟨g, 0, none⟩) := by obtain ⟨g, x, rfl, _⟩ := h; exact ⟨g, rfl⟩
  have H0 : Hid (NumAt v S (l ++ (wNum n size).take (size - size)) w w) := by
    show NumAt _ _ _ _ _
    rw [Nat.sub_self, List.take_zero, List.append_nil]
    exact ⟨S, h, Mod.refl _ _, fun b hb => .inl hb⟩
  subst hv
  clear hi hz0 hz1 hz2 h
  have hw1 : IntKind.i64.wrap ((size : Int) - 1) = (size : Int) - 1 := IntWalk.i64_in _ (by omega)
  go_enter Tryd.func46, Tryd.ntmps46
  go_wp2_with fail
  clear hw1
  go_loopw [6] (fun t6 wr => ∃ i : Nat, i ≤ size ∧ t6 = .int .i64 (((i : Nat) : Int) - 1) ∧ Hid (NumAt (.pointer (some ⟨g, 0, none⟩)) S (l ++ (wNum n size).take (size - i)) w wr)) (fun t6 _ => (intOf t6 + 1).toNat)
  case atStart => exact ⟨size, by omega, rfl, H0⟩
  case round =>
    obtain ⟨i, hi, rfl, HM⟩ := hrel
    rcases Nat.eq_zero_or_pos i with h0 | h0
    · subst h0
      have HF : Hid (NumAt (.pointer (some ⟨g, 0, none⟩)) S (l ++ wNum n size) w wr) := by
        have := HM.out
        rw [List.take_of_length_le (by rw [wNum_length]; omega)] at this
        exact this
      clear HM
      go_wp2_with fail
      go_end0
      obtain ⟨S', h1, h2, h3⟩ := HF.out
      exact ⟨⟨_, rfl⟩, S', h1, h2, h3⟩
    · obtain ⟨m, rfl⟩ : ∃ m, i = m + 1 := ⟨i - 1, by omega⟩
      have e1 : (((m + 1 : Nat) : Int) - 1) = (m : Int) := by omega
      rw [e1]
      clear e1
      obtain ⟨S', ⟨g', u, hgg, hb, hown, hne, _, rfl⟩, hM, hSS⟩ := HM.out
      injection hgg with hgg; injection hgg with hgg; injection hgg with hgg; subst hgg
      obtain ⟨L, hL⟩ : ∃ L, L = l ++ (wNum n size).take (size - (m + 1)) := ⟨_, rfl⟩
      rw [← hL] at hown
      have hLl : L.length ≤ l.length + 8 := by rw [hL, List.length_append, List.length_take, wNum_length]; omega
      have HL := Lib.hid hL
      have c0 : wr.cell? ⟨g, 0, none⟩ = some u := hb.cell 0
      have HB := Lib.hid hb
      have HO := Lib.hid hown
      have HNE := Lib.hid hne
      have HMM := Lib.hid hM
      have HSS := Lib.hid hSS
      have hw8 : IntKind.i64.wrap ((8 : Int) * (m : Int)) = ((8 * m : Nat) : Int) := (IntWalk.i64_in _ (by omega)).trans (by omega)
      clear HM hb hown hne hM hSS hL H0
      go_wp2_with fail
      obtain ⟨X, hX⟩ : ∃ X : Int, X = IntKind.u8.wrap ((n : Int) / 2 ^ ((8 : Int) * (m : Int)).toNat) := ⟨_, rfl⟩
      have HXE := Lib.hid hX
      have HXX : Hid (((UInt8.ofNat (n / 2 ^ (8 * m))).toNat : Int) = X) := by
        show _ = _
        rw [hX, u8_cast, show ((8 : Int) * (m : Int)).toNat = 8 * m by omega, IntKind.wrap_u8]
        norm_cast
      have HBW : Hid (Below wr.heap.size wr (wr.drew.alloc (.cells #[Value.int .u8 (IntKind.u8.wrap ((n : Int) / 2 ^ ((8 : Int) * (m : Int)).toNat))] 5))) := undrew (below_new wr.drew _)
      have HOW : Hid ((wr.drew.alloc (.cells #[Value.int .u8 (IntKind.u8.wrap ((n : Int) / 2 ^ ((8 : Int) * (m : Int)).toNat))] 5)).ownsRow 0 5 1 u L.length (Lib.byteCells L)) := own_later HO.out HBW.out
      have HRW : Hid (Rd (wr.drew.alloc (.cells #[Value.int .u8 (IntKind.u8.wrap ((n : Int) / 2 ^ ((8 : Int) * (m : Int)).toNat))] 5)) (some ⟨wr.heap.size, 0, none⟩) [UInt8.ofNat (n / 2 ^ (8 * m))]) := rd_new wr.drew _ _ _ (HXX.out.trans HXE.out)
      have HNN : Hid (L.length + [UInt8.ofNat (n / 2 ^ (8 * m))].length ≤ 1099511627776) := by show _ ≤ _; simp; omega
      have c0a : (wr.alloc (.cells #[Value.int .u8 (IntKind.u8.wrap ((n : Int) / 2 ^ ((8 : Int) * (m : Int)).toNat))] 5)).cell? ⟨g, 0, none⟩ = some u := (HB.out.alloc _).cell 0
      clear hX HXX HXE
      go_region_law (refine step_append_rd rfl (.tmp 17) (.tmp 23) 25 rfl 0 5 i0 Tryd.underlying25 HI0.out HZ0.out HZ1.out HZ2.out u L.length (Lib.byteCells L) rfl HOW.out (some ⟨wr.heap.size, 0, none⟩) [UInt8.ofNat (n / 2 ^ (8 * m))] 1 1 rfl rfl HRW.out HNN.out (Nat.zero_le _) ?_; intro v1 w1 HO1 HG1 HP1; obtain ⟨X1, k1, rfl⟩ := own_slice HO1.out; have HB1 : Hid (Blk w1 g 74 [u]) := (HB.out.below HBW.out HB.out.lt).grown HG1.out (fun e => HNE.out e.symm); have c1 := HB1.out.cell 0; have f1 := HB1.out.frozen 0)
      all_goals
        have HM4 : Hid (NumAt (.pointer (some ⟨g, 0, none⟩)) S (l ++ (wNum n size).take (size - m)) w (w1.setCell ⟨g, 0, none⟩ (.slice X1 (L.length + 1) k1))) := by
          show NumAt _ _ _ _ _
          rw [wNum_take n size m (by omega), ← List.append_assoc, ← HL.out]
          exact NumAt.push HMM.out HSS.out HB.out HO.out HNE.out HBW.out HNN.out HO1.out HG1.out HP1.out
        clear HO1 HG1 HP1 HB1 c1 f1 HBW HOW HRW HNN c0 c0a HB HO HNE HMM HSS HL hw8
        have hw9 : IntKind.i64.wrap ((m : Int) - 1) = (m : Int) - 1 := IntWalk.i64_in _ (by omega)
        go_wp2_with fail
        go_roundw
        case rel => exact ⟨m, by omega, by go_num, HM4⟩
        case measure => simp [intOf]

def WNum (f : FuncId) (k : IntKind) (most : Nat) (b : Nat → List UInt8) : Prop := ∀ {v : Value} {l : List UInt8} {S : Nat → Prop} {w : World}, WrAt v l S w → l.length ≤ 1099511500000 → ∀ n : Nat, n ≤ most → Calls Tryd.prog f #[v, .int k (n : Nat)] w (WOut WrAt v (l ++ b n) S w)
set_option maxHeartbeats 1000000 in
set_option maxRecDepth 100000 in
theorem byte_any : WNum 27 .i64 9223372036854775807 Co.wByte := by
  intro v l S w h hl n hn
  have H := Lib.hid h
  obtain ⟨g, hv⟩ : ∃ g, v = .pointer (some ⟨g, 0, none⟩) := by obtain ⟨g, x, rfl, _⟩ := h; exact ⟨g, rfl⟩
  subst hv
  clear h
  have hw : IntKind.u64.wrap (n : Int) = (n : Int) := by rw [IntKind.wrap_u64]; omega
  go_enter Tryd.func27, Tryd.ntmps27
  go_wp2_with fail
  refine (number_any H.out n 1 (by omega) (by omega) (by omega)).mono ?_
  rintro e w1 ⟨⟨x, rfl⟩, h⟩
  have HF := Lib.hid h
  clear h
  go_wp2_with fail
  go_end0
  refine ⟨⟨_, rfl⟩, ?_⟩
  have := HF.out
  rw [wNum1] at this
  exact this
set_option maxHeartbeats 1000000 in
set_option maxRecDepth 100000 in
theorem short_any : WNum 32 .i64 9223372036854775807 Co.wShort := by
  intro v l S w h hl n hn
  have H := Lib.hid h
  obtain ⟨g, hv⟩ : ∃ g, v = .pointer (some ⟨g, 0, none⟩) := by obtain ⟨g, x, rfl, _⟩ := h; exact ⟨g, rfl⟩
  subst hv
  clear h
  have hw : IntKind.u64.wrap (n : Int) = (n : Int) := by rw [IntKind.wrap_u64]; omega
  go_enter Tryd.func32, Tryd.ntmps32
  go_wp2_with fail
  refine (number_any H.out n 2 (by omega) (by omega) (by omega)).mono ?_
  rintro e w1 ⟨⟨x, rfl⟩, h⟩
  have HF := Lib.hid h
  clear h
  go_wp2_with fail
  go_end0
  refine ⟨⟨_, rfl⟩, ?_⟩
  have := HF.out
  rw [wNum2] at this
  exact this
set_option maxHeartbeats 1000000 in
set_option maxRecDepth 100000 in
theorem long_any : WNum 28 .u64 18446744073709551615 Co.wLong := by
  intro v l S w h hl n hn
  have H := Lib.hid h
  obtain ⟨g, hv⟩ : ∃ g, v = .pointer (some ⟨g, 0, none⟩) := by obtain ⟨g, x, rfl, _⟩ := h; exact ⟨g, rfl⟩
  subst hv
  clear h
  go_enter Tryd.func28, Tryd.ntmps28
  go_wp2_with fail
  refine (number_any H.out n 8 (by omega) (by omega) (by omega)).mono ?_
  rintro e w1 ⟨⟨x, rfl⟩, h⟩
  have HF := Lib.hid h
  clear h
  go_wp2_with fail
  go_end0
  refine ⟨⟨_, rfl⟩, ?_⟩
  have := HF.out
  rw [wNum8] at this
  exact this
set_option maxHeartbeats 1000000 in
set_option maxRecDepth 100000 in
theorem bytes_any {v : Value} {l : List UInt8} {S : Nat → Prop} {w : World} (h : WrAt v l S w) (hl : l.length ≤ 1099511500000) (A : Option Addr) (x : List UInt8) (c : Nat) (hr : Rd w A x) (hc : x.length ≤ c) (hx : x.length ≤ 1000000) (hS : 0 < x.length → ∀ b, A.map (·.block) = some b → ¬ S b) :
    Calls Tryd.prog 29 #[v, .slice A x.length c] w (WOut WrAt v (l ++ Co.wBytes x) S w) := by
  have H := Lib.hid h
  obtain ⟨g, hv⟩ : ∃ g, v = .pointer (some ⟨g, 0, none⟩) := by obtain ⟨g, x, rfl, _⟩ := h; exact ⟨g, rfl⟩
  subst hv
  obtain ⟨k, hk⟩ : ∃ k : Nat, k = min x.length 65535 := ⟨_, rfl⟩
  have hk1 : k ≤ x.length := by omega
  have hmin : (if (65535 : Int) < ((x.length : Nat) : Int) then (65535 : Int) else ((x.length : Nat) : Int)) = (k : Int) := by split <;> omega
  obtain ⟨r, hsl, hrc, HRD, HEQ, HLR, hrl⟩ := part_h A x c k hk1 hc
  obtain rfl : k = r.length := HLR.out.symm
  have HR := Lib.hid hr
  have HS := Lib.hid hS
  have hr5 : r.length ≤ 65535 := by have := HLR.out; omega
  have HX : Hid (Co.wBytes x = Co.wShort r.length ++ r) := by
    show _ = _
    unfold Co.wBytes
    have e : x.take 65535 = r := by
      refine Eq.trans ?_ HEQ.out.symm
      by_cases h6 : x.length ≤ 65535
      · rw [List.take_of_length_le h6, List.take_of_length_le (by omega)]
      · rw [show r.length = 65535 by omega]
    rw [e]
  clear h hr hS hk
  go_enter Tryd.func29, Tryd.ntmps29
  go_wp2_with fail
  refine (short_any H.out hl r.length (by omega)).mono ?_
  rintro e w1 ⟨⟨y, rfl⟩, S', hat, hm, hs⟩
  have HAT := Lib.hid hat
  have HM := Lib.hid hm
  have HS' := Lib.hid hs
  clear hat hm hs
  go_wp2_with fail
  refine (raw_any HAT.out A r c ((HRD.out _ HR.out).mod HM.out (fun h0 b hb => HS.out (by omega) b hb)) (fun h0 b hb hS' => ?_) (by rw [List.length_append]; simp [Co.wShort]; omega)).mono ?_
  · rcases HS'.out b hS' with h | h
    · exact HS.out (by omega) b hb h
    · obtain ⟨b', off, rfl, hlt, _⟩ := HR.out (by omega)
      simp at hb
      omega
  rintro e w2 ⟨⟨z, rfl⟩, S2, hat, hm, hs⟩
  have HF : Hid (WOut WrAt (.pointer (some ⟨g, 0, none⟩)) (l ++ Co.wBytes x) S w (.returned (.tuple #[])) w2) := by
    refine ⟨⟨_, rfl⟩, S2, ?_, ⟨hm.os.trans HM.out.os, hm.tape.trans HM.out.tape, hm.output.trans HM.out.output, Nat.le_trans HM.out.size hm.size, fun k hk hn => (hm.block k (Nat.lt_of_lt_of_le hk HM.out.size) fun hX => ?_).trans (HM.out.block k hk hn)⟩, fun b hb => ?_⟩
    · rw [HX.out, ← List.append_assoc]; exact hat
    · rcases HS'.out k hX with h | h
      · exact hn h
      · omega
    · rcases hs b hb with h | h
      · exact HS'.out b h
      · exact .inr (Nat.le_trans HM.out.size h)
  clear hat hm hs
  go_wp2_with fail
  go_end0
  exact HF.out

def wsaid : WSaid where
  At := WrAt
  keep := fun h _ hb => h.keep hb
  lt := fun h => h.lt
  ptr := fun h => by obtain ⟨g, x, rfl, _⟩ := h; exact ⟨_, rfl⟩
  new := neww_any
  byte := fun h hl n hn => byte_any h hl n hn
  short := fun h hl n hn => short_any h hl n hn
  long := fun h hl n hn => long_any h hl n hn
  bytes := fun h hl A x c hr hc hx hS => bytes_any h hl A x c hr hc hx hS
  raw := fun h A x c hr hc hx hS => raw_any h A x c hr hS (by omega)
  done := fun h => done_any h
end Go.Proofs.YtmcbpgbiephllaaDoor

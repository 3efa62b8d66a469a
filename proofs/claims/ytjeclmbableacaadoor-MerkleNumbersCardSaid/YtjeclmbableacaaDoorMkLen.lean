/-
  OWN WORK. What trees of hashes lean on: the hashes of a leaf and of a pair, and where a tree is parted: the document's, and the program's.
-/
import Derived.Test.YtjeclmbableacaaDoorMkRows
import Derived.Test.YtjeclmbableacaaDoorMkParting
import Derived.Test.YtjeclmbableacaaDoorShTop
import Derived.Test.YtjeclmbableacaaDoorShRefT
import Derived.Test.YtjeclmbableacaaDoorBaCut
namespace Go.Proofs.YtjeclmbableacaaDoor
open Go.RowKit Rc

structure Small (L : List (List UInt8)) : Prop where
  len : L.length ≤ 1000000
  each : ∀ y, y ∈ L → y.length ≤ 1000000
theorem Small.take {L : List (List UInt8)} (h : Small L) (k : Nat) : Small (L.take k) := ⟨by have := h.len; rw [List.length_take]; omega, fun y hy => h.each y (List.mem_of_mem_take hy)⟩
theorem Small.drop {L : List (List UInt8)} (h : Small L) (k : Nat) : Small (L.drop k) := ⟨by have := h.len; rw [List.length_drop]; omega, fun y hy => h.each y (List.mem_of_mem_drop hy)⟩
theorem Small.at_ {L : List (List UInt8)} (h : Small L) {j : Nat} {y : List UInt8} (hj : L[j]? = some y) : y.length ≤ 1000000 := h.each y (List.mem_of_getElem? hj)
theorem leaf_length (x : List UInt8) : (Mk.leafOf Sh.sum x).length = 32 := Sh.sum_length _
theorem pair_length (a b : List UInt8) : (Mk.pairOf Sh.sum a b).length = 32 := Sh.sum_length _
theorem root_length (L : List (List UInt8)) : (Mk.root Sh.sum L).length = 32 := by
  rcases Nat.lt_or_ge L.length 2 with h | h
  · rcases Nat.lt_or_ge L.length 1 with h1 | h1
    · obtain rfl : L = [] := List.eq_nil_of_length_eq_zero (by omega)
      rw [Mk.root_nil]; exact Sh.sum_length _
    · obtain ⟨x, rfl⟩ := List.length_eq_one_iff.1 (show L.length = 1 by omega)
      rw [Mk.root_one]; exact leaf_length _
  · rw [Mk.root_split _ L h]; exact pair_length _ _

def KP (w : World) : Prop := KAt w
def KR (_ : World) : Prop := True
theorem KP.later {w w' : World} (h : KP w) (hb : Below w.heap.size w w') : KP w' := KAt.below h hb (KAt.pos h)
theorem KR.later {w w' : World} (_ : KR w) (_ : Below w.heap.size w w') : KR w' := trivial
theorem hout_of {f : FuncId} {args : Array Value} {w : World} {l : List UInt8} (hl : l.length = 32) (h : Calls Tryd.prog f args w fun e w' => ∃ v, e = .returned v ∧ w'.ownsRow w.heap.size 5 1 v 32 (Lib.byteCells l) ∧ Below w.heap.size w w') : Calls Tryd.prog f args w (HOut l w) :=
  h.mono fun _e _w' ⟨v, h1, h2, h3⟩ => ⟨v, h1, HNew.of_own h2 hl, h3⟩
theorem pSum0 (w : World) (hK : KP w) : Calls Tryd.prog 26 #[.slice none 0 0] w (HOut (Sh.sum []) w) := hout_of (Sh.sum_length _) (sum_any w [] none 0 (Rd.nil _ _) (Nat.le_refl _) hK (by simp))
theorem pLeaf (w : World) (l : List UInt8) (A : Option Addr) (cap : Nat) (hr : Rd w A l) (hcap : l.length ≤ cap) (hK : KP w) (hl : l.length ≤ 1000000) : Calls Tryd.prog 27 #[.slice A l.length cap] w (HOut (Mk.leafOf Sh.sum l) w) := hout_of (leaf_length _) (leaf_any w l A cap hr hcap hK (by omega))
theorem pPair (w : World) (l l2 : List UInt8) (A A2 : Option Addr) (cap cap2 : Nat) (hr : Rd w A l) (hcap : l.length ≤ cap) (hr2 : Rd w A2 l2) (hcap2 : l2.length ≤ cap2) (hK : KP w) (hl : l.length ≤ 1000000) (hl2 : l2.length ≤ 1000000) : Calls Tryd.prog 29 #[.slice A l.length cap, .slice A2 l2.length cap2] w (HOut (Mk.pairOf Sh.sum l l2) w) := hout_of (pair_length _ _) (pair_any w l l2 A A2 cap cap2 hr hcap hr2 hcap2 hK (by omega))
theorem pPart (w : World) (n : Nat) (h : 2 ≤ n) (hn : n ≤ 1000000) : Calls Tryd.prog 28 #[.int .i64 (n : Nat)] w fun e w' => e = .returned (.int .i64 (Mk.part n : Nat)) ∧ w = w' := parting_any w n h hn
theorem rSum0 (w : World) (_hK : KR w) : Calls Tryd.prog 30 #[.slice none 0 0] w (HOut (Sh.sum []) w) := hout_of (Sh.sum_length _) (refSum_sum w [] none 0 (Rd.nil _ _) (by simp))
theorem refSaid : Hid RefSumSaid := fun w l A cap hr hl => refSum_sum w l A cap hr hl
theorem rLeaf (w : World) (l : List UInt8) (A : Option Addr) (cap : Nat) (hr : Rd w A l) (_hcap : l.length ≤ cap) (_hK : KR w) (hl : l.length ≤ 1000000) : Calls Tryd.prog 24 #[.slice A l.length cap] w (HOut (Mk.leafOf Sh.sum l) w) := hout_of (leaf_length _) (refLeaf_any refSaid w l A cap hr (by omega))
theorem rPair (w : World) (l l2 : List UInt8) (A A2 : Option Addr) (cap cap2 : Nat) (hr : Rd w A l) (_hcap : l.length ≤ cap) (hr2 : Rd w A2 l2) (_hcap2 : l2.length ≤ cap2) (_hK : KR w) (hl : l.length ≤ 1000000) (hl2 : l2.length ≤ 1000000) : Calls Tryd.prog 25 #[.slice A l.length cap, .slice A2 l2.length cap2] w (HOut (Mk.pairOf Sh.sum l l2) w) := hout_of (pair_length _ _) (refPair_any refSaid w l l2 A A2 cap cap2 hr hr2 (by omega))
theorem rPart (w : World) (n : Nat) (h : 2 ≤ n) (hn : n ≤ 1000000) : Calls Tryd.prog 31 #[.int .i64 (n : Nat)] w fun e w' => e = .returned (.int .i64 (Mk.part n : Nat)) ∧ w = w' := refPart_any w n h hn
end Go.Proofs.YtjeclmbableacaaDoor
namespace Go.Proofs.YtjeclmbableacaaDoor
open Go.RowKit Rc

theorem path_len (L : List (List UInt8)) (i : Nat) (h : L.length ≤ 1000000) : (Mk.path Sh.sum L i).length ≤ 20 := Mk.path_length Sh.sum 20 L i (by omega)
theorem sub_len (L : List (List UInt8)) (m : Nat) (whole : Bool) (h : L.length ≤ 1000000) : (Mk.sub Sh.sum L m whole).length ≤ 21 := Mk.sub_length Sh.sum 20 L m whole (by omega)
theorem lone_new {l : List UInt8} {w w1 : World} {x : Value} (hx : HNew l w x w1) (hb : Below w.heap.size w w1) : LNew [l] w (.slice (some ⟨w1.heap.size, 0, none⟩) 1 1) (w1.alloc (.cells #[x] 23)) := by
  obtain ⟨A, c, rfl, hc, hr, hA⟩ := hx
  have h1 := LOwn.one (w := w1) (O := noOld) (S := fun b => w.heap.size ≤ b ∧ b < w1.heap.size) hc (.inl ⟨hr, fun b hb => ⟨hA b hb, (hA b hb).2⟩⟩)
  refine h1.mono hb.size (fun _ _ h => h) fun b hb2 => ?_
  rw [World.size_alloc]
  rcases hb2 with h | h
  · exact ⟨h.1, by omega⟩
  · have := hb.size; exact ⟨by omega, by omega⟩
theorem path_mem (L : List (List UInt8)) (i : Nat) (y : List UInt8) (h : y ∈ Mk.path Sh.sum L i) : y.length = 32 := by
  have key : ∀ (N : Nat) (L : List (List UInt8)) (i : Nat), L.length ≤ N → ∀ y, y ∈ Mk.path Sh.sum L i → y.length = 32 := by
    intro N
    induction N with
    | zero => intro L i hN y hy; rw [Mk.path_short Sh.sum L i (by omega)] at hy; simp at hy
    | succ N ih =>
      intro L i hN y hy
      rcases Nat.lt_or_ge L.length 2 with h2 | h2
      · rw [Mk.path_short Sh.sum L i h2] at hy; simp at hy
      · have hp := Mk.part_lt L.length h2
        have hq := Mk.part_pos L.length h2
        by_cases hi : i < Mk.part L.length
        · rw [Mk.path_left Sh.sum L i h2 hi] at hy
          rcases List.mem_append.1 hy with h | h
          · exact ih _ _ (by rw [List.length_take]; omega) y h
          · simp at h; rw [h]; exact root_length _
        · rw [Mk.path_right Sh.sum L i h2 hi] at hy
          rcases List.mem_append.1 hy with h | h
          · exact ih _ _ (by rw [List.length_drop]; omega) y h
          · simp at h; rw [h]; exact root_length _
  exact key _ L i (Nat.le_refl _) y h
theorem sub_mem (L : List (List UInt8)) (m : Nat) (whole : Bool) (y : List UInt8) (h : y ∈ Mk.sub Sh.sum L m whole) : y.length = 32 := by
  have key : ∀ (N : Nat) (L : List (List UInt8)) (m : Nat) (whole : Bool), L.length ≤ N → ∀ y, y ∈ Mk.sub Sh.sum L m whole → y.length = 32 := by
    intro N
    induction N with
    | zero =>
      intro L m whole hN y hy
      rw [Mk.sub, dif_pos (.inl (by omega))] at hy
      cases whole with
      | true => simp at hy
      | false => simp at hy; rw [hy]; exact root_length _
    | succ N ih =>
      intro L m whole hN y hy
      by_cases h2 : L.length < 2 ∨ m = L.length
      · rw [Mk.sub, dif_pos h2] at hy
        cases whole with
        | true => simp at hy
        | false => simp at hy; rw [hy]; exact root_length _
      · have h3 : 2 ≤ L.length := by omega
        have hp := Mk.part_lt L.length h3
        have hq := Mk.part_pos L.length h3
        by_cases hi : m ≤ Mk.part L.length
        · rw [Mk.sub_left Sh.sum L m whole h3 (by omega) hi] at hy
          rcases List.mem_append.1 hy with h | h
          · exact ih _ _ _ (by rw [List.length_take]; omega) y h
          · simp at h; rw [h]; exact root_length _
        · rw [Mk.sub_right Sh.sum L m whole h3 (by omega) hi] at hy
          rcases List.mem_append.1 hy with h | h
          · exact ih _ _ _ (by rw [List.length_drop]; omega) y h
          · simp at h; rw [h]; exact root_length _
  exact key _ L m whole (Nat.le_refl _) y h
end Go.Proofs.YtjeclmbableacaaDoor
namespace Go.Proofs.YtjeclmbableacaaDoor
open Go.RowKit Rc

def CAns (o : Option (List UInt8)) (w : World) (e : Ending) (w' : World) : Prop := ∃ (X : List UInt8) (A : Option Addr) (c : Nat) (ok : Bool), e = .returned (.tuple #[.slice A X.length c, .bool ok]) ∧ X.length ≤ c ∧ X.length ≤ 1000000 ∧ Rd w' A X ∧ o = (if ok then some X else none) ∧ Below w.heap.size w w'
def BAns (o : Option (List UInt8 × List UInt8)) (w : World) (e : Ending) (w' : World) : Prop := ∃ (X : List UInt8) (A : Option Addr) (c : Nat) (Y : List UInt8) (B : Option Addr) (d : Nat) (ok : Bool), e = .returned (.tuple #[.slice A X.length c, .slice B Y.length d, .bool ok]) ∧ X.length ≤ c ∧ X.length ≤ 1000000 ∧ Rd w' A X ∧ Y.length ≤ d ∧ Y.length ≤ 1000000 ∧ Rd w' B Y ∧ o = (if ok then some (X, Y) else none) ∧ Below w.heap.size w w'
end Go.Proofs.YtjeclmbableacaaDoor
namespace Go.Proofs.YtjeclmbableacaaDoor

theorem last_of {P : List (List UInt8)} {u : List UInt8} (hu : P[P.length - 1]? = some u) : P = P.take (P.length - 1) ++ [u] := by
  have hl := (List.getElem?_eq_some_iff.1 hu).1
  conv => lhs; rw [← List.take_append_drop (P.length - 1) P]
  congr 1
  apply List.ext_getElem?
  intro j
  rw [List.getElem?_drop]
  rcases j with _ | j
  · rw [Nat.add_zero, hu]; rfl
  · rw [List.getElem?_eq_none (by omega)]; rfl
theorem single_none {P : List (List UInt8)} (h : P.length ≠ 1) : Mk.single P = none := by
  match P, h with
  | [], _ => rfl
  | [_], h => exact absurd rfl h
  | _ :: _ :: _, _ => rfl
end Go.Proofs.YtjeclmbableacaaDoor
namespace Go.Proofs.YtjeclmbableacaaDoor
open Go.RowKit Rc

theorem ba_loop (bs : ByteArray) : ∀ (n i : Nat) (r : List UInt8), bs.size - i = n → ByteArray.toList.loop bs i r = r.reverse ++ bs.data.toList.drop i
  | 0, i, r, h => by
    have hs : bs.size = bs.data.toList.length := by rw [Array.length_toList]; rfl
    unfold ByteArray.toList.loop
    rw [if_neg (by omega), List.drop_of_length_le (by omega), List.append_nil]
  | n + 1, i, r, h => by
    have hs : bs.size = bs.data.toList.length := by rw [Array.length_toList]; rfl
    have hi : i < bs.data.toList.length := by omega
    unfold ByteArray.toList.loop
    rw [if_pos (by omega), ba_loop bs n (i + 1) _ (by omega), List.drop_eq_getElem_cons hi, List.reverse_cons, List.append_assoc]
    congr 2
    have hi2 : i < bs.data.size := by rw [Array.length_toList] at hi; exact hi
    show [bs.data[i]!] ++ _ = _
    rw [getElem!_pos bs.data i hi2]
    rfl
theorem strOf_list (l : List UInt8) : (strOf l).toList = l := by
  show ByteArray.toList.loop (strOf l) 0 [] = l
  rw [ba_loop (strOf l) _ 0 [] rfl]
  simp [strOf]
theorem strOf_toList (a b : List UInt8) : ((strOf a).toList == (strOf b).toList) = decide (a = b) := by
  rw [strOf_list, strOf_list]
  by_cases h : a = b
  · subst h; simp
  · rw [decide_eq_false h]; exact beq_eq_false_iff_ne.2 h
set_option maxHeartbeats 1000000 in
theorem equal_any (w : World) (a b : List UInt8) (A B : Option Addr) (c d : Nat) (ha : Rd w A a) (hb : Rd w B b) :
    Calls Tryd.prog 34 #[.slice A a.length c, .slice B b.length d] w fun e w' => e = .returned (.bool (decide (a = b))) ∧ w = w' := by
  have e1 := Ob.str_run w A a c ha
  have e2 := Ob.str_run w B b d hb
  have e3 := strOf_toList a b
  go_enter Tryd.func34, Tryd.ntmps34
  go_wp2_with fail
  go_ret
  exact ⟨rfl, rfl⟩
end Go.Proofs.YtjeclmbableacaaDoor
namespace Go.Proofs.YtjeclmbableacaaDoor
open Go.RowKit Rc

def chk (root x : List UInt8) (i n : Int) (P : List (List UInt8)) : Bool := decide (0 ≤ i ∧ i < n ∧ Mk.climb Sh.sum x i.toNat n.toNat P = some root)
theorem chk_no {root x : List UInt8} {i n : Int} {P : List (List UInt8)} (h : i < 0 ∨ n ≤ i) : chk root x i n P = false := decide_eq_false fun h2 => by omega
theorem chk_none {root x : List UInt8} {i n : Nat} {P : List (List UInt8)} (h : Mk.climb Sh.sum x i n P = none) : chk root x i n P = false := decide_eq_false fun h2 => by
  have := h2.2.2
  rw [Int.toNat_natCast, Int.toNat_natCast, h] at this
  cases this
theorem chk_some {root x X : List UInt8} {i n : Nat} {P : List (List UInt8)} (hi : i < n) (h : Mk.climb Sh.sum x i n P = some X) : chk root x i n P = decide (X = root) := by
  unfold chk
  rw [Int.toNat_natCast, Int.toNat_natCast, h]
  exact decide_eq_decide.2 ⟨fun h => Option.some.inj h.2.2, fun h => ⟨by omega, by omega, by rw [h]⟩⟩
def chkg (old root : List UInt8) (m n : Int) (P : List (List UInt8)) : Bool := decide (1 ≤ m ∧ m ≤ n ∧ Mk.both Sh.sum old m.toNat n.toNat P true = some (old, root))
theorem chkg_no {old root : List UInt8} {m n : Int} {P : List (List UInt8)} (h : m < 1 ∨ n < m) : chkg old root m n P = false := decide_eq_false fun h2 => by omega
theorem chkg_none {old root : List UInt8} {m n : Nat} {P : List (List UInt8)} (h : Mk.both Sh.sum old m n P true = none) : chkg old root m n P = false := decide_eq_false fun h2 => by
  have := h2.2.2
  rw [Int.toNat_natCast, Int.toNat_natCast, h] at this
  cases this
theorem chkg_some {old root X Y : List UInt8} {m n : Nat} {P : List (List UInt8)} (hm : 1 ≤ m ∧ m ≤ n) (h : Mk.both Sh.sum old m n P true = some (X, Y)) : chkg old root m n P = (decide (X = old) && decide (Y = root)) := by
  unfold chkg
  rw [Int.toNat_natCast, Int.toNat_natCast, h, ← Bool.decide_and]
  refine decide_eq_decide.2 ⟨fun h => ?_, fun h => ⟨by omega, by omega, by rw [h.1, h.2]⟩⟩
  have := Option.some.inj h.2.2
  injection this with h1 h2
  exact ⟨h1, h2⟩
theorem rdl_one {w : World} {A : Option Addr} {y : List UInt8} {c : Nat} (hr : Rd w A y) (hc : y.length ≤ c) : RdL (w.alloc (.cells #[.slice A y.length c] 23)) (some ⟨w.heap.size, 0, none⟩) [y] := by
  have h1 := LOwn.one (w := w) (O := fun B z => Rd w B z) (S := fun _ => False) hc (.inr hr)
  obtain ⟨X, d, e, _, h3, _⟩ := h1.rd (fun B z h => h.below (below_new w _))
  injection e with e1
  subst e1
  exact h3
set_option maxHeartbeats 1000000 in
set_option maxRecDepth 100000 in
theorem hashes_any (w : World) (L : List (List UInt8)) (A : Option Addr) (c : Nat) (hr : RdL w A L) (_hc : L.length ≤ c) (h : ∀ y, y ∈ L → y.length = 32) (hn : L.length ≤ 1000000 := by first | omega | simp) :
    Calls Tryd.prog 37 #[.slice A L.length c] w fun e w' => e = .returned (.bool true) ∧ w = w' := by
  have HR := Lib.hid hr
  have HH := Lib.hid h
  clear hr h
  go_enter Tryd.func37, Tryd.ntmps37
  go_wp2_with fail
  go_loopw [7] (fun t7 wr => ∃ k : Nat, t7 = .int .i64 (k : Nat) ∧ k ≤ L.length ∧ wr = w) (fun t7 _ => L.length - (intOf t7).toNat)
  case atStart => exact ⟨0, rfl, Nat.zero_le _, rfl⟩
  case round =>
    obtain ⟨k, rfl, hk, rfl⟩ := hrel
    by_cases h1 : k < L.length
    · obtain ⟨b, off, y, A', c', rfl, hy, hcell, hc', hr'⟩ := HR.out.at_ k h1
      have hyl : y.length = 32 := HH.out y (List.mem_of_getElem? hy)
      rw [hyl] at hcell
      clear hy hr' hyl hc'
      go_wp2_with fail
      go_roundw
      case rel => exact ⟨k + 1, by go_num, by omega, trivial⟩
      case measure => simp [intOf]; omega
    · go_wp2_with fail
      go_ret
      exact ⟨rfl, rfl⟩
end Go.Proofs.YtjeclmbableacaaDoor
namespace Go.Proofs.YtjeclmbableacaaDoor
open Go.RowKit Rc

theorem LNew.later {w0 w w' : World} {R : List (List UInt8)} {v : Value} (h : LNew R w0 v w) (hb : Below w.heap.size w w') : LNew R w0 v w' := by
  have h1 := LOwn.keep h hb.size (fun b hb2 => hb.block b hb2.2)
  exact h1.mono (Nat.le_refl _) (fun _ _ h => h) fun b hb2 => ⟨hb2.1, Nat.lt_of_lt_of_le hb2.2 hb.size⟩
/-- Seen from an earlier world. -/
theorem LNew.from_ {w0 w1 w : World} {R : List (List UInt8)} {v : Value} (h : LNew R w1 v w) (hs : w0.heap.size ≤ w1.heap.size) : LNew R w0 v w :=
  LOwn.mono h hs (fun _ _ h => h) fun _b hb => ⟨Nat.le_trans hs hb.1, hb.2⟩
theorem run_push {w0 wr w3 : World} {R : List (List UInt8)} {l : List UInt8} {v xv : Value} (ty : TypeId) (h1 : LNew R w0 v wr) (hw : Below w0.heap.size w0 wr) (hx : HNew l wr xv w3) (hb : Below wr.heap.size wr w3) (hn : R.length ≤ 1000000) :
    ∃ v' w', (Builtin.append_ #[22, 22] ty #[v, .slice (some ⟨w3.heap.size, 0, none⟩) 1 1]).run Tryd.prog (w3.alloc (.cells #[xv] 23)) = .ok v' w' ∧ LNew (R ++ [l]) w0 v' w' ∧ Below w0.heap.size w0 w' := by
  have hb4 : Below wr.heap.size wr (w3.alloc (.cells #[xv] 23)) := hb.alloc hb.size _
  have hx2 := lone_new hx hb
  have e1 := LOwn.keep h1 hb4.size (fun b hb2 => hb4.block b hb2.2)
  have e2 := LOwn.mono (B' := w0.heap.size) hx2 hw.size (fun _ _ h => h) (fun _ h => h)
  have hs4 : wr.heap.size ≤ (w3.alloc (.cells #[xv] 23)).heap.size := hb4.size
  obtain ⟨v', w', r1, r2, r3, r4, r5⟩ := run_append_rows ty e1 e2 (Nat.zero_lt_succ _) (fun b h2 h3 => by have := h2.2; have := h3.1; omega) (fun b h2 => h2.elim (fun h => Nat.lt_of_lt_of_le h.2 hs4) (fun h => h.2)) (Nat.le_trans hw.size hs4) (by simp only [List.length_cons, List.length_nil]; omega)
  have ho : ∀ b, v.ownBlock = some b → w0.heap.size ≤ b := fun b h => by obtain ⟨xs, _, h3, _⟩ := h1; exact (h3 b h).1
  have hwb : Below w0.heap.size w0 (w3.alloc (.cells #[xv] 23)) := hw.trans (hb4.mono hw.size)
  refine ⟨v', w', r1, r2.mono (Nat.le_refl _) (fun _ _ h => h) fun b hb2 => ?_, hwb.grown r3 hwb.size ho⟩
  rcases hb2 with (h | h) | h
  · exact ⟨h.1, Nat.lt_of_lt_of_le h.2 (Nat.le_trans hs4 r3.size)⟩
  · exact ⟨Nat.le_trans hw.size h.1, Nat.lt_of_lt_of_le h.2 r3.size⟩
  · refine ⟨?_, r5 b h⟩
    rcases r4 with e | e
    · exact ho b (e ▸ h)
    · rw [e] at h; injection h with h; have := hwb.size; omega
theorem wpList_push {w0 wr w3 : World} {R : List (List UInt8)} {l : List UInt8} {v xv : Value} {ops : Array Oper} {rest : List Oper} {o : Oper} {a : Act} {Q : Exit → Act → World → Prop} (hgd : o.guard = none) (s x : Operand)
    (ho : o.op = .call { callee := .builtin .append, args := #[s, x], argTypes := #[22, 22] }) (hs : a.eval s = v) (hx : a.eval x = .slice (some ⟨w3.heap.size, 0, none⟩) 1 1)
    (h1 : LNew R w0 v wr) (hw : Below w0.heap.size w0 wr) (h2 : HNew l wr xv w3) (hb : Below wr.heap.size wr w3) (hn : R.length ≤ 1000000)
    (h : ∀ v' w', Hid (LNew (R ++ [l]) w0 v' w') → Hid (Below w0.heap.size w0 w') → wpList Tryd.prog ops Q rest (a.put o.dst v') w') : wpList Tryd.prog ops Q (o :: rest) a (w3.alloc (.cells #[xv] 23)) := by
  refine wpList_plain hgd fun K hK => ?_
  obtain ⟨v', w', hrun, q1, q2⟩ := run_push o.type h1 hw h2 hb hn
  unfold Oper.wp
  simp [execOp, ho, resolve, invoke, builtin, hs, hx, hrun, Result.andThen]
  exact hK _ _ (h v' w' q1 q2)
end Go.Proofs.YtjeclmbableacaaDoor
namespace Go.Proofs.YtjeclmbableacaaDoor
open Go.RowKit Rc

/-- Rows of rows of the call's own; what stands in them was there before, or is new. -/
def FNew (R : List (List UInt8)) (w0 : World) (v : Value) (w : World) : Prop := LOwn w0.heap.size (Rd w0) v R (fun b => w0.heap.size ≤ b ∧ b < w.heap.size) w
theorem FNew.form {R : List (List UInt8)} {w0 w : World} {v : Value} (h : FNew R w0 v w) (hb : Below w0.heap.size w0 w) : ∃ A c, v = .slice A R.length c ∧ R.length ≤ c ∧ RdL w A R := by
  obtain ⟨A, c, h1, h2, h3, _⟩ := LOwn.rd h (fun _ _ h => h.below hb)
  exact ⟨A, c, h1, h2, h3⟩
theorem FNew.later {w0 w w' : World} {R : List (List UInt8)} {v : Value} (h : FNew R w0 v w) (hb : Below w.heap.size w w') : FNew R w0 v w' := by
  have h1 := LOwn.keep h hb.size (fun b hb2 => hb.block b hb2.2)
  exact h1.mono (Nat.le_refl _) (fun _ _ h => h) fun b hb2 => ⟨hb2.1, Nat.lt_of_lt_of_le hb2.2 hb.size⟩
theorem wpList_put {w0 wr : World} {R : List (List UInt8)} {y : List UInt8} {v : Value} {A : Option Addr} {c : Nat} {ops : Array Oper} {rest : List Oper} {o : Oper} {a : Act} {Q : Exit → Act → World → Prop} (hgd : o.guard = none) (s x : Operand)
    (ho : o.op = .call { callee := .builtin .append, args := #[s, x], argTypes := #[22, 22] }) (hs : a.eval s = v) (hx : a.eval x = .slice (some ⟨wr.heap.size, 0, none⟩) 1 1)
    (h1 : FNew R w0 v wr) (hw : Below w0.heap.size w0 wr) (hr : Rd w0 A y) (hc : y.length ≤ c) (hn : R.length ≤ 1000000)
    (h : ∀ v' w', Hid (FNew (R ++ [y]) w0 v' w') → Hid (Below w0.heap.size w0 w') → wpList Tryd.prog ops Q rest (a.put o.dst v') w') : wpList Tryd.prog ops Q (o :: rest) a (wr.alloc (.cells #[.slice A y.length c] 23)) := by
  refine wpList_plain hgd fun K hK => ?_
  have hb4 : Below wr.heap.size wr (wr.alloc (.cells #[.slice A y.length c] 23)) := below_new wr _
  have e1 := LOwn.keep h1 hb4.size (fun b hb2 => hb4.block b hb2.2)
  have e2 := (LOwn.one (w := wr) (O := Rd w0) (S := fun _ => False) hc (.inr hr)).mono (B' := w0.heap.size) hw.size (fun _ _ h => h) (fun _ h => h)
  have hs4 : (wr.alloc (.cells #[.slice A y.length c] 23)).heap.size = wr.heap.size + 1 := World.size_alloc _ _
  obtain ⟨v', w', r1, r2, r3, r4, r5⟩ := run_append_rows o.type e1 e2 (Nat.zero_lt_succ _) (fun b h2 h3 => by rcases h3 with h3 | h3; exact h3.elim; have := h2.2; omega) (fun b h2 => by rcases h2 with h | h | h; have := h.2; omega; exact h.elim; omega) (by have := hw.size; omega) (by simp only [List.length_cons, List.length_nil]; omega)
  have ho2 : ∀ b, v.ownBlock = some b → w0.heap.size ≤ b := fun b h => by obtain ⟨xs, _, h3, _⟩ := h1; exact (h3 b h).1
  have hwb : Below w0.heap.size w0 (wr.alloc (.cells #[.slice A y.length c] 23)) := hw.trans (hb4.mono hw.size)
  unfold Oper.wp
  simp [execOp, ho, resolve, invoke, builtin, hs, hx, r1, Result.andThen]
  have hr3 := r3.size
  refine hK _ _ (h v' w' (r2.mono (Nat.le_refl _) (fun _ _ h => h) fun b hb2 => ?_) (hwb.grown r3 hwb.size ho2))
  rcases hb2 with (h | h) | h
  · exact ⟨h.1, by have := h.2; omega⟩
  · rcases h with h | h
    · exact h.elim
    · have := hw.size; exact ⟨by omega, by omega⟩
  · refine ⟨?_, r5 b h⟩
    rcases r4 with e | e
    · exact ho2 b (e ▸ h)
    · rw [e] at h; injection h with h; have := hwb.size; omega
def FewOut (w : World) (e : Ending) (w' : World) : Prop := ∃ v R, e = .returned v ∧ FNew R w v w' ∧ R.length ≤ 40 ∧ (∀ y, y ∈ R → y.length ≤ 40) ∧ Below w.heap.size w w'
set_option maxHeartbeats 2000000 in
set_option maxRecDepth 100000 in
theorem few_any (w : World) (L : List (List UInt8)) (A : Option Addr) (c : Nat) (hr : RdL w A L) (hl : ∀ y, y ∈ L → y.length ≤ 9223372036854775807) (hn : L.length ≤ 9223372036854775807) :
    Calls Tryd.prog 19 #[.slice A L.length c] w (FewOut w) := by
  have HR := Lib.hid hr
  have HL := Lib.hid hl
  have HN := Lib.hid hn
  clear hr hl hn
  go_enter Tryd.func19, Tryd.ntmps19
  go_wp2_with fail
  go_loopw [3, 4] (fun t3 t4 wr => ∃ (k : Nat) (R : List (List UInt8)), t4 = .int .i64 (k : Nat) ∧ k ≤ 40 ∧ Hid (R.length = k) ∧ Hid (FNew R w t3 wr) ∧ Hid (∀ y, y ∈ R → y.length ≤ 40) ∧ Hid (Below w.heap.size w wr)) (fun _ t4 _ => 40 - (intOf t4).toNat)
  case atStart => exact ⟨0, [], rfl, by omega, rfl, LOwn.nil _ _ _ _, by intro y hy; simp at hy, Below.refl _ _⟩
  case round =>
    obtain ⟨k, R, rfl, hk, HRL, HF, HE, HB⟩ := hrel
    by_cases h1 : k < L.length
    · by_cases h2 : k < 40
      · obtain ⟨b, off, y, A', c', rfl, hy, hcell, hc', hr'⟩ := HR.out.at_ k h1
        have hyl := HL.out y (List.mem_of_getElem? hy)
        have hlt : b < w.heap.size := World.block_lt_of_cell? w ⟨b, _, none⟩ hcell
        have hcell2 : wr.cell? ⟨b, off + k, none⟩ = some (.slice A' y.length c') := (HB.out.cell (p := ⟨b, off + k, none⟩) hlt).trans hcell
        have HR' := Lib.hid hr'
        have hN2 := HN.out
        clear hcell hr' hy hlt
        go_wp2_with fail
        refine (cut_all A' y c' 40 wr hc' (by omega) hyl).mono ?_
        rintro e w1 ⟨x, rfl, rfl, hx1, hx2, hx3⟩
        have HX : Hid (Rd w A' x) := hx3.out w HR'.out
        clear hx3
        go_wp2_with (at_builtin; refine wpList_put rfl (.tmp 15) (.tmp 21) rfl rfl rfl HF.out HB.out HX.out hx2 (by have := HRL.out; omega) ?_; intro v2 w4 HN2 HB2)
        go_roundw
        case rel => exact ⟨k + 1, R ++ [x], by go_num, by omega, by have := HRL.out; show _ = _; simp [this], HN2, by intro z hz; rcases List.mem_append.1 hz with h | h; exact HE.out z h; simp at h; rw [h]; exact hx1, HB2⟩
        case measure => simp [intOf]; omega
      · obtain rfl : k = 40 := by omega
        go_wp2_with fail
        go_ret
        exact ⟨_, R, rfl, HF.out, by have := HRL.out; omega, HE.out, HB.out⟩
    · have h3 : ¬ (k : Int) < (L.length : Int) := by omega
      go_wp2_with fail
      go_ret
      exact ⟨_, R, rfl, HF.out, by have := HRL.out; omega, HE.out, HB.out⟩
end Go.Proofs.YtjeclmbableacaaDoor

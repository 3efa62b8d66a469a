/-
  OWN WORK. CpBack, BaIn64, NoPure, PaPure, BaText, BaStrs, TrPure, TrLaw, TrGood, TrStep, TrKept, TrKeptB, BaBig, CpClone, TrRow, TrMem, TrEnt, PtGood, PtNames, TrWay
-/
import Derived.Test.YtjoedamiilgajaaDoorI02
import Derived.Test.YtjoedamiilgajaaDoorI01
import Derived.WalkSpells
import Derived.Lib.SliceRun
import Derived.Lib.AppendZerosOnto
import Derived.Lib.Overlaps
import Derived.Laws.Externs
import Derived.Deep.RegionWith
import Derived.BigRegion

namespace Go.Proofs.YtjoedamiilgajaaDoor
open Go.RowKit
namespace Co
theorem raw_inv (k : Nat) (s : Rs) (hk : 1 ≤ k) (h : (raw (k : Int) s).2.why = 0) : s.why = 0 ∧ (raw (k : Int) s).1.length = k ∧ s.rem = (raw (k : Int) s).1 ++ (raw (k : Int) s).2.rem := by
  unfold raw at h ⊢
  by_cases h1 : s.why ≠ 0 ∨ (k : Int) < 1
  · rw [if_pos h1] at h
    rcases h1 with h1 | h1
    · exact absurd h h1
    · omega
  · rw [if_neg h1] at h ⊢
    by_cases h2 : (s.rem.length : Int) < (k : Int)
    · rw [if_pos h2] at h
      exact absurd h (by simp)
    · rw [if_neg h2] at h ⊢
      refine ⟨h, ?_, ?_⟩
      · show (s.rem.take (k : Int).toNat).length = k
        rw [List.length_take]; omega
      · show s.rem = s.rem.take (k : Int).toNat ++ s.rem.drop (k : Int).toNat
        rw [List.take_append_drop]
theorem num_inv (k : Nat) (s : Rs) (hk : 1 ≤ k) (h : (num (k : Int) s).2.why = 0) : s.why = 0 ∧ ∃ x : List UInt8, x.length = k ∧ (num (k : Int) s).1 = beVal x ∧ s.rem = x ++ (num (k : Int) s).2.rem := by
  obtain ⟨h1, h2, h3⟩ := raw_inv k s hk h
  exact ⟨h1, _, h2, rfl, h3⟩
theorem byte_inv (s : Rs) (h : (num 1 s).2.why = 0) : s.why = 0 ∧ (num 1 s).1 < 256 ∧ s.rem = wByte (num 1 s).1 ++ (num 1 s).2.rem := by
  obtain ⟨h1, x, h2, h3, h4⟩ := num_inv 1 s (by omega) h
  have h5 : (num 1 s).1 = beVal x := h3
  have h6 : s.rem = x ++ (num 1 s).2.rem := h4
  match x, h2 with
  | [a], _ =>
    have ha := a.toNat_lt
    have e : beVal [a] = a.toNat := by
      simp only [beVal, List.foldl_cons, List.foldl_nil]
      omega
    rw [e] at h5
    refine ⟨h1, by omega, ?_⟩
    rw [h6, h5]
    simp [wByte]
theorem short_inv (s : Rs) (h : (num 2 s).2.why = 0) : s.why = 0 ∧ (num 2 s).1 < 65536 ∧ s.rem = wShort (num 2 s).1 ++ (num 2 s).2.rem := by
  obtain ⟨h1, x, h2, h3, h4⟩ := num_inv 2 s (by omega) h
  have h5 : (num 2 s).1 = beVal x := h3
  have h6 : s.rem = x ++ (num 2 s).2.rem := h4
  match x, h2 with
  | [a, b], _ =>
    have ha := a.toNat_lt
    have hb := b.toNat_lt
    have e : beVal [a, b] = a.toNat * 256 + b.toNat := by
      simp only [beVal, List.foldl_cons, List.foldl_nil]
      omega
    rw [e] at h5
    refine ⟨h1, by omega, ?_⟩
    rw [h6, h5]
    have e1 : UInt8.ofNat ((a.toNat * 256 + b.toNat) / 256) = a := by
      apply UInt8.toNat_inj.1
      rw [UInt8.toNat_ofNat']
      omega
    have e2 : UInt8.ofNat (a.toNat * 256 + b.toNat) = b := by
      apply UInt8.toNat_inj.1
      rw [UInt8.toNat_ofNat']
      omega
    simp only [wShort, e1, e2]
theorem long_inv (s : Rs) (h : (num 8 s).2.why = 0) : s.why = 0 ∧ (num 8 s).1 ≤ 18446744073709551615 ∧ s.rem = wLong (num 8 s).1 ++ (num 8 s).2.rem := by
  obtain ⟨h1, x, h2, h3, h4⟩ := num_inv 8 s (by omega) h
  have h5 : (num 8 s).1 = beVal x := h3
  have h6 : s.rem = x ++ (num 8 s).2.rem := h4
  match x, h2 with
  | [a0, a1, a2, a3, a4, a5, a6, a7], _ =>
    have b0 := a0.toNat_lt
    have b1 := a1.toNat_lt
    have b2 := a2.toNat_lt
    have b3 := a3.toNat_lt
    have b4 := a4.toNat_lt
    have b5 := a5.toNat_lt
    have b6 := a6.toNat_lt
    have b7 := a7.toNat_lt
    obtain ⟨v, hv⟩ : ∃ v, v = beVal [a0, a1, a2, a3, a4, a5, a6, a7] := ⟨_, rfl⟩
    have e : v = ((((((a0.toNat * 256 + a1.toNat) * 256 + a2.toNat) * 256 + a3.toNat) * 256 + a4.toNat) * 256 + a5.toNat) * 256 + a6.toNat) * 256 + a7.toNat := by
      rw [hv]
      simp only [beVal, List.foldl_cons, List.foldl_nil]
      omega
    rw [← hv] at h5
    refine ⟨h1, by omega, ?_⟩
    rw [h6, h5, wLong_is]
    have f : ∀ (d : Nat) (a : UInt8), v / d % 256 = a.toNat → UInt8.ofNat (v / d) = a := fun d a hh => by
      apply UInt8.toNat_inj.1
      rw [UInt8.toNat_ofNat']
      exact hh
    have f7 : UInt8.ofNat v = a7 := by
      apply UInt8.toNat_inj.1
      rw [UInt8.toNat_ofNat']
      omega
    rw [f 72057594037927936 a0 (by omega), f 281474976710656 a1 (by omega), f 1099511627776 a2 (by omega), f 4294967296 a3 (by omega), f 16777216 a4 (by omega), f 65536 a5 (by omega), f 256 a6 (by omega), f7]
theorem flag_inv (s : Rs) (h : (flag s).2.why = 0) : s.why = 0 ∧ s.rem = wFlag (flag s).1 ++ (flag s).2.rem := by
  by_cases h1 : 1 < (num 1 s).1
  · exfalso
    unfold flag at h
    rw [if_pos h1] at h
    exact absurd h (by simp)
  · have e : flag s = (decide ((num 1 s).1 = 1), (num 1 s).2) := by unfold flag; rw [if_neg h1]
    rw [e] at h ⊢
    obtain ⟨h2, h3, h4⟩ := byte_inv s h
    refine ⟨h2, ?_⟩
    rw [h4]
    show wByte _ ++ _ = wFlag (decide ((num 1 s).1 = 1)) ++ _
    congr 1
    rcases Nat.lt_or_ge (num 1 s).1 1 with h5 | h5
    · have h6 : (num 1 s).1 = 0 := by omega
      rw [h6]; rfl
    · have h6 : (num 1 s).1 = 1 := by omega
      rw [h6]; rfl
theorem fin_inv (s : Rs) (h : fin s = 0) : s.why = 0 ∧ s.rem = [] := by
  unfold fin at h
  by_cases h1 : s.why = 0
  · rw [if_neg (by simpa using h1)] at h
    refine ⟨h1, ?_⟩
    by_cases h2 : 0 < s.rem.length
    · rw [if_pos h2] at h
      exact absurd h (by decide)
    · exact List.eq_nil_of_length_eq_zero (by omega)
  · rw [if_pos h1] at h
    exact absurd h h1
end Co
end Go.Proofs.YtjoedamiilgajaaDoor

namespace Go.Proofs.YtjoedamiilgajaaDoor
open Go.RowKit
end Go.Proofs.YtjoedamiilgajaaDoor

namespace Go.Proofs.YtjoedamiilgajaaDoor
open Go.RowKit
structure Nd where
  id : Int
  kind : Int
  links : Int
  size : Int
  till : Nat
  shut : Bool
namespace Nd
def val (n : Nd) : Value := .agg #[.int .i64 n.id, .int .i64 n.kind, .int .i64 n.links, .int .i64 n.size, .int .u64 (n.till : Nat), .bool n.shut]
def zero : Nd := ⟨0, 0, 0, 0, 0, false⟩
def Right (n : Nd) : Prop :=
  0 ≤ n.id ∧ n.id ≤ 65535 ∧ 0 ≤ n.links ∧ n.links ≤ 65535 ∧ 0 ≤ n.size ∧ n.size ≤ 4096 ∧ n.till ≤ 1099511627776 ∧ (n.kind = 1 ∨ n.kind = 2 ∧ n.size = 0 ∧ n.till = 0 ∧ n.shut = true)
instance (n : Nd) : Decidable n.Right := by unfold Right; infer_instance
def right (n : Nd) : Bool := decide n.Right
def lo16 (x : Int) : Nat := (x % 65536).toNat
def lo8 (x : Int) : Nat := (x % 256).toNat
def bytes (n : Nd) : List UInt8 := Co.wShort (lo16 n.id) ++ (Co.wByte (lo8 n.kind) ++ (Co.wShort (lo16 n.links) ++ (Co.wShort (lo16 n.size) ++ (Co.wLong n.till ++ Co.wFlag n.shut))))
theorem bytes_length (n : Nd) : n.bytes.length = 16 := by
  simp only [bytes, List.length_append, Co.wLong_length]
  rfl
end Nd
def ndRead (L : List UInt8) : Nd × Co.Rs :=
  let p1 := Co.num 2 ⟨L, 0⟩
  let p2 := Co.num 1 p1.2
  let p3 := Co.num 2 p2.2
  let p4 := Co.num 2 p3.2
  let p5 := Co.num 8 p4.2
  let p6 := Co.flag p5.2
  (⟨(p1.1 : Nat), (p2.1 : Nat), (p3.1 : Nat), (p4.1 : Nat), p5.1, p6.1⟩, p6.2)
def ndDec (L : List UInt8) : Nd × Nat :=
  if Co.fin (ndRead L).2 ≠ 0 ∨ (ndRead L).1.right = false then (Nd.zero, 12) else ((ndRead L).1, 0)
theorem ndDec_bytes (n : Nd) (h : n.Right) : ndDec n.bytes = (n, 0) := by
  have hr : n.right = true := by simpa [Nd.right] using h
  obtain ⟨h1, h2, h3, h4, h5, h6, h7, h8⟩ := h
  obtain ⟨id, kind, links, size, till, shut⟩ := n
  simp only at h1 h2 h3 h4 h5 h6 h7 h8
  have e : ndRead (Nd.bytes ⟨id, kind, links, size, till, shut⟩) = (⟨id, kind, links, size, till, shut⟩, ⟨[], 0⟩) := by
    unfold ndRead Nd.bytes
    simp only [Co.num_short, Co.num_byte, Co.num_long till (by omega)]
    have ef := Co.flag_app shut []
    rw [List.append_nil] at ef
    rw [ef]
    have e1 : ((Nd.lo16 id % 65536 : Nat) : Int) = id := by unfold Nd.lo16; omega
    have e2 : ((Nd.lo8 kind % 256 : Nat) : Int) = kind := by unfold Nd.lo8; omega
    have e3 : ((Nd.lo16 links % 65536 : Nat) : Int) = links := by unfold Nd.lo16; omega
    have e4 : ((Nd.lo16 size % 65536 : Nat) : Int) = size := by unfold Nd.lo16; omega
    rw [e1, e2, e3, e4]
  unfold ndDec
  rw [e]
  rw [if_neg (by simp [hr, Co.fin])]
theorem ndDec_inv (L : List UInt8) (h : (ndDec L).2 = 0) : (ndDec L).1.Right ∧ (ndDec L).1.bytes = L := by
  by_cases h0 : Co.fin (ndRead L).2 ≠ 0 ∨ (ndRead L).1.right = false
  · unfold ndDec at h
    rw [if_pos h0] at h
    exact absurd h (by decide)
  · have e : ndDec L = ((ndRead L).1, 0) := by unfold ndDec; rw [if_neg h0]
    rw [e]
    have hf : Co.fin (ndRead L).2 = 0 := Decidable.byContradiction fun hc => h0 (.inl hc)
    have hr : (ndRead L).1.right = true := by
      cases hh : (ndRead L).1.right
      · exact absurd (.inr hh) h0
      · rfl
    refine ⟨by simpa [Nd.right] using hr, ?_⟩
    obtain ⟨w6, r6⟩ := Co.fin_inv _ hf
    obtain ⟨w5, f6⟩ := Co.flag_inv _ w6
    obtain ⟨w4, l5, f5⟩ := Co.long_inv _ w5
    obtain ⟨w3, l4, f4⟩ := Co.short_inv _ w4
    obtain ⟨w2, l3, f3⟩ := Co.short_inv _ w3
    obtain ⟨w1, l2, f2⟩ := Co.byte_inv _ w2
    obtain ⟨w0, l1, f1⟩ := Co.short_inv _ w1
    have r6' : (Co.flag (Co.num 8 (Co.num 2 (Co.num 2 (Co.num 1 (Co.num 2 ⟨L, 0⟩).2).2).2).2).2).2.rem = [] := r6
    rw [r6', List.append_nil] at f6
    have f1' : L = Co.wShort (Co.num 2 ⟨L, 0⟩).1 ++ (Co.num 2 ⟨L, 0⟩).2.rem := f1
    have k16 : ∀ x : Nat, x < 65536 → Nd.lo16 ((x : Nat) : Int) = x := fun x hx => by unfold Nd.lo16; omega
    have k8 : ∀ x : Nat, x < 256 → Nd.lo8 ((x : Nat) : Int) = x := fun x hx => by unfold Nd.lo8; omega
    dsimp only [Nd.bytes, ndRead]
    rw [k16 _ l1, k8 _ l2, k16 _ l3, k16 _ l4, ← f6, ← f5, ← f4, ← f3, ← f2, ← f1']
end Go.Proofs.YtjoedamiilgajaaDoor

namespace Go.Proofs.YtjoedamiilgajaaDoor
namespace Pa

abbrev Bytes := List UInt8
def okByte (c : UInt8) : Bool := (97 ≤ c.toNat && c.toNat ≤ 122) || (48 ≤ c.toNat && c.toNat ≤ 57) || c == 46 || c == 45 || c == 95
def good (n : Bytes) : Bool := n.all okByte && decide (1 ≤ n.length) && decide (n.length ≤ 16) && n != [46] && n != [46, 46]
def pieces : Bytes → List Bytes
  | [] => [[]]
  | c :: s => if c = 47 then [] :: pieces s else match pieces s with
    | [] => [[c]]
    | p :: ps => (c :: p) :: ps
def split (d : Nat) (s : Bytes) : List Bytes × Nat :=
  if s = [47] then ([], 0)
  else match s with
    | [] => ([], 12)
    | c :: s => if c = 47 then
        (if (pieces s).all good then (if (pieces s).length ≤ d then (pieces s, 0) else ([], 3)) else ([], 12))
      else ([], 12)

end Pa
end Go.Proofs.YtjoedamiilgajaaDoor

namespace Go.Proofs.YtjoedamiilgajaaDoor
open Go.RowKit

theorem strOf_list (l : List UInt8) : (strOf l).toList = l := ByteArray.toList_mk l
theorem strOf_lit (a b : List UInt8) : ((strOf a).toList == b) = decide (a = b) := by
  rw [strOf_list]
  by_cases h : a = b
  · subst h; simp
  · rw [decide_eq_false h]; exact beq_eq_false_iff_ne.2 h
theorem str_at {l : List UInt8} {i : Nat} {c : UInt8} (h : l[i]? = some c) (w : World) : (Instr.index 9 (.string (strOf l)) (.int .i64 (i : Nat))).run Tryd.prog w = .ok (.int .u8 (c.toNat : Nat)) w := by
  have hi := (List.getElem?_eq_some_iff.1 h).1
  rw [run_index_string w 9 (strOf l) .i64 i Tryd.underlying9, dif_pos (by rw [strOf_size]; omega)]
  congr 3
  simp only [strOf, ByteArray.getElem_eq_getElem_data, Int.toNat_natCast, List.getElem_toArray]
  rw [(List.getElem?_eq_some_iff.1 h).2]
end Go.Proofs.YtjoedamiilgajaaDoor

namespace Go.Proofs.YtjoedamiilgajaaDoor
open Go.RowKit

abbrev Bs := List UInt8
theorem Tryd.infoStr : (Tryd.prog.info? 9).map (fun i => (i.zero, i.size, i.bytes)) = some (some (.string .empty), 1, 16) := by kernel_rfl
def txtCells (l : List Bs) : List Value := l.map fun s => .string (strOf s)
theorem txtCells_length (l : List Bs) : (txtCells l).length = l.length := List.length_map _
theorem txtCells_append (a b : List Bs) : txtCells (a ++ b) = txtCells a ++ txtCells b := List.map_append
def RdS (w : World) (A : Option Addr) (l : List Bs) : Prop :=
  0 < l.length → ∃ b off, A = some ⟨b, off, none⟩ ∧ b < w.heap.size ∧ ∀ j x, l[j]? = some x → w.cell? ⟨b, off + j, none⟩ = some (.string (strOf x))
theorem RdS.nil (w : World) (A : Option Addr) : RdS w A [] := fun h => absurd h (by simp)
theorem RdS.below {w w' : World} {A : Option Addr} {l : List Bs} (h : RdS w A l) (hb : Below w.heap.size w w') : RdS w' A l := fun hl => by
  obtain ⟨b, off, h1, h2, h3⟩ := h hl
  exact ⟨b, off, h1, Nat.lt_of_lt_of_le h2 hb.size, fun j x hx => (hb.cell (p := ⟨b, off + j, none⟩) h2).trans (h3 j x hx)⟩
theorem RdS.at_ {w : World} {A : Option Addr} {l : List Bs} (h : RdS w A l) {j : Nat} {x : Bs} (hj : l[j]? = some x) : ∃ b off, A = some ⟨b, off, none⟩ ∧ w.cell? ⟨b, off + j, none⟩ = some (.string (strOf x)) := by
  obtain ⟨b, off, h1, _, h3⟩ := h (by have := (List.getElem?_eq_some_iff.1 hj).1; omega)
  exact ⟨b, off, h1, h3 j x hj⟩
def TAt (B : Nat) (v : Value) (l : List Bs) (w0 wr : World) : Prop :=
  wr.ownsRow B 9 1 v l.length (txtCells l) ∧ Below B w0 wr ∧ B = w0.heap.size
theorem TAt.nil (w : World) : TAt w.heap.size (.slice none 0 0) [] w w := ⟨⟨rfl, .inl ⟨rfl, rfl⟩⟩, Below.refl _ _, rfl⟩
theorem owned_below {w wa : World} {B e n : Nat} {v : Value} {xs : List Value} (h : w.ownsRow B e 1 v n xs) (ha : Below w.heap.size w wa) : wa.ownsRow B e 1 v n xs := by
  refine ⟨h.1, ?_⟩
  rcases h.2 with h2 | ⟨g, cap, cur, h3, h4, h5, h6⟩
  · exact .inl h2
  · refine .inr ⟨g, cap, cur, h3, h4, (ha.block g ?_).trans h5, h6⟩
    rcases Nat.lt_or_ge g w.heap.size with hlt | hge
    · exact hlt
    · rw [Array.getElem?_eq_none hge] at h5; cases h5
theorem TAt.own {B : Nat} {v : Value} {l : List Bs} {w0 wr wa : World} (h : TAt B v l w0 wr) (ha : Below wr.heap.size wr wa) : wa.ownsRow B 9 1 v l.length (txtCells l) := owned_below h.1 ha
theorem TAt.below {B : Nat} {v : Value} {l : List Bs} {w0 wr w' : World} (h : TAt B v l w0 wr) (hb : Below wr.heap.size wr w') : TAt B v l w0 w' :=
  ⟨owned_below h.1 hb, h.2.1.trans (hb.mono (by have := h.2.1.size; have := h.2.2; omega)), h.2.2⟩
theorem rds_one (w : World) (x : Bs) (t : TypeId) : RdS (w.alloc (.cells #[.string (strOf x)] t)) (some ⟨w.heap.size, 0, none⟩) [x] := by
  intro _
  refine ⟨_, _, rfl, by rw [World.size_alloc]; omega, fun j y hy => ?_⟩
  have hj : j = 0 := by
    have := (List.getElem?_eq_some_iff.1 hy).1
    simp at this
    exact this
  subst hj
  obtain rfl : x = y := by simpa using hy
  rw [World.cell?_alloc_at _ _ _ _ rfl]
  rfl
end Go.Proofs.YtjoedamiilgajaaDoor

namespace Go.Proofs.YtjoedamiilgajaaDoor
open Go.RowKit
namespace Tr
abbrev Nm := Bs × Int
structure En where
  nd : Nd
  data : Bs
  names : List Nm
abbrev T := List En
/-! Texts in their order. -/
def less (a b : Bs) : Bool := Op.bytesLess a b
theorem less_eq : ∀ (a b : Bs), less a b = decide (a < b)
  | [], [] => by simp [less, Op.bytesLess]
  | _ :: _, [] => by simp [less, Op.bytesLess]
  | [], _ :: _ => by simp [less, Op.bytesLess]
  | a :: x, b :: y => by
    have h := less_eq x y
    unfold less at h ⊢
    rw [Op.bytesLess, h]
    by_cases h1 : a < b
    · simp [h1, List.cons_lt_cons_iff]
    · by_cases h2 : a = b
      · subst h2; simp [List.cons_lt_cons_iff]
      · simp [h1, h2, List.cons_lt_cons_iff]
theorem less_self (a : Bs) : less a a = false := by rw [less_eq]; simp
theorem less_trans {a b c : Bs} (h : less a b = true) (k : less b c = true) : less a c = true := by
  rw [less_eq] at *
  simp only [decide_eq_true_eq] at *
  exact List.lt_trans h k
theorem less_asym {a b : Bs} (h : less a b = true) : less b a = false := by
  cases k : less b a
  · rfl
  · have := less_trans h k
    rw [less_self] at this
    cases this
theorem less_tri {a b : Bs} (h : less a b = false) (k : less b a = false) : a = b := by
  rw [less_eq] at *
  simp only [decide_eq_false_iff_not] at *
  exact List.le_antisymm k h
theorem less_ne {a b : Bs} (h : less a b = true) : a ≠ b := by
  rintro rfl
  rw [less_self] at h
  cases h
/-! Names of one directory. -/
def get (l : List Nm) (x : Bs) : Option Int := (l.find? fun n => n.1 == x).map (·.2)
def strike (l : List Nm) (k : Int) : List Nm := l.filter fun n => !(n.2 == k)
/-! Nodes by their ID. -/
def find (t : T) (i : Int) : Option En := t.find? fun e => e.nd.id == i
def kids (t : T) (i : Int) : List Nm := ((find t i).map (·.names)).getD []
def ndOf (t : T) (i : Int) : Nd := ((find t i).map (·.nd)).getD Nd.zero
def kindOf (t : T) (i : Int) : Int := (ndOf t i).kind
def upd (t : T) (i : Int) (f : En → En) : T := t.map fun e => if e.nd.id == i then f e else e
def remove (t : T) (i : Int) : T := t.filter fun e => !(e.nd.id == i)
def more (t : T) (i : Int) (by_ : Int) : T := upd t i fun e => { e with nd := { e.nd with links := e.nd.links + by_ } }
def fresh (id kind : Int) : En := ⟨⟨id, kind, 1, 0, 0, kind == 2⟩, [], []⟩
def new : T := [fresh 0 2]
/-! Paths. -/
def lookF (t : T) : Int → List Bs → Int × Nat
  | i, [] => (i, 0)
  | i, x :: p => if kindOf t i ≠ 2 then (0, 23) else match get (kids t i) x with
    | none => (0, 20)
    | some k => lookF t k p
def walk (t : T) : Nat → Int → List Bs → List (List Bs × Int)
  | 0, _, _ => []
  | n + 1, i, p => (kids t i).flatMap fun k => (p ++ [k.1], k.2) :: walk t n k.2 (p ++ [k.1])
/-! The calls. -/
def node (t : T) (i : Int) : Nd × Bool := (ndOf t i, (find t i).isSome)
def file (t : T) (i : Int) : Nat := if (find t i).isNone then 20 else if kindOf t i = 2 then 22 else 0
def append (t : T) (i : Int) (b : Bs) : Nat × T :=
  if file t i ≠ 0 then (file t i, t)
  else if (ndOf t i).shut = true then (27, t)
  else if 4096 - (ndOf t i).size < (b.length : Int) then (15, t)
  else (0, upd t i fun e => { e with data := e.data ++ b, nd := { e.nd with size := ((e.data ++ b).length : Nat) } })
def keep (t : T) (i : Int) (until_ : Nat) : Nat × T :=
  if file t i ≠ 0 then (file t i, t)
  else if (ndOf t i).shut = false then (25, t)
  else if until_ < (ndOf t i).till then (28, t)
  else if 1099511627776 < until_ then (1, t)
  else (0, upd t i fun e => { e with nd := { e.nd with till := until_ } })
def drop (t : T) (i : Int) : Nat × T :=
  if file t i ≠ 0 then (file t i, t)
  else if (ndOf t i).shut = true then (27, t)
  else (0, remove (t.map fun e => { e with names := strike e.names i }) i)
/-! As bytes. -/
def nameBytes (n : Nm) : Bs := Co.wBytes n.1 ++ Co.wShort (Nd.lo16 n.2)
def enBytes (e : En) : Bs := Co.wBytes e.nd.bytes ++ (Co.wBytes e.data ++ (Co.wShort e.names.length ++ e.names.flatMap nameBytes))
def save (t : T) : Bs := Co.wShort t.length ++ t.flatMap enBytes
/-! What is right. -/
structure EnOk (e : En) : Prop where
  nd : e.nd.Right
  size : e.nd.size = (e.data.length : Nat)
  rise : e.names.Pairwise fun a b => less a.1 b.1 = true
  good : ∀ n ∈ e.names, Pa.good n.1 = true
  file : e.nd.kind = 1 → e.names = []
def flat (t : T) : List (Int × Nm) := t.flatMap fun e => e.names.map fun n => (e.nd.id, n)
def count (t : T) (i : Int) : Nat := (flat t).countP fun x => x.2.2 == i
structure Good (t : T) : Prop where
  root : ∃ r rest, t = r :: rest ∧ r.nd.id = 0 ∧ r.nd.kind = 2
  rise : t.Pairwise fun a b => a.nd.id < b.nd.id
  few : t.length ≤ 64
  each : ∀ e ∈ t, EnOk e
  leads : ∀ e ∈ t, ∀ n ∈ e.names, n.2 ≠ 0 ∧ (find t n.2).isSome = true
  linked : ∀ e ∈ t, (count t e.nd.id : Int) + (if e.nd.id = 0 then 1 else 0) = e.nd.links
  dirs : ∀ e ∈ t, e.nd.kind = 2 → e.nd.links = 1
  shut : ∀ e ∈ t, e.nd.shut = true → e.nd.links ≠ 0
  deep : ∃ dep : Int → Nat, dep 0 = 0 ∧ ∀ e ∈ t, ∀ n ∈ e.names, dep e.nd.id + 1 ≤ 8 ∧ (kindOf t n.2 = 2 → dep n.2 = dep e.nd.id + 1)
end Tr
end Go.Proofs.YtjoedamiilgajaaDoor

namespace Go.Proofs.YtjoedamiilgajaaDoor
open Go.RowKit
namespace Tr
/-! Names of one directory. -/
theorem get_cons (n : Nm) (l : List Nm) (x : Bs) : get (n :: l) x = if n.1 = x then some n.2 else get l x := by
  unfold get
  rw [List.find?_cons]
  by_cases h : n.1 = x
  · rw [if_pos h, beq_iff_eq.2 h]; rfl
  · rw [if_neg h, beq_eq_false_iff_ne.2 h]
theorem get_mem {l : List Nm} {x : Bs} {k : Int} (h : get l x = some k) : (x, k) ∈ l := by
  induction l with
  | nil => cases h
  | cons n l ih =>
    rw [get_cons] at h
    by_cases h1 : n.1 = x
    · rw [if_pos h1] at h
      obtain ⟨a, b⟩ := n
      simp only [Option.some.injEq] at h h1
      subst h h1
      exact .head _
    · rw [if_neg h1] at h
      exact .tail _ (ih h)
def Rise (l : List Nm) : Prop := l.Pairwise fun a b => less a.1 b.1 = true
theorem get_of_mem {l : List Nm} (hr : Rise l) {n : Nm} (h : n ∈ l) : get l n.1 = some n.2 := by
  induction l with
  | nil => cases h
  | cons m l ih =>
    rw [get_cons]
    rcases List.mem_cons.1 h with rfl | h1
    · rw [if_pos rfl]
    · have := (List.pairwise_cons.1 hr).1 n h1
      rw [if_neg (less_ne this), ih (List.pairwise_cons.1 hr).2 h1]
theorem strike_rise {l : List Nm} (hr : Rise l) (k : Int) : Rise (strike l k) := hr.filter _
/-! Nodes by their ID. -/
def Ris (t : T) : Prop := t.Pairwise fun a b => a.nd.id < b.nd.id
theorem find_cons (e : En) (t : T) (i : Int) : find (e :: t) i = if e.nd.id = i then some e else find t i := by
  unfold find
  rw [List.find?_cons]
  by_cases h : e.nd.id = i
  · rw [if_pos h, beq_iff_eq.2 h]
  · rw [if_neg h, beq_eq_false_iff_ne.2 h]
theorem find_some {t : T} {i : Int} {e : En} (h : find t i = some e) : e ∈ t ∧ e.nd.id = i := by
  unfold find at h
  exact ⟨List.mem_of_find?_eq_some h, by simpa using List.find?_some h⟩
theorem find_none {t : T} {i : Int} : find t i = none ↔ ∀ e ∈ t, e.nd.id ≠ i := by
  unfold find
  rw [List.find?_eq_none]
  simp
theorem Ris.find {t : T} (hr : Ris t) {e : En} (h : e ∈ t) : find t e.nd.id = some e := by
  induction t with
  | nil => cases h
  | cons a t ih =>
    rw [find_cons]
    rcases List.mem_cons.1 h with rfl | h1
    · rw [if_pos rfl]
    · have := (List.pairwise_cons.1 hr).1 e h1
      rw [if_neg (by omega), ih (List.pairwise_cons.1 hr).2 h1]
theorem Ris.split {t : T} (hr : Ris t) {i : Int} {e : En} (h : Tr.find t i = some e) : ∃ A B, t = A ++ e :: B ∧ e.nd.id = i ∧ (∀ a ∈ A, a.nd.id < i) ∧ (∀ b ∈ B, i < b.nd.id) := by
  obtain ⟨hm, rfl⟩ := find_some h
  obtain ⟨A, B, rfl⟩ := List.append_of_mem hm
  have h2 := List.pairwise_append.1 hr
  exact ⟨A, B, rfl, rfl, fun a ha => h2.2.2 a ha e (.head _), (List.pairwise_cons.1 h2.2.1).1⟩
theorem upd_none {t : T} {i : Int} (h : ∀ e ∈ t, e.nd.id ≠ i) (f : En → En) : upd t i f = t := by
  unfold upd
  conv => rhs; rw [← List.map_id t]
  apply List.map_congr_left
  intro e he
  rw [if_neg (by simpa using h e he)]
  rfl
theorem upd_app (A B : T) (i : Int) (f : En → En) : upd (A ++ B) i f = upd A i f ++ upd B i f := List.map_append
theorem upd_split {A B : T} {e : En} {i : Int} (he : e.nd.id = i) (hA : ∀ a ∈ A, a.nd.id < i) (hB : ∀ b ∈ B, i < b.nd.id) (f : En → En) : upd (A ++ e :: B) i f = A ++ f e :: B := by
  rw [upd_app, upd_none (fun a ha => by have := hA a ha; omega)]
  have e1 : upd (e :: B) i f = f e :: upd B i f := by
    show (if e.nd.id == i then f e else e) :: _ = _
    rw [if_pos (by simpa using he)]; rfl
  rw [e1, upd_none (fun b hb => by have := hB b hb; omega)]
theorem remove_split {A B : T} {e : En} {i : Int} (he : e.nd.id = i) (hA : ∀ a ∈ A, a.nd.id < i) (hB : ∀ b ∈ B, i < b.nd.id) : remove (A ++ e :: B) i = A ++ B := by
  unfold remove
  rw [List.filter_append, List.filter_cons, if_neg (by simp [he]), List.filter_eq_self.2 (fun a ha => by have := hA a ha; simp; omega), List.filter_eq_self.2 (fun b hb => by have := hB b hb; simp; omega)]
theorem upd_length (t : T) (i : Int) (f : En → En) : (upd t i f).length = t.length := List.length_map _
theorem find_upd {t : T} {i : Int} {f : En → En} (hf : ∀ e, (f e).nd.id = e.nd.id) (j : Int) : find (upd t i f) j = (find t j).map fun e => if j = i then f e else e := by
  induction t with
  | nil => rfl
  | cons e t ih =>
    show find ((if e.nd.id == i then f e else e) :: upd t i f) j = _
    rw [find_cons, find_cons]
    have hid : (if e.nd.id == i then f e else e).nd.id = e.nd.id := by split <;> simp [hf]
    rw [hid]
    by_cases h : e.nd.id = j
    · rw [if_pos h, if_pos h, ← h]; simp
    · rw [if_neg h, if_neg h, ih]
theorem find_remove (t : T) (i j : Int) : find (remove t i) j = if j = i then none else find t j := by
  induction t with
  | nil => simp [remove, find]
  | cons e t ih =>
    unfold remove at ih ⊢
    rw [List.filter_cons]
    by_cases h : e.nd.id = i
    · rw [if_neg (by simp [h]), ih, find_cons]
      by_cases hj : j = i
      · rw [if_pos hj, if_pos hj]
      · rw [if_neg hj, if_neg hj, if_neg (by omega)]
    · rw [if_pos (by simp [h]), find_cons, ih, find_cons]
      by_cases hj : j = i
      · rw [if_pos hj, if_pos hj, if_neg (by omega)]
      · rw [if_neg hj, if_neg hj]
end Tr
end Go.Proofs.YtjoedamiilgajaaDoor

namespace Go.Proofs.YtjoedamiilgajaaDoor
open Go.RowKit
namespace Tr
variable {t : T}
theorem Good.ris (h : Good t) : Ris t := h.rise
theorem find_isSome {i : Int} : (find t i).isSome = true ↔ ∃ e ∈ t, e.nd.id = i := by
  cases hf : find t i with
  | none =>
    simp only [Option.isSome_none, Bool.false_eq_true, false_iff]
    rintro ⟨e, he, h⟩
    exact find_none.1 hf e he h
  | some e =>
    obtain ⟨h1, h2⟩ := find_some hf
    simp only [Option.isSome_some, true_iff]
    exact ⟨e, h1, h2⟩
theorem kids_of {i : Int} {e : En} (h : find t i = some e) : kids t i = e.names := by unfold kids; rw [h]; rfl
theorem ndOf_of {i : Int} {e : En} (h : find t i = some e) : ndOf t i = e.nd := by unfold ndOf; rw [h]; rfl
theorem kindOf_of {i : Int} {e : En} (h : find t i = some e) : kindOf t i = e.nd.kind := by unfold kindOf; rw [ndOf_of h]
theorem kindOf_no {i : Int} (h : find t i = none) : kindOf t i = 0 := by unfold kindOf ndOf; rw [h]; rfl
theorem kids_no {i : Int} (h : find t i = none) : kids t i = [] := by unfold kids; rw [h]; rfl
theorem Good.zero (h : Good t) : ∃ r, find t 0 = some r ∧ r.nd.kind = 2 ∧ r.nd.id = 0 := by
  obtain ⟨r, rest, rfl, h1, h2⟩ := h.root
  exact ⟨r, by rw [find_cons, if_pos h1], h2, h1⟩
theorem Good.kind (h : Good t) {e : En} (he : e ∈ t) : e.nd.kind = 1 ∨ e.nd.kind = 2 := by
  have := (h.each e he).nd
  exact this.2.2.2.2.2.2.2.imp id fun k => k.1
theorem Good.has (h : Good t) {i : Int} (hk : kindOf t i = 2) : ∃ e, find t i = some e := by
  cases hf : find t i with
  | none => rw [kindOf_no hf] at hk; omega
  | some e => exact ⟨e, rfl⟩
theorem kids_mem {i : Int} {n : Nm} (h : n ∈ kids t i) : ∃ e, find t i = some e ∧ n ∈ e.names := by
  cases hf : find t i with
  | none => rw [kids_no hf] at h; cases h
  | some e => rw [kids_of hf] at h; exact ⟨e, rfl, h⟩
theorem Good.rises (h : Good t) (i : Int) : Rise (kids t i) := by
  cases hf : find t i with
  | none => rw [kids_no hf]; exact List.Pairwise.nil
  | some e => rw [kids_of hf]; exact (h.each e (find_some hf).1).rise
theorem Good.file_kids (h : Good t) {i : Int} (hk : kindOf t i ≠ 2) : kids t i = [] := by
  cases hf : find t i with
  | none => exact kids_no hf
  | some e =>
    rw [kids_of hf]
    rw [kindOf_of hf] at hk
    refine (h.each e (find_some hf).1).file ?_
    rcases h.kind (find_some hf).1 with h1 | h1
    · exact h1
    · exact absurd h1 hk
/-! How many names there are. -/
theorem flat_mem {x : Int × Nm} : x ∈ flat t ↔ ∃ e ∈ t, e.nd.id = x.1 ∧ x.2 ∈ e.names := by
  unfold flat
  rw [List.mem_flatMap]
  constructor
  · rintro ⟨e, he, hx⟩
    obtain ⟨n, hn, rfl⟩ := List.mem_map.1 hx
    exact ⟨e, he, rfl, hn⟩
  · rintro ⟨e, he, h1, h2⟩
    exact ⟨e, he, List.mem_map.2 ⟨x.2, h2, by rw [h1]⟩⟩
theorem countP_sum {α : Type} (f : α → Int) (I : List Int) : ∀ L : List α, (∀ x ∈ L, f x ∈ I) → L.length ≤ (I.map fun i => L.countP fun x => f x == i).sum
  | [], _ => Nat.zero_le _
  | x :: L, h => by
    have ih := countP_sum f I L fun y hy => h y (.tail _ hy)
    have hx := h x (.head _)
    have key : ∀ J : List Int, (J.map fun i => L.countP fun x => f x == i).sum ≤ (J.map fun i => (x :: L).countP fun x => f x == i).sum ∧ (f x ∈ J → (J.map fun i => L.countP fun x => f x == i).sum + 1 ≤ (J.map fun i => (x :: L).countP fun x => f x == i).sum) := by
      intro J
      induction J with
      | nil => exact ⟨Nat.le_refl _, fun h => by cases h⟩
      | cons j J ih2 =>
        simp only [List.map_cons, List.sum_cons]
        have h1 : List.countP (fun x => f x == j) L ≤ List.countP (fun x => f x == j) (x :: L) := by rw [List.countP_cons]; omega
        refine ⟨by have := ih2.1; omega, fun hm => ?_⟩
        by_cases e : f x = j
        · have h2 : List.countP (fun x => f x == j) (x :: L) = List.countP (fun x => f x == j) L + 1 := by rw [List.countP_cons, if_pos (by simpa using e)]
          have := ih2.1
          omega
        · rcases List.mem_cons.1 hm with h3 | h3
          · exact absurd h3 e
          · have := ih2.2 h3
            omega
    have := (key I).2 hx
    simp only [List.length_cons]
    omega
theorem Good.flat_le (h : Good t) : (flat t).length ≤ 4194240 := by
  have h1 := countP_sum (fun x : Int × Nm => x.2.2) (t.map fun e => e.nd.id) (flat t) fun x hx => by
    obtain ⟨e, he, _, h2⟩ := flat_mem.1 hx
    obtain ⟨_, h3⟩ := h.leads e he x.2 h2
    obtain ⟨e', h4, h5⟩ := find_isSome.1 h3
    exact List.mem_map.2 ⟨e', h4, h5⟩
  have h2 : ((t.map fun e => e.nd.id).map fun i => (flat t).countP fun x => x.2.2 == i).sum ≤ t.length * 65535 := by
    have key : ∀ u : T, (∀ e ∈ u, e ∈ t) → ((u.map fun e => e.nd.id).map fun i => (flat t).countP fun x => x.2.2 == i).sum ≤ u.length * 65535 := by
      intro u
      induction u with
      | nil => intro _; simp
      | cons e u ih =>
        intro hu
        have h3 := ih fun m hm => hu m (.tail _ hm)
        have he := hu e (.head _)
        have h4 := h.linked e he
        have h5 := (h.each e he).nd.2.2.2.1
        unfold count at h4
        have h6 : (flat t).countP (fun x => x.2.2 == e.nd.id) ≤ 65535 := by
          split at h4 <;> omega
        simp only [List.map_cons, List.sum_cons, List.length_cons] at h3 ⊢
        omega
    exact key t fun e he => he
  have := h.few
  omega
theorem names_le_flat {e : En} (he : e ∈ t) : e.names.length ≤ (flat t).length := by
  obtain ⟨A, B, rfl⟩ := List.append_of_mem he
  simp only [flat, List.flatMap_append, List.flatMap_cons, List.length_append, List.length_map]
  omega
theorem Good.names_le (h : Good t) {e : En} (he : e ∈ t) : e.names.length ≤ 4194240 := Nat.le_trans (names_le_flat he) h.flat_le
/-! Looking. -/
theorem lookF_cons (i : Int) (x : Bs) (p : List Bs) : lookF t i (x :: p) = if kindOf t i ≠ 2 then (0, 23) else match get (kids t i) x with | none => (0, 20) | some k => lookF t k p := rfl
theorem lookF_app (i : Int) (p q : List Bs) : lookF t i (p ++ q) = if (lookF t i p).2 ≠ 0 then lookF t i p else lookF t (lookF t i p).1 q := by
  induction p generalizing i with
  | nil => simp [lookF]
  | cons x p ih =>
    rw [List.cons_append, lookF_cons, lookF_cons]
    split
    · simp
    · cases get (kids t i) x with
      | none => simp
      | some k => exact ih k
theorem upd_ris (h : Ris t) {i : Int} {f : En → En} (hf : ∀ e, (f e).nd.id = e.nd.id) : Ris (upd t i f) := by
  unfold upd Ris
  rw [List.pairwise_map]
  refine List.Pairwise.imp ?_ h
  intro a b hab
  have e : ∀ x : En, (if x.nd.id == i then f x else x).nd.id = x.nd.id := fun x => by split <;> simp [hf]
  rw [e, e]; exact hab
theorem map_ris (h : Ris t) {f : En → En} (hf : ∀ e, (f e).nd.id = e.nd.id) : Ris (t.map f) := by
  unfold Ris
  rw [List.pairwise_map]
  refine List.Pairwise.imp ?_ h
  intro a b hab
  rw [hf, hf]; exact hab
theorem remove_ris (h : Ris t) (i : Int) : Ris (remove t i) := h.filter _
theorem find_map {f : En → En} (hf : ∀ e, (f e).nd.id = e.nd.id) (i : Int) : find (t.map f) i = (find t i).map f := by
  induction t with
  | nil => rfl
  | cons e t ih =>
    rw [List.map_cons, find_cons, find_cons, hf, ih]
    split <;> rfl
theorem file_cases (t : T) (i : Int) : (file t i = 20 ∧ find t i = none) ∨ (file t i = 22 ∧ ∃ e, find t i = some e ∧ e.nd.kind = 2) ∨ (file t i = 0 ∧ ∃ e, find t i = some e ∧ e.nd.kind ≠ 2) := by
  unfold file
  cases hf : find t i with
  | none => exact .inl ⟨rfl, rfl⟩
  | some e =>
    rw [kindOf_of hf]
    by_cases h : e.nd.kind = 2
    · exact .inr (.inl ⟨by simp [h], e, rfl, h⟩)
    · exact .inr (.inr ⟨by simp [h], e, rfl, h⟩)
def openN (t : T) (i : Int) : Nat := if file t i ≠ 0 then file t i else if (ndOf t i).shut = true then 27 else 0
end Tr
end Go.Proofs.YtjoedamiilgajaaDoor

namespace Go.Proofs.YtjoedamiilgajaaDoor
open Go.RowKit
namespace Tr
variable {t : T}
def Deep (dep : Int → Nat) (t : T) : Prop := dep 0 = 0 ∧ ∀ e ∈ t, ∀ n ∈ e.names, dep e.nd.id + 1 ≤ 8 ∧ (kindOf t n.2 = 2 → dep n.2 = dep e.nd.id + 1)
structure Pre (i : Int) (t : T) : Prop where
  root : ∃ r rest, t = r :: rest ∧ r.nd.id = 0 ∧ r.nd.kind = 2
  rise : Ris t
  few : t.length ≤ 64
  each : ∀ e ∈ t, EnOk e
  leads : ∀ e ∈ t, ∀ n ∈ e.names, n.2 ≠ 0 ∧ (find t n.2).isSome = true
  linked : ∀ e ∈ t, e.nd.id ≠ i → (count t e.nd.id : Int) + (if e.nd.id = 0 then 1 else 0) = e.nd.links
  dirs : ∀ e ∈ t, e.nd.id ≠ i → e.nd.kind = 2 → e.nd.links = 1
  shut : ∀ e ∈ t, e.nd.id ≠ i → e.nd.shut = true → e.nd.links ≠ 0
theorem Pre.good {i : Int} (h : Pre i t) {dep : Int → Nat} (hd : Deep dep t) (hi : ∀ e ∈ t, e.nd.id = i → (count t e.nd.id : Int) + (if e.nd.id = 0 then 1 else 0) = e.nd.links ∧ (e.nd.kind = 2 → e.nd.links = 1) ∧ (e.nd.shut = true → e.nd.links ≠ 0)) : Good t := by
  refine ⟨h.root, h.rise, h.few, h.each, h.leads, fun e he => ?_, fun e he => ?_, fun e he => ?_, dep, hd⟩
  · by_cases hx : e.nd.id = i
    · exact (hi e he hx).1
    · exact h.linked e he hx
  · by_cases hx : e.nd.id = i
    · exact (hi e he hx).2.1
    · exact h.dirs e he hx
  · by_cases hx : e.nd.id = i
    · exact (hi e he hx).2.2
    · exact h.shut e he hx
/-! One node is turned. -/
theorem upd_mem {i : Int} {f : En → En} {e : En} (h : e ∈ upd t i f) : ∃ e0 ∈ t, e = if e0.nd.id = i then f e0 else e0 := by
  obtain ⟨e0, h0, rfl⟩ := List.mem_map.1 h
  refine ⟨e0, h0, ?_⟩
  by_cases hx : e0.nd.id = i <;> simp [hx]
theorem upd_root {i : Int} {f : En → En} (hf : ∀ e, (f e).nd.id = e.nd.id) (hk : ∀ e, (f e).nd.kind = e.nd.kind) (h : ∃ r rest, t = r :: rest ∧ r.nd.id = 0 ∧ r.nd.kind = 2) : ∃ r rest, upd t i f = r :: rest ∧ r.nd.id = 0 ∧ r.nd.kind = 2 := by
  obtain ⟨r, rest, rfl, h1, h2⟩ := h
  refine ⟨_, _, rfl, ?_, ?_⟩
  · show (if r.nd.id == i then f r else r).nd.id = 0
    split <;> simp [hf, h1]
  · show (if r.nd.id == i then f r else r).nd.kind = 2
    split <;> simp [hk, h2]
theorem kindOf_upd {i : Int} {f : En → En} (hf : ∀ e, (f e).nd.id = e.nd.id) (hk : ∀ e, (f e).nd.kind = e.nd.kind) (j : Int) : kindOf (upd t i f) j = kindOf t j := by
  unfold kindOf ndOf
  rw [find_upd hf]
  cases find t j with
  | none => rfl
  | some e =>
    simp only [Option.map_some, Option.getD_some]
    split <;> simp [hk]
theorem some_upd {i : Int} {f : En → En} (hf : ∀ e, (f e).nd.id = e.nd.id) (j : Int) : (find (upd t i f) j).isSome = (find t j).isSome := by
  rw [find_upd hf]; cases find t j <;> rfl
theorem flat_upd {i : Int} {f : En → En} (hf : ∀ e, (f e).nd.id = e.nd.id) (hn : ∀ e, (f e).names = e.names) : flat (upd t i f) = flat t := by
  unfold flat upd
  rw [List.flatMap_map]
  congr 1
  funext e
  split <;> simp [hf, hn]
theorem Good.turn (h : Good t) {i : Int} {f : En → En} (hf : ∀ e, (f e).nd.id = e.nd.id) (hk : ∀ e, (f e).nd.kind = e.nd.kind) (hn : ∀ e, (f e).names = e.names) (hl : ∀ e, (f e).nd.links = e.nd.links)
    (hok : ∀ e, find t i = some e → EnOk (f e) ∧ ((f e).nd.shut = true → e.nd.links ≠ 0)) : Good (upd t i f) := by
  have hfind : ∀ e ∈ t, e.nd.id = i → find t i = some e := fun e he hi => hi ▸ h.ris.find he
  obtain ⟨dep, hd0, hd⟩ := h.deep
  refine ⟨upd_root hf hk h.root, upd_ris h.ris hf, by rw [upd_length]; exact h.few, fun e he => ?_, fun e he n hm => ?_, fun e he => ?_, fun e he => ?_, fun e he => ?_, dep, hd0, fun e he n hm => ?_⟩
  all_goals
    obtain ⟨e0, h0, rfl⟩ := upd_mem he
  · split
    · rename_i hi; exact (hok e0 (hfind e0 h0 hi)).1
    · exact h.each e0 h0
  · have hm0 : n ∈ e0.names := by split at hm <;> simpa [hn] using hm
    rw [some_upd hf]
    exact h.leads e0 h0 n hm0
  · have h1 := h.linked e0 h0
    unfold count at h1 ⊢
    rw [flat_upd hf hn]
    split <;> (try simp only [hf, hl]) <;> exact h1
  · have h1 := h.dirs e0 h0
    split <;> (try simp only [hk, hl]) <;> exact h1
  · split
    · rename_i hi
      rw [hl]; exact (hok e0 (hfind e0 h0 hi)).2
    · exact h.shut e0 h0
  · have hm0 : n ∈ e0.names := by split at hm <;> simpa [hn] using hm
    have h1 := hd e0 h0 n hm0
    rw [kindOf_upd hf hk]
    split <;> (try simp only [hf]) <;> exact h1
/-! Names. -/
theorem flat_split {A B : T} {e : En} : flat (A ++ e :: B) = flat A ++ (e.names.map (fun n => (e.nd.id, n)) ++ flat B) := by
  unfold flat
  rw [List.flatMap_append, List.flatMap_cons]
theorem Pre.more {k : Int} (h : Pre k t) {dep : Int → Nat} (hd : Deep dep t) {ek : En} (hf : find t k = some ek) (hk : ek.nd.kind = 1) {c : Int} (hc : (count t k : Int) = ek.nd.links + c) (hk0 : k ≠ 0) (h64 : ek.nd.links + c ≤ 65535) (hsh : ek.nd.shut = true → ek.nd.links + c ≠ 0) : Good (more t k c) := by
  have hid : ∀ e : En, ({ e with nd := { e.nd with links := e.nd.links + c } } : En).nd.id = e.nd.id := fun _ => rfl
  have hfind : ∀ e ∈ t, e.nd.id = k → e = ek := fun e he hi => by
    have := h.rise.find he
    rw [hi, hf] at this
    injection this with this
    exact this.symm
  have hflat : flat (Tr.more t k c) = flat t := flat_upd hid fun _ => rfl
  have hp : Pre k (Tr.more t k c) := by
    refine ⟨upd_root hid (fun _ => rfl) h.root, upd_ris h.rise hid, by unfold Tr.more; rw [upd_length]; exact h.few, fun e he => ?_, fun e he n hm => ?_, fun e he hne => ?_, fun e he hne => ?_, fun e he hne => ?_⟩
    all_goals
      obtain ⟨e0, h0, rfl⟩ := upd_mem he
    · split
      · rename_i hi
        obtain rfl := hfind e0 h0 hi
        have h1 := h.each e0 h0
        obtain ⟨n1, n2, n3, n4, n5, n6, n7, n8⟩ := h1.nd
        exact ⟨⟨n1, n2, by show 0 ≤ e0.nd.links + c; omega, h64, n5, n6, n7, .inl hk⟩, h1.size, h1.rise, h1.good, h1.file⟩
      · exact h.each e0 h0
    · unfold Tr.more
      rw [some_upd hid]
      have hm0 : n ∈ e0.names := by split at hm <;> exact hm
      exact h.leads e0 h0 n hm0
    · by_cases hi : e0.nd.id = k
      · rw [if_pos hi] at hne; exact absurd hi hne
      · rw [if_neg hi] at hne ⊢
        unfold count
        rw [hflat]
        exact h.linked e0 h0 hne
    · by_cases hi : e0.nd.id = k
      · rw [if_pos hi] at hne; exact absurd hi hne
      · rw [if_neg hi] at hne ⊢
        exact h.dirs e0 h0 hne
    · by_cases hi : e0.nd.id = k
      · rw [if_pos hi] at hne; exact absurd hi hne
      · rw [if_neg hi] at hne ⊢
        exact h.shut e0 h0 hne
  refine hp.good (dep := dep) ⟨hd.1, fun e he n hm => ?_⟩ fun e he hi => ?_
  · obtain ⟨e0, h0, rfl⟩ := upd_mem he
    unfold Tr.more
    rw [kindOf_upd hid (fun _ => rfl)]
    have hm0 : n ∈ e0.names := by split at hm <;> exact hm
    have := hd.2 e0 h0 n hm0
    split <;> exact this
  · obtain ⟨e0, h0, rfl⟩ := upd_mem he
    have hi0 : e0.nd.id = k := by split at hi <;> exact hi
    obtain rfl := hfind e0 h0 hi0
    rw [if_pos hi0]
    refine ⟨?_, fun h2 => ?_, hsh⟩
    · show (count (Tr.more t k c) e0.nd.id : Int) + (if e0.nd.id = 0 then 1 else 0) = e0.nd.links + c
      unfold count
      rw [hflat, hi0, if_neg hk0]
      unfold count at hc
      omega
    · have h2' : e0.nd.kind = 2 := h2
      omega
theorem Pre.remove {i : Int} (h : Pre i t) {dep : Int → Nat} (hd : Deep dep t) (hi0 : i ≠ 0) (hk : kids t i = []) (hn : ∀ e ∈ t, ∀ n ∈ e.names, n.2 ≠ i) : Good (remove t i) := by
  have hmem : ∀ e, e ∈ Tr.remove t i ↔ e ∈ t ∧ e.nd.id ≠ i := fun e => by
    unfold Tr.remove
    rw [List.mem_filter]
    simp
  have hflat : flat (Tr.remove t i) = flat t := by
    cases hf : find t i with
    | none =>
      have : Tr.remove t i = t := by
        unfold Tr.remove
        rw [List.filter_eq_self]
        intro e he
        have := find_none.1 hf e he
        simpa using this
      rw [this]
    | some e =>
      rw [kids_of hf] at hk
      obtain ⟨A, B, rfl, he, hA, hB⟩ := h.rise.split hf
      rw [remove_split he hA hB, flat_split, hk]
      simp [flat, List.flatMap_append]
  have hsome : ∀ j, j ≠ i → find (Tr.remove t i) j = find t j := fun j hj => by rw [find_remove, if_neg hj]
  refine ⟨?_, remove_ris h.rise i, Nat.le_trans (List.length_filter_le _ _) h.few, fun e he => h.each e ((hmem e).1 he).1, fun e he n hm => ?_, fun e he => ?_, fun e he => ?_, fun e he => ?_, dep, hd.1, fun e he n hm => ?_⟩
  · obtain ⟨r, rest, rfl, h1, h2⟩ := h.root
    refine ⟨r, Tr.remove rest i, ?_, h1, h2⟩
    unfold Tr.remove
    rw [List.filter_cons, if_pos (by rw [h1]; simpa using fun e : (0 : Int) = i => hi0 e.symm)]
  · obtain ⟨h1, _⟩ := (hmem e).1 he
    rw [hsome n.2 (hn e h1 n hm)]
    exact h.leads e h1 n hm
  · obtain ⟨h1, h2⟩ := (hmem e).1 he
    unfold count
    rw [hflat]
    exact h.linked e h1 h2
  · obtain ⟨h1, h2⟩ := (hmem e).1 he
    exact h.dirs e h1 h2
  · obtain ⟨h1, h2⟩ := (hmem e).1 he
    exact h.shut e h1 h2
  · obtain ⟨h1, _⟩ := (hmem e).1 he
    have h3 := hd.2 e h1 n hm
    have e1 : kindOf (Tr.remove t i) n.2 = kindOf t n.2 := by
      unfold kindOf ndOf
      rw [hsome n.2 (hn e h1 n hm)]
    rw [e1]; exact h3
end Tr
end Go.Proofs.YtjoedamiilgajaaDoor

namespace Go.Proofs.YtjoedamiilgajaaDoor
open Go.RowKit
namespace Tr
variable {t : T}
theorem new_good : Good new := by
  have hf : flat new = [] := rfl
  refine ⟨⟨_, _, rfl, rfl, rfl⟩, List.pairwise_singleton _ _, by show 1 ≤ 64; omega, fun e he => ?_, fun e he n hm => ?_, fun e he => ?_, fun e he => ?_, fun e he => ?_, fun _ => 0, rfl, fun e he n hm => ?_⟩
  all_goals
    obtain rfl : e = fresh 0 2 := by simpa [new] using he
  · exact ⟨⟨by decide, by decide, by decide, by decide, by decide, by decide, by decide, .inr ⟨rfl, rfl, rfl, rfl⟩⟩, rfl, List.Pairwise.nil, (fun n hn => by cases hn), fun _ => rfl⟩
  · cases hm
  · unfold count; rw [hf]; rfl
  · exact fun _ => rfl
  · intro _; show (1 : Int) ≠ 0; omega
  · cases hm
theorem file_kind (h : Good t) {i : Int} (hf : ¬ file t i ≠ 0) {e : En} (he : find t i = some e) : e.nd.kind = 1 := by
  rcases h.kind (find_some he).1 with h2 | h2
  · exact h2
  · rcases file_cases t i with ⟨h3, _⟩ | ⟨h3, _⟩ | ⟨_, e2, h4, h5⟩
    · exact absurd (by rw [h3]; simp) hf
    · exact absurd (by rw [h3]; simp) hf
    · rw [he] at h4; injection h4 with h4; rw [← h4] at h5; exact absurd h2 h5
theorem file_has {i : Int} (hf : ¬ file t i ≠ 0) : ∃ e, find t i = some e := by
  rcases file_cases t i with ⟨h3, _⟩ | ⟨h3, _⟩ | ⟨_, e2, h4, _⟩
  · exact absurd (by rw [h3]; simp) hf
  · exact absurd (by rw [h3]; simp) hf
  · exact ⟨e2, h4⟩
end Tr
end Go.Proofs.YtjoedamiilgajaaDoor

namespace Go.Proofs.YtjoedamiilgajaaDoor
open Go.RowKit
namespace Tr
variable {t : T}
theorem flat_strike (i : Int) : flat (t.map fun e => { e with names := strike e.names i }) = (flat t).filter fun x => !(x.2.2 == i) := by
  unfold flat
  rw [List.flatMap_map, List.filter_flatMap]
  congr 1
  funext e
  show (strike e.names i).map _ = _
  unfold strike
  rw [List.filter_map]
  rfl
theorem drop_good (h : Good t) (i : Int) : Good (drop t i).2 := by
  unfold drop
  split
  · exact h
  rename_i hf
  split
  · exact h
  obtain ⟨e0, he0⟩ := file_has hf
  have hk1 := file_kind h hf he0
  have hid : ∀ e : En, ({ e with names := strike e.names i } : En).nd.id = e.nd.id := fun _ => rfl
  obtain ⟨hm0, hid0⟩ := find_some he0
  have hi0 : i ≠ 0 := fun e => by
    obtain ⟨r0, h1, h2, _⟩ := h.zero
    rw [e, h1] at he0
    injection he0 with he0
    rw [← he0] at hk1; omega
  obtain ⟨dep, hd0, hd⟩ := h.deep
  have hmem : ∀ e ∈ (t.map fun e => ({ e with names := strike e.names i } : En)), ∃ e1 ∈ t, e = { e1 with names := strike e1.names i } := fun e he => by
    obtain ⟨e1, h1, rfl⟩ := List.mem_map.1 he
    exact ⟨e1, h1, rfl⟩
  have hpre : Pre i (t.map fun e => ({ e with names := strike e.names i } : En)) := by
    refine ⟨?_, map_ris h.ris hid, by rw [List.length_map]; exact h.few, fun e he => ?_, fun e he n hn => ?_, fun e he hne => ?_, fun e he hne => ?_, fun e he hne => ?_⟩
    · obtain ⟨r, rest, rfl, h1, h2⟩ := h.root
      exact ⟨_, _, rfl, h1, h2⟩
    all_goals
      obtain ⟨e1, h1, rfl⟩ := hmem e he
    · have h2 := h.each e1 h1
      exact ⟨h2.nd, h2.size, strike_rise h2.rise i, fun n hn => h2.good n (List.mem_filter.1 hn).1, fun hk => by
        show strike e1.names i = []
        rw [h2.file hk]; rfl⟩
    · rw [find_map hid]
      obtain ⟨h2, h3⟩ := h.leads e1 h1 n (List.mem_filter.1 hn).1
      refine ⟨h2, ?_⟩
      cases hh : find t n.2 with
      | none => rw [hh] at h3; cases h3
      | some _ => rfl
    · unfold count
      rw [flat_strike, List.countP_filter]
      have e1' : ((flat t).countP fun a => decide (a.2.2 == e1.nd.id) && !(a.2.2 == i)) = (flat t).countP fun a => a.2.2 == e1.nd.id := by
        apply List.countP_congr
        intro a _
        have hne' : e1.nd.id ≠ i := hne
        by_cases hx : a.2.2 = e1.nd.id
        · simp [hx, hne']
        · simp [hx]
      have h2 := h.linked e1 h1
      unfold count at h2
      show ((List.countP _ (flat t) : Nat) : Int) + _ = _
      simp only [decide_eq_true_eq, Bool.decide_eq_true] at e1' ⊢
      rw [e1']
      exact h2
    · exact h.dirs e1 h1
    · exact h.shut e1 h1
  have hD : Deep dep (t.map fun e => ({ e with names := strike e.names i } : En)) := by
    refine ⟨hd0, fun e he n hn => ?_⟩
    obtain ⟨e1, h1, rfl⟩ := hmem e he
    have h2 := hd e1 h1 n (List.mem_filter.1 hn).1
    have h3 : kindOf (t.map fun e => ({ e with names := strike e.names i } : En)) n.2 = kindOf t n.2 := by
      unfold kindOf ndOf
      rw [find_map hid]
      cases find t n.2 <;> rfl
    rw [h3]; exact h2
  refine hpre.remove hD hi0 ?_ fun e he n hn => ?_
  · unfold kids
    rw [find_map hid, he0]
    show strike e0.names i = []
    rw [(h.each e0 hm0).file hk1]; rfl
  · obtain ⟨e1, h1, rfl⟩ := hmem e he
    have := (List.mem_filter.1 hn).2
    simpa using this
end Tr
end Go.Proofs.YtjoedamiilgajaaDoor

namespace Go.Proofs.YtjoedamiilgajaaDoor
open Go.RowKit

theorem run_append_big {P : Program} (w : World) (base : Nat) (t ty e : TypeId) (i : TypeInfo) (ht : P.underlying t = some (.slice e)) (hi : P.info? e = some i) (hz : i.zero = some (.int .u8 0)) (hsize : i.size = 1) (hby : i.bytes = 1)
    (v : Value) (n : Nat) (xs : List Value) (hown : w.ownsRow base e 1 v n xs) (A : Option Addr) (l : List UInt8) (c : Nat) (hr : Rd w A l) (hn : n + l.length ≤ 140737488355328) (hbase : base ≤ w.heap.size) :
    ∃ v' w', (Builtin.append_ #[t, t] ty #[v, .slice A l.length c]).run P w = .ok v' w' ∧ w'.ownsRow base e 1 v' (n + l.length) (xs ++ Lib.byteCells l) ∧ w.grownBy w' v.ownBlock := by
  cases A with
  | none =>
    have hl : l = [] := by
      rcases Nat.eq_zero_or_pos l.length with h | h
      · exact List.eq_nil_of_length_eq_zero h
      · obtain ⟨b, off, h1, _⟩ := hr h
        cases h1
    subst hl
    refine ⟨v, w, ?_, by simpa [Lib.byteCells] using hown, ⟨rfl, rfl, rfl, Nat.le_refl _, fun _ _ _ => rfl⟩⟩
    show (Builtin.append_ #[t, t] ty #[v, .slice none 0 c]).run P w = .ok v w
    rcases hown.2 with ⟨rfl, rfl⟩ | ⟨g, cap, cur, rfl, _, _, hnc, _⟩
    · simp [Builtin.append_, run_underlying ht, sizeOf, typeInfo, hi, Builtin.lenOf, Builtin.firstCells]
    · simp [Builtin.append_, run_underlying ht, sizeOf, typeInfo, hi, Builtin.lenOf, Builtin.firstCells, hnc, storeCells]
  | some ad =>
    have hc : ∀ j u, (Lib.byteCells l)[j]? = some u → w.cell? (ad.add j) = some u := by
      intro j u hu
      simp only [Lib.byteCells, List.getElem?_map, Option.map_eq_some_iff] at hu
      obtain ⟨x, hx, rfl⟩ := hu
      obtain ⟨b, off, h1, _, h2⟩ := hr (by have := (List.getElem?_eq_some_iff.1 hx).1; omega)
      obtain rfl : ad = ⟨b, off, none⟩ := by injection h1
      rw [add_plain]
      exact h2 j x hx
    obtain ⟨v', w', h1, h2, h3, _⟩ := run_append_own (P := P) (w := w) base t ty e i (.int .u8 0) 1 1 ht hi hz hsize hby rfl (by decide) v n xs hown ad l.length c (Lib.byteCells l) (by simp [Lib.byteCells_length]) hc (bytes_one l) (by unfold maxLen; omega) (by omega) hbase
    exact ⟨v', w', h1, h2, h3⟩

theorem wpList_append_big {P : Program} {w : World} {ops : Array Oper} {rest : List Oper} {o : Oper} {a : Act} {Q : Exit → Act → World → Prop} (hgd : o.guard = none) (s x : Operand) (t : TypeId)
    (ho : o.op = .call { callee := .builtin .append, args := #[s, x], argTypes := #[t, t] })
    (base : Nat) (e : TypeId) (i : TypeInfo) (ht : P.underlying t = some (.slice e)) (hi : P.info? e = some i) (hz : i.zero = some (.int .u8 0)) (hsize : i.size = 1) (hby : i.bytes = 1)
    (v : Value) (n : Nat) (xs : List Value) (hs : a.eval s = v) (hown : w.ownsRow base e 1 v n xs) (A : Option Addr) (l : List UInt8) (m c : Nat) (hm : l.length = m) (hx : a.eval x = .slice A m c) (hr : Rd w A l) (hn : n + l.length ≤ 140737488355328) (hbase : base ≤ w.heap.size)
    (h : ∀ v' w', Hid (w'.ownsRow base e 1 v' (n + l.length) (xs ++ Lib.byteCells l)) → Hid (w.grownBy w' v.ownBlock) → wpList P ops Q rest (a.put o.dst v') w') : wpList P ops Q (o :: rest) a w := by
  subst hm
  refine wpList_plain hgd fun K hK => ?_
  obtain ⟨v', w', hrun, h1, h2⟩ := run_append_big w base t o.type e i ht hi hz hsize hby v n xs hown A l c hr hn hbase
  unfold Oper.wp
  simp [execOp, ho, resolve, invoke, builtin, hs, hx, hrun, Result.andThen]
  exact hK _ _ (h v' w' h1 h2)
end Go.Proofs.YtjoedamiilgajaaDoor

namespace Go.Proofs.YtjoedamiilgajaaDoor
open Go.RowKit Rc

set_option maxHeartbeats 1000000 in
set_option maxRecDepth 100000 in
theorem clone_any (w : World) (A : Option Addr) (x : List UInt8) (cap : Nat) (hr : Rd w A x) (hx : x.length ≤ 140737488355328) :
    Calls Tryd.prog 51 #[.slice A x.length cap] w fun e w' => ∃ v, e = .returned v ∧ w'.ownsRow w.heap.size 5 1 v x.length (Lib.byteCells x) ∧ Below w.heap.size w w' := by
  have q22 : ∀ (w : World) (a : Option Addr) (n c n' c' : Nat), (binOp .eql 25 (.slice a n c) (.slice none n' c')).run Tryd.prog w = .ok (.bool a.isNone) w := fun w a n c n' c' => Lib.run_eql_slice_nil w _ _ a n c n' c' Tryd.underlying25
  cases A with
  | none =>
    obtain rfl : x = [] := by
      rcases Nat.eq_zero_or_pos x.length with h | h
      · exact List.eq_nil_of_length_eq_zero h
      · obtain ⟨b, off, h1, _⟩ := hr h
        cases h1
    go_enter Tryd.func51, Tryd.ntmps51
    go_wp2_with fail
    go_ret
    exact ⟨_, rfl, own_nil _ _, Below.refl _ _⟩
  | some ad =>
    obtain ⟨i0, hi, hz0, hz1, hz2⟩ := info_parts Tryd.infoU8
    have HI0 := Lib.hid hi
    have HZ0 := Lib.hid hz0
    have HZ1 := Lib.hid hz1
    have HZ2 := Lib.hid hz2
    have H0 : Hid (MAt w.heap.size (.slice (some ⟨w.heap.size, 0, none⟩) 0 0) [] w (w.alloc (.cells #[] 5))) := MAt.empty w
    have HRW : Hid (Rd (w.alloc (.cells #[] 5)) (some ad) x) := hr.below (below_new w _)
    clear hi hz0 hz1 hz2 hr
    go_enter Tryd.func51, Tryd.ntmps51
    go_wp2_with (at_builtin; refine wpList_append_big rfl (.tmp 5) (.tmp 6) 25 rfl w.heap.size 5 i0 Tryd.underlying25 HI0.out HZ0.out HZ1.out HZ2.out _ 0 [] rfl H0.out.1 (some ad) x x.length cap rfl rfl HRW.out (by omega) (by rw [World.size_alloc]; omega) ?_; intro v1 w1 HO1 HG1; have H1 : Hid (MAt w.heap.size v1 x w w1) := H0.out.push (Below.refl _ _) HO1.out HG1.out)
    clear HO1 HG1
    go_ret
    exact ⟨_, rfl, H1.out.1, H1.out.2.1⟩

theorem wpList_append_at_rd {P : Program} {w : World} {ops : Array Oper} {rest : List Oper} {o : Oper} {a : Act} {Q : Exit → Act → World → Prop} (hgd : o.guard = none) (s x : Operand) (t : TypeId)
    (ho : o.op = .call { callee := .builtin .append, args := #[s, x], argTypes := #[t, t] })
    (base : Nat) (e : TypeId) (i : TypeInfo) (ht : P.underlying t = some (.slice e)) (hi : P.info? e = some i) (hz : i.zero = some (.int .u8 0)) (hsize : i.size = 1) (hby : i.bytes = 1)
    (v : Value) (n : Nat) (xs : List Value) (hs : a.eval s = v) (hown : w.ownsRow base e 1 v n xs) (A : Option Addr) (l : List UInt8) (m c : Nat) (hm : l.length = m) (hx : a.eval x = .slice A m c) (hr : Rd w A l) (hn : n + l.length ≤ 1099511627776) (hbase : base ≤ w.heap.size)
    (h : ∀ v' w', Hid (w'.ownsRow base e 1 v' (n + l.length) (xs ++ Lib.byteCells l)) → Hid (w.grownBy w' v.ownBlock) → Hid (v'.ownBlock = v.ownBlock ∨ v'.ownBlock = some w.heap.size) → wpList P ops Q rest (a.put o.dst v') w') : wpList P ops Q (o :: rest) a w :=
  wpList_plain hgd fun _ hK => wp_append_at s x t ho base e i ht hi hz hsize hby v n xs hs hown A l m c hm hx hr hn hbase fun v' w' h1 h2 h3 => hK _ _ (h v' w' h1 h2 h3)

theorem step_append_rd {P : Program} {ops : Array Oper} {o : Oper} {a : Act} {w : World} {K : Act → World → Prop} {Q : Exit → Act → World → Prop} {E : Prop} (hgd : o.guard = none) (s x : Operand) (t : TypeId)
    (ho : o.op = .call { callee := .builtin .append, args := #[s, x], argTypes := #[t, t] })
    (base : Nat) (e : TypeId) (i : TypeInfo) (ht : P.underlying t = some (.slice e)) (hi : P.info? e = some i) (hz : i.zero = some (.int .u8 0)) (hsize : i.size = 1) (hby : i.bytes = 1)
    (v : Value) (n : Nat) (xs : List Value) (hs : a.eval s = v) (hown : w.ownsRow base e 1 v n xs) (A : Option Addr) (l : List UInt8) (m c : Nat) (hm : l.length = m) (hx : a.eval x = .slice A m c) (hr : Rd w A l) (hn : n + l.length ≤ 1099511627776) (hbase : base ≤ w.heap.size)
    (h : ∀ v' w', Hid (w'.ownsRow base e 1 v' (n + l.length) (xs ++ Lib.byteCells l)) → Hid (w.grownBy w' v.ownBlock) → Hid (v'.ownBlock = v.ownBlock ∨ v'.ownBlock = some w.heap.size) → K (a.put o.dst v') w') :
    if Region.wanted o (yielded ops a.tmps) = true then Oper.wp P o a w K Q else E := by
  rw [if_pos (show Region.wanted o (yielded ops a.tmps) = true by simp [Region.wanted, hgd])]
  exact wp_append_at s x t ho base e i ht hi hz hsize hby v n xs hs hown A l m c hm hx hr hn hbase h
end Go.Proofs.YtjoedamiilgajaaDoor

namespace Go.Proofs.YtjoedamiilgajaaDoor
open Go.RowKit
/-! Rows of elements of k cells. -/
theorem run_clear_k {P : Program} (w : World) (t0 elem ty : TypeId) (z : Value) (ht : P.underlying t0 = some (.slice elem)) (hz : (zeroValue elem).run P w = .ok z w)
    (g o n cap : Nat) (cur : List Value) (t : TypeId) (hg : Blk w g t cur) (hfit : o + n * z.cells.size ≤ cur.length) (h1 : ∀ v ∈ z.cells.toList, v.oneCell' = true) :
    ∃ w' cs, (Builtin.clear_ #[t0] ty #[.slice (some ⟨g, o, none⟩) n cap]).run P w = .ok (.tuple #[]) w' ∧ Blk w' g t (splice cur o cs) ∧ Keeps w w' g ∧ cs.length = n * z.cells.size := by
  cases n with
  | zero => exact ⟨w, [], by simp [Builtin.clear_, run_underlying ht], by simpa [splice] using hg, Keeps.refl w g, by simp⟩
  | succ m =>
    obtain ⟨cs, hcs⟩ : ∃ cs, cs = (Builtin.zeroCells z.cells (m + 1)).toList := ⟨_, rfl⟩
    have hl : cs.length = (m + 1) * z.cells.size := by rw [hcs]; simp [Builtin.zeroCells]
    have hone : ∀ v ∈ cs, v.oneCell' = true := by
      intro v hv
      rw [hcs] at hv
      simp only [Builtin.zeroCells, Array.toList_map, List.mem_map, Array.toList_range, List.mem_range] at hv
      obtain ⟨i, hi, rfl⟩ := hv
      have hz0 : 0 < z.cells.size := by
        rcases Nat.eq_zero_or_pos z.cells.size with h | h
        · rw [h] at hi; omega
        · exact h
      have hs := Nat.mod_lt i hz0
      refine h1 _ ?_
      rw [getElem!_pos z.cells (i % z.cells.size) hs]
      exact Array.getElem_mem_toList hs
    have hst := run_storeCells_at P g o t cs 0 cur.toArray w hg (by rw [hl]; simpa using hfit) hone
    refine ⟨w.setRow g (cur.toArray.toList.take o ++ cs ++ cur.toArray.toList.drop (o + cs.length)).toArray, cs, ?_, ?_, (Keeps.refl w g).setRow _, hl⟩
    · simp [Builtin.clear_, run_underlying ht, hz, ← hcs, hst]
    · have e : cur.toArray.toList.take o ++ cs ++ cur.toArray.toList.drop (o + cs.length) = splice cur o cs := by simp [splice]
      rw [e]
      exact hg.row _
/-! What an insertion does to a row. -/
theorem splice_length {α : Type} (L : List α) (o : Nat) (cs : List α) (h : o + cs.length ≤ L.length) : (splice L o cs).length = L.length := by
  unfold splice
  rw [List.length_append, List.length_append, List.length_take, List.length_drop]; omega
theorem splice_take {α : Type} (L : List α) (o : Nat) (cs : List α) (h : o ≤ L.length) : (splice L o cs).take o = L.take o := by
  unfold splice
  rw [List.take_append_of_le_length (by rw [List.length_take]; omega), List.take_take, Nat.min_self]
end Go.Proofs.YtjoedamiilgajaaDoor

namespace Go.Proofs.YtjoedamiilgajaaDoor
open Go.RowKit Rc
open Tr (Nm En T)
namespace Tm
/-! Own rows of whatever elements. -/
theorem own_low {w : World} {B e k n : Nat} {v : Value} {xs : List Value} (h : w.ownsRow B e k v n xs) : w.ownsRow 0 e k v n xs := own_mono h (Nat.zero_le _)
theorem own_blk {w : World} {B e k n : Nat} {v : Value} {xs : List Value} (h : w.ownsRow B e k v n xs) {b : Nat} (hb : v.ownBlock = some b) : B ≤ b ∧ b < w.heap.size ∧ ∃ cs, Blk w b e cs := by
  rcases h.2 with ⟨rfl, _⟩ | ⟨g, cap, cur, rfl, h1, h2, _⟩
  · cases hb
  · obtain rfl : g = b := by simpa [Value.ownBlock] using hb
    exact ⟨h1, (Array.getElem?_eq_some_iff.1 h2).1, cur.toList, by simpa [Blk] using h2⟩
theorem own_keep {w w' : World} {B e k n : Nat} {v : Value} {xs : List Value} (h : w.ownsRow B e k v n xs) (hb : ∀ b, v.ownBlock = some b → w'.heap[b]? = w.heap[b]?) : w'.ownsRow B e k v n xs := by
  refine ⟨h.1, ?_⟩
  rcases h.2 with h2 | ⟨g, cap, cur, rfl, h3, h4, h5⟩
  · exact .inl h2
  · exact .inr ⟨g, cap, cur, rfl, h3, (hb g rfl).trans h4, h5⟩
theorem own_form {w : World} {B e k n : Nat} {v : Value} {xs : List Value} (h : w.ownsRow B e k v n xs) : ∃ A c, v = .slice A n c ∧ n ≤ c ∧ (0 < n → ∃ g, A = some ⟨g, 0, none⟩ ∧ v.ownBlock = some g ∧ B ≤ g ∧ g < w.heap.size ∧ ∀ j x, xs[j]? = some x → w.cell? ⟨g, j, none⟩ = some x) := by
  rcases h.2 with ⟨rfl, rfl⟩ | ⟨g, cap, cur, rfl, h1, h2, h3, h4, h5, h6⟩
  · exact ⟨none, 0, rfl, Nat.le_refl _, fun h => absurd h (by omega)⟩
  · refine ⟨_, cap, rfl, h3, fun hn => ⟨g, rfl, rfl, h1, (Array.getElem?_eq_some_iff.1 h2).1, fun j x hx => ?_⟩⟩
    rw [cell_of_row w g j cur e (0, 0) h2]
    rw [← h6] at hx
    rw [List.getElem?_take] at hx
    split at hx
    · simpa using hx
    · cases hx
/-! Names. -/
def nmCells (l : List Nm) : List Value := l.flatMap fun n => [.string (strOf n.1), .int .i64 n.2]
theorem nmCells_cons (n : Nm) (l : List Nm) : nmCells (n :: l) = .string (strOf n.1) :: .int .i64 n.2 :: nmCells l := rfl
theorem nmCells_append (a b : List Nm) : nmCells (a ++ b) = nmCells a ++ nmCells b := by simp [nmCells]
theorem nmCells_take (l : List Nm) : ∀ i, nmCells (l.take i) = (nmCells l).take (i * 2) := by
  induction l with
  | nil => intro i; simp [nmCells]
  | cons n l ih =>
    intro i
    cases i with
    | zero => simp [nmCells]
    | succ i =>
      rw [List.take_succ_cons, nmCells_cons, nmCells_cons, ih, show (i + 1) * 2 = i * 2 + 1 + 1 by omega, List.take_succ_cons, List.take_succ_cons]
theorem nmCells_drop (l : List Nm) : ∀ i, nmCells (l.drop i) = (nmCells l).drop (i * 2) := by
  induction l with
  | nil => intro i; simp [nmCells]
  | cons n l ih =>
    intro i
    cases i with
    | zero => simp
    | succ i =>
      rw [List.drop_succ_cons, nmCells_cons, ih, show (i + 1) * 2 = i * 2 + 1 + 1 by omega, List.drop_succ_cons, List.drop_succ_cons]
theorem nmCells_get {l : List Nm} {j : Nat} {n : Nm} (h : l[j]? = some n) : (nmCells l)[j * 2]? = some (.string (strOf n.1)) ∧ (nmCells l)[j * 2 + 1]? = some (.int .i64 n.2) := by
  induction l generalizing j with
  | nil => simp at h
  | cons m l ih =>
    rw [nmCells_cons]
    cases j with
    | zero =>
      obtain rfl : m = n := by simpa using h
      exact ⟨rfl, rfl⟩
    | succ j =>
      have := ih (j := j) (by simpa using h)
      rw [show (j + 1) * 2 = j * 2 + 1 + 1 by omega]
      simpa using this
theorem nmCells_one (l : List Nm) : ∀ v ∈ nmCells l, v.oneCell' = true := by
  intro v hv
  simp only [nmCells, List.mem_flatMap] at hv
  obtain ⟨x, _, hx⟩ := hv
  simp at hx
  rcases hx with rfl | rfl <;> rfl
def NOwn (w : World) (B : Nat) (v : Value) (l : List Nm) : Prop := w.ownsRow B 93 2 v l.length (nmCells l)
theorem NOwn.nil (w : World) (B : Nat) : NOwn w B (.slice none 0 0) [] := ⟨rfl, .inl ⟨rfl, rfl⟩⟩
theorem NOwn.form {w : World} {B : Nat} {v : Value} {l : List Nm} (h : NOwn w B v l) : ∃ A c, v = .slice A l.length c ∧ l.length ≤ c ∧ (0 < l.length → ∃ g, A = some ⟨g, 0, none⟩ ∧ v.ownBlock = some g ∧ B ≤ g ∧ g < w.heap.size ∧ ∀ j n, l[j]? = some n → w.cell? ⟨g, j * 2, none⟩ = some (.string (strOf n.1)) ∧ w.cell? ⟨g, j * 2 + 1, none⟩ = some (.int .i64 n.2)) := by
  obtain ⟨A, c, h1, h2, h3⟩ := own_form h
  refine ⟨A, c, h1, h2, fun hl => ?_⟩
  obtain ⟨g, h4, h5, h6, h7, h8⟩ := h3 hl
  exact ⟨g, h4, h5, h6, h7, fun j n hj => ⟨h8 _ _ (nmCells_get hj).1, h8 _ _ (nmCells_get hj).2⟩⟩
/-! A node. -/
def enCells (e : En) (dv nv : Value) : List Value := [.int .i64 e.nd.id, .int .i64 e.nd.kind, .int .i64 e.nd.links, .int .i64 e.nd.size, .int .u64 (e.nd.till : Nat), .bool e.nd.shut, dv, nv]
def EnS (g : Nat) (dv nv : Value) : Nat → Prop := fun b => b = g ∨ dv.ownBlock = some b ∨ nv.ownBlock = some b
structure EIn (g : Nat) (dv nv : Value) (e : En) (w : World) : Prop where
  box : Blk w g 90 (enCells e dv nv)
  data : w.ownsRow 0 5 1 dv e.data.length (Lib.byteCells e.data)
  names : NOwn w 0 nv e.names
def EAt (g : Nat) (e : En) (S : Nat → Prop) (w : World) : Prop := ∃ dv nv, EIn g dv nv e w ∧ S = EnS g dv nv
theorem EIn.at_ {g : Nat} {dv nv : Value} {e : En} {w : World} (h : EIn g dv nv e w) : EAt g e (EnS g dv nv) w := ⟨dv, nv, h, rfl⟩
theorem EIn.keep {g : Nat} {dv nv : Value} {e : En} {w w' : World} (h : EIn g dv nv e w) (hb : ∀ b, EnS g dv nv b → w'.heap[b]? = w.heap[b]?) : EIn g dv nv e w' :=
  ⟨(hb g (.inl rfl)).trans h.box, own_keep h.data fun b h1 => hb b (.inr (.inl h1)), own_keep h.names fun b h1 => hb b (.inr (.inr h1))⟩
theorem EIn.kind {g : Nat} {dv nv : Value} {e : En} {w : World} (h : EIn g dv nv e w) {b : Nat} (hb : EnS g dv nv b) : b < w.heap.size ∧ ∃ t cs, Blk w b t cs ∧ (t = 90 ∨ t = 5 ∨ t = 93) := by
  rcases hb with rfl | hb | hb
  · exact ⟨h.box.lt, _, _, h.box, .inl rfl⟩
  · obtain ⟨_, h1, cs, h2⟩ := own_blk h.data hb
    exact ⟨h1, _, cs, h2, .inr (.inl rfl)⟩
  · obtain ⟨_, h1, cs, h2⟩ := own_blk h.names hb
    exact ⟨h1, _, cs, h2, .inr (.inr rfl)⟩
theorem EAt.keep {g : Nat} {e : En} {S : Nat → Prop} {w w' : World} (h : EAt g e S w) (hb : ∀ b, S b → w'.heap[b]? = w.heap[b]?) : EAt g e S w' := by
  obtain ⟨dv, nv, h1, rfl⟩ := h
  exact ⟨dv, nv, h1.keep hb, rfl⟩
theorem EAt.kind {g : Nat} {e : En} {S : Nat → Prop} {w : World} (h : EAt g e S w) {b : Nat} (hb : S b) : b < w.heap.size ∧ ∃ t cs, Blk w b t cs ∧ (t = 90 ∨ t = 5 ∨ t = 93) := by
  obtain ⟨dv, nv, h1, rfl⟩ := h
  exact h1.kind hb
theorem EAt.self {g : Nat} {e : En} {S : Nat → Prop} {w : World} (h : EAt g e S w) : S g := by
  obtain ⟨dv, nv, h1, rfl⟩ := h
  exact .inl rfl
theorem EAt.cells {g : Nat} {e : En} {S : Nat → Prop} {w : World} (h : EAt g e S w) : w.cell? ⟨g, 0, none⟩ = some (.int .i64 e.nd.id) ∧ w.cell? ⟨g, 1, none⟩ = some (.int .i64 e.nd.kind) ∧ w.cell? ⟨g, 2, none⟩ = some (.int .i64 e.nd.links) ∧ w.cell? ⟨g, 3, none⟩ = some (.int .i64 e.nd.size) ∧ w.cell? ⟨g, 4, none⟩ = some (.int .u64 (e.nd.till : Nat)) ∧ w.cell? ⟨g, 5, none⟩ = some (.bool e.nd.shut) := by
  obtain ⟨dv, nv, h1, rfl⟩ := h
  exact ⟨h1.box.cell 0, h1.box.cell 1, h1.box.cell 2, h1.box.cell 3, h1.box.cell 4, h1.box.cell 5⟩
/-! Nodes, apart from one another. -/
def EsAt : List Nat → T → (Nat → Prop) → World → Prop
  | [], [], S, _ => ∀ b, ¬ S b
  | g :: gs, e :: t, S, w => ∃ S1 S2, EAt g e S1 w ∧ EsAt gs t S2 w ∧ (∀ b, S1 b → ¬ S2 b) ∧ (∀ b, S b ↔ S1 b ∨ S2 b)
  | _, _, _, _ => False
theorem EsAt.len : ∀ {gs : List Nat} {t : T} {S : Nat → Prop} {w : World}, EsAt gs t S w → gs.length = t.length
  | [], [], _, _, _ => rfl
  | _ :: _, _ :: _, _, _, ⟨_, _, _, h, _⟩ => by simp [EsAt.len h]
  | [], _ :: _, _, _, h => h.elim
  | _ :: _, [], _, _, h => h.elim
theorem EsAt.keep : ∀ {gs : List Nat} {t : T} {S : Nat → Prop} {w w' : World}, EsAt gs t S w → (∀ b, S b → w'.heap[b]? = w.heap[b]?) → EsAt gs t S w'
  | [], [], _, _, _, h, _ => h
  | _ :: _, _ :: _, _, _, _, ⟨S1, S2, h1, h2, h3, h4⟩, hb => ⟨S1, S2, h1.keep fun b h => hb b ((h4 b).2 (.inl h)), EsAt.keep h2 fun b h => hb b ((h4 b).2 (.inr h)), h3, h4⟩
  | [], _ :: _, _, _, _, h, _ => h.elim
  | _ :: _, [], _, _, _, h, _ => h.elim
theorem EsAt.kind : ∀ {gs : List Nat} {t : T} {S : Nat → Prop} {w : World}, EsAt gs t S w → ∀ {b : Nat}, S b → b < w.heap.size ∧ ∃ t cs, Blk w b t cs ∧ (t = 90 ∨ t = 5 ∨ t = 93)
  | [], [], _, _, h, b, hb => absurd hb (h b)
  | _ :: _, _ :: _, _, _, ⟨S1, S2, h1, h2, h3, h4⟩, b, hb => ((h4 b).1 hb).elim (fun h => h1.kind h) (fun h => EsAt.kind h2 h)
  | [], _ :: _, _, _, h, _, _ => h.elim
  | _ :: _, [], _, _, h, _, _ => h.elim
theorem EsAt.same : ∀ {gs : List Nat} {t : T} {S S' : Nat → Prop} {w : World}, EsAt gs t S w → (∀ b, S b ↔ S' b) → EsAt gs t S' w
  | [], [], _, _, _, h, hS => fun b hb => h b ((hS b).2 hb)
  | _ :: _, _ :: _, _, _, _, ⟨S1, S2, h1, h2, h3, h4⟩, hS => ⟨S1, S2, h1, h2, h3, fun b => (hS b).symm.trans (h4 b)⟩
  | [], _ :: _, _, _, _, h, _ => h.elim
  | _ :: _, [], _, _, _, h, _ => h.elim
theorem EsAt.app : ∀ {ga gb : List Nat} {A B : T} {SA SB : Nat → Prop} {w : World}, EsAt ga A SA w → EsAt gb B SB w → (∀ b, SA b → ¬ SB b) → EsAt (ga ++ gb) (A ++ B) (fun b => SA b ∨ SB b) w
  | [], _, [], _, _, _, _, h, k, _ => k.same fun b => ⟨.inr, fun h1 => h1.elim (fun h2 => absurd h2 (h b)) id⟩
  | _ :: _, _, _ :: _, _, _, SB, _, ⟨S1, S2, h1, h2, h3, h4⟩, k, hd =>
    ⟨S1, fun b => S2 b ∨ SB b, h1, EsAt.app h2 k fun b h => hd b ((h4 b).2 (.inr h)), fun b h => fun h5 => h5.elim (h3 b h) (hd b ((h4 b).2 (.inl h))), fun b => by
      constructor
      · rintro (h | h)
        · exact ((h4 b).1 h).elim .inl fun h => .inr (.inl h)
        · exact .inr (.inr h)
      · rintro (h | h | h)
        · exact .inl ((h4 b).2 (.inl h))
        · exact .inl ((h4 b).2 (.inr h))
        · exact .inr h⟩
  | [], _, _ :: _, _, _, _, _, h, _, _ => h.elim
  | _ :: _, _, [], _, _, _, _, h, _, _ => h.elim
theorem EsAt.split : ∀ {A B : T} {gs : List Nat} {S : Nat → Prop} {w : World}, EsAt gs (A ++ B) S w → ∃ ga gb SA SB, gs = ga ++ gb ∧ EsAt ga A SA w ∧ EsAt gb B SB w ∧ (∀ b, SA b → ¬ SB b) ∧ (∀ b, S b ↔ SA b ∨ SB b)
  | [], _, gs, S, _, h => ⟨[], gs, fun _ => False, S, rfl, fun _ h => h, h, fun _ h => h.elim, fun b => ⟨.inr, fun h => h.elim False.elim id⟩⟩
  | e :: A, B, g :: gs, S, w, ⟨S1, S2, h1, h2, h3, h4⟩ => by
    obtain ⟨ga, gb, SA, SB, rfl, h5, h6, h7, h8⟩ := EsAt.split h2
    refine ⟨g :: ga, gb, fun b => S1 b ∨ SA b, SB, rfl, ⟨S1, SA, h1, h5, fun b hb hA => h3 b hb ((h8 b).2 (.inl hA)), fun b => Iff.rfl⟩, h6, fun b hb hB => ?_, fun b => ?_⟩
    · rcases hb with hb | hb
      · exact h3 b hb ((h8 b).2 (.inr hB))
      · exact h7 b hb hB
    · rw [h4, h8, or_assoc]
  | _ :: _, _, [], _, _, h => h.elim
theorem EsAt.mid {A B : T} {e : En} {gs : List Nat} {S : Nat → Prop} {w : World} (h : EsAt gs (A ++ e :: B) S w) : ∃ ga g gb S1, gs = ga ++ g :: gb ∧ ga.length = A.length ∧ EAt g e S1 w ∧ (∀ b, S1 b → S b) ∧
    (∀ w' e' S1', EAt g e' S1' w' → Mod w w' S1 → (∀ b, S1' b → S1 b ∨ w.heap.size ≤ b) → ∃ S', EsAt gs (A ++ e' :: B) S' w' ∧ ∀ b, S' b → S b ∨ w.heap.size ≤ b) := by
  obtain ⟨ga, gb, SA, SB, rfl, h1, h2, h3, h4⟩ := h.split
  cases gb with
  | nil => exact h2.elim
  | cons g gb =>
    obtain ⟨S1, S2, h5, h6, h7, h8⟩ := h2
    refine ⟨ga, g, gb, S1, rfl, h1.len, h5, fun b hb => (h4 b).2 (.inr ((h8 b).2 (.inl hb))), fun w' e' S1' k1 k2 k3 => ?_⟩
    have kA : EsAt ga A SA w' := h1.keep fun b hb => k2.block b (h1.kind hb).1 fun h9 => h3 b hb ((h8 b).2 (.inl h9))
    have kB : EsAt gb B S2 w' := h6.keep fun b hb => k2.block b (h6.kind hb).1 fun h9 => h7 b h9 hb
    have kE : EsAt (g :: gb) (e' :: B) (fun b => S1' b ∨ S2 b) w' := ⟨S1', S2, k1, kB, fun b hb h9 => (k3 b hb).elim (fun h => h7 b h h9) (fun h => by have := (h6.kind h9).1; omega), fun b => Iff.rfl⟩
    refine ⟨_, kA.app kE fun b hb h9 => ?_, fun b hb => ?_⟩
    · rcases h9 with h9 | h9
      · rcases k3 b h9 with h | h
        · exact h3 b hb ((h8 b).2 (.inl h))
        · have := (h1.kind hb).1; omega
      · exact h3 b hb ((h8 b).2 (.inr h9))
    · rcases hb with hb | hb | hb
      · exact .inl ((h4 b).2 (.inl hb))
      · exact (k3 b hb).imp (fun h => (h4 b).2 (.inr ((h8 b).2 (.inl h)))) id
      · exact .inl ((h4 b).2 (.inr ((h8 b).2 (.inr hb))))
def ptrOf : List Nat → T → Int → Value
  | g :: gs, e :: t, i => if e.nd.id = i then .pointer (some ⟨g, 0, none⟩) else ptrOf gs t i
  | _, _, _ => .pointer none
theorem ptrOf_none : ∀ {gs : List Nat} {t : T} {i : Int}, (∀ e ∈ t, e.nd.id ≠ i) → ptrOf gs t i = .pointer none
  | [], [], _, _ => rfl
  | [], _ :: _, _, _ => rfl
  | _ :: _, [], _, _ => rfl
  | g :: gs, e :: t, i, h => by
    unfold ptrOf
    rw [if_neg (h e (.head _))]
    exact ptrOf_none fun m hm => h m (.tail _ hm)
theorem ptrOf_mid : ∀ {ga gb : List Nat} {g : Nat} {A B : T} {e : En} {i : Int}, ga.length = A.length → (∀ a ∈ A, a.nd.id ≠ i) → e.nd.id = i → ptrOf (ga ++ g :: gb) (A ++ e :: B) i = .pointer (some ⟨g, 0, none⟩)
  | [], _, _, [], _, _, _, _, _, he => by show (if _ then _ else _) = _; rw [if_pos he]
  | _ :: _, _, _, a :: _, _, _, _, hl, hA, he => by
    show (if _ then _ else _) = _
    rw [if_neg (hA a (.head _))]
    exact ptrOf_mid (by simpa using hl) (fun x hx => hA x (.tail _ hx)) he
/-! The tree. -/
def ptrCells (gs : List Nat) : List Value := gs.map fun g => .pointer (some ⟨g, 0, none⟩)
theorem ptrCells_append (a b : List Nat) : ptrCells (a ++ b) = ptrCells a ++ ptrCells b := List.map_append
theorem ptrCells_take (l : List Nat) (i : Nat) : ptrCells (l.take i) = (ptrCells l).take i := List.map_take
theorem ptrCells_drop (l : List Nat) (i : Nat) : ptrCells (l.drop i) = (ptrCells l).drop i := List.map_drop
def TrS (p : Nat) (av : Value) (S : Nat → Prop) : Nat → Prop := fun b => b = p ∨ av.ownBlock = some b ∨ S b
structure TIn (p : Nat) (av : Value) (gs : List Nat) (S : Nat → Prop) (t : T) (w : World) : Prop where
  box : Blk w p 65 [av]
  row : w.ownsRow 0 61 1 av gs.length (ptrCells gs)
  each : EsAt gs t S w
def TAt (v : Value) (t : T) (S : Nat → Prop) (w : World) : Prop := ∃ p av gs S0, v = .pointer (some ⟨p, 0, none⟩) ∧ TIn p av gs S0 t w ∧ S = TrS p av S0
theorem TIn.at_ {p : Nat} {av : Value} {gs : List Nat} {S : Nat → Prop} {t : T} {w : World} (h : TIn p av gs S t w) : TAt (.pointer (some ⟨p, 0, none⟩)) t (TrS p av S) w := ⟨p, av, gs, S, rfl, h, rfl⟩
theorem TIn.keep {p : Nat} {av : Value} {gs : List Nat} {S : Nat → Prop} {t : T} {w w' : World} (h : TIn p av gs S t w) (hb : ∀ b, TrS p av S b → w'.heap[b]? = w.heap[b]?) : TIn p av gs S t w' :=
  ⟨(hb p (.inl rfl)).trans h.box, own_keep h.row fun b h1 => hb b (.inr (.inl h1)), h.each.keep fun b h1 => hb b (.inr (.inr h1))⟩
theorem TIn.lt {p : Nat} {av : Value} {gs : List Nat} {S : Nat → Prop} {t : T} {w : World} (h : TIn p av gs S t w) {b : Nat} (hb : TrS p av S b) : b < w.heap.size := by
  rcases hb with rfl | hb | hb
  · exact h.box.lt
  · exact (own_blk h.row hb).2.1
  · exact (h.each.kind hb).1
theorem TIn.below {p : Nat} {av : Value} {gs : List Nat} {S : Nat → Prop} {t : T} {w w' : World} (h : TIn p av gs S t w) (hb : Below w.heap.size w w') : TIn p av gs S t w' := h.keep fun b hb1 => hb.block b (h.lt hb1)
def tobj : Ob.Obj T where
  At := TAt
  keep := by
    rintro v s S w w' ⟨p, av, gs, S0, rfl, h, rfl⟩ _ hb
    exact ⟨p, av, gs, S0, rfl, h.keep hb, rfl⟩
  lt := by
    rintro v s S w ⟨p, av, gs, S0, rfl, h, rfl⟩ b hb
    exact h.lt hb
  ptr := by
    rintro v s S w ⟨p, av, gs, S0, rfl, h, rfl⟩
    exact ⟨_, rfl⟩
theorem TIn.apart {p : Nat} {av : Value} {gs : List Nat} {S : Nat → Prop} {t : T} {w : World} (h : TIn p av gs S t w) : ¬ S p ∧ (∀ b, av.ownBlock = some b → ¬ S b ∧ b ≠ p) := by
  have key : ∀ {b : Nat} {ty : TypeId} {cs : List Value}, Blk w b ty cs → S b → ty = 90 ∨ ty = 5 ∨ ty = 93 := by
    intro b ty cs h1 h2
    obtain ⟨_, t2, cs2, h3, h4⟩ := h.each.kind h2
    have e : ty = t2 := by
      unfold Blk at h1 h3
      rw [h1] at h3
      injection h3 with h3
      injection h3
    rw [e]; exact h4
  refine ⟨fun hS => by have := key h.box hS; revert this; decide, fun b hb => ⟨fun hS => ?_, ?_⟩⟩
  · obtain ⟨_, _, cs, h1⟩ := own_blk h.row hb
    have := key h1 hS
    revert this; decide
  · obtain ⟨_, _, cs, h1⟩ := own_blk h.row hb
    exact h1.ne_ h.box (by decide)
theorem TIn.turn {p : Nat} {av : Value} {gs : List Nat} {S : Nat → Prop} {A B : T} {e : En} {w : World} (h : TIn p av gs S (A ++ e :: B) w) : ∃ ga g gb S1, gs = ga ++ g :: gb ∧ ga.length = A.length ∧ EAt g e S1 w ∧ (∀ b, S1 b → S b) ∧
    (∀ w' e' S1', EAt g e' S1' w' → Mod w w' S1 → (∀ b, S1' b → S1 b ∨ w.heap.size ≤ b) → ∃ S', TIn p av gs S' (A ++ e' :: B) w' ∧ Mod w w' (TrS p av S) ∧ ∀ b, TrS p av S' b → TrS p av S b ∨ w.heap.size ≤ b) := by
  obtain ⟨ga, g, gb, S1, h1, h2, h3, h4, h5⟩ := h.each.mid
  refine ⟨ga, g, gb, S1, h1, h2, h3, h4, fun w' e' S1' k1 k2 k3 => ?_⟩
  obtain ⟨S', h6, h7⟩ := h5 w' e' S1' k1 k2 k3
  have hap := h.apart
  refine ⟨S', ⟨(k2.block p h.box.lt fun h9 => hap.1 (h4 _ h9)).trans h.box, own_keep h.row fun b hb => k2.block b (own_blk h.row hb).2.1 fun h9 => (hap.2 b hb).1 (h4 _ h9), h6⟩, k2.mono fun b _ hb => .inr (.inr (h4 b hb)), fun b hb => ?_⟩
  rcases hb with rfl | hb | hb
  · exact .inl (.inl rfl)
  · exact .inl (.inr (.inl hb))
  · exact (h7 b hb).imp (fun h => .inr (.inr h)) id
end Tm
end Go.Proofs.YtjoedamiilgajaaDoor

namespace Go.Proofs.YtjoedamiilgajaaDoor
open Go.RowKit Rc
open Tr (Nm En T)
namespace Tm

set_option maxHeartbeats 1000000 in
set_option maxRecDepth 100000 in
theorem fresh_any (w : World) (id kind : Int) :
    Calls Tryd.prog 21 #[.int .i64 id, .int .i64 kind] w fun e w' => ∃ g, e = .returned (.pointer (some ⟨g, 0, none⟩)) ∧ EIn g (.slice none 0 0) (.slice none 0 0) (Tr.fresh id kind) w' ∧ g = w.heap.size ∧ Below w.heap.size w w' := by
  obtain ⟨b, hb⟩ : ∃ b, b = (kind == 2) := ⟨_, rfl⟩
  have HB := Lib.hid hb
  have h2 : (kind == 2) = b := hb.symm
  clear hb
  go_enter Tryd.func21, Tryd.ntmps21
  go_wp2_with fail
  go_ret
  refine ⟨_, rfl, ⟨?_, ⟨rfl, .inl ⟨rfl, rfl⟩⟩, NOwn.nil _ _⟩, rfl, below_new w _⟩
  have h := Blk.new w 90 (enCells (Tr.fresh id kind) (.slice none 0 0) (.slice none 0 0))
  unfold enCells Tr.fresh at h ⊢
  rw [← HB.out] at h ⊢
  exact h

theorem ptrOf_drop {gs : List Nat} {t : T} {i : Int} {j : Nat} (hl : gs.length = t.length) (hn : ∀ e ∈ t.take j, e.nd.id ≠ i) : ptrOf gs t i = ptrOf (gs.drop j) (t.drop j) i := by
  induction j generalizing gs t with
  | zero => rfl
  | succ j ih =>
    cases gs with
    | nil => cases t with
      | nil => rfl
      | cons e t => simp at hl
    | cons g gs => cases t with
      | nil => simp at hl
      | cons e t =>
        rw [List.take_succ_cons] at hn
        rw [List.drop_succ_cons, List.drop_succ_cons, ← ih (by simpa using hl) fun m hm => hn m (.tail _ hm)]
        show (if _ then _ else _) = _
        rw [if_neg (hn e (.head _))]
theorem EsAt.get : ∀ {gs : List Nat} {t : T} {S : Nat → Prop} {w : World}, EsAt gs t S w → ∀ {j : Nat} {e : En}, t[j]? = some e → ∃ g S1, gs[j]? = some g ∧ EAt g e S1 w ∧ ∀ b, S1 b → S b
  | [], [], _, _, _, _, _, h => by simp at h
  | g :: gs, e :: t, _, _, ⟨S1, S2, h1, h2, h3, h4⟩, 0, e', h => by
    obtain rfl : e = e' := by simpa using h
    exact ⟨g, S1, rfl, h1, fun b hb => (h4 b).2 (.inl hb)⟩
  | g :: gs, e :: t, _, _, ⟨S1, S2, h1, h2, h3, h4⟩, j + 1, e', h => by
    obtain ⟨g', S', k1, k2, k3⟩ := EsAt.get h2 (j := j) (by simpa using h)
    exact ⟨g', S', by simpa using k1, k2, fun b hb => (h4 b).2 (.inr (k3 b hb))⟩
  | [], _ :: _, _, _, h, _, _, _ => h.elim
  | _ :: _, [], _, _, h, _, _, _ => h.elim

set_option maxHeartbeats 1000000 in
set_option maxRecDepth 100000 in
theorem find_any {p : Nat} {av : Value} {gs : List Nat} {S : Nat → Prop} {t : T} {w : World} (h : TIn p av gs S t w) (i : Int) (hlt : t.length ≤ 1000000000) :
    Calls Tryd.prog 41 #[.pointer (some ⟨p, 0, none⟩), .int .i64 i] w fun e w' => e = .returned (ptrOf gs t i) ∧ w' = w := by
  have H := Lib.hid h
  have c0 : w.cell? ⟨p, 0, none⟩ = some av := h.box.cell 0
  have hl := h.each.len
  obtain ⟨A, c, rfl, hc, hA⟩ := own_form h.row
  have HA := Lib.hid hA
  have HL := Lib.hid hl
  have HLT := Lib.hid hlt
  have hg9 : gs.length ≤ 1000000000 := by omega
  clear h hA hl hlt
  go_enter Tryd.func41, Tryd.ntmps41
  go_wp2_with fail
  go_loopw [6, 12] (fun t6 t12 wr => ∃ (j : Nat) (v6 : Value), t6 = v6 ∧ t12 = .int .i64 j ∧ j ≤ gs.length ∧ Hid (∀ e ∈ t.take j, e.nd.id ≠ i) ∧ wr = w) (fun _ t12 _ => gs.length - (match t12 with | .int _ k => k.toNat | _ => 0))
  case atStart => exact ⟨0, _, rfl, rfl, Nat.zero_le _, fun e he => by simp at he, rfl⟩
  case round =>
    obtain ⟨j, v6, rfl, rfl, hj, HN, rfl⟩ := hrel
    by_cases hk : j < gs.length
    · obtain ⟨e, he⟩ : ∃ e, t[j]? = some e := ⟨_, List.getElem?_eq_getElem (by rw [← HL.out]; exact hk)⟩
      obtain ⟨g, S1, hg, hE, _⟩ := H.out.each.get he
      obtain ⟨q, rfl, _, _, _, hcell⟩ := HA.out (by omega)
      have c1 : wr.cell? ⟨q, j, none⟩ = some (.pointer (some ⟨g, 0, none⟩)) := hcell j _ (by simp [ptrCells, hg])
      have c2 := hE.cells.1
      have hlt2 : (j : Int) < (gs.length : Int) := by omega
      have HE := Lib.hid he
      have HG := Lib.hid hg
      clear he hg hE hcell
      by_cases hi : e.nd.id = i
      · have HP : Hid (ptrOf gs t i = .pointer (some ⟨g, 0, none⟩)) := by
          show _ = _
          rw [ptrOf_drop HL.out HN.out, List.drop_eq_getElem_cons hk, List.drop_eq_getElem_cons (show j < t.length by have := HL.out; omega), (List.getElem?_eq_some_iff.1 HG.out).2, (List.getElem?_eq_some_iff.1 HE.out).2]
          show (if _ then _ else _) = _
          rw [if_pos hi]
        have hb : (e.nd.id == i) = true := by simpa using hi
        clear hi
        go_wp2_with fail
        go_ret
        exact ⟨by rw [HP.out]; rfl, rfl⟩
      · have HN1 : Hid (∀ e ∈ t.take (j + 1), e.nd.id ≠ i) := fun m hm => by
          rw [List.take_succ_eq_append_getElem (show j < t.length by have := HL.out; omega), List.mem_append] at hm
          rcases hm with hm | hm
          · exact HN.out m hm
          · simp only [List.mem_singleton] at hm
            rw [hm, (List.getElem?_eq_some_iff.1 HE.out).2]; exact hi
        have hb : (e.nd.id == i) = false := by simpa using hi
        clear hi
        go_wp2_with fail
        go_roundw
        case rel => exact ⟨j + 1, _, rfl, by go_num, by omega, HN1.out, by first | rfl | trivial⟩
        case measure => simp; omega
    · obtain rfl : j = gs.length := by omega
      have HP : Hid (ptrOf gs t i = .pointer none) := ptrOf_none fun m hm => HN.out m (by rw [show gs.length = t.length from HL.out, List.take_length]; exact hm)
      go_wp2_with fail
      go_ret
      exact ⟨by rw [HP.out]; rfl, rfl⟩

end Tm
end Go.Proofs.YtjoedamiilgajaaDoor

namespace Go.Proofs.YtjoedamiilgajaaDoor
open Go.RowKit

theorem usual_any (c : UInt8) (w : World) : Calls Tryd.prog 78 #[.int .u8 (c.toNat : Nat)] w fun e w' => e = .returned (.bool (Pa.okByte c)) ∧ w = w' := by
  obtain ⟨n, hn⟩ : ∃ n, n = c.toNat := ⟨_, rfl⟩
  have hlt : n < 256 := by rw [hn]; exact c.toNat_lt
  have HB : Hid (Pa.okByte c = ((decide (97 ≤ n) && decide (n ≤ 122)) || (decide (48 ≤ n) && decide (n ≤ 57)) || decide (n = 46) || decide (n = 45) || decide (n = 95))) := by
    show _ = _
    subst hn
    have e : ∀ k : UInt8, (c == k) = decide (c.toNat = k.toNat) := fun k => by
      by_cases h : c = k
      · subst h; simp
      · rw [beq_eq_false_iff_ne.2 h]
        exact (decide_eq_false fun h2 => h (UInt8.toNat_inj.1 h2)).symm
    unfold Pa.okByte
    rw [e, e, e]
    rfl
  rw [← hn]
  clear hn
  by_cases h1 : n = 46
  · subst h1
    go_enter Tryd.func78, Tryd.ntmps78
    go_wp2
    all_goals go_ret; exact ⟨by rw [HB.out]; rfl, rfl⟩
  by_cases h2 : n = 45
  · subst h2
    go_enter Tryd.func78, Tryd.ntmps78
    go_wp2
    all_goals go_ret; exact ⟨by rw [HB.out]; rfl, rfl⟩
  by_cases h3 : n = 95
  · subst h3
    go_enter Tryd.func78, Tryd.ntmps78
    go_wp2
    all_goals go_ret; exact ⟨by rw [HB.out]; rfl, rfl⟩
  have e1 : ((n : Int) == 46) = false := by simp; omega
  have e2 : ((n : Int) == 45) = false := by simp; omega
  have e3 : ((n : Int) == 95) = false := by simp; omega
  by_cases g1 : 97 ≤ n <;> by_cases g2 : n ≤ 122 <;> by_cases g3 : 48 ≤ n <;> by_cases g4 : n ≤ 57 <;> first
    | omega
    | (go_enter Tryd.func78, Tryd.ntmps78
       go_wp2
       all_goals go_ret; exact ⟨by rw [HB.out]; (simp [g1, g2, g3, g4, h1, h2, h3] <;> omega), rfl⟩)
def Oks (l : Bs) (k : Nat) : Prop := k ≤ l.length ∧ ∀ (j : Nat) (c : UInt8), j < k → l[j]? = some c → Pa.okByte c = true
theorem Oks.zero (l : Bs) : Oks l 0 := ⟨Nat.zero_le _, fun j _ hj => absurd hj (Nat.not_lt_zero j)⟩
theorem Oks.step {l : Bs} {k : Nat} {c : UInt8} (h : Oks l k) (hk : l[k]? = some c) (hc : Pa.okByte c = true) : Oks l (k + 1) := by
  refine ⟨(List.getElem?_eq_some_iff.1 hk).1, fun j d hj hd => ?_⟩
  rcases Nat.lt_or_ge j k with h1 | h1
  · exact h.2 j d h1 hd
  · obtain rfl : j = k := by omega
    rw [hk] at hd
    cases hd
    exact hc
theorem Oks.all {l : Bs} (h : Oks l l.length) : l.all Pa.okByte = true := by
  rw [List.all_eq_true]
  intro c hc
  obtain ⟨j, hj, rfl⟩ := List.getElem_of_mem hc
  exact h.2 j _ hj (List.getElem?_eq_getElem hj)
theorem bad_at {l : Bs} {k : Nat} {c : UInt8} (hk : l[k]? = some c) (hc : Pa.okByte c = false) : l.all Pa.okByte = false := by
  rw [List.all_eq_false]
  exact ⟨c, List.mem_of_getElem? hk, by rw [hc]; decide⟩
set_option maxHeartbeats 1000000 in
set_option maxRecDepth 100000 in
theorem good_any (l : Bs) (w : World) (hl : l.length ≤ 9223372036854775807) : Calls Tryd.prog 59 #[.string (strOf l)] w fun e w' => e = .returned (.bool (Pa.good l)) ∧ w = w' := by
  have e0 := strOf_size l
  have e1 := strOf_lit l [46]
  have e2 := strOf_lit l [46, 46]
  by_cases h0 : l = []
  · subst h0
    go_enter Tryd.func59, Tryd.ntmps59
    go_wp2
    go_ret
    exact ⟨rfl, rfl⟩
  have hp : 0 < l.length := List.length_pos_iff.2 h0
  by_cases h16 : 16 < l.length
  · have HF : Hid (Pa.good l = false) := by
      show _ = _
      unfold Pa.good
      rw [show decide (l.length ≤ 16) = false from decide_eq_false (by omega)]
      simp
    go_enter Tryd.func59, Tryd.ntmps59
    go_wp2
    go_ret
    exact ⟨by rw [HF.out]; rfl, rfl⟩
  by_cases h1 : l = [46]
  · subst h1
    go_enter Tryd.func59, Tryd.ntmps59
    go_wp2
    go_ret
    exact ⟨rfl, rfl⟩
  by_cases h2 : l = [46, 46]
  · subst h2
    go_enter Tryd.func59, Tryd.ntmps59
    go_wp2
    go_ret
    exact ⟨rfl, rfl⟩
  have HG : Hid (Pa.good l = l.all Pa.okByte) := by
    show _ = _
    unfold Pa.good
    rw [show decide (l.length ≤ 16) = true from decide_eq_true (by omega), show decide (1 ≤ l.length) = true from decide_eq_true hp, bne_iff_ne.2 h1, bne_iff_ne.2 h2]
    simp
  replace e1 : ((strOf l).toList == [46]) = false := by rw [e1, decide_eq_false h1]
  replace e2 : ((strOf l).toList == [46, 46]) = false := by rw [e2, decide_eq_false h2]
  have hc0 : ((l.length : Int) == 0) = false := by simp; omega
  go_enter Tryd.func59, Tryd.ntmps59
  go_wp2
  go_loopw [22] (fun t22 wr => ∃ k : Nat, t22 = .int .i64 k ∧ Hid (Oks l k) ∧ wr = w) (fun t22 _ => l.length - (match t22 with | .int _ k => k.toNat | _ => 0))
  case atStart => exact ⟨0, rfl, Oks.zero l, rfl⟩
  case round =>
    obtain ⟨k, rfl, HO, rfl⟩ := hrel
    by_cases hk : k < l.length
    · obtain ⟨c, hc⟩ : ∃ c, l[k]? = some c := ⟨_, List.getElem?_eq_getElem hk⟩
      have hix := fun wx => str_at hc wx
      have HC := Lib.hid hc
      clear hc
      cases hok : Pa.okByte c with
      | true =>
        go_wp2_with (go_at_call 78; refine (usual_any c _).mono ?_; rintro e wx ⟨rfl, rfl⟩)
        go_roundw
        case rel => exact ⟨k + 1, rfl, HO.out.step HC.out hok, by first | rfl | trivial⟩
        case measure => simp; omega
      | false =>
        have HF : Hid (Pa.good l = false) := HG.out.trans (bad_at HC.out hok)
        go_wp2_with (go_at_call 78; refine (usual_any c _).mono ?_; rintro e wx ⟨rfl, rfl⟩)
        go_ret
        exact ⟨by rw [HF.out]; rfl, rfl⟩
    · obtain rfl : k = l.length := by have := HO.out.1; omega
      have HF : Hid (Pa.good l = true) := HG.out.trans HO.out.all
      go_wp2
      go_ret
      exact ⟨by rw [HF.out]; rfl, rfl⟩
end Go.Proofs.YtjoedamiilgajaaDoor

namespace Go.Proofs.YtjoedamiilgajaaDoor
open Go.RowKit

end Go.Proofs.YtjoedamiilgajaaDoor

namespace Go.Proofs.YtjoedamiilgajaaDoor
open Go.RowKit Rc
open Tr (Nm En T)
namespace Tm
end Tm
end Go.Proofs.YtjoedamiilgajaaDoor

/-
  OWN WORK. slices.Chunk of bytes by 128: what its iterator hands on.
-/
import Derived.Test.YtkjkmdhbodjeeaaBmBase
import Derived.RangeFuncBox
import Derived.RangeFuncNested
import Derived.RangeFuncBound
import Derived.RangeFuncCalls
import Derived.RangeFuncLeaves
import Derived.Shelf.Abstract
import Derived.Shelf.RegionOpen
import Derived.RegionIn
import Derived.OwnWalkIn
import Derived.TacticsInMore
import Derived.LoopNIn
import Derived.LoopIn
namespace Go.Proofs.Ytkjkmdhbodjeeaa
open Go.RowKit Go.Shelf

attribute [local go_sem] Oper.semAt_some

theorem sl_lhm (w : World) (A : Option Addr) (len cap lo hi mx : Nat) (h1 : lo ≤ hi) (h2 : hi ≤ mx) (h3 : mx ≤ cap) : (Instr.sliceAt 36 (.slice A len cap) (some (.int .i64 lo)) (some (.int .i64 hi)) (some (.int .i64 mx))).run Try.prog w = .ok (.slice (if mx = lo then A else A.map (·.add lo)) (hi - lo) (mx - lo)) w := by
  rw [run_sliceAt_slice w _ _ _ _ _ byte_under, run_slice_lhm w _ _ _ _ byte_under .i64 .i64 .i64 lo hi mx (by omega) (by omega) (by omega) (by omega), byte_size]
  simp [Result.andThen, sliced]

theorem chunk_any (w : World) (A : Option Addr) (len cap : Nat) :
    Calls Try.prog 24 #[.slice A len cap, .int .i64 128] w fun e w' => e = .returned (.func (.func 27) #[] #[.pointer (some ⟨w.heap.size, 0, none⟩), .pointer (some ⟨w.heap.size + 1, 0, none⟩)]) ∧ w' = (w.alloc (.cells #[.slice A len cap] 36)).alloc (.cells #[.int .i64 128] 3) := by
  go_enter Try.func24, Try.ntmps24
  go_wp2
  go_ret
  exact ⟨rfl, rfl⟩

/-- What a round must keep: the two boxes of the iterator. -/
def KpC (Bs Bn : Nat) (W W' : World) : Prop := W'.cell? ⟨Bs, 0, none⟩ = W.cell? ⟨Bs, 0, none⟩ ∧ W'.cell? ⟨Bn, 0, none⟩ = W.cell? ⟨Bn, 0, none⟩
theorem KpC.trans {Bs Bn : Nat} {A B C : World} (h : KpC Bs Bn A B) (k : KpC Bs Bn B C) : KpC Bs Bn A C := ⟨k.1.trans h.1, k.2.trans h.2⟩
/-- A piece, as it is handed on. -/
def encP (A : Option Addr) (b : List UInt8) (j : Nat) : Value := .slice (A.map (·.add (128 * j))) (Bm.piece b j).length (Bm.piece b j).length
theorem rd_piece {W : World} {A : Option Addr} {b : List UInt8} (h : Rd W A b) {j : Nat} (hj : j < Bm.nb b.length) : Rd W (A.map (·.add (128 * j))) (Bm.piece b j) := by
  have hlt := Bm.lt_nb.1 hj
  have := (h.cut (128 * j) b.length (Nat.le_refl _)).take 128
  rw [if_neg (by omega)] at this
  exact this

set_option maxRecDepth 100000 in
set_option maxHeartbeats 4000000 in
theorem chunk1_in (F : Fence) (n : Nat) (hf : F.fn 27) (hro : F.round = none) (hn : 1 ≤ n) (l Bs Bn : Nat) (A : Option Addr) (b : List UInt8) (cap : Nat) (hcap : b.length ≤ cap) (hb : b.length ≤ 1000000)
    (J Jx : List { j : Nat // j < Bm.nb b.length } → World → Prop)
    (hY : ∀ pre x W, J pre W → pre.length < Bm.nb b.length → YieldAt F (n - 1) Try.prog l #[encP A b x.1] W fun e W' =>
      (e = .returned (.bool true) ∧ J (pre ++ [x]) W' ∧ KpC Bs Bn W W') ∨ (e = .returned (.bool false) ∧ Jx (pre ++ [x]) W'))
    (hJd : ∀ pre W, J pre W → J pre W.drew) (W : World) (hBs : W.cell? ⟨Bs, 0, none⟩ = some (.slice A b.length cap)) (hBn : W.cell? ⟨Bn, 0, none⟩ = some (.int .i64 128)) (h0 : J [] W) :
    CallsIn F n Try.prog 27 #[.func (.yield l) #[] #[], .pointer (some ⟨Bs, 0, none⟩), .pointer (some ⟨Bn, 0, none⟩)] W fun e W' => (∃ v, e = .returned v) ∧
      ((∃ ys, ys.map (·.1) = List.range (Bm.nb b.length) ∧ J ys W') ∨ (∃ pre, True ∧ Jx pre W')) := by
  refine callsIn_of_wp Try.func27 rfl hf ?_ hro
  simp only [Try.ntmps27, List.size_toArray, List.length_cons, List.length_nil, Nat.reduceAdd, Nat.reduceSub, Array.replicate_succ, Array.replicate_zero, List.push_toArray, List.append_toArray, List.nil_append, List.cons_append]
  gi_wp2
  gi_loopw [4] (fun i wr => ∃ (k q : Nat) (pre : List { j : Nat // j < Bm.nb b.length }), k ≤ Bm.nb b.length ∧ i = .int .i64 q ∧ Hid (q = 128 * k) ∧ q ≤ b.length + 127 ∧ Hid (pre.map (·.1) = List.range k) ∧ Hid (J pre wr) ∧ wr.cell? ⟨Bs, 0, none⟩ = some (.slice A b.length cap) ∧ wr.cell? ⟨Bn, 0, none⟩ = some (.int .i64 128))
    (fun i _ => b.length + 128 - (intOf i).toNat)
  case atStart => exact ⟨0, 0, [], Nat.zero_le _, rfl, rfl, by omega, rfl, h0, hBs, hBn⟩
  case round =>
    obtain ⟨k, q, pre, hk, rfl, HQ, hqb, HP, HJ, hcs, hcn⟩ := hrel
    clear hBs hBn h0
    by_cases hlt : q < b.length
    · have hkn : k < Bm.nb b.length := Bm.lt_nb.2 (by rw [← HQ.out]; exact hlt)
      have hpl : pre.length = k := by have := congrArg List.length HP.out; simpa using this
      obtain ⟨fn, tmps, assign, body, hy, hR⟩ := hY pre ⟨k, hkn⟩ wr.drew (hJd _ _ HJ.out) (by rw [hpl]; exact hkn)
      have HR := Lib.hid hR
      obtain ⟨m, hm⟩ : ∃ m, m = (Bm.piece b k).length := ⟨_, rfl⟩
      obtain ⟨A2, hA2⟩ : ∃ A2, A2 = A.map (·.add (128 * k)) := ⟨_, rfl⟩
      obtain ⟨r, hr⟩ : ∃ r, b.length = q + r := ⟨b.length - q, by omega⟩
      unfold encP at hy
      dsimp only at hy
      rw [← hm, ← hA2] at hy
      have hmr : m = min 128 r := by rw [hm, Bm.piece_len, ← HQ.out]; omega
      have hs1 : ∀ W, (Instr.sliceAt 36 (.slice A b.length cap) (some (.int .i64 q)) none none).run Try.prog W = .ok (.slice (cutA A q cap) r (cap - q)) W := fun W => by
        rw [sl_l W A b.length cap q (by omega), show b.length - q = r by omega]
      have hA3 : ∀ e : Nat, 0 < e → (if q + e = q then A else A.map (·.add q)) = A2 := fun e he => by rw [if_neg (by omega), hA2, HQ.out]
      obtain ⟨A1, hA1⟩ : ∃ A1, A1 = cutA A q cap := ⟨_, rfl⟩
      rw [← hA1] at hs1
      have HR := Lib.hid hR
      have HN : Hid ((pre ++ [(⟨k, hkn⟩ : { j : Nat // j < Bm.nb b.length })]).map (·.1) = List.range (k + 1)) := by show _ = _; rw [List.map_append, HP.out, List.range_succ]; rfl
      obtain ⟨pre2, hpre2⟩ : ∃ p, p = pre ++ [(⟨k, hkn⟩ : { j : Nat // j < Bm.nb b.length })] := ⟨_, rfl⟩
      rw [← hpre2] at HN HR
      have hlen2 : b.length + 127 ≤ 1000127 := by omega
      have hr1 : 1 ≤ r := by omega
      have hrb : q + r ≤ 1000000 := by omega
      have hq2 : ((b.length : Nat) : Int) = (q : Int) + (r : Int) := by omega
      clear hY hR hpl hm hA1 hpre2 hJd
      have HRR := Lib.hid hr
      clear hr hq2
      have hif : (if (r : Int) < 128 then (r : Int) else 128) = (m : Int) := by split <;> omega
      have hs3 : ∀ W, (Instr.sliceAt 36 (.slice A b.length cap) (some (.int .i64 q)) (some (.int .i64 ((q : Int) + (m : Int)))) (some (.int .i64 ((q : Int) + (m : Int))))).run Try.prog W = .ok (.slice A2 m m) W := fun W => by
        have := sl_lhm W A b.length cap q (q + m) (q + m) (by omega) (by omega) (by have := HRR.out; omega)
        rw [hA3 m (by omega), show q + m - q = m by omega] at this
        exact this
      have hm2 : m ≤ 128 := by omega
      clear hA3 hA2 hmr
      gi_wp2
      gi_region
      all_goals
        gi_wp2
        refine HR.out.mono ?_
        rintro e W3 (⟨rfl, hJ3, hk3⟩ | ⟨rfl, hJx3⟩)
        · have hs4 := hk3.1.trans hcs
          have hn4 := hk3.2.trans hcn
          have HJ3 := Lib.hid hJ3
          clear hk3 hcs hcn HJ HR hJ3 hy
          gi_wp2
          go_roundw
          case rel => exact ⟨k + 1, q + 128, pre2, by omega, by simp, by show _ = _; rw [HQ.out]; omega, by omega, HN, HJ3, hs4, hn4⟩
          case measure => simp [intOf]; omega
        · have HJ3 := Lib.hid hJx3
          clear HJ HR hJx3 hy
          gi_wp2
          refine bodyPost_ret (results_none rfl _ _ _) rfl ?_
          exact ⟨⟨_, rfl⟩, .inr ⟨_, trivial, HJ3.out⟩⟩
    · have hnk : ¬ k < Bm.nb b.length := fun h => hlt (by rw [HQ.out]; exact Bm.lt_nb.1 h)
      have hkn : k = Bm.nb b.length := by omega
      clear hnk
      gi_wp2
      go_end0
      exact ⟨⟨_, rfl⟩, .inl ⟨pre, by rw [HP.out, hkn], HJ.out⟩⟩
end Go.Proofs.Ytkjkmdhbodjeeaa

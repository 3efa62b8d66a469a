/-
  OWN WORK. The numbers' own texts: (api.Errno).Error by its contract.
-/
import Derived.Test.YtbidhljigeoooaaDoorFaLeaf
import Derived.Laws.BytesArg
import Derived.Laws.AppendOwnNone
import Derived.Deep.LoopGhost
import Derived.Lib.Hide
import Derived.WalkSpells
namespace Go.Proofs.YtbidhljigeoooaaDoor
open Go.RowKit

/-- The digits of a number above nothing, as bytes; nothing of 0. -/
def dg (n : Nat) : List Int := if n = 0 then [] else dg (n / 10) ++ [48 + (n : Int) % 10]
termination_by n
decreasing_by omega

/-- What is left to write, behind which 'xs' stands. -/
def finD (k : Nat) (xs : List Int) : List Int := if k = 0 ∧ xs = [] then [48] else dg k ++ xs

theorem finD_step (k : Nat) (xs : List Int) (h : 0 < k ∨ xs = []) : finD (k / 10) ((48 + (k : Int) % 10) :: xs) = finD k xs := by
  unfold finD
  rw [if_neg (by simp)]
  by_cases hk : k = 0
  · subst hk
    rcases h with h | h
    · omega
    · subst h; simp [dg]
  · rw [if_neg (by simp [hk])]
    rw [dg.eq_1 k, if_neg hk]
    simp
theorem finD_done (xs : List Int) (h : xs ≠ []) : finD 0 xs = xs := by
  unfold finD
  rw [if_neg (by simp [h]), dg.eq_1]
  simp

def errB (c : Int) : ByteArray :=
  if c = 0 then ⟨#[110, 111, 32, 101, 114, 114, 111, 114]⟩ else if c = 28 then ⟨#[107, 101, 112, 116, 32, 117, 110, 116, 105, 108, 32, 105, 116, 115, 32, 116, 105, 109, 101, 32, 104, 97, 115, 32, 99, 111, 109, 101]⟩
  else if c = 27 then ⟨#[99, 108, 111, 115, 101, 100, 32, 102, 111, 114, 32, 103, 111, 111, 100]⟩ else ⟨#[114, 101, 102, 117, 115, 97, 108, 32]⟩ ++ Go.strOfNums (finD c.toNat [])

theorem Tryd.infoU8 : (Tryd.prog.info? 5).map (fun i => (i.zero, i.size, i.bytes)) = some (some (.int .u8 0), 1, 1) := by kernel_rfl

set_option maxHeartbeats 1000000 in
theorem own_one {B : Nat} (wr : World) (d : Int) (h : B ≤ wr.heap.size) :
    (wr.alloc (.cells #[.int .u8 d] 5)).ownsRow B 5 1 (.slice (some ⟨wr.heap.size, 0, none⟩) 1 1) 1 [.int .u8 d] :=
  ⟨rfl, .inr ⟨wr.heap.size, 1, #[.int .u8 d], rfl, h, heap_alloc_new wr _, Nat.le_refl _, by decide, rfl, rfl⟩⟩

set_option maxRecDepth 100000 in
theorem errno_any (c : Nat) (w : World) (hc : c ≤ 1000) :
    Calls Tryd.prog 26 #[.int .i64 c] w fun e w' => e = .returned (.string (errB c)) ∧ Below w.heap.size w w' := by
  by_cases h0 : c = 0
  · subst h0
    go_enter Tryd.func26, Tryd.ntmps26
    go_wp2
    go_ret
    exact ⟨rfl, Below.refl _ _⟩
  by_cases h1 : c = 28
  · subst h1
    go_enter Tryd.func26, Tryd.ntmps26
    go_wp2
    go_ret
    exact ⟨rfl, Below.refl _ _⟩
  by_cases h2 : c = 27
  · subst h2
    go_enter Tryd.func26, Tryd.ntmps26
    go_wp2
    go_ret
    exact ⟨rfl, Below.refl _ _⟩
  have HE : Hid (errB c = ⟨#[114, 101, 102, 117, 115, 97, 108, 32]⟩ ++ Go.strOfNums (finD c [])) := by
    show errB c = _
    unfold errB
    rw [if_neg (by omega), if_neg (by omega), if_neg (by omega)]
    simp
  obtain ⟨i0, hi, hz0, hz1, hz2⟩ := info_parts Tryd.infoU8
  have t0 : ((c : Int) == 0) = false := by simp [h0]
  have t1 : ((c : Int) == 28) = false := by simp; omega
  have t2 : ((c : Int) == 27) = false := by simp; omega
  clear h0 h1 h2
  go_enter Tryd.func26, Tryd.ntmps26
  go_wp2
  clear t0 t1 t2
  go_loopg [3, 4] (c + 1) (fun gk n b wr => ∃ (k : Nat) (xs : List Int), n = .int .i64 k ∧ wr.ownsRow w.heap.size 5 1 b xs.length (xs.map (Value.int .u8)) ∧ Below w.heap.size w wr ∧ finD k xs = finD c [] ∧ k ≤ 1000 ∧ xs.length + k ≤ 2000 ∧ gk = k + (if xs = [] then 1 else 0) ∧ (xs = [] → b = .slice none 0 0))
  case atStart => exact ⟨c, [], rfl, World.ownsRow_nil _ _ _ _, Below.refl _ _, rfl, hc, by simp; omega, by simp, fun _ => rfl⟩
  case round =>
    obtain ⟨k, xs, rfl, hown, hb, hfin, hk, hlen, hgk, hnil⟩ := hrel
    have HF : Hid (finD k xs = finD c []) := hfin
    have HG : Hid (gk = k + (if xs = [] then 1 else 0)) := hgk
    have HB : Hid (Below w.heap.size w wr) := hb
    clear hfin hgk hb
    by_cases hx : xs = []
    · subst hx
      have e1 : IntKind.u8.wrap (48 + (k : Int) % 10) = 48 + (k : Int) % 10 := IntWalk.u8_in _ (by omega)
      obtain rfl := hnil rfl
      clear hown hnil
      by_cases hk0 : k = 0
      · subst hk0
        go_wp2_with fail
        go_roundg 0
        case rel => exact ⟨0, [48], rfl, own_one wr 48 HB.out.size, HB.out.alloc HB.out.size _, (finD_step 0 [] (Or.inr rfl)).trans HF.out, by omega, by simp, by simp, by simp⟩
        case measure => have := HG.out; simp at this; omega
      · have hk1 : decide (0 < k) = true := by simp; omega
        go_wp2_with fail
        go_roundg (k / 10)
        case rel => exact ⟨k / 10, [48 + (k : Int) % 10], by go_num, own_one wr _ HB.out.size, HB.out.alloc HB.out.size _, by rw [finD_step k [] (Or.inr rfl)]; exact HF.out, by omega, by simp; omega, by simp, by simp⟩
        case measure => have := HG.out; simp at this; omega
    · clear hnil
      have hlx : 0 < xs.length := List.length_pos_iff.2 hx
      have hlx2 : ((xs.length : Int) == 0) = false := by simp [hx]
      have HX : Hid (xs ≠ []) := hx
      have hown0 := hown
      rcases hown.2 with ⟨_, h0⟩ | ⟨g, cap, cur, rfl, hbg, hg, hn, hcap, hcs, htk⟩
      · omega
      have HO : Hid (wr.ownsRow w.heap.size 5 1 (.slice (some ⟨g, 0, none⟩) xs.length cap) xs.length (xs.map (Value.int .u8))) := hown0
      have hcell := hown0.cells (g := g) rfl
      clear hown hown0 hg hn hcs htk hx
      by_cases hk0 : k = 0
      · subst hk0
        have hconv := run_convert_bytes_arg (P := Tryd.prog) wr 70 5 Tryd.underlying70 Tryd.underlying5 g 0 xs.length cap xs rfl (fun i hi => by
          have := hcell i (.int .u8 (xs.getD i 0)) (by simp [hi])
          have e : (⟨g, 0, none⟩ : Addr).add i = ⟨g, 0 + i, none⟩ := by unfold Addr.add; split <;> simp_all
          rw [e] at this; exact this) 9 Tryd.underlying9
        have HR : Hid (errB c = ⟨#[114, 101, 102, 117, 115, 97, 108, 32]⟩ ++ Go.strOfNums xs) := by
          show errB c = _
          rw [HE.out, ← HF.out, finD_done xs HX.out]
        clear hcell
        have hss : (Go.strOfNums xs).size ≤ 2000 := by rw [Go.strOfNums_size]; omega
        go_wp2_with fail
        go_ret
        exact ⟨ret_str HR.out, HB.out⟩
      · have hk1 : decide (0 < k) = true := by simp; omega
        have e1 : IntKind.u8.wrap (48 + (k : Int) % 10) = 48 + (k : Int) % 10 := IntWalk.u8_in _ (by omega)
        have hc2 : ∀ (j : Nat) (u : Value), (xs.map (Value.int .u8))[j]? = some u → (wr.alloc (.cells #[.int .u8 (48 + (k : Int) % 10)] 5)).cell? ((⟨g, 0, none⟩ : Addr).add j) = some u := (HO.out.alloc _).cells rfl
        have HC2 := Lib.hid hc2
        clear hcell hc2
        go_wp2_with (at_builtin; go_must (refine wpList_append_own _ rfl (.tmp 26) (.tmp 27) 70 rfl w.heap.size 5 i0 (.int .u8 0) 1 1 Tryd.underlying70 hi hz0 hz1 hz2 rfl (by decide) _ 1 [.int .u8 (48 + (k : Int) % 10)] rfl (own_one wr _ HB.out.size) ⟨g, 0, none⟩ xs.length cap (xs.map (Value.int .u8)) rfl (by simp) ?_ ?_ ?_ ?_ ?_ ?_); go_must (rotate_left 5); go_must (intro v' w1 hown1 hgrow hN))
        · go_roundg (k / 10)
          case rel => exact ⟨k / 10, (48 + (k : Int) % 10) :: xs, by go_num, by have h := hown1; rw [Nat.add_comm] at h; exact h, (HB.out.alloc HB.out.size _).grown hgrow (by have := HB.out.size; simp; omega) (by intro q hq; cases hq; exact HB.out.size), by rw [finD_step k xs (Or.inl (by omega))]; exact HF.out, by omega, by simp; omega, by simp, by simp⟩
          case measure => have := HG.out; rw [if_neg HX.out] at this; omega
        · exact HC2.out
        · intro u hu; obtain ⟨x, _, rfl⟩ := List.mem_map.1 hu; rfl
        · unfold maxLen; omega
        · omega
        · have := HB.out.size; simp; omega
end Go.Proofs.YtbidhljigeoooaaDoor

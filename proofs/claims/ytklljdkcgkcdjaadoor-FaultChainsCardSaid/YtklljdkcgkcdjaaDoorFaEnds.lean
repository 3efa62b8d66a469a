/-
  OWN WORK. fault.ends over chains: it answers true.
-/
import Derived.Test.YtklljdkcgkcdjaaDoorFaWithin
import Derived.Deep.LoopGhost
namespace Go.Proofs.YtklljdkcgkcdjaaDoor
open Go.RowKit

theorem Tryd.infoStep : (Tryd.prog.info? 86).map (fun i => (i.zero, i.size, i.bytes)) = some (some (.agg #[.nilIface, .int .i64 0]), 2, 24) := by kernel_rfl

theorem chain_shape {w : World} {l : List (ByteArray × ByteArray)} {base : Base} {v : Value} (h : Chain w l base v) : v = .nilIface ∨ ∃ t x, v = .iface t x := by
  cases l with
  | nil =>
    have hv : v = base.val := h
    cases base with
    | none => exact .inl hv
    | num c => exact .inr ⟨_, _, hv⟩
    | other b => exact .inr ⟨_, _, hv⟩
  | cons q r => obtain ⟨b, x, e, _⟩ := h; exact .inr ⟨_, _, e⟩

/-- What is still to come to: nothing, or one error and its depth. -/
def Todo (w : World) (B : Nat) (tv : Value) : Option (Value × Int) → Prop
  | none => ∃ g cap, tv = .slice (some ⟨g, 0, Option.none⟩) 0 cap ∧ w.ownsRow B 86 2 tv 0 []
  | some (e, d) => ∃ g cap, tv = .slice (some ⟨g, 0, Option.none⟩) 1 cap ∧ w.ownsRow B 86 2 tv 1 [e, .int .i64 d]

theorem own_zero {w : World} {B g cap : Nat} {xs : List Value} (h : w.ownsRow B 86 2 (.slice (some ⟨g, 0, Option.none⟩) 1 cap) 1 xs) : w.ownsRow B 86 2 (.slice (some ⟨g, 0, Option.none⟩) 0 cap) 0 [] := by
  obtain ⟨_, h | ⟨g', cap', cur, hv, hB, hg, hn, hm, hc, _⟩⟩ := h
  · simp at h
  · simp only [Value.slice.injEq, Option.some.injEq, Addr.mk.injEq, and_true, true_and] at hv
    obtain ⟨rfl, rfl⟩ := hv
    exact ⟨rfl, .inr ⟨g, cap, cur, rfl, hB, hg, Nat.zero_le _, hm, hc, by simp⟩⟩

theorem own_below {w w' : World} {B n : Nat} {v : Value} {xs : List Value} (h : w.ownsRow B 86 2 v n xs) (hb : Below w.heap.size w w') : w'.ownsRow B 86 2 v n xs :=
  h.kept (row := none) ⟨hb.os, hb.tape, hb.output, hb.size, fun k hk _ => hb.block k hk⟩ (by cases hv : v.ownBlock <;> simp)

theorem own_ge {w : World} {B n : Nat} {v : Value} {xs : List Value} (h : w.ownsRow B 86 2 v n xs) : ∀ q, v.ownBlock = some q → B ≤ q := by
  obtain ⟨_, h | ⟨g', cap', cur, hv, hB, _⟩⟩ := h
  · intro q hq; rw [h.1] at hq; simp [Value.ownBlock] at hq
  · intro q hq; rw [hv] at hq; simp [Value.ownBlock] at hq; omega

theorem todo_some {w : World} {B : Nat} {v e : Value} {d : Int} (h : w.ownsRow B 86 2 v (0 + 1) ([] ++ [e, .int .i64 d])) : Todo w B v (some (e, d)) := by
  have h1 : w.ownsRow B 86 2 v 1 [e, .int .i64 d] := by simpa using h
  obtain ⟨h0, h2 | ⟨g, cap, cur, hv, hr⟩⟩ := h1
  · simp at h2
  · exact ⟨g, cap, hv, h0, .inr ⟨g, cap, cur, hv, hr⟩⟩

theorem two_cells (w : World) (x y : Value) (t : TypeId) : ∀ (j : Nat) (u : Value), [x, y][j]? = some u → (w.alloc (.cells #[x, y] t)).cell? ((⟨w.heap.size, 0, none⟩ : Addr).add j) = some u := by
  intro j u hj
  match j, hj with
  | 0, hj => simp at hj; subst hj; simp [Addr.add]
  | 1, hj => simp at hj; subst hj; simp [Addr.add]
  | k + 2, hj => simp at hj

set_option maxHeartbeats 2000000 in
set_option maxRecDepth 100000 in
theorem ends_any (tf : Bool) (l : List (ByteArray × ByteArray)) (base : Base) (v : Value) (w : World) (hch : Chain w l base v) (hl : l.length ≤ 100) :
    Calls Tryd.prog 25 #[v, .bool tf] w fun e w' => e = .returned (.bool true) ∧ Below w.heap.size w w' := by
  have HCH := Lib.hid hch
  obtain ⟨i0, hi, hz0, hz1, hz2⟩ := info_parts Tryd.infoStep
  rcases chain_shape hch with rfl | ⟨t0, x0, rfl⟩
  all_goals
    clear hch
    go_enter Tryd.func25, Tryd.ntmps25
    go_wp2_with fail
    go_loopg [5, 6] (l.length + 2) (fun gk tv nv wr => ∃ (st : Option (Value × Int)) (n : Nat), Todo wr w.heap.size tv st ∧ nv = .int .i64 n ∧ n + gk ≤ 110 ∧ Below w.heap.size w wr ∧
      match st with | none => True | some (e, d) => ∃ r, Chain w r base e ∧ r.length + 2 ≤ gk ∧ 0 ≤ d ∧ d + gk ≤ 110)
    case atStart =>
      exact ⟨some (_, 1), 0, ⟨w.heap.size, 1, rfl, rfl, .inr ⟨w.heap.size, 1, _, rfl, Nat.le_refl _, heap_alloc_new _ _, Nat.le_refl _, by decide, rfl, rfl⟩⟩, rfl, by omega, (Below.refl _ _).alloc (Nat.le_refl _) _, l, HCH.out, Nat.le_refl _, by omega, by omega⟩
    case round =>
      obtain ⟨st, n, htd, rfl, hn, hb, hst⟩ := hrel
      cases st with
      | none =>
        obtain ⟨g, cap, rfl, hown⟩ := htd
        clear hown hst
        have HB := Lib.hid hb
        clear hb
        go_wp2
        go_ret
        exact ⟨rfl, HB.out⟩
      | some ed =>
        obtain ⟨e, d⟩ := ed
        obtain ⟨g, cap, rfl, hown⟩ := htd
        obtain ⟨r, hch, hr, hd0, hd1⟩ := hst
        have c0 : wr.cell? ⟨g, 0, none⟩ = some e := by simpa [Addr.add] using hown.cells (g := g) rfl 0 e rfl
        have c1 : wr.cell? ⟨g, 1, none⟩ = some (.int .i64 d) := by simpa [Addr.add] using hown.cells (g := g) rfl 1 (.int .i64 d) rfl
        have HO := Lib.hid (own_zero hown)
        have HB := Lib.hid hb
        have t1 : ((n : Int) == 2147483647) = false := by simp; omega
        have t2 : ¬ (262144 : Int) < d := by omega
        clear hown hb
        cases r with
        | nil =>
          have hv : e = base.val := hch
          subst hv
          clear hch
          cases base
          all_goals simp only [Base.val] at c0
          · go_wp2_with fail
            refine (asFault_base .none _).mono ?_
            rintro e w1 ⟨rfl, rfl⟩
            go_wp2_with fail
            refine (within_base .none _).mono ?_
            rintro e w1 ⟨rfl, hb1⟩
            have HB1 : Hid (Below wr.heap.size wr w1) := ((Below.refl _ _).alloc (Nat.le_refl _) _).trans (hb1.mono (by simp))
            clear hb1
            go_wp2_with fail
            refine wp_loop_rounds 1 ?_
            rw [rounds_succ]
            go_wp2
            go_roundg (gk - 1)
            case rel => exact ⟨none, n + 1, ⟨g, cap, rfl, own_below HO.out HB1.out⟩, by go_num, by omega, HB.out.trans (HB1.out.mono HB.out.size), trivial⟩
            case measure => omega
          · go_wp2_with fail
            refine (asFault_base (.num _) _).mono ?_
            rintro e w1 ⟨rfl, rfl⟩
            go_wp2_with fail
            refine (within_base (.num _) _).mono ?_
            rintro e w1 ⟨rfl, hb1⟩
            have HB1 : Hid (Below wr.heap.size wr w1) := ((Below.refl _ _).alloc (Nat.le_refl _) _).trans (hb1.mono (by simp))
            clear hb1
            go_wp2_with fail
            refine wp_loop_rounds 1 ?_
            rw [rounds_succ]
            go_wp2
            go_roundg (gk - 1)
            case rel => exact ⟨none, n + 1, ⟨g, cap, rfl, own_below HO.out HB1.out⟩, by go_num, by omega, HB.out.trans (HB1.out.mono HB.out.size), trivial⟩
            case measure => omega
          · go_wp2_with fail
            refine (asFault_base (.other _) _).mono ?_
            rintro e w1 ⟨rfl, rfl⟩
            go_wp2_with fail
            refine (within_base (.other _) _).mono ?_
            rintro e w1 ⟨rfl, hb1⟩
            have HB1 : Hid (Below wr.heap.size wr w1) := ((Below.refl _ _).alloc (Nat.le_refl _) _).trans (hb1.mono (by simp))
            clear hb1
            go_wp2_with fail
            refine wp_loop_rounds 1 ?_
            rw [rounds_succ]
            go_wp2
            go_roundg (gk - 1)
            case rel => exact ⟨none, n + 1, ⟨g, cap, rfl, own_below HO.out HB1.out⟩, by go_num, by omega, HB.out.trans (HB1.out.mono HB.out.size), trivial⟩
            case measure => omega
        | cons p r =>
          have HCH1 := Lib.hid hch
          obtain ⟨b1, x, rfl, hbk, hr2⟩ := hch
          have hcell := chain_shape hr2
          have HR := Lib.hid hr2
          have h2 := block_cell hbk 2 x rfl
          have h2' : (wr.alloc (.cells #[.iface 28 (.pointer (some ⟨b1, 0, none⟩)), .int .i64 d] 86)).cell? ⟨b1, 2, none⟩ = some x := by
            have hl1 : b1 < wr.heap.size := Nat.lt_of_lt_of_le (cell_lt h2) HB.out.size
            rw [World.cell?_alloc_lt _ _ ⟨b1, 2, none⟩ hl1, HB.out.cell (p := ⟨b1, 2, none⟩) (cell_lt h2)]; exact h2
          have H2 := Lib.hid h2'
          clear hbk hr2 h2 h2'
          cases tf with
          | true =>
            clear hcell
            go_wp2_with fail
            refine (asFault_some _ _).mono ?_
            rintro e w1 ⟨rfl, rfl⟩
            go_wp2
            go_roundg (gk - 1)
            case rel => exact ⟨none, n + 1, ⟨g, cap, rfl, own_below HO.out ((Below.refl _ _).alloc (Nat.le_refl _) _)⟩, by go_num, by omega, HB.out.alloc HB.out.size _, trivial⟩
            case measure => omega
          | false =>
            go_wp2_with fail
            refine (asFault_some _ _).mono ?_
            rintro e w1 ⟨rfl, rfl⟩
            go_wp2_with fail
            refine (within_fault b1 x _ H2.out hcell).mono ?_
            rintro e w1 ⟨rfl, hb1⟩
            have HB1 : Hid (Below wr.heap.size wr w1) := ((Below.refl _ _).alloc (Nat.le_refl _) _).trans (hb1.mono (by simp))
            have hd1c : w1.cell? ⟨wr.heap.size, 1, none⟩ = some (.int .i64 d) := by
              rw [hb1.cell (p := ⟨wr.heap.size, 1, none⟩) (by simp)]
              simp
            clear hb1
            rcases hcell with rfl | ⟨t2', x2, rfl⟩
            · go_wp2_with fail
              refine wp_loop_rounds 1 ?_
              rw [rounds_succ]
              go_wp2
              go_roundg (gk - 1)
              case rel => exact ⟨none, n + 1, ⟨g, cap, rfl, own_below HO.out HB1.out⟩, by go_num, by omega, HB.out.trans (HB1.out.mono HB.out.size), trivial⟩
              case measure => omega
            · have HO1 : Hid ((w1.alloc (.cells #[.iface t2' x2, .int .i64 (d + 1)] 86)).ownsRow w.heap.size 86 2 (.slice (some ⟨g, 0, none⟩) 0 cap) 0 []) := own_below HO.out (HB1.out.alloc HB1.out.size _)
              go_wp2_with (at_builtin; go_must (refine wpList_append_own _ rfl (.tmp 58) (.tmp 64) 87 rfl w.heap.size 86 i0 (.agg #[.nilIface, .int .i64 0]) 2 24 Tryd.underlying87 hi hz0 hz1 hz2 rfl (by decide) _ 0 [] rfl HO1.out ⟨w1.heap.size, 0, none⟩ 1 1 [.iface t2' x2, .int .i64 (d + 1)] rfl rfl ?_ ?_ ?_ ?_ ?_ ?_); go_must (rotate_left 5); go_must (intro v' w3 hown' hgrow hN))
              · refine wp_loop_rounds 1 ?_
                rw [rounds_succ]
                go_wp2
                go_roundg (gk - 1)
                case rel =>
                  have hsz := HB.out.size
                  have hsz1 := HB1.out.size
                  have hbw : Below w.heap.size w w3 := ((HB.out.trans (HB1.out.mono hsz)).alloc (by omega) _).grown hgrow (by simp; omega) (by intro q hq; exact own_ge HO1.out q hq)
                  exact ⟨some (.iface t2' x2, d + 1), n + 1, todo_some hown', by go_num, by omega, hbw, r, HR.out, by simp at hr; omega, by omega, by omega⟩
                case measure => omega
              · exact two_cells _ _ _ _
              · intro u hu; simp at hu; rcases hu with rfl | rfl <;> rfl
              · decide
              · decide
              · have := HB.out.size; have := HB1.out.size; simp; omega
end Go.Proofs.YtklljdkcgkcdjaaDoor

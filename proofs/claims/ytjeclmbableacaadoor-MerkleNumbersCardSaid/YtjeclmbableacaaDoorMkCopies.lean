/-
  OWN WORK. Rows of rows that are copied; paths of another length.
-/
import Derived.Test.YtjeclmbableacaaDoorMkLists
namespace Go.Proofs.YtjeclmbableacaaDoor
open Go.RowKit Rc

theorem Mk.snoc {α : Type} (p : List α) (h : p ≠ []) : ∃ q u, p = q ++ [u] := ⟨p.dropLast, p.getLast h, (List.dropLast_concat_getLast h).symm⟩
/-- How long a path must be hangs on the place and on the number of leaves alone. -/
theorem Mk.climb_same (S : List UInt8 → List UInt8) : ∀ (N n i : Nat) (x x2 : List UInt8) (p q : List (List UInt8)) (y z : List UInt8), n ≤ N → Mk.climb S x i n p = some y → Mk.climb S x2 i n q = some z → p.length = q.length
  | 0, n, i, x, x2, p, q, y, z, hn, h1, h2 => by
    rw [Mk.climb_one S x i n p (by omega)] at h1
    rw [Mk.climb_one S x2 i n q (by omega)] at h2
    split at h1
    · split at h2
      · rename_i e1 e2; rw [e1, e2]
      · cases h2
    · cases h1
  | N + 1, n, i, x, x2, p, q, y, z, hn, h1, h2 => by
    by_cases h : n < 2
    · rw [Mk.climb_one S x i n p h] at h1
      rw [Mk.climb_one S x2 i n q h] at h2
      split at h1
      · split at h2
        · rename_i e1 e2; rw [e1, e2]
        · cases h2
      · cases h1
    · have h : 2 ≤ n := by omega
      have hp1 := Mk.part_lt n h
      have hp2 := Mk.part_pos n h
      by_cases e1 : p = []
      · rw [e1, Mk.climb_none S x i n h] at h1; cases h1
      · by_cases e2 : q = []
        · rw [e2, Mk.climb_none S x2 i n h] at h2; cases h2
        · obtain ⟨p, u, rfl⟩ := Mk.snoc p e1
          obtain ⟨q, v, rfl⟩ := Mk.snoc q e2
          by_cases hi : i < Mk.part n
          · rw [Mk.climb_left S x i n p u h hi, Option.map_eq_some_iff] at h1
            rw [Mk.climb_left S x2 i n q v h hi, Option.map_eq_some_iff] at h2
            obtain ⟨y1, h1, _⟩ := h1
            obtain ⟨z1, h2, _⟩ := h2
            have := Mk.climb_same S N (Mk.part n) i x x2 p q y1 z1 (by omega) h1 h2
            simp [this]
          · rw [Mk.climb_right S x i n p u h hi, Option.map_eq_some_iff] at h1
            rw [Mk.climb_right S x2 i n q v h hi, Option.map_eq_some_iff] at h2
            obtain ⟨y1, h1, _⟩ := h1
            obtain ⟨z1, h2, _⟩ := h2
            have := Mk.climb_same S N (n - Mk.part n) (i - Mk.part n) x x2 p q y1 z1 (by omega) h1 h2
            simp [this]
theorem Mk.single_len {p : List (List UInt8)} {y : List UInt8 × List UInt8} (h : Mk.single p = some y) : p.length = 1 := by
  by_cases h1 : p.length = 1
  · exact h1
  · rw [single_none h1] at h; cases h
theorem Mk.both_same (S : List UInt8 → List UInt8) : ∀ (N n m : Nat) (o o2 : List UInt8) (p q : List (List UInt8)) (whole : Bool) (y z : List UInt8 × List UInt8), n ≤ N → 1 ≤ m → m ≤ n → Mk.both S o m n p whole = some y → Mk.both S o2 m n q whole = some z → p.length = q.length
  | 0, n, m, o, o2, p, q, whole, y, z, hn, hm, hmn, h1, h2 => by omega
  | N + 1, n, m, o, o2, p, q, whole, y, z, hn, hm, hmn, h1, h2 => by
    by_cases he : m = n
    · rw [Mk.both_all S o m n p whole he] at h1
      rw [Mk.both_all S o2 m n q whole he] at h2
      cases whole with
      | true =>
        simp only [if_true] at h1 h2
        split at h1
        · split at h2
          · rename_i e1 e2; rw [e1, e2]
          · cases h2
        · cases h1
      | false =>
        simp only [Bool.false_eq_true, if_false] at h1 h2
        rw [Mk.single_len h1, Mk.single_len h2]
    · have h : 2 ≤ n := by omega
      have hp1 := Mk.part_lt n h
      have hp2 := Mk.part_pos n h
      by_cases e1 : p = []
      · rw [e1, Mk.both_none S o m n whole h he] at h1; cases h1
      · by_cases e2 : q = []
        · rw [e2, Mk.both_none S o2 m n whole h he] at h2; cases h2
        · obtain ⟨p, u, rfl⟩ := Mk.snoc p e1
          obtain ⟨q, v, rfl⟩ := Mk.snoc q e2
          by_cases hi : m ≤ Mk.part n
          · rw [Mk.both_left S o m n p u whole h he hi, Option.map_eq_some_iff] at h1
            rw [Mk.both_left S o2 m n q v whole h he hi, Option.map_eq_some_iff] at h2
            obtain ⟨y1, h1, _⟩ := h1
            obtain ⟨z1, h2, _⟩ := h2
            have := Mk.both_same S N (Mk.part n) m o o2 p q whole y1 z1 (by omega) hm hi h1 h2
            simp [this]
          · rw [Mk.both_right S o m n p u whole h he hi, Option.map_eq_some_iff] at h1
            rw [Mk.both_right S o2 m n q v whole h he hi, Option.map_eq_some_iff] at h2
            obtain ⟨y1, h1, _⟩ := h1
            obtain ⟨z1, h2, _⟩ := h2
            have := Mk.both_same S N (n - Mk.part n) (m - Mk.part n) o o2 p q false y1 z1 (by omega) (by omega) (by omega) h1 h2
            simp [this]
/-- A path of another length shows nothing. -/
theorem chk_long {root x : List UInt8} {i : Nat} {R P Q : List (List UInt8)} (hx : R[i]? = some x) (hP : P = Mk.path Sh.sum R i) (hQ : Q.length ≠ P.length) : chk root x i R.length Q = false := decide_eq_false fun h => by
  have h2 := h.2.2
  rw [Int.toNat_natCast, Int.toNat_natCast] at h2
  subst hP
  exact hQ (Mk.climb_same Sh.sum R.length R.length i x x Q _ _ _ (Nat.le_refl _) h2 (Mk.climb_path Sh.sum R.length R i x (Nat.le_refl _) hx))
theorem chkg_long {old root : List UInt8} {m : Nat} {R P Q : List (List UInt8)} (h1 : 1 ≤ m) (hm : m ≤ R.length) (hP : P = Mk.sub Sh.sum R m true) (hQ : Q.length ≠ P.length) : chkg old root m R.length Q = false := decide_eq_false fun h => by
  have h2 := h.2.2
  rw [Int.toNat_natCast, Int.toNat_natCast] at h2
  subst hP
  exact hQ (Mk.both_same Sh.sum R.length R.length m old (Mk.root Sh.sum (R.take m)) Q _ true _ _ (Nat.le_refl _) h1 hm h2 (Mk.both_sub Sh.sum R.length R m true _ (Nat.le_refl _) h1 hm (fun _ => rfl)))

/-- Rows that stand in an earlier world, put behind none. -/
theorem run_copy_rows {wb w : World} {B0 : Nat} {x : Value} {Q : List (List UInt8)} {S0 : Nat → Prop} (ty : TypeId) (hq : LOwn B0 noOld x Q S0 wb) (hS0 : ∀ b, S0 b → b < wb.heap.size) (hb : Below wb.heap.size wb w) {v : Value} {S : Nat → Prop} {B : Nat} (hB : B ≤ w.heap.size) (hv : LOwn B (Rd wb) v [] S w) (hn : Q.length ≤ 1000000) :
    ∃ v' w', (Builtin.append_ #[22, 22] ty #[v, x]).run Tryd.prog w = .ok v' w' ∧ LOwn B (Rd wb) v' Q (fun b => v'.ownBlock = some b) w' ∧ w.grownBy w' v.ownBlock ∧ (v'.ownBlock = v.ownBlock ∨ v'.ownBlock = some w.heap.size) ∧ (∀ b, v'.ownBlock = some b → b < w'.heap.size) := by
  obtain ⟨i0, hi, hz0, hz1, hz2⟩ := info_sl
  obtain ⟨xs, h3, h4, h5⟩ := hv
  obtain ⟨ys, h6, h7, h8⟩ := hq
  have hxs : xs = [] := List.eq_nil_of_length_eq_zero (by have := h3.1; simpa using this)
  have hlt : ∀ {u : Value} {n : Nat} {zs : List Value} {w' : World}, w'.ownsRow B 23 1 u n zs → ∀ b, u.ownBlock = some b → b < w'.heap.size := by
    intro u n zs w' h b hb
    rcases h.2 with ⟨rfl, _⟩ | ⟨g', cap', cur', rfl, _, hg', _⟩
    · cases hb
    · simp only [Value.ownBlock, Option.some.injEq] at hb
      subst hb
      exact (Array.getElem?_eq_some_iff.1 hg').1
  rcases h6.2 with ⟨rfl, h0⟩ | ⟨g, cap, cur, rfl, hbb, hg, hnc, hm, hsz, hx⟩
  · obtain rfl : Q = [] := List.eq_nil_of_length_eq_zero h0
    refine ⟨v, w, ?_, ⟨xs, h3, fun b hb => hb, fun j y hj => by simp at hj⟩, ⟨rfl, rfl, rfl, Nat.le_refl _, fun _ _ _ => rfl⟩, .inl rfl, hlt h3⟩
    rcases h3.2 with ⟨rfl, _⟩ | ⟨g, cap, cur, rfl, _, _, hnc, _⟩
    · simp [Builtin.append_, run_underlying rows_under2, sizeOf, typeInfo, hi, Builtin.lenOf, Builtin.firstCells]
    · simp [Builtin.append_, run_underlying rows_under2, sizeOf, typeInfo, hi, Builtin.lenOf, Builtin.firstCells, storeCells]
  · have hyl : ys.length = Q.length := by have := h6.1; omega
    have hg1 : g < wb.heap.size := (Array.getElem?_eq_some_iff.1 hg).1
    have hcell : ∀ j u, ys[j]? = some u → w.cell? ((⟨g, 0, none⟩ : Addr).add j) = some u := by
      intro j u hu
      rw [add_plain, hb.cell (p := ⟨g, 0 + j, none⟩) hg1, cell_of_row wb g (0 + j) cur _ _ hg, Nat.zero_add]
      rw [← hx, List.getElem?_take] at hu
      split at hu
      · simpa using hu
      · cases hu
    have hone : ∀ u ∈ ys, u.oneCell' = true := by
      intro u hu
      obtain ⟨j, hj, rfl⟩ := List.getElem_of_mem hu
      obtain ⟨A, c, h9, _⟩ := h8 j (Q[j]'(by omega)) (List.getElem?_eq_getElem (by omega))
      rw [List.getElem?_eq_getElem hj] at h9
      injection h9 with h9
      rw [h9]; rfl
    obtain ⟨v', w', r1, r2, r3, _, r5⟩ := run_append_own_at (P := Tryd.prog) (w := w) B 22 ty 23 i0 (.slice none 0 0) 1 24 rows_under2 hi hz0 hz1 hz2 rfl (by decide) v 0 xs h3 ⟨g, 0, none⟩ Q.length cap ys (by omega) hcell hone (by unfold maxLen; omega) (by omega) hB
    rw [hxs, List.nil_append, Nat.zero_add] at r2
    refine ⟨v', w', r1, ⟨ys, r2, fun b hb => hb, fun j y hj => ?_⟩, r3, r5, hlt r2⟩
    obtain ⟨A, c, h9, h10, h11⟩ := h8 j y hj
    exact ⟨A, c, h9, h10, .inr (h11.resolve_right id).1⟩
/-- No rows, in a block of their own. -/
theorem LOwn.none_new (w : World) (O : Option Addr → List UInt8 → Prop) : LOwn w.heap.size O (.slice (some ⟨w.heap.size, 0, none⟩) 0 0) [] (fun b => b = w.heap.size) (w.alloc (.cells #[] 23)) :=
  ⟨[], ⟨rfl, .inr ⟨w.heap.size, 0, #[], rfl, Nat.le_refl _, heap_alloc_new w _, Nat.le_refl _, by unfold maxLen; omega, rfl, rfl⟩⟩, fun b hb => by simpa [Value.ownBlock] using hb.symm, fun j y hj => by simp at hj⟩
/-- A row of rows in a region; its rows stood in wb. -/
def orow (wb : World) (L : List (List UInt8)) : Rc.Fact := ⟨fun x w S => LOwn 0 (Rd wb) x L S w, fun _ _ _ _ h hs hb => h.keep hs hb⟩
section
variable {F : Nat → Rc.Fact} {cons : List (Nat × Nat)} {E : Nat → (Nat → Value) → Value → Prop} {V : Nat → Value} {S : Nat → Nat → Prop} {j : Nat} {o : Oper} {b : Act} {w wb : World}
theorem step_onil (hop : o.op = .buildSlice 22 0 #[]) (hF : F j = orow wb []) (hE : ∀ v, E j V v) (hg : Rg.Open o V) : Rg.Does1 Tryd.prog o V b w (Rc.Good F cons E V S j w) := by
  refine .of hg fun K hK => ?_
  have hrun : (execOp b.eval o).run Tryd.prog w = .ok (.value (.slice (some ⟨w.heap.size, 0, none⟩) 0 0)) (w.alloc (.cells #[] 23)) := by
    obtain ⟨dst, op, ty, pos, after, guard⟩ := o
    simp only at hop
    subst hop
    simp only [execOp, List.map_toArray, List.map_nil]
    go_simp
  unfold Oper.wp
  rw [hrun]
  exact hK _ _ ⟨fun b => b = w.heap.size, (Mod.of_below (below_new w _) _), by rw [hF]; exact (LOwn.none_new w (Rd wb)).mono (Nat.zero_le _) (fun _ _ h => h) (fun _ h => h), fun k hk => ⟨.inr (by omega), by rw [World.size_alloc]; omega⟩, hE _⟩
theorem step_ocopy {i : Nat} {B0 : Nat} (Q : List (List UInt8)) {x : Value} {S0 : Nat → Prop} {s y : Operand} (hop : o.op = .call { callee := .builtin .append, args := #[s, y], argTypes := #[22, 22] }) (hs : b.eval s = V i) (hx : b.eval y = x) (hF : F j = orow wb Q) (hi : (j, i) ∈ cons)
    (h1 : (orow wb []).holds (V i) w (S i)) (hq : LOwn B0 noOld x Q S0 wb) (hS0 : ∀ b, S0 b → b < wb.heap.size) (hb : Below wb.heap.size wb w) (hl1 : ∀ b, S i b → b < w.heap.size) (hn : Q.length ≤ 1000000) (hE : ∀ v, E j V v) (hg : Rg.Open o V) : Rg.Does1 Tryd.prog o V b w (Rc.Good F cons E V S j w) := by
  refine .of hg fun K hK => ?_
  obtain ⟨v', w', r1, r2, r3, r4, r5⟩ := run_copy_rows o.type hq hS0 hb (Nat.zero_le _) h1 hn
  unfold Oper.wp
  simp [execOp, hop, resolve, invoke, builtin, hs, hx, r1, Result.andThen]
  have ho : ∀ b, (V i).ownBlock = some b → S i b := by obtain ⟨xs, _, h, _⟩ := h1; exact h
  refine hK v' w' ⟨fun b => v'.ownBlock = some b, ⟨r3.os, r3.tape, r3.output, r3.size, fun m hm hn => r3.block m hm fun e => hn ⟨i, hi, ho m e.symm⟩⟩, by rw [hF]; exact r2, fun m hm => ⟨?_, r5 m hm⟩, hE _⟩
  rcases r4 with e | e
  · exact .inl ⟨i, hi, ho m (e ▸ hm)⟩
  · rw [e] at hm; injection hm with hm; exact .inr (by omega)
theorem step_oapp {i k : Nat} (L L2 L3 : List (List UInt8)) (hL : L3 = L ++ L2) {s x : Operand} (hop : o.op = .call { callee := .builtin .append, args := #[s, x], argTypes := #[22, 22] }) (hs : b.eval s = V i) (hx : b.eval x = V k) (hF : F j = orow wb L3) (hi : (j, i) ∈ cons) (hk : (j, k) ∈ cons)
    (h1 : (orow wb L).holds (V i) w (S i)) (h2 : (lrow L2).holds (V k) w (S k)) (hsep : ∀ b, S i b → ¬ S k b) (hl1 : ∀ b, S i b → b < w.heap.size) (hl2 : ∀ b, S k b → b < w.heap.size) (hpos : 0 < L2.length) (hn : L.length + L2.length ≤ 1000000000) (hE : ∀ v, E j V v) (hg : Rg.Open o V) : Rg.Does1 Tryd.prog o V b w (Rc.Good F cons E V S j w) := by
  subst hL
  refine .of hg fun K hK => ?_
  obtain ⟨v', w', r1, r2, r3, r4, r5⟩ := run_append_rows (O := Rd wb) o.type h1 (LOwn.mono h2 (Nat.le_refl _) (fun _ _ h => h.elim) (fun _ h => h)) hpos hsep (fun b hb => hb.elim (hl1 b) (hl2 b)) (Nat.zero_le _) hn
  unfold Oper.wp
  simp [execOp, hop, resolve, invoke, builtin, hs, hx, r1, Result.andThen]
  have ho : ∀ b, (V i).ownBlock = some b → S i b := by obtain ⟨xs, _, h, _⟩ := h1; exact h
  refine hK v' w' ⟨fun b => (S i b ∨ S k b) ∨ v'.ownBlock = some b, ⟨r3.os, r3.tape, r3.output, r3.size, fun m hm hn => r3.block m hm fun e => hn ⟨i, hi, ho m e.symm⟩⟩, ?_, fun m hm => ?_, hE _⟩
  · rw [hF]; exact r2
  · rcases hm with (h | h) | h
    · exact ⟨.inl ⟨i, hi, h⟩, Nat.lt_of_lt_of_le (hl1 m h) r3.size⟩
    · exact ⟨.inl ⟨k, hk, h⟩, Nat.lt_of_lt_of_le (hl2 m h) r3.size⟩
    · refine ⟨?_, r5 m h⟩
      rcases r4 with e | e
      · exact .inl ⟨i, hi, ho m (e ▸ h)⟩
      · rw [e] at h; injection h with h; exact .inr (by omega)
end
/-- Such a row, as it is read. -/
theorem orow.form {wb w : World} {L : List (List UInt8)} {v : Value} {S : Nat → Prop} (h : (orow wb L).holds v w S) (hb : Below wb.heap.size wb w) : ∃ A c, v = .slice A L.length c ∧ L.length ≤ c ∧ RdL w A L := by
  obtain ⟨A, c, h1, h2, h3, _⟩ := LOwn.rd h (fun _ _ h => h.below hb)
  exact ⟨A, c, h1, h2, h3⟩
/-- The copy of rows, in a walk: from the world ahead of the empty row. -/
theorem wpList_ocopy {w : World} {B0 : Nat} {Q : List (List UInt8)} {x : Value} {S0 : Nat → Prop} {ops : Array Oper} {rest : List Oper} {o : Oper} {a : Act} {K : Exit → Act → World → Prop} (hw : Region.wanted o (yielded ops a.tmps) = true) (s y : Operand)
    (ho : o.op = .call { callee := .builtin .append, args := #[s, y], argTypes := #[22, 22] }) (hs : a.eval s = .slice (some ⟨w.heap.size, 0, none⟩) 0 0) (hx : a.eval y = x)
    (hq : LOwn B0 noOld x Q S0 w) (hS0 : ∀ b, S0 b → b < w.heap.size) (hn : Q.length ≤ 1000000)
    (h : ∀ v' w', Hid (FNew Q w v' w') → Hid (Below w.heap.size w w') → wpList Tryd.prog ops K rest (a.put o.dst v') w') : wpList Tryd.prog ops K (o :: rest) a (w.alloc (.cells #[] 23)) := by
  obtain ⟨v', w', r1, r2, r3, r4, r5⟩ := run_copy_rows (w := w.alloc (.cells #[] 23)) (B := w.heap.size) o.type hq hS0 (below_new w _) (by rw [World.size_alloc]; omega) (LOwn.none_new w (Rd w)) hn
  have hb : Below w.heap.size w w' := (below_new w (.cells #[] 23)).grown r3 (by rw [World.size_alloc]; omega) (fun k hk => by have hk2 : some w.heap.size = some k := hk; injection hk2 with hk2; omega)
  refine wpList_step fun K hK => ?_
  rw [if_pos hw]
  unfold Oper.wp
  simp [execOp, ho, resolve, invoke, builtin, hs, hx, r1, Result.andThen]
  refine hK _ _ (h v' w' (r2.mono (Nat.le_refl _) (fun _ _ h => h) fun b hb2 => ⟨?_, r5 b hb2⟩) hb)
  rcases r4 with e | e
  · rw [e] at hb2
    have hk2 : some w.heap.size = some b := hb2
    injection hk2 with hk2; omega
  · rw [e] at hb2; injection hb2 with hb2; rw [World.size_alloc] at hb2; omega
/-- A new row behind such rows. -/
theorem run_fpush {w0 wr w3 : World} {R : List (List UInt8)} {l : List UInt8} {v xv : Value} (ty : TypeId) (h1 : FNew R w0 v wr) (hw : Below w0.heap.size w0 wr) (hx : HNew l wr xv w3) (hb : Below wr.heap.size wr w3) (hn : R.length ≤ 1000000) :
    ∃ v' w', (Builtin.append_ #[22, 22] ty #[v, .slice (some ⟨w3.heap.size, 0, none⟩) 1 1]).run Tryd.prog (w3.alloc (.cells #[xv] 23)) = .ok v' w' ∧ FNew (R ++ [l]) w0 v' w' ∧ Below w0.heap.size w0 w' := by
  have hb4 : Below wr.heap.size wr (w3.alloc (.cells #[xv] 23)) := hb.alloc hb.size _
  have hx2 := lone_new hx hb
  have e1 := LOwn.keep h1 hb4.size (fun b hb2 => hb4.block b hb2.2)
  have e2 := LOwn.mono (B' := w0.heap.size) (O' := Rd w0) hx2 hw.size (fun _ _ h => h.elim) (fun _ h => h)
  have hs4 : wr.heap.size ≤ (w3.alloc (.cells #[xv] 23)).heap.size := hb4.size
  obtain ⟨v', w', r1, r2, r3, r4, r5⟩ := run_append_rows ty e1 e2 (Nat.zero_lt_succ _) (fun b h2 h3 => by have := h2.2; have := h3.1; omega) (fun b h2 => h2.elim (fun h => Nat.lt_of_lt_of_le h.2 hs4) (fun h => h.2)) (Nat.le_trans hw.size hs4) (by simp only [List.length_cons, List.length_nil]; omega)
  have ho : ∀ b, v.ownBlock = some b → w0.heap.size ≤ b := fun b h => by obtain ⟨xs, _, h3, _⟩ := h1; exact (h3 b h).1
  have hwb : Below w0.heap.size w0 (w3.alloc (.cells #[xv] 23)) := hw.trans (hb4.mono hw.size)
  refine ⟨v', w', r1, r2.mono (Nat.le_refl _) (fun _ _ h => h) fun b hb2 => ?_, hwb.grown r3 hwb.size ho⟩
  rcases hb2 with (h | h) | h
  · exact ⟨h.1, Nat.lt_of_lt_of_le h.2 (Nat.le_trans hs4 r3.size)⟩
  · exact ⟨Nat.le_trans hw.size h.1, Nat.lt_of_lt_of_le h.2 r3.size⟩
  · refine ⟨?_, r5 b h⟩
    rcases r4 with e | e
    · exact ho b (e ▸ h)
    · rw [e] at h; injection h with h; have := hwb.size; omega
theorem wpList_fpush {w0 wr w3 : World} {R : List (List UInt8)} {l : List UInt8} {v xv : Value} {ops : Array Oper} {rest : List Oper} {o : Oper} {a : Act} {Q : Exit → Act → World → Prop} (hwt : Region.wanted o (yielded ops a.tmps) = true) (s x : Operand)
    (ho : o.op = .call { callee := .builtin .append, args := #[s, x], argTypes := #[22, 22] }) (hs : a.eval s = v) (hx : a.eval x = .slice (some ⟨w3.heap.size, 0, none⟩) 1 1)
    (h1 : FNew R w0 v wr) (hw : Below w0.heap.size w0 wr) (h2 : HNew l wr xv w3) (hb : Below wr.heap.size wr w3) (hn : R.length ≤ 1000000)
    (h : ∀ v' w', Hid (FNew (R ++ [l]) w0 v' w') → Hid (Below w0.heap.size w0 w') → wpList Tryd.prog ops Q rest (a.put o.dst v') w') : wpList Tryd.prog ops Q (o :: rest) a (w3.alloc (.cells #[xv] 23)) := by
  refine wpList_step fun K hK => ?_
  rw [if_pos hwt]
  obtain ⟨v', w', hrun, q1, q2⟩ := run_fpush o.type h1 hw h2 hb hn
  unfold Oper.wp
  simp [execOp, ho, resolve, invoke, builtin, hs, hx, hrun, Result.andThen]
  exact hK _ _ (h v' w' q1 q2)
end Go.Proofs.YtjeclmbableacaaDoor

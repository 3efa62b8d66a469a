/-
  OWN WORK. The document's disk: Crash, by its contract.
-/
import Derived.Test.YtenedgapjbmpgaaDiRefL
import Derived.Test.YtenedgapjbmpgaaDiCodeD
namespace Go.Proofs.Ytenedgapjbmpgaa
open Go.RowKit Rc Di

/-- The document's disk in memory, of whatever parts. -/
structure RefIn (g gs gn gd n : Nat) (Z N : List (List UInt8)) (ds : List Bool) (c : Nat) (w : World) : Prop where
  box : Blk w g 38 [.slice (some ⟨gs, 0, none⟩) (128 * n) (128 * n), .slice (some ⟨gn, 0, none⟩) (128 * n) (128 * n), .slice (some ⟨gd, 0, none⟩) n n, .int .i64 (c : Nat)]
  safe : Blk w gs 5 (Lib.byteCells Z.flatten)
  now : Blk w gn 5 (Lib.byteCells N.flatten)
  dirty : Blk w gd 4 (ds.map .bool)
  ne : g ≠ gs ∧ g ≠ gn ∧ g ≠ gd ∧ gs ≠ gn ∧ gs ≠ gd ∧ gn ≠ gd
  zl : Z.length = n
  nl : N.length = n
  dl : ds.length = n
  zs : ∀ x ∈ Z, x.length = 128
  ns : ∀ x ∈ N, x.length = 128
theorem RefIn.of {g gs gn gd n c : Nat} {Z N Z' : List (List UInt8)} {ds : List Bool} {w w' : World} (h : RefIn g gs gn gd n Z N ds c w) (hk : Keeps w w' gs) (hs : Blk w' gs 5 (Lib.byteCells Z'.flatten)) (hz : Z'.length = n) (hz2 : ∀ x ∈ Z', x.length = 128) : RefIn g gs gn gd n Z' N ds c w' := by
  have kp : ∀ x, x ≠ gs → x < w.heap.size → w'.heap[x]? = w.heap[x]? := fun x hx hlt => hk.block x hlt (fun e => hx (by injection e))
  exact ⟨(kp g h.ne.1 h.box.lt).trans h.box, hs, (kp gn (fun e => h.ne.2.2.2.1 e.symm) h.now.lt).trans h.now, (kp gd (fun e => h.ne.2.2.2.2.1 e.symm) h.dirty.lt).trans h.dirty, h.ne, hz, h.nl, h.dl, hz2, h.ns⟩
def Four (g gs gn gd : Nat) : Nat → Prop := fun b => b = g ∨ b = gs ∨ b = gn ∨ b = gd
/-- What is copied into the sector at i. -/
theorem copy_flat (Z : List (List UInt8)) (i m : Nat) (x : List UInt8) (hz : ∀ y ∈ Z, y.length = 128) (hi : i < Z.length) (hx : x.length = 128) (hm : m ≤ 128) :
    Z.flatten.take (i * 128) ++ (x.take m ++ Z.flatten.drop (i * 128 + m)) = (Z.set i (x.take m ++ Z[i].drop m)).flatten := by
  have hzi := hz _ (List.getElem_mem hi)
  rw [flat_set Z i (x.take m ++ Z[i].drop m) hz hi (by rw [List.length_append, List.length_take, List.length_drop]; omega), Nat.mul_comm 128 i, List.append_assoc]
  congr 2
  have h1 := flat_at Z i hz hi
  rw [Nat.mul_comm 128 i] at h1
  have h2 : Z.flatten.drop (i * 128) = Z[i] ++ Z.flatten.drop (i * 128 + 128) := by
    rw [← h1, ← List.drop_drop, List.take_append_drop]
  rw [← List.drop_drop, h2, List.drop_append_of_le_length (by omega)]
theorem left_step_clean (K : List Bool) (torn : Int) (c k i : Nat) (N S : List (List UInt8)) (ds : List Bool) (hN : i < N.length) (hS : i < S.length) (hd : i < ds.length) (h : ds[i] = false) :
    left K torn c k (N.drop i) (S.drop i) (ds.drop i) = S[i] :: left K torn c k (N.drop (i + 1)) (S.drop (i + 1)) (ds.drop (i + 1)) := by
  rw [List.drop_eq_getElem_cons hN, List.drop_eq_getElem_cons hS, List.drop_eq_getElem_cons hd, h]
  rfl
def mixed (K : List Bool) (torn : Int) (c k : Nat) (x y : List UInt8) : List UInt8 := if (k : Int) = torn then x.take c ++ y.drop c else if K.getD k false then x else y
theorem left_step_dirty (K : List Bool) (torn : Int) (c k i : Nat) (N S : List (List UInt8)) (ds : List Bool) (hN : i < N.length) (hS : i < S.length) (hd : i < ds.length) (h : ds[i] = true) :
    left K torn c k (N.drop i) (S.drop i) (ds.drop i) = mixed K torn c k N[i] S[i] :: left K torn c (k + 1) (N.drop (i + 1)) (S.drop (i + 1)) (ds.drop (i + 1)) := by
  rw [List.drop_eq_getElem_cons hN, List.drop_eq_getElem_cons hS, List.drop_eq_getElem_cons hd, h]
  rfl
theorem set_next {α : Type} (P S : List α) (i : Nat) (hP : P.length = i) (hS : i < S.length) (x : α) : (P ++ S.drop i).set i x = (P ++ [x]) ++ S.drop (i + 1) := by
  subst hP
  rw [List.set_append_right _ _ (Nat.le_refl _), Nat.sub_self, List.drop_eq_getElem_cons hS, List.set_cons_zero]
  simp
theorem get_next {α : Type} (P S : List α) (i : Nat) (hP : P.length = i) (hS : i < S.length) : P ++ S.drop i = (P ++ [S[i]]) ++ S.drop (i + 1) := by
  rw [List.drop_eq_getElem_cons hS]; simp
/-- A crash under way: sectors to i are done, k of them dirty. -/
structure RcAt (st : Dk) (K : List Bool) (torn : Int) (c : Nat) (g gs gn gd : Nat) (w wr : World) (k i : Nat) (P : List (List UInt8)) : Prop where
  mem : RefIn g gs gn gd st.dirty.length (P ++ st.safe.drop i) st.now st.dirty st.writes wr
  len : P.length = i
  fin : P ++ left K torn c k (st.now.drop i) (st.safe.drop i) (st.dirty.drop i) = left K torn c 0 st.now st.safe st.dirty
  mod : Mod w wr (Four g gs gn gd)
section
variable {st : Dk} {K : List Bool} {torn : Int} {c : Nat} {g gs gn gd : Nat} {w wr w2 : World} {k i : Nat} {P : List (List UInt8)}
theorem RcAt.clean (h : RcAt st K torn c g gs gn gd w wr k i P) (hok : st.Ok) (hi : i < st.dirty.length) (hd : st.dirty[i] = false) : RcAt st K torn c g gs gn gd w wr k (i + 1) (P ++ [st.safe[i]'(by rw [hok.safe]; exact hi)]) := by
  have hS : i < st.safe.length := by rw [hok.safe]; exact hi
  refine ⟨?_, by rw [List.length_append, h.len]; rfl, ?_, h.mod⟩
  · rw [← get_next P st.safe i h.len hS]; exact h.mem
  · rw [← h.fin, left_step_clean K torn c k i st.now st.safe st.dirty (by rw [hok.now]; exact hi) hS hi hd]
    simp
theorem RcAt.same (h : RcAt st K torn c g gs gn gd w wr k i P) (hok : st.Ok) (hi : i < st.dirty.length) (hd : st.dirty[i] = true) (hx : mixed K torn c k (st.now[i]'(by rw [hok.now]; exact hi)) (st.safe[i]'(by rw [hok.safe]; exact hi)) = st.safe[i]'(by rw [hok.safe]; exact hi)) : RcAt st K torn c g gs gn gd w wr (k + 1) (i + 1) (P ++ [st.safe[i]'(by rw [hok.safe]; exact hi)]) := by
  have hS : i < st.safe.length := by rw [hok.safe]; exact hi
  refine ⟨?_, by rw [List.length_append, h.len]; rfl, ?_, h.mod⟩
  · rw [← get_next P st.safe i h.len hS]; exact h.mem
  · rw [← h.fin, left_step_dirty K torn c k i st.now st.safe st.dirty (by rw [hok.now]; exact hi) hS hi hd, hx]
    simp
theorem RcAt.put (h : RcAt st K torn c g gs gn gd w wr k i P) (hok : st.Ok) (hi : i < st.dirty.length) (hd : st.dirty[i] = true) (m : Nat) (hm : m ≤ 128) (hx : mixed K torn c k (st.now[i]'(by rw [hok.now]; exact hi)) (st.safe[i]'(by rw [hok.safe]; exact hi)) = (st.now[i]'(by rw [hok.now]; exact hi)).take m ++ (st.safe[i]'(by rw [hok.safe]; exact hi)).drop m)
    (hb : Blk w2 gs 5 (Lib.byteCells ((P ++ st.safe.drop i).flatten.take (i * 128) ++ ((st.now[i]'(by rw [hok.now]; exact hi)).take m ++ (P ++ st.safe.drop i).flatten.drop (i * 128 + m))))) (hk : Keeps wr w2 gs) :
    RcAt st K torn c g gs gn gd w w2 (k + 1) (i + 1) (P ++ [mixed K torn c k (st.now[i]'(by rw [hok.now]; exact hi)) (st.safe[i]'(by rw [hok.safe]; exact hi))]) := by
  have hS : i < st.safe.length := by rw [hok.safe]; exact hi
  have hN : i < st.now.length := by rw [hok.now]; exact hi
  have hZ : i < (P ++ st.safe.drop i).length := by rw [h.mem.zl]; exact hi
  have hget : (P ++ st.safe.drop i)[i] = st.safe[i] := by
    have e : (P ++ st.safe.drop i)[i]? = st.safe[i]? := by
      rw [List.getElem?_append_right (by rw [h.len]; exact Nat.le_refl _), h.len, Nat.sub_self, List.getElem?_drop, Nat.add_zero]
    rw [List.getElem?_eq_getElem hZ, List.getElem?_eq_getElem hS] at e
    exact Option.some.inj e
  have h1 := hok.snow _ (List.getElem_mem hN)
  have h2 := hok.ssafe _ (List.getElem_mem hS)
  rw [copy_flat (P ++ st.safe.drop i) i m st.now[i] h.mem.zs hZ h1 hm, hget, ← hx, set_next P st.safe i h.len hS] at hb
  refine ⟨?_, by rw [List.length_append, h.len]; rfl, ?_, h.mod.trans ((mod_keeps hk).mono (fun b _ hb => .inr (.inl hb)))⟩
  · refine h.mem.of hk hb ?_ ?_
    · have hz := h.mem.zl
      rw [List.length_append, List.length_drop, h.len] at hz
      rw [List.length_append, List.length_append, List.length_drop, h.len, List.length_singleton]; omega
    · intro x hx2
      rcases List.mem_append.1 hx2 with hx3 | hx3
      · rcases List.mem_append.1 hx3 with hx4 | hx4
        · exact h.mem.zs x (List.mem_append.2 (.inl hx4))
        · rw [List.mem_singleton.1 hx4, hx, List.length_append, List.length_take, List.length_drop]; omega
      · exact hok.ssafe x (List.mem_of_mem_drop hx3)
  · rw [← h.fin, left_step_dirty K torn c k i st.now st.safe st.dirty hN hS hi hd]
    simp
end
set_option maxHeartbeats 4000000 in
set_option maxRecDepth 100000 in
theorem refCrash_any {N : Nat} {v : Value} {st : Dk} {S : Nat → Prop} {w : World} (h : RefAt N v st S w) (A : Option Addr) (K : List Bool) (cap : Nat) (torn cut : Int) (hK : RdB w A K) (hA : ∀ a, A = some a → 0 < K.length → ¬ S a.block) (hKc : K.length ≤ cap) (hK2 : K.length ≤ 9223372036854775807) (ht0 : -9223372036854775808 ≤ torn) (ht1 : torn ≤ 9223372036854775807) (hc0 : -9223372036854775808 ≤ cut) (hc1 : cut ≤ 9223372036854775807) :
    Calls Try.prog 30 #[v, .slice A K.length cap, .int .i64 torn, .int .i64 cut] w (FlushOut N (st.crash K torn cut) v S w) := by
  obtain ⟨g, gs, gn, gd, rfl, h1, h2, h3, h4, hne, hok, rfl, hNN⟩ := h
  have HNN : Hid (gn = N) := hNN
  clear hNN
  obtain ⟨cc, hcc⟩ : ∃ cc, cc = clamp cut := ⟨_, rfl⟩
  have hcl : cc ≤ 128 := by rw [hcc]; exact clamp_le cut
  have hcv : (cc : Int) = if cut < 0 then 0 else if 128 < cut then 128 else cut := by
    rw [hcc]; unfold clamp
    split
    · rfl
    · split
      · rfl
      · omega
  obtain ⟨m1, hm1⟩ : ∃ m1 : Int, m1 = if cut < 0 then 0 else cut := ⟨_, rfl⟩
  have hm0 : 0 ≤ m1 ∧ m1 ≤ 9223372036854775807 := by rw [hm1]; split <;> omega
  have hcm : (cc : Int) = if 128 < m1 then 128 else m1 := by
    rw [hcv, hm1]
    by_cases b : cut < 0
    · rw [if_pos b, if_pos b]; rfl
    · rw [if_neg b, if_neg b]
  have HSTART : Hid (RcAt st K torn cc g gs gn gd w w 0 0 []) :=
    ⟨⟨h1, h2, h3, h4, hne, hok.safe, hok.now, rfl, hok.ssafe, hok.snow⟩, rfl, rfl, Mod.refl _ _⟩
  obtain ⟨n, hn⟩ : ∃ n, n = st.dirty.length := ⟨_, rfl⟩
  have hn4 : n ≤ 4096 := by rw [hn]; exact hok.hi
  have hn1 : 64 ≤ n := by rw [hn]; exact hok.lo
  have HN := Lib.hid hn
  have HOK := Lib.hid hok
  have HNE := Lib.hid hne
  have HK := Lib.hid hK
  have HA : Hid (∀ a, A = some a → 0 < K.length → ¬ Four g gs gn gd a.block) := hA
  have HCC := Lib.hid hcc
  have HM1 := Lib.hid hm1
  have HCM := Lib.hid hcm
  clear h1 h2 h3 h4 hne hok hn hcc hcv hm1 hcm hK hA
  go_enter Try.func30, Try.ntmps30
  go_upto_if 12 with (fail)
  go_cut [3] (fun t3 wx => t3 = .int .i64 m1 ∧ w = wx)
  case first =>
    by_cases b : cut < 0
    · have e : m1 = 0 := by rw [HM1.out, if_pos b]
      go_wp2_with fail
      go_meet
      case rel => exact ⟨by rw [e], rfl⟩
    · have e : m1 = cut := by rw [HM1.out, if_neg b]
      go_wp2_with fail
      go_meet
      case rel => exact ⟨by rw [e], rfl⟩
  case rest =>
    obtain ⟨rfl, rfl⟩ := hcut
    go_upto_if 14 with (fail)
    go_cut [3] (fun t3 wx => t3 = .int .i64 (cc : Nat) ∧ w = wx)
    case first =>
      by_cases b : 128 < m1
      · have e : (cc : Int) = 128 := by rw [HCM.out, if_pos b]
        go_wp2_with fail
        go_meet
        case rel => exact ⟨by rw [e], rfl⟩
      · have e : (cc : Int) = m1 := by rw [HCM.out, if_neg b]
        go_wp2_with fail
        go_meet
        case rel => exact ⟨by rw [e], rfl⟩
    case rest =>
      obtain ⟨rfl, rfl⟩ := hcut
      go_wp2_with fail
      go_loopw [8, 9] (fun t8 t9 wr => ∃ k i : Nat, k ≤ i ∧ i ≤ n ∧ t8 = .int .i64 (k : Nat) ∧ t9 = .int .i64 (i : Nat) ∧ Hid (∃ P, RcAt st K torn cc g gs gn gd w wr k i P)) (fun _ t9 _ => n - (intOf t9).toNat)
      case atStart => exact ⟨0, 0, by omega, by omega, rfl, rfl, ⟨[], HSTART.out⟩⟩
      case round =>
        clear HSTART
        obtain ⟨k, i, hki, hin, rfl, rfl, HR⟩ := hrel
        obtain ⟨P, hR⟩ := HR.out
        have hbx := hR.mem.box
        rw [← HN.out] at hbx
        have c0 : wr.cell? ⟨g, 0, none⟩ = some (.slice (some ⟨gs, 0, none⟩) (128 * n) (128 * n)) := hbx.cell 0
        have c1 : wr.cell? ⟨g, 1, none⟩ = some (.slice (some ⟨gn, 0, none⟩) (128 * n) (128 * n)) := hbx.cell 1
        have c2 : wr.cell? ⟨g, 2, none⟩ = some (.slice (some ⟨gd, 0, none⟩) n n) := hbx.cell 2
        by_cases hlt : i < n
        · have hid : i < st.dirty.length := by rw [← HN.out]; exact hlt
          have hS : i < st.safe.length := by rw [HOK.out.safe]; exact hid
          have hNl : i < st.now.length := by rw [HOK.out.now]; exact hid
          have cd : wr.cell? ⟨gd, i, none⟩ = some (.bool st.dirty[i]) := by
            rw [hR.mem.dirty.cell, List.getElem?_map, List.getElem?_eq_getElem hid]; rfl
          obtain ⟨d, hd⟩ : ∃ d, d = st.dirty[i] := ⟨_, rfl⟩
          rw [← hd] at cd
          cases d with
          | false =>
            have HNEXT : Hid (∃ P, RcAt st K torn cc g gs gn gd w wr k (i + 1) P) := ⟨_, hR.clean HOK.out hid hd.symm⟩
            clear hd hid hS hNl hR HR hbx
            go_wp2_with fail
            go_roundw
            case rel => exact ⟨k, i + 1, by omega, by omega, rfl, by go_num, HNEXT⟩
            case measure => simp [intOf]; omega
          | true =>
            -- the copy of so many bytes
            obtain ⟨x, hx⟩ : ∃ x, x = st.now[i] := ⟨_, rfl⟩
            have hxl : x.length = 128 := by rw [hx]; exact HOK.out.snow _ (List.getElem_mem hNl)
            have hrx : Rd wr.drew (some ⟨gn, i * 128, none⟩) x := by
              have h5 := (rd_of_blk (show Blk wr.drew gn 5 _ from hR.mem.now)).cut (128 * i) (128 * n) (by rw [flat_length _ HOK.out.snow, HOK.out.now, ← HN.out]; exact Nat.le_refl _)
              have h6 := h5.take 128
              rw [flat_at _ i HOK.out.snow hNl, if_neg (by omega), ← hx] at h6
              simp only [Option.map_some, add_plain, Nat.zero_add] at h6
              rw [Nat.mul_comm 128 i] at h6
              exact h6
            have hzl : (P ++ st.safe.drop i).flatten.length = 128 * n := by rw [flat_length _ hR.mem.zs, hR.mem.zl, HN.out]
            have HCOPY : Hid (∀ m : Nat, m ≤ 128 → ∃ w2, (Builtin.copy_ #[27, 27] 3 #[.slice (some ⟨gs, i * 128, none⟩) m (128 * n - i * 128), .slice (some ⟨gn, i * 128, none⟩) m (128 * n - i * 128)]).run Try.prog wr.drew = .ok (.int .i64 (m : Nat)) w2 ∧
                Hid (mixed K torn cc k st.now[i] st.safe[i] = st.now[i].take m ++ st.safe[i].drop m → ∃ P, RcAt st K torn cc g gs gn gd w w2 (k + 1) (i + 1) P)) := by
              intro m hm
              have hml : (x.take m).length = m := by rw [List.length_take, hxl]; omega
              obtain ⟨w2, hcp, hb2, hk2⟩ := copy_row wr.drew gs (i * 128) (P ++ st.safe.drop i).flatten (show Blk wr.drew gs _ _ from hR.mem.safe) (x.take m) (some ⟨gn, i * 128, none⟩) (128 * n - i * 128) m (128 * n - i * 128) m (hrx.take m) hml (Nat.le_refl _) (by rw [hzl]; omega)
              rw [hml] at hcp
              refine ⟨w2, hcp, fun hmx => ⟨_, hR.put HOK.out hid hd.symm m hm hmx ?_ (show Keeps wr w2 gs from ⟨hk2.os, hk2.tape, hk2.output, hk2.size, hk2.block⟩)⟩⟩
              rw [← hx]; exact hb2
            have hslh : ∀ (b m : Nat) (W : World), m ≤ 128 → (Instr.sliceAt 27 (.slice (some ⟨b, 0, none⟩) (128 * n) (128 * n)) (some (.int .i64 ((i : Int) * 128))) (some (.int .i64 ((i : Int) * 128 + (m : Int)))) none).run Try.prog W = .ok (.slice (some ⟨b, i * 128, none⟩) m (128 * n - i * 128)) W := fun b m W hm => by
              have h1 := sl_lh W (some ⟨b, 0, none⟩) (128 * n) (128 * n) (i * 128) (i * 128 + m) (by omega) (by omega)
              unfold cutA at h1
              rw [if_neg (by omega), Nat.add_sub_cancel_left] at h1
              simp only [Option.map_some, add_plain, Nat.zero_add] at h1
              rw [← h1]
              congr 5
            have HSLH := Lib.hid hslh
            have HKW : Hid (RdB wr A K) := rdb_mod HK.out hR.mod HA.out
            have w1 : IntKind.i64.wrap ((i : Int) * 128) = (i : Int) * 128 := IntWalk.i64_in _ (by omega)
            have w2 : IntKind.i64.wrap ((i : Int) * 128 + 128) = (i : Int) * 128 + 128 := IntWalk.i64_in _ (by omega)
            have w3 : IntKind.i64.wrap ((i : Int) * 128 + (cc : Int)) = (i : Int) * 128 + (cc : Int) := IntWalk.i64_in _ (by omega)
            have HSAME : Hid (mixed K torn cc k st.now[i] st.safe[i] = st.safe[i] → ∃ P, RcAt st K torn cc g gs gn gd w wr (k + 1) (i + 1) P) := fun hmx => ⟨_, hR.same HOK.out hid hd.symm hmx⟩
            have HNI : Hid (st.now[i].length = 128 ∧ st.safe[i].length = 128) := ⟨HOK.out.snow _ (List.getElem_mem hNl), HOK.out.ssafe _ (List.getElem_mem hS)⟩
            obtain ⟨xn, hxn⟩ : ∃ xn, xn = st.now[i] := ⟨_, rfl⟩
            obtain ⟨xs, hxs⟩ : ∃ xs, xs = st.safe[i] := ⟨_, rfl⟩
            rw [← hxn, ← hxs] at HSAME HNI HCOPY
            clear hslh hzl hrx hxl hx hd hid hS hNl hR HR hbx hxn hxs
            by_cases b1 : (k : Int) = torn
            · obtain ⟨wc, hcp, HN2⟩ := HCOPY.out cc hcl
              have HNEXT : Hid (∃ P, RcAt st K torn cc g gs gn gd w wc (k + 1) (i + 1) P) := HN2.out (by unfold mixed; rw [if_pos b1])
              have hs1 := fun b W => HSLH.out b cc W hcl
              have HCP := Lib.hid hcp
              subst b1
              clear hcp HN2
              go_upto_region 11 with (fail)
              go_still_tail 18, (by kernel_rfl)
              have hcp := HCP.out
              go_wp2_with fail
              go_roundw
              case rel => exact ⟨k + 1, i + 1, by omega, by omega, by go_num, by go_num, HNEXT⟩
              case measure => simp [intOf]; omega
            · by_cases b4 : k < K.length
              · obtain ⟨ad, rfl, _, ck⟩ := HKW.out k K[k] (List.getElem?_eq_getElem b4)
                obtain ⟨y, hy⟩ : ∃ y, y = K[k] := ⟨_, rfl⟩
                rw [← hy] at ck
                have hmx : mixed K torn cc k xn xs = if y then xn else xs := by
                  unfold mixed; rw [if_neg b1, List.getD_eq_getElem?_getD, List.getElem?_eq_getElem b4, ← hy]; rfl
                have HMX := Lib.hid hmx
                clear hy hmx
                cases y with
                | true =>
                  obtain ⟨wc, hcp, HN2⟩ := HCOPY.out 128 (Nat.le_refl _)
                  have HNEXT : Hid (∃ P, RcAt st K torn cc g gs gn gd w wc (k + 1) (i + 1) P) := HN2.out (by
                    rw [HMX.out, List.take_of_length_le (by rw [HNI.out.1]; omega), List.drop_of_length_le (by rw [HNI.out.2]; omega), List.append_nil]; rfl)
                  have hs1 : ∀ (b : Nat) (W : World), (Instr.sliceAt 27 (.slice (some ⟨b, 0, none⟩) (128 * n) (128 * n)) (some (.int .i64 ((i : Int) * 128))) (some (.int .i64 ((i : Int) * 128 + 128))) none).run Try.prog W = .ok (.slice (some ⟨b, i * 128, none⟩) 128 (128 * n - i * 128)) W := fun b W => HSLH.out b 128 W (Nat.le_refl _)
                  have HCP := Lib.hid hcp
                  clear hcp HN2
                  go_upto_region 13 with (fail)
                  go_still_tail 16, (by kernel_rfl)
                  have hcp := HCP.out
                  go_wp2_with fail
                  go_roundw
                  case rel => exact ⟨k + 1, i + 1, by omega, by omega, by go_num, by go_num, HNEXT⟩
                  case measure => simp [intOf]; omega
                | false =>
                  have HNEXT : Hid (∃ P, RcAt st K torn cc g gs gn gd w wr (k + 1) (i + 1) P) := HSAME.out (by rw [HMX.out]; rfl)
                  go_wp2_with fail
                  go_roundw
                  case rel => exact ⟨k + 1, i + 1, by omega, by omega, by go_num, by go_num, HNEXT⟩
                  case measure => simp [intOf]; omega
              · have HNEXT : Hid (∃ P, RcAt st K torn cc g gs gn gd w wr (k + 1) (i + 1) P) := HSAME.out (by
                  unfold mixed; rw [if_neg b1, List.getD_eq_getElem?_getD, List.getElem?_eq_none (by omega)]; rfl)
                go_wp2_with fail
                go_roundw
                case rel => exact ⟨k + 1, i + 1, by omega, by omega, by go_num, by go_num, HNEXT⟩
                case measure => simp [intOf]; omega
        · obtain rfl : i = n := by omega
          have hPl : P.length = i := hR.len
          have hdr : st.safe.drop i = [] := List.drop_of_length_le (by rw [HOK.out.safe, ← HN.out]; exact Nat.le_refl _)
          have hfin : P = left K torn cc 0 st.now st.safe st.dirty := by
            have h1 := hR.fin
            rw [hdr, show st.now.drop i = [] from List.drop_of_length_le (by rw [HOK.out.now, ← HN.out]; exact Nat.le_refl _)] at h1
            simpa [left] using h1
          have hm := hR.mem
          rw [hdr, List.append_nil, ← HN.out] at hm
          have hpf : P.flatten.length = 128 * i := by rw [flat_length _ hm.zs, hm.zl]
          have hnf : st.now.flatten.length = 128 * i := by rw [flat_length _ hm.ns, hm.nl]
          obtain ⟨wc, hcp, hb1, hkp⟩ := copy_row wr.drew gn 0 st.now.flatten (show Blk wr.drew gn _ _ from hm.now) P.flatten (some ⟨gs, 0, none⟩) (128 * i) (128 * i) (128 * i) (128 * i) (rd_of_blk (show Blk wr.drew gs _ _ from hm.safe)) hpf (Nat.le_refl _) (by omega)
          rw [hpf] at hcp
          rw [List.take_zero, List.nil_append, Nat.zero_add, List.drop_of_length_le (show st.now.flatten.length ≤ 128 * i by omega), List.append_nil] at hb1
          have kp : ∀ y, y ≠ gn → y < wr.heap.size → wc.heap[y]? = wr.heap[y]? := fun y hy hlt => hkp.block y hlt (fun e => hy (by injection e))
          have H1b : Hid (Blk wc g 38 [.slice (some ⟨gs, 0, none⟩) (128 * i) (128 * i), .slice (some ⟨gn, 0, none⟩) (128 * i) (128 * i), .slice (some ⟨gd, 0, none⟩) i i, .int .i64 (st.writes : Nat)]) := (kp g HNE.out.2.1 hm.box.lt).trans hm.box
          have H2b : Hid (Blk wc gs 5 (Lib.byteCells P.flatten)) := (kp gs HNE.out.2.2.2.1 hm.safe.lt).trans hm.safe
          have H3b : Hid (Blk wc gn 5 (Lib.byteCells P.flatten)) := hb1
          have HM1 : Hid (Mod w wc (Four g gs gn gd)) := hR.mod.trans ((mod_keeps (show Keeps wr wc gn from ⟨hkp.os, hkp.tape, hkp.output, hkp.size, hkp.block⟩)).mono (fun b _ hb => .inr (.inr (.inl hb))))
          obtain ⟨w2, hmk, hb2, hbl2⟩ := make_flags wc i (by omega) (by omega)
          have H1c := Lib.hid (H1b.out.below hb2 H1b.out.lt)
          have H2c := Lib.hid (H2b.out.below hb2 H2b.out.lt)
          have H3c := Lib.hid (H3b.out.below hb2 H3b.out.lt)
          have lg := H1b.out.lt
          have ls := H2b.out.lt
          have ln := H3b.out.lt
          obtain ⟨gx, hgx⟩ : ∃ gx, gx = wc.heap.size := ⟨_, rfl⟩
          rw [← hgx] at hmk hbl2 lg ls ln
          have cd1 : wc.cell? ⟨g, 2, none⟩ = some (.slice (some ⟨gd, 0, none⟩) i i) := H1b.out.cell 2
          have cd2 : w2.cell? ⟨g, 2, none⟩ = some (.slice (some ⟨gd, 0, none⟩) i i) := H1c.out.cell 2
          have fd2 : w2.frozen? ⟨g, 2, none⟩ = false := H1c.out.frozen 2
          have HEND : Hid (FlushOut N (st.crash K torn cut) (.pointer (some ⟨g, 0, none⟩)) (Four g gs gn gd) w (.returned (.tuple #[])) (w2.setCell ⟨g, 2, none⟩ (.slice (some ⟨gx, 0, none⟩) i i))) := by
            have hd : (st.crash K torn cut).dirty.length = i := by show (List.replicate st.dirty.length false).length = i; rw [List.length_replicate, HN.out]
            have hcs : (st.crash K torn cut).safe = P := by rw [hfin, HCC.out]; rfl
            have hcn : (st.crash K torn cut).now = P := by rw [hfin, HCC.out]; rfl
            refine ⟨_, rfl, fun b => b = g ∨ b = gs ∨ b = gn ∨ b = gx, ⟨g, gs, gn, gx, rfl, ?_, ?_, ?_, ?_, ⟨HNE.out.1, HNE.out.2.1, by omega, HNE.out.2.2.2.1, by omega, by omega⟩, HOK.out.crash K torn cut, rfl, HNN.out⟩, ?_, ?_⟩
            · have := H1c.out.set_ 2 (.slice (some ⟨gx, 0, none⟩) i i)
              rw [hd]
              exact this
            · rw [hcs]; exact H2c.out.far (p := ⟨g, 2, none⟩) (fun e => HNE.out.1 e.symm) _
            · rw [hcn]; exact H3c.out.far (p := ⟨g, 2, none⟩) (fun e => HNE.out.2.1 e.symm) _
            · have := hbl2.far (p := ⟨g, 2, none⟩) (by show gx ≠ g; omega) (.slice (some ⟨gx, 0, none⟩) i i)
              show Blk _ gx _ ((List.replicate st.dirty.length false).map Value.bool)
              rw [← HN.out]
              exact this
            · have m2 := Mod.of_below hb2 (Four g gs gn gd)
              have m3 := (mod_keeps ((Keeps.refl w2 g).setCell 2 (.slice (some ⟨gx, 0, none⟩) i i))).mono (Y := Four g gs gn gd) (fun b _ hb => .inl hb)
              exact (HM1.out.trans m2).trans m3
            · have hsz := HM1.out.size
              rintro b (rfl | rfl | rfl | rfl)
              · exact .inl (.inl rfl)
              · exact .inl (.inr (.inl rfl))
              · exact .inl (.inr (.inr (.inl rfl)))
              · exact .inr (by omega)
          have HCP := Lib.hid hcp
          have HMK := Lib.hid hmk
          clear hcp hmk kp hb1 hkp hb2 hbl2 H1b H2b H3b H1c H2c H3c HM1 lg ls ln hgx hpf hnf hm hfin hdr hPl hR HR hbx
          go_upto_region 15 with (fail)
          go_still_tail 8, (by kernel_rfl)
          have hcp := HCP.out
          have hmk := HMK.out
          go_wp2_with fail
          refine bodyPost_end (results_none rfl _ _ _) rfl ?_
          exact HEND.out
end Go.Proofs.Ytenedgapjbmpgaa

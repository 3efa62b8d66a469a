/-
  OWN WORK. The program's disk: Crash.
-/
import Derived.Test.YtenedgapjbmpgaaDiCodeC
namespace Go.Proofs.Ytenedgapjbmpgaa
open Go.RowKit Rc Di

def amount (keep : List Bool) (torn : Int) (c k : Nat) : Nat := if (k : Int) = torn then c else if keep.getD k false then 128 else 0
theorem amount_le (keep : List Bool) (torn : Int) (c k : Nat) (hc : c ≤ 128) : amount keep torn c k ≤ 128 := by
  unfold amount
  split
  · exact hc
  · split <;> omega
def crashSecs (keep : List Bool) (torn : Int) (c : Nat) : Nat → List Sec → List Sec
  | _, [] => []
  | k, s :: r => if s.dirty then s.settle (amount keep torn c k) :: crashSecs keep torn c (k + 1) r else s :: crashSecs keep torn c k r
theorem crash_clean (keep : List Bool) (torn : Int) (c : Nat) : ∀ (B : List Sec) (k j : Nat), dirtyFrom j (B.map Sec.dirty) = [] → crashSecs keep torn c k B = B
  | [], _, _, _ => rfl
  | s :: B, k, j, h => by
    cases hd : s.dirty with
    | true => rw [List.map_cons, hd] at h; simp [dirtyFrom] at h
    | false =>
      rw [List.map_cons, hd] at h
      simp only [crashSecs, hd]
      rw [if_neg (by simp), crash_clean keep torn c B k (j + 1) h]
theorem crash_next (keep : List Bool) (torn : Int) (c : Nat) : ∀ (B : List Sec) (j : Nat) (d : Int) (rest : List Int), dirtyFrom j (B.map Sec.dirty) = d :: rest →
    ∃ B0 s B1, B = B0 ++ s :: B1 ∧ d = ((j + B0.length : Nat) : Int) ∧ rest = dirtyFrom (j + B0.length + 1) (B1.map Sec.dirty) ∧ ∀ k, crashSecs keep torn c k B = B0 ++ s.settle (amount keep torn c k) :: crashSecs keep torn c (k + 1) B1
  | [], _, _, _, h => by simp [dirtyFrom] at h
  | s :: B, j, d, rest, h => by
    cases hd : s.dirty with
    | true =>
      rw [List.map_cons, hd] at h
      simp only [dirtyFrom, List.cons.injEq] at h
      exact ⟨[], s, B, rfl, h.1.symm, h.2.symm, fun k => by simp only [crashSecs, hd]; rfl⟩
    | false =>
      rw [List.map_cons, hd] at h
      obtain ⟨B0, s', B1, rfl, h1, h2, h3⟩ := crash_next keep torn c B (j + 1) d rest h
      refine ⟨s :: B0, s', B1, rfl, by rw [h1, List.length_cons]; congr 1; omega, by rw [h2, List.length_cons]; congr 1; omega, fun k => ?_⟩
      simp only [crashSecs, hd]
      rw [if_neg (by simp), h3 k]
      rfl
theorem crash_dk (keep : List Bool) (torn cut : Int) : ∀ (L : List Sec) (k : Nat), (∀ s ∈ L, s.Ok) →
    (crashSecs keep torn (clamp cut) k L).map Sec.now = left keep torn (clamp cut) k (L.map Sec.now) (L.map Sec.safe) (L.map Sec.dirty) ∧
    (crashSecs keep torn (clamp cut) k L).map Sec.safe = left keep torn (clamp cut) k (L.map Sec.now) (L.map Sec.safe) (L.map Sec.dirty) ∧
    (crashSecs keep torn (clamp cut) k L).map Sec.dirty = List.replicate L.length false
  | [], _, _ => ⟨rfl, rfl, rfl⟩
  | s :: L, k, h => by
    have hs := h s (.head _)
    have hl : ∀ x ∈ L, x.Ok := fun x hx => h x (.tail _ hx)
    cases hd : s.dirty with
    | true =>
      obtain ⟨h1, h2, h3⟩ := crash_dk keep torn cut L (k + 1) hl
      have e : (s.settle (amount keep torn (clamp cut) k)).now = if (k : Int) = torn then s.now.take (clamp cut) ++ s.safe.drop (clamp cut) else if keep.getD k false then s.now else s.safe := by
        unfold amount
        split
        · rfl
        · split
          · rw [settle_all hs]
          · simp [Sec.settle]
      have e2 : (s.settle (amount keep torn (clamp cut) k)).safe = (s.settle (amount keep torn (clamp cut) k)).now := rfl
      simp only [crashSecs, hd, List.map_cons, left, if_true]
      rw [e2, e, h1, h2, h3]
      exact ⟨rfl, rfl, rfl⟩
    | false =>
      obtain ⟨h1, h2, h3⟩ := crash_dk keep torn cut L k hl
      have e := hs.same hd
      simp only [crashSecs, hd, List.map_cons, left]
      rw [if_neg (by simp), List.map_cons, List.map_cons, List.map_cons, h1, h2, h3, e, hd]
      exact ⟨rfl, rfl, rfl⟩
theorem crash_all (keep : List Bool) (torn cut : Int) (L : List Sec) (c : Nat) (h : ∀ s ∈ L, s.Ok) : dk (crashSecs keep torn (clamp cut) 0 L) c = (dk L c).crash keep torn cut := by
  obtain ⟨h1, h2, h3⟩ := crash_dk keep torn cut L 0 h
  unfold dk Dk.crash
  simp only [h1, h2, h3, List.length_map]
theorem set_here (A B0 B1 : List Sec) (s x : Sec) : (A ++ (B0 ++ s :: B1)).set (A.length + B0.length) x = (A ++ (B0 ++ [x])) ++ B1 := by
  rw [List.set_append_right _ _ (by omega), Nat.add_sub_cancel_left, List.set_append_right _ _ (by omega), Nat.sub_self, List.set_cons_zero]
  simp
theorem get_here (A B0 B1 : List Sec) (s : Sec) (h : A.length + B0.length < (A ++ (B0 ++ s :: B1)).length) : (A ++ (B0 ++ s :: B1))[A.length + B0.length] = s := by
  have e : (A ++ (B0 ++ s :: B1))[A.length + B0.length]? = some s := by
    rw [List.getElem?_append_right (by omega), Nat.add_sub_cancel_left, List.getElem?_append_right (by omega), Nat.sub_self]
    rfl
  rw [List.getElem?_eq_getElem h] at e
  exact Option.some.inj e
/-- A crash under way: k of the dirty ones are done. -/
structure CrAt (p q c : Nat) (w wr : World) (X : Option Addr) (D : List Int) (keep : List Bool) (torn : Int) (cc : Nat) (T : List Sec) (k : Nat) (A B : List Sec) : Prop where
  din : DIn p q (A ++ B) c wr
  rest : D.drop k = dirtyFrom A.length (B.map Sec.dirty)
  fin : A ++ crashSecs keep torn cc k B = T
  mod : Mod w wr (On p q)
  rd : RdI wr X D
theorem rdi_keeps {w w' : World} {X : Option Addr} {D : List Int} {g : Nat} (h : RdI w X D) (hk : Keeps w w' g) (hX : ∀ b, X.map (·.block) = some b → b ≠ g) : RdI w' X D := fun j x hx => by
  obtain ⟨h1, b, off, rfl, h3, h4⟩ := h j x hx
  refine ⟨h1, b, off, rfl, Nat.lt_of_lt_of_le h3 hk.size, ?_⟩
  exact (hk.cell (p := ⟨b, off + j, none⟩) h3 (hX b rfl)).trans h4
theorem rdb_mod {w w' : World} {A : Option Addr} {l : List Bool} {S : Nat → Prop} (h : RdB w A l) (hm : Mod w w' S) (hA : ∀ a, A = some a → 0 < l.length → ¬ S a.block) : RdB w' A l := fun j x hx => by
  obtain ⟨a, rfl, h2, h3⟩ := h j x hx
  refine ⟨a, rfl, Nat.lt_of_lt_of_le h2 hm.size, ?_⟩
  have hl : 0 < l.length := Nat.lt_of_le_of_lt (Nat.zero_le _) (List.getElem?_eq_some_iff.1 hx).1
  have hb : (a.add j).block = a.block := block_of_add a j
  refine (World.cell?_of_block ?_).trans h3
  rw [hb]
  exact hm.block a.block h2 (hA a rfl hl)
theorem CrAt.step {p q c : Nat} {w wr w2 : World} {X : Option Addr} {D : List Int} {keep : List Bool} {torn : Int} {cc : Nat} {T : List Sec} {k : Nat} {A B0 B1 : List Sec} {s : Sec} {rest : List Int}
    (h : CrAt p q c w wr X D keep torn cc T k A (B0 ++ s :: B1)) (hrest : D.drop (k + 1) = rest) (hr : rest = dirtyFrom (A.length + B0.length + 1) (B1.map Sec.dirty)) (hf : crashSecs keep torn cc k (B0 ++ s :: B1) = B0 ++ s.settle (amount keep torn cc k) :: crashSecs keep torn cc (k + 1) B1)
    (hd : DIn p q ((A ++ (B0 ++ s :: B1)).set (A.length + B0.length) (s.settle (amount keep torn cc k))) c w2) (hk : Keeps wr w2 q) (hX : ∀ b, X.map (·.block) = some b → b ≠ q) :
    CrAt p q c w w2 X D keep torn cc T (k + 1) (A ++ (B0 ++ [s.settle (amount keep torn cc k)])) B1 := by
  refine ⟨by rw [← set_here]; exact hd, ?_, ?_, h.mod.trans ((mod_keeps hk).mono (fun b _ hb => .inr hb)), rdi_keeps h.rd hk hX⟩
  · rw [hrest, hr]
    congr 1
    simp only [List.length_append, List.length_singleton]; omega
  · rw [← h.fin, hf]
    simp
set_option maxHeartbeats 4000000 in
set_option maxRecDepth 100000 in
theorem crash_to {p q c : Nat} {L : List Sec} {w : World} (h : DIn p q L c w) (A : Option Addr) (K : List Bool) (cap : Nat) (torn cut : Int) (hK : RdB w A K) (hA : ∀ a, A = some a → 0 < K.length → ¬ On p q a.block) (hKc : K.length ≤ cap) (hK2 : K.length ≤ 9223372036854775807) (ht0 : -9223372036854775808 ≤ torn) (ht1 : torn ≤ 9223372036854775807) (hc0 : -9223372036854775808 ≤ cut) (hc1 : cut ≤ 9223372036854775807) :
    Calls Try.prog 22 #[.pointer (some ⟨p, 0, none⟩), .slice A K.length cap, .int .i64 torn, .int .i64 cut] w fun e w' => e = .returned (.tuple #[]) ∧ Turned p q w ((dk L c).crash K torn cut) w' := by
  have HH := Lib.hid h
  have HK := Lib.hid hK
  have HA := Lib.hid hA
  obtain ⟨cc, hcc⟩ : ∃ cc, cc = clamp cut := ⟨_, rfl⟩
  have hcl : cc ≤ 128 := by rw [hcc]; exact clamp_le cut
  have hcv : (cc : Int) = if cut < 0 then 0 else if 128 < cut then 128 else cut := by
    rw [hcc]; unfold clamp
    split
    · rfl
    · split
      · rfl
      · omega
  have HCC := Lib.hid hcc
  have HCV := Lib.hid hcv
  clear h hK hA hcc hcv
  go_enter Try.func22, Try.ntmps22
  go_wp2_with fail
  refine (dirty_to HH.out).mono ?_
  rintro e w1 ⟨x, rfl, hx, hb1⟩
  obtain ⟨X, xc, rfl, hxc, hrx, hbx⟩ := hx
  obtain ⟨D, hD⟩ : ∃ D, D = dirtyFrom 0 (L.map Sec.dirty) := ⟨_, rfl⟩
  rw [← hD] at hrx hxc ⊢
  have hDn : D.length ≤ 4096 := by
    rw [hD]
    have := dirty_len (L.map Sec.dirty) 0
    rw [List.length_map] at this
    have := HH.out.hi
    omega
  have HX : Hid (∀ b, X.map (·.block) = some b → b ≠ q) := fun b hb => by
    have := (hbx b hb).1
    have := HH.out.row.lt
    omega
  have HSTART : Hid (CrAt p q c w w1 X D K torn cc (crashSecs K torn cc 0 L) 0 [] L) :=
    ⟨HH.out.below hb1, by rw [List.drop_zero, hD]; rfl, rfl, Mod.of_below hb1 _, hrx⟩
  clear hb1 hrx hbx hD hxc
  go_wp2_with fail
  go_loopw [14] (fun t14 wr => ∃ k : Nat, k ≤ D.length ∧ t14 = .int .i64 (k : Nat) ∧ Hid (∃ A B, CrAt p q c w wr X D K torn cc (crashSecs K torn cc 0 L) k A B)) (fun t14 _ => D.length - (intOf t14).toNat)
  case atStart => exact ⟨0, by omega, rfl, ⟨[], L, HSTART.out⟩⟩
  case round =>
    clear HSTART
    obtain ⟨k, hk, rfl, HR⟩ := hrel
    obtain ⟨A', B, hR⟩ := HR.out
    by_cases hlt : k < D.length
    · have hdk : D.drop k = D[k] :: D.drop (k + 1) := List.drop_eq_getElem_cons hlt
      obtain ⟨B0, s, B1, rfl, hd, hrest, hf⟩ := crash_next K torn cc B A'.length D[k] (D.drop (k + 1)) (by rw [← hR.rest, hdk])
      obtain ⟨j, hj⟩ : ∃ j, j = A'.length + B0.length := ⟨_, rfl⟩
      have hjl : j < (A' ++ (B0 ++ s :: B1)).length := by
        rw [hj]; simp only [List.length_append, List.length_cons]; omega
      obtain ⟨_, b, off, rfl, _, cx⟩ := hR.rd k D[k] (List.getElem?_eq_getElem hlt)
      rw [hd, ← hj] at cx
      have c0 := hR.din.c0
      obtain ⟨n, hn⟩ : ∃ n, n = (A' ++ (B0 ++ s :: B1)).length := ⟨_, rfl⟩
      have hn4 : n ≤ 4096 := by rw [hn]; exact hR.din.hi
      rw [← hn] at c0
      have hjn : j < n := by rw [hn]; exact hjl
      have hsj : (A' ++ (B0 ++ s :: B1))[j] = s := by
        have h1 : A'.length + B0.length < (A' ++ (B0 ++ s :: B1)).length := by rw [← hj]; exact hjl
        have h2 := get_here A' B0 B1 s h1
        simp only [← hj] at h2
        exact h2
      obtain ⟨a, ha⟩ : ∃ a, a = amount K torn cc k := ⟨_, rfl⟩
      have ha128 : a ≤ 128 := by rw [ha]; exact amount_le _ _ _ _ hcl
      have HST : Hid (Calls Try.prog 34 #[.pointer (some ⟨q, j * 257, none⟩), .int .i64 (a : Nat)] wr (fun e w2 => e = .returned (.tuple #[]) ∧ Hid (∃ A B, CrAt p q c w w2 (some ⟨b, off, none⟩) D K torn cc (crashSecs K torn cc 0 L) (k + 1) A B))) := by
        refine (settle_at hR.din j hjl a ha128).mono ?_
        rintro e w2 ⟨rfl, hd2, hk2⟩
        rw [hsj, ha, hj] at hd2
        exact ⟨rfl, _, _, hR.step rfl hrest (hf k) hd2 hk2 HX.out⟩
      have HKW : Hid (RdB wr A K) := rdb_mod HK.out hR.mod HA.out
      have HAM := Lib.hid ha
      clear hdk hd hrest hf hj hjl hR HR hn hsj ha
      by_cases b1 : (k : Int) = torn
      · have hav : a = cc := by rw [HAM.out]; unfold amount; rw [if_pos b1]
        subst hav
        subst b1
        have hcv := HCV.out
        by_cases b2 : cut < 0
        · rw [if_pos b2] at hcv
          go_wp2_with fail
          rw [← hcv]
          refine HST.out.mono ?_
          rintro e w2 ⟨rfl, HNEXT⟩
          go_wp2_with fail
          go_roundw
          case rel => exact ⟨k + 1, by omega, by go_num, HNEXT⟩
          case measure => simp [intOf]; omega
        · rw [if_neg b2] at hcv
          by_cases b3 : 128 < cut
          · rw [if_pos b3] at hcv
            go_wp2_with fail
            rw [← hcv]
            refine HST.out.mono ?_
            rintro e w2 ⟨rfl, HNEXT⟩
            go_wp2_with fail
            go_roundw
            case rel => exact ⟨k + 1, by omega, by go_num, HNEXT⟩
            case measure => simp [intOf]; omega
          · rw [if_neg b3] at hcv
            go_wp2_with fail
            rw [← hcv]
            refine HST.out.mono ?_
            rintro e w2 ⟨rfl, HNEXT⟩
            go_wp2_with fail
            go_roundw
            case rel => exact ⟨k + 1, by omega, by go_num, HNEXT⟩
            case measure => simp [intOf]; omega
      · by_cases b4 : k < K.length
        · obtain ⟨ad, rfl, _, ck⟩ := HKW.out k K[k] (List.getElem?_eq_getElem b4)
          obtain ⟨y, hy⟩ : ∃ y, y = K[k] := ⟨_, rfl⟩
          rw [← hy] at ck
          have hav : a = if y then 128 else 0 := by
            rw [HAM.out]; unfold amount; rw [if_neg b1, List.getD_eq_getElem?_getD, List.getElem?_eq_getElem b4, ← hy]; rfl
          clear hy
          cases y with
          | true =>
            obtain rfl : a = 128 := hav
            go_wp2_with fail
            refine HST.out.mono ?_
            rintro e w2 ⟨rfl, HNEXT⟩
            go_wp2_with fail
            go_roundw
            case rel => exact ⟨k + 1, by omega, by go_num, HNEXT⟩
            case measure => simp [intOf]; omega
          | false =>
            obtain rfl : a = 0 := hav
            go_wp2_with fail
            refine HST.out.mono ?_
            rintro e w2 ⟨rfl, HNEXT⟩
            go_wp2_with fail
            go_roundw
            case rel => exact ⟨k + 1, by omega, by go_num, HNEXT⟩
            case measure => simp [intOf]; omega
        · have hav : a = 0 := by
            rw [HAM.out]; unfold amount; rw [if_neg b1, List.getD_eq_getElem?_getD, List.getElem?_eq_none (by omega)]; rfl
          subst hav
          go_wp2_with fail
          refine HST.out.mono ?_
          rintro e w2 ⟨rfl, HNEXT⟩
          go_wp2_with fail
          go_roundw
          case rel => exact ⟨k + 1, by omega, by go_num, HNEXT⟩
          case measure => simp [intOf]; omega
    · obtain rfl : k = D.length := by omega
      have HEND : Hid (Turned p q w ((dk L c).crash K torn cut) wr) := by
        have e0 := hR.rest
        rw [List.drop_length] at e0
        have e1 := hR.fin
        rw [crash_clean K torn cc B D.length A'.length e0.symm] at e1
        refine ⟨crashSecs K torn cc 0 L, c, ?_, ?_, hR.mod⟩
        · rw [← e1]; exact hR.din
        · rw [HCC.out]; exact crash_all K torn cut L c HH.out.ok
      clear hR HR
      go_wp2_with fail
      refine bodyPost_end (results_none rfl _ _ _) rfl ?_
      exact ⟨rfl, HEND.out⟩
end Go.Proofs.Ytenedgapjbmpgaa

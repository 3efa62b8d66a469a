/-
  OWN WORK. SHA-256: what a stream's Write does.
-/
import Derived.Test.YtjeclmbableacaaDoorShSum
namespace Go.Proofs.YtjeclmbableacaaDoor
open Go.RowKit Sh

/-- The two calls that take a whole block in. -/
theorem block_calls (w : World) (B : Nat) (h : List Int) (hh : h.length = 8) (x : List UInt8) (hx : x.length = 64) (b : List UInt8) (_hb : b.length = 64) (hd al : Nat) (hB : Blk w B 66 (Cells h b hd al)) (hK : KAt w) (hG : 0 < B)
    (A : Option Addr) (cap : Nat) (hc : 64 ≤ cap) (hr : ∀ W', Below w.heap.size w W' → Rd W' A x) :
    Hid (∀ W', Below w.heap.size w W' → Calls Tryd.prog 48 #[.slice A 64 cap] W' fun e w' => e = .returned (.agg (words32 (wordsOf x)).toArray) ∧ Hid (Below W'.heap.size W' w') ∧ Hid (Below w.heap.size w w')) ∧
    Hid (∀ W', Below w.heap.size w W' → Calls Tryd.prog 47 #[.pointer (some ⟨B, 0, none⟩), .agg (words32 (wordsOf x)).toArray] W' fun e w' => e = .returned (.tuple #[]) ∧ Hid (Blk w' B 66 (Cells (Sh.mix h (wordsOf x)) b hd al)) ∧ Hid (Below w.heap.size w W') ∧ Hid (Keeps W' w' B)) := by
  constructor
  · intro W' hW
    have := words_any x (by omega) A cap (by omega) W' (hr W' hW)
    rw [hx] at this
    exact this.mono fun e w' ⟨h1, h2⟩ => ⟨h1, h2, hW.trans (h2.mono hW.size)⟩
  · intro W' hW
    refine (mix_any h hh (Lib.byteCells b ++ [.int .i64 hd, .int .i64 al]) (wordsOf x) (wordsOf_length _) B 66 W' (hB.below hW hB.lt) (hK.below hW hK.pos) hG).mono ?_
    rintro e w' ⟨h1, h2, h3⟩
    exact ⟨h1, h2, hW, h3⟩
theorem copied {h : List Int} (hh : h.length = 8) (b q : List UInt8) (hd al : Nat) (hb : b.length = 64) (hq : q.length < 64) : Go.splice (Cells h b hd al) 8 (Lib.byteCells q) = Cells h (q ++ b.drop q.length) hd al := by
  have := Cells.splice (hd := hd) (al := al) hh b q 0 (by omega)
  simpa using this
theorem copied_cell {h : List Int} {b q : List UInt8} {hd al : Nat} {w : World} {B T : Nat} (hB : Blk w B T (Go.splice (Cells h b hd al) 8 (Lib.byteCells q))) (hh : h.length = 8) (hb : b.length = 64) (hq : q.length < 64) : ∃ x, w.cell? ⟨B, 72, none⟩ = some x := by
  rw [copied hh b q hd al hb hq] at hB
  exact ⟨_, Cells.held hB hh (by rw [List.length_append, List.length_drop]; omega)⟩

/-- Where the writing stands: so many blocks are mixed in, q is left. -/
structure WAt (tot : List UInt8) (B k : Nat) (A : Option Addr) (q : List UInt8) (w0 wr : World) : Prop where
  blk : ∃ b hd, b.length = 64 ∧ Blk wr B 66 (Cells (hashTo tot k) b hd tot.length)
  le : 64 * k ≤ tot.length
  qe : q = tot.drop (64 * k)
  rd : Rd w0 A q
  ne : 0 < q.length → A.map (·.block) ≠ some B
  k : KAt wr
  keeps : Keeps w0 wr B
theorem WAt.drew {tot : List UInt8} {B k : Nat} {A : Option Addr} {q : List UInt8} {w0 wr : World} (x : WAt tot B k A q w0 wr) : WAt tot B k A q w0 wr.drew :=
  ⟨x.blk, x.le, x.qe, x.rd, x.ne, x.k, x.keeps.drew⟩
/-- One block more. -/
theorem WAt.mixed {tot : List UInt8} {B k : Nat} {A : Option Addr} {q : List UInt8} {w0 wr wm w' : World} (x : WAt tot B k A q w0 wr) (h64 : 64 ≤ q.length) (cap : Nat) (hc : q.length ≤ cap) (hG : 0 < B)
    (hm : Below wr.heap.size wr wm) (hk : Keeps wm w' B) (b : List UInt8) (hd : Nat) (hb : b.length = 64)
    (hB : Blk w' B 66 (Cells (Sh.mix (hashTo tot k) (wordsOf (q.take 64))) b hd tot.length)) : WAt tot B (k + 1) (cutA A 64 cap) (q.drop 64) w0 w' := by
  have hl : q.length = tot.length - 64 * k := by rw [x.qe, List.length_drop]
  refine ⟨⟨b, hd, hb, ?_⟩, by have := x.le; omega, ?_, x.rd.cut 64 cap hc, cutA_block _ _ _ _ _ x.ne, (x.k.below hm x.k.pos).keeps hk hG, (x.keeps.trans (Keeps.of_below hm)).trans hk⟩
  · rw [hashTo, ← x.qe]; exact hB
  · rw [x.qe, List.drop_drop]; congr 1
/-- What is left goes into the rest. -/
theorem WAt.close {tot : List UInt8} {B k : Nat} {A : Option Addr} {q : List UInt8} {w0 wr w' : World} (x : WAt tot B k A q w0 wr) (h64 : q.length < 64) (b : List UInt8) (hb : b.length = 64)
    (hB : Blk w' B 66 (Cells (hashTo tot k) (q ++ b.drop q.length) q.length tot.length)) : St w' B tot := by
  have hl : q.length = tot.length - 64 * k := by rw [x.qe, List.length_drop]
  have hle := x.le
  have hk : tot.length / 64 = k := by omega
  have hm : tot.length % 64 = q.length := by omega
  have hr : rest tot = q := by unfold Sh.rest; rw [hk, ← x.qe]
  refine ⟨b.drop q.length, ?_, ?_⟩
  · rw [hr, List.length_drop]; omega
  · rw [hk, hr, hm]; exact hB

set_option maxHeartbeats 2000000 in
set_option maxRecDepth 100000 in
theorem write_any (w : World) (B : Nat) (l r : List UInt8) (A : Option Addr) (cap : Nat) (hs : St w B l) (hK : KAt w) (hG : 0 < B) (hA : 0 < r.length → A.map (·.block) ≠ some B) (hr : Rd w A r) (hcap : r.length ≤ cap)
    (hl : l.length + r.length ≤ 1099511627776) :
    Calls Tryd.prog 42 #[.pointer (some ⟨B, 0, none⟩), .slice A r.length cap] w fun e w' => e = .returned (.tuple #[]) ∧ St w' B (l ++ r) ∧ Keeps w w' B := by
  have HS : Hid (St w B l) := hs
  have HK : Hid (KAt w) := hK
  have HR : Hid (Rd w A r) := hr
  have HNE := Lib.hid hA
  have hlt := hs.lt
  have hr64 : (rest l).length < 64 := by rw [rest_length]; omega
  have HTOT : Hid ((l ++ r).length = l.length + r.length) := List.length_append
  have hh8 := hashTo_length l (l.length / 64)
  obtain ⟨junk, hj, hB⟩ := hs
  rw [← rest_length] at hB
  have hb64 : (rest l ++ junk).length = 64 := by rw [List.length_append]; exact hj
  have c73 := Cells.all hB hh8 hb64
  have f73 := hB.frozen 73
  have H1 : Hid (Blk (w.setCell ⟨B, 73, none⟩ (.int .i64 ((l.length + r.length : Nat) : Int))) B 66 (Cells (hashTo l (l.length / 64)) (rest l ++ junk) (rest l).length (l.length + r.length))) := Cells.setAll hB hh8 hb64 _
  have c72 : (w.setCell ⟨B, 73, none⟩ (.int .i64 ((l.length + r.length : Nat) : Int))).cell? ⟨B, 72, none⟩ = some (.int .i64 (rest l).length) := Cells.held H1.out hh8 hb64
  have HH8 := Lib.hid hh8
  have HB64 := Lib.hid hb64
  clear hK hA hr hB hh8 hb64
  go_enter Tryd.func42, Tryd.ntmps42
  go_upto_region 1 with (fail)
  refine wp_world (fun W => Hid (Blk W B 66 (Cells (hashTo l (l.length / 64)) (rest l ++ junk) (rest l).length (l.length + r.length))) ∧ Hid (Keeps w W B)) ?_ ?_
  · exact ⟨by show Blk _ _ _ _; simpa using H1.out, (Keeps.refl w B).setCell _ _⟩
  rintro W ⟨HB, HKP⟩
  clear c73 f73 c72 H1
  have c72 := Cells.held HB.out HH8.out HB64.out
  have f72 := HB.out.frozen 72
  have HH : Hid (hashTo (l ++ r) (l.length / 64) = hashTo l (l.length / 64)) := hashTo_append l r _ (by omega)
  have HKW : Hid (KAt W) := HK.out.keeps HKP.out hG
  go_upto_if 18 with (fail)
  go_cut [1] (fun t1 wx => ∃ k A' q c, t1 = .slice A' (List.length q) c ∧ q.length ≤ c ∧ Hid (WAt (l ++ r) B k A' q w wx))
  case first =>
    by_cases h0 : 0 < (rest l).length
    · obtain ⟨n, hn⟩ : ∃ n, n = Nat.min r.length (64 - (rest l).length) := ⟨_, rfl⟩
      have hn1 : n ≤ r.length := by rw [hn]; exact Nat.min_le_left _ _
      have hn2 : n ≤ 64 - (rest l).length := by rw [hn]; exact Nat.min_le_right _ _
      have HN : Hid (n = r.length ∨ n = 64 - (rest l).length) := by show _ ∨ _; rw [hn]; simp only [Nat.min_def]; split <;> omega
      have HNM : Hid ((Lib.byteCells (r.take n)).length = Nat.min r.length (64 - (rest l).length)) := by show _ = _; rw [Lib.byteCells_length, List.length_take, ← hn]; omega
      have HLT : Hid ((r.take n).length = n) := by show _ = _; rw [List.length_take]; omega
      have HLN : Hid ((Lib.byteCells (r.take n)).length = n) := by show _ = _; rw [Lib.byteCells_length]; exact HLT.out
      clear hn
      have HFIT : Hid (8 + (rest l).length + (Lib.byteCells (r.take n)).length ≤ (Cells (hashTo l (l.length / 64)) (rest l ++ junk) (rest l).length (l.length + r.length)).length) := by
        show _ ≤ _
        rw [Cells.len HH8.out HB64.out, Lib.byteCells_length, HLT.out]; omega
      have HPOS : Hid (0 < (Lib.byteCells (r.take n)).length → (some (⟨B, 8 + (rest l).length, none⟩ : Addr) = some ⟨B, 8 + (rest l).length, none⟩ ∧ ∃ ad, A = some ad ∧ ∀ j v, (Lib.byteCells (r.take n))[j]? = some v → W.drew.cell? (ad.add j) = some v)) := by
        intro hp
        rw [Lib.byteCells_length, HLT.out] at hp
        obtain ⟨b, off, hA, hb, hc⟩ := HR.out (by omega)
        refine ⟨rfl, _, hA, fun j v hv => ?_⟩
        simp only [Lib.byteCells, List.getElem?_map, Option.map_eq_some_iff] at hv
        obtain ⟨x, hx, rfl⟩ := hv
        rw [add_plain]
        have hx' : r[j]? = some x := by
          rw [List.getElem?_take] at hx
          split at hx
          · exact hx
          · cases hx
        have hne : b ≠ B := by
          intro e
          apply HNE.out (by omega)
          rw [hA, e]; rfl
        exact (HKP.out.cell (p := ⟨b, off + j, none⟩) hb hne).trans (hc j x hx')
      have hsl := fun W => arr64_l W B 8 (rest l).length hr64
      go_upto_region 2 with (fail)
      go_region_law (refine step_copy_keep rfl (.tmp 26) (.tmp 27) 23 23 rfl 5 Tryd.underlying23 (by kernel_rfl) (some ⟨B, 8 + (rest l).length, none⟩) A (64 - (rest l).length) (64 - (rest l).length) r.length cap rfl rfl B (8 + (rest l).length) (Cells (hashTo l (l.length / 64)) (rest l ++ junk) (rest l).length (l.length + r.length)) 66 (Blk.drew HB.out) (Lib.byteCells (r.take n)) HNM.out HPOS.out n HLN.out HFIT.out (bytes_one _) ?_; intro W2 HB2 HK2)
      have HB3 : Hid (Blk W2 B 66 (Cells (hashTo l (l.length / 64)) (rest l ++ (r.take n ++ junk.drop n)) (rest l).length (l.length + r.length))) := by
        have := HB2.out
        rw [Cells.splice HH8.out _ _ _ (by rw [HB64.out, HLT.out]; omega), HLT.out, List.take_left, List.drop_append, List.drop_of_length_le (by omega : (rest l).length ≤ (rest l).length + n), Nat.add_sub_cancel_left, List.nil_append] at this
        exact this
      have HB64b : Hid ((rest l ++ (r.take n ++ junk.drop n)).length = 64) := by
        show _ = _
        rw [List.length_append, List.length_append, HLT.out, List.length_drop]; omega
      have c72b := Cells.held HB3.out HH8.out HB64b.out
      have f72b := HB3.out.frozen 72
      have H4 : Hid (Blk (W2.setCell ⟨B, 72, none⟩ (.int .i64 ((rest l).length + n))) B 66 (Cells (hashTo l (l.length / 64)) (rest l ++ (r.take n ++ junk.drop n)) ((rest l).length + n) (l.length + r.length))) := by
        have := Cells.setHeld HB3.out HH8.out HB64b.out ((rest l).length + n)
        show Blk _ _ _ _
        rw [Int.natCast_add] at this
        exact this
      have HK4 : Hid (Keeps w (W2.setCell ⟨B, 72, none⟩ (.int .i64 ((rest l).length + n))) B) := (HKP.out.drew.trans HK2.out).setCell _ _
      have hcut := fun W => sl_l W A r.length cap n hn1
      clear HB2 HB3 hsl HPOS HNM HFIT c72 f72
      by_cases hfull : (rest l).length + n < 64
      · have HF : Hid (St (W2.setCell ⟨B, 72, none⟩ (.int .i64 ((rest l).length + n))) B (l ++ r)) := by
          have hnr : n = r.length := by rcases HN.out with h | h <;> omega
          have hx : (l ++ r).length / 64 = l.length / 64 := by rw [HTOT.out]; have := rest_length l; omega
          have hm : (l ++ r).length % 64 = (rest l).length + n := by rw [HTOT.out]; have := rest_length l; omega
          have hrr : rest (l ++ r) = rest l ++ r := by
            unfold Sh.rest
            rw [hx, List.drop_append_of_le_length (by omega)]
          refine ⟨junk.drop n, ?_, ?_⟩
          · rw [hrr, List.length_append, List.length_drop]; omega
          · rw [hrr, hx, HH.out, hm, HTOT.out, List.append_assoc]
            have := H4.out
            rw [List.take_of_length_le (by omega)] at this
            exact this
        clear H4
        go_wp2_with fail
        exact bodyPost_ret (v := .tuple #[]) (results_none rfl _ _ _) rfl ⟨rfl, HF.out, HK4.out⟩
      · have hfl : (rest l).length + n = 64 := by omega
        have HFL := Lib.hid hfl
        have hKW : KAt (W2.setCell ⟨B, 72, none⟩ (.int .i64 ((rest l).length + n))) := HK.out.keeps HK4.out hG
        have hb64b : (rest l ++ r.take n).length = 64 := by rw [List.length_append, HLT.out]; exact hfl
        have hj0 : rest l ++ (r.take n ++ junk.drop n) = rest l ++ r.take n := by
          rw [List.drop_of_length_le (by omega), List.append_nil]
        have H5 := H4.out
        rw [hj0] at H5
        obtain ⟨HCW, HCM⟩ := block_calls _ B (hashTo l (l.length / 64)) HH8.out (rest l ++ r.take n) hb64b (rest l ++ r.take n) hb64b ((rest l).length + n) (l.length + r.length) H5 hKW hG (some ⟨B, 8, none⟩) 64 (Nat.le_refl _) (fun W' hW => by
          have := Cells.rd (H5.below hW H5.lt) HH8.out 64
          rw [List.take_of_length_le (by omega)] at this
          exact this)
        clear H4 hKW hj0 H5
        have HKW2 : Hid (Keeps w (W2.setCell ⟨B, 72, none⟩ (.int .i64 ((rest l).length + n))) B) := HK4
        go_upto_region 6 with (fail)
        go_region_with (first
          | (go_at_call 48; refine (HCW.out _ ?_).mono ?_; exact (Below.refl _ _).drew; rintro e w5 ⟨rfl, hb5, hc5⟩)
          | (go_at_call 47; refine (HCM.out _ ?_).mono ?_; (first | assumption | exact (hc5 : Below _ _ _)); rintro e w6 ⟨rfl, hb6, hc6, hk6⟩))
        go_wp2_with fail
        go_meet
        have hk7 : Keeps w w6 B := (HK4.out.trans (Keeps.of_below hc6)).trans hk6
        refine ⟨l.length / 64 + 1, cutA A n cap, r.drop n, cap - n, by rw [List.length_drop], by rw [List.length_drop]; omega, ⟨⟨rest l ++ r.take n, (rest l).length + n, hb64b, ?_⟩, ?_, ?_, HR.out.cut n cap hcap, cutA_block _ _ _ _ _ HNE.out, HK.out.keeps hk7 hG, hk7⟩⟩
        · have e : ((l ++ r).drop (64 * (l.length / 64))).take 64 = rest l ++ r.take n := by
            rw [List.drop_append_of_le_length (by omega), List.take_append]
            show (rest l).take 64 ++ r.take (64 - (rest l).length) = _
            rw [List.take_of_length_le (by omega), show 64 - (rest l).length = n by omega]
          rw [hashTo, e, HH.out, HTOT.out]
          exact hb6
        · rw [HTOT.out]; have := rest_length l; omega
        · have e : 64 * (l.length / 64 + 1) = l.length + n := by have := rest_length l; omega
          rw [e, List.drop_length_add_append]
    · have HW : Hid (WAt (l ++ r) B (l.length / 64) A r w W) := by
        refine ⟨⟨rest l ++ junk, (rest l).length, HB64.out, ?_⟩, by rw [HTOT.out]; omega, ?_, HR.out, HNE.out, HKW.out, HKP.out⟩
        · rw [HH.out, HTOT.out]; exact HB.out
        · have h0' : (rest l).length = 0 := by omega
          rw [rest_length] at h0'
          rw [List.drop_append, List.drop_of_length_le (by omega), show 64 * (l.length / 64) - l.length = 0 by omega]
          rfl
      go_wp2_with fail
      go_meet
      exact ⟨_, _, _, _, rfl, hcap, HW⟩
  case rest =>
    obtain ⟨k, A', q, c, rfl, hqc, HW⟩ := hcut
    clear HKP HKW f72 c72 HB
    go_wp2_with fail
    go_loopw [1] (fun t1 wr => ∃ k A' q c, t1 = .slice A' (List.length q) c ∧ q.length ≤ c ∧ Hid (WAt (l ++ r) B k A' q w wr)) (fun t1 _ => lenOf t1)
    case atStart => exact ⟨_, _, _, _, rfl, hqc, HW⟩
    case round =>
      obtain ⟨k, A', q, c, rfl, hqc, HW⟩ := hrel
      by_cases h64 : 64 ≤ q.length
      · have hx64 : (q.take 64).length = 64 := by rw [List.length_take]; omega
        have HCALLS : ∃ b hd, b.length = 64 ∧ Hid (∀ W', Below wr.heap.size wr W' → Calls Tryd.prog 48 #[.slice A' 64 c] W' fun e w' => e = .returned (.agg (words32 (wordsOf (q.take 64))).toArray) ∧ Hid (Below W'.heap.size W' w') ∧ Hid (Below wr.heap.size wr w')) ∧
            Hid (∀ W', Below wr.heap.size wr W' → Calls Tryd.prog 47 #[.pointer (some ⟨B, 0, none⟩), .agg (words32 (wordsOf (q.take 64))).toArray] W' fun e w' => e = .returned (.tuple #[]) ∧ Hid (Blk w' B 66 (Cells (Sh.mix (hashTo (l ++ r) k) (wordsOf (q.take 64))) b hd (l ++ r).length)) ∧ Hid (Below wr.heap.size wr W') ∧ Hid (Keeps W' w' B)) := by
          obtain ⟨b, hd, hb, hB⟩ := HW.out.blk
          refine ⟨b, hd, hb, block_calls wr B _ (hashTo_length _ _) (q.take 64) hx64 b hb hd _ hB HW.out.k hG A' c (by omega) (fun W' hW => ?_)⟩
          exact ((HW.out.rd.keeps HW.out.keeps HW.out.ne).below hW).take 64
        obtain ⟨b, hd, hb, HCW, HCM⟩ := HCALLS
        have HBL := Lib.hid hb
        have hsl := fun W => sl_h W A' q.length c 64 (by omega)
        have hcut : ∀ W, (Instr.sliceAt 23 (.slice A' q.length c) (some (.int .i64 64)) none none).run Tryd.prog W = .ok (.slice (cutA A' 64 c) (q.length - 64) (c - 64)) W := fun W => sl_l W A' q.length c 64 h64
        clear hx64 hb
        go_upto_region 8 with (fail)
        go_region_with (first
          | (go_at_call 48; refine (HCW.out _ ?_).mono ?_; exact (Below.refl _ _).drew; rintro e w5 ⟨rfl, hb5, hc5⟩)
          | (go_at_call 47; refine (HCM.out _ ?_).mono ?_; (first | assumption | exact (hc5 : Below _ _ _)); rintro e w6 ⟨rfl, hb6, hc6, hk6⟩))
        go_wp2_with fail
        go_roundw
        case rel => exact ⟨k + 1, cutA A' 64 c, q.drop 64, c - 64, by rw [List.length_drop], by rw [List.length_drop]; omega, HW.out.mixed h64 c hqc hG hc6 hk6 b hd HBL.out hb6⟩
        case measure => simp [lenOf]; omega
      · obtain ⟨b, hd, hb, hB⟩ := HW.out.blk
        have HB0 := Lib.hid hB
        have hq64 : q.length < 64 := by omega
        have HNM : Hid ((Lib.byteCells q).length = Nat.min q.length 64) := by show _ = _; rw [Lib.byteCells_length]; exact (Nat.min_eq_left (by omega)).symm
        have HLN : Hid ((Lib.byteCells q).length = q.length) := Lib.byteCells_length q
        have HFIT : Hid (8 + (Lib.byteCells q).length ≤ (Cells (hashTo (l ++ r) k) b hd (l ++ r).length).length) := by
          show _ ≤ _
          rw [Cells.len (hashTo_length _ _) hb, Lib.byteCells_length]; omega
        have HPOS : Hid (0 < (Lib.byteCells q).length → (some (⟨B, 8, none⟩ : Addr) = some ⟨B, 8, none⟩ ∧ ∃ ad, A' = some ad ∧ ∀ j v, (Lib.byteCells q)[j]? = some v → wr.cell? (ad.add j) = some v)) := by
          intro hp
          rw [Lib.byteCells_length] at hp
          obtain ⟨b, off, hA, _, hc⟩ := (HW.out.rd.keeps HW.out.keeps HW.out.ne) hp
          refine ⟨rfl, _, hA, fun j v hv => ?_⟩
          simp only [Lib.byteCells, List.getElem?_map, Option.map_eq_some_iff] at hv
          obtain ⟨x, hx, rfl⟩ := hv
          rw [add_plain]
          exact hc j x hx
        have HBL := Lib.hid hb
        clear hB hb
        go_upto_region 10 with (fail)
        go_wp2_with (refine wpList_copy_keep rfl (.tmp 70) (.tmp 71) 23 23 rfl 5 Tryd.underlying23 (by kernel_rfl) (some ⟨B, 8, none⟩) A' 64 64 q.length c rfl rfl B 8 (Cells (hashTo (l ++ r) k) b hd (l ++ r).length) 66 HB0.out (Lib.byteCells q) HNM.out HPOS.out q.length HLN.out HFIT.out (bytes_one _) ?_; intro W2 HB2 HK2; obtain ⟨x72, hx72⟩ : ∃ x, W2.cell? ⟨B, 72, none⟩ = some x := copied_cell HB2.out (hashTo_length _ _) HBL.out hq64; have hf72 : W2.frozen? ⟨B, 72, none⟩ = false := HB2.out.frozen 72)
        go_end0
        have hbb : (q ++ b.drop q.length).length = 64 := by rw [List.length_append, List.length_drop, HBL.out]; omega
        have hB2 : Blk W2 B 66 (Cells (hashTo (l ++ r) k) (q ++ b.drop q.length) hd (l ++ r).length) := by
          rw [← copied (hashTo_length _ _) b q hd _ HBL.out hq64]; exact HB2.out
        exact ⟨rfl, HW.out.close hq64 b HBL.out (Cells.setHeld hB2 (hashTo_length _ _) hbb q.length), (HW.out.keeps.trans HK2.out).setCell _ _⟩
end Go.Proofs.YtjeclmbableacaaDoor

/-
  OWN WORK. OpDec
-/
import Derived.Test.YtmcbpgbiephllaaK04

namespace Go.Proofs.Ytmcbpgbiephllaa
open Go.RowKit Rc
open St (Opn)
namespace Op
theorem below_keeps {w0 w w' : World} {g : Nat} (h : Below w0.heap.size w0 w) (hk : Keeps w w' g) (hg : w0.heap.size ≤ g) : Below w0.heap.size w0 w' :=
  ⟨hk.os.trans h.os, hk.tape.trans h.tape, hk.output.trans h.output, Nat.le_trans h.size hk.size, fun b hb => (hk.block b (Nat.lt_of_lt_of_le hb h.size) (fun e => by injection e with e; omega)).trans (h.block b hb)⟩
theorem long_rds (k : Int) (s : Co.Rs) : ((hasPath k && decide (200 < (rds k s).1.path.length)) || (hasTo k && decide (200 < (rds k s).1.dest.length)) || (hasData k && decide (600 < (rds k s).1.data.length))) = decide (Long (rds k s).1) := by
  unfold Long rds fld
  dsimp only
  cases hasPath k <;> cases hasTo k <;> cases hasData k <;> simp [or_assoc, Bool.or_assoc]
def DAns (L : List UInt8) (w : World) (e : Ending) (w' : World) : Prop := ∃ X c, e = .returned (.tuple #[opV (dec L).1 (.slice X (dec L).1.data.length c), .int .i64 ((dec L).2 : Nat)]) ∧ (dec L).1.data.length ≤ c ∧ Rd w' X (dec L).1.data ∧ Below w.heap.size w w'
set_option maxHeartbeats 4000000 in
set_option maxRecDepth 100000 in
theorem decode_any {R : RSaid codecFns} (hM : RMake R) (w : World) (A : Option Addr) (L : List UInt8) (cap : Nat) (hr : Rd w A L) (hc : L.length ≤ cap) (hl : L.length ≤ 140737488351232) :
    Calls Try.prog 22 #[.slice A L.length cap] w (DAns L w) := by
  obtain ⟨k0, s1, h1⟩ : ∃ a s, Co.num 1 ⟨L, 0⟩ = (a, s) := ⟨_, _, rfl⟩
  have HRD : Hid (reads L = ({ (rds (k0 : Nat) s1).1 with kind := (k0 : Nat) }, (rds (k0 : Nat) s1).2)) := by show _ = _; rw [reads_rds, h1]
  have HNO : Hid (¬ Kd (k0 : Nat) → dec L = (zero, 30)) := fun h => by
    unfold dec
    rw [HRD.out, if_pos h]
  have HBAD : Hid (Kd (k0 : Nat) → (Co.fin (rds (k0 : Nat) s1).2 ≠ 0 ∨ Long (rds (k0 : Nat) s1).1) → dec L = (zero, 12)) := fun h h2 => by
    unfold dec
    rw [HRD.out, if_neg (fun h' => h' h)]
    exact if_pos h2
  have HYES : Hid (Kd (k0 : Nat) → Co.fin (rds (k0 : Nat) s1).2 = 0 → ¬ Long (rds (k0 : Nat) s1).1 → dec L = ({ (rds (k0 : Nat) s1).1 with kind := (k0 : Nat) }, 0)) := fun h h2 h3 => by
    unfold dec
    rw [HRD.out, if_neg (fun h' => h' h)]
    exact if_neg (fun h' => h'.elim (fun h9 => h9 h2) h3)
  have HLG := Lib.hid (long_rds (k0 : Nat) s1)
  have H1E := Lib.hid h1
  obtain ⟨W0, hW0⟩ : ∃ W0, W0 = w.alloc (.cells #[.int .i64 0, .string ⟨#[]⟩, .string ⟨#[]⟩, .int .i64 0, .int .i64 0, .int .i64 0, .int .u64 0, .int .i64 0, .slice none 0 0] 25) := ⟨_, rfl⟩
  obtain ⟨g, hg⟩ : ∃ g, g = w.heap.size := ⟨_, rfl⟩
  have HZ0 : Hid (Blk W0 g 25 [.int .i64 0, .string ⟨#[]⟩, .string ⟨#[]⟩, .int .i64 0, .int .i64 0, .int .i64 0, .int .u64 0, .int .i64 0, .slice none 0 0]) := by show Blk _ _ _ _; rw [hW0, hg]; exact Blk.new w _ _
  have hb0 : Below w.heap.size w W0 := by rw [hW0]; exact below_new w _
  have HB0 := Lib.hid hb0
  have HR0 : Hid (Rd W0 A L) := hr.below hb0
  have HAG : Hid (0 < L.length → ∀ b, A.map (·.block) = some b → b < g) := fun h0 b hb => by
    obtain ⟨b', off, rfl, hlt, _⟩ := hr h0
    simp at hb
    omega
  have HGG : Hid (w.heap.size ≤ g) := Nat.le_of_eq hg.symm
  have HGW : Hid (g < W0.heap.size) := HZ0.out.lt
  have HN := Lib.hid (hM.one W0 A L cap HR0.out hc hl)
  clear h1 hr hc hl hb0 HRD hM
  go_enter Try.func22, Try.ntmps22
  go_upto_region 1 with (fail)
  rw [← hW0, ← hg]
  clear hW0 hg
  go_wp2_with fail
  refine HN.out.mono ?_
  rintro e w1 ⟨a, rfl, hone⟩
  have H1 : Hid (OneP R (.pointer (some a)) A L W0 ⟨L, 0⟩ (fun b => b < W0.heap.size) w1) := OneP.of_one hone.out
  have HZ1 : Hid (Blk w1 g 25 [.int .i64 0, .string ⟨#[]⟩, .string ⟨#[]⟩, .int .i64 0, .int .i64 0, .int .i64 0, .int .u64 0, .int .i64 0, .slice none 0 0]) := HZ0.out.below (OneP.low H1.out) HZ0.out.lt
  clear hone HN HZ0
  go_wp2_with fail
  refine (OneP.byte rfl H1.out H1E.out).mono ?_
  rintro e w2 ⟨rfl, H2, hk2⟩
  have HZ2 : Hid (Blk w2 g 25 [.int .i64 0, .string ⟨#[]⟩, .string ⟨#[]⟩, .int .i64 0, .int .i64 0, .int .i64 0, .int .u64 0, .int .i64 0, .slice none 0 0]) := (hk2.out g HGW.out).trans HZ1.out
  clear hk2 H1 HZ1 H1E
  go_wp2_with fail
  refine (asked_any (k0 : Nat) w2).mono ?_
  rintro e w3 ⟨rfl, hb3⟩
  have H3 : Hid (OneP R (.pointer (some a)) A L W0 s1 (fun b => b < W0.heap.size) w3) := H2.out.below hb3
  have HZ3 : Hid (Blk w3 g 25 [.int .i64 0, .string ⟨#[]⟩, .string ⟨#[]⟩, .int .i64 0, .int .i64 0, .int .i64 0, .int .u64 0, .int .i64 0, .slice none 0 0]) := HZ2.out.below hb3 HZ2.out.lt
  clear hb3 H2 HZ2
  by_cases hkd : Kd (k0 : Nat)
  · have HKD := Lib.hid hkd
    have ha : asV (k0 : Nat) = .agg #[.bool (hasPath (k0 : Nat)), .bool (hasTo (k0 : Nat)), .bool (hasFd (k0 : Nat)), .bool (hasSpan (k0 : Nat)), .bool (hasTill (k0 : Nat)), .bool (hasSnap (k0 : Nat)), .bool (hasData (k0 : Nat))] := by unfold asV asL; rw [if_pos hkd]
    have hd : decide (Kd (k0 : Nat)) = true := decide_eq_true hkd
    rw [ha, hd]
    have HRA : Hid (∀ (W : World) (Q : Nat → Prop), OneP R (.pointer (some a)) A L W0 s1 Q W → Calls Try.prog 54 #[.agg #[.bool (hasPath (k0 : Nat)), .bool (hasTo (k0 : Nat)), .bool (hasFd (k0 : Nat)), .bool (hasSpan (k0 : Nat)), .bool (hasTill (k0 : Nat)), .bool (hasSnap (k0 : Nat)), .bool (hasData (k0 : Nat))], .pointer (some a)] W (ROp R (.pointer (some a)) A L W0 (rds (k0 : Nat) s1).1 (rds (k0 : Nat) s1).2 Q W)) := fun W Q h => read_any h (k0 : Nat) HKD.out
    clear ha hd hkd HNO
    have HYES2 := Lib.hid (HYES.out HKD.out)
    have HBAD2 := Lib.hid (HBAD.out HKD.out)
    clear HYES HBAD
    obtain ⟨b0, h0⟩ : ∃ b, b = hasPath (k0 : Nat) := ⟨_, rfl⟩
    obtain ⟨b1, h1⟩ : ∃ b, b = hasTo (k0 : Nat) := ⟨_, rfl⟩
    obtain ⟨b2, h2⟩ : ∃ b, b = hasFd (k0 : Nat) := ⟨_, rfl⟩
    obtain ⟨b3, h3⟩ : ∃ b, b = hasSpan (k0 : Nat) := ⟨_, rfl⟩
    obtain ⟨b4, h4⟩ : ∃ b, b = hasTill (k0 : Nat) := ⟨_, rfl⟩
    obtain ⟨b5, h5⟩ : ∃ b, b = hasSnap (k0 : Nat) := ⟨_, rfl⟩
    obtain ⟨b6, h6⟩ : ∃ b, b = hasData (k0 : Nat) := ⟨_, rfl⟩
    rw [← h0, ← h1, ← h2, ← h3, ← h4, ← h5, ← h6] at HRA ⊢
    rw [← h0, ← h1, ← h6] at HLG
    clear h0 h1 h2 h3 h4 h5 h6
    obtain ⟨W4, hW4⟩ : ∃ W, W = w3.alloc (.cells #[.bool b0, .bool b1, .bool b2, .bool b3, .bool b4, .bool b5, .bool b6] 68) := ⟨_, rfl⟩
    obtain ⟨ga, hga⟩ : ∃ x, x = w3.heap.size := ⟨_, rfl⟩
    have HA4 : Hid (Blk W4 ga 68 [.bool b0, .bool b1, .bool b2, .bool b3, .bool b4, .bool b5, .bool b6]) := by show Blk _ _ _ _; rw [hW4, hga]; exact Blk.new w3 _ _
    have hb4 : Below w3.heap.size w3 W4 := by rw [hW4]; exact below_new w3 _
    have H4 : Hid (OneP R (.pointer (some a)) A L W0 s1 (fun b => b = ga ∨ b < W0.heap.size) W4) := H3.out.made hb4 ga (Nat.le_of_eq hga.symm) HA4.out.lt
    have HZ4 : Hid (Blk W4 g 25 [.int .i64 0, .string ⟨#[]⟩, .string ⟨#[]⟩, .int .i64 0, .int .i64 0, .int .i64 0, .int .u64 0, .int .i64 0, .slice none 0 0]) := HZ3.out.below hb4 HZ3.out.lt
    have HGA : Hid (W0.heap.size ≤ ga) := by show _ ≤ _; rw [hga]; exact (OneP.low H3.out).size
    clear hb4 H3 HZ3
    go_upto_region 4 with (fail)
    rw [← hW4, ← hga]
    clear hW4 hga
    have c0 := HA4.out.cell 0
    have c1 := HA4.out.cell 1
    have c2 := HA4.out.cell 2
    have c3 := HA4.out.cell 3
    have c4 := HA4.out.cell 4
    have c5 := HA4.out.cell 5
    have c6 := HA4.out.cell 6
    go_wp2_with fail
    refine (HRA.out W4 _ H4.out).mono ?_
    rintro e w5 ⟨X, cx, rfl, hcx, HRX, H5, hk5, HROW⟩
    have HZ5 : Hid (Blk w5 g 25 [.int .i64 0, .string ⟨#[]⟩, .string ⟨#[]⟩, .int .i64 0, .int .i64 0, .int .i64 0, .int .u64 0, .int .i64 0, .slice none 0 0]) := (hk5.out g (.inr HGW.out)).trans HZ4.out
    have HA5 : Hid (Blk w5 ga 68 [.bool b0, .bool b1, .bool b2, .bool b3, .bool b4, .bool b5, .bool b6]) := (hk5.out ga (.inl rfl)).trans HA4.out
    obtain ⟨x, hx⟩ : ∃ x, x = rds (k0 : Nat) s1 := ⟨_, rfl⟩
    have HX0 : Hid (x.1.kind = 0) := by show _ = _; rw [hx]; rfl
    rw [← hx] at HLG HYES2 HBAD2 H5 HROW hcx HRX ⊢
    clear hx hk5 HA4 HZ4 H4 HRA c0 c1 c2 c3 c4 c5 c6
    have HCX := Lib.hid hcx
    clear hcx
    obtain ⟨⟨xk, xp, xt, xf, xa, xn, xu, xs, xd⟩, s2⟩ := x
    obtain rfl : xk = 0 := HX0.out
    dsimp only at HLG HYES2 HBAD2 H5 HROW HCX HRX ⊢
    unfold opV
    dsimp only
    have HTL : Hid (∀ W, Calls Try.prog 46 #[.agg #[.bool b0, .bool b1, .bool b2, .bool b3, .bool b4, .bool b5, .bool b6], .agg #[.int .i64 0, .string (strOf xp), .string (strOf xt), .int .i64 xf, .int .i64 xa, .int .i64 xn, .int .u64 (xu : Nat), .int .i64 xs, .slice X xd.length cx]] W fun e w' => e = .returned (.bool (decide (Long ⟨0, xp, xt, xf, xa, xn, xu, xs, xd⟩))) ∧ Below W.heap.size W w') := fun W => by
      rw [← HLG.out]
      exact tooLong_any b0 b1 b2 b3 b4 b5 b6 ⟨0, xp, xt, xf, xa, xn, xu, xs, xd⟩ X xd.length cx rfl W
    clear HLG HX0
    obtain ⟨W6, hW6⟩ : ∃ W, W = w5.alloc (.cells #[.int .i64 0, .string (strOf xp), .string (strOf xt), .int .i64 xf, .int .i64 xa, .int .i64 xn, .int .u64 (xu : Nat), .int .i64 xs, .slice X xd.length cx] 25) := ⟨_, rfl⟩
    obtain ⟨go, hgo⟩ : ∃ x, x = w5.heap.size := ⟨_, rfl⟩
    have HO6 : Hid (Blk W6 go 25 [.int .i64 0, .string (strOf xp), .string (strOf xt), .int .i64 xf, .int .i64 xa, .int .i64 xn, .int .u64 (xu : Nat), .int .i64 xs, .slice X xd.length cx]) := by show Blk _ _ _ _; rw [hW6, hgo]; exact Blk.new w5 _ _
    have hb6 : Below w5.heap.size w5 W6 := by rw [hW6]; exact below_new w5 _
    have H6 : Hid (OneP R (.pointer (some a)) A L W0 s2 (fun b => b = go ∨ (b = ga ∨ b < W0.heap.size)) W6) := H5.out.made hb6 go (Nat.le_of_eq hgo.symm) HO6.out.lt
    have HZ6 : Hid (Blk W6 g 25 [.int .i64 0, .string ⟨#[]⟩, .string ⟨#[]⟩, .int .i64 0, .int .i64 0, .int .i64 0, .int .u64 0, .int .i64 0, .slice none 0 0]) := HZ5.out.below hb6 HZ5.out.lt
    have HA6 : Hid (Blk W6 ga 68 [.bool b0, .bool b1, .bool b2, .bool b3, .bool b4, .bool b5, .bool b6]) := HA5.out.below hb6 HA5.out.lt
    have HB56 : Hid (Below w5.heap.size w5 W6) := hb6
    have HGO : Hid (w5.heap.size ≤ go) := Nat.le_of_eq hgo.symm
    have HG5 : Hid (g < w5.heap.size) := HZ5.out.lt
    clear hb6 HZ5 HA5 H5
    go_upto_region 7 with (fail)
    rw [← hW6, ← hgo]
    clear hW6 hgo
    go_wp2_with fail
    refine (OneP.fin rfl H6.out rfl).mono ?_
    rintro e w7 ⟨rfl, hb7⟩
    obtain ⟨f, hf⟩ : ∃ f, f = Co.fin s2 := ⟨_, rfl⟩
    rw [← hf] at HYES2 HBAD2 ⊢
    clear hf
    have H7 : Hid (OneP R (.pointer (some a)) A L W0 s2 (fun b => b = go ∨ (b = ga ∨ b < W0.heap.size)) w7) := H6.out.below hb7.out
    have HZ7 : Hid (Blk w7 g 25 [.int .i64 0, .string ⟨#[]⟩, .string ⟨#[]⟩, .int .i64 0, .int .i64 0, .int .i64 0, .int .u64 0, .int .i64 0, .slice none 0 0]) := HZ6.out.below hb7.out HZ6.out.lt
    have HA7 : Hid (Blk w7 ga 68 [.bool b0, .bool b1, .bool b2, .bool b3, .bool b4, .bool b5, .bool b6]) := HA6.out.below hb7.out HA6.out.lt
    have HO7 : Hid (Blk w7 go 25 [.int .i64 0, .string (strOf xp), .string (strOf xt), .int .i64 xf, .int .i64 xa, .int .i64 xn, .int .u64 (xu : Nat), .int .i64 xs, .slice X xd.length cx]) := HO6.out.below hb7.out HO6.out.lt
    have HB57 : Hid (Below w5.heap.size w5 w7) := HB56.out.trans (hb7.out.mono HB56.out.size)
    have HBW7 : Hid (Below w.heap.size w w7) := HB0.out.trans ((OneP.low H7.out).mono HB0.out.size)
    clear hb7 H6 HZ6 HA6 HO6 HB56
    by_cases hf : f = 0
    · subst hf
      have c0 := HA7.out.cell 0
      have c1 := HA7.out.cell 1
      have c2 := HA7.out.cell 2
      have c3 := HA7.out.cell 3
      have c4 := HA7.out.cell 4
      have c5 := HA7.out.cell 5
      have c6 := HA7.out.cell 6
      have o0 := HO7.out.cell 0
      have o1 := HO7.out.cell 1
      have o2 := HO7.out.cell 2
      have o3 := HO7.out.cell 3
      have o4 := HO7.out.cell 4
      have o5 := HO7.out.cell 5
      have o6 := HO7.out.cell 6
      have o7 := HO7.out.cell 7
      have o8 := HO7.out.cell 8
      go_wp2_with fail
      refine (HTL.out w7).mono ?_
      rintro e w8 ⟨rfl, hb8⟩
      have HZ8 : Hid (Blk w8 g 25 [.int .i64 0, .string ⟨#[]⟩, .string ⟨#[]⟩, .int .i64 0, .int .i64 0, .int .i64 0, .int .u64 0, .int .i64 0, .slice none 0 0]) := HZ7.out.below hb8 HZ7.out.lt
      have HO8 : Hid (Blk w8 go 25 [.int .i64 0, .string (strOf xp), .string (strOf xt), .int .i64 xf, .int .i64 xa, .int .i64 xn, .int .u64 (xu : Nat), .int .i64 xs, .slice X xd.length cx]) := HO7.out.below hb8 HO7.out.lt
      have H8 : Hid (OneP R (.pointer (some a)) A L W0 s2 (fun b => b = go ∨ (b = ga ∨ b < W0.heap.size)) w8) := H7.out.below hb8
      have HB58 : Hid (Below w5.heap.size w5 w8) := HB57.out.trans (hb8.mono HB57.out.size)
      have HBW8 : Hid (Below w.heap.size w w8) := HBW7.out.trans (hb8.mono HBW7.out.size)
      clear hb8 HZ7 HA7 HO7 HTL HB57 HBW7 H7 c0 c1 c2 c3 c4 c5 c6 o0 o1 o2 o3 o4 o5 o6 o7 o8
      by_cases hL : Long ⟨0, xp, xt, xf, xa, xn, xu, xs, xd⟩
      · have hd : decide (Long ⟨0, xp, xt, xf, xa, xn, xu, xs, xd⟩) = true := decide_eq_true hL
        have HQ := Lib.hid (HBAD2.out (.inr hL))
        rw [hd]
        clear hd hL HYES2
        have r0 := HZ8.out.cell 0
        have q0 := HZ8.out.frozen 0
        have r1 := HZ8.out.cell 1
        have q1 := HZ8.out.frozen 1
        have r2 := HZ8.out.cell 2
        have q2 := HZ8.out.frozen 2
        have r3 := HZ8.out.cell 3
        have q3 := HZ8.out.frozen 3
        have r4 := HZ8.out.cell 4
        have q4 := HZ8.out.frozen 4
        have r5 := HZ8.out.cell 5
        have q5 := HZ8.out.frozen 5
        have r6 := HZ8.out.cell 6
        have q6 := HZ8.out.frozen 6
        have r7 := HZ8.out.cell 7
        have q7 := HZ8.out.frozen 7
        have r8 := HZ8.out.cell 8
        have q8 := HZ8.out.frozen 8
        go_wp2_with fail
        refine bodyPost_ret (results_blk_tmp rfl _ _ g 25 _ _ rfl (set9_blk HZ8.out _ _ _ _ _ _ _ _ _) rfl rfl rfl) rfl ?_
        unfold DAns
        rw [HQ.out]
        exact ⟨none, 0, rfl, Nat.le_refl _, Rd.nil _ _, below_keeps HBW8.out (set9_keeps _ g _ _ _ _ _ _ _ _ _) HGG.out⟩
      · have hd : decide (Long ⟨0, xp, xt, xf, xa, xn, xu, xs, xd⟩) = false := decide_eq_false hL
        have HQ := Lib.hid (HYES2.out (by trivial) hL)
        rw [hd]
        clear hd hL HBAD2
        obtain ⟨W9, hW9⟩ : ∃ W, W = w8.setCell ⟨go, 0, none⟩ (.int .i64 (k0 : Nat)) := ⟨_, rfl⟩
        have hk9 : Keeps w8 W9 go := by rw [hW9]; exact (Keeps.refl w8 go).setCell 0 _
        have HO9 : Hid (Blk W9 go 25 [.int .i64 (k0 : Nat), .string (strOf xp), .string (strOf xt), .int .i64 xf, .int .i64 xa, .int .i64 xn, .int .u64 (xu : Nat), .int .i64 xs, .slice X xd.length cx]) := by show Blk _ _ _ _; rw [hW9]; exact HO8.out.set_ 0 _
        have HZ9 : Hid (Blk W9 g 25 [.int .i64 0, .string ⟨#[]⟩, .string ⟨#[]⟩, .int .i64 0, .int .i64 0, .int .i64 0, .int .u64 0, .int .i64 0, .slice none 0 0]) := by show Blk _ _ _ _; rw [hW9]; exact HZ8.out.far (by show g ≠ go; have := HG5.out; have := HGO.out; omega) _
        have z0 := HO8.out.cell 0
        have f0 := HO8.out.frozen 0
        have HROW9 : Hid (∀ W, Keeps W9 W g → Rd W X xd) := fun W hk => by
          refine HROW.out W ?_ (fun b hb h0 hn => ?_) ?_
          · exact Nat.le_trans HB58.out.size (Nat.le_trans hk9.size hk.size)
          · have hb8 : b < w8.heap.size := Nat.lt_of_lt_of_le hb HB58.out.size
            rw [hk.block b (Nat.lt_of_lt_of_le hb8 hk9.size) (fun e => by injection e with e; have := HGW.out; omega), hk9.block b hb8 (fun e => by injection e with e; have := HGO.out; omega), HB58.out.block b hb]
          · obtain ⟨B, h9, _⟩ := H8.out
            intro h0
            obtain ⟨b', off, rfl, hlt, hcell⟩ := h9.rd h0
            have hb' : b' < g := HAG.out h0 b' rfl
            have hg5 := HG5.out
            have hgo := HGO.out
            refine ⟨b', off, rfl, Nat.lt_of_lt_of_le hlt (Nat.le_trans hk9.size hk.size), fun j y hj => ?_⟩
            have := hcell j y hj
            unfold World.cell? at this ⊢
            rw [hk.block b' (Nat.lt_of_lt_of_le hlt hk9.size) (fun e => by injection e with e; omega), hk9.block b' hlt (fun e => by injection e with e; omega)]
            exact this
        have HBW9 : Hid (Below w.heap.size w W9) := below_keeps HBW8.out hk9 (by have := HGO.out; have := HG5.out; have := HGG.out; omega)
        clear hk9 HROW HB58 HBW8 H8
        go_upto_region 10 with (fail)
        rw [← hW9]
        clear hW9 z0 f0 HO8 HZ8
        have o0 := HO9.out.cell 0
        have o1 := HO9.out.cell 1
        have o2 := HO9.out.cell 2
        have o3 := HO9.out.cell 3
        have o4 := HO9.out.cell 4
        have o5 := HO9.out.cell 5
        have o6 := HO9.out.cell 6
        have o7 := HO9.out.cell 7
        have o8 := HO9.out.cell 8
        have r0 := HZ9.out.cell 0
        have q0 := HZ9.out.frozen 0
        have r1 := HZ9.out.cell 1
        have q1 := HZ9.out.frozen 1
        have r2 := HZ9.out.cell 2
        have q2 := HZ9.out.frozen 2
        have r3 := HZ9.out.cell 3
        have q3 := HZ9.out.frozen 3
        have r4 := HZ9.out.cell 4
        have q4 := HZ9.out.frozen 4
        have r5 := HZ9.out.cell 5
        have q5 := HZ9.out.frozen 5
        have r6 := HZ9.out.cell 6
        have q6 := HZ9.out.frozen 6
        have r7 := HZ9.out.cell 7
        have q7 := HZ9.out.frozen 7
        have r8 := HZ9.out.cell 8
        have q8 := HZ9.out.frozen 8
        go_wp2_with fail
        refine bodyPost_ret (results_blk_tmp rfl _ _ g 25 _ _ rfl (set9_blk HZ9.out _ _ _ _ _ _ _ _ _) rfl rfl rfl) rfl ?_
        unfold DAns
        rw [HQ.out]
        exact ⟨X, cx, rfl, HCX.out, HROW9.out _ (set9_keeps _ g _ _ _ _ _ _ _ _ _), below_keeps HBW9.out (set9_keeps _ g _ _ _ _ _ _ _ _ _) HGG.out⟩
    · have hfi : ((f : Int) == 0) = false := by rw [beq_eq_false_iff_ne]; omega
      have HQ := Lib.hid (HBAD2.out (.inl hf))
      have hf2 : ¬ ((f : Nat) : Int) = 0 := by omega
      have hf3 : (!((f : Int) == 0)) = true := by rw [hfi]; rfl
      clear hf HYES2
      have r0 := HZ7.out.cell 0
      have q0 := HZ7.out.frozen 0
      have r1 := HZ7.out.cell 1
      have q1 := HZ7.out.frozen 1
      have r2 := HZ7.out.cell 2
      have q2 := HZ7.out.frozen 2
      have r3 := HZ7.out.cell 3
      have q3 := HZ7.out.frozen 3
      have r4 := HZ7.out.cell 4
      have q4 := HZ7.out.frozen 4
      have r5 := HZ7.out.cell 5
      have q5 := HZ7.out.frozen 5
      have r6 := HZ7.out.cell 6
      have q6 := HZ7.out.frozen 6
      have r7 := HZ7.out.cell 7
      have q7 := HZ7.out.frozen 7
      have r8 := HZ7.out.cell 8
      have q8 := HZ7.out.frozen 8
      go_wp2_with fail
      refine bodyPost_ret (results_blk_tmp rfl _ _ g 25 _ _ rfl (set9_blk HZ7.out _ _ _ _ _ _ _ _ _) rfl rfl rfl) rfl ?_
      unfold DAns
      rw [HQ.out]
      exact ⟨none, 0, rfl, Nat.le_refl _, Rd.nil _ _, below_keeps HBW7.out (set9_keeps _ g _ _ _ _ _ _ _ _ _) HGG.out⟩
  · have hd : decide (Kd (k0 : Nat)) = false := decide_eq_false hkd
    have HQ := Lib.hid (HNO.out hkd)
    rw [hd]
    have ha : asV (k0 : Nat) = .agg #[.bool false, .bool false, .bool false, .bool false, .bool false, .bool false, .bool false] := by unfold asV asL; rw [if_neg hkd]
    rw [ha]
    clear ha hd hkd HNO HYES HBAD
    obtain ⟨W4, hW4⟩ : ∃ W, W = w3.alloc (.cells #[.bool false, .bool false, .bool false, .bool false, .bool false, .bool false, .bool false] 68) := ⟨_, rfl⟩
    have hb4 : Below w3.heap.size w3 W4 := by rw [hW4]; exact below_new w3 _
    have HZ4 : Hid (Blk W4 g 25 [.int .i64 0, .string ⟨#[]⟩, .string ⟨#[]⟩, .int .i64 0, .int .i64 0, .int .i64 0, .int .u64 0, .int .i64 0, .slice none 0 0]) := HZ3.out.below hb4 HZ3.out.lt
    have HBW4 : Hid (Below w.heap.size w W4) := (HB0.out.trans ((OneP.low H3.out).mono HB0.out.size)).trans (hb4.mono (Nat.le_trans HB0.out.size (OneP.low H3.out).size))
    clear hb4
    go_upto_region 4 with (fail)
    rw [← hW4]
    clear hW4
    have r0 := HZ4.out.cell 0
    have q0 := HZ4.out.frozen 0
    have r1 := HZ4.out.cell 1
    have q1 := HZ4.out.frozen 1
    have r2 := HZ4.out.cell 2
    have q2 := HZ4.out.frozen 2
    have r3 := HZ4.out.cell 3
    have q3 := HZ4.out.frozen 3
    have r4 := HZ4.out.cell 4
    have q4 := HZ4.out.frozen 4
    have r5 := HZ4.out.cell 5
    have q5 := HZ4.out.frozen 5
    have r6 := HZ4.out.cell 6
    have q6 := HZ4.out.frozen 6
    have r7 := HZ4.out.cell 7
    have q7 := HZ4.out.frozen 7
    have r8 := HZ4.out.cell 8
    have q8 := HZ4.out.frozen 8
    go_wp2_with fail
    refine bodyPost_ret (results_blk_tmp rfl _ _ g 25 _ _ rfl (set9_blk HZ4.out _ _ _ _ _ _ _ _ _) rfl rfl rfl) rfl ?_
    unfold DAns
    rw [HQ.out]
    exact ⟨none, 0, rfl, Nat.le_refl _, Rd.nil _ _, below_keeps HBW4.out (set9_keeps _ g _ _ _ _ _ _ _ _ _) HGG.out⟩
end Op
end Go.Proofs.Ytmcbpgbiephllaa

/-
  OWN WORK. Law 12's WormLater, walked: what may be removed now may be later.
-/
import Derived.Test.YtpblhdpnmnfieaaWoSame
import Derived.Test.YtpblhdpnmnfieaaBaCell
namespace Go.Proofs.Ytpblhdpnmnfieaa
open Go.RowKit
namespace Wo
set_option maxHeartbeats 4000000 in
set_option maxRecDepth 100000 in
theorem later_any (n : Nd) (now lat more : Nat) (w : World) : Calls Try.prog 6 #[n.val, .int .u64 (now : Nat), .int .u64 (lat : Nat), .int .u64 (more : Nat)] w fun e w' => e = .returned (.bool true) ∧ Below w.heap.size w w' := by
  obtain ⟨id, kind, links, size, till, shut⟩ := n
  rw [as_]
  obtain ⟨nw, hnw⟩ : ∃ nw, nw = now % 100 := ⟨_, rfl⟩
  have e1 : (now : Int) % 100 = (nw : Int) := by omega
  obtain ⟨l1, hl1⟩ : ∃ l1, l1 = lat % 100 := ⟨_, rfl⟩
  have e2 : (lat : Int) % 100 = (l1 : Int) := by omega
  obtain ⟨lt, hlt⟩ : ∃ lt, lt = nw + l1 := ⟨_, rfl⟩
  have e3 : IntKind.u64.wrap ((nw : Int) + (l1 : Int)) = (lt : Int) := by simp [IntKind.wrap, IntKind.bits, IntKind.signed]; omega
  obtain ⟨t1, ht1⟩ : ∃ t1, t1 = till % 150 := ⟨_, rfl⟩
  have e4 : (till : Int) % 150 = (t1 : Int) := by omega
  obtain ⟨m1, hm1⟩ : ∃ m1, m1 = more % 50 := ⟨_, rfl⟩
  have e5 : (more : Int) % 50 = (m1 : Int) := by omega
  obtain ⟨t2, ht2⟩ : ∃ t2, t2 = t1 + m1 := ⟨_, rfl⟩
  have e6 : IntKind.u64.wrap ((t1 : Int) + (m1 : Int)) = (t2 : Int) := by simp [IntKind.wrap, IntKind.bits, IntKind.signed]; omega
  have hle : nw ≤ lt := by omega
  have hte : t1 ≤ t2 := by omega
  clear hnw hl1 hlt ht1 hm1 ht2
  have HP := Lib.hid (fun w => remove_any ⟨id, 1, links, size, t1, shut⟩ nw w)
  have HQ := Lib.hid (fun w => remove_any ⟨id, 1, links, size, t1, shut⟩ lt w)
  have HX := Lib.hid (fun w => remove_any ⟨id, 1, links, size, t2, shut⟩ nw w)
  have HY := Lib.hid (fun w => remove_any ⟨id, 1, 2, size, t1, shut⟩ nw w)
  have HZ := Lib.hid (fun w => remove_any ⟨id, 1, links, size, t1, false⟩ nw w)
  have HV := Lib.hid (fun w => write_any ⟨id, 1, links, size, t1, false⟩ w)
  have HU := Lib.hid (fun w => write_any ⟨id, 1, links, size, t1, shut⟩ w)
  have HK := Lib.hid (fun w => known_any w)
  have rY : remove ⟨id, 1, 2, size, t1, shut⟩ nw = 0 := by simp [remove, fileN]
  have rZ : remove ⟨id, 1, links, size, t1, false⟩ nw = 0 := by simp [remove, fileN]
  have rV : write ⟨id, 1, links, size, t1, false⟩ = 0 := by simp [write, fileN]
  rw [as_] at HP HQ HX HY HZ HV HU
  rw [rY] at HY
  rw [rZ] at HZ
  rw [rV] at HV
  clear rY rZ rV
  obtain ⟨p, hp⟩ : ∃ p, p = remove ⟨id, 1, links, size, t1, shut⟩ nw := ⟨_, rfl⟩
  obtain ⟨q, hq⟩ : ∃ q, q = remove ⟨id, 1, links, size, t1, shut⟩ lt := ⟨_, rfl⟩
  obtain ⟨x, hx⟩ : ∃ x, x = remove ⟨id, 1, links, size, t2, shut⟩ nw := ⟨_, rfl⟩
  have hpq : p = 0 → q = 0 := by
    rw [hp, hq]; unfold remove fileN; simp only; split <;> split <;> (try split) <;> (try split) <;> simp_all <;> omega
  have hxp : x = 0 → p = 0 := by
    rw [hp, hx]; unfold remove fileN; simp only; split <;> split <;> (try split) <;> (try split) <;> simp_all <;> omega
  rw [← hp] at HP
  rw [← hq] at HQ
  rw [← hx] at HX
  have HSU : Hid (shut = true → write ⟨id, 1, links, size, t1, shut⟩ = 27) := by
    intro h; subst h; simp [write, fileN]
  obtain ⟨y, hy⟩ : ∃ y, y = write ⟨id, 1, links, size, t1, shut⟩ := ⟨_, rfl⟩
  rw [← hy] at HU HSU
  clear hp hq hx hy hle hte
  have hb0 := below_new w (.cells #[.int .i64 id, .int .i64 1, .int .i64 links, .int .i64 size, .int .u64 (t1 : Nat), .bool shut] 26)
  have HA0 : Hid (Blk (w.alloc (.cells #[.int .i64 id, .int .i64 1, .int .i64 links, .int .i64 size, .int .u64 (t1 : Nat), .bool shut] 26)) w.heap.size 26 (ndc id 1 links size t1 shut)) := Blk.new w _ _
  have HW0 := Lib.hid hb0
  clear hb0
  go_enter Try.func6, Try.ntmps6
  go_wp2_with fail
  refine (HP.out _).mono ?_
  rintro e w1 ⟨rfl, hb⟩
  have HA1 := Lib.hid (HA0.out.below hb HA0.out.lt)
  have HW1 := Lib.hid (HW0.out.trans (hb.mono HW0.out.size))
  clear HA0 HW0 hb
  have cA0 : w1.cell? ⟨w.heap.size, 0, none⟩ = some (.int .i64 id) := HA1.out.cell 0
  have cA1 : w1.cell? ⟨w.heap.size, 1, none⟩ = some (.int .i64 1) := HA1.out.cell 1
  have cA2 : w1.cell? ⟨w.heap.size, 2, none⟩ = some (.int .i64 links) := HA1.out.cell 2
  have cA3 : w1.cell? ⟨w.heap.size, 3, none⟩ = some (.int .i64 size) := HA1.out.cell 3
  have cA4 : w1.cell? ⟨w.heap.size, 4, none⟩ = some (.int .u64 (t1 : Nat)) := HA1.out.cell 4
  have cA5 : w1.cell? ⟨w.heap.size, 5, none⟩ = some (.bool shut) := HA1.out.cell 5
  have hqz : p = 0 → (((q : Nat) : Int) == 0) = true := fun h => by simp [hpq h]
  by_cases h0 : p = 0
  · have hp0 : (((p : Nat) : Int) == 0) = true := by simp [h0]
    have hq0 := hqz h0
    have hqn : (((q : Nat) : Int) != 0) = false := by simpa using hq0
    clear hqz hq0
    go_wp2_with fail
    clear cA0 cA1 cA2 cA3 cA4 cA5
    refine (HQ.out _).mono ?_
    rintro e w2 ⟨rfl, hb⟩
    have HA2 := Lib.hid (HA1.out.below hb HA1.out.lt)
    have HW2 := Lib.hid (HW1.out.trans (hb.mono HW1.out.size))
    clear HA1 HW1 hb
    have cA0 : w2.cell? ⟨w.heap.size, 0, none⟩ = some (.int .i64 id) := HA2.out.cell 0
    have cA1 : w2.cell? ⟨w.heap.size, 1, none⟩ = some (.int .i64 1) := HA2.out.cell 1
    have cA2 : w2.cell? ⟨w.heap.size, 2, none⟩ = some (.int .i64 links) := HA2.out.cell 2
    have cA3 : w2.cell? ⟨w.heap.size, 3, none⟩ = some (.int .i64 size) := HA2.out.cell 3
    have cA4 : w2.cell? ⟨w.heap.size, 4, none⟩ = some (.int .u64 (t1 : Nat)) := HA2.out.cell 4
    have cA5 : w2.cell? ⟨w.heap.size, 5, none⟩ = some (.bool shut) := HA2.out.cell 5
    have cq : (w2.alloc (.cells #[.int .i64 id, .int .i64 1, .int .i64 links, .int .i64 size, .int .u64 (t1 : Nat), .bool shut] 26)).cell? ⟨w.heap.size, 4, none⟩ = some (.int .u64 (t1 : Nat)) := (HA2.out.below (below_new w2 _) HA2.out.lt).cell 4
    go_wp2_with fail
    clear cA0 cA1 cA2 cA3 cA4 cA5 cq
    have hb := below_new w2 (.cells #[.int .i64 id, .int .i64 1, .int .i64 links, .int .i64 size, .int .u64 (t2 : Nat), .bool shut] 26)
    have HX3 : Hid (Blk (w2.alloc (.cells #[.int .i64 id, .int .i64 1, .int .i64 links, .int .i64 size, .int .u64 (t2 : Nat), .bool shut] 26)) w2.heap.size 26 (ndc id 1 links size t2 shut)) := Blk.new w2 _ _
    have HA3 := Lib.hid (HA2.out.below hb HA2.out.lt)
    have HW3 := Lib.hid (HW2.out.trans (hb.mono HW2.out.size))
    clear HA2 HW2 hb
    refine (HX.out _).mono ?_
    rintro e w4 ⟨rfl, hb⟩
    have HA4 := Lib.hid (HA3.out.below hb HA3.out.lt)
    have HX4 := Lib.hid (HX3.out.below hb HX3.out.lt)
    have HW4 := Lib.hid (HW3.out.trans (hb.mono HW3.out.size))
    clear HA3 HX3 HW3 hb
    have cA0 : w4.cell? ⟨w.heap.size, 0, none⟩ = some (.int .i64 id) := HA4.out.cell 0
    have cA1 : w4.cell? ⟨w.heap.size, 1, none⟩ = some (.int .i64 1) := HA4.out.cell 1
    have cA2 : w4.cell? ⟨w.heap.size, 2, none⟩ = some (.int .i64 links) := HA4.out.cell 2
    have cA3 : w4.cell? ⟨w.heap.size, 3, none⟩ = some (.int .i64 size) := HA4.out.cell 3
    have cA4 : w4.cell? ⟨w.heap.size, 4, none⟩ = some (.int .u64 (t1 : Nat)) := HA4.out.cell 4
    have cA5 : w4.cell? ⟨w.heap.size, 5, none⟩ = some (.bool shut) := HA4.out.cell 5
    have cX0 : w4.cell? ⟨w2.heap.size, 0, none⟩ = some (.int .i64 id) := HX4.out.cell 0
    have cX1 : w4.cell? ⟨w2.heap.size, 1, none⟩ = some (.int .i64 1) := HX4.out.cell 1
    have cX2 : w4.cell? ⟨w2.heap.size, 2, none⟩ = some (.int .i64 links) := HX4.out.cell 2
    have cX3 : w4.cell? ⟨w2.heap.size, 3, none⟩ = some (.int .i64 size) := HX4.out.cell 3
    have cX4 : w4.cell? ⟨w2.heap.size, 4, none⟩ = some (.int .u64 (t2 : Nat)) := HX4.out.cell 4
    have cX5 : w4.cell? ⟨w2.heap.size, 5, none⟩ = some (.bool shut) := HX4.out.cell 5
    have hpz : x = 0 → (((p : Nat) : Int) == 0) = true := fun h => by simp [hxp h]
    by_cases hx0 : x = 0
    · have hx1 : (((x : Nat) : Int) == 0) = true := by simp [hx0]
      have hp1 := hpz hx0
      clear hpz
      go_wp2_with fail
      clear cA0 cA1 cA2 cA3 cA4 cA5 cX0 cX1 cX2 cX3 cX4 cX5
      refine (HP.out _).mono ?_
      rintro e w5 ⟨rfl, hb⟩
      have HA5 := Lib.hid (HA4.out.below hb HA4.out.lt)
      have HX5 := Lib.hid (HX4.out.below hb HX4.out.lt)
      have HW5 := Lib.hid (HW4.out.trans (hb.mono HW4.out.size))
      clear HA4 HX4 HW4 hb
      have cA0 : w5.cell? ⟨w.heap.size, 0, none⟩ = some (.int .i64 id) := HA5.out.cell 0
      have cA1 : w5.cell? ⟨w.heap.size, 1, none⟩ = some (.int .i64 1) := HA5.out.cell 1
      have cA2 : w5.cell? ⟨w.heap.size, 2, none⟩ = some (.int .i64 links) := HA5.out.cell 2
      have cA3 : w5.cell? ⟨w.heap.size, 3, none⟩ = some (.int .i64 size) := HA5.out.cell 3
      have cA4 : w5.cell? ⟨w.heap.size, 4, none⟩ = some (.int .u64 (t1 : Nat)) := HA5.out.cell 4
      have cA5 : w5.cell? ⟨w.heap.size, 5, none⟩ = some (.bool shut) := HA5.out.cell 5
      have cX0 : w5.cell? ⟨w2.heap.size, 0, none⟩ = some (.int .i64 id) := HX5.out.cell 0
      have cX1 : w5.cell? ⟨w2.heap.size, 1, none⟩ = some (.int .i64 1) := HX5.out.cell 1
      have cX2 : w5.cell? ⟨w2.heap.size, 2, none⟩ = some (.int .i64 links) := HX5.out.cell 2
      have cX3 : w5.cell? ⟨w2.heap.size, 3, none⟩ = some (.int .i64 size) := HX5.out.cell 3
      have cX4 : w5.cell? ⟨w2.heap.size, 4, none⟩ = some (.int .u64 (t2 : Nat)) := HX5.out.cell 4
      have cX5 : w5.cell? ⟨w2.heap.size, 5, none⟩ = some (.bool shut) := HX5.out.cell 5
      have cq0 : (w5.alloc (.cells #[.int .i64 id, .int .i64 1, .int .i64 2, .int .i64 size, .int .u64 (t1 : Nat), .bool shut] 26)).cell? ⟨w.heap.size, 0, none⟩ = some (.int .i64 id) := (HA5.out.below (below_new w5 _) HA5.out.lt).cell 0
      have cq1 : (w5.alloc (.cells #[.int .i64 id, .int .i64 1, .int .i64 2, .int .i64 size, .int .u64 (t1 : Nat), .bool shut] 26)).cell? ⟨w.heap.size, 1, none⟩ = some (.int .i64 1) := (HA5.out.below (below_new w5 _) HA5.out.lt).cell 1
      have cq2 : (w5.alloc (.cells #[.int .i64 id, .int .i64 1, .int .i64 2, .int .i64 size, .int .u64 (t1 : Nat), .bool shut] 26)).cell? ⟨w.heap.size, 2, none⟩ = some (.int .i64 links) := (HA5.out.below (below_new w5 _) HA5.out.lt).cell 2
      have cq3 : (w5.alloc (.cells #[.int .i64 id, .int .i64 1, .int .i64 2, .int .i64 size, .int .u64 (t1 : Nat), .bool shut] 26)).cell? ⟨w.heap.size, 3, none⟩ = some (.int .i64 size) := (HA5.out.below (below_new w5 _) HA5.out.lt).cell 3
      have cq4 : (w5.alloc (.cells #[.int .i64 id, .int .i64 1, .int .i64 2, .int .i64 size, .int .u64 (t1 : Nat), .bool shut] 26)).cell? ⟨w.heap.size, 4, none⟩ = some (.int .u64 (t1 : Nat)) := (HA5.out.below (below_new w5 _) HA5.out.lt).cell 4
      have cq5 : (w5.alloc (.cells #[.int .i64 id, .int .i64 1, .int .i64 2, .int .i64 size, .int .u64 (t1 : Nat), .bool shut] 26)).cell? ⟨w.heap.size, 5, none⟩ = some (.bool shut) := (HA5.out.below (below_new w5 _) HA5.out.lt).cell 5
      go_wp2_with fail
      clear cA0 cA1 cA2 cA3 cA4 cA5 cX0 cX1 cX2 cX3 cX4 cX5 cq0 cq1 cq2 cq3 cq4 cq5
      have hb := below_new w5 (.cells #[.int .i64 id, .int .i64 1, .int .i64 2, .int .i64 size, .int .u64 (t1 : Nat), .bool shut] 26)
      have hb2 := below_new (w5.alloc (.cells #[.int .i64 id, .int .i64 1, .int .i64 2, .int .i64 size, .int .u64 (t1 : Nat), .bool shut] 26)) (.cells #[.int .i64 id, .int .i64 1, .int .i64 links, .int .i64 size, .int .u64 (t1 : Nat), .bool false] 26)
      have HY6 : Hid (Blk ((w5.alloc (.cells #[.int .i64 id, .int .i64 1, .int .i64 2, .int .i64 size, .int .u64 (t1 : Nat), .bool shut] 26)).alloc (.cells #[.int .i64 id, .int .i64 1, .int .i64 links, .int .i64 size, .int .u64 (t1 : Nat), .bool false] 26)) w5.heap.size 26 (ndc id 1 2 size t1 shut)) := (Blk.new w5 _ _).below hb2 (by rw [World.size_alloc]; omega)
      have hz : Blk ((w5.alloc (.cells #[.int .i64 id, .int .i64 1, .int .i64 2, .int .i64 size, .int .u64 (t1 : Nat), .bool shut] 26)).alloc (.cells #[.int .i64 id, .int .i64 1, .int .i64 links, .int .i64 size, .int .u64 (t1 : Nat), .bool false] 26)) (w5.alloc (.cells #[.int .i64 id, .int .i64 1, .int .i64 2, .int .i64 size, .int .u64 (t1 : Nat), .bool shut] 26)).heap.size 26 (ndc id 1 links size t1 false) := Blk.new _ _ _
      rw [World.size_alloc] at hz
      have HZ6 := Lib.hid hz
      have hb3 := hb.trans (hb2.mono hb.size)
      have HA6 := Lib.hid (HA5.out.below hb3 HA5.out.lt)
      have HW6 := Lib.hid (HW5.out.trans (hb3.mono HW5.out.size))
      clear HA5 HX5 HW5 hb hb2 hb3 hz
      refine (HY.out _).mono ?_
      rintro e w7 ⟨rfl, hb⟩
      have HA7 := Lib.hid (HA6.out.below hb HA6.out.lt)
      have HY7 := Lib.hid (HY6.out.below hb HY6.out.lt)
      have HZ7 := Lib.hid (HZ6.out.below hb HZ6.out.lt)
      have HW7 := Lib.hid (HW6.out.trans (hb.mono HW6.out.size))
      clear HA6 HY6 HZ6 HW6 hb
      have cA0 : w7.cell? ⟨w.heap.size, 0, none⟩ = some (.int .i64 id) := HA7.out.cell 0
      have cA1 : w7.cell? ⟨w.heap.size, 1, none⟩ = some (.int .i64 1) := HA7.out.cell 1
      have cA2 : w7.cell? ⟨w.heap.size, 2, none⟩ = some (.int .i64 links) := HA7.out.cell 2
      have cA3 : w7.cell? ⟨w.heap.size, 3, none⟩ = some (.int .i64 size) := HA7.out.cell 3
      have cA4 : w7.cell? ⟨w.heap.size, 4, none⟩ = some (.int .u64 (t1 : Nat)) := HA7.out.cell 4
      have cA5 : w7.cell? ⟨w.heap.size, 5, none⟩ = some (.bool shut) := HA7.out.cell 5
      have cY0 : w7.cell? ⟨w5.heap.size, 0, none⟩ = some (.int .i64 id) := HY7.out.cell 0
      have cY1 : w7.cell? ⟨w5.heap.size, 1, none⟩ = some (.int .i64 1) := HY7.out.cell 1
      have cY2 : w7.cell? ⟨w5.heap.size, 2, none⟩ = some (.int .i64 2) := HY7.out.cell 2
      have cY3 : w7.cell? ⟨w5.heap.size, 3, none⟩ = some (.int .i64 size) := HY7.out.cell 3
      have cY4 : w7.cell? ⟨w5.heap.size, 4, none⟩ = some (.int .u64 (t1 : Nat)) := HY7.out.cell 4
      have cY5 : w7.cell? ⟨w5.heap.size, 5, none⟩ = some (.bool shut) := HY7.out.cell 5
      have cZ0 : w7.cell? ⟨w5.heap.size + 1, 0, none⟩ = some (.int .i64 id) := HZ7.out.cell 0
      have cZ1 : w7.cell? ⟨w5.heap.size + 1, 1, none⟩ = some (.int .i64 1) := HZ7.out.cell 1
      have cZ2 : w7.cell? ⟨w5.heap.size + 1, 2, none⟩ = some (.int .i64 links) := HZ7.out.cell 2
      have cZ3 : w7.cell? ⟨w5.heap.size + 1, 3, none⟩ = some (.int .i64 size) := HZ7.out.cell 3
      have cZ4 : w7.cell? ⟨w5.heap.size + 1, 4, none⟩ = some (.int .u64 (t1 : Nat)) := HZ7.out.cell 4
      have cZ5 : w7.cell? ⟨w5.heap.size + 1, 5, none⟩ = some (.bool false) := HZ7.out.cell 5
      go_wp2_with fail
      clear cA0 cA1 cA2 cA3 cA4 cA5 cY0 cY1 cY2 cY3 cY4 cY5 cZ0 cZ1 cZ2 cZ3 cZ4 cZ5
      refine (HZ.out _).mono ?_
      rintro e w8 ⟨rfl, hb⟩
      have HA8 := Lib.hid (HA7.out.below hb HA7.out.lt)
      have HY8 := Lib.hid (HY7.out.below hb HY7.out.lt)
      have HZ8 := Lib.hid (HZ7.out.below hb HZ7.out.lt)
      have HW8 := Lib.hid (HW7.out.trans (hb.mono HW7.out.size))
      clear HA7 HY7 HZ7 HW7 hb
      have cA0 : w8.cell? ⟨w.heap.size, 0, none⟩ = some (.int .i64 id) := HA8.out.cell 0
      have cA1 : w8.cell? ⟨w.heap.size, 1, none⟩ = some (.int .i64 1) := HA8.out.cell 1
      have cA2 : w8.cell? ⟨w.heap.size, 2, none⟩ = some (.int .i64 links) := HA8.out.cell 2
      have cA3 : w8.cell? ⟨w.heap.size, 3, none⟩ = some (.int .i64 size) := HA8.out.cell 3
      have cA4 : w8.cell? ⟨w.heap.size, 4, none⟩ = some (.int .u64 (t1 : Nat)) := HA8.out.cell 4
      have cA5 : w8.cell? ⟨w.heap.size, 5, none⟩ = some (.bool shut) := HA8.out.cell 5
      have cY0 : w8.cell? ⟨w5.heap.size, 0, none⟩ = some (.int .i64 id) := HY8.out.cell 0
      have cY1 : w8.cell? ⟨w5.heap.size, 1, none⟩ = some (.int .i64 1) := HY8.out.cell 1
      have cY2 : w8.cell? ⟨w5.heap.size, 2, none⟩ = some (.int .i64 2) := HY8.out.cell 2
      have cY3 : w8.cell? ⟨w5.heap.size, 3, none⟩ = some (.int .i64 size) := HY8.out.cell 3
      have cY4 : w8.cell? ⟨w5.heap.size, 4, none⟩ = some (.int .u64 (t1 : Nat)) := HY8.out.cell 4
      have cY5 : w8.cell? ⟨w5.heap.size, 5, none⟩ = some (.bool shut) := HY8.out.cell 5
      have cZ0 : w8.cell? ⟨w5.heap.size + 1, 0, none⟩ = some (.int .i64 id) := HZ8.out.cell 0
      have cZ1 : w8.cell? ⟨w5.heap.size + 1, 1, none⟩ = some (.int .i64 1) := HZ8.out.cell 1
      have cZ2 : w8.cell? ⟨w5.heap.size + 1, 2, none⟩ = some (.int .i64 links) := HZ8.out.cell 2
      have cZ3 : w8.cell? ⟨w5.heap.size + 1, 3, none⟩ = some (.int .i64 size) := HZ8.out.cell 3
      have cZ4 : w8.cell? ⟨w5.heap.size + 1, 4, none⟩ = some (.int .u64 (t1 : Nat)) := HZ8.out.cell 4
      have cZ5 : w8.cell? ⟨w5.heap.size + 1, 5, none⟩ = some (.bool false) := HZ8.out.cell 5
      go_wp2_with fail
      clear cA0 cA1 cA2 cA3 cA4 cA5 cY0 cY1 cY2 cY3 cY4 cY5 cZ0 cZ1 cZ2 cZ3 cZ4 cZ5
      refine (HV.out _).mono ?_
      rintro e w9 ⟨rfl, hb⟩
      have HA9 := Lib.hid (HA8.out.below hb HA8.out.lt)
      have HY9 := Lib.hid (HY8.out.below hb HY8.out.lt)
      have HZ9 := Lib.hid (HZ8.out.below hb HZ8.out.lt)
      have HW9 := Lib.hid (HW8.out.trans (hb.mono HW8.out.size))
      clear HA8 HY8 HZ8 HW8 hb
      have cA0 : w9.cell? ⟨w.heap.size, 0, none⟩ = some (.int .i64 id) := HA9.out.cell 0
      have cA1 : w9.cell? ⟨w.heap.size, 1, none⟩ = some (.int .i64 1) := HA9.out.cell 1
      have cA2 : w9.cell? ⟨w.heap.size, 2, none⟩ = some (.int .i64 links) := HA9.out.cell 2
      have cA3 : w9.cell? ⟨w.heap.size, 3, none⟩ = some (.int .i64 size) := HA9.out.cell 3
      have cA4 : w9.cell? ⟨w.heap.size, 4, none⟩ = some (.int .u64 (t1 : Nat)) := HA9.out.cell 4
      have cA5 : w9.cell? ⟨w.heap.size, 5, none⟩ = some (.bool shut) := HA9.out.cell 5
      have cY0 : w9.cell? ⟨w5.heap.size, 0, none⟩ = some (.int .i64 id) := HY9.out.cell 0
      have cY1 : w9.cell? ⟨w5.heap.size, 1, none⟩ = some (.int .i64 1) := HY9.out.cell 1
      have cY2 : w9.cell? ⟨w5.heap.size, 2, none⟩ = some (.int .i64 2) := HY9.out.cell 2
      have cY3 : w9.cell? ⟨w5.heap.size, 3, none⟩ = some (.int .i64 size) := HY9.out.cell 3
      have cY4 : w9.cell? ⟨w5.heap.size, 4, none⟩ = some (.int .u64 (t1 : Nat)) := HY9.out.cell 4
      have cY5 : w9.cell? ⟨w5.heap.size, 5, none⟩ = some (.bool shut) := HY9.out.cell 5
      have cZ0 : w9.cell? ⟨w5.heap.size + 1, 0, none⟩ = some (.int .i64 id) := HZ9.out.cell 0
      have cZ1 : w9.cell? ⟨w5.heap.size + 1, 1, none⟩ = some (.int .i64 1) := HZ9.out.cell 1
      have cZ2 : w9.cell? ⟨w5.heap.size + 1, 2, none⟩ = some (.int .i64 links) := HZ9.out.cell 2
      have cZ3 : w9.cell? ⟨w5.heap.size + 1, 3, none⟩ = some (.int .i64 size) := HZ9.out.cell 3
      have cZ4 : w9.cell? ⟨w5.heap.size + 1, 4, none⟩ = some (.int .u64 (t1 : Nat)) := HZ9.out.cell 4
      have cZ5 : w9.cell? ⟨w5.heap.size + 1, 5, none⟩ = some (.bool false) := HZ9.out.cell 5
      cases shut
      · go_wp2_with fail
        clear cA0 cA1 cA2 cA3 cA4 cA5 cY0 cY1 cY2 cY3 cY4 cY5 cZ0 cZ1 cZ2 cZ3 cZ4 cZ5
        refine (HK.out _).mono ?_
        rintro e w10 ⟨rfl, hb⟩
        have HA10 := Lib.hid (HA9.out.below hb HA9.out.lt)
        have HY10 := Lib.hid (HY9.out.below hb HY9.out.lt)
        have HZ10 := Lib.hid (HZ9.out.below hb HZ9.out.lt)
        have HW10 := Lib.hid (HW9.out.trans (hb.mono HW9.out.size))
        clear HA9 HY9 HZ9 HW9 hb
        go_wp2_with fail
        go_ret
        exact ⟨rfl, HW10.out⟩
      · have hy1 : y = 27 := HSU.out rfl
        subst hy1
        go_wp2_with fail
        clear cA0 cA1 cA2 cA3 cA4 cA5 cY0 cY1 cY2 cY3 cY4 cY5 cZ0 cZ1 cZ2 cZ3 cZ4 cZ5
        refine (HU.out _).mono ?_
        rintro e w10 ⟨rfl, hb⟩
        have HA10 := Lib.hid (HA9.out.below hb HA9.out.lt)
        have HY10 := Lib.hid (HY9.out.below hb HY9.out.lt)
        have HZ10 := Lib.hid (HZ9.out.below hb HZ9.out.lt)
        have HW10 := Lib.hid (HW9.out.trans (hb.mono HW9.out.size))
        clear HA9 HY9 HZ9 HW9 hb
        go_wp2_with fail
        refine (HK.out _).mono ?_
        rintro e w11 ⟨rfl, hb⟩
        have HA11 := Lib.hid (HA10.out.below hb HA10.out.lt)
        have HY11 := Lib.hid (HY10.out.below hb HY10.out.lt)
        have HZ11 := Lib.hid (HZ10.out.below hb HZ10.out.lt)
        have HW11 := Lib.hid (HW10.out.trans (hb.mono HW10.out.size))
        clear HA10 HY10 HZ10 HW10 hb
        go_wp2_with fail
        go_ret
        exact ⟨rfl, HW11.out⟩
    · have hx1 : (((x : Nat) : Int) == 0) = false := by simpa using hx0
      clear hpz
      have cq0 : (w4.alloc (.cells #[.int .i64 id, .int .i64 1, .int .i64 2, .int .i64 size, .int .u64 (t1 : Nat), .bool shut] 26)).cell? ⟨w.heap.size, 0, none⟩ = some (.int .i64 id) := (HA4.out.below (below_new w4 _) HA4.out.lt).cell 0
      have cq1 : (w4.alloc (.cells #[.int .i64 id, .int .i64 1, .int .i64 2, .int .i64 size, .int .u64 (t1 : Nat), .bool shut] 26)).cell? ⟨w.heap.size, 1, none⟩ = some (.int .i64 1) := (HA4.out.below (below_new w4 _) HA4.out.lt).cell 1
      have cq2 : (w4.alloc (.cells #[.int .i64 id, .int .i64 1, .int .i64 2, .int .i64 size, .int .u64 (t1 : Nat), .bool shut] 26)).cell? ⟨w.heap.size, 2, none⟩ = some (.int .i64 links) := (HA4.out.below (below_new w4 _) HA4.out.lt).cell 2
      have cq3 : (w4.alloc (.cells #[.int .i64 id, .int .i64 1, .int .i64 2, .int .i64 size, .int .u64 (t1 : Nat), .bool shut] 26)).cell? ⟨w.heap.size, 3, none⟩ = some (.int .i64 size) := (HA4.out.below (below_new w4 _) HA4.out.lt).cell 3
      have cq4 : (w4.alloc (.cells #[.int .i64 id, .int .i64 1, .int .i64 2, .int .i64 size, .int .u64 (t1 : Nat), .bool shut] 26)).cell? ⟨w.heap.size, 4, none⟩ = some (.int .u64 (t1 : Nat)) := (HA4.out.below (below_new w4 _) HA4.out.lt).cell 4
      have cq5 : (w4.alloc (.cells #[.int .i64 id, .int .i64 1, .int .i64 2, .int .i64 size, .int .u64 (t1 : Nat), .bool shut] 26)).cell? ⟨w.heap.size, 5, none⟩ = some (.bool shut) := (HA4.out.below (below_new w4 _) HA4.out.lt).cell 5
      go_wp2_with fail
      clear cA0 cA1 cA2 cA3 cA4 cA5 cX0 cX1 cX2 cX3 cX4 cX5 cq0 cq1 cq2 cq3 cq4 cq5
      have hb := below_new w4 (.cells #[.int .i64 id, .int .i64 1, .int .i64 2, .int .i64 size, .int .u64 (t1 : Nat), .bool shut] 26)
      have hb2 := below_new (w4.alloc (.cells #[.int .i64 id, .int .i64 1, .int .i64 2, .int .i64 size, .int .u64 (t1 : Nat), .bool shut] 26)) (.cells #[.int .i64 id, .int .i64 1, .int .i64 links, .int .i64 size, .int .u64 (t1 : Nat), .bool false] 26)
      have HY5 : Hid (Blk ((w4.alloc (.cells #[.int .i64 id, .int .i64 1, .int .i64 2, .int .i64 size, .int .u64 (t1 : Nat), .bool shut] 26)).alloc (.cells #[.int .i64 id, .int .i64 1, .int .i64 links, .int .i64 size, .int .u64 (t1 : Nat), .bool false] 26)) w4.heap.size 26 (ndc id 1 2 size t1 shut)) := (Blk.new w4 _ _).below hb2 (by rw [World.size_alloc]; omega)
      have hz : Blk ((w4.alloc (.cells #[.int .i64 id, .int .i64 1, .int .i64 2, .int .i64 size, .int .u64 (t1 : Nat), .bool shut] 26)).alloc (.cells #[.int .i64 id, .int .i64 1, .int .i64 links, .int .i64 size, .int .u64 (t1 : Nat), .bool false] 26)) (w4.alloc (.cells #[.int .i64 id, .int .i64 1, .int .i64 2, .int .i64 size, .int .u64 (t1 : Nat), .bool shut] 26)).heap.size 26 (ndc id 1 links size t1 false) := Blk.new _ _ _
      rw [World.size_alloc] at hz
      have HZ5 := Lib.hid hz
      have hb3 := hb.trans (hb2.mono hb.size)
      have HA5 := Lib.hid (HA4.out.below hb3 HA4.out.lt)
      have HW5 := Lib.hid (HW4.out.trans (hb3.mono HW4.out.size))
      clear HA4 HX4 HW4 hb hb2 hb3 hz
      refine (HY.out _).mono ?_
      rintro e w6 ⟨rfl, hb⟩
      have HA6 := Lib.hid (HA5.out.below hb HA5.out.lt)
      have HY6 := Lib.hid (HY5.out.below hb HY5.out.lt)
      have HZ6 := Lib.hid (HZ5.out.below hb HZ5.out.lt)
      have HW6 := Lib.hid (HW5.out.trans (hb.mono HW5.out.size))
      clear HA5 HY5 HZ5 HW5 hb
      have cA0 : w6.cell? ⟨w.heap.size, 0, none⟩ = some (.int .i64 id) := HA6.out.cell 0
      have cA1 : w6.cell? ⟨w.heap.size, 1, none⟩ = some (.int .i64 1) := HA6.out.cell 1
      have cA2 : w6.cell? ⟨w.heap.size, 2, none⟩ = some (.int .i64 links) := HA6.out.cell 2
      have cA3 : w6.cell? ⟨w.heap.size, 3, none⟩ = some (.int .i64 size) := HA6.out.cell 3
      have cA4 : w6.cell? ⟨w.heap.size, 4, none⟩ = some (.int .u64 (t1 : Nat)) := HA6.out.cell 4
      have cA5 : w6.cell? ⟨w.heap.size, 5, none⟩ = some (.bool shut) := HA6.out.cell 5
      have cY0 : w6.cell? ⟨w4.heap.size, 0, none⟩ = some (.int .i64 id) := HY6.out.cell 0
      have cY1 : w6.cell? ⟨w4.heap.size, 1, none⟩ = some (.int .i64 1) := HY6.out.cell 1
      have cY2 : w6.cell? ⟨w4.heap.size, 2, none⟩ = some (.int .i64 2) := HY6.out.cell 2
      have cY3 : w6.cell? ⟨w4.heap.size, 3, none⟩ = some (.int .i64 size) := HY6.out.cell 3
      have cY4 : w6.cell? ⟨w4.heap.size, 4, none⟩ = some (.int .u64 (t1 : Nat)) := HY6.out.cell 4
      have cY5 : w6.cell? ⟨w4.heap.size, 5, none⟩ = some (.bool shut) := HY6.out.cell 5
      have cZ0 : w6.cell? ⟨w4.heap.size + 1, 0, none⟩ = some (.int .i64 id) := HZ6.out.cell 0
      have cZ1 : w6.cell? ⟨w4.heap.size + 1, 1, none⟩ = some (.int .i64 1) := HZ6.out.cell 1
      have cZ2 : w6.cell? ⟨w4.heap.size + 1, 2, none⟩ = some (.int .i64 links) := HZ6.out.cell 2
      have cZ3 : w6.cell? ⟨w4.heap.size + 1, 3, none⟩ = some (.int .i64 size) := HZ6.out.cell 3
      have cZ4 : w6.cell? ⟨w4.heap.size + 1, 4, none⟩ = some (.int .u64 (t1 : Nat)) := HZ6.out.cell 4
      have cZ5 : w6.cell? ⟨w4.heap.size + 1, 5, none⟩ = some (.bool false) := HZ6.out.cell 5
      go_wp2_with fail
      clear cA0 cA1 cA2 cA3 cA4 cA5 cY0 cY1 cY2 cY3 cY4 cY5 cZ0 cZ1 cZ2 cZ3 cZ4 cZ5
      refine (HZ.out _).mono ?_
      rintro e w7 ⟨rfl, hb⟩
      have HA7 := Lib.hid (HA6.out.below hb HA6.out.lt)
      have HY7 := Lib.hid (HY6.out.below hb HY6.out.lt)
      have HZ7 := Lib.hid (HZ6.out.below hb HZ6.out.lt)
      have HW7 := Lib.hid (HW6.out.trans (hb.mono HW6.out.size))
      clear HA6 HY6 HZ6 HW6 hb
      have cA0 : w7.cell? ⟨w.heap.size, 0, none⟩ = some (.int .i64 id) := HA7.out.cell 0
      have cA1 : w7.cell? ⟨w.heap.size, 1, none⟩ = some (.int .i64 1) := HA7.out.cell 1
      have cA2 : w7.cell? ⟨w.heap.size, 2, none⟩ = some (.int .i64 links) := HA7.out.cell 2
      have cA3 : w7.cell? ⟨w.heap.size, 3, none⟩ = some (.int .i64 size) := HA7.out.cell 3
      have cA4 : w7.cell? ⟨w.heap.size, 4, none⟩ = some (.int .u64 (t1 : Nat)) := HA7.out.cell 4
      have cA5 : w7.cell? ⟨w.heap.size, 5, none⟩ = some (.bool shut) := HA7.out.cell 5
      have cY0 : w7.cell? ⟨w4.heap.size, 0, none⟩ = some (.int .i64 id) := HY7.out.cell 0
      have cY1 : w7.cell? ⟨w4.heap.size, 1, none⟩ = some (.int .i64 1) := HY7.out.cell 1
      have cY2 : w7.cell? ⟨w4.heap.size, 2, none⟩ = some (.int .i64 2) := HY7.out.cell 2
      have cY3 : w7.cell? ⟨w4.heap.size, 3, none⟩ = some (.int .i64 size) := HY7.out.cell 3
      have cY4 : w7.cell? ⟨w4.heap.size, 4, none⟩ = some (.int .u64 (t1 : Nat)) := HY7.out.cell 4
      have cY5 : w7.cell? ⟨w4.heap.size, 5, none⟩ = some (.bool shut) := HY7.out.cell 5
      have cZ0 : w7.cell? ⟨w4.heap.size + 1, 0, none⟩ = some (.int .i64 id) := HZ7.out.cell 0
      have cZ1 : w7.cell? ⟨w4.heap.size + 1, 1, none⟩ = some (.int .i64 1) := HZ7.out.cell 1
      have cZ2 : w7.cell? ⟨w4.heap.size + 1, 2, none⟩ = some (.int .i64 links) := HZ7.out.cell 2
      have cZ3 : w7.cell? ⟨w4.heap.size + 1, 3, none⟩ = some (.int .i64 size) := HZ7.out.cell 3
      have cZ4 : w7.cell? ⟨w4.heap.size + 1, 4, none⟩ = some (.int .u64 (t1 : Nat)) := HZ7.out.cell 4
      have cZ5 : w7.cell? ⟨w4.heap.size + 1, 5, none⟩ = some (.bool false) := HZ7.out.cell 5
      go_wp2_with fail
      clear cA0 cA1 cA2 cA3 cA4 cA5 cY0 cY1 cY2 cY3 cY4 cY5 cZ0 cZ1 cZ2 cZ3 cZ4 cZ5
      refine (HV.out _).mono ?_
      rintro e w8 ⟨rfl, hb⟩
      have HA8 := Lib.hid (HA7.out.below hb HA7.out.lt)
      have HY8 := Lib.hid (HY7.out.below hb HY7.out.lt)
      have HZ8 := Lib.hid (HZ7.out.below hb HZ7.out.lt)
      have HW8 := Lib.hid (HW7.out.trans (hb.mono HW7.out.size))
      clear HA7 HY7 HZ7 HW7 hb
      have cA0 : w8.cell? ⟨w.heap.size, 0, none⟩ = some (.int .i64 id) := HA8.out.cell 0
      have cA1 : w8.cell? ⟨w.heap.size, 1, none⟩ = some (.int .i64 1) := HA8.out.cell 1
      have cA2 : w8.cell? ⟨w.heap.size, 2, none⟩ = some (.int .i64 links) := HA8.out.cell 2
      have cA3 : w8.cell? ⟨w.heap.size, 3, none⟩ = some (.int .i64 size) := HA8.out.cell 3
      have cA4 : w8.cell? ⟨w.heap.size, 4, none⟩ = some (.int .u64 (t1 : Nat)) := HA8.out.cell 4
      have cA5 : w8.cell? ⟨w.heap.size, 5, none⟩ = some (.bool shut) := HA8.out.cell 5
      have cY0 : w8.cell? ⟨w4.heap.size, 0, none⟩ = some (.int .i64 id) := HY8.out.cell 0
      have cY1 : w8.cell? ⟨w4.heap.size, 1, none⟩ = some (.int .i64 1) := HY8.out.cell 1
      have cY2 : w8.cell? ⟨w4.heap.size, 2, none⟩ = some (.int .i64 2) := HY8.out.cell 2
      have cY3 : w8.cell? ⟨w4.heap.size, 3, none⟩ = some (.int .i64 size) := HY8.out.cell 3
      have cY4 : w8.cell? ⟨w4.heap.size, 4, none⟩ = some (.int .u64 (t1 : Nat)) := HY8.out.cell 4
      have cY5 : w8.cell? ⟨w4.heap.size, 5, none⟩ = some (.bool shut) := HY8.out.cell 5
      have cZ0 : w8.cell? ⟨w4.heap.size + 1, 0, none⟩ = some (.int .i64 id) := HZ8.out.cell 0
      have cZ1 : w8.cell? ⟨w4.heap.size + 1, 1, none⟩ = some (.int .i64 1) := HZ8.out.cell 1
      have cZ2 : w8.cell? ⟨w4.heap.size + 1, 2, none⟩ = some (.int .i64 links) := HZ8.out.cell 2
      have cZ3 : w8.cell? ⟨w4.heap.size + 1, 3, none⟩ = some (.int .i64 size) := HZ8.out.cell 3
      have cZ4 : w8.cell? ⟨w4.heap.size + 1, 4, none⟩ = some (.int .u64 (t1 : Nat)) := HZ8.out.cell 4
      have cZ5 : w8.cell? ⟨w4.heap.size + 1, 5, none⟩ = some (.bool false) := HZ8.out.cell 5
      cases shut
      · go_wp2_with fail
        clear cA0 cA1 cA2 cA3 cA4 cA5 cY0 cY1 cY2 cY3 cY4 cY5 cZ0 cZ1 cZ2 cZ3 cZ4 cZ5
        refine (HK.out _).mono ?_
        rintro e w9 ⟨rfl, hb⟩
        have HA9 := Lib.hid (HA8.out.below hb HA8.out.lt)
        have HY9 := Lib.hid (HY8.out.below hb HY8.out.lt)
        have HZ9 := Lib.hid (HZ8.out.below hb HZ8.out.lt)
        have HW9 := Lib.hid (HW8.out.trans (hb.mono HW8.out.size))
        clear HA8 HY8 HZ8 HW8 hb
        go_wp2_with fail
        go_ret
        exact ⟨rfl, HW9.out⟩
      · have hy1 : y = 27 := HSU.out rfl
        subst hy1
        go_wp2_with fail
        clear cA0 cA1 cA2 cA3 cA4 cA5 cY0 cY1 cY2 cY3 cY4 cY5 cZ0 cZ1 cZ2 cZ3 cZ4 cZ5
        refine (HU.out _).mono ?_
        rintro e w9 ⟨rfl, hb⟩
        have HA9 := Lib.hid (HA8.out.below hb HA8.out.lt)
        have HY9 := Lib.hid (HY8.out.below hb HY8.out.lt)
        have HZ9 := Lib.hid (HZ8.out.below hb HZ8.out.lt)
        have HW9 := Lib.hid (HW8.out.trans (hb.mono HW8.out.size))
        clear HA8 HY8 HZ8 HW8 hb
        go_wp2_with fail
        refine (HK.out _).mono ?_
        rintro e w10 ⟨rfl, hb⟩
        have HA10 := Lib.hid (HA9.out.below hb HA9.out.lt)
        have HY10 := Lib.hid (HY9.out.below hb HY9.out.lt)
        have HZ10 := Lib.hid (HZ9.out.below hb HZ9.out.lt)
        have HW10 := Lib.hid (HW9.out.trans (hb.mono HW9.out.size))
        clear HA9 HY9 HZ9 HW9 hb
        go_wp2_with fail
        go_ret
        exact ⟨rfl, HW10.out⟩
  · have hp0 : (((p : Nat) : Int) == 0) = false := by simpa using h0
    clear hqz
    have cq : (w1.alloc (.cells #[.int .i64 id, .int .i64 1, .int .i64 links, .int .i64 size, .int .u64 (t1 : Nat), .bool shut] 26)).cell? ⟨w.heap.size, 4, none⟩ = some (.int .u64 (t1 : Nat)) := (HA1.out.below (below_new w1 _) HA1.out.lt).cell 4
    go_wp2_with fail
    clear cA0 cA1 cA2 cA3 cA4 cA5 cq
    have hb := below_new w1 (.cells #[.int .i64 id, .int .i64 1, .int .i64 links, .int .i64 size, .int .u64 (t2 : Nat), .bool shut] 26)
    have HX2 : Hid (Blk (w1.alloc (.cells #[.int .i64 id, .int .i64 1, .int .i64 links, .int .i64 size, .int .u64 (t2 : Nat), .bool shut] 26)) w1.heap.size 26 (ndc id 1 links size t2 shut)) := Blk.new w1 _ _
    have HA2 := Lib.hid (HA1.out.below hb HA1.out.lt)
    have HW2 := Lib.hid (HW1.out.trans (hb.mono HW1.out.size))
    clear HA1 HW1 hb
    refine (HX.out _).mono ?_
    rintro e w3 ⟨rfl, hb⟩
    have HA3 := Lib.hid (HA2.out.below hb HA2.out.lt)
    have HX3 := Lib.hid (HX2.out.below hb HX2.out.lt)
    have HW3 := Lib.hid (HW2.out.trans (hb.mono HW2.out.size))
    clear HA2 HX2 HW2 hb
    have cA0 : w3.cell? ⟨w.heap.size, 0, none⟩ = some (.int .i64 id) := HA3.out.cell 0
    have cA1 : w3.cell? ⟨w.heap.size, 1, none⟩ = some (.int .i64 1) := HA3.out.cell 1
    have cA2 : w3.cell? ⟨w.heap.size, 2, none⟩ = some (.int .i64 links) := HA3.out.cell 2
    have cA3 : w3.cell? ⟨w.heap.size, 3, none⟩ = some (.int .i64 size) := HA3.out.cell 3
    have cA4 : w3.cell? ⟨w.heap.size, 4, none⟩ = some (.int .u64 (t1 : Nat)) := HA3.out.cell 4
    have cA5 : w3.cell? ⟨w.heap.size, 5, none⟩ = some (.bool shut) := HA3.out.cell 5
    have cX0 : w3.cell? ⟨w1.heap.size, 0, none⟩ = some (.int .i64 id) := HX3.out.cell 0
    have cX1 : w3.cell? ⟨w1.heap.size, 1, none⟩ = some (.int .i64 1) := HX3.out.cell 1
    have cX2 : w3.cell? ⟨w1.heap.size, 2, none⟩ = some (.int .i64 links) := HX3.out.cell 2
    have cX3 : w3.cell? ⟨w1.heap.size, 3, none⟩ = some (.int .i64 size) := HX3.out.cell 3
    have cX4 : w3.cell? ⟨w1.heap.size, 4, none⟩ = some (.int .u64 (t2 : Nat)) := HX3.out.cell 4
    have cX5 : w3.cell? ⟨w1.heap.size, 5, none⟩ = some (.bool shut) := HX3.out.cell 5
    have hpz : x = 0 → (((p : Nat) : Int) == 0) = true := fun h => by simp [hxp h]
    by_cases hx0 : x = 0
    · exact absurd (hxp hx0) h0
    · have hx1 : (((x : Nat) : Int) == 0) = false := by simpa using hx0
      clear hpz
      have cq0 : (w3.alloc (.cells #[.int .i64 id, .int .i64 1, .int .i64 2, .int .i64 size, .int .u64 (t1 : Nat), .bool shut] 26)).cell? ⟨w.heap.size, 0, none⟩ = some (.int .i64 id) := (HA3.out.below (below_new w3 _) HA3.out.lt).cell 0
      have cq1 : (w3.alloc (.cells #[.int .i64 id, .int .i64 1, .int .i64 2, .int .i64 size, .int .u64 (t1 : Nat), .bool shut] 26)).cell? ⟨w.heap.size, 1, none⟩ = some (.int .i64 1) := (HA3.out.below (below_new w3 _) HA3.out.lt).cell 1
      have cq2 : (w3.alloc (.cells #[.int .i64 id, .int .i64 1, .int .i64 2, .int .i64 size, .int .u64 (t1 : Nat), .bool shut] 26)).cell? ⟨w.heap.size, 2, none⟩ = some (.int .i64 links) := (HA3.out.below (below_new w3 _) HA3.out.lt).cell 2
      have cq3 : (w3.alloc (.cells #[.int .i64 id, .int .i64 1, .int .i64 2, .int .i64 size, .int .u64 (t1 : Nat), .bool shut] 26)).cell? ⟨w.heap.size, 3, none⟩ = some (.int .i64 size) := (HA3.out.below (below_new w3 _) HA3.out.lt).cell 3
      have cq4 : (w3.alloc (.cells #[.int .i64 id, .int .i64 1, .int .i64 2, .int .i64 size, .int .u64 (t1 : Nat), .bool shut] 26)).cell? ⟨w.heap.size, 4, none⟩ = some (.int .u64 (t1 : Nat)) := (HA3.out.below (below_new w3 _) HA3.out.lt).cell 4
      have cq5 : (w3.alloc (.cells #[.int .i64 id, .int .i64 1, .int .i64 2, .int .i64 size, .int .u64 (t1 : Nat), .bool shut] 26)).cell? ⟨w.heap.size, 5, none⟩ = some (.bool shut) := (HA3.out.below (below_new w3 _) HA3.out.lt).cell 5
      go_wp2_with fail
      clear cA0 cA1 cA2 cA3 cA4 cA5 cX0 cX1 cX2 cX3 cX4 cX5 cq0 cq1 cq2 cq3 cq4 cq5
      have hb := below_new w3 (.cells #[.int .i64 id, .int .i64 1, .int .i64 2, .int .i64 size, .int .u64 (t1 : Nat), .bool shut] 26)
      have hb2 := below_new (w3.alloc (.cells #[.int .i64 id, .int .i64 1, .int .i64 2, .int .i64 size, .int .u64 (t1 : Nat), .bool shut] 26)) (.cells #[.int .i64 id, .int .i64 1, .int .i64 links, .int .i64 size, .int .u64 (t1 : Nat), .bool false] 26)
      have HY4 : Hid (Blk ((w3.alloc (.cells #[.int .i64 id, .int .i64 1, .int .i64 2, .int .i64 size, .int .u64 (t1 : Nat), .bool shut] 26)).alloc (.cells #[.int .i64 id, .int .i64 1, .int .i64 links, .int .i64 size, .int .u64 (t1 : Nat), .bool false] 26)) w3.heap.size 26 (ndc id 1 2 size t1 shut)) := (Blk.new w3 _ _).below hb2 (by rw [World.size_alloc]; omega)
      have hz : Blk ((w3.alloc (.cells #[.int .i64 id, .int .i64 1, .int .i64 2, .int .i64 size, .int .u64 (t1 : Nat), .bool shut] 26)).alloc (.cells #[.int .i64 id, .int .i64 1, .int .i64 links, .int .i64 size, .int .u64 (t1 : Nat), .bool false] 26)) (w3.alloc (.cells #[.int .i64 id, .int .i64 1, .int .i64 2, .int .i64 size, .int .u64 (t1 : Nat), .bool shut] 26)).heap.size 26 (ndc id 1 links size t1 false) := Blk.new _ _ _
      rw [World.size_alloc] at hz
      have HZ4 := Lib.hid hz
      have hb3 := hb.trans (hb2.mono hb.size)
      have HA4 := Lib.hid (HA3.out.below hb3 HA3.out.lt)
      have HW4 := Lib.hid (HW3.out.trans (hb3.mono HW3.out.size))
      clear HA3 HX3 HW3 hb hb2 hb3 hz
      refine (HY.out _).mono ?_
      rintro e w5 ⟨rfl, hb⟩
      have HA5 := Lib.hid (HA4.out.below hb HA4.out.lt)
      have HY5 := Lib.hid (HY4.out.below hb HY4.out.lt)
      have HZ5 := Lib.hid (HZ4.out.below hb HZ4.out.lt)
      have HW5 := Lib.hid (HW4.out.trans (hb.mono HW4.out.size))
      clear HA4 HY4 HZ4 HW4 hb
      have cA0 : w5.cell? ⟨w.heap.size, 0, none⟩ = some (.int .i64 id) := HA5.out.cell 0
      have cA1 : w5.cell? ⟨w.heap.size, 1, none⟩ = some (.int .i64 1) := HA5.out.cell 1
      have cA2 : w5.cell? ⟨w.heap.size, 2, none⟩ = some (.int .i64 links) := HA5.out.cell 2
      have cA3 : w5.cell? ⟨w.heap.size, 3, none⟩ = some (.int .i64 size) := HA5.out.cell 3
      have cA4 : w5.cell? ⟨w.heap.size, 4, none⟩ = some (.int .u64 (t1 : Nat)) := HA5.out.cell 4
      have cA5 : w5.cell? ⟨w.heap.size, 5, none⟩ = some (.bool shut) := HA5.out.cell 5
      have cY0 : w5.cell? ⟨w3.heap.size, 0, none⟩ = some (.int .i64 id) := HY5.out.cell 0
      have cY1 : w5.cell? ⟨w3.heap.size, 1, none⟩ = some (.int .i64 1) := HY5.out.cell 1
      have cY2 : w5.cell? ⟨w3.heap.size, 2, none⟩ = some (.int .i64 2) := HY5.out.cell 2
      have cY3 : w5.cell? ⟨w3.heap.size, 3, none⟩ = some (.int .i64 size) := HY5.out.cell 3
      have cY4 : w5.cell? ⟨w3.heap.size, 4, none⟩ = some (.int .u64 (t1 : Nat)) := HY5.out.cell 4
      have cY5 : w5.cell? ⟨w3.heap.size, 5, none⟩ = some (.bool shut) := HY5.out.cell 5
      have cZ0 : w5.cell? ⟨w3.heap.size + 1, 0, none⟩ = some (.int .i64 id) := HZ5.out.cell 0
      have cZ1 : w5.cell? ⟨w3.heap.size + 1, 1, none⟩ = some (.int .i64 1) := HZ5.out.cell 1
      have cZ2 : w5.cell? ⟨w3.heap.size + 1, 2, none⟩ = some (.int .i64 links) := HZ5.out.cell 2
      have cZ3 : w5.cell? ⟨w3.heap.size + 1, 3, none⟩ = some (.int .i64 size) := HZ5.out.cell 3
      have cZ4 : w5.cell? ⟨w3.heap.size + 1, 4, none⟩ = some (.int .u64 (t1 : Nat)) := HZ5.out.cell 4
      have cZ5 : w5.cell? ⟨w3.heap.size + 1, 5, none⟩ = some (.bool false) := HZ5.out.cell 5
      go_wp2_with fail
      clear cA0 cA1 cA2 cA3 cA4 cA5 cY0 cY1 cY2 cY3 cY4 cY5 cZ0 cZ1 cZ2 cZ3 cZ4 cZ5
      refine (HZ.out _).mono ?_
      rintro e w6 ⟨rfl, hb⟩
      have HA6 := Lib.hid (HA5.out.below hb HA5.out.lt)
      have HY6 := Lib.hid (HY5.out.below hb HY5.out.lt)
      have HZ6 := Lib.hid (HZ5.out.below hb HZ5.out.lt)
      have HW6 := Lib.hid (HW5.out.trans (hb.mono HW5.out.size))
      clear HA5 HY5 HZ5 HW5 hb
      have cA0 : w6.cell? ⟨w.heap.size, 0, none⟩ = some (.int .i64 id) := HA6.out.cell 0
      have cA1 : w6.cell? ⟨w.heap.size, 1, none⟩ = some (.int .i64 1) := HA6.out.cell 1
      have cA2 : w6.cell? ⟨w.heap.size, 2, none⟩ = some (.int .i64 links) := HA6.out.cell 2
      have cA3 : w6.cell? ⟨w.heap.size, 3, none⟩ = some (.int .i64 size) := HA6.out.cell 3
      have cA4 : w6.cell? ⟨w.heap.size, 4, none⟩ = some (.int .u64 (t1 : Nat)) := HA6.out.cell 4
      have cA5 : w6.cell? ⟨w.heap.size, 5, none⟩ = some (.bool shut) := HA6.out.cell 5
      have cY0 : w6.cell? ⟨w3.heap.size, 0, none⟩ = some (.int .i64 id) := HY6.out.cell 0
      have cY1 : w6.cell? ⟨w3.heap.size, 1, none⟩ = some (.int .i64 1) := HY6.out.cell 1
      have cY2 : w6.cell? ⟨w3.heap.size, 2, none⟩ = some (.int .i64 2) := HY6.out.cell 2
      have cY3 : w6.cell? ⟨w3.heap.size, 3, none⟩ = some (.int .i64 size) := HY6.out.cell 3
      have cY4 : w6.cell? ⟨w3.heap.size, 4, none⟩ = some (.int .u64 (t1 : Nat)) := HY6.out.cell 4
      have cY5 : w6.cell? ⟨w3.heap.size, 5, none⟩ = some (.bool shut) := HY6.out.cell 5
      have cZ0 : w6.cell? ⟨w3.heap.size + 1, 0, none⟩ = some (.int .i64 id) := HZ6.out.cell 0
      have cZ1 : w6.cell? ⟨w3.heap.size + 1, 1, none⟩ = some (.int .i64 1) := HZ6.out.cell 1
      have cZ2 : w6.cell? ⟨w3.heap.size + 1, 2, none⟩ = some (.int .i64 links) := HZ6.out.cell 2
      have cZ3 : w6.cell? ⟨w3.heap.size + 1, 3, none⟩ = some (.int .i64 size) := HZ6.out.cell 3
      have cZ4 : w6.cell? ⟨w3.heap.size + 1, 4, none⟩ = some (.int .u64 (t1 : Nat)) := HZ6.out.cell 4
      have cZ5 : w6.cell? ⟨w3.heap.size + 1, 5, none⟩ = some (.bool false) := HZ6.out.cell 5
      go_wp2_with fail
      clear cA0 cA1 cA2 cA3 cA4 cA5 cY0 cY1 cY2 cY3 cY4 cY5 cZ0 cZ1 cZ2 cZ3 cZ4 cZ5
      refine (HV.out _).mono ?_
      rintro e w7 ⟨rfl, hb⟩
      have HA7 := Lib.hid (HA6.out.below hb HA6.out.lt)
      have HY7 := Lib.hid (HY6.out.below hb HY6.out.lt)
      have HZ7 := Lib.hid (HZ6.out.below hb HZ6.out.lt)
      have HW7 := Lib.hid (HW6.out.trans (hb.mono HW6.out.size))
      clear HA6 HY6 HZ6 HW6 hb
      have cA0 : w7.cell? ⟨w.heap.size, 0, none⟩ = some (.int .i64 id) := HA7.out.cell 0
      have cA1 : w7.cell? ⟨w.heap.size, 1, none⟩ = some (.int .i64 1) := HA7.out.cell 1
      have cA2 : w7.cell? ⟨w.heap.size, 2, none⟩ = some (.int .i64 links) := HA7.out.cell 2
      have cA3 : w7.cell? ⟨w.heap.size, 3, none⟩ = some (.int .i64 size) := HA7.out.cell 3
      have cA4 : w7.cell? ⟨w.heap.size, 4, none⟩ = some (.int .u64 (t1 : Nat)) := HA7.out.cell 4
      have cA5 : w7.cell? ⟨w.heap.size, 5, none⟩ = some (.bool shut) := HA7.out.cell 5
      have cY0 : w7.cell? ⟨w3.heap.size, 0, none⟩ = some (.int .i64 id) := HY7.out.cell 0
      have cY1 : w7.cell? ⟨w3.heap.size, 1, none⟩ = some (.int .i64 1) := HY7.out.cell 1
      have cY2 : w7.cell? ⟨w3.heap.size, 2, none⟩ = some (.int .i64 2) := HY7.out.cell 2
      have cY3 : w7.cell? ⟨w3.heap.size, 3, none⟩ = some (.int .i64 size) := HY7.out.cell 3
      have cY4 : w7.cell? ⟨w3.heap.size, 4, none⟩ = some (.int .u64 (t1 : Nat)) := HY7.out.cell 4
      have cY5 : w7.cell? ⟨w3.heap.size, 5, none⟩ = some (.bool shut) := HY7.out.cell 5
      have cZ0 : w7.cell? ⟨w3.heap.size + 1, 0, none⟩ = some (.int .i64 id) := HZ7.out.cell 0
      have cZ1 : w7.cell? ⟨w3.heap.size + 1, 1, none⟩ = some (.int .i64 1) := HZ7.out.cell 1
      have cZ2 : w7.cell? ⟨w3.heap.size + 1, 2, none⟩ = some (.int .i64 links) := HZ7.out.cell 2
      have cZ3 : w7.cell? ⟨w3.heap.size + 1, 3, none⟩ = some (.int .i64 size) := HZ7.out.cell 3
      have cZ4 : w7.cell? ⟨w3.heap.size + 1, 4, none⟩ = some (.int .u64 (t1 : Nat)) := HZ7.out.cell 4
      have cZ5 : w7.cell? ⟨w3.heap.size + 1, 5, none⟩ = some (.bool false) := HZ7.out.cell 5
      cases shut
      · go_wp2_with fail
        clear cA0 cA1 cA2 cA3 cA4 cA5 cY0 cY1 cY2 cY3 cY4 cY5 cZ0 cZ1 cZ2 cZ3 cZ4 cZ5
        refine (HK.out _).mono ?_
        rintro e w8 ⟨rfl, hb⟩
        have HA8 := Lib.hid (HA7.out.below hb HA7.out.lt)
        have HY8 := Lib.hid (HY7.out.below hb HY7.out.lt)
        have HZ8 := Lib.hid (HZ7.out.below hb HZ7.out.lt)
        have HW8 := Lib.hid (HW7.out.trans (hb.mono HW7.out.size))
        clear HA7 HY7 HZ7 HW7 hb
        go_wp2_with fail
        go_ret
        exact ⟨rfl, HW8.out⟩
      · have hy1 : y = 27 := HSU.out rfl
        subst hy1
        go_wp2_with fail
        clear cA0 cA1 cA2 cA3 cA4 cA5 cY0 cY1 cY2 cY3 cY4 cY5 cZ0 cZ1 cZ2 cZ3 cZ4 cZ5
        refine (HU.out _).mono ?_
        rintro e w8 ⟨rfl, hb⟩
        have HA8 := Lib.hid (HA7.out.below hb HA7.out.lt)
        have HY8 := Lib.hid (HY7.out.below hb HY7.out.lt)
        have HZ8 := Lib.hid (HZ7.out.below hb HZ7.out.lt)
        have HW8 := Lib.hid (HW7.out.trans (hb.mono HW7.out.size))
        clear HA7 HY7 HZ7 HW7 hb
        go_wp2_with fail
        refine (HK.out _).mono ?_
        rintro e w9 ⟨rfl, hb⟩
        have HA9 := Lib.hid (HA8.out.below hb HA8.out.lt)
        have HY9 := Lib.hid (HY8.out.below hb HY8.out.lt)
        have HZ9 := Lib.hid (HZ8.out.below hb HZ8.out.lt)
        have HW9 := Lib.hid (HW8.out.trans (hb.mono HW8.out.size))
        clear HA8 HY8 HZ8 HW8 hb
        go_wp2_with fail
        go_ret
        exact ⟨rfl, HW9.out⟩
end Wo
end Go.Proofs.Ytpblhdpnmnfieaa

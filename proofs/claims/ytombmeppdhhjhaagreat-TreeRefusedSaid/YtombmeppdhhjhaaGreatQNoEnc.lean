/-
  OWN WORK. node.Encode, given what the program's own writer does.
-/
import Derived.Test.YtombmeppdhhjhaaGreatQNoRight
import Derived.Test.YtombmeppdhhjhaaGreatQCpWr
namespace Go.Proofs.YtombmeppdhhjhaaGreat
open Go.RowKit Rc

set_option maxHeartbeats 1000000 in
set_option maxRecDepth 100000 in
theorem enc_yes (C : WSaid) (n : Nd) (h : n.Right) (w : World) : Calls Tryz.prog 86 #[n.val] w fun e w' => ∃ X c, e = .returned (.tuple #[.slice X 16 c, .int .i64 0]) ∧ 16 ≤ c ∧ w'.ownsRow w.heap.size 5 1 (.slice X 16 c) 16 (Lib.byteCells n.bytes) ∧ Below w.heap.size w w' := by
  have HR : Hid (n.right = true) := by show _ = _; simpa [Nd.right] using h
  obtain ⟨id, kind, links, size, till, shut⟩ := n
  obtain ⟨h1, h2, h3, h4, h5, h6, h7, h8⟩ := h
  simp only at h1 h2 h3 h4 h5 h6 h7 h8
  obtain ⟨i, rfl⟩ : ∃ i : Nat, id = i := ⟨id.toNat, by omega⟩
  obtain ⟨k, rfl⟩ : ∃ k : Nat, kind = k := ⟨kind.toNat, by omega⟩
  obtain ⟨l, rfl⟩ : ∃ l : Nat, links = l := ⟨links.toNat, by omega⟩
  obtain ⟨z, rfl⟩ : ∃ z : Nat, size = z := ⟨size.toNat, by omega⟩
  have hi : i ≤ 9223372036854775807 := by omega
  have hk : k ≤ 9223372036854775807 := by omega
  have hl : l ≤ 9223372036854775807 := by omega
  have hz : z ≤ 9223372036854775807 := by omega
  have ht : till ≤ 18446744073709551615 := by omega
  have HE : Hid (Co.wShort i ++ Co.wByte k ++ Co.wShort l ++ Co.wShort z ++ Co.wLong till ++ Co.wFlag shut = Nd.bytes ⟨(i : Nat), (k : Nat), (l : Nat), (z : Nat), till, shut⟩) := by
    show _ = _
    have e1 : Nd.lo16 ((i : Nat) : Int) = i := by unfold Nd.lo16; omega
    have e2 : Nd.lo8 ((k : Nat) : Int) = k := by unfold Nd.lo8; omega
    have e3 : Nd.lo16 ((l : Nat) : Int) = l := by unfold Nd.lo16; omega
    have e4 : Nd.lo16 ((z : Nat) : Int) = z := by unfold Nd.lo16; omega
    unfold Nd.bytes
    simp only [e1, e2, e3, e4, List.append_assoc]
  have HI := Lib.hid hi
  have HK := Lib.hid hk
  have HL := Lib.hid hl
  have HZ := Lib.hid hz
  have HT := Lib.hid ht
  clear h1 h2 h3 h4 h5 h6 h7 h8 hi hk hl hz ht
  show Calls _ _ #[.agg #[.int .i64 (i : Nat), .int .i64 (k : Nat), .int .i64 (l : Nat), .int .i64 (z : Nat), .int .u64 (till : Nat), .bool shut]] w _
  have HBX : Hid (Blk (w.alloc (.cells #[.int .i64 (i : Nat), .int .i64 (k : Nat), .int .i64 (l : Nat), .int .i64 (z : Nat), .int .u64 (till : Nat), .bool shut] 59)) w.heap.size 59 [.int .i64 (i : Nat), .int .i64 (k : Nat), .int .i64 (l : Nat), .int .i64 (z : Nat), .int .u64 (till : Nat), .bool shut]) := Blk.new w _ _
  go_enter Tryz.func86, Tryz.ntmps86
  go_wp2_with fail
  refine (right_any ⟨(i : Nat), (k : Nat), (l : Nat), (z : Nat), till, shut⟩ _).mono ?_
  rintro e w1 ⟨rfl, hb⟩
  rw [HR.out]
  have HB : Hid (Below w.heap.size w w1) := (below_new w _).trans (hb.mono (by rw [World.size_alloc]; omega))
  have HX : Hid (Blk w1 w.heap.size 59 [.int .i64 (i : Nat), .int .i64 (k : Nat), .int .i64 (l : Nat), .int .i64 (z : Nat), .int .u64 (till : Nat), .bool shut]) := HBX.out.below hb HBX.out.lt
  clear hb HBX
  go_wp2_with fail
  refine (WAt.new C w1).mono ?_
  rintro e w2 ⟨a, rfl, HW2⟩
  have c := (HX.out.below (WAt.low HW2.out) HX.out.lt).cell 0
  go_wp2_with fail
  refine (WAt.short HW2.out (by simp []) i HI.out).mono ?_
  rintro e w3 ⟨⟨x3, rfl⟩, HW3⟩
  clear HW2 c
  have c := (HX.out.below (WAt.low HW3.out) HX.out.lt).cell 1
  go_wp2_with fail
  refine (WAt.byte HW3.out (by simp [Co.wShort]) k HK.out).mono ?_
  rintro e w4 ⟨⟨x4, rfl⟩, HW4⟩
  clear HW3 c
  have c := (HX.out.below (WAt.low HW4.out) HX.out.lt).cell 2
  go_wp2_with fail
  refine (WAt.short HW4.out (by simp [Co.wShort, Co.wByte]) l HL.out).mono ?_
  rintro e w5 ⟨⟨x5, rfl⟩, HW5⟩
  clear HW4 c
  have c := (HX.out.below (WAt.low HW5.out) HX.out.lt).cell 3
  go_wp2_with fail
  refine (WAt.short HW5.out (by simp [Co.wShort, Co.wByte]) z HZ.out).mono ?_
  rintro e w6 ⟨⟨x6, rfl⟩, HW6⟩
  clear HW5 c
  have c := (HX.out.below (WAt.low HW6.out) HX.out.lt).cell 4
  go_wp2_with fail
  refine (WAt.long HW6.out (by simp [Co.wShort, Co.wByte]) till HT.out).mono ?_
  rintro e w7 ⟨⟨x7, rfl⟩, HW7⟩
  clear HW6 c
  have c := (HX.out.below (WAt.low HW7.out) HX.out.lt).cell 5
  go_wp2_with fail
  refine (WAt.flag HW7.out (by simp [Co.wShort, Co.wByte, Co.wLong_length]) shut).mono ?_
  rintro e w8 ⟨⟨x8, rfl⟩, HW8⟩
  clear HW7 c
  go_wp2_with fail
  refine (WAt.done HW8.out).mono ?_
  rintro e w9 ⟨X, c, rfl, hc, HO, HX2, HD, _⟩
  have hlen : ([] ++ Co.wShort i ++ Co.wByte k ++ Co.wShort l ++ Co.wShort z ++ Co.wLong till ++ Co.wFlag shut : List UInt8).length = 16 := by
    rw [List.nil_append, HE.out, Nd.bytes_length]
  have HC : Hid (16 ≤ c) := by show 16 ≤ c; rw [← hlen]; exact hc
  have HOW : Hid (w9.ownsRow w.heap.size 5 1 (.slice X 16 c) 16 (Lib.byteCells (Nd.bytes ⟨(i : Nat), (k : Nat), (l : Nat), (z : Nat), till, shut⟩))) := by
    have h1 := HO.out
    rw [hlen, List.nil_append, HE.out] at h1
    have h2 := HX2.out
    rw [hlen] at h2
    exact own_up h1 fun b hb => Nat.le_trans HB.out.size (h2 b hb)
  have HF : Hid (Below w.heap.size w w9) := HB.out.trans ((WAt.low HW8.out).trans (HD.out.mono (WAt.low HW8.out).size) |>.mono HB.out.size)
  rw [hlen]
  clear hlen hc HO HX2 HD HW8 HX HE
  go_wp2_with fail
  go_ret2
  exact ⟨X, c, rfl, HC.out, HOW.out, HF.out⟩
end Go.Proofs.YtombmeppdhhjhaaGreat

/-
  OWN WORK. worm: Write, Remove, Keep, kept: what each answers of any node.
-/
import Derived.Test.YtpblhdpnmnfieaaL02
import Derived.Test.YtpblhdpnmnfieaaL01
import Derived.Lib.Hide
namespace Go.Proofs.Ytpblhdpnmnfieaa
open Go.RowKit
namespace Wo
def fileN (k : Int) : Nat := if k = 1 then 0 else if k = 2 then 22 else 30
def write (n : Nd) : Nat := if fileN n.kind ≠ 0 then fileN n.kind else if n.shut then 27 else 0
def remove (n : Nd) (now : Nat) : Nat := if fileN n.kind ≠ 0 then fileN n.kind else if n.shut = false ∨ 1 < n.links then 0 else if now < n.till then 28 else 0
def keep (n : Nd) (u : Nat) : Nat := if fileN n.kind ≠ 0 then fileN n.kind else if n.shut = false then 25 else if u < n.till then 28 else if 1099511627776 < u then 1 else 0
def kept (n : Nd) (now : Nat) : Bool := decide (n.kind = 1) && (n.shut && decide (now < n.till))

theorem right_any (w : World) (t : Int) : Calls Try.prog 34 #[.int .u64 t] w fun e w' => e = .returned (.bool (decide (t ≤ 1099511627776))) ∧ w' = w := by
  go_enter Try.func34, Try.ntmps34
  go_wp2
  go_ret
  exact ⟨rfl, rfl⟩
theorem due_any (w : World) (now until_ : Int) : Calls Try.prog 33 #[.int .u64 now, .int .u64 until_] w fun e w' => e = .returned (.bool (decide (until_ ≤ now))) ∧ w' = w := by
  go_enter Try.func33, Try.ntmps33
  go_wp2
  go_ret
  exact ⟨by simp, rfl⟩

theorem file_any (n : Nd) (w : World) : Calls Try.prog 32 #[n.val] w fun e w' => e = .returned (.int .i64 (fileN n.kind : Nat)) ∧ Below w.heap.size w w' := by
  obtain ⟨id, kind, links, size, till, shut⟩ := n
  show Calls _ _ #[.agg #[.int .i64 id, .int .i64 kind, .int .i64 links, .int .i64 size, .int .u64 (till : Nat), .bool shut]] w fun e w' => e = .returned (.int .i64 (fileN kind : Nat)) ∧ _
  by_cases h1 : kind = 1
  · have HE : fileN kind = 0 := by unfold fileN; rw [if_pos h1]
    rw [HE]
    clear HE
    go_enter Try.func32, Try.ntmps32
    go_wp2
    go_ret
    exact ⟨rfl, below_new _ _⟩
  · by_cases h2 : kind = 2
    · have HE : fileN kind = 22 := by unfold fileN; rw [if_neg h1, if_pos h2]
      rw [HE]
      clear HE
      go_enter Try.func32, Try.ntmps32
      go_wp2
      go_ret
      exact ⟨rfl, below_new _ _⟩
    · have HE : fileN kind = 30 := by unfold fileN; rw [if_neg h1, if_neg h2]
      rw [HE]
      clear HE
      go_enter Try.func32, Try.ntmps32
      go_wp2
      go_ret
      exact ⟨rfl, below_new _ _⟩
theorem file_as (id kind links size : Int) (till : Nat) (shut : Bool) (w : World) : Calls Try.prog 32 #[.agg #[.int .i64 id, .int .i64 kind, .int .i64 links, .int .i64 size, .int .u64 (till : Nat), .bool shut]] w fun e w' => e = .returned (.int .i64 (fileN kind : Nat)) ∧ Below w.heap.size w w' := file_any ⟨id, kind, links, size, till, shut⟩ w
/-- A node's block. -/
abbrev ndc (id kind links size : Int) (till : Nat) (shut : Bool) : List Value := [.int .i64 id, .int .i64 kind, .int .i64 links, .int .i64 size, .int .u64 (till : Nat), .bool shut]

set_option maxHeartbeats 1000000 in
set_option maxRecDepth 100000 in
theorem write_any (n : Nd) (w : World) : Calls Try.prog 17 #[n.val] w fun e w' => e = .returned (.int .i64 (write n : Nat)) ∧ Below w.heap.size w w' := by
  obtain ⟨id, kind, links, size, till, shut⟩ := n
  show Calls _ _ #[.agg #[.int .i64 id, .int .i64 kind, .int .i64 links, .int .i64 size, .int .u64 (till : Nat), .bool shut]] w _
  obtain ⟨r, hr⟩ : ∃ r, r = write ⟨id, kind, links, size, till, shut⟩ := ⟨_, rfl⟩
  rw [← hr]
  have HR := Lib.hid hr
  clear hr
  have HX : Hid (Blk (w.alloc (.cells #[.int .i64 id, .int .i64 kind, .int .i64 links, .int .i64 size, .int .u64 (till : Nat), .bool shut] 26)) w.heap.size 26 (ndc id kind links size till shut)) := Blk.new w _ _
  have HW : Hid (Below w.heap.size w (w.alloc (.cells #[.int .i64 id, .int .i64 kind, .int .i64 links, .int .i64 size, .int .u64 (till : Nat), .bool shut] 26))) := below_new w _
  obtain ⟨f, hf⟩ : ∃ f, f = fileN kind := ⟨_, rfl⟩
  have HF := Lib.hid (file_as id kind links size till shut)
  rw [← hf] at HF
  have HFQ := Lib.hid hf
  clear hf
  go_enter Try.func17, Try.ntmps17
  go_wp2_with fail
  refine (HF.out _).mono ?_
  rintro e w1 ⟨rfl, hb1⟩
  have HX1 := Lib.hid (HX.out.below hb1 HX.out.lt)
  have HW1 := Lib.hid (HW.out.trans (hb1.mono HW.out.size))
  clear HX HW hb1
  have c5 : w1.cell? ⟨w.heap.size, 5, none⟩ = some (.bool shut) := HX1.out.cell 5
  by_cases h0 : f = 0
  · subst h0
    cases shut
    · go_wp2_with fail
      go_ret
      exact ⟨by rw [HR.out]; unfold write; rw [← HFQ.out]; rfl, HW1.out⟩
    · go_wp2_with fail
      go_ret
      exact ⟨by rw [HR.out]; unfold write; rw [← HFQ.out]; rfl, HW1.out⟩
  · have hz : (((f : Nat) : Int) == 0) = false := by simpa using h0
    go_wp2_with fail
    go_ret
    exact ⟨by rw [HR.out]; unfold write; rw [← HFQ.out, if_pos h0]; rfl, HW1.out⟩

set_option maxHeartbeats 1000000 in
set_option maxRecDepth 100000 in
theorem remove_any (n : Nd) (now : Nat) (w : World) : Calls Try.prog 16 #[n.val, .int .u64 (now : Nat)] w fun e w' => e = .returned (.int .i64 (remove n now : Nat)) ∧ Below w.heap.size w w' := by
  obtain ⟨id, kind, links, size, till, shut⟩ := n
  show Calls _ _ #[.agg #[.int .i64 id, .int .i64 kind, .int .i64 links, .int .i64 size, .int .u64 (till : Nat), .bool shut], _] w _
  obtain ⟨r, hr⟩ : ∃ r, r = remove ⟨id, kind, links, size, till, shut⟩ now := ⟨_, rfl⟩
  rw [← hr]
  have HR := Lib.hid hr
  clear hr
  have HX : Hid (Blk (w.alloc (.cells #[.int .i64 id, .int .i64 kind, .int .i64 links, .int .i64 size, .int .u64 (till : Nat), .bool shut] 26)) w.heap.size 26 (ndc id kind links size till shut)) := Blk.new w _ _
  have HW : Hid (Below w.heap.size w (w.alloc (.cells #[.int .i64 id, .int .i64 kind, .int .i64 links, .int .i64 size, .int .u64 (till : Nat), .bool shut] 26))) := below_new w _
  obtain ⟨f, hf⟩ : ∃ f, f = fileN kind := ⟨_, rfl⟩
  have HF := Lib.hid (file_as id kind links size till shut)
  rw [← hf] at HF
  have HFQ := Lib.hid hf
  clear hf
  go_enter Try.func16, Try.ntmps16
  go_wp2_with fail
  refine (HF.out _).mono ?_
  rintro e w1 ⟨rfl, hb1⟩
  have HX1 := Lib.hid (HX.out.below hb1 HX.out.lt)
  have HW1 := Lib.hid (HW.out.trans (hb1.mono HW.out.size))
  clear HX HW hb1
  have c2 : w1.cell? ⟨w.heap.size, 2, none⟩ = some (.int .i64 links) := HX1.out.cell 2
  have c4 : w1.cell? ⟨w.heap.size, 4, none⟩ = some (.int .u64 (till : Nat)) := HX1.out.cell 4
  have c5 : w1.cell? ⟨w.heap.size, 5, none⟩ = some (.bool shut) := HX1.out.cell 5
  by_cases h0 : f = 0
  · subst h0
    cases shut
    · go_wp2_with fail
      go_ret
      exact ⟨by rw [HR.out]; unfold remove; rw [← HFQ.out]; rfl, HW1.out⟩
    · by_cases hl : 1 < links
      · go_wp2_with fail
        go_ret
        exact ⟨by rw [HR.out]; unfold remove; rw [← HFQ.out, if_neg (by simp), if_pos (.inr hl)]; rfl, HW1.out⟩
      · by_cases hd : now < till
        · have hn : decide (((till : Nat) : Int) ≤ ((now : Nat) : Int)) = false := by simp; omega
          go_wp2_with fail
          refine (due_any _ _ _).mono ?_
          rintro e _ ⟨rfl, rfl⟩
          rw [hn]
          go_wp2_with fail
          go_ret
          exact ⟨by rw [HR.out]; unfold remove; rw [← HFQ.out, if_neg (by simp), if_neg (by simp; omega), if_pos hd]; rfl, HW1.out⟩
        · have hn : decide (((till : Nat) : Int) ≤ ((now : Nat) : Int)) = true := by simp; omega
          go_wp2_with fail
          refine (due_any _ _ _).mono ?_
          rintro e _ ⟨rfl, rfl⟩
          rw [hn]
          go_wp2_with fail
          go_ret
          exact ⟨by rw [HR.out]; unfold remove; rw [← HFQ.out, if_neg (by simp), if_neg (by simp; omega), if_neg hd]; rfl, HW1.out⟩
  · have hz : (((f : Nat) : Int) == 0) = false := by simpa using h0
    go_wp2_with fail
    go_ret
    exact ⟨by rw [HR.out]; unfold remove; rw [← HFQ.out, if_pos h0]; rfl, HW1.out⟩

set_option maxHeartbeats 1000000 in
set_option maxRecDepth 100000 in
theorem keep_any (n : Nd) (u : Nat) (w : World) : Calls Try.prog 19 #[n.val, .int .u64 (u : Nat)] w fun e w' => e = .returned (.int .i64 (keep n u : Nat)) ∧ Below w.heap.size w w' := by
  obtain ⟨id, kind, links, size, till, shut⟩ := n
  show Calls _ _ #[.agg #[.int .i64 id, .int .i64 kind, .int .i64 links, .int .i64 size, .int .u64 (till : Nat), .bool shut], _] w _
  obtain ⟨r, hr⟩ : ∃ r, r = keep ⟨id, kind, links, size, till, shut⟩ u := ⟨_, rfl⟩
  rw [← hr]
  have HR := Lib.hid hr
  clear hr
  have HX : Hid (Blk (w.alloc (.cells #[.int .i64 id, .int .i64 kind, .int .i64 links, .int .i64 size, .int .u64 (till : Nat), .bool shut] 26)) w.heap.size 26 (ndc id kind links size till shut)) := Blk.new w _ _
  have HW : Hid (Below w.heap.size w (w.alloc (.cells #[.int .i64 id, .int .i64 kind, .int .i64 links, .int .i64 size, .int .u64 (till : Nat), .bool shut] 26))) := below_new w _
  obtain ⟨f, hf⟩ : ∃ f, f = fileN kind := ⟨_, rfl⟩
  have HF := Lib.hid (file_as id kind links size till shut)
  rw [← hf] at HF
  have HFQ := Lib.hid hf
  clear hf
  go_enter Try.func19, Try.ntmps19
  go_wp2_with fail
  refine (HF.out _).mono ?_
  rintro e w1 ⟨rfl, hb1⟩
  have HX1 := Lib.hid (HX.out.below hb1 HX.out.lt)
  have HW1 := Lib.hid (HW.out.trans (hb1.mono HW.out.size))
  clear HX HW hb1
  have c4 : w1.cell? ⟨w.heap.size, 4, none⟩ = some (.int .u64 (till : Nat)) := HX1.out.cell 4
  have c5 : w1.cell? ⟨w.heap.size, 5, none⟩ = some (.bool shut) := HX1.out.cell 5
  by_cases h0 : f = 0
  · subst h0
    cases shut
    · go_wp2_with fail
      go_ret
      exact ⟨by rw [HR.out]; unfold keep; rw [← HFQ.out]; rfl, HW1.out⟩
    · by_cases hd : u < till
      · have hn : ((u : Nat) : Int) < ((till : Nat) : Int) := by omega
        go_wp2_with fail
        go_ret
        exact ⟨by rw [HR.out]; unfold keep; rw [← HFQ.out, if_neg (by simp), if_neg (by simp), if_pos hd]; rfl, HW1.out⟩
      · have hn : ¬ ((u : Nat) : Int) < ((till : Nat) : Int) := by omega
        by_cases hm : 1099511627776 < u
        · have hq : decide (((u : Nat) : Int) ≤ 1099511627776) = false := by simp; omega
          go_wp2_with fail
          refine (right_any _ _).mono ?_
          rintro e _ ⟨rfl, rfl⟩
          rw [hq]
          go_wp2_with fail
          go_ret
          exact ⟨by rw [HR.out]; unfold keep; rw [← HFQ.out, if_neg (by simp), if_neg (by simp), if_neg hd, if_pos hm]; rfl, HW1.out⟩
        · have hq : decide (((u : Nat) : Int) ≤ 1099511627776) = true := by simp; omega
          go_wp2_with fail
          refine (right_any _ _).mono ?_
          rintro e _ ⟨rfl, rfl⟩
          rw [hq]
          go_wp2_with fail
          go_ret
          exact ⟨by rw [HR.out]; unfold keep; rw [← HFQ.out, if_neg (by simp), if_neg (by simp), if_neg hd, if_neg hm]; rfl, HW1.out⟩
  · have hz : (((f : Nat) : Int) == 0) = false := by simpa using h0
    go_wp2_with fail
    go_ret
    exact ⟨by rw [HR.out]; unfold keep; rw [← HFQ.out, if_pos h0]; rfl, HW1.out⟩

set_option maxHeartbeats 1000000 in
set_option maxRecDepth 100000 in
theorem kept_any (n : Nd) (now : Nat) (w : World) : Calls Try.prog 21 #[n.val, .int .u64 (now : Nat)] w fun e w' => e = .returned (.bool (kept n now)) ∧ Below w.heap.size w w' := by
  obtain ⟨id, kind, links, size, till, shut⟩ := n
  show Calls _ _ #[.agg #[.int .i64 id, .int .i64 kind, .int .i64 links, .int .i64 size, .int .u64 (till : Nat), .bool shut], _] w _
  obtain ⟨r, hr⟩ : ∃ r, r = kept ⟨id, kind, links, size, till, shut⟩ now := ⟨_, rfl⟩
  rw [← hr]
  unfold kept at hr
  by_cases h1 : kind = 1
  · cases shut
    · have HR : Hid (r = false) := by rw [hr]; show _ = _; simp
      clear hr
      go_enter Try.func21, Try.ntmps21
      go_wp2_with fail
      go_ret
      exact ⟨by rw [HR.out]; rfl, below_new _ _⟩
    · by_cases hd : now < till
      · have HR : Hid (r = true) := by rw [hr]; show _ = _; simp [h1, hd]
        have hn : decide (((till : Nat) : Int) ≤ ((now : Nat) : Int)) = false := by simp; omega
        clear hr
        go_enter Try.func21, Try.ntmps21
        go_wp2_with fail
        refine (due_any _ _ _).mono ?_
        rintro e _ ⟨rfl, rfl⟩
        rw [hn]
        go_wp2_with fail
        go_ret
        exact ⟨by rw [HR.out]; rfl, below_new _ _⟩
      · have HR : Hid (r = false) := by rw [hr]; show _ = _; simp [h1, hd]
        have hn : decide (((till : Nat) : Int) ≤ ((now : Nat) : Int)) = true := by simp; omega
        clear hr
        go_enter Try.func21, Try.ntmps21
        go_wp2_with fail
        refine (due_any _ _ _).mono ?_
        rintro e _ ⟨rfl, rfl⟩
        rw [hn]
        go_wp2_with fail
        go_ret
        exact ⟨by rw [HR.out]; rfl, below_new _ _⟩
  · have HR : Hid (r = false) := by rw [hr]; show _ = _; simp [h1]
    have hz : (kind == 1) = false := by simpa using h1
    clear hr
    go_enter Try.func21, Try.ntmps21
    go_wp2_with fail
    go_ret
    exact ⟨by rw [HR.out]; rfl, below_new _ _⟩
end Wo
end Go.Proofs.Ytpblhdpnmnfieaa

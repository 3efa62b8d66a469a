/-
  OWN WORK. Law 10's NodeBack, walked: what is written comes back, unlike nodes have unlike bytes, what is read is just what is written.
-/
import Derived.Test.YtopcipaaffpiaaaNoSame
namespace Go.Proofs.Ytopcipaaffpiaaa
open Go.RowKit Rc

theorem enc_list (C : WSaid) {id kind links size : Int} {till : Nat} {shut : Bool} (w : World) (h : Nd.Right ⟨id, kind, links, size, till, shut⟩) {L : List UInt8} (hL : Nd.bytes ⟨id, kind, links, size, till, shut⟩ = L) : Calls Try.prog 13 #[.agg #[.int .i64 id, .int .i64 kind, .int .i64 links, .int .i64 size, .int .u64 (till : Nat), .bool shut]] w fun e w' => ∃ X c, e = .returned (.tuple #[.slice X L.length c, .int .i64 0]) ∧ L.length ≤ c ∧ Hid (Rd w' X L) ∧ Hid (Below w.heap.size w w') := by
  refine (enc_yes_as C w h).mono ?_
  rintro e w' ⟨X, c, rfl, hc, _, hr, hb⟩
  have hl := Nd.bytes_length ⟨id, kind, links, size, till, shut⟩
  rw [hL] at hl hr
  exact ⟨X, c, by rw [hl], by rw [hl]; exact hc, hr, hb⟩
theorem nd_eql (a b : Nd) (h : a ≠ b) (w : World) : (binOp .eql 25 a.val b.val).run Try.prog w = .ok (.bool false) w := by
  obtain ⟨ia, ka, la, za, ta, sa⟩ := a
  obtain ⟨ib, kb, lb, zb, tb, sb⟩ := b
  show (binOp .eql 25 (.agg #[.int .i64 ia, .int .i64 ka, .int .i64 la, .int .i64 za, .int .u64 (ta : Nat), .bool sa]) (.agg #[.int .i64 ib, .int .i64 kb, .int .i64 lb, .int .i64 zb, .int .u64 (tb : Nat), .bool sb])).run Try.prog w = _
  by_cases h1 : ia = ib
  · subst h1
    by_cases h2 : ka = kb
    · subst h2
      by_cases h3 : la = lb
      · subst h3
        by_cases h4 : za = zb
        · subst h4
          by_cases h5 : ta = tb
          · subst h5
            have h6 : sa ≠ sb := fun e => h (by rw [e])
            clear h
            cases sa <;> cases sb <;> first | exact absurd rfl h6 | go_simp
          · have h5i : ((ta : Nat) : Int) ≠ (tb : Nat) := by omega
            clear h
            go_simp
        · clear h
          go_simp
      · clear h
        go_simp
    · clear h
      go_simp
  · clear h
    go_simp
theorem str_ne {a b : List UInt8} (h : a ≠ b) : ((strOf a).toList == (strOf b).toList) = false := by
  rw [beq_eq_false_iff_ne]
  intro e
  apply h
  have e2 := congrArg List.toArray e
  simpa [strOf, ByteArray.toList_eq] using e
end Go.Proofs.Ytopcipaaffpiaaa

/-
  OWN WORK. The document's own SHA-256 (permafrostref2), by its contract: what it calls, and the beginning.
-/
import Derived.Test.YtbdbccdkimkhbaaDoorShTop
import Derived.Laws.AppendOwnNone
import Derived.StillTailTactics
namespace Go.Proofs.YtbdbccdkimkhbaaDoor
open Go.RowKit Sh

/-- Bytes that are read, nil or not, go behind a row of the call's own. -/
theorem run_append_rd {P : Program} (w : World) (base : Nat) (t ty e : TypeId) (i : TypeInfo) (ht : P.underlying t = some (.slice e)) (hi : P.info? e = some i) (hz : i.zero = some (.int .u8 0)) (hsize : i.size = 1) (hby : i.bytes = 1)
    (v : Value) (n : Nat) (xs : List Value) (hown : w.ownsRow base e 1 v n xs) (A : Option Addr) (l : List UInt8) (c : Nat) (hr : Rd w A l) (hn : n + l.length ≤ 1099511627776) (hbase : base ≤ w.heap.size) :
    ∃ v' w', (Builtin.append_ #[t, t] ty #[v, .slice A l.length c]).run P w = .ok v' w' ∧ w'.ownsRow base e 1 v' (n + l.length) (xs ++ Lib.byteCells l) ∧ w.grownBy w' v.ownBlock := by
  cases A with
  | none =>
    have hl : l = [] := by
      rcases Nat.eq_zero_or_pos l.length with h | h
      · exact List.eq_nil_of_length_eq_zero h
      · obtain ⟨b, off, h1, _⟩ := hr h
        cases h1
    subst hl
    refine ⟨v, w, ?_, by simpa [Lib.byteCells] using hown, ⟨rfl, rfl, rfl, Nat.le_refl _, fun _ _ _ => rfl⟩⟩
    show (Builtin.append_ #[t, t] ty #[v, .slice none 0 c]).run P w = .ok v w
    rcases hown.2 with ⟨rfl, rfl⟩ | ⟨g, cap, cur, rfl, _, _, hnc, _⟩
    · simp [Builtin.append_, run_underlying ht, sizeOf, typeInfo, hi, Builtin.lenOf, Builtin.firstCells]
    · simp [Builtin.append_, run_underlying ht, sizeOf, typeInfo, hi, Builtin.lenOf, Builtin.firstCells, hnc, storeCells]
  | some ad =>
    have hc : ∀ j u, (Lib.byteCells l)[j]? = some u → w.cell? (ad.add j) = some u := by
      intro j u hu
      simp only [Lib.byteCells, List.getElem?_map, Option.map_eq_some_iff] at hu
      obtain ⟨x, hx, rfl⟩ := hu
      obtain ⟨b, off, h1, _, h2⟩ := hr (by have := (List.getElem?_eq_some_iff.1 hx).1; omega)
      obtain rfl : ad = ⟨b, off, none⟩ := by injection h1
      rw [add_plain]
      exact h2 j x hx
    obtain ⟨v', w', h1, h2, h3, _⟩ := run_append_own (P := P) (w := w) base t ty e i (.int .u8 0) 1 1 ht hi hz hsize hby rfl (by decide) v n xs hown ad l.length c (Lib.byteCells l) (by simp [Lib.byteCells_length]) hc (bytes_one l) (by unfold maxLen; omega) (by omega) hbase
    exact ⟨v', w', h1, h2, h3⟩
theorem wpList_append_rd {P : Program} {w : World} {ops : Array Oper} {rest : List Oper} {o : Oper} {a : Act} {Q : Exit → Act → World → Prop} (hgd : o.guard = none) (s x : Operand) (t : TypeId)
    (ho : o.op = .call { callee := .builtin .append, args := #[s, x], argTypes := #[t, t] })
    (base : Nat) (e : TypeId) (i : TypeInfo) (ht : P.underlying t = some (.slice e)) (hi : P.info? e = some i) (hz : i.zero = some (.int .u8 0)) (hsize : i.size = 1) (hby : i.bytes = 1)
    (v : Value) (n : Nat) (xs : List Value) (hs : a.eval s = v) (hown : w.ownsRow base e 1 v n xs) (A : Option Addr) (l : List UInt8) (m c : Nat) (hm : l.length = m) (hx : a.eval x = .slice A m c) (hr : Rd w A l) (hn : n + l.length ≤ 1099511627776) (hbase : base ≤ w.heap.size)
    (h : ∀ v' w', Hid (w'.ownsRow base e 1 v' (n + l.length) (xs ++ Lib.byteCells l)) → Hid (w.grownBy w' v.ownBlock) → wpList P ops Q rest (a.put o.dst v') w') : wpList P ops Q (o :: rest) a w := by
  subst hm
  refine wpList_plain hgd fun K hK => ?_
  obtain ⟨v', w', hrun, h1, h2⟩ := run_append_rd w base t o.type e i ht hi hz hsize hby v n xs hown A l c hr hn hbase
  unfold Oper.wp
  simp [execOp, ho, resolve, invoke, builtin, hs, hx, hrun, Result.andThen]
  exact hK _ _ (h v' w' h1 h2)

theorem turn2_any (x : Int) (w : World) :
    Calls Tryd.prog 22 #[.int .u32 x, .int .u64 2] w fun e w' => e = .returned (.int .u32 (rot 2 x)) ∧ w' = w := by
  have HD : Hid (rot 2 x = bits .or .u32 (x / 4) (x * 1073741824 % 4294967296)) := show _ = _ from bits_or_comm _ _
  go_enter Tryd.func22, Tryd.ntmps22
  go_wp2
  go_ret
  exact ⟨ret_num HD.out, rfl⟩

theorem turn6_any (x : Int) (w : World) :
    Calls Tryd.prog 22 #[.int .u32 x, .int .u64 6] w fun e w' => e = .returned (.int .u32 (rot 6 x)) ∧ w' = w := by
  have HD : Hid (rot 6 x = bits .or .u32 (x / 64) (x * 67108864 % 4294967296)) := show _ = _ from bits_or_comm _ _
  go_enter Tryd.func22, Tryd.ntmps22
  go_wp2
  go_ret
  exact ⟨ret_num HD.out, rfl⟩

theorem turn7_any (x : Int) (w : World) :
    Calls Tryd.prog 22 #[.int .u32 x, .int .u64 7] w fun e w' => e = .returned (.int .u32 (rot 7 x)) ∧ w' = w := by
  have HD : Hid (rot 7 x = bits .or .u32 (x / 128) (x * 33554432 % 4294967296)) := show _ = _ from bits_or_comm _ _
  go_enter Tryd.func22, Tryd.ntmps22
  go_wp2
  go_ret
  exact ⟨ret_num HD.out, rfl⟩

theorem turn11_any (x : Int) (w : World) :
    Calls Tryd.prog 22 #[.int .u32 x, .int .u64 11] w fun e w' => e = .returned (.int .u32 (rot 11 x)) ∧ w' = w := by
  have HD : Hid (rot 11 x = bits .or .u32 (x / 2048) (x * 2097152 % 4294967296)) := show _ = _ from bits_or_comm _ _
  go_enter Tryd.func22, Tryd.ntmps22
  go_wp2
  go_ret
  exact ⟨ret_num HD.out, rfl⟩

theorem turn13_any (x : Int) (w : World) :
    Calls Tryd.prog 22 #[.int .u32 x, .int .u64 13] w fun e w' => e = .returned (.int .u32 (rot 13 x)) ∧ w' = w := by
  have HD : Hid (rot 13 x = bits .or .u32 (x / 8192) (x * 524288 % 4294967296)) := show _ = _ from bits_or_comm _ _
  go_enter Tryd.func22, Tryd.ntmps22
  go_wp2
  go_ret
  exact ⟨ret_num HD.out, rfl⟩

theorem turn17_any (x : Int) (w : World) :
    Calls Tryd.prog 22 #[.int .u32 x, .int .u64 17] w fun e w' => e = .returned (.int .u32 (rot 17 x)) ∧ w' = w := by
  have HD : Hid (rot 17 x = bits .or .u32 (x / 131072) (x * 32768 % 4294967296)) := show _ = _ from bits_or_comm _ _
  go_enter Tryd.func22, Tryd.ntmps22
  go_wp2
  go_ret
  exact ⟨ret_num HD.out, rfl⟩

theorem turn18_any (x : Int) (w : World) :
    Calls Tryd.prog 22 #[.int .u32 x, .int .u64 18] w fun e w' => e = .returned (.int .u32 (rot 18 x)) ∧ w' = w := by
  have HD : Hid (rot 18 x = bits .or .u32 (x / 262144) (x * 16384 % 4294967296)) := show _ = _ from bits_or_comm _ _
  go_enter Tryd.func22, Tryd.ntmps22
  go_wp2
  go_ret
  exact ⟨ret_num HD.out, rfl⟩

theorem turn19_any (x : Int) (w : World) :
    Calls Tryd.prog 22 #[.int .u32 x, .int .u64 19] w fun e w' => e = .returned (.int .u32 (rot 19 x)) ∧ w' = w := by
  have HD : Hid (rot 19 x = bits .or .u32 (x / 524288) (x * 8192 % 4294967296)) := show _ = _ from bits_or_comm _ _
  go_enter Tryd.func22, Tryd.ntmps22
  go_wp2
  go_ret
  exact ⟨ret_num HD.out, rfl⟩

theorem turn22_any (x : Int) (w : World) :
    Calls Tryd.prog 22 #[.int .u32 x, .int .u64 22] w fun e w' => e = .returned (.int .u32 (rot 22 x)) ∧ w' = w := by
  have HD : Hid (rot 22 x = bits .or .u32 (x / 4194304) (x * 1024 % 4294967296)) := show _ = _ from bits_or_comm _ _
  go_enter Tryd.func22, Tryd.ntmps22
  go_wp2
  go_ret
  exact ⟨ret_num HD.out, rfl⟩

theorem turn25_any (x : Int) (w : World) :
    Calls Tryd.prog 22 #[.int .u32 x, .int .u64 25] w fun e w' => e = .returned (.int .u32 (rot 25 x)) ∧ w' = w := by
  have HD : Hid (rot 25 x = bits .or .u32 (x / 33554432) (x * 128 % 4294967296)) := show _ = _ from bits_or_comm _ _
  go_enter Tryd.func22, Tryd.ntmps22
  go_wp2
  go_ret
  exact ⟨ret_num HD.out, rfl⟩
theorem turn_any (x n : Int) (hn : n = 2 ∨ n = 6 ∨ n = 7 ∨ n = 11 ∨ n = 13 ∨ n = 17 ∨ n = 18 ∨ n = 19 ∨ n = 22 ∨ n = 25) (w : World) :
    Calls Tryd.prog 22 #[.int .u32 x, .int .u64 n] w fun e w' => e = .returned (.int .u32 (rot n.toNat x)) ∧ w' = w := by
  rcases hn with rfl | rfl | rfl | rfl | rfl | rfl | rfl | rfl | rfl | rfl
  · exact turn2_any x w
  · exact turn6_any x w
  · exact turn7_any x w
  · exact turn11_any x w
  · exact turn13_any x w
  · exact turn17_any x w
  · exact turn18_any x w
  · exact turn19_any x w
  · exact turn22_any x w
  · exact turn25_any x w
end Go.Proofs.YtbdbccdkimkhbaaDoor

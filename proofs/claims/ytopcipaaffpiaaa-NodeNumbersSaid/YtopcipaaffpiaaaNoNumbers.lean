/-
  OWN WORK. Law 10's NodeNumbers, walked: the chapter's runs, and each bound.
-/
import Derived.Test.YtopcipaaffpiaaaNoSame
import Derived.Test.YtopcipaaffpiaaaNoRead
import Derived.Test.YtopcipaaffpiaaaBaCell
import Derived.Deep.CutBlock
namespace Go.Proofs.Ytopcipaaffpiaaa
open Go.RowKit Rc

/-- The numbers that are held. -/
def nums10 : List Int := [-1, 0, 1, 4096, 4097, 65535, 65536]
def numVals (l : List Int) : List Value := l.map fun x => .int .i64 x
theorem nums10_in : ∀ x ∈ nums10, -9223372036854775808 ≤ x ∧ x ≤ 9223372036854775807 := by decide
theorem nums10_are : ∀ x ∈ nums10, x = -1 ∨ x = 0 ∨ x = 1 ∨ x = 4096 ∨ x = 4097 ∨ x = 65535 ∨ x = 65536 := by decide
theorem rdi_alloc (w : World) (l : List Int) (hl : ∀ x ∈ l, -9223372036854775808 ≤ x ∧ x ≤ 9223372036854775807) (t : TypeId) (fz : Nat × Nat) : RdI (w.alloc (.cells (numVals l).toArray t fz)) (some ⟨w.heap.size, 0, none⟩) l := fun j x hx => by
  refine ⟨hl x (List.mem_of_getElem? hx), _, _, rfl, by rw [World.size_alloc]; omega, ?_⟩
  rw [cell_of_row _ w.heap.size (0 + j) _ _ _ (heap_alloc_new w _), Nat.zero_add]
  simp only [List.getElem?_toArray, numVals, List.getElem?_map, hx, Option.map_some]
theorem RdI.below {n : Nat} {w w' : World} {A : Option Addr} {l : List Int} (h : RdI w A l) (hb : Below n w w') (hn : w.heap.size ≤ n) : RdI w' A l := fun j x hj => by
  obtain ⟨h1, b, off, h2, h3, h4⟩ := h j x hj
  have hc : w'.cell? ⟨b, off + j, none⟩ = w.cell? ⟨b, off + j, none⟩ := hb.cell (p := ⟨b, off + j, none⟩) (Nat.lt_of_lt_of_le h3 hn)
  exact ⟨h1, b, off, h2, Nat.lt_of_lt_of_le h3 hb.size, hc.trans h4⟩
theorem RdI.set1 {w : World} {A : Option Addr} {l : List Int} (h : RdI w A l) {g : Nat} (hA : A.map (·.block) ≠ some g) (i : Nat) (u : Value) : RdI (w.setCell ⟨g, i, none⟩ u) A l := fun j x hj => by
  obtain ⟨h1, b, off, h2, h3, h4⟩ := h j x hj
  subst h2
  have hne : b ≠ g := fun e => hA (by rw [e]; rfl)
  have hbb : (w.setCell ⟨g, i, none⟩ u).heap[b]? = w.heap[b]? := Below.heap_setCell w ⟨g, i, none⟩ u b hne
  refine ⟨h1, b, off, rfl, by simpa [World.setCell] using h3, ?_⟩
  rw [← h4]
  simp only [World.cell?, hbb]
theorem wpList_append_g {P : Program} {w : World} {ops : Array Oper} {rest : List Oper} {o : Oper} {a : Act} {Q : Exit → Act → World → Prop} (hgd : Region.wanted o (yielded ops a.tmps) = true) (s x : Operand) (t : TypeId)
    (ho : o.op = .call { callee := .builtin .append, args := #[s, x], argTypes := #[t, t] })
    (base : Nat) (e : TypeId) (i : TypeInfo) (ht : P.underlying t = some (.slice e)) (hi : P.info? e = some i) (hz : i.zero = some (.int .u8 0)) (hsize : i.size = 1) (hby : i.bytes = 1)
    (v : Value) (n : Nat) (xs : List Value) (hs : a.eval s = v) (hown : w.ownsRow base e 1 v n xs) (A : Option Addr) (l : List UInt8) (m c : Nat) (hm : l.length = m) (hx : a.eval x = .slice A m c) (hr : Rd w A l) (hn : n + l.length ≤ 1099511627776) (hbase : base ≤ w.heap.size)
    (h : ∀ v' w', Hid (w'.ownsRow base e 1 v' (n + l.length) (xs ++ Lib.byteCells l)) → Hid (w.grownBy w' v.ownBlock) → wpList P ops Q rest (a.put o.dst v') w') : wpList P ops Q (o :: rest) a w := by
  subst hm
  refine wpList_step fun K hK => ?_
  rw [if_pos hgd]
  obtain ⟨v', w', hrun, h1, h2⟩ := run_append_rd w base t o.type e i ht hi hz hsize hby v n xs hown A l c hr hn hbase
  unfold Oper.wp
  simp [execOp, ho, resolve, invoke, builtin, hs, hx, hrun, Result.andThen]
  exact hK _ _ (h v' w' h1 h2)
theorem refEnc_ys {id kind links size : Int} {till : Nat} {shut : Bool} (w : World) (h : Nd.Ok ⟨id, kind, links, size, till, shut⟩) : Calls Try.prog 7 #[.agg #[.int .i64 id, .int .i64 kind, .int .i64 links, .int .i64 size, .int .u64 (till : Nat), .bool shut]] w fun e w' => ∃ X c ys, e = .returned (.slice X (List.length ys) c) ∧ ys.length ≤ c ∧ ys.length = 16 ∧ Hid (Rd w' X ys) ∧ Hid (Below w.heap.size w w') := by
  refine (refEnc_as w h).mono ?_
  rintro e w' ⟨X, c, rfl, hc, _, hr, hb⟩
  have hl := Nd.bytes_length ⟨id, kind, links, size, till, shut⟩
  exact ⟨X, c, Nd.bytes ⟨id, kind, links, size, till, shut⟩, by rw [hl], by rw [hl]; exact hc, hl, hr, hb⟩

set_option maxHeartbeats 8000000 in
set_option maxRecDepth 100000 in
theorem numbers_any (C : WSaid) (R : RSaid codecFns) (hM : RMake R) (w : World) : Calls Try.prog 3 #[] w fun e w' => e = .returned (.bool true) ∧ Below w.heap.size w w' := by
  go_enter Try.func3, Try.ntmps3
  go_wp2_with fail
  go_loopw [1] (fun t1 wr => ∃ k : Int, 0 ≤ k ∧ k ≤ 4 ∧ t1 = .int .i64 k ∧ Hid (Below w.heap.size w wr)) (fun t1 _ => (4 - (match t1 with | .int _ z => z | _ => 0)).toNat)
  case atStart => exact ⟨0, by decide, by decide, rfl, Below.refl _ _⟩
  case round =>
    obtain ⟨k, hk0, hk1, rfl, HW⟩ := hrel
    by_cases hlt : k < 4
    · skip
      have HK : Hid (In64 k) := ⟨by omega, by omega⟩
      go_wp2_with fail
      go_loopw [2] (fun t2 wr => ∃ h : Int, 0 ≤ h ∧ h ≤ 6 ∧ t2 = .int .i64 h ∧ Hid (Below w.heap.size w wr)) (fun t2 _ => (6 - (match t2 with | .int _ z => z | _ => 0)).toNat)
      case atStart => exact ⟨0, by decide, by decide, rfl, HW.out⟩
      case round =>
        clear HW
        obtain ⟨h, hh0, hh1, rfl, HW⟩ := hrel
        by_cases hlh : h < 6
        · skip
          go_wp2_with fail
          obtain ⟨g, hg⟩ : ∃ g, g = wr.heap.size := ⟨_, rfl⟩
          refine wp_world (fun wm => Hid (RdI wm (some ⟨wr.heap.size, 0, none⟩) nums10) ∧ Hid (Below w.heap.size w wm)) ⟨rdi_alloc wr nums10 nums10_in _ _, HW.out.trans ((below_new wr _).mono HW.out.size)⟩ ?_
          have HGE : Hid (w.heap.size ≤ g) := by show _ ≤ g; rw [hg]; exact HW.out.size
          rw [← hg]
          clear hg HW
          rintro wm ⟨HRL, HW⟩
          go_loopw [17] (fun t17 wr => ∃ j : Nat, j ≤ 7 ∧ t17 = .int .i64 j ∧ Hid (RdI wr (some ⟨g, 0, none⟩) nums10) ∧ Hid (Below w.heap.size w wr)) (fun t17 _ => 7 - (match t17 with | .int _ z => z.toNat | _ => 0))
          case atStart => exact ⟨0, by decide, rfl, HRL.out, HW.out⟩
          case round =>
            clear HRL HW
            obtain ⟨j, hj, rfl, HRL, HW⟩ := hrel
            by_cases hlj : j < 7
            · skip
              obtain ⟨x, hx⟩ : ∃ x, nums10[j]? = some x := ⟨_, List.getElem?_eq_getElem hlj⟩
              obtain ⟨hxb, b, off, e, hgw, hcell⟩ := HRL.out j x hx
              injection e with e
              injection e with e1 e2 _
              subst e1 e2
              have HXA := Lib.hid (nums10_are x (List.mem_of_getElem? hx))
              have HXB : Hid (In64 x) := hxb
              have HGL : Hid (g < wr.heap.size) := hgw
              clear hx hxb hgw
              rw [Nat.zero_add] at hcell
              have HG1 : Hid (Blk (wr.alloc (.cells #[.int .i64 0, .int .i64 0, .int .i64 0, .int .i64 0, .int .u64 0, .bool false] 25)) wr.heap.size 25 [.int .i64 0, .int .i64 0, .int .i64 0, .int .i64 0, .int .u64 0, .bool false]) := Blk.new wr _ _
              go_upto_region 11 with (refine wpList_store_row rfl 25 (.tmp 5) (.tmp 22) rfl wr.heap.size #[.int .i64 5, .int .i64 k, .int .i64 1, .int .i64 0, .int .u64 0, .bool true] rfl rfl 25 #[.int .i64 0, .int .i64 0, .int .i64 0, .int .i64 0, .int .u64 0, .bool false] HG1.out rfl rfl rfl ?_)
              have XX0 : Hid (Blk (wr.alloc (.cells #[.int .i64 5, .int .i64 k, .int .i64 1, .int .i64 0, .int .u64 0, .bool true] 25)) wr.heap.size 25 [.int .i64 5, .int .i64 k, .int .i64 1, .int .i64 0, .int .u64 0, .bool true]) := Blk.new wr _ _
              have HW0 : Hid (Below w.heap.size w (wr.alloc (.cells #[.int .i64 5, .int .i64 k, .int .i64 1, .int .i64 0, .int .u64 0, .bool true] 25))) := HW.out.trans ((below_new wr _).mono HW.out.size)
              have HR0 : Hid (RdI (wr.alloc (.cells #[.int .i64 5, .int .i64 k, .int .i64 1, .int .i64 0, .int .u64 0, .bool true] 25)) (some ⟨g, 0, none⟩) nums10) := HRL.out.below (below_new wr _) (Nat.le_refl _)
              have HGX : Hid (w.heap.size ≤ wr.heap.size) := HW.out.size
              obtain ⟨gx, hgx⟩ : ∃ gx, gx = wr.heap.size := ⟨_, rfl⟩
              rw [← hgx] at XX0 HGX HGL ⊢
              refine wp_world (fun W => Hid (Blk W gx 25 [.int .i64 5, .int .i64 k, .int .i64 1, .int .i64 0, .int .u64 0, .bool true]) ∧ Hid (RdI W (some ⟨g, 0, none⟩) nums10) ∧ Hid (Below w.heap.size w W)) ⟨XX0, HR0, HW0⟩ ?_
              clear XX0 HW0 HR0 HG1 HRL HW hcell hgx
              rintro wa ⟨XX, HRL, HW⟩
              go_upto_block 6 with (fail)
              go_cut [4] (fun t4 wx => ∃ (WX : World) (id kind links size : Int) (till : Nat) (shut : Bool), WX = wx ∧ t4 = .int .i64 x ∧ Hid (Nd.Ok ⟨id, kind, links, size, till, shut⟩) ∧ Hid (Blk WX gx 25 [.int .i64 id, .int .i64 kind, .int .i64 links, .int .i64 size, .int .u64 (till : Nat), .bool shut]) ∧ Hid (RdI WX (some ⟨g, 0, none⟩) nums10) ∧ Hid (Below w.heap.size w WX))
              case first =>
                have c0 : wa.cell? ⟨gx, 0, none⟩ = some (.int .i64 5) := XX.out.cell 0
                have c1 : wa.cell? ⟨gx, 1, none⟩ = some (.int .i64 k) := XX.out.cell 1
                have c2 : wa.cell? ⟨gx, 2, none⟩ = some (.int .i64 1) := XX.out.cell 2
                have c3 : wa.cell? ⟨gx, 3, none⟩ = some (.int .i64 0) := XX.out.cell 3
                have c4 : wa.cell? ⟨gx, 4, none⟩ = some (.int .u64 0) := XX.out.cell 4
                have c5 : wa.cell? ⟨gx, 5, none⟩ = some (.bool true) := XX.out.cell 5
                have f0 := XX.out.frozen 0
                have f1 := XX.out.frozen 1
                have f2 := XX.out.frozen 2
                have f3 := XX.out.frozen 3
                have f4 := XX.out.frozen 4
                have f5 := XX.out.frozen 5
                have HNE : (some (⟨g, 0, none⟩ : Addr)).map (·.block) ≠ some gx := by have := HGL.out; simp; omega
                have HN := Lib.hid HNE
                clear HNE
                rcases (show h = 0 ∨ h = 1 ∨ h = 2 ∨ h = 3 ∨ h = 4 ∨ h = 5 by omega) with rfl | rfl | rfl | rfl | rfl | rfl
                · go_wp2_with fail
                  go_meet
                  case rel => exact ⟨_, x, k, 1, 0, 0, true, rfl, rfl, ⟨HXB.out, HK.out, ⟨by dsimp only; omega, by dsimp only; omega⟩, ⟨by dsimp only; omega, by dsimp only; omega⟩, by dsimp only; omega⟩, XX.out.set_ 0 (.int .i64 x), HRL.out.set1 HN.out 0 (.int .i64 x), below_set1 HW.out HGX.out 0 (.int .i64 x)⟩
                · go_wp2_with fail
                  go_meet
                  case rel => exact ⟨_, 5, k, x, 0, 0, true, rfl, rfl, ⟨⟨by dsimp only; omega, by dsimp only; omega⟩, HK.out, HXB.out, ⟨by dsimp only; omega, by dsimp only; omega⟩, by dsimp only; omega⟩, XX.out.set_ 2 (.int .i64 x), HRL.out.set1 HN.out 2 (.int .i64 x), below_set1 HW.out HGX.out 2 (.int .i64 x)⟩
                · go_wp2_with fail
                  go_meet
                  case rel => exact ⟨_, 5, k, 1, x, 0, true, rfl, rfl, ⟨⟨by dsimp only; omega, by dsimp only; omega⟩, HK.out, ⟨by dsimp only; omega, by dsimp only; omega⟩, HXB.out, by dsimp only; omega⟩, XX.out.set_ 3 (.int .i64 x), HRL.out.set1 HN.out 3 (.int .i64 x), below_set1 HW.out HGX.out 3 (.int .i64 x)⟩
                · rcases HXA.out with rfl | rfl | rfl | rfl | rfl | rfl | rfl
                  · go_wp2_with fail
                    go_meet
                    case rel => exact ⟨_, 5, k, 1, 0, 18446744073692774400, true, rfl, rfl, ⟨⟨by dsimp only; omega, by dsimp only; omega⟩, HK.out, ⟨by dsimp only; omega, by dsimp only; omega⟩, ⟨by dsimp only; omega, by dsimp only; omega⟩, by dsimp only; omega⟩, XX.out.set_ 4 (.int .u64 18446744073692774400), HRL.out.set1 HN.out 4 (.int .u64 18446744073692774400), below_set1 HW.out HGX.out 4 (.int .u64 18446744073692774400)⟩
                  · go_wp2_with fail
                    go_meet
                    case rel => exact ⟨_, 5, k, 1, 0, 0, true, rfl, rfl, ⟨⟨by dsimp only; omega, by dsimp only; omega⟩, HK.out, ⟨by dsimp only; omega, by dsimp only; omega⟩, ⟨by dsimp only; omega, by dsimp only; omega⟩, by dsimp only; omega⟩, XX.out.set_ 4 (.int .u64 0), HRL.out.set1 HN.out 4 (.int .u64 0), below_set1 HW.out HGX.out 4 (.int .u64 0)⟩
                  · go_wp2_with fail
                    go_meet
                    case rel => exact ⟨_, 5, k, 1, 0, 16777216, true, rfl, rfl, ⟨⟨by dsimp only; omega, by dsimp only; omega⟩, HK.out, ⟨by dsimp only; omega, by dsimp only; omega⟩, ⟨by dsimp only; omega, by dsimp only; omega⟩, by dsimp only; omega⟩, XX.out.set_ 4 (.int .u64 16777216), HRL.out.set1 HN.out 4 (.int .u64 16777216), below_set1 HW.out HGX.out 4 (.int .u64 16777216)⟩
                  · go_wp2_with fail
                    go_meet
                    case rel => exact ⟨_, 5, k, 1, 0, 68719476736, true, rfl, rfl, ⟨⟨by dsimp only; omega, by dsimp only; omega⟩, HK.out, ⟨by dsimp only; omega, by dsimp only; omega⟩, ⟨by dsimp only; omega, by dsimp only; omega⟩, by dsimp only; omega⟩, XX.out.set_ 4 (.int .u64 68719476736), HRL.out.set1 HN.out 4 (.int .u64 68719476736), below_set1 HW.out HGX.out 4 (.int .u64 68719476736)⟩
                  · go_wp2_with fail
                    go_meet
                    case rel => exact ⟨_, 5, k, 1, 0, 68736253952, true, rfl, rfl, ⟨⟨by dsimp only; omega, by dsimp only; omega⟩, HK.out, ⟨by dsimp only; omega, by dsimp only; omega⟩, ⟨by dsimp only; omega, by dsimp only; omega⟩, by dsimp only; omega⟩, XX.out.set_ 4 (.int .u64 68736253952), HRL.out.set1 HN.out 4 (.int .u64 68736253952), below_set1 HW.out HGX.out 4 (.int .u64 68736253952)⟩
                  · go_wp2_with fail
                    go_meet
                    case rel => exact ⟨_, 5, k, 1, 0, 1099494850560, true, rfl, rfl, ⟨⟨by dsimp only; omega, by dsimp only; omega⟩, HK.out, ⟨by dsimp only; omega, by dsimp only; omega⟩, ⟨by dsimp only; omega, by dsimp only; omega⟩, by dsimp only; omega⟩, XX.out.set_ 4 (.int .u64 1099494850560), HRL.out.set1 HN.out 4 (.int .u64 1099494850560), below_set1 HW.out HGX.out 4 (.int .u64 1099494850560)⟩
                  · go_wp2_with fail
                    go_meet
                    case rel => exact ⟨_, 5, k, 1, 0, 1099511627776, true, rfl, rfl, ⟨⟨by dsimp only; omega, by dsimp only; omega⟩, HK.out, ⟨by dsimp only; omega, by dsimp only; omega⟩, ⟨by dsimp only; omega, by dsimp only; omega⟩, by dsimp only; omega⟩, XX.out.set_ 4 (.int .u64 1099511627776), HRL.out.set1 HN.out 4 (.int .u64 1099511627776), below_set1 HW.out HGX.out 4 (.int .u64 1099511627776)⟩
                · go_wp2_with fail
                  go_meet
                  case rel => exact ⟨_, 5, k, 1, 0, 0, _, rfl, rfl, ⟨⟨by dsimp only; omega, by dsimp only; omega⟩, HK.out, ⟨by dsimp only; omega, by dsimp only; omega⟩, ⟨by dsimp only; omega, by dsimp only; omega⟩, by dsimp only; omega⟩, XX.out.set_ 5 (_), HRL.out.set1 HN.out 5 (_), below_set1 HW.out HGX.out 5 (_)⟩
                · go_wp2_with fail
                  go_meet
                  case rel => exact ⟨_, 5, k, 1, 0, 0, true, rfl, rfl, ⟨⟨by dsimp only; omega, by dsimp only; omega⟩, HK.out, ⟨by dsimp only; omega, by dsimp only; omega⟩, ⟨by dsimp only; omega, by dsimp only; omega⟩, by dsimp only; omega⟩, XX, HRL, HW⟩
              case rest =>
                clear XX HRL HW HXA HXB hh0 hh1 hlh hk0 hk1
                obtain ⟨wb, id, kind, links, size, till, shut, rfl, rfl, HOK, XX, HRL, HW⟩ := hcut
                have c0 : wb.cell? ⟨gx, 0, none⟩ = some (.int .i64 id) := XX.out.cell 0
                have c1 : wb.cell? ⟨gx, 1, none⟩ = some (.int .i64 kind) := XX.out.cell 1
                have c2 : wb.cell? ⟨gx, 2, none⟩ = some (.int .i64 links) := XX.out.cell 2
                have c3 : wb.cell? ⟨gx, 3, none⟩ = some (.int .i64 size) := XX.out.cell 3
                have c4 : wb.cell? ⟨gx, 4, none⟩ = some (.int .u64 (till : Nat)) := XX.out.cell 4
                have c5 : wb.cell? ⟨gx, 5, none⟩ = some (.bool shut) := XX.out.cell 5
                go_wp2_with fail
                clear c0 c1 c2 c3 c4 c5
                refine (refEnc_ys _ HOK.out).mono ?_
                rintro e w1 ⟨XY, cy, y, rfl, hyc, hyl, HY, B1⟩
                have XX1 := Lib.hid (XX.out.below B1.out XX.out.lt)
                have HR1 := Lib.hid (HRL.out.below B1.out (Nat.le_refl _))
                have HW1 := Lib.hid (HW.out.trans (B1.out.mono HW.out.size))
                have LY := Lib.hid hyl
                obtain ⟨r, hrun, hrc, hrr, _, hrl, _⟩ := part_h XY y cy 15 (by omega) hyc
                have HRN := Lib.hid hrun
                have HRR := Lib.hid hrr
                have LR : Hid (r.length = 15) := hrl
                clear XX HRL HW B1 hyl hrun hrr hrl
                go_upto_region 23 with (fail)
                have d0 : w1.cell? ⟨gx, 0, none⟩ = some (.int .i64 id) := XX1.out.cell 0
                have d1 : w1.cell? ⟨gx, 1, none⟩ = some (.int .i64 kind) := XX1.out.cell 1
                have d2 : w1.cell? ⟨gx, 2, none⟩ = some (.int .i64 links) := XX1.out.cell 2
                have d3 : w1.cell? ⟨gx, 3, none⟩ = some (.int .i64 size) := XX1.out.cell 3
                have d4 : w1.cell? ⟨gx, 4, none⟩ = some (.int .u64 (till : Nat)) := XX1.out.cell 4
                have d5 : w1.cell? ⟨gx, 5, none⟩ = some (.bool shut) := XX1.out.cell 5
                go_wp2_with fail
                clear d0 d1 d2 d3 d4 d5
                refine (same10_any C ⟨id, kind, links, size, till, shut⟩ HOK.out _).mono ?_
                rintro e w2 ⟨rfl, hb⟩
                have HY1 := HY
                clear HY XX1
                have HY2 := Lib.hid (HY1.out.below hb)
                have HR2 := Lib.hid (HR1.out.below hb (Nat.le_refl _))
                have HW2 := Lib.hid (HW1.out.trans (hb.mono HW1.out.size))
                clear hb HY1 HR1 HW1
                go_wp2_with fail
                refine (read_any R hM _ XY y cy HY2.out hyc (by have := LY.out; omega)).mono ?_
                rintro e w3 ⟨rfl, hb⟩
                have HY3 := Lib.hid (HY2.out.below hb)
                have HR3 := Lib.hid (HR2.out.below hb (Nat.le_refl _))
                have HW3 := Lib.hid (HW2.out.trans (hb.mono HW2.out.size))
                clear hb HY2 HR2 HW2
                have hsl : (Instr.sliceAt 27 (.slice XY y.length cy) none (some (.int .i64 15)) none).run Try.prog w3 = .ok (.slice XY r.length cy) w3 := HRN.out.out w3
                go_wp2_with fail
                clear hsl
                refine (read_any R hM _ XY r cy (HRR.out.out w3 HY3.out) hrc (by have := LR.out; omega)).mono ?_
                rintro e w4 ⟨rfl, hb⟩
                have HY4 := Lib.hid (HY3.out.below hb)
                have HR4 := Lib.hid (HR3.out.below hb (Nat.le_refl _))
                have HW4 := Lib.hid (HW3.out.trans (hb.mono HW3.out.size))
                clear hb HY3 HR3 HW3
                have HYA : Hid (Rd (w4.alloc (.cells #[] 5)) XY y) := HY4.out.below (below_new w4 _)
                have H0 : Hid (MAt w4.heap.size (.slice (some ⟨w4.heap.size, 0, none⟩) 0 0) [] w4 (w4.alloc (.cells #[] 5))) := ⟨own_none w4, below_new w4 _, rfl⟩
                obtain ⟨i0, hi, hz0, hz1, hz2⟩ := info_parts Try.infoU8
                have HI0 := Lib.hid hi
                have HZ0 := Lib.hid hz0
                have HZ1 := Lib.hid hz1
                have HZ2 := Lib.hid hz2
                clear hi hz0 hz1 hz2
                go_wp2_with (first
                  | (at_builtin; refine wpList_append_g rfl (.tmp 65) (.tmp 66) 27 rfl w4.heap.size 5 i0 Try.underlying27 HI0.out HZ0.out HZ1.out HZ2.out _ 0 [] rfl H0.out.1 XY y y.length cy rfl rfl HYA.out (by have := LY.out; omega) (by rw [World.size_alloc]; omega) ?_; intro v5 w5 HO5 HG5; have H5 : Hid (MAt w4.heap.size v5 y w4 w5) := H0.out.push (Below.refl _ _) HO5.out HG5.out)
                  | (at_builtin; refine wpList_append_g rfl (.tmp 67) (.tmp 68) 27 rfl w4.heap.size 5 i0 Try.underlying27 HI0.out HZ0.out HZ1.out HZ2.out v5 y.length (Lib.byteCells y) rfl (H5.out.own (below_new w5 _)) (some ⟨w5.heap.size, 0, none⟩) [0] 1 1 rfl rfl (rd_new w5 0 0 _ rfl) (by have := LY.out; simp; omega) (by rw [World.size_alloc]; have := H5.out.2.1.size; omega) ?_; intro v6 w6 HO6 HG6; have H6 : Hid (MAt w4.heap.size v6 (y ++ [0]) w4 w6) := H5.out.push (below_new w5 _) HO6.out HG6.out; obtain ⟨X6, c6, e6, hc6, hr6⟩ := own_form H6.out.1; subst e6; have HR6 := Lib.hid hr6; have hb := H6.out.2.1; have HB6 := Lib.hid hb; clear H6 hr6 hb))
                clear HO5 HG5 HO6 HG6 H5 H0 HYA HI0 HZ0 HZ1 HZ2
                obtain ⟨z, hz⟩ : ∃ z, z = y ++ [(0 : UInt8)] := ⟨_, rfl⟩
                have hzl : y.length + 1 = z.length := by rw [hz]; simp
                have hzn : z.length = 17 := by have := LY.out; omega
                rw [← hz] at HR6 hc6
                rw [hzl]
                refine (read_any R hM _ X6 z c6 HR6.out hc6 (by omega)).mono ?_
                rintro e w7 ⟨rfl, hb⟩
                have HB7 := Lib.hid (HB6.out.trans (hb.mono HB6.out.size))
                have HR7 := Lib.hid (HR4.out.below HB7.out (Nat.le_refl _))
                have HW7 := Lib.hid (HW4.out.trans (HB7.out.mono HW4.out.size))
                clear hb HB6 HB7 HR4 HW4 HY4 HR6 hzl hzn hz hc6 hrc hyc
                go_wp2_with fail
                go_roundw
                case rel => exact ⟨j + 1, by omega, by simp, HR7.out, HW7.out⟩
                case measure => simp; omega
            · obtain rfl : j = 7 := by omega
              clear HRL
              go_wp2_with fail
              go_roundw
              case rel => exact ⟨h + 1, by omega, by omega, rfl, HW.out⟩
              case measure => simp; omega
        · obtain rfl : h = 6 := by omega
          go_wp2_with fail
          go_roundw
          case rel => exact ⟨k + 1, by omega, by omega, rfl, HW.out⟩
          case measure => simp; omega
    · obtain rfl : k = 4 := by omega
      go_wp2_with fail
      refine (read_any R hM _ none [] 0 (Rd.nil _ _) (Nat.le_refl _) (by simp)).mono ?_
      rintro e w1 ⟨rfl, hb⟩
      have HW1 := Lib.hid (HW.out.trans (hb.mono HW.out.size))
      clear hb HW
      go_wp2_with fail
      refine (known10_any C _).mono ?_
      rintro e w2 ⟨rfl, hb⟩
      have HF := Lib.hid (HW1.out.trans (hb.mono HW1.out.size))
      clear hb
      go_wp2_with fail
      go_ret
      exact ⟨rfl, HF.out⟩
end Go.Proofs.Ytopcipaaffpiaaa

/-
  OWN WORK. Law 10's NodeTells, walked: nodes are judged, written and read as the document says; their bytes with one turned, too.
-/
import Derived.Test.YtopcipaaffpiaaaNoSame
import Derived.Test.YtopcipaaffpiaaaNoRead
import Derived.Test.YtopcipaaffpiaaaBaWithin
import Derived.Test.YtopcipaaffpiaaaBaCut
import Derived.Test.YtopcipaaffpiaaaBaCell
import Derived.Test.YtopcipaaffpiaaaBaSet
namespace Go.Proofs.Ytopcipaaffpiaaa
open Go.RowKit Rc

theorem No.bits_xor_u8 (a b : Nat) (ha : a < 256) (hb : b < 256) : bits .xor .u8 (a : Int) (b : Int) = ((a ^^^ b : Nat) : Int) := by
  show IntKind.u8.wrap ((BitVec.ofInt 8 (a : Int) ^^^ BitVec.ofInt 8 (b : Int)).toNat : Int) = _
  rw [IntKind.wrap_u8', BitVec.toNat_xor, BitVec.ofInt_natCast, BitVec.ofInt_natCast, BitVec.toNat_ofNat, BitVec.toNat_ofNat, Nat.mod_eq_of_lt ha, Nat.mod_eq_of_lt hb]
  have : a ^^^ b < 2 ^ 8 := Nat.xor_lt_two_pow ha hb
  omega
theorem within_st (n : Int) (m : Nat) (w : World) (h2 : m ≤ 1000000) (hn : In64 n) {k : Nat} (hk : k = within0 n m) : Calls Try.prog 11 #[.int .i64 n, .int .i64 0, .int .i64 m] w fun e w' => e = .returned (.int .i64 (k : Nat)) ∧ w' = w := by
  subst hk
  exact (within_any n m w h2 hn.1 hn.2).mono fun e w' ⟨h1, h2⟩ => ⟨h1, h2.symm⟩
theorem read_16 (R : RSaid codecFns) (hM : RMake R) (w : World) (A : Option Addr) (L : List UInt8) (cap : Nat) (hr : Rd w A L) (hc : 16 ≤ cap) (hl : L.length = 16) :
    Calls Try.prog 9 #[.slice A 16 cap] w fun e w' => e = .returned (.bool true) ∧ Hid (Below w.heap.size w w') := by
  have h := read_any R hM w A L cap hr (by omega) (by omega)
  rw [hl] at h
  exact h.mono fun e w' ⟨h1, h2⟩ => ⟨h1, h2⟩
theorem own_rd16 {w : World} {B : Nat} {X : Option Addr} {c : Nat} {l : List UInt8} (h : w.ownsRow B 5 1 (.slice X 16 c) 16 (Lib.byteCells l)) (hl : l.length = 16) : Rd w X l := by
  obtain ⟨X', c', e, _, hr⟩ := own_form (show w.ownsRow B 5 1 (.slice X 16 c) l.length (Lib.byteCells l) by rw [hl]; exact h)
  injection e with e1
  subst e1
  exact hr

set_option maxHeartbeats 8000000 in
set_option maxRecDepth 100000 in
theorem tells_any (C : WSaid) (R : RSaid codecFns) (hM : RMake R) (n : Nd) (hok : n.Ok) (w : World) (bs : List UInt8) (AB : Option Addr) (cb : Nat) (hrb : Rd w AB bs) (hcb : bs.length ≤ cb) (hlb : bs.length ≤ 9223372036854775807) (at_ : Int) (ha0 : -9223372036854775808 ≤ at_) (ha1 : at_ ≤ 9223372036854775807) (tu : UInt8) :
    Calls Try.prog 4 #[n.val, .slice AB bs.length cb, .int .i64 at_, .int .u8 (tu.toNat : Nat)] w fun e w' => e = .returned (.bool true) ∧ Below w.heap.size w w' := by
  have HOK := Lib.hid hok
  obtain ⟨id, kind, links, size, till, shut⟩ := n
  have b0 : Hid (In64 id) := hok.id
  have b1 : Hid (In64 kind) := hok.kind
  have b2 : Hid (In64 links) := hok.links
  have b3 : Hid (In64 size) := hok.size
  have b4 : till ≤ 18446744073709551615 := hok.till
  have ba : Hid (In64 at_) := ⟨ha0, ha1⟩
  have HCB := Lib.hid hcb
  have HLB := Lib.hid hlb
  clear hok ha0 ha1 hcb hlb
  obtain ⟨q0, hq0⟩ : ∃ k, k = within0 kind 1 := ⟨_, rfl⟩
  obtain ⟨p1, hp1⟩ : ∃ k, k = within0 id 65535 := ⟨_, rfl⟩
  obtain ⟨p2, hp2⟩ : ∃ k, k = within0 links 65535 := ⟨_, rfl⟩
  obtain ⟨p3, hp3⟩ : ∃ k, k = within0 size 4096 := ⟨_, rfl⟩
  obtain ⟨qa, hqa⟩ : ∃ k, k = within0 at_ 15 := ⟨_, rfl⟩
  obtain ⟨t1, ht1⟩ : ∃ k, k = till % 1099511627777 := ⟨_, rfl⟩
  have l0 : q0 ≤ 1 := by rw [hq0]; exact within0_le _ _
  have l1 : p1 ≤ 65535 := by rw [hp1]; exact within0_le _ _
  have l2 : p2 ≤ 65535 := by rw [hp2]; exact within0_le _ _
  have l3 : p3 ≤ 4096 := by rw [hp3]; exact within0_le _ _
  have la : qa ≤ 15 := by rw [hqa]; exact within0_le _ _
  have lt1 : t1 ≤ 1099511627776 := by rw [ht1]; omega
  have Q0 := Lib.hid hq0
  have P1 := Lib.hid hp1
  have P2 := Lib.hid hp2
  have P3 := Lib.hid hp3
  have QA := Lib.hid hqa
  have et : ((till : Nat) : Int).tmod 1099511627777 = ((t1 : Nat) : Int) := by rw [Int.tmod_eq_emod_of_nonneg (by omega)]; omega
  clear hq0 hp1 hp2 hp3 hqa ht1 b4
  show Calls _ _ #[.agg #[.int .i64 id, .int .i64 kind, .int .i64 links, .int .i64 size, .int .u64 (till : Nat), .bool shut], .slice AB bs.length cb, .int .i64 at_, .int .u8 (tu.toNat : Nat)] w _
  have XA : Hid (Blk (w.alloc (.cells #[.int .i64 id, .int .i64 kind, .int .i64 links, .int .i64 size, .int .u64 (till : Nat), .bool shut] 25)) w.heap.size 25 [.int .i64 id, .int .i64 kind, .int .i64 links, .int .i64 size, .int .u64 (till : Nat), .bool shut]) := Blk.new w _ _
  have XX : Hid (Blk ((w.alloc (.cells #[.int .i64 id, .int .i64 kind, .int .i64 links, .int .i64 size, .int .u64 (till : Nat), .bool shut] 25)).alloc (.cells #[.int .i64 id, .int .i64 kind, .int .i64 links, .int .i64 size, .int .u64 (till : Nat), .bool shut] 25)) (w.heap.size + 1) 25 [.int .i64 id, .int .i64 kind, .int .i64 links, .int .i64 size, .int .u64 (till : Nat), .bool shut]) := by have := Blk.new (w.alloc (.cells #[.int .i64 id, .int .i64 kind, .int .i64 links, .int .i64 size, .int .u64 (till : Nat), .bool shut] 25)) 25 [.int .i64 id, .int .i64 kind, .int .i64 links, .int .i64 size, .int .u64 (till : Nat), .bool shut]; rw [World.size_alloc] at this; exact this
  have XAA : Hid (Blk ((w.alloc (.cells #[.int .i64 id, .int .i64 kind, .int .i64 links, .int .i64 size, .int .u64 (till : Nat), .bool shut] 25)).alloc (.cells #[.int .i64 id, .int .i64 kind, .int .i64 links, .int .i64 size, .int .u64 (till : Nat), .bool shut] 25)) w.heap.size 25 [.int .i64 id, .int .i64 kind, .int .i64 links, .int .i64 size, .int .u64 (till : Nat), .bool shut]) := XA.out.alloc _
  have HWW : Hid (Below w.heap.size w ((w.alloc (.cells #[.int .i64 id, .int .i64 kind, .int .i64 links, .int .i64 size, .int .u64 (till : Nat), .bool shut] 25)).alloc (.cells #[.int .i64 id, .int .i64 kind, .int .i64 links, .int .i64 size, .int .u64 (till : Nat), .bool shut] 25))) := (below_new w _).trans ((below_new _ _).mono (by rw [World.size_alloc]; omega))
  have HBB : Hid (Rd ((w.alloc (.cells #[.int .i64 id, .int .i64 kind, .int .i64 links, .int .i64 size, .int .u64 (till : Nat), .bool shut] 25)).alloc (.cells #[.int .i64 id, .int .i64 kind, .int .i64 links, .int .i64 size, .int .u64 (till : Nat), .bool shut] 25)) AB bs) := hrb.below HWW.out
  have HGZ : Hid (Blk ((w.alloc (.cells #[.int .i64 id, .int .i64 kind, .int .i64 links, .int .i64 size, .int .u64 (till : Nat), .bool shut] 25)).alloc (.cells #[.int .i64 0, .int .i64 0, .int .i64 0, .int .i64 0, .int .u64 0, .bool false] 25)) (w.heap.size + 1) 25 [.int .i64 0, .int .i64 0, .int .i64 0, .int .i64 0, .int .u64 0, .bool false]) := by have := Blk.new (w.alloc (.cells #[.int .i64 id, .int .i64 kind, .int .i64 links, .int .i64 size, .int .u64 (till : Nat), .bool shut] 25)) 25 [.int .i64 0, .int .i64 0, .int .i64 0, .int .i64 0, .int .u64 0, .bool false]; rw [World.size_alloc] at this; exact this
  have hrb0 : ∀ W, Below w.heap.size w W → Rd W AB bs := fun W h => hrb.below h
  clear hrb
  rcases (show q0 = 0 ∨ q0 = 1 by omega) with rfl | rfl
  · go_enter Try.func4, Try.ntmps4
    go_upto_region 2 with (refine wpList_store_row rfl 25 (.tmp 9) (.tmp 11) rfl (w.heap.size + 1) #[.int .i64 id, .int .i64 kind, .int .i64 links, .int .i64 size, .int .u64 (till : Nat), .bool shut] rfl rfl 25 #[.int .i64 0, .int .i64 0, .int .i64 0, .int .i64 0, .int .u64 0, .bool false] HGZ.out rfl rfl rfl ?_)
    refine wp_world (fun W => Hid (Blk W w.heap.size 25 [.int .i64 id, .int .i64 kind, .int .i64 links, .int .i64 size, .int .u64 (till : Nat), .bool shut]) ∧ Hid (Blk W (w.heap.size + 1) 25 [.int .i64 id, .int .i64 kind, .int .i64 links, .int .i64 size, .int .u64 (till : Nat), .bool shut]) ∧ Hid (Below w.heap.size w W) ∧ Hid (Rd W AB bs)) ⟨XAA, XX, HWW, HBB⟩ ?_
    clear XA XX XAA HWW HBB HGZ
    rintro w2 ⟨XA, XX, HW, HB⟩
    have cz : ((0 : Nat) : Int) = 0 := rfl
    have co : ((1 : Nat) : Int) = 1 := rfl
    have c0 : w2.cell? ⟨w.heap.size, 0, none⟩ = some (.int .i64 id) := XA.out.cell 0
    have c1 : w2.cell? ⟨w.heap.size, 1, none⟩ = some (.int .i64 kind) := XA.out.cell 1
    have c2 : w2.cell? ⟨w.heap.size, 2, none⟩ = some (.int .i64 links) := XA.out.cell 2
    have c3 : w2.cell? ⟨w.heap.size, 3, none⟩ = some (.int .i64 size) := XA.out.cell 3
    have c4 : w2.cell? ⟨w.heap.size, 4, none⟩ = some (.int .u64 (till : Nat)) := XA.out.cell 4
    have c5 : w2.cell? ⟨w.heap.size, 5, none⟩ = some (.bool shut) := XA.out.cell 5
    have d0 : w2.cell? ⟨w.heap.size + 1, 0, none⟩ = some (.int .i64 id) := XX.out.cell 0
    have d1 : w2.cell? ⟨w.heap.size + 1, 1, none⟩ = some (.int .i64 kind) := XX.out.cell 1
    have d2 : w2.cell? ⟨w.heap.size + 1, 2, none⟩ = some (.int .i64 links) := XX.out.cell 2
    have d3 : w2.cell? ⟨w.heap.size + 1, 3, none⟩ = some (.int .i64 size) := XX.out.cell 3
    have d4 : w2.cell? ⟨w.heap.size + 1, 4, none⟩ = some (.int .u64 (till : Nat)) := XX.out.cell 4
    have d5 : w2.cell? ⟨w.heap.size + 1, 5, none⟩ = some (.bool shut) := XX.out.cell 5
    have f0 := XX.out.frozen 0
    have f1 := XX.out.frozen 1
    have f2 := XX.out.frozen 2
    have f3 := XX.out.frozen 3
    have f4 := XX.out.frozen 4
    have f5 := XX.out.frozen 5
    go_wp2_with fail
    refine (within_st kind 1 _ (by decide) b1.out Q0.out).mono ?_
    rintro e wz ⟨rfl, hz⟩
    obtain rfl := hz.symm
    clear hz
    go_upto_region 3 with (fail)
    clear c0 c1 c2 c3 c4 c5 d0 d1 d2 d3 d4 d5 f0 f1 f2 f3 f4 f5
    have XX3 : Hid (Blk (w2.setCell ⟨w.heap.size + 1, 1, none⟩ (.int .i64 1)) (w.heap.size + 1) 25 [.int .i64 id, .int .i64 1, .int .i64 links, .int .i64 size, .int .u64 (till : Nat), .bool shut]) := XX.out.set_ 1 (.int .i64 1)
    have XA3 : Hid (Blk (w2.setCell ⟨w.heap.size + 1, 1, none⟩ (.int .i64 1)) w.heap.size 25 [.int .i64 id, .int .i64 kind, .int .i64 links, .int .i64 size, .int .u64 (till : Nat), .bool shut]) := XA.out.far (Nat.ne_of_lt (Nat.lt_succ_self _)) _
    have HW3 : Hid (Below w.heap.size w (w2.setCell ⟨w.heap.size + 1, 1, none⟩ (.int .i64 1))) := below_set1 HW.out (Nat.le_succ _) _ _
    have HB3 : Hid (Rd (w2.setCell ⟨w.heap.size + 1, 1, none⟩ (.int .i64 1)) AB bs) := hrb0 _ HW3.out
    refine wp_world (fun W => Hid (Blk W w.heap.size 25 [.int .i64 id, .int .i64 kind, .int .i64 links, .int .i64 size, .int .u64 (till : Nat), .bool shut]) ∧ Hid (Blk W (w.heap.size + 1) 25 [.int .i64 id, .int .i64 1, .int .i64 links, .int .i64 size, .int .u64 (till : Nat), .bool shut]) ∧ Hid (Below w.heap.size w W) ∧ Hid (Rd W AB bs)) ⟨XA3, XX3, HW3, HB3⟩ ?_
    clear XA3 XX3 HW3 HB3 XA XX HW HB
    rintro w3 ⟨XA, XX, HW, HB⟩
    have c0 : w3.cell? ⟨w.heap.size, 0, none⟩ = some (.int .i64 id) := XA.out.cell 0
    have c1 : w3.cell? ⟨w.heap.size, 1, none⟩ = some (.int .i64 kind) := XA.out.cell 1
    have c2 : w3.cell? ⟨w.heap.size, 2, none⟩ = some (.int .i64 links) := XA.out.cell 2
    have c3 : w3.cell? ⟨w.heap.size, 3, none⟩ = some (.int .i64 size) := XA.out.cell 3
    have c4 : w3.cell? ⟨w.heap.size, 4, none⟩ = some (.int .u64 (till : Nat)) := XA.out.cell 4
    have c5 : w3.cell? ⟨w.heap.size, 5, none⟩ = some (.bool shut) := XA.out.cell 5
    have d0 : w3.cell? ⟨w.heap.size + 1, 0, none⟩ = some (.int .i64 id) := XX.out.cell 0
    have d1 : w3.cell? ⟨w.heap.size + 1, 1, none⟩ = some (.int .i64 1) := XX.out.cell 1
    have d2 : w3.cell? ⟨w.heap.size + 1, 2, none⟩ = some (.int .i64 links) := XX.out.cell 2
    have d3 : w3.cell? ⟨w.heap.size + 1, 3, none⟩ = some (.int .i64 size) := XX.out.cell 3
    have d4 : w3.cell? ⟨w.heap.size + 1, 4, none⟩ = some (.int .u64 (till : Nat)) := XX.out.cell 4
    have d5 : w3.cell? ⟨w.heap.size + 1, 5, none⟩ = some (.bool shut) := XX.out.cell 5
    have f0 := XX.out.frozen 0
    have f1 := XX.out.frozen 1
    have f2 := XX.out.frozen 2
    have f3 := XX.out.frozen 3
    have f4 := XX.out.frozen 4
    have f5 := XX.out.frozen 5
    go_wp2_with fail
    refine (within_st id 65535 _ (by decide) b0.out P1.out).mono ?_
    rintro e wz ⟨rfl, hz⟩
    obtain rfl := hz.symm
    clear hz
    go_upto_region 4 with (fail)
    clear c0 c1 c2 c3 c4 c5 d0 d1 d2 d3 d4 d5 f0 f1 f2 f3 f4 f5
    have XX3 : Hid (Blk (w3.setCell ⟨w.heap.size + 1, 0, none⟩ (.int .i64 (p1 : Nat))) (w.heap.size + 1) 25 [.int .i64 (p1 : Nat), .int .i64 1, .int .i64 links, .int .i64 size, .int .u64 (till : Nat), .bool shut]) := XX.out.set_ 0 (.int .i64 (p1 : Nat))
    have XA3 : Hid (Blk (w3.setCell ⟨w.heap.size + 1, 0, none⟩ (.int .i64 (p1 : Nat))) w.heap.size 25 [.int .i64 id, .int .i64 kind, .int .i64 links, .int .i64 size, .int .u64 (till : Nat), .bool shut]) := XA.out.far (Nat.ne_of_lt (Nat.lt_succ_self _)) _
    have HW3 : Hid (Below w.heap.size w (w3.setCell ⟨w.heap.size + 1, 0, none⟩ (.int .i64 (p1 : Nat)))) := below_set1 HW.out (Nat.le_succ _) _ _
    have HB3 : Hid (Rd (w3.setCell ⟨w.heap.size + 1, 0, none⟩ (.int .i64 (p1 : Nat))) AB bs) := hrb0 _ HW3.out
    refine wp_world (fun W => Hid (Blk W w.heap.size 25 [.int .i64 id, .int .i64 kind, .int .i64 links, .int .i64 size, .int .u64 (till : Nat), .bool shut]) ∧ Hid (Blk W (w.heap.size + 1) 25 [.int .i64 (p1 : Nat), .int .i64 1, .int .i64 links, .int .i64 size, .int .u64 (till : Nat), .bool shut]) ∧ Hid (Below w.heap.size w W) ∧ Hid (Rd W AB bs)) ⟨XA3, XX3, HW3, HB3⟩ ?_
    clear XA3 XX3 HW3 HB3 XA XX HW HB
    rintro w4 ⟨XA, XX, HW, HB⟩
    have c0 : w4.cell? ⟨w.heap.size, 0, none⟩ = some (.int .i64 id) := XA.out.cell 0
    have c1 : w4.cell? ⟨w.heap.size, 1, none⟩ = some (.int .i64 kind) := XA.out.cell 1
    have c2 : w4.cell? ⟨w.heap.size, 2, none⟩ = some (.int .i64 links) := XA.out.cell 2
    have c3 : w4.cell? ⟨w.heap.size, 3, none⟩ = some (.int .i64 size) := XA.out.cell 3
    have c4 : w4.cell? ⟨w.heap.size, 4, none⟩ = some (.int .u64 (till : Nat)) := XA.out.cell 4
    have c5 : w4.cell? ⟨w.heap.size, 5, none⟩ = some (.bool shut) := XA.out.cell 5
    have d0 : w4.cell? ⟨w.heap.size + 1, 0, none⟩ = some (.int .i64 (p1 : Nat)) := XX.out.cell 0
    have d1 : w4.cell? ⟨w.heap.size + 1, 1, none⟩ = some (.int .i64 1) := XX.out.cell 1
    have d2 : w4.cell? ⟨w.heap.size + 1, 2, none⟩ = some (.int .i64 links) := XX.out.cell 2
    have d3 : w4.cell? ⟨w.heap.size + 1, 3, none⟩ = some (.int .i64 size) := XX.out.cell 3
    have d4 : w4.cell? ⟨w.heap.size + 1, 4, none⟩ = some (.int .u64 (till : Nat)) := XX.out.cell 4
    have d5 : w4.cell? ⟨w.heap.size + 1, 5, none⟩ = some (.bool shut) := XX.out.cell 5
    have f0 := XX.out.frozen 0
    have f1 := XX.out.frozen 1
    have f2 := XX.out.frozen 2
    have f3 := XX.out.frozen 3
    have f4 := XX.out.frozen 4
    have f5 := XX.out.frozen 5
    go_wp2_with fail
    refine (within_st links 65535 _ (by decide) b2.out P2.out).mono ?_
    rintro e wz ⟨rfl, hz⟩
    obtain rfl := hz.symm
    clear hz
    go_upto_region 5 with (fail)
    clear c0 c1 c2 c3 c4 c5 d0 d1 d2 d3 d4 d5 f0 f1 f2 f3 f4 f5
    have XX3 : Hid (Blk (w4.setCell ⟨w.heap.size + 1, 2, none⟩ (.int .i64 (p2 : Nat))) (w.heap.size + 1) 25 [.int .i64 (p1 : Nat), .int .i64 1, .int .i64 (p2 : Nat), .int .i64 size, .int .u64 (till : Nat), .bool shut]) := XX.out.set_ 2 (.int .i64 (p2 : Nat))
    have XA3 : Hid (Blk (w4.setCell ⟨w.heap.size + 1, 2, none⟩ (.int .i64 (p2 : Nat))) w.heap.size 25 [.int .i64 id, .int .i64 kind, .int .i64 links, .int .i64 size, .int .u64 (till : Nat), .bool shut]) := XA.out.far (Nat.ne_of_lt (Nat.lt_succ_self _)) _
    have HW3 : Hid (Below w.heap.size w (w4.setCell ⟨w.heap.size + 1, 2, none⟩ (.int .i64 (p2 : Nat)))) := below_set1 HW.out (Nat.le_succ _) _ _
    have HB3 : Hid (Rd (w4.setCell ⟨w.heap.size + 1, 2, none⟩ (.int .i64 (p2 : Nat))) AB bs) := hrb0 _ HW3.out
    refine wp_world (fun W => Hid (Blk W w.heap.size 25 [.int .i64 id, .int .i64 kind, .int .i64 links, .int .i64 size, .int .u64 (till : Nat), .bool shut]) ∧ Hid (Blk W (w.heap.size + 1) 25 [.int .i64 (p1 : Nat), .int .i64 1, .int .i64 (p2 : Nat), .int .i64 size, .int .u64 (till : Nat), .bool shut]) ∧ Hid (Below w.heap.size w W) ∧ Hid (Rd W AB bs)) ⟨XA3, XX3, HW3, HB3⟩ ?_
    clear XA3 XX3 HW3 HB3 XA XX HW HB
    rintro w5 ⟨XA, XX, HW, HB⟩
    have c0 : w5.cell? ⟨w.heap.size, 0, none⟩ = some (.int .i64 id) := XA.out.cell 0
    have c1 : w5.cell? ⟨w.heap.size, 1, none⟩ = some (.int .i64 kind) := XA.out.cell 1
    have c2 : w5.cell? ⟨w.heap.size, 2, none⟩ = some (.int .i64 links) := XA.out.cell 2
    have c3 : w5.cell? ⟨w.heap.size, 3, none⟩ = some (.int .i64 size) := XA.out.cell 3
    have c4 : w5.cell? ⟨w.heap.size, 4, none⟩ = some (.int .u64 (till : Nat)) := XA.out.cell 4
    have c5 : w5.cell? ⟨w.heap.size, 5, none⟩ = some (.bool shut) := XA.out.cell 5
    have d0 : w5.cell? ⟨w.heap.size + 1, 0, none⟩ = some (.int .i64 (p1 : Nat)) := XX.out.cell 0
    have d1 : w5.cell? ⟨w.heap.size + 1, 1, none⟩ = some (.int .i64 1) := XX.out.cell 1
    have d2 : w5.cell? ⟨w.heap.size + 1, 2, none⟩ = some (.int .i64 (p2 : Nat)) := XX.out.cell 2
    have d3 : w5.cell? ⟨w.heap.size + 1, 3, none⟩ = some (.int .i64 size) := XX.out.cell 3
    have d4 : w5.cell? ⟨w.heap.size + 1, 4, none⟩ = some (.int .u64 (till : Nat)) := XX.out.cell 4
    have d5 : w5.cell? ⟨w.heap.size + 1, 5, none⟩ = some (.bool shut) := XX.out.cell 5
    have f0 := XX.out.frozen 0
    have f1 := XX.out.frozen 1
    have f2 := XX.out.frozen 2
    have f3 := XX.out.frozen 3
    have f4 := XX.out.frozen 4
    have f5 := XX.out.frozen 5
    go_wp2_with fail
    refine (within_st size 4096 _ (by decide) b3.out P3.out).mono ?_
    rintro e wz ⟨rfl, hz⟩
    obtain rfl := hz.symm
    clear hz
    go_upto_region 6 with (fail)
    clear c0 c1 c2 c3 c4 c5 d0 d1 d2 d3 d4 d5 f0 f1 f2 f3 f4 f5
    have XX3 : Hid (Blk (w5.setCell ⟨w.heap.size + 1, 3, none⟩ (.int .i64 (p3 : Nat))) (w.heap.size + 1) 25 [.int .i64 (p1 : Nat), .int .i64 1, .int .i64 (p2 : Nat), .int .i64 (p3 : Nat), .int .u64 (till : Nat), .bool shut]) := XX.out.set_ 3 (.int .i64 (p3 : Nat))
    have XA3 : Hid (Blk (w5.setCell ⟨w.heap.size + 1, 3, none⟩ (.int .i64 (p3 : Nat))) w.heap.size 25 [.int .i64 id, .int .i64 kind, .int .i64 links, .int .i64 size, .int .u64 (till : Nat), .bool shut]) := XA.out.far (Nat.ne_of_lt (Nat.lt_succ_self _)) _
    have HW3 : Hid (Below w.heap.size w (w5.setCell ⟨w.heap.size + 1, 3, none⟩ (.int .i64 (p3 : Nat)))) := below_set1 HW.out (Nat.le_succ _) _ _
    have HB3 : Hid (Rd (w5.setCell ⟨w.heap.size + 1, 3, none⟩ (.int .i64 (p3 : Nat))) AB bs) := hrb0 _ HW3.out
    refine wp_world (fun W => Hid (Blk W w.heap.size 25 [.int .i64 id, .int .i64 kind, .int .i64 links, .int .i64 size, .int .u64 (till : Nat), .bool shut]) ∧ Hid (Blk W (w.heap.size + 1) 25 [.int .i64 (p1 : Nat), .int .i64 1, .int .i64 (p2 : Nat), .int .i64 (p3 : Nat), .int .u64 (till : Nat), .bool shut]) ∧ Hid (Below w.heap.size w W) ∧ Hid (Rd W AB bs)) ⟨XA3, XX3, HW3, HB3⟩ ?_
    clear XA3 XX3 HW3 HB3 XA XX HW HB
    rintro w6 ⟨XA, XX, HW, HB⟩
    have c0 : w6.cell? ⟨w.heap.size, 0, none⟩ = some (.int .i64 id) := XA.out.cell 0
    have c1 : w6.cell? ⟨w.heap.size, 1, none⟩ = some (.int .i64 kind) := XA.out.cell 1
    have c2 : w6.cell? ⟨w.heap.size, 2, none⟩ = some (.int .i64 links) := XA.out.cell 2
    have c3 : w6.cell? ⟨w.heap.size, 3, none⟩ = some (.int .i64 size) := XA.out.cell 3
    have c4 : w6.cell? ⟨w.heap.size, 4, none⟩ = some (.int .u64 (till : Nat)) := XA.out.cell 4
    have c5 : w6.cell? ⟨w.heap.size, 5, none⟩ = some (.bool shut) := XA.out.cell 5
    have d0 : w6.cell? ⟨w.heap.size + 1, 0, none⟩ = some (.int .i64 (p1 : Nat)) := XX.out.cell 0
    have d1 : w6.cell? ⟨w.heap.size + 1, 1, none⟩ = some (.int .i64 1) := XX.out.cell 1
    have d2 : w6.cell? ⟨w.heap.size + 1, 2, none⟩ = some (.int .i64 (p2 : Nat)) := XX.out.cell 2
    have d3 : w6.cell? ⟨w.heap.size + 1, 3, none⟩ = some (.int .i64 (p3 : Nat)) := XX.out.cell 3
    have d4 : w6.cell? ⟨w.heap.size + 1, 4, none⟩ = some (.int .u64 (till : Nat)) := XX.out.cell 4
    have d5 : w6.cell? ⟨w.heap.size + 1, 5, none⟩ = some (.bool shut) := XX.out.cell 5
    have f0 := XX.out.frozen 0
    have f1 := XX.out.frozen 1
    have f2 := XX.out.frozen 2
    have f3 := XX.out.frozen 3
    have f4 := XX.out.frozen 4
    have f5 := XX.out.frozen 5
    go_upto_region 7 with (fail)
    clear c0 c1 c2 c3 c4 c5 d0 d1 d2 d3 d4 d5 f0 f1 f2 f3 f4 f5
    have XX3 : Hid (Blk (w6.setCell ⟨w.heap.size + 1, 4, none⟩ (.int .u64 (t1 : Nat))) (w.heap.size + 1) 25 [.int .i64 (p1 : Nat), .int .i64 1, .int .i64 (p2 : Nat), .int .i64 (p3 : Nat), .int .u64 (t1 : Nat), .bool shut]) := XX.out.set_ 4 (.int .u64 (t1 : Nat))
    have XA3 : Hid (Blk (w6.setCell ⟨w.heap.size + 1, 4, none⟩ (.int .u64 (t1 : Nat))) w.heap.size 25 [.int .i64 id, .int .i64 kind, .int .i64 links, .int .i64 size, .int .u64 (till : Nat), .bool shut]) := XA.out.far (Nat.ne_of_lt (Nat.lt_succ_self _)) _
    have HW3 : Hid (Below w.heap.size w (w6.setCell ⟨w.heap.size + 1, 4, none⟩ (.int .u64 (t1 : Nat)))) := below_set1 HW.out (Nat.le_succ _) _ _
    have HB3 : Hid (Rd (w6.setCell ⟨w.heap.size + 1, 4, none⟩ (.int .u64 (t1 : Nat))) AB bs) := hrb0 _ HW3.out
    refine wp_world (fun W => Hid (Blk W w.heap.size 25 [.int .i64 id, .int .i64 kind, .int .i64 links, .int .i64 size, .int .u64 (till : Nat), .bool shut]) ∧ Hid (Blk W (w.heap.size + 1) 25 [.int .i64 (p1 : Nat), .int .i64 1, .int .i64 (p2 : Nat), .int .i64 (p3 : Nat), .int .u64 (t1 : Nat), .bool shut]) ∧ Hid (Below w.heap.size w W) ∧ Hid (Rd W AB bs)) ⟨XA3, XX3, HW3, HB3⟩ ?_
    clear XA3 XX3 HW3 HB3 XA XX HW HB
    rintro w7 ⟨XA, XX, HW, HB⟩
    clear et b0 b1 b2 b3 P1 P2 P3 Q0
    have c0 : w7.cell? ⟨w.heap.size, 0, none⟩ = some (.int .i64 id) := XA.out.cell 0
    have c1 : w7.cell? ⟨w.heap.size, 1, none⟩ = some (.int .i64 kind) := XA.out.cell 1
    have c2 : w7.cell? ⟨w.heap.size, 2, none⟩ = some (.int .i64 links) := XA.out.cell 2
    have c3 : w7.cell? ⟨w.heap.size, 3, none⟩ = some (.int .i64 size) := XA.out.cell 3
    have c4 : w7.cell? ⟨w.heap.size, 4, none⟩ = some (.int .u64 (till : Nat)) := XA.out.cell 4
    have c5 : w7.cell? ⟨w.heap.size, 5, none⟩ = some (.bool shut) := XA.out.cell 5
    have d0 : w7.cell? ⟨w.heap.size + 1, 0, none⟩ = some (.int .i64 (p1 : Nat)) := XX.out.cell 0
    have d1 : w7.cell? ⟨w.heap.size + 1, 1, none⟩ = some (.int .i64 1) := XX.out.cell 1
    have d2 : w7.cell? ⟨w.heap.size + 1, 2, none⟩ = some (.int .i64 (p2 : Nat)) := XX.out.cell 2
    have d3 : w7.cell? ⟨w.heap.size + 1, 3, none⟩ = some (.int .i64 (p3 : Nat)) := XX.out.cell 3
    have d4 : w7.cell? ⟨w.heap.size + 1, 4, none⟩ = some (.int .u64 (t1 : Nat)) := XX.out.cell 4
    have d5 : w7.cell? ⟨w.heap.size + 1, 5, none⟩ = some (.bool shut) := XX.out.cell 5
    have f0 := XX.out.frozen 0
    have f1 := XX.out.frozen 1
    have f2 := XX.out.frozen 2
    have f3 := XX.out.frozen 3
    have f4 := XX.out.frozen 4
    have f5 := XX.out.frozen 5
    go_upto_region 9 with (fail)
    clear c0 c1 c2 c3 c4 c5 d0 d1 d2 d3 d4 d5 f0 f1 f2 f3 f4 f5
    have HXO : Hid (Nd.Ok ⟨(p1 : Nat), 1, (p2 : Nat), (p3 : Nat), t1, shut⟩) := ⟨⟨by dsimp only; omega, by dsimp only; omega⟩, ⟨by dsimp only; omega, by dsimp only; omega⟩, ⟨by dsimp only; omega, by dsimp only; omega⟩, ⟨by dsimp only; omega, by dsimp only; omega⟩, by dsimp only; omega⟩
    obtain ⟨y, hy⟩ : ∃ y, y = Nd.bytes ⟨(p1 : Nat), 1, (p2 : Nat), (p3 : Nat), t1, shut⟩ := ⟨_, rfl⟩
    have HY := Lib.hid hy
    have HLY : Hid (y.length = 16) := by show _ = _; rw [hy]; exact Nd.bytes_length _
    clear hy
    have d0 : w7.cell? ⟨w.heap.size + 1, 0, none⟩ = some (.int .i64 (p1 : Nat)) := XX.out.cell 0
    have d1 : w7.cell? ⟨w.heap.size + 1, 1, none⟩ = some (.int .i64 1) := XX.out.cell 1
    have d2 : w7.cell? ⟨w.heap.size + 1, 2, none⟩ = some (.int .i64 (p2 : Nat)) := XX.out.cell 2
    have d3 : w7.cell? ⟨w.heap.size + 1, 3, none⟩ = some (.int .i64 (p3 : Nat)) := XX.out.cell 3
    have d4 : w7.cell? ⟨w.heap.size + 1, 4, none⟩ = some (.int .u64 (t1 : Nat)) := XX.out.cell 4
    have d5 : w7.cell? ⟨w.heap.size + 1, 5, none⟩ = some (.bool shut) := XX.out.cell 5
    go_wp2_with fail
    clear d0 d1 d2 d3 d4 d5
    refine (refEnc_as _ HXO.out).mono ?_
    rintro e w10 ⟨XY, cy, rfl, hcy, OY, _, B1⟩
    rw [← HY.out] at OY
    have OY0 : Hid (w10.ownsRow w.heap.size 5 1 (.slice XY 16 cy) 16 (Lib.byteCells y)) := own_mono OY.out HW.out.size
    clear OY
    have OY := OY0
    clear OY0
    have XAq := Lib.hid (XA.out.below B1.out XA.out.lt)
    have XXq := Lib.hid (XX.out.below B1.out XX.out.lt)
    have HBq := Lib.hid (HB.out.below B1.out)
    have HWq := Lib.hid (HW.out.trans (B1.out.mono HW.out.size))
    clear XA XX HB HW B1
    have XA := XAq
    clear XAq
    have XX := XXq
    clear XXq
    have HB := HBq
    clear HBq
    have HW := HWq
    clear HWq
    have HCY := Lib.hid hcy
    clear hcy
    have c0 : w10.cell? ⟨w.heap.size, 0, none⟩ = some (.int .i64 id) := XA.out.cell 0
    have c1 : w10.cell? ⟨w.heap.size, 1, none⟩ = some (.int .i64 kind) := XA.out.cell 1
    have c2 : w10.cell? ⟨w.heap.size, 2, none⟩ = some (.int .i64 links) := XA.out.cell 2
    have c3 : w10.cell? ⟨w.heap.size, 3, none⟩ = some (.int .i64 size) := XA.out.cell 3
    have c4 : w10.cell? ⟨w.heap.size, 4, none⟩ = some (.int .u64 (till : Nat)) := XA.out.cell 4
    have c5 : w10.cell? ⟨w.heap.size, 5, none⟩ = some (.bool shut) := XA.out.cell 5
    go_wp2_with fail
    clear c0 c1 c2 c3 c4 c5
    refine (same10_any C ⟨id, kind, links, size, till, shut⟩ HOK.out _).mono ?_
    rintro e w11 ⟨rfl, hb⟩
    have B1 := Lib.hid hb
    clear hb
    have XAq := Lib.hid (XA.out.below B1.out XA.out.lt)
    have XXq := Lib.hid (XX.out.below B1.out XX.out.lt)
    have HBq := Lib.hid (HB.out.below B1.out)
    have HWq := Lib.hid (HW.out.trans (B1.out.mono HW.out.size))
    have OYq := Lib.hid (own_later OY.out B1.out)
    clear XA XX HB HW B1 OY
    have XA := XAq
    clear XAq
    have XX := XXq
    clear XXq
    have HB := HBq
    clear HBq
    have HW := HWq
    clear HWq
    have OY := OYq
    clear OYq
    have c0 : w11.cell? ⟨w.heap.size + 1, 0, none⟩ = some (.int .i64 (p1 : Nat)) := XX.out.cell 0
    have c1 : w11.cell? ⟨w.heap.size + 1, 1, none⟩ = some (.int .i64 1) := XX.out.cell 1
    have c2 : w11.cell? ⟨w.heap.size + 1, 2, none⟩ = some (.int .i64 (p2 : Nat)) := XX.out.cell 2
    have c3 : w11.cell? ⟨w.heap.size + 1, 3, none⟩ = some (.int .i64 (p3 : Nat)) := XX.out.cell 3
    have c4 : w11.cell? ⟨w.heap.size + 1, 4, none⟩ = some (.int .u64 (t1 : Nat)) := XX.out.cell 4
    have c5 : w11.cell? ⟨w.heap.size + 1, 5, none⟩ = some (.bool shut) := XX.out.cell 5
    go_wp2_with fail
    clear c0 c1 c2 c3 c4 c5
    refine (same10_any C ⟨(p1 : Nat), 1, (p2 : Nat), (p3 : Nat), t1, shut⟩ HXO.out _).mono ?_
    rintro e w12 ⟨rfl, hb⟩
    have B1 := Lib.hid hb
    clear hb
    have XAq := Lib.hid (XA.out.below B1.out XA.out.lt)
    have XXq := Lib.hid (XX.out.below B1.out XX.out.lt)
    have HBq := Lib.hid (HB.out.below B1.out)
    have HWq := Lib.hid (HW.out.trans (B1.out.mono HW.out.size))
    have OYq := Lib.hid (own_later OY.out B1.out)
    clear XA XX HB HW B1 OY
    have XA := XAq
    clear XAq
    have XX := XXq
    clear XXq
    have HB := HBq
    clear HBq
    have HW := HWq
    clear HWq
    have OY := OYq
    clear OYq
    go_wp2_with fail
    refine (read_16 R hM _ XY y cy (own_rd16 OY.out HLY.out) HCY.out HLY.out).mono ?_
    rintro e w13 ⟨rfl, B1⟩
    have XAq := Lib.hid (XA.out.below B1.out XA.out.lt)
    have XXq := Lib.hid (XX.out.below B1.out XX.out.lt)
    have HBq := Lib.hid (HB.out.below B1.out)
    have HWq := Lib.hid (HW.out.trans (B1.out.mono HW.out.size))
    have OYq := Lib.hid (own_later OY.out B1.out)
    clear XA XX HB HW B1 OY
    have XA := XAq
    clear XAq
    have XX := XXq
    clear XXq
    have HB := HBq
    clear HBq
    have HW := HWq
    clear HWq
    have OY := OYq
    clear OYq
    go_wp2_with fail
    refine (cut_to AB bs cb 30 _ HB.out HCB.out (by omega) HLB.out).mono ?_
    rintro e wz ⟨bb, rfl, hz, hb30, hbc, RB⟩
    obtain rfl := hz.symm
    clear hz
    go_wp2_with fail
    refine (read_any R hM _ AB bb cb RB.out hbc (by omega)).mono ?_
    rintro e w14 ⟨rfl, hb⟩
    have B1 := Lib.hid hb
    clear hb RB
    have XAq := Lib.hid (XA.out.below B1.out XA.out.lt)
    have XXq := Lib.hid (XX.out.below B1.out XX.out.lt)
    have HBq := Lib.hid (HB.out.below B1.out)
    have HWq := Lib.hid (HW.out.trans (B1.out.mono HW.out.size))
    have OYq := Lib.hid (own_later OY.out B1.out)
    clear XA XX HB HW B1 OY
    have XA := XAq
    clear XAq
    have XX := XXq
    clear XXq
    have HB := HBq
    clear HBq
    have HW := HWq
    clear HWq
    have OY := OYq
    clear OYq
    obtain ⟨gy, hgy⟩ := own_addr OY.out (by decide)
    subst hgy
    have cx := own_byte OY.out qa (by omega)
    have fx := own_frozen OY.out qa
    obtain ⟨xb, hxb⟩ : ∃ z : Nat, z = (y.getD qa 0).toNat := ⟨_, rfl⟩
    have lb : xb < 256 := by rw [hxb]; exact (y.getD qa 0).toNat_lt
    obtain ⟨z, hz⟩ : ∃ z : Nat, z = xb ^^^ tu.toNat := ⟨_, rfl⟩
    have hx1 := No.bits_xor_u8 xb tu.toNat lb tu.toNat_lt
    rw [← hxb] at cx
    rw [← hz] at hx1
    have OZ : Hid ((w14.setCell ⟨gy, qa, none⟩ (.int .u8 ((z : Nat) : Int))).ownsRow w.heap.size 5 1 (.slice (some ⟨gy, 0, none⟩) 16 cy) 16 (Lib.byteCells (y.set qa (y.getD qa 0 ^^^ tu)))) := own_set OY.out qa (by omega) (y.getD qa 0 ^^^ tu) ((z : Nat) : Int) (by rw [UInt8.toNat_xor, ← hxb, hz])
    have HGY : Hid (w.heap.size ≤ gy) := (own_lt OY.out rfl).1
    have HWZ : Hid (Below w.heap.size w (w14.setCell ⟨gy, qa, none⟩ (.int .u8 ((z : Nat) : Int)))) := below_set1 HW.out HGY.out _ _
    have HLZ : Hid ((y.set qa (y.getD qa 0 ^^^ tu)).length = 16) := by show _ = _; rw [List.length_set]; exact HLY.out
    have HRZ : Hid (Rd (w14.setCell ⟨gy, qa, none⟩ (.int .u8 ((z : Nat) : Int))) (some ⟨gy, 0, none⟩) (y.set qa (y.getD qa 0 ^^^ tu))) := own_rd16 OZ.out HLZ.out
    clear hxb hz lb OZ HGY OY XA XX HB HW HY HOK HXO
    have b4 : (0 : Int) ≤ (qa : Int) := by omega
    have b5 : (qa : Int) < 16 := by omega
    go_wp2_with fail
    refine (within_st at_ 15 _ (by decide) ba.out QA.out).mono ?_
    rintro e wz ⟨rfl, hz⟩
    obtain rfl := hz.symm
    clear hz
    go_wp2_with fail
    refine (read_16 R hM _ _ _ cy HRZ.out HCY.out HLZ.out).mono ?_
    rintro e w15 ⟨rfl, B1⟩
    have HW5 := Lib.hid (HWZ.out.trans (B1.out.mono HWZ.out.size))
    clear B1 HWZ HRZ HLZ
    go_wp2_with fail
    refine (known10_any C _).mono ?_
    rintro e w16 ⟨rfl, hb⟩
    have HF := Lib.hid (HW5.out.trans (hb.mono HW5.out.size))
    clear hb
    go_wp2_with fail
    go_ret
    exact ⟨rfl, HF.out⟩
  · go_enter Try.func4, Try.ntmps4
    go_upto_region 2 with (refine wpList_store_row rfl 25 (.tmp 9) (.tmp 11) rfl (w.heap.size + 1) #[.int .i64 id, .int .i64 kind, .int .i64 links, .int .i64 size, .int .u64 (till : Nat), .bool shut] rfl rfl 25 #[.int .i64 0, .int .i64 0, .int .i64 0, .int .i64 0, .int .u64 0, .bool false] HGZ.out rfl rfl rfl ?_)
    refine wp_world (fun W => Hid (Blk W w.heap.size 25 [.int .i64 id, .int .i64 kind, .int .i64 links, .int .i64 size, .int .u64 (till : Nat), .bool shut]) ∧ Hid (Blk W (w.heap.size + 1) 25 [.int .i64 id, .int .i64 kind, .int .i64 links, .int .i64 size, .int .u64 (till : Nat), .bool shut]) ∧ Hid (Below w.heap.size w W) ∧ Hid (Rd W AB bs)) ⟨XAA, XX, HWW, HBB⟩ ?_
    clear XA XX XAA HWW HBB HGZ
    rintro w2 ⟨XA, XX, HW, HB⟩
    have cz : ((0 : Nat) : Int) = 0 := rfl
    have co : ((1 : Nat) : Int) = 1 := rfl
    have c0 : w2.cell? ⟨w.heap.size, 0, none⟩ = some (.int .i64 id) := XA.out.cell 0
    have c1 : w2.cell? ⟨w.heap.size, 1, none⟩ = some (.int .i64 kind) := XA.out.cell 1
    have c2 : w2.cell? ⟨w.heap.size, 2, none⟩ = some (.int .i64 links) := XA.out.cell 2
    have c3 : w2.cell? ⟨w.heap.size, 3, none⟩ = some (.int .i64 size) := XA.out.cell 3
    have c4 : w2.cell? ⟨w.heap.size, 4, none⟩ = some (.int .u64 (till : Nat)) := XA.out.cell 4
    have c5 : w2.cell? ⟨w.heap.size, 5, none⟩ = some (.bool shut) := XA.out.cell 5
    have d0 : w2.cell? ⟨w.heap.size + 1, 0, none⟩ = some (.int .i64 id) := XX.out.cell 0
    have d1 : w2.cell? ⟨w.heap.size + 1, 1, none⟩ = some (.int .i64 kind) := XX.out.cell 1
    have d2 : w2.cell? ⟨w.heap.size + 1, 2, none⟩ = some (.int .i64 links) := XX.out.cell 2
    have d3 : w2.cell? ⟨w.heap.size + 1, 3, none⟩ = some (.int .i64 size) := XX.out.cell 3
    have d4 : w2.cell? ⟨w.heap.size + 1, 4, none⟩ = some (.int .u64 (till : Nat)) := XX.out.cell 4
    have d5 : w2.cell? ⟨w.heap.size + 1, 5, none⟩ = some (.bool shut) := XX.out.cell 5
    have f0 := XX.out.frozen 0
    have f1 := XX.out.frozen 1
    have f2 := XX.out.frozen 2
    have f3 := XX.out.frozen 3
    have f4 := XX.out.frozen 4
    have f5 := XX.out.frozen 5
    go_wp2_with fail
    refine (within_st kind 1 _ (by decide) b1.out Q0.out).mono ?_
    rintro e wz ⟨rfl, hz⟩
    obtain rfl := hz.symm
    clear hz
    go_upto_region 3 with (fail)
    clear c0 c1 c2 c3 c4 c5 d0 d1 d2 d3 d4 d5 f0 f1 f2 f3 f4 f5
    have XX3 : Hid (Blk (w2.setCell ⟨w.heap.size + 1, 1, none⟩ (.int .i64 2)) (w.heap.size + 1) 25 [.int .i64 id, .int .i64 2, .int .i64 links, .int .i64 size, .int .u64 (till : Nat), .bool shut]) := XX.out.set_ 1 (.int .i64 2)
    have XA3 : Hid (Blk (w2.setCell ⟨w.heap.size + 1, 1, none⟩ (.int .i64 2)) w.heap.size 25 [.int .i64 id, .int .i64 kind, .int .i64 links, .int .i64 size, .int .u64 (till : Nat), .bool shut]) := XA.out.far (Nat.ne_of_lt (Nat.lt_succ_self _)) _
    have HW3 : Hid (Below w.heap.size w (w2.setCell ⟨w.heap.size + 1, 1, none⟩ (.int .i64 2))) := below_set1 HW.out (Nat.le_succ _) _ _
    have HB3 : Hid (Rd (w2.setCell ⟨w.heap.size + 1, 1, none⟩ (.int .i64 2)) AB bs) := hrb0 _ HW3.out
    refine wp_world (fun W => Hid (Blk W w.heap.size 25 [.int .i64 id, .int .i64 kind, .int .i64 links, .int .i64 size, .int .u64 (till : Nat), .bool shut]) ∧ Hid (Blk W (w.heap.size + 1) 25 [.int .i64 id, .int .i64 2, .int .i64 links, .int .i64 size, .int .u64 (till : Nat), .bool shut]) ∧ Hid (Below w.heap.size w W) ∧ Hid (Rd W AB bs)) ⟨XA3, XX3, HW3, HB3⟩ ?_
    clear XA3 XX3 HW3 HB3 XA XX HW HB
    rintro w3 ⟨XA, XX, HW, HB⟩
    have c0 : w3.cell? ⟨w.heap.size, 0, none⟩ = some (.int .i64 id) := XA.out.cell 0
    have c1 : w3.cell? ⟨w.heap.size, 1, none⟩ = some (.int .i64 kind) := XA.out.cell 1
    have c2 : w3.cell? ⟨w.heap.size, 2, none⟩ = some (.int .i64 links) := XA.out.cell 2
    have c3 : w3.cell? ⟨w.heap.size, 3, none⟩ = some (.int .i64 size) := XA.out.cell 3
    have c4 : w3.cell? ⟨w.heap.size, 4, none⟩ = some (.int .u64 (till : Nat)) := XA.out.cell 4
    have c5 : w3.cell? ⟨w.heap.size, 5, none⟩ = some (.bool shut) := XA.out.cell 5
    have d0 : w3.cell? ⟨w.heap.size + 1, 0, none⟩ = some (.int .i64 id) := XX.out.cell 0
    have d1 : w3.cell? ⟨w.heap.size + 1, 1, none⟩ = some (.int .i64 2) := XX.out.cell 1
    have d2 : w3.cell? ⟨w.heap.size + 1, 2, none⟩ = some (.int .i64 links) := XX.out.cell 2
    have d3 : w3.cell? ⟨w.heap.size + 1, 3, none⟩ = some (.int .i64 size) := XX.out.cell 3
    have d4 : w3.cell? ⟨w.heap.size + 1, 4, none⟩ = some (.int .u64 (till : Nat)) := XX.out.cell 4
    have d5 : w3.cell? ⟨w.heap.size + 1, 5, none⟩ = some (.bool shut) := XX.out.cell 5
    have f0 := XX.out.frozen 0
    have f1 := XX.out.frozen 1
    have f2 := XX.out.frozen 2
    have f3 := XX.out.frozen 3
    have f4 := XX.out.frozen 4
    have f5 := XX.out.frozen 5
    go_wp2_with fail
    refine (within_st id 65535 _ (by decide) b0.out P1.out).mono ?_
    rintro e wz ⟨rfl, hz⟩
    obtain rfl := hz.symm
    clear hz
    go_upto_region 4 with (fail)
    clear c0 c1 c2 c3 c4 c5 d0 d1 d2 d3 d4 d5 f0 f1 f2 f3 f4 f5
    have XX3 : Hid (Blk (w3.setCell ⟨w.heap.size + 1, 0, none⟩ (.int .i64 (p1 : Nat))) (w.heap.size + 1) 25 [.int .i64 (p1 : Nat), .int .i64 2, .int .i64 links, .int .i64 size, .int .u64 (till : Nat), .bool shut]) := XX.out.set_ 0 (.int .i64 (p1 : Nat))
    have XA3 : Hid (Blk (w3.setCell ⟨w.heap.size + 1, 0, none⟩ (.int .i64 (p1 : Nat))) w.heap.size 25 [.int .i64 id, .int .i64 kind, .int .i64 links, .int .i64 size, .int .u64 (till : Nat), .bool shut]) := XA.out.far (Nat.ne_of_lt (Nat.lt_succ_self _)) _
    have HW3 : Hid (Below w.heap.size w (w3.setCell ⟨w.heap.size + 1, 0, none⟩ (.int .i64 (p1 : Nat)))) := below_set1 HW.out (Nat.le_succ _) _ _
    have HB3 : Hid (Rd (w3.setCell ⟨w.heap.size + 1, 0, none⟩ (.int .i64 (p1 : Nat))) AB bs) := hrb0 _ HW3.out
    refine wp_world (fun W => Hid (Blk W w.heap.size 25 [.int .i64 id, .int .i64 kind, .int .i64 links, .int .i64 size, .int .u64 (till : Nat), .bool shut]) ∧ Hid (Blk W (w.heap.size + 1) 25 [.int .i64 (p1 : Nat), .int .i64 2, .int .i64 links, .int .i64 size, .int .u64 (till : Nat), .bool shut]) ∧ Hid (Below w.heap.size w W) ∧ Hid (Rd W AB bs)) ⟨XA3, XX3, HW3, HB3⟩ ?_
    clear XA3 XX3 HW3 HB3 XA XX HW HB
    rintro w4 ⟨XA, XX, HW, HB⟩
    have c0 : w4.cell? ⟨w.heap.size, 0, none⟩ = some (.int .i64 id) := XA.out.cell 0
    have c1 : w4.cell? ⟨w.heap.size, 1, none⟩ = some (.int .i64 kind) := XA.out.cell 1
    have c2 : w4.cell? ⟨w.heap.size, 2, none⟩ = some (.int .i64 links) := XA.out.cell 2
    have c3 : w4.cell? ⟨w.heap.size, 3, none⟩ = some (.int .i64 size) := XA.out.cell 3
    have c4 : w4.cell? ⟨w.heap.size, 4, none⟩ = some (.int .u64 (till : Nat)) := XA.out.cell 4
    have c5 : w4.cell? ⟨w.heap.size, 5, none⟩ = some (.bool shut) := XA.out.cell 5
    have d0 : w4.cell? ⟨w.heap.size + 1, 0, none⟩ = some (.int .i64 (p1 : Nat)) := XX.out.cell 0
    have d1 : w4.cell? ⟨w.heap.size + 1, 1, none⟩ = some (.int .i64 2) := XX.out.cell 1
    have d2 : w4.cell? ⟨w.heap.size + 1, 2, none⟩ = some (.int .i64 links) := XX.out.cell 2
    have d3 : w4.cell? ⟨w.heap.size + 1, 3, none⟩ = some (.int .i64 size) := XX.out.cell 3
    have d4 : w4.cell? ⟨w.heap.size + 1, 4, none⟩ = some (.int .u64 (till : Nat)) := XX.out.cell 4
    have d5 : w4.cell? ⟨w.heap.size + 1, 5, none⟩ = some (.bool shut) := XX.out.cell 5
    have f0 := XX.out.frozen 0
    have f1 := XX.out.frozen 1
    have f2 := XX.out.frozen 2
    have f3 := XX.out.frozen 3
    have f4 := XX.out.frozen 4
    have f5 := XX.out.frozen 5
    go_wp2_with fail
    refine (within_st links 65535 _ (by decide) b2.out P2.out).mono ?_
    rintro e wz ⟨rfl, hz⟩
    obtain rfl := hz.symm
    clear hz
    go_upto_region 5 with (fail)
    clear c0 c1 c2 c3 c4 c5 d0 d1 d2 d3 d4 d5 f0 f1 f2 f3 f4 f5
    have XX3 : Hid (Blk (w4.setCell ⟨w.heap.size + 1, 2, none⟩ (.int .i64 (p2 : Nat))) (w.heap.size + 1) 25 [.int .i64 (p1 : Nat), .int .i64 2, .int .i64 (p2 : Nat), .int .i64 size, .int .u64 (till : Nat), .bool shut]) := XX.out.set_ 2 (.int .i64 (p2 : Nat))
    have XA3 : Hid (Blk (w4.setCell ⟨w.heap.size + 1, 2, none⟩ (.int .i64 (p2 : Nat))) w.heap.size 25 [.int .i64 id, .int .i64 kind, .int .i64 links, .int .i64 size, .int .u64 (till : Nat), .bool shut]) := XA.out.far (Nat.ne_of_lt (Nat.lt_succ_self _)) _
    have HW3 : Hid (Below w.heap.size w (w4.setCell ⟨w.heap.size + 1, 2, none⟩ (.int .i64 (p2 : Nat)))) := below_set1 HW.out (Nat.le_succ _) _ _
    have HB3 : Hid (Rd (w4.setCell ⟨w.heap.size + 1, 2, none⟩ (.int .i64 (p2 : Nat))) AB bs) := hrb0 _ HW3.out
    refine wp_world (fun W => Hid (Blk W w.heap.size 25 [.int .i64 id, .int .i64 kind, .int .i64 links, .int .i64 size, .int .u64 (till : Nat), .bool shut]) ∧ Hid (Blk W (w.heap.size + 1) 25 [.int .i64 (p1 : Nat), .int .i64 2, .int .i64 (p2 : Nat), .int .i64 size, .int .u64 (till : Nat), .bool shut]) ∧ Hid (Below w.heap.size w W) ∧ Hid (Rd W AB bs)) ⟨XA3, XX3, HW3, HB3⟩ ?_
    clear XA3 XX3 HW3 HB3 XA XX HW HB
    rintro w5 ⟨XA, XX, HW, HB⟩
    have c0 : w5.cell? ⟨w.heap.size, 0, none⟩ = some (.int .i64 id) := XA.out.cell 0
    have c1 : w5.cell? ⟨w.heap.size, 1, none⟩ = some (.int .i64 kind) := XA.out.cell 1
    have c2 : w5.cell? ⟨w.heap.size, 2, none⟩ = some (.int .i64 links) := XA.out.cell 2
    have c3 : w5.cell? ⟨w.heap.size, 3, none⟩ = some (.int .i64 size) := XA.out.cell 3
    have c4 : w5.cell? ⟨w.heap.size, 4, none⟩ = some (.int .u64 (till : Nat)) := XA.out.cell 4
    have c5 : w5.cell? ⟨w.heap.size, 5, none⟩ = some (.bool shut) := XA.out.cell 5
    have d0 : w5.cell? ⟨w.heap.size + 1, 0, none⟩ = some (.int .i64 (p1 : Nat)) := XX.out.cell 0
    have d1 : w5.cell? ⟨w.heap.size + 1, 1, none⟩ = some (.int .i64 2) := XX.out.cell 1
    have d2 : w5.cell? ⟨w.heap.size + 1, 2, none⟩ = some (.int .i64 (p2 : Nat)) := XX.out.cell 2
    have d3 : w5.cell? ⟨w.heap.size + 1, 3, none⟩ = some (.int .i64 size) := XX.out.cell 3
    have d4 : w5.cell? ⟨w.heap.size + 1, 4, none⟩ = some (.int .u64 (till : Nat)) := XX.out.cell 4
    have d5 : w5.cell? ⟨w.heap.size + 1, 5, none⟩ = some (.bool shut) := XX.out.cell 5
    have f0 := XX.out.frozen 0
    have f1 := XX.out.frozen 1
    have f2 := XX.out.frozen 2
    have f3 := XX.out.frozen 3
    have f4 := XX.out.frozen 4
    have f5 := XX.out.frozen 5
    go_wp2_with fail
    refine (within_st size 4096 _ (by decide) b3.out P3.out).mono ?_
    rintro e wz ⟨rfl, hz⟩
    obtain rfl := hz.symm
    clear hz
    go_upto_region 6 with (fail)
    clear c0 c1 c2 c3 c4 c5 d0 d1 d2 d3 d4 d5 f0 f1 f2 f3 f4 f5
    have XX3 : Hid (Blk (w5.setCell ⟨w.heap.size + 1, 3, none⟩ (.int .i64 (p3 : Nat))) (w.heap.size + 1) 25 [.int .i64 (p1 : Nat), .int .i64 2, .int .i64 (p2 : Nat), .int .i64 (p3 : Nat), .int .u64 (till : Nat), .bool shut]) := XX.out.set_ 3 (.int .i64 (p3 : Nat))
    have XA3 : Hid (Blk (w5.setCell ⟨w.heap.size + 1, 3, none⟩ (.int .i64 (p3 : Nat))) w.heap.size 25 [.int .i64 id, .int .i64 kind, .int .i64 links, .int .i64 size, .int .u64 (till : Nat), .bool shut]) := XA.out.far (Nat.ne_of_lt (Nat.lt_succ_self _)) _
    have HW3 : Hid (Below w.heap.size w (w5.setCell ⟨w.heap.size + 1, 3, none⟩ (.int .i64 (p3 : Nat)))) := below_set1 HW.out (Nat.le_succ _) _ _
    have HB3 : Hid (Rd (w5.setCell ⟨w.heap.size + 1, 3, none⟩ (.int .i64 (p3 : Nat))) AB bs) := hrb0 _ HW3.out
    refine wp_world (fun W => Hid (Blk W w.heap.size 25 [.int .i64 id, .int .i64 kind, .int .i64 links, .int .i64 size, .int .u64 (till : Nat), .bool shut]) ∧ Hid (Blk W (w.heap.size + 1) 25 [.int .i64 (p1 : Nat), .int .i64 2, .int .i64 (p2 : Nat), .int .i64 (p3 : Nat), .int .u64 (till : Nat), .bool shut]) ∧ Hid (Below w.heap.size w W) ∧ Hid (Rd W AB bs)) ⟨XA3, XX3, HW3, HB3⟩ ?_
    clear XA3 XX3 HW3 HB3 XA XX HW HB
    rintro w6 ⟨XA, XX, HW, HB⟩
    have c0 : w6.cell? ⟨w.heap.size, 0, none⟩ = some (.int .i64 id) := XA.out.cell 0
    have c1 : w6.cell? ⟨w.heap.size, 1, none⟩ = some (.int .i64 kind) := XA.out.cell 1
    have c2 : w6.cell? ⟨w.heap.size, 2, none⟩ = some (.int .i64 links) := XA.out.cell 2
    have c3 : w6.cell? ⟨w.heap.size, 3, none⟩ = some (.int .i64 size) := XA.out.cell 3
    have c4 : w6.cell? ⟨w.heap.size, 4, none⟩ = some (.int .u64 (till : Nat)) := XA.out.cell 4
    have c5 : w6.cell? ⟨w.heap.size, 5, none⟩ = some (.bool shut) := XA.out.cell 5
    have d0 : w6.cell? ⟨w.heap.size + 1, 0, none⟩ = some (.int .i64 (p1 : Nat)) := XX.out.cell 0
    have d1 : w6.cell? ⟨w.heap.size + 1, 1, none⟩ = some (.int .i64 2) := XX.out.cell 1
    have d2 : w6.cell? ⟨w.heap.size + 1, 2, none⟩ = some (.int .i64 (p2 : Nat)) := XX.out.cell 2
    have d3 : w6.cell? ⟨w.heap.size + 1, 3, none⟩ = some (.int .i64 (p3 : Nat)) := XX.out.cell 3
    have d4 : w6.cell? ⟨w.heap.size + 1, 4, none⟩ = some (.int .u64 (till : Nat)) := XX.out.cell 4
    have d5 : w6.cell? ⟨w.heap.size + 1, 5, none⟩ = some (.bool shut) := XX.out.cell 5
    have f0 := XX.out.frozen 0
    have f1 := XX.out.frozen 1
    have f2 := XX.out.frozen 2
    have f3 := XX.out.frozen 3
    have f4 := XX.out.frozen 4
    have f5 := XX.out.frozen 5
    go_upto_region 7 with (fail)
    clear c0 c1 c2 c3 c4 c5 d0 d1 d2 d3 d4 d5 f0 f1 f2 f3 f4 f5
    have XX3 : Hid (Blk (w6.setCell ⟨w.heap.size + 1, 4, none⟩ (.int .u64 (t1 : Nat))) (w.heap.size + 1) 25 [.int .i64 (p1 : Nat), .int .i64 2, .int .i64 (p2 : Nat), .int .i64 (p3 : Nat), .int .u64 (t1 : Nat), .bool shut]) := XX.out.set_ 4 (.int .u64 (t1 : Nat))
    have XA3 : Hid (Blk (w6.setCell ⟨w.heap.size + 1, 4, none⟩ (.int .u64 (t1 : Nat))) w.heap.size 25 [.int .i64 id, .int .i64 kind, .int .i64 links, .int .i64 size, .int .u64 (till : Nat), .bool shut]) := XA.out.far (Nat.ne_of_lt (Nat.lt_succ_self _)) _
    have HW3 : Hid (Below w.heap.size w (w6.setCell ⟨w.heap.size + 1, 4, none⟩ (.int .u64 (t1 : Nat)))) := below_set1 HW.out (Nat.le_succ _) _ _
    have HB3 : Hid (Rd (w6.setCell ⟨w.heap.size + 1, 4, none⟩ (.int .u64 (t1 : Nat))) AB bs) := hrb0 _ HW3.out
    refine wp_world (fun W => Hid (Blk W w.heap.size 25 [.int .i64 id, .int .i64 kind, .int .i64 links, .int .i64 size, .int .u64 (till : Nat), .bool shut]) ∧ Hid (Blk W (w.heap.size + 1) 25 [.int .i64 (p1 : Nat), .int .i64 2, .int .i64 (p2 : Nat), .int .i64 (p3 : Nat), .int .u64 (t1 : Nat), .bool shut]) ∧ Hid (Below w.heap.size w W) ∧ Hid (Rd W AB bs)) ⟨XA3, XX3, HW3, HB3⟩ ?_
    clear XA3 XX3 HW3 HB3 XA XX HW HB
    rintro w7 ⟨XA, XX, HW, HB⟩
    clear et b0 b1 b2 b3 P1 P2 P3 Q0
    have c0 : w7.cell? ⟨w.heap.size, 0, none⟩ = some (.int .i64 id) := XA.out.cell 0
    have c1 : w7.cell? ⟨w.heap.size, 1, none⟩ = some (.int .i64 kind) := XA.out.cell 1
    have c2 : w7.cell? ⟨w.heap.size, 2, none⟩ = some (.int .i64 links) := XA.out.cell 2
    have c3 : w7.cell? ⟨w.heap.size, 3, none⟩ = some (.int .i64 size) := XA.out.cell 3
    have c4 : w7.cell? ⟨w.heap.size, 4, none⟩ = some (.int .u64 (till : Nat)) := XA.out.cell 4
    have c5 : w7.cell? ⟨w.heap.size, 5, none⟩ = some (.bool shut) := XA.out.cell 5
    have d0 : w7.cell? ⟨w.heap.size + 1, 0, none⟩ = some (.int .i64 (p1 : Nat)) := XX.out.cell 0
    have d1 : w7.cell? ⟨w.heap.size + 1, 1, none⟩ = some (.int .i64 2) := XX.out.cell 1
    have d2 : w7.cell? ⟨w.heap.size + 1, 2, none⟩ = some (.int .i64 (p2 : Nat)) := XX.out.cell 2
    have d3 : w7.cell? ⟨w.heap.size + 1, 3, none⟩ = some (.int .i64 (p3 : Nat)) := XX.out.cell 3
    have d4 : w7.cell? ⟨w.heap.size + 1, 4, none⟩ = some (.int .u64 (t1 : Nat)) := XX.out.cell 4
    have d5 : w7.cell? ⟨w.heap.size + 1, 5, none⟩ = some (.bool shut) := XX.out.cell 5
    have f0 := XX.out.frozen 0
    have f1 := XX.out.frozen 1
    have f2 := XX.out.frozen 2
    have f3 := XX.out.frozen 3
    have f4 := XX.out.frozen 4
    have f5 := XX.out.frozen 5
    go_upto_region 9 with (fail)
    clear c0 c1 c2 c3 c4 c5 d0 d1 d2 d3 d4 d5 f0 f1 f2 f3 f4 f5
    have XX3 : Hid (Blk (((w7.setCell ⟨w.heap.size + 1, 3, none⟩ (.int .i64 0)).setCell ⟨w.heap.size + 1, 4, none⟩ (.int .u64 0)).setCell ⟨w.heap.size + 1, 5, none⟩ (.bool true)) (w.heap.size + 1) 25 [.int .i64 (p1 : Nat), .int .i64 2, .int .i64 (p2 : Nat), .int .i64 0, .int .u64 0, .bool true]) := (((XX.out.set_ 3 (.int .i64 0)).set_ 4 (.int .u64 0)).set_ 5 (.bool true))
    have XA3 : Hid (Blk (((w7.setCell ⟨w.heap.size + 1, 3, none⟩ (.int .i64 0)).setCell ⟨w.heap.size + 1, 4, none⟩ (.int .u64 0)).setCell ⟨w.heap.size + 1, 5, none⟩ (.bool true)) w.heap.size 25 [.int .i64 id, .int .i64 kind, .int .i64 links, .int .i64 size, .int .u64 (till : Nat), .bool shut]) := ((XA.out.far (Nat.ne_of_lt (Nat.lt_succ_self _)) _).far (Nat.ne_of_lt (Nat.lt_succ_self _)) _).far (Nat.ne_of_lt (Nat.lt_succ_self _)) _
    have HW3 : Hid (Below w.heap.size w (((w7.setCell ⟨w.heap.size + 1, 3, none⟩ (.int .i64 0)).setCell ⟨w.heap.size + 1, 4, none⟩ (.int .u64 0)).setCell ⟨w.heap.size + 1, 5, none⟩ (.bool true))) := (below_set1 (below_set1 (below_set1 HW.out (Nat.le_succ _) _ _) (Nat.le_succ _) _ _) (Nat.le_succ _) _ _)
    have HB3 : Hid (Rd (((w7.setCell ⟨w.heap.size + 1, 3, none⟩ (.int .i64 0)).setCell ⟨w.heap.size + 1, 4, none⟩ (.int .u64 0)).setCell ⟨w.heap.size + 1, 5, none⟩ (.bool true)) AB bs) := hrb0 _ HW3.out
    refine wp_world (fun W => Hid (Blk W w.heap.size 25 [.int .i64 id, .int .i64 kind, .int .i64 links, .int .i64 size, .int .u64 (till : Nat), .bool shut]) ∧ Hid (Blk W (w.heap.size + 1) 25 [.int .i64 (p1 : Nat), .int .i64 2, .int .i64 (p2 : Nat), .int .i64 0, .int .u64 0, .bool true]) ∧ Hid (Below w.heap.size w W) ∧ Hid (Rd W AB bs)) ⟨XA3, XX3, HW3, HB3⟩ ?_
    clear XA3 XX3 HW3 HB3 XA XX HW HB
    rintro w9 ⟨XA, XX, HW, HB⟩
    have HXO : Hid (Nd.Ok ⟨(p1 : Nat), 2, (p2 : Nat), 0, 0, true⟩) := ⟨⟨by dsimp only; omega, by dsimp only; omega⟩, ⟨by dsimp only; omega, by dsimp only; omega⟩, ⟨by dsimp only; omega, by dsimp only; omega⟩, ⟨by dsimp only; omega, by dsimp only; omega⟩, by dsimp only; omega⟩
    obtain ⟨y, hy⟩ : ∃ y, y = Nd.bytes ⟨(p1 : Nat), 2, (p2 : Nat), 0, 0, true⟩ := ⟨_, rfl⟩
    have HY := Lib.hid hy
    have HLY : Hid (y.length = 16) := by show _ = _; rw [hy]; exact Nd.bytes_length _
    clear hy
    have d0 : w9.cell? ⟨w.heap.size + 1, 0, none⟩ = some (.int .i64 (p1 : Nat)) := XX.out.cell 0
    have d1 : w9.cell? ⟨w.heap.size + 1, 1, none⟩ = some (.int .i64 2) := XX.out.cell 1
    have d2 : w9.cell? ⟨w.heap.size + 1, 2, none⟩ = some (.int .i64 (p2 : Nat)) := XX.out.cell 2
    have d3 : w9.cell? ⟨w.heap.size + 1, 3, none⟩ = some (.int .i64 0) := XX.out.cell 3
    have d4 : w9.cell? ⟨w.heap.size + 1, 4, none⟩ = some (.int .u64 0) := XX.out.cell 4
    have d5 : w9.cell? ⟨w.heap.size + 1, 5, none⟩ = some (.bool true) := XX.out.cell 5
    go_wp2_with fail
    clear d0 d1 d2 d3 d4 d5
    refine (refEnc_as _ HXO.out).mono ?_
    rintro e w10 ⟨XY, cy, rfl, hcy, OY, _, B1⟩
    rw [← HY.out] at OY
    have OY0 : Hid (w10.ownsRow w.heap.size 5 1 (.slice XY 16 cy) 16 (Lib.byteCells y)) := own_mono OY.out HW.out.size
    clear OY
    have OY := OY0
    clear OY0
    have XAq := Lib.hid (XA.out.below B1.out XA.out.lt)
    have XXq := Lib.hid (XX.out.below B1.out XX.out.lt)
    have HBq := Lib.hid (HB.out.below B1.out)
    have HWq := Lib.hid (HW.out.trans (B1.out.mono HW.out.size))
    clear XA XX HB HW B1
    have XA := XAq
    clear XAq
    have XX := XXq
    clear XXq
    have HB := HBq
    clear HBq
    have HW := HWq
    clear HWq
    have HCY := Lib.hid hcy
    clear hcy
    have c0 : w10.cell? ⟨w.heap.size, 0, none⟩ = some (.int .i64 id) := XA.out.cell 0
    have c1 : w10.cell? ⟨w.heap.size, 1, none⟩ = some (.int .i64 kind) := XA.out.cell 1
    have c2 : w10.cell? ⟨w.heap.size, 2, none⟩ = some (.int .i64 links) := XA.out.cell 2
    have c3 : w10.cell? ⟨w.heap.size, 3, none⟩ = some (.int .i64 size) := XA.out.cell 3
    have c4 : w10.cell? ⟨w.heap.size, 4, none⟩ = some (.int .u64 (till : Nat)) := XA.out.cell 4
    have c5 : w10.cell? ⟨w.heap.size, 5, none⟩ = some (.bool shut) := XA.out.cell 5
    go_wp2_with fail
    clear c0 c1 c2 c3 c4 c5
    refine (same10_any C ⟨id, kind, links, size, till, shut⟩ HOK.out _).mono ?_
    rintro e w11 ⟨rfl, hb⟩
    have B1 := Lib.hid hb
    clear hb
    have XAq := Lib.hid (XA.out.below B1.out XA.out.lt)
    have XXq := Lib.hid (XX.out.below B1.out XX.out.lt)
    have HBq := Lib.hid (HB.out.below B1.out)
    have HWq := Lib.hid (HW.out.trans (B1.out.mono HW.out.size))
    have OYq := Lib.hid (own_later OY.out B1.out)
    clear XA XX HB HW B1 OY
    have XA := XAq
    clear XAq
    have XX := XXq
    clear XXq
    have HB := HBq
    clear HBq
    have HW := HWq
    clear HWq
    have OY := OYq
    clear OYq
    have c0 : w11.cell? ⟨w.heap.size + 1, 0, none⟩ = some (.int .i64 (p1 : Nat)) := XX.out.cell 0
    have c1 : w11.cell? ⟨w.heap.size + 1, 1, none⟩ = some (.int .i64 2) := XX.out.cell 1
    have c2 : w11.cell? ⟨w.heap.size + 1, 2, none⟩ = some (.int .i64 (p2 : Nat)) := XX.out.cell 2
    have c3 : w11.cell? ⟨w.heap.size + 1, 3, none⟩ = some (.int .i64 0) := XX.out.cell 3
    have c4 : w11.cell? ⟨w.heap.size + 1, 4, none⟩ = some (.int .u64 0) := XX.out.cell 4
    have c5 : w11.cell? ⟨w.heap.size + 1, 5, none⟩ = some (.bool true) := XX.out.cell 5
    go_wp2_with fail
    clear c0 c1 c2 c3 c4 c5
    refine (same10_any C ⟨(p1 : Nat), 2, (p2 : Nat), 0, 0, true⟩ HXO.out _).mono ?_
    rintro e w12 ⟨rfl, hb⟩
    have B1 := Lib.hid hb
    clear hb
    have XAq := Lib.hid (XA.out.below B1.out XA.out.lt)
    have XXq := Lib.hid (XX.out.below B1.out XX.out.lt)
    have HBq := Lib.hid (HB.out.below B1.out)
    have HWq := Lib.hid (HW.out.trans (B1.out.mono HW.out.size))
    have OYq := Lib.hid (own_later OY.out B1.out)
    clear XA XX HB HW B1 OY
    have XA := XAq
    clear XAq
    have XX := XXq
    clear XXq
    have HB := HBq
    clear HBq
    have HW := HWq
    clear HWq
    have OY := OYq
    clear OYq
    go_wp2_with fail
    refine (read_16 R hM _ XY y cy (own_rd16 OY.out HLY.out) HCY.out HLY.out).mono ?_
    rintro e w13 ⟨rfl, B1⟩
    have XAq := Lib.hid (XA.out.below B1.out XA.out.lt)
    have XXq := Lib.hid (XX.out.below B1.out XX.out.lt)
    have HBq := Lib.hid (HB.out.below B1.out)
    have HWq := Lib.hid (HW.out.trans (B1.out.mono HW.out.size))
    have OYq := Lib.hid (own_later OY.out B1.out)
    clear XA XX HB HW B1 OY
    have XA := XAq
    clear XAq
    have XX := XXq
    clear XXq
    have HB := HBq
    clear HBq
    have HW := HWq
    clear HWq
    have OY := OYq
    clear OYq
    go_wp2_with fail
    refine (cut_to AB bs cb 30 _ HB.out HCB.out (by omega) HLB.out).mono ?_
    rintro e wz ⟨bb, rfl, hz, hb30, hbc, RB⟩
    obtain rfl := hz.symm
    clear hz
    go_wp2_with fail
    refine (read_any R hM _ AB bb cb RB.out hbc (by omega)).mono ?_
    rintro e w14 ⟨rfl, hb⟩
    have B1 := Lib.hid hb
    clear hb RB
    have XAq := Lib.hid (XA.out.below B1.out XA.out.lt)
    have XXq := Lib.hid (XX.out.below B1.out XX.out.lt)
    have HBq := Lib.hid (HB.out.below B1.out)
    have HWq := Lib.hid (HW.out.trans (B1.out.mono HW.out.size))
    have OYq := Lib.hid (own_later OY.out B1.out)
    clear XA XX HB HW B1 OY
    have XA := XAq
    clear XAq
    have XX := XXq
    clear XXq
    have HB := HBq
    clear HBq
    have HW := HWq
    clear HWq
    have OY := OYq
    clear OYq
    obtain ⟨gy, hgy⟩ := own_addr OY.out (by decide)
    subst hgy
    have cx := own_byte OY.out qa (by omega)
    have fx := own_frozen OY.out qa
    obtain ⟨xb, hxb⟩ : ∃ z : Nat, z = (y.getD qa 0).toNat := ⟨_, rfl⟩
    have lb : xb < 256 := by rw [hxb]; exact (y.getD qa 0).toNat_lt
    obtain ⟨z, hz⟩ : ∃ z : Nat, z = xb ^^^ tu.toNat := ⟨_, rfl⟩
    have hx1 := No.bits_xor_u8 xb tu.toNat lb tu.toNat_lt
    rw [← hxb] at cx
    rw [← hz] at hx1
    have OZ : Hid ((w14.setCell ⟨gy, qa, none⟩ (.int .u8 ((z : Nat) : Int))).ownsRow w.heap.size 5 1 (.slice (some ⟨gy, 0, none⟩) 16 cy) 16 (Lib.byteCells (y.set qa (y.getD qa 0 ^^^ tu)))) := own_set OY.out qa (by omega) (y.getD qa 0 ^^^ tu) ((z : Nat) : Int) (by rw [UInt8.toNat_xor, ← hxb, hz])
    have HGY : Hid (w.heap.size ≤ gy) := (own_lt OY.out rfl).1
    have HWZ : Hid (Below w.heap.size w (w14.setCell ⟨gy, qa, none⟩ (.int .u8 ((z : Nat) : Int)))) := below_set1 HW.out HGY.out _ _
    have HLZ : Hid ((y.set qa (y.getD qa 0 ^^^ tu)).length = 16) := by show _ = _; rw [List.length_set]; exact HLY.out
    have HRZ : Hid (Rd (w14.setCell ⟨gy, qa, none⟩ (.int .u8 ((z : Nat) : Int))) (some ⟨gy, 0, none⟩) (y.set qa (y.getD qa 0 ^^^ tu))) := own_rd16 OZ.out HLZ.out
    clear hxb hz lb OZ HGY OY XA XX HB HW HY HOK HXO
    have b4 : (0 : Int) ≤ (qa : Int) := by omega
    have b5 : (qa : Int) < 16 := by omega
    go_wp2_with fail
    refine (within_st at_ 15 _ (by decide) ba.out QA.out).mono ?_
    rintro e wz ⟨rfl, hz⟩
    obtain rfl := hz.symm
    clear hz
    go_wp2_with fail
    refine (read_16 R hM _ _ _ cy HRZ.out HCY.out HLZ.out).mono ?_
    rintro e w15 ⟨rfl, B1⟩
    have HW5 := Lib.hid (HWZ.out.trans (B1.out.mono HWZ.out.size))
    clear B1 HWZ HRZ HLZ
    go_wp2_with fail
    refine (known10_any C _).mono ?_
    rintro e w16 ⟨rfl, hb⟩
    have HF := Lib.hid (HW5.out.trans (hb.mono HW5.out.size))
    clear hb
    go_wp2_with fail
    go_ret
    exact ⟨rfl, HF.out⟩
theorem tells_int (C : WSaid) (R : RSaid codecFns) (hM : RMake R) (n : Nd) (hok : n.Ok) (w : World) (bs : List UInt8) (AB : Option Addr) (cb : Nat) (hrb : Rd w AB bs) (hcb : bs.length ≤ cb) (hlb : bs.length ≤ 9223372036854775807) (at_ : Int) (ha0 : -9223372036854775808 ≤ at_) (ha1 : at_ ≤ 9223372036854775807) (tu : Int) (htu : 0 ≤ tu ∧ tu ≤ 255) :
    Calls Try.prog 4 #[n.val, .slice AB bs.length cb, .int .i64 at_, .int .u8 tu] w fun e w' => e = .returned (.bool true) ∧ Below w.heap.size w w' := by
  obtain ⟨t, rfl⟩ : ∃ t : UInt8, tu = ((t.toNat : Nat) : Int) := ⟨UInt8.ofNat tu.toNat, by rw [UInt8.toNat_ofNat']; omega⟩
  exact tells_any C R hM n hok w bs AB cb hrb hcb hlb at_ ha0 ha1 t
end Go.Proofs.Ytopcipaaffpiaaa

/-
  OWN WORK. Law 11's TreeSeals, walked: closed, a file is never appended to, sealed again or dropped; it may be kept longer, never shorter.
-/
import Derived.Test.YtombmeppdhhjhaaSTrOneFile
namespace Go.Proofs.Ytombmeppdhhjhaa
open Go.RowKit Rc
open Tr (Nm En T)
namespace Tm
set_option maxHeartbeats 4000000 in
set_option maxRecDepth 100000 in
theorem seals_any (w : World) (A : Option Addr) (l : Bs) (cap : Nat) (u lo sh : Nat) (hr : Rd w A l) (hc : l.length ≤ cap) (hl : l.length ≤ 9223372036854775807) (hu : u ≤ 18446744073709551615) (hlo : lo ≤ 18446744073709551615) (hsh : sh ≤ 18446744073709551615) :
    Calls Try.prog 5 #[.slice A l.length cap, .int .u64 (u : Nat), .int .u64 (lo : Nat), .int .u64 (sh : Nat)] w fun e w' => e = .returned (.bool true) ∧ Below w.heap.size w w' := by
  have HNEW := Lib.hid (o_new w)
  have HR := Lib.hid hr
  have HC := Lib.hid hc
  have HL := Lib.hid hl
  obtain ⟨un, hun⟩ : ∃ un, un = u % 1000 := ⟨_, rfl⟩
  have hun1 : un < 1000 := by omega
  have e1 : (u : Int) % 1000 = (un : Int) := by omega
  obtain ⟨ln, hln⟩ : ∃ ln, ln = lo % 1000 := ⟨_, rfl⟩
  have hln1 : ln < 1000 := by omega
  have e2 : (lo : Int) % 1000 = (ln : Int) := by omega
  clear hr hc hl hun hln
  go_enter Try.func5, Try.ntmps5
  go_wp2_with fail
  refine HNEW.out.mono ?_
  rintro e w1 ⟨p, B1, rfl, h1⟩
  have HO := Lib.hid h1
  clear h1
  go_wp2_with fail
  refine (make_lit HO.out Tr.new_good [[102]] 1 s1_make (by decide) (by decide)).mono ?_
  intro e w2 ht
  obtain ⟨rfl, B2, H2⟩ := ht.one
  clear ht HO
  go_wp2_with fail
  refine (cut_all A l cap 200 w2 HC.out (by omega) HL.out).mono ?_
  rintro e _ ⟨x, rfl, rfl, hx200, hxc, HX⟩
  have HRX : Hid (∀ W, Below w.heap.size w W → Rd W A x) := fun W hW => HX.out W (HR.out.below hW)
  clear HX
  go_wp2_with fail
  refine (Turn1.to (t' := S1 x 0 false) (o_append H2.out s1_good0 1 A x cap (HRX.out _ H2.out.low) (by omega)) (s1_append [] x (by simp; omega)) rfl).mono ?_
  intro e w3 ht
  obtain ⟨rfl, B3, H3⟩ := ht.one
  have HGD : Hid (Tr.Good (S1 x 0 false)) := s1_good x (by omega)
  clear ht H2
  go_wp2_with fail
  refine (Turn1.to (o_keep H3.out HGD.out 1 un (by omega)) (s1_keep0 x un) rfl).mono ?_
  intro e w4 ht
  obtain ⟨rfl, B4, H4⟩ := ht.one
  clear ht H3
  go_wp2_with fail
  refine (Turn1.to (o_seal H4.out HGD.out 1 un (by omega)) (s1_seal x un (by omega)) rfl).mono ?_
  intro e w5 ht
  obtain ⟨rfl, B5, H5⟩ := ht.one
  have HG1 : Hid (∀ k, k ≤ 1099511627776 → Tr.Good (S1 x k true)) := fun k hk => s1_good1 x k (by omega) hk
  clear ht H4 HGD
  go_wp2_with fail
  have H5a := Lib.hid (H5.out.later (below_new w5 (.cells #[.int .u8 1] 5)))
  have hr1 : Rd (w5.alloc (.cells #[.int .u8 1] 5)) (some ⟨w5.heap.size, 0, none⟩) [1] := rd_one w5 1 5
  refine (Turn1.to (o_append H5a.out (HG1.out un (by omega)) 1 (some ⟨w5.heap.size, 0, none⟩) [1] 1 hr1 (by decide)) (s1_append1 x [1] un) rfl).mono ?_
  intro e w6 ht
  obtain ⟨rfl, B6, H6⟩ := ht.one
  clear ht H5 H5a hr1
  obtain ⟨u1, hu1⟩ : ∃ u1, u1 = un + 1 := ⟨_, rfl⟩
  have e3 : IntKind.u64.wrap ((un : Int) + 1) = (u1 : Int) := by simp [IntKind.wrap, IntKind.bits, IntKind.signed]; omega
  have hu2 : u1 ≤ 1000 := by omega
  clear hu1
  go_wp2_with fail
  refine (Turn1.to (o_seal H6.out (HG1.out un (by omega)) 1 u1 (by omega)) (s1_seal1 x un u1) rfl).mono ?_
  intro e w7 ht
  obtain ⟨rfl, B7, H7⟩ := ht.one
  clear ht H6
  go_wp2_with fail
  refine (Turn1.to (o_drop H7.out (HG1.out un (by omega)) 1) (s1_drop1 x un) rfl).mono ?_
  intro e w8 ht
  obtain ⟨rfl, B8, H8⟩ := ht.one
  clear ht H7
  obtain ⟨mo, hmo⟩ : ∃ mo, mo = un + ln := ⟨_, rfl⟩
  have e4 : IntKind.u64.wrap ((un : Int) + (ln : Int)) = (mo : Int) := by simp [IntKind.wrap, IntKind.bits, IntKind.signed]; omega
  have hmo1 : un ≤ mo ∧ mo ≤ 2000 := by omega
  clear hmo
  go_wp2_with fail
  refine (Turn1.to (o_keep H8.out (HG1.out un (by omega)) 1 mo (by omega)) (s1_keep x un mo (by omega) (by omega)) rfl).mono ?_
  intro e w9 ht
  obtain ⟨rfl, B9, H9⟩ := ht.one
  clear ht H8
  by_cases hm0 : mo = 0
  · have hmp : ¬ (0 : Int) < (mo : Int) := by omega
    clear hm0
    go_wp2_with fail
    refine (Turn1.to (o_keep H9.out (HG1.out mo (by omega)) 1 1099511627777 (by omega)) (s1_keep_much x mo 1099511627777 (by omega) (by omega)) rfl).mono ?_
    intro e w10 ht
    obtain ⟨rfl, B10, H10⟩ := ht.one
    clear ht H9
    have HND := Lib.hid (o_node H10.out (HG1.out mo (by omega)) 1)
    rw [s1_node] at HND
    unfold Nd.val at HND
    go_wp2_with fail
    refine HND.out.mono ?_
    rintro e w11 ⟨rfl, hb11⟩
    have H11 := Lib.hid (H10.out.later hb11)
    clear hb11 H10 HND
    go_wp2_with fail
    have H12 := Lib.hid (H11.out.later (below_new w11 (.cells #[.int .i64 1, .int .i64 1, .int .i64 1, .int .i64 (x.length : Nat), .int .u64 (mo : Nat), .bool true] 38)))
    have hb12 := below_new w11 (.cells #[.int .i64 1, .int .i64 1, .int .i64 1, .int .i64 (x.length : Nat), .int .u64 (mo : Nat), .bool true] 38)
    have HBK : Hid (Blk (w11.alloc (.cells #[.int .i64 1, .int .i64 1, .int .i64 1, .int .i64 (x.length : Nat), .int .u64 (mo : Nat), .bool true] 38)) w11.heap.size 38 [.int .i64 1, .int .i64 1, .int .i64 1, .int .i64 (x.length : Nat), .int .u64 (mo : Nat), .bool true]) := Blk.new w11 _ _
    have hrd := o_read H12.out (HG1.out mo (by omega)) 1 0 4096 (by omega) (by omega)
    have hrv : Tr.read (S1 x mo true) 1 0 4096 = (x, 0) := by
      have := s1_read x mo true 0 4096
      rw [List.drop_zero, List.take_of_length_le (by omega)] at this
      exact this
    rw [hrv] at hrd
    have HRD := Lib.hid hrd
    clear hrd hrv hb12
    refine HRD.out.mono ?_
    rintro e w12 ⟨y, rfl, hf, hb13⟩
    obtain ⟨Y, c, rfl, hyc, hry, _⟩ := hf.form
    have H13 := Lib.hid (H12.out.later hb13)
    have hbk := HBK.out.below hb13 HBK.out.lt
    have d3 : w12.cell? ⟨w11.heap.size, 3, none⟩ = some (.int .i64 (x.length : Nat)) := hbk.cell 3
    have d4 : w12.cell? ⟨w11.heap.size, 4, none⟩ = some (.int .u64 (mo : Nat)) := hbk.cell 4
    have d5 : w12.cell? ⟨w11.heap.size, 5, none⟩ = some (.bool true) := hbk.cell 5
    have st1 := Ob.str_run w12 Y x c hry
    have st2 := Ob.str_run w12 A x cap (HRX.out w12 H13.out.low)
    have HKN := Lib.hid (known_any w12)
    have seq : ((strOf x).toList == (strOf x).toList) = true := by simp
    clear hf hb13 hry hbk H11 H12 HBK HRD
    go_wp2_with fail
    refine HKN.out.mono ?_
    rintro e w13 ⟨rfl, hb14⟩
    have H14 := Lib.hid (H13.out.later hb14)
    clear hb14
    go_wp2_with fail
    go_ret
    exact ⟨rfl, H14.out.low⟩
  · obtain ⟨sn, hsn⟩ : ∃ sn, sn = sh % mo := ⟨_, rfl⟩
    have e5 : (sh : Int) % (mo : Int) = (sn : Int) := by rw [hsn]; rfl
    have hsl : sn < mo := by rw [hsn]; exact Nat.mod_lt _ (by omega)
    have hmp : (0 : Int) < (mo : Int) := by omega
    have hmz : ¬ ((mo : Int) = 0) := by omega
    clear hsn
    go_wp2_with fail
    refine (Turn1.to (o_keep H9.out (HG1.out mo (by omega)) 1 sn (by omega)) (s1_keep_less x mo sn hsl) rfl).mono ?_
    intro e w9a ht
    obtain ⟨rfl, B9a, H9a⟩ := ht.one
    clear ht H9
    go_wp2_with fail
    refine (Turn1.to (o_keep H9a.out (HG1.out mo (by omega)) 1 1099511627777 (by omega)) (s1_keep_much x mo 1099511627777 (by omega) (by omega)) rfl).mono ?_
    intro e w10 ht
    obtain ⟨rfl, B10, H10⟩ := ht.one
    clear ht H9a
    have HND := Lib.hid (o_node H10.out (HG1.out mo (by omega)) 1)
    rw [s1_node] at HND
    unfold Nd.val at HND
    go_wp2_with fail
    refine HND.out.mono ?_
    rintro e w11 ⟨rfl, hb11⟩
    have H11 := Lib.hid (H10.out.later hb11)
    clear hb11 H10 HND
    go_wp2_with fail
    have H12 := Lib.hid (H11.out.later (below_new w11 (.cells #[.int .i64 1, .int .i64 1, .int .i64 1, .int .i64 (x.length : Nat), .int .u64 (mo : Nat), .bool true] 38)))
    have hb12 := below_new w11 (.cells #[.int .i64 1, .int .i64 1, .int .i64 1, .int .i64 (x.length : Nat), .int .u64 (mo : Nat), .bool true] 38)
    have HBK : Hid (Blk (w11.alloc (.cells #[.int .i64 1, .int .i64 1, .int .i64 1, .int .i64 (x.length : Nat), .int .u64 (mo : Nat), .bool true] 38)) w11.heap.size 38 [.int .i64 1, .int .i64 1, .int .i64 1, .int .i64 (x.length : Nat), .int .u64 (mo : Nat), .bool true]) := Blk.new w11 _ _
    have hrd := o_read H12.out (HG1.out mo (by omega)) 1 0 4096 (by omega) (by omega)
    have hrv : Tr.read (S1 x mo true) 1 0 4096 = (x, 0) := by
      have := s1_read x mo true 0 4096
      rw [List.drop_zero, List.take_of_length_le (by omega)] at this
      exact this
    rw [hrv] at hrd
    have HRD := Lib.hid hrd
    clear hrd hrv hb12
    refine HRD.out.mono ?_
    rintro e w12 ⟨y, rfl, hf, hb13⟩
    obtain ⟨Y, c, rfl, hyc, hry, _⟩ := hf.form
    have H13 := Lib.hid (H12.out.later hb13)
    have hbk := HBK.out.below hb13 HBK.out.lt
    have d3 : w12.cell? ⟨w11.heap.size, 3, none⟩ = some (.int .i64 (x.length : Nat)) := hbk.cell 3
    have d4 : w12.cell? ⟨w11.heap.size, 4, none⟩ = some (.int .u64 (mo : Nat)) := hbk.cell 4
    have d5 : w12.cell? ⟨w11.heap.size, 5, none⟩ = some (.bool true) := hbk.cell 5
    have st1 := Ob.str_run w12 Y x c hry
    have st2 := Ob.str_run w12 A x cap (HRX.out w12 H13.out.low)
    have HKN := Lib.hid (known_any w12)
    have seq : ((strOf x).toList == (strOf x).toList) = true := by simp
    clear hf hb13 hry hbk H11 H12 HBK HRD
    go_wp2_with fail
    refine HKN.out.mono ?_
    rintro e w13 ⟨rfl, hb14⟩
    have H14 := Lib.hid (H13.out.later hb14)
    clear hb14
    go_wp2_with fail
    go_ret
    exact ⟨rfl, H14.out.low⟩
end Tm
theorem seals_top (w : World) (l : List UInt8) (A : Option Addr) (cap : Nat) (u lo sh : Int) (hr : Rd w A l) (hc : l.length ≤ cap) (hl : l.length ≤ 9223372036854775807) (hu : 0 ≤ u ∧ u ≤ 18446744073709551615) (hlo : 0 ≤ lo ∧ lo ≤ 18446744073709551615) (hsh : 0 ≤ sh ∧ sh ≤ 18446744073709551615) :
    Calls Try.prog 5 #[.slice A l.length cap, .int .u64 u, .int .u64 lo, .int .u64 sh] w fun e w' => e = .returned (.bool true) ∧ Below w.heap.size w w' := by
  obtain ⟨un, rfl⟩ : ∃ un : Nat, u = (un : Int) := ⟨u.toNat, by omega⟩
  obtain ⟨ln, rfl⟩ : ∃ ln : Nat, lo = (ln : Int) := ⟨lo.toNat, by omega⟩
  obtain ⟨sn, rfl⟩ : ∃ sn : Nat, sh = (sn : Int) := ⟨sh.toNat, by omega⟩
  exact Tm.seals_any w A l cap un ln sn hr hc hl (by omega) (by omega) (by omega)
end Go.Proofs.Ytombmeppdhhjhaa

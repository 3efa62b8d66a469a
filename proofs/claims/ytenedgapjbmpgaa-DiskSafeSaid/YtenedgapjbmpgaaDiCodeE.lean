/-
  OWN WORK. The program's disk: New and Of.
-/
import Derived.Test.YtenedgapjbmpgaaDiCodeD
namespace Go.Proofs.Ytenedgapjbmpgaa
open Go.RowKit Rc Di

def zs : Sec := ⟨noughts, noughts, false⟩
theorem zs_ok : zs.Ok := ⟨noughts_length, noughts_length, fun _ => rfl⟩
theorem Try.infoSec : (Try.prog.info? 58).map (fun i => (i.zero, i.size, i.bytes)) = some (some (.agg zs.cells.toArray), 257, 257) := by kernel_rfl
theorem made_secs (n : Nat) : (madeCells (Value.agg zs.cells.toArray).cells (n * 257)).toList = secs (List.replicate n zs) := by
  have hz : zs.cells.length = 257 := zs_ok.cells
  have hok : ∀ s ∈ List.replicate n zs, s.Ok := fun s hs => by rw [(List.mem_replicate.1 hs).2]; exact zs_ok
  have hl := secs_length hok
  rw [List.length_replicate] at hl
  apply List.ext_getElem
  · rw [hl]; simp [madeCells]
  · intro i h1 h2
    rw [hl] at h2
    have h3 : i / 257 < n := by omega
    have h4 : i % 257 < 257 := Nat.mod_lt _ (by omega)
    have e : (secs (List.replicate n zs))[i / 257 * 257 + i % 257]? = zs.cells[i % 257]? := by
      rw [secs_at hok (i / 257) (i % 257) (by rw [List.length_replicate]; exact h3) h4, List.getElem_replicate]
    rw [show i / 257 * 257 + i % 257 = i by omega, List.getElem?_eq_getElem (by omega), List.getElem?_eq_getElem (by omega)] at e
    rw [Option.some.inj e]
    simp [madeCells, Value.cells, hz]
    rw [List.getElem?_eq_getElem (by rw [hz]; exact h4)]
    rfl
set_option maxHeartbeats 2000000 in
set_option maxRecDepth 100000 in
theorem new_good (w : World) (n : Nat) (h1 : 64 ≤ n) (h2 : n ≤ 4096) :
    Calls Try.prog 9 #[.int .i64 (n : Nat)] w fun e w' => ∃ p q, e = .returned (.tuple #[.pointer (some ⟨p, 0, none⟩), .int .i64 0]) ∧ DIn p q (List.replicate n zs) 0 w' ∧ Below w.heap.size w w' ∧ w.heap.size ≤ p ∧ w.heap.size ≤ q := by
  obtain ⟨i0, hi, hz0, hz1, hz2⟩ := info_parts Try.infoSec
  have HI0 := Lib.hid hi
  have HZ0 := Lib.hid hz0
  have HZ1 := Lib.hid hz1
  have HZ2 := Lib.hid hz2
  clear hi hz0 hz1 hz2
  go_enter Try.func9, Try.ntmps9
  go_wp2_with (first
    | (at_make; refine wpList_make_full _ rfl _ _ 52 rfl w.heap.size 58 i0 (.agg zs.cells.toArray) 257 Try.underlying52 HI0.out HZ0.out HZ1.out .i64 .i64 _ _ n rfl rfl rfl rfl (by rw [HZ2.out]; omega) (by unfold maxLen; omega) (Nat.le_refl _) ?_; intro w0 hown0 hgrow0; have HOWN := Lib.hid hown0; have HGROW := Lib.hid hgrow0; clear hown0 hgrow0))
  have HROW : Hid (Blk w0 w.heap.size 58 (secs (List.replicate n zs)) ∧ Below w.heap.size w w0) := by
    refine ⟨?_, (Below.refl _ _).grown HGROW.out (Nat.le_refl _) (fun k hk => by cases hk)⟩
    have hown := HOWN.out
    rw [made_secs] at hown
    rcases hown.2 with ⟨h1, _⟩ | ⟨g, cap', cur, h1, h2, h3, h4, h5, h6, h7⟩
    · cases h1
    · injection h1 with h1 _ h8
      injection h1 with h1
      injection h1 with h1
      subst h1 h8
      rw [List.take_of_length_le (by rw [Array.length_toList]; omega)] at h7
      show w0.heap[w.heap.size]? = _
      rw [h3, ← h7]
  clear HOWN HGROW
  have HEND : Hid (DIn w0.heap.size w.heap.size (List.replicate n zs) 0 (w0.alloc (.cells #[.slice (some ⟨w.heap.size, 0, none⟩) n n, .int .i64 0] 54)) ∧ Below w.heap.size w (w0.alloc (.cells #[.slice (some ⟨w.heap.size, 0, none⟩) n n, .int .i64 0] 54))) := by
    have hlt := HROW.out.1.lt
    have hsz := HROW.out.2.size
    refine ⟨⟨?_, HROW.out.1.alloc _, by omega, fun s hs => by rw [(List.mem_replicate.1 hs).2]; exact zs_ok, by rw [List.length_replicate]; exact h1, by rw [List.length_replicate]; exact h2⟩, HROW.out.2.alloc hsz _⟩
    rw [List.length_replicate]
    exact Blk.new w0 _ _
  have HSZ : Hid (w.heap.size ≤ w0.heap.size) := HROW.out.2.size
  clear HROW
  go_ret2
  exact ⟨w0.heap.size, w.heap.size, rfl, HEND.out.1, HEND.out.2, HSZ.out, Nat.le_refl _⟩
set_option maxHeartbeats 1000000 in
set_option maxRecDepth 100000 in
theorem new_bad (w : World) (n : Int) (h0 : -9223372036854775808 ≤ n) (h1 : n ≤ 9223372036854775807) (h : ¬ (64 ≤ n ∧ n ≤ 4096)) :
    Calls Try.prog 9 #[.int .i64 n] w fun e w' => e = .returned (.tuple #[.pointer none, .int .i64 1]) ∧ w' = w := by
  go_enter Try.func9, Try.ntmps9
  by_cases b1 : n < 64
  · clear h
    go_wp2_with fail
    go_ret2
    exact ⟨rfl, rfl⟩
  · have b2 : 4096 < n := by omega
    clear h
    go_wp2_with fail
    go_ret2
    exact ⟨rfl, rfl⟩
theorem dk_new (n : Nat) : dk (List.replicate n zs) 0 = Dk.new n := by
  unfold dk Dk.new
  simp [zs]
/-! Of. -/
def chunk (l : List UInt8) (k : Nat) : List UInt8 := (l.drop (k * 128)).take 128
def both (x : List UInt8) : Sec := ⟨x, x, false⟩
def part (n : Nat) (l : List UInt8) (k : Nat) : List Sec := (List.range k).map (fun i => both (chunk l i)) ++ List.replicate (n - k) zs
theorem part_length (n : Nat) (l : List UInt8) (k : Nat) (h : k ≤ n) : (part n l k).length = n := by
  unfold part; rw [List.length_append, List.length_map, List.length_range, List.length_replicate]; omega
theorem part_at (n : Nat) (l : List UInt8) (k : Nat) (hk : k < n) (h : k < (part n l k).length) : (part n l k)[k] = zs := by
  have e : (part n l k)[k]? = some zs := by
    unfold part
    rw [List.getElem?_append_right (by rw [List.length_map, List.length_range]; exact Nat.le_refl _), List.length_map, List.length_range, Nat.sub_self, List.getElem?_replicate, if_pos (by omega)]
  rw [List.getElem?_eq_getElem h] at e
  exact Option.some.inj e
theorem part_step (n : Nat) (l : List UInt8) (k : Nat) (hk : k < n) : part n l (k + 1) = (part n l k).set k (both (chunk l k)) := by
  unfold part
  rw [List.set_append_right _ _ (by rw [List.length_map, List.length_range]; exact Nat.le_refl _), List.length_map, List.length_range, Nat.sub_self, show n - k = (n - (k + 1)) + 1 by omega, List.replicate_succ, List.set_cons_zero, List.range_succ, List.map_append]
  simp
theorem chunks_range : ∀ (n : Nat) (l : List UInt8), (List.range n).map (chunk l) = chunks n l
  | 0, _ => rfl
  | n + 1, l => by
    rw [List.range_succ_eq_map, List.map_cons, List.map_map]
    have ih := chunks_range n (l.drop 128)
    have e : (chunk l ∘ Nat.succ) = chunk (l.drop 128) := by
      funext i
      unfold chunk
      simp only [Function.comp, List.drop_drop]
      congr 2
      simp only [Nat.succ_eq_add_one]; omega
    rw [e, ih]
    simp [chunk, chunks]
theorem part_dk (n : Nat) (l : List UInt8) : dk (part n l n) 0 = Dk.of n l := by
  unfold dk Dk.of part
  rw [Nat.sub_self, ← chunks_range]
  simp only [List.replicate_zero, List.append_nil, List.map_map]
  congr 1
  rw [List.eq_replicate_iff]
  refine ⟨by simp, fun x hx => ?_⟩
  obtain ⟨i, _, rfl⟩ := List.mem_map.1 hx
  rfl
set_option maxHeartbeats 2000000 in
set_option maxRecDepth 100000 in
theorem of_good (w : World) (A : Option Addr) (l : List UInt8) (cap n : Nat) (hr : Rd w A l) (hc : l.length ≤ cap) (h1 : 64 ≤ n) (h2 : n ≤ 4096) (hl : l.length = 128 * n) :
    Calls Try.prog 10 #[.slice A l.length cap] w fun e w' => ∃ p q, e = .returned (.tuple #[.pointer (some ⟨p, 0, none⟩), .int .i64 0]) ∧ DIn p q (part n l n) 0 w' ∧ Below w.heap.size w w' ∧ w.heap.size ≤ p ∧ w.heap.size ≤ q := by
  have HR := Lib.hid hr
  have HC := Lib.hid hc
  have HL := Lib.hid hl
  have e1 : (l.length : Int) = n * 128 := by omega
  have e2 : ((n : Int) * 128) / 128 = n := by omega
  have e3 : ((n : Int) * 128) % 128 = 0 := by omega
  clear hr hc hl
  go_enter Try.func10, Try.ntmps10
  go_wp2_with fail
  refine (new_good w n h1 h2).mono ?_
  rintro e w1 ⟨p, q, rfl, hd, hb, hp, hq⟩
  have HSTART : Hid (DIn p q (part n l 0) 0 w1 ∧ Below w.heap.size w w1) := ⟨by simpa [part] using hd, hb⟩
  have HQ := Lib.hid hq
  have HP := Lib.hid hp
  have c0 := hd.c0
  rw [List.length_replicate] at c0
  clear hd hb hp hq
  have hall := arr_all
  go_wp2_with fail
  go_loopw [27] (fun t27 wr => ∃ k : Nat, k ≤ n ∧ t27 = .int .i64 (k : Nat) ∧ Hid (DIn p q (part n l k) 0 wr ∧ Below w.heap.size w wr)) (fun t27 _ => n - (intOf t27).toNat)
  case atStart => exact ⟨0, by omega, rfl, HSTART⟩
  case round =>
    clear HSTART c0
    obtain ⟨k, hk, rfl, HD⟩ := hrel
    have c0 := HD.out.1.c0
    rw [part_length n l k hk] at c0
    by_cases hlt : k < n
    · have hpl := part_length n l k hk
      have hkM : k < (part n l k).length := by rw [hpl]; exact hlt
      obtain ⟨hbl, hpre⟩ := HD.out.1.parts k hkM
      rw [part_at n l k hlt hkM] at hbl
      have hrw : Rd wr A l := HR.out.below (HD.out.2.mono (by omega))
      have hsz := HD.out.2.size
      have hsl := fun W => sl_l W A l.length cap (k * 128) (by rw [HL.out]; omega)
      rw [show ((k * 128 : Nat) : Int) = (k : Int) * 128 by omega] at hsl
      have hbD : Blk wr.drew q 58 (secs ((part n l k).take k) ++ (zs.cells ++ secs ((part n l k).drop (k + 1)))) := hbl
      have hdl : (l.drop (k * 128)).length = l.length - k * 128 := List.length_drop
      obtain ⟨w2, hcp, hb2, hk2⟩ := copy_in wr.drew q 58 (k * 257) 128 128 128 (cap - k * 128) (l.length - k * 128) _ hbD (l.drop (k * 128)) (cutA A (k * 128) cap) ((show Rd wr.drew A l from hrw).cut (k * 128) cap HC.out) hdl (Nat.min_eq_right (by rw [HL.out]; omega)).symm (by simp only [List.length_append, hpre, zs_ok.cells]; omega)
      have hx : chunk l k = (l.drop (k * 128)).take 128 := rfl
      rw [← hx] at hb2
      obtain ⟨x, hxe⟩ : ∃ x, x = chunk l k := ⟨_, rfl⟩
      have hxl : x.length = 128 := by rw [hxe]; unfold chunk; rw [List.length_take, hdl, HL.out]; omega
      rw [← hxe] at hb2
      have e4 : splice (secs ((part n l k).take k) ++ (zs.cells ++ secs ((part n l k).drop (k + 1)))) (k * 257) (Lib.byteCells x) = secs ((part n l k).take k) ++ ((⟨x, noughts, false⟩ : Sec).cells ++ secs ((part n l k).drop (k + 1))) := by
        exact (splice_mid (secs ((part n l k).take k)) zs.cells (secs ((part n l k).drop (k + 1))) (Lib.byteCells x) (k * 257) 0 hpre (by rw [Lib.byteCells_length, zs_ok.cells, hxl]; omega)).trans (by rw [show zs = (⟨noughts, noughts, false⟩ : Sec) from rfl, splice_now noughts noughts false x noughts_length hxl])
      rw [e4] at hb2
      have hc2 : (⟨x, noughts, false⟩ : Sec).cells.length = 257 := by
        unfold Sec.cells
        rw [List.length_append, List.length_append, Lib.byteCells_length, Lib.byteCells_length, hxl, noughts_length]; rfl
      have HRG : Hid (w2.rangeAt q (k * 257) (Lib.byteCells x)) := hb2.range _ _ fun j v hv => by
        have hj : j < 128 := by have := (List.getElem?_eq_some_iff.1 hv).1; rw [Lib.byteCells_length] at this; omega
        rw [← hpre, List.getElem?_append_right (by omega), Nat.add_sub_cancel_left, List.getElem?_append_left (by omega)]
        unfold Sec.cells
        rw [List.getElem?_append_left (by rw [Lib.byteCells_length, hxl]; exact hj)]
        exact hv
      have HT : Hid (w2.there q (k * 257 + 128) (Lib.byteCells x).toArray.size) := hb2.there _ _ (by
        simp only [List.size_toArray, Lib.byteCells_length, List.length_append, hpre, hc2]; omega)
      have HXL : Hid ((Lib.byteCells x).length = 128) := by show _ = _; rw [Lib.byteCells_length, hxl]
      have HONE : Hid ((Lib.byteCells x).toArray.all (·.oneCell') = true) := all_oneCell_toArray (bytes_one _)
      have hb3 := hb2.setCells_ (Lib.byteCells x) (k * 257 + 128) (by simp only [Lib.byteCells_length, List.length_append, hpre, hc2]; omega)
      have e5 : splice (secs ((part n l k).take k) ++ ((⟨x, noughts, false⟩ : Sec).cells ++ secs ((part n l k).drop (k + 1)))) (k * 257 + 128) (Lib.byteCells x) = secs ((part n l k).take k) ++ ((both x).cells ++ secs ((part n l k).drop (k + 1))) := by
        rw [splice_mid _ _ _ _ (k * 257) 128 hpre (by rw [Lib.byteCells_length, hc2]; omega), splice_safe x noughts false x hxl noughts_length (by omega), List.drop_of_length_le (by rw [noughts_length]; omega), List.append_nil]
        rfl
      rw [e5] at hb3
      have hk3 : Keeps wr (w2.setCells q (k * 257 + 128) (Lib.byteCells x)) q := (show Keeps wr w2 q from ⟨hk2.os, hk2.tape, hk2.output, hk2.size, hk2.block⟩).setCells _ _
      have HNEXT : Hid (DIn p q (part n l (k + 1)) 0 (w2.setCells q (k * 257 + 128) (Lib.byteCells x)) ∧ Below w.heap.size w (w2.setCells q (k * 257 + 128) (Lib.byteCells x))) := by
        refine ⟨?_, Keeps.below HD.out.2 hk3 HQ.out hsz⟩
        rw [part_step n l k hlt, ← hxe]
        exact HD.out.1.turn hkM (s := both x) ⟨hxl, hxl, fun _ => rfl⟩ hb3 hk3
      obtain ⟨w3, hw3⟩ : ∃ w3, w3 = w2.setCells q (k * 257 + 128) (Lib.byteCells x) := ⟨_, rfl⟩
      rw [← hw3] at HNEXT
      have HW3 := Lib.hid hw3
      have HCP := Lib.hid hcp
      clear hw3 hcp hk3 e5 hb3 hc2 e4 hb2 hk2 hx hxe hxl hdl hbD hsz hrw hbl hpre hkM hpl
      have hwrp : IntKind.i64.wrap ((k : Int) * 128) = (k : Int) * 128 := IntWalk.i64_in _ (by omega)
      go_upto_region 10 with (fail)
      go_still_tail 8, (by kernel_rfl)
      have hcp := HCP.out
      go_wp2_with (first
        | (refine wpList_load_mid rfl 56 (.tmp 48) rfl q (k * 257) rfl (Lib.byteCells x) _ HRG.out Try.underlying56 rfl (by rw [HXL.out]; exact Try.info_sector) ?_)
        | (refine wpList_store_mid rfl 56 (.tmp 51) (.tmp 49) rfl q (k * 257 + 128) (Lib.byteCells x).toArray rfl rfl HT.out (by rw [List.size_toArray, HXL.out]; exact Try.info_sector) HONE.out ?_; rw [show (Lib.byteCells x).toArray.toList = Lib.byteCells x from rfl, ← HW3.out]))
      go_roundw
      case rel => exact ⟨k + 1, by omega, by go_num, HNEXT⟩
      case measure => simp [intOf]; omega
    · obtain rfl : k = n := by omega
      go_wp2_with fail
      go_ret2
      exact ⟨p, q, rfl, HD.out.1, HD.out.2, HP.out, HQ.out⟩
set_option maxHeartbeats 1000000 in
set_option maxRecDepth 100000 in
theorem of_bad (w : World) (A : Option Addr) (l : List UInt8) (cap : Nat) (hl : l.length ≤ 10000000) (h : ∀ n, 64 ≤ n → n ≤ 4096 → l.length ≠ 128 * n) :
    Calls Try.prog 10 #[.slice A l.length cap] w fun e w' => e = .returned (.tuple #[.pointer none, .int .i64 1]) ∧ w' = w := by
  by_cases b1 : l.length % 128 = 0
  · obtain ⟨n, hn⟩ : ∃ n, l.length = 128 * n := ⟨l.length / 128, by omega⟩
    have hnb : ¬ (64 ≤ n ∧ n ≤ 4096) := fun h1 => h n h1.1 h1.2 hn
    have e1 : (l.length : Int) = n * 128 := by omega
    have e2 : ((n : Int) * 128) / 128 = n := by omega
    have e3 : ((n : Int) * 128) % 128 = 0 := by omega
    have hn2 : n ≤ 100000 := by omega
    have HNB := Lib.hid (new_bad w (n : Int) (by omega) (by omega) (by omega))
    clear h hnb hn b1
    go_enter Try.func10, Try.ntmps10
    go_wp2_with fail
    refine HNB.out.mono ?_
    rintro e w1 ⟨rfl, rfl⟩
    go_wp2_with fail
    go_ret2
    exact ⟨rfl, rfl⟩
  · obtain ⟨r, hr⟩ : ∃ r : Nat, r = l.length % 128 := ⟨_, rfl⟩
    have e3 : (l.length : Int) % 128 = (r : Int) := by omega
    have e4 : ¬ ((r : Int) = 0) := by omega
    clear h b1 hr
    go_enter Try.func10, Try.ntmps10
    go_wp2_with fail
    go_ret2
    exact ⟨rfl, rfl⟩
end Go.Proofs.Ytenedgapjbmpgaa

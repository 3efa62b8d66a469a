/-
  OWN WORK. Package crc's calls, walked: by half bytes.
-/
import Derived.Test.YtdopgnfggpdfoaaDoorCrSaid
import Derived.Test.YtdopgnfggpdfoaaDoorCrHalf
import Derived.Test.YtdopgnfggpdfoaaDoorCrLaid
namespace Go.Proofs.YtdopgnfggpdfoaaDoor
open Go.RowKit Cr

theorem not_bits (c : Nat) (hc : c < 4294967296) : bits .xor .u32 IntKind.u32.max (c : Int) = ((4294967295 - c : Nat) : Int) := by
  have h := bits_xor_nat ones c (by decide) hc
  have e : IntKind.u32.max = ((ones : Nat) : Int) := by decide
  rw [e, h, Nat.xor_comm, not_is c hc]
theorem xor32 {a b : Nat} (ha : a < 4294967296) (hb : b < 4294967296) : a ^^^ b < 4294967296 := Nat.xor_lt_two_pow (n := 32) ha hb
theorem unsigned : ¬ IntKind.u32.signed = true := by decide

set_option maxHeartbeats 1000000 in
set_option maxRecDepth 100000 in
theorem more_said : MoreSaid := by
  intro w c l A cap hc he hr hcap hl
  have HR : Hid (Rd w A l) := hr
  have HE : Hid (Env w) := he
  clear hr he
  have hs := unsigned
  have hnot := not_bits c hc
  obtain ⟨n, hn⟩ : ∃ n : Nat, n = 4294967295 - c := ⟨_, rfl⟩
  rw [← hn] at hnot
  have HN : Hid (n = c ^^^ ones) := by show _ = _; rw [not_is c hc, hn]
  clear hn
  go_enter Tryd.func9, Tryd.ntmps9
  go_wp2_with fail
  go_loop [0, 11] (fun t0 t11 => ∃ (k d : Nat), k ≤ l.length ∧ t11 = .int .i64 (k : Nat) ∧ t0 = .int .u32 (d : Nat) ∧ Hid (d = run n (l.take k))) (fun _ t11 => l.length - (intOf t11).toNat)
  case atStart => exact ⟨0, n, by omega, rfl, rfl, rfl⟩
  case round =>
    clear hnot
    obtain ⟨k, d, hk, rfl, rfl, HD⟩ := hrel
    have hd : d < 4294967296 := by rw [HD.out]; exact run_lt _ (by rw [HN.out]; exact Nat.xor_lt_two_pow hc ones_lt)
    by_cases hlt : k < l.length
    · obtain ⟨b, off, rfl, _, hcell⟩ := HR.out.at_ (by omega)
      have c0 := hcell k hlt
      obtain ⟨x, hx⟩ : ∃ x : Nat, x = (l.getD k 0).toNat := ⟨_, rfl⟩
      have hx8 : x < 256 := by rw [hx]; exact (l.getD k 0).toNat_lt
      rw [← hx] at c0
      have HX := Lib.hid hx
      clear hcell hx hs
      have hxor := bits_xor_nat d x hd (by omega)
      obtain ⟨f, hf⟩ : ∃ f : Nat, f = d ^^^ x := ⟨_, rfl⟩
      have hf32 : f < 4294967296 := by rw [hf]; exact xor32 hd (by omega)
      rw [← hf] at hxor
      have HF := Lib.hid hf
      clear hf
      -- the first half
      have hand := bits_and_15 f hf32
      obtain ⟨i, hi⟩ : ∃ i : Nat, i = f % 16 := ⟨_, rfl⟩
      have hi16 : i < 16 := by omega
      rw [← hi] at hand
      obtain ⟨e, he⟩ : ∃ e : Nat, e = f / 16 := ⟨_, rfl⟩
      have hd2 : ((f : Int) / 16) = (e : Int) := by omega
      have ct := HE.out i hi16
      rw [halves_stps i hi16] at ct
      obtain ⟨s, hsx⟩ : ∃ s : Nat, s = stps 4 i := ⟨_, rfl⟩
      have hs32 : s < 4294967296 := by rw [hsx]; exact stps_lt 4 (Nat.lt_trans hi16 (by decide))
      rw [← hsx] at ct
      have hx2 := bits_xor_nat e s (by omega) hs32
      obtain ⟨g, hg⟩ : ∃ g : Nat, g = e ^^^ s := ⟨_, rfl⟩
      have hg32 : g < 4294967296 := by rw [hg]; exact xor32 (by omega) hs32
      rw [← hg] at hx2
      have HG : Hid (g = stps 4 f) := by show _ = _; rw [stps_half f, hg, he, hsx, hi]
      -- the second half
      have hand' := bits_and_15 g hg32
      obtain ⟨i', hi'⟩ : ∃ i : Nat, i = g % 16 := ⟨_, rfl⟩
      have hi16' : i' < 16 := by omega
      rw [← hi'] at hand'
      obtain ⟨e', he'⟩ : ∃ e : Nat, e = g / 16 := ⟨_, rfl⟩
      have hd2' : ((g : Int) / 16) = (e' : Int) := by omega
      have ct' := HE.out i' hi16'
      rw [halves_stps i' hi16'] at ct'
      obtain ⟨s', hsx'⟩ : ∃ s : Nat, s = stps 4 i' := ⟨_, rfl⟩
      have hs32' : s' < 4294967296 := by rw [hsx']; exact stps_lt 4 (Nat.lt_trans hi16' (by decide))
      rw [← hsx'] at ct'
      have hx2' := bits_xor_nat e' s' (by omega) hs32'
      obtain ⟨g', hg'⟩ : ∃ g : Nat, g = e' ^^^ s' := ⟨_, rfl⟩
      rw [← hg'] at hx2'
      have HG' : Hid (g' = stps 4 g) := by show _ = _; rw [stps_half g, hg', he', hsx', hi']
      clear hg hg' hsx hsx' hi hi' he he'
      go_wp2_with fail
      go_round
      case rel => exact ⟨k + 1, g', by omega, by go_num, rfl, by show _ = _; rw [run_snoc _ _ _ hlt, ← HD.out, ← HX.out, byt_half, ← HF.out, HG'.out, HG.out]⟩
      case measure => simp [intOf]; omega
    · obtain rfl : k = l.length := by omega
      have hlast := not_bits d hd
      obtain ⟨m, hm⟩ : ∃ m : Nat, m = 4294967295 - d := ⟨_, rfl⟩
      rw [← hm] at hlast
      have HM : Hid (m = more c l) := by show _ = _; unfold more; rw [hm, ← not_is d hd, HD.out, List.take_length, HN.out]
      clear hm
      go_wp2_with fail
      go_ret
      exact ⟨by rw [← HM.out]; rfl, Below.refl _ _⟩

set_option maxHeartbeats 1000000 in
set_option maxRecDepth 100000 in
theorem sum_said : SumSaid := by
  intro w l A cap he hr hcap hl
  have HM := Lib.hid (more_said w 0 l A cap (by decide) he hr hcap hl)
  clear he hr
  go_enter Tryd.func7, Tryd.ntmps7
  go_wp2_with fail
  refine HM.out.mono ?_
  rintro e w' ⟨rfl, hb⟩
  rw [more_zero]
  have HB : Hid (Below w.heap.size w w') := hb
  clear hb HM
  go_wp2_with fail
  go_ret
  exact ⟨rfl, HB.out⟩
end Go.Proofs.YtdopgnfggpdfoaaDoor

/-
  OWN WORK. worm.Live and worm.Bound over a tree that is right.
-/
import Derived.Test.YtpblhdpnmnfieaaLWoSame
import Derived.Test.YtpblhdpnmnfieaaLWoNums
import Derived.Test.YtpblhdpnmnfieaaLTrObjA
namespace Go.Proofs.Ytpblhdpnmnfieaa
open Go.RowKit Rc
open Tr (Nm En T)
namespace Wo
/-- The IDs of all closed files that are not due. -/
def live (t : T) (now : Nat) : List Int := (t.filter fun e => kept e.nd now).map (·.nd.id)
theorem live_append (a b : T) (now : Nat) : live (a ++ b) now = live a now ++ live b now := by simp [live]
theorem live_one (e : En) (now : Nat) : live [e] now = if kept e.nd now then [e.nd.id] else [] := by
  unfold live
  cases h : kept e.nd now <;> simp [h]
theorem live_length (t : T) (now : Nat) : (live t now).length ≤ t.length := by
  unfold live; rw [List.length_map]; exact List.length_filter_le _ _
/-- How far the walk has come: all of A stand below i, all of B do not. -/
structure Part (t A B : T) (i : Int) : Prop where
  eq : t = A ++ B
  lo : ∀ e ∈ A, e.nd.id < i
  hi : ∀ e ∈ B, i ≤ e.nd.id
theorem Part.start {t : T} (hG : Tr.Good t) : Part t [] t 0 := ⟨rfl, fun e h => by simp at h, fun e h => (hG.each e h).nd.1⟩
theorem Part.next {t A B : T} {i : Int} (hG : Tr.Good t) (h : Part t A B i) (hB : B ≠ []) : i ≤ 65535 ∧
    ((∃ e B', B = e :: B' ∧ e.nd.id = i ∧ Tr.node t i = (e.nd, true) ∧ Part t (A ++ [e]) B' (i + 1)) ∨ ((Tr.node t i).2 = false ∧ Part t A B (i + 1))) := by
  cases B with
  | nil => exact absurd rfl hB
  | cons e B' =>
    have hm : e ∈ t := by rw [h.eq]; simp
    have h1 := h.hi e (.head _)
    have h2 := (hG.each e hm).nd.2.1
    have hr := hG.rise
    rw [h.eq] at hr
    have hr2 := (List.pairwise_append.1 hr).2.1
    refine ⟨by omega, ?_⟩
    by_cases hi : e.nd.id = i
    · refine .inl ⟨e, B', rfl, hi, ?_, ?_, ?_, ?_⟩
      · have hf : Tr.find t i = some e := by
          unfold Tr.find
          rw [h.eq, List.find?_append]
          rw [List.find?_eq_none.2 (fun a ha => by have := h.lo a ha; simp; omega)]
          simp [hi]
        unfold Tr.node Tr.ndOf
        rw [hf]; rfl
      · rw [h.eq]; simp
      · intro a ha
        rcases List.mem_append.1 ha with ha | ha
        · have := h.lo a ha; omega
        · simp at ha; subst ha; omega
      · intro b hb
        have := (List.pairwise_cons.1 hr2).1 b hb
        omega
    · refine .inr ⟨?_, h.eq, fun a ha => by have := h.lo a ha; omega, fun b hb => ?_⟩
      · have hf : Tr.find t i = none := by
          unfold Tr.find
          rw [h.eq, List.find?_eq_none]
          intro a ha
          rcases List.mem_append.1 ha with ha | ha
          · have := h.lo a ha; simp; omega
          · rcases List.mem_cons.1 ha with rfl | ha
            · simpa using hi
            · have := (List.pairwise_cons.1 hr2).1 a ha; simp; omega
        unfold Tr.node
        rw [hf]; rfl
      · rcases List.mem_cons.1 hb with rfl | hb
        · omega
        · have := (List.pairwise_cons.1 hr2).1 b hb; omega
theorem live_in {t : T} (hG : Tr.Good t) (now : Nat) : ∀ x ∈ live t now, -9223372036854775808 ≤ x ∧ x ≤ 9223372036854775807 := by
  intro x hx
  unfold live at hx
  obtain ⟨e, he, rfl⟩ := List.mem_map.1 hx
  have := (hG.each e (List.mem_filter.1 he).1).nd
  have h1 := this.1
  have h2 := this.2.1
  omega
/-- What Live answers. -/
def LiveAns (l : List Int) (w : World) (e : Ending) (w' : World) : Prop := ∃ A c, e = .returned (.slice A l.length c) ∧ l.length ≤ c ∧ Hid (RdI w' A l) ∧ Hid (Below w.heap.size w w')

set_option maxHeartbeats 4000000 in
set_option maxRecDepth 100000 in
theorem live_any {v : Value} {w0 w : World} {t : T} {B0 : Nat → Prop} (h : Tm.One1 v w0 t B0 w) (hG : Tr.Good t) (now : Nat) :
    Calls Try.prog 9 #[v, .int .u64 (now : Nat)] w (LiveAns (live t now) w) := by
  obtain ⟨p, _, _, _, rfl, _, _⟩ := h.parts
  have HO := Lib.hid h
  have HG := Lib.hid hG
  have HEND : Hid (∀ (x : Value) (W : World), IAt w.heap.size x (live t now) w W → LiveAns (live t now) w (.returned x) W) := by
    intro x W hI
    obtain ⟨A, c, rfl, hc, hr⟩ := hI.rdi (live_in hG now)
    exact ⟨A, c, rfl, hc, hr, hI.2.1⟩
  have HC := Lib.hid (Tm.o_count h)
  have HP0 := Lib.hid (Part.start hG)
  obtain ⟨N, hN⟩ : ∃ N, N = t.length := ⟨_, rfl⟩
  have hfew : N ≤ 64 := by rw [hN]; exact hG.few
  have HN := Lib.hid hN
  rw [← hN] at HC
  clear h hG hN
  go_enter Try.func9, Try.ntmps9
  go_wp2_with fail
  refine HC.out.mono ?_
  rintro e w1 ⟨rfl, hw1⟩
  obtain rfl := hw1.symm
  go_wp2_with fail
  go_loopw [5, 6, 7] (fun t5 t6 t7 wr => ∃ (A B : T) (i n : Nat), t6 = .int .i64 (i : Nat) ∧ t7 = .int .i64 (n : Nat) ∧ i ≤ 65536 ∧ n ≤ 64 ∧ Hid (n = B.length) ∧ Hid (Part t A B (i : Nat)) ∧ Hid (A.length ≤ 64) ∧ Hid (IAt w.heap.size t5 (live A now) w wr)) (fun _ t6 _ _ => 65536 - (intOf t6).toNat)
  case atStart => exact ⟨[], t, 0, N, rfl, rfl, by omega, hfew, HN.out, HP0.out, by show _ ≤ _; simp, IAt.nil w⟩
  case round =>
    obtain ⟨A, B, i, n, rfl, rfl, hi, hn, HNB, HPT, HAL, HI⟩ := hrel
    by_cases h0 : 0 < n
    · have hBn : B ≠ [] := by intro e2; have := HNB.out; rw [e2] at this; simp at this; omega
      obtain ⟨hi2, hways⟩ := HPT.out.next HG.out hBn
      have HOw := Lib.hid (HO.out.later HI.out.2.1)
      have HND := Lib.hid (Tm.o_node HOw.out HG.out (i : Nat))
      have hgt : (0 : Int) < (n : Int) := by omega
      have hi3 : i ≤ 65535 := by omega
      have ewi : IntKind.i64.wrap ((i : Int) + 1) = ((i + 1 : Nat) : Int) := by simp [IntKind.wrap, IntKind.bits, IntKind.signed]; omega
      have ewn : IntKind.i64.wrap ((n : Int) - 1) = ((n - 1 : Nat) : Int) := by simp [IntKind.wrap, IntKind.bits, IntKind.signed]; omega
      clear hi2 hBn
      rcases hways with ⟨eN, B', hBe, hid, hnode, hpart⟩ | ⟨hno, hpart⟩
      · rw [hnode] at HND
        have HK := Lib.hid (fun w => kept_any eN.nd now w)
        have HPN := Lib.hid hpart
        have HNB2 : Hid (n - 1 = B'.length) := by show _ = _; have := HNB.out; rw [hBe] at this; simp at this; omega
        have HAL2 : Hid ((A ++ [eN]).length ≤ 64) := by
          show _ ≤ _
          have h1 : t.length ≤ 64 := HG.out.few
          have h2 := hpart.eq
          rw [h2, List.length_append] at h1
          omega
        have HLV : Hid (live (A ++ [eN]) now = if kept eN.nd now then live A now ++ [(i : Int)] else live A now) := by
          show _ = _
          rw [live_append, live_one, hid]
          cases kept eN.nd now <;> simp
        have HLL : Hid ((live A now).length ≤ 64) := Nat.le_trans (live_length A now) HAL.out
        obtain ⟨l, hl⟩ : ∃ l, l = live A now := ⟨_, rfl⟩
        rw [← hl] at HI HLV HLL
        clear hl hBe hid hnode hpart HPT HNB HAL
        obtain ⟨⟨id, kind, links, size, till, shut⟩, dt, nms⟩ := eN
        obtain ⟨q, hq⟩ : ∃ q, q = kept ⟨id, kind, links, size, till, shut⟩ now := ⟨_, rfl⟩
        simp only at HND HK HLV
        rw [← hq] at HK HLV
        rw [as_] at HND HK
        clear hq
        go_wp2_with fail
        refine HND.out.mono ?_
        rintro e w2 ⟨rfl, hb2⟩
        have hb3 := below_new w2 (.cells #[.int .i64 id, .int .i64 kind, .int .i64 links, .int .i64 size, .int .u64 (till : Nat), .bool shut] 26)
        have hblk : Blk (w2.alloc (.cells #[.int .i64 id, .int .i64 kind, .int .i64 links, .int .i64 size, .int .u64 (till : Nat), .bool shut] 26)) w2.heap.size 26 (ndc id kind links size till shut) := Blk.new w2 _ _
        have HI3 := Lib.hid (HI.out.below (hb2.trans (hb3.mono hb2.size)))
        clear HND hb2 hb3 HI hblk HOw
        go_wp2_with fail
        refine (HK.out _).mono ?_
        rintro e w4 ⟨rfl, hb4⟩
        have HI4 := Lib.hid (HI3.out.below hb4)
        have hll := HLL.out
        clear HI3 hb4
        cases q with
        | true =>
          have hlv := HLV.out
          rw [if_pos rfl] at hlv
          have HL2 := Lib.hid hlv
          clear hlv HLV
          go_wp2_with (at_builtin; refine wpList_append_num rfl (.tmp 31) (.tmp 33) rfl (i : Int) rfl HI4.out w4.heap.size 3 rfl rfl rfl (by omega) ?_; intro v' w' HI5)
          go_roundw
          case rel =>
            refine ⟨_, B', i + 1, n - 1, by go_num, by go_num, by omega, by omega, HNB2, HPN, HAL2, ?_⟩
            show IAt _ _ _ _ _
            rw [HL2.out]
            exact HI5.out
          case measure => simp [intOf]; omega
        | false =>
          have hlv := HLV.out
          rw [if_neg (by simp)] at hlv
          have HL2 := Lib.hid hlv
          clear hlv HLV
          go_wp2_with fail
          go_roundw
          case rel =>
            refine ⟨_, B', i + 1, n - 1, by go_num, by go_num, by omega, by omega, HNB2, HPN, HAL2, ?_⟩
            show IAt _ _ _ _ _
            rw [HL2.out]
            exact HI4.out
          case measure => simp [intOf]; omega
      · have HPN := Lib.hid hpart
        clear hpart HPT
        obtain ⟨⟨⟨a1, a2, a3, a4, a5, a6⟩, ok⟩, hna⟩ : ∃ x, x = Tr.node t (i : Nat) := ⟨_, rfl⟩
        rw [← hna] at hno HND
        simp only at hno HND
        subst hno
        rw [as_] at HND
        clear hna
        go_wp2_with fail
        refine HND.out.mono ?_
        rintro e w2 ⟨rfl, hb2⟩
        have hb3 := below_new w2 (.cells #[.int .i64 a1, .int .i64 a2, .int .i64 a3, .int .i64 a4, .int .u64 (a5 : Nat), .bool a6] 26)
        have HI3 := Lib.hid (HI.out.below (hb2.trans (hb3.mono hb2.size)))
        clear HND hb2 hb3 HI HOw
        go_wp2_with fail
        go_roundw
        case rel => exact ⟨A, B, i + 1, n, by go_num, rfl, by omega, hn, HNB, HPN, HAL, HI3⟩
        case measure => simp [intOf]; omega
    · have hn0 : n = 0 := by omega
      subst hn0
      have hB : B = [] := List.eq_nil_of_length_eq_zero HNB.out.symm
      have hA : A = t := by have := HPT.out.eq; rw [hB, List.append_nil] at this; exact this.symm
      have hiA := HI.out
      rw [hA] at hiA
      have HL := Lib.hid (HEND.out _ _ hiA)
      clear hiA
      clear hA hB
      go_wp2_with fail
      go_ret
      exact HL.out

set_option maxHeartbeats 1000000 in
set_option maxRecDepth 100000 in
theorem bound_any {v : Value} {w0 w : World} {t : T} {B0 : Nat → Prop} (h : Tm.One1 v w0 t B0 w) (hG : Tr.Good t) (now : Nat) :
    Calls Try.prog 10 #[v, .int .u64 (now : Nat)] w fun e w' => e = .returned (.bool (decide (0 < (live t now).length))) ∧ Below w.heap.size w w' := by
  have HL := Lib.hid (live_any h hG now)
  obtain ⟨p, _, _, _, rfl, _, _⟩ := h.parts
  clear h hG
  obtain ⟨l, hl⟩ : ∃ l, l = live t now := ⟨_, rfl⟩
  rw [← hl] at HL ⊢
  clear hl
  go_enter Try.func10, Try.ntmps10
  go_wp2_with fail
  refine HL.out.mono ?_
  rintro e w1 ⟨A, c, rfl, hc, _, HB⟩
  obtain ⟨n, hn⟩ : ∃ n, n = l.length := ⟨_, rfl⟩
  have HN := Lib.hid hn
  rw [← hn] at hc ⊢
  clear hn
  go_wp2_with fail
  go_ret
  exact ⟨by rw [← HN.out]; simp, HB.out⟩
end Wo
end Go.Proofs.Ytpblhdpnmnfieaa

/-
  OWN WORK. fault.search: the walk.
-/
import Derived.Test.YtbidhljigeoooaaDoorFaSearchL
import Derived.Deep.Cut
namespace Go.Proofs.YtbidhljigeoooaaDoor
open Go.RowKit Go.Stop

set_option maxHeartbeats 16000000 in
set_option maxRecDepth 100000 in
theorem search_any (H : FuncId) (p : Value) (bf : Nat) (o0 o1 : Obj) (hf hb : Bool) (l : List (ByteArray × ByteArray)) (base : Base) (v : Value) (w : World) (hch : Chain w l base v) (hs : l.length ≤ 100) (hg : ErrT w) (hbf : w.heap[bf]? = some o0) (ha : Asks H p bf o0 o1 hf hb v l base) :
    Calls Tryd.prog 33 #[v, .func (Fn.func H) #[] #[p]] w fun e w' => e = .returned (.bool (answer hf hb l base)) ∧ Told bf o0 o1 (answer hf hb l base) w w' := by
  have hmf : ∀ (fn : Fn) (first cap : Array Value) (w : World), (Instr.makeFunc fn first cap).run Tryd.prog w = .ok (.func fn first cap) w := fun _ _ _ _ => rfl
  have hmm := @run_makeMap Tryd.prog
  obtain ⟨i0, hi, hz0, hz1, hz2⟩ := info_parts Tryd.infoStep
  have HI0 := Lib.hid hi
  have HZ0 := Lib.hid hz0
  have HZ1 := Lib.hid hz1
  have HZ2 := Lib.hid hz2
  have HG := Lib.hid hg
  have HA := Lib.hid ha
  have HBF := Lib.hid hbf
  have HBL : Hid (bf < w.heap.size) := (Array.getElem?_eq_some_iff.1 hbf).1
  have hent2 := fun args w => enter_code Tryd.func44 (by kernel_rfl) (by rfl) args w
  have HENT := Lib.hid hent2
  have HS0 : Hid (SAt hf hb l base v w l base v 0 1 []) := ⟨Nat.le_refl _, Nat.le_refl _, by omega, fun h => by rw [answer_ask hf hb l base h]; simp, fun _ => ⟨⟨by cases base <;> simp [Base.more], Nat.le_refl _⟩, hch, by simp, .inl rfl, fun _ _ => ⟨rfl, rfl, rfl⟩⟩, fun _ _ => rfl⟩
  have hsh := chain_shape hch
  clear hch hg ha hbf hi hz0 hz1 hz2 hent2
  obtain ⟨vv, hvv⟩ : ∃ vv, vv = v := ⟨_, rfl⟩
  have HVV := Lib.hid hvv
  clear hvv
  rcases hsh with rfl | ⟨tv, xv, rfl⟩
  all_goals
    have H0 : Hid (∀ v, v = vv → ∀ W0, W0 = (((w.alloc (.cells #[.func (Fn.func H) #[] #[p]] 78)).alloc (.cells #[v, .int .i64 1] 101)).alloc (.map #[] 0)).alloc (.map #[] 0) →
        Todo W0 (w.heap.size + 1) (.slice (some ⟨w.heap.size + 1, 0, none⟩) 1 1) v 1 1 ∧ SInv H p w W0 []) := fun v _ W0 hW => start_at H p w v W0 hW
    have H1 := H0.out _ HVV.out.symm _ rfl
    have HT0 := Lib.hid H1.1
    have HI1 := Lib.hid H1.2
    clear H0 H1
    go_enter Tryd.func33, Tryd.ntmps33
    go_wp2_with fail
    go_loopg [5, 8] (l.length + 3) (fun gk t5 t8 wr => ∃ (r : List (ByteArray × ByteArray)) (base' : Base) (x : Value) (n m : Nat) (ks : List Nat), t8 = .int .i64 n ∧ Hid (SAt hf hb l base vv w r base' x n m ks) ∧ Hid (Todo wr (w.heap.size + 1) t5 x ((n : Int) + 1) m) ∧ Hid (SInv H p w wr ks) ∧ Hid (gk + n = l.length + 3))
    case atStart => exact ⟨l, base, _, 0, 1, [], rfl, by rw [HVV.out]; exact HS0, HT0, HI1, by show _ = _; omega⟩
    case round =>
      clear HS0 HT0 HI1
      obtain ⟨r, base', x, n, m, ks, rfl, HSA, HT, HI, HGK⟩ := hrel
      obtain ⟨hm, hkn, hn2, hans, hone, hfst⟩ := HSA.out
      rcases Nat.eq_zero_or_pos m with hm0 | hm0
      · subst hm0
        obtain ⟨_, g, cap, rfl⟩ := HT.out
        have HANS : Hid (answer hf hb l base = false) := by
          show _ = _
          by_cases hl : l = []
          · exact (hans (.inl hl)).trans rfl
          · rcases Bool.eq_false_or_eq_true hf with h | h
            · exact absurd (hfst h hl) (by decide)
            · exact (hans (.inr h)).trans rfl
        clear hm hkn hn2 hans hone hfst
        go_wp2_with fail
        go_ret
        exact ⟨by rw [HANS.out]; rfl, by rw [HANS.out]; exact Told.miss HBF.out HI.out.1⟩
      · obtain rfl : m = 1 := by omega
        obtain ⟨hsum, hch, hks, hbase, hfirst⟩ := hone rfl
        obtain ⟨g, cap, rfl, hc0, hc1, hown, hcap1⟩ := HT.out.open1
        rcases r with _ | ⟨q, r'⟩
        · obtain rfl : x = base'.val := hch
          rcases base' with _ | c | b0
          · skip
            have hsum0 : n ≤ l.length + 1 := by have := hsum.1; simp [Base.more] at this; omega
            have JSA : Hid (SAt hf hb l base vv w [] .none .nilIface (n + 1) 0 ks) := ⟨by omega, by omega, by omega, fun h => (hans h).trans (by simp [Base.ask]), fun h => absurd h (by omega), fun h1 h2 => absurd (hfirst h1 h2).2.2.symm h2⟩
            have J1I : Hid (SInv H p w (wr.alloc (.cells #[.nilIface, .int .i64 ((n : Int) + 1)] 101)) ks) := HI.out.step (below_new1 wr _)
            have J1P : Hid ((wr.alloc (.cells #[.nilIface, .int .i64 ((n : Int) + 1)] 101)).heap[wr.heap.size]? = some (.cells #[.nilIface, .int .i64 ((n : Int) + 1)] 101 (0, 0)) ∧ wr.heap.size < (wr.alloc (.cells #[.nilIface, .int .i64 ((n : Int) + 1)] 101)).heap.size) := ⟨heap_alloc_new _ _, by rw [World.size_alloc]; omega⟩
            have J1O : Hid ((wr.alloc (.cells #[.nilIface, .int .i64 ((n : Int) + 1)] 101)).ownsRow (w.heap.size + 1) 101 2 (.slice (some ⟨g, 0, none⟩) 0 cap) 0 []) := own_step hown (below_new1 wr _)
            have J1T : Hid (Todo (wr.alloc (.cells #[.nilIface, .int .i64 ((n : Int) + 1)] 101)) (w.heap.size + 1) (.slice (some ⟨g, 0, none⟩) 0 cap) .nilIface (((n + 1 : Nat) : Int) + 1) 0) := ⟨J1O.out, _, _, rfl⟩
            have hc0' : wr.cell? ⟨g, 0, none⟩ = some .nilIface := hc0
            have hn3 : n ≤ 1000 := by omega
            have hcs := step_cells hc0' hc1
            clear hsum hks hbase hfirst hans hone hfst hown hm hkn hn2 hc0
            go_upto_region 6 with (fail)
            go_upto_region 8 with (fail)
            clear hcs hc0' hc1
            have hlt : ¬ (262144 : Int) < (n : Int) + 1 := by omega
            have hne : ¬ (n : Int) = 134217728 := by omega
            have hat0 := block_cell J1P.out.1 0 _ rfl
            have hat1 := block_cell J1P.out.1 1 _ rfl
            go_upto_region 10 with (fail)
            clear hlt hne hat1
            go_wp2_with fail
            refine (asFault_base .none _).mono ?_
            rintro e wz ⟨rfl, rfl⟩
            go_wp2_with fail
            go_roundg (l.length + 2 - n)
            case rel => exact ⟨[], .none, .nilIface, n + 1, 0, ks, by simp, JSA, J1T, J1I, by show _ = _; omega⟩
            case measure => have := HGK.out; omega
          · skip
            obtain rfl : base = .num c := by
              rcases hbase with h | ⟨_, h⟩
              · exact h.symm
              · cases h
            have hcond : l = [] ∨ hf = false := by
              by_cases h : l = []
              · exact .inl h
              · rcases Bool.eq_false_or_eq_true hf with h2 | h2
                · exact absurd (hfirst h2 h).2.2.symm h
                · exact .inr h2
            have hsum0 : n ≤ l.length := by have := hsum.1; simp [Base.more] at this; omega
            have hans1 : answer hf hb l (.num c) = hb := (hans hcond).trans (by simp [Base.ask])
            have HANS := Lib.hid hans1
            have HCOND := Lib.hid hcond
            have JSA : hb = false → Hid (SAt hf hb l (.num c) vv w [] .none .nilIface (n + 1) 1 ks) := fun hb0 => ⟨by omega, by omega, by omega, fun _ => by rw [hans1, hb0]; simp [Base.ask], fun _ => ⟨⟨by simp [Base.more]; omega, by simp⟩, rfl, hks, .inr ⟨rfl, rfl⟩, fun h1 h2 => absurd (hfirst h1 h2).2.2.symm h2⟩, fun _ _ => rfl⟩
            have J1I : Hid (SInv H p w (wr.alloc (.cells #[.iface 31 (.int .i64 c), .int .i64 ((n : Int) + 1)] 101)) ks) := HI.out.step (below_new1 wr _)
            have J1P : Hid ((wr.alloc (.cells #[.iface 31 (.int .i64 c), .int .i64 ((n : Int) + 1)] 101)).heap[wr.heap.size]? = some (.cells #[.iface 31 (.int .i64 c), .int .i64 ((n : Int) + 1)] 101 (0, 0)) ∧ wr.heap.size < (wr.alloc (.cells #[.iface 31 (.int .i64 c), .int .i64 ((n : Int) + 1)] 101)).heap.size) := ⟨heap_alloc_new _ _, by rw [World.size_alloc]; omega⟩
            have J1O : Hid ((wr.alloc (.cells #[.iface 31 (.int .i64 c), .int .i64 ((n : Int) + 1)] 101)).ownsRow (w.heap.size + 1) 101 2 (.slice (some ⟨g, 0, none⟩) 0 cap) 0 []) := own_step hown (below_new1 wr _)
            have hc0' : wr.cell? ⟨g, 0, none⟩ = some (.iface 31 (.int .i64 c)) := hc0
            have hn3 : n ≤ 1000 := by omega
            have hcs := step_cells hc0' hc1
            clear hsum hks hbase hfirst hans hone hfst hown hm hkn hn2 hcond hans1 hc0
            go_upto_region 6 with (fail)
            go_upto_region 8 with (fail)
            clear hcs hc0' hc1
            have hlt : ¬ (262144 : Int) < (n : Int) + 1 := by omega
            have hne : ¬ (n : Int) = 134217728 := by omega
            have hat0 := block_cell J1P.out.1 0 _ rfl
            have hat1 := block_cell J1P.out.1 1 _ rfl
            go_upto_region 10 with (fail)
            clear hlt hne hat1
            go_wp2_with fail
            refine (asFault_base (.num c) _).mono ?_
            rintro e wz ⟨rfl, rfl⟩
            go_wp2_with fail
            refine (holds_any 44 (.pointer (some ⟨w.heap.size, 0, none⟩)) (.pointer (some ⟨wr.heap.size, 0, none⟩)) hb (Told bf o0 o1 hb ((wr.alloc (.cells #[.iface 31 (.int .i64 c), .int .i64 ((n : Int) + 1)] 101)).alloc (.cells #[.bool false] 4))) (wr.alloc (.cells #[.iface 31 (.int .i64 c), .int .i64 ((n : Int) + 1)] 101)) HENT.out ?_).mono ?_
            · refine search1_any H p (.iface 31 (.int .i64 c)) w.heap.size wr.heap.size _ (fun _ w' => w'.heap[(wr.alloc (.cells #[.iface 31 (.int .i64 c), .int .i64 ((n : Int) + 1)] 101)).heap.size]? = some (.cells #[.bool false] 4 (0, 0)) ∧ Told bf o0 o1 hb ((wr.alloc (.cells #[.iface 31 (.int .i64 c), .int .i64 ((n : Int) + 1)] 101)).alloc (.cells #[.bool false] 4)) w') HA.out.ent (block_cell ((Below.heap_alloc _ _ _ (by have := J1I.out.2.2.2; omega)).trans J1I.out.2.2.1) 0 _ rfl) (block_cell ((Below.heap_alloc _ _ _ J1P.out.2).trans J1P.out.1) 0 _ rfl) ⟨_, _, rfl⟩ hb ?_
              refine (HA.out.base (by simp) HCOND.out _ ((HG.out.below J1I.out.1).below (below_new1 _ _)) ((Below.heap_alloc _ _ _ (Nat.lt_of_lt_of_le HBL.out J1I.out.1.size)).trans ((J1I.out.1.block bf HBL.out).trans HBF.out))).mono ?_
              rintro e w' ⟨rfl, hT⟩
              exact ⟨rfl, told_box (Nat.lt_of_lt_of_le HBL.out J1I.out.1.size) hT, hT⟩
            rintro e w3 ⟨rfl, hp⟩
            rcases Bool.eq_false_or_eq_true hb with h1 | h1
            · rw [h1] at hp ⊢
              have HT1 := Lib.hid (holds_hit J1I.out.1 HBL.out hp)
              have HANS := Lib.hid (HANS.out.trans h1)
              clear hp h1
              go_wp2_with fail
              go_ret
              exact ⟨by rw [HANS.out]; rfl, by rw [HANS.out]; exact HT1.out⟩
            · have JSA := JSA h1
              rw [h1] at hp ⊢
              clear h1
              have hb3 : Below (wr.alloc (.cells #[.iface 31 (.int .i64 c), .int .i64 ((n : Int) + 1)] 101)).heap.size (wr.alloc (.cells #[.iface 31 (.int .i64 c), .int .i64 ((n : Int) + 1)] 101)) w3 := holds_miss ((J1I.out.1.block bf HBL.out).trans HBF.out) hp
              have J3I : Hid (SInv H p w w3 ks) := J1I.out.step hb3
              have J3P : Hid (w3.heap[wr.heap.size]? = some (.cells #[.iface 31 (.int .i64 c), .int .i64 ((n : Int) + 1)] 101 (0, 0)) ∧ wr.heap.size < w3.heap.size) := ⟨(hb3.block _ J1P.out.2).trans J1P.out.1, Nat.lt_of_lt_of_le J1P.out.2 hb3.size⟩
              have J3O : Hid (w3.ownsRow (w.heap.size + 1) 101 2 (.slice (some ⟨g, 0, none⟩) 0 cap) 0 []) := own_step J1O.out hb3
              have hat3 := block_cell J3P.out.1 0 _ rfl
              clear hp hb3
              go_wp2_with fail
              refine (within_base (.num c) w3).mono ?_
              rintro e w4 ⟨rfl, hb4⟩
              have J4I : Hid (SInv H p w w4 ks) := J3I.out.step hb4
              have J4P : Hid (w4.heap[wr.heap.size]? = some (.cells #[.iface 31 (.int .i64 c), .int .i64 ((n : Int) + 1)] 101 (0, 0)) ∧ wr.heap.size < w4.heap.size) := ⟨(hb4.block _ J3P.out.2).trans J3P.out.1, Nat.lt_of_lt_of_le J3P.out.2 hb4.size⟩
              have J4O : Hid (w4.ownsRow (w.heap.size + 1) 101 2 (.slice (some ⟨g, 0, none⟩) 0 cap) 0 []) := own_step J3O.out hb4
              clear hb4 hat3
              have hat4 := block_cell J4P.out.1 1 _ rfl
              go_wp2_with (at_builtin; refine wpList_append_own _ rfl (.tmp 80) (.tmp 86) 102 rfl (w.heap.size + 1) 101 i0 (.agg #[.nilIface, .int .i64 0]) 2 24 Tryd.underlying102 HI0.out HZ0.out HZ1.out HZ2.out rfl (by decide) _ 0 [] rfl (J4O.out.kept (World.grownBy_alloc w4 _ none) (.inr (by simp [Value.ownBlock]))) ⟨w4.heap.size, 0, none⟩ 1 1 [.nilIface, .int .i64 ((n : Int) + 1 + 1)] rfl rfl (new_cells w4 [.nilIface, .int .i64 ((n : Int) + 1 + 1)] 101) (by simp [Value.oneCell']) (by unfold maxLen; omega) (by omega) (by rw [World.size_alloc]; have := J4I.out.2.2.2; omega) ?_; intro v5 w5 hown5 hgr5 _; obtain ⟨g5, cap5, rfl⟩ := ownsRow_succ hown5; have H5 := Lib.hid hown5; have G5 := Lib.hid hgr5; clear hown5 hgr5)
              have J5I : Hid (SInv H p w w5 ks) := (J4I.out.step (below_new1 w4 (.cells #[.nilIface, .int .i64 ((n : Int) + 1 + 1)] 101))).row (J4O.out.kept (World.grownBy_alloc w4 _ none) (.inr (by simp [Value.ownBlock]))) G5.out
              have J5T : Hid (Todo w5 (w.heap.size + 1) (.slice (some ⟨g5, 0, none⟩) (0 + 1) cap5) (.nilIface) (((n + 1 : Nat) : Int) + 1) 1) := ⟨by rw [show (((n + 1 : Nat) : Int) + 1) = (n : Int) + 1 + 1 by omega]; exact H5.out, _, _, rfl⟩
              clear hat4
              refine wp_loop_rounds 1 ?_
              rw [rounds_succ]
              go_wp2_with fail
              go_roundg (l.length + 2 - n)
              case rel => exact ⟨[], .none, .nilIface, n + 1, 1, ks, by simp, JSA, J5T, J5I, by show _ = _; omega⟩
              case measure => have := HGK.out; omega
          · skip
            obtain rfl : base = .other b0 := by
              rcases hbase with h | ⟨_, h⟩
              · exact h.symm
              · cases h
            have hcond : l = [] ∨ hf = false := by
              by_cases h : l = []
              · exact .inl h
              · rcases Bool.eq_false_or_eq_true hf with h2 | h2
                · exact absurd (hfirst h2 h).2.2.symm h
                · exact .inr h2
            have hsum0 : n ≤ l.length := by have := hsum.1; simp [Base.more] at this; omega
            have hans1 : answer hf hb l (.other b0) = hb := (hans hcond).trans (by simp [Base.ask])
            have HANS := Lib.hid hans1
            have HCOND := Lib.hid hcond
            have JSA : hb = false → Hid (SAt hf hb l (.other b0) vv w [] .none .nilIface (n + 1) 1 ks) := fun hb0 => ⟨by omega, by omega, by omega, fun _ => by rw [hans1, hb0]; simp [Base.ask], fun _ => ⟨⟨by simp [Base.more]; omega, by simp⟩, rfl, hks, .inr ⟨rfl, rfl⟩, fun h1 h2 => absurd (hfirst h1 h2).2.2.symm h2⟩, fun _ _ => rfl⟩
            have J1I : Hid (SInv H p w (wr.alloc (.cells #[.iface 53 (.pointer (some ⟨b0, 0, none⟩)), .int .i64 ((n : Int) + 1)] 101)) ks) := HI.out.step (below_new1 wr _)
            have J1P : Hid ((wr.alloc (.cells #[.iface 53 (.pointer (some ⟨b0, 0, none⟩)), .int .i64 ((n : Int) + 1)] 101)).heap[wr.heap.size]? = some (.cells #[.iface 53 (.pointer (some ⟨b0, 0, none⟩)), .int .i64 ((n : Int) + 1)] 101 (0, 0)) ∧ wr.heap.size < (wr.alloc (.cells #[.iface 53 (.pointer (some ⟨b0, 0, none⟩)), .int .i64 ((n : Int) + 1)] 101)).heap.size) := ⟨heap_alloc_new _ _, by rw [World.size_alloc]; omega⟩
            have J1O : Hid ((wr.alloc (.cells #[.iface 53 (.pointer (some ⟨b0, 0, none⟩)), .int .i64 ((n : Int) + 1)] 101)).ownsRow (w.heap.size + 1) 101 2 (.slice (some ⟨g, 0, none⟩) 0 cap) 0 []) := own_step hown (below_new1 wr _)
            have hc0' : wr.cell? ⟨g, 0, none⟩ = some (.iface 53 (.pointer (some ⟨b0, 0, none⟩))) := hc0
            have hn3 : n ≤ 1000 := by omega
            have hcs := step_cells hc0' hc1
            clear hsum hks hbase hfirst hans hone hfst hown hm hkn hn2 hcond hans1 hc0
            go_upto_region 6 with (fail)
            go_upto_region 8 with (fail)
            clear hcs hc0' hc1
            have hlt : ¬ (262144 : Int) < (n : Int) + 1 := by omega
            have hne : ¬ (n : Int) = 134217728 := by omega
            have hat0 := block_cell J1P.out.1 0 _ rfl
            have hat1 := block_cell J1P.out.1 1 _ rfl
            go_upto_region 10 with (fail)
            clear hlt hne hat1
            go_wp2_with fail
            refine (asFault_base (.other b0) _).mono ?_
            rintro e wz ⟨rfl, rfl⟩
            go_wp2_with fail
            refine (holds_any 44 (.pointer (some ⟨w.heap.size, 0, none⟩)) (.pointer (some ⟨wr.heap.size, 0, none⟩)) hb (Told bf o0 o1 hb ((wr.alloc (.cells #[.iface 53 (.pointer (some ⟨b0, 0, none⟩)), .int .i64 ((n : Int) + 1)] 101)).alloc (.cells #[.bool false] 4))) (wr.alloc (.cells #[.iface 53 (.pointer (some ⟨b0, 0, none⟩)), .int .i64 ((n : Int) + 1)] 101)) HENT.out ?_).mono ?_
            · refine search1_any H p (.iface 53 (.pointer (some ⟨b0, 0, none⟩))) w.heap.size wr.heap.size _ (fun _ w' => w'.heap[(wr.alloc (.cells #[.iface 53 (.pointer (some ⟨b0, 0, none⟩)), .int .i64 ((n : Int) + 1)] 101)).heap.size]? = some (.cells #[.bool false] 4 (0, 0)) ∧ Told bf o0 o1 hb ((wr.alloc (.cells #[.iface 53 (.pointer (some ⟨b0, 0, none⟩)), .int .i64 ((n : Int) + 1)] 101)).alloc (.cells #[.bool false] 4)) w') HA.out.ent (block_cell ((Below.heap_alloc _ _ _ (by have := J1I.out.2.2.2; omega)).trans J1I.out.2.2.1) 0 _ rfl) (block_cell ((Below.heap_alloc _ _ _ J1P.out.2).trans J1P.out.1) 0 _ rfl) ⟨_, _, rfl⟩ hb ?_
              refine (HA.out.base (by simp) HCOND.out _ ((HG.out.below J1I.out.1).below (below_new1 _ _)) ((Below.heap_alloc _ _ _ (Nat.lt_of_lt_of_le HBL.out J1I.out.1.size)).trans ((J1I.out.1.block bf HBL.out).trans HBF.out))).mono ?_
              rintro e w' ⟨rfl, hT⟩
              exact ⟨rfl, told_box (Nat.lt_of_lt_of_le HBL.out J1I.out.1.size) hT, hT⟩
            rintro e w3 ⟨rfl, hp⟩
            rcases Bool.eq_false_or_eq_true hb with h1 | h1
            · rw [h1] at hp ⊢
              have HT1 := Lib.hid (holds_hit J1I.out.1 HBL.out hp)
              have HANS := Lib.hid (HANS.out.trans h1)
              clear hp h1
              go_wp2_with fail
              go_ret
              exact ⟨by rw [HANS.out]; rfl, by rw [HANS.out]; exact HT1.out⟩
            · have JSA := JSA h1
              rw [h1] at hp ⊢
              clear h1
              have hb3 : Below (wr.alloc (.cells #[.iface 53 (.pointer (some ⟨b0, 0, none⟩)), .int .i64 ((n : Int) + 1)] 101)).heap.size (wr.alloc (.cells #[.iface 53 (.pointer (some ⟨b0, 0, none⟩)), .int .i64 ((n : Int) + 1)] 101)) w3 := holds_miss ((J1I.out.1.block bf HBL.out).trans HBF.out) hp
              have J3I : Hid (SInv H p w w3 ks) := J1I.out.step hb3
              have J3P : Hid (w3.heap[wr.heap.size]? = some (.cells #[.iface 53 (.pointer (some ⟨b0, 0, none⟩)), .int .i64 ((n : Int) + 1)] 101 (0, 0)) ∧ wr.heap.size < w3.heap.size) := ⟨(hb3.block _ J1P.out.2).trans J1P.out.1, Nat.lt_of_lt_of_le J1P.out.2 hb3.size⟩
              have J3O : Hid (w3.ownsRow (w.heap.size + 1) 101 2 (.slice (some ⟨g, 0, none⟩) 0 cap) 0 []) := own_step J1O.out hb3
              have hat3 := block_cell J3P.out.1 0 _ rfl
              clear hp hb3
              go_wp2_with fail
              refine (within_base (.other b0) w3).mono ?_
              rintro e w4 ⟨rfl, hb4⟩
              have J4I : Hid (SInv H p w w4 ks) := J3I.out.step hb4
              have J4P : Hid (w4.heap[wr.heap.size]? = some (.cells #[.iface 53 (.pointer (some ⟨b0, 0, none⟩)), .int .i64 ((n : Int) + 1)] 101 (0, 0)) ∧ wr.heap.size < w4.heap.size) := ⟨(hb4.block _ J3P.out.2).trans J3P.out.1, Nat.lt_of_lt_of_le J3P.out.2 hb4.size⟩
              have J4O : Hid (w4.ownsRow (w.heap.size + 1) 101 2 (.slice (some ⟨g, 0, none⟩) 0 cap) 0 []) := own_step J3O.out hb4
              clear hb4 hat3
              have hat4 := block_cell J4P.out.1 1 _ rfl
              go_wp2_with (at_builtin; refine wpList_append_own _ rfl (.tmp 80) (.tmp 86) 102 rfl (w.heap.size + 1) 101 i0 (.agg #[.nilIface, .int .i64 0]) 2 24 Tryd.underlying102 HI0.out HZ0.out HZ1.out HZ2.out rfl (by decide) _ 0 [] rfl (J4O.out.kept (World.grownBy_alloc w4 _ none) (.inr (by simp [Value.ownBlock]))) ⟨w4.heap.size, 0, none⟩ 1 1 [.nilIface, .int .i64 ((n : Int) + 1 + 1)] rfl rfl (new_cells w4 [.nilIface, .int .i64 ((n : Int) + 1 + 1)] 101) (by simp [Value.oneCell']) (by unfold maxLen; omega) (by omega) (by rw [World.size_alloc]; have := J4I.out.2.2.2; omega) ?_; intro v5 w5 hown5 hgr5 _; obtain ⟨g5, cap5, rfl⟩ := ownsRow_succ hown5; have H5 := Lib.hid hown5; have G5 := Lib.hid hgr5; clear hown5 hgr5)
              have J5I : Hid (SInv H p w w5 ks) := (J4I.out.step (below_new1 w4 (.cells #[.nilIface, .int .i64 ((n : Int) + 1 + 1)] 101))).row (J4O.out.kept (World.grownBy_alloc w4 _ none) (.inr (by simp [Value.ownBlock]))) G5.out
              have J5T : Hid (Todo w5 (w.heap.size + 1) (.slice (some ⟨g5, 0, none⟩) (0 + 1) cap5) (.nilIface) (((n + 1 : Nat) : Int) + 1) 1) := ⟨by rw [show (((n + 1 : Nat) : Int) + 1) = (n : Int) + 1 + 1 by omega]; exact H5.out, _, _, rfl⟩
              clear hat4
              refine wp_loop_rounds 1 ?_
              rw [rounds_succ]
              go_wp2_with fail
              go_roundg (l.length + 2 - n)
              case rel => exact ⟨[], .none, .nilIface, n + 1, 1, ks, by simp, JSA, J5T, J5I, by show _ = _; omega⟩
              case measure => have := HGK.out; omega
        · have hch0 := hch
          obtain ⟨b1, x', rfl, hbk, hr⟩ := hch
          have hl0 : l ≠ [] := by
            rintro rfl
            have := hsum.2
            simp at this
          have hvv1 : hf = true → vv = .iface 28 (.pointer (some ⟨b1, 0, none⟩)) := fun h => ((hfirst h hl0).2.1).symm
          have HFST := Lib.hid hvv1
          have HL0 : Hid (l ≠ []) := hl0
          have hsum0 : n + r'.length + base'.more ≤ l.length ∧ r'.length + 1 ≤ l.length := by have h1 := hsum.1; have h2 := hsum.2; simp at h1 h2; omega
          have J1I : Hid (SInv H p w (wr.alloc (.cells #[.iface 28 (.pointer (some ⟨b1, 0, none⟩)), .int .i64 ((n : Int) + 1)] 101)) ks) := HI.out.step (below_new1 wr _)
          have J1P : Hid ((wr.alloc (.cells #[.iface 28 (.pointer (some ⟨b1, 0, none⟩)), .int .i64 ((n : Int) + 1)] 101)).heap[wr.heap.size]? = some (.cells #[.iface 28 (.pointer (some ⟨b1, 0, none⟩)), .int .i64 ((n : Int) + 1)] 101 (0, 0)) ∧ wr.heap.size < (wr.alloc (.cells #[.iface 28 (.pointer (some ⟨b1, 0, none⟩)), .int .i64 ((n : Int) + 1)] 101)).heap.size) := ⟨heap_alloc_new _ _, by rw [World.size_alloc]; omega⟩
          have J1O : Hid ((wr.alloc (.cells #[.iface 28 (.pointer (some ⟨b1, 0, none⟩)), .int .i64 ((n : Int) + 1)] 101)).ownsRow (w.heap.size + 1) 101 2 (.slice (some ⟨g, 0, none⟩) 0 cap) 0 []) := own_step hown (below_new1 wr _)
          have hkb : w.heap[b1]? = some (.cells #[.string q.1, .string q.2, x'] 30 (0, 0)) := hbk
          have hfr : ∀ k ∈ ks, IsBlock (wr.alloc (.cells #[.iface 28 (.pointer (some ⟨b1, 0, none⟩)), .int .i64 ((n : Int) + 1)] 101)) k ∧ k ≠ b1 := by
            intro k hk
            obtain ⟨r2, b2, hlt2, hc2⟩ := hks k hk
            constructor
            · cases r2 with
              | nil => simp at hlt2
              | cons p2 r2 =>
                obtain ⟨b3, y3, e3, hb3, _⟩ := hc2
                simp only [Value.iface.injEq, Value.pointer.injEq, Option.some.injEq, Addr.mk.injEq, true_and, and_true] at e3
                subst e3
                exact ⟨_, (J1I.out.1.block k (lt_of_block hb3)).trans hb3⟩
            · rintro rfl
              have := chain_length hc2 hch0
              simp at this hlt2
              omega
          have HAG := Lib.hid (again_any (wr.alloc (.cells #[.iface 28 (.pointer (some ⟨b1, 0, none⟩)), .int .i64 ((n : Int) + 1)] 101)) (w.heap.size + 2) b1 ks J1I.out.2.1 ⟨_, (J1I.out.1.block b1 (lt_of_block hkb)).trans hkb⟩ hfr (by omega))
          have JSA : hf = false → Hid (SAt hf hb l base vv w r' base' x' (n + 1) 1 (ks ++ [b1])) := fun hf0 => ⟨by omega, by simp; omega, by omega, hans, fun _ => ⟨⟨by omega, by omega⟩, hr, fun k hk => by
              rcases List.mem_append.1 hk with hk | hk
              · obtain ⟨r2, b2, hlt2, hc2⟩ := hks k hk
                exact ⟨r2, b2, by simp at hlt2; omega, hc2⟩
              · obtain rfl := List.mem_singleton.1 hk
                exact ⟨q :: r', base', by simp, hch0⟩, hbase.imp id (fun h => by cases h.1), fun h1 _ => by rw [hf0] at h1; cases h1⟩, fun _ _ => rfl⟩
          have HKB := Lib.hid hkb
          have hc0' : wr.cell? ⟨g, 0, none⟩ = some (.iface 28 (.pointer (some ⟨b1, 0, none⟩))) := hc0
          have hn3 : n ≤ 1000 := by omega
          have hshx := chain_shape hr
          have hcs := step_cells hc0' hc1
          clear hsum hch0 hks hbase hfirst hans hone hfst hown hm hkn hn2 hl0 hvv1 hkb hbk hr hfr hc0
          go_upto_region 6 with (fail)
          go_upto_region 8 with (fail)
          clear hcs hc0' hc1
          have hlt : ¬ (262144 : Int) < (n : Int) + 1 := by omega
          have hne : ¬ (n : Int) = 134217728 := by omega
          have hat0 := block_cell J1P.out.1 0 _ rfl
          have hat1 := block_cell J1P.out.1 1 _ rfl
          go_upto_region 10 with (fail)
          clear hlt hne hat1
          go_wp2_with fail
          refine (asFault_some _ _).mono ?_
          rintro e wz ⟨rfl, rfl⟩
          go_wp2_with fail
          refine HAG.out.mono ?_
          rintro e w2 ⟨rfl, hset2, hgr2⟩
          have J2I : Hid (SInv H p w w2 (ks ++ [b1])) := J1I.out.again hgr2 hset2
          have J2P : Hid (w2.heap[wr.heap.size]? = some (.cells #[.iface 28 (.pointer (some ⟨b1, 0, none⟩)), .int .i64 ((n : Int) + 1)] 101 (0, 0)) ∧ wr.heap.size < w2.heap.size) := ⟨(hgr2.block _ J1P.out.2 (fun e => by injection e with e; have := HI.out.2.2.2; omega)).trans J1P.out.1, Nat.lt_of_lt_of_le J1P.out.2 hgr2.size⟩
          have J2O : Hid (w2.ownsRow (w.heap.size + 1) 101 2 (.slice (some ⟨g, 0, none⟩) 0 cap) 0 []) := J1O.out.kept hgr2 (.inr (own_not_map J1O.out J1I.out.2.1))
          have hat2 := block_cell J2P.out.1 0 _ rfl
          clear hset2 hgr2 HAG
          go_wp2_with fail
          refine (holds_any 44 (.pointer (some ⟨w.heap.size, 0, none⟩)) (.pointer (some ⟨wr.heap.size, 0, none⟩)) hf (Told bf o0 o1 hf (w2.alloc (.cells #[.bool false] 4))) w2 HENT.out ?_).mono ?_
          · refine search1_any H p (.iface 28 (.pointer (some ⟨b1, 0, none⟩))) w.heap.size wr.heap.size _ (fun _ w' => w'.heap[w2.heap.size]? = some (.cells #[.bool false] 4 (0, 0)) ∧ Told bf o0 o1 hf (w2.alloc (.cells #[.bool false] 4)) w') HA.out.ent (block_cell ((Below.heap_alloc _ _ _ (by have := J2I.out.2.2.2; omega)).trans J2I.out.2.2.1) 0 _ rfl) (block_cell ((Below.heap_alloc _ _ _ J2P.out.2).trans J2P.out.1) 0 _ rfl) ⟨_, _, rfl⟩ hf ?_
            refine (HA.out.fault b1 _ ((HG.out.below J2I.out.1).below (below_new1 _ _)) ((Below.heap_alloc _ _ _ (Nat.lt_of_lt_of_le HBL.out J2I.out.1.size)).trans ((J2I.out.1.block bf HBL.out).trans HBF.out)) (fun h => (HVV.out.symm.trans (HFST.out h)))).mono ?_
            rintro e w' ⟨rfl, hT⟩
            exact ⟨rfl, told_box (Nat.lt_of_lt_of_le HBL.out J2I.out.1.size) hT, hT⟩
          rintro e w3 ⟨rfl, hp⟩
          rcases Bool.eq_false_or_eq_true hf with h1 | h1
          · have HANS : Hid (answer hf hb l base = true) := by show _ = _; rw [h1]; exact answer_first hb l base HL0.out
            rw [h1] at hp ⊢
            have HT1 := Lib.hid (holds_hit J2I.out.1 HBL.out hp)
            clear hp h1 hat2 JSA
            go_wp2_with fail
            go_ret
            exact ⟨by rw [HANS.out]; rfl, by rw [HANS.out]; exact HT1.out⟩
          · have JSA := JSA h1
            rw [h1] at hp ⊢
            clear h1 hat2
            rcases hshx with rfl | ⟨tx, xx, rfl⟩
            · skip
              have hb3 : Below w2.heap.size w2 w3 := holds_miss ((J2I.out.1.block bf HBL.out).trans HBF.out) hp
              have J3I : Hid (SInv H p w w3 (ks ++ [b1])) := J2I.out.step hb3
              have J3P : Hid (w3.heap[wr.heap.size]? = some (.cells #[.iface 28 (.pointer (some ⟨b1, 0, none⟩)), .int .i64 ((n : Int) + 1)] 101 (0, 0)) ∧ wr.heap.size < w3.heap.size) := ⟨(hb3.block _ J2P.out.2).trans J2P.out.1, Nat.lt_of_lt_of_le J2P.out.2 hb3.size⟩
              have J3O : Hid (w3.ownsRow (w.heap.size + 1) 101 2 (.slice (some ⟨g, 0, none⟩) 0 cap) 0 []) := own_step J2O.out hb3
              have hat3 := block_cell J3P.out.1 0 _ rfl
              clear hp hb3
              go_wp2_with fail
              refine (within_fault b1 _ w3 (block_cell ((J3I.out.1.block b1 (lt_of_block HKB.out)).trans HKB.out) 2 _ rfl) (by first | exact .inl rfl | exact .inr ⟨_, _, rfl⟩)).mono ?_
              rintro e w4 ⟨rfl, hb4⟩
              have J4I : Hid (SInv H p w w4 (ks ++ [b1])) := J3I.out.step hb4
              have J4P : Hid (w4.heap[wr.heap.size]? = some (.cells #[.iface 28 (.pointer (some ⟨b1, 0, none⟩)), .int .i64 ((n : Int) + 1)] 101 (0, 0)) ∧ wr.heap.size < w4.heap.size) := ⟨(hb4.block _ J3P.out.2).trans J3P.out.1, Nat.lt_of_lt_of_le J3P.out.2 hb4.size⟩
              have J4O : Hid (w4.ownsRow (w.heap.size + 1) 101 2 (.slice (some ⟨g, 0, none⟩) 0 cap) 0 []) := own_step J3O.out hb4
              clear hb4 hat3
              have hat4 := block_cell J4P.out.1 1 _ rfl
              go_wp2_with (at_builtin; refine wpList_append_own _ rfl (.tmp 80) (.tmp 86) 102 rfl (w.heap.size + 1) 101 i0 (.agg #[.nilIface, .int .i64 0]) 2 24 Tryd.underlying102 HI0.out HZ0.out HZ1.out HZ2.out rfl (by decide) _ 0 [] rfl (J4O.out.kept (World.grownBy_alloc w4 _ none) (.inr (by simp [Value.ownBlock]))) ⟨w4.heap.size, 0, none⟩ 1 1 [.nilIface, .int .i64 ((n : Int) + 1 + 1)] rfl rfl (new_cells w4 [.nilIface, .int .i64 ((n : Int) + 1 + 1)] 101) (by simp [Value.oneCell']) (by unfold maxLen; omega) (by omega) (by rw [World.size_alloc]; have := J4I.out.2.2.2; omega) ?_; intro v5 w5 hown5 hgr5 _; obtain ⟨g5, cap5, rfl⟩ := ownsRow_succ hown5; have H5 := Lib.hid hown5; have G5 := Lib.hid hgr5; clear hown5 hgr5)
              have J5I : Hid (SInv H p w w5 (ks ++ [b1])) := (J4I.out.step (below_new1 w4 (.cells #[.nilIface, .int .i64 ((n : Int) + 1 + 1)] 101))).row (J4O.out.kept (World.grownBy_alloc w4 _ none) (.inr (by simp [Value.ownBlock]))) G5.out
              have J5T : Hid (Todo w5 (w.heap.size + 1) (.slice (some ⟨g5, 0, none⟩) (0 + 1) cap5) (.nilIface) (((n + 1 : Nat) : Int) + 1) 1) := ⟨by rw [show (((n + 1 : Nat) : Int) + 1) = (n : Int) + 1 + 1 by omega]; exact H5.out, _, _, rfl⟩
              clear hat4
              refine wp_loop_rounds 1 ?_
              rw [rounds_succ]
              go_wp2_with fail
              go_roundg (l.length + 2 - n)
              case rel => exact ⟨r', base', .nilIface, n + 1, 1, ks ++ [b1], by simp, JSA, J5T, J5I, by show _ = _; omega⟩
              case measure => have := HGK.out; omega
            · skip
              have hb3 : Below w2.heap.size w2 w3 := holds_miss ((J2I.out.1.block bf HBL.out).trans HBF.out) hp
              have J3I : Hid (SInv H p w w3 (ks ++ [b1])) := J2I.out.step hb3
              have J3P : Hid (w3.heap[wr.heap.size]? = some (.cells #[.iface 28 (.pointer (some ⟨b1, 0, none⟩)), .int .i64 ((n : Int) + 1)] 101 (0, 0)) ∧ wr.heap.size < w3.heap.size) := ⟨(hb3.block _ J2P.out.2).trans J2P.out.1, Nat.lt_of_lt_of_le J2P.out.2 hb3.size⟩
              have J3O : Hid (w3.ownsRow (w.heap.size + 1) 101 2 (.slice (some ⟨g, 0, none⟩) 0 cap) 0 []) := own_step J2O.out hb3
              have hat3 := block_cell J3P.out.1 0 _ rfl
              clear hp hb3
              go_wp2_with fail
              refine (within_fault b1 _ w3 (block_cell ((J3I.out.1.block b1 (lt_of_block HKB.out)).trans HKB.out) 2 _ rfl) (by first | exact .inl rfl | exact .inr ⟨_, _, rfl⟩)).mono ?_
              rintro e w4 ⟨rfl, hb4⟩
              have J4I : Hid (SInv H p w w4 (ks ++ [b1])) := J3I.out.step hb4
              have J4P : Hid (w4.heap[wr.heap.size]? = some (.cells #[.iface 28 (.pointer (some ⟨b1, 0, none⟩)), .int .i64 ((n : Int) + 1)] 101 (0, 0)) ∧ wr.heap.size < w4.heap.size) := ⟨(hb4.block _ J3P.out.2).trans J3P.out.1, Nat.lt_of_lt_of_le J3P.out.2 hb4.size⟩
              have J4O : Hid (w4.ownsRow (w.heap.size + 1) 101 2 (.slice (some ⟨g, 0, none⟩) 0 cap) 0 []) := own_step J3O.out hb4
              clear hb4 hat3
              have hat4 := block_cell J4P.out.1 1 _ rfl
              go_wp2_with (at_builtin; refine wpList_append_own _ rfl (.tmp 80) (.tmp 86) 102 rfl (w.heap.size + 1) 101 i0 (.agg #[.nilIface, .int .i64 0]) 2 24 Tryd.underlying102 HI0.out HZ0.out HZ1.out HZ2.out rfl (by decide) _ 0 [] rfl (J4O.out.kept (World.grownBy_alloc w4 _ none) (.inr (by simp [Value.ownBlock]))) ⟨w4.heap.size, 0, none⟩ 1 1 [.iface tx xx, .int .i64 ((n : Int) + 1 + 1)] rfl rfl (new_cells w4 [.iface tx xx, .int .i64 ((n : Int) + 1 + 1)] 101) (by simp [Value.oneCell']) (by unfold maxLen; omega) (by omega) (by rw [World.size_alloc]; have := J4I.out.2.2.2; omega) ?_; intro v5 w5 hown5 hgr5 _; obtain ⟨g5, cap5, rfl⟩ := ownsRow_succ hown5; have H5 := Lib.hid hown5; have G5 := Lib.hid hgr5; clear hown5 hgr5)
              have J5I : Hid (SInv H p w w5 (ks ++ [b1])) := (J4I.out.step (below_new1 w4 (.cells #[.iface tx xx, .int .i64 ((n : Int) + 1 + 1)] 101))).row (J4O.out.kept (World.grownBy_alloc w4 _ none) (.inr (by simp [Value.ownBlock]))) G5.out
              have J5T : Hid (Todo w5 (w.heap.size + 1) (.slice (some ⟨g5, 0, none⟩) (0 + 1) cap5) (.iface tx xx) (((n + 1 : Nat) : Int) + 1) 1) := ⟨by rw [show (((n + 1 : Nat) : Int) + 1) = (n : Int) + 1 + 1 by omega]; exact H5.out, _, _, rfl⟩
              clear hat4
              refine wp_loop_rounds 1 ?_
              rw [rounds_succ]
              go_wp2_with fail
              go_roundg (l.length + 2 - n)
              case rel => exact ⟨r', base', .iface tx xx, n + 1, 1, ks ++ [b1], by simp, JSA, J5T, J5I, by show _ = _; omega⟩
              case measure => have := HGK.out; omega
end Go.Proofs.YtbidhljigeoooaaDoor

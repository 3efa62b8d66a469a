/-
  OWN WORK. The program's tree as it lies in memory: names, nodes, the tree.
-/
import Derived.Test.YtpblhdpnmnfieaaBTrRow
namespace Go.Proofs.Ytpblhdpnmnfieaa
open Go.RowKit Rc
open Tr (Nm En T)
namespace Tm
/-! Own rows of whatever elements. -/
theorem own_low {w : World} {B e k n : Nat} {v : Value} {xs : List Value} (h : w.ownsRow B e k v n xs) : w.ownsRow 0 e k v n xs := own_mono h (Nat.zero_le _)
theorem own_blk {w : World} {B e k n : Nat} {v : Value} {xs : List Value} (h : w.ownsRow B e k v n xs) {b : Nat} (hb : v.ownBlock = some b) : B ≤ b ∧ b < w.heap.size ∧ ∃ cs, Blk w b e cs := by
  rcases h.2 with ⟨rfl, _⟩ | ⟨g, cap, cur, rfl, h1, h2, _⟩
  · cases hb
  · obtain rfl : g = b := by simpa [Value.ownBlock] using hb
    exact ⟨h1, (Array.getElem?_eq_some_iff.1 h2).1, cur.toList, by simpa [Blk] using h2⟩
theorem own_keep {w w' : World} {B e k n : Nat} {v : Value} {xs : List Value} (h : w.ownsRow B e k v n xs) (hb : ∀ b, v.ownBlock = some b → w'.heap[b]? = w.heap[b]?) : w'.ownsRow B e k v n xs := by
  refine ⟨h.1, ?_⟩
  rcases h.2 with h2 | ⟨g, cap, cur, rfl, h3, h4, h5⟩
  · exact .inl h2
  · exact .inr ⟨g, cap, cur, rfl, h3, (hb g rfl).trans h4, h5⟩
theorem own_form {w : World} {B e k n : Nat} {v : Value} {xs : List Value} (h : w.ownsRow B e k v n xs) : ∃ A c, v = .slice A n c ∧ n ≤ c ∧ (0 < n → ∃ g, A = some ⟨g, 0, none⟩ ∧ v.ownBlock = some g ∧ B ≤ g ∧ g < w.heap.size ∧ ∀ j x, xs[j]? = some x → w.cell? ⟨g, j, none⟩ = some x) := by
  rcases h.2 with ⟨rfl, rfl⟩ | ⟨g, cap, cur, rfl, h1, h2, h3, h4, h5, h6⟩
  · exact ⟨none, 0, rfl, Nat.le_refl _, fun h => absurd h (by omega)⟩
  · refine ⟨_, cap, rfl, h3, fun hn => ⟨g, rfl, rfl, h1, (Array.getElem?_eq_some_iff.1 h2).1, fun j x hx => ?_⟩⟩
    rw [cell_of_row w g j cur e (0, 0) h2]
    rw [← h6] at hx
    rw [List.getElem?_take] at hx
    split at hx
    · simpa using hx
    · cases hx
/-! Names. -/
def nmCells (l : List Nm) : List Value := l.flatMap fun n => [.string (strOf n.1), .int .i64 n.2]
theorem nmCells_cons (n : Nm) (l : List Nm) : nmCells (n :: l) = .string (strOf n.1) :: .int .i64 n.2 :: nmCells l := rfl
theorem nmCells_length : ∀ l : List Nm, (nmCells l).length = l.length * 2
  | [] => rfl
  | n :: l => by rw [nmCells_cons, List.length_cons, List.length_cons, nmCells_length l, List.length_cons]; omega
theorem nmCells_append (a b : List Nm) : nmCells (a ++ b) = nmCells a ++ nmCells b := by simp [nmCells]
theorem nmCells_take (l : List Nm) : ∀ i, nmCells (l.take i) = (nmCells l).take (i * 2) := by
  induction l with
  | nil => intro i; simp [nmCells]
  | cons n l ih =>
    intro i
    cases i with
    | zero => simp [nmCells]
    | succ i =>
      rw [List.take_succ_cons, nmCells_cons, nmCells_cons, ih, show (i + 1) * 2 = i * 2 + 1 + 1 by omega, List.take_succ_cons, List.take_succ_cons]
theorem nmCells_drop (l : List Nm) : ∀ i, nmCells (l.drop i) = (nmCells l).drop (i * 2) := by
  induction l with
  | nil => intro i; simp [nmCells]
  | cons n l ih =>
    intro i
    cases i with
    | zero => simp
    | succ i =>
      rw [List.drop_succ_cons, nmCells_cons, ih, show (i + 1) * 2 = i * 2 + 1 + 1 by omega, List.drop_succ_cons, List.drop_succ_cons]
theorem nmCells_get {l : List Nm} {j : Nat} {n : Nm} (h : l[j]? = some n) : (nmCells l)[j * 2]? = some (.string (strOf n.1)) ∧ (nmCells l)[j * 2 + 1]? = some (.int .i64 n.2) := by
  induction l generalizing j with
  | nil => simp at h
  | cons m l ih =>
    rw [nmCells_cons]
    cases j with
    | zero =>
      obtain rfl : m = n := by simpa using h
      exact ⟨rfl, rfl⟩
    | succ j =>
      have := ih (j := j) (by simpa using h)
      rw [show (j + 1) * 2 = j * 2 + 1 + 1 by omega]
      simpa using this
theorem nmCells_one (l : List Nm) : ∀ v ∈ nmCells l, v.oneCell' = true := by
  intro v hv
  simp only [nmCells, List.mem_flatMap] at hv
  obtain ⟨x, _, hx⟩ := hv
  simp at hx
  rcases hx with rfl | rfl <;> rfl
def NOwn (w : World) (B : Nat) (v : Value) (l : List Nm) : Prop := w.ownsRow B 80 2 v l.length (nmCells l)
theorem NOwn.nil (w : World) (B : Nat) : NOwn w B (.slice none 0 0) [] := ⟨rfl, .inl ⟨rfl, rfl⟩⟩
theorem NOwn.form {w : World} {B : Nat} {v : Value} {l : List Nm} (h : NOwn w B v l) : ∃ A c, v = .slice A l.length c ∧ l.length ≤ c ∧ (0 < l.length → ∃ g, A = some ⟨g, 0, none⟩ ∧ v.ownBlock = some g ∧ B ≤ g ∧ g < w.heap.size ∧ ∀ j n, l[j]? = some n → w.cell? ⟨g, j * 2, none⟩ = some (.string (strOf n.1)) ∧ w.cell? ⟨g, j * 2 + 1, none⟩ = some (.int .i64 n.2)) := by
  obtain ⟨A, c, h1, h2, h3⟩ := own_form h
  refine ⟨A, c, h1, h2, fun hl => ?_⟩
  obtain ⟨g, h4, h5, h6, h7, h8⟩ := h3 hl
  exact ⟨g, h4, h5, h6, h7, fun j n hj => ⟨h8 _ _ (nmCells_get hj).1, h8 _ _ (nmCells_get hj).2⟩⟩
/-! A node. -/
def enCells (e : En) (dv nv : Value) : List Value := [.int .i64 e.nd.id, .int .i64 e.nd.kind, .int .i64 e.nd.links, .int .i64 e.nd.size, .int .u64 (e.nd.till : Nat), .bool e.nd.shut, dv, nv]
def EnS (g : Nat) (dv nv : Value) : Nat → Prop := fun b => b = g ∨ dv.ownBlock = some b ∨ nv.ownBlock = some b
structure EIn (g : Nat) (dv nv : Value) (e : En) (w : World) : Prop where
  box : Blk w g 63 (enCells e dv nv)
  data : w.ownsRow 0 5 1 dv e.data.length (Lib.byteCells e.data)
  names : NOwn w 0 nv e.names
def EAt (g : Nat) (e : En) (S : Nat → Prop) (w : World) : Prop := ∃ dv nv, EIn g dv nv e w ∧ S = EnS g dv nv
theorem EIn.at_ {g : Nat} {dv nv : Value} {e : En} {w : World} (h : EIn g dv nv e w) : EAt g e (EnS g dv nv) w := ⟨dv, nv, h, rfl⟩
theorem EIn.keep {g : Nat} {dv nv : Value} {e : En} {w w' : World} (h : EIn g dv nv e w) (hb : ∀ b, EnS g dv nv b → w'.heap[b]? = w.heap[b]?) : EIn g dv nv e w' :=
  ⟨(hb g (.inl rfl)).trans h.box, own_keep h.data fun b h1 => hb b (.inr (.inl h1)), own_keep h.names fun b h1 => hb b (.inr (.inr h1))⟩
theorem EIn.kind {g : Nat} {dv nv : Value} {e : En} {w : World} (h : EIn g dv nv e w) {b : Nat} (hb : EnS g dv nv b) : b < w.heap.size ∧ ∃ t cs, Blk w b t cs ∧ (t = 63 ∨ t = 5 ∨ t = 80) := by
  rcases hb with rfl | hb | hb
  · exact ⟨h.box.lt, _, _, h.box, .inl rfl⟩
  · obtain ⟨_, h1, cs, h2⟩ := own_blk h.data hb
    exact ⟨h1, _, cs, h2, .inr (.inl rfl)⟩
  · obtain ⟨_, h1, cs, h2⟩ := own_blk h.names hb
    exact ⟨h1, _, cs, h2, .inr (.inr rfl)⟩
theorem EAt.keep {g : Nat} {e : En} {S : Nat → Prop} {w w' : World} (h : EAt g e S w) (hb : ∀ b, S b → w'.heap[b]? = w.heap[b]?) : EAt g e S w' := by
  obtain ⟨dv, nv, h1, rfl⟩ := h
  exact ⟨dv, nv, h1.keep hb, rfl⟩
theorem EAt.kind {g : Nat} {e : En} {S : Nat → Prop} {w : World} (h : EAt g e S w) {b : Nat} (hb : S b) : b < w.heap.size ∧ ∃ t cs, Blk w b t cs ∧ (t = 63 ∨ t = 5 ∨ t = 80) := by
  obtain ⟨dv, nv, h1, rfl⟩ := h
  exact h1.kind hb
theorem EAt.self {g : Nat} {e : En} {S : Nat → Prop} {w : World} (h : EAt g e S w) : S g := by
  obtain ⟨dv, nv, h1, rfl⟩ := h
  exact .inl rfl
def eobj : Ob.Obj En where
  At v e S w := ∃ g, v = .pointer (some ⟨g, 0, none⟩) ∧ EAt g e S w
  keep := by
    rintro v s S w w' ⟨g, rfl, h⟩ _ hb
    exact ⟨g, rfl, h.keep hb⟩
  lt := by
    rintro v s S w ⟨g, rfl, h⟩ b hb
    exact (h.kind hb).1
  ptr := by
    rintro v s S w ⟨g, rfl, h⟩
    exact ⟨_, rfl⟩
/-- The cells of a node that are asked. -/
theorem EAt.cells {g : Nat} {e : En} {S : Nat → Prop} {w : World} (h : EAt g e S w) : w.cell? ⟨g, 0, none⟩ = some (.int .i64 e.nd.id) ∧ w.cell? ⟨g, 1, none⟩ = some (.int .i64 e.nd.kind) ∧ w.cell? ⟨g, 2, none⟩ = some (.int .i64 e.nd.links) ∧ w.cell? ⟨g, 3, none⟩ = some (.int .i64 e.nd.size) ∧ w.cell? ⟨g, 4, none⟩ = some (.int .u64 (e.nd.till : Nat)) ∧ w.cell? ⟨g, 5, none⟩ = some (.bool e.nd.shut) := by
  obtain ⟨dv, nv, h1, rfl⟩ := h
  exact ⟨h1.box.cell 0, h1.box.cell 1, h1.box.cell 2, h1.box.cell 3, h1.box.cell 4, h1.box.cell 5⟩
/-! Nodes, apart from one another. -/
def EsAt : List Nat → T → (Nat → Prop) → World → Prop
  | [], [], S, _ => ∀ b, ¬ S b
  | g :: gs, e :: t, S, w => ∃ S1 S2, EAt g e S1 w ∧ EsAt gs t S2 w ∧ (∀ b, S1 b → ¬ S2 b) ∧ (∀ b, S b ↔ S1 b ∨ S2 b)
  | _, _, _, _ => False
theorem EsAt.len : ∀ {gs : List Nat} {t : T} {S : Nat → Prop} {w : World}, EsAt gs t S w → gs.length = t.length
  | [], [], _, _, _ => rfl
  | _ :: _, _ :: _, _, _, ⟨_, _, _, h, _⟩ => by simp [EsAt.len h]
  | [], _ :: _, _, _, h => h.elim
  | _ :: _, [], _, _, h => h.elim
theorem EsAt.keep : ∀ {gs : List Nat} {t : T} {S : Nat → Prop} {w w' : World}, EsAt gs t S w → (∀ b, S b → w'.heap[b]? = w.heap[b]?) → EsAt gs t S w'
  | [], [], _, _, _, h, _ => h
  | _ :: _, _ :: _, _, _, _, ⟨S1, S2, h1, h2, h3, h4⟩, hb => ⟨S1, S2, h1.keep fun b h => hb b ((h4 b).2 (.inl h)), EsAt.keep h2 fun b h => hb b ((h4 b).2 (.inr h)), h3, h4⟩
  | [], _ :: _, _, _, _, h, _ => h.elim
  | _ :: _, [], _, _, _, h, _ => h.elim
theorem EsAt.kind : ∀ {gs : List Nat} {t : T} {S : Nat → Prop} {w : World}, EsAt gs t S w → ∀ {b : Nat}, S b → b < w.heap.size ∧ ∃ t cs, Blk w b t cs ∧ (t = 63 ∨ t = 5 ∨ t = 80)
  | [], [], _, _, h, b, hb => absurd hb (h b)
  | _ :: _, _ :: _, _, _, ⟨S1, S2, h1, h2, h3, h4⟩, b, hb => ((h4 b).1 hb).elim (fun h => h1.kind h) (fun h => EsAt.kind h2 h)
  | [], _ :: _, _, _, h, _, _ => h.elim
  | _ :: _, [], _, _, h, _, _ => h.elim
theorem EsAt.same : ∀ {gs : List Nat} {t : T} {S S' : Nat → Prop} {w : World}, EsAt gs t S w → (∀ b, S b ↔ S' b) → EsAt gs t S' w
  | [], [], _, _, _, h, hS => fun b hb => h b ((hS b).2 hb)
  | _ :: _, _ :: _, _, _, _, ⟨S1, S2, h1, h2, h3, h4⟩, hS => ⟨S1, S2, h1, h2, h3, fun b => (hS b).symm.trans (h4 b)⟩
  | [], _ :: _, _, _, _, h, _ => h.elim
  | _ :: _, [], _, _, _, h, _ => h.elim
theorem EsAt.app : ∀ {ga gb : List Nat} {A B : T} {SA SB : Nat → Prop} {w : World}, EsAt ga A SA w → EsAt gb B SB w → (∀ b, SA b → ¬ SB b) → EsAt (ga ++ gb) (A ++ B) (fun b => SA b ∨ SB b) w
  | [], _, [], _, _, _, _, h, k, _ => k.same fun b => ⟨.inr, fun h1 => h1.elim (fun h2 => absurd h2 (h b)) id⟩
  | _ :: _, _, _ :: _, _, _, SB, _, ⟨S1, S2, h1, h2, h3, h4⟩, k, hd =>
    ⟨S1, fun b => S2 b ∨ SB b, h1, EsAt.app h2 k fun b h => hd b ((h4 b).2 (.inr h)), fun b h => fun h5 => h5.elim (h3 b h) (hd b ((h4 b).2 (.inl h))), fun b => by
      constructor
      · rintro (h | h)
        · exact ((h4 b).1 h).elim .inl fun h => .inr (.inl h)
        · exact .inr (.inr h)
      · rintro (h | h | h)
        · exact .inl ((h4 b).2 (.inl h))
        · exact .inl ((h4 b).2 (.inr h))
        · exact .inr h⟩
  | [], _, _ :: _, _, _, _, _, h, _, _ => h.elim
  | _ :: _, _, [], _, _, _, _, h, _, _ => h.elim
theorem EsAt.split : ∀ {A B : T} {gs : List Nat} {S : Nat → Prop} {w : World}, EsAt gs (A ++ B) S w → ∃ ga gb SA SB, gs = ga ++ gb ∧ EsAt ga A SA w ∧ EsAt gb B SB w ∧ (∀ b, SA b → ¬ SB b) ∧ (∀ b, S b ↔ SA b ∨ SB b)
  | [], _, gs, S, _, h => ⟨[], gs, fun _ => False, S, rfl, fun _ h => h, h, fun _ h => h.elim, fun b => ⟨.inr, fun h => h.elim False.elim id⟩⟩
  | e :: A, B, g :: gs, S, w, ⟨S1, S2, h1, h2, h3, h4⟩ => by
    obtain ⟨ga, gb, SA, SB, rfl, h5, h6, h7, h8⟩ := EsAt.split h2
    refine ⟨g :: ga, gb, fun b => S1 b ∨ SA b, SB, rfl, ⟨S1, SA, h1, h5, fun b hb hA => h3 b hb ((h8 b).2 (.inl hA)), fun b => Iff.rfl⟩, h6, fun b hb hB => ?_, fun b => ?_⟩
    · rcases hb with hb | hb
      · exact h3 b hb ((h8 b).2 (.inr hB))
      · exact h7 b hb hB
    · rw [h4, h8, or_assoc]
  | _ :: _, _, [], _, _, h => h.elim
/-- The node in the middle, and how it is turned. -/
theorem EsAt.mid {A B : T} {e : En} {gs : List Nat} {S : Nat → Prop} {w : World} (h : EsAt gs (A ++ e :: B) S w) : ∃ ga g gb S1, gs = ga ++ g :: gb ∧ ga.length = A.length ∧ EAt g e S1 w ∧ (∀ b, S1 b → S b) ∧
    (∀ w' e' S1', EAt g e' S1' w' → Mod w w' S1 → (∀ b, S1' b → S1 b ∨ w.heap.size ≤ b) → ∃ S', EsAt gs (A ++ e' :: B) S' w' ∧ ∀ b, S' b → S b ∨ w.heap.size ≤ b) := by
  obtain ⟨ga, gb, SA, SB, rfl, h1, h2, h3, h4⟩ := h.split
  cases gb with
  | nil => exact h2.elim
  | cons g gb =>
    obtain ⟨S1, S2, h5, h6, h7, h8⟩ := h2
    refine ⟨ga, g, gb, S1, rfl, h1.len, h5, fun b hb => (h4 b).2 (.inr ((h8 b).2 (.inl hb))), fun w' e' S1' k1 k2 k3 => ?_⟩
    have kA : EsAt ga A SA w' := h1.keep fun b hb => k2.block b (h1.kind hb).1 fun h9 => h3 b hb ((h8 b).2 (.inl h9))
    have kB : EsAt gb B S2 w' := h6.keep fun b hb => k2.block b (h6.kind hb).1 fun h9 => h7 b h9 hb
    have kE : EsAt (g :: gb) (e' :: B) (fun b => S1' b ∨ S2 b) w' := ⟨S1', S2, k1, kB, fun b hb h9 => (k3 b hb).elim (fun h => h7 b h h9) (fun h => by have := (h6.kind h9).1; omega), fun b => Iff.rfl⟩
    refine ⟨_, kA.app kE fun b hb h9 => ?_, fun b hb => ?_⟩
    · rcases h9 with h9 | h9
      · rcases k3 b h9 with h | h
        · exact h3 b hb ((h8 b).2 (.inl h))
        · have := (h1.kind hb).1; omega
      · exact h3 b hb ((h8 b).2 (.inr h9))
    · rcases hb with hb | hb | hb
      · exact .inl ((h4 b).2 (.inl hb))
      · exact (k3 b hb).imp (fun h => (h4 b).2 (.inr ((h8 b).2 (.inl h)))) id
      · exact .inl ((h4 b).2 (.inr ((h8 b).2 (.inr hb))))
/-- One node is taken out. -/
theorem EsAt.out {A B : T} {e : En} {gs : List Nat} {S : Nat → Prop} {w : World} (h : EsAt gs (A ++ e :: B) S w) : ∃ ga g gb S', gs = ga ++ g :: gb ∧ ga.length = A.length ∧ EsAt (ga ++ gb) (A ++ B) S' w ∧ ∀ b, S' b → S b := by
  obtain ⟨ga, gb, SA, SB, rfl, h1, h2, h3, h4⟩ := h.split
  cases gb with
  | nil => exact h2.elim
  | cons g gb =>
    obtain ⟨S1, S2, h5, h6, h7, h8⟩ := h2
    refine ⟨ga, g, gb, _, rfl, h1.len, h1.app h6 fun b hb h9 => h3 b hb ((h8 b).2 (.inr h9)), fun b hb => ?_⟩
    exact hb.elim (fun h => (h4 b).2 (.inl h)) fun h => (h4 b).2 (.inr ((h8 b).2 (.inr h)))
/-- One node is put in. -/
theorem EsAt.into {A B : T} {e : En} {gs : List Nat} {S S1 : Nat → Prop} {g : Nat} {w : World} (h : EsAt gs (A ++ B) S w) (he : EAt g e S1 w) (hd : ∀ b, S b → ¬ S1 b) : ∃ ga gb S', gs = ga ++ gb ∧ ga.length = A.length ∧ EsAt (ga ++ g :: gb) (A ++ e :: B) S' w ∧ ∀ b, S' b ↔ S b ∨ S1 b := by
  obtain ⟨ga, gb, SA, SB, rfl, h1, h2, h3, h4⟩ := h.split
  have k : EsAt (g :: gb) (e :: B) (fun b => S1 b ∨ SB b) w := ⟨S1, SB, he, h2, fun b hb h9 => hd b ((h4 b).2 (.inr h9)) hb, fun b => Iff.rfl⟩
  refine ⟨ga, gb, _, rfl, h1.len, h1.app k fun b hb h9 => ?_, fun b => ?_⟩
  · exact h9.elim (hd b ((h4 b).2 (.inl hb))) (h3 b hb)
  · rw [h4]
    constructor
    · rintro (h | h | h)
      · exact .inl (.inl h)
      · exact .inr h
      · exact .inl (.inr h)
    · rintro ((h | h) | h)
      · exact .inl h
      · exact .inr (.inr h)
      · exact .inr (.inl h)
/-- The pointer of the node of an ID. -/
def ptrOf : List Nat → T → Int → Value
  | g :: gs, e :: t, i => if e.nd.id = i then .pointer (some ⟨g, 0, none⟩) else ptrOf gs t i
  | _, _, _ => .pointer none
theorem ptrOf_none : ∀ {gs : List Nat} {t : T} {i : Int}, (∀ e ∈ t, e.nd.id ≠ i) → ptrOf gs t i = .pointer none
  | [], [], _, _ => rfl
  | [], _ :: _, _, _ => rfl
  | _ :: _, [], _, _ => rfl
  | g :: gs, e :: t, i, h => by
    unfold ptrOf
    rw [if_neg (h e (.head _))]
    exact ptrOf_none fun m hm => h m (.tail _ hm)
theorem ptrOf_mid : ∀ {ga gb : List Nat} {g : Nat} {A B : T} {e : En} {i : Int}, ga.length = A.length → (∀ a ∈ A, a.nd.id ≠ i) → e.nd.id = i → ptrOf (ga ++ g :: gb) (A ++ e :: B) i = .pointer (some ⟨g, 0, none⟩)
  | [], _, _, [], _, _, _, _, _, he => by show (if _ then _ else _) = _; rw [if_pos he]
  | _ :: _, _, _, a :: _, _, _, _, hl, hA, he => by
    show (if _ then _ else _) = _
    rw [if_neg (hA a (.head _))]
    exact ptrOf_mid (by simpa using hl) (fun x hx => hA x (.tail _ hx)) he
/-! The tree. -/
def ptrCells (gs : List Nat) : List Value := gs.map fun g => .pointer (some ⟨g, 0, none⟩)
theorem ptrCells_append (a b : List Nat) : ptrCells (a ++ b) = ptrCells a ++ ptrCells b := List.map_append
theorem ptrCells_take (l : List Nat) (i : Nat) : ptrCells (l.take i) = (ptrCells l).take i := List.map_take
theorem ptrCells_drop (l : List Nat) (i : Nat) : ptrCells (l.drop i) = (ptrCells l).drop i := List.map_drop
def TrS (p : Nat) (av : Value) (S : Nat → Prop) : Nat → Prop := fun b => b = p ∨ av.ownBlock = some b ∨ S b
structure TIn (p : Nat) (av : Value) (gs : List Nat) (S : Nat → Prop) (t : T) (w : World) : Prop where
  box : Blk w p 54 [av]
  row : w.ownsRow 0 50 1 av gs.length (ptrCells gs)
  each : EsAt gs t S w
def TAt (v : Value) (t : T) (S : Nat → Prop) (w : World) : Prop := ∃ p av gs S0, v = .pointer (some ⟨p, 0, none⟩) ∧ TIn p av gs S0 t w ∧ S = TrS p av S0
theorem TIn.at_ {p : Nat} {av : Value} {gs : List Nat} {S : Nat → Prop} {t : T} {w : World} (h : TIn p av gs S t w) : TAt (.pointer (some ⟨p, 0, none⟩)) t (TrS p av S) w := ⟨p, av, gs, S, rfl, h, rfl⟩
theorem TIn.keep {p : Nat} {av : Value} {gs : List Nat} {S : Nat → Prop} {t : T} {w w' : World} (h : TIn p av gs S t w) (hb : ∀ b, TrS p av S b → w'.heap[b]? = w.heap[b]?) : TIn p av gs S t w' :=
  ⟨(hb p (.inl rfl)).trans h.box, own_keep h.row fun b h1 => hb b (.inr (.inl h1)), h.each.keep fun b h1 => hb b (.inr (.inr h1))⟩
theorem TIn.lt {p : Nat} {av : Value} {gs : List Nat} {S : Nat → Prop} {t : T} {w : World} (h : TIn p av gs S t w) {b : Nat} (hb : TrS p av S b) : b < w.heap.size := by
  rcases hb with rfl | hb | hb
  · exact h.box.lt
  · exact (own_blk h.row hb).2.1
  · exact (h.each.kind hb).1
theorem TIn.below {p : Nat} {av : Value} {gs : List Nat} {S : Nat → Prop} {t : T} {w w' : World} (h : TIn p av gs S t w) (hb : Below w.heap.size w w') : TIn p av gs S t w' := h.keep fun b hb1 => hb.block b (h.lt hb1)
def tobj : Ob.Obj T where
  At := TAt
  keep := by
    rintro v s S w w' ⟨p, av, gs, S0, rfl, h, rfl⟩ _ hb
    exact ⟨p, av, gs, S0, rfl, h.keep hb, rfl⟩
  lt := by
    rintro v s S w ⟨p, av, gs, S0, rfl, h, rfl⟩ b hb
    exact h.lt hb
  ptr := by
    rintro v s S w ⟨p, av, gs, S0, rfl, h, rfl⟩
    exact ⟨_, rfl⟩
/-- The tree's box and its list of nodes are no node's blocks. -/
theorem TIn.apart {p : Nat} {av : Value} {gs : List Nat} {S : Nat → Prop} {t : T} {w : World} (h : TIn p av gs S t w) : ¬ S p ∧ (∀ b, av.ownBlock = some b → ¬ S b ∧ b ≠ p) := by
  have key : ∀ {b : Nat} {ty : TypeId} {cs : List Value}, Blk w b ty cs → S b → ty = 63 ∨ ty = 5 ∨ ty = 80 := by
    intro b ty cs h1 h2
    obtain ⟨_, t2, cs2, h3, h4⟩ := h.each.kind h2
    have e : ty = t2 := by
      unfold Blk at h1 h3
      rw [h1] at h3
      injection h3 with h3
      injection h3
    rw [e]; exact h4
  refine ⟨fun hS => by have := key h.box hS; revert this; decide, fun b hb => ⟨fun hS => ?_, ?_⟩⟩
  · obtain ⟨_, _, cs, h1⟩ := own_blk h.row hb
    have := key h1 hS
    revert this; decide
  · obtain ⟨_, _, cs, h1⟩ := own_blk h.row hb
    exact h1.ne_ h.box (by decide)
/-- One node is turned by a call on it. -/
theorem TIn.turn {p : Nat} {av : Value} {gs : List Nat} {S : Nat → Prop} {A B : T} {e : En} {w : World} (h : TIn p av gs S (A ++ e :: B) w) : ∃ ga g gb S1, gs = ga ++ g :: gb ∧ ga.length = A.length ∧ EAt g e S1 w ∧ (∀ b, S1 b → S b) ∧
    (∀ w' e' S1', EAt g e' S1' w' → Mod w w' S1 → (∀ b, S1' b → S1 b ∨ w.heap.size ≤ b) → ∃ S', TIn p av gs S' (A ++ e' :: B) w' ∧ Mod w w' (TrS p av S) ∧ ∀ b, TrS p av S' b → TrS p av S b ∨ w.heap.size ≤ b) := by
  obtain ⟨ga, g, gb, S1, h1, h2, h3, h4, h5⟩ := h.each.mid
  refine ⟨ga, g, gb, S1, h1, h2, h3, h4, fun w' e' S1' k1 k2 k3 => ?_⟩
  obtain ⟨S', h6, h7⟩ := h5 w' e' S1' k1 k2 k3
  have hap := h.apart
  refine ⟨S', ⟨(k2.block p h.box.lt fun h9 => hap.1 (h4 _ h9)).trans h.box, own_keep h.row fun b hb => k2.block b (own_blk h.row hb).2.1 fun h9 => (hap.2 b hb).1 (h4 _ h9), h6⟩, k2.mono fun b _ hb => .inr (.inr (h4 b hb)), fun b hb => ?_⟩
  rcases hb with rfl | hb | hb
  · exact .inl (.inl rfl)
  · exact .inl (.inr (.inl hb))
  · exact (h7 b hb).imp (fun h => .inr (.inr h)) id
end Tm
end Go.Proofs.Ytpblhdpnmnfieaa

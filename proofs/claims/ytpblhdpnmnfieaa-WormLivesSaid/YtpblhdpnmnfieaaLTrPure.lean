/-
  OWN WORK. Trees: plain mathematics: what each call answers and leaves.
-/
import Derived.Test.YtpblhdpnmnfieaaL02
import Derived.Test.YtpblhdpnmnfieaaLPaPure
import Derived.Test.YtpblhdpnmnfieaaLBaStrs
namespace Go.Proofs.Ytpblhdpnmnfieaa
open Go.RowKit
namespace Tr
/-- A name, and its node. -/
abbrev Nm := Bs × Int
/-- A node, its bytes, its names. -/
structure En where
  nd : Nd
  data : Bs
  names : List Nm
abbrev T := List En
/-! Texts in their order. -/
def less (a b : Bs) : Bool := Op.bytesLess a b
theorem less_eq : ∀ (a b : Bs), less a b = decide (a < b)
  | [], [] => by simp [less, Op.bytesLess]
  | _ :: _, [] => by simp [less, Op.bytesLess]
  | [], _ :: _ => by simp [less, Op.bytesLess]
  | a :: x, b :: y => by
    have h := less_eq x y
    unfold less at h ⊢
    rw [Op.bytesLess, h]
    by_cases h1 : a < b
    · simp [h1, List.cons_lt_cons_iff]
    · by_cases h2 : a = b
      · subst h2; simp [List.cons_lt_cons_iff]
      · simp [h1, h2, List.cons_lt_cons_iff]
theorem less_self (a : Bs) : less a a = false := by rw [less_eq]; simp
theorem less_trans {a b c : Bs} (h : less a b = true) (k : less b c = true) : less a c = true := by
  rw [less_eq] at *
  simp only [decide_eq_true_eq] at *
  exact List.lt_trans h k
theorem less_asym {a b : Bs} (h : less a b = true) : less b a = false := by
  cases k : less b a
  · rfl
  · have := less_trans h k
    rw [less_self] at this
    cases this
theorem less_tri {a b : Bs} (h : less a b = false) (k : less b a = false) : a = b := by
  rw [less_eq] at *
  simp only [decide_eq_false_iff_not] at *
  exact List.le_antisymm k h
theorem less_ne {a b : Bs} (h : less a b = true) : a ≠ b := by
  rintro rfl
  rw [less_self] at h
  cases h
/-! Names of one directory. -/
def get (l : List Nm) (x : Bs) : Option Int := (l.find? fun n => n.1 == x).map (·.2)
def ins (l : List Nm) (x : Bs) (k : Int) : List Nm :=
  match l with
  | [] => [(x, k)]
  | n :: l => if less n.1 x then n :: ins l x k else (x, k) :: n :: l
def del (l : List Nm) (x : Bs) : List Nm := l.filter fun n => !(n.1 == x)
def strike (l : List Nm) (k : Int) : List Nm := l.filter fun n => !(n.2 == k)
/-! Nodes by their ID. -/
def find (t : T) (i : Int) : Option En := t.find? fun e => e.nd.id == i
def kids (t : T) (i : Int) : List Nm := ((find t i).map (·.names)).getD []
def ndOf (t : T) (i : Int) : Nd := ((find t i).map (·.nd)).getD Nd.zero
def kindOf (t : T) (i : Int) : Int := (ndOf t i).kind
def upd (t : T) (i : Int) (f : En → En) : T := t.map fun e => if e.nd.id == i then f e else e
def remove (t : T) (i : Int) : T := t.filter fun e => !(e.nd.id == i)
def insE (t : T) (n : En) : T :=
  match t with
  | [] => [n]
  | e :: t => if e.nd.id < n.nd.id then e :: insE t n else n :: e :: t
def freeFrom : Int → T → Int
  | i, [] => i
  | i, e :: t => if e.nd.id = i then freeFrom (i + 1) t else i
def free (t : T) : Int := freeFrom 0 t
def put (t : T) (d : Int) (x : Bs) (k : Int) : T := upd t d fun e => { e with names := ins e.names x k }
def cut (t : T) (d : Int) (x : Bs) : T := upd t d fun e => { e with names := del e.names x }
def more (t : T) (i : Int) (by_ : Int) : T := upd t i fun e => { e with nd := { e.nd with links := e.nd.links + by_ } }
def fresh (id kind : Int) : En := ⟨⟨id, kind, 1, 0, 0, kind == 2⟩, [], []⟩
def new : T := [fresh 0 2]
/-! Paths. -/
def formed (p : List Bs) : Nat := if p.all Pa.good then (if 8 < p.length then 3 else 0) else 12
def lookF (t : T) : Int → List Bs → Int × Nat
  | i, [] => (i, 0)
  | i, x :: p => if kindOf t i ≠ 2 then (0, 23) else match get (kids t i) x with
    | none => (0, 20)
    | some k => lookF t k p
def look (t : T) (p : List Bs) : Int × Nat := if formed p ≠ 0 then (0, formed p) else lookF t 0 p
/-- The directory of a path's last name, and that name. -/
def place (t : T) (p : List Bs) : Int × Bs × Nat :=
  if p = [] then (0, [], 1)
  else if (lookF t 0 p.dropLast).2 ≠ 0 then (0, [], (lookF t 0 p.dropLast).2)
  else if kindOf t (lookF t 0 p.dropLast).1 ≠ 2 then (0, [], 23)
  else ((lookF t 0 p.dropLast).1, p.getLastD [], 0)
/-- How deep it goes below a node. -/
def high (t : T) : Nat → Int → Nat
  | 0, _ => 0
  | n + 1, i => (kids t i).foldl (fun m k => max m (1 + high t n k.2)) 0
/-- All names below a node, those ahead of each with it. -/
def walk (t : T) : Nat → Int → List Bs → List (List Bs × Int)
  | 0, _, _ => []
  | n + 1, i, p => (kids t i).flatMap fun k => (p ++ [k.1], k.2) :: walk t n k.2 (p ++ [k.1])
def within (l of_ : List Bs) : Bool := of_.isPrefixOf l
/-- A path into a list of paths that rise by what is joined of them. -/
def insP (l : List (List Bs)) (p : List Bs) : List (List Bs) :=
  match l with
  | [] => [p]
  | q :: l => if less (Pa.join q) (Pa.join p) then q :: insP l p else p :: q :: l
def sortP (l : List (List Bs)) : List (List Bs) := l.foldl insP []
def namesOf (t : T) (i : Int) : List (List Bs) := if i = 0 then [[]] else sortP (((walk t 64 0 []).filter fun q => q.2 == i).map (·.1))
/-! The calls. -/
def make (t : T) (p : List Bs) (kind : Int) : (Int × Nat) × T :=
  if formed p ≠ 0 then ((0, formed p), t)
  else if kind ≠ 1 ∧ kind ≠ 2 then ((0, 30), t)
  else if (place t p).2.2 ≠ 0 then ((0, (place t p).2.2), t)
  else if (get (kids t (place t p).1) (place t p).2.1).isSome then ((0, 21), t)
  else if 64 ≤ t.length then ((0, 4), t)
  else ((free t, 0), put (insE t (fresh (free t) kind)) (place t p).1 (place t p).2.1 (free t))
def node (t : T) (i : Int) : Nd × Bool := (ndOf t i, (find t i).isSome)
def list (t : T) (i : Int) : List Bs × Nat :=
  if (find t i).isNone then ([], 20)
  else if kindOf t i ≠ 2 then ([], 23)
  else ((kids t i).map (·.1), 0)
def link (t : T) (p z : List Bs) : Nat × T :=
  if formed p ≠ 0 then (formed p, t)
  else if formed z ≠ 0 then (formed z, t)
  else if (lookF t 0 p).2 ≠ 0 then ((lookF t 0 p).2, t)
  else if kindOf t (lookF t 0 p).1 = 2 then (22, t)
  else if (place t z).2.2 ≠ 0 then ((place t z).2.2, t)
  else if (get (kids t (place t z).1) (place t z).2.1).isSome then (21, t)
  else if 64 ≤ (ndOf t (lookF t 0 p).1).links then (4, t)
  else (0, more (put t (place t z).1 (place t z).2.1 (lookF t 0 p).1) (lookF t 0 p).1 1)
def unlinked (t : T) (p : List Bs) : T := more (cut t (place t p).1 (place t p).2.1) (lookF t 0 p).1 (-1)
def unlink (t : T) (p : List Bs) : Nat × T :=
  if formed p ≠ 0 then (formed p, t)
  else if (lookF t 0 p).2 ≠ 0 then ((lookF t 0 p).2, t)
  else if kindOf t (lookF t 0 p).1 = 2 then (22, t)
  else if (ndOf t (lookF t 0 p).1).links = 1 ∧ (ndOf t (lookF t 0 p).1).shut = true then (0, remove (unlinked t p) (lookF t 0 p).1)
  else (0, unlinked t p)
def rmdir (t : T) (p : List Bs) : Nat × T :=
  if formed p ≠ 0 then (formed p, t)
  else if (lookF t 0 p).2 ≠ 0 then ((lookF t 0 p).2, t)
  else if kindOf t (lookF t 0 p).1 ≠ 2 then (23, t)
  else if p = [] then (1, t)
  else if kids t (lookF t 0 p).1 ≠ [] then (24, t)
  else (0, remove (cut t (place t p).1 (place t p).2.1) (lookF t 0 p).1)
def rename (t : T) (p z : List Bs) : Nat × T :=
  if formed p ≠ 0 then (formed p, t)
  else if formed z ≠ 0 then (formed z, t)
  else if (lookF t 0 p).2 ≠ 0 then ((lookF t 0 p).2, t)
  else if p = [] then (1, t)
  else if (place t z).2.2 ≠ 0 then ((place t z).2.2, t)
  else if kindOf t (lookF t 0 p).1 = 2 ∧ within z p = true then (1, t)
  else if get (kids t (place t z).1) (place t z).2.1 = some (lookF t 0 p).1 then (0, t)
  else if (get (kids t (place t z).1) (place t z).2.1).isSome then (21, t)
  else if 8 < z.length + high t 64 (lookF t 0 p).1 then (3, t)
  else (0, put (cut t (place t p).1 (place t p).2.1) (place t z).1 (place t z).2.1 (lookF t 0 p).1)
/-- The number of the refusal, if the node is no file. -/
def file (t : T) (i : Int) : Nat := if (find t i).isNone then 20 else if kindOf t i = 2 then 22 else 0
def append (t : T) (i : Int) (b : Bs) : Nat × T :=
  if file t i ≠ 0 then (file t i, t)
  else if (ndOf t i).shut = true then (27, t)
  else if 4096 - (ndOf t i).size < (b.length : Int) then (15, t)
  else (0, upd t i fun e => { e with data := e.data ++ b, nd := { e.nd with size := ((e.data ++ b).length : Nat) } })
def dataOf (t : T) (i : Int) : Bs := ((find t i).map (·.data)).getD []
def read (t : T) (i at_ n : Int) : Bs × Nat :=
  if file t i ≠ 0 then ([], file t i)
  else if at_ < 0 ∨ n < 0 then ([], 1)
  else (((dataOf t i).drop at_.toNat).take n.toNat, 0)
def shutE (until_ : Nat) (e : En) : En := { e with nd := { e.nd with shut := true, till := until_ } }
def seal_ (t : T) (i : Int) (until_ : Nat) : Nat × T :=
  if file t i ≠ 0 then (file t i, t)
  else if (ndOf t i).shut = true then (27, t)
  else if 1099511627776 < until_ then (1, t)
  else if (ndOf t i).links = 0 then (0, remove (upd t i (shutE until_)) i)
  else (0, upd t i (shutE until_))
def keep (t : T) (i : Int) (until_ : Nat) : Nat × T :=
  if file t i ≠ 0 then (file t i, t)
  else if (ndOf t i).shut = false then (25, t)
  else if until_ < (ndOf t i).till then (28, t)
  else if 1099511627776 < until_ then (1, t)
  else (0, upd t i fun e => { e with nd := { e.nd with till := until_ } })
def drop (t : T) (i : Int) : Nat × T :=
  if file t i ≠ 0 then (file t i, t)
  else if (ndOf t i).shut = true then (27, t)
  else (0, remove (t.map fun e => { e with names := strike e.names i }) i)
/-! As bytes. -/
def nameBytes (n : Nm) : Bs := Co.wBytes n.1 ++ Co.wShort (Nd.lo16 n.2)
def enBytes (e : En) : Bs := Co.wBytes e.nd.bytes ++ (Co.wBytes e.data ++ (Co.wShort e.names.length ++ e.names.flatMap nameBytes))
def save (t : T) : Bs := Co.wShort t.length ++ t.flatMap enBytes
/-! What is right. -/
structure EnOk (e : En) : Prop where
  nd : e.nd.Right
  size : e.nd.size = (e.data.length : Nat)
  rise : e.names.Pairwise fun a b => less a.1 b.1 = true
  good : ∀ n ∈ e.names, Pa.good n.1 = true
  file : e.nd.kind = 1 → e.names = []
/-- All names: the directory, the text, the node. -/
def flat (t : T) : List (Int × Nm) := t.flatMap fun e => e.names.map fun n => (e.nd.id, n)
def count (t : T) (i : Int) : Nat := (flat t).countP fun x => x.2.2 == i
structure Good (t : T) : Prop where
  root : ∃ r rest, t = r :: rest ∧ r.nd.id = 0 ∧ r.nd.kind = 2
  rise : t.Pairwise fun a b => a.nd.id < b.nd.id
  few : t.length ≤ 64
  each : ∀ e ∈ t, EnOk e
  leads : ∀ e ∈ t, ∀ n ∈ e.names, n.2 ≠ 0 ∧ (find t n.2).isSome = true
  linked : ∀ e ∈ t, (count t e.nd.id : Int) + (if e.nd.id = 0 then 1 else 0) = e.nd.links
  dirs : ∀ e ∈ t, e.nd.kind = 2 → e.nd.links = 1
  shut : ∀ e ∈ t, e.nd.shut = true → e.nd.links ≠ 0
  deep : ∃ dep : Int → Nat, dep 0 = 0 ∧ ∀ e ∈ t, ∀ n ∈ e.names, dep e.nd.id + 1 ≤ 8 ∧ (kindOf t n.2 = 2 → dep n.2 = dep e.nd.id + 1)
end Tr
end Go.Proofs.Ytpblhdpnmnfieaa

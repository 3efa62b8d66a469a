/-
  OWN WORK. The statement TreeBack holds of the code at this commit, for all of its arguments: a tree comes back from its bytes; it goes on as the other one; no condition beside the statement's own.
-/
import Derived.Test.YtjoedamiilgajaaGreatW14
import Derived.Test.YtjoedamiilgajaaGreatWTwBack
namespace Go.Proofs.YtjoedamiilgajaaGreat
open Go.ChangeShapes Go.WideShapes Go.RowKit Go.Deep
open Go.ChangeMaps (open_string shut_string)
set_option maxRecDepth 100000 in
theorem treeBack_lifted (os:Os) (started:os.Started) (H:Type) (enc:TypeId × Value→H) :
    ReturnsInHanded {} Tryz.checked os 5 .any (fun w args=>(Rows.treeBackSpec.pre enc Tryz.prog Tryz.f5 [] false w args∧True)∧sizedMet enc Tryz.prog Tryz.f5 (OpenSpec.ofChange Rows.treeBackSpec) false w args)
     (Rows.treeBackSpec.post enc Tryz.prog Tryz.f5 false true false false):=by
 refine returnsInHanded_of_change_and (C:=Tryz.checked) (X:=fun w _=>True) (fun _ _ _ hh h=>h) Tryz.own started (by kernel_rfl) Tryz.func5
  (ChangeSpec.witness_at (enc:=enc) (C:=Tryz.checked) (os:=os) (X:=fun w _=>True) false (World.holding Tryz.prog os ⟨#[],#[],[]⟩) #[.slice none 0 0,.slice none 0 0] 8 rfl (by kernel_rfl) (by kernel_rfl) (by kernel_rfl) (by kernel_rfl) (by kernel_rfl) trivial) ?_
 intro W base args ds gs before hval0 hW _ _ hL _
 have hval:∀ (j:Nat) t v,Tryz.f5.params[j]?=some t→args[j]?=some v→Value.okWide Tryz.prog W .any base t v:=hval0
 have hW':=hW
 obtain ⟨p,q,hA0,hV0,rfl,hfz,hnd⟩:=hW
 have hA:DataW.TrodAll enc Tryz.prog W 0 (fun _=>true) true Tryz.f5.params.toList args.toList ds p:=hA0
 have hV:DataW.TrodVars enc Tryz.prog W (fun _=>true) [] gs q:=hV0
 rw [Tryz.params5] at hA hval
 obtain ⟨v0,v1,d0,d1,p0,p1,rfl,rfl,rfl,h0,h1⟩:=trodAll_two hA
 obtain ⟨rfl,rfl⟩:gs=[]∧q=[]:=by
  cases gs with
  | nil=>exact ⟨rfl,hV⟩
  | cons g r=>exact absurd hV (by intro h;cases h)
 obtain ⟨a0,len0,cap0,rfl⟩:=okWide_slice Tryz.underlying53 (hval 0 53 v0 rfl rfl)
 have h0k:=h0
 obtain ⟨a1,len1,cap1,rfl⟩:=okWide_slice Tryz.underlying53 (hval 1 53 v1 rfl rfl)
 have h1k:=h1
 simp only [List.append_nil,List.nil_append] at hW'
 have hlt0:∀ x ∈ p0,x.block<W.heap.size:=fun x hx=>by simpa using hW'.lt x (by simp [hx])
 have hlt1:∀ x ∈ p1,x.block<W.heap.size:=fun x hx=>by simpa using hW'.lt x (by simp [hx])
 obtain ⟨fuel0,hf0⟩:=h0
 obtain ⟨l0,A0,c0,e0,hc0,hb0,hr0⟩:=asksT_of (by simpa [Value.cells] using hf0)
 rw [e0] at h0k hW' ⊢
 obtain ⟨fuel1,hf1⟩:=h1
 obtain ⟨l1,A1,c1,e1,hc1,hb1,hr1⟩:=asksT_of (by simpa [Value.cells] using hf1)
 rw [e1] at h1k hW' ⊢
 refine (Tw.back_any W l0 A0 c0 l1 A1 c1 hr0 hb0 hr1 hb1).mono fun e W' ⟨he,hb⟩=>?_
 subst he
 refine ⟨_,rfl,_,_,_,[],p0++p1,[],hW',?_,?_,?_,hb.frame _,fun h=>by cases h⟩
 ·exact trodAll_mk1 (shut_bool Tryz.underlying4 true)
 ·exact trodAll_mk2 (Below.trod Tryz.laidOut (by kernel_rfl) (of_decide_eq_true (by kernel_rfl)) h0k hb hlt0) (Below.trod Tryz.laidOut (by kernel_rfl) (of_decide_eq_true (by kernel_rfl)) h1k hb hlt1)
 ·rfl
theorem treeBack_proved:Rows.TreeBackSaid :=
 OpenClaim.holds_of_wide 5 Tryz.f5 rfl rfl rfl rfl rfl rfl rfl ⟨rfl,rfl,rfl,rfl,rfl⟩ rfl rfl rfl rfl rfl (by kernel_rfl) Tryz.func5 (by kernel_rfl)
  (of_decide_eq_true (by kernel_rfl)) (by unfold Func.isWrapper;rw [if_neg (of_decide_eq_false (by kernel_rfl))];exact ⟨rfl,rfl⟩)
  (fun os started H enc _=>(by have h:=treeBack_lifted os started H enc;simp only [and_true] at h;exact h))
end Go.Proofs.YtjoedamiilgajaaGreat

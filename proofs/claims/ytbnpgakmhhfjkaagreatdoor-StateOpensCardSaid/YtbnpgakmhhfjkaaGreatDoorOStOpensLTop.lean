/-
  OWN WORK. The statement StateOpens holds of the code at this commit, for all of its arguments: descriptors are the least that is free; so many may be open; closed, each is free again; no condition beside the statement's own.
-/
import Derived.Test.YtbnpgakmhhfjkaaGreatDoorO02
import Derived.Test.YtbnpgakmhhfjkaaGreatDoorO19
import Derived.Test.YtbnpgakmhhfjkaaGreatDoorCards
import Derived.Test.YtbnpgakmhhfjkaaGreatDoorTie
import Derived.SevenTiedAt
namespace Go.Proofs.YtbnpgakmhhfjkaaGreatDoor
open Go.ChangeShapes Go.WideShapes Go.RowKit Go.Deep
open Go.ChangeMaps (open_string shut_string)
set_option maxRecDepth 100000 in
theorem stateOpens_lifted (os:Os) (started:os.Started) (H:Type) (enc:TypeId × Value→H) :
    ReturnsInHanded {} Tryz.checked os 8 .any (fun w args=>(Rows.stateOpensSpec.pre enc Tryz.prog Tryz.f8 [] false w args∧laidMetH Tryz.prog [("permafrost/sha.roundWords",Rows.laid_permafrost_sha_roundWords)] w)∧sizedMet enc Tryz.prog Tryz.f8 (OpenSpec.ofChange Rows.stateOpensSpec) false w args)
     (Rows.stateOpensSpec.post enc Tryz.prog Tryz.f8 false true false false):=by
 refine returnsInHanded_of_change_and (C:=Tryz.checked) (X:=fun w _=>laidMetH Tryz.prog [("permafrost/sha.roundWords",Rows.laid_permafrost_sha_roundWords)] w) (fun _ _ _ hh h=>h.of_heap hh) Tryz.own started (by kernel_rfl) Tryz.func8
  (ChangeSpec.witness_at (enc:=enc) (C:=Tryz.checked) (os:=os) (X:=fun w _=>laidMetH Tryz.prog [("permafrost/sha.roundWords",Rows.laid_permafrost_sha_roundWords)] w) false (laidWorld os) #[.int .i64 0,.slice none 0 0] 8 rfl (by kernel_rfl) (by kernel_rfl) (by kernel_rfl) (by kernel_rfl) (by kernel_rfl) (laidWorld_met os _)) ?_
 intro W base args ds gs before hval0 hW _ _ hL _
 have hval:∀ (j:Nat) t v,Tryz.f8.params[j]?=some t→args[j]?=some v→Value.okWide Tryz.prog W .any base t v:=hval0
 have hW':=hW
 obtain ⟨p,q,hA0,hV0,rfl,hfz,hnd⟩:=hW
 have hA:DataW.TrodAll enc Tryz.prog W 0 (fun _=>true) true Tryz.f8.params.toList args.toList ds p:=hA0
 have hV:DataW.TrodVars enc Tryz.prog W (fun _=>true) [] gs q:=hV0
 rw [Tryz.params8] at hA hval
 obtain ⟨v0,v1,d0,d1,p0,p1,rfl,rfl,rfl,h0,h1⟩:=trodAll_two hA
 have hK:KAt W:=kat_of_laid hL
 obtain ⟨rfl,rfl⟩:gs=[]∧q=[]:=by
  cases gs with
  | nil=>exact ⟨rfl,hV⟩
  | cons g r=>exact absurd hV (by intro h;cases h)
 obtain ⟨n0,rfl,rfl,rfl,wf0⟩:=open_int Tryz.underlying3 (hval 0 3 v0 rfl rfl) h0
 have bd0:=bounds_i64 wf0
 obtain ⟨a1,len1,cap1,rfl⟩:=okWide_slice Tryz.underlying50 (hval 1 50 v1 rfl rfl)
 have h1k:=h1
 simp only [List.append_nil,List.nil_append] at hW'
 have hlt1:∀ x ∈ p1,x.block<W.heap.size:=fun x hx=>by simpa using hW'.lt x (by simp [hx])
 obtain ⟨fuel1,hf1⟩:=h1
 obtain ⟨l1,A1,c1,e1,hc1,hb1,hr1⟩:=ints_of (by simpa [Value.cells] using hf1)
 rw [e1] at h1k hW' ⊢
 refine (Sm.opens_any W n0 bd0 A1 l1 c1 hr1 hc1 hb1 hK).mono fun e W' ⟨he,hb⟩=>?_
 subst he
 refine ⟨_,rfl,_,_,_,[],[]++p1,[],hW',?_,?_,?_,hb.frame _,fun h=>by cases h⟩
 ·exact trodAll_mk1 (shut_bool Tryz.underlying4 true)
 ·exact trodAll_mk2 (shut_int Tryz.underlying3 wf0) (Below.trod Tryz.laidOut (by kernel_rfl) (of_decide_eq_true (by kernel_rfl)) h1k hb hlt1)
 ·rfl
theorem StateOpens_said:Rows.StateOpensSaid :=
 OpenClaim.holds_of_wide 8 Tryz.f8 rfl rfl rfl rfl rfl rfl rfl ⟨rfl,rfl,rfl,rfl,rfl⟩ rfl rfl rfl rfl rfl (by kernel_rfl) Tryz.func8 (by kernel_rfl)
  (of_decide_eq_true (by kernel_rfl)) (by unfold Func.isWrapper;rw [if_neg (of_decide_eq_false (by kernel_rfl))];exact ⟨rfl,rfl⟩)
  (fun os started H enc _=>stateOpens_lifted os started H enc)
theorem stateOpens_proved:Rows.StateOpensCardSaid :=
 Claim7.holds_tied_plain_at .later [] [.data] true (true,"fa244c240cac89cf04736cf4a53074f352079f6541d25868a7293bb10dbed22c") false
  StateOpens_said (fun _ h=>by cases h) (by kernel_rfl) (fun _ h=>by cases h) stateOpens_row_tie rfl ⟨rfl,rfl⟩ (by kernel_rfl) rfl
  (fun f fn hf hfn=>by
   obtain rfl:f=8:=Option.some.inj ((show Tryz.prog.funcNamed "permafrost/permafrostlaw14.StateOpens"=some 8 by kernel_rfl).symm.trans hf) |>.symm
   obtain rfl:fn=Tryz.f8:=(Option.some.inj (Tryz.func8.symm.trans hfn)).symm
   exact ⟨by kernel_rfl,fun j t ht=>by
    rw [Tryz.params8] at ht
    have hj:j<2:=by
     have:=(Array.getElem?_eq_some_iff.1 ht).1
     simpa using this
    have hall:∀ k,k<2→∀ u,(#[3,50]:Array TypeId)[k]?=some u→Tryz.prog.wantsStandIn u=false:=by
     intro k hk u hu
     match k,hk with
     | 0,_=>obtain rfl:3=u:=by simpa using hu
            exact (show Tryz.prog.wantsStandIn 3=false by kernel_rfl)
     | 1,_=>obtain rfl:50=u:=by simpa using hu
            exact (show Tryz.prog.wantsStandIn 50=false by kernel_rfl)
    exact hall j hj t ht
   ⟩)
  (by kernel_rfl)
end Go.Proofs.YtbnpgakmhhfjkaaGreatDoor

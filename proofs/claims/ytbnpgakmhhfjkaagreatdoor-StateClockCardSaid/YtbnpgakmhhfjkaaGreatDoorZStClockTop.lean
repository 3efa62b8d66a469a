/-
  OWN WORK. The statement StateClock holds of the code at this commit, for all of its arguments: the clock never goes back, and nothing but a Tick moves it; no condition beside the statement's own.
-/
import Derived.Test.YtbnpgakmhhfjkaaGreatDoorZ02
import Derived.Test.YtbnpgakmhhfjkaaGreatDoorZStClock
import Derived.Test.YtbnpgakmhhfjkaaGreatDoorCards
import Derived.Test.YtbnpgakmhhfjkaaGreatDoorTie
import Derived.SevenTiedAt
namespace Go.Proofs.YtbnpgakmhhfjkaaGreatDoor
open Go.ChangeShapes Go.WideShapes Go.RowKit Go.Deep
open Go.ChangeMaps (open_string shut_string)
set_option maxRecDepth 100000 in
theorem stateClock_lifted (os:Os) (started:os.Started) (H:Type) (enc:TypeId × Value→H) :
    ReturnsInHanded {} Tryz.checked os 7 .any (fun w args=>(Rows.stateClockSpec.pre enc Tryz.prog Tryz.f7 [] false w args∧laidMetH Tryz.prog [("permafrost/sha.roundWords",Rows.laid_permafrost_sha_roundWords)] w)∧sizedMet enc Tryz.prog Tryz.f7 (OpenSpec.ofChange Rows.stateClockSpec) false w args)
     (Rows.stateClockSpec.post enc Tryz.prog Tryz.f7 false true false false):=by
 refine returnsInHanded_of_change_and (C:=Tryz.checked) (X:=fun w _=>laidMetH Tryz.prog [("permafrost/sha.roundWords",Rows.laid_permafrost_sha_roundWords)] w) (fun _ _ _ hh h=>h.of_heap hh) Tryz.own started (by kernel_rfl) Tryz.func7
  (ChangeSpec.witness_at (enc:=enc) (C:=Tryz.checked) (os:=os) (X:=fun w _=>laidMetH Tryz.prog [("permafrost/sha.roundWords",Rows.laid_permafrost_sha_roundWords)] w) false (laidWorld os) #[.slice none 0 0] 8 rfl (by kernel_rfl) (by kernel_rfl) (by kernel_rfl) (by kernel_rfl) (by kernel_rfl) (laidWorld_met os _)) ?_
 intro W base args ds gs before hval0 hW _ _ hL _
 have hval:∀ (j:Nat) t v,Tryz.f7.params[j]?=some t→args[j]?=some v→Value.okWide Tryz.prog W .any base t v:=hval0
 have hW':=hW
 obtain ⟨p,q,hA0,hV0,rfl,hfz,hnd⟩:=hW
 have hA:DataW.TrodAll enc Tryz.prog W 0 (fun _=>true) true Tryz.f7.params.toList args.toList ds p:=hA0
 have hV:DataW.TrodVars enc Tryz.prog W (fun _=>true) [] gs q:=hV0
 rw [Tryz.params7] at hA hval
 obtain ⟨v0,d0,rfl,rfl,h0⟩:=trodAll_one hA
 obtain ⟨p0,hp0⟩:∃ x,x=p:=⟨_,rfl⟩
 subst hp0
 have hK:KAt W:=kat_of_laid hL
 obtain ⟨rfl,rfl⟩:gs=[]∧q=[]:=by
  cases gs with
  | nil=>exact ⟨rfl,hV⟩
  | cons g r=>exact absurd hV (by intro h;cases h)
 obtain ⟨a0,len0,cap0,rfl⟩:=okWide_slice Tryz.underlying22 (hval 0 22 v0 rfl rfl)
 have h0k:=h0
 simp only [List.append_nil] at hW'
 have hlt0:∀ x ∈ p0,x.block<W.heap.size:=fun x hx=>by simpa using hW'.lt x (by simp [hx])
 obtain ⟨fuel0,hf0⟩:=h0
 obtain ⟨l0,A0,c0,e0,hc0,hb0,hr0⟩:=asksO_of (by simpa [Value.cells] using hf0)
 rw [e0] at h0k hW' ⊢
 refine (Sm.clock_any W A0 l0 c0 hr0 hc0 hb0 hK).mono fun e W' ⟨he,hb⟩=>?_
 subst he
 refine ⟨_,rfl,_,_,_,[],p0,[],hW',?_,?_,?_,hb.frame _,fun h=>by cases h⟩
 ·exact trodAll_mk1 (shut_bool Tryz.underlying4 true)
 ·exact trodAll_mk1 (Below.trod Tryz.laidOut (by kernel_rfl) (of_decide_eq_true (by kernel_rfl)) h0k hb hlt0)
 ·rfl
theorem StateClock_said:Rows.StateClockSaid :=
 OpenClaim.holds_of_wide 7 Tryz.f7 rfl rfl rfl rfl rfl rfl rfl ⟨rfl,rfl,rfl,rfl,rfl⟩ rfl rfl rfl rfl rfl (by kernel_rfl) Tryz.func7 (by kernel_rfl)
  (of_decide_eq_true (by kernel_rfl)) (by unfold Func.isWrapper;rw [if_neg (of_decide_eq_false (by kernel_rfl))];exact ⟨rfl,rfl⟩)
  (fun os started H enc _=>stateClock_lifted os started H enc)
theorem stateClock_proved:Rows.StateClockCardSaid :=
 Claim7.holds_tied_plain_at .later [] [.data] true (true,"fa244c240cac89cf04736cf4a53074f352079f6541d25868a7293bb10dbed22c") false
  StateClock_said (fun _ h=>by cases h) (by kernel_rfl) (fun _ h=>by cases h) stateClock_row_tie rfl ⟨rfl,rfl⟩ (by kernel_rfl) rfl
  (fun f fn hf hfn=>by
   obtain rfl:f=7:=Option.some.inj ((show Tryz.prog.funcNamed "permafrost/permafrostlaw14.StateClock"=some 7 by kernel_rfl).symm.trans hf) |>.symm
   obtain rfl:fn=Tryz.f7:=(Option.some.inj (Tryz.func7.symm.trans hfn)).symm
   exact ⟨by kernel_rfl,fun j t ht=>by
    rw [Tryz.params7] at ht
    have hj:j<1:=by
     have:=(Array.getElem?_eq_some_iff.1 ht).1
     simpa using this
    have hall:∀ k,k<1→∀ u,(#[22]:Array TypeId)[k]?=some u→Tryz.prog.wantsStandIn u=false:=by
     intro k hk u hu
     match k,hk with
     | 0,_=>obtain rfl:22=u:=by simpa using hu
            exact (show Tryz.prog.wantsStandIn 22=false by kernel_rfl)
    exact hall j hj t ht
   ⟩)
  (by kernel_rfl)
end Go.Proofs.YtbnpgakmhhfjkaaGreatDoor

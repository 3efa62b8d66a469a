/-
  OWN WORK. The rules: law 14's run with a snapshot: plain mathematics.
-/
import Derived.Test.YtbnpgakmhhfjkaaGreatDoorZStOne
namespace Go.Proofs.YtbnpgakmhhfjkaaGreatDoor
open Go.RowKit Rc
open Tr (Nm En T)
namespace St
def opnS (kind:Int) (p:Bs) (k:Int):Opn:=⟨kind,p,[],0,0,0,0,k,[]⟩
def sn (H d:Bs) (u:Nat):Sn.Snaps:=⟨[⟨1,H,fA d u true⟩],2,H⟩
def sq (t:T) (l:Sn.Snaps) (now:Nat) (f:Fd):State:=⟨t,l,now,f :: List.replicate 7 .free⟩
variable (d H:Bs) (u now:Nat) (t:T)
def hashOf (d:Bs) (u:Nat):Bs:=Sh.sum (Sn.new.last++Tr.save (Tr.committed (fA d u true)))
theorem sn_take:do_ (one d u true .free) (opnS 14 [] 0)=(num 1,sq (fA d u true) (sn (hashOf d u) d u) 0 .free):=by
 have h:Sn.take (one d u true .free).snaps (one d u true .free).tree=((1,0),sn (hashOf d u) d u):=by
  show Sn.take Sn.new (fA d u true)=_
  rw [Sn.take_one (by decide)]
  rfl
 show ((⟨(Sn.take (one d u true .free).snaps (one d u true .free).tree).1.2,(Sn.take (one d u true .free).snaps (one d u true .free).tree).1.1,[],[],Nd.zero⟩:Rep),({ (one d u true .free) with snaps:=(Sn.take (one d u true .free).snaps (one d u true .free).tree).2 }:State))=_
 rw [h]
 rfl
theorem sn_tick (l:Sn.Snaps) (hn:now≤1099511627776):do_ (sq t l 0 .free) (opn 16 [] 0 now [])=(no 0,sq t l now .free):=by
 have h:tick 0 now=now:=by
  unfold tick
  rw [if_pos hn]
  split <;> omega
 show (no 0,({ (sq t l 0 .free) with now:=tick 0 now }:State))=_
 rw [h]
 rfl
theorem sn_unlink_kept (l:Sn.Snaps) (h:now<u):do_ (sq (fA d u true) l now .free) (opn 8 [47,97] 0 0 [])=(no 28,sq (fA d u true) l now .free):=by
 show (no (unlink (sq (fA d u true) l now .free) [[97]]).1,(unlink (sq (fA d u true) l now .free) [[97]]).2)=_
 have hn:lookN (sq (fA d u true) l now .free).tree [[97]]=(⟨1,1,1,(d.length:Nat),u,true⟩,0):=rfl
 have hw:Wo.remove ⟨1,1,1,(d.length:Nat),u,true⟩ (sq (fA d u true) l now .free).now=28:=by
  unfold Wo.remove
  rw [if_neg (fun h=>h rfl),if_neg (fun h=>by rcases h with h|h <;> cases h)]
  exact if_pos h
 have hc:unlink (sq (fA d u true) l now .free) [[97]]=(28,sq (fA d u true) l now .free):=by
  unfold unlink
  rw [hn,if_neg (fun h=>h rfl),hw,if_pos (by decide)]
 rw [hc]
theorem sn_unlink_due (l:Sn.Snaps) (h:¬ now<u):do_ (sq (fA d u true) l now .free) (opn 8 [47,97] 0 0 [])=(no 0,sq Tr.new l now .free):=by
 show (no (unlink (sq (fA d u true) l now .free) [[97]]).1,(unlink (sq (fA d u true) l now .free) [[97]]).2)=_
 have hn:lookN (sq (fA d u true) l now .free).tree [[97]]=(⟨1,1,1,(d.length:Nat),u,true⟩,0):=rfl
 have hw:Wo.remove ⟨1,1,1,(d.length:Nat),u,true⟩ (sq (fA d u true) l now .free).now=0:=by
  unfold Wo.remove
  rw [if_neg (fun h=>h rfl),if_neg (fun h=>by rcases h with h|h <;> cases h)]
  exact if_neg h
 have hc:unlink (sq (fA d u true) l now .free) [[97]]=(0,sq Tr.new l now .free):=by
  unfold unlink
  rw [hn,if_neg (fun h=>h rfl),hw,if_neg (fun h=>h rfl)]
  rfl
 rw [hc]
theorem sn_open:do_ (sq t (sn H d u) now .free) (opnS 3 [47,97] 1)=(num 0,sq t (sn H d u) now (.r d)):=by
 show openFile (sq t (sn H d u) now .free) [[97]] 1=_
 have ht:treeAt (sq t (sn H d u) now .free) 1=some (fA d u true):=rfl
 have hl:least (sq t (sn H d u) now .free).fds=some 0:=rfl
 have hn:lookN (fA d u true) [[97]]=(⟨1,1,1,(d.length:Nat),u,true⟩,0):=rfl
 have hr:Tr.read (fA d u true) 1 0 (d.length:Nat)=(d,0):=by
  unfold Tr.read
  rw [if_neg (fun h=>h rfl),if_neg (by omega)]
  show (((d.drop 0).take (Int.toNat (d.length:Nat))),0)=_
  rw [List.drop_zero,Int.toNat_natCast,List.take_length]
 unfold openFile
 rw [ht]
 dsimp only
 rw [hl]
 dsimp only
 rw [hn]
 rw [if_neg (fun h=>h rfl),if_neg (fun h=>by cases h),if_neg (fun h=>by cases h),hr]
 rfl
theorem sn_read (l:Sn.Snaps) (hd:d.length≤4096):do_ (sq t l now (.r d)) ⟨4,[],[],0,0,4096,0,0,[]⟩=(⟨0,(d.length:Nat),d,[],Nd.zero⟩,sq t l now (.r d)):=by
 show (readFile (sq t l now (.r d)) ((0:Nat):Int) 0 4096,_)=_
 rw [read_at (j:=0) rfl hd 0 4096 (by decide) (by decide)]
 have:(d.drop (Int.toNat 0)).take (Int.toNat 4096)=d:=by
  show (d.drop 0).take 4096=d
  rw [List.drop_zero,List.take_of_length_le hd]
 rw [this]
theorem sn_live:Wo.live (fA d u true) now=if now<u then [1] else []:=by
 by_cases h:now<u
 ·rw [if_pos h]
  show ((fA d u true).filter fun e=>Wo.kept e.nd now).map (·.nd.id)=_
  have h1:Wo.kept (⟨1,1,1,(d.length:Nat),u,true⟩:Nd) now=true:=by simp [Wo.kept,h]
  have h2:Wo.kept (⟨0,2,1,0,0,true⟩:Nd) now=false:=by simp [Wo.kept]
  simp [fA,h1,h2]
 ·rw [if_neg h]
  show ((fA d u true).filter fun e=>Wo.kept e.nd now).map (·.nd.id)=_
  have h1:Wo.kept (⟨1,1,1,(d.length:Nat),u,true⟩:Nd) now=false:=by simp [Wo.kept];omega
  have h2:Wo.kept (⟨0,2,1,0,0,true⟩:Nd) now=false:=by simp [Wo.kept]
  simp [fA,h1,h2]
theorem sn_forget_kept (h:now<u) (f:Fd):do_ (sq t (sn H d u) now f) (opnS 15 [] 1)=(no 28,sq t (sn H d u) now f):=by
 have hf:Sn.forget (sq t (sn H d u) now f).snaps 1 (sq t (sn H d u) now f).now=(28,sn H d u):=by
  show Sn.forget (sn H d u) 1 now=_
  have hx:(sn H d u).all.find? (fun x=>decide (x.id=1))=some ⟨1,H,fA d u true⟩:=rfl
  unfold Sn.forget
  rw [hx]
  dsimp only
  rw [sn_live,if_pos h,if_pos (by decide)]
 show (no (Sn.forget (sq t (sn H d u) now f).snaps 1 (sq t (sn H d u) now f).now).1,({ (sq t (sn H d u) now f) with snaps:=(Sn.forget (sq t (sn H d u) now f).snaps 1 (sq t (sn H d u) now f).now).2 }:State))=_
 rw [hf]
 rfl
theorem sn_forget_due (h:¬ now<u) (f:Fd):do_ (sq t (sn H d u) now f) (opnS 15 [] 1)=(no 0,sq t ⟨[],2,H⟩ now f):=by
 have hf:Sn.forget (sq t (sn H d u) now f).snaps 1 (sq t (sn H d u) now f).now=(0,⟨[],2,H⟩):=by
  show Sn.forget (sn H d u) 1 now=_
  have hx:(sn H d u).all.find? (fun x=>decide (x.id=1))=some ⟨1,H,fA d u true⟩:=rfl
  unfold Sn.forget
  rw [hx]
  dsimp only
  rw [sn_live,if_neg h,if_neg (by decide)]
  rfl
 show (no (Sn.forget (sq t (sn H d u) now f).snaps 1 (sq t (sn H d u) now f).now).1,({ (sq t (sn H d u) now f) with snaps:=(Sn.forget (sq t (sn H d u) now f).snaps 1 (sq t (sn H d u) now f).now).2 }:State))=_
 rw [hf]
 rfl
theorem sn_stat_kept (f:Fd):do_ (sq t (sn H d u) now f) (opnS 12 [47,97] 1)=(⟨0,0,[],[],⟨1,1,1,(d.length:Nat),u,true⟩⟩,sq t (sn H d u) now f):=rfl
theorem sn_stat_due (f:Fd):do_ (sq t ⟨[],2,H⟩ now f) (opnS 12 [47,97] 1)=(no 29,sq t ⟨[],2,H⟩ now f):=rfl
end St
end Go.Proofs.YtbnpgakmhhfjkaaGreatDoor

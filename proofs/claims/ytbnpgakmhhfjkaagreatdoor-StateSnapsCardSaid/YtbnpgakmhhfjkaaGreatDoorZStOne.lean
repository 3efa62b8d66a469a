/-
  OWN WORK. The rules: one file that is made, written, closed, opened: plain mathematics.
-/
import Derived.Test.YtbnpgakmhhfjkaaGreatDoorZ15
namespace Go.Proofs.YtbnpgakmhhfjkaaGreatDoor
open Go.RowKit Rc
open Tr (Nm En T)
namespace St
def one (d:Bs) (u:Nat) (sh:Bool) (f:Fd):State:=⟨fA d u sh,Sn.new,0,f :: List.replicate 7 .free⟩
theorem one_create:do_ new (opn 1 [47,97] 0 0 [])=(num 0,one [] 0 false (.w 1)):=rfl
theorem one_write (d:Bs) (hd:d.length≤600):do_ (one [] 0 false (.w 1)) (opn 5 [] 0 0 d)=(num (d.length:Nat),one d 0 false (.w 1)):=by
 show writeFile (one [] 0 false (.w 1)) 0 d=_
 have hu:used (one [] 0 false (.w 1)) 0=some (.w 1):=rfl
 have h15:¬ (4096-(Tr.ndOf (fA [] 0 false) 1).size<((d.length:Nat):Int)):=by show ¬ (4096-(0:Int)<_);omega
 have ha:Tr.append (one [] 0 false (.w 1)).tree 1 d=(0,fA d 0 false):=by
  show Tr.append (fA [] 0 false) 1 d=_
  unfold Tr.append
  rw [if_neg (fun h=>h rfl),if_neg (fun h=>by cases h),if_neg h15]
  rfl
 unfold writeFile
 rw [hu]
 dsimp only
 rw [if_neg (by omega),ha,if_neg (fun h=>h rfl)]
 rfl
theorem one_close (d:Bs) (u:Nat) (hu:u≤1099511627776):do_ (one d 0 false (.w 1)) (opn 6 [] 0 u [])=(no 0,one d u true .free):=by
 have hs:Tr.seal_ (one d 0 false (.w 1)).tree 1 u=(0,fA d u true):=by
  show Tr.seal_ (fA d 0 false) 1 u=_
  unfold Tr.seal_
  rw [if_neg (fun h=>h rfl),if_neg (fun h=>by cases h),if_neg (by omega),if_neg (fun h=>by cases h)]
  rfl
 show (no (closeFile (one d 0 false (.w 1)) 0 u).1,(closeFile (one d 0 false (.w 1)) 0 u).2)=_
 have hu':used (one d 0 false (.w 1)) 0=some (.w 1):=rfl
 have hc:closeFile (one d 0 false (.w 1)) 0 u=(0,one d u true .free):=by
  unfold closeFile
  rw [hu']
  dsimp only
  rw [hs,if_neg (fun h=>h rfl)]
  rfl
 rw [hc]
end St
end Go.Proofs.YtbnpgakmhhfjkaaGreatDoor

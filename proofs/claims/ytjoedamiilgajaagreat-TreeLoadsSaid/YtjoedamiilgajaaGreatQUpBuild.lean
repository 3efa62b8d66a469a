/-
  OWN WORK. strings.Builder: what is drawn is told too.
-/
import Derived.Test.YtjoedamiilgajaaGreatQPaBuild
import Derived.Test.YtjoedamiilgajaaGreatQDrMono
set_option maxHeartbeats 2000000
namespace Go.Proofs.YtjoedamiilgajaaGreat
open Go.RowKit
namespace Dr
theorem wpList_app_string {P:Program} {w:World} {ops:Array Oper} {rest:List Oper} {o:Oper} {a:Act} {Q:Exit→Act→World→Prop} (hgd:o.guard=none) (sl x:Operand) (t u:TypeId)
    (ho:o.op=.call { callee:=.builtin .append,args:=#[sl,x],argTypes:=#[t,u] })
    (base:Nat) (e:TypeId) (i:TypeInfo) (ht:P.underlying t=some (.slice e)) (hu:P.underlying u=some .string) (hi:P.info? e=some i) (hz:i.zero=some (.int .u8 0))
    (hsize:i.size=1) (hby:i.bytes=1)
    (v:Value) (n:Nat) (xs:List Value) (hs:a.eval sl=v) (hown:w.ownsRow base e 1 v n xs) (s:ByteArray) (hx:a.eval x=.string s)
    (h63:n+s.size≤maxLen) (hbytes:n+s.size≤140737488355328) (hbase:base≤w.heap.size)
    (h:∀ v' w',w'.ownsRow base e 1 v' (n+s.size) (xs++Lib.strCells s)→w.grownBy w' v.ownBlock→w.drawn≤w'.drawn→wpList P ops Q rest (a.put o.dst v') w'):wpList P ops Q (o :: rest) a w:=by
 refine wpList_plain hgd fun K hK=>?_
 obtain ⟨v',w',hr,h2,h3,_⟩:=Lib.run_append_own_string (P:=P) w base t u o.type e i ht hu hi hz hsize hby v n xs hown s h63 hbytes hbase
 have h4:=run_le _ _ _ _ _ hr
 unfold Oper.wp execOp
 simp only [ho,resolve,invoke,builtin,Sem.run_bind,Sem.run_pure,Result.andThen_ok,List.map_toArray,List.map_cons,List.map_nil,hs,hx,hr]
 exact hK _ _ (h v' w' h2 h3 h4)
theorem wpList_app_own {P:Program} {w:World} {ops:Array Oper} {rest:List Oper} {o:Oper} {a:Act} {Q:Exit→Act→World→Prop} (hgd:o.guard=none) (s x:Operand) (t:TypeId)
    (ho:o.op=.call { callee:=.builtin .append,args:=#[s,x],argTypes:=#[t,t] })
    (base:Nat) (e:TypeId) (i:TypeInfo) (z:Value) (size bytes:Nat) (ht:P.underlying t=some (.slice e)) (hi:P.info? e=some i) (hz:i.zero=some z)
    (hsize:i.size=size) (hby:i.bytes=bytes) (hzs:z.cells.size=size) (hsz:0<size)
    (v:Value) (n:Nat) (xs:List Value) (hs:a.eval s=v) (hown:w.ownsRow base e size v n xs)
    (ad:Addr) (m c:Nat) (news:List Value) (hx:a.eval x=.slice (some ad) m c) (hl:news.length=m*size) (hnews:∀ j u,news[j]?=some u→w.cell? (ad.add j)=some u) (h1:∀ u ∈ news,u.oneCell'=true)
    (h63:n+m≤maxLen) (hbytes:(n+m)*bytes≤140737488355328) (hbase:base≤w.heap.size)
    (h:∀ v' w',w'.ownsRow base e size v' (n+m) (xs++news)→w.grownBy w' v.ownBlock→w.drawn≤w'.drawn→wpList P ops Q rest (a.put o.dst v') w'):wpList P ops Q (o :: rest) a w:=by
 refine wpList_plain hgd fun K hK=>?_
 obtain ⟨v',w',hr,h2,h3,_⟩:=run_append_own (P:=P) w base t o.type e i z size bytes ht hi hz hsize hby hzs hsz v n xs hown ad m c news hl hnews h1 h63 hbytes hbase
 have h4:=run_le _ _ _ _ _ hr
 unfold Oper.wp execOp
 simp only [ho,resolve,invoke,builtin,Sem.run_bind,Sem.run_pure,Result.andThen_ok,List.map_toArray,List.map_cons,List.map_nil,hs,hx,hr]
 exact hK _ _ (h v' w' h2 h3 h4)
theorem copyCheck_up (B b:Nat) (bs:List Value) (w:World) (h:Lib.IsBuilder 166 5 B b bs w) :
    Calls Tryz.prog 162 #[.pointer (some ⟨b,0,none⟩)] w fun e w'=>e=.returned (.tuple #[])∧Lib.BuilderAt 166 5 B b (.pointer (some ⟨b,0,none⟩)) bs w'∧Below B w w'∧w.drawn≤w'.drawn:=by
 rcases h with h|h
 ·refine (copyCheck_fresh b w h.cell0 h.shape h.frozen0).mono ?_
  rintro e w' ⟨rfl,rfl⟩
  exact ⟨rfl,h.used _,(Below.refl _ _).setCell h.1 _,Nat.le_refl _⟩
 ·refine (copyCheck_used b w h.cell0).mono ?_
  rintro e w' ⟨rfl,rfl⟩
  exact ⟨rfl,h,Below.refl _ _,Nat.le_refl _⟩
set_option maxRecDepth 100000 in
theorem writeString_up (B b:Nat) (bs:List Value) (l:List UInt8) (w:World) (h:Lib.IsBuilder 166 5 B b bs w) (hlen:bs.length+l.length≤140737488355328) (hBw:B≤w.heap.size) :
    Calls Tryz.prog 134 #[.pointer (some ⟨b,0,none⟩),.string (strOf l)] w fun e w'=>e=.returned (.tuple #[.int .i64 l.length,.nilIface])∧Lib.BuilderAt 166 5 B b (.pointer (some ⟨b,0,none⟩)) (bs++Lib.byteCells l) w'∧Below B w w'∧w.drawn≤w'.drawn:=by
 obtain ⟨i0,hi,hz0,hz1,hz2⟩:=info_parts Tryz.infoU8
 have es:=strOf_size l
 have ec:Lib.strCells (strOf l)=Lib.byteCells l:=by simp [Lib.strCells,Lib.byteCells,strOf]
 have EC:=Lib.hid ec
 clear ec
 go_enter Tryz.func134,Tryz.ntmps134
 go_wp2_with (go_at_call 162;refine (copyCheck_up B b bs _ h).mono ?_)
 rintro e w1 ⟨rfl,⟨hB,v,hbk,hown,hne⟩,hb1,hd1⟩
 have c0:w1.cell? ⟨b,0,none⟩=some (.pointer (some ⟨b,0,none⟩)):=by rw [Lib.cell_of_heap hbk];rfl
 have c1:w1.cell? ⟨b,1,none⟩=some v:=by rw [Lib.cell_of_heap hbk];rfl
 go_wp2_with (at_builtin;refine wpList_app_string rfl _ _ 39 9 rfl B 5 i0 Tryz.underlying39 Tryz.underlying9 hi hz0 hz1 hz2 _ _ _ rfl hown (strOf l) rfl ?c3 ?c4 ?c5 ?_)
 case c3=>unfold maxLen;omega
 case c4=>omega
 case c5=>have:=hb1.size;omega
 intro v' w2 hown' hgrow hd2
 have HD:Hid (w.drawn≤w2.drawn):=Nat.le_trans hd1 hd2
 clear hd1 hd2
 rw [EC.out] at hown'
 replace hown':w2.ownsRow B 5 1 v' (bs.length+(Lib.byteCells l).length) (bs++Lib.byteCells l):=by rw [Lib.byteCells_length];simpa [strOf_size] using hown'
 obtain ⟨⟨ao,n',cap,rfl⟩,d0,d1,f1,hput,hbe⟩:=builder_put hB hbk hown hne (Below.refl _ _) hgrow hown'
 have HP:=Lib.hid hput
 have HB:=Lib.hid (hb1.trans (hbe (by have:=hb1.size;omega)))
 clear hput hbe
 go_wp2
 go_ret2
 exact ⟨rfl,HP.out,HB.out,HD.out⟩
set_option maxRecDepth 100000 in
theorem writeByte_up (B b:Nat) (bs:List Value) (c:Int) (w:World) (h:Lib.IsBuilder 166 5 B b bs w) (hlen:bs.length+1≤140737488355328) (hBw:B≤w.heap.size) :
    Calls Tryz.prog 133 #[.pointer (some ⟨b,0,none⟩),.int .u8 c] w fun e w'=>e=.returned .nilIface∧Lib.BuilderAt 166 5 B b (.pointer (some ⟨b,0,none⟩)) (bs++[.int .u8 c]) w'∧Below B w w'∧w.drawn≤w'.drawn:=by
 obtain ⟨i0,hi,hz0,hz1,hz2⟩:=info_parts Tryz.infoU8
 go_enter Tryz.func133,Tryz.ntmps133
 go_wp2_with (go_at_call 162;refine (copyCheck_up B b bs _ h).mono ?_)
 rintro e w1 ⟨rfl,⟨hB,v,hbk,hown,hne⟩,hb1,hd1⟩
 have c0:w1.cell? ⟨b,0,none⟩=some (.pointer (some ⟨b,0,none⟩)):=by rw [Lib.cell_of_heap hbk];rfl
 have c1:w1.cell? ⟨b,1,none⟩=some v:=by rw [Lib.cell_of_heap hbk];rfl
 go_wp2_with (at_builtin;refine wpList_app_own rfl _ _ 39 rfl B 5 i0 (.int .u8 0) 1 1 Tryz.underlying39 hi hz0 hz1 hz2 rfl (by decide) _ _ _ rfl (hown.alloc _) ⟨w1.heap.size,0,none⟩ 1 1 [.int .u8 c] rfl rfl ?c1 ?c2 ?c3 ?c4 ?c5 ?_)
 case c1 =>
  intro j u hj
  obtain rfl:j=0:=by have:=(List.getElem?_eq_some_iff.1 hj).1;simpa using this
  obtain rfl:Value.int .u8 c=u:=by simpa using hj
  rw [add_plain,World.cell?_alloc_at _ _ _ _ rfl]
  rfl
 case c2=>intro u hu;simp at hu;subst hu;rfl
 case c3=>unfold maxLen;omega
 case c4=>omega
 case c5=>rw [World.size_alloc];have:=hb1.size;omega
 intro v' w2 hown' hgrow hd2
 have HD:Hid (w.drawn≤w2.drawn):=Nat.le_trans hd1 hd2
 clear hd1 hd2
 obtain ⟨⟨ao,n',cap,rfl⟩,d0,d1,f1,hput,hbe⟩:=builder_put hB hbk hown hne (bN w1 _) hgrow hown'
 have HP:=Lib.hid hput
 have HB:=Lib.hid (hb1.trans (hbe (by have:=hb1.size;omega)))
 clear hput hbe
 go_wp2
 go_ret
 exact ⟨rfl,HP.out,HB.out,HD.out⟩
set_option maxRecDepth 100000 in
theorem text_up (B b:Nat) (l:List UInt8) (w:World) (h:Lib.IsBuilder 166 5 B b (Lib.byteCells l) w) (h0:l≠[]) :
    Calls Tryz.prog 135 #[.pointer (some ⟨b,0,none⟩)] w fun e w'=>e=.returned (.string (strOf l))∧Below B w w'∧w.drawn≤w'.drawn:=by
 obtain ⟨p,hB,v,hbk,hown,hne⟩:∃ p,Lib.BuilderAt 166 5 B b p (Lib.byteCells l) w:=by
  rcases h with h|h
  ·exact ⟨_,h⟩
  ·exact ⟨_,h⟩
 have hl0:l.length≠0:=by simpa using h0
 rw [Lib.byteCells_length] at hown
 obtain ⟨g,cap,cur,rfl,hbg,hg,hnc,hcm,hcs,htake⟩:∃ g cap cur,v=.slice (some ⟨g,0,none⟩) l.length cap∧B≤g∧w.heap[g]?=some (.cells cur 5 (0,0))∧l.length≤cap∧cap≤maxLen∧cur.size=cap*1∧cur.toList.take (l.length*1)=Lib.byteCells l:=by
  rcases hown.2 with ⟨_,hz⟩|⟨g,cap,cur,hv,r⟩
  ·exact absurd hz hl0
  ·exact ⟨g,cap,cur,hv,r⟩
 have c1:w.drew.cell? ⟨b,1,none⟩=some (.slice (some ⟨g,0,none⟩) l.length cap):=by
  have:w.drew.heap[b]?=some (.cells #[p,.slice (some ⟨g,0,none⟩) l.length cap] 166 (0,0)):=hbk
  rw [Lib.cell_of_heap this];rfl
 have hSD:(Builtin.unsafeSliceData_ #[39] 194 #[.slice (some ⟨g,0,none⟩) l.length cap]).run Tryz.prog w.drew=.ok (.pointer (some ⟨g,0,none⟩)) w.drew :=
  Lib.run_unsafeSliceData_row _ _ _ _ _ _ (by omega)
 have hUS:(Builtin.unsafeString_ #[194,3] 9 #[.pointer (some ⟨g,0,none⟩),.int .i64 l.length]).run Tryz.prog w.drew=.ok (.string ⟨l.toArray⟩) (w.drew.freeze ⟨g,0,none⟩ l.length):=by
  refine Lib.run_unsafeString_row w.drew 194 3 9 5 Tryz.underlying194 (by kernel_rfl) g cur.size (by have hg':w.drew.heap[g]?=some (.cells cur 5 (0,0)):=hg;simp [World.shape?,hg']) l h0 (by omega) (by unfold maxLen at hcm;omega) ?_
  intro j x hx
  have:=hown.cells (g:=g) rfl j (.int .u8 x.toNat) (by simp [Lib.byteCells,hx])
  exact this
 have HDR:Hid (w.drawn≤(w.drew.freeze ⟨g,0,none⟩ l.length).drawn):=by
  show _≤_
  have:(w.drew.freeze ⟨g,0,none⟩ l.length).drawn=w.drawn+1:=by unfold World.freeze;split <;> rfl
  omega
 have HBL:Hid (Below B w (w.drew.freeze ⟨g,0,none⟩ l.length)):=Lib.below_freeze (Below.drew (Below.refl B w)) (p:=⟨g,0,none⟩) hbg _
 have mixed:Tryz.prog.follows .mixedOrders=true:=by kernel_rfl
 go_enter Tryz.func135,Tryz.ntmps135
 go_wp2
 go_region_o
 all_goals (go_wp2;go_ret;exact ⟨rfl,HBL.out,HDR.out⟩)
end Dr
end Go.Proofs.YtjoedamiilgajaaGreat

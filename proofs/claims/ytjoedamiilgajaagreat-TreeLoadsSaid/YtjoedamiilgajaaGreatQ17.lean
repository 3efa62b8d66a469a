/-
  OWN WORK. NoRefEnc, NoAs
-/
import Derived.Test.YtjoedamiilgajaaGreatQ02
import Derived.Test.YtjoedamiilgajaaGreatQ16
import Derived.Test.YtjoedamiilgajaaGreatQ01
namespace Go.Proofs.YtjoedamiilgajaaGreat
open Go.RowKit
set_option maxHeartbeats 1000000 in
set_option maxRecDepth 100000 in
theorem refEnc_any (n:Nd) (hok:n.Ok) (w:World):Calls Tryz.prog 80 #[n.val] w fun e w'=>∃ v,e=.returned v∧w'.ownsRow w.heap.size 5 1 v 16 (Lib.byteCells n.bytes)∧Below w.heap.size w w':=by
 obtain ⟨id,kind,links,size,till,shut⟩:=n
 have b0:Hid (In64 id):=hok.id
 have b1:Hid (In64 kind):=hok.kind
 have b2:Hid (In64 links):=hok.links
 have b3:Hid (In64 size):=hok.size
 have b4:Hid (till≤18446744073709551615):=hok.till
 clear hok
 obtain ⟨q1,Y1⟩:∃ y,Hid (y=[]++Co.wS (id % 65536).toNat):=⟨_,Lib.hid rfl⟩
 obtain ⟨q2,Y2⟩:∃ y,Hid (y=q1++Co.wByte (kind % 256).toNat):=⟨_,Lib.hid rfl⟩
 obtain ⟨q3,Y3⟩:∃ y,Hid (y=q2++Co.wS (links % 65536).toNat):=⟨_,Lib.hid rfl⟩
 obtain ⟨q4,Y4⟩:∃ y,Hid (y=q3++Co.wS (size % 65536).toNat):=⟨_,Lib.hid rfl⟩
 obtain ⟨q5,Y5⟩:∃ y,Hid (y=q4++Co.wLong till):=⟨_,Lib.hid rfl⟩
 obtain ⟨q6,Y6⟩:∃ y,Hid (y=q5++Co.wFlag shut):=⟨_,Lib.hid rfl⟩
 have L1:Hid (q1.length=2):=by show _=_;rw [Y1.out];rfl
 have L2:Hid (q2.length=3):=by show _=_;rw [Y2.out,List.length_append,L1.out];rfl
 have L3:Hid (q3.length=5):=by show _=_;rw [Y3.out,List.length_append,L2.out];rfl
 have L4:Hid (q4.length=7):=by show _=_;rw [Y4.out,List.length_append,L3.out];rfl
 have L5:Hid (q5.length=15):=by show _=_;rw [Y5.out,List.length_append,L4.out,Co.wLong_length]
 have L6:Hid (q6.length=16):=by show _=_;rw [Y6.out,List.length_append,L5.out];rfl
 have HE:Hid (Nd.bytes ⟨id,kind,links,size,till,shut⟩=q6):=by
  show _=_
  rw [Y6.out,Y5.out,Y4.out,Y3.out,Y2.out,Y1.out]
  unfold Nd.bytes Nd.lo16 Nd.lo8
  simp only [List.append_assoc,List.nil_append]
 show Calls _ _ #[.agg #[.int .i64 id,.int .i64 kind,.int .i64 links,.int .i64 size,.int .u64 (till:Nat),.bool shut]] w _
 have HBX:Hid (Blk (w.alloc (.cells #[.int .i64 id,.int .i64 kind,.int .i64 links,.int .i64 size,.int .u64 (till:Nat),.bool shut] 59)) w.heap.size 59 [.int .i64 id,.int .i64 kind,.int .i64 links,.int .i64 size,.int .u64 (till:Nat),.bool shut]):=Blk.new w _ _
 have HWX:Hid (Below w.heap.size w (w.alloc (.cells #[.int .i64 id,.int .i64 kind,.int .i64 links,.int .i64 size,.int .u64 (till:Nat),.bool shut] 59))):=bN w _
 go_enter Tryz.func80,Tryz.ntmps80
 go_upto_region 1 with (fail)
 refine wp_world (fun W=>Hid (Blk W w.heap.size 59 [.int .i64 id,.int .i64 kind,.int .i64 links,.int .i64 size,.int .u64 (till:Nat),.bool shut])∧Hid (Below w.heap.size w W)) ⟨HBX,HWX⟩ ?_
 clear HBX HWX
 rintro w0 ⟨HB,HW⟩
 refine Rg.wp_region_facts (by kernel_rfl) (fun opn=>List.getD [Rg.val (.pointer (some ⟨w.heap.size,0,none⟩)),Rg.val (.int .i64 id),bRow (q1),Rg.val (.pointer (some ⟨w.heap.size,1,none⟩)),Rg.val (.int .i64 kind),bRow (q2),Rg.val (.pointer (some ⟨w.heap.size,2,none⟩)),Rg.val (.int .i64 links),bRow (q3),Rg.any] opn Rg.any) [(9,8,fun v=>v)] [[],[(0,4)],[(1,5)],[],[(3,7)],[(2,6),(4,8)],[],[(6,10)],[(5,9),(7,11)],[(8,12)]] [] (by kernel_rfl) (by rfl) (by kernel_rfl) ?_ ?_
 ·intro fr ha
  have hz:fr.tmps.size=23:=by rw [ha];rfl
  have y1:fr.eval (.tmp 1)=.pointer (some ⟨w.heap.size,0,none⟩):=by rw [ha];rfl
  clear ha
  refine .cons ?_ (.cons ?_ (.cons ?_ (.cons ?_ (.cons ?_ (.cons ?_ (.cons ?_ (.cons ?_ (.cons ?_ (.cons ?_ (.nil))))))))))
  ·intro V w2 HL HH
   have tb1:=(Rg.uE V fr 1 [] (by rw [hz];decide)).trans y1
   show Rg.Dz _ _ V (Rg.pU V [] fr) w2 _
   exact step_mv (.pointer (some ⟨w.heap.size,0,none⟩)) (by simp only [execOp,tb1];go_simp) rfl rfl rfl True.intro
  ·intro V w2 HL HH
   have HL:Later w0 w2:=HL
   have h0:V 0=_:=HH.1
   have tb4:=(Rg.uE V fr 4 [(0,4)] (by rw [hz];decide)).trans h0
   show Rg.Dz _ _ V (Rg.pU V [(0,4)] fr) w2 _
   have cl:w2.cell? ⟨w.heap.size,0,none⟩=some (.int .i64 id):=(HB.out.below HL HB.out.lt).cell 0
   exact step_mv (.int .i64 id) (by simp only [execOp,tb4];go_simp) rfl rfl rfl True.intro
  ·intro V w2 HL HH
   have h1:V 1=_:=HH.1
   have tb5:=(Rg.uE V fr 5 [(1,5)] (by rw [hz];decide)).trans h1
   show Rg.Dz _ _ V (Rg.pU V [(1,5)] fr) w2 _
   exact step_row #[.slice none 0 0,.int .i64 id] (q1) (fun args w=>Rg.call_enter Tryz.func78 (by kernel_rfl) (by kernel_rfl) args w) rfl (by simp only [List.map_toArray,List.map_cons,List.map_nil,Rg.eval_const,tb5]) (by exact L1.out) rfl rfl rfl True.intro ((refShort_int w2 [] none 0 _ (Rd.nil _ _) (by simp) b0.out.1 b0.out.2).mono fun e w4 ⟨v,g1,g2,g3⟩=>⟨v,g1,by rw [← Y1.out] at g2;exact g2,g3⟩)
  ·intro V w2 HL HH
   have tb1:=(Rg.uE V fr 1 [] (by rw [hz];decide)).trans y1
   show Rg.Dz _ _ V (Rg.pU V [] fr) w2 _
   exact step_mv (.pointer (some ⟨w.heap.size,1,none⟩)) (by simp only [execOp,tb1];go_simp) rfl rfl rfl True.intro
  ·intro V w2 HL HH
   have HL:Later w0 w2:=HL
   have h3:V 3=_:=HH.1
   have tb7:=(Rg.uE V fr 7 [(3,7)] (by rw [hz];decide)).trans h3
   show Rg.Dz _ _ V (Rg.pU V [(3,7)] fr) w2 _
   have cl:w2.cell? ⟨w.heap.size,1,none⟩=some (.int .i64 kind):=(HB.out.below HL HB.out.lt).cell 1
   exact step_mv (.int .i64 kind) (by simp only [execOp,tb7];go_simp) rfl rfl rfl True.intro
  ·intro V w2 HL HH
   have h2:(bRow (q1)).holds (V 2) w2:=HH.1
   obtain ⟨X2,k2,e2,hc2,hr2⟩:=bRow_form h2
   have h4:V 4=_:=HH.2.1
   have tb6:=(Rg.uE V fr 6 [(2,6),(4,8)] (by rw [hz];decide)).trans e2
   have tb8:=(Rg.uE V fr 8 [(2,6),(4,8)] (by rw [hz];decide)).trans h4
   show Rg.Dz _ _ V (Rg.pU V [(2,6),(4,8)] fr) w2 _
   exact step_row #[.slice X2 (q1).length k2,.int .i64 kind] (q2) (fun args w=>Rg.call_enter Tryz.func122 (by kernel_rfl) (by kernel_rfl) args w) rfl (by simp only [List.map_toArray,List.map_cons,List.map_nil,tb6,tb8]) (by exact L2.out) rfl rfl rfl True.intro ((refByte_int w2 q1 X2 k2 _ (hr2) (by rw [L1.out];decide) b1.out.1 b1.out.2).mono fun e w4 ⟨v,g1,g2,g3⟩=>⟨v,g1,by rw [← Y2.out,L1.out] at g2;exact g2,g3⟩)
  ·intro V w2 HL HH
   have tb1:=(Rg.uE V fr 1 [] (by rw [hz];decide)).trans y1
   show Rg.Dz _ _ V (Rg.pU V [] fr) w2 _
   exact step_mv (.pointer (some ⟨w.heap.size,2,none⟩)) (by simp only [execOp,tb1];go_simp) rfl rfl rfl True.intro
  ·intro V w2 HL HH
   have HL:Later w0 w2:=HL
   have h6:V 6=_:=HH.1
   have tb10:=(Rg.uE V fr 10 [(6,10)] (by rw [hz];decide)).trans h6
   show Rg.Dz _ _ V (Rg.pU V [(6,10)] fr) w2 _
   have cl:w2.cell? ⟨w.heap.size,2,none⟩=some (.int .i64 links):=(HB.out.below HL HB.out.lt).cell 2
   exact step_mv (.int .i64 links) (by simp only [execOp,tb10];go_simp) rfl rfl rfl True.intro
  ·intro V w2 HL HH
   have h5:(bRow (q2)).holds (V 5) w2:=HH.1
   obtain ⟨X5,k5,e5,hc5,hr5⟩:=bRow_form h5
   have h7:V 7=_:=HH.2.1
   have tb9:=(Rg.uE V fr 9 [(5,9),(7,11)] (by rw [hz];decide)).trans e5
   have tb11:=(Rg.uE V fr 11 [(5,9),(7,11)] (by rw [hz];decide)).trans h7
   show Rg.Dz _ _ V (Rg.pU V [(5,9),(7,11)] fr) w2 _
   exact step_row #[.slice X5 (q2).length k5,.int .i64 links] (q3) (fun args w=>Rg.call_enter Tryz.func78 (by kernel_rfl) (by kernel_rfl) args w) rfl (by simp only [List.map_toArray,List.map_cons,List.map_nil,tb9,tb11]) (by exact L3.out) rfl rfl rfl True.intro ((refShort_int w2 q2 X5 k5 _ (hr5) (by rw [L2.out];decide) b2.out.1 b2.out.2).mono fun e w4 ⟨v,g1,g2,g3⟩=>⟨v,g1,by rw [← Y3.out,L2.out] at g2;exact g2,g3⟩)
  ·intro V w2 HL HH
   have h8:(bRow (q3)).holds (V 8) w2:=HH.1
   obtain ⟨X8,k8,e8,hc8,hr8⟩:=bRow_form h8
   have tb12:=(Rg.uE V fr 12 [(8,12)] (by rw [hz];decide)).trans rfl
   show Rg.Dz _ _ V (Rg.pU V [(8,12)] fr) w2 _
   exact step_as 8 (fun v=>v) rfl (by simp only [execOp,tb12];go_simp) rfl rfl True.intro
 ·intro V w2 HI
  have h9:V 9=V 8:=HI.same 9 8 (fun v=>v) (by decide) (by simp)
  have h8:(bRow q3).holds (V 8) w2:=HI.get 8 (by decide) (by rfl)
  have hlt:=later_drew HI.later
  obtain ⟨X3,k3,e3,hk3,hr3⟩:=bRow_form h8
  simp only [Rg.putList,Act.put,List.setIfInBounds_toArray,List.set_cons_zero,List.set_cons_succ,Nat.zero_add,Nat.reduceAdd]
  rw [h9,e3]
  have HB3':Hid (Blk w2 w.heap.size 59 [.int .i64 id,.int .i64 kind,.int .i64 links,.int .i64 size,.int .u64 (till:Nat),.bool shut]):=HB.out.below hlt HB.out.lt
  have HW3':Hid (Below w.heap.size w w2):=HW.out.trans (hlt.mono HW.out.size)
  have HX3':=Lib.hid hr3
  clear HI h8 h9 hlt e3 hr3 HB HW
  go_upto_region 2 with (fail)
  refine wp_world (fun W=>Hid (Blk W w.heap.size 59 [.int .i64 id,.int .i64 kind,.int .i64 links,.int .i64 size,.int .u64 (till:Nat),.bool shut])∧Hid (Below w.heap.size w W)∧Hid (Rd W X3 q3)) ⟨HB3',HW3',HX3'⟩ ?_
  clear HB3' HW3' HX3'
  rintro w3 ⟨HB3,HW3,HX3⟩
  refine Rg.wp_region_facts (by kernel_rfl) (fun opn=>List.getD [Rg.val (.slice X3 q3.length k3),Rg.val (.pointer (some ⟨w.heap.size,3,none⟩)),Rg.val (.int .i64 size),bRow (q4),Rg.val (.pointer (some ⟨w.heap.size,4,none⟩)),Rg.val (.int .u64 (till:Nat)),bRow (q5),Rg.val (.pointer (some ⟨w.heap.size,5,none⟩)),Rg.val (.bool shut),bRow (q6),Rg.any] opn Rg.any) [(10,9,fun v=>v)] [[],[],[(1,14)],[(0,13),(2,15)],[],[(4,17)],[(3,16),(5,18)],[],[(7,20)],[(6,19),(8,21)],[(9,22)]] [] (by kernel_rfl) (by rfl) (by kernel_rfl) ?_ ?_
  ·intro fr ha
   have hz:fr.tmps.size=23:=by rw [ha];rfl
   have y1:fr.eval (.tmp 1)=.pointer (some ⟨w.heap.size,0,none⟩):=by rw [ha];rfl
   have y3:fr.eval (.tmp 3)=.slice X3 q3.length k3:=by rw [ha];rfl
   clear ha
   refine .cons ?_ (.cons ?_ (.cons ?_ (.cons ?_ (.cons ?_ (.cons ?_ (.cons ?_ (.cons ?_ (.cons ?_ (.cons ?_ (.cons ?_ (.nil)))))))))))
   ·intro V w2 HL HH
    have tb3:=(Rg.uE V fr 3 [] (by rw [hz];decide)).trans y3
    show Rg.Dz _ _ V (Rg.pU V [] fr) w2 _
    exact step_mv (.slice X3 q3.length k3) (by simp only [execOp,tb3];go_simp) rfl rfl rfl True.intro
   ·intro V w2 HL HH
    have tb1:=(Rg.uE V fr 1 [] (by rw [hz];decide)).trans y1
    show Rg.Dz _ _ V (Rg.pU V [] fr) w2 _
    exact step_mv (.pointer (some ⟨w.heap.size,3,none⟩)) (by simp only [execOp,tb1];go_simp) rfl rfl rfl True.intro
   ·intro V w2 HL HH
    have HL:Later w3 w2:=HL
    have h1:V 1=_:=HH.1
    have tb14:=(Rg.uE V fr 14 [(1,14)] (by rw [hz];decide)).trans h1
    show Rg.Dz _ _ V (Rg.pU V [(1,14)] fr) w2 _
    have cl:w2.cell? ⟨w.heap.size,3,none⟩=some (.int .i64 size):=(HB3.out.below HL HB3.out.lt).cell 3
    exact step_mv (.int .i64 size) (by simp only [execOp,tb14];go_simp) rfl rfl rfl True.intro
   ·intro V w2 HL HH
    have HL:Later w3 w2:=HL
    have h0:V 0=.slice X3 q3.length k3:=HH.1
    have h2:V 2=_:=HH.2.1
    have tb13:=(Rg.uE V fr 13 [(0,13),(2,15)] (by rw [hz];decide)).trans h0
    have tb15:=(Rg.uE V fr 15 [(0,13),(2,15)] (by rw [hz];decide)).trans h2
    show Rg.Dz _ _ V (Rg.pU V [(0,13),(2,15)] fr) w2 _
    exact step_row #[.slice X3 (q3).length k3,.int .i64 size] (q4) (fun args w=>Rg.call_enter Tryz.func78 (by kernel_rfl) (by kernel_rfl) args w) rfl (by simp only [List.map_toArray,List.map_cons,List.map_nil,tb13,tb15]) (by exact L4.out) rfl rfl rfl True.intro ((refShort_int w2 q3 X3 k3 _ (HL.rd HX3.out) (by rw [L3.out];decide) b3.out.1 b3.out.2).mono fun e w4 ⟨v,g1,g2,g3⟩=>⟨v,g1,by rw [← Y4.out,L3.out] at g2;exact g2,g3⟩)
   ·intro V w2 HL HH
    have tb1:=(Rg.uE V fr 1 [] (by rw [hz];decide)).trans y1
    show Rg.Dz _ _ V (Rg.pU V [] fr) w2 _
    exact step_mv (.pointer (some ⟨w.heap.size,4,none⟩)) (by simp only [execOp,tb1];go_simp) rfl rfl rfl True.intro
   ·intro V w2 HL HH
    have HL:Later w3 w2:=HL
    have h4:V 4=_:=HH.1
    have tb17:=(Rg.uE V fr 17 [(4,17)] (by rw [hz];decide)).trans h4
    show Rg.Dz _ _ V (Rg.pU V [(4,17)] fr) w2 _
    have cl:w2.cell? ⟨w.heap.size,4,none⟩=some (.int .u64 (till:Nat)):=(HB3.out.below HL HB3.out.lt).cell 4
    exact step_mv (.int .u64 (till:Nat)) (by simp only [execOp,tb17];go_simp) rfl rfl rfl True.intro
   ·intro V w2 HL HH
    have h3:(bRow (q4)).holds (V 3) w2:=HH.1
    obtain ⟨X3,k3,e3,hc3,hr3⟩:=bRow_form h3
    have h5:V 5=_:=HH.2.1
    have tb16:=(Rg.uE V fr 16 [(3,16),(5,18)] (by rw [hz];decide)).trans e3
    have tb18:=(Rg.uE V fr 18 [(3,16),(5,18)] (by rw [hz];decide)).trans h5
    show Rg.Dz _ _ V (Rg.pU V [(3,16),(5,18)] fr) w2 _
    exact step_row #[.slice X3 (q4).length k3,.int .u64 (till:Nat)] (q5) (fun args w=>Rg.call_enter Tryz.func124 (by kernel_rfl) (by kernel_rfl) args w) rfl (by simp only [List.map_toArray,List.map_cons,List.map_nil,tb16,tb18]) (by exact L5.out) rfl rfl rfl True.intro ((refLong_any w2 q4 X3 k3 _ (hr3) (by rw [L4.out];decide) b4.out).mono fun e w4 ⟨v,g1,g2,g3⟩=>⟨v,g1,by rw [← Y5.out,L4.out] at g2;exact g2,g3⟩)
   ·intro V w2 HL HH
    have tb1:=(Rg.uE V fr 1 [] (by rw [hz];decide)).trans y1
    show Rg.Dz _ _ V (Rg.pU V [] fr) w2 _
    exact step_mv (.pointer (some ⟨w.heap.size,5,none⟩)) (by simp only [execOp,tb1];go_simp) rfl rfl rfl True.intro
   ·intro V w2 HL HH
    have HL:Later w3 w2:=HL
    have h7:V 7=_:=HH.1
    have tb20:=(Rg.uE V fr 20 [(7,20)] (by rw [hz];decide)).trans h7
    show Rg.Dz _ _ V (Rg.pU V [(7,20)] fr) w2 _
    have cl:w2.cell? ⟨w.heap.size,5,none⟩=some (.bool shut):=(HB3.out.below HL HB3.out.lt).cell 5
    exact step_mv (.bool shut) (by simp only [execOp,tb20];go_simp) rfl rfl rfl True.intro
   ·intro V w2 HL HH
    have h6:(bRow (q5)).holds (V 6) w2:=HH.1
    obtain ⟨X6,k6,e6,hc6,hr6⟩:=bRow_form h6
    have h8:V 8=_:=HH.2.1
    have tb19:=(Rg.uE V fr 19 [(6,19),(8,21)] (by rw [hz];decide)).trans e6
    have tb21:=(Rg.uE V fr 21 [(6,19),(8,21)] (by rw [hz];decide)).trans h8
    show Rg.Dz _ _ V (Rg.pU V [(6,19),(8,21)] fr) w2 _
    exact step_row #[.slice X6 (q5).length k6,.bool shut] (q6) (fun args w=>Rg.call_enter Tryz.func123 (by kernel_rfl) (by kernel_rfl) args w) rfl (by simp only [List.map_toArray,List.map_cons,List.map_nil,tb19,tb21]) (by exact L6.out) rfl rfl rfl True.intro ((refFlag_any w2 q5 X6 k6 _ (hr6) (by rw [L5.out];decide)).mono fun e w4 ⟨v,g1,g2,g3⟩=>⟨v,g1,by rw [← Y6.out,L5.out] at g2;exact g2,g3⟩)
   ·intro V w2 HL HH
    have h9:(bRow (q6)).holds (V 9) w2:=HH.1
    obtain ⟨X9,k9,e9,hc9,hr9⟩:=bRow_form h9
    have tb22:=(Rg.uE V fr 22 [(9,22)] (by rw [hz];decide)).trans rfl
    show Rg.Dz _ _ V (Rg.pU V [(9,22)] fr) w2 _
    exact step_as 9 (fun v=>v) rfl (by simp only [execOp,tb22];go_simp) rfl rfl True.intro
  ·intro V w2 HI
   have h10:V 10=V 9:=HI.same 10 9 (fun v=>v) (by decide) (by simp)
   have h9:(bRow q6).holds (V 9) w2:=HI.get 9 (by decide) (by rfl)
   have L16:Rg.Live (Rg.consOf []) (fun i=>i<11) 9:=⟨by decide,fun k _ hk=>by have:=Rg.consOf_mem hk;simp at this⟩
   have hf9:∀ b,(V 9).ownBlock=some b→w3.heap.size≤b:=fun b hb=>(HI.lt 9 b L16 hb).1
   have hlt:=later_drew HI.later
   simp only [Rg.putList,Act.put,List.setIfInBounds_toArray,List.set_cons_zero,List.set_cons_succ,Nat.zero_add,Nat.reduceAdd]
   rw [h10]
   obtain ⟨x,hx⟩:∃ x,x=V 9:=⟨_,rfl⟩
   rw [← hx] at h9 hf9 ⊢
   have HO:Hid (w2.ownsRow w.heap.size 5 1 x 16 (Lib.byteCells (Nd.bytes ⟨id,kind,links,size,till,shut⟩))):=by
    rw [HE.out]
    have h1:w2.ownsRow 0 5 1 x q6.length (Lib.byteCells q6):=h9
    rw [L6.out] at h1
    exact own_up h1 fun b hb=>Nat.le_trans HW3.out.size (hf9 b hb)
   have HF:Hid (Below w.heap.size w w2):=HW3.out.trans (hlt.mono HW3.out.size)
   clear HI hx h9 hf9 L16 h10 hlt
   go_wp2_with fail
   go_ret
   exact ⟨_,rfl,HO.out,HF.out⟩
end Go.Proofs.YtjoedamiilgajaaGreat
namespace Go.Proofs.YtjoedamiilgajaaGreat
open Go.RowKit Rc
section
variable {id kind links size:Int} {till:Nat} {shut:Bool}
theorem enc_yes_as (C:WSaid) (w:World) (h:Nd.Right ⟨id,kind,links,size,till,shut⟩):Calls Tryz.prog 75 #[.agg #[.int .i64 id,.int .i64 kind,.int .i64 links,.int .i64 size,.int .u64 (till:Nat),.bool shut]] w fun e w'=>∃ X c,e=.returned (.tuple #[.slice X 16 c,.int .i64 0])∧16≤c∧Hid (w'.ownsRow w.heap.size 5 1 (.slice X 16 c) 16 (Lib.byteCells (Nd.bytes ⟨id,kind,links,size,till,shut⟩)))∧Hid (Rd w' X (Nd.bytes ⟨id,kind,links,size,till,shut⟩))∧Hid (Below w.heap.size w w'):=by
 refine (enc_yes C ⟨id,kind,links,size,till,shut⟩ h w).mono ?_
 rintro e w' ⟨X,c,rfl,hc,ho,hb⟩
 refine ⟨X,c,rfl,hc,ho,?_,hb⟩
 have hl:=Nd.bytes_length ⟨id,kind,links,size,till,shut⟩
 obtain ⟨X',c',e,_,hr⟩:=oF (show w'.ownsRow w.heap.size 5 1 (.slice X 16 c) (Nd.bytes ⟨id,kind,links,size,till,shut⟩).length (Lib.byteCells (Nd.bytes ⟨id,kind,links,size,till,shut⟩)) from by rw [hl];exact ho)
 injection e with e1 e2 e3
 subst e1
 exact hr
end
end Go.Proofs.YtjoedamiilgajaaGreat

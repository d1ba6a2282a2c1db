import Derived.Test.YtaihhnlfcndecaaGreatDoorRdqG
namespace Go.Proofs.YtaihhnlfcndecaaGreatDoor
open Go.ChangeShapes Go.WideShapes Go.ChangeAt Go.RowKit
set_option linter.unusedVariables false
set_option linter.unusedSimpArgs false
set_option maxRecDepth 100000 in
set_option maxHeartbeats 2000000 in
theorem choice_q {rec:Rdr} (R:RecQ rec) {w:World} {rb o q:Nat} {all:List Tk} {x:Tk} {r:List Tk} (TI:∀ x,x ∈ all→TokI x) (hx:x.t=[105,102]) (h:QS w rb all o q (.inr (x :: r))) (hn:Nou (choiceR rec o q) (.inr (x :: r))) :
  Calls Tryz.prog 137 #[.pointer (some ⟨rb,0,none⟩),.int .i64 (x.a:Nat)] w (PostQ rb all o q w (.inr (x :: r)) (choiceR rec o q)):=by
 have C0:=Ctx.start hn
 have q0:=enter_q (o:=o) (x:=x) (r:=r) [105,102]
 have hrb:=h.lt
 have K0:Keep rb w (w.alloc exZ):=(Keep.refl rb w).alloc _
 have Z0:(w.alloc exZ).heap[w.heap.size]?=some exZ:=heap_alloc_new w _
 have h0:=h.alloc exZ
 have c1:=opens_s [105,102] (by decide) hx h0
 have C1:=C0.step q0
 generalize onw (enterT [105,102] o) (.inr (x :: r))=st1 at *
 clear C0 q0 hn
 go_enter Tryz.func137,Tryz.ntmps137
 go_wp2_with fail
 refine c1.mono ?_
 rintro e w1 ⟨rfl,h1,k1⟩
 clear c1
 have Z1:=k1.blk Z0 (by have:=K0.size;omega)
 have K1:=K0.trans k1
 clear K0 Z0
 have c2:=R _ rb all 1 (o+1) (q) st1 TI (by omega) (by omega) h1 C1.nou
 go_wp2_with fail
 refine c2.mono ?_
 rintro e w2 ⟨x2,ao2,cap2,st2,rfl,S2,h2,k2,Q2⟩
 have C2:=C1.step Q2
 clear c2 Q2 C1
 have S2a:=S2.low (show (w.heap.size+1)≤_ from (by have:=lt_of_block Z1;omega))
 clear S2
 have Z2:=k2.blk Z1 (by have:=K1.size;omega)
 have K2:=K1.trans k2
 clear K1 Z1
 have h2a:=h2.alloc (.cells #[.int .i64 x2.k,.int .i64 x2.n,stv x2.nm,.slice ao2 x2.kids.len cap2,.int .i64 x2.a] 25)
 have K2a:=K2.alloc (.cells #[.int .i64 x2.k,.int .i64 x2.n,stv x2.nm,.slice ao2 x2.kids.len cap2,.int .i64 x2.a] 25)
 have Z2a:=(Below.heap_alloc w2 (.cells #[.int .i64 x2.k,.int .i64 x2.n,stv x2.nm,.slice ao2 x2.kids.len cap2,.int .i64 x2.a] 25) _ (lt_of_block Z2)).trans Z2
 have Y2_a:(World.alloc w2 (.cells #[.int .i64 x2.k,.int .i64 x2.n,stv x2.nm,.slice ao2 x2.kids.len cap2,.int .i64 x2.a] 25)).heap[w2.heap.size]?=some (.cells #[.int .i64 x2.k,.int .i64 x2.n,stv x2.nm,.slice ao2 x2.kids.len cap2,.int .i64 x2.a] 25):=heap_alloc_new w2 _
 have S2a_2b:=S2a.allocN (.cells #[.int .i64 x2.k,.int .i64 x2.n,stv x2.nm,.slice ao2 x2.kids.len cap2,.int .i64 x2.a] 25)
 have hb2:rb < w2.heap.size:=by have:=K2.size;omega
 clear h2 K2 Z2 S2a
 rw [exV_out]
 have c3:=take_v TI [116,104,101,110] ⟨by decide,by decide⟩ h2a
 go_wp2_with fail
 refine c3.mono ?_
 rintro e w3 ⟨x3,st3,rfl,h3,k3,Q3⟩
 have C3:=C2.step Q3
 clear c3 Q3 C2
 have Z3:=k3.blk Z2a (by have:=K2a.size;omega)
 have K3:=K2a.trans k3
 have Y2_3:=k3.blk Y2_a (by omega)
 have S2a_3:=S2a_2b.keepN k3 (by omega)
 clear K2a Z2a Y2_a S2a_2b
 have c4:=R _ rb all 1 (o+1) (q) st3 TI (by omega) (by omega) h3 C3.nou
 go_wp2_with fail
 refine c4.mono ?_
 rintro e w4 ⟨x4,ao4,cap4,st4,rfl,S4,h4,k4,Q4⟩
 have C4:=C3.step Q4
 clear c4 Q4 C3
 have S4a:=S4.low (show (w.heap.size+1)≤_ from (by have:=lt_of_block Z3;omega))
 clear S4
 have Z4:=k4.blk Z3 (by have:=K3.size;omega)
 have K4:=K3.trans k4
 have Y2_4:=k4.blk Y2_3 (by omega)
 have S2a_4:=S2a_3.keepN k4 (by omega)
 clear K3 Z3 Y2_3 S2a_3
 have h4a:=h4.alloc (.cells #[.int .i64 x4.k,.int .i64 x4.n,stv x4.nm,.slice ao4 x4.kids.len cap4,.int .i64 x4.a] 25)
 have K4a:=K4.alloc (.cells #[.int .i64 x4.k,.int .i64 x4.n,stv x4.nm,.slice ao4 x4.kids.len cap4,.int .i64 x4.a] 25)
 have Z4a:=(Below.heap_alloc w4 (.cells #[.int .i64 x4.k,.int .i64 x4.n,stv x4.nm,.slice ao4 x4.kids.len cap4,.int .i64 x4.a] 25) _ (lt_of_block Z4)).trans Z4
 have Y2_4a:=(Below.heap_alloc w4 (.cells #[.int .i64 x4.k,.int .i64 x4.n,stv x4.nm,.slice ao4 x4.kids.len cap4,.int .i64 x4.a] 25) _ (lt_of_block Y2_4)).trans Y2_4
 have Y4_a:(World.alloc w4 (.cells #[.int .i64 x4.k,.int .i64 x4.n,stv x4.nm,.slice ao4 x4.kids.len cap4,.int .i64 x4.a] 25)).heap[w4.heap.size]?=some (.cells #[.int .i64 x4.k,.int .i64 x4.n,stv x4.nm,.slice ao4 x4.kids.len cap4,.int .i64 x4.a] 25):=heap_alloc_new w4 _
 have S2a_4b:=S2a_4.allocN (.cells #[.int .i64 x4.k,.int .i64 x4.n,stv x4.nm,.slice ao4 x4.kids.len cap4,.int .i64 x4.a] 25)
 have S4a_4b:=S4a.allocN (.cells #[.int .i64 x4.k,.int .i64 x4.n,stv x4.nm,.slice ao4 x4.kids.len cap4,.int .i64 x4.a] 25)
 have hb4:rb < w4.heap.size:=by have:=K4.size;omega
 clear h4 K4 Z4 Y2_4 S2a_4 S4a
 rw [exV_out]
 have c5:=take_v TI [101,108,115,101] ⟨by decide,by decide⟩ h4a
 go_wp2_with fail
 refine c5.mono ?_
 rintro e w5 ⟨x5,st5,rfl,h5,k5,Q5⟩
 have C5:=C4.step Q5
 clear c5 Q5 C4
 have Z5:=k5.blk Z4a (by have:=K4a.size;omega)
 have K5:=K4a.trans k5
 have Y2_5:=k5.blk Y2_4a (by omega)
 have Y4_5:=k5.blk Y4_a (by omega)
 have S2a_5:=S2a_4b.keepN k5 (by omega)
 have S4a_5:=S4a_4b.keepN k5 (by omega)
 clear K4a Z4a Y2_4a Y4_a S2a_4b S4a_4b
 have c6:=R _ rb all 1 (o+1) (q) st5 TI (by omega) (by omega) h5 C5.nou
 go_wp2_with fail
 refine c6.mono ?_
 rintro e w6 ⟨x6,ao6,cap6,st6,rfl,S6,h6,k6,Q6⟩
 have C6:=C5.step Q6
 clear c6 Q6 C5
 have S6a:=S6.low (show (w.heap.size+1)≤_ from (by have:=lt_of_block Z5;omega))
 clear S6
 have Z6:=k6.blk Z5 (by have:=K5.size;omega)
 have K6:=K5.trans k6
 have Y2_6:=k6.blk Y2_5 (by omega)
 have Y4_6:=k6.blk Y4_5 (by omega)
 have S2a_6:=S2a_5.keepN k6 (by omega)
 have S4a_6:=S4a_5.keepN k6 (by omega)
 clear K5 Z5 Y2_5 Y4_5 S2a_5 S4a_5
 have h6a:=h6.alloc (.cells #[.int .i64 x6.k,.int .i64 x6.n,stv x6.nm,.slice ao6 x6.kids.len cap6,.int .i64 x6.a] 25)
 have K6a:=K6.alloc (.cells #[.int .i64 x6.k,.int .i64 x6.n,stv x6.nm,.slice ao6 x6.kids.len cap6,.int .i64 x6.a] 25)
 have Z6a:=(Below.heap_alloc w6 (.cells #[.int .i64 x6.k,.int .i64 x6.n,stv x6.nm,.slice ao6 x6.kids.len cap6,.int .i64 x6.a] 25) _ (lt_of_block Z6)).trans Z6
 have Y2_6a:=(Below.heap_alloc w6 (.cells #[.int .i64 x6.k,.int .i64 x6.n,stv x6.nm,.slice ao6 x6.kids.len cap6,.int .i64 x6.a] 25) _ (lt_of_block Y2_6)).trans Y2_6
 have Y4_6a:=(Below.heap_alloc w6 (.cells #[.int .i64 x6.k,.int .i64 x6.n,stv x6.nm,.slice ao6 x6.kids.len cap6,.int .i64 x6.a] 25) _ (lt_of_block Y4_6)).trans Y4_6
 have Y6_a:(World.alloc w6 (.cells #[.int .i64 x6.k,.int .i64 x6.n,stv x6.nm,.slice ao6 x6.kids.len cap6,.int .i64 x6.a] 25)).heap[w6.heap.size]?=some (.cells #[.int .i64 x6.k,.int .i64 x6.n,stv x6.nm,.slice ao6 x6.kids.len cap6,.int .i64 x6.a] 25):=heap_alloc_new w6 _
 have S2a_6b:=S2a_6.allocN (.cells #[.int .i64 x6.k,.int .i64 x6.n,stv x6.nm,.slice ao6 x6.kids.len cap6,.int .i64 x6.a] 25)
 have S4a_6b:=S4a_6.allocN (.cells #[.int .i64 x6.k,.int .i64 x6.n,stv x6.nm,.slice ao6 x6.kids.len cap6,.int .i64 x6.a] 25)
 have S6a_6b:=S6a.allocN (.cells #[.int .i64 x6.k,.int .i64 x6.n,stv x6.nm,.slice ao6 x6.kids.len cap6,.int .i64 x6.a] 25)
 have hb6:rb < w6.heap.size:=by have:=K6.size;omega
 clear h6 K6 Z6 Y2_6 Y4_6 S2a_6 S4a_6 S6a
 rw [exV_out]
 go_upto_region 7 with fail
 generalize (World.alloc w6 (.cells #[.int .i64 x6.k,.int .i64 x6.n,stv x6.nm,.slice ao6 x6.kids.len cap6,.int .i64 x6.a] 25))=v7 at *
 obtain ⟨o8,d8,df8,h8⟩:=h6a.down
 have k8:Keep rb v7 _:=Keep.at v7 2 (.int .i64 (wrap64 (o8 - 1)))
 clear h6a
 go_upto_region 8 with fail
 generalize v7.setCell ⟨rb,2,none⟩ (.int .i64 (wrap64 (o8 - 1)))=w8 at *
 clear d8 df8
 have Z8:=k8.blk Z6a (by have:=K6a.size;omega)
 have K8:=K6a.trans k8
 have Y2_8:=k8.blk Y2_6a (by omega)
 have Y4_8:=k8.blk Y4_6a (by omega)
 have Y6_8:=k8.blk Y6_a (by omega)
 have S2a_8:=S2a_6b.keepN k8 (by omega)
 have S4a_8:=S4a_6b.keepN k8 (by omega)
 have S6a_8:=S6a_6b.keepN k8 (by omega)
 clear K6a Z6a Y2_6a Y4_6a Y6_a S2a_6b S4a_6b S6a_6b
 have NS:Sl (World.alloc w8 (.cells [.int .i64 x2.k,.int .i64 x2.n,stv x2.nm,.slice ao2 x2.kids.len cap2,.int .i64 x2.a,.int .i64 x4.k,.int .i64 x4.n,stv x4.nm,.slice ao4 x4.kids.len cap4,.int .i64 x4.a,.int .i64 x6.k,.int .i64 x6.n,stv x6.nm,.slice ao6 x6.kids.len cap6,.int .i64 x6.a].toArray 25)) (Nw (w.heap.size+1)) (((one x2).snoc x4).snoc x6) (some ⟨w8.heap.size,0,none⟩):=Sl.fresh _ 25 (Fc.app (Fc.app (Fc.one (e:=x2) cap2 S2a_8) (Fc.one (e:=x4) cap4 S4a_8)) (Fc.one (e:=x6) cap6 S6a_8)) (by have:=lt_of_block Z8;omega)
 have KF:=K8.alloc (.cells [.int .i64 x2.k,.int .i64 x2.n,stv x2.nm,.slice ao2 x2.kids.len cap2,.int .i64 x2.a,.int .i64 x4.k,.int .i64 x4.n,stv x4.nm,.slice ao4 x4.kids.len cap4,.int .i64 x4.a,.int .i64 x6.k,.int .i64 x6.n,stv x6.nm,.slice ao6 x6.kids.len cap6,.int .i64 x6.a].toArray 25)
 have RF:=h8.alloc (.cells [.int .i64 x2.k,.int .i64 x2.n,stv x2.nm,.slice ao2 x2.kids.len cap2,.int .i64 x2.a,.int .i64 x4.k,.int .i64 x4.n,stv x4.nm,.slice ao4 x4.kids.len cap4,.int .i64 x4.a,.int .i64 x6.k,.int .i64 x6.n,stv x6.nm,.slice ao6 x6.kids.len cap6,.int .i64 x6.a].toArray 25)
 have ZF:=(Below.heap_alloc w8 (.cells [.int .i64 x2.k,.int .i64 x2.n,stv x2.nm,.slice ao2 x2.kids.len cap2,.int .i64 x2.a,.int .i64 x4.k,.int .i64 x4.n,stv x4.nm,.slice ao4 x4.kids.len cap4,.int .i64 x4.a,.int .i64 x6.k,.int .i64 x6.n,stv x6.nm,.slice ao6 x6.kids.len cap6,.int .i64 x6.a].toArray 25) _ (lt_of_block Z8)).trans Z8
 have KE:=KF.set5 (b:=w.heap.size) (by omega) (.int .i64 19) (.int .i64 0) (stv []) (.slice (some ⟨w8.heap.size,0,none⟩) 3 3) (.int .i64 x.a)
 have RE:=RF.set5 (b:=w.heap.size) (by omega) (.int .i64 19) (.int .i64 0) (stv []) (.slice (some ⟨w8.heap.size,0,none⟩) 3 3) (.int .i64 x.a)
 have ZE:=set5k (.int .i64 19) (.int .i64 0) (stv []) (.slice (some ⟨w8.heap.size,0,none⟩) 3 3) (.int .i64 x.a) ZF
 have SE:Sl _ (Nw w.heap.size) _ _:=(NS.set5 (b:=w.heap.size) (by omega) (.int .i64 19) (.int .i64 0) (stv []) (.slice (some ⟨w8.heap.size,0,none⟩) 3 3) (.int .i64 x.a)).low (by omega)
 obtain ⟨z0,z1,z2,z3,z4,zf⟩:=box5 ZF
 obtain ⟨u0,u1,u2,u3,u4,-⟩:=box5 ZE
 obtain ⟨y00,y01,y02,y03,y04,y0f⟩:=box5 Y2_8
 obtain ⟨y10,y11,y12,y13,y14,y1f⟩:=box5 Y4_8
 obtain ⟨y20,y21,y22,y23,y24,y2f⟩:=box5 Y6_8
 have FIN:=C6.fin
 clear C6 ZE ZF KF RF NS K8 Z8 h8 Y2_8 Y4_8 Y6_8 S2a_8 S4a_8 S6a_8
 go_wp2
 exact bodyPost_ret (v:=exV ⟨19,0,[],x.a,(((one x2).snoc x4).snoc x6)⟩ (some ⟨w8.heap.size,0,none⟩) 3) (by simp [results,Tryz.results137,go_sem,u0,u1,u2,u3,u4,exV];rfl) rfl ⟨_,_,_,_,rfl,SE,RE,KE,FIN⟩
set_option maxRecDepth 100000 in
set_option maxHeartbeats 2000000 in
theorem not_q {rec:Rdr} (R:RecQ rec) {w:World} {rb o q:Nat} {all:List Tk} {x:Tk} {r:List Tk} (TI:∀ x,x ∈ all→TokI x) (h:QS w rb all o q (.inr (x :: r))) (hn:Nou (prefR rec [110,111,116] 7 3 o q) (.inr (x :: r))) :
  Calls Tryz.prog 57 #[.pointer (some ⟨rb,0,none⟩)] w (PostQ rb all o q w (.inr (x :: r)) (prefR rec [110,111,116] 7 3 o q)):=by
 have hrb:=h.lt
 have K0:Keep rb w (w.alloc exZ):=(Keep.refl rb w).alloc _
 have Z0:(w.alloc exZ).heap[w.heap.size]?=some exZ:=heap_alloc_new w _
 have h0:=h.alloc exZ
 have hs1:w.heap.size < (w.alloc exZ).heap.size:=by simp
 have c0:=is_s TI [110,111,116] (by decide) (by decide) h0
 by_cases hx:x.t=[110,111,116]
 ·have EQ:∀ ts,(.inr (x :: r):Sq)=.inr ts→prefR rec [110,111,116] 7 3 o q ts=(fun ts=>(enterT [110,111,116] o ts).bind fun a t1=>(rec 3 (o+1) q t1).bind fun kid t2=>.ok ⟨7,0,[],(a:Nat),one kid⟩ t2) ts:=fun ts hs=>by
   cases hs
   show (if x.t=[110,111,116] then _ else _)=(enterT [110,111,116] o (x :: r)).bind _
   by_cases h64:o=64
   ·simp [enterT,hx,h64,Rs.bind]
   ·simp [enterT,hx,h64,Rs.bind]
  have C0:=Ctx.start (hn.congr EQ)
  have HC:Hid (∀ X st',Qd (fun ts=>(enterT [110,111,116] o ts).bind fun a t1=>(rec 3 (o+1) q t1).bind fun kid t2=>.ok ⟨7,0,[],(a:Nat),one kid⟩ t2) (.inr (x :: r)) X st'→Qd (prefR rec [110,111,116] 7 3 o q) (.inr (x :: r)) X st'):=fun X st' q=>q.congr fun ts hs=>(EQ ts hs).symm
  have q0:=enter_q (o:=o) (x:=x) (r:=r) [110,111,116]
  have C1:=C0.step q0
  have c1:=fun (wx:World) (hh:QS wx rb all o q (.inr (x :: r)))=>opens_s [110,111,116] (by decide) hx hh
  rw [show isS [110,111,116] (.inr (x :: r))=true by simp [isS,hx]] at c0
  generalize onw (enterT [110,111,116] o) (.inr (x :: r))=st1 at *
  clear C0 q0 hn EQ hx
  go_enter Tryz.func57,Tryz.ntmps57
  go_wp2_with fail
  refine c0.mono ?_
  rintro e w1 ⟨rfl,b1⟩
  clear c0
  have k1:=Keep.ofBelow (rb:=rb) b1
  have h1:=h0.below b1
  clear b1 h0
  have Z1:=k1.blk Z0 (by have:=K0.size;omega)
  have K1:=K0.trans k1
  clear K0 Z0
  obtain ⟨i,g,cap,L,hg,hi,hcL,hcap,hL,hm,d0,d1,-,-,-,⟨-,-,-,t3⟩,hf⟩:=h1.ok
  have hiI:(i:Int) < (L:Int):=by omega
  go_wp2_with fail
  go_quiet (fail)
  have b2:Below w1.heap.size w1 (w1.drewN nq):=bdr (Below.refl _ _) nq
  have h2:=h1.below b2
  have k2:=Keep.ofBelow (rb:=rb) b2
  generalize w1.drewN nq=w2 at *
  clear b2 h1 d0 d1 t3 hf hm
  have Z2:=k2.blk Z1 (by have:=K1.size;omega)
  have K2:=K1.trans k2
  clear K1 Z1
  have c3:=c1 _ h2
  clear c1
  go_wp2_with fail
  refine c3.mono ?_
  rintro e w3 ⟨rfl,h3,k3⟩
  clear c3
  have Z3:=k3.blk Z2 (by have:=K2.size;omega)
  have K3:=K2.trans k3
  clear K2 Z2
  have c4:=R _ rb all 3 (o+1) (q) st1 TI (by omega) (by omega) h3 C1.nou
  go_wp2_with fail
  refine c4.mono ?_
  rintro e w4 ⟨x4,ao4,cap4,st4,rfl,S4,h4,k4,Q4⟩
  have C4:=C1.step Q4
  clear c4 Q4 C1
  have S4a:=S4.low (show (w.heap.size+1)≤_ from (by have:=lt_of_block Z3;omega))
  clear S4
  have Z4:=k4.blk Z3 (by have:=K3.size;omega)
  have K4:=K3.trans k4
  clear K3 Z3
  have h4a:=h4.alloc (.cells #[.int .i64 x4.k,.int .i64 x4.n,stv x4.nm,.slice ao4 x4.kids.len cap4,.int .i64 x4.a] 25)
  have K4a:=K4.alloc (.cells #[.int .i64 x4.k,.int .i64 x4.n,stv x4.nm,.slice ao4 x4.kids.len cap4,.int .i64 x4.a] 25)
  have Z4a:=(Below.heap_alloc w4 (.cells #[.int .i64 x4.k,.int .i64 x4.n,stv x4.nm,.slice ao4 x4.kids.len cap4,.int .i64 x4.a] 25) _ (lt_of_block Z4)).trans Z4
  have Y4_a:(World.alloc w4 (.cells #[.int .i64 x4.k,.int .i64 x4.n,stv x4.nm,.slice ao4 x4.kids.len cap4,.int .i64 x4.a] 25)).heap[w4.heap.size]?=some (.cells #[.int .i64 x4.k,.int .i64 x4.n,stv x4.nm,.slice ao4 x4.kids.len cap4,.int .i64 x4.a] 25):=heap_alloc_new w4 _
  have S4a_4b:=S4a.allocN (.cells #[.int .i64 x4.k,.int .i64 x4.n,stv x4.nm,.slice ao4 x4.kids.len cap4,.int .i64 x4.a] 25)
  have hb4:rb < w4.heap.size:=by have:=K4.size;omega
  clear h4 K4 Z4 S4a
  rw [exV_out]
  go_upto_region 7 with fail
  generalize (World.alloc w4 (.cells #[.int .i64 x4.k,.int .i64 x4.n,stv x4.nm,.slice ao4 x4.kids.len cap4,.int .i64 x4.a] 25))=v5 at *
  obtain ⟨o6,d6,df6,h6⟩:=h4a.down
  have k6:Keep rb v5 _:=Keep.at v5 2 (.int .i64 (wrap64 (o6 - 1)))
  clear h4a
  go_upto_region 8 with fail
  generalize v5.setCell ⟨rb,2,none⟩ (.int .i64 (wrap64 (o6 - 1)))=w6 at *
  clear d6 df6
  have Z6:=k6.blk Z4a (by have:=K4a.size;omega)
  have K6:=K4a.trans k6
  have Y4_6:=k6.blk Y4_a (by omega)
  have S4a_6:=S4a_4b.keepN k6 (by omega)
  clear K4a Z4a Y4_a S4a_4b
  have HX:=HC.out _ _ C4.fin
  have NS:Sl (World.alloc w6 (.cells [.int .i64 x4.k,.int .i64 x4.n,stv x4.nm,.slice ao4 x4.kids.len cap4,.int .i64 x4.a].toArray 25)) (Nw (w.heap.size+1)) (one x4) (some ⟨w6.heap.size,0,none⟩):=Sl.fresh _ 25 (Fc.one (e:=x4) cap4 S4a_6) (by have:=lt_of_block Z6;omega)
  have KF:=K6.alloc (.cells [.int .i64 x4.k,.int .i64 x4.n,stv x4.nm,.slice ao4 x4.kids.len cap4,.int .i64 x4.a].toArray 25)
  have RF:=h6.alloc (.cells [.int .i64 x4.k,.int .i64 x4.n,stv x4.nm,.slice ao4 x4.kids.len cap4,.int .i64 x4.a].toArray 25)
  have ZF:=(Below.heap_alloc w6 (.cells [.int .i64 x4.k,.int .i64 x4.n,stv x4.nm,.slice ao4 x4.kids.len cap4,.int .i64 x4.a].toArray 25) _ (lt_of_block Z6)).trans Z6
  have KE:=KF.set5 (b:=w.heap.size) (by omega) (.int .i64 7) (.int .i64 0) (stv []) (.slice (some ⟨w6.heap.size,0,none⟩) 1 1) (.int .i64 x.a)
  have RE:=RF.set5 (b:=w.heap.size) (by omega) (.int .i64 7) (.int .i64 0) (stv []) (.slice (some ⟨w6.heap.size,0,none⟩) 1 1) (.int .i64 x.a)
  have ZE:=set5k (.int .i64 7) (.int .i64 0) (stv []) (.slice (some ⟨w6.heap.size,0,none⟩) 1 1) (.int .i64 x.a) ZF
  have SE:Sl _ (Nw w.heap.size) _ _:=(NS.set5 (b:=w.heap.size) (by omega) (.int .i64 7) (.int .i64 0) (stv []) (.slice (some ⟨w6.heap.size,0,none⟩) 1 1) (.int .i64 x.a)).low (by omega)
  obtain ⟨z0,z1,z2,z3,z4,zf⟩:=box5 ZF
  obtain ⟨u0,u1,u2,u3,u4,-⟩:=box5 ZE
  obtain ⟨y00,y01,y02,y03,y04,y0f⟩:=box5 Y4_6
  have FIN:=HX
  clear HX ZE ZF KF RF NS K6 Z6 h6 Y4_6 S4a_6
  go_wp2
  exact bodyPost_ret (v:=exV ⟨7,0,[],x.a,(one x4)⟩ (some ⟨w6.heap.size,0,none⟩) 1) (by simp [results,Tryz.results57,go_sem,u0,u1,u2,u3,u4,exV];rfl) rfl ⟨_,_,_,_,rfl,SE,RE,KE,FIN⟩
 ·have EQ:∀ ts,(.inr (x :: r):Sq)=.inr ts→prefR rec [110,111,116] 7 3 o q ts=rec 4 o q ts:=fun ts hs=>by
   cases hs
   show (if x.t=[110,111,116] then _ else _)=_
   rw [if_neg hx]
  have HN:=hn.congr EQ
  have HC:Hid (∀ X st',Qd (rec 4 o q) (.inr (x :: r)) X st'→Qd (prefR rec [110,111,116] 7 3 o q) (.inr (x :: r)) X st'):=fun X st' q=>q.congr fun ts hs=>(EQ ts hs).symm
  rw [show isS [110,111,116] (.inr (x :: r))=false by simp [isS,hx]] at c0
  clear EQ hx hn
  go_enter Tryz.func57,Tryz.ntmps57
  go_wp2_with fail
  refine c0.mono ?_
  rintro e w1 ⟨rfl,b1⟩
  clear c0
  have k1:=Keep.ofBelow (rb:=rb) b1
  have h1:=h0.below b1
  clear b1 h0
  have Z1:=k1.blk Z0 (by have:=K0.size;omega)
  have K1:=K0.trans k1
  clear K0 Z0
  have c2:=R _ rb all 4 o q _ TI (by omega) (by omega) h1 HN
  go_wp2_with fail
  refine c2.mono ?_
  rintro e w2 ⟨x2,ao2,cap2,st2,rfl,S2,h2,k2,Q2⟩
  have HX:=HC.out _ _ Q2
  clear c2 Q2
  have S2a:=S2.low (show (w.heap.size+1)≤_ from (by have:=lt_of_block Z1;omega))
  clear S2
  have Z2:=k2.blk Z1 (by have:=K1.size;omega)
  have K2:=K1.trans k2
  clear K1 Z1
  have KE:=K2.set5 (b:=w.heap.size) (by omega) (.int .i64 x2.k) (.int .i64 x2.n) (stv x2.nm) (.slice ao2 x2.kids.len cap2) (.int .i64 x2.a)
  have RE:=h2.set5 (b:=w.heap.size) (by omega) (.int .i64 x2.k) (.int .i64 x2.n) (stv x2.nm) (.slice ao2 x2.kids.len cap2) (.int .i64 x2.a)
  have ZE:=set5k (.int .i64 x2.k) (.int .i64 x2.n) (stv x2.nm) (.slice ao2 x2.kids.len cap2) (.int .i64 x2.a) Z2
  have SE:Sl _ (Nw w.heap.size) _ _:=(S2a.set5 (b:=w.heap.size) (by omega) (.int .i64 x2.k) (.int .i64 x2.n) (stv x2.nm) (.slice ao2 x2.kids.len cap2) (.int .i64 x2.a)).low (by omega)
  obtain ⟨z0,z1,z2,z3,z4,zf⟩:=box5 Z2
  obtain ⟨u0,u1,u2,u3,u4,-⟩:=box5 ZE
  have FIN:=HX
  clear ZE K2 Z2 h2 S2a
  rw [exV_out]
  go_wp2
  exact bodyPost_ret (v:=exV x2 ao2 cap2) (by simp [results,Tryz.results57,go_sem,u0,u1,u2,u3,u4,exV]) rfl ⟨_,_,_,_,rfl,SE,RE,KE,FIN⟩
def AtmQ (rec:Rdr):Prop :=
 ∀ (w:World) (rb:Nat) (all:List Tk) (o q:Nat) (x:Tk) (r:List Tk),(∀ x,x ∈ all→TokI x)→QS w rb all o q (.inr (x :: r))→Nou (rec 8 o q) (.inr (x :: r))→Calls Tryz.prog 96 #[.pointer (some ⟨rb,0,none⟩)] w (PostQ rb all o q w (.inr (x :: r)) (rec 8 o q))
set_option maxRecDepth 100000 in
set_option maxHeartbeats 2000000 in
theorem unary_q {rec:Rdr} (R:RecQ rec) (RA:AtmQ rec) {w:World} {rb o q:Nat} {all:List Tk} {x:Tk} {r:List Tk} (TI:∀ x,x ∈ all→TokI x) (h:QS w rb all o q (.inr (x :: r))) (hn:Nou (prefR rec [45] 6 7 o q) (.inr (x :: r))) :
  Calls Tryz.prog 58 #[.pointer (some ⟨rb,0,none⟩)] w (PostQ rb all o q w (.inr (x :: r)) (prefR rec [45] 6 7 o q)):=by
 have hrb:=h.lt
 have K0:Keep rb w (w.alloc exZ):=(Keep.refl rb w).alloc _
 have Z0:(w.alloc exZ).heap[w.heap.size]?=some exZ:=heap_alloc_new w _
 have h0:=h.alloc exZ
 have hs1:w.heap.size < (w.alloc exZ).heap.size:=by simp
 have c0:=is_s TI [45] (by decide) (by decide) h0
 by_cases hx:x.t=[45]
 ·have EQ:∀ ts,(.inr (x :: r):Sq)=.inr ts→prefR rec [45] 6 7 o q ts=(fun ts=>(enterT [45] o ts).bind fun a t1=>(rec 7 (o+1) q t1).bind fun kid t2=>.ok ⟨6,0,[],(a:Nat),one kid⟩ t2) ts:=fun ts hs=>by
   cases hs
   show (if x.t=[45] then _ else _)=(enterT [45] o (x :: r)).bind _
   by_cases h64:o=64
   ·simp [enterT,hx,h64,Rs.bind]
   ·simp [enterT,hx,h64,Rs.bind]
  have C0:=Ctx.start (hn.congr EQ)
  have HC:Hid (∀ X st',Qd (fun ts=>(enterT [45] o ts).bind fun a t1=>(rec 7 (o+1) q t1).bind fun kid t2=>.ok ⟨6,0,[],(a:Nat),one kid⟩ t2) (.inr (x :: r)) X st'→Qd (prefR rec [45] 6 7 o q) (.inr (x :: r)) X st'):=fun X st' q=>q.congr fun ts hs=>(EQ ts hs).symm
  have q0:=enter_q (o:=o) (x:=x) (r:=r) [45]
  have C1:=C0.step q0
  have c1:=fun (wx:World) (hh:QS wx rb all o q (.inr (x :: r)))=>opens_s [45] (by decide) hx hh
  rw [show isS [45] (.inr (x :: r))=true by simp [isS,hx]] at c0
  generalize onw (enterT [45] o) (.inr (x :: r))=st1 at *
  clear C0 q0 hn EQ hx
  go_enter Tryz.func58,Tryz.ntmps58
  go_wp2_with fail
  refine c0.mono ?_
  rintro e w1 ⟨rfl,b1⟩
  clear c0
  have k1:=Keep.ofBelow (rb:=rb) b1
  have h1:=h0.below b1
  clear b1 h0
  have Z1:=k1.blk Z0 (by have:=K0.size;omega)
  have K1:=K0.trans k1
  clear K0 Z0
  obtain ⟨i,g,cap,L,hg,hi,hcL,hcap,hL,hm,d0,d1,-,-,-,⟨-,-,-,t3⟩,hf⟩:=h1.ok
  have hiI:(i:Int) < (L:Int):=by omega
  go_wp2_with fail
  go_quiet (fail)
  have b2:Below w1.heap.size w1 (w1.drewN nq):=bdr (Below.refl _ _) nq
  have h2:=h1.below b2
  have k2:=Keep.ofBelow (rb:=rb) b2
  generalize w1.drewN nq=w2 at *
  clear b2 h1 d0 d1 t3 hf hm
  have Z2:=k2.blk Z1 (by have:=K1.size;omega)
  have K2:=K1.trans k2
  clear K1 Z1
  have c3:=c1 _ h2
  clear c1
  go_wp2_with fail
  refine c3.mono ?_
  rintro e w3 ⟨rfl,h3,k3⟩
  clear c3
  have Z3:=k3.blk Z2 (by have:=K2.size;omega)
  have K3:=K2.trans k3
  clear K2 Z2
  have c4:=R _ rb all 7 (o+1) (q) st1 TI (by omega) (by omega) h3 C1.nou
  go_wp2_with fail
  refine c4.mono ?_
  rintro e w4 ⟨x4,ao4,cap4,st4,rfl,S4,h4,k4,Q4⟩
  have C4:=C1.step Q4
  clear c4 Q4 C1
  have S4a:=S4.low (show (w.heap.size+1)≤_ from (by have:=lt_of_block Z3;omega))
  clear S4
  have Z4:=k4.blk Z3 (by have:=K3.size;omega)
  have K4:=K3.trans k4
  clear K3 Z3
  have h4a:=h4.alloc (.cells #[.int .i64 x4.k,.int .i64 x4.n,stv x4.nm,.slice ao4 x4.kids.len cap4,.int .i64 x4.a] 25)
  have K4a:=K4.alloc (.cells #[.int .i64 x4.k,.int .i64 x4.n,stv x4.nm,.slice ao4 x4.kids.len cap4,.int .i64 x4.a] 25)
  have Z4a:=(Below.heap_alloc w4 (.cells #[.int .i64 x4.k,.int .i64 x4.n,stv x4.nm,.slice ao4 x4.kids.len cap4,.int .i64 x4.a] 25) _ (lt_of_block Z4)).trans Z4
  have Y4_a:(World.alloc w4 (.cells #[.int .i64 x4.k,.int .i64 x4.n,stv x4.nm,.slice ao4 x4.kids.len cap4,.int .i64 x4.a] 25)).heap[w4.heap.size]?=some (.cells #[.int .i64 x4.k,.int .i64 x4.n,stv x4.nm,.slice ao4 x4.kids.len cap4,.int .i64 x4.a] 25):=heap_alloc_new w4 _
  have S4a_4b:=S4a.allocN (.cells #[.int .i64 x4.k,.int .i64 x4.n,stv x4.nm,.slice ao4 x4.kids.len cap4,.int .i64 x4.a] 25)
  have hb4:rb < w4.heap.size:=by have:=K4.size;omega
  clear h4 K4 Z4 S4a
  rw [exV_out]
  go_upto_region 7 with fail
  generalize (World.alloc w4 (.cells #[.int .i64 x4.k,.int .i64 x4.n,stv x4.nm,.slice ao4 x4.kids.len cap4,.int .i64 x4.a] 25))=v5 at *
  obtain ⟨o6,d6,df6,h6⟩:=h4a.down
  have k6:Keep rb v5 _:=Keep.at v5 2 (.int .i64 (wrap64 (o6 - 1)))
  clear h4a
  go_upto_region 8 with fail
  generalize v5.setCell ⟨rb,2,none⟩ (.int .i64 (wrap64 (o6 - 1)))=w6 at *
  clear d6 df6
  have Z6:=k6.blk Z4a (by have:=K4a.size;omega)
  have K6:=K4a.trans k6
  have Y4_6:=k6.blk Y4_a (by omega)
  have S4a_6:=S4a_4b.keepN k6 (by omega)
  clear K4a Z4a Y4_a S4a_4b
  have HX:=HC.out _ _ C4.fin
  have NS:Sl (World.alloc w6 (.cells [.int .i64 x4.k,.int .i64 x4.n,stv x4.nm,.slice ao4 x4.kids.len cap4,.int .i64 x4.a].toArray 25)) (Nw (w.heap.size+1)) (one x4) (some ⟨w6.heap.size,0,none⟩):=Sl.fresh _ 25 (Fc.one (e:=x4) cap4 S4a_6) (by have:=lt_of_block Z6;omega)
  have KF:=K6.alloc (.cells [.int .i64 x4.k,.int .i64 x4.n,stv x4.nm,.slice ao4 x4.kids.len cap4,.int .i64 x4.a].toArray 25)
  have RF:=h6.alloc (.cells [.int .i64 x4.k,.int .i64 x4.n,stv x4.nm,.slice ao4 x4.kids.len cap4,.int .i64 x4.a].toArray 25)
  have ZF:=(Below.heap_alloc w6 (.cells [.int .i64 x4.k,.int .i64 x4.n,stv x4.nm,.slice ao4 x4.kids.len cap4,.int .i64 x4.a].toArray 25) _ (lt_of_block Z6)).trans Z6
  have KE:=KF.set5 (b:=w.heap.size) (by omega) (.int .i64 6) (.int .i64 0) (stv []) (.slice (some ⟨w6.heap.size,0,none⟩) 1 1) (.int .i64 x.a)
  have RE:=RF.set5 (b:=w.heap.size) (by omega) (.int .i64 6) (.int .i64 0) (stv []) (.slice (some ⟨w6.heap.size,0,none⟩) 1 1) (.int .i64 x.a)
  have ZE:=set5k (.int .i64 6) (.int .i64 0) (stv []) (.slice (some ⟨w6.heap.size,0,none⟩) 1 1) (.int .i64 x.a) ZF
  have SE:Sl _ (Nw w.heap.size) _ _:=(NS.set5 (b:=w.heap.size) (by omega) (.int .i64 6) (.int .i64 0) (stv []) (.slice (some ⟨w6.heap.size,0,none⟩) 1 1) (.int .i64 x.a)).low (by omega)
  obtain ⟨z0,z1,z2,z3,z4,zf⟩:=box5 ZF
  obtain ⟨u0,u1,u2,u3,u4,-⟩:=box5 ZE
  obtain ⟨y00,y01,y02,y03,y04,y0f⟩:=box5 Y4_6
  have FIN:=HX
  clear HX ZE ZF KF RF NS K6 Z6 h6 Y4_6 S4a_6
  go_wp2
  exact bodyPost_ret (v:=exV ⟨6,0,[],x.a,(one x4)⟩ (some ⟨w6.heap.size,0,none⟩) 1) (by simp [results,Tryz.results58,go_sem,u0,u1,u2,u3,u4,exV];rfl) rfl ⟨_,_,_,_,rfl,SE,RE,KE,FIN⟩
 ·have EQ:∀ ts,(.inr (x :: r):Sq)=.inr ts→prefR rec [45] 6 7 o q ts=rec 8 o q ts:=fun ts hs=>by
   cases hs
   show (if x.t=[45] then _ else _)=_
   rw [if_neg hx]
  have HN:=hn.congr EQ
  have HC:Hid (∀ X st',Qd (rec 8 o q) (.inr (x :: r)) X st'→Qd (prefR rec [45] 6 7 o q) (.inr (x :: r)) X st'):=fun X st' q=>q.congr fun ts hs=>(EQ ts hs).symm
  rw [show isS [45] (.inr (x :: r))=false by simp [isS,hx]] at c0
  clear EQ hx hn
  go_enter Tryz.func58,Tryz.ntmps58
  go_wp2_with fail
  refine c0.mono ?_
  rintro e w1 ⟨rfl,b1⟩
  clear c0
  have k1:=Keep.ofBelow (rb:=rb) b1
  have h1:=h0.below b1
  clear b1 h0
  have Z1:=k1.blk Z0 (by have:=K0.size;omega)
  have K1:=K0.trans k1
  clear K0 Z0
  have c2:=RA _ rb all o q _ _ TI h1 HN
  go_wp2_with fail
  refine c2.mono ?_
  rintro e w2 ⟨x2,ao2,cap2,st2,rfl,S2,h2,k2,Q2⟩
  have HX:=HC.out _ _ Q2
  clear c2 Q2
  have S2a:=S2.low (show (w.heap.size+1)≤_ from (by have:=lt_of_block Z1;omega))
  clear S2
  have Z2:=k2.blk Z1 (by have:=K1.size;omega)
  have K2:=K1.trans k2
  clear K1 Z1
  have KE:=K2.set5 (b:=w.heap.size) (by omega) (.int .i64 x2.k) (.int .i64 x2.n) (stv x2.nm) (.slice ao2 x2.kids.len cap2) (.int .i64 x2.a)
  have RE:=h2.set5 (b:=w.heap.size) (by omega) (.int .i64 x2.k) (.int .i64 x2.n) (stv x2.nm) (.slice ao2 x2.kids.len cap2) (.int .i64 x2.a)
  have ZE:=set5k (.int .i64 x2.k) (.int .i64 x2.n) (stv x2.nm) (.slice ao2 x2.kids.len cap2) (.int .i64 x2.a) Z2
  have SE:Sl _ (Nw w.heap.size) _ _:=(S2a.set5 (b:=w.heap.size) (by omega) (.int .i64 x2.k) (.int .i64 x2.n) (stv x2.nm) (.slice ao2 x2.kids.len cap2) (.int .i64 x2.a)).low (by omega)
  obtain ⟨z0,z1,z2,z3,z4,zf⟩:=box5 Z2
  obtain ⟨u0,u1,u2,u3,u4,-⟩:=box5 ZE
  have FIN:=HX
  clear ZE K2 Z2 h2 S2a
  rw [exV_out]
  go_wp2
  exact bodyPost_ret (v:=exV x2 ao2 cap2) (by simp [results,Tryz.results58,go_sem,u0,u1,u2,u3,u4,exV]) rfl ⟨_,_,_,_,rfl,SE,RE,KE,FIN⟩
theorem QS.bad {w:World} {rb o q er a:Nat} {all:List Tk} (h:QS w rb all o q (.inl (er,a))):((er:Int) == 0)=false∧w.cell? ⟨rb,4,none⟩=some (.int .i64 (er:Nat))∧(∀ o' q':Nat,QS w rb all o' q' (.inl (er,a))):=by
 obtain ⟨i,o',q',h1,h2,h3⟩:=h
 obtain ⟨_,_,_,_,_,_,_,_,_,_,_,c4,_,hf0⟩:=h1.next (List.getElem?_eq_getElem h2)
 exact ⟨by simp;omega,c4,fun _ _=>⟨i,o',q',h1,h2,h3⟩⟩
theorem Qd.bad {α:Type} (f:List Tk→Rs α) (ea:Nat × Nat) (X:α):Qd f (.inl ea) X (.inl ea):=⟨rfl,fun ts y t hs=>by cases hs⟩
set_option maxRecDepth 100000 in
set_option maxHeartbeats 1000000 in
theorem row_bad {w:World} {rb o q row er a:Nat} {all:List Tk} (f:List Tk→Rs Ex) (h:QS w rb all o q (.inl (er,a))) :
  Calls Tryz.prog 31 #[.pointer (some ⟨rb,0,none⟩),.int .i64 (row:Nat)] w (PostQ rb all o q w (.inl (er,a)) f):=by
 have hrb:=h.lt
 have h0:=h.alloc exZ
 have K0:Keep rb w (w.alloc exZ):=(Keep.refl rb w).alloc _
 have Z0:(w.alloc exZ).heap[w.heap.size]?=some exZ:=heap_alloc_new w _
 obtain ⟨hb,c4,-⟩:=h0.bad
 have hb2:((er:Int) != 0)=true:=by rw [_root_.bne,hb];rfl
 have FIN:Hid (∀ wx st',(QS wx rb all o q st'∧Keep rb w wx∧st'=.inl (er,a))→PostQ rb all o q w (.inl (er,a)) f (.returned (exV noEx none 0)) wx):=fun wx st' hh=>⟨noEx,none,0,st',rfl,Sl.nil _ _ _,hh.1,hh.2.1,by rw [hh.2.2];exact Qd.bad f _ _⟩
 obtain ⟨z0,z1,z2,z3,z4,zf⟩:=box5 Z0
 go_enter Tryz.func31,Tryz.ntmps31
 go_wp2
 exact bodyPost_ret (v:=exV noEx none 0) (by simp [results,Tryz.results31,go_sem,exV,noEx,Fs.len]) rfl (FIN.out _ _ ⟨h0,K0,rfl⟩)
theorem QS.e0 {w:World} {rb o q:Nat} {all:List Tk} {ts:List Tk} (h:QS w rb all o q (.inr ts)):w.cell? ⟨rb,4,none⟩=some (.int .i64 0):=by
 match ts,h with
 | [],h=>exact absurd rfl h.le.2.2.ne
 | x :: r,h =>
  obtain ⟨i,g,cap,L,hg,hi,hcL,hcap,hL,hm,d0,d1,d2,d3,d4,-⟩:=h.ok
  exact d4
set_option maxRecDepth 100000 in
set_option maxHeartbeats 1000000 in
theorem row_3 {rec:Rdr} (R:RecQ rec) {w:World} {rb o q:Nat} {all:List Tk} {x:Tk} {r:List Tk} (TI:∀ x,x ∈ all→TokI x) (h:QS w rb all o q (.inr (x :: r))) (hn:Nou (prefR rec [110,111,116] 7 3 o q) (.inr (x :: r))) :
  Calls Tryz.prog 31 #[.pointer (some ⟨rb,0,none⟩),.int .i64 3] w (PostQ rb all o q w (.inr (x :: r)) (prefR rec [110,111,116] 7 3 o q)):=by
 have hrb:=h.lt
 have K0:Keep rb w (w.alloc exZ):=(Keep.refl rb w).alloc _
 have Z0:(w.alloc exZ).heap[w.heap.size]?=some exZ:=heap_alloc_new w _
 have h0:=h.alloc exZ
 have d4:=h0.e0
 have hs1:w.heap.size < (w.alloc exZ).heap.size:=by simp
 have c1:=not_q R TI h0 hn
 clear hn
 go_enter Tryz.func31,Tryz.ntmps31
 go_wp2_with fail
 refine c1.mono ?_
 rintro e w1 ⟨x1,ao1,cap1,st1,rfl,S1,h1,k1,Q1⟩
 clear c1 h0 d4
 have S1a:=S1.low (show (w.heap.size+1)≤_ from (by omega))
 clear S1
 have Z1:=k1.blk Z0 (by have:=K0.size;omega)
 have K1:=K0.trans k1
 clear K0 Z0
 have KE:=K1.set5 (b:=w.heap.size) (by omega) (.int .i64 x1.k) (.int .i64 x1.n) (stv x1.nm) (.slice ao1 x1.kids.len cap1) (.int .i64 x1.a)
 have RE:=h1.set5 (b:=w.heap.size) (by omega) (.int .i64 x1.k) (.int .i64 x1.n) (stv x1.nm) (.slice ao1 x1.kids.len cap1) (.int .i64 x1.a)
 have ZE:=set5k (.int .i64 x1.k) (.int .i64 x1.n) (stv x1.nm) (.slice ao1 x1.kids.len cap1) (.int .i64 x1.a) Z1
 have SE:Sl _ (Nw w.heap.size) _ _:=(S1a.set5 (b:=w.heap.size) (by omega) (.int .i64 x1.k) (.int .i64 x1.n) (stv x1.nm) (.slice ao1 x1.kids.len cap1) (.int .i64 x1.a)).low (by omega)
 obtain ⟨z0,z1,z2,z3,z4,zf⟩:=box5 Z1
 obtain ⟨u0,u1,u2,u3,u4,-⟩:=box5 ZE
 have FIN:=Q1
 clear ZE K1 Z1 h1 S1a
 rw [exV_out]
 go_wp2
 exact bodyPost_ret (v:=exV x1 ao1 cap1) (by simp [results,Tryz.results31,go_sem,u0,u1,u2,u3,u4,exV]) rfl ⟨_,_,_,_,rfl,SE,RE,KE,FIN⟩
set_option maxRecDepth 100000 in
set_option maxHeartbeats 1000000 in
theorem row_7 {rec:Rdr} (R:RecQ rec) (RA:AtmQ rec) {w:World} {rb o q:Nat} {all:List Tk} {x:Tk} {r:List Tk} (TI:∀ x,x ∈ all→TokI x) (h:QS w rb all o q (.inr (x :: r))) (hn:Nou (prefR rec [45] 6 7 o q) (.inr (x :: r))) :
  Calls Tryz.prog 31 #[.pointer (some ⟨rb,0,none⟩),.int .i64 7] w (PostQ rb all o q w (.inr (x :: r)) (prefR rec [45] 6 7 o q)):=by
 have hrb:=h.lt
 have K0:Keep rb w (w.alloc exZ):=(Keep.refl rb w).alloc _
 have Z0:(w.alloc exZ).heap[w.heap.size]?=some exZ:=heap_alloc_new w _
 have h0:=h.alloc exZ
 have d4:=h0.e0
 have hs1:w.heap.size < (w.alloc exZ).heap.size:=by simp
 have c1:=unary_q R RA TI h0 hn
 clear hn
 go_enter Tryz.func31,Tryz.ntmps31
 go_wp2_with fail
 refine c1.mono ?_
 rintro e w1 ⟨x1,ao1,cap1,st1,rfl,S1,h1,k1,Q1⟩
 clear c1 h0 d4
 have S1a:=S1.low (show (w.heap.size+1)≤_ from (by omega))
 clear S1
 have Z1:=k1.blk Z0 (by have:=K0.size;omega)
 have K1:=K0.trans k1
 clear K0 Z0
 have KE:=K1.set5 (b:=w.heap.size) (by omega) (.int .i64 x1.k) (.int .i64 x1.n) (stv x1.nm) (.slice ao1 x1.kids.len cap1) (.int .i64 x1.a)
 have RE:=h1.set5 (b:=w.heap.size) (by omega) (.int .i64 x1.k) (.int .i64 x1.n) (stv x1.nm) (.slice ao1 x1.kids.len cap1) (.int .i64 x1.a)
 have ZE:=set5k (.int .i64 x1.k) (.int .i64 x1.n) (stv x1.nm) (.slice ao1 x1.kids.len cap1) (.int .i64 x1.a) Z1
 have SE:Sl _ (Nw w.heap.size) _ _:=(S1a.set5 (b:=w.heap.size) (by omega) (.int .i64 x1.k) (.int .i64 x1.n) (stv x1.nm) (.slice ao1 x1.kids.len cap1) (.int .i64 x1.a)).low (by omega)
 obtain ⟨z0,z1,z2,z3,z4,zf⟩:=box5 Z1
 obtain ⟨u0,u1,u2,u3,u4,-⟩:=box5 ZE
 have FIN:=Q1
 clear ZE K1 Z1 h1 S1a
 rw [exV_out]
 go_wp2
 exact bodyPost_ret (v:=exV x1 ao1 cap1) (by simp [results,Tryz.results31,go_sem,u0,u1,u2,u3,u4,exV]) rfl ⟨_,_,_,_,rfl,SE,RE,KE,FIN⟩
end Go.Proofs.YtaihhnlfcndecaaGreatDoor

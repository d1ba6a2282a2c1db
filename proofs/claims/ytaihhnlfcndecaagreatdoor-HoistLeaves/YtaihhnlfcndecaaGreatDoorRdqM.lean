import Derived.Test.YtaihhnlfcndecaaGreatDoorRdqP
namespace Go.Proofs.YtaihhnlfcndecaaGreatDoor
open Go.ChangeShapes Go.WideShapes Go.ChangeAt Go.RowKit
set_option linter.unusedVariables false
set_option linter.unusedSimpArgs false
def SetQ (rec:Rdr) (m:Nat):Prop :=
 ∀ (w:World) (rb:Nat) (all:List Tk) (o q:Nat) (st:Sq),(∀ x,x ∈ all→TokI x)→QS w rb all o q st→Nou (setR rec m o q) st→Calls Tryz.prog 179 #[.pointer (some ⟨rb,0,none⟩)] w (PostQ rb all o q w st (setR rec m o q))
theorem qd_bad {f:List Tk→Rs Ex} {x:Tk} {r:List Tk} {e a:Nat} (X:Ex) (h:f (x :: r)=.bad e a):Qd f (.inr (x :: r)) X (.inl (e,a)):=⟨by simp only [onw];rw [h];rfl,fun ts y t hs hy=>by cases hs;rw [h] at hy;cases hy⟩
theorem passK_q {y:Tk} {r:List Tk} (h:y.k=2):Qd (passK 2) (.inr (y :: r)) y (.inr r):=⟨by simp [onw,passK,h,stp],fun ts z t hs hz=>by cases hs;simp [passK,h] at hz;exact hz.1⟩
theorem QS.downQ {w:World} {rb o q:Nat} {all:List Tk} {st:Sq} (h:QS w rb all o (q+1) st) :
  ∃ q':Int,w.cell? ⟨rb,3,none⟩=some (.int .i64 q')∧(∀ j,w.frozen? ⟨rb,j,none⟩=false)∧QS (w.setCell ⟨rb,3,none⟩ (.int .i64 (wrap64 (q' - 1)))) rb all o q st:=by
 match st,h with
 | .inl (er,a),⟨i,o',q',h1,h2,h3⟩ =>
  obtain ⟨_,_,_,_,_,_,_,_,_,_,c3,_,_,hf⟩:=h1.next (List.getElem?_eq_getElem h2)
  exact ⟨q',c3,hf,i,o',_,h1.set.2.2.1 _,h2,h3⟩
 | .inr [],⟨i,pl,h1,h2,h3⟩=>exact absurd rfl h3.1.ne
 | .inr (x :: r),⟨i,pl,h1,h2,h3⟩ =>
  obtain ⟨hx,_,hm⟩:=dropQ h2
  obtain ⟨_,_,_,_,_,_,_,_,_,_,c3,_,_,hf⟩:=h1.next hx
  refine ⟨_,c3,hf,i,pl,?_,h2,h3.1,h3.2.1,by have:=h3.2.2;omega⟩
  have e:wrap64 ((((q+1:Nat):Int)) - 1)=((q:Nat):Int):=by have:=h3.2.2;unfold wrap64;omega
  rw [e]
  exact h1.set.2.2.1 _
set_option maxRecDepth 100000 in
set_option maxHeartbeats 2000000 in
theorem quant_q {rec:Rdr} (R:RecQ rec) {m:Nat} (RS:SetQ rec m) {w:World} {rb o q n:Nat} {all:List Tk} {x:Tk} {r:List Tk} (TI:∀ x,x ∈ all→TokI x) (hxt:x.t≠[]) (hn9:n < 6) (h:QS w rb all o q (.inr (x :: r))) (hn:Nou (quantR rec m x.t (n+1) o q) (.inr (x :: r))) :
  Calls Tryz.prog 139 #[.pointer (some ⟨rb,0,none⟩),.int .i64 (n:Nat),.int .i64 (x.a:Nat)] w (PostQ rb all o q w (.inr (x :: r)) (quantR rec m x.t (n+1) o q)):=by
 have hrb:=h.lt
 have K0:Keep rb w (w.alloc exZ):=(Keep.refl rb w).alloc _
 have Z0:(w.alloc exZ).heap[w.heap.size]?=some exZ:=heap_alloc_new w _
 have h0:=h.alloc exZ
 have hs1:w.heap.size < (w.alloc exZ).heap.size:=by simp
 have hle:=h.le
 obtain ⟨i,g,cap,L,hg,hi,hcL,hcap,hL,hm,d0,d1,d2,d3,d4,-,hf⟩:=h0.ok
 clear d0 d1 d4 hm
 by_cases hA:o=64∨q=4
 ·have EQ:quantR rec m x.t (n+1) o q (x :: r)=.bad 121 x.a:=by
   unfold quantR
   by_cases h4:q=4
   ·simp [h4]
   ·have h64:o=64:=by rcases hA with h | h;exact h;exact absurd h h4
    simp [h4,enterT,h64,Rs.bind]
  have c1:Calls Tryz.prog 32 #[.pointer (some ⟨rb,0,none⟩),.int .i64 121] (w.alloc exZ) fun r' w'=>r'=.returned (.tuple #[])∧QS w' rb all o q (.inl (121,x.a))∧Keep rb (w.alloc exZ) w':=fail_s 121 (by decide) h0
  have HE:=qd_bad (X:=noEx) EQ
  clear EQ hn h0
  by_cases h64:o=64
  ·subst h64
   clear hA
   go_enter Tryz.func139,Tryz.ntmps139
   go_wp2_with fail
   refine c1.mono ?_
   rintro e w1 ⟨rfl,h1,k1⟩
   clear c1 d2 d3 hf
   have Z1:=k1.blk Z0 (by have:=K0.size;omega)
   have K1:=K0.trans k1
   clear K0 Z0
   have KE:=K1.set5 (b:=w.heap.size) (by omega) (.int .i64 0) (.int .i64 0) (stv []) (.slice none 0 0) (.int .i64 0)
   have RE:=h1.set5 (b:=w.heap.size) (by omega) (.int .i64 0) (.int .i64 0) (stv []) (.slice none 0 0) (.int .i64 0)
   have ZE:=set5k (.int .i64 0) (.int .i64 0) (stv []) (.slice none 0 0) (.int .i64 0) Z1
   obtain ⟨z0,z1,z2,z3,z4,zf⟩:=box5 Z1
   obtain ⟨u0,u1,u2,u3,u4,-⟩:=box5 ZE
   have FIN:=HE
   clear ZE K1 Z1 h1
   go_wp2
   exact bodyPost_ret (v:=exV noEx none 0) (by simp [results,Tryz.results139,go_sem,u0,u1,u2,u3,u4,exV,noEx,Fs.len]) rfl ⟨_,_,_,_,rfl,Sl.nil _ _ _,RE,KE,FIN⟩
  ·have h4:q=4:=by rcases hA with h | h;exact absurd h h64;exact h
   have b64:((o:Int) == 64)=false:=by simp;omega
   subst h4
   clear hA h64
   go_enter Tryz.func139,Tryz.ntmps139
   go_wp2_with fail
   refine c1.mono ?_
   rintro e w1 ⟨rfl,h1,k1⟩
   clear c1 d2 d3 hf
   have Z1:=k1.blk Z0 (by have:=K0.size;omega)
   have K1:=K0.trans k1
   clear K0 Z0
   have KE:=K1.set5 (b:=w.heap.size) (by omega) (.int .i64 0) (.int .i64 0) (stv []) (.slice none 0 0) (.int .i64 0)
   have RE:=h1.set5 (b:=w.heap.size) (by omega) (.int .i64 0) (.int .i64 0) (stv []) (.slice none 0 0) (.int .i64 0)
   have ZE:=set5k (.int .i64 0) (.int .i64 0) (stv []) (.slice none 0 0) (.int .i64 0) Z1
   obtain ⟨z0,z1,z2,z3,z4,zf⟩:=box5 Z1
   obtain ⟨u0,u1,u2,u3,u4,-⟩:=box5 ZE
   have FIN:=HE
   clear ZE K1 Z1 h1
   go_wp2
   exact bodyPost_ret (v:=exV noEx none 0) (by simp [results,Tryz.results139,go_sem,u0,u1,u2,u3,u4,exV,noEx,Fs.len]) rfl ⟨_,_,_,_,rfl,Sl.nil _ _ _,RE,KE,FIN⟩
 ·have ho:o < 64:=by have:=hle.1;omega
  have hq:q < 4:=by have:=hle.2.1;omega
  have b64:((o:Int) == 64)=false:=by simp;omega
  have b4:((q:Int) == 4)=false:=by simp;omega
  have EQ:∀ ts,(.inr (x :: r):Sq)=.inr ts→quantR rec m x.t (n+1) o q ts=(fun ts=>(enterT x.t o ts).bind fun a t1=>(passK 2 t1).bind fun y t2=>(passT [105,110] t2).bind fun _ t3=>(setR rec m (o+1) (q+1) t3).bind fun e t4=>(passT [58] t4).bind fun _ t5=>(rec 1 (o+1) (q+1) t5).bind fun b t6=>.ok ⟨21,(n:Int)+1,y.t,a,(one e).snoc b⟩ t6) ts:=fun ts hs=>by
   cases hs
   show (if q=4 then _ else _)=_
   rw [if_neg (by omega)]
   rfl
  have HC:Hid (∀ X st',Qd (fun ts=>(enterT x.t o ts).bind fun a t1=>(passK 2 t1).bind fun y t2=>(passT [105,110] t2).bind fun _ t3=>(setR rec m (o+1) (q+1) t3).bind fun e t4=>(passT [58] t4).bind fun _ t5=>(rec 1 (o+1) (q+1) t5).bind fun b t6=>.ok ⟨21,(n:Int)+1,y.t,a,(one e).snoc b⟩ t6) (.inr (x :: r)) X st'→Qd (quantR rec m x.t (n+1) o q) (.inr (x :: r)) X st'):=fun X st' q=>q.congr fun ts hs=>(EQ ts hs).symm
  have C0:=Ctx.start (hn.congr EQ)
  have C1:=C0.step (enter_q (o:=o) (x:=x) (r:=r) x.t)
  have h1:=h0.quants (q+1) (by omega)
  have h2:=h1
  rw [show ((q+1:Nat):Int)=(q:Int)+1 by omega] at h2
  have e1:onw (enterT x.t o) (.inr (x :: r))=.inr r:=by simp [onw,enterT,stp,show ¬ o=64 by omega]
  rw [e1] at C1
  have HO:Hid (∀ wx,QS wx rb all o (q+1) (.inr (x :: r))→Calls Tryz.prog 95 #[.pointer (some ⟨rb,0,none⟩)] wx fun e w'=>e=.returned (.tuple #[])∧QS w' rb all (o+1) (q+1) (.inr r)∧Keep rb wx w'):=fun wx hh=>open_ok ho hxt hh
  have k0:=Keep.at (rb:=rb) (w.alloc exZ) 3 (.int .i64 ((q:Int)+1))
  clear EQ hn h0 C0 h1 e1 hA
  go_enter Tryz.func139,Tryz.ntmps139
  go_upto_region 4 with fail
  generalize w.alloc exZ=v0 at *
  go_upto_region 5 with fail
  generalize v0.setCell ⟨rb,3,none⟩ (.int .i64 ((q:Int)+1))=w1 at *
  clear d2 d3 hf
  have Z1:=k0.blk Z0 (by have:=K0.size;omega)
  have K1:=K0.trans k0
  clear K0 Z0
  have c2:=HO.out w1 h2
  go_wp2_with fail
  refine c2.mono ?_
  rintro e w2 ⟨rfl,h3,k2⟩
  clear c2 HO h2
  have Z2:=k2.blk Z1 (by have:=K1.size;omega)
  have K2:=K1.trans k2
  clear K1 Z1
  cases r with
  | nil=>exact absurd rfl h3.le.2.2.ne
  | cons y r2 =>
  obtain ⟨i3,g3,cap3,L3,hg3,hi3,hcL3,hcap3,hL3,hm3,d0,d1,-,-,-,⟨t0,t1,t2,t3⟩,hf⟩:=h3.ok
  have bz:Below w2.heap.size w2 (w2.alloc (.cells #[.int .i64 0,.int .i64 0,.string ⟨#[]⟩,.int .i64 0] 57)):=(Below.refl _ w2).alloc (Nat.le_refl _) _
  have hrb2:rb < w2.heap.size:=h3.lt
  have hgs:g3 < w2.heap.size:=by omega
  have d0b:=(bz.cell (p:=⟨rb,0,none⟩) hrb2).trans d0
  have d1b:=(bz.cell (p:=⟨rb,1,none⟩) hrb2).trans d1
  have u0:=(bz.cell (p:=⟨g3,i3 * 4,none⟩) hgs).trans t0
  have u1:=(bz.cell (p:=⟨g3,i3 * 4+1,none⟩) hgs).trans t1
  have u2:=(bz.cell (p:=⟨g3,i3 * 4+2,none⟩) hgs).trans t2
  have u3:=(bz.cell (p:=⟨g3,i3 * 4+3,none⟩) hgs).trans t3
  have hiI:(i3:Int) < (L3:Int):=by omega
  have h2T:=two_alloc w2 (.cells #[.int .i64 (y.k:Nat),.int .i64 y.n,stv y.t,.int .i64 (y.a:Nat)] 57)
  clear bz
  go_upto_region 6 with fail
  go_cut [7] (fun v wx=>∃ bt,v=.pointer (some ⟨bt,0,none⟩)∧w2.heap.size≤bt∧wx.heap[bt]?=some (.cells #[.int .i64 (y.k:Nat),.int .i64 y.n,stv y.t,.int .i64 (y.a:Nat)] 57 (0,0))∧Below w2.heap.size w2 wx)
  case first =>
   go_region
   all_goals
    go_wp2
    go_meet
    exact ⟨_,rfl,Nat.le_refl _,h2T.1,h2T.2⟩
  case rest =>
  obtain ⟨bt,rfl,hbt0,TB,B1⟩:=hcut
  clear t0 t1 t2 t3 d0 d1 hf hm3 d0b d1b u0 u1 u2 u3 h2T
  have k3:=Keep.ofBelow (rb:=rb) B1
  have h4:=h3.below B1
  have hbt:rb < bt:=by have:=h3.lt;omega
  clear h3 B1
  have Z3:=k3.blk Z2 (by have:=K2.size;omega)
  have K3:=K2.trans k3
  clear K2 Z2
  obtain ⟨p0,p1,p2,p3,pf⟩:=Blk.cells4 (o:=fun _=>0) (i:=0) ⟨TB,rfl⟩
  by_cases hk:y.k=2
  ·have bk:((y.k:Int) == 2)=true:=by simp [hk]
   have bk2:((y.k:Int) != 2)=false:=by rw [_root_.bne,bk];rfl
   have C2:=C1.step (passK_q hk)
   have hk0:y.k≠0:=by omega
   clear C1 hk
   obtain ⟨i4,g4,cap4,L4,hg4,hi4,hcL4,hcap4,hL4,hm4,-,d1,-,-,-,-,hf⟩:=h4.ok
   have h5:=h4.over (.inr hk0) d1
   have k4:=Keep.at (rb:=rb) wc 1 (.int .i64 ((i4:Int)+1))
   clear h4
   go_upto_region 11 with fail
   generalize wc.setCell ⟨rb,1,none⟩ (.int .i64 ((i4:Int)+1))=w4 at *
   clear d1 hf hm4 p0 p1 p2 p3 pf
   have Z4:=k4.blk Z3 (by have:=K3.size;omega)
   have K4:=K3.trans k4
   have TB_4:=k4.blk TB (by omega)
   clear K3 Z3 TB
   have c6:=take_v TI [105,110] ⟨by decide,by decide⟩ h5
   go_wp2_with fail
   refine c6.mono ?_
   rintro e w6 ⟨x6,st6,rfl,h6,k6,Q6⟩
   have C6:=C2.step Q6
   clear c6 Q6 C2
   have Z6:=k6.blk Z4 (by have:=K4.size;omega)
   have K6:=K4.trans k6
   have TB_6:=k6.blk TB_4 (by omega)
   clear K4 Z4 TB_4
   have c7:=RS _ rb all (o+1) (q+1) st6 TI h6 C6.nou
   go_wp2_with fail
   refine c7.mono ?_
   rintro e w7 ⟨x7,ao7,cap7,st7,rfl,S7,h7,k7,Q7⟩
   have C7:=C6.step Q7
   clear c7 Q7 C6
   have S7a:=S7.low (show (w.heap.size+1)≤_ from (by have:=lt_of_block Z6;omega))
   clear S7
   have Z7:=k7.blk Z6 (by have:=K6.size;omega)
   have K7:=K6.trans k7
   have TB_7:=k7.blk TB_6 (by omega)
   clear K6 Z6 TB_6
   have h7a:=h7.alloc (.cells #[.int .i64 x7.k,.int .i64 x7.n,stv x7.nm,.slice ao7 x7.kids.len cap7,.int .i64 x7.a] 25)
   have K7a:=K7.alloc (.cells #[.int .i64 x7.k,.int .i64 x7.n,stv x7.nm,.slice ao7 x7.kids.len cap7,.int .i64 x7.a] 25)
   have Z7a:=(Below.heap_alloc w7 (.cells #[.int .i64 x7.k,.int .i64 x7.n,stv x7.nm,.slice ao7 x7.kids.len cap7,.int .i64 x7.a] 25) _ (lt_of_block Z7)).trans Z7
   have TB_7a:=(Below.heap_alloc w7 (.cells #[.int .i64 x7.k,.int .i64 x7.n,stv x7.nm,.slice ao7 x7.kids.len cap7,.int .i64 x7.a] 25) _ (lt_of_block TB_7)).trans TB_7
   have Y7_a:(World.alloc w7 (.cells #[.int .i64 x7.k,.int .i64 x7.n,stv x7.nm,.slice ao7 x7.kids.len cap7,.int .i64 x7.a] 25)).heap[w7.heap.size]?=some (.cells #[.int .i64 x7.k,.int .i64 x7.n,stv x7.nm,.slice ao7 x7.kids.len cap7,.int .i64 x7.a] 25):=heap_alloc_new w7 _
   have S7a_7b:=S7a.allocN (.cells #[.int .i64 x7.k,.int .i64 x7.n,stv x7.nm,.slice ao7 x7.kids.len cap7,.int .i64 x7.a] 25)
   have hb7:rb < w7.heap.size:=by have:=K7.size;omega
   clear h7 K7 Z7 TB_7 S7a
   rw [exV_out]
   have c8:=take_v TI [58] ⟨by decide,by decide⟩ h7a
   go_wp2_with fail
   refine c8.mono ?_
   rintro e w8 ⟨x8,st8,rfl,h8,k8,Q8⟩
   have C8:=C7.step Q8
   clear c8 Q8 C7
   have Z8:=k8.blk Z7a (by have:=K7a.size;omega)
   have K8:=K7a.trans k8
   have TB_8:=k8.blk TB_7a (by omega)
   have Y7_8:=k8.blk Y7_a (by omega)
   have S7a_8:=S7a_7b.keepN k8 (by omega)
   clear K7a Z7a TB_7a Y7_a S7a_7b
   have c9:=R _ rb all 1 (o+1) (q+1) st8 TI (by omega) (by omega) h8 C8.nou
   go_wp2_with fail
   refine c9.mono ?_
   rintro e w9 ⟨x9,ao9,cap9,st9,rfl,S9,h9,k9,Q9⟩
   have C9:=C8.step Q9
   clear c9 Q9 C8
   have S9a:=S9.low (show (w.heap.size+1)≤_ from (by have:=lt_of_block Z8;omega))
   clear S9
   have Z9:=k9.blk Z8 (by have:=K8.size;omega)
   have K9:=K8.trans k9
   have TB_9:=k9.blk TB_8 (by omega)
   have Y7_9:=k9.blk Y7_8 (by omega)
   have S7a_9:=S7a_8.keepN k9 (by omega)
   clear K8 Z8 TB_8 Y7_8 S7a_8
   have h9a:=h9.alloc (.cells #[.int .i64 x9.k,.int .i64 x9.n,stv x9.nm,.slice ao9 x9.kids.len cap9,.int .i64 x9.a] 25)
   have K9a:=K9.alloc (.cells #[.int .i64 x9.k,.int .i64 x9.n,stv x9.nm,.slice ao9 x9.kids.len cap9,.int .i64 x9.a] 25)
   have Z9a:=(Below.heap_alloc w9 (.cells #[.int .i64 x9.k,.int .i64 x9.n,stv x9.nm,.slice ao9 x9.kids.len cap9,.int .i64 x9.a] 25) _ (lt_of_block Z9)).trans Z9
   have TB_9a:=(Below.heap_alloc w9 (.cells #[.int .i64 x9.k,.int .i64 x9.n,stv x9.nm,.slice ao9 x9.kids.len cap9,.int .i64 x9.a] 25) _ (lt_of_block TB_9)).trans TB_9
   have Y7_9a:=(Below.heap_alloc w9 (.cells #[.int .i64 x9.k,.int .i64 x9.n,stv x9.nm,.slice ao9 x9.kids.len cap9,.int .i64 x9.a] 25) _ (lt_of_block Y7_9)).trans Y7_9
   have Y9_a:(World.alloc w9 (.cells #[.int .i64 x9.k,.int .i64 x9.n,stv x9.nm,.slice ao9 x9.kids.len cap9,.int .i64 x9.a] 25)).heap[w9.heap.size]?=some (.cells #[.int .i64 x9.k,.int .i64 x9.n,stv x9.nm,.slice ao9 x9.kids.len cap9,.int .i64 x9.a] 25):=heap_alloc_new w9 _
   have S7a_9b:=S7a_9.allocN (.cells #[.int .i64 x9.k,.int .i64 x9.n,stv x9.nm,.slice ao9 x9.kids.len cap9,.int .i64 x9.a] 25)
   have S9a_9b:=S9a.allocN (.cells #[.int .i64 x9.k,.int .i64 x9.n,stv x9.nm,.slice ao9 x9.kids.len cap9,.int .i64 x9.a] 25)
   have hb9:rb < w9.heap.size:=by have:=K9.size;omega
   clear h9 K9 Z9 TB_9 Y7_9 S7a_9 S9a
   rw [exV_out]
   go_upto_region 15 with fail
   generalize (World.alloc w9 (.cells #[.int .i64 x9.k,.int .i64 x9.n,stv x9.nm,.slice ao9 x9.kids.len cap9,.int .i64 x9.a] 25))=v10 at *
   obtain ⟨o11,d11,df11,h11⟩:=h9a.down
   have k11:Keep rb v10 _:=Keep.at v10 2 (.int .i64 (wrap64 (o11 - 1)))
   clear h9a
   go_upto_region 16 with fail
   generalize v10.setCell ⟨rb,2,none⟩ (.int .i64 (wrap64 (o11 - 1)))=w11 at *
   clear d11 df11
   have Z11:=k11.blk Z9a (by have:=K9a.size;omega)
   have K11:=K9a.trans k11
   have TB_11:=k11.blk TB_9a (by omega)
   have Y7_11:=k11.blk Y7_9a (by omega)
   have Y9_11:=k11.blk Y9_a (by omega)
   have S7a_11:=S7a_9b.keepN k11 (by omega)
   have S9a_11:=S9a_9b.keepN k11 (by omega)
   clear K9a Z9a TB_9a Y7_9a Y9_a S7a_9b S9a_9b
   obtain ⟨o12,d12,df12,h12⟩:=h11.downQ
   have k12:Keep rb w11 _:=Keep.at w11 3 (.int .i64 (wrap64 (o12 - 1)))
   clear h11
   go_upto_region 17 with fail
   generalize w11.setCell ⟨rb,3,none⟩ (.int .i64 (wrap64 (o12 - 1)))=w12 at *
   clear d12 df12
   have Z12:=k12.blk Z11 (by have:=K11.size;omega)
   have K12:=K11.trans k12
   have TB_12:=k12.blk TB_11 (by omega)
   have Y7_12:=k12.blk Y7_11 (by omega)
   have Y9_12:=k12.blk Y9_11 (by omega)
   have S7a_12:=S7a_11.keepN k12 (by omega)
   have S9a_12:=S9a_11.keepN k12 (by omega)
   clear K11 Z11 TB_11 Y7_11 Y9_11 S7a_11 S9a_11
   have HX:=HC.out _ _ C9.fin
   have NS:Sl (World.alloc w12 (.cells [.int .i64 x7.k,.int .i64 x7.n,stv x7.nm,.slice ao7 x7.kids.len cap7,.int .i64 x7.a,.int .i64 x9.k,.int .i64 x9.n,stv x9.nm,.slice ao9 x9.kids.len cap9,.int .i64 x9.a].toArray 25)) (Nw (w.heap.size+1)) ((one x7).snoc x9) (some ⟨w12.heap.size,0,none⟩):=Sl.fresh _ 25 (Fc.app (Fc.one (e:=x7) cap7 S7a_12) (Fc.one (e:=x9) cap9 S9a_12)) (by have:=lt_of_block Z12;omega)
   have KF:=K12.alloc (.cells [.int .i64 x7.k,.int .i64 x7.n,stv x7.nm,.slice ao7 x7.kids.len cap7,.int .i64 x7.a,.int .i64 x9.k,.int .i64 x9.n,stv x9.nm,.slice ao9 x9.kids.len cap9,.int .i64 x9.a].toArray 25)
   have RF:=h12.alloc (.cells [.int .i64 x7.k,.int .i64 x7.n,stv x7.nm,.slice ao7 x7.kids.len cap7,.int .i64 x7.a,.int .i64 x9.k,.int .i64 x9.n,stv x9.nm,.slice ao9 x9.kids.len cap9,.int .i64 x9.a].toArray 25)
   have ZF:=(Below.heap_alloc w12 (.cells [.int .i64 x7.k,.int .i64 x7.n,stv x7.nm,.slice ao7 x7.kids.len cap7,.int .i64 x7.a,.int .i64 x9.k,.int .i64 x9.n,stv x9.nm,.slice ao9 x9.kids.len cap9,.int .i64 x9.a].toArray 25) _ (lt_of_block Z12)).trans Z12
   have KE:=KF.set5 (b:=w.heap.size) (by omega) (.int .i64 21) (.int .i64 ((n:Int)+1)) (stv y.t) (.slice (some ⟨w12.heap.size,0,none⟩) 2 2) (.int .i64 x.a)
   have RE:=RF.set5 (b:=w.heap.size) (by omega) (.int .i64 21) (.int .i64 ((n:Int)+1)) (stv y.t) (.slice (some ⟨w12.heap.size,0,none⟩) 2 2) (.int .i64 x.a)
   have ZE:=set5k (.int .i64 21) (.int .i64 ((n:Int)+1)) (stv y.t) (.slice (some ⟨w12.heap.size,0,none⟩) 2 2) (.int .i64 x.a) ZF
   have SE:Sl _ (Nw w.heap.size) _ _:=(NS.set5 (b:=w.heap.size) (by omega) (.int .i64 21) (.int .i64 ((n:Int)+1)) (stv y.t) (.slice (some ⟨w12.heap.size,0,none⟩) 2 2) (.int .i64 x.a)).low (by omega)
   obtain ⟨z0,z1,z2,z3,z4,zf⟩:=box5 ZF
   obtain ⟨u0,u1,u2,u3,u4,-⟩:=box5 ZE
   obtain ⟨y00,y01,y02,y03,y0f⟩:=Blk.cells4 (o:=fun _=>0) (i:=0) ⟨TB_12,rfl⟩
   obtain ⟨y10,y11,y12,y13,y14,y1f⟩:=box5 Y7_12
   obtain ⟨y20,y21,y22,y23,y24,y2f⟩:=box5 Y9_12
   have FIN:=HX
   clear HX ZE ZF KF RF NS K12 Z12 h12 TB_12 Y7_12 Y9_12 S7a_12 S9a_12
   go_wp2
   exact bodyPost_ret (v:=exV ⟨21,((n:Int)+1),y.t,x.a,((one x7).snoc x9)⟩ (some ⟨w12.heap.size,0,none⟩) 2) (by simp [results,Tryz.results139,go_sem,u0,u1,u2,u3,u4,exV];rfl) rfl ⟨_,_,_,_,rfl,SE,RE,KE,FIN⟩
  ·have bk:((y.k:Int) == 2)=false:=by simp;omega
   have bk2:((y.k:Int) != 2)=true:=by rw [_root_.bne,bk];rfl
   have HE:=HC.out _ _ (C1.2 noEx (.inl (120,y.a)) (qd_bad noEx (by simp [passK,hk,Rs.bind])))
   clear C1 HC hk
   have c5:Calls Tryz.prog 32 #[.pointer (some ⟨rb,0,none⟩),.int .i64 120] wc fun r' w'=>r'=.returned (.tuple #[])∧QS w' rb all (o+1) (q+1) (.inl (120,y.a))∧Keep rb wc w':=fail_s 120 (by decide) h4
   clear h4
   go_wp2_with fail
   refine c5.mono ?_
   rintro e w5 ⟨rfl,h5b,k5⟩
   have h5:=h5b.bad.2.2 o q
   clear c5 h5b p0 p1 p2 p3 pf TB
   have Z5:=k5.blk Z3 (by have:=K3.size;omega)
   have K5:=K3.trans k5
   clear K3 Z3
   have KE:=K5.set5 (b:=w.heap.size) (by omega) (.int .i64 0) (.int .i64 0) (stv []) (.slice none 0 0) (.int .i64 0)
   have RE:=h5.set5 (b:=w.heap.size) (by omega) (.int .i64 0) (.int .i64 0) (stv []) (.slice none 0 0) (.int .i64 0)
   have ZE:=set5k (.int .i64 0) (.int .i64 0) (stv []) (.slice none 0 0) (.int .i64 0) Z5
   obtain ⟨z0,z1,z2,z3,z4,zf⟩:=box5 Z5
   obtain ⟨u0,u1,u2,u3,u4,-⟩:=box5 ZE
   have FIN:=HE
   clear ZE K5 Z5 h5
   go_wp2
   exact bodyPost_ret (v:=exV noEx none 0) (by simp [results,Tryz.results139,go_sem,u0,u1,u2,u3,u4,exV,noEx,Fs.len]) rfl ⟨_,_,_,_,rfl,Sl.nil _ _ _,RE,KE,FIN⟩
end Go.Proofs.YtaihhnlfcndecaaGreatDoor

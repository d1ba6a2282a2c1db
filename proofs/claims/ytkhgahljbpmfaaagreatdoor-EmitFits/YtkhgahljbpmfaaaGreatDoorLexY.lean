import Derived.Test.YtkhgahljbpmfaaaGreatDoorRdqP
set_option maxRecDepth 100000
set_option maxHeartbeats 8000000
namespace Go.Proofs.YtkhgahljbpmfaaaGreatDoor
open Go.ChangeShapes Go.WideShapes Go.ChangeAt Go.RowKit
set_option linter.unusedVariables false
set_option linter.unusedSimpArgs false
def SetQ (rec:Rdr)(m:Nat):Prop :=
 ∀ (w:World) (rb:Nat) (all:List Tk) (o q:Nat) (st:Sq),(∀ x,x ∈ all->TokI x)->QS w rb all o q st->Nou (setR rec m o q) st->Calls Tryz.prog 204 #[.pointer (some ⟨rb,0,none⟩)] w (PostQ rb all o q w st (setR rec m o q))
theorem qd_bad {f:List Tk->Rs Ex}{x:Tk}{r:List Tk}{e a:Nat}(X:Ex)(h:f (x::r)=.bad e a):Qd f (.inr (x::r)) X (.inl (e,a)):=⟨by simp only[onw];rw[h];rfl,fun ts y t hs hy=>by cases hs;rw[h] at hy;cases hy⟩
theorem passK_q {y:Tk}{r:List Tk}(h:y.k=2):Qd (passK 2) (.inr (y::r)) y (.inr r):=⟨by simp[onw,passK,h,stp],fun ts z t hs hz=>by cases hs;simp[passK,h] at hz;exact hz.1⟩
theorem QS.downQ {w:World}{rb o q:Nat}{all:List Tk}{st:Sq}(h:QS w rb all o (q+1) st) :
  ∃q':Int,w.cell? ⟨rb,3,none⟩=some (.int .i64 q')/\(∀ j,w.frozen? ⟨rb,j,none⟩=false)/\QS (w.setCell ⟨rb,3,none⟩ (.int .i64 (wrap64 (q' - 1)))) rb all o q st:=by
 match st,h with
 | .inl (er,a),⟨i,o',q',h1,h2,h3⟩ =>
  obtain⟨_,_,_,_,_,_,_,_,_,_,c3,_,_,hf⟩:=h1.next (List.getElem?_eq_getElem h2);exact⟨q',c3,hf,i,o',_,h1.set.2.2.1 _,h2,h3⟩
 | .inr [],⟨i,pl,h1,h2,h3⟩=>exact absurd rfl h3.1.ne
 | .inr (x::r),⟨i,pl,h1,h2,h3⟩ =>
  obtain⟨hx,_,hm⟩:=dropQ h2;obtain⟨_,_,_,_,_,_,_,_,_,_,c3,_,_,hf⟩:=h1.next hx;refine⟨_,c3,hf,i,pl,?_,h2,h3.1,h3.2.1,by have:=h3.2.2;omega⟩;have e:wrap64 ((((q+1:Nat):Int))-1)=((q:Nat):Int):=by have:=h3.2.2;unfold wrap64;omega
  rw[e];exact h1.set.2.2.1 _
theorem quant_q {rec:Rdr}(R:RecQ rec){m:Nat}(RS:SetQ rec m){w:World}{rb o q n:Nat}{all:List Tk}{x:Tk}{r:List Tk}(TI:∀ x,x ∈ all->TokI x)(hxt:x.t≠[])(hn9:n<6)(h:QS w rb all o q (.inr (x::r)))(hn:Nou (quantR rec m x.t (n+1) o q) (.inr (x::r))) :
  Calls Tryz.prog 164 #[.pointer (some ⟨rb,0,none⟩),.int .i64 (n:Nat),.int .i64 (x.a:Nat)] w (PostQ rb all o q w (.inr (x::r)) (quantR rec m x.t (n+1) o q)):=by
 have hrb:=h.lt;have K0:Keep rb w (w.alloc exZ):=(Keep.refl rb w).alloc _;have Z0:(w.alloc exZ).heap[w.heap.size]?=some exZ:=heap_alloc_new w _;have h0:=h.alloc exZ;have hs1:w.heap.size<(w.alloc exZ).heap.size:=by simp
 have hle:=h.le;obtain⟨i,g,cap,L,hg,hi,hcL,hcap,hL,hm,d0,d1,d2,d3,d4,-,hf⟩:=h0.ok;clear d0 d1 d4 hm;by_cases hA:o=64\/q=4
 ·have EQ:quantR rec m x.t (n+1) o q (x::r)=.bad 121 x.a:=by
   unfold quantR;by_cases h4:q=4
   ·simp[h4]
   ·have h64:o=64:=by rcases hA with h|h;exact h;exact absurd h h4
    simp[h4,enterT,h64,Rs.bind]
  have c1:Calls Tryz.prog 29 #[.pointer (some ⟨rb,0,none⟩),.int .i64 121] (w.alloc exZ) fun r' w'=>r'=.returned (.tuple #[])/\QS w' rb all o q (.inl (121,x.a))/\Keep rb (w.alloc exZ) w':=fail_s 121 (by decide) h0;have HE:=qd_bad (X:=noEx) EQ;clear EQ hn h0;by_cases h64:o=64
  ·subst h64;clear hA;go_enter Tryz.func164,Tryz.ntmps164;go_wp2_with fail;refine c1.mono ?_;rintro e w1 ⟨rfl,h1,k1⟩;clear c1 d2 d3 hf;have Z1:=k1.blk Z0 (by have:=K0.size;omega);have K1:=K0.trans k1;clear K0 Z0;have KE:=K1.set5 (b:=w.heap.size) (by omega) (.int .i64 0) (.int .i64 0) (stv []) (.slice none 0 0) (.int .i64 0);have RE:=h1.set5 (b:=w.heap.size) (by omega) (.int .i64 0) (.int .i64 0) (stv []) (.slice none 0 0) (.int .i64 0);have ZE:=set5k (.int .i64 0) (.int .i64 0) (stv []) (.slice none 0 0) (.int .i64 0) Z1;obtain⟨z0,z1,z2,z3,z4,zf⟩:=box5 Z1;obtain⟨u0,u1,u2,u3,u4,-⟩:=box5 ZE;have FIN:=HE;clear ZE K1 Z1 h1;go_wp2;exact bodyPost_ret (v:=exV noEx none 0) (by simp[results,Tryz.results164,go_sem,u0,u1,u2,u3,u4,exV,noEx,Fs.len]) rfl ⟨_,_,_,_,rfl,Sl.nil _ _ _,RE,KE,FIN⟩
  ·have h4:q=4:=by rcases hA with h|h;exact absurd h h64;exact h
   have b64:((o:Int)==64)=false:=by simp;omega
   subst h4;clear hA h64;go_enter Tryz.func164,Tryz.ntmps164;go_wp2_with fail;refine c1.mono ?_;rintro e w1 ⟨rfl,h1,k1⟩;clear c1 d2 d3 hf;have Z1:=k1.blk Z0 (by have:=K0.size;omega);have K1:=K0.trans k1;clear K0 Z0;have KE:=K1.set5 (b:=w.heap.size) (by omega) (.int .i64 0) (.int .i64 0) (stv []) (.slice none 0 0) (.int .i64 0);have RE:=h1.set5 (b:=w.heap.size) (by omega) (.int .i64 0) (.int .i64 0) (stv []) (.slice none 0 0) (.int .i64 0);have ZE:=set5k (.int .i64 0) (.int .i64 0) (stv []) (.slice none 0 0) (.int .i64 0) Z1;obtain⟨z0,z1,z2,z3,z4,zf⟩:=box5 Z1;obtain⟨u0,u1,u2,u3,u4,-⟩:=box5 ZE;have FIN:=HE;clear ZE K1 Z1 h1;go_wp2;exact bodyPost_ret (v:=exV noEx none 0) (by simp[results,Tryz.results164,go_sem,u0,u1,u2,u3,u4,exV,noEx,Fs.len]) rfl ⟨_,_,_,_,rfl,Sl.nil _ _ _,RE,KE,FIN⟩
 ·have ho:o<64:=by have:=hle.1;omega
  have hq:q<4:=by have:=hle.2.1;omega
  have b64:((o:Int)==64)=false:=by simp;omega
  have b4:((q:Int)==4)=false:=by simp;omega
  have EQ:∀ ts,(.inr (x::r):Sq)=.inr ts->quantR rec m x.t (n+1) o q ts=(fun ts=>(enterT x.t o ts).bind fun a t1=>(passK 2 t1).bind fun y t2=>(passT [105,110] t2).bind fun _ t3=>(setR rec m (o+1) (q+1) t3).bind fun e t4=>(passT [58] t4).bind fun _ t5=>(rec 1 (o+1) (q+1) t5).bind fun b t6=>.ok ⟨21,(n:Int)+1,y.t,a,(one e).snoc b⟩ t6) ts:=fun ts hs=>by
   cases hs;show (if q=4 then _ else _)=_;rw[if_neg (by omega)];rfl
  have HC:Hid (∀ X st',Qd (fun ts=>(enterT x.t o ts).bind fun a t1=>(passK 2 t1).bind fun y t2=>(passT [105,110] t2).bind fun _ t3=>(setR rec m (o+1) (q+1) t3).bind fun e t4=>(passT [58] t4).bind fun _ t5=>(rec 1 (o+1) (q+1) t5).bind fun b t6=>.ok ⟨21,(n:Int)+1,y.t,a,(one e).snoc b⟩ t6) (.inr (x::r)) X st'->Qd (quantR rec m x.t (n+1) o q) (.inr (x::r)) X st'):=fun X st' q=>q.congr fun ts hs=>(EQ ts hs).symm;have C0:=Ctx.start (hn.congr EQ);have C1:=C0.step (enter_q (o:=o) (x:=x) (r:=r) x.t);have h1:=h0.quants (q+1) (by omega);have h2:=h1;rw[show ((q+1:Nat):Int)=(q:Int)+1 by omega] at h2;have e1:onw (enterT x.t o) (.inr (x::r))=.inr r:=by simp[onw,enterT,stp,show ¬o=64 by omega]
  rw[e1] at C1;have HO:Hid (∀ wx,QS wx rb all o (q+1) (.inr (x::r))->Calls Tryz.prog 104 #[.pointer (some ⟨rb,0,none⟩)] wx fun e w'=>e=.returned (.tuple #[])/\QS w' rb all (o+1) (q+1) (.inr r)/\Keep rb wx w'):=fun wx hh=>open_ok ho hxt hh;have k0:=Keep.at (rb:=rb) (w.alloc exZ) 3 (.int .i64 ((q:Int)+1));clear EQ hn h0 C0 h1 e1 hA;go_enter Tryz.func164,Tryz.ntmps164;go_upto_region 4 with fail;generalize w.alloc exZ=v0 at *;go_upto_region 5 with fail;generalize v0.setCell ⟨rb,3,none⟩ (.int .i64 ((q:Int)+1))=w1 at *;clear d2 d3 hf;have Z1:=k0.blk Z0 (by have:=K0.size;omega);have K1:=K0.trans k0;clear K0 Z0;have c2:=HO.out w1 h2;go_wp2_with fail;refine c2.mono ?_;rintro e w2 ⟨rfl,h3,k2⟩;clear c2 HO h2;have Z2:=k2.blk Z1 (by have:=K1.size;omega);have K2:=K1.trans k2;clear K1 Z1;cases r with
  | nil=>exact absurd rfl h3.le.2.2.ne
  | cons y r2 =>
  obtain⟨i3,g3,cap3,L3,hg3,hi3,hcL3,hcap3,hL3,hm3,d0,d1,-,-,-,⟨t0,t1,t2,t3⟩,hf⟩:=h3.ok;have bz:Below w2.heap.size w2 (w2.alloc (.cells #[.int .i64 0,.int .i64 0,.string ⟨#[]⟩,.int .i64 0] 67)):=(Below.refl _ w2).alloc (Nat.le_refl _) _;have hrb2:rb<w2.heap.size:=h3.lt;have hgs:g3<w2.heap.size:=by omega
  have d0b:=(bz.cell (p:=⟨rb,0,none⟩) hrb2).trans d0;have d1b:=(bz.cell (p:=⟨rb,1,none⟩) hrb2).trans d1;have u0:=(bz.cell (p:=⟨g3,i3*4,none⟩) hgs).trans t0;have u1:=(bz.cell (p:=⟨g3,i3*4+1,none⟩) hgs).trans t1;have u2:=(bz.cell (p:=⟨g3,i3*4+2,none⟩) hgs).trans t2;have u3:=(bz.cell (p:=⟨g3,i3*4+3,none⟩) hgs).trans t3;have hiI:(i3:Int)<(L3:Int):=by omega
  have h2T:=two_alloc w2 (.cells #[.int .i64 (y.k:Nat),.int .i64 y.n,stv y.t,.int .i64 (y.a:Nat)] 67);clear bz;go_upto_region 6 with fail;go_cut [7] (fun v wx=>∃bt,v=.pointer (some ⟨bt,0,none⟩)/\w2.heap.size<=bt/\wx.heap[bt]?=some (.cells #[.int .i64 (y.k:Nat),.int .i64 y.n,stv y.t,.int .i64 (y.a:Nat)] 67 (0,0))/\Below w2.heap.size w2 wx)
  case first =>
   go_region
   all_goals
    go_wp2;go_meet;exact⟨_,rfl,Nat.le_refl _,h2T.1,h2T.2⟩
  case rest =>
  obtain⟨bt,rfl,hbt0,TB,B1⟩:=hcut;clear t0 t1 t2 t3 d0 d1 hf hm3 d0b d1b u0 u1 u2 u3 h2T;have k3:=Keep.ofBelow (rb:=rb) B1;have h4:=h3.below B1;have hbt:rb<bt:=by have:=h3.lt;omega
  clear h3 B1;have Z3:=k3.blk Z2 (by have:=K2.size;omega);have K3:=K2.trans k3;clear K2 Z2;obtain⟨p0,p1,p2,p3,pf⟩:=Blk.cells4 (o:=fun _=>0) (i:=0) ⟨TB,rfl⟩;by_cases hk:y.k=2
  ·have bk:((y.k:Int)==2)=true:=by simp[hk]
   have bk2:((y.k:Int) != 2)=false:=by rw[_root_.bne,bk];rfl
   have C2:=C1.step (passK_q hk);have hk0:y.k≠0:=by omega
   clear C1 hk;obtain⟨i4,g4,cap4,L4,hg4,hi4,hcL4,hcap4,hL4,hm4,-,d1,-,-,-,-,hf⟩:=h4.ok;have h5:=h4.over (.inr hk0) d1;have k4:=Keep.at (rb:=rb) wc 1 (.int .i64 ((i4:Int)+1));clear h4;go_upto_region 11 with fail;generalize wc.setCell ⟨rb,1,none⟩ (.int .i64 ((i4:Int)+1))=w4 at *;clear d1 hf hm4 p0 p1 p2 p3 pf;have Z4:=k4.blk Z3 (by have:=K3.size;omega);have K4:=K3.trans k4;have TB_4:=k4.blk TB (by omega);clear K3 Z3 TB;have c6:=take_v TI [105,110] ⟨by decide,by decide⟩ h5;go_wp2_with fail;refine c6.mono ?_;rintro e w6 ⟨x6,st6,rfl,h6,k6,Q6⟩;have C6:=C2.step Q6;clear c6 Q6 C2;have Z6:=k6.blk Z4 (by have:=K4.size;omega);have K6:=K4.trans k6;have TB_6:=k6.blk TB_4 (by omega);clear K4 Z4 TB_4;have c7:=RS _ rb all (o+1) (q+1) st6 TI h6 C6.nou;go_wp2_with fail;refine c7.mono ?_;rintro e w7 ⟨x7,ao7,cap7,st7,rfl,S7,h7,k7,Q7⟩;have C7:=C6.step Q7;clear c7 Q7 C6;have S7a:=S7.low (show (w.heap.size+1)<=_ from (by have:=lt_of_block Z6;omega));clear S7;have Z7:=k7.blk Z6 (by have:=K6.size;omega);have K7:=K6.trans k7;have TB_7:=k7.blk TB_6 (by omega);clear K6 Z6 TB_6;have h7a:=h7.alloc (.cells #[.int .i64 x7.k,.int .i64 x7.n,stv x7.nm,.slice ao7 x7.kids.len cap7,.int .i64 x7.a] 25);have K7a:=K7.alloc (.cells #[.int .i64 x7.k,.int .i64 x7.n,stv x7.nm,.slice ao7 x7.kids.len cap7,.int .i64 x7.a] 25);have Z7a:=(Below.heap_alloc w7 (.cells #[.int .i64 x7.k,.int .i64 x7.n,stv x7.nm,.slice ao7 x7.kids.len cap7,.int .i64 x7.a] 25) _ (lt_of_block Z7)).trans Z7;have TB_7a:=(Below.heap_alloc w7 (.cells #[.int .i64 x7.k,.int .i64 x7.n,stv x7.nm,.slice ao7 x7.kids.len cap7,.int .i64 x7.a] 25) _ (lt_of_block TB_7)).trans TB_7;have Y7_a:(World.alloc w7 (.cells #[.int .i64 x7.k,.int .i64 x7.n,stv x7.nm,.slice ao7 x7.kids.len cap7,.int .i64 x7.a] 25)).heap[w7.heap.size]?=some (.cells #[.int .i64 x7.k,.int .i64 x7.n,stv x7.nm,.slice ao7 x7.kids.len cap7,.int .i64 x7.a] 25):=heap_alloc_new w7 _;have S7a_7b:=S7a.allocN (.cells #[.int .i64 x7.k,.int .i64 x7.n,stv x7.nm,.slice ao7 x7.kids.len cap7,.int .i64 x7.a] 25);have hb7:rb<w7.heap.size:=by have:=K7.size;omega
   clear h7 K7 Z7 TB_7 S7a;rw[exV_out];have c8:=take_v TI [58] ⟨by decide,by decide⟩ h7a;go_wp2_with fail;refine c8.mono ?_;rintro e w8 ⟨x8,st8,rfl,h8,k8,Q8⟩;have C8:=C7.step Q8;clear c8 Q8 C7;have Z8:=k8.blk Z7a (by have:=K7a.size;omega);have K8:=K7a.trans k8;have TB_8:=k8.blk TB_7a (by omega);have Y7_8:=k8.blk Y7_a (by omega);have S7a_8:=S7a_7b.keepN k8 (by omega);clear K7a Z7a TB_7a Y7_a S7a_7b;have c9:=R _ rb all 1 (o+1) (q+1) st8 TI (by omega) (by omega) h8 C8.nou;go_wp2_with fail;refine c9.mono ?_;rintro e w9 ⟨x9,ao9,cap9,st9,rfl,S9,h9,k9,Q9⟩;have C9:=C8.step Q9;clear c9 Q9 C8;have S9a:=S9.low (show (w.heap.size+1)<=_ from (by have:=lt_of_block Z8;omega));clear S9;have Z9:=k9.blk Z8 (by have:=K8.size;omega);have K9:=K8.trans k9;have TB_9:=k9.blk TB_8 (by omega);have Y7_9:=k9.blk Y7_8 (by omega);have S7a_9:=S7a_8.keepN k9 (by omega);clear K8 Z8 TB_8 Y7_8 S7a_8;have h9a:=h9.alloc (.cells #[.int .i64 x9.k,.int .i64 x9.n,stv x9.nm,.slice ao9 x9.kids.len cap9,.int .i64 x9.a] 25);have K9a:=K9.alloc (.cells #[.int .i64 x9.k,.int .i64 x9.n,stv x9.nm,.slice ao9 x9.kids.len cap9,.int .i64 x9.a] 25);have Z9a:=(Below.heap_alloc w9 (.cells #[.int .i64 x9.k,.int .i64 x9.n,stv x9.nm,.slice ao9 x9.kids.len cap9,.int .i64 x9.a] 25) _ (lt_of_block Z9)).trans Z9;have TB_9a:=(Below.heap_alloc w9 (.cells #[.int .i64 x9.k,.int .i64 x9.n,stv x9.nm,.slice ao9 x9.kids.len cap9,.int .i64 x9.a] 25) _ (lt_of_block TB_9)).trans TB_9;have Y7_9a:=(Below.heap_alloc w9 (.cells #[.int .i64 x9.k,.int .i64 x9.n,stv x9.nm,.slice ao9 x9.kids.len cap9,.int .i64 x9.a] 25) _ (lt_of_block Y7_9)).trans Y7_9;have Y9_a:(World.alloc w9 (.cells #[.int .i64 x9.k,.int .i64 x9.n,stv x9.nm,.slice ao9 x9.kids.len cap9,.int .i64 x9.a] 25)).heap[w9.heap.size]?=some (.cells #[.int .i64 x9.k,.int .i64 x9.n,stv x9.nm,.slice ao9 x9.kids.len cap9,.int .i64 x9.a] 25):=heap_alloc_new w9 _;have S7a_9b:=S7a_9.allocN (.cells #[.int .i64 x9.k,.int .i64 x9.n,stv x9.nm,.slice ao9 x9.kids.len cap9,.int .i64 x9.a] 25);have S9a_9b:=S9a.allocN (.cells #[.int .i64 x9.k,.int .i64 x9.n,stv x9.nm,.slice ao9 x9.kids.len cap9,.int .i64 x9.a] 25);have hb9:rb<w9.heap.size:=by have:=K9.size;omega
   clear h9 K9 Z9 TB_9 Y7_9 S7a_9 S9a;rw[exV_out];go_upto_region 15 with fail;generalize (World.alloc w9 (.cells #[.int .i64 x9.k,.int .i64 x9.n,stv x9.nm,.slice ao9 x9.kids.len cap9,.int .i64 x9.a] 25))=v10 at *;obtain⟨o11,d11,df11,h11⟩:=h9a.down;have k11:Keep rb v10 _:=Keep.at v10 2 (.int .i64 (wrap64 (o11-1)));clear h9a;go_upto_region 16 with fail;generalize v10.setCell ⟨rb,2,none⟩ (.int .i64 (wrap64 (o11-1)))=w11 at *;clear d11 df11;have Z11:=k11.blk Z9a (by have:=K9a.size;omega);have K11:=K9a.trans k11;have TB_11:=k11.blk TB_9a (by omega);have Y7_11:=k11.blk Y7_9a (by omega);have Y9_11:=k11.blk Y9_a (by omega);have S7a_11:=S7a_9b.keepN k11 (by omega);have S9a_11:=S9a_9b.keepN k11 (by omega);clear K9a Z9a TB_9a Y7_9a Y9_a S7a_9b S9a_9b;obtain⟨o12,d12,df12,h12⟩:=h11.downQ;have k12:Keep rb w11 _:=Keep.at w11 3 (.int .i64 (wrap64 (o12-1)));clear h11;go_upto_region 17 with fail;generalize w11.setCell ⟨rb,3,none⟩ (.int .i64 (wrap64 (o12-1)))=w12 at *;clear d12 df12;have Z12:=k12.blk Z11 (by have:=K11.size;omega);have K12:=K11.trans k12;have TB_12:=k12.blk TB_11 (by omega);have Y7_12:=k12.blk Y7_11 (by omega);have Y9_12:=k12.blk Y9_11 (by omega);have S7a_12:=S7a_11.keepN k12 (by omega);have S9a_12:=S9a_11.keepN k12 (by omega);clear K11 Z11 TB_11 Y7_11 Y9_11 S7a_11 S9a_11;have HX:=HC.out _ _ C9.fin;have NS:Sl (World.alloc w12 (.cells [.int .i64 x7.k,.int .i64 x7.n,stv x7.nm,.slice ao7 x7.kids.len cap7,.int .i64 x7.a,.int .i64 x9.k,.int .i64 x9.n,stv x9.nm,.slice ao9 x9.kids.len cap9,.int .i64 x9.a].toArray 25)) (Nw (w.heap.size+1)) ((one x7).snoc x9) (some ⟨w12.heap.size,0,none⟩):=Sl.fresh _ 25 (Fc.app (Fc.one (e:=x7) cap7 S7a_12) (Fc.one (e:=x9) cap9 S9a_12)) (by have:=lt_of_block Z12;omega);have KF:=K12.alloc (.cells [.int .i64 x7.k,.int .i64 x7.n,stv x7.nm,.slice ao7 x7.kids.len cap7,.int .i64 x7.a,.int .i64 x9.k,.int .i64 x9.n,stv x9.nm,.slice ao9 x9.kids.len cap9,.int .i64 x9.a].toArray 25);have RF:=h12.alloc (.cells [.int .i64 x7.k,.int .i64 x7.n,stv x7.nm,.slice ao7 x7.kids.len cap7,.int .i64 x7.a,.int .i64 x9.k,.int .i64 x9.n,stv x9.nm,.slice ao9 x9.kids.len cap9,.int .i64 x9.a].toArray 25);have ZF:=(Below.heap_alloc w12 (.cells [.int .i64 x7.k,.int .i64 x7.n,stv x7.nm,.slice ao7 x7.kids.len cap7,.int .i64 x7.a,.int .i64 x9.k,.int .i64 x9.n,stv x9.nm,.slice ao9 x9.kids.len cap9,.int .i64 x9.a].toArray 25) _ (lt_of_block Z12)).trans Z12;have KE:=KF.set5 (b:=w.heap.size) (by omega) (.int .i64 21) (.int .i64 ((n:Int)+1)) (stv y.t) (.slice (some ⟨w12.heap.size,0,none⟩) 2 2) (.int .i64 x.a);have RE:=RF.set5 (b:=w.heap.size) (by omega) (.int .i64 21) (.int .i64 ((n:Int)+1)) (stv y.t) (.slice (some ⟨w12.heap.size,0,none⟩) 2 2) (.int .i64 x.a);have ZE:=set5k (.int .i64 21) (.int .i64 ((n:Int)+1)) (stv y.t) (.slice (some ⟨w12.heap.size,0,none⟩) 2 2) (.int .i64 x.a) ZF;have SE:Sl _ (Nw w.heap.size) _ _:=(NS.set5 (b:=w.heap.size) (by omega) (.int .i64 21) (.int .i64 ((n:Int)+1)) (stv y.t) (.slice (some ⟨w12.heap.size,0,none⟩) 2 2) (.int .i64 x.a)).low (by omega);obtain⟨z0,z1,z2,z3,z4,zf⟩:=box5 ZF;obtain⟨u0,u1,u2,u3,u4,-⟩:=box5 ZE;obtain⟨y00,y01,y02,y03,y0f⟩:=Blk.cells4 (o:=fun _=>0) (i:=0) ⟨TB_12,rfl⟩;obtain⟨y10,y11,y12,y13,y14,y1f⟩:=box5 Y7_12;obtain⟨y20,y21,y22,y23,y24,y2f⟩:=box5 Y9_12;have FIN:=HX;clear HX ZE ZF KF RF NS K12 Z12 h12 TB_12 Y7_12 Y9_12 S7a_12 S9a_12;go_wp2;exact bodyPost_ret (v:=exV ⟨21,((n:Int)+1),y.t,x.a,((one x7).snoc x9)⟩ (some ⟨w12.heap.size,0,none⟩) 2) (by simp[results,Tryz.results164,go_sem,u0,u1,u2,u3,u4,exV];rfl) rfl ⟨_,_,_,_,rfl,SE,RE,KE,FIN⟩
  ·have bk:((y.k:Int)==2)=false:=by simp;omega
   have bk2:((y.k:Int) != 2)=true:=by rw[_root_.bne,bk];rfl
   have HE:=HC.out _ _ (C1.2 noEx (.inl (120,y.a)) (qd_bad noEx (by simp[passK,hk,Rs.bind])));clear C1 HC hk;have c5:Calls Tryz.prog 29 #[.pointer (some ⟨rb,0,none⟩),.int .i64 120] wc fun r' w'=>r'=.returned (.tuple #[])/\QS w' rb all (o+1) (q+1) (.inl (120,y.a))/\Keep rb wc w':=fail_s 120 (by decide) h4;clear h4;go_wp2_with fail;refine c5.mono ?_;rintro e w5 ⟨rfl,h5b,k5⟩;have h5:=h5b.bad.2.2 o q;clear c5 h5b p0 p1 p2 p3 pf TB;have Z5:=k5.blk Z3 (by have:=K3.size;omega);have K5:=K3.trans k5;clear K3 Z3;have KE:=K5.set5 (b:=w.heap.size) (by omega) (.int .i64 0) (.int .i64 0) (stv []) (.slice none 0 0) (.int .i64 0);have RE:=h5.set5 (b:=w.heap.size) (by omega) (.int .i64 0) (.int .i64 0) (stv []) (.slice none 0 0) (.int .i64 0);have ZE:=set5k (.int .i64 0) (.int .i64 0) (stv []) (.slice none 0 0) (.int .i64 0) Z5;obtain⟨z0,z1,z2,z3,z4,zf⟩:=box5 Z5;obtain⟨u0,u1,u2,u3,u4,-⟩:=box5 ZE;have FIN:=HE;clear ZE K5 Z5 h5;go_wp2;exact bodyPost_ret (v:=exV noEx none 0) (by simp[results,Tryz.results164,go_sem,u0,u1,u2,u3,u4,exV,noEx,Fs.len]) rfl ⟨_,_,_,_,rfl,Sl.nil _ _ _,RE,KE,FIN⟩
theorem qd_ok {f:List Tk->Rs Ex}{x:Tk}{r t:List Tk}{X:Ex}(h:f (x::r)=.ok X t):Qd f (.inr (x::r)) X (.inr t):=⟨by simp only[onw];rw[h];rfl,fun ts y t2 hs hy=>by cases hs;rw[h] at hy;exact(Rs.ok_inj hy).1⟩
theorem amg_at {L:List (List UInt8)}{x:Tk}{r:List Tk}{k:Nat}{s:List UInt8}(hk:L[k]?=some s)(hs:x.t=s)(hd:∀ j t,j<k->L[j]?=some t->t≠s):amgI L (.inr (x::r))=(k:Nat):=amg_yes hk (by simp[isS,hs]) fun j t hj ht=>by
 have:=hd j t hj ht
 simp only[isS,beq_eq_false_iff_ne,hs];exact fun e=>this e.symm
theorem amg_out {L:List (List UInt8)}{x:Tk}{r:List Tk}(h:∀ s,s ∈ L->x.t≠s):amgI L (.inr (x::r))=-1:=amg_no fun j t _ ht=>by
 have:=h t (List.mem_of_getElem? ht)
 simpa [isS] using this
theorem TokI.not {x:Tk}(h:TokI x)(hk:x.k≠3/\x.k≠4){s:List UInt8}(hs:s≠[])(hn:nameB s=false):x.t≠s:=fun e=>by
 have:=h s hs hn
 simp[hk.1,hk.2,e] at this
theorem set_bad {w:World}{rb o q er a:Nat}{all:List Tk}(f:List Tk->Rs Ex)(h:QS w rb all o q (.inl (er,a))) :
  Calls Tryz.prog 204 #[.pointer (some ⟨rb,0,none⟩)] w (PostQ rb all o q w (.inl (er,a)) f):=by
 have hrb:=h.lt;have h0:=h.alloc exZ;have K0:Keep rb w (w.alloc exZ):=(Keep.refl rb w).alloc _;have Z0:(w.alloc exZ).heap[w.heap.size]?=some exZ:=heap_alloc_new w _;obtain⟨hb,c4,-⟩:=h0.bad;have hb2:((er:Int) != 0)=true:=by simpa using hb
 have FIN:Hid (∀ wx st',(QS wx rb all o q st'/\Keep rb w wx/\st'=.inl (er,a))->PostQ rb all o q w (.inl (er,a)) f (.returned (exV noEx none 0)) wx):=fun wx st' hh=>⟨noEx,none,0,st',rfl,Sl.nil _ _ _,hh.1,hh.2.1,by rw[hh.2.2];exact Qd.bad f _ _⟩;obtain⟨z0,z1,z2,z3,z4,zf⟩:=box5 Z0;go_enter Tryz.func204,Tryz.ntmps204;go_wp2;exact bodyPost_ret (v:=exV noEx none 0) (by simp[results,Tryz.results204,go_sem,exV,noEx,Fs.len]) rfl (FIN.out _ _ ⟨h0,K0,rfl⟩)
theorem set_ok {rec:Rdr}(R:RecQ rec){w:World}{rb o q m:Nat}{all:List Tk}{x:Tk}{r:List Tk}(hm:m<=1000000)(TI:∀ x,x ∈ all->TokI x)(h:QS w rb all o q (.inr (x::r)))(hn:Nou (setR rec m o q) (.inr (x::r))) :
  Calls Tryz.prog 204 #[.pointer (some ⟨rb,0,none⟩)] w (PostQ rb all o q w (.inr (x::r)) (setR rec m o q)):=by
 have hrb:=h.lt;have K0:Keep rb w (w.alloc exZ):=(Keep.refl rb w).alloc _;have Z0:(w.alloc exZ).heap[w.heap.size]?=some exZ:=heap_alloc_new w _;have h0:=h.alloc exZ;have d4:=h0.e0;go_enter Tryz.func204,Tryz.ntmps204;go_upto_region 3 with fail;generalize w.alloc exZ=v0 at *;clear d4;have h3:=h0;clear h0;obtain⟨i3,g3,cap3,L3,hg3,hi3,hcL3,hcap3,hL3,hm3,d0,d1,-,-,-,⟨t0,t1,t2,t3⟩,hf⟩:=h3.ok;have bz:Below v0.heap.size v0 (v0.alloc (.cells #[.int .i64 0,.int .i64 0,.string ⟨#[]⟩,.int .i64 0] 67)):=(Below.refl _ v0).alloc (Nat.le_refl _) _;have hrb2:rb<v0.heap.size:=h3.lt;have hgs:g3<v0.heap.size:=by omega
 have d0b:=(bz.cell (p:=⟨rb,0,none⟩) hrb2).trans d0;have d1b:=(bz.cell (p:=⟨rb,1,none⟩) hrb2).trans d1;have u0:=(bz.cell (p:=⟨g3,i3*4,none⟩) hgs).trans t0;have u1:=(bz.cell (p:=⟨g3,i3*4+1,none⟩) hgs).trans t1;have u2:=(bz.cell (p:=⟨g3,i3*4+2,none⟩) hgs).trans t2;have u3:=(bz.cell (p:=⟨g3,i3*4+3,none⟩) hgs).trans t3;have hiI:(i3:Int)<(L3:Int):=by omega
 have h2T:=two_alloc v0 (.cells #[.int .i64 (x.k:Nat),.int .i64 x.n,stv x.t,.int .i64 (x.a:Nat)] 67);clear bz;go_upto_region 3 with fail;go_cut [3] (fun v wx=>∃bt,v=.pointer (some ⟨bt,0,none⟩)/\v0.heap.size<=bt/\wx.heap[bt]?=some (.cells #[.int .i64 (x.k:Nat),.int .i64 x.n,stv x.t,.int .i64 (x.a:Nat)] 67 (0,0))/\Below v0.heap.size v0 wx)
 case first =>
  go_region
  all_goals
   go_wp2;go_meet;exact⟨_,rfl,Nat.le_refl _,h2T.1,h2T.2⟩
 case rest =>
 obtain⟨bt,rfl,hbt0,TB,B1⟩:=hcut;clear t0 t1 t2 t3 d0 d1 hf d0b d1b u0 u1 u2 u3 h2T;have k3:=Keep.ofBelow (rb:=rb) B1;have h4:=h3.below B1;have hbt:rb<bt:=by have:=h3.lt;omega
 clear h3 B1;have Z3:=k3.blk Z0 (by have:=K0.size;omega);have K3:=K0.trans k3;clear K0 Z0;obtain⟨A,hA⟩:∃A,amgI [[118,101,114,116,105,99,101,115],[97,114,111,117,110,100],[123]] (.inr (x::r))=A:=⟨_,rfl⟩
 have WL:Wl wc [[118,101,114,116,105,99,101,115],[97,114,111,117,110,100],[123]] (World.alloc wc (.cells #[.string ⟨#[118,101,114,116,105,99,101,115]⟩,.string ⟨#[97,114,111,117,110,100]⟩,.string ⟨#[123]⟩] 9)) wc.heap.size:=wl_new wc [[118,101,114,116,105,99,101,115],[97,114,111,117,110,100],[123]] _;have c5:=among_s TI [[118,101,114,116,105,99,101,115],[97,114,111,117,110,100],[123]] (by decide) (h4.below WL.1) (n:=3) (cap:=3) rfl WL.2.2.1 WL.2.2.2 (by omega) (by unfold maxLen;omega);go_wp2_with fail;refine c5.mono ?_;rintro e w5 ⟨rfl,b5⟩;have B5:=WL.1.trans (b5.mono WL.1.size);have k5:=Keep.ofBelow (rb:=rb) B5;have h5:=h4.below B5;clear WL c5 b5 B5 h4;have Z5:=k5.blk Z3 (by have:=K3.size;omega);have K5:=K3.trans k5;have TB_5:=k5.blk TB (by omega);clear K3 Z3 TB;rw[hA];have TX:=TI x hm3;clear hm3;by_cases hx0:x.t=[118,101,114,116,105,99,101,115]
 ·obtain rfl:A=0:=hA.symm.trans (amg_at (k:=0) rfl hx0 (by omega));have hk:¬x.k=2:=fun e=>TX.not (by omega) (by decide) (by decide) hx0;have HE:Qd (setR rec m o q) (.inr (x::r)) ⟨22,0,[],(x.a:Nat),.nil⟩ (.inr r):=qd_ok (by simp only[setR,hk,hx0,if_true,if_false]);have hxt:x.t≠[]:=by rw[hx0];decide
  clear hA hx0 hk TX hn;obtain⟨i6,g6,cap6,L6,hg6,hi6,hcL6,hcap6,hL6,hm6,-,d1,-,-,-,-,hf⟩:=h5.ok;have h6:=h5.over (.inl hxt) d1;have k6:=Keep.at (rb:=rb) w5 1 (.int .i64 ((i6:Int)+1));clear h5;go_upto_region 7 with fail;generalize w5.setCell ⟨rb,1,none⟩ (.int .i64 ((i6:Int)+1))=w6 at *;clear d1 hf hm6;have Z6:=k6.blk Z5 (by have:=K5.size;omega);have K6:=K5.trans k6;have TB_6:=k6.blk TB_5 (by omega);clear K5 Z5 TB_5;have KE:=K6.set5 (b:=w.heap.size) (by omega) (.int .i64 22) (.int .i64 0) (stv []) (.slice none 0 0) (.int .i64 x.a);have RE:=h6.set5 (b:=w.heap.size) (by omega) (.int .i64 22) (.int .i64 0) (stv []) (.slice none 0 0) (.int .i64 x.a);have ZE:=set5k (.int .i64 22) (.int .i64 0) (stv []) (.slice none 0 0) (.int .i64 x.a) Z6;obtain⟨z0,z1,z2,z3,z4,zf⟩:=box5 Z6;obtain⟨u0,u1,u2,u3,u4,-⟩:=box5 ZE;obtain⟨y00,y01,y02,y03,y0f⟩:=Blk.cells4 (o:=fun _=>0) (i:=0) ⟨TB_6,rfl⟩;have FIN:=HE;clear ZE K6 Z6 h6 TB_6;go_wp2;exact bodyPost_ret (v:=exV ⟨22,0,[],x.a,.nil⟩ none 0) (by simp[results,Tryz.results204,go_sem,u0,u1,u2,u3,u4,exV,Fs.len]) rfl ⟨_,_,_,_,rfl,Sl.nil _ _ _,RE,KE,FIN⟩
 by_cases hx1:x.t=[97,114,111,117,110,100]
 ·obtain rfl:A=1:=hA.symm.trans (amg_at (k:=1) rfl hx1 (fun j t hj ht=>by (obtain rfl:j=0:=by omega);simp at ht;subst ht;decide));have hk:¬x.k=2:=fun e=>TX.not (by omega) (by decide) (by decide) hx1;have C1:=(Ctx.start hn).eat (H:=(fun ts=>(enterT [40] o ts).bind fun _ t1=>(rec 1 (o+1) q t1).bind fun e t2=>(passT [41] t2).bind fun _ t4=>.ok ⟨24,0,[],(x.a:Nat),one e⟩ t4)) (by simp only[setR,hk,hx0,hx1,if_true,if_false,argsR,argsL,Rs.bind_assoc,Rs.ok_bind,Nat.sub_self];rfl);have hxt:x.t≠[]:=by rw[hx1];decide
  clear hA hx0 hx1 hk TX hn;obtain⟨i6,g6,cap6,L6,hg6,hi6,hcL6,hcap6,hL6,hm6,-,d1,-,-,-,-,hf⟩:=h5.ok;have h6:=h5.over (.inl hxt) d1;have k6:=Keep.at (rb:=rb) w5 1 (.int .i64 ((i6:Int)+1));clear h5;go_upto_region 10 with fail;generalize w5.setCell ⟨rb,1,none⟩ (.int .i64 ((i6:Int)+1))=w6 at *;clear d1 hf hm6;have Z6:=k6.blk Z5 (by have:=K5.size;omega);have K6:=K5.trans k6;have TB_6:=k6.blk TB_5 (by omega);clear K5 Z5 TB_5;have c7:=bracket_v TI [40] ⟨by decide,by decide⟩ h6;go_wp2_with fail;refine c7.mono ?_;rintro e w7 ⟨x7,st7,rfl,h7,k7,Q7⟩;have C7:=C1.step Q7;clear c7 Q7 C1;have Z7:=k7.blk Z6 (by have:=K6.size;omega);have K7:=K6.trans k7;have TB_7:=k7.blk TB_6 (by omega);clear K6 Z6 TB_6;have c8:=R _ rb all 1 (o+1) (q) st7 TI (by omega) (by omega) h7 C7.nou;go_wp2_with fail;refine c8.mono ?_;rintro e w8 ⟨x8,ao8,cap8,st8,rfl,S8,h8,k8,Q8⟩;have C8:=C7.step Q8;clear c8 Q8 C7;have S8a:=S8.low (show (w.heap.size+1)<=_ from (by have:=lt_of_block Z7;omega));clear S8;have Z8:=k8.blk Z7 (by have:=K7.size;omega);have K8:=K7.trans k8;have TB_8:=k8.blk TB_7 (by omega);clear K7 Z7 TB_7;have h8a:=h8.alloc (.cells #[.int .i64 x8.k,.int .i64 x8.n,stv x8.nm,.slice ao8 x8.kids.len cap8,.int .i64 x8.a] 25);have K8a:=K8.alloc (.cells #[.int .i64 x8.k,.int .i64 x8.n,stv x8.nm,.slice ao8 x8.kids.len cap8,.int .i64 x8.a] 25);have Z8a:=(Below.heap_alloc w8 (.cells #[.int .i64 x8.k,.int .i64 x8.n,stv x8.nm,.slice ao8 x8.kids.len cap8,.int .i64 x8.a] 25) _ (lt_of_block Z8)).trans Z8;have TB_8a:=(Below.heap_alloc w8 (.cells #[.int .i64 x8.k,.int .i64 x8.n,stv x8.nm,.slice ao8 x8.kids.len cap8,.int .i64 x8.a] 25) _ (lt_of_block TB_8)).trans TB_8;have Y8_a:(World.alloc w8 (.cells #[.int .i64 x8.k,.int .i64 x8.n,stv x8.nm,.slice ao8 x8.kids.len cap8,.int .i64 x8.a] 25)).heap[w8.heap.size]?=some (.cells #[.int .i64 x8.k,.int .i64 x8.n,stv x8.nm,.slice ao8 x8.kids.len cap8,.int .i64 x8.a] 25):=heap_alloc_new w8 _;have S8a_8b:=S8a.allocN (.cells #[.int .i64 x8.k,.int .i64 x8.n,stv x8.nm,.slice ao8 x8.kids.len cap8,.int .i64 x8.a] 25);have hb8:rb<w8.heap.size:=by have:=K8.size;omega
  clear h8 K8 Z8 TB_8 S8a;rw[exV_out];have c9:=close_v TI [41] ⟨by decide,by decide⟩ h8a;go_wp2_with fail;refine c9.mono ?_;rintro e w9 ⟨x9,st9,rfl,h9,k9,Q9⟩;have C9:=C8.step Q9;clear c9 Q9 C8;have Z9:=k9.blk Z8a (by have:=K8a.size;omega);have K9:=K8a.trans k9;have TB_9:=k9.blk TB_8a (by omega);have Y8_9:=k9.blk Y8_a (by omega);have S8a_9:=S8a_8b.keepN k9 (by omega);clear K8a Z8a TB_8a Y8_a S8a_8b;have NS:Sl (World.alloc w9 (.cells [.int .i64 x8.k,.int .i64 x8.n,stv x8.nm,.slice ao8 x8.kids.len cap8,.int .i64 x8.a].toArray 25)) (Nw (w.heap.size+1)) (one x8) (some ⟨w9.heap.size,0,none⟩):=Sl.fresh _ 25 (Fc.one (e:=x8) cap8 S8a_9) (by have:=lt_of_block Z9;omega);have KF:=K9.alloc (.cells [.int .i64 x8.k,.int .i64 x8.n,stv x8.nm,.slice ao8 x8.kids.len cap8,.int .i64 x8.a].toArray 25);have RF:=h9.alloc (.cells [.int .i64 x8.k,.int .i64 x8.n,stv x8.nm,.slice ao8 x8.kids.len cap8,.int .i64 x8.a].toArray 25);have ZF:=(Below.heap_alloc w9 (.cells [.int .i64 x8.k,.int .i64 x8.n,stv x8.nm,.slice ao8 x8.kids.len cap8,.int .i64 x8.a].toArray 25) _ (lt_of_block Z9)).trans Z9;have KE:=KF.set5 (b:=w.heap.size) (by omega) (.int .i64 24) (.int .i64 0) (stv []) (.slice (some ⟨w9.heap.size,0,none⟩) 1 1) (.int .i64 x.a);have RE:=RF.set5 (b:=w.heap.size) (by omega) (.int .i64 24) (.int .i64 0) (stv []) (.slice (some ⟨w9.heap.size,0,none⟩) 1 1) (.int .i64 x.a);have ZE:=set5k (.int .i64 24) (.int .i64 0) (stv []) (.slice (some ⟨w9.heap.size,0,none⟩) 1 1) (.int .i64 x.a) ZF;have SE:Sl _ (Nw w.heap.size) _ _:=(NS.set5 (b:=w.heap.size) (by omega) (.int .i64 24) (.int .i64 0) (stv []) (.slice (some ⟨w9.heap.size,0,none⟩) 1 1) (.int .i64 x.a)).low (by omega);obtain⟨z0,z1,z2,z3,z4,zf⟩:=box5 ZF;obtain⟨u0,u1,u2,u3,u4,-⟩:=box5 ZE;have ylt0:bt<w9.heap.size:=lt_of_block TB_9;obtain⟨y00,y01,y02,y03,y0f⟩:=Blk.cells4 (o:=fun _=>0) (i:=0) ⟨TB_9,rfl⟩;obtain⟨y10,y11,y12,y13,y14,y1f⟩:=box5 Y8_9;have FIN:=C9.fin;clear C9 ZE ZF KF RF NS K9 Z9 h9 TB_9 Y8_9 S8a_9;go_wp2;exact bodyPost_ret (v:=exV ⟨24,0,[],x.a,(one x8)⟩ (some ⟨w9.heap.size,0,none⟩) 1) (by simp[results,Tryz.results204,go_sem,u0,u1,u2,u3,u4,exV];rfl) rfl ⟨_,_,_,_,rfl,SE,RE,KE,FIN⟩
 by_cases hx2:x.t=[123]
 ·obtain rfl:A=2:=hA.symm.trans (amg_at (k:=2) rfl hx2 (fun j t hj ht=>by (obtain rfl|rfl:j=0\/j=1:=by omega)<;>simp at ht<;>subst ht<;>decide));have hk:¬x.k=2:=fun e=>TX.not (by omega) (by decide) (by decide) hx2;have EQ:∀ ts,(.inr (x::r):Sq)=.inr ts->setR rec m o q ts=listR rec m o q ts:=fun ts hs=>by
   cases hs;simp only[setR,hk,hx0,hx1,if_false];rfl
  have HN:=hn.congr EQ;have HC:Hid (∀ X st',Qd (listR rec m o q) (.inr (x::r)) X st'->Qd (setR rec m o q) (.inr (x::r)) X st'):=fun X st' q=>q.congr fun ts hs=>(EQ ts hs).symm;clear EQ hA hx0 hx1 hx2 hk TX hn;obtain⟨y00,y01,y02,y03,y0f⟩:=Blk.cells4 (o:=fun _=>0) (i:=0) ⟨TB_5,rfl⟩;have c6:=list_q R hm TI h5 HN;go_wp2_with fail;refine c6.mono ?_;rintro e w6 ⟨x6,ao6,cap6,st6,rfl,S6,h6,k6,Q6⟩;have HX:=HC.out _ _ Q6;clear c6 Q6 h5 y00 y01 y02 y03 y0f;have S6a:=S6.low (show (w.heap.size+1)<=_ from (by have:=lt_of_block Z5;omega));clear S6;have Z6:=k6.blk Z5 (by have:=K5.size;omega);have K6:=K5.trans k6;have TB_6:=k6.blk TB_5 (by omega);clear K5 Z5 TB_5;have KE:=K6.set5 (b:=w.heap.size) (by omega) (.int .i64 x6.k) (.int .i64 x6.n) (stv x6.nm) (.slice ao6 x6.kids.len cap6) (.int .i64 x6.a);have RE:=h6.set5 (b:=w.heap.size) (by omega) (.int .i64 x6.k) (.int .i64 x6.n) (stv x6.nm) (.slice ao6 x6.kids.len cap6) (.int .i64 x6.a);have ZE:=set5k (.int .i64 x6.k) (.int .i64 x6.n) (stv x6.nm) (.slice ao6 x6.kids.len cap6) (.int .i64 x6.a) Z6;have SE:Sl _ (Nw w.heap.size) _ _:=(S6a.set5 (b:=w.heap.size) (by omega) (.int .i64 x6.k) (.int .i64 x6.n) (stv x6.nm) (.slice ao6 x6.kids.len cap6) (.int .i64 x6.a)).low (by omega);obtain⟨z0,z1,z2,z3,z4,zf⟩:=box5 Z6;obtain⟨u0,u1,u2,u3,u4,-⟩:=box5 ZE;have FIN:=HX;clear ZE K6 Z6 h6 TB_6 S6a;rw[exV_out];go_wp2;exact bodyPost_ret (v:=exV x6 ao6 cap6) (by simp[results,Tryz.results204,go_sem,u0,u1,u2,u3,u4,exV]) rfl ⟨_,_,_,_,rfl,SE,RE,KE,FIN⟩
 obtain rfl:A=-1:=hA.symm.trans (amg_out (by simp only[List.mem_cons,List.not_mem_nil,or_false];rintro s (rfl|rfl|rfl);exact hx0;exact hx1;exact hx2));by_cases hk:x.k=2
 ·have HE:Qd (setR rec m o q) (.inr (x::r)) ⟨23,0,x.t,(x.a:Nat),.nil⟩ (.inr r):=qd_ok (by simp only[setR,hk,if_true]);have bk:((x.k:Int)==2)=true:=by simp[hk]
  have hk0:x.k≠0:=by omega
  clear hA hx0 hx1 hx2 hk TX hn;obtain⟨q0,q1,q2,q3,qf⟩:=Blk.cells4 (o:=fun _=>0) (i:=0) ⟨TB_5,rfl⟩;obtain⟨i6,g6,cap6,L6,hg6,hi6,hcL6,hcap6,hL6,hm6,-,d1,-,-,-,-,hf⟩:=h5.ok;have h6:=h5.over (.inr hk0) d1;have k6:=Keep.at (rb:=rb) w5 1 (.int .i64 ((i6:Int)+1));clear h5;go_upto_region 18 with fail;generalize w5.setCell ⟨rb,1,none⟩ (.int .i64 ((i6:Int)+1))=w6 at *;clear d1 hf hm6;have Z6:=k6.blk Z5 (by have:=K5.size;omega);have K6:=K5.trans k6;have TB_6:=k6.blk TB_5 (by omega);clear K5 Z5 TB_5;clear q0 q1 q2 q3 qf;have KE:=K6.set5 (b:=w.heap.size) (by omega) (.int .i64 23) (.int .i64 0) (stv x.t) (.slice none 0 0) (.int .i64 x.a);have RE:=h6.set5 (b:=w.heap.size) (by omega) (.int .i64 23) (.int .i64 0) (stv x.t) (.slice none 0 0) (.int .i64 x.a);have ZE:=set5k (.int .i64 23) (.int .i64 0) (stv x.t) (.slice none 0 0) (.int .i64 x.a) Z6;obtain⟨z0,z1,z2,z3,z4,zf⟩:=box5 Z6;obtain⟨u0,u1,u2,u3,u4,-⟩:=box5 ZE;obtain⟨y00,y01,y02,y03,y0f⟩:=Blk.cells4 (o:=fun _=>0) (i:=0) ⟨TB_6,rfl⟩;have FIN:=HE;clear ZE K6 Z6 h6 TB_6;go_wp2;exact bodyPost_ret (v:=exV ⟨23,0,x.t,x.a,.nil⟩ none 0) (by simp[results,Tryz.results204,go_sem,u0,u1,u2,u3,u4,exV,Fs.len]) rfl ⟨_,_,_,_,rfl,Sl.nil _ _ _,RE,KE,FIN⟩
 ·have HE:Qd (setR rec m o q) (.inr (x::r)) noEx (.inl (120,x.a)):=qd_bad noEx (by simp only[setR,hk,hx0,hx1,if_false];simp[enterT,hx2,Rs.bind]);have bk:((x.k:Int)==2)=false:=by simp;omega
  clear hA hx0 hx1 hx2 hk TX hn;have c6:Calls Tryz.prog 29 #[.pointer (some ⟨rb,0,none⟩),.int .i64 120] w5 fun r' w'=>r'=.returned (.tuple #[])/\QS w' rb all o q (.inl (120,x.a))/\Keep rb w5 w':=fail_s 120 (by decide) h5;obtain⟨y00,y01,y02,y03,y0f⟩:=Blk.cells4 (o:=fun _=>0) (i:=0) ⟨TB_5,rfl⟩;go_wp2_with fail;refine c6.mono ?_;rintro e w6 ⟨rfl,h6,k6⟩;clear c6 h5 TB_5 y00 y01 y02 y03 y0f;have Z6:=k6.blk Z5 (by have:=K5.size;omega);have K6:=K5.trans k6;clear K5 Z5;have KE:=K6.set5 (b:=w.heap.size) (by omega) (.int .i64 0) (.int .i64 0) (stv []) (.slice none 0 0) (.int .i64 0);have RE:=h6.set5 (b:=w.heap.size) (by omega) (.int .i64 0) (.int .i64 0) (stv []) (.slice none 0 0) (.int .i64 0);have ZE:=set5k (.int .i64 0) (.int .i64 0) (stv []) (.slice none 0 0) (.int .i64 0) Z6;obtain⟨z0,z1,z2,z3,z4,zf⟩:=box5 Z6;obtain⟨u0,u1,u2,u3,u4,-⟩:=box5 ZE;have FIN:=HE;clear ZE K6 Z6 h6;go_wp2;exact bodyPost_ret (v:=exV noEx none 0) (by simp[results,Tryz.results204,go_sem,u0,u1,u2,u3,u4,exV,noEx,Fs.len]) rfl ⟨_,_,_,_,rfl,Sl.nil _ _ _,RE,KE,FIN⟩
theorem set_q {rec:Rdr}(R:RecQ rec){m:Nat}(hm:m<=1000000):SetQ rec m:=by
 intro w rb all o q st TI h hn
 match st,h,hn with
 | .inl (er,a),h,hn=>exact set_bad _ h
 | .inr [],h,hn=>exact absurd rfl (h.nn [] rfl)
 | .inr (x::r),h,hn=>exact set_ok R hm TI h hn
theorem cwL_ok:∀ s,s ∈ cwL->s≠[]/\nameB s=false:=by decide
theorem qwL_ok:∀ s,s ∈ qwL->s≠[]/\nameB s=false:=by decide
theorem call_none {x:Tk}{r:List Tk}(h:callAt x.t=none):amgI cwL (.inr (x::r))=-1:=amg_out fun s hs e=>by
 obtain⟨z,hz,rfl⟩:=List.mem_map.1 hs
 have:=List.find?_eq_none.1 h z hz
 simp[e] at this
theorem quant_none {x:Tk}{r:List Tk}(h:quantAt x.t=none):amgI qwL (.inr (x::r))=-1:=amg_out fun s hs e=>by
 obtain⟨z,hz,rfl⟩:=List.mem_map.1 hs
 have:=List.find?_eq_none.1 h z hz
 simp[e] at this
theorem nodup_at {L:List (List UInt8)}(hd:L.Nodup){k:Nat}{s:List UInt8}(hk:L[k]?=some s):∀ j t,j<k->L[j]?=some t->t≠s:=fun j t hj ht e=>by
 subst e;obtain⟨hk1,hk2⟩:=List.getElem?_eq_some_iff.1 hk;obtain⟨hj1,hj2⟩:=List.getElem?_eq_some_iff.1 ht;exact(List.pairwise_iff_getElem.1 hd j k hj1 hk1 hj) (hj2.trans hk2.symm)
theorem call_some {x:Tk}{r:List Tk}{z:List UInt8 × Nat × Nat}(h:callAt x.t=some z):∃i:Nat,amgI cwL (.inr (x::r))=(i:Nat)/\i<10/\z.2.1=i+1/\z.2.2=(if i<3 then 2 else 1)/\x.t≠[]:=by
 have hz:z ∈ callsL:=List.mem_of_find?_eq_some h;have hp:=List.find?_some h;simp only[beq_iff_eq] at hp;obtain⟨i,hi,he⟩:=List.getElem_of_mem hz;have hL:callsL.length=10:=rfl;have h1:cwL[i]?=some z.1:=by
  rw[cwL,List.getElem?_map,List.getElem?_eq_getElem hi,he];rfl
 have key:∀ i,(h:i<callsL.length)->callsL[i].2.1=i+1/\callsL[i].2.2=(if i<3 then 2 else 1)/\callsL[i].1≠[]:=by decide
 have:=key i hi
 rw[he] at this;exact⟨i,amg_at h1 hp.symm (nodup_at (by decide) h1),by omega,this.1,this.2.1,by rw[<-hp];exact this.2.2⟩
theorem quant_some {x:Tk}{r:List Tk}{z:List UInt8 × Nat}(h:quantAt x.t=some z):∃i:Nat,amgI qwL (.inr (x::r))=(i:Nat)/\i<6/\z.2=i+1/\x.t≠[]:=by
 have hz:z ∈ quantsL:=List.mem_of_find?_eq_some h;have hp:=List.find?_some h;simp only[beq_iff_eq] at hp;obtain⟨i,hi,he⟩:=List.getElem_of_mem hz;have hL:quantsL.length=6:=rfl;have h1:qwL[i]?=some z.1:=by
  rw[qwL,List.getElem?_map,List.getElem?_eq_getElem hi,he];rfl
 have key:∀ i,(h:i<quantsL.length)->quantsL[i].2=i+1/\quantsL[i].1≠[]:=by decide
 have:=key i hi
 rw[he] at this;exact⟨i,amg_at h1 hp.symm (nodup_at (by decide) h1),by omega,this.1,by rw[<-hp];exact this.2⟩
theorem passK_1 {y:Tk}{r:List Tk}(h:y.k=1):Qd (passK 1) (.inr (y::r)) y (.inr r):=⟨by simp[onw,passK,h,stp],fun ts z t hs hz=>by cases hs;simp[passK,h] at hz;exact hz.1⟩
theorem atom_q {rec:Rdr}(R:RecQ rec){m:Nat}(RS:SetQ rec m){w:World}{rb o q:Nat}{all:List Tk}{x:Tk}{r:List Tk}(TI:∀ x,x ∈ all->TokI x)(h:QS w rb all o q (.inr (x::r)))(hn:Nou (atomR rec m o q) (.inr (x::r))) :
  Calls Tryz.prog 105 #[.pointer (some ⟨rb,0,none⟩)] w (PostQ rb all o q w (.inr (x::r)) (atomR rec m o q)):=by
 have hrb:=h.lt;have K0:Keep rb w (w.alloc exZ):=(Keep.refl rb w).alloc _;have Z0:(w.alloc exZ).heap[w.heap.size]?=some exZ:=heap_alloc_new w _;have h0:=h.alloc exZ;have d4:=h0.e0;go_enter Tryz.func105,Tryz.ntmps105;go_upto_region 3 with fail;generalize w.alloc exZ=v0 at *;clear d4;have h3:=h0;clear h0;obtain⟨i3,g3,cap3,L3,hg3,hi3,hcL3,hcap3,hL3,hm3,d0,d1,-,-,-,⟨t0,t1,t2,t3⟩,hf⟩:=h3.ok;have bz:Below v0.heap.size v0 (v0.alloc (.cells #[.int .i64 0,.int .i64 0,.string ⟨#[]⟩,.int .i64 0] 67)):=(Below.refl _ v0).alloc (Nat.le_refl _) _;have hrb2:rb<v0.heap.size:=h3.lt;have hgs:g3<v0.heap.size:=by omega
 have d0b:=(bz.cell (p:=⟨rb,0,none⟩) hrb2).trans d0;have d1b:=(bz.cell (p:=⟨rb,1,none⟩) hrb2).trans d1;have u0:=(bz.cell (p:=⟨g3,i3*4,none⟩) hgs).trans t0;have u1:=(bz.cell (p:=⟨g3,i3*4+1,none⟩) hgs).trans t1;have u2:=(bz.cell (p:=⟨g3,i3*4+2,none⟩) hgs).trans t2;have u3:=(bz.cell (p:=⟨g3,i3*4+3,none⟩) hgs).trans t3;have hiI:(i3:Int)<(L3:Int):=by omega
 have h2T:=two_alloc v0 (.cells #[.int .i64 (x.k:Nat),.int .i64 x.n,stv x.t,.int .i64 (x.a:Nat)] 67);clear bz;go_upto_region 3 with fail;go_cut [3] (fun v wx=>∃bt,v=.pointer (some ⟨bt,0,none⟩)/\v0.heap.size<=bt/\wx.heap[bt]?=some (.cells #[.int .i64 (x.k:Nat),.int .i64 x.n,stv x.t,.int .i64 (x.a:Nat)] 67 (0,0))/\Below v0.heap.size v0 wx)
 case first =>
  go_region
  all_goals
   go_wp2;go_meet;exact⟨_,rfl,Nat.le_refl _,h2T.1,h2T.2⟩
 case rest =>
 obtain⟨bt,rfl,hbt0,TB,B1⟩:=hcut;clear t0 t1 t2 t3 d0 d1 hf d0b d1b u0 u1 u2 u3 h2T;have k3:=Keep.ofBelow (rb:=rb) B1;have h4:=h3.below B1;have hbt:rb<bt:=by have:=h3.lt;omega
 clear h3 B1;have Z3:=k3.blk Z0 (by have:=K0.size;omega);have K3:=K0.trans k3;clear K0 Z0;obtain⟨A1,hA1⟩:∃A,amgI cwL (.inr (x::r))=A:=⟨_,rfl⟩
 obtain⟨A2,hA2⟩:∃A,amgI qwL (.inr (x::r))=A:=⟨_,rfl⟩
 obtain⟨A3,hA3⟩:∃A,amgI [[102,97,108,115,101],[116,114,117,101]] (.inr (x::r))=A:=⟨_,rfl⟩
 obtain⟨A4,hA4⟩:∃A,amgI [[64],[40],[105,102]] (.inr (x::r))=A:=⟨_,rfl⟩
 have c5:=calls_s wc;go_wp2_with fail;refine c5.mono ?_;rintro e w5 ⟨g5,rfl,WL⟩;clear c5;have c6:=among_s TI cwL cwL_ok (h4.below WL.1) (n:=10) (cap:=10) rfl WL.2.2.1 WL.2.2.2 (by omega) (by unfold maxLen;omega);go_wp2_with fail;refine c6.mono ?_;rintro e w6 ⟨rfl,b6⟩;have B6:=WL.1.trans (b6.mono WL.1.size);have k6:=Keep.ofBelow (rb:=rb) B6;have h6:=h4.below B6;clear WL c6 b6 B6 h4;have Z6:=k6.blk Z3 (by have:=K3.size;omega);have K6:=K3.trans k6;have TB_6:=k6.blk TB (by omega);clear K3 Z3 TB;rw[hA1];have c7:=quants_s w6;go_wp2_with fail;refine c7.mono ?_;rintro e w7 ⟨g7,rfl,WL⟩;clear c7;have c8:=among_s TI qwL qwL_ok (h6.below WL.1) (n:=6) (cap:=6) rfl WL.2.2.1 WL.2.2.2 (by omega) (by unfold maxLen;omega);go_wp2_with fail;refine c8.mono ?_;rintro e w8 ⟨rfl,b8⟩;have B8:=WL.1.trans (b8.mono WL.1.size);have k8:=Keep.ofBelow (rb:=rb) B8;have h8:=h6.below B8;clear WL c8 b8 B8 h6;have Z8:=k8.blk Z6 (by have:=K6.size;omega);have K8:=K6.trans k8;have TB_8:=k8.blk TB_6 (by omega);clear K6 Z6 TB_6;rw[hA2];have WL:Wl w8 [[102,97,108,115,101],[116,114,117,101]] (World.alloc w8 (.cells #[.string ⟨#[102,97,108,115,101]⟩,.string ⟨#[116,114,117,101]⟩] 9)) w8.heap.size:=wl_new w8 [[102,97,108,115,101],[116,114,117,101]] _;have c9:=among_s TI [[102,97,108,115,101],[116,114,117,101]] (by decide) (h8.below WL.1) (n:=2) (cap:=2) rfl WL.2.2.1 WL.2.2.2 (by omega) (by unfold maxLen;omega);go_wp2_with fail;refine c9.mono ?_;rintro e w9 ⟨rfl,b9⟩;have B9:=WL.1.trans (b9.mono WL.1.size);have k9:=Keep.ofBelow (rb:=rb) B9;have h9:=h8.below B9;clear WL c9 b9 B9 h8;have Z9:=k9.blk Z8 (by have:=K8.size;omega);have K9:=K8.trans k9;have TB_9:=k9.blk TB_8 (by omega);clear K8 Z8 TB_8;rw[hA3];have WL:Wl w9 [[64],[40],[105,102]] (World.alloc w9 (.cells #[.string ⟨#[64]⟩,.string ⟨#[40]⟩,.string ⟨#[105,102]⟩] 9)) w9.heap.size:=wl_new w9 [[64],[40],[105,102]] _;have c10:=among_s TI [[64],[40],[105,102]] (by decide) (h9.below WL.1) (n:=3) (cap:=3) rfl WL.2.2.1 WL.2.2.2 (by omega) (by unfold maxLen;omega);go_wp2_with fail;refine c10.mono ?_;rintro e w10 ⟨rfl,b10⟩;have B10:=WL.1.trans (b10.mono WL.1.size);have k10:=Keep.ofBelow (rb:=rb) B10;have h10:=h9.below B10;clear WL c10 b10 B10 h9;have Z10:=k10.blk Z9 (by have:=K9.size;omega);have K10:=K9.trans k10;have TB_10:=k10.blk TB_9 (by omega);clear K9 Z9 TB_9;rw[hA4];clear hm3;obtain⟨q0,q1,q2,q3,qf⟩:=Blk.cells4 (o:=fun _=>0) (i:=0) ⟨TB_10,rfl⟩;by_cases k1:x.k=1
 ·have HE:Qd (atomR rec m o q) (.inr (x::r)) ⟨1,x.n,[],(x.a:Nat),.nil⟩ (.inr r):=qd_ok (by simp only[atomR,k1,if_true]);have b1:((x.k:Int)==1)=true:=by simp[k1]
  have hk0:x.k≠0:=by omega
  clear k1 hn hA1 hA2 hA3 hA4;obtain⟨i11,g11,cap11,L11,hg11,hi11,hcL11,hcap11,hL11,hm11,-,d1,-,-,-,-,hf⟩:=h10.ok;have h11:=h10.over (.inr hk0) d1;have k11:=Keep.at (rb:=rb) w10 1 (.int .i64 ((i11:Int)+1));clear h10;go_upto_region 10 with fail;generalize w10.setCell ⟨rb,1,none⟩ (.int .i64 ((i11:Int)+1))=w11 at *;clear d1 hf hm11;have Z11:=k11.blk Z10 (by have:=K10.size;omega);have K11:=K10.trans k11;have TB_11:=k11.blk TB_10 (by omega);clear K10 Z10 TB_10;clear q0 q1 q2 q3 qf;have KE:=K11.set5 (b:=w.heap.size) (by omega) (.int .i64 1) (.int .i64 x.n) (stv []) (.slice none 0 0) (.int .i64 x.a);have RE:=h11.set5 (b:=w.heap.size) (by omega) (.int .i64 1) (.int .i64 x.n) (stv []) (.slice none 0 0) (.int .i64 x.a);have ZE:=set5k (.int .i64 1) (.int .i64 x.n) (stv []) (.slice none 0 0) (.int .i64 x.a) Z11;obtain⟨z0,z1,z2,z3,z4,zf⟩:=box5 Z11;obtain⟨u0,u1,u2,u3,u4,-⟩:=box5 ZE;obtain⟨y00,y01,y02,y03,y0f⟩:=Blk.cells4 (o:=fun _=>0) (i:=0) ⟨TB_11,rfl⟩;have FIN:=HE;clear ZE K11 Z11 h11 TB_11;go_wp2;exact bodyPost_ret (v:=exV ⟨1,x.n,[],x.a,.nil⟩ none 0) (by simp[results,Tryz.results105,go_sem,u0,u1,u2,u3,u4,exV,Fs.len]) rfl ⟨_,_,_,_,rfl,Sl.nil _ _ _,RE,KE,FIN⟩
 have b1:((x.k:Int)==1)=false:=by simp;omega
 by_cases k2:x.k=2
 ·have HE:Qd (atomR rec m o q) (.inr (x::r)) ⟨4,0,x.t,(x.a:Nat),.nil⟩ (.inr r):=qd_ok (by simp only[atomR,k1,k2,if_true,if_false];rw[if_neg (by decide)]);have b2:((x.k:Int)==2)=true:=by simp[k2]
  have hk0:x.k≠0:=by omega
  clear k1 k2 hn hA1 hA2 hA3 hA4;obtain⟨i11,g11,cap11,L11,hg11,hi11,hcL11,hcap11,hL11,hm11,-,d1,-,-,-,-,hf⟩:=h10.ok;have h11:=h10.over (.inr hk0) d1;have k11:=Keep.at (rb:=rb) w10 1 (.int .i64 ((i11:Int)+1));clear h10;go_upto_region 13 with fail;generalize w10.setCell ⟨rb,1,none⟩ (.int .i64 ((i11:Int)+1))=w11 at *;clear d1 hf hm11;have Z11:=k11.blk Z10 (by have:=K10.size;omega);have K11:=K10.trans k11;have TB_11:=k11.blk TB_10 (by omega);clear K10 Z10 TB_10;clear q0 q1 q2 q3 qf;have KE:=K11.set5 (b:=w.heap.size) (by omega) (.int .i64 4) (.int .i64 0) (stv x.t) (.slice none 0 0) (.int .i64 x.a);have RE:=h11.set5 (b:=w.heap.size) (by omega) (.int .i64 4) (.int .i64 0) (stv x.t) (.slice none 0 0) (.int .i64 x.a);have ZE:=set5k (.int .i64 4) (.int .i64 0) (stv x.t) (.slice none 0 0) (.int .i64 x.a) Z11;obtain⟨z0,z1,z2,z3,z4,zf⟩:=box5 Z11;obtain⟨u0,u1,u2,u3,u4,-⟩:=box5 ZE;obtain⟨y00,y01,y02,y03,y0f⟩:=Blk.cells4 (o:=fun _=>0) (i:=0) ⟨TB_11,rfl⟩;have FIN:=HE;clear ZE K11 Z11 h11 TB_11;go_wp2;exact bodyPost_ret (v:=exV ⟨4,0,x.t,x.a,.nil⟩ none 0) (by simp[results,Tryz.results105,go_sem,u0,u1,u2,u3,u4,exV,Fs.len]) rfl ⟨_,_,_,_,rfl,Sl.nil _ _ _,RE,KE,FIN⟩
 have b2:((x.k:Int)==2)=false:=by simp;omega
 by_cases t0:x.t=[102,97,108,115,101]
 ·obtain rfl:A3=0:=hA3.symm.trans (amg_at (k:=0) rfl t0 (by omega));have HE:Qd (atomR rec m o q) (.inr (x::r)) ⟨2,0,[],(x.a:Nat),.nil⟩ (.inr r):=qd_ok (by simp only[atomR,k1,k2,t0,if_true,if_false]);have hxt:x.t≠[]:=by rw[t0];decide
  clear k1 k2 t0 hn hA1 hA2 hA3 hA4;obtain⟨i11,g11,cap11,L11,hg11,hi11,hcL11,hcap11,hL11,hm11,-,d1,-,-,-,-,hf⟩:=h10.ok;have h11:=h10.over (.inl hxt) d1;have k11:=Keep.at (rb:=rb) w10 1 (.int .i64 ((i11:Int)+1));clear h10;go_upto_region 16 with fail;generalize w10.setCell ⟨rb,1,none⟩ (.int .i64 ((i11:Int)+1))=w11 at *;clear d1 hf hm11;have Z11:=k11.blk Z10 (by have:=K10.size;omega);have K11:=K10.trans k11;have TB_11:=k11.blk TB_10 (by omega);clear K10 Z10 TB_10;clear q0 q1 q2 q3 qf;have KE:=K11.set5 (b:=w.heap.size) (by omega) (.int .i64 2) (.int .i64 0) (stv []) (.slice none 0 0) (.int .i64 x.a);have RE:=h11.set5 (b:=w.heap.size) (by omega) (.int .i64 2) (.int .i64 0) (stv []) (.slice none 0 0) (.int .i64 x.a);have ZE:=set5k (.int .i64 2) (.int .i64 0) (stv []) (.slice none 0 0) (.int .i64 x.a) Z11;obtain⟨z0,z1,z2,z3,z4,zf⟩:=box5 Z11;obtain⟨u0,u1,u2,u3,u4,-⟩:=box5 ZE;obtain⟨y00,y01,y02,y03,y0f⟩:=Blk.cells4 (o:=fun _=>0) (i:=0) ⟨TB_11,rfl⟩;have FIN:=HE;clear ZE K11 Z11 h11 TB_11;go_wp2;exact bodyPost_ret (v:=exV ⟨2,0,[],x.a,.nil⟩ none 0) (by simp[results,Tryz.results105,go_sem,u0,u1,u2,u3,u4,exV,Fs.len]) rfl ⟨_,_,_,_,rfl,Sl.nil _ _ _,RE,KE,FIN⟩
 by_cases t1:x.t=[116,114,117,101]
 ·obtain rfl:A3=1:=hA3.symm.trans (amg_at (k:=1) rfl t1 (fun j t hj ht=>by (obtain rfl:j=0:=by omega);simp at ht;subst ht;decide));have HE:Qd (atomR rec m o q) (.inr (x::r)) ⟨2,1,[],(x.a:Nat),.nil⟩ (.inr r):=qd_ok (by simp only[atomR,k1,k2,t0,t1,if_true,if_false];rfl);have hxt:x.t≠[]:=by rw[t1];decide
  clear k1 k2 t0 t1 hn hA1 hA2 hA3 hA4;obtain⟨i11,g11,cap11,L11,hg11,hi11,hcL11,hcap11,hL11,hm11,-,d1,-,-,-,-,hf⟩:=h10.ok;have h11:=h10.over (.inl hxt) d1;have k11:=Keep.at (rb:=rb) w10 1 (.int .i64 ((i11:Int)+1));clear h10;go_upto_region 16 with fail;generalize w10.setCell ⟨rb,1,none⟩ (.int .i64 ((i11:Int)+1))=w11 at *;clear d1 hf hm11;have Z11:=k11.blk Z10 (by have:=K10.size;omega);have K11:=K10.trans k11;have TB_11:=k11.blk TB_10 (by omega);clear K10 Z10 TB_10;clear q0 q1 q2 q3 qf;have KE:=K11.set5 (b:=w.heap.size) (by omega) (.int .i64 2) (.int .i64 1) (stv []) (.slice none 0 0) (.int .i64 x.a);have RE:=h11.set5 (b:=w.heap.size) (by omega) (.int .i64 2) (.int .i64 1) (stv []) (.slice none 0 0) (.int .i64 x.a);have ZE:=set5k (.int .i64 2) (.int .i64 1) (stv []) (.slice none 0 0) (.int .i64 x.a) Z11;obtain⟨z0,z1,z2,z3,z4,zf⟩:=box5 Z11;obtain⟨u0,u1,u2,u3,u4,-⟩:=box5 ZE;obtain⟨y00,y01,y02,y03,y0f⟩:=Blk.cells4 (o:=fun _=>0) (i:=0) ⟨TB_11,rfl⟩;have FIN:=HE;clear ZE K11 Z11 h11 TB_11;go_wp2;exact bodyPost_ret (v:=exV ⟨2,1,[],x.a,.nil⟩ none 0) (by simp[results,Tryz.results105,go_sem,u0,u1,u2,u3,u4,exV,Fs.len]) rfl ⟨_,_,_,_,rfl,Sl.nil _ _ _,RE,KE,FIN⟩
 obtain rfl:A3=-1:=hA3.symm.trans (amg_out (by simp only[List.mem_cons,List.not_mem_nil,or_false];rintro s (rfl|rfl);exact t0;exact t1));by_cases s0:x.t=[64]
 ·obtain rfl:A4=0:=hA4.symm.trans (amg_at (k:=0) rfl s0 (by omega));have C1:=(Ctx.start hn).eat (H:=fun t=>(passK 1 t).bind fun y t1=>.ok ⟨3,y.n,[],(x.a:Nat),.nil⟩ t1) (by simp only[atomR,k1,k2,t0,t1,s0,if_true,if_false];rfl);have hxt:x.t≠[]:=by rw[s0];decide
  clear k1 k2 t0 t1 s0 hn hA1 hA2 hA3 hA4;obtain⟨i11,g11,cap11,L11,hg11,hi11,hcL11,hcap11,hL11,hm11,-,d1,-,-,-,-,hf⟩:=h10.ok;have h11:=h10.over (.inl hxt) d1;have k11:=Keep.at (rb:=rb) w10 1 (.int .i64 ((i11:Int)+1));clear h10;go_upto_region 19 with fail;generalize w10.setCell ⟨rb,1,none⟩ (.int .i64 ((i11:Int)+1))=w11 at *;clear d1 hf hm11;have Z11:=k11.blk Z10 (by have:=K10.size;omega);have K11:=K10.trans k11;have TB_11:=k11.blk TB_10 (by omega);clear K10 Z10 TB_10;clear q0 q1 q2 q3 qf;cases r with
  | nil=>exact absurd rfl (h11.nn [] rfl)
  | cons y r2 =>
  have h3:=h11;clear h11;obtain⟨i3b,g3b,cap3b,L3b,hg3b,hi3b,hcL3b,hcap3b,hL3b,hm3,d0,d1,-,-,-,⟨t0,t1,t2,t3⟩,hf⟩:=h3.ok;have bz:Below w11.heap.size w11 (w11.alloc (.cells #[.int .i64 0,.int .i64 0,.string ⟨#[]⟩,.int .i64 0] 67)):=(Below.refl _ w11).alloc (Nat.le_refl _) _;have hrb2:rb<w11.heap.size:=h3.lt;have hgs:g3b<w11.heap.size:=by omega
  have d0b:=(bz.cell (p:=⟨rb,0,none⟩) hrb2).trans d0;have d1b:=(bz.cell (p:=⟨rb,1,none⟩) hrb2).trans d1;have u0:=(bz.cell (p:=⟨g3b,i3b*4,none⟩) hgs).trans t0;have u1:=(bz.cell (p:=⟨g3b,i3b*4+1,none⟩) hgs).trans t1;have u2:=(bz.cell (p:=⟨g3b,i3b*4+2,none⟩) hgs).trans t2;have u3:=(bz.cell (p:=⟨g3b,i3b*4+3,none⟩) hgs).trans t3;have hiI:(i3b:Int)<(L3b:Int):=by omega
  have h2T:=two_alloc w11 (.cells #[.int .i64 (y.k:Nat),.int .i64 y.n,stv y.t,.int .i64 (y.a:Nat)] 67);clear bz;go_upto_region 19 with fail;go_cut [8] (fun v wx=>∃bu,v=.pointer (some ⟨bu,0,none⟩)/\w11.heap.size<=bu/\wx.heap[bu]?=some (.cells #[.int .i64 (y.k:Nat),.int .i64 y.n,stv y.t,.int .i64 (y.a:Nat)] 67 (0,0))/\Below w11.heap.size w11 wx)
  case first =>
   go_region
   all_goals
    go_wp2;go_meet;exact⟨_,rfl,Nat.le_refl _,h2T.1,h2T.2⟩
  case rest =>
  obtain⟨bu,rfl,hbu0,TU,BU⟩:=hcut;clear t0 t1 t2 t3 d0 d1 hf hm3 d0b d1b u0 u1 u2 u3 h2T;have k12:=Keep.ofBelow (rb:=rb) BU;have h12:=h3.below BU;have hbu:rb<bu:=by have:=h3.lt;omega
  clear h3 BU;have Z12:=k12.blk Z11 (by have:=K11.size;omega);have K12:=K11.trans k12;have TB_12:=k12.blk TB_11 (by omega);clear K11 Z11 TB_11;obtain⟨y00,y01,y02,y03,y0f⟩:=Blk.cells4 (o:=fun _=>0) (i:=0) ⟨TB_12,rfl⟩;obtain⟨y10,y11,y12,y13,y1f⟩:=Blk.cells4 (o:=fun _=>0) (i:=0) ⟨TU,rfl⟩;by_cases ky:y.k=1
  ·have HE:=C1.step (passK_1 ky);have HE:=HE.fin;have by1:((y.k:Int)==1)=true:=by simp[ky]
   have by2:((y.k:Int) != 1)=false:=by simp[ky]
   have hk0:y.k≠0:=by omega
   clear ky C1;obtain⟨i13,g13,cap13,L13,hg13,hi13,hcL13,hcap13,hL13,hm13,-,d1,-,-,-,-,hf⟩:=h12.ok;have h13:=h12.over (.inr hk0) d1;have k13:=Keep.at (rb:=rb) wc 1 (.int .i64 ((i13:Int)+1));clear h12;go_upto_region 24 with fail;generalize wc.setCell ⟨rb,1,none⟩ (.int .i64 ((i13:Int)+1))=w13 at *;clear d1 hf hm13;have Z13:=k13.blk Z12 (by have:=K12.size;omega);have K13:=K12.trans k13;have TB_13:=k13.blk TB_12 (by omega);have TU_13:=k13.blk TU (by omega);clear K12 Z12 TB_12 TU;clear y00 y01 y02 y03 y0f y10 y11 y12 y13 y1f;have KE:=K13.set5 (b:=w.heap.size) (by omega) (.int .i64 3) (.int .i64 y.n) (stv []) (.slice none 0 0) (.int .i64 x.a);have RE:=h13.set5 (b:=w.heap.size) (by omega) (.int .i64 3) (.int .i64 y.n) (stv []) (.slice none 0 0) (.int .i64 x.a);have ZE:=set5k (.int .i64 3) (.int .i64 y.n) (stv []) (.slice none 0 0) (.int .i64 x.a) Z13;obtain⟨z0,z1,z2,z3,z4,zf⟩:=box5 Z13;obtain⟨u0,u1,u2,u3,u4,-⟩:=box5 ZE;obtain⟨y00,y01,y02,y03,y0f⟩:=Blk.cells4 (o:=fun _=>0) (i:=0) ⟨TB_13,rfl⟩;obtain⟨y10,y11,y12,y13,y1f⟩:=Blk.cells4 (o:=fun _=>0) (i:=0) ⟨TU_13,rfl⟩;have FIN:=HE;clear ZE K13 Z13 h13 TB_13 TU_13;go_wp2;exact bodyPost_ret (v:=exV ⟨3,y.n,[],x.a,.nil⟩ none 0) (by simp[results,Tryz.results105,go_sem,u0,u1,u2,u3,u4,exV,Fs.len]) rfl ⟨_,_,_,_,rfl,Sl.nil _ _ _,RE,KE,FIN⟩
  ·have HE:=C1.2 noEx (.inl (120,y.a)) (qd_bad noEx (by simp[passK,ky,Rs.bind]));have by1:((y.k:Int)==1)=false:=by simp;omega
   have by2:((y.k:Int) != 1)=true:=by simp;omega
   clear ky C1 y00 y01 y02 y03 y0f y10 y11 y12 y13 y1f;have c13:Calls Tryz.prog 29 #[.pointer (some ⟨rb,0,none⟩),.int .i64 120] wc fun r' w'=>r'=.returned (.tuple #[])/\QS w' rb all o q (.inl (120,y.a))/\Keep rb wc w':=fail_s 120 (by decide) h12;obtain⟨y00,y01,y02,y03,y0f⟩:=Blk.cells4 (o:=fun _=>0) (i:=0) ⟨TB_12,rfl⟩;obtain⟨y10,y11,y12,y13,y1f⟩:=Blk.cells4 (o:=fun _=>0) (i:=0) ⟨TU,rfl⟩;go_wp2_with fail;refine c13.mono ?_;rintro e w13 ⟨rfl,h13,k13⟩;clear c13 h12 TB_12 TU y00 y01 y02 y03 y0f y10 y11 y12 y13 y1f;have Z13:=k13.blk Z12 (by have:=K12.size;omega);have K13:=K12.trans k13;clear K12 Z12;have KE:=K13.set5 (b:=w.heap.size) (by omega) (.int .i64 0) (.int .i64 0) (stv []) (.slice none 0 0) (.int .i64 0);have RE:=h13.set5 (b:=w.heap.size) (by omega) (.int .i64 0) (.int .i64 0) (stv []) (.slice none 0 0) (.int .i64 0);have ZE:=set5k (.int .i64 0) (.int .i64 0) (stv []) (.slice none 0 0) (.int .i64 0) Z13;obtain⟨z0,z1,z2,z3,z4,zf⟩:=box5 Z13;obtain⟨u0,u1,u2,u3,u4,-⟩:=box5 ZE;have FIN:=HE;clear ZE K13 Z13 h13;go_wp2;exact bodyPost_ret (v:=exV noEx none 0) (by simp[results,Tryz.results105,go_sem,u0,u1,u2,u3,u4,exV,noEx,Fs.len]) rfl ⟨_,_,_,_,rfl,Sl.nil _ _ _,RE,KE,FIN⟩
 by_cases s1:x.t=[40]
 ·obtain rfl:A4=1:=hA4.symm.trans (amg_at (k:=1) rfl s1 (fun j t hj ht=>by (obtain rfl:j=0:=by omega);simp at ht;subst ht;decide));have C1:=(Ctx.start hn).congr (H:=(fun ts=>(enterT [40] o ts).bind fun _ t1=>(rec 1 (o+1) q t1).bind fun e t2=>(passT [41] t2).bind fun _ t4=>.ok e t4)) (fun ts hs=>by cases hs;simp only[atomR,k1,k2,t0,t1,s0,s1,if_true,if_false,argsR,argsL,Rs.bind_assoc,Rs.ok_bind,Nat.sub_self];rfl);clear k1 k2 t0 t1 s0 s1 hn hA1 hA2 hA3 hA4;have c11:=bracket_v TI [40] ⟨by decide,by decide⟩ h10;go_wp2_with fail;refine c11.mono ?_;rintro e w11 ⟨x11,st11,rfl,h11,k11,Q11⟩;have C11:=C1.step Q11;clear c11 Q11 C1;have Z11:=k11.blk Z10 (by have:=K10.size;omega);have K11:=K10.trans k11;have TB_11:=k11.blk TB_10 (by omega);clear K10 Z10 TB_10;clear q0 q1 q2 q3 qf;have c12:=R _ rb all 1 (o+1) (q) st11 TI (by omega) (by omega) h11 C11.nou;go_wp2_with fail;refine c12.mono ?_;rintro e w12 ⟨x12,ao12,cap12,st12,rfl,S12,h12,k12,Q12⟩;have C12:=C11.step Q12;clear c12 Q12 C11;have S12a:=S12.low (show (w.heap.size+1)<=_ from (by have:=lt_of_block Z11;omega));clear S12;have Z12:=k12.blk Z11 (by have:=K11.size;omega);have K12:=K11.trans k12;have TB_12:=k12.blk TB_11 (by omega);clear K11 Z11 TB_11;have h12a:=h12.alloc (.cells #[.int .i64 x12.k,.int .i64 x12.n,stv x12.nm,.slice ao12 x12.kids.len cap12,.int .i64 x12.a] 25);have K12a:=K12.alloc (.cells #[.int .i64 x12.k,.int .i64 x12.n,stv x12.nm,.slice ao12 x12.kids.len cap12,.int .i64 x12.a] 25);have Z12a:=(Below.heap_alloc w12 (.cells #[.int .i64 x12.k,.int .i64 x12.n,stv x12.nm,.slice ao12 x12.kids.len cap12,.int .i64 x12.a] 25) _ (lt_of_block Z12)).trans Z12;have TB_12a:=(Below.heap_alloc w12 (.cells #[.int .i64 x12.k,.int .i64 x12.n,stv x12.nm,.slice ao12 x12.kids.len cap12,.int .i64 x12.a] 25) _ (lt_of_block TB_12)).trans TB_12;have Y12_a:(World.alloc w12 (.cells #[.int .i64 x12.k,.int .i64 x12.n,stv x12.nm,.slice ao12 x12.kids.len cap12,.int .i64 x12.a] 25)).heap[w12.heap.size]?=some (.cells #[.int .i64 x12.k,.int .i64 x12.n,stv x12.nm,.slice ao12 x12.kids.len cap12,.int .i64 x12.a] 25):=heap_alloc_new w12 _;have S12a_12b:=S12a.allocN (.cells #[.int .i64 x12.k,.int .i64 x12.n,stv x12.nm,.slice ao12 x12.kids.len cap12,.int .i64 x12.a] 25);have hb12:rb<w12.heap.size:=by have:=K12.size;omega
  clear h12 K12 Z12 TB_12 S12a;rw[exV_out];have c13:=close_v TI [41] ⟨by decide,by decide⟩ h12a;go_wp2_with fail;refine c13.mono ?_;rintro e w13 ⟨x13,st13,rfl,h13,k13,Q13⟩;have C13:=C12.step Q13;clear c13 Q13 C12;have Z13:=k13.blk Z12a (by have:=K12a.size;omega);have K13:=K12a.trans k13;have TB_13:=k13.blk TB_12a (by omega);have Y12_13:=k13.blk Y12_a (by omega);have S12a_13:=S12a_12b.keepN k13 (by omega);clear K12a Z12a TB_12a Y12_a S12a_12b;have KE:=K13.set5 (b:=w.heap.size) (by omega) (.int .i64 x12.k) (.int .i64 x12.n) (stv x12.nm) (.slice ao12 x12.kids.len cap12) (.int .i64 x12.a);have RE:=h13.set5 (b:=w.heap.size) (by omega) (.int .i64 x12.k) (.int .i64 x12.n) (stv x12.nm) (.slice ao12 x12.kids.len cap12) (.int .i64 x12.a);have ZE:=set5k (.int .i64 x12.k) (.int .i64 x12.n) (stv x12.nm) (.slice ao12 x12.kids.len cap12) (.int .i64 x12.a) Z13;have SE:Sl _ (Nw w.heap.size) _ _:=(S12a_13.set5 (b:=w.heap.size) (by omega) (.int .i64 x12.k) (.int .i64 x12.n) (stv x12.nm) (.slice ao12 x12.kids.len cap12) (.int .i64 x12.a)).low (by omega);obtain⟨z0,z1,z2,z3,z4,zf⟩:=box5 Z13;obtain⟨u0,u1,u2,u3,u4,-⟩:=box5 ZE;obtain⟨y10,y11,y12,y13,y14,y1f⟩:=box5 Y12_13;have FIN:=C13.fin;clear ZE C13 K13 Z13 h13 TB_13 Y12_13 S12a_13;go_wp2;exact bodyPost_ret (v:=exV x12 ao12 cap12) (by simp[results,Tryz.results105,go_sem,u0,u1,u2,u3,u4,exV]) rfl ⟨_,_,_,_,rfl,SE,RE,KE,FIN⟩
 by_cases s2:x.t=[105,102]
 ·obtain rfl:A4=2:=hA4.symm.trans (amg_at (k:=2) rfl s2 (fun j t hj ht=>by (obtain rfl|rfl:j=0\/j=1:=by omega)<;>simp at ht<;>subst ht<;>decide));have EQ:∀ ts,(.inr (x::r):Sq)=.inr ts->atomR rec m o q ts=choiceR rec o q ts:=fun ts hs=>by
   cases hs;simp only[atomR,k1,k2,t0,t1,s0,s1,s2,if_true,if_false];rfl
  have HN:=hn.congr EQ;have HC:Hid (∀ X st',Qd (choiceR rec o q) (.inr (x::r)) X st'->Qd (atomR rec m o q) (.inr (x::r)) X st'):=fun X st' q=>q.congr fun ts hs=>(EQ ts hs).symm;have CC:Hid (∀ wx,QS wx rb all o q (.inr (x::r))->Calls Tryz.prog 162 #[.pointer (some ⟨rb,0,none⟩),.int .i64 (x.a:Nat)] wx (PostQ rb all o q wx (.inr (x::r)) (choiceR rec o q))):=fun wx hh=>choice_q R TI s2 hh HN;clear EQ HN k1 k2 t0 t1 s0 s1 s2 hn hA1 hA2 hA3 hA4 q0 q1 q2 q3 qf;obtain⟨y00,y01,y02,y03,y0f⟩:=Blk.cells4 (o:=fun _=>0) (i:=0) ⟨TB_10,rfl⟩;have c11:=CC.out _ h10;go_wp2_with fail;refine c11.mono ?_;rintro e w11 ⟨x11,ao11,cap11,st11,rfl,S11,h11,k11,Q11⟩;have HX:=HC.out _ _ Q11;clear c11 Q11 h10 y00 y01 y02 y03 y0f;have S11a:=S11.low (show (w.heap.size+1)<=_ from (by have:=lt_of_block Z10;omega));clear S11;have Z11:=k11.blk Z10 (by have:=K10.size;omega);have K11:=K10.trans k11;have TB_11:=k11.blk TB_10 (by omega);clear K10 Z10 TB_10;have KE:=K11.set5 (b:=w.heap.size) (by omega) (.int .i64 x11.k) (.int .i64 x11.n) (stv x11.nm) (.slice ao11 x11.kids.len cap11) (.int .i64 x11.a);have RE:=h11.set5 (b:=w.heap.size) (by omega) (.int .i64 x11.k) (.int .i64 x11.n) (stv x11.nm) (.slice ao11 x11.kids.len cap11) (.int .i64 x11.a);have ZE:=set5k (.int .i64 x11.k) (.int .i64 x11.n) (stv x11.nm) (.slice ao11 x11.kids.len cap11) (.int .i64 x11.a) Z11;have SE:Sl _ (Nw w.heap.size) _ _:=(S11a.set5 (b:=w.heap.size) (by omega) (.int .i64 x11.k) (.int .i64 x11.n) (stv x11.nm) (.slice ao11 x11.kids.len cap11) (.int .i64 x11.a)).low (by omega);obtain⟨z0,z1,z2,z3,z4,zf⟩:=box5 Z11;obtain⟨u0,u1,u2,u3,u4,-⟩:=box5 ZE;have FIN:=HX;clear ZE K11 Z11 h11 TB_11 S11a;rw[exV_out];go_wp2;exact bodyPost_ret (v:=exV x11 ao11 cap11) (by simp[results,Tryz.results105,go_sem,u0,u1,u2,u3,u4,exV]) rfl ⟨_,_,_,_,rfl,SE,RE,KE,FIN⟩
 obtain rfl:A4=-1:=hA4.symm.trans (amg_out (by simp only[List.mem_cons,List.not_mem_nil,or_false];rintro s (rfl|rfl|rfl);exact s0;exact s1;exact s2));cases hc:callAt x.t with
 | some z =>
  obtain⟨i,hi,hi10,hz1,hz2,hxt⟩:=call_some (r:=r) hc;obtain⟨z0,zn,zm⟩:=z;simp only at hz1 hz2;subst hz1;obtain rfl:A1=(i:Nat):=hA1.symm.trans hi;have hi0:(0:Int)<=(i:Int):=by omega
  have EQ:∀ ts,(.inr (x::r):Sq)=.inr ts->atomR rec m o q ts=callR rec zm i x.a o q ts:=fun ts hs=>by
   cases hs;simp only[atomR,k1,k2,t0,t1,s0,s1,s2,hc,if_false,callR,List.tail_cons];rfl
  have HN:=hn.congr EQ;have HC:Hid (∀ X st',Qd (callR rec zm i x.a o q) (.inr (x::r)) X st'->Qd (atomR rec m o q) (.inr (x::r)) X st'):=fun X st' q=>q.congr fun ts hs=>(EQ ts hs).symm;have CC:Hid (∀ wx,QS wx rb all o q (.inr (x::r))->Calls Tryz.prog 163 #[.pointer (some ⟨rb,0,none⟩),.int .i64 (i:Nat),.int .i64 (x.a:Nat)] wx (PostQ rb all o q wx (.inr (x::r)) (callR rec zm i x.a o q))):=fun wx hh=>by
   by_cases h3:i<3
   ·rw[if_pos h3] at hz2;subst hz2;exact call2_q R TI hxt h3 hh HN
   ·rw[if_neg h3] at hz2;subst hz2;exact call1_q R TI hxt ⟨by omega,hi10⟩ hh HN
  clear EQ HN k1 k2 t0 t1 s0 s1 s2 hn hA1 hA2 hA3 hA4 hc hi hz2 q0 q1 q2 q3 qf hxt;obtain⟨y00,y01,y02,y03,y0f⟩:=Blk.cells4 (o:=fun _=>0) (i:=0) ⟨TB_10,rfl⟩;have c11:=CC.out _ h10;go_wp2_with fail;refine c11.mono ?_;rintro e w11 ⟨x11,ao11,cap11,st11,rfl,S11,h11,k11,Q11⟩;have HX:=HC.out _ _ Q11;clear c11 Q11 h10 y00 y01 y02 y03 y0f;have S11a:=S11.low (show (w.heap.size+1)<=_ from (by have:=lt_of_block Z10;omega));clear S11;have Z11:=k11.blk Z10 (by have:=K10.size;omega);have K11:=K10.trans k11;have TB_11:=k11.blk TB_10 (by omega);clear K10 Z10 TB_10;have KE:=K11.set5 (b:=w.heap.size) (by omega) (.int .i64 x11.k) (.int .i64 x11.n) (stv x11.nm) (.slice ao11 x11.kids.len cap11) (.int .i64 x11.a);have RE:=h11.set5 (b:=w.heap.size) (by omega) (.int .i64 x11.k) (.int .i64 x11.n) (stv x11.nm) (.slice ao11 x11.kids.len cap11) (.int .i64 x11.a);have ZE:=set5k (.int .i64 x11.k) (.int .i64 x11.n) (stv x11.nm) (.slice ao11 x11.kids.len cap11) (.int .i64 x11.a) Z11;have SE:Sl _ (Nw w.heap.size) _ _:=(S11a.set5 (b:=w.heap.size) (by omega) (.int .i64 x11.k) (.int .i64 x11.n) (stv x11.nm) (.slice ao11 x11.kids.len cap11) (.int .i64 x11.a)).low (by omega);obtain⟨z0,z1,z2,z3,z4,zf⟩:=box5 Z11;obtain⟨u0,u1,u2,u3,u4,-⟩:=box5 ZE;have FIN:=HX;clear ZE K11 Z11 h11 TB_11 S11a;rw[exV_out];go_wp2;exact bodyPost_ret (v:=exV x11 ao11 cap11) (by simp[results,Tryz.results105,go_sem,u0,u1,u2,u3,u4,exV]) rfl ⟨_,_,_,_,rfl,SE,RE,KE,FIN⟩
 | none =>
 obtain rfl:A1=-1:=hA1.symm.trans (call_none hc);cases hc2:quantAt x.t with
 | some z =>
  obtain⟨i,hi,hi10,hz1,hxt⟩:=quant_some (r:=r) hc2;obtain⟨z0,zn⟩:=z;simp only at hz1;subst hz1;obtain rfl:A2=(i:Nat):=hA2.symm.trans hi;have hi0:(0:Int)<=(i:Int):=by omega
  have EQ:∀ ts,(.inr (x::r):Sq)=.inr ts->atomR rec m o q ts=quantR rec m x.t (i+1) o q ts:=fun ts hs=>by
   cases hs;simp only[atomR,k1,k2,t0,t1,s0,s1,s2,hc,hc2,if_false]
  have HN:=hn.congr EQ;have HC:Hid (∀ X st',Qd (quantR rec m x.t (i+1) o q) (.inr (x::r)) X st'->Qd (atomR rec m o q) (.inr (x::r)) X st'):=fun X st' q=>q.congr fun ts hs=>(EQ ts hs).symm;have CC:Hid (∀ wx,QS wx rb all o q (.inr (x::r))->Calls Tryz.prog 164 #[.pointer (some ⟨rb,0,none⟩),.int .i64 (i:Nat),.int .i64 (x.a:Nat)] wx (PostQ rb all o q wx (.inr (x::r)) (quantR rec m x.t (i+1) o q))):=fun wx hh=>quant_q R RS TI hxt hi10 hh HN;clear EQ HN k1 k2 t0 t1 s0 s1 s2 hn hA1 hA2 hA3 hA4 hc hc2 hi q0 q1 q2 q3 qf hxt;obtain⟨y00,y01,y02,y03,y0f⟩:=Blk.cells4 (o:=fun _=>0) (i:=0) ⟨TB_10,rfl⟩;have c11:=CC.out _ h10;go_wp2_with fail;refine c11.mono ?_;rintro e w11 ⟨x11,ao11,cap11,st11,rfl,S11,h11,k11,Q11⟩;have HX:=HC.out _ _ Q11;clear c11 Q11 h10 y00 y01 y02 y03 y0f;have S11a:=S11.low (show (w.heap.size+1)<=_ from (by have:=lt_of_block Z10;omega));clear S11;have Z11:=k11.blk Z10 (by have:=K10.size;omega);have K11:=K10.trans k11;have TB_11:=k11.blk TB_10 (by omega);clear K10 Z10 TB_10;have KE:=K11.set5 (b:=w.heap.size) (by omega) (.int .i64 x11.k) (.int .i64 x11.n) (stv x11.nm) (.slice ao11 x11.kids.len cap11) (.int .i64 x11.a);have RE:=h11.set5 (b:=w.heap.size) (by omega) (.int .i64 x11.k) (.int .i64 x11.n) (stv x11.nm) (.slice ao11 x11.kids.len cap11) (.int .i64 x11.a);have ZE:=set5k (.int .i64 x11.k) (.int .i64 x11.n) (stv x11.nm) (.slice ao11 x11.kids.len cap11) (.int .i64 x11.a) Z11;have SE:Sl _ (Nw w.heap.size) _ _:=(S11a.set5 (b:=w.heap.size) (by omega) (.int .i64 x11.k) (.int .i64 x11.n) (stv x11.nm) (.slice ao11 x11.kids.len cap11) (.int .i64 x11.a)).low (by omega);obtain⟨z0,z1,z2,z3,z4,zf⟩:=box5 Z11;obtain⟨u0,u1,u2,u3,u4,-⟩:=box5 ZE;have FIN:=HX;clear ZE K11 Z11 h11 TB_11 S11a;rw[exV_out];go_wp2;exact bodyPost_ret (v:=exV x11 ao11 cap11) (by simp[results,Tryz.results105,go_sem,u0,u1,u2,u3,u4,exV]) rfl ⟨_,_,_,_,rfl,SE,RE,KE,FIN⟩
 | none =>
 obtain rfl:A2=-1:=hA2.symm.trans (quant_none hc2);have HE:Qd (atomR rec m o q) (.inr (x::r)) noEx (.inl (120,x.a)):=qd_bad noEx (by simp only[atomR,k1,k2,t0,t1,s0,s1,s2,hc,hc2,if_false]);clear k1 k2 t0 t1 s0 s1 s2 hn hA1 hA2 hA3 hA4 hc hc2 q0 q1 q2 q3 qf;have c11:Calls Tryz.prog 29 #[.pointer (some ⟨rb,0,none⟩),.int .i64 120] w10 fun r' w'=>r'=.returned (.tuple #[])/\QS w' rb all o q (.inl (120,x.a))/\Keep rb w10 w':=fail_s 120 (by decide) h10;obtain⟨y00,y01,y02,y03,y0f⟩:=Blk.cells4 (o:=fun _=>0) (i:=0) ⟨TB_10,rfl⟩;go_wp2_with fail;refine c11.mono ?_;rintro e w11 ⟨rfl,h11,k11⟩;clear c11 h10 TB_10 y00 y01 y02 y03 y0f;have Z11:=k11.blk Z10 (by have:=K10.size;omega);have K11:=K10.trans k11;clear K10 Z10;have KE:=K11.set5 (b:=w.heap.size) (by omega) (.int .i64 0) (.int .i64 0) (stv []) (.slice none 0 0) (.int .i64 0);have RE:=h11.set5 (b:=w.heap.size) (by omega) (.int .i64 0) (.int .i64 0) (stv []) (.slice none 0 0) (.int .i64 0);have ZE:=set5k (.int .i64 0) (.int .i64 0) (stv []) (.slice none 0 0) (.int .i64 0) Z11;obtain⟨z0,z1,z2,z3,z4,zf⟩:=box5 Z11;obtain⟨u0,u1,u2,u3,u4,-⟩:=box5 ZE;have FIN:=HE;clear ZE K11 Z11 h11;go_wp2;exact bodyPost_ret (v:=exV noEx none 0) (by simp[results,Tryz.results105,go_sem,u0,u1,u2,u3,u4,exV,noEx,Fs.len]) rfl ⟨_,_,_,_,rfl,Sl.nil _ _ _,RE,KE,FIN⟩
theorem part_row {n row o q:Nat}(hr:row=1\/row=2\/row=4\/row=5\/row=6):partF (n+1) row o q=fun ts=>(partF n (row+1) o q ts).bind fun l t=>chainL (partF n) n row o q l t:=by
 funext ts;rcases hr with rfl|rfl|rfl|rfl|rfl<;>rfl
theorem rec_all:∀ n,n<=1000000->RecQ (partF n)/\AtmQ (partF n)
 | 0,_=>⟨fun w rb all row o q st TI h1 h7 h hn=>by
   match st,h,hn with
   | .inl (er,a),h,hn=>exact row_bad _ h
   | .inr ts,h,hn=>exact absurd rfl (hn ts rfl),fun w rb all o q x r TI h hn=>absurd rfl (hn _ rfl)⟩
 | n+1,hm=>by
  obtain⟨R,RA⟩:=rec_all n (by omega);refine⟨fun w rb all row o q st TI h1 h7 h hn=>?_,fun w rb all o q x r TI h hn=>?_⟩
  ·match st,h,hn with
   | .inl (er,a),h,hn=>exact row_bad _ h
   | .inr [],h,hn=>exact absurd rfl (h.nn [] rfl)
   | .inr (x::r),h,hn =>
    by_cases h3:row=3
    ·subst h3;exact row_3 R TI h hn
    ·by_cases h7':row=7
     ·subst h7';exact row_7 R RA TI h hn
     ·have hr:row=1\/row=2\/row=4\/row=5\/row=6:=by omega
      rw[part_row hr] at hn ⊢;exact row_c R hr TI h hn
  ·exact atom_q R (set_q R (by omega)) TI h hn
def TokW (x:Tk):Prop:=(x.k=0/\x.t=[])\/(x.k=1/\x.t=[])\/(x.k=2/\nameB x.t=true)\/(x.k=3/\wordB x.t=true)\/(x.k=4/\x.t≠[])
theorem ptok_w {k:Nat}{t:List UInt8}{a:Nat}{x:Tk}(h:ptok k t a=.inr x)(ht:t≠[]):TokW x:=by
 unfold ptok at h;split at h
 ·unfold wrdT at h;split at h
  ·rename_i hw
   injection h with h
   subst h;exact .inr (.inr (.inr (.inl ⟨rfl,hw⟩)))
  ·split at h
   ·rename_i hn
    injection h with h
    subst h;exact .inr (.inr (.inl ⟨rfl,hn⟩))
   ·cases h
 ·unfold numT at h;split at h
  ·split at h
   ·cases h
   ·injection h with h
    subst h;exact .inr (.inl ⟨rfl,rfl⟩)
  ·cases h
 ·unfold sgnT at h;split at h
  ·cases h
  ·injection h with h
   subst h;exact .inr (.inr (.inr (.inr ⟨rfl,ht⟩)))
 ·cases h
theorem lex_w (k:Nat)(t:List UInt8)(a p:Nat)(l:List UInt8)(ts:List Tk)(h:lexL k t a p l=.inr ts)(ht:k=0\/t≠[]):∀ x,x ∈ ts->TokW x:=by
 induction l generalizing k t a p ts with
 | nil =>
  intro x hx;unfold lexL at h;rcases shut_inr h with ⟨_,h2⟩|⟨hk,y,us,hp,h2,rfl⟩
  ·unfold endR at h2;injection h2 with h2
   subst h2;simp at hx;subst hx;exact .inl ⟨rfl,rfl⟩
  ·unfold endR at h2;injection h2 with h2
   subst h2;simp at hx;rcases hx with rfl|rfl
   ·exact ptok_w hp (by rcases ht with h|h;exact absurd h hk;exact h)
   ·exact .inl ⟨rfl,rfl⟩
 | cons c r ih =>
  unfold lexL at h;split at h
  ·exact ih _ _ _ _ _ h (by rcases ht with h|h;exact .inl h;exact .inr (by simp))
  ·rcases shut_inr h with ⟨_,h2⟩|⟨hk,y,us,hp,h2,rfl⟩
   ·exact ih _ _ _ _ _ h2 (.inr (by simp))
   ·intro x hx;rcases List.mem_cons.1 hx with rfl|hx
    ·exact ptok_w hp (by rcases ht with h|h;exact absurd h hk;exact h)
    ·exact ih _ _ _ _ _ h2 (.inr (by simp)) x hx
theorem scan_w {l:List UInt8}{ts:List Tk}(h:scanA l=.inr ts):∀ x,x ∈ ts->TokW x:=lex_w _ _ _ _ _ _ (scan_ok h).2.1 (.inl rfl)
theorem TokW.is {x:Tk}(h:TokW x){s:List UInt8}(hs:s≠[])(hn:nameB s=false):((x.k==3||x.k==4)&&x.t==s)=(x.t==s):=by
 by_cases e:x.t=s
 ·have h2:x.k=3\/x.k=4:=by
   rcases h with ⟨_,h⟩|⟨_,h⟩|⟨_,h⟩|⟨h,_⟩|⟨h,_⟩
   ·rw[h] at e;exact absurd e.symm hs
   ·rw[h] at e;exact absurd e.symm hs
   ·rw[e,hn] at h;cases h
   ·exact .inl h
   ·exact .inr h
  rcases h2 with h2|h2<;>simp[h2,e]
 ·simp[e]
theorem cut_list (s:ByteArray)(q:Nat):(s.extract 0 q).data.toList=s.data.toList.take q:=by
 rw[ext_list];simp
def Pce (k:Nat)(u:List UInt8):Prop:=k≠0/\∃c r,u=c::r/\cls c.toNat=k/\∀ j (h:j<r.length),tks k (c::r.take j) (r[j]).toNat=true
theorem cls_blank {r:Nat}:cls r=0 ↔ blk r=true:=by
 unfold cls;constructor
 ·intro h;by_cases hb:blk r=true
  ·exact hb
  ·rw[if_neg hb] at h
   repeat' split at h
   all_goals omega
 ·intro h;rw[if_pos h]
theorem Pce.one (c:UInt8)(h:cls c.toNat≠0):Pce (cls c.toNat) [c]:=⟨h,c,[],rfl,rfl,fun j h=>by simp at h⟩
theorem Pce.more {k:Nat}{u:List UInt8}(h:Pce k u)(c:UInt8)(ht:tks k u c.toNat=true):Pce k (u++[c]):=by
 obtain⟨h0,d,r,rfl,h1,h2⟩:=h;refine⟨h0,d,r++[c],rfl,h1,fun j hj=>?_⟩;by_cases e:j<r.length
 ·rw[List.getElem_append_left e,List.take_append_of_le_length (by omega)];exact h2 j e
 ·have e2:j=r.length:=by simp at hj;omega
  subst e2;rw[List.getElem_append_right (by omega)];simp only[Nat.sub_self,List.getElem_singleton];rw[List.take_append_of_le_length (by omega),List.take_length];exact ht
theorem mk_size (l:List UInt8):(⟨l.toArray⟩:ByteArray).size=l.length:=by show l.toArray.size=_;simp
theorem Pce.reads {k:Nat}{u:List UInt8}(h:Pce k u)(q:Nat)(m:List UInt8)(hm:∀ c r,m=c::r->tks k u c.toNat=false):lexL 0 [] q q (u++m)=shutP k u q (lexL 0 [] (q+u.length) (q+u.length) m):=by
 obtain⟨h0,d,r,rfl,h1,h2⟩:=h;have hb:blk d.toNat=false:=by
  rw[<-Bool.not_eq_true,<-cls_blank,h1];exact h0
 rw[List.cons_append,lexL_no (k:=0) (by exact hb),h1];show lexL k [d] q (q+1) (r++m)=_;rw[lexL_end k [d] q (q+1) r m (fun j h=>h2 j h) (fun c' r' e=>hm c' r' e)];have e1:q+1+r.length=q+(d::r).length:=by simp;omega
 rw[e1];rfl
theorem tks_plain {k:Nat}(h:k=1\/k=2)(t t':List UInt8)(c:Nat):tks k t c=tks k t' c:=by
 rcases h with rfl|rfl<;>rfl
theorem tks_sgn (t:List UInt8)(r:Nat):tks 3 t r=(r==61&&(t==[33]||t==[60])):=rfl
theorem seg_piece (l:List UInt8)(k at0 e:Nat)(hk:k=1\/k=2)(h0:at0<e)(h1:e<=l.length)(hc:cls (l[at0]'(by omega)).toNat=k)(hin:∀ j (h:j<l.length),at0<=j->j<e->tks k [] (l[j]).toNat=true) :
  Pce k ((l.drop at0).take (e-at0)):=by
 have e1:e-at0=(e-(at0+1))+1:=by omega
 refine⟨by omega,l[at0]'(by omega),(l.drop (at0+1)).take (e-(at0+1)),?_,hc,fun j hj=>?_⟩
 ·rw[drop_at l at0 (by omega),e1,List.take_succ_cons]
 ·rw[tks_plain hk _ []];have hj':j<e-(at0+1):=by simp at hj;omega
  rw[List.getElem_take,List.getElem_drop];exact hin _ _ (by omega) (by omega)
theorem seg_len (l:List UInt8)(at0 e:Nat)(h0:at0<e)(h1:e<=l.length):((l.drop at0).take (e-at0)).length=e-at0:=by
 simp;omega
theorem seg_read (l:List UInt8)(k at0 e:Nat)(hk:k=1\/k=2)(h0:at0<e)(h1:e<=l.length)(hc:cls (l[at0]'(by omega)).toNat=k)(hin:∀ j (h:j<l.length),at0<=j->j<e->tks k [] (l[j]).toNat=true)
  (hend:∀ h:e<l.length,tks k [] (l[e]).toNat=false):lexL 0 [] at0 at0 (l.drop at0)=shutP k ((l.drop at0).take (e-at0)) at0 (lexL 0 [] e e (l.drop e)):=by
 have hP:=seg_piece l k at0 e hk h0 h1 hc hin;have hs:l.drop at0=(l.drop at0).take (e-at0)++l.drop e:=by
  have h2:=(List.take_append_drop (e-at0) (l.drop at0)).symm;rw[List.drop_drop] at h2;have e2:at0+(e-at0)=e:=by omega
  rw[e2] at h2;exact h2
 have hr:=hP.reads at0 (l.drop e) (fun c r hcr=>by
  have hlt:e<l.length:=by
   by_cases hlt:e<l.length
   ·exact hlt
   ·rw[List.drop_eq_nil_of_le (by omega)] at hcr;cases hcr
  rw[drop_at l e hlt] at hcr;injection hcr with h2 h3
  rw[<-h2,tks_plain hk _ []];exact hend hlt)
 rw[<-hs] at hr;rw[hr,seg_len l at0 e h0 h1];have e3:at0+(e-at0)=e:=by omega
 rw[e3]
def dstep (a:Nat)(c:UInt8):Nat:=a*10+(c.toNat-48)
def dval (acc:Nat)(l:List UInt8):Nat:=l.foldl dstep acc
theorem dval_cons (acc:Nat)(c:UInt8)(r:List UInt8):dval acc (c::r)=dval (acc*10+(c.toNat-48)) r:=by
 unfold dval;rw[List.foldl_cons];rfl
theorem dval_nil (acc:Nat):dval acc []=acc:=by
 unfold dval;rw[List.foldl_nil]
def Digs (l:List UInt8):Prop:=∀ c,c ∈ l->48<=c.toNat/\c.toNat<=57
theorem dval_ge (acc:Nat)(l:List UInt8):acc*10 ^ l.length<=dval acc l:=by
 induction l generalizing acc with
 | nil =>
  rw[List.length_nil,Nat.pow_zero,Nat.mul_one,dval_nil];exact Nat.le_refl _
 | cons c r ih =>
  rw[dval_cons,List.length_cons];refine Nat.le_trans ?_ (ih _);rw[Nat.pow_succ,Nat.mul_comm (10 ^ r.length) 10,<-Nat.mul_assoc];exact Nat.mul_le_mul_right _ (by omega)
theorem dval_mono (acc:Nat)(l:List UInt8):acc<=dval acc l:=by
 induction l generalizing acc with
 | nil =>
  rw[dval_nil];exact Nat.le_refl _
 | cons c r ih =>
  rw[dval_cons];exact Nat.le_trans (by omega) (ih _)
theorem dval_append (acc:Nat)(l m:List UInt8):dval acc (l++m)=dval (dval acc l) m:=by
 unfold dval;rw[List.foldl_append]
theorem parse_ok (acc:Nat)(l:List UInt8)(hl:Digs l)(h:dval acc l<18446744073709551616):Lib.parseUint10 acc l=.ok (dval acc l):=by
 induction l generalizing acc with
 | nil =>
  rw[dval_nil];rfl
 | cons c r ih =>
  have hc:=hl c (by simp);rw[dval_cons] at h ⊢;have hm:=dval_mono (acc*10+(c.toNat-48)) r;simp only[Lib.parseUint10];rw[if_pos hc,if_neg (by omega),if_neg (by omega)];exact ih _ (fun d hd=>hl d (by simp[hd])) h
theorem parse_val (acc:Nat)(l:List UInt8)(hl:Digs l)(u:Nat)(h:Lib.parseUint10 acc l=.ok u):u=dval acc l:=by
 induction l generalizing acc with
 | nil =>
  simp only[Lib.parseUint10] at h;injection h with h
  rw[dval_nil];exact h.symm
 | cons c r ih =>
  have hc:=hl c (by simp);rw[dval_cons];simp only[Lib.parseUint10] at h;rw[if_pos hc] at h;split at h
  ·cases h
  ·split at h
   ·cases h
   ·exact ih _ (fun d hd=>hl d (by simp[hd])) h
theorem atoi_digs {l:List UInt8}(hl:Digs l)(h0:l≠[]):(dval 0 l<9223372036854775808->Lib.atoiAll l=.ok (dval 0 l:Nat))/\(9223372036854775808<=dval 0 l->∀ v,Lib.atoiAll l≠.ok v):=by
 cases l with
 | nil=>exact absurd rfl h0
 | cons c r =>
  have hc:=hl c (by simp);have hne:¬(c.toNat=43\/c.toNat=45):=by omega
  have hm:Lib.parseMag (c::r)=Lib.parseUint10 0 (c::r):=by
   unfold Lib.parseMag;rw[if_neg (by simp)]
  constructor
  ·intro h;have hp:=parse_ok 0 (c::r) hl (by omega);unfold Lib.atoiAll;simp only;rw[if_neg hne,hm,hp];simp only;rw[if_neg (by omega),if_neg (by omega),if_neg (by omega)]
  ·intro h v hv;unfold Lib.atoiAll at hv;simp only at hv;rw[if_neg hne,hm] at hv;cases hp:Lib.parseUint10 0 (c::r) with
   | ok u =>
    rw[hp] at hv;simp only at hv;have hu:=parse_val 0 (c::r) hl u hp;rw[if_pos (by omega)] at hv;cases hv
   | _=>rw[hp] at hv;cases hv
theorem numT_no {l:List UInt8}(h:∀ v,Lib.atoiAll l≠.ok v)(a:Nat):numT l a=.inl 111:=by
 unfold numT;split
 ·rename_i v hv
  exact absurd hv (h v)
 ·rfl
theorem numT_lead {l:List UInt8}(h1:l.head?=some 48)(h2:1<l.length)(a:Nat):numT l a=.inl 111:=by
 unfold numT;have hne:l≠[48]:=fun e=>by rw[e] at h2;simp at h2
 split
 ·rw[if_pos ⟨h1,hne⟩]
 ·rfl
theorem numT_yes {l:List UInt8}(hl:Digs l)(h0:l≠[])(h1:l.head?≠some 48\/l.length<=1)(h2:dval 0 l<9223372036854775808)(a:Nat):numT l a=.inr ⟨1,(dval 0 l:Nat),[],a⟩:=by
 unfold numT;rw[(atoi_digs hl h0).1 h2];simp only;rw[if_neg];rintro ⟨h3,h4⟩;rcases h1 with h1|h1
 ·exact h1 h3
 ·apply h4;cases l with
  | nil=>exact absurd rfl h0
  | cons c r =>
   simp at h1 h3;rw[h1,h3]
theorem numT_long {l:List UInt8}(hl:Digs l)(h:19<l.length)(a:Nat):numT l a=.inl 111:=by
 cases l with
 | nil=>simp at h
 | cons c r =>
  by_cases hc:c=48
  ·exact numT_lead (by rw[hc];rfl) (by omega) a
  ·refine numT_no ((atoi_digs hl (by simp)).2 ?_) a;have h1:=hl c (by simp);have h2:1<=c.toNat-48:=by
    by_cases e:c.toNat=48
    ·exact absurd (UInt8.toNat.inj e) hc
    ·omega
   have h3:=dval_ge (0*10+(c.toNat-48)) r;rw[dval_cons];have h4:10 ^ 19<=10 ^ r.length:=Nat.pow_le_pow_right (by omega) (by simp at h;omega);have h5:1*10 ^ r.length<=(0*10+(c.toNat-48))*10 ^ r.length:=Nat.mul_le_mul_right _ (by omega);have h6:(10:Nat) ^ 19=10000000000000000000:=by decide
   omega
def EndAt (l:List UInt8)(k at0 e:Nat):Prop:=at0<e/\e<=l.length/\(∀ j (h:j<l.length),at0<=j->j<e->tks k [] (l[j]).toNat=true)/\(∀ h:e<l.length,tks k [] (l[e]).toNat=false)
theorem ends_2 (s:ByteArray)(at0:Nat)(w:World)(hat:at0<s.size)(hs:s.size<=2000)(hd:dig (s[at0]).toNat=true) :
  Calls Tryz.prog 96 #[.string s,.int .i64 (at0:Nat)] w fun e w'=>∃e0:Nat,e=.returned (.int .i64 (e0:Nat))/\EndAt s.data.toList 2 at0 e0/\w'=w:=by
 have HL:Hid (s.data.toList.length=s.size):=data_len s;have hb0:(s[at0]'hat).toNat<256:=UInt8.toNat_lt _;have hatI:(at0:Int)<(s.size:Int):=by omega
 have HD:=Lib.hid hd;go_enter Tryz.func96,Tryz.ntmps96;go_wp2_with (go_at_call 95;refine(dig_r _ _ hb0).mono ?_;rw[hd];rintro e w1 ⟨rfl,rfl⟩);clear hd;go_loopw [1] (fun v wr=>∃k:Nat,v=.int .i64 (k:Nat)/\at0<=k/\k<=s.size/\(∀ j (h:j<s.data.toList.length),at0<=j->j<k->dig (s.data.toList[j]).toNat=true)/\wr=w1) (fun v _=>s.size-(intOf v).toNat)
 case atStart=>exact⟨at0,by go_num,by omega,by omega,fun j _ h1 h2=>by omega,rfl⟩
 case round =>
  obtain⟨k,rfl,h1,h2,hin,rfl⟩:=hrel;by_cases hlt:k<s.size
  ·have hkl:k<s.data.toList.length:=by have:=HL.out;omega
   have hkI:(k:Int)<(s.size:Int):=by omega
   have hbk:(s[k]'hlt).toNat<256:=UInt8.toNat_lt _;have hge:=data_get s k hlt hkl;cases h3:dig (s[k]'hlt).toNat
   ·have fin:EndAt s.data.toList 2 at0 k:=by
     refine⟨?_,by omega,hin,fun h=>?_⟩
     ·by_cases e:at0=k
      ·subst e;rw[HD.out] at h3;cases h3
      ·omega
     ·show dig _=false;rw[hge];exact h3
    have HF:=Lib.hid fin;clear fin hin hge;go_wp2_with (go_at_call 95;refine(dig_r _ _ hbk).mono ?_;rw[h3];rintro e w1 ⟨rfl,rfl⟩);go_ret;exact⟨k,rfl,HF.out,rfl⟩
   ·have RL:∀ j (h:j<s.data.toList.length),at0<=j->j<k+1->dig (s.data.toList[j]).toNat=true:=fun j h h4 h5=>by
     by_cases e:j=k
     ·subst e;rw[hge];exact h3
     ·exact hin j h h4 (by omega)
    clear hin hge;go_wp2_with (go_at_call 95;refine(dig_r _ _ hbk).mono ?_;rw[h3];rintro e w1 ⟨rfl,rfl⟩);go_roundw
    case rel=>(try ((repeat apply Exists.intro);refine⟨?_,rfl⟩));exact⟨k+1,by go_num,by omega,by omega,RL,by trivial⟩
    case measure=>simp[intOf];omega
  ·have hkI:¬(k:Int)<(s.size:Int):=by omega
   have HF:Hid (EndAt s.data.toList 2 at0 k):=⟨by omega,by have:=HL.out;omega,hin,fun h=>by have:=HL.out;omega⟩
   clear hin;go_wp2;go_ret;exact⟨k,rfl,HF.out,rfl⟩
theorem ltr_grt (r:Nat):ltr r=(sml r||grt r):=rfl
theorem ends_1 (s:ByteArray)(at0:Nat)(w:World)(hat:at0<s.size)(hs:s.size<=2000)(hd:dig (s[at0]).toNat=false)(hl:ltr (s[at0]).toNat=true) :
  Calls Tryz.prog 96 #[.string s,.int .i64 (at0:Nat)] w fun e w'=>∃e0:Nat,e=.returned (.int .i64 (e0:Nat))/\EndAt s.data.toList 1 at0 e0/\w'=w:=by
 have HL:Hid (s.data.toList.length=s.size):=data_len s;have hb0:(s[at0]'hat).toNat<256:=UInt8.toNat_lt _;have hatI:(at0:Int)<(s.size:Int):=by omega
 have HD:=Lib.hid hl;go_enter Tryz.func96,Tryz.ntmps96;go_wp2_with (go_at_call 95;refine(dig_r _ _ hb0).mono ?_;rw[hd];rintro e w1 ⟨rfl,rfl⟩);clear hd hl;go_loopw [1] (fun v wr=>∃k:Nat,v=.int .i64 (k:Nat)/\at0<=k/\k<=s.size/\(∀ j (h:j<s.data.toList.length),at0<=j->j<k->tks 1 [] (s.data.toList[j]).toNat=true)/\wr=w1) (fun v _=>s.size-(intOf v).toNat)
 case atStart=>exact⟨at0,by go_num,by omega,by omega,fun j _ h1 h2=>by omega,rfl⟩
 case round =>
  obtain⟨k,rfl,h1,h2,hin,rfl⟩:=hrel;by_cases hlt:k<s.size
  ·have hkl:k<s.data.toList.length:=by have:=HL.out;omega
   have hkI:(k:Int)<(s.size:Int):=by omega
   have hbk:(s[k]'hlt).toNat<256:=UInt8.toNat_lt _;have hge:=data_get s k hlt hkl;have HG:Hid (tks 1 [] (s[k]'hlt).toNat=true->∀ j (h:j<s.data.toList.length),at0<=j->j<k+1->tks 1 [] (s.data.toList[j]).toNat=true):=fun h3 j h h4 h5=>by
    by_cases e:j=k
    ·subst e;rw[hge];exact h3
    ·exact hin j h h4 (by omega)
   have HE:Hid (tks 1 [] (s[k]'hlt).toNat=false->EndAt s.data.toList 1 at0 k):=fun h3=>by
    refine⟨?_,by omega,hin,fun h=>?_⟩
    ·by_cases e:at0=k
     ·subst e;have h4:=HD.out;simp[tks,h4] at h3
     ·omega
    ·rw[hge];exact h3
   clear hin hge;cases h3:sml (s[k]'hlt).toNat
   ·cases h4:grt (s[k]'hlt).toNat
    ·cases h5:dig (s[k]'hlt).toNat
     ·by_cases h6:(s[k]'hlt).toNat=95
      ·have RL:=HG.out (by simp[tks,h6]);have H6:=Lib.hid h6;clear HG HE h6;go_wp2_with (first|(go_at_call 98;refine(sml_r _ _ hbk).mono ?_;rw[h3];rintro e w1 ⟨rfl,rfl⟩)|(go_at_call 99;refine(grt_r _ _ hbk).mono ?_;rw[h4];rintro e w1 ⟨rfl,rfl⟩)|(go_at_call 95;refine(dig_r _ _ hbk).mono ?_;rw[h5];rintro e w1 ⟨rfl,rfl⟩;have h6:=H6.out;clear h3 h4 h5 hbk));go_roundw
       case rel=>(try ((repeat apply Exists.intro);refine⟨?_,rfl⟩));exact⟨k+1,by go_num,by omega,by omega,RL,by trivial⟩
       case measure=>simp[intOf];omega
      ·have fin:=HE.out (by simp[tks,ltr_grt,h3,h4,h5,h6]);have HF:=Lib.hid fin;have h6I:¬((s[k]'hlt).toNat:Int)=95:=by omega
       have h6B:(((s[k]'hlt).toNat:Int)==95)=false:=by simpa using h6I
       clear HG HE h6 fin;go_wp2_with (first|(go_at_call 98;refine(sml_r _ _ hbk).mono ?_;rw[h3];rintro e w1 ⟨rfl,rfl⟩)|(go_at_call 99;refine(grt_r _ _ hbk).mono ?_;rw[h4];rintro e w1 ⟨rfl,rfl⟩)|(go_at_call 95;refine(dig_r _ _ hbk).mono ?_;rw[h5];rintro e w1 ⟨rfl,rfl⟩));go_ret;exact⟨k,rfl,HF.out,rfl⟩
     ·have RL:=HG.out (by simp[tks,h5]);clear HG HE;go_wp2_with (first|(go_at_call 98;refine(sml_r _ _ hbk).mono ?_;rw[h3];rintro e w1 ⟨rfl,rfl⟩)|(go_at_call 99;refine(grt_r _ _ hbk).mono ?_;rw[h4];rintro e w1 ⟨rfl,rfl⟩)|(go_at_call 95;refine(dig_r _ _ hbk).mono ?_;rw[h5];rintro e w1 ⟨rfl,rfl⟩));go_roundw
      case rel=>(try ((repeat apply Exists.intro);refine⟨?_,rfl⟩));exact⟨k+1,by go_num,by omega,by omega,RL,by trivial⟩
      case measure=>simp[intOf];omega
    ·have RL:=HG.out (by simp[tks,ltr_grt,h4]);clear HG HE;go_wp2_with (first|(go_at_call 98;refine(sml_r _ _ hbk).mono ?_;rw[h3];rintro e w1 ⟨rfl,rfl⟩)|(go_at_call 99;refine(grt_r _ _ hbk).mono ?_;rw[h4];rintro e w1 ⟨rfl,rfl⟩));go_roundw
     case rel=>(try ((repeat apply Exists.intro);refine⟨?_,rfl⟩));exact⟨k+1,by go_num,by omega,by omega,RL,by trivial⟩
     case measure=>simp[intOf];omega
   ·have RL:=HG.out (by simp[tks,ltr_grt,h3]);clear HG HE;go_wp2_with (go_at_call 98;refine(sml_r _ _ hbk).mono ?_;rw[h3];rintro e w1 ⟨rfl,rfl⟩);go_roundw
    case rel=>(try ((repeat apply Exists.intro);refine⟨?_,rfl⟩));exact⟨k+1,by go_num,by omega,by omega,RL,by trivial⟩
    case measure=>simp[intOf];omega
  ·have hkI:¬(k:Int)<(s.size:Int):=by omega
   have HF:Hid (EndAt s.data.toList 1 at0 k):=⟨by omega,by have:=HL.out;omega,hin,fun h=>by have:=HL.out;omega⟩
   clear hin;go_wp2;go_ret;exact⟨k,rfl,HF.out,rfl⟩
def NumOut (l:List UInt8)(v:Int)(b:Bool):Prop:=(b=true/\∀ a,numT l a=.inr ⟨1,v,[],a⟩)\/(b=false/\v=0/\∀ a,numT l a=.inl 111)
def NumPost (l:List UInt8)(e:Ending):Prop:=∃v b,e=.returned (.tuple #[.int .i64 v,.bool b])/\NumOut l v b
theorem take_dval (l:List UInt8)(i:Nat)(h:i<l.length):dval 0 (l.take (i+1))=dval 0 (l.take i)*10+((l[i]).toNat-48):=by
 rw[List.take_add_one,List.getElem?_eq_getElem h];show dval 0 (l.take i++[l[i]])=_;rw[dval_append,dval_cons,dval_nil]
theorem take_dval_le (l:List UInt8)(i:Nat):dval 0 (l.take i)<=dval 0 l:=by
 have h:=List.take_append_drop i l;have h2:=dval_append 0 (l.take i) (l.drop i);rw[h] at h2;rw[h2];exact dval_mono _ _
theorem number_r (s:ByteArray)(w:World)(h0:0<s.size)(hs:s.size<=2000)(hD:Digs s.data.toList) :
  Calls Tryz.prog 97 #[.string s] w fun e w'=>NumPost s.data.toList e/\w'=w:=by
 have HL:Hid (s.data.toList.length=s.size):=data_len s;have hne:s.data.toList≠[]:=fun e=>by have:=HL.out;rw[e] at this;simp at this;omega
 have hh:=head_at s h0;by_cases h19:19<s.size
 ·have fin:NumOut s.data.toList 0 false:=.inr ⟨rfl,rfl,fun a=>numT_long hD (by rw[HL.out];exact h19) a⟩;have HF:=Lib.hid fin;have hI:(19:Int)<(s.size:Int):=by omega
  clear fin hh;go_enter Tryz.func97,Tryz.ntmps97;go_wp2;go_ret2;exact⟨⟨_,_,rfl,HF.out⟩,rfl⟩
 ·have hI:¬(19:Int)<(s.size:Int):=by omega
  have hb0:(s[0]'h0).toNat<256:=UInt8.toNat_lt _;by_cases hlead:1<s.size/\(s[0]'h0).toNat=48
  ·obtain⟨h1,h48⟩:=hlead;have h5:s[0]'h0=48:=UInt8.toNat.inj h48;have fin:NumOut s.data.toList 0 false:=.inr ⟨rfl,rfl,fun a=>numT_lead (by rw[hh,h5]) (by rw[HL.out];exact h1) a⟩;have HF:=Lib.hid fin;have h1I:(1:Int)<(s.size:Int):=by omega
   clear fin hh h5;go_enter Tryz.func97,Tryz.ntmps97;go_wp2;go_ret2;exact⟨⟨_,_,rfl,HF.out⟩,rfl⟩
  ·have HY:Hid (dval 0 s.data.toList<9223372036854775808->NumOut s.data.toList (dval 0 s.data.toList:Nat) true):=fun h=>by
    refine .inl ⟨rfl,fun a=>numT_yes hD hne ?_ h a⟩;by_cases h1:1<s.size
    ·left
     rw[hh];intro e;injection e with e
     exact hlead ⟨h1,by rw[e];rfl⟩
    ·right
     rw[HL.out];omega
   have HX:Hid (9223372036854775808<=dval 0 s.data.toList->NumOut s.data.toList 0 false):=fun h=>.inr ⟨rfl,rfl,fun a=>numT_no ((atoi_digs hD hne).2 h) a⟩;have HDD:=Lib.hid hD;by_cases h1:1<s.size
   ·have h1I:(1:Int)<(s.size:Int):=by omega
    have h48I:¬((s[0]'h0).toNat:Int)=48:=by
     intro e;exact hlead ⟨h1,by omega⟩
    have h48B:(((s[0]'h0).toNat:Int)==48)=false:=by simpa using h48I
    clear hlead hh;go_enter Tryz.func97,Tryz.ntmps97;go_wp2;go_loopw [4,5] (fun v4 v5 wr=>∃k n:Nat,v5=.int .i64 (k:Nat)/\v4=.int .i64 (n:Nat)/\k<=s.size/\n=dval 0 (s.data.toList.take k)/\n<9223372036854775808/\wr=w) (fun _ v _=>s.size-(intOf v).toNat)
    case atStart=>exact⟨0,0,by go_num,by go_num,by omega,by rw[List.take_zero,dval_nil],by omega,rfl⟩
    case round =>
     obtain⟨k,n,rfl,rfl,hk,hn,hnb,rfl⟩:=hrel;have HN:=Lib.hid hn;clear hn;by_cases hlt:k<s.size
     ·have hkl:k<s.data.toList.length:=by rw[HL.out];exact hlt
      have hkI:(k:Int)<(s.size:Int):=by omega
      have hdg:=HDD.out (s.data.toList[k]'hkl) (List.getElem_mem _);have htd:=take_dval s.data.toList k hkl;rw[data_get s k hlt hkl] at hdg htd;have hle:=take_dval_le s.data.toList (k+1);obtain⟨d,hd⟩:∃d,d=(s[k]'hlt).toNat-48:=⟨_,rfl⟩
      have hd9:d<=9:=by omega
      have hdI:((s[k]'hlt).toNat:Int)-48=(d:Int):=by omega
      rw[<-hd,<-HN.out] at htd;obtain⟨q,hq⟩:∃q,q=(9223372036854775807-d) / 10:=⟨_,rfl⟩
      have hqI:(9223372036854775807-(d:Int)).tdiv 10=(q:Int):=by
       rw[Int.tdiv_eq_ediv_of_nonneg (by omega)];omega
      have hwq:IntKind.i64.wrap (q:Int)=(q:Int):=by rw[IntKind.wrap_i64];omega
      by_cases hov:q<n
      ·have hovI:(q:Int)<(n:Int):=by omega
       have fin:=HX.out (by omega);have HF:=Lib.hid fin;clear fin htd hle hd hq hdg;go_wp2;go_ret2;exact⟨⟨_,_,rfl,HF.out⟩,rfl⟩
      ·have hovI:¬(q:Int)<(n:Int):=by omega
       have hnn:10*n+d<9223372036854775808:=by omega
       have HT:=Lib.hid htd;clear htd hle hd hq hdg;go_wp2;go_roundw
       case rel=>(try ((repeat apply Exists.intro);refine⟨?_,rfl⟩));exact⟨k+1,10*n+d,by go_num,by go_num,by omega,by rw[HT.out];omega,hnn,by trivial⟩
       case measure=>simp[intOf];omega
     ·obtain rfl:k=s.size:=by omega
      have hn2:=HN.out;rw[List.take_of_length_le (by rw[HL.out];exact Nat.le_refl _)] at hn2;have fin:=HY.out (by omega);rw[<-hn2] at fin;have HF:=Lib.hid fin;clear fin hn2;go_wp2;go_ret2;exact⟨⟨_,_,rfl,HF.out⟩,rfl⟩
   ·have h1I:¬(1:Int)<(s.size:Int):=by omega
    clear hlead hh;go_enter Tryz.func97,Tryz.ntmps97;go_wp2;go_loopw [4,5] (fun v4 v5 wr=>∃k n:Nat,v5=.int .i64 (k:Nat)/\v4=.int .i64 (n:Nat)/\k<=s.size/\n=dval 0 (s.data.toList.take k)/\n<9223372036854775808/\wr=w) (fun _ v _=>s.size-(intOf v).toNat)
    case atStart=>exact⟨0,0,by go_num,by go_num,by omega,by rw[List.take_zero,dval_nil],by omega,rfl⟩
    case round =>
     obtain⟨k,n,rfl,rfl,hk,hn,hnb,rfl⟩:=hrel;have HN:=Lib.hid hn;clear hn;by_cases hlt:k<s.size
     ·have hkl:k<s.data.toList.length:=by rw[HL.out];exact hlt
      have hkI:(k:Int)<(s.size:Int):=by omega
      have hdg:=HDD.out (s.data.toList[k]'hkl) (List.getElem_mem _);have htd:=take_dval s.data.toList k hkl;rw[data_get s k hlt hkl] at hdg htd;have hle:=take_dval_le s.data.toList (k+1);obtain⟨d,hd⟩:∃d,d=(s[k]'hlt).toNat-48:=⟨_,rfl⟩
      have hd9:d<=9:=by omega
      have hdI:((s[k]'hlt).toNat:Int)-48=(d:Int):=by omega
      rw[<-hd,<-HN.out] at htd;obtain⟨q,hq⟩:∃q,q=(9223372036854775807-d) / 10:=⟨_,rfl⟩
      have hqI:(9223372036854775807-(d:Int)).tdiv 10=(q:Int):=by
       rw[Int.tdiv_eq_ediv_of_nonneg (by omega)];omega
      have hwq:IntKind.i64.wrap (q:Int)=(q:Int):=by rw[IntKind.wrap_i64];omega
      by_cases hov:q<n
      ·have hovI:(q:Int)<(n:Int):=by omega
       have fin:=HX.out (by omega);have HF:=Lib.hid fin;clear fin htd hle hd hq hdg;go_wp2;go_ret2;exact⟨⟨_,_,rfl,HF.out⟩,rfl⟩
      ·have hovI:¬(q:Int)<(n:Int):=by omega
       have hnn:10*n+d<9223372036854775808:=by omega
       have HT:=Lib.hid htd;clear htd hle hd hq hdg;go_wp2;go_roundw
       case rel=>(try ((repeat apply Exists.intro);refine⟨?_,rfl⟩));exact⟨k+1,10*n+d,by go_num,by go_num,by omega,by rw[HT.out];omega,hnn,by trivial⟩
       case measure=>simp[intOf];omega
     ·obtain rfl:k=s.size:=by omega
      have hn2:=HN.out;rw[List.take_of_length_le (by rw[HL.out];exact Nat.le_refl _)] at hn2;have fin:=HY.out (by omega);rw[<-hn2] at fin;have HF:=Lib.hid fin;clear fin hn2;go_wp2;go_ret2;exact⟨⟨_,_,rfl,HF.out⟩,rfl⟩
end Go.Proofs.YtkhgahljbpmfaaaGreatDoor

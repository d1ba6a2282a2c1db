import Derived.Test.YtkhgahljbpmfaaaGreatDoorApp1
set_option maxRecDepth 100000
set_option maxHeartbeats 8000000
namespace Go.Proofs.YtkhgahljbpmfaaaGreatDoor
open Option renaming none->GE,some->GF,isSome_eq_false_iff->JM,isNone_iff_eq_none->JS
open Nat renaming le_refl->GG,lt_of_lt_of_le->GQ,le_trans->Hr,not_lt_zero->Hv,add_zero->Hw,le_succ->Hz,zero_add->Ib,le_of_lt->Iq,zero_mul->IF,one_mul->JK,ble_eq_true_of_le->Ke
open Go.Proofs.Tryz renaming prog->GH,ntmps226->Hq,func226->Ht,results88->Hx,ntmps227->If,func227->Il,ntmps245->Ip,func245->IA,underlying9->IR,underlying40->I7,underlying147->Jy,ntmps246->JV,func246->J5
open Go renaming World->GI,lt_of_block->GJ,bodyPost_ret->GK,heap_alloc_new->GL,Value->GN,heap_setCell_other->GT,Calls->GV,maxLen->G5,Addr->Ha,cell_of_row->Hj,TypeId->Hp,frozen_of_row->Io,Ending->IL,results_none->I3
open List renaming getElem?_eq_getElem->GM,length_append->Hb,length_cons->Hc,mem_of_find?_eq_some->Hm,replicate->Ho,getElem?_map->Ii,mem_of_getElem?->Iw,nil_append->IC,length_nil->IK,drop_eq_getElem_cons->IQ,cons_append->IU,append_assoc->Jp,map_append->JZ
open Go.RowKit renaming Below->GO,intOf->Hl,wrap64->Hs
open Go.Lib renaming hid->GP,itoa->II,formatBool->Kc
open Go.RowKit.Below renaming refl->GR,heap_alloc->GS
open Bool renaming and_eq_true->He,not_eq_true->IP,or_eq_true->I0,true_and->Jq
open Go.Value renaming int->GX
open Exists renaming intro->G9
open UInt8 renaming toNat_lt->IB
open Go.Addr renaming add->Je
open Ne renaming symm->Js
open Go.Exit renaming inBlock->Jx
open Go.ChangeShapes Go.WideShapes Go.ChangeAt Go.RowKit
set_option linter.unusedVariables false
set_option linter.unusedSimpArgs false
def uk (N:Nat):Prop:=∀ (e:Ex) (ao:Option Ha) (cap:Nat) (a:List (List UInt8)) (bv:GN) (w:GI),e.kids.size<N->e.kids.len<=1000000000->e.kids.short->a.length+e.kids.size<=1000000->Nms w bv a->SlA w e.kids ao ->
 GV GH 45 #[exV e ao cap,bv] w (Ap w (ofE e a))
theorem Nms.news {w:GI}{ao:Option Ha}{cap:Nat}{b:List (List UInt8)}(h:Nms w (.slice ao b.length cap) b):0<b.length->∃i,ao=GF i/\∀ j u,(b.map λx=>stv x)[j]?=GF u->w.cell? (i.add j)=GF u:=by
 intro e;obtain⟨m,f,k,n,h1|⟨g,h1,h2,o,l⟩⟩:=h
 ·rw[h1.1] at e;simp at e
 ·injection k with c
  subst c;refine⟨_,h1,λj u a=>?_⟩;rw[Ii] at a;cases d:b[j]? with
  | none=>rw[d] at a;cases a
  | some t =>
   rw[d] at a;injection a with a
   subst a;have h5:((⟨g,0,GE⟩:Ha).add j)=⟨g,j,GE⟩:=by simp only[Je];split<;>simp_all
   rw[h5];exact l j t d
theorem Nms.ofRowL {w:GI}{o:Nat->Nat}{i g cap:Nat}{b:List (List UInt8)}{n:Nat}(h:Row w o i 9 1 (.slice (GF ⟨g,0,GE⟩) n cap) n (b.map λx=>stv x))(a:b.length=n)(c:0<n):Nms w (.slice (GF ⟨g,0,GE⟩) n cap) b :=
 Nms.ofRow (o:=λ_=>1) ⟨h.1,λ_ _=>rfl⟩ a c
theorem Ae (b:List (List UInt8)):∀ u ∈ b.map (λx=>stv x),u.oneCell'=true:=λu a=>by
 obtain⟨x,_,rfl⟩:=List.mem_map.1 a;rfl
theorem xR {N:Nat}(IH:uk N):uk (N+1):=by
 intro e ao cap c bv w hN bc aP bj HN S;obtain⟨Y,hY⟩:∃Y,Y=ofE e c:=⟨_,rfl⟩;have HY:Hid (Y=ofE e c):=hY;rw[<-hY];clear hY;obtain⟨ii,aT,aA,az,ax⟩:=ek rV;obtain⟨is,aD,ah,ag,af⟩:=ek sM;obtain⟨w0,G⟩:∃w0,w0=((w.alloc (.cells #[.int .i64 e.k,.int .i64 e.n,stv e.nm,.slice ao e.kids.len cap,.int .i64 e.a] 25)).alloc (.cells #[.int .i64 0,.int .i64 0,.string ⟨#[]⟩,.slice GE 0 0] 34)).alloc (.cells #[.int .i64 e.k,.int .i64 e.n,.string ⟨#[]⟩,.slice GE 0 0] 34):=⟨_,rfl⟩;have B0:GO w.heap.size w w0:=by rw[G];exact(((GR _ w).alloc (GG _) _).alloc (by simp) _).alloc (by simp;omega) _
 obtain⟨o0,M⟩:∃o0:Nat->Nat,o0=λk=>if k=w.heap.size+1+1 then 1 else if k=w.heap.size+1 then 3 else 0:=⟨_,rfl⟩;have E0:Blk w0 o0 0 w.heap.size (.cells #[.int .i64 e.k,.int .i64 e.n,stv e.nm,.slice ao e.kids.len cap,.int .i64 e.a] 25):=by
  refine⟨?_,by rw[M];simp only;rw[if_neg (by omega),if_neg (by omega)]⟩;rw[G];exact(GS _ _ _ (by simp;omega)).trans ((GS _ _ _ (by simp)).trans (GL w _))
 have Z0:Blk w0 o0 3 (w.heap.size+1) (.cells #[.int .i64 0,.int .i64 0,.string ⟨#[]⟩,.slice GE 0 0] 34):=by
  refine⟨?_,by rw[M];simp⟩;rw[G];refine(GS _ _ _ (by simp)).trans ?_
  have:=GL (w.alloc (.cells #[.int .i64 e.k,.int .i64 e.n,stv e.nm,.slice ao e.kids.len cap,.int .i64 e.a] 25)) (.cells #[.int .i64 0,.int .i64 0,.string ⟨#[]⟩,.slice GE 0 0] 34)
  simpa using this
 have U:Blk w0 o0 1 (w.heap.size+1+1) (.cells #[.int .i64 e.k,.int .i64 e.n,.string ⟨#[]⟩,.slice GE 0 0] 34):=by
  refine⟨?_,by rw[M];simp⟩;rw[G]
  have:=GL ((w.alloc (.cells #[.int .i64 e.k,.int .i64 e.n,stv e.nm,.slice ao e.kids.len cap,.int .i64 e.a] 25)).alloc (.cells #[.int .i64 0,.int .i64 0,.string ⟨#[]⟩,.slice GE 0 0] 34)) (.cells #[.int .i64 e.k,.int .i64 e.n,.string ⟨#[]⟩,.slice GE 0 0] 34)
  simpa using this
 have L0:∀ k,k<w.heap.size->o0 k=0:=λk f=>by rw[M];simp only;rw[if_neg (by omega),if_neg (by omega)]
 have A0:=mQ.nil w0 o0 (λ_=>False) w.heap.size;have N0:=HN.below B0;obtain⟨ab,cb,aF,aY,aE⟩:=HN;have a5:Hid (Nms w bv c):=⟨ab,cb,aF,aY,aE⟩;subst aF;rw[dU];go_enter Tryz.func45,Tryz.ntmps45;go_upto_region 2 with fail;rw[<-G];clear G M;obtain⟨n0,P⟩:∃n0,n0=w.heap.size:=⟨_,rfl⟩;unfold Ap;rw[<-P] at E0 Z0 U L0 A0 B0 ⊢;have A:Hid (n0=w.heap.size):=P;clear P aE;obtain⟨p0,p1,p2,p3,p4,D⟩:=dT E0.1;have au:Hid (∀ W,GO n0 w W->Nms W (.slice ab c.length cb) c):=λW b=>Nms.below a5.out (by rw[<-A.out];exact b);by_cases h4:e.k=4
 ·have aZ:(e.k==4)=true:=by simpa using h4
  have aJ:Hid (Y=⟨5,iy c e.nm 0 e.n,[],0,.nil⟩):=by show _=_;rw[HY.out];unfold ofE;rw[if_pos h4]
  have X:dQ (λk=>k=1) w0 o0 (w0.setCell ⟨n0+1+1,0,GE⟩ (.int .i64 5)) o0:=fj _ w0 o0 ⟨n0+1+1,0,GE⟩ _ U.2;have z:=U.set 0 (.int .i64 5);have t:=E0.step X (by decide);have q:=Z0.step X (by decide);have s:=eo B0 X (λk f=>by rw[L0 k f];decide) (by rw[A.out];exact GG _);have LH:Hid (∀ k,k<n0->o0 k=0):=L0;obtain⟨t0,t1,t2,t3,tf⟩:=el U.1;clear X E0 Z0 U A0 B0 HY L0 N0;go_wp2;clear p0 p1 p2 p3 p4 D t0 t1 t2 t3 tf;go_loopw [6] (λv wr=>∃(j:Nat) (n1:Int),v=.int .i64 (j:Nat)/\j<=c.length/\Hid (iy (c.drop j) e.nm j n1=iy c e.nm 0 e.n)/\Blk wr o0 0 n0 (.cells #[.int .i64 e.k,.int .i64 e.n,stv e.nm,.slice ao e.kids.len cap,.int .i64 e.a] 25)/\Blk wr o0 3 (n0+1) (.cells #[.int .i64 0,.int .i64 0,.string ⟨#[]⟩,.slice GE 0 0] 34)/\Blk wr o0 1 (n0+1+1) (.cells #[.int .i64 5,.int .i64 n1,.string ⟨#[]⟩,.slice GE 0 0] 34)/\GO n0 w wr) (λv _=>c.length-(Hl v).toNat)
  case atStart=>exact⟨0,e.n,by show _=GX .i64 ((0:Nat):Int);rfl,by omega,rfl,t,q,z,s⟩
  case round =>
   clear t q z s;obtain⟨j,n1,rfl,hj,HL,t,q,z,s⟩:=hrel;obtain⟨p0,p1,p2,p3,p4,D⟩:=dT t.1;obtain⟨t0,t1,t2,t3,tf⟩:=el z.1;by_cases aa:j<c.length
   ·have hx:c[j]?=GF c[j]:=GM aa;have R:c.drop j=c[j]::c.drop (j+1):=IQ aa;obtain⟨_,_,hv,-,h1|⟨gb,h1,bi,-,T⟩⟩:=au.out wr s
    ·rw[h1.1] at aa;simp at aa
    injection hv with aN
    subst aN;subst h1;have an:=T j _ hx;have V:Hid (iy (c[j]::c.drop (j+1)) e.nm j n1=iy c e.nm 0 e.n):=by show _=_;rw[<-R];exact HL.out
    generalize c[j]=x at an V;have aC:(j:Int)<(c.length:Int):=by omega
    have bh:j<1000000:=by omega
    clear hx R T HL;go_upto_region 8 with fail;by_cases E:x=e.nm
    ·have aX:(x==e.nm)=true:=by simpa using E
     have av:Hid (iy (c.drop (j+1)) e.nm (j+1) (j:Int)=iy c e.nm 0 e.n):=by
      have h:iy (c.drop (j+1)) e.nm (j+1) (if x=e.nm then (j:Int) else n1)=iy c e.nm 0 e.n:=V.out;rw[if_pos E] at h;exact h
     clear E V
     go_quiet (fail)
     have bq:GO wr.heap.size wr (wr.drewN nq):=bdr (GR _ _) nq;have I:dQ (λ_=>False) wr o0 (wr.drewN nq) o0:=(dQ.refl _ wr o0).drewN nq;have E2:=t.step I id;have Z2:=q.step I id;have O2:=z.step I id;have B2:=eo s I (λ_ _=>id) (by rw[A.out];exact GG _);generalize wr.drewN nq=wq at *;clear t q z s bq I p0 p1 p2 p3 p4 D t0 t1 t2 t3 tf an;obtain⟨t0,t1,t2,t3,tf⟩:=el O2.1;have H:dQ (λk=>k=1) wq o0 (wq.setCell ⟨n0+1+1,1,GE⟩ (.int .i64 (j:Nat))) o0:=fj _ wq o0 ⟨n0+1+1,1,GE⟩ _ O2.2;have O3:=O2.set 1 (.int .i64 (j:Nat));have E3:=E2.step H (by decide);have Z3:=Z2.step H (by decide);have B3:=eo B2 H (λk f=>by rw[LH.out k f];decide) (by rw[A.out];exact GG _);clear H E2 Z2 O2 B2;go_wp2;go_roundw
     case rel=>(try ((repeat apply G9);refine⟨?_,rfl⟩));exact⟨j+1,_,by go_num,by omega,av,E3,Z3,O3,B3⟩
     case measure=>simp[Hl];omega
    ·have aX:(x==e.nm)=false:=by simpa using E
     have av:Hid (iy (c.drop (j+1)) e.nm (j+1) n1=iy c e.nm 0 e.n):=by
      have h:iy (c.drop (j+1)) e.nm (j+1) (if x=e.nm then (j:Int) else n1)=iy c e.nm 0 e.n:=V.out;rw[if_neg E] at h;exact h
     clear E V
     go_quiet (fail)
     have I:dQ (λ_=>False) wr o0 (wr.drewN nq) o0:=(dQ.refl _ wr o0).drewN nq;have E2:=t.step I id;have Z2:=q.step I id;have O2:=z.step I id;have B2:=eo s I (λ_ _=>id) (by rw[A.out];exact GG _);generalize wr.drewN nq=wq at *;clear t q z s I p0 p1 p2 p3 p4 D t0 t1 t2 t3 tf an;go_wp2;go_roundw
     case rel=>(try ((repeat apply G9);refine⟨?_,rfl⟩));exact⟨j+1,_,by go_num,by omega,av,E2,Z2,O2,B2⟩
     case measure=>simp[Hl];omega
   ·have aC:¬(j:Int)<(c.length:Int):=by omega
    have a6:Hid (n1=iy c e.nm 0 e.n):=by
     have h:=HL.out;rw[List.drop_eq_nil_of_le (by omega)] at h;exact h
    have HU:Hid (∃B,B=((((wr.setCell ⟨n0+1,0,GE⟩ (.int .i64 5)).setCell ⟨n0+1,1,GE⟩ (.int .i64 n1)).setCell ⟨n0+1,2,GE⟩ (.string ⟨#[]⟩)).setCell ⟨n0+1,3,GE⟩ (.slice GE 0 0))/\B.cell? ⟨n0+1,0,GE⟩=GF (.int .i64 5)/\B.cell? ⟨n0+1,1,GE⟩=GF (.int .i64 n1)/\B.cell? ⟨n0+1,2,GE⟩=GF (.string ⟨#[]⟩)/\B.cell? ⟨n0+1,3,GE⟩=GF (.slice GE 0 0)/\GO n0 w B):=by
     obtain⟨u0,u1,u2,u3,-⟩:=el (Bl (b0:=.int .i64 5) (b1:=.int .i64 n1) (b2:=.string ⟨#[]⟩) (b3:=.slice GE 0 0) q.1);exact⟨_,rfl,u0,u1,u2,u3,(((s.setCell (p:=⟨n0+1,0,GE⟩) (Hz _) _).setCell (p:=⟨n0+1,1,GE⟩) (Hz _) _).setCell (p:=⟨n0+1,2,GE⟩) (Hz _) _).setCell (p:=⟨n0+1,3,GE⟩) (Hz _) _⟩
    obtain⟨z0,z1,z2,z3,zf⟩:=el q.1;clear t q z s HL;go_wp2;obtain⟨B,al,v0,v1,v2,v3,BZ⟩:=HU.out;rw[<-al];refine GK (v:=exN Y GE 0) ?_ rfl ⟨GE,0,rfl,by rw[aJ.out];exact SlN.nil _ _ _,by rw[<-A.out];exact BZ⟩;rw[aJ.out,<-a6.out];simp[results,Tryz.results45,go_sem,v0,v1,v2,v3,exN];rfl
 have aZ:(e.k==4)=false:=by simpa using h4
 obtain⟨g,K⟩:∃g,g=if e.k=23 then e.nm else ([]:List UInt8):=⟨_,rfl⟩;obtain⟨F,hF⟩:∃F,F=ofF e.kids e.k e.nm 0 c:=⟨_,rfl⟩;have aI:Hid (Y=⟨e.k,e.n,g,0,F⟩):=by show _=_;rw[HY.out,K,hF];unfold ofE;rw[if_neg h4]
 have HF:Hid (F=ofF e.kids e.k e.nm 0 c):=hF;have ar:Hid (g=if e.k=23 then e.nm else ([]:List UInt8)):=K;have LH:Hid (∀ k,k<n0->o0 k=0):=L0;clear K hF HY h4 N0 L0;have ap:((e.k==23)=true/\g=e.nm)\/((e.k==23)=false/\g=[]):=by
  by_cases ac:e.k=23
  ·exact .inl ⟨by simpa using ac,by rw[ar.out,if_pos ac]⟩
  ·exact .inr ⟨by simpa using ac,by rw[ar.out,if_neg ac]⟩
 rcases ap with ⟨aG,L⟩|⟨aG,L⟩
 focus
  obtain⟨t0,t1,t2,t3,tf⟩:=el U.1;have X:dQ (λk=>k=1) w0 o0 (w0.setCell ⟨n0+1+1,2,GE⟩ (stv e.nm)) o0:=fj _ w0 o0 ⟨n0+1+1,2,GE⟩ _ U.2;have z:Blk (w0.setCell ⟨n0+1+1,2,GE⟩ (stv e.nm)) o0 1 (n0+1+1) (.cells #[.int .i64 e.k,.int .i64 e.n,stv g,.slice GE 0 0] 34):=by rw[L];exact U.set 2 (stv e.nm)
  have t:=E0.step X (by decide);have q:=Z0.step X (by decide);have Z:=A0.step X (by decide) (by decide);have s:=eo B0 X (λk f=>by rw[LH.out k f];decide) (by rw[A.out];exact GG _);clear X U E0 Z0 A0 B0 L;go_upto_region 13 with fail;generalize w0.setCell ⟨n0+1+1,2,GE⟩ (stv e.nm)=w1 at *;clear t0 t1 t2 t3 tf
 rotate_left
 focus
  have z:Blk w0 o0 1 (n0+1+1) (.cells #[.int .i64 e.k,.int .i64 e.n,stv g,.slice GE 0 0] 34):=by rw[L];exact U
  have t:=E0;have q:=Z0;have Z:=A0;have s:=B0;clear U E0 Z0 A0 B0 L;go_upto_region 13 with fail
 all_goals (
  clear p0 p1 p2 p3 p4 D ar;go_wp2;go_loopw [7] (λv wr=>∃(done r d:Fs) (o:Nat->Nat) (va:GN),Hid (e.kids=done.app r)/\v=.int .i64 (done.len:Nat)/\Hid (d.len=done.len)/\Hid (d.app (ofF r e.k e.nm done.len c)=F)/\Blk wr o 0 n0 (.cells #[.int .i64 e.k,.int .i64 e.n,stv e.nm,.slice ao e.kids.len cap,.int .i64 e.a] 25)/\Blk wr o 3 (n0+1) (.cells #[.int .i64 0,.int .i64 0,.string ⟨#[]⟩,.slice GE 0 0] 34)/\Blk wr o 1 (n0+1+1) (.cells #[.int .i64 e.k,.int .i64 e.n,stv g,va] 34)/\mQ wr o (λ_=>False) n0 d va/\Hid (∀ k,k<n0->o k=0)/\GO n0 w wr) (λv _=>e.kids.len-(Hl v).toNat)
  case atStart=>exact⟨.nil,e.kids,.nil,o0,.slice GE 0 0,rfl,by show _=GX .i64 ((0:Nat):Int);rfl,rfl,HF.out.symm,t,q,z,Z,LH,s⟩
  case round =>
   clear t q z Z s HF LH;obtain⟨done,r,d,o,va,f,rfl,aq,HA,t,q,z,Z,L1,s⟩:=hrel;have Q:e.kids.len=done.len+r.len:=by rw[f.out,Fs.len_app]
   obtain⟨p0,p1,p2,p3,p4,D⟩:=dT t.1;cases r using Fs.on with
   | nil =>
    have aR:¬(done.len:Int)<(e.kids.len:Int):=by simp only[Fs.len] at Q;omega
    have aK:Hid (d=F):=by
     show _=_;rw[<-HA.out];exact(mJ d).symm
    obtain⟨ad,cd,rfl,SD⟩:=Z.sl;have HU:Hid (∃B,B=((((wr.setCell ⟨n0+1,0,GE⟩ (.int .i64 e.k)).setCell ⟨n0+1,1,GE⟩ (.int .i64 e.n)).setCell ⟨n0+1,2,GE⟩ (stv g)).setCell ⟨n0+1,3,GE⟩ (.slice ad d.len cd))/\B.cell? ⟨n0+1,0,GE⟩=GF (.int .i64 e.k)/\B.cell? ⟨n0+1,1,GE⟩=GF (.int .i64 e.n)/\B.cell? ⟨n0+1,2,GE⟩=GF (stv g)/\B.cell? ⟨n0+1,3,GE⟩=GF (.slice ad d.len cd)/\SlN B (Nw n0) d ad/\GO n0 w B):=by
     obtain⟨u0,u1,u2,u3,-⟩:=el (Bl (b0:=.int .i64 e.k) (b1:=.int .i64 e.n) (b2:=stv g) (b3:=.slice ad d.len cd) q.1);refine⟨_,rfl,u0,u1,u2,u3,?_,(((s.setCell (p:=⟨n0+1,0,GE⟩) (Hz _) _).setCell (p:=⟨n0+1,1,GE⟩) (Hz _) _).setCell (p:=⟨n0+1,2,GE⟩) (Hz _) _).setCell (p:=⟨n0+1,3,GE⟩) (Hz _) _⟩;exact SD.mono (λi hp hl=>qs wr (n0+1) i _ _ _ _ (λee=>by
      have h2:=q.2;rw[<-ee] at h2;rcases hp.1 with h|h<;>omega)) (by simp) (λi hp _=>by
       rcases hp.2 with h|h
       ·exact h.1.elim
       ·exact h)
    obtain⟨z0,z1,z2,z3,zf⟩:=el q.1;obtain⟨t0,t1,t2,t3,tf⟩:=el z.1;clear t q z Z s SD HA f Q;go_wp2;obtain⟨B,al,v0,v1,v2,v3,SZ,BZ⟩:=HU.out;rw[<-al];refine GK (v:=exN Y ad cd) ?_ rfl ⟨ad,cd,rfl,by rw[aI.out,<-aK.out,<-A.out];exact SZ,by rw[<-A.out];exact BZ⟩;rw[aI.out,<-aK.out];simp[results,Tryz.results45,go_sem,v0,v1,v2,v3,exN]
   | cons kk kn km ka l kr =>
    have aR:(done.len:Int)<(e.kids.len:Int):=by simp only[Fs.len] at Q;omega
    have bg:done.len<e.kids.len:=by omega
    have aO:e.kids.size=done.size+(l.size+kr.size+1):=by rw[f.out,Fs.size_app];rfl
    have am:(Fs.cons kk kn km ka l kr).short:=Fs.app_short (by rw[<-f.out];exact aP);have aS:Hid (e.kids=(done.snoc ⟨kk,kn,km,ka,l⟩).app kr):=by show e.kids=_;rw[f.out];unfold Fs.snoc;rw[Fs.app_assoc];rfl
    have aQ:(done.len:Int)+1=((done.snoc ⟨kk,kn,km,ka,l⟩).len:Nat):=by rw[Fs.len_snoc];rfl
    have aL:Hid (d.app (Fs.ex (ofE ⟨kk,kn,km,ka,l⟩ (lp e.k e.nm done.len c)) (ofF kr e.k e.nm (done.len+1) c))=F):=by
     have h:=HA.out;rw[vy] at h;exact h
    have aW:(lp e.k e.nm done.len c).length<=c.length+1:=by unfold lp;split<;>simp
    have a4:Hid (∀ W,GO n0 w W->SlA W (done.app (.cons kk kn km ka l kr)) ao):=λW b=>by rw[<-f.out];exact SlT.below S (by rw[<-A.out];exact b)
    by_cases hA:e.k=21/\done.len=1
    focus
     have aj:(e.k==21)=true:=by simpa using hA.1
     have aV:((done.len:Int)==1)=true:=by simp;omega
     have aw:Hid (lp e.k e.nm done.len c=c++[e.nm]):=by show _=_;unfold lp;rw[if_pos hA]
     have O:=Nms.news (au.out wr s);have m:=Ae c;have bn:=t.lt;clear hA f Q;go_wp2_with (first|(at_builtin;refine jh rfl (.tmp 57) (.tmp 58) 40 rfl 9 is (.string ⟨#[]⟩) 1 16 I7 aD ah ag af rfl (by decide) o 7 _ 0 [] rfl (Row.nil _ _ _ _ _) ab c.length cb (c.map λx=>stv x) rfl ?c1 O m ?c3 ?c4 ?_)|go_in)
     case c1=>simp
     case c3=>unfold G5;omega
     case c4=>omega
     intro a2 c2 w2 o2 R2 s2;try simp only[Ib,IC] at R2
     try simp only[Ib,IC]
     have E2:=t.step s2 (by decide);have Z2:=q.step s2 (by decide);have O2:=z.step s2 (by decide);have A2:=Z.step s2 (by decide) (by decide);have L2:Hid (∀ k,k<n0->o2 k=0):=λk f=>(s2.lab k (by omega)).trans (L1.out k f);have B2:=eo s s2 (λk f=>by rw[L1.out k f];decide) (by rw[A.out];exact GG _);clear O m s2 t q z Z L1 s p0 p1 p2 p3 p4 D;obtain⟨p0,p1,p2,p3,p4,D⟩:=dT E2.1;have H:=et (λ_=>False) w2 o2 (.cells #[stv e.nm] 9);have R3:=R2.step H id;have E3:=E2.step H id;have Z3:=Z2.step H id;have O3:=O2.step H id;have A3:=A2.step H id id;have bm:=E2.lt;have L3:Hid (∀ k,k<n0->dR w2 o2 0 k=0):=λk f=>by rw[ed (by omega)];exact L2.out k f
     have B3:=eo B2 H (λ_ _=>id) (by rw[A.out];exact GG _);have m:∀ u ∈ [stv e.nm],u.oneCell'=true:=by intro u hu;simp at hu;subst hu;rfl
     have q1:c.length+1<=G5:=by unfold G5;omega
     have q2:(c.length+1)*16<=140737488355328:=by omega
     clear H E2 Z2 O2 A2 L2 B2 R2;go_wp2_with (first|(at_builtin;refine eb rfl (.tmp 60) (.tmp 63) 40 rfl 9 is (.string ⟨#[]⟩) 1 16 I7 aD ah ag af rfl (by decide) (dR w2 o2 0) 7 _ c.length (c.map λx=>stv x) rfl R3 ⟨w2.heap.size,0,GE⟩ 1 1 [stv e.nm] rfl rfl (fF w2 _ _) m (by decide) q1 q2 ?_)|go_in);intro g9 c9 w9 o9 r9 C;have aB:(c++[e.nm]).map (λx=>stv x)=(c.map λx=>stv x)++[stv e.nm]:=by simp
     have N4:Nms w9 (.slice (GF ⟨g9,0,GE⟩) (c.length+1) c9) (lp e.k e.nm done.len c):=by rw[aw.out];exact Nms.ofRowL (by rw[aB];exact r9) (by simp) (by omega)
     have E4:=E3.step C (by decide);have Z4:=Z3.step C (by decide);have O4:=O3.step C (by decide);have A4:=A3.step C (by decide) (by decide);have L4:Hid (∀ k,k<n0->o9 k=0):=λk f=>(C.lab k (by simp;omega)).trans (L3.out k f);have B4:=eo B3 C (λk f=>by rw[L3.out k f];decide) (by rw[A.out];exact GG _);clear aB r9 C R3 E3 Z3 O3 A3 L3 B3 m p0 p1 p2 p3 p4 D HA;go_upto_region 21 with fail;generalize o9=o4 at *;generalize w9=w4 at *
    rotate_left
    focus
     have aU:(e.k==21)=false\/((e.k==21)=true/\((done.len:Int)==1)=false):=by
      rcases Classical.em (e.k=21) with ae|ae
      ·exact .inr ⟨by simpa using ae,by have h3:done.len≠1:=λh=>hA ⟨ae,h⟩;simp;omega⟩
      ·exact .inl (by simpa using ae)
     have aw:Hid (lp e.k e.nm done.len c=c):=by show _=_;unfold lp;rw[if_neg hA]
     have N4:Nms wr (.slice ab c.length cb) (lp e.k e.nm done.len c):=by rw[aw.out];exact au.out wr s
     have E4:=t;have Z4:=q;have O4:=z;have A4:=Z;have L4:=L1;have B4:=s;clear t q z Z L1 s hA f Q HA;rcases aU with aj|⟨aj,aV⟩
     all_goals (
      go_upto_region 21 with fail;clear p0 p1 p2 p3 p4 D;generalize o=o4 at *;generalize wr=w4 at *)
    all_goals (
     obtain⟨p0,p1,p2,p3,p4,D⟩:=dT E4.1;obtain⟨b,off,ak,ck,a0,be,-,x0,x1,x2,x3,x4,SK⟩:=Sl.kidQ (a4.out w4 B4);have hc:=IH ⟨kk,kn,km,ka,l⟩ ak ck (lp e.k e.nm done.len c) _ w4 (by show l.size<N;omega) am.2.1 am.2.2.1 (by show _+l.size<=1000000;omega) N4 SK;generalize ofE ⟨kk,kn,km,ka,l⟩ (lp e.k e.nm done.len c)=y at *;generalize (lp e.k e.nm done.len c).length=nb at *;rw[dU] at hc;simp only at hc;subst a0;have P:n0<=w4.heap.size:=by have:=E4.lt;omega
     clear aO am SK N4 aW;go_wp2_with fail;refine hc.mono ?_;rintro x w6 ⟨ay,cy,rfl,S6,b6⟩;have s6:dQ (λ_=>False) w4 o4 w6 (dR w4 o4 0):=Below.toStepC b6;have T6:SlN w6 (PD (λ_=>False) n0 (dR w4 o4 0)) y.kids ay:=S6.mono (λ_ _ _=>rfl) (GG _) (λi hp hl=>⟨dY hp,.inr (Hr P hp)⟩);have L6:Hid (∀ k,k<n0->dR w4 o4 0 k=0):=λk f=>by rw[ed (by omega)];exact L4.out k f
     have E6:=E4.step s6 id;have Z6:=Z4.step s6 id;have O6:=O4.step s6 id;have A6:=A4.step s6 id id;have B6:=eo B4 s6 (λ_ _=>id) (by rw[A.out];exact GG _);generalize dR w4 o4 0=o6 at *;clear hc S6 b6 s6 E4 Z4 O4 A4 B4 L4 x0 x1 x2 x3 x4 p0 p1 p2 p3 p4 D;have s7:=et (λ_=>False) w6 o6 (.cells #[.int .i64 y.k,.int .i64 y.n,stv y.nm,.slice ay y.kids.len cy] 34);have K7:=jG w6 o6 #[.int .i64 y.k,.int .i64 y.n,stv y.nm,.slice ay y.kids.len cy] 34;have T7:=T6.labD s7 id;have bf:n0<=w6.heap.size:=by have:=E6.lt;omega
     have L7:Hid (∀ k,k<n0->dR w6 o6 0 k=0):=λk f=>by rw[ed (by omega)];exact L6.out k f
     have E7:=E6.step s7 id;have Z7:=Z6.step s7 id;have O7:=O6.step s7 id;have A7:=A6.step s7 id id;have B7:=eo B6 s7 (λ_ _=>id) (by rw[A.out];exact GG _);rw[dS];go_upto_region 22 with fail;generalize dR w6 o6 0=o7 at *;generalize w6.alloc (.cells #[.int .i64 y.k,.int .i64 y.n,stv y.nm,.slice ay y.kids.len cy] 34)=w7 at *;generalize w6.heap.size=bk at *;clear s7 T6 E6 Z6 O6 A6 B6 L6;obtain⟨p0,p1,p2,p3,D⟩:=el O7.1;obtain⟨q0,q1,q2,q3,qf⟩:=el K7.1;have s8:=et (λ_=>False) w7 o7 (.cells #[.int .i64 y.k,.int .i64 y.n,stv y.nm,.slice ay y.kids.len cy] 34);have T8:=T7.labD s8 id;have bl:=E7.lt;have L8:Hid (∀ k,k<n0->dR w7 o7 0 k=0):=λk f=>by rw[ed (by omega)];exact L7.out k f
     have E8:=E7.step s8 id;have Z8:=Z7.step s8 id;have O8:=O7.step s8 id;have A8:=A7.step s8 id id;have B8:=eo B7 s8 (λ_ _=>id) (by rw[A.out];exact GG _);obtain⟨xs,R8,F8,-⟩:=A8;obtain⟨a8,c8,rfl⟩:=R8.form;have b1:d.len+1<=G5:=by have:=aq.out;unfold G5;omega
     have b2:(d.len+1)*56<=140737488355328:=by have:=aq.out;omega
     have m:∀ u ∈ [GX .i64 y.k,.int .i64 y.n,stv y.nm,.slice ay y.kids.len cy],u.oneCell'=true:=by intro u hu;simp at hu;rcases hu with rfl|rfl|rfl|rfl<;>rfl
     have aM:n0<=(w7.alloc (.cells #[.int .i64 y.k,.int .i64 y.n,stv y.nm,.slice ay y.kids.len cy] 34)).heap.size:=by simp;omega
     have ai:∀ k,k<n0->dR w7 o7 0 k≠2:=λk f=>by rw[L8.out k f];decide
     clear E7 Z7 O7 A7 B7 L7 T7 s8;go_wp2_with (first|(at_builtin;refine eb rfl (.tmp 73) (.tmp 75) 32 rfl 34 ii _ 4 56 Tryz.underlying32 aT aA az ax rfl (by decide) (dR w7 o7 0) 2 _ d.len xs rfl R8 ⟨w7.heap.size,0,GE⟩ 1 1 [GX .i64 y.k,.int .i64 y.n,stv y.nm,.slice ay y.kids.len cy] rfl rfl (ge w7 _ _) m (by decide) b1 b2 ?_)|go_in);intro g9 c9 w9 o9 r9 C;have A9:mQ w9 o9 (λ_=>False) n0 (d.snoc y) (.slice (GF ⟨g9,0,GE⟩) (d.len+1) c9):=mQ.push F8 T8 C ai aM r9;have E9:=E8.step C (by decide);have Z9:=Z8.step C (by decide);have O9:=O8.step C (by decide);have L9:Hid (∀ k,k<n0->o9 k=0):=λk f=>(C.lab k (by omega)).trans (L8.out k f);have B9:=eo B8 C (λk f=>by rw[L8.out k f];decide) (by rw[A.out];exact GG _);have J:dQ (λk=>k=1) w9 o9 (w9.setCell ⟨n0+1+1,3,GE⟩ (.slice (GF ⟨g9,0,GE⟩) (d.len+1) c9)) o9:=fj _ w9 o9 ⟨n0+1+1,3,GE⟩ _ O9.2;have bb:=A9.step J (by decide) (by decide);have a9:=E9.step J (by decide);have a1:=Z9.step J (by decide);have a3:=O9.set 3 (.slice (GF ⟨g9,0,GE⟩) (d.len+1) c9);have ba:=eo B9 J (λk f=>by rw[L9.out k f];decide) (by rw[A.out];exact GG _);obtain⟨t0,t1,t2,t3,tf⟩:=el O9.1;have a7:Hid ((d.snoc y).app (ofF kr e.k e.nm (done.snoc ⟨kk,kn,km,ka,l⟩).len c)=F):=by
      show _=_;rw[Fs.len_snoc,<-aL.out];unfold Fs.snoc;rw[Fs.app_assoc];rfl
     have aH:Hid ((d.snoc y).len=(done.snoc ⟨kk,kn,km,ka,l⟩).len):=by show _=_;rw[Fs.len_snoc,Fs.len_snoc,aq.out]
     clear A9 E9 Z9 O9 B9 J E8 Z8 O8 B8 L8 T8 R8 F8 r9 C p0 p1 p2 p3 D q0 q1 q2 q3 qf K7 aL ai;go_wp2;go_roundw
     case rel=>(try ((repeat apply G9);refine⟨?_,rfl⟩));exact⟨_,kr,_,o9,_,aS,by rw[<-aQ],aH,a7,a9,a1,a3,bb,L9,ba⟩
     case measure=>simp[Hl];omega))
theorem vG:∀ N,uk N -- 45
 | 0=>λe ao cap a bv w h=>absurd h (Hv _)
 | N+1=>xR (vG N)
abbrev Er:=Option (Nat × Int)
def stS:Sum (Nat × Int) Int->Er
 | .inl x=>GF x
 | .inr _=>GE
def gN (st:Er)(k:Int):Sum (Nat × Int) Int :=
 match st with
 | some x=>.inl x
 | none=>.inr k
def eJ (st:Er)(m:Int)(e:Ex)(b:List (List UInt8)):Er :=
 match st with
 | some x=>GF x
 | none=>stS (ij m e.a (eW e b))
def il:Fs->Er->List (List UInt8)->Er
 | ⟨GE⟩,st,_=>st
 | ⟨GF ⟨k,n,nm,a,ks,r⟩⟩,st,b=>il r (eJ st 3 ⟨k,n,nm,a,ks⟩ b) b
theorem qb:∀ (f:Fs) (x:Nat × Int) (b:List (List UInt8)),il f (GF x) b=GF x
 | ⟨GE⟩,x,b=>rfl
 | ⟨GF ⟨k,n,nm,a,ks,r⟩⟩,x,b=>qb r x b
theorem nd:∀ (f:Fs) (y:Ex) (st:Er) (b:List (List UInt8)),il (f.snoc y) st b=eJ (il f st b) 3 y b
 | ⟨GE⟩,y,st,b=>rfl
 | ⟨GF ⟨k,n,nm,a,ks,r⟩⟩,y,st,b=>nd r y _ b
theorem io (m a:Int)(r:Sum (Nat × Int) Int)(b:m≠0):(∃x,ij m a r=.inl x)\/(ij m a r=.inr m/\r=.inr m):=by
 cases r with
 | inl x=>exact .inl ⟨x,rfl⟩
 | inr is =>
  simp only[ij];by_cases h:is=m
  ·subst h;exact .inr ⟨by rw[if_neg (λh2=>h2.2 rfl)],rfl⟩
  ·exact .inl ⟨_,by rw[if_pos ⟨b,h⟩]⟩
theorem iN (x:Ex)(r:Fs)(k n:Int)(nm:List UInt8)(len:Nat)(b:List (List UInt8))(i:Nat)(done:List Int)(c:k≠21) :
  fu (Fs.ex x r) k n nm len b i done=(match ij (eV k n len done) x.a (eW x b) with
   | .inl e=>.inl e
   | .inr is=>fu r k n nm len b (i+1) (done++[is])):=by
 have h:=ra x r k n nm len b i done;rw[if_neg (λh2=>c h2.1)] at h;exact h
theorem Ct (n:Nat)(d:List Int):d++[3]++Ho n 3=d++Ho (n+1) 3:=by
 rw[Jp];rfl
theorem pb (k n:Int)(nm:List UInt8)(len:Nat)(b:List (List UInt8))(m:k≠21):∀ (f:Fs) (i:Nat) (done:List Int),(∀ d:List Int,done.length<=d.length->d.length<done.length+f.len->eV k n len d=3) ->
  fu f k n nm len b i done=(match il f GE b with|some x=>.inl x|none=>.inr (done++Ho f.len 3))
 | ⟨GE⟩,i,done,h=>by simp[fu,il,Fs.len]
 | ⟨GF ⟨j,kn,g,e,a,c⟩⟩,i,done,h=>by
  have p:=iN ⟨j,kn,g,e,a⟩ c k n nm len b i done m;have o:fu ⟨GF ⟨j,kn,g,e,a,c⟩⟩ k n nm len b i done=_:=p;rw[o,h done (GG _) (by simp[Fs.len])];simp only[il,eJ];rcases io 3 e (eW ⟨j,kn,g,e,a⟩ b) (by decide) with ⟨x,l⟩|⟨l,-⟩
  ·rw[l];simp only[stS,qb]
  ·rw[l];simp only[stS];rw[pb k n nm len b m c (i+1) (done++[3]) (λd h1 h2=>h d (by simp at h1;omega) (by simp[Fs.len] at h1 h2 ⊢;omega))];cases il c GE b with
   | some x=>rfl
   | none=>simp only[Fs.len];rw[Ct]
theorem wD {k n:Int}{nm:List UInt8}{a:Int}{x:Ex}{b:List (List UInt8)}(m g:Int)(f:k≠4)(d:k≠21)(h:eV k n 1 []=m)(e:m≠0)(h1:eV k n 1 [m]=g) :
  eW ⟨k,n,nm,a,Fs.ex x .nil⟩ b=gN (eJ GE m x b) g:=by
 rw[im _ _ f];show rA k n 1 (fu (Fs.ex x .nil) k n nm 1 b 0 [])=_;rw[iN _ _ _ _ _ _ _ _ _ d,h];unfold eJ;simp only;rcases io m x.a (eW x b) e with ⟨y,c⟩|⟨c,-⟩
 ·rw[c];rfl
 ·rw[c];show Sum.inr (eV k n 1 [m])=_;rw[h1];rfl
theorem iQ {k n:Int}{nm:List UInt8}{a:Int}{x y:Ex}{b:List (List UInt8)}(m g:Int)(f:k≠4)(d:k≠21)(h:eV k n 2 []=m)(h1:eV k n 2 [m]=m)(e:m≠0)(h2:eV k n 2 [m,m]=g) :
  eW ⟨k,n,nm,a,Fs.ex x (Fs.ex y .nil)⟩ b=gN (eJ (eJ GE m x b) m y b) g:=by
 rw[im _ _ f];show rA k n 2 (fu (Fs.ex x (Fs.ex y .nil)) k n nm 2 b 0 [])=_;rw[iN _ _ _ _ _ _ _ _ _ d,h];rcases io m x.a (eW x b) e with ⟨z,c⟩|⟨c,-⟩
 ·unfold eJ;simp only;rw[c];rfl
 ·have i:eJ GE m x b=GE:=by unfold eJ;simp only;rw[c];rfl
  rw[c,i];simp only[IC];rw[iN _ _ _ _ _ _ _ _ _ d,h1];unfold eJ;simp only;rcases io m y.a (eW y b) e with ⟨z,c⟩|⟨c,-⟩
  ·rw[c];rfl
  ·rw[c];show Sum.inr (eV k n 2 [m,m])=_;rw[h2];rfl
theorem mO {k n:Int}{nm:List UInt8}{a:Int}{x y:Ex}{b:List (List UInt8)}(g:k=13\/k=14) :
  eW ⟨k,n,nm,a,Fs.ex x (Fs.ex y .nil)⟩ b=(match eW x b with | .inl e=>.inl e | .inr k0=>gN (eJ GE k0 y b) 2):=by
 rw[im _ _ (by show k≠4;omega)];show rA k n 2 (fu (Fs.ex x (Fs.ex y .nil)) k n nm 2 b 0 [])=_;have c:∀ d,eV k n 2 d=(match d with | []=>0 | [a]=>a|_=>2):=λd=>by unfold eV;rw[if_pos g];first|done|(rcases d with _|⟨x,_|⟨y,r⟩⟩<;>rfl)
 rw[iN _ _ _ _ _ _ _ _ _ (by omega),c];simp only;cases i:eW x b with
 | inl e=>rfl
 | inr k0 =>
  simp only[ij];rw[if_neg (λh=>h.1 rfl)];simp only[IC];rw[iN _ _ _ _ _ _ _ _ _ (by omega),c];unfold eJ;simp only;cases ij k0 y.a (eW y b) with
  | inl e=>rfl
  | inr f =>
   show Sum.inr (eV k n 2 [k0,f])=_;rw[c];rfl
theorem pj {n:Int}{nm:List UInt8}{a:Int}{x y z:Ex}{b:List (List UInt8)} :
  eW ⟨19,n,nm,a,Fs.ex x (Fs.ex y (Fs.ex z .nil))⟩ b=(match eJ GE 2 x b with
   | some e=>.inl e
   | none=>match eW y b with | .inl e=>.inl e | .inr c=>gN (eJ GE c z b) c):=by
 rw[im _ _ (by show (19:Int)≠4;omega)];show rA 19 n 3 (fu (Fs.ex x (Fs.ex y (Fs.ex z .nil))) 19 n nm 3 b 0 [])=_;have g:∀ d,eV 19 n 3 d=(match d with | []=>2 | [_]=>0|_::b::_=>b):=λd=>by unfold eV;rw[if_neg (by omega),if_pos rfl];first|done|(rcases d with _|⟨x,_|⟨y,r⟩⟩<;>rfl)
 rw[iN _ _ _ _ _ _ _ _ _ (by omega),g];simp only;rcases io 2 x.a (eW x b) (by decide) with ⟨u,f⟩|⟨f,-⟩
 ·unfold eJ;simp only;rw[f];rfl
 ·have j:eJ GE 2 x b=GE:=by unfold eJ;simp only;rw[f];rfl
  rw[f,j];simp only[IC];rw[iN _ _ _ _ _ _ _ _ _ (by omega),g];simp only;cases k:eW y b with
  | inl e=>rfl
  | inr c =>
   simp only[ij];rw[if_neg (λh=>h.1 rfl)];simp only[IU,IC];rw[iN _ _ _ _ _ _ _ _ _ (by omega),g];unfold eJ;simp only;cases ij c z.a (eW z b) with
   | inl e=>rfl
   | inr i =>
    show Sum.inr (eV 19 n 3 [2,c,i])=_;rw[g];rfl
def jQ (n:Int):Int:=if n=1\/n=2 then 2 else if n=10 then 3 else 1
def fC (n:Int):Int:=if n<=3 then 2 else 1
def fq (n:Int):Int:=if n<=2 then 2 else 1
theorem zo {n:Int}{nm:List UInt8}{a:Int}{f:Fs}{b:List (List UInt8)}(k:1<=n/\n<=10)(c:(jW 20 n).length=f.len+1) :
  eW ⟨20,n,nm,a,f⟩ b=gN (il f GE b) (jQ n):=by
 rw[im _ _ (by show (20:Int)≠4;omega)];show rA 20 n f.len (fu f 20 n nm f.len b 0 [])=_;have hn2:n=1\/n=2\/n=3\/n=4\/n=5\/n=6\/n=7\/n=8\/n=9\/n=10:=by omega
 have h:∀ d:List Int,d.length<f.len->eV 20 n f.len d=3:=λd g=>by
  have e:eV 20 n f.len d=(jW 20 n)[d.length]?.getD 0:=by
   unfold eV;rw[if_neg (by omega),if_neg (by omega),if_neg (by omega)]
  rw[e];generalize d.length=j at g;generalize f.len=m at c g;rcases hn2 with rfl|rfl|rfl|rfl|rfl|rfl|rfl|rfl|rfl|rfl<;>(simp[jW] at c;subst c)
  all_goals (
   have i:j=0\/j=1:=by omega
   rcases i with rfl|rfl<;>first|rfl|omega)
 rw[pb 20 n nm f.len b (by omega) f 0 [] (λd _ h2=>h d (by simpa using h2))];cases il f GE b with
 | some x=>rfl
 | none =>
  show Sum.inr (eV 20 n f.len ([]++Ho f.len 3))=_;have e:eV 20 n f.len ([]++Ho f.len 3)=(jW 20 n)[f.len]?.getD 0:=by
   unfold eV;rw[if_neg (by omega),if_neg (by omega),if_neg (by omega)];simp
  rw[e];generalize f.len=m at c;rcases hn2 with rfl|rfl|rfl|rfl|rfl|rfl|rfl|rfl|rfl|rfl<;>(simp[jW] at c;subst c;rfl)
theorem wP {k n:Int}{nm:List UInt8}{a:Int}{f:Fs}{b:List (List UInt8)}(e:(k=22\/k=23)/\f.len=0\/k=24/\f.len=1\/k=25) :
  eW ⟨k,n,nm,a,f⟩ b=gN (il f GE b) 4:=by
 rw[im _ _ (by show k≠4;omega)];show rA k n f.len (fu f k n nm f.len b 0 [])=_;have g:∀ d:List Int,d.length<f.len->eV k n f.len d=3:=λd h=>by
  rcases e with ⟨rfl|rfl,c⟩|⟨rfl,c⟩|rfl
  ·omega
  ·omega
  ·have:d.length=0:=by omega
   obtain rfl:=List.length_eq_zero_iff.1 this;rfl
  ·unfold eV;rw[if_neg (by omega),if_neg (by omega),if_pos rfl,if_pos h]
 rw[pb k n nm f.len b (by omega) f 0 [] (λd _ h2=>g d (by simpa using h2))];cases il f GE b with
 | some x=>rfl
 | none =>
  show Sum.inr (eV k n f.len ([]++Ho f.len 3))=Sum.inr 4
  congr 1
  rcases e with ⟨rfl|rfl,c⟩|⟨rfl,c⟩|rfl
  ·rw[c];rfl
  ·rw[c];rfl
  ·rw[c];rfl
  ·unfold eV;rw[if_neg (by omega),if_neg (by omega),if_pos rfl,if_neg (by simp)]
theorem ys {n:Int}{nm:List UInt8}{a:Int}{s x:Ex}{b:List (List UInt8)}(m:1<=n/\n<=6)(l:eW s b=gN (il s.kids GE b) 4) :
  eW ⟨21,n,nm,a,Fs.ex s (Fs.ex x .nil)⟩ b=gN (eJ (il s.kids GE b) (fC n) x (b++[nm])) (fq n):=by
 rw[im _ _ (by show (21:Int)≠4;omega)];show rA 21 n 2 (fu (Fs.ex s (Fs.ex x .nil)) 21 n nm 2 b 0 [])=_;have hn2:n=1\/n=2\/n=3\/n=4\/n=5\/n=6:=by omega
 have j:eV 21 n 2 []=4:=by rcases hn2 with rfl|rfl|rfl|rfl|rfl|rfl<;>rfl
 have i:eV 21 n 2 [4]=fC n:=by rcases hn2 with rfl|rfl|rfl|rfl|rfl|rfl<;>rfl
 have g:∀ k,eV 21 n 2 [4,k]=fq n:=λk=>by rcases hn2 with rfl|rfl|rfl|rfl|rfl|rfl<;>rfl
 have d:fC n≠0:=by unfold fC;split<;>omega
 have f:=ra s (Fs.ex x .nil) 21 n nm 2 b 0 [];have e:=ra x .nil 21 n nm 2 b 1 [4];rw[if_neg (by omega),l,j] at f;rw[if_pos (by decide),i] at e;show rA 21 n 2 (fu (.cons s.k s.n s.nm s.a s.kids (.cons x.k x.n x.nm x.a x.kids .nil)) 21 n nm 2 b 0 [])=_;rw[show fu (.cons s.k s.n s.nm s.a s.kids (.cons x.k x.n x.nm x.a x.kids .nil)) 21 n nm 2 b 0 []=_ from f];cases il s.kids GE b with
 | some z=>rfl
 | none =>
  simp only[gN,ij];rw[if_neg (λh=>h.2 rfl)];simp only[IC];rw[show fu (Fs.ex x .nil) 21 n nm 2 b 1 [4]=_ from e];unfold eJ;simp only;rcases io (fC n) x.a (eW x (b++[nm])) d with ⟨z,c⟩|⟨c,-⟩
  ·rw[c];rfl
  ·rw[c];show Sum.inr (eV 21 n 2 [4,fC n])=_;rw[g];rfl
theorem qG:∀ (f:Fs) (k n:Int) (nm:List UInt8) (len:Nat) (b:List (List UInt8)) (i:Nat) (done d:List Int),fu f k n nm len b i done=.inr d->d.length=done.length+f.len
 | ⟨GE⟩,k,n,nm,len,b,i,done,d,h=>by
  simp only[fu] at h;injection h with h
  subst h;rfl
 | ⟨GF ⟨j,kn,g,c,a,e⟩⟩,k,n,nm,len,b,i,done,d,h=>by
  have m:=ra ⟨j,kn,g,c,a⟩ e k n nm len b i done;rw[m] at h;cases l:ij (eV k n len done) c (eW ⟨j,kn,g,c,a⟩ (if k=21/\i≠0 then b++[nm] else b)) with
  | inl z=>simp only at h;rw[l] at h;cases h
  | inr is =>
   simp only at h;rw[l] at h
   have:=qG e k n nm len b (i+1) (done++[is]) d h
   simp only[Hb,Hc,IK,Fs.len] at this ⊢;omega
def Fs.stk:Fs->Bool->Prop
 | ⟨GE⟩,_=>True
 | ⟨GF ⟨k,_,_,_,ks,r⟩⟩,first=>eM k=first/\ks.stk (k==21)/\r.stk false
theorem rK:∀ (f:Fs) (b:Bool) (c c':Nat),hFs f b c=GF c'->f.stk b
 | ⟨GE⟩,b,c,c',h=>trivial
 | ⟨GF ⟨k,n,nm,a,ks,r⟩⟩,b,c,c',h=>by
  unfold hFs at h;split at h
  ·cases h
  ·rename_i d
   split at h
   ·cases h
   ·split at h
    ·split at h
     ·cases h
     ·rename_i c2 h2
      exact⟨by simpa using d,rK ks _ _ _ h2,rK r _ _ _ h⟩
    ·cases h
theorem Es {e:Ex}{c c':Nat}(h:hE e c=GF c'):e.kids.stk (e.k==21):=by
 unfold hE at h;split at h
 ·cases h
 ·split at h
  ·exact rK _ _ _ _ h
  ·cases h
theorem mu:∀ (N:Nat) (e:Ex) (b:List (List UInt8)) (k:Int),e.kids.size<N->e.okA->eW e b=.inr k->k≠0
 | 0,e,b,k,t,_,_=>absurd t (Hv _)
 | N+1,⟨k0,n,nm,a,f⟩,b,k,t,m,h=>by
  have l:=Av m.1;have c:=m.1.2.2.1;simp only at t l c;by_cases r:k0=13\/k0=14
  ·have p:f.len=2:=by
    rcases r with rfl|rfl<;>(simp[ew,gZ,iI] at c;omega)
   obtain⟨x,y,rfl⟩:=jL p;rw[mO r] at h;cases g:eW x b with
   | inl z=>rw[g] at h;cases h
   | inr w =>
    rw[g] at h;simp only at h;cases i:eJ GE w y b with
    | some z=>rw[i] at h;cases h
    | none=>rw[i] at h;injection h with h;omega
  by_cases E:k0=19
  ·subst E;have p:f.len=3:=by simp[ew] at c;omega
   obtain⟨x,y,z,rfl⟩:=BI p;rw[pj] at h;cases g:eJ GE 2 x b with
   | some u=>rw[g] at h;cases h
   | none =>
    rw[g] at h;simp only at h;cases A:eW y b with
    | inl u=>rw[A] at h;cases h
    | inr w =>
     rw[A] at h;simp only at h;cases i:eJ GE w z b with
     | some u=>rw[i] at h;cases h
     | none =>
      rw[i] at h;injection h with h
      subst h;have B:y.kids.size<N:=by
       simp only[rJ,Fs.size] at t;omega
      exact mu N y b _ B (pt (pt m.2).2).1 A
  by_cases D:k0=22\/k0=23\/k0=24\/k0=25
  ·have p:(k0=22\/k0=23)/\f.len=0\/k0=24/\f.len=1\/k0=25:=by
    rcases D with rfl|rfl|rfl|rfl
    ·exact .inl ⟨.inl rfl,by simp[ew] at c;first|done|exact c|omega⟩
    ·exact .inl ⟨.inr rfl,by simp[ew] at c;first|done|exact c|omega⟩
    ·exact .inr (.inl ⟨rfl,by simp[ew] at c;first|done|exact c|omega⟩)
    ·exact .inr (.inr rfl)
   rw[wP p] at h;cases i:il f GE b with
   | some z=>rw[i] at h;cases h
   | none=>rw[i] at h;injection h with h;omega
  have o:∀ (j:Nat) (v:Int),(jW k0 n)[j]?=GF v->v≠0:=by
   intro j v I;have F:=Iw I;have J:∀ (P:Prop) [Decidable P] (a b:List Int),(∀ x,x ∈ a->x≠0)->(∀ x,x ∈ b->x≠0)->∀ x,x ∈ (if P then a else b)->x≠0:=by
    intro P _ a b M L;split
    ·exact M
    ·exact L
   revert v
   suffices q:∀ x,x ∈ jW k0 n->x≠0 from λv _ i=>q v i
   unfold jW
   repeat' apply J
   all_goals (intro x g;simp at g<;>omega)
  have K:(jW k0 n).length=f.len+1:=by
   rcases l with l|⟨rfl,-,l⟩|⟨rfl,-,l⟩|⟨s,l⟩
   ·omega
   ·exact l
   ·exact l
   ·rw[<-l];unfold jW;simp only[s.2.2.2.1,s.2.2.2.2.1,if_false]
  unfold eW at h;split at h
  ·cases h
  ·cases C:fu f k0 n nm f.len b 0 [] with
   | inl z=>simp only at h;rw[C] at h;cases h
   | inr d =>
    simp only at h;rw[C] at h;injection h with h
    have H:=qG f k0 n nm f.len b 0 [] d C;have s:eV k0 n f.len d=(jW k0 n)[d.length]?.getD 0:=by
     unfold eV;rw[if_neg (by omega),if_neg (by omega),if_neg (by omega)]
    have g:(jW k0 n)[d.length]?=GF ((jW k0 n)[d.length]'(by simp at H;omega)):=GM (by simp at H;omega);rw[<-h,s,g];exact o _ _ g
def erO (st:Er):Nat:=match st with|some x=>x.1|none=>0
def plO (st:Er):Int:=match st with|some x=>x.2|none=>0
def xN (st:Er):Prop:=∀ x,st=GF x->x.1≠0
structure Wk (w:GI)(wb:Nat)(bv:GN)(st:Er):Prop where
 blk:w.heap[wb]?=GF (.cells #[bv,.int .i64 (erO st:Nat),.int .i64 (plO st)] 139 (0,0))
 ok:xN st
theorem xN.none:xN GE:=λx h=>by cases h
theorem lo {w:GI}{b:Nat}{a0 a1 a2:GN}{t:Hp}(h:w.heap[b]?=GF (.cells #[a0,a1,a2] t (0,0))):w.cell? ⟨b,0,GE⟩=GF a0/\w.cell? ⟨b,1,GE⟩=GF a1/\w.cell? ⟨b,2,GE⟩=GF a2/\∀ j,w.frozen? ⟨b,j,GE⟩=false:=by
 refine⟨?_,?_,?_,λj=>Io w b j _ t h⟩<;>simp[Hj w b _ _ t (0,0) h]
theorem CD {w:GI}{b:Nat}{a0 a1 a2:GN}{t:Hp}(h:w.heap[b]?=GF (.cells #[a0,a1,a2] t (0,0)))(v:GN) :
  (w.setCell ⟨b,0,GE⟩ v).heap[b]?=GF (.cells #[v,a1,a2] t (0,0))/\(w.setCell ⟨b,1,GE⟩ v).heap[b]?=GF (.cells #[a0,v,a2] t (0,0))/\(w.setCell ⟨b,2,GE⟩ v).heap[b]?=GF (.cells #[a0,a1,v] t (0,0)) :=
 ⟨(Blk.set (o:=λ_=>0) (i:=0) ⟨h,rfl⟩ 0 v).1,(Blk.set (o:=λ_=>0) (i:=0) ⟨h,rfl⟩ 1 v).1,(Blk.set (o:=λ_=>0) (i:=0) ⟨h,rfl⟩ 2 v).1⟩
def Nmk (wb:Nat)(w:GI)(v:GN)(b:List (List UInt8)):Prop:=Nms w v b/\∀ g off n c,v=.slice (GF ⟨g,off,GE⟩) n c->g≠wb
theorem Nmk.keep {wb:Nat}{w w':GI}{v:GN}{b:List (List UInt8)}(h:Nmk wb w v b)(K:dX wb w w'):Nmk wb w' v b:=by
 refine⟨?_,h.2⟩;obtain⟨⟨ao,cap,rfl,a,h1|⟨g,rfl,h2,f,e⟩⟩,d⟩:=h
 ·exact⟨ao,cap,rfl,a,.inl h1⟩
 ·exact⟨_,cap,rfl,a,.inr ⟨g,rfl,GQ h2 K.size,f,λj t c=>(K.cell h2 (d _ _ _ _ rfl) j).trans (e j t c)⟩⟩
theorem wO (w:GI)(wb:Nat)(bv:GN)(er:Nat)(a:Int)(c:er≠0)(h:Wk w wb bv GE) :
  GV GH 194 #[.pointer (GF ⟨wb,0,GE⟩),.int .i64 er,.int .i64 a] w λx w'=>x=.returned (.tuple #[])/\Wk w' wb bv (GF (er,a))/\dX wb w w':=by
 have h1:=h.blk;simp only[erO,plO] at h1;obtain⟨c0,c1,c2,g⟩:=lo h1;have f:=(CD h1 (.int .i64 er)).2.1;have e:=(CD f (.int .i64 a)).2.2;have K:=((dX.refl wb w).set ⟨wb,1,GE⟩ (.int .i64 er) (.inr rfl)).set ⟨wb,2,GE⟩ (.int .i64 a) (.inr rfl);have d:Hid (Wk ((w.setCell ⟨wb,1,GE⟩ (.int .i64 er)).setCell ⟨wb,2,GE⟩ (.int .i64 a)) wb bv (GF (er,a))/\dX wb w ((w.setCell ⟨wb,1,GE⟩ (.int .i64 er)).setCell ⟨wb,2,GE⟩ (.int .i64 a))) :=
  ⟨⟨e,λx b=>by injection b with b;subst b;exact c⟩,K⟩
 clear h f e K h1;go_enter Tryz.func194,Tryz.ntmps194;go_wp2
 go_end0
 exact⟨rfl,d.out.1,d.out.2⟩
def Fo (w:GI)(wb:Nat)(bv:GN)(b:List (List UInt8))(e:Ex)(x:IL)(w':GI):Prop :=
 (∃r,x=.returned (.int .i64 r)/\(e.nm ∈ b->r=3))/\Wk w' wb bv (if e.nm ∈ b then GE else GF (130,e.a))/\dX wb w w'
theorem Eo (e:Ex)(ao:Option Ha)(cap:Nat)(w:GI)(wb:Nat)(bv:GN)(b:List (List UInt8))(h:Wk w wb bv GE)(G:Nmk wb w bv b)(U:b.length<=100000) :
  GV GH 137 #[.pointer (GF ⟨wb,0,GE⟩),exV e ao cap] w (Fo w wb bv b e):=by
 have t:GO w.heap.size w (w.alloc (zEx e ao cap)):=(GR _ w).alloc (GG _) _;have E:(w.alloc (zEx e ao cap)).heap[w.heap.size]?=GF (zEx e ao cap):=GL w _;have A:=GJ h.blk;have D:=(t.block _ A).trans h.blk;have N0:=G.1.below t;clear h G;rw[dU];go_enter Tryz.func137,Tryz.ntmps137;go_upto_region 1 with fail;generalize w.alloc (zEx e ao cap)=w0 at *;obtain⟨bx,m⟩:=exq w.heap.size;rw[<-m] at E t ⊢;have H:Hid (bx=w.heap.size):=m;clear m;have f:=GJ E;have q:=GJ D;obtain⟨P,s,rfl,O,F⟩:=N0;simp only[erO,plO] at D;go_wp2;go_loopw [5] (λv wr=>∃k:Nat,k<=b.length/\v=.int .i64 k/\Hid (∀ j,j<k->b[j]?≠GF e.nm)/\GO w0.heap.size w0 wr) (λv _=>b.length-(Hl v).toNat)
 case atStart=>exact⟨0,by omega,by go_num,λj n=>absurd n (Hv _),GR _ _⟩
 case round =>
  obtain⟨k,V,rfl,c,o⟩:=hrel;have S:=(o.block _ f).trans E;have C:=(o.block _ q).trans D;obtain⟨p0,p1,p2,p3,p4,L⟩:=dT S;obtain⟨K,J,q2,I⟩:=lo C;by_cases r:k<b.length
  ·have u:b[k]?=GF b[k]:=GM r;rcases F with ⟨rfl,-⟩|⟨g,rfl,N,-,d⟩
   ·simp at r
   have c1:=(o.cell (p:=⟨g,k,GE⟩) N).trans (d k _ u);generalize b[k]=x at c1 u;have M:(k:Int)<(b.length:Int):=by omega
   have z:Hid (b[k]?=GF x):=u;clear u d;by_cases y:x=e.nm
   ·subst y;have B:(e.nm==e.nm)=true:=by simp
    have l:e.nm ∈ b:=Iw z.out;have i:Hid (e.nm ∈ b):=l;clear c z l;go_wp2_with fail
    go_quiet (fail)
    go_wp2;refine GK (v:=.int .i64 3) (by simp[results,Tryz.results137,go_sem]) rfl ⟨⟨3,rfl,λ_=>rfl⟩,?_,?_⟩
    ·rw[if_pos i.out];exact⟨C,xN.none⟩
    ·refine dX.ofBelow ?_;rw[<-H.out];exact t.trans ((o.trans (show GO w0.heap.size wr (wr.drewN nq) from ⟨rfl,rfl,rfl,GG _,λ_ _=>rfl⟩)).mono (Iq f))
   ·have B:(x==e.nm)=false:=by simpa using y
    have hn2:Hid (∀ j,j<k+1->b[j]?≠GF e.nm):=by
     intro j n;rcases Nat.lt_succ_iff_lt_or_eq.1 n with h1|rfl
     ·exact c.out j h1
     ·rw[z.out];intro h2;injection h2 with h2
      exact y h2
    clear c z y;go_wp2_with fail
    go_quiet (fail)
    have T:=o.trans (show GO w0.heap.size wr (wr.drewN nq) from ⟨rfl,rfl,rfl,GG _,λ_ _=>rfl⟩);go_wp2;go_roundw
    case rel=>exact⟨k+1,by omega,by go_num,hn2,T⟩
    case measure=>simp[Hl];omega
  ·obtain rfl:k=b.length:=by omega
   have i:Hid (¬e.nm ∈ b):=by
    intro h1;obtain⟨j,n,h2⟩:=List.mem_iff_getElem.1 h1;exact c.out j n (by rw[GM n,h2])
   have c1:=wO wr wb (.slice P b.length s) 130 e.a (by decide) ⟨C,xN.none⟩;clear c F;go_wp2_with fail;refine c1.mono ?_;rintro x w3 ⟨rfl,Q,R⟩;clear c1 p0 p1 p2 p3 p4 L K J q2 I;go_wp2;refine GK (v:=.int .i64 0) (by simp[results,Tryz.results137,go_sem]) rfl ⟨⟨0,rfl,λh=>absurd h i.out⟩,?_,?_⟩
   ·rw[if_neg i.out];exact Q
   ·refine(dX.ofBelow ?_).trans R;rw[<-H.out];exact t.trans (o.mono (Iq f))
theorem rC (n:Int)(w:GI):GV GH 140 #[.int .i64 n] w λx w'=>x=.returned (.int .i64 (jQ n))/\w'=w:=by
 unfold jQ;by_cases h1:n=1
 ·subst h1;go_enter Tryz.func140,Tryz.ntmps140;go_wp2;go_ret;exact⟨rfl,rfl⟩
 ·by_cases h2:n=2
  ·subst h2;go_enter Tryz.func140,Tryz.ntmps140;go_wp2;go_ret;exact⟨rfl,rfl⟩
  ·rw[if_neg (by omega)];have b1:(n==1)=false:=by simpa using h1
   have b2:(n==2)=false:=by simpa using h2
   by_cases a:n=10
   ·subst a;go_enter Tryz.func140,Tryz.ntmps140;go_wp2;go_ret;exact⟨rfl,rfl⟩
   ·rw[if_neg a];have b3:(n==10)=false:=by simpa using a
    clear h1 h2 a;go_enter Tryz.func140,Tryz.ntmps140;go_wp2;go_ret;exact⟨rfl,rfl⟩
theorem yX (n:Int)(w:GI):GV GH 195 #[.int .i64 n] w λx w'=>x=.returned (.int .i64 (fC n))/\w'=w:=by
 unfold fC;by_cases h1:n<=3
 ·rw[if_pos h1];go_enter Tryz.func195,Tryz.ntmps195;go_wp2;go_ret;exact⟨rfl,rfl⟩
 ·rw[if_neg h1];go_enter Tryz.func195,Tryz.ntmps195;go_wp2;go_ret;exact⟨rfl,rfl⟩
theorem qQ (n:Int)(w:GI):GV GH 177 #[.int .i64 n] w λx w'=>x=.returned (.int .i64 (fq n))/\w'=w:=by
 unfold fq;by_cases h1:n<=2
 ·rw[if_pos h1];go_enter Tryz.func177,Tryz.ntmps177;go_wp2;go_ret;exact⟨rfl,rfl⟩
 ·rw[if_neg h1];go_enter Tryz.func177,Tryz.ntmps177;go_wp2;go_ret;exact⟨rfl,rfl⟩
structure pG (N:Nat)(e:Ex)(nb:Nat):Prop where
 sz:e.kids.size<N
 ok:e.okA
 st:eM e.k=false
 sk:e.kids.stk (e.k==21)
 len:e.kids.len<=1000000000
 sh:e.kids.short
 bl:nb+e.kids.size<=3000
def fm (w:GI)(wb:Nat)(bv:GN)(r:Sum (Nat × Int) Int)(x:IL)(w':GI):Prop :=
 (∃a,x=.returned (.int .i64 a)/\∀ k,r=.inr k->a=k)/\Wk w' wb bv (stS r)/\dX wb w w'
def mV (N:Nat):Prop:=∀ (e:Ex) (ao:Option Ha) (cap wb:Nat) (bv:GN) (b:List (List UInt8)) (w:GI),pG N e b.length->Wk w wb bv GE->Nmk wb w bv b->Sl w (Nf wb) e.kids ao ->
 GV GH 88 #[.pointer (GF ⟨wb,0,GE⟩),exV e ao cap] w (fm w wb bv (eW e b))
def pc (w:GI)(wb:Nat)(bv:GN)(st:Er)(x:IL)(w':GI):Prop:=x=.returned (.tuple #[])/\Wk w' wb bv st/\dX wb w w'
theorem Sl.belowF {a:Nat}{w w':GI}{f:Fs}{ao:Option Ha}(h:Sl w (Nf a) f ao)(b:GO w.heap.size w w'):Sl w' (Nf a) f ao:=h.mono (λi _ c=>b.block i c) b.size (λ_ h _=>h)
theorem Nmk.below {wb:Nat}{w w':GI}{v:GN}{b:List (List UInt8)}(h:Nmk wb w v b)(B:GO w.heap.size w w'):Nmk wb w' v b:=⟨h.1.below B,h.2⟩
theorem Wk.below {w w':GI}{wb:Nat}{bv:GN}{st:Er}(h:Wk w wb bv st)(B:GO w.heap.size w w'):Wk w' wb bv st:=⟨(B.block _ (GJ h.blk)).trans h.blk,h.ok⟩
theorem dX.bel {rb:Nat}{w a b:GI}(B:GO w.heap.size w a)(K:dX rb a b):dX rb w b:=(dX.ofBelow B).trans K
theorem jb {N:Nat}(P:mV N)(e:Ex)(ao:Option Ha)(cap wb:Nat)(bv:GN)(b:List (List UInt8))(m:Int)(st:Er)(w:GI)(s:pG N e b.length)(O:st=GE->m≠0)(h:Wk w wb bv st)(G:st=GE->Nmk wb w bv b)(S:Sl w (Nf wb) e.kids ao) :
  GV GH 138 #[.pointer (GF ⟨wb,0,GE⟩),exV e ao cap,.int .i64 m] w (pc w wb bv (eJ st m e b)):=by
 have o:GO w.heap.size w (w.alloc (zEx e ao cap)):=(GR _ w).alloc (GG _) _;have t:(w.alloc (zEx e ao cap)).heap[w.heap.size]?=GF (zEx e ao cap):=GL w _;have p:=h.below o;have A:=Sl.belowF S o;have L:=GJ h.blk;have N0:=λM=>(G M).below o;clear h G S;rw[dU];go_enter Tryz.func138,Tryz.ntmps138;go_upto_region 1 with fail;generalize w.alloc (zEx e ao cap)=w0 at *;obtain⟨bx,l⟩:=exq w.heap.size;have r:wb≠bx:=by omega
 rw[<-l] at t o ⊢;have J:Hid (bx=w.heap.size):=l;clear l;obtain⟨p0,p1,p2,p3,p4,E⟩:=dT t;obtain⟨D,i,q2,C⟩:=lo p.blk;cases st with
 | some z =>
  have K:=p.ok z rfl;obtain⟨er,F⟩:=z;simp only[erO,plO] at i q2 K;have j:((er:Int) != 0)=true:=by simp;omega
  have n:Hid (pc w wb bv (eJ (GF (er,F)) m e b) (.returned (.tuple #[])) w0):=⟨rfl,p,dX.ofBelow (by rw[<-J.out];exact o)⟩;clear p N0 A s;go_wp2
  go_end0
  exact n.out
 | none =>
  have Q:Hid (m≠0):=O rfl;simp only[erO,plO] at i q2;have c1:=P e ao cap wb bv b w0 s p (N0 rfl) A;rw[dU] at c1;go_wp2_with fail;refine c1.mono ?_;rintro x w1 ⟨⟨u,rfl,g⟩,f,B⟩;have R:=(B.block _ (GJ t) (Js r)).trans t;have q:dX wb w w1:=dX.bel (by rw[<-J.out];exact o) B;clear c1 p0 p1 p2 p3 p4 E D i q2 C p N0 A t o B;obtain⟨p0,p1,p2,p3,p4,E⟩:=dT R;obtain⟨D,i,q2,C⟩:=lo f.blk;cases d:eW e b with
  | inl z =>
   obtain⟨er,F⟩:=z;have y:=vm d;rw[d] at f i q2;simp only[stS,erO,plO] at i q2;have j:((er:Int)==0)=false:=by simp;omega
   have n:Hid (pc w wb bv (eJ GE m e b) (.returned (.tuple #[])) w1):=⟨rfl,by unfold eJ;simp only;rw[d];exact f,q⟩;clear f s d g y q;go_wp2
   go_end0
   exact n.out
  | inr k =>
   obtain rfl:=g k d;rw[d] at f i q2;simp only[stS,erO,plO] at i q2 f;by_cases c:u=m
   ·have j:(u != m)=false:=by simpa using c
    have n:Hid (pc w wb bv (eJ GE m e b) (.returned (.tuple #[])) w1):=by
     refine⟨rfl,?_,q⟩;unfold eJ;simp only;rw[d];simp only[ij];rw[if_neg (λh=>h.2 c)];exact f
    clear f s d g q c;go_wp2
    go_end0
    exact n.out
   ·have j:(u != m)=true:=by simpa using c
    have c2:=wO w1 wb bv 131 e.a (by decide) f;have v:Hid (eJ GE m e b=GF (131,e.a)):=by
     show _=_;unfold eJ;simp only;rw[d];simp only[ij];rw[if_pos ⟨Q.out,c⟩];rfl
    clear f s d g c;go_wp2_with fail;refine c2.mono ?_;rintro x w3 ⟨rfl,H,I⟩;have n:Hid (pc w wb bv (eJ GE m e b) (.returned (.tuple #[])) w3):=⟨rfl,by rw[v.out];exact H,q.trans I⟩;clear c2 H I q;go_wp2
    go_end0
    exact n.out
theorem hH {N:Nat}(P:mV N)(e x y:Ex)(ao:Option Ha)(cap wb:Nat)(bv:GN)(b:List (List UInt8))(m g:Int)(w:GI)(D:e.kids=Fs.ex x (Fs.ex y .nil))(X:pG N x b.length)(W:pG N y b.length)(G:m≠0)(h:Wk w wb bv GE)(F:Nmk wb w bv b)(S:Sl w (Nf wb) e.kids ao) :
  GV GH 139 #[.pointer (GF ⟨wb,0,GE⟩),exV e ao cap,.int .i64 m,.int .i64 g] w λz w'=>z=.returned (.int .i64 g)/\Wk w' wb bv (eJ (eJ GE m x b) m y b)/\dX wb w w':=by
 have d:e.kids.len=2:=by rw[D];rfl
 have R:Hid (e.kids=Fs.ex x (Fs.ex y .nil)):=D;have Z:Hid (e.kids.len=2):=d;clear D d;have j:GO w.heap.size w (w.alloc (.cells #[.int .i64 e.k,.int .i64 e.n,stv e.nm,.slice ao e.kids.len cap,.int .i64 e.a] 25)):=(GR _ w).alloc (GG _) _;have i:(w.alloc (.cells #[.int .i64 e.k,.int .i64 e.n,stv e.nm,.slice ao e.kids.len cap,.int .i64 e.a] 25)).heap[w.heap.size]?=GF (.cells #[.int .i64 e.k,.int .i64 e.n,stv e.nm,.slice ao e.kids.len cap,.int .i64 e.a] 25):=GL w _;have J:=h.below j;have B:=Sl.belowF S j;have Y:=GJ h.blk;have N0:=F.below j;clear h F S;rw[dU];go_enter Tryz.func139,Tryz.ntmps139;go_upto_region 1 with fail;generalize w.alloc (.cells #[.int .i64 e.k,.int .i64 e.n,stv e.nm,.slice ao e.kids.len cap,.int .i64 e.a] 25)=w0 at *;obtain⟨bx,f⟩:∃bx,bx=w.heap.size:=⟨_,rfl⟩;have l:wb≠bx:=by omega
 rw[<-f] at i j ⊢;have HB:Hid (bx=w.heap.size):=f;clear f;rw[Z.out] at i ⊢;obtain⟨p0,p1,p2,p3,p4,C⟩:=dT i;have p:Sl w0 (Nf wb) (Fs.nil.app (Fs.ex x (Fs.ex y .nil))) ao:=by rw[R.out] at B;exact B
 obtain⟨V,off,ak,ck,c,A,u,t,s,r,o⟩:=Sl.kidP p 0 rfl;subst c;simp only[IF,Hw] at A u t s r;have c1:=jb P x ak ck wb bv b m GE w0 X (λ_=>G) J (λ_=>N0) o;rw[dU] at c1;go_wp2_with fail;refine c1.mono ?_;rintro z w1 ⟨rfl,I,q⟩;have T:=(q.block _ (GJ i) (Js l)).trans i;have K:Sl w1 (Nf wb) ((Fs.ex x .nil).app (Fs.ex y .nil)) (GF ⟨V,off,GE⟩):=by
  have:=Sl.keepF B q
  rw[R.out] at this;exact this
 have L:=N0.keep q;have M:dX wb w w1:=dX.bel (by rw[<-HB.out];exact j) q;clear c1 p0 p1 p2 p3 p4 C A u t s r o p B J N0 i j q;obtain⟨p0,p1,p2,p3,p4,C⟩:=dT T;obtain⟨U,E,ak,ck,c,A,u,t,s,r,o⟩:=Sl.kidP K 1 rfl;injection c with c
 injection c with h1 h2
 subst h1;subst h2;have c2:=jb P y ak ck wb bv b m _ w1 W (λ_=>G) I (λ_=>L) o;rw[dU] at c2;go_wp2_with fail;refine c2.mono ?_;rintro z w2 ⟨rfl,H,O⟩;have Q:Hid (Wk w2 wb bv (eJ (eJ GE m x b) m y b)/\dX wb w w2):=⟨H,M.trans O⟩;clear c2 H O M p0 p1 p2 p3 p4 C A u t s r o K I L T;go_wp2;refine GK (v:=.int .i64 g) (by simp[results,Tryz.results139,go_sem]) rfl ⟨rfl,Q.out.1,Q.out.2⟩
theorem sX:∀ {x y:Fs},(x.app y).okA->y.okA
 | ⟨GE⟩,y,h=>h
 | ⟨GF ⟨k,n,nm,a,ks,r⟩⟩,y,h=>sX h.2.2
theorem na:∀ (x:Fs),x.app .nil=x
 | ⟨GE⟩=>rfl
 | ⟨GF ⟨k,n,nm,a,ks,r⟩⟩=>by simp only[Fs.app];rw[na r]
def Kds (N:Nat)(f:Fs)(nb:Nat):Prop:=∀ (d r:Fs) (y:Ex),f=d.app (Fs.ex y r)->pG N y nb
theorem Fs.app_stk:∀ {x y:Fs}{first:Bool},(x.app y).stk first->x.len≠0->y.stk false
 | ⟨GE⟩,y,first,h,b=>absurd rfl b
 | ⟨GF ⟨k,n,nm,a,ks,⟨GE⟩⟩⟩,y,first,h,b=>h.2.2
 | ⟨GF ⟨k,n,nm,a,ks,⟨GF r⟩⟩⟩,y,first,h,b=>Fs.app_stk (x:=⟨GF r⟩) h.2.2 (by simp[Fs.len])
theorem Fs.app_stkF {x y:Fs}(h:(x.app y).stk false):y.stk false:=by
 by_cases b:x.len=0
 ·cases x using Fs.on with
  | nil=>exact h
  | cons k n nm a ks r=>simp[Fs.len] at b
 ·exact Fs.app_stk h b
theorem Kds.of {N:Nat}{f:Fs}{nb:Nat}(g:f.size<=N)(c:f.okA)(a:f.stk false)(b:f.short)(e:nb+f.size<=3000):Kds N f nb:=by
 intro d r y h;subst h;rw[Fs.size_app,rJ] at g e;have h1:=Fs.app_short b;have h2:=Fs.app_stkF a;have i:=sX c;exact⟨by omega,(pt i).1,h2.1,h2.2.1,h1.2.1,h1.2.2.1,by omega⟩
theorem Cz {N:Nat}(IH:mV N)(e s x:Ex)(ao:Option Ha)(cap wb:Nat)(bv:GN)(b:List (List UInt8))(w:GI)(X:e.kids=Fs.ex s (Fs.ex x .nil))(hs:Kds N s.kids b.length)(bh:s.kids.len<=1000000000)(hx:pG N x (b.length+1))(h:Wk w wb bv GE)(hn:Nmk wb w bv b)(S:Sl w (Nf wb) e.kids ao) :
  GV GH 141 #[.pointer (GF ⟨wb,0,GE⟩),exV e ao cap] w λz w'=>z=.returned (.int .i64 (fq e.n))/\Wk w' wb bv (eJ (il s.kids GE b) (fC e.n) x (b++[e.nm]))/\dX wb w w':=by
 obtain⟨ii,aD,af,ae,ad⟩:=ek sM;have ag:e.kids.len=2:=by rw[X];rfl
 have HK:Hid (e.kids=Fs.ex s (Fs.ex x .nil)):=X;have HL:Hid (e.kids.len=2):=ag;clear X ag;have B0:GO w.heap.size w (w.alloc (.cells #[.int .i64 e.k,.int .i64 e.n,stv e.nm,.slice ao e.kids.len cap,.int .i64 e.a] 25)):=(GR _ w).alloc (GG _) _;have E0:(w.alloc (.cells #[.int .i64 e.k,.int .i64 e.n,stv e.nm,.slice ao e.kids.len cap,.int .i64 e.a] 25)).heap[w.heap.size]?=GF (.cells #[.int .i64 e.k,.int .i64 e.n,stv e.nm,.slice ao e.kids.len cap,.int .i64 e.a] 25):=GL w _;have W0:=h.below B0;have S0:=Sl.belowF S B0;have bg:=GJ h.blk;have N0:=hn.below B0;clear h hn S;rw[dU];go_enter Tryz.func141,Tryz.ntmps141;go_upto_region 1 with fail;generalize w.alloc (.cells #[.int .i64 e.k,.int .i64 e.n,stv e.nm,.slice ao e.kids.len cap,.int .i64 e.a] 25)=w0 at *;obtain⟨bx,ap⟩:∃bx,bx=w.heap.size:=⟨_,rfl⟩;have m:wb≠bx:=by omega
 rw[<-ap] at E0 B0 ⊢;have HB:Hid (bx=w.heap.size):=ap;clear ap;rw[HL.out] at E0 ⊢;obtain⟨p0,p1,p2,p3,p4,P⟩:=dT E0;have aP:Sl w0 (Nf wb) (Fs.nil.app (Fs.ex s (Fs.ex x .nil))) ao:=by rw[HK.out] at S0;exact S0
 obtain⟨B,off,O,Z,y,W,V,U,T,R,SK⟩:=Sl.kidP aP 0 rfl;subst y;simp only[IF,Hw] at W V U T R
 -- the set's box
 have B1:GO w0.heap.size w0 (w0.alloc (.cells #[.int .i64 s.k,.int .i64 s.n,stv s.nm,.slice O s.kids.len Z,.int .i64 s.a] 25)):=(GR _ w0).alloc (GG _) _;have Z1:(w0.alloc (.cells #[.int .i64 s.k,.int .i64 s.n,stv s.nm,.slice O s.kids.len Z,.int .i64 s.a] 25)).heap[w0.heap.size]?=GF (.cells #[.int .i64 s.k,.int .i64 s.n,stv s.nm,.slice O s.kids.len Z,.int .i64 s.a] 25):=GL w0 _;have E1:=(B1.block _ (GJ E0)).trans E0;have W1:=W0.below B1;have N1:=N0.below B1;have S1:=Sl.belowF S0 B1;have aN:=Sl.belowF SK B1;have bc:wb<w0.heap.size:=GJ W0.blk;go_upto_region 2 with fail;generalize w0.alloc (.cells #[.int .i64 s.k,.int .i64 s.n,stv s.nm,.slice O s.kids.len Z,.int .i64 s.a] 25)=w1 at *;obtain⟨sb,aB⟩:∃sb,sb=w0.heap.size:=⟨_,rfl⟩;have ay:wb≠sb:=by omega
 rw[<-aB] at Z1 ⊢;have aV:GO bx w w1:=B0.trans (B1.mono (Iq (GJ E0)));clear aB p0 p1 p2 p3 p4 P W V U T R aP S0 W0 N0 E0 B0 B1 SK;go_wp2;go_loopw [6] (λv wr=>∃(d r:Fs),Hid (s.kids=d.app r)/\v=.int .i64 (d.len:Nat)/\Wk wr wb bv (il d GE b)/\dX wb w1 wr) (λv _=>s.kids.len-(Hl v).toNat)
 case atStart=>exact⟨.nil,s.kids,rfl,by show _=GX .i64 ((0:Nat):Int);rfl,W1,dX.refl _ _⟩
 case round =>
  obtain⟨d,r,hf,rfl,W2,Q⟩:=hrel;have C:s.kids.len=d.len+r.len:=by rw[hf.out,Fs.len_app]
  have Z2:=(Q.block _ (GJ Z1) (Js ay)).trans Z1;have E2:=(Q.block _ (GJ E1) (Js m)).trans E1;obtain⟨p0,p1,p2,p3,p4,P⟩:=dT Z2;cases r using Fs.on with
  | nil =>
   have aC:¬(d.len:Int)<(s.kids.len:Int):=by simp only[Fs.len] at C;omega
   have aG:s.kids=d:=by rw[hf.out];clear hf C aC W2;exact na d
   have D:Wk wr wb bv (il s.kids GE b):=by rw[aG];exact W2
   generalize aA:il s.kids GE b=st at D;have a8:Hid (il s.kids GE b=st):=aA;have N2:=N1.keep Q;have S2:=Sl.keepF S1 Q;have aS:dX wb w wr:=dX.bel (by rw[<-HB.out];exact aV) Q;obtain⟨⟨av,l,rfl,a3,hp⟩,aZ⟩:=N2;obtain⟨q0,q1,q2,qf⟩:=lo D.blk;clear hf C aG aA W2 N1 S1 aN Q W1 Z1 E1 aV hs;go_upto_region 8 with fail;go_cut [8] (λv wx=>∃a6 aI o',v=.slice a6 b.length aI/\Row wx o' 1 9 1 v b.length (b.map λx=>stv x)/\dQ I1n wr (λ_=>0) wx o')
   case first =>
    rcases hp with ⟨a5,rfl⟩|⟨g,rfl,hg,bd,J⟩
    ·subst a5;go_wp2;go_meet;exact⟨GE,0,λ_=>0,by first|rfl|simp,Row.nil _ _ _ _ _,dQ.refl _ _ _⟩
    ·have H:∀ j u,(b.map λx=>stv x)[j]?=GF u->wr.cell? ((⟨g,0,GE⟩:Ha).add j)=GF u:=λj u hj=>by
      rw[Ii] at hj;cases hb:b[j]? with
      | none=>rw[hb] at hj;cases hj
      | some t =>
       rw[hb] at hj;injection hj with hj
       subst hj;have h3:((⟨g,0,GE⟩:Ha).add j)=⟨g,j,GE⟩:=by simp[Je];exact Eq.symm
       rw[h3];exact J j t hb
     have o:∀ u ∈ (b.map λx=>stv x),u.oneCell'=true:=λu hu=>by
      obtain⟨x,_,rfl⟩:=List.mem_map.1 hu;rfl
     have a0:(b.map λx=>stv x).length=b.length:=List.length_map _;have a4:=hx.bl;generalize (b.map λx=>stv x)=xs at *;clear J;go_wp2_with (first|(at_builtin;refine eb rfl (.tmp 31) (.tmp 32) 40 rfl 9 ii (.string ⟨#[]⟩) 1 16 I7 aD af ae ad rfl (by decide) (λ_=>0) 1 _ 0 [] rfl (Row.nil _ _ _ _ _) ⟨g,0,GE⟩ b.length l xs rfl (by first|omega|(rw[a0];omega)) H o (by omega) ?c3 ?c4 ?_)|go_in)
     case c3=>unfold G5;omega
     case c4=>omega
     intro g7 c7 w7 o7 r7 s7;have HS:Hid (dQ I1n wr (λ_=>0) w7 o7/\Row w7 o7 1 9 1 (.slice (GF ⟨g7,0,GE⟩) b.length c7) b.length xs):=⟨s7,by simpa using r7⟩;clear s7 r7 H o;go_wp2;go_meet;exact⟨GF ⟨g7,0,GE⟩,c7,o7,by simp,HS.out.2,HS.out.1⟩
   case rest =>
    obtain⟨bj,be,o8,rfl,R8,s8⟩:=hcut;have B8:GO wr.heap.size wr wc:=s8.below (λ_ _=>by decide);have E8:=(B8.block _ (GJ E2)).trans E2;have W8:=D.below B8;have L8:Hid (∀ k,k<wr.heap.size->o8 k=0):=λk X=>s8.lab k X;have az:wb<wr.heap.size:=GJ D.blk;clear q0 q1 q2 qf p0 p1 p2 p3 p4 P;obtain⟨p0,p1,p2,p3,p4,P⟩:=dT E8;obtain⟨q0,q1,q2,qf⟩:=lo W8.blk;have am:=et (λ_=>False) wc o8 (.cells #[stv e.nm] 9);have aQ:=R8.step am id;have aY:wr.heap.size<=wc.heap.size:=B8.size;have aq:Hid (∀ k,k<wr.heap.size->dR wc o8 0 k=0):=λk X=>by rw[ed (by omega)];exact L8.out k X
    have a4:=hx.bl;have b1:b.length+1<=G5:=by unfold G5;omega
    have b2:(b.length+1)*16<=140737488355328:=by omega
    have o:∀ u ∈ [stv e.nm],u.oneCell'=true:=by intro u hu;simp at hu;subst hu;rfl
    go_upto_region 9 with fail;go_cut [] (λwx=>∃f i,Wk wx wb (.slice (GF ⟨f,0,GE⟩) (b.length+1) i) st/\Nmk wb wx (.slice (GF ⟨f,0,GE⟩) (b.length+1) i) (b++[e.nm])/\dX wb wr wx)
    case first =>
     go_wp2_with (first|(at_builtin;refine eb rfl (.tmp 35) (.tmp 38) 40 rfl 9 ii (.string ⟨#[]⟩) 1 16 I7 aD af ae ad rfl (by decide) (dR wc o8 0) 1 _ b.length (b.map λx=>stv x) rfl aQ ⟨wc.heap.size,0,GE⟩ 1 1 [stv e.nm] rfl rfl (fF wc _ _) o (by decide) b1 b2 ?_)|go_in);intro f i q ax an al;have au:GO wr.heap.size wr q:=nj (nj B8 am (λ_ _=>id) (GG _)) al (λk X=>by show ¬_=1;rw[aq.out k X];decide) (GG _);have ab:=D.below au;have aF:ax f=1:=an.2 f rfl;have G:ax wb=0:=(al.lab wb (by simp;omega)).trans (aq.out wb az);have aE:f≠wb:=by intro h;rw[h] at aF;omega
     have ah:Nms q (.slice (GF ⟨f,0,GE⟩) (b.length+1) i) (b++[e.nm]):=Nms.ofRow (by rw[JZ];exact an) (by simp) (by omega);have A:dX wb wr (q.setCell ⟨wb,0,GE⟩ (.slice (GF ⟨f,0,GE⟩) (b.length+1) i)):=(dX.ofBelow au).set ⟨wb,0,GE⟩ _ (.inr rfl);have HZ:Hid (Wk (q.setCell ⟨wb,0,GE⟩ (.slice (GF ⟨f,0,GE⟩) (b.length+1) i)) wb (.slice (GF ⟨f,0,GE⟩) (b.length+1) i) st/\Nmk wb (q.setCell ⟨wb,0,GE⟩ (.slice (GF ⟨f,0,GE⟩) (b.length+1) i)) (.slice (GF ⟨f,0,GE⟩) (b.length+1) i) (b++[e.nm])/\dX wb wr (q.setCell ⟨wb,0,GE⟩ (.slice (GF ⟨f,0,GE⟩) (b.length+1) i))):=by
      refine⟨⟨(CD ab.blk _).1,ab.ok⟩,Nmk.keep ⟨ah,λg off n c h=>by injection h with h1;injection h1 with h1;injection h1 with h1;rw[<-h1];exact aE⟩ ((dX.refl wb q).set ⟨wb,0,GE⟩ _ (.inr rfl)),A⟩
     obtain⟨t0,t1,t2,tf⟩:=lo ab.blk;clear al an au aF G aE ah A ab p0 p1 p2 p3 p4 P q0 q1 q2 qf;go_wp2;go_meet;exact⟨f,i,HZ.out.1,HZ.out.2.1,HZ.out.2.2⟩
    case rest =>
     obtain⟨f,i,aK,aR,A⟩:=hcut;have ac:=(A.block _ (GJ E2) (Js m)).trans E2;have aO:Sl wc (Nf wb) ((Fs.ex s .nil).app (.cons x.k x.n x.nm x.a x.kids .nil)) (GF ⟨B,off,GE⟩):=by
      have:=Sl.keepF S2 A
      rw[HK.out] at this;exact this
     have aj:=aS.trans A;clear p0 p1 p2 p3 p4 P q0 q1 q2 qf R8 s8 B8 E8 W8 L8 am aQ aY aq b1 b2 o E2 S2 D hp aZ a3 aS A Z2;obtain⟨p0,p1,p2,p3,p4,P⟩:=dT ac;obtain⟨bf,bb,ak,ck,y,p,I,W,V,U,T,R,SK⟩:=Sl.kidQ aO;injection y with y
     injection y with h1 h2
     subst h1;subst h2;simp only[Fs.len,Fs.ex,Ib,JK] at W V U T R;have L:=GJ ac;have aX:pG N x (b++[e.nm]).length:=by rw[Hb];exact hx
     have aH:fC e.n≠0:=by unfold fC;split<;>omega
     have M:GO wc.heap.size wc wc.drew:=⟨rfl,rfl,rfl,GG _,λ_ _=>rfl⟩;have c3:=jb IH x ak ck wb _ (b++[e.nm]) (fC e.n) st wc.drew aX (λ_=>aH) (aK.below M) (λ_=>aR.below M) (Sl.belowF SK M);rw[dU] at c3;have Y:=λwy=>yX e.n wy;obtain⟨bo,K⟩:∃bo,bo=fC e.n:=⟨_,rfl⟩;rw[<-K] at c3 Y;have a9:Hid (fC e.n=bo):=K.symm;clear K aH;go_upto_region 10 with fail;go_cut [] (λwx=>Wk wx wb (.slice (GF ⟨f,0,GE⟩) (b.length+1) i) (eJ st bo x (b++[e.nm]))/\dX wb wc wx)
     case first =>
      go_wp2_with fail;go_region_held3 (λwx=>wx.cell? ⟨bx,1,GE⟩=GF (.int .i64 e.n)/\wx.cell? ⟨bx,3,GE⟩=GF (.slice (GF ⟨B,off,GE⟩) 2 cap)/\wx.cell? ⟨B,off+5,GE⟩=GF (.int .i64 x.k)/\wx.cell? ⟨B,off+5+1,GE⟩=GF (.int .i64 x.n)/\wx.cell? ⟨B,off+5+2,GE⟩=GF (stv x.nm)/\wx.cell? ⟨B,off+5+3,GE⟩=GF (.slice ak x.kids.len ck)/\wx.cell? ⟨B,off+5+4,GE⟩=GF (.int .i64 x.a))
       (first|exact KA|go_keep)
       (first
        | (go_at_call 195;refine(Y _).mono ?_;rintro z w3 ⟨rfl,rfl⟩)
        | (go_at_call 138;refine c3.mono ?_;rintro z w3 ⟨rfl,W3,E⟩;have KA:w3.cell? ⟨bx,1,GE⟩=GF (.int .i64 e.n)/\w3.cell? ⟨bx,3,GE⟩=GF (.slice (GF ⟨B,off,GE⟩) 2 cap)/\w3.cell? ⟨B,off+5,GE⟩=GF (.int .i64 x.k)/\w3.cell? ⟨B,off+5+1,GE⟩=GF (.int .i64 x.n)/\w3.cell? ⟨B,off+5+2,GE⟩=GF (stv x.nm)/\w3.cell? ⟨B,off+5+3,GE⟩=GF (.slice ak x.kids.len ck)/\w3.cell? ⟨B,off+5+4,GE⟩=GF (.int .i64 x.a):=⟨(E.cell L (Js m) _).trans p1,(E.cell L (Js m) _).trans p3,(E.cell p I _).trans W,(E.cell p I _).trans V,(E.cell p I _).trans U,(E.cell p I _).trans T,(E.cell p I _).trans R⟩))
      all_goals (
       have HZ:Hid (Wk w3 wb (.slice (GF ⟨f,0,GE⟩) (b.length+1) i) (eJ st bo x (b++[e.nm]))/\dX wb wc w3):=⟨W3,dX.bel M E⟩;clear KA W3 E c3 Y;go_wp2;go_meet;exact HZ.out)
     case rest =>
      obtain⟨aa,ar⟩:=hcut;have aU:=(ar.block _ L (Js m)).trans ac;have ai:=aj.trans ar;have aJ:Wk (wc.setCell ⟨wb,0,GE⟩ (.slice av b.length l)) wb (.slice av b.length l) (eJ st bo x (b++[e.nm])):=⟨(CD aa.blk _).1,aa.ok⟩;have aT:=ai.trans ((dX.refl wb wc).set ⟨wb,0,GE⟩ (.slice av b.length l) (.inr rfl));have ba:=(GT wc ⟨wb,0,GE⟩ bx (.slice av b.length l) (Js m)).trans aU;obtain⟨q0,q1,q2,qf⟩:=lo aa.blk;clear c3 Y W V U T R SK aO p0 p1 p2 p3 p4 P aU ac aj ai ar aR aK M aa;go_upto_region 12 with fail;generalize wc.setCell ⟨wb,0,GE⟩ (.slice av b.length l)=aW at *;obtain⟨p0,p1,p2,p3,p4,P⟩:=dT ba;have c5:=qQ e.n aW;obtain⟨wo,G⟩:∃wo,wo=fq e.n:=⟨_,rfl⟩;rw[<-G] at c5;have a7:Hid (fq e.n=wo):=G.symm;clear G;go_wp2_with fail;refine c5.mono ?_;rintro z aw ⟨rfl,rfl⟩;have HZ:Hid (Wk aw wb (.slice av b.length l) (eJ st bo x (b++[e.nm]))/\dX wb w aw):=⟨aJ,aT⟩;clear c5 aJ aT;go_wp2;refine GK (v:=.int .i64 wo) (by simp[results,Tryz.results141,go_sem]) rfl ⟨by first|rfl|rw[a7.out],by rw[a8.out,a9.out];exact HZ.out.1,HZ.out.2⟩
  | cons kk kn km ka F kr =>
   have aC:(d.len:Int)<(s.kids.len:Int):=by simp only[Fs.len] at C;omega
   have bi:d.len<s.kids.len:=by simp only[Fs.len] at C;omega
   have aM:Sl wr (Nf wb) (d.app (Fs.ex ⟨kk,kn,km,ka,F⟩ kr)) O:=by
    have:=Sl.keepF aN Q
    rw[hf.out] at this;exact this
   obtain⟨gb,go,ak,ck,y,W,V,U,T,R,aL⟩:=Sl.kidP aM d.len rfl;subst y;have c1:=jb IH ⟨kk,kn,km,ka,F⟩ ak ck wb bv b 3 _ wr (hs d kr _ hf.out) (λ_=>by decide) W2 (λ_=>N1.keep Q) aL;rw[dU] at c1;simp only at c1 W V U T R;have a2:Hid (s.kids=(d.snoc ⟨kk,kn,km,ka,F⟩).app kr):=by show s.kids=_;rw[hf.out];unfold Fs.snoc;rw[Fs.app_assoc];rfl
   have a1:(d.len:Int)+1=((d.snoc ⟨kk,kn,km,ka,F⟩).len:Nat):=by rw[Fs.len_snoc];rfl
   clear hf C aM aL;go_wp2_with fail;refine c1.mono ?_;rintro z w3 ⟨rfl,W3,E⟩;have W4:Wk w3 wb bv (il (d.snoc ⟨kk,kn,km,ka,F⟩) GE b):=by rw[nd];exact W3
   have K4:=Q.trans E;clear c1 W3 E W2 Q p0 p1 p2 p3 p4 P W V U T R Z2 E2;go_wp2;go_roundw
   case rel=>exact⟨_,kr,a2,by rw[<-a1],W4,K4⟩
   case measure=>simp[Hl];omega
theorem fP {w w':GI}{wb:Nat}{bv:GN}{st:Er}{g:Int}{r:Sum (Nat × Int) Int}(a:r=gN st g)(W:Wk w' wb bv st)(K:dX wb w w'):fm w wb bv r (.returned (.int .i64 g)) w':=by
 subst a;cases st with
 | some x=>exact⟨⟨g,rfl,λk h=>by cases h⟩,W,K⟩
 | none=>exact⟨⟨g,rfl,λk h=>by injection h⟩,W,K⟩
theorem D2 {w w':GI}{wb:Nat}{bv:GN}{x:Nat × Int}{g:Int}{r:Sum (Nat × Int) Int}(a:r=.inl x)(W:Wk w' wb bv (GF x))(K:dX wb w w'):fm w wb bv r (.returned (.int .i64 g)) w':=by
 subst a;exact⟨⟨g,rfl,λk h=>by cases h⟩,W,K⟩
theorem rQ:∀ {f:Fs},f.len=0->f=.nil
 | ⟨GE⟩,_=>rfl
 | ⟨GF ⟨k,n,nm,a,ks,r⟩⟩,h=>by simp[Fs.len] at h
theorem Bb {n:Int}{nm:List UInt8}{a:Int}{b:List (List UInt8)}:eW ⟨4,n,nm,a,.nil⟩ b=if nm ∈ b then .inr 3 else .inl (130,a):=by
 unfold eW;by_cases h:nm ∈ b
 ·rw[if_neg (λh2=>h2.2 h),if_pos h];rfl
 ·rw[if_pos ⟨rfl,h⟩,if_neg h]
theorem pG.kids {N:Nat}{k n:Int}{nm:List UInt8}{a:Int}{f:Fs}{nb:Nat}(h:pG (N+1) ⟨k,n,nm,a,f⟩ nb)(b:k≠21):Kds N f nb :=
 Kds.of (by have:=h.sz;simp only at this;omega) h.ok.2 (by have:=h.sk;simp only at this;rw[show (k==21)=false by simpa using b] at this;exact this) h.sh (by have:=h.bl;simp only at this;omega)
theorem EH {w w':GI}{wb:Nat}{bv:GN}{b:List (List UInt8)}{n:Int}{nm:List UInt8}{a:Int}{r:Int}{x:Sum (Nat × Int) Int}(c:x=eW ⟨4,n,nm,a,.nil⟩ b)(d:nm ∈ b->r=3)(W:Wk w' wb bv (if nm ∈ b then GE else GF (130,a)))(K:dX wb w w'):fm w wb bv x (.returned (.int .i64 r)) w':=by
 subst c;rw[Bb];by_cases h:nm ∈ b
 ·rw[if_pos h] at W ⊢;obtain rfl:=d h;exact⟨⟨3,rfl,λk h=>by injection h⟩,W,K⟩
 ·rw[if_neg h] at W ⊢;exact⟨⟨r,rfl,λk h=>by cases h⟩,W,K⟩
theorem xJ {N:Nat}(X:mV N):mV (N+1):=by
 intro e ao cap wb bv b w i h hn S;obtain⟨k0,n,nm,a,f⟩:=e;have ab:=i.ok.1;have F:=Av ab;have c:=ab.2.2.1;have al:=i.st;simp only at F c al;have aK:k0=1\/k0=2\/k0=3\/k0=4\/k0=6\/k0=7\/k0=8\/k0=9\/k0=10\/k0=11\/k0=12\/k0=13\/k0=14\/k0=15\/k0=16\/k0=17\/k0=18\/k0=19\/k0=20\/k0=21:=by
  have h1:=Be F;have h2:k0≠22/\k0≠23/\k0≠24/\k0≠25:=by
   unfold eM at al;simp at al;omega
  omega
 obtain⟨W,hW⟩:=exq (eW ⟨k0,n,nm,a,f⟩ b);rw[<-hW];have A:Hid (W=eW ⟨k0,n,nm,a,f⟩ b):=hW;clear hW ab al;have Q:GO w.heap.size w (w.alloc (zEv k0 n nm ao f.len cap a)):=(GR _ w).alloc (GG _) _;have o:(w.alloc (zEv k0 n nm ao f.len cap a)).heap[w.heap.size]?=GF (zEv k0 n nm ao f.len cap a):=GL w _;have B:=h.below Q;have C:=Sl.belowF S Q;have aM:=GJ h.blk;have N0:=hn.below Q;clear h hn S;rw[dU];go_enter Tryz.func88,Tryz.ntmps88;go_upto_region 1 with fail;generalize w.alloc (zEv k0 n nm ao f.len cap a)=w0 at *;obtain⟨bx,ay⟩:=exq w.heap.size;have Z:wb≠bx:=by omega
 rw[<-ay] at o Q ⊢;have HB:Hid (bx=w.heap.size):=ay;clear ay;have g:dX wb w w0:=dX.ofBelow (by rw[<-HB.out];exact Q);simp only at C;rcases aK with rfl|rfl|rfl|rfl|rfl|rfl|rfl|rfl|rfl|rfl|rfl|rfl|rfl|rfl|rfl|rfl|rfl|rfl|rfl|rfl
 ·have D:f.len=0:=by simp[ew] at c;omega
  obtain rfl:=rQ D;have t:Hid (fm w wb bv W (.returned (.int .i64 1)) w0):=fP (st:=GE) (A.out.trans rfl) B g;obtain⟨p0,p1,p2,p3,p4,q⟩:=dT o;clear A i F c C B N0 o Q g;go_wp2;exact GK (v:=.int .i64 1) (by simp[results,Hx,go_sem]) rfl t.out
 ·have D:f.len=0:=by simp[ew] at c;omega
  obtain rfl:=rQ D;have t:Hid (fm w wb bv W (.returned (.int .i64 2)) w0):=fP (st:=GE) (A.out.trans rfl) B g;obtain⟨p0,p1,p2,p3,p4,q⟩:=dT o;clear A i F c C B N0 o Q g;go_wp2;exact GK (v:=.int .i64 2) (by simp[results,Hx,go_sem]) rfl t.out
 ·have D:f.len=0:=by simp[ew] at c;omega
  obtain rfl:=rQ D;have t:Hid (fm w wb bv W (.returned (.int .i64 3)) w0):=fP (st:=GE) (A.out.trans rfl) B g;obtain⟨p0,p1,p2,p3,p4,q⟩:=dT o;clear A i F c C B N0 o Q g;go_wp2;exact GK (v:=.int .i64 3) (by simp[results,Hx,go_sem]) rfl t.out
 ·have D:f.len=0:=by simp[ew] at c;omega
  obtain rfl:=rQ D;have c1:=λk=>Eo ⟨k,n,nm,a,.nil⟩ ao cap w0 wb bv b B N0 (by have:=i.bl;simp only at this;omega);simp only[dU] at c1;obtain⟨p0,p1,p2,p3,p4,q⟩:=dT o;clear i F c;go_wp2_with fail;refine(c1 _).mono ?_;rintro z w1 ⟨⟨r,rfl,h3⟩,m,j⟩;simp only at h3 m;have t:Hid (fm w wb bv W (.returned (.int .i64 r)) w1):=EH A.out h3 m (g.trans j);clear c1 m j h3 p0 p1 p2 p3 p4 q C B N0 o Q g A;go_wp2;exact GK (v:=.int .i64 r) (by simp[results,Hx,go_sem]) rfl t.out
 ·have D:f.len=1:=by simp[ew] at c;omega
  obtain⟨x,rfl⟩:=ut D;have E:=i.kids (by decide) .nil .nil x rfl;have p:Hid (W=gN (eJ GE 1 x b) 1):=A.out.trans (wD 1 1 (by decide) (by decide) rfl (by decide) rfl);obtain⟨p0,p1,p2,p3,p4,q⟩:=dT o;obtain⟨kb,off,ak,ck,l,K,J,I,H,G,O⟩:=Sl.kidP (x:=.nil) (r:=.nil) (y:=x) C 0 rfl;subst l;simp only[IF,Hw] at K J I H G;have M:(Fs.ex x .nil).len=1:=rfl;have c1:=jb X x ak ck wb bv b 1 GE w0 E (λ_=>by decide) B (λ_=>N0) O;rw[dU] at c1;clear A i F c;simp only[M] at p3 ⊢;go_wp2_with fail;refine c1.mono ?_;rintro z w1 ⟨rfl,m,j⟩;have t:Hid (fm w wb bv W (.returned (.int .i64 1)) w1):=fP p.out m (g.trans j);clear c1 m j p p0 p1 p2 p3 p4 q K J I H G O C B N0 o Q g;go_wp2;exact GK (v:=.int .i64 1) (by simp[results,Hx,go_sem]) rfl t.out
 ·have D:f.len=1:=by simp[ew] at c;omega
  obtain⟨x,rfl⟩:=ut D;have E:=i.kids (by decide) .nil .nil x rfl;have p:Hid (W=gN (eJ GE 2 x b) 2):=A.out.trans (wD 2 2 (by decide) (by decide) rfl (by decide) rfl);obtain⟨p0,p1,p2,p3,p4,q⟩:=dT o;obtain⟨kb,off,ak,ck,l,K,J,I,H,G,O⟩:=Sl.kidP (x:=.nil) (r:=.nil) (y:=x) C 0 rfl;subst l;simp only[IF,Hw] at K J I H G;have M:(Fs.ex x .nil).len=1:=rfl;have c1:=jb X x ak ck wb bv b 2 GE w0 E (λ_=>by decide) B (λ_=>N0) O;rw[dU] at c1;clear A i F c;simp only[M] at p3 ⊢;go_wp2_with fail;refine c1.mono ?_;rintro z w1 ⟨rfl,m,j⟩;have t:Hid (fm w wb bv W (.returned (.int .i64 2)) w1):=fP p.out m (g.trans j);clear c1 m j p p0 p1 p2 p3 p4 q K J I H G O C B N0 o Q g;go_wp2;exact GK (v:=.int .i64 2) (by simp[results,Hx,go_sem]) rfl t.out
 ·have D:f.len=2:=by simp[ew,gZ,iI] at c;omega
  obtain⟨x,y,rfl⟩:=jL D;have E:=i.kids (by decide) .nil (Fs.ex y .nil) x rfl;have P:=i.kids (by decide) (Fs.ex x .nil) .nil y rfl;have p:Hid (W=gN (eJ (eJ GE 1 x b) 1 y b) 1):=A.out.trans (iQ 1 1 (by decide) (by decide) rfl rfl (by decide) rfl);obtain⟨p0,p1,p2,p3,p4,q⟩:=dT o;have c1:=λk=>hH X ⟨k,n,nm,a,Fs.ex x (Fs.ex y .nil)⟩ x y ao cap wb bv b 1 1 w0 rfl E P (by decide) B N0 C;simp only[dU] at c1;clear A i F c;go_wp2_with fail;refine(c1 _).mono ?_;rintro z w1 ⟨rfl,m,j⟩;have t:Hid (fm w wb bv W (.returned (.int .i64 1)) w1):=fP p.out m (g.trans j);clear c1 m j p p0 p1 p2 p3 p4 q C B N0 o Q g;go_wp2;exact GK (v:=.int .i64 1) (by simp[results,Hx,go_sem]) rfl t.out
 ·have D:f.len=2:=by simp[ew,gZ,iI] at c;omega
  obtain⟨x,y,rfl⟩:=jL D;have E:=i.kids (by decide) .nil (Fs.ex y .nil) x rfl;have P:=i.kids (by decide) (Fs.ex x .nil) .nil y rfl;have p:Hid (W=gN (eJ (eJ GE 1 x b) 1 y b) 1):=A.out.trans (iQ 1 1 (by decide) (by decide) rfl rfl (by decide) rfl);obtain⟨p0,p1,p2,p3,p4,q⟩:=dT o;have c1:=λk=>hH X ⟨k,n,nm,a,Fs.ex x (Fs.ex y .nil)⟩ x y ao cap wb bv b 1 1 w0 rfl E P (by decide) B N0 C;simp only[dU] at c1;clear A i F c;go_wp2_with fail;refine(c1 _).mono ?_;rintro z w1 ⟨rfl,m,j⟩;have t:Hid (fm w wb bv W (.returned (.int .i64 1)) w1):=fP p.out m (g.trans j);clear c1 m j p p0 p1 p2 p3 p4 q C B N0 o Q g;go_wp2;exact GK (v:=.int .i64 1) (by simp[results,Hx,go_sem]) rfl t.out
 ·have D:f.len=2:=by simp[ew,gZ,iI] at c;omega
  obtain⟨x,y,rfl⟩:=jL D;have E:=i.kids (by decide) .nil (Fs.ex y .nil) x rfl;have P:=i.kids (by decide) (Fs.ex x .nil) .nil y rfl;have p:Hid (W=gN (eJ (eJ GE 1 x b) 1 y b) 1):=A.out.trans (iQ 1 1 (by decide) (by decide) rfl rfl (by decide) rfl);obtain⟨p0,p1,p2,p3,p4,q⟩:=dT o;have c1:=λk=>hH X ⟨k,n,nm,a,Fs.ex x (Fs.ex y .nil)⟩ x y ao cap wb bv b 1 1 w0 rfl E P (by decide) B N0 C;simp only[dU] at c1;clear A i F c;go_wp2_with fail;refine(c1 _).mono ?_;rintro z w1 ⟨rfl,m,j⟩;have t:Hid (fm w wb bv W (.returned (.int .i64 1)) w1):=fP p.out m (g.trans j);clear c1 m j p p0 p1 p2 p3 p4 q C B N0 o Q g;go_wp2;exact GK (v:=.int .i64 1) (by simp[results,Hx,go_sem]) rfl t.out
 ·have D:f.len=2:=by simp[ew,gZ,iI] at c;omega
  obtain⟨x,y,rfl⟩:=jL D;have E:=i.kids (by decide) .nil (Fs.ex y .nil) x rfl;have P:=i.kids (by decide) (Fs.ex x .nil) .nil y rfl;have p:Hid (W=gN (eJ (eJ GE 1 x b) 1 y b) 1):=A.out.trans (iQ 1 1 (by decide) (by decide) rfl rfl (by decide) rfl);obtain⟨p0,p1,p2,p3,p4,q⟩:=dT o;have c1:=λk=>hH X ⟨k,n,nm,a,Fs.ex x (Fs.ex y .nil)⟩ x y ao cap wb bv b 1 1 w0 rfl E P (by decide) B N0 C;simp only[dU] at c1;clear A i F c;go_wp2_with fail;refine(c1 _).mono ?_;rintro z w1 ⟨rfl,m,j⟩;have t:Hid (fm w wb bv W (.returned (.int .i64 1)) w1):=fP p.out m (g.trans j);clear c1 m j p p0 p1 p2 p3 p4 q C B N0 o Q g;go_wp2;exact GK (v:=.int .i64 1) (by simp[results,Hx,go_sem]) rfl t.out
 ·have D:f.len=2:=by simp[ew,gZ,iI] at c;omega
  obtain⟨x,y,rfl⟩:=jL D;have E:=i.kids (by decide) .nil (Fs.ex y .nil) x rfl;have P:=i.kids (by decide) (Fs.ex x .nil) .nil y rfl;have p:Hid (W=gN (eJ (eJ GE 1 x b) 1 y b) 1):=A.out.trans (iQ 1 1 (by decide) (by decide) rfl rfl (by decide) rfl);obtain⟨p0,p1,p2,p3,p4,q⟩:=dT o;have c1:=λk=>hH X ⟨k,n,nm,a,Fs.ex x (Fs.ex y .nil)⟩ x y ao cap wb bv b 1 1 w0 rfl E P (by decide) B N0 C;simp only[dU] at c1;clear A i F c;go_wp2_with fail;refine(c1 _).mono ?_;rintro z w1 ⟨rfl,m,j⟩;have t:Hid (fm w wb bv W (.returned (.int .i64 1)) w1):=fP p.out m (g.trans j);clear c1 m j p p0 p1 p2 p3 p4 q C B N0 o Q g;go_wp2;exact GK (v:=.int .i64 1) (by simp[results,Hx,go_sem]) rfl t.out
 ·have D:f.len=2:=by simp[ew,gZ,iI] at c;omega
  obtain⟨x,y,rfl⟩:=jL D;have E:=i.kids (by decide) .nil (Fs.ex y .nil) x rfl;have P:=i.kids (by decide) (Fs.ex x .nil) .nil y rfl;have p:Hid (W=(match eW x b with | .inl e=>.inl e | .inr k0=>gN (eJ GE k0 y b) 2)):=A.out.trans (mO (by decide));have L:=mu N x b;have ai:=E.sz;have aj:=E.ok;obtain⟨p0,p1,p2,p3,p4,q⟩:=dT o;obtain⟨kb,off,ak,ck,l,K,J,I,H,G,O⟩:=Sl.kidP (x:=.nil) (r:=Fs.ex y .nil) (y:=x) C 0 rfl;subst l;simp only[IF,Hw] at K J I H G;have M:(Fs.ex x (Fs.ex y .nil)).len=2:=rfl;have c1:=X x ak ck wb bv b w0 E B N0 O;rw[dU] at c1;clear A i F c;simp only[M] at p3 o ⊢;go_wp2_with fail;refine c1.mono ?_;rintro z w1 ⟨⟨k',rfl,R⟩,m,j⟩;have E1:=(j.block _ (GJ o) (Js Z)).trans o;have S1:=Sl.keepF C j;have N1:=N0.keep j;have T:=g.trans j;clear c1 p0 p1 p2 p3 p4 q K J I H G O C B N0 o Q g j;obtain⟨p0,p1,p2,p3,p4,q⟩:=dT E1;obtain⟨aq,ag,ak,ck,l,K,J,I,H,G,O⟩:=Sl.kidP (x:=Fs.ex x .nil) (r:=.nil) (y:=y) S1 1 rfl;injection l with l
  injection l with h1 h2
  subst h1;subst h2;simp only[JK] at K J I H G;have hm:stS (eW x b)=GE->k'≠0:=by
   intro hs;cases hc:eW x b with
   | inl z=>rw[hc] at hs;cases hs
   | inr U =>
    rw[R U hc];exact L U ai aj hc
  have c2:=jb X y ak ck wb bv b k' _ w1 P hm m (λ_=>N1) O;rw[dU] at c2;have aa:Hid (W=gN (eJ (stS (eW x b)) k' y b) 2):=by
   show W=_;rw[p.out];cases hc:eW x b with
   | inl z=>rfl
   | inr U=>rw[R U hc];rfl
  clear p hm L R ai aj;go_wp2_with fail;refine c2.mono ?_;rintro z w2 ⟨rfl,W2,Y⟩;have t:Hid (fm w wb bv W (.returned (.int .i64 2)) w2):=fP aa.out W2 (T.trans Y);clear c2 W2 Y aa p0 p1 p2 p3 p4 q K J I H G O S1 m N1 E1 T;go_wp2;exact GK (v:=.int .i64 2) (by simp[results,Hx,go_sem]) rfl t.out
 ·have D:f.len=2:=by simp[ew,gZ,iI] at c;omega
  obtain⟨x,y,rfl⟩:=jL D;have E:=i.kids (by decide) .nil (Fs.ex y .nil) x rfl;have P:=i.kids (by decide) (Fs.ex x .nil) .nil y rfl;have p:Hid (W=(match eW x b with | .inl e=>.inl e | .inr k0=>gN (eJ GE k0 y b) 2)):=A.out.trans (mO (by decide));have L:=mu N x b;have ai:=E.sz;have aj:=E.ok;obtain⟨p0,p1,p2,p3,p4,q⟩:=dT o;obtain⟨kb,off,ak,ck,l,K,J,I,H,G,O⟩:=Sl.kidP (x:=.nil) (r:=Fs.ex y .nil) (y:=x) C 0 rfl;subst l;simp only[IF,Hw] at K J I H G;have M:(Fs.ex x (Fs.ex y .nil)).len=2:=rfl;have c1:=X x ak ck wb bv b w0 E B N0 O;rw[dU] at c1;clear A i F c;simp only[M] at p3 o ⊢;go_wp2_with fail;refine c1.mono ?_;rintro z w1 ⟨⟨k',rfl,R⟩,m,j⟩;have E1:=(j.block _ (GJ o) (Js Z)).trans o;have S1:=Sl.keepF C j;have N1:=N0.keep j;have T:=g.trans j;clear c1 p0 p1 p2 p3 p4 q K J I H G O C B N0 o Q g j;obtain⟨p0,p1,p2,p3,p4,q⟩:=dT E1;obtain⟨aq,ag,ak,ck,l,K,J,I,H,G,O⟩:=Sl.kidP (x:=Fs.ex x .nil) (r:=.nil) (y:=y) S1 1 rfl;injection l with l
  injection l with h1 h2
  subst h1;subst h2;simp only[JK] at K J I H G;have hm:stS (eW x b)=GE->k'≠0:=by
   intro hs;cases hc:eW x b with
   | inl z=>rw[hc] at hs;cases hs
   | inr U =>
    rw[R U hc];exact L U ai aj hc
  have c2:=jb X y ak ck wb bv b k' _ w1 P hm m (λ_=>N1) O;rw[dU] at c2;have aa:Hid (W=gN (eJ (stS (eW x b)) k' y b) 2):=by
   show W=_;rw[p.out];cases hc:eW x b with
   | inl z=>rfl
   | inr U=>rw[R U hc];rfl
  clear p hm L R ai aj;go_wp2_with fail;refine c2.mono ?_;rintro z w2 ⟨rfl,W2,Y⟩;have t:Hid (fm w wb bv W (.returned (.int .i64 2)) w2):=fP aa.out W2 (T.trans Y);clear c2 W2 Y aa p0 p1 p2 p3 p4 q K J I H G O S1 m N1 E1 T;go_wp2;exact GK (v:=.int .i64 2) (by simp[results,Hx,go_sem]) rfl t.out
 ·have D:f.len=2:=by simp[ew,gZ,iI] at c;omega
  obtain⟨x,y,rfl⟩:=jL D;have E:=i.kids (by decide) .nil (Fs.ex y .nil) x rfl;have P:=i.kids (by decide) (Fs.ex x .nil) .nil y rfl;have p:Hid (W=gN (eJ (eJ GE 1 x b) 1 y b) 2):=A.out.trans (iQ 1 2 (by decide) (by decide) rfl rfl (by decide) rfl);obtain⟨p0,p1,p2,p3,p4,q⟩:=dT o;have c1:=λk=>hH X ⟨k,n,nm,a,Fs.ex x (Fs.ex y .nil)⟩ x y ao cap wb bv b 1 2 w0 rfl E P (by decide) B N0 C;simp only[dU] at c1;clear A i F c;go_wp2_with fail;refine(c1 _).mono ?_;rintro z w1 ⟨rfl,m,j⟩;have t:Hid (fm w wb bv W (.returned (.int .i64 2)) w1):=fP p.out m (g.trans j);clear c1 m j p p0 p1 p2 p3 p4 q C B N0 o Q g;go_wp2;exact GK (v:=.int .i64 2) (by simp[results,Hx,go_sem]) rfl t.out
 ·have D:f.len=2:=by simp[ew,gZ,iI] at c;omega
  obtain⟨x,y,rfl⟩:=jL D;have E:=i.kids (by decide) .nil (Fs.ex y .nil) x rfl;have P:=i.kids (by decide) (Fs.ex x .nil) .nil y rfl;have p:Hid (W=gN (eJ (eJ GE 1 x b) 1 y b) 2):=A.out.trans (iQ 1 2 (by decide) (by decide) rfl rfl (by decide) rfl);obtain⟨p0,p1,p2,p3,p4,q⟩:=dT o;have c1:=λk=>hH X ⟨k,n,nm,a,Fs.ex x (Fs.ex y .nil)⟩ x y ao cap wb bv b 1 2 w0 rfl E P (by decide) B N0 C;simp only[dU] at c1;clear A i F c;go_wp2_with fail;refine(c1 _).mono ?_;rintro z w1 ⟨rfl,m,j⟩;have t:Hid (fm w wb bv W (.returned (.int .i64 2)) w1):=fP p.out m (g.trans j);clear c1 m j p p0 p1 p2 p3 p4 q C B N0 o Q g;go_wp2;exact GK (v:=.int .i64 2) (by simp[results,Hx,go_sem]) rfl t.out
 ·have D:f.len=2:=by simp[ew,gZ,iI] at c;omega
  obtain⟨x,y,rfl⟩:=jL D;have E:=i.kids (by decide) .nil (Fs.ex y .nil) x rfl;have P:=i.kids (by decide) (Fs.ex x .nil) .nil y rfl;have p:Hid (W=gN (eJ (eJ GE 2 x b) 2 y b) 2):=A.out.trans (iQ 2 2 (by decide) (by decide) rfl rfl (by decide) rfl);obtain⟨p0,p1,p2,p3,p4,q⟩:=dT o;have c1:=λk=>hH X ⟨k,n,nm,a,Fs.ex x (Fs.ex y .nil)⟩ x y ao cap wb bv b 2 2 w0 rfl E P (by decide) B N0 C;simp only[dU] at c1;clear A i F c;go_wp2_with fail;refine(c1 _).mono ?_;rintro z w1 ⟨rfl,m,j⟩;have t:Hid (fm w wb bv W (.returned (.int .i64 2)) w1):=fP p.out m (g.trans j);clear c1 m j p p0 p1 p2 p3 p4 q C B N0 o Q g;go_wp2;exact GK (v:=.int .i64 2) (by simp[results,Hx,go_sem]) rfl t.out
 ·have D:f.len=2:=by simp[ew,gZ,iI] at c;omega
  obtain⟨x,y,rfl⟩:=jL D;have E:=i.kids (by decide) .nil (Fs.ex y .nil) x rfl;have P:=i.kids (by decide) (Fs.ex x .nil) .nil y rfl;have p:Hid (W=gN (eJ (eJ GE 2 x b) 2 y b) 2):=A.out.trans (iQ 2 2 (by decide) (by decide) rfl rfl (by decide) rfl);obtain⟨p0,p1,p2,p3,p4,q⟩:=dT o;have c1:=λk=>hH X ⟨k,n,nm,a,Fs.ex x (Fs.ex y .nil)⟩ x y ao cap wb bv b 2 2 w0 rfl E P (by decide) B N0 C;simp only[dU] at c1;clear A i F c;go_wp2_with fail;refine(c1 _).mono ?_;rintro z w1 ⟨rfl,m,j⟩;have t:Hid (fm w wb bv W (.returned (.int .i64 2)) w1):=fP p.out m (g.trans j);clear c1 m j p p0 p1 p2 p3 p4 q C B N0 o Q g;go_wp2;exact GK (v:=.int .i64 2) (by simp[results,Hx,go_sem]) rfl t.out
 ·have D:f.len=3:=by simp[ew] at c;omega
  obtain⟨x,y,u,rfl⟩:=BI D;have E:=i.kids (by decide) .nil (Fs.ex y (Fs.ex u .nil)) x rfl;have P:=i.kids (by decide) (Fs.ex x .nil) (Fs.ex u .nil) y rfl;have hu:=i.kids (by decide) (Fs.ex x (Fs.ex y .nil)) .nil u rfl;have p:Hid (W=(match eJ GE 2 x b with|some e=>.inl e|none=>match eW y b with | .inl e=>.inl e | .inr U=>gN (eJ GE U u b) U)):=A.out.trans pj;have L:=mu N y b;have aA:=P.sz;have aB:=P.ok;obtain⟨p0,p1,p2,p3,p4,q⟩:=dT o;obtain⟨kb,off,ak,ck,l,K,J,I,H,G,O⟩:=Sl.kidP (x:=.nil) (r:=Fs.ex y (Fs.ex u .nil)) (y:=x) C 0 rfl;subst l;simp only[IF,Hw] at K J I H G;have M:(Fs.ex x (Fs.ex y (Fs.ex u .nil))).len=3:=rfl;have c1:=jb X x ak ck wb bv b 2 GE w0 E (λ_=>by decide) B (λ_=>N0) O;rw[dU] at c1;clear A i F c;simp only[M] at p3 o ⊢;go_wp2_with fail;refine c1.mono ?_;rintro z w1 ⟨rfl,m,j⟩;have E1:=(j.block _ (GJ o) (Js Z)).trans o;have S1:=Sl.keepF C j;have N1:=N0.keep j;have T:=g.trans j;clear c1 p0 p1 p2 p3 p4 q K J I H G O C B N0 o Q g j;obtain⟨p0,p1,p2,p3,p4,q⟩:=dT E1;obtain⟨q0,q1,q2,qf⟩:=lo m.blk;cases ae:eJ GE 2 x b with
  | some z =>
   rw[ae] at m q1 q2;have hz:=m.ok z rfl;obtain⟨er,pa⟩:=z;simp only[erO,plO] at q1 q2 hz;have aN:((er:Int) != 0)=true:=by simp;omega
   have t:Hid (fm w wb bv W (.returned (.int .i64 0)) w1):=D2 (by rw[p.out,ae]) m T;clear p L m T N1 S1 ae;go_wp2;exact GK (v:=.int .i64 0) (by simp[results,Hx,go_sem]) rfl t.out
  | none =>
   rw[ae] at m q1 q2;simp only[erO,plO] at q1 q2;have aI:Hid (W=(match eW y b with | .inl e=>.inl e | .inr U=>gN (eJ GE U u b) U)):=by show W=_;rw[p.out,ae]
   obtain⟨aq,ag,ak,ck,l,K,J,I,H,G,O⟩:=Sl.kidP (x:=Fs.ex x .nil) (r:=Fs.ex u .nil) (y:=y) S1 1 rfl;injection l with l
   injection l with h1 h2
   subst h1;subst h2;simp only[JK] at K J I H G;have c2:=X y ak ck wb bv b w1 P m N1 O;rw[dU] at c2;clear p ae;go_wp2_with fail;refine c2.mono ?_;rintro z w2 ⟨⟨k',rfl,R⟩,W2,Y⟩;have E2:=(Y.block _ (GJ E1) (Js Z)).trans E1;have S2:=Sl.keepF S1 Y;have N2:=N1.keep Y;have aH:=T.trans Y;clear c2 p0 p1 p2 p3 p4 q q0 q1 q2 qf K J I H G O S1 m N1 E1 T Y;obtain⟨p0,p1,p2,p3,p4,q⟩:=dT E2;obtain⟨aq,ag,ak,ck,l,K,J,I,H,G,O⟩:=Sl.kidP (x:=Fs.ex x (Fs.ex y .nil)) (r:=.nil) (y:=u) S2 2 rfl;injection l with l
   injection l with h1 h2
   subst h1;subst h2;simp only[Nat.reduceMul] at K J I H G;have hm:stS (eW y b)=GE->k'≠0:=by
    intro hs;cases hc:eW y b with
    | inl z=>rw[hc] at hs;cases hs
    | inr U =>
     rw[R U hc];exact L U aA aB hc
   have c3:=jb X u ak ck wb bv b k' _ w2 hu hm W2 (λ_=>N2) O;rw[dU] at c3;have aa:Hid (W=gN (eJ (stS (eW y b)) k' u b) k'):=by
    show W=_;rw[aI.out];cases hc:eW y b with
    | inl z=>rfl
    | inr U=>rw[R U hc];rfl
   clear aI hm L R aA aB;go_wp2_with fail;refine c3.mono ?_;rintro z w3 ⟨rfl,W3,K3⟩;have t:Hid (fm w wb bv W (.returned (.int .i64 k')) w3):=fP aa.out W3 (aH.trans K3);clear c3 W3 K3 aa p0 p1 p2 p3 p4 q K J I H G O S2 W2 N2 E2 aH;go_wp2;exact GK (v:=.int .i64 k') (by simp[results,Hx,go_sem]) rfl t.out
 ·have hs:=i.kids (by decide);have aw:=i.len;simp only at aw;have p:Hid (W=gN (il f GE b) (jQ n)):=by
   rcases F with F|⟨-,h1,h2⟩|⟨F,-⟩|⟨F,-⟩
   ·omega
   ·exact A.out.trans (zo h1 h2)
   ·omega
   ·omega
  obtain⟨p0,p1,p2,p3,p4,q⟩:=dT o;clear A i F c;go_upto_region 42 with fail;clear p0 p1 p2 p3 p4 q;go_loopw [7] (λv wr=>∃(d r:Fs),Hid (f=d.app r)/\v=.int .i64 (d.len:Nat)/\Wk wr wb bv (il d GE b)/\dX wb w0 wr) (λv _=>f.len-(Hl v).toNat)
  case atStart=>exact⟨.nil,f,rfl,by show _=GX .i64 ((0:Nat):Int);rfl,B,dX.refl _ _⟩
  case round =>
   obtain⟨d,r,hf,rfl,W2,Y⟩:=hrel;have af:f.len=d.len+r.len:=by rw[hf.out,Fs.len_app]
   have E2:=(Y.block _ (GJ o) (Js Z)).trans o;obtain⟨p0,p1,p2,p3,p4,q⟩:=dT E2;cases r using Fs.on with
   | nil =>
    have aC:¬(d.len:Int)<(f.len:Int):=by simp only[Fs.len] at af;omega
    have aD:f=d:=by rw[hf.out];clear hf af aC W2;exact na d
    have c2:=rC n wr;obtain⟨gv,ax⟩:=exq (jQ n);rw[<-ax] at c2;have t:Hid (fm w wb bv W (.returned (.int .i64 gv)) wr):=fP (by rw[p.out,aD,ax]) W2 (g.trans Y);clear p ax aD hf af W2 Y;go_wp2_with fail;refine c2.mono ?_;rintro z w3 ⟨rfl,rfl⟩;clear c2;go_wp2;exact GK (v:=.int .i64 gv) (by simp[results,Hx,go_sem]) rfl t.out
   | cons kk kn km ka ah kr =>
    have aC:(d.len:Int)<(f.len:Int):=by simp only[Fs.len] at af;omega
    have aO:d.len<f.len:=by simp only[Fs.len] at af;omega
    have aG:Sl wr (Nf wb) (d.app (Fs.ex ⟨kk,kn,km,ka,ah⟩ kr)) ao:=by
     have:=Sl.keepF C Y
     rw[hf.out] at this;exact this
    obtain⟨gb,go,ak,ck,l,K,J,I,H,G,aF⟩:=Sl.kidP aG d.len rfl;subst l;have c1:=jb X ⟨kk,kn,km,ka,ah⟩ ak ck wb bv b 3 _ wr (hs d kr _ hf.out) (λ_=>by decide) W2 (λ_=>N0.keep Y) aF;rw[dU] at c1;simp only at c1 K J I H G;have aL:Hid (f=(d.snoc ⟨kk,kn,km,ka,ah⟩).app kr):=by show f=_;rw[hf.out];unfold Fs.snoc;rw[Fs.app_assoc];rfl
    have aJ:(d.len:Int)+1=((d.snoc ⟨kk,kn,km,ka,ah⟩).len:Nat):=by rw[Fs.len_snoc];rfl
    clear hf af aG aF;go_wp2_with fail;refine c1.mono ?_;rintro z w3 ⟨rfl,W3,K3⟩;have W4:Wk w3 wb bv (il (d.snoc ⟨kk,kn,km,ka,ah⟩) GE b):=by rw[nd];exact W3
    have K4:=Y.trans K3;clear c1 W3 K3 W2 Y p0 p1 p2 p3 p4 q K J I H G E2;go_wp2;go_roundw
    case rel=>exact⟨_,kr,aL,by rw[<-aJ],W4,K4⟩
    case measure=>simp[Hl];omega
 ·have D:f.len=2:=by simp[ew] at c;omega
  obtain⟨s,x,rfl⟩:=jL D;have ab:=i.ok.2;have av:=i.sk;have au:=i.sz;have ad:=i.sh;have az:=i.bl;simp only at ab av au ad az;have V:(Fs.ex s (Fs.ex x .nil)).stk true:=av;have ac:=pt ab;have ap:=pt ac.2;simp only[rJ,Fs.size] at au az;have E:pG N x (b.length+1):=⟨by omega,ap.1,V.2.2.1,V.2.2.2.1,ad.2.2.2.2.1,ad.2.2.2.2.2.1,by omega⟩;have an:s.k≠21:=by
   intro h
   have:=V.1
   rw[h] at this;cases this
  have hs:Kds N s.kids b.length:=Kds.of (by omega) ac.1.2 (by have:=V.2.1;rw[show (s.k==21)=false by simpa using an] at this;exact this) ad.2.2.1 (by omega);have am:(s.k=22\/s.k=23)/\s.kids.len=0\/s.k=24/\s.kids.len=1\/s.k=25:=by
   have h1:=V.1;have h2:=ac.1.1.2.2.1;unfold eM at h1;simp at h1;rcases h1 with ((h1|h1)|h1)|h1<;>rw[h1] at h2<;>(simp[ew] at h2;omega)
  have aE:eW s b=gN (il s.kids GE b) 4:=wP am;have p:Hid (W=gN (eJ (il s.kids GE b) (fC n) x (b++[nm])) (fq n)):=by
   rcases F with F|⟨F,-⟩|⟨-,h1,-⟩|⟨F,-⟩
   ·omega
   ·omega
   ·exact A.out.trans (ys h1 aE)
   ·omega
  obtain⟨p0,p1,p2,p3,p4,q⟩:=dT o;have c1:=λk=>Cz X ⟨k,n,nm,a,Fs.ex s (Fs.ex x .nil)⟩ s x ao cap wb bv b w0 rfl hs ad.2.1 E B N0 C;simp only[dU] at c1;obtain⟨wo,ar⟩:=exq (fq n);rw[<-ar] at c1;clear A i F c ab av au ad az V ac ap E an hs am aE;go_wp2_with fail;refine(c1 _).mono ?_;rintro z w1 ⟨rfl,m,j⟩;have t:Hid (fm w wb bv W (.returned (.int .i64 wo)) w1):=fP (by rw[p.out,ar]) m (g.trans j);clear c1 m j p p0 p1 p2 p3 p4 q C B N0 o Q g ar;go_wp2;exact GK (v:=.int .i64 wo) (by simp[results,Hx,go_sem]) rfl t.out
theorem wu:∀ N,mV N
 | 0=>λe ao cap wb bv b w h=>absurd h.sz (Hv _)
 | N+1=>xJ (wu N)
structure Wt where
 t:List UInt8
 o:Nat
 q:Nat
abbrev Ow:=Option Wt
def eq (x:List UInt8):Ow->Ow
 | none=>GE
 | some s=>if 2000<s.t.length+x.length then GE else GF ⟨s.t++x,s.o,s.q⟩
def eB:Ow->Ow
 | none=>GE
 | some s=>if 64<s.o+1 then GE else GF ⟨s.t,s.o+1,s.q⟩
def gV:Ow->Ow
 | none=>GE
 | some s=>GF ⟨s.t,s.o-1,s.q⟩
def jV:Ow->Ow
 | none=>GE
 | some s=>if 4<s.q+1 then GE else GF ⟨s.t,s.o,s.q+1⟩
def sf:Ow->Ow
 | none=>GE
 | some s=>GF ⟨s.t,s.o,s.q-1⟩
def gj (s:St):Ow:=if sD s then GF ⟨s.t,s.a,s.b⟩ else GE
theorem oC (s:St):sD s=true ↔ s.t.length<=2000/\s.m<=64/\s.n<=4:=by
 unfold sD;simp only[Bool.not_eq_true',Bool.or_eq_false_iff,decide_eq_false_iff_not];omega
theorem gu {s:St}(h:s.t.length<=2000/\s.m<=64/\s.n<=4):gj s=GF ⟨s.t,s.a,s.b⟩:=by unfold gj;rw[if_pos ((oC s).2 h)]
theorem fK {s:St}(h:¬(s.t.length<=2000/\s.m<=64/\s.n<=4)):gj s=GE:=by unfold gj;rw[if_neg (λe=>h ((oC s).1 e))]
theorem eY (x:List UInt8)(s:St):eq x (gj s)=gj (s.lay x):=by
 by_cases h:s.t.length<=2000/\s.m<=64/\s.n<=4
 ·rw[gu h];by_cases h2:2000<s.t.length+x.length
  ·rw[fK (s:=s.lay x) (by simp only[St.lay,Hb];omega)];simp[eq,h2]
  ·rw[gu (s:=s.lay x) (by simp only[St.lay,Hb];omega)];simp[eq,h2,St.lay]
 ·rw[fK h,fK (s:=s.lay x) (by simp only[St.lay,Hb];omega)];rfl
theorem fG (s:St):eB (gj s)=gj s.ent:=by
 by_cases h:s.t.length<=2000/\s.m<=64/\s.n<=4
 ·rw[gu h];by_cases h2:64<s.a+1
  ·rw[fK (s:=s.ent) (by simp only[St.ent];omega)];simp[eB,h2]
  ·rw[gu (s:=s.ent) (by simp only[St.ent];omega)];simp[eB,h2,St.ent]
 ·rw[fK h,fK (s:=s.ent) (by simp only[St.ent];omega)];rfl
theorem jj (s:St):gV (gj s)=gj s.lea:=by
 by_cases h:s.t.length<=2000/\s.m<=64/\s.n<=4
 ·rw[gu h,gu (s:=s.lea) h];rfl
 ·rw[fK h,fK (s:=s.lea) h];rfl
theorem wI (s:St):jV (gj s)=gj s.qent:=by
 by_cases h:s.t.length<=2000/\s.m<=64/\s.n<=4
 ·rw[gu h];by_cases h2:4<s.b+1
  ·rw[fK (s:=s.qent) (by simp only[St.qent];omega)];simp[jV,h2]
  ·rw[gu (s:=s.qent) (by simp only[St.qent];omega)];simp[jV,h2,St.qent]
 ·rw[fK h,fK (s:=s.qent) (by simp only[St.qent];omega)];rfl
theorem Cw (s:St):sf (gj s)=gj s.qlea:=by
 by_cases h:s.t.length<=2000/\s.m<=64/\s.n<=4
 ·rw[gu h,gu (s:=s.qlea) h];rfl
 ·rw[fK h,fK (s:=s.qlea) h];rfl
def iF (k n:Int)(nm:List UInt8)(K:Sep->Ow->Ow)(s:Ow):Ow :=
 if k=1 then eq (II n) s
 else if k=2 then eq (Kc (n==1)) s
 else if k=3 then eq ([64]++II n) s
 else if k=4\/k=23 then eq nm s
 else if k=22 then eq [118,101,114,116,105,99,101,115] s
 else K (opS k) s
def kw (x y:List UInt8)(K:Sep->Ow->Ow)(s:Ow):Ow:=eq y (gV (K iY (eq x (eB s))))
def eL (k n:Int)(nm:List UInt8)(K:Sep->Ow->Ow)(s:Ow):Ow :=
 if k=7 then gV (K (λ_=>([110,111,116,32],3)) (eB s))
 else if k=6 then gV (K (λ_=>([45],7)) (eB s))
 else if k=19 then gV (K ifS (eB s))
 else if k=21 then sf (gV (K (quS n nm) (eB (jV s))))
 else if k=20 then kw [40] [41] K (eq (kt n) s)
 else if k=24 then kw [40] [41] K (eq [97,114,111,117,110,100] s)
 else if k=25 then kw [123] [125] K s
 else iF k n nm K s
def lr (k n:Int)(nm:List UInt8)(len:Nat)(set:Bool)(K:Sep->Ow->Ow)(s:Ow):Ow :=
 if (fh k n&&ft k nm&&ew k n len&&(eM k==set))=true then eL k n nm K s else GE
def oE (k n:Int)(nm:List UInt8)(len:Nat)(set:Bool)(asked:Nat)(K:Sep->Ow->Ow)(s:Ow):Ow :=
 if fZ k<asked then eq [41] (gV (lr k n nm len false K (eq [40] (eB s)))) else lr k n nm len set K s
def oFs:Fs->Bool->Sep->Nat->Ow->Ow
 | ⟨GE⟩,_,_,_,s=>s
 | ⟨GF ⟨k,n,nm,a,ks,r⟩⟩,first,f,i,s=>oFs r false f (i+1) (oE k n nm ks.len first (f i).2 (λg s=>oFs ks (k==21) g 0 s) (eq (f i).1 s))
def oEx (e:Ex)(set:Bool)(s:Ow):Ow:=lr e.k e.n e.nm e.kids.len set (λg s=>oFs e.kids (e.k==21) g 0 s) s
def okS:Fs->Bool->Bool
 | ⟨GE⟩,_=>true
 | ⟨GF ⟨k,n,nm,a,ks,r⟩⟩,first=>(fh k n&&ft k nm&&ew k n ks.len&&(eM k==first))&&okS ks (k==21)&&okS r false
theorem CO (s:St)(x y:List UInt8):(s.lay x).lay y=s.lay (x++y):=by simp[St.lay]
theorem pz {k n:Int}{m:Nat}(h:ew k n m=true)(a:k=1\/k=2\/k=3\/k=4\/k=22\/k=23):m=0:=by
 unfold ew at h;rcases a with rfl|rfl|rfl|rfl|rfl|rfl<;>simpa using h
theorem nY (s:St)(x:List UInt8):s.lea.lay x=(s.lay x).lea:=rfl
theorem tg {k n:Int}{nm:List UInt8}{K:Sep->St->St}{o:Sep->Ow->Ow}(h:∀ g s,(k=21->(g 0).2=0)->o g (gj s)=gj (K g s))(s:St):eL k n nm o (gj s)=gj (nt k n nm K s):=by
 unfold eL nt;by_cases i:k=7
 ·simp only[i,if_true];rw[fG,h _ _ (by omega),jj]
 ·by_cases j:k=6
  ·simp only[i,j,if_true,if_false];rw[if_neg (by omega),if_neg (by omega),fG,h _ _ (by omega),jj]
  ·by_cases a:k=19
   ·rw[if_neg i,if_neg j,if_pos a,if_neg i,if_neg j,if_pos a,fG,h _ _ (by omega),jj]
   ·by_cases e:k=21
    ·rw[if_neg i,if_neg j,if_neg a,if_pos e,if_neg i,if_neg j,if_neg a,if_pos e,wI,fG,h _ _ (λ_=>rfl),jj,Cw];rfl
    ·rw[if_neg i,if_neg j,if_neg a,if_neg e,if_neg i,if_neg j,if_neg a,if_neg e];by_cases f:k=20
     ·rw[if_pos f,if_pos f];unfold kw nu;rw[eY,fG,eY,h _ _ (by omega),jj,eY,nY]
     ·rw[if_neg f,if_neg f];by_cases c:k=24
      ·rw[if_pos c,if_pos c];unfold kw nu;rw[eY,fG,eY,h _ _ (by omega),jj,eY,nY]
      ·rw[if_neg c,if_neg c];by_cases b:k=25
       ·rw[if_pos b,if_pos b];unfold kw nu;rw[fG,eY,h _ _ (by omega),jj,eY,nY]
       ·rw[if_neg b,if_neg b];unfold iF tZ;by_cases h1:k=1
        ·rw[if_pos h1,if_pos h1,eY]
        ·rw[if_neg h1,if_neg h1];by_cases h2:k=2
         ·rw[if_pos h2,if_pos h2,eY]
         ·rw[if_neg h2,if_neg h2];by_cases m:k=3
          ·rw[if_pos m,if_pos m,eY,CO]
          ·rw[if_neg m,if_neg m];by_cases l:k=4\/k=23
           ·rw[if_pos l,if_pos l,eY]
           ·rw[if_neg l,if_neg l];by_cases d:k=22
            ·rw[if_pos d,if_pos d,eY]
            ·rw[if_neg d,if_neg d,h _ _ (by omega)]
theorem qA {k n:Int}{nm:List UInt8}{j:Sep->Ow->Ow}(a:∀ g s,(k=21->(g 0).2=0)->j g (gj s)=GE)(l:¬(k=1\/k=2\/k=3\/k=4\/k=22\/k=23))(s:St):eL k n nm j (gj s)=GE:=by
 unfold eL;by_cases c:k=7
 ·rw[if_pos c,fG,a _ _ (by omega)];rfl
 ·by_cases i:k=6
  ·rw[if_neg c,if_pos i,fG,a _ _ (by omega)];rfl
  ·by_cases b:k=19
   ·rw[if_neg c,if_neg i,if_pos b,fG,a _ _ (by omega)];rfl
   ·by_cases f:k=21
    ·rw[if_neg c,if_neg i,if_neg b,if_pos f,wI,fG,a _ _ (λ_=>rfl)];rfl
    ·rw[if_neg c,if_neg i,if_neg b,if_neg f];by_cases h:k=20
     ·rw[if_pos h];unfold kw;rw[eY,fG,eY,a _ _ (by omega)];rfl
     ·rw[if_neg h];by_cases e:k=24
      ·rw[if_pos e];unfold kw;rw[eY,fG,eY,a _ _ (by omega)];rfl
      ·rw[if_neg e];by_cases d:k=25
       ·rw[if_pos d];unfold kw;rw[fG,eY,a _ _ (by omega)];rfl
       ·rw[if_neg d];unfold iF;rw[if_neg (by omega),if_neg (by omega),if_neg (by omega),if_neg (by omega),if_neg (by omega),a _ _ (by omega)]
theorem qE {k n:Int}{nm:List UInt8}{K:Sep->Ow->Ow}(a:∀ g,K g GE=GE):eL k n nm K GE=GE:=by
 simp only[eL,kw,iF,eB,eq,jV,a,gV,sf];simp only[ite_self]
theorem Fe {k n:Int}{nm:List UInt8}{len asked:Nat}{set:Bool}{K:Sep->Ow->Ow}(a:∀ g,K g GE=GE):oE k n nm len set asked K GE=GE:=by
 have h:∀ b,lr k n nm len b K GE=GE:=λb=>by unfold lr;rw[qE a,ite_self]
 unfold oE;rw[h];simp only[eB,eq,h,gV,ite_self]
theorem mx:∀ (f:Fs) (b:Bool) (g:Sep) (i:Nat),oFs f b g i GE=GE
 | ⟨GE⟩,b,g,i=>rfl
 | ⟨GF ⟨k,n,nm,a,ks,r⟩⟩,b,g,i=>by
  simp only[oFs,eq];rw[Fe (λg=>mx ks (k==21) g 0)];exact mx r false g (i+1)
theorem GD {k:Int}(h:eM k=true):fZ k=8:=by
 unfold eM at h;simp only[I0,beq_iff_eq] at h;rcases h with ((rfl|rfl)|rfl)|rfl<;>rfl
theorem oB:∀ (f:Fs) (first:Bool) (g:Sep) (i:Nat) (s:St),(first=true->(g i).2=0)->oFs f first g i (gj s)=bif okS f first then gj (wFs f g i s) else GE
 | ⟨GE⟩,first,g,i,s,h=>by simp only[oFs,okS,wFs,cond_true]
 | ⟨GF ⟨k,n,nm,a,ks,r⟩⟩,first,g,i,s,h=>by
  simp only[oFs,okS,wFs];rw[eY];have p:=λs=>oB r false g (i+1) s (λe=>by cases e);have part:∀ (set:Bool) (s:St),lr k n nm ks.len set (λg s=>oFs ks (k==21) g 0 s) (gj s)=if ((fh k n&&ft k nm&&ew k n ks.len&&(eM k==set))&&okS ks (k==21))=true then gj (nt k n nm (λg s=>wFs ks g 0 s) s) else GE:=λset s=>by
   unfold lr;by_cases b:(fh k n&&ft k nm&&ew k n ks.len&&(eM k==set))=true
   ·rw[if_pos b];by_cases d:okS ks (k==21)=true
    ·rw[if_pos (by rw[b,d];rfl)];exact tg (λg s l=>by
      show oFs ks (k==21) g 0 (gj s)=_;rw[oB ks (k==21) g 0 s (λe=>l (by simpa using e)),d,cond_true]) s
    ·rw[if_neg (by intro e;simp only[He] at e;exact d e.2)];refine qA (λg s l=>?_) ?_ s
     ·show oFs ks (k==21) g 0 (gj s)=_;rw[oB ks (k==21) g 0 s (λe=>l (by simpa using e)),show okS ks (k==21)=false by simpa using d,cond_false]
     ·intro t;have j:ew k n ks.len=true:=by simp only[He] at b;exact b.1.2
      have q:=pz j t;cases ks using Fs.on with
      | nil=>exact d (by simp only[okS])
      | cons _ _ _ _ _ _=>simp[Fs.len] at q
   ·rw[if_neg b,if_neg (by intro e;simp only[He] at e b;exact b e.1)]
  by_cases b:((fh k n&&ft k nm&&ew k n ks.len&&(eM k==first))&&okS ks (k==21))=true
  ·have o:oE k n nm ks.len first (g i).2 (λg s=>oFs ks (k==21) g 0 s) (gj (s.lay (g i).1))=gj (wE k n nm (g i).2 (λg s=>wFs ks g 0 s) (s.lay (g i).1)):=by
    unfold oE wE;by_cases c:fZ k<(g i).2
    ·have m:first=false:=by
      cases first with
      | false=>rfl
      | true=>have:=h rfl;omega
     subst m;rw[if_pos c,if_pos c,fG,eY,part,if_pos b,jj,eY,nY]
    ·rw[if_neg c,if_neg c,part,if_pos b]
   rw[o,p,b,Jq]
  ·rw[show ((fh k n&&ft k nm&&ew k n ks.len&&(eM k==first))&&okS ks (k==21))=false from Bool.eq_false_iff.2 b,Bool.false_and,cond_false];have o:oE k n nm ks.len first (g i).2 (λg s=>oFs ks (k==21) g 0 s) (gj (s.lay (g i).1))=GE:=by
    unfold oE;by_cases c:fZ k<(g i).2
    ·have m:first=false:=by
      cases first with
      | false=>rfl
      | true=>have:=h rfl;omega
     subst m;rw[if_pos c,fG,eY,part,if_neg b];rfl
    ·rw[if_neg c,part,if_neg b]
   rw[o];exact mx r false g (i+1)
theorem uP {a b:Nat}(h:¬a<=b):Nat.ble a b=false:=Bool.eq_false_iff.2 λe=>h (Nat.le_of_ble_eq_true e)
theorem uK:∀ (f:Fs) (first:Bool) (c:Nat),c<=2000->hFs f first c=bif okS f first&&Nat.ble (c+f.size) 2000 then GF (c+f.size) else GE
 | ⟨GE⟩,first,c,g=>by
  have h1:=Ke g;simp only[hFs,okS,Fs.size,Hw,h1,Jq,cond_true]
 | ⟨GF ⟨k,n,nm,a,ks,r⟩⟩,first,c,g=>by
  simp only[hFs,okS,Fs.size];by_cases d:eM k=first
  ·rw[if_neg (by simp[d])];by_cases h1:2000<c+1
   ·rw[if_pos h1,uP (show ¬c+(ks.size+r.size+1)<=2000 by omega),Bool.and_false,cond_false]
   ·rw[if_neg h1];by_cases b:(fh k n&&ft k nm&&ew k n ks.len)=true
    ·rw[if_pos b,uK ks (k==21) (c+1) (by omega),show (eM k==first)=true by simp[d],b,Jq,Jq];by_cases e:okS ks (k==21)=true
     ·rw[e,Jq,Jq];by_cases h2:c+1+ks.size<=2000
      ·rw[Ke h2,cond_true];simp only;rw[uK r false (c+1+ks.size) h2,show c+(ks.size+r.size+1)=c+1+ks.size+r.size by omega]
      ·rw[uP h2,cond_false,uP (show ¬c+(ks.size+r.size+1)<=2000 by omega),Bool.and_false,cond_false]
     ·rw[show okS ks (k==21)=false by simpa using e];simp
    ·rw[if_neg b,show (fh k n&&ft k nm&&ew k n ks.len)=false by simpa using b];simp
  ·rw[if_pos (by simpa using d),show (eM k==first)=false by simpa using d];simp
def pP:Fs->Sep->Nat->Nat
 | ⟨GE⟩,_,_=>0
 | ⟨GF ⟨_,_,_,_,_,r⟩⟩,g,i=>(g i).1.length+pP r g (i+1)
theorem md {f:Fs}{g:Sep}{i:Nat}(h:0<f.len):(g i).1.length<=pP f g i:=by
 cases f using Fs.on with
 | nil=>simp[Fs.len] at h
 | cons k n nm a ks r=>simp only[pP];omega
theorem BM {f:Fs}{g:Sep}{i:Nat}(h:1<f.len):(g (i+1)).1.length<=pP f g i:=by
 cases f using Fs.on with
 | nil=>simp[Fs.len] at h
 | cons k n nm a ks r =>
  have h2:0<r.len:=by simp only[Fs.len] at h;omega
  have:=md (g:=g) (i:=i+1) h2
  simp only[pP];omega
theorem Bj (n:Int):0<(II n).length:=by
 unfold II;split
 ·simp
 ·rw[Go.Lib.decDigits_length];exact Go.Lib.nDigits_pos _
theorem wa {k n:Int}{nm:List UInt8}{f:Fs}{K:Sep->St->St}(E:(fh k n&&ft k nm&&ew k n f.len)=true)(r:∀ g s,s.t.length+f.size+pP f g 0<=(K g s).t.length)(s:St):s.t.length+f.size+1<=(nt k n nm K s).t.length:=by
 simp only[He] at E;obtain⟨⟨J,C⟩,b⟩:=E;have a:(k=1\/k=2\/k=3\/k=4\/k=22\/k=23)->f.size=0:=λh=>by
  have:=pz b h
  cases f using Fs.on with
  | nil=>rfl
  | cons _ _ _ _ _ _=>simp[Fs.len] at this
 unfold nt;by_cases w:k=7
 ·rw[if_pos w];have l:0<f.len:=by rw[w] at b;simp[ew] at b;omega
  have h1:=r (λ_=>([110,111,116,32],3)) s.ent;have h2:=md (g:=λ_=>([110,111,116,32],3)) (i:=0) l;simp only[St.lea,St.ent,Hc,IK] at h1 h2 ⊢;omega
 rw[if_neg w];by_cases z:k=6
 ·rw[if_pos z];have l:0<f.len:=by rw[z] at b;simp[ew] at b;omega
  have h1:=r (λ_=>([45],7)) s.ent;have h2:=md (g:=λ_=>([45],7)) (i:=0) l;simp only[St.lea,St.ent,Hc,IK] at h1 h2 ⊢;omega
 rw[if_neg z];by_cases d:k=19
 ·rw[if_pos d];have l:0<f.len:=by rw[d] at b;simp[ew] at b;omega
  have h1:=r ifS s.ent;have h2:=md (g:=ifS) (i:=0) l;have v:(ifS 0).1.length=3:=rfl;simp only[St.lea,St.ent] at h1 ⊢;omega
 rw[if_neg d];by_cases c:k=21
 ·rw[if_pos c];have l:0<f.len:=by rw[c] at b;simp[ew] at b;omega
  have h1:=r (quS n nm) s.ent.qent;have h2:=md (g:=quS n nm) (i:=0) l;have v:1<=(quS n nm 0).1.length:=by simp[quS];omega
  simp only[St.lea,St.ent,St.qent,St.qlea] at h1 ⊢;omega
 rw[if_neg c];have j:∀ (x y:List UInt8) (s':St),1<=x.length->s'.t.length+f.size+1<=(nu x y K s').t.length:=λx y s' I=>by
  have h1:=r iY (s'.ent.lay x);simp only[nu,St.lea,St.lay,St.ent,Hb] at h1 ⊢;omega
 by_cases q:k=20
 ·rw[if_pos q]
  have:=j [40] [41] (s.lay (kt n)) (by simp)
  simp only[St.lay,Hb] at this ⊢;omega
 rw[if_neg q];by_cases o:k=24
 ·rw[if_pos o]
  have:=j [40] [41] (s.lay [97,114,111,117,110,100]) (by simp)
  simp only[St.lay,Hb] at this ⊢;omega
 rw[if_neg o];by_cases m:k=25
 ·rw[if_pos m];exact j [123] [125] s (by simp)
 rw[if_neg m];unfold tZ;by_cases h1:k=1
 ·rw[if_pos h1,a (.inl h1)]
  have:=Bj n
  simp only[St.lay,Hb];omega
 rw[if_neg h1];by_cases h2:k=2
 ·rw[if_pos h2,a (by omega)]
  have:0<(Kc (n==1)).length:=by cases (n==1)<;>decide
  simp only[St.lay,Hb];omega
 rw[if_neg h2];by_cases v:k=3
 ·rw[if_pos v,a (by omega)];simp only[St.lay,Hb,Hc,IK];omega
 rw[if_neg v];by_cases A:k=4\/k=23
 ·rw[if_pos A,a (by omega)]
  have:0<nm.length:=by
   have B:eE nm=true:=by
    unfold ft at C;rw[if_pos (by simp only[I0,beq_iff_eq];omega)] at C;exact C
   cases nm with
   | nil=>simp[eE] at B
   | cons _ _=>simp
  simp only[St.lay,Hb];omega
 rw[if_neg A];by_cases p:k=22
 ·rw[if_pos p,a (by omega)];simp only[St.lay,Hb,Hc,IK];omega
 rw[if_neg p];have u:(gZ k).isSome=true/\f.len=2:=by
  have h5:¬k=23:=λe=>A (.inr e);have D:¬k=4:=λe=>A (.inl e);have F:(gZ k).isSome=true/\(f.len:Int)=2:=by simpa [ew,h1,h2,v,h5,D,p,z,w,o,c,d,q,m] using b
  exact⟨F.1,by omega⟩
 have L:=r (opS k) s;have F:(opS k 1).1.length<=pP f (opS k) 0:=BM (i:=0) (by omega);have H:2<=(opS k 1).1.length:=by
  unfold opS;cases G:gZ k with
  | none=>rw[G] at u;cases u.1
  | some x=>simp
 omega
theorem Aj:∀ (f:Fs) (first:Bool) (g:Sep) (i:Nat) (s:St),okS f first=true->s.t.length+f.size+pP f g i<=(wFs f g i s).t.length
 | ⟨GE⟩,first,g,i,s,h=>by simp[Fs.size,pP,wFs]
 | ⟨GF ⟨k,n,nm,a,ks,r⟩⟩,first,g,i,s,h=>by
  simp only[okS,He] at h;obtain⟨⟨⟨b,j⟩,d⟩,c⟩:=h;have h1:=λs'=>wa (s:=s') (k:=k) (n:=n) (nm:=nm) (f:=ks) (K:=λg s=>wFs ks g 0 s) (by simp only[He];exact b) (λg s=>Aj ks _ g 0 s d);have h2:(s.lay (g i).1).t.length+ks.size+1<=(wE k n nm (g i).2 (λg s=>wFs ks g 0 s) (s.lay (g i).1)).t.length:=by
   unfold wE;split
   ·have:=h1 ((s.lay (g i).1).ent.lay [40])
    simp only[St.lea,St.lay,St.ent,Hb] at this ⊢;omega
   ·exact h1 _
  have e:=Aj r false g (i+1) (wE k n nm (g i).2 (λg s=>wFs ks g 0 s) (s.lay (g i).1)) c;simp only[wFs,Fs.size,pP,St.lay,Hb] at h2 e ⊢;omega
def refA (e:Ex):Option (List UInt8):=(oEx e false (GF ⟨[],0,0⟩)).map (·.t)
theorem EE:gj s0=GF ⟨[],0,0⟩:=rfl
theorem CG (e:Ex):refA e=jz e:=by
 unfold refA jz oEx lr;rw[<-EE];by_cases i:eM e.k=true
 ·rw[if_pos i,if_neg (by simp[i])];rfl
 ·have l:eM e.k=false:=by simpa using i
  rw[if_neg i];have p:hE e 0=if (fh e.k e.n&&ft e.k e.nm&&ew e.k e.n e.kids.len)=true then hFs e.kids (e.k==21) (0+1) else GE:=by unfold hE;rw[if_neg (by omega)]
  rw[p];by_cases a:(fh e.k e.n&&ft e.k e.nm&&ew e.k e.n e.kids.len)=true
  ·rw[if_pos (show (fh e.k e.n&&ft e.k e.nm&&ew e.k e.n e.kids.len&&(eM e.k==false))=true by rw[a,l];rfl),if_pos a,uK _ _ _ (by omega)];have q:wEx e 0 s0=nt e.k e.n e.nm (λg s=>wFs e.kids g 0 s) s0:=by unfold wEx wE;rw[if_neg (by omega)]
   by_cases b:okS e.kids (e.k==21)=true
   ·rw[tg (K:=λg s=>wFs e.kids g 0 s) (λg s o=>by
     show oFs e.kids (e.k==21) g 0 (gj s)=_;rw[oB e.kids (e.k==21) g 0 s (λe=>o (by simpa using e)),b,cond_true]) s0,b,Jq,<-q]
    by_cases j:sD (wEx e 0 s0)=true
    ·have m:=wa a (λg s=>Aj e.kids (e.k==21) g 0 s b) s0;rw[<-q] at m;have u:=(oC _).1 j;rw[show Nat.ble (0+1+e.kids.size) 2000=true from Ke (by omega),cond_true];simp only[gj,j,if_true];rfl
    ·rw[show gj (wEx e 0 s0)=GE from if_neg j];cases w:Nat.ble (0+1+e.kids.size) 2000 with
     | false=>rfl
     | true=>simp only[cond_true];rw[if_neg j];rfl
   ·have c:okS e.kids (e.k==21)=false:=by simpa using b
    rw[c,Bool.false_and,cond_false,qA (λg s o=>by
     show oFs e.kids (e.k==21) g 0 (gj s)=_;rw[oB e.kids (e.k==21) g 0 s (λe=>o (by simpa using e)),c,cond_false]) (λv=>by
      have d:ew e.k e.n e.kids.len=true:=by simp only[He] at a;exact a.2
      have r:=pz d v;cases f:e.kids using Fs.on with
      | nil=>rw[f] at b;exact b (by simp only[okS])
      | cons _ _ _ _ _ _=>rw[f] at r;simp[Fs.len] at r) s0]
    rfl
  ·rw[if_neg (show ¬(fh e.k e.n&&ft e.k e.nm&&ew e.k e.n e.kids.len&&(eM e.k==false))=true from λh=>a (by rw[He] at h;exact h.1)),if_neg a];rfl
def WR (w:GI)(o:Nat->Nat)(wb:Nat)(t:List UInt8)(b a:Int)(ok:Bool):Prop :=
 ∃v,Blk w o 1 wb (.cells #[v,.int .i64 b,.int .i64 a,.bool ok] 226 (0,0))/\Row w o 2 5 1 v t.length (byL t)
def WQ (w:GI)(o:Nat->Nat)(wb:Nat):Ow->Prop
 | some s=>WR w o wb s.t (s.o:Nat) (s.q:Nat) true/\s.t.length<=2000/\s.o<=64/\s.q<=4
 | none=>∃t c b,WR w o wb t c b false/\t.length<=2000
theorem WR.step {I:Nat->Prop}{w w':GI}{o o':Nat->Nat}{wb:Nat}{t:List UInt8}{b a:Int}{ok:Bool}(h:WR w o wb t b a ok)(s:dQ I w o w' o')(h1:¬I 1)(h2:¬I 2):WR w' o' wb t b a ok:=by
 obtain⟨v,d,c⟩:=h;exact⟨v,d.step s h1,c.step s h2⟩
theorem WQ.step {I:Nat->Prop}{w w':GI}{o o':Nat->Nat}{wb:Nat}{st:Ow}(h:WQ w o wb st)(s:dQ I w o w' o')(h1:¬I 1)(h2:¬I 2):WQ w' o' wb st:=by
 match st,h with
 | some x,h=>exact⟨h.1.step s h1 h2,h.2⟩
 | none,⟨t,b,a,h,c⟩=>exact⟨t,b,a,h.step s h1 h2,c⟩
theorem WQ.raw {w:GI}{o:Nat->Nat}{wb:Nat}{st:Ow}(h:WQ w o wb st):∃t b a ok,WR w o wb t b a ok/\t.length<=2000:=by
 match st,h with
 | some x,h=>exact⟨_,_,_,_,h.1,h.2.1⟩
 | none,⟨t,b,a,h,c⟩=>exact⟨t,b,a,_,h,c⟩
theorem WR.cells {w:GI}{o:Nat->Nat}{wb:Nat}{t:List UInt8}{b a:Int}{ok:Bool}(h:WR w o wb t b a ok):w.cell? ⟨wb,1,GE⟩=GF (.int .i64 b)/\w.cell? ⟨wb,2,GE⟩=GF (.int .i64 a)/\w.cell? ⟨wb,3,GE⟩=GF (.bool ok)/\∀ j,w.frozen? ⟨wb,j,GE⟩=false:=by
 obtain⟨v,c,e⟩:=h;obtain⟨c0,c1,c2,c3,d⟩:=Blk.cells4 c;exact⟨c1,c2,c3,d⟩
theorem WR.set {w:GI}{o:Nat->Nat}{wb:Nat}{t:List UInt8}{f e:Int}{ok:Bool}(h:WR w o wb t f e ok) :
  (∀ b,WR (w.setCell ⟨wb,1,GE⟩ (.int .i64 b)) o wb t b e ok)/\(∀ a,WR (w.setCell ⟨wb,2,GE⟩ (.int .i64 a)) o wb t f a ok)/\(∀ c,WR (w.setCell ⟨wb,3,GE⟩ (.bool c)) o wb t f e c):=by
 obtain⟨v,d,g⟩:=h;have s:∀ (j:Nat) (u:GN),dQ (λk=>k=1) w o (w.setCell ⟨wb,j,GE⟩ u) o:=λj u=>fj _ w o ⟨wb,j,GE⟩ u d.2;exact⟨λb=>⟨v,d.set 1 _,g.step (s 1 _) (by decide)⟩,λa=>⟨v,d.set 2 _,g.step (s 2 _) (by decide)⟩,λc=>⟨v,d.set 3 _,g.step (s 3 _) (by decide)⟩⟩
theorem WR.setS {w:GI}{o:Nat->Nat}{wb:Nat}{t:List UInt8}{b a:Int}{ok:Bool}(h:WR w o wb t b a ok)(j:Nat)(u:GN):dQ I12 w o (w.setCell ⟨wb,j,GE⟩ u) o:=by
 obtain⟨v,c,d⟩:=h;exact fj _ w o ⟨wb,j,GE⟩ u (.inl c.2)
def Ee (w:GI)(o:Nat->Nat)(wb:Nat)(t s:List UInt8)(c b:Int)(ok:Bool)(e:IL)(w':GI):Prop :=
 e=.returned (.tuple #[])/\∃o',dQ I12 w o w' o'/\((2000<t.length+s.length/\WR w' o' wb t c b false)\/(t.length+s.length<=2000/\WR w' o' wb (t++s) c b ok))
theorem tc {w:GI}{o:Nat->Nat}{wb:Nat}{t:List UInt8}{p n:Int}{ok:Bool}(s:List UInt8)(h:WR w o wb t p n ok)(I:t.length<=2000)(J:s.length<=1000000) :
  GV GH 229 #[.pointer (GF ⟨wb,0,GE⟩),stv s] w (Ee w o wb t s p n ok):=by
 have d:=h.set.2.2 false;have c:=h.setS 3 (.bool false);obtain⟨v,r,q⟩:=h;obtain⟨c0,c1,c2,c3,H⟩:=Blk.cells4 r;obtain⟨ao,cap,rfl⟩:=q.form;have E:=jB s;by_cases F:2000<t.length+s.length
 ·have z:(2000:Int)<(t.length:Int)+(s.length:Int):=by omega
  have j:Hid (∀ wx,wx=w.setCell ⟨wb,3,GE⟩ (.bool false)->Ee w o wb t s p n ok (.returned (.tuple #[])) wx):=λwx e=>by subst e;exact⟨rfl,o,c,.inl ⟨F,d⟩⟩
  clear d c r q;go_enter Tryz.func229,Tryz.ntmps229;go_wp2
  (try simp only[Jx,Exit.then])
  refine GK (I3 rfl _ _ _) rfl ?_;exact j.out _ rfl
 ·have z:¬(2000:Int)<(t.length:Int)+(s.length:Int):=by omega
  obtain⟨D,A,y,x,u⟩:=ek Ew;clear d c;go_enter Tryz.func229,Tryz.ntmps229;go_wp2_with (first|(at_builtin;refine mv rfl (.tmp 20) (.tmp 21) 147 9 rfl 5 D Jy IR A y x u o 2 _ t.length (byL t) rfl q ⟨s.toArray⟩ rfl ?c1 ?c2 ?_)|go_in)
  case c1=>unfold G5;omega
  case c2=>omega
  intro v' w' o' i c;obtain⟨b,a,rfl⟩:=i.form;have f:=r.step c (by decide);obtain⟨L,d1,d2,d3,K⟩:=Blk.cells4 f;have m:=f.set 0 (.slice b (t.length+s.length) a);have s2:=fj I12 w' o' ⟨wb,0,GE⟩ (.slice b (t.length+s.length) a) (.inl f.2);have C:=(c.mono (λk G=>(.inr G:I12 k))).trans s2;have B:dQ (λk=>k=1) w' o' (w'.setCell ⟨wb,0,GE⟩ (.slice b (t.length+s.length) a)) o':=fj _ w' o' ⟨wb,0,GE⟩ (.slice b (t.length+s.length) a) f.2;have g:=i.step B (by decide);rw[Dr] at g;have l:Row (w'.setCell ⟨wb,0,GE⟩ (.slice b (t.length+s.length) a)) o' 2 5 1 (.slice b (t.length+s.length) a) (t++s).length (byL (t++s)):=by
   rw[Hb];exact g
  have j:Hid (∀ wx,wx=w'.setCell ⟨wb,0,GE⟩ (.slice b (t.length+s.length) a)->Ee w o wb t s p n ok (.returned (.tuple #[])) wx):=λwx e=>by subst e;exact⟨rfl,o',C,.inr ⟨by omega,_,m,l⟩⟩
  clear g c s2 B i r q c0 c1 c2 c3 H m l C f;go_wp2
  go_end0
  exact j.out _ rfl
def iV (w:GI)(o:Nat->Nat)(wb:Nat)(st:Ow)(e:IL)(w':GI):Prop:=e=.returned (.tuple #[])/\∃o',WQ w' o' wb st/\dQ I12 w o w' o'
theorem fB {w:GI}{o:Nat->Nat}{wb:Nat}{st:Ow}(s:List UInt8)(h:WQ w o wb st)(g:s.length<=1000000) :
  GV GH 229 #[.pointer (GF ⟨wb,0,GE⟩),stv s] w (iV w o wb (eq s st)):=by
 match st,h with
 | some x,h =>
  refine(tc s h.1 h.2.1 g).mono ?_;rintro e w' ⟨rfl,o',a,f⟩;refine⟨rfl,o',?_,a⟩;rcases f with ⟨c,b⟩|⟨c,b⟩
  ·rw[show eq s (GF x)=GE by simp[eq,c]];exact⟨_,_,_,b,h.2.1⟩
  ·rw[show eq s (GF x)=GF ⟨x.t++s,x.o,x.q⟩ by simp[eq];omega];exact⟨b,by simp only[Hb];exact c,h.2.2⟩
 | none,⟨t,j,i,h,c⟩ =>
  refine(tc s h c g).mono ?_;rintro e w' ⟨rfl,o',a,f⟩;refine⟨rfl,o',?_,a⟩;rcases f with ⟨d,b⟩|⟨d,b⟩
  ·exact⟨_,_,_,b,c⟩
  ·exact⟨_,_,_,b,by simp only[Hb];exact d⟩
theorem WQ.ent {w:GI}{o:Nat->Nat}{wb:Nat}{st:Ow}(h:WQ w o wb st):∃a:Int,w.cell? ⟨wb,1,GE⟩=GF (.int .i64 a)/\(∀ j,w.frozen? ⟨wb,j,GE⟩=false)/\dQ I12 w o (w.setCell ⟨wb,1,GE⟩ (.int .i64 (Hs (a+1)))) o /\
  ((64<Hs (a+1)/\WQ ((w.setCell ⟨wb,1,GE⟩ (.int .i64 (Hs (a+1)))).setCell ⟨wb,3,GE⟩ (.bool false)) o wb (eB st))\/(¬64<Hs (a+1)/\WQ (w.setCell ⟨wb,1,GE⟩ (.int .i64 (Hs (a+1)))) o wb (eB st))):=by
 match st,h with
 | some x,h =>
  obtain⟨c1,c2,c3,f⟩:=h.1.cells;refine⟨_,c1,f,h.1.setS 1 _,?_⟩;have e:Hs ((x.o:Nat)+1)=((x.o+1:Nat):Int):=by have:=h.2.2.1;unfold Hs;omega
  have b:=h.1.set.1 (Hs ((x.o:Nat)+1));by_cases d:64<x.o+1
  ·refine .inl ⟨by rw[e];omega,?_⟩;rw[show eB (GF x)=GE by simp[eB,d]];exact⟨_,_,_,b.set.2.2 false,h.2.1⟩
  ·refine .inr ⟨by rw[e];omega,?_⟩;rw[show eB (GF x)=GF ⟨x.t,x.o+1,x.q⟩ by simp[eB,d]];rw[e] at b ⊢;exact⟨b,h.2.1,by show x.o+1<=64;omega,h.2.2.2⟩
 | none,⟨t,a,g,h,d⟩ =>
  obtain⟨c1,c2,c3,f⟩:=h.cells;refine⟨_,c1,f,h.setS 1 _,?_⟩;have b:=h.set.1 (Hs (a+1));by_cases c:64<Hs (a+1)
  ·exact .inl ⟨c,t,_,_,b.set.2.2 false,d⟩
  ·exact .inr ⟨c,t,_,_,b,d⟩
theorem WQ.qen {w:GI}{o:Nat->Nat}{wb:Nat}{st:Ow}(h:WQ w o wb st):∃a:Int,w.cell? ⟨wb,2,GE⟩=GF (.int .i64 a)/\(∀ j,w.frozen? ⟨wb,j,GE⟩=false)/\dQ I12 w o (w.setCell ⟨wb,2,GE⟩ (.int .i64 (Hs (a+1)))) o /\
  ((4<Hs (a+1)/\WQ ((w.setCell ⟨wb,2,GE⟩ (.int .i64 (Hs (a+1)))).setCell ⟨wb,3,GE⟩ (.bool false)) o wb (jV st))\/(¬4<Hs (a+1)/\WQ (w.setCell ⟨wb,2,GE⟩ (.int .i64 (Hs (a+1)))) o wb (jV st))):=by
 match st,h with
 | some x,h =>
  obtain⟨c1,c2,c3,f⟩:=h.1.cells;refine⟨_,c2,f,h.1.setS 2 _,?_⟩;have e:Hs ((x.q:Nat)+1)=((x.q+1:Nat):Int):=by have:=h.2.2.2;unfold Hs;omega
  have b:=h.1.set.2.1 (Hs ((x.q:Nat)+1));by_cases d:4<x.q+1
  ·refine .inl ⟨by rw[e];omega,?_⟩;rw[show jV (GF x)=GE by simp[jV,d]];exact⟨_,_,_,b.set.2.2 false,h.2.1⟩
  ·refine .inr ⟨by rw[e];omega,?_⟩;rw[show jV (GF x)=GF ⟨x.t,x.o,x.q+1⟩ by simp[jV,d]];rw[e] at b ⊢;exact⟨b,h.2.1,h.2.2.1,by show x.q+1<=4;omega⟩
 | none,⟨t,a,g,h,d⟩ =>
  obtain⟨c1,c2,c3,f⟩:=h.cells;refine⟨_,c2,f,h.setS 2 _,?_⟩;have b:=h.set.2.1 (Hs (g+1));by_cases c:4<Hs (g+1)
  ·exact .inl ⟨c,t,_,_,b.set.2.2 false,d⟩
  ·exact .inr ⟨c,t,_,_,b,d⟩
def Bal (st a:Ow):Prop:=∀ s',a=GF s'->∃s,st=GF s/\s'.o=s.o/\s'.q=s.q
theorem WQ.lea {w:GI}{o:Nat->Nat}{wb:Nat}{st:Ow}(h:WQ w o wb st)(c:∀ s,st=GF s->1<=s.o):∃a:Int,w.cell? ⟨wb,1,GE⟩=GF (.int .i64 a)/\(∀ j,w.frozen? ⟨wb,j,GE⟩=false)/\dQ I12 w o (w.setCell ⟨wb,1,GE⟩ (.int .i64 (Hs (a-1)))) o/\WQ (w.setCell ⟨wb,1,GE⟩ (.int .i64 (Hs (a-1)))) o wb (gV st):=by
 match st,h with
 | some x,h =>
  obtain⟨c1,c2,c3,b⟩:=h.1.cells;refine⟨_,c1,b,h.1.setS 1 _,?_⟩;have h1:=c x rfl;have e:Hs ((x.o:Nat)-1)=((x.o-1:Nat):Int):=by have:=h.2.2.1;unfold Hs;omega
  rw[e];exact⟨h.1.set.1 _,h.2.1,by show x.o-1<=64;have:=h.2.2.1;omega,h.2.2.2⟩
 | none,⟨t,a,f,h,d⟩ =>
  obtain⟨c1,c2,c3,b⟩:=h.cells;exact⟨_,c1,b,h.setS 1 _,t,_,_,h.set.1 _,d⟩
theorem WQ.qle {w:GI}{o:Nat->Nat}{wb:Nat}{st:Ow}(h:WQ w o wb st)(c:∀ s,st=GF s->1<=s.q):∃a:Int,w.cell? ⟨wb,2,GE⟩=GF (.int .i64 a)/\(∀ j,w.frozen? ⟨wb,j,GE⟩=false)/\dQ I12 w o (w.setCell ⟨wb,2,GE⟩ (.int .i64 (Hs (a-1)))) o/\WQ (w.setCell ⟨wb,2,GE⟩ (.int .i64 (Hs (a-1)))) o wb (sf st):=by
 match st,h with
 | some x,h =>
  obtain⟨c1,c2,c3,b⟩:=h.1.cells;refine⟨_,c2,b,h.1.setS 2 _,?_⟩;have h1:=c x rfl;have e:Hs ((x.q:Nat)-1)=((x.q-1:Nat):Int):=by have:=h.2.2.2;unfold Hs;omega
  rw[e];exact⟨h.1.set.2.1 _,h.2.1,h.2.2.1,by show x.q-1<=4;have:=h.2.2.2;omega⟩
 | none,⟨t,a,f,h,d⟩ =>
  obtain⟨c1,c2,c3,b⟩:=h.cells;exact⟨_,c2,b,h.setS 2 _,t,_,_,h.set.2.1 _,d⟩
theorem WQ.end {w:GI}{o:Nat->Nat}{wb:Nat}{st:Ow}(h:WQ w o wb st):w.cell? ⟨wb,3,GE⟩=GF (.bool st.isSome)/\(∀ j,w.frozen? ⟨wb,j,GE⟩=false)/\dQ I12 w o (w.setCell ⟨wb,3,GE⟩ (.bool false)) o/\WQ (w.setCell ⟨wb,3,GE⟩ (.bool false)) o wb GE:=by
 match st,h with
 | some x,h =>
  obtain⟨c1,c2,c3,a⟩:=h.1.cells;exact⟨c3,a,h.1.setS 3 _,_,_,_,h.1.set.2.2 false,h.2.1⟩
 | none,⟨t,d,c,h,b⟩ =>
  obtain⟨c1,c2,c3,a⟩:=h.cells;exact⟨c3,a,h.setS 3 _,_,_,_,h.set.2.2 false,b⟩
theorem jd {w:GI}{o:Nat->Nat}{wb:Nat}{st:Ow}(s:List UInt8)(h:WQ w o wb st)(p:s.length<=1000000) :
  GV GH 231 #[.pointer (GF ⟨wb,0,GE⟩),stv s] w (iV w o wb (eq s (eB st))):=by
 obtain⟨n,c1,l,d,q⟩:=h.ent;obtain⟨w1,a⟩:=exq (w.setCell ⟨wb,1,GE⟩ (.int .i64 (Hs (n+1))));have d1:w1.cell? ⟨wb,1,GE⟩=GF (.int .i64 (Hs (n+1))):=by rw[a];exact World.cell?_setCell_same _ _ _ c1
 have A:∀ j,w1.frozen? ⟨wb,j,GE⟩=false:=λj=>by rw[a];exact(World.frozen?_setCell ..).trans (l j)
 have d3:w1.cell? ⟨wb,3,GE⟩=GF (.bool st.isSome):=by rw[a];exact(World.cell?_setCell_other _ _ _ _ (by simp)).trans h.end.1
 rw[<-a] at q d;obtain⟨W,i⟩:=exq (eq s (eB st));rw[<-i];have f:Hid (W=eq s (eB st)):=i;clear i h;rcases q with ⟨y,b⟩|⟨y,b⟩
 ·have r:dQ I12 w o (w1.setCell ⟨wb,3,GE⟩ (.bool false)) o:=by
   obtain⟨t,u,B,ok,x,_⟩:=b.raw;refine d.trans ?_;obtain⟨v,z,_⟩:=x;exact fj _ w1 o ⟨wb,3,GE⟩ _ (.inl z.2)
  have c2:=fB s b p;rw[<-f.out] at c2;clear b d f;go_enter Tryz.func231,Tryz.ntmps231;go_upto_region 1 with fail;rw[<-a];clear a;go_upto_region 3 with fail;generalize w1.setCell ⟨wb,3,GE⟩ (.bool false)=w2 at *;clear d1 A d3 c1 l;go_wp2_with fail;refine c2.mono ?_;rintro e w3 ⟨rfl,g,k,c⟩;have m:=r.trans c;clear c2 r c;go_wp2
  go_end0
  exact⟨rfl,g,k,m⟩
 ·have c2:=fB s b p;rw[<-f.out] at c2;clear b f;go_enter Tryz.func231,Tryz.ntmps231;go_upto_region 1 with fail;rw[<-a];clear a c1 l;go_wp2_with fail;refine c2.mono ?_;rintro e w3 ⟨rfl,g,k,c⟩;have m:=d.trans c;clear c2 d c;go_wp2
  go_end0
  exact⟨rfl,g,k,m⟩
def grt (r:Nat):Bool:=decide (65<=r)&&decide (r<=90)
theorem ji (r:Nat)(w:GI)(a:r<256) :
  GV GH 95 #[.int .u8 (r:Nat)] w λe w'=>e=.returned (.bool (dig r))/\w'=w:=by
 by_cases h1:48<=r
 ·have g1:(48:Int)<=(r:Int):=by omega
  by_cases h2:r<=57
  ·have g2:(r:Int)<=57:=by omega
   have e0:dig r=true:=by simp[dig,h1,h2]
   rw[e0];clear e0;go_enter Tryz.func95,Tryz.ntmps95;go_wp2;go_ret;exact⟨rfl,rfl⟩
  ·have g2:¬(r:Int)<=57:=by omega
   have e0:dig r=false:=by simp[dig];omega
   rw[e0];clear e0;go_enter Tryz.func95,Tryz.ntmps95;go_wp2;go_ret;exact⟨rfl,rfl⟩
 ·have g1:¬(48:Int)<=(r:Int):=by omega
  have e0:dig r=false:=by simp[dig];omega
  rw[e0];clear e0;go_enter Tryz.func95,Tryz.ntmps95;go_wp2;go_ret;exact⟨rfl,rfl⟩
theorem je (r:Nat)(w:GI)(a:r<256) :
  GV GH 98 #[.int .u8 (r:Nat)] w λe w'=>e=.returned (.bool (sml r))/\w'=w:=by
 by_cases h1:97<=r
 ·have g1:(97:Int)<=(r:Int):=by omega
  by_cases h2:r<=122
  ·have g2:(r:Int)<=122:=by omega
   have e0:sml r=true:=by simp[sml,h1,h2]
   rw[e0];clear e0;go_enter Tryz.func98,Tryz.ntmps98;go_wp2;go_ret;exact⟨rfl,rfl⟩
  ·have g2:¬(r:Int)<=122:=by omega
   have e0:sml r=false:=by simp[sml];omega
   rw[e0];clear e0;go_enter Tryz.func98,Tryz.ntmps98;go_wp2;go_ret;exact⟨rfl,rfl⟩
 ·have g1:¬(97:Int)<=(r:Int):=by omega
  have e0:sml r=false:=by simp[sml];omega
  rw[e0];clear e0;go_enter Tryz.func98,Tryz.ntmps98;go_wp2;go_ret;exact⟨rfl,rfl⟩
theorem qi (r:Nat)(w:GI)(a:r<256) :
  GV GH 99 #[.int .u8 (r:Nat)] w λe w'=>e=.returned (.bool (grt r))/\w'=w:=by
 by_cases h1:65<=r
 ·have g1:(65:Int)<=(r:Int):=by omega
  by_cases h2:r<=90
  ·have g2:(r:Int)<=90:=by omega
   have e0:grt r=true:=by simp[grt,h1,h2]
   rw[e0];clear e0;go_enter Tryz.func99,Tryz.ntmps99;go_wp2;go_ret;exact⟨rfl,rfl⟩
  ·have g2:¬(r:Int)<=90:=by omega
   have e0:grt r=false:=by simp[grt];omega
   rw[e0];clear e0;go_enter Tryz.func99,Tryz.ntmps99;go_wp2;go_ret;exact⟨rfl,rfl⟩
 ·have g1:¬(65:Int)<=(r:Int):=by omega
  have e0:grt r=false:=by simp[grt];omega
  rw[e0];clear e0;go_enter Tryz.func99,Tryz.ntmps99;go_wp2;go_ret;exact⟨rfl,rfl⟩
theorem DR (r:Nat)(w:GI)(d:r<256) :
  GV GH 49 #[.int .u8 (r:Nat)] w λe w'=>e=.returned (.bool (blk r))/\w'=w:=by
 by_cases a:r=32
 ·subst a;have e0:blk 32=true:=by rfl
  rw[e0];clear e0;go_enter Tryz.func49,Tryz.ntmps49;go_wp2;go_ret;exact⟨rfl,rfl⟩
 by_cases h1:r=9
 ·subst h1;clear a;have e0:blk 9=true:=by rfl
  rw[e0];clear e0;go_enter Tryz.func49,Tryz.ntmps49;go_wp2;go_ret;exact⟨rfl,rfl⟩
 by_cases h2:r=10
 ·subst h2;clear a;clear h1;have e0:blk 10=true:=by rfl
  rw[e0];clear e0;go_enter Tryz.func49,Tryz.ntmps49;go_wp2;go_ret;exact⟨rfl,rfl⟩
 by_cases b:r=13
 ·subst b;clear a;clear h1;clear h2;have e0:blk 13=true:=by rfl
  rw[e0];clear e0;go_enter Tryz.func49,Tryz.ntmps49;go_wp2;go_ret;exact⟨rfl,rfl⟩
 have e0:blk r=false:=by simp[blk];omega
 have c:¬(r:Int)=32:=by omega
 have g1:¬(r:Int)=9:=by omega
 have g2:¬(r:Int)=10:=by omega
 have g3:¬(r:Int)=13:=by omega
 clear a h1 h2 b;rw[e0];clear e0;go_enter Tryz.func49,Tryz.ntmps49;go_wp2;go_ret;refine⟨?_,rfl⟩;simp[c,g1,g2,g3]
abbrev uB:Array GN:=#[.string ⟨#[97,108,108]⟩,.string ⟨#[97,110,100]⟩,.string ⟨#[97,114,111,117,110,100]⟩,.string ⟨#[98,108,111,99,107]⟩,.string ⟨#[98,111,116,116,108,101,110,101,99,107]⟩,.string ⟨#[99,111,110,110,101,99,116,101,100]⟩,.string ⟨#[99,111,117,110,116]⟩,.string ⟨#[100,101,103,114,101,101]⟩,.string ⟨#[101,108,115,101]⟩,.string ⟨#[102,97,108,115,101]⟩,.string ⟨#[105,102]⟩,.string ⟨#[105,110]⟩,.string ⟨#[108,101,97,115,116]⟩,.string ⟨#[109,97,120]⟩,.string ⟨#[109,105,110]⟩,.string ⟨#[109,111,115,116]⟩,.string ⟨#[110,111,116]⟩,.string ⟨#[111,114]⟩,.string ⟨#[114,101,112]⟩,.string ⟨#[115,105,122,101]⟩,.string ⟨#[115,111,109,101]⟩,.string ⟨#[115,117,109]⟩,.string ⟨#[116,104,101,110]⟩,.string ⟨#[116,111,116,97,108]⟩,.string ⟨#[116,114,117,101]⟩,.string ⟨#[118,97,108,117,101]⟩,.string ⟨#[118,101,114,116,105,99,101,115]⟩]
theorem wU (k:Nat)(a:k<27):uB[k]?=GF (.string (wd k)):=by
 match k,a with
 | 0,_=>rfl
 | 1,_=>rfl
 | 2,_=>rfl
 | 3,_=>rfl
 | 4,_=>rfl
 | 5,_=>rfl
 | 6,_=>rfl
 | 7,_=>rfl
 | 8,_=>rfl
 | 9,_=>rfl
 | 10,_=>rfl
 | 11,_=>rfl
 | 12,_=>rfl
 | 13,_=>rfl
 | 14,_=>rfl
 | 15,_=>rfl
 | 16,_=>rfl
 | 17,_=>rfl
 | 18,_=>rfl
 | 19,_=>rfl
 | 20,_=>rfl
 | 21,_=>rfl
 | 22,_=>rfl
 | 23,_=>rfl
 | 24,_=>rfl
 | 25,_=>rfl
 | 26,_=>rfl
 | n+27,h=>omega
theorem uY (s:ByteArray)(w:GI)(r:s.size<=G5) :
  GV GH 100 #[.string s] w λe w'=>e=.returned (.bool (gT s.data.toList))/\GO w.heap.size w w':=by
 obtain⟨w1,a⟩:=exq (w.alloc (.cells uB 9));have g:∀ k,k<27->w1.cell? ⟨w.heap.size,k,GE⟩=GF (.string (wd k)):=λk o=>by
  rw[a,Hj _ _ _ _ _ _ (GL w _),wU k o]
 have h:GO w.heap.size w w1:=by rw[a];exact b1 _ _
 have p:Hid (w1=w.alloc (.cells uB 9)):=a;have i:=GP g;clear a g;go_enter Tryz.func100,Tryz.ntmps100;go_upto_region 2 with fail;rw[show w.alloc _=w1 from p.out.symm];clear p;go_wp2_with fail;go_loopw [4] (λv wr=>∃k:Nat,k<=27/\v=.int .i64 k/\(∀ j,j<k->s≠wd j)/\wr=w1) (λv _=>27-(Hl v).toNat)
 case atStart=>exact⟨0,by omega,by go_num,λj l=>by omega,rfl⟩
 case round =>
  obtain⟨k,o,rfl,b,rfl⟩:=hrel;by_cases d:k<27
  ·have n:=i.out k d;by_cases c:s=wd k
   ·have fin:gT s.data.toList=true:=qv k d (by rw[c];rfl);rw[<-c] at n;clear c i b;go_wp2;go_ret;exact⟨by rw[fin];rfl,h⟩
   ·have f:∀ j,j<k+1->s≠wd j:=λj l=>by
     by_cases e:j=k
     ·subst e;exact c
     ·exact b j (by omega)
    have m:=zu (λe=>c e.symm);generalize wd k=t at n c m;clear i b;go_wp2;go_roundw
    case rel=>(try ((repeat apply G9);refine⟨?_,rfl⟩));exact⟨k+1,by omega,by go_num,f,by trivial⟩
    case measure=>simp[Hl];omega
  ·obtain rfl:k=27:=by omega
   clear i;have fin:gT s.data.toList=false:=sF λj l e=>b j l (px.1 (by rw[e];rfl));go_wp2;go_ret;exact⟨by rw[fin];rfl,h⟩
theorem ro (s:ByteArray)(w:GI)(hs:s.size<=G5) :
  GV GH 101 #[.string s] w λe w'=>e=.returned (.bool (eE s.data.toList))/\GO w.heap.size w w':=by
 have hs':=hs;unfold G5 at hs;have HL:Hid (s.data.toList.length=s.size):=fg s;by_cases h0:s.size<1
 ·have fin:eE s.data.toList=false:=by rw[<-IP,gR];rintro ⟨h,_⟩;have:=HL.out;omega
  rw[fin];clear fin;have h0I:(s.size:Int)<1:=by omega
  go_enter Tryz.func101,Tryz.ntmps101;go_wp2;go_ret;exact⟨rfl,b0 _⟩
 ·have h0I:¬(s.size:Int)<1:=by omega
  by_cases h12:12<s.size
  ·have fin:eE s.data.toList=false:=by rw[<-IP,gR];rintro ⟨_,h,_⟩;have:=HL.out;omega
   rw[fin];clear fin;have h12I:(12:Int)<(s.size:Int):=by omega
   go_enter Tryz.func101,Tryz.ntmps101;go_wp2;go_ret;exact⟨rfl,b0 _⟩
  ·have h12I:¬(12:Int)<(s.size:Int):=by omega
   have hpos:0<s.size:=by omega
   have hpl:0<s.data.toList.length:=by have:=HL.out;omega
   have hb0:(s[0]'hpos).toNat<256:=IB _;cases h1:sml (s[0]'hpos).toNat
   ·have fin:eE s.data.toList=false:=ld 0 hpl (by rw[eX s 0 hpos hpl];simp[nmc,h1]);rw[fin];clear fin;go_enter Tryz.func101,Tryz.ntmps101;go_wp2_with (go_at_call 98;refine(je _ _ hb0).mono ?_;rw[h1];rintro e w1 ⟨rfl,rfl⟩);go_ret;exact⟨rfl,b0 _⟩
   ·have H0:Hid (nmc 0 s[0]=true):=by show _=_;simp[nmc,h1]
    go_enter Tryz.func101,Tryz.ntmps101;go_wp2_with (go_at_call 98;refine(je _ _ hb0).mono ?_;rw[h1];rintro e w1 ⟨rfl,rfl⟩);go_loopw [3] (λv wr=>∃k:Nat,v=.int .i64 (k:Nat)/\k<=s.size/\(∀ j (h:j<s.data.toList.length),j<k->nmc j s.data.toList[j]=true)/\wr=w1) (λv _=>s.size-(Hl v).toNat)
    case atStart=>exact⟨0,by go_num,by omega,λj _ h=>by omega,rfl⟩
    case round =>
     obtain⟨k,rfl,hk,hin,rfl⟩:=hrel;by_cases hlt:k<s.size
     ·have hkl:k<s.data.toList.length:=by have:=HL.out;omega
      have hkI:(k:Int)<(s.size:Int):=by omega
      have hbk:(s[k]'hlt).toNat<256:=IB _;have hex:nmc k s.data.toList[k]=nmc k s[k]:=by rw[eX s k hlt hkl]
      have hcase:nmc k s[k]=(sml (s[k]).toNat||dig (s[k]).toNat||(s[k]).toNat==95):=by
       by_cases hk0:k=0
       ·subst hk0;rw[H0.out,h1];rfl
       ·have hb:(k != 0)=true:=by simpa using hk0
        simp[nmc,hb,Bool.or_assoc]
      have hgo:(sml (s[k]).toNat||dig (s[k]).toNat||(s[k]).toNat==95)=true->∀ j (h:j<s.data.toList.length),j<k+1->nmc j s.data.toList[j]=true:=λhx j h hj=>by
       by_cases e:j=k
       ·subst e;rw[hex,hcase];exact hx
       ·exact hin j h (by omega)
      have hno:(sml (s[k]).toNat||dig (s[k]).toNat||(s[k]).toNat==95)=false->eE s.data.toList=false:=λhx=>ld k hkl (by rw[hex,hcase];exact hx);have HG:Hid (((sml (s[k]).toNat||dig (s[k]).toNat||(s[k]).toNat==95)=true->∀ j (h:j<s.data.toList.length),j<k+1->nmc j s.data.toList[j]=true)/\((sml (s[k]).toNat||dig (s[k]).toNat||(s[k]).toNat==95)=false->eE s.data.toList=false)):=⟨hgo,hno⟩;clear hex hcase hgo hno hin;cases h2:sml (s[k]'hlt).toNat
      ·cases h3:dig (s[k]'hlt).toNat
       ·by_cases h4:(s[k]'hlt).toNat=95
        ·have RL:=HG.out.1 (by simp[h4]);have H4:=GP h4;clear HG h4;go_wp2_with (first|(go_at_call 98;refine(je _ _ hbk).mono ?_;rw[h2];rintro e w1 ⟨rfl,rfl⟩)|(go_at_call 95;refine(ji _ _ hbk).mono ?_;rw[h3];rintro e w1 ⟨rfl,rfl⟩;have h4:=H4.out;clear h2 h3 hbk));go_roundw
         case rel=>(try ((repeat apply G9);refine⟨?_,rfl⟩));exact⟨k+1,by go_num,by omega,RL,by trivial⟩
         case measure=>simp[Hl];omega
        ·have fin:eE s.data.toList=false:=HG.out.2 (by simp[h2,h3,h4]);have h4I:¬((s[k]'hlt).toNat:Int)=95:=by omega
         have h4b:(((s[k]'hlt).toNat:Int)==95)=false:=by simpa using h4I
         clear HG h4;go_wp2_with (first|(go_at_call 98;refine(je _ _ hbk).mono ?_;rw[h2];rintro e w1 ⟨rfl,rfl⟩)|(go_at_call 95;refine(ji _ _ hbk).mono ?_;rw[h3];rintro e w1 ⟨rfl,rfl⟩));go_ret;exact⟨by rw[fin];rfl,b0 _⟩
       ·have RL:=HG.out.1 (by simp[h3]);clear HG;go_wp2_with (first|(go_at_call 98;refine(je _ _ hbk).mono ?_;rw[h2];rintro e w1 ⟨rfl,rfl⟩)|(go_at_call 95;refine(ji _ _ hbk).mono ?_;rw[h3];rintro e w1 ⟨rfl,rfl⟩));go_roundw
        case rel=>(try ((repeat apply G9);refine⟨?_,rfl⟩));exact⟨k+1,by go_num,by omega,RL,by trivial⟩
        case measure=>simp[Hl];omega
      ·have RL:=HG.out.1 (by simp[h2]);clear HG;go_wp2_with (go_at_call 98;refine(je _ _ hbk).mono ?_;rw[h2];rintro e w1 ⟨rfl,rfl⟩);go_roundw
       case rel=>(try ((repeat apply G9);refine⟨?_,rfl⟩));exact⟨k+1,by go_num,by omega,RL,by trivial⟩
       case measure=>simp[Hl];omega
     ·obtain rfl:k=s.size:=by omega
      have fin:eE s.data.toList=!gT s.data.toList:=by
       have hl:=HL.out;cases hw:gT s.data.toList
       ·exact(gR _).2 ⟨by omega,by omega,λj h=>hin j h (by omega),hw⟩
       ·show _=false;rw[<-IP,gR];rintro ⟨_,_,_,h⟩;rw[hw] at h;cases h
      clear hin;go_wp2_with (go_at_call 100;refine(uY s _ hs').mono ?_;rintro e w1 ⟨rfl,hbx⟩);go_ret;exact⟨by rw[fin];rfl,hbx⟩
theorem Ge {k:Int}(b:k≠19)(a:k≠21)(c:k≠18)(d:k≠17)(w:k≠7)(i:k≠13)(h:k≠14)(g:k≠15)(f:k≠16)(A:k≠8)(z:k≠9)(m:k≠10)(l:k≠11)(j:k≠12)(x:k≠6):fZ k=8:=by
 have E:((19:Int)==k)=false:=by rw[beq_eq_false_iff_ne];exact λe=>b e.symm
 have D:((21:Int)==k)=false:=by rw[beq_eq_false_iff_ne];exact λe=>a e.symm
 have n:((18:Int)==k)=false:=by rw[beq_eq_false_iff_ne];exact λe=>c e.symm
 have o:((17:Int)==k)=false:=by rw[beq_eq_false_iff_ne];exact λe=>d e.symm
 have F:((7:Int)==k)=false:=by rw[beq_eq_false_iff_ne];exact λe=>w e.symm
 have s:((13:Int)==k)=false:=by rw[beq_eq_false_iff_ne];exact λe=>i e.symm
 have r:((14:Int)==k)=false:=by rw[beq_eq_false_iff_ne];exact λe=>h e.symm
 have q:((15:Int)==k)=false:=by rw[beq_eq_false_iff_ne];exact λe=>g e.symm
 have p:((16:Int)==k)=false:=by rw[beq_eq_false_iff_ne];exact λe=>f e.symm
 have C:((8:Int)==k)=false:=by rw[beq_eq_false_iff_ne];exact λe=>A e.symm
 have B:((9:Int)==k)=false:=by rw[beq_eq_false_iff_ne];exact λe=>z e.symm
 have v:((10:Int)==k)=false:=by rw[beq_eq_false_iff_ne];exact λe=>m e.symm
 have u:((11:Int)==k)=false:=by rw[beq_eq_false_iff_ne];exact λe=>l e.symm
 have t:((12:Int)==k)=false:=by rw[beq_eq_false_iff_ne];exact λe=>j e.symm
 have G:((6:Int)==k)=false:=by rw[beq_eq_false_iff_ne];exact λe=>x e.symm
 have y:gZ k=GE:=by simp[gZ,iI,List.find?,n,o,s,r,q,p,C,B,v,u,t]
 simp[fZ,y,bne b,bne a,bne w,bne x]
theorem DU (k:Int)(w:GI) :
  GV GH 245 #[.int .i64 k] w λe w'=>e=.returned (.int .i64 (fZ k:Nat))/\w'=w:=by
 by_cases b:k=19
 ·subst b;go_enter IA,Ip;go_wp2;go_ret;exact⟨rfl,rfl⟩
 have s:(k==19)=false:=bne b;by_cases a:k=21
 ·subst a;go_enter IA,Ip;go_wp2;go_ret;exact⟨rfl,rfl⟩
 have r:(k==21)=false:=bne a;by_cases c:k=18
 ·subst c;go_enter IA,Ip;go_wp2;go_ret;exact⟨rfl,rfl⟩
 have t:(k==18)=false:=bne c;by_cases d:k=17
 ·subst d;go_enter IA,Ip;go_wp2;go_ret;exact⟨rfl,rfl⟩
 have u:(k==17)=false:=bne d;by_cases p:k=7
 ·subst p;go_enter IA,Ip;go_wp2;go_ret;exact⟨rfl,rfl⟩
 have F:(k==7)=false:=bne p;by_cases i:k=13
 ·subst i;go_enter IA,Ip;go_wp2;go_ret;exact⟨rfl,rfl⟩
 have z:(k==13)=false:=bne i;by_cases h:k=14
 ·subst h;go_enter IA,Ip;go_wp2;go_ret;exact⟨rfl,rfl⟩
 have y:(k==14)=false:=bne h;by_cases g:k=15
 ·subst g;go_enter IA,Ip;go_wp2;go_ret;exact⟨rfl,rfl⟩
 have x:(k==15)=false:=bne g;by_cases f:k=16
 ·subst f;go_enter IA,Ip;go_wp2;go_ret;exact⟨rfl,rfl⟩
 have v:(k==16)=false:=bne f;by_cases o:k=8
 ·subst o;go_enter IA,Ip;go_wp2;go_ret;exact⟨rfl,rfl⟩
 have E:(k==8)=false:=bne o;by_cases n:k=9
 ·subst n;go_enter IA,Ip;go_wp2;go_ret;exact⟨rfl,rfl⟩
 have D:(k==9)=false:=bne n;by_cases m:k=10
 ·subst m;go_enter IA,Ip;go_wp2;go_ret;exact⟨rfl,rfl⟩
 have C:(k==10)=false:=bne m;by_cases l:k=11
 ·subst l;go_enter IA,Ip;go_wp2;go_ret;exact⟨rfl,rfl⟩
 have B:(k==11)=false:=bne l;by_cases j:k=12
 ·subst j;go_enter IA,Ip;go_wp2;go_ret;exact⟨rfl,rfl⟩
 have A:(k==12)=false:=bne j;by_cases q:k=6
 ·subst q;go_enter IA,Ip;go_wp2;go_ret;exact⟨rfl,rfl⟩
 have G:(k==6)=false:=bne q;rw[Ge b a c d p i h g f o n m l j q];clear b a c d p i h g f o n m l j q;go_enter IA,Ip;go_wp2;go_ret;exact⟨rfl,rfl⟩
def mA (k:Int)(i:Nat):Nat:=if fZ k=3\/fZ k=7 then fZ k else if fZ k=4 then 5 else if fZ k=0\/fZ k=8 then 0 else fZ k+i
theorem us (k:Int):fZ k<=8:=by
 unfold fZ;split
 ·omega
 ·split
  ·omega
  ·split
   ·omega
   ·split
    ·rename_i x a
     have b:=Hm a
     have:∀ x ∈ iI,x.2.2.1<=8:=by decide
     exact this x b
    ·omega
theorem BP (k:Int)(i:Nat)(m:i<=1000000000)(w:GI) :
  GV GH 246 #[.int .i64 k,.int .i64 i] w λe w'=>e=.returned (.int .i64 (mA k i:Nat))/\w'=w:=by
 have c1:=DU k w;have c:=us k;obtain⟨W,a⟩:=exq (mA k i);rw[<-a];unfold mA at a;generalize fZ k=r at *;by_cases j:r=0
 ·subst j;have b:W=0:=by simpa using a
  clear a;subst b;go_enter J5,JV;go_wp2_with fail;refine c1.mono ?_;rintro e w1 ⟨rfl,rfl⟩;clear c1;go_wp2;go_ret;exact⟨rfl,rfl⟩
 by_cases h:r=3
 ·subst h;have b:W=3:=by simpa using a
  clear a;subst b;go_enter J5,JV;go_wp2_with fail;refine c1.mono ?_;rintro e w1 ⟨rfl,rfl⟩;clear c1;go_wp2;go_ret;exact⟨rfl,rfl⟩
 by_cases g:r=4
 ·subst g;have b:W=5:=by simpa using a
  clear a;subst b;go_enter J5,JV;go_wp2_with fail;refine c1.mono ?_;rintro e w1 ⟨rfl,rfl⟩;clear c1;go_wp2;go_ret;exact⟨rfl,rfl⟩
 by_cases f:r=7
 ·subst f;have b:W=7:=by simpa using a
  clear a;subst b;go_enter J5,JV;go_wp2_with fail;refine c1.mono ?_;rintro e w1 ⟨rfl,rfl⟩;clear c1;go_wp2;go_ret;exact⟨rfl,rfl⟩
 by_cases d:r=8
 ·subst d;have b:W=0:=by simpa using a
  clear a;subst b;go_enter J5,JV;go_wp2_with fail;refine c1.mono ?_;rintro e w1 ⟨rfl,rfl⟩;clear c1;go_wp2;go_ret;exact⟨rfl,rfl⟩
 have b:W=r+i:=by simpa [j,h,g,f,d] using a
 clear a;subst b;have b0:((r:Int)==0)=false:=by rw[beq_eq_false_iff_ne];omega
 have b3:((r:Int)==3)=false:=by rw[beq_eq_false_iff_ne];omega
 have p:((r:Int)==4)=false:=by rw[beq_eq_false_iff_ne];omega
 have o:((r:Int)==7)=false:=by rw[beq_eq_false_iff_ne];omega
 have n:((r:Int)==8)=false:=by rw[beq_eq_false_iff_ne];omega
 have l:r<=8:=c;clear j h g f d c;go_enter J5,JV;go_wp2_with fail;refine c1.mono ?_;rintro e w1 ⟨rfl,rfl⟩;clear c1;go_wp2;go_ret;exact⟨by rw[show ((r+i:Nat):Int)=(r:Int)+(i:Int) by omega];rfl,rfl⟩
theorem ub (k:Int):eM k=decide (22<=k/\k<=25):=by
 by_cases h:22<=k/\k<=25
 ·rw[show decide (22<=k/\k<=25)=true by simpa using h];unfold eM;simp only[I0,beq_iff_eq];omega
 ·rw[show decide (22<=k/\k<=25)=false by simpa using h];rw[<-IP];unfold eM;simp only[I0,beq_iff_eq];omega
theorem Bz (k:Int)(w:GI) :
  GV GH 228 #[.int .i64 k] w λe w'=>e=.returned (.bool (eM k))/\w'=w:=by
 rw[ub];by_cases h1:22<=k
 ·by_cases h2:k<=25
  ·rw[show decide (22<=k/\k<=25)=true by simp;omega];go_enter Tryz.func228,Tryz.ntmps228;go_wp2;go_ret;exact⟨by simp[h2],rfl⟩
  ·rw[show decide (22<=k/\k<=25)=false by simp;omega];go_enter Tryz.func228,Tryz.ntmps228;go_wp2;go_ret;exact⟨by simp[h2],rfl⟩
 ·rw[show decide (22<=k/\k<=25)=false by simp;omega];go_enter Tryz.func228,Tryz.ntmps228;go_wp2;go_ret;exact⟨rfl,rfl⟩
def fM (k n:Int):Int :=
 if k=1\/k=2\/k=3\/k=4\/k=22\/k=23 then 0 else if k=6\/k=7\/k=24 then 1 else if k=8\/k=9\/k=10\/k=11\/k=12\/k=13\/k=14\/k=15\/k=16\/k=17\/k=18\/k=21 then 2 else if k=19 then 3 else if k=25 then -1 else if k=20 then (if 1<=n/\n<=3 then 2 else 1) else -2
theorem Fl (k n:Int)(nm:List UInt8)(ao:Option Ha)(len cap:Nat)(a:Int)(w:GI) :
  GV GH 226 #[.agg #[.int .i64 k,.int .i64 n,stv nm,.slice ao len cap,.int .i64 a]] w λe w'=>e=.returned (.int .i64 (fM k n))/\GO w.heap.size w w':=by
 have d:GO w.heap.size w (w.alloc (zEv k n nm ao len cap a)):=(GR _ w).alloc (GG _) _;have F:(w.alloc (zEv k n nm ao len cap a)).heap[w.heap.size]?=GF (zEv k n nm ao len cap a):=GL w _;obtain⟨z0,Y,z2,z3,z4,X⟩:=dT F;clear F;obtain⟨V,b⟩:=exq (fM k n);rw[<-b];by_cases h1:k=1
 ·subst h1;have c:V=0:=b;clear b;subst c;go_enter Ht,Hq;go_wp2;go_ret;exact⟨rfl,d⟩
 have b1:(k==1)=false:=bne h1;by_cases h2:k=2
 ·subst h2;have c:V=0:=b;clear b;subst c;go_enter Ht,Hq;go_wp2;go_ret;exact⟨rfl,d⟩
 have b2:(k==2)=false:=bne h2;by_cases D:k=3
 ·subst D;have c:V=0:=b;clear b;subst c;go_enter Ht,Hq;go_wp2;go_ret;exact⟨rfl,d⟩
 have b3:(k==3)=false:=bne D;by_cases C:k=4
 ·subst C;have c:V=0:=b;clear b;subst c;go_enter Ht,Hq;go_wp2;go_ret;exact⟨rfl,d⟩
 have b4:(k==4)=false:=bne C;by_cases i:k=22
 ·subst i;have c:V=0:=b;clear b;subst c;go_enter Ht,Hq;go_wp2;go_ret;exact⟨rfl,d⟩
 have J:(k==22)=false:=bne i;by_cases h:k=23
 ·subst h;have c:V=0:=b;clear b;subst c;go_enter Ht,Hq;go_wp2;go_ret;exact⟨rfl,d⟩
 have I:(k==23)=false:=bne h;by_cases B:k=6
 ·subst B;have c:V=1:=b;clear b;subst c;go_enter Ht,Hq;go_wp2;go_ret;exact⟨rfl,d⟩
 have b6:(k==6)=false:=bne B;by_cases A:k=7
 ·subst A;have c:V=1:=b;clear b;subst c;go_enter Ht,Hq;go_wp2;go_ret;exact⟨rfl,d⟩
 have b7:(k==7)=false:=bne A;by_cases g:k=24
 ·subst g;have c:V=1:=b;clear b;subst c;go_enter Ht,Hq;go_wp2;go_ret;exact⟨rfl,d⟩
 have H:(k==24)=false:=bne g;by_cases z:k=8
 ·subst z;have c:V=2:=b;clear b;subst c;go_enter Ht,Hq;go_wp2;go_ret;exact⟨rfl,d⟩
 have b8:(k==8)=false:=bne z;by_cases y:k=9
 ·subst y;have c:V=2:=b;clear b;subst c;go_enter Ht,Hq;go_wp2;go_ret;exact⟨rfl,d⟩
 have Z:(k==9)=false:=bne y;by_cases x:k=10
 ·subst x;have c:V=2:=b;clear b;subst c;go_enter Ht,Hq;go_wp2;go_ret;exact⟨rfl,d⟩
 have W:(k==10)=false:=bne x;by_cases v:k=11
 ·subst v;have c:V=2:=b;clear b;subst c;go_enter Ht,Hq;go_wp2;go_ret;exact⟨rfl,d⟩
 have U:(k==11)=false:=bne v;by_cases u:k=12
 ·subst u;have c:V=2:=b;clear b;subst c;go_enter Ht,Hq;go_wp2;go_ret;exact⟨rfl,d⟩
 have T:(k==12)=false:=bne u;by_cases t:k=13
 ·subst t;have c:V=2:=b;clear b;subst c;go_enter Ht,Hq;go_wp2;go_ret;exact⟨rfl,d⟩
 have S:(k==13)=false:=bne t;by_cases s:k=14
 ·subst s;have c:V=2:=b;clear b;subst c;go_enter Ht,Hq;go_wp2;go_ret;exact⟨rfl,d⟩
 have R:(k==14)=false:=bne s;by_cases r:k=15
 ·subst r;have c:V=2:=b;clear b;subst c;go_enter Ht,Hq;go_wp2;go_ret;exact⟨rfl,d⟩
 have Q:(k==15)=false:=bne r;by_cases q:k=16
 ·subst q;have c:V=2:=b;clear b;subst c;go_enter Ht,Hq;go_wp2;go_ret;exact⟨rfl,d⟩
 have P:(k==16)=false:=bne q;by_cases p:k=17
 ·subst p;have c:V=2:=b;clear b;subst c;go_enter Ht,Hq;go_wp2;go_ret;exact⟨rfl,d⟩
 have O:(k==17)=false:=bne p;by_cases o:k=18
 ·subst o;have c:V=2:=b;clear b;subst c;go_enter Ht,Hq;go_wp2;go_ret;exact⟨rfl,d⟩
 have N:(k==18)=false:=bne o;by_cases j:k=21
 ·subst j;have c:V=2:=b;clear b;subst c;go_enter Ht,Hq;go_wp2;go_ret;exact⟨rfl,d⟩
 have K:(k==21)=false:=bne j;by_cases m:k=19
 ·subst m;have c:V=3:=b;clear b;subst c;go_enter Ht,Hq;go_wp2;go_ret;exact⟨rfl,d⟩
 have M:(k==19)=false:=bne m;by_cases f:k=25
 ·subst f;have c:V=-1:=b;clear b;subst c;go_enter Ht,Hq;go_wp2;go_ret;exact⟨rfl,d⟩
 have G:(k==25)=false:=bne f;by_cases l:k=20
 ·subst l;by_cases n1:1<=n
  ·by_cases E:n<=3
   ·have c:V=2:=by rw[b];simp[fM,n1,E]
    clear b;subst c;go_enter Ht,Hq;go_wp2;go_ret;exact⟨rfl,d⟩
   ·have c:V=1:=by rw[b];simp[fM,E]
    clear b;subst c;go_enter Ht,Hq;go_wp2;go_ret;exact⟨rfl,d⟩
  ·have c:V=1:=by rw[b];simp[fM,n1]
   clear b;subst c;go_enter Ht,Hq;go_wp2;go_ret;exact⟨rfl,d⟩
 have L:(k==20)=false:=bne l;have c:V=-2:=by rw[b];simp[fM,h1,h2,D,C,i,h,B,A,g,z,y,x,v,u,t,s,r,q,p,o,j,m,f,l]
 clear b h1 h2 D C i h B A g z y x v u t s r q p o j m f l;subst c;go_enter Ht,Hq;go_wp2;go_ret;exact⟨rfl,d⟩
theorem eQ (n:Int):(jn n).isSome=decide (1<=n/\n<=10):=by
 by_cases h:1<=n/\n<=10
 ·rw[show decide (1<=n/\n<=10)=true by simpa using h]
  have:n=1\/n=2\/n=3\/n=4\/n=5\/n=6\/n=7\/n=8\/n=9\/n=10:=by omega
  rcases this with rfl|rfl|rfl|rfl|rfl|rfl|rfl|rfl|rfl|rfl<;>rfl
 ·rw[show decide (1<=n/\n<=10)=false by simpa using h,JM,JS];unfold jn;rw[List.find?_eq_none];intro x a
  have:∀ x ∈ gY,1<=x.2.1/\x.2.1<=10:=by decide
  have:=this x a
  simp only[beq_iff_eq];omega
theorem eI (n:Int):(jH n).isSome=decide (1<=n/\n<=6):=by
 by_cases h:1<=n/\n<=6
 ·rw[show decide (1<=n/\n<=6)=true by simpa using h]
  have:n=1\/n=2\/n=3\/n=4\/n=5\/n=6:=by omega
  rcases this with rfl|rfl|rfl|rfl|rfl|rfl<;>rfl
 ·rw[show decide (1<=n/\n<=6)=false by simpa using h,JM,JS];unfold jH;rw[List.find?_eq_none];intro x a
  have:∀ x ∈ gM,1<=x.2/\x.2<=6:=by decide
  have:=this x a
  simp only[beq_iff_eq];omega
theorem zt (k n:Int)(nm:List UInt8)(ao:Option Ha)(len cap:Nat)(a:Int)(w:GI)(D:nm.length<=G5) :
  GV GH 227 #[.agg #[.int .i64 k,.int .i64 n,stv nm,.slice ao len cap,.int .i64 a]] w λe w'=>e=.returned (.bool (fh k n&&ft k nm))/\GO w.heap.size w w':=by
 have b:GO w.heap.size w (w.alloc (zEv k n nm ao len cap a)):=(GR _ w).alloc (GG _) _;have h:(w.alloc (zEv k n nm ao len cap a)).heap[w.heap.size]?=GF (zEv k n nm ao len cap a):=GL w _;have c1:=ro ⟨nm.toArray⟩ (w.alloc (zEv k n nm ao len cap a)) (by rw[jB];exact D);have C:(ByteArray.mk nm.toArray).data.toList=nm:=by simp
 rw[C] at c1;obtain⟨V,g⟩:=exq ((fh k n&&ft k nm));rw[<-g];have f:w.heap.size<(w.alloc (zEv k n nm ao len cap a)).heap.size:=by simp
 obtain⟨z0,l,z2,z3,z4,j⟩:=dT h;clear C;by_cases h1:k=1
 ·subst h1;by_cases p:0<=n
  ·have z:0<=n:=p;have c:V=(nm==[]):=by rw[g];simp[fh,ft,eQ,eI,p]
   clear g;rw[c];clear c V;go_enter Il,If;go_wp2_with fail;refine c1.mono ?_;rintro e w1 ⟨rfl,b1⟩;have i:=b.trans (b1.mono b.size);have d:=(b1.block _ f).trans h;obtain⟨u,t,s,q,o,m⟩:=dT d;clear c1 b1 b h d z0 l z2 z3 z4 j;go_wp2;go_ret;exact⟨eN (by first|rfl|simp),i⟩
  ·have z:¬0<=n:=p;have c:V=false:=by rw[g];simp[fh,ft,eQ,eI,p]
   clear g;rw[c];clear c V;go_enter Il,If;go_wp2_with fail;refine c1.mono ?_;rintro e w1 ⟨rfl,b1⟩;have i:=b.trans (b1.mono b.size);have d:=(b1.block _ f).trans h;obtain⟨u,t,s,q,o,m⟩:=dT d;clear c1 b1 b h d z0 l z2 z3 z4 j;go_wp2;go_ret;exact⟨eN (by first|rfl|simp),i⟩
 have b1:(k==1)=false:=bne h1;by_cases B:k=3
 ·subst B;by_cases p:0<=n
  ·have z:0<=n:=p;have c:V=(nm==[]):=by rw[g];simp[fh,ft,eQ,eI,p]
   clear g;rw[c];clear c V;go_enter Il,If;go_wp2_with fail;refine c1.mono ?_;rintro e w1 ⟨rfl,b1⟩;have i:=b.trans (b1.mono b.size);have d:=(b1.block _ f).trans h;obtain⟨u,t,s,q,o,m⟩:=dT d;clear c1 b1 b h d z0 l z2 z3 z4 j;go_wp2;go_ret;exact⟨eN (by first|rfl|simp),i⟩
  ·have z:¬0<=n:=p;have c:V=false:=by rw[g];simp[fh,ft,eQ,eI,p]
   clear g;rw[c];clear c V;go_enter Il,If;go_wp2_with fail;refine c1.mono ?_;rintro e w1 ⟨rfl,b1⟩;have i:=b.trans (b1.mono b.size);have d:=(b1.block _ f).trans h;obtain⟨u,t,s,q,o,m⟩:=dT d;clear c1 b1 b h d z0 l z2 z3 z4 j;go_wp2;go_ret;exact⟨eN (by first|rfl|simp),i⟩
 have b3:(k==3)=false:=bne B;by_cases h2:k=2
 ·subst h2;by_cases p:n=0
  ·subst p;have c:V=(nm==[]):=by rw[g];simp[fh,ft,eQ,eI]
   clear g;rw[c];clear c V;go_enter Il,If;go_wp2_with fail;refine c1.mono ?_;rintro e w1 ⟨rfl,b1⟩;have i:=b.trans (b1.mono b.size);have d:=(b1.block _ f).trans h;obtain⟨u,t,s,q,o,m⟩:=dT d;clear c1 b1 b h d z0 l z2 z3 z4 j;go_wp2;go_ret;exact⟨eN (by first|rfl|simp),i⟩
  ·have z:(n==0)=false:=by simpa using p
   by_cases r:n=1
   ·subst r;have c:V=(nm==[]):=by rw[g];simp[fh,ft,eQ,eI]
    clear g;rw[c];clear c V;go_enter Il,If;go_wp2_with fail;refine c1.mono ?_;rintro e w1 ⟨rfl,b1⟩;have i:=b.trans (b1.mono b.size);have d:=(b1.block _ f).trans h;obtain⟨u,t,s,q,o,m⟩:=dT d;clear c1 b1 b h d z0 l z2 z3 z4 j;go_wp2;go_ret;exact⟨eN (by first|rfl|simp),i⟩
   ·have rb:(n==1)=false:=by simpa using r
    have c:V=false:=by rw[g];simp[fh,ft,eQ,eI,p,r]
    clear g;clear p r;rw[c];clear c V;go_enter Il,If;go_wp2_with fail;refine c1.mono ?_;rintro e w1 ⟨rfl,b1⟩;have i:=b.trans (b1.mono b.size);have d:=(b1.block _ f).trans h;obtain⟨u,t,s,q,o,m⟩:=dT d;clear c1 b1 b h d z0 l z2 z3 z4 j;go_wp2;go_ret;exact⟨eN (by first|rfl|simp),i⟩
 have b2:(k==2)=false:=bne h2;by_cases A:k=4
 ·subst A;by_cases p:n=0
  ·subst p;have c:V=eE nm:=by rw[g];simp[fh,ft,eQ,eI]
   clear g;rw[c];clear c V;go_enter Il,If;go_wp2_with fail;refine c1.mono ?_;rintro e w1 ⟨rfl,b1⟩;have i:=b.trans (b1.mono b.size);have d:=(b1.block _ f).trans h;obtain⟨u,t,s,q,o,m⟩:=dT d;clear c1 b1 b h d z0 l z2 z3 z4 j;go_wp2;go_ret;exact⟨eN (by first|rfl|simp),i⟩
  ·have z:(n==0)=false:=by simpa using p
   have c:V=false:=by rw[g];simp[fh,ft,eQ,eI,p]
   clear g;clear p;rw[c];clear c V;go_enter Il,If;go_wp2_with fail;refine c1.mono ?_;rintro e w1 ⟨rfl,b1⟩;have i:=b.trans (b1.mono b.size);have d:=(b1.block _ f).trans h;obtain⟨u,t,s,q,o,m⟩:=dT d;clear c1 b1 b h d z0 l z2 z3 z4 j;go_wp2;go_ret;exact⟨eN (by first|rfl|simp),i⟩
 have H:(k==4)=false:=bne A;by_cases v:k=23
 ·subst v;by_cases p:n=0
  ·subst p;have c:V=eE nm:=by rw[g];simp[fh,ft,eQ,eI]
   clear g;rw[c];clear c V;go_enter Il,If;go_wp2_with fail;refine c1.mono ?_;rintro e w1 ⟨rfl,b1⟩;have i:=b.trans (b1.mono b.size);have d:=(b1.block _ f).trans h;obtain⟨u,t,s,q,o,m⟩:=dT d;clear c1 b1 b h d z0 l z2 z3 z4 j;go_wp2;go_ret;exact⟨eN (by first|rfl|simp),i⟩
  ·have z:(n==0)=false:=by simpa using p
   have c:V=false:=by rw[g];simp[fh,ft,eQ,eI,p]
   clear g;clear p;rw[c];clear c V;go_enter Il,If;go_wp2_with fail;refine c1.mono ?_;rintro e w1 ⟨rfl,b1⟩;have i:=b.trans (b1.mono b.size);have d:=(b1.block _ f).trans h;obtain⟨u,t,s,q,o,m⟩:=dT d;clear c1 b1 b h d z0 l z2 z3 z4 j;go_wp2;go_ret;exact⟨eN (by first|rfl|simp),i⟩
 have E:(k==23)=false:=bne v;by_cases y:k=20
 ·subst y;by_cases p:1<=n
  ·have z:1<=n:=p;by_cases r:n<=10
   ·have rb:n<=10:=r;have c:V=(nm==[]):=by rw[g];simp[fh,ft,eQ,eI,p,r]
    clear g;rw[c];clear c V;go_enter Il,If;go_wp2_with fail;refine c1.mono ?_;rintro e w1 ⟨rfl,b1⟩;have i:=b.trans (b1.mono b.size);have d:=(b1.block _ f).trans h;obtain⟨u,t,s,q,o,m⟩:=dT d;clear c1 b1 b h d z0 l z2 z3 z4 j;go_wp2;go_ret;exact⟨eN (by first|rfl|simp),i⟩
   ·have rb:¬n<=10:=r;have c:V=false:=by rw[g];simp[fh,ft,eQ,eI,p,r]
    clear g;rw[c];clear c V;go_enter Il,If;go_wp2_with fail;refine c1.mono ?_;rintro e w1 ⟨rfl,b1⟩;have i:=b.trans (b1.mono b.size);have d:=(b1.block _ f).trans h;obtain⟨u,t,s,q,o,m⟩:=dT d;clear c1 b1 b h d z0 l z2 z3 z4 j;go_wp2;go_ret;exact⟨eN (by first|rfl|simp),i⟩
  ·have z:¬1<=n:=p;have c:V=false:=by rw[g];simp[fh,ft,eQ,eI,p]
   clear g;rw[c];clear c V;go_enter Il,If;go_wp2_with fail;refine c1.mono ?_;rintro e w1 ⟨rfl,b1⟩;have i:=b.trans (b1.mono b.size);have d:=(b1.block _ f).trans h;obtain⟨u,t,s,q,o,m⟩:=dT d;clear c1 b1 b h d z0 l z2 z3 z4 j;go_wp2;go_ret;exact⟨eN (by first|rfl|simp),i⟩
 have G:(k==20)=false:=bne y;by_cases x:k=21
 ·subst x;by_cases p:1<=n
  ·have z:1<=n:=p;by_cases r:n<=6
   ·have rb:n<=6:=r;have c:V=eE nm:=by rw[g];simp[fh,ft,eQ,eI,p,r]
    clear g;rw[c];clear c V;go_enter Il,If;go_wp2_with fail;refine c1.mono ?_;rintro e w1 ⟨rfl,b1⟩;have i:=b.trans (b1.mono b.size);have d:=(b1.block _ f).trans h;obtain⟨u,t,s,q,o,m⟩:=dT d;clear c1 b1 b h d z0 l z2 z3 z4 j;go_wp2;go_ret;exact⟨eN (by first|rfl|simp),i⟩
   ·have rb:¬n<=6:=r;have c:V=false:=by rw[g];simp[fh,ft,eQ,eI,p,r]
    clear g;rw[c];clear c V;go_enter Il,If;go_wp2_with fail;refine c1.mono ?_;rintro e w1 ⟨rfl,b1⟩;have i:=b.trans (b1.mono b.size);have d:=(b1.block _ f).trans h;obtain⟨u,t,s,q,o,m⟩:=dT d;clear c1 b1 b h d z0 l z2 z3 z4 j;go_wp2;go_ret;exact⟨eN (by first|rfl|simp),i⟩
  ·have z:¬1<=n:=p;have c:V=false:=by rw[g];simp[fh,ft,eQ,eI,p]
   clear g;rw[c];clear c V;go_enter Il,If;go_wp2_with fail;refine c1.mono ?_;rintro e w1 ⟨rfl,b1⟩;have i:=b.trans (b1.mono b.size);have d:=(b1.block _ f).trans h;obtain⟨u,t,s,q,o,m⟩:=dT d;clear c1 b1 b h d z0 l z2 z3 z4 j;go_wp2;go_ret;exact⟨eN (by first|rfl|simp),i⟩
 have F:(k==21)=false:=bne x;by_cases p:n=0
 ·subst p;have c:V=(nm==[]):=by rw[g];simp[fh,ft,eQ,eI,h1,B,h2,A,v,y,x]
  clear g;clear h1 B h2 A v y x;rw[c];clear c V;go_enter Il,If;go_wp2_with fail;refine c1.mono ?_;rintro e w1 ⟨rfl,b1⟩;have i:=b.trans (b1.mono b.size);have d:=(b1.block _ f).trans h;obtain⟨u,t,s,q,o,m⟩:=dT d;clear c1 b1 b h d z0 l z2 z3 z4 j;go_wp2;go_ret;exact⟨eN (by first|rfl|simp),i⟩
 ·have z:(n==0)=false:=by simpa using p
  have c:V=false:=by rw[g];simp[fh,ft,eQ,eI,h1,B,h2,A,v,y,x,p]
  clear g;clear p h1 B h2 A v y x;rw[c];clear c V;go_enter Il,If;go_wp2_with fail;refine c1.mono ?_;rintro e w1 ⟨rfl,b1⟩;have i:=b.trans (b1.mono b.size);have d:=(b1.block _ f).trans h;obtain⟨u,t,s,q,o,m⟩:=dT d;clear c1 b1 b h d z0 l z2 z3 z4 j;go_wp2;go_ret;exact⟨eN (by first|rfl|simp),i⟩
end Go.Proofs.YtkhgahljbpmfaaaGreatDoor

import Derived.Test.YtkhgahljbpmfaaaGreatDoorApp1
set_option maxRecDepth 100000
set_option maxHeartbeats 8000000
namespace Go.Proofs.YtkhgahljbpmfaaaGreatDoor
open Option renaming none->G0,some->G1,isSome_eq_false_iff->Ka,isNone_iff_eq_none->Kg
open Nat renaming le_refl->G4,lt_of_lt_of_le->Hh,le_trans->In,not_lt_zero->Ir,add_zero->Is,le_succ->Iv,zero_add->Ix,le_of_lt->IM,zero_mul->I4,one_mul->J8,ble_eq_true_of_le->KH
open Go.Proofs.Tryz renaming prog->G5,ntmps226->Im,func226->Ip,results88->It,ntmps227->IA,func227->IG,ntmps245->IL,func245->IY,underlying9->Je,underlying40->Ju,underlying147->JV,ntmps246->Kj,func246->Kt
open Go renaming World->G9,lt_of_block->Ha,bodyPost_ret->Hb,heap_alloc_new->Hc,Value->He,results->Hk,heap_setCell_other->Hl,Calls->Hn,maxLen->Hu,Addr->Hw,cell_of_row->If,TypeId->Il,frozen_of_row->IK,Ending->Ja,results_none->Jq
open List renaming getElem?_eq_getElem->Hd,length_append->Hx,length_cons->Hy,getElem?_eq_none->Ie,mem_of_find?_eq_some->Ii,replicate->Ik,getElem?_map->ID,mem_of_getElem?->IT,nil_append->I1,length_nil->I8,drop_eq_getElem_cons->Jd,cons_append->Jh,append_assoc->JL,map_append->Kn
open Go.RowKit renaming Below->Hf,intOf->Ih,wrap64->Io
open Go.Lib renaming hid->Hg,itoa->I6,formatBool->KB
open Go.RowKit.Below renaming refl->Hi,heap_alloc->Hj
open Bool renaming and_eq_true->Ia,not_eq_true->Jc,or_eq_true->Jn,true_and->JM
open Go.World renaming cell?_of_block->Ho
open Go.Value renaming int->Hp
open Exists renaming intro->Hv
open UInt8 renaming toNat_lt->IZ
open Go.AllReadyH renaming cons->Js
open Go.Addr renaming add->JA
open Ne renaming symm->JP
open Go.Exit renaming inBlock->JU,then->KJ
open Go.ChangeShapes Go.WideShapes Go.ChangeAt Go.RowKit
set_option linter.unusedVariables false
set_option linter.unusedSimpArgs false
def uV (N:Nat):Prop:=∀ (e:Ex) (ao:Option Hw) (cap:Nat) (a:List (List UInt8)) (bv:He) (w:G9),e.kids.size<N->e.kids.len<=1000000000->e.kids.short->a.length+e.kids.size<=1000000->Nms w bv a->SlA w e.kids ao ->
 Hn G5 45 #[exV e ao cap,bv] w (Bg w (ofE e a))
theorem Nms.news {w:G9}{ao:Option Hw}{cap:Nat}{b:List (List UInt8)}(h:Nms w (.slice ao b.length cap) b):0<b.length->∃i,ao=G1 i/\∀ j u,(b.map λx=>stv x)[j]?=G1 u->w.cell? (i.add j)=G1 u:=by
 intro e;obtain⟨m,f,k,n,h1|⟨g,h1,h2,o,l⟩⟩:=h
 ·rw[h1.1] at e;simp at e
 ·injection k with c
  subst c;refine⟨_,h1,λj u a=>?_⟩;rw[ID] at a;cases d:b[j]? with
  | none=>rw[d] at a;cases a
  | some t =>
   rw[d] at a;injection a with a
   subst a;have h5:((⟨g,0,G0⟩:Hw).add j)=⟨g,j,G0⟩:=by simp only[JA];split<;>simp_all
   rw[h5];exact l j t d
theorem Nms.ofRowL {w:G9}{o:Nat->Nat}{i g cap:Nat}{b:List (List UInt8)}{n:Nat}(h:Row w o i 9 1 (.slice (G1 ⟨g,0,G0⟩) n cap) n (b.map λx=>stv x))(a:b.length=n)(c:0<n):Nms w (.slice (G1 ⟨g,0,G0⟩) n cap) b :=
 Nms.ofRow (o:=λ_=>1) ⟨h.1,λ_ _=>rfl⟩ a c
theorem BN (b:List (List UInt8)):∀ u ∈ b.map (λx=>stv x),u.oneCell'=true:=λu a=>by
 obtain⟨x,_,rfl⟩:=List.mem_map.1 a;rfl
theorem yv {N:Nat}(IH:uV N):uV (N+1):=by
 intro e ao cap c bv w hN bc aP bj HN S;obtain⟨Y,hY⟩:∃Y,Y=ofE e c:=⟨_,rfl⟩;have HY:Hid (Y=ofE e c):=hY;rw[<-hY];clear hY;obtain⟨ii,aT,aA,az,ax⟩:=eo sj;obtain⟨is,aD,ah,ag,af⟩:=eo tg;obtain⟨w0,G⟩:∃w0,w0=((w.alloc (.cells #[.int .i64 e.k,.int .i64 e.n,stv e.nm,.slice ao e.kids.len cap,.int .i64 e.a] 25)).alloc (.cells #[.int .i64 0,.int .i64 0,.string ⟨#[]⟩,.slice G0 0 0] 34)).alloc (.cells #[.int .i64 e.k,.int .i64 e.n,.string ⟨#[]⟩,.slice G0 0 0] 34):=⟨_,rfl⟩;have B0:Hf w.heap.size w w0:=by rw[G];exact(((Hi _ w).alloc (G4 _) _).alloc (by simp) _).alloc (by simp;omega) _
 obtain⟨o0,M⟩:∃o0:Nat->Nat,o0=λk=>if k=w.heap.size+1+1 then 1 else if k=w.heap.size+1 then 3 else 0:=⟨_,rfl⟩;have E0:Blk w0 o0 0 w.heap.size (.cells #[.int .i64 e.k,.int .i64 e.n,stv e.nm,.slice ao e.kids.len cap,.int .i64 e.a] 25):=by
  refine⟨?_,by rw[M];simp only;rw[if_neg (by omega),if_neg (by omega)]⟩;rw[G];exact(Hj _ _ _ (by simp;omega)).trans ((Hj _ _ _ (by simp)).trans (Hc w _))
 have Z0:Blk w0 o0 3 (w.heap.size+1) (.cells #[.int .i64 0,.int .i64 0,.string ⟨#[]⟩,.slice G0 0 0] 34):=by
  refine⟨?_,by rw[M];simp⟩;rw[G];refine(Hj _ _ _ (by simp)).trans ?_
  have:=Hc (w.alloc (.cells #[.int .i64 e.k,.int .i64 e.n,stv e.nm,.slice ao e.kids.len cap,.int .i64 e.a] 25)) (.cells #[.int .i64 0,.int .i64 0,.string ⟨#[]⟩,.slice G0 0 0] 34)
  simpa using this
 have U:Blk w0 o0 1 (w.heap.size+1+1) (.cells #[.int .i64 e.k,.int .i64 e.n,.string ⟨#[]⟩,.slice G0 0 0] 34):=by
  refine⟨?_,by rw[M];simp⟩;rw[G]
  have:=Hc ((w.alloc (.cells #[.int .i64 e.k,.int .i64 e.n,stv e.nm,.slice ao e.kids.len cap,.int .i64 e.a] 25)).alloc (.cells #[.int .i64 0,.int .i64 0,.string ⟨#[]⟩,.slice G0 0 0] 34)) (.cells #[.int .i64 e.k,.int .i64 e.n,.string ⟨#[]⟩,.slice G0 0 0] 34)
  simpa using this
 have L0:∀ k,k<w.heap.size->o0 k=0:=λk f=>by rw[M];simp only;rw[if_neg (by omega),if_neg (by omega)]
 have A0:=ng.nil w0 o0 (λ_=>False) w.heap.size;have N0:=HN.below B0;obtain⟨ab,cb,aF,aY,aE⟩:=HN;have a5:Hid (Nms w bv c):=⟨ab,cb,aF,aY,aE⟩;subst aF;rw[dU];go_enter Tryz.func45,Tryz.ntmps45;go_upto_region 2 with fail;rw[<-G];clear G M;obtain⟨n0,P⟩:∃n0,n0=w.heap.size:=⟨_,rfl⟩;unfold Bg;rw[<-P] at E0 Z0 U L0 A0 B0 ⊢;have A:Hid (n0=w.heap.size):=P;clear P aE;obtain⟨p0,p1,p2,p3,p4,D⟩:=dS E0.1;have au:Hid (∀ W,Hf n0 w W->Nms W (.slice ab c.length cb) c):=λW b=>Nms.below a5.out (by rw[<-A.out];exact b);by_cases h4:e.k=4
 ·have aZ:(e.k==4)=true:=by simpa using h4
  have aJ:Hid (Y=⟨5,iG c e.nm 0 e.n,[],0,.nil⟩):=by show _=_;rw[HY.out];unfold ofE;rw[if_pos h4]
  have X:as (λk=>k=1) w0 o0 (w0.setCell ⟨n0+1+1,0,G0⟩ (.int .i64 5)) o0:=fo _ w0 o0 ⟨n0+1+1,0,G0⟩ _ U.2;have z:=U.set 0 (.int .i64 5);have t:=E0.step X (by decide);have q:=Z0.step X (by decide);have s:=eq B0 X (λk f=>by rw[L0 k f];decide) (by rw[A.out];exact G4 _);have LH:Hid (∀ k,k<n0->o0 k=0):=L0;obtain⟨t0,t1,t2,t3,tf⟩:=ep U.1;clear X E0 Z0 U A0 B0 HY L0 N0;go_wp2;clear p0 p1 p2 p3 p4 D t0 t1 t2 t3 tf;go_loopw [6] (λv wr=>∃(j:Nat) (n1:Int),v=.int .i64 (j:Nat)/\j<=c.length/\Hid (iG (c.drop j) e.nm j n1=iG c e.nm 0 e.n)/\Blk wr o0 0 n0 (.cells #[.int .i64 e.k,.int .i64 e.n,stv e.nm,.slice ao e.kids.len cap,.int .i64 e.a] 25)/\Blk wr o0 3 (n0+1) (.cells #[.int .i64 0,.int .i64 0,.string ⟨#[]⟩,.slice G0 0 0] 34)/\Blk wr o0 1 (n0+1+1) (.cells #[.int .i64 5,.int .i64 n1,.string ⟨#[]⟩,.slice G0 0 0] 34)/\Hf n0 w wr) (λv _=>c.length-(Ih v).toNat)
  case atStart=>exact⟨0,e.n,by show _=Hp .i64 ((0:Nat):Int);rfl,by omega,rfl,t,q,z,s⟩
  case round =>
   clear t q z s;obtain⟨j,n1,rfl,hj,HL,t,q,z,s⟩:=hrel;obtain⟨p0,p1,p2,p3,p4,D⟩:=dS t.1;obtain⟨t0,t1,t2,t3,tf⟩:=ep z.1;by_cases aa:j<c.length
   ·have hx:c[j]?=G1 c[j]:=Hd aa;have R:c.drop j=c[j]::c.drop (j+1):=Jd aa;obtain⟨_,_,hv,-,h1|⟨gb,h1,bi,-,T⟩⟩:=au.out wr s
    ·rw[h1.1] at aa;simp at aa
    injection hv with aN
    subst aN;subst h1;have an:=T j _ hx;have V:Hid (iG (c[j]::c.drop (j+1)) e.nm j n1=iG c e.nm 0 e.n):=by show _=_;rw[<-R];exact HL.out
    generalize c[j]=x at an V;have aC:(j:Int)<(c.length:Int):=by omega
    have bh:j<1000000:=by omega
    clear hx R T HL;go_upto_region 8 with fail;by_cases E:x=e.nm
    ·have aX:(x==e.nm)=true:=by simpa using E
     have av:Hid (iG (c.drop (j+1)) e.nm (j+1) (j:Int)=iG c e.nm 0 e.n):=by
      have h:iG (c.drop (j+1)) e.nm (j+1) (if x=e.nm then (j:Int) else n1)=iG c e.nm 0 e.n:=V.out;rw[if_pos E] at h;exact h
     clear E V
     go_quiet (fail)
     have bq:Hf wr.heap.size wr (wr.drewN nq):=bdr (Hi _ _) nq;have I:as (λ_=>False) wr o0 (wr.drewN nq) o0:=(as.refl _ wr o0).drewN nq;have E2:=t.step I id;have Z2:=q.step I id;have O2:=z.step I id;have B2:=eq s I (λ_ _=>id) (by rw[A.out];exact G4 _);generalize wr.drewN nq=wq at *;clear t q z s bq I p0 p1 p2 p3 p4 D t0 t1 t2 t3 tf an;obtain⟨t0,t1,t2,t3,tf⟩:=ep O2.1;have H:as (λk=>k=1) wq o0 (wq.setCell ⟨n0+1+1,1,G0⟩ (.int .i64 (j:Nat))) o0:=fo _ wq o0 ⟨n0+1+1,1,G0⟩ _ O2.2;have O3:=O2.set 1 (.int .i64 (j:Nat));have E3:=E2.step H (by decide);have Z3:=Z2.step H (by decide);have B3:=eq B2 H (λk f=>by rw[LH.out k f];decide) (by rw[A.out];exact G4 _);clear H E2 Z2 O2 B2;go_wp2;go_roundw
     case rel=>(try ((repeat apply Hv);refine⟨?_,rfl⟩));exact⟨j+1,_,by go_num,by omega,av,E3,Z3,O3,B3⟩
     case measure=>simp[Ih];omega
    ·have aX:(x==e.nm)=false:=by simpa using E
     have av:Hid (iG (c.drop (j+1)) e.nm (j+1) n1=iG c e.nm 0 e.n):=by
      have h:iG (c.drop (j+1)) e.nm (j+1) (if x=e.nm then (j:Int) else n1)=iG c e.nm 0 e.n:=V.out;rw[if_neg E] at h;exact h
     clear E V
     go_quiet (fail)
     have I:as (λ_=>False) wr o0 (wr.drewN nq) o0:=(as.refl _ wr o0).drewN nq;have E2:=t.step I id;have Z2:=q.step I id;have O2:=z.step I id;have B2:=eq s I (λ_ _=>id) (by rw[A.out];exact G4 _);generalize wr.drewN nq=wq at *;clear t q z s I p0 p1 p2 p3 p4 D t0 t1 t2 t3 tf an;go_wp2;go_roundw
     case rel=>(try ((repeat apply Hv);refine⟨?_,rfl⟩));exact⟨j+1,_,by go_num,by omega,av,E2,Z2,O2,B2⟩
     case measure=>simp[Ih];omega
   ·have aC:¬(j:Int)<(c.length:Int):=by omega
    have a6:Hid (n1=iG c e.nm 0 e.n):=by
     have h:=HL.out;rw[List.drop_eq_nil_of_le (by omega)] at h;exact h
    have HU:Hid (∃B,B=((((wr.setCell ⟨n0+1,0,G0⟩ (.int .i64 5)).setCell ⟨n0+1,1,G0⟩ (.int .i64 n1)).setCell ⟨n0+1,2,G0⟩ (.string ⟨#[]⟩)).setCell ⟨n0+1,3,G0⟩ (.slice G0 0 0))/\B.cell? ⟨n0+1,0,G0⟩=G1 (.int .i64 5)/\B.cell? ⟨n0+1,1,G0⟩=G1 (.int .i64 n1)/\B.cell? ⟨n0+1,2,G0⟩=G1 (.string ⟨#[]⟩)/\B.cell? ⟨n0+1,3,G0⟩=G1 (.slice G0 0 0)/\Hf n0 w B):=by
     obtain⟨u0,u1,u2,u3,-⟩:=ep (zv (b0:=.int .i64 5) (b1:=.int .i64 n1) (b2:=.string ⟨#[]⟩) (b3:=.slice G0 0 0) q.1);exact⟨_,rfl,u0,u1,u2,u3,(((s.setCell (p:=⟨n0+1,0,G0⟩) (Iv _) _).setCell (p:=⟨n0+1,1,G0⟩) (Iv _) _).setCell (p:=⟨n0+1,2,G0⟩) (Iv _) _).setCell (p:=⟨n0+1,3,G0⟩) (Iv _) _⟩
    obtain⟨z0,z1,z2,z3,zf⟩:=ep q.1;clear t q z s HL;go_wp2;obtain⟨B,al,v0,v1,v2,v3,BZ⟩:=HU.out;rw[<-al];refine Hb (v:=exN Y G0 0) ?_ rfl ⟨G0,0,rfl,by rw[aJ.out];exact SlN.nil _ _ _,by rw[<-A.out];exact BZ⟩;rw[aJ.out,<-a6.out];simp[Hk,Tryz.results45,go_sem,v0,v1,v2,v3,exN];rfl
 have aZ:(e.k==4)=false:=by simpa using h4
 obtain⟨g,K⟩:∃g,g=if e.k=23 then e.nm else ([]:List UInt8):=⟨_,rfl⟩;obtain⟨F,hF⟩:∃F,F=ofF e.kids e.k e.nm 0 c:=⟨_,rfl⟩;have aI:Hid (Y=⟨e.k,e.n,g,0,F⟩):=by show _=_;rw[HY.out,K,hF];unfold ofE;rw[if_neg h4]
 have HF:Hid (F=ofF e.kids e.k e.nm 0 c):=hF;have ar:Hid (g=if e.k=23 then e.nm else ([]:List UInt8)):=K;have LH:Hid (∀ k,k<n0->o0 k=0):=L0;clear K hF HY h4 N0 L0;have ap:((e.k==23)=true/\g=e.nm)\/((e.k==23)=false/\g=[]):=by
  by_cases ac:e.k=23
  ·exact .inl ⟨by simpa using ac,by rw[ar.out,if_pos ac]⟩
  ·exact .inr ⟨by simpa using ac,by rw[ar.out,if_neg ac]⟩
 rcases ap with ⟨aG,L⟩|⟨aG,L⟩
 focus
  obtain⟨t0,t1,t2,t3,tf⟩:=ep U.1;have X:as (λk=>k=1) w0 o0 (w0.setCell ⟨n0+1+1,2,G0⟩ (stv e.nm)) o0:=fo _ w0 o0 ⟨n0+1+1,2,G0⟩ _ U.2;have z:Blk (w0.setCell ⟨n0+1+1,2,G0⟩ (stv e.nm)) o0 1 (n0+1+1) (.cells #[.int .i64 e.k,.int .i64 e.n,stv g,.slice G0 0 0] 34):=by rw[L];exact U.set 2 (stv e.nm)
  have t:=E0.step X (by decide);have q:=Z0.step X (by decide);have Z:=A0.step X (by decide) (by decide);have s:=eq B0 X (λk f=>by rw[LH.out k f];decide) (by rw[A.out];exact G4 _);clear X U E0 Z0 A0 B0 L;go_upto_region 13 with fail;generalize w0.setCell ⟨n0+1+1,2,G0⟩ (stv e.nm)=w1 at *;clear t0 t1 t2 t3 tf
 rotate_left
 focus
  have z:Blk w0 o0 1 (n0+1+1) (.cells #[.int .i64 e.k,.int .i64 e.n,stv g,.slice G0 0 0] 34):=by rw[L];exact U
  have t:=E0;have q:=Z0;have Z:=A0;have s:=B0;clear U E0 Z0 A0 B0 L;go_upto_region 13 with fail
 all_goals (
  clear p0 p1 p2 p3 p4 D ar;go_wp2;go_loopw [7] (λv wr=>∃(done r d:Fs) (o:Nat->Nat) (va:He),Hid (e.kids=done.app r)/\v=.int .i64 (done.len:Nat)/\Hid (d.len=done.len)/\Hid (d.app (ofF r e.k e.nm done.len c)=F)/\Blk wr o 0 n0 (.cells #[.int .i64 e.k,.int .i64 e.n,stv e.nm,.slice ao e.kids.len cap,.int .i64 e.a] 25)/\Blk wr o 3 (n0+1) (.cells #[.int .i64 0,.int .i64 0,.string ⟨#[]⟩,.slice G0 0 0] 34)/\Blk wr o 1 (n0+1+1) (.cells #[.int .i64 e.k,.int .i64 e.n,stv g,va] 34)/\ng wr o (λ_=>False) n0 d va/\Hid (∀ k,k<n0->o k=0)/\Hf n0 w wr) (λv _=>e.kids.len-(Ih v).toNat)
  case atStart=>exact⟨.nil,e.kids,.nil,o0,.slice G0 0 0,rfl,by show _=Hp .i64 ((0:Nat):Int);rfl,rfl,HF.out.symm,t,q,z,Z,LH,s⟩
  case round =>
   clear t q z Z s HF LH;obtain⟨done,r,d,o,va,f,rfl,aq,HA,t,q,z,Z,L1,s⟩:=hrel;have Q:e.kids.len=done.len+r.len:=by rw[f.out,Fs.len_app]
   obtain⟨p0,p1,p2,p3,p4,D⟩:=dS t.1;cases r using Fs.on with
   | nil =>
    have aR:¬(done.len:Int)<(e.kids.len:Int):=by simp only[Fs.len] at Q;omega
    have aK:Hid (d=F):=by
     show _=_;rw[<-HA.out];exact(mB d).symm
    obtain⟨ad,cd,rfl,SD⟩:=Z.sl;have HU:Hid (∃B,B=((((wr.setCell ⟨n0+1,0,G0⟩ (.int .i64 e.k)).setCell ⟨n0+1,1,G0⟩ (.int .i64 e.n)).setCell ⟨n0+1,2,G0⟩ (stv g)).setCell ⟨n0+1,3,G0⟩ (.slice ad d.len cd))/\B.cell? ⟨n0+1,0,G0⟩=G1 (.int .i64 e.k)/\B.cell? ⟨n0+1,1,G0⟩=G1 (.int .i64 e.n)/\B.cell? ⟨n0+1,2,G0⟩=G1 (stv g)/\B.cell? ⟨n0+1,3,G0⟩=G1 (.slice ad d.len cd)/\SlN B (Nw n0) d ad/\Hf n0 w B):=by
     obtain⟨u0,u1,u2,u3,-⟩:=ep (zv (b0:=.int .i64 e.k) (b1:=.int .i64 e.n) (b2:=stv g) (b3:=.slice ad d.len cd) q.1);refine⟨_,rfl,u0,u1,u2,u3,?_,(((s.setCell (p:=⟨n0+1,0,G0⟩) (Iv _) _).setCell (p:=⟨n0+1,1,G0⟩) (Iv _) _).setCell (p:=⟨n0+1,2,G0⟩) (Iv _) _).setCell (p:=⟨n0+1,3,G0⟩) (Iv _) _⟩;exact SD.mono (λi hp hl=>pY wr (n0+1) i _ _ _ _ (λee=>by
      have h2:=q.2;rw[<-ee] at h2;rcases hp.1 with h|h<;>omega)) (by simp) (λi hp _=>by
       rcases hp.2 with h|h
       ·exact h.1.elim
       ·exact h)
    obtain⟨z0,z1,z2,z3,zf⟩:=ep q.1;obtain⟨t0,t1,t2,t3,tf⟩:=ep z.1;clear t q z Z s SD HA f Q;go_wp2;obtain⟨B,al,v0,v1,v2,v3,SZ,BZ⟩:=HU.out;rw[<-al];refine Hb (v:=exN Y ad cd) ?_ rfl ⟨ad,cd,rfl,by rw[aI.out,<-aK.out,<-A.out];exact SZ,by rw[<-A.out];exact BZ⟩;rw[aI.out,<-aK.out];simp[Hk,Tryz.results45,go_sem,v0,v1,v2,v3,exN]
   | Js kk kn km ka l kr =>
    have aR:(done.len:Int)<(e.kids.len:Int):=by simp only[Fs.len] at Q;omega
    have bg:done.len<e.kids.len:=by omega
    have aO:e.kids.size=done.size+(l.size+kr.size+1):=by rw[f.out,Fs.size_app];rfl
    have am:(Fs.cons kk kn km ka l kr).short:=Fs.app_short (by rw[<-f.out];exact aP);have aS:Hid (e.kids=(done.snoc ⟨kk,kn,km,ka,l⟩).app kr):=by show e.kids=_;rw[f.out];unfold Fs.snoc;rw[Fs.app_assoc];rfl
    have aQ:(done.len:Int)+1=((done.snoc ⟨kk,kn,km,ka,l⟩).len:Nat):=by rw[Fs.len_snoc];rfl
    have aL:Hid (d.app (Fs.ex (ofE ⟨kk,kn,km,ka,l⟩ (ly e.k e.nm done.len c)) (ofF kr e.k e.nm (done.len+1) c))=F):=by
     have h:=HA.out;rw[vI] at h;exact h
    have aW:(ly e.k e.nm done.len c).length<=c.length+1:=by unfold ly;split<;>simp
    have a4:Hid (∀ W,Hf n0 w W->SlA W (done.app (.cons kk kn km ka l kr)) ao):=λW b=>by rw[<-f.out];exact SlT.below S (by rw[<-A.out];exact b)
    by_cases hA:e.k=21/\done.len=1
    focus
     have aj:(e.k==21)=true:=by simpa using hA.1
     have aV:((done.len:Int)==1)=true:=by simp;omega
     have aw:Hid (ly e.k e.nm done.len c=c++[e.nm]):=by show _=_;unfold ly;rw[if_pos hA]
     have O:=Nms.news (au.out wr s);have m:=BN c;have bn:=t.lt;clear hA f Q;go_wp2_with (first|(at_builtin;refine jg rfl (.tmp 57) (.tmp 58) 40 rfl 9 is (.string ⟨#[]⟩) 1 16 Ju aD ah ag af rfl (by decide) o 7 _ 0 [] rfl (Row.nil _ _ _ _ _) ab c.length cb (c.map λx=>stv x) rfl ?c1 O m ?c3 ?c4 ?_)|go_in)
     case c1=>simp
     case c3=>unfold Hu;omega
     case c4=>omega
     intro a2 c2 w2 o2 R2 s2;try simp only[Ix,I1] at R2
     try simp only[Ix,I1]
     have E2:=t.step s2 (by decide);have Z2:=q.step s2 (by decide);have O2:=z.step s2 (by decide);have A2:=Z.step s2 (by decide) (by decide);have L2:Hid (∀ k,k<n0->o2 k=0):=λk f=>(s2.lab k (by omega)).trans (L1.out k f);have B2:=eq s s2 (λk f=>by rw[L1.out k f];decide) (by rw[A.out];exact G4 _);clear O m s2 t q z Z L1 s p0 p1 p2 p3 p4 D;obtain⟨p0,p1,p2,p3,p4,D⟩:=dS E2.1;have H:=ez (λ_=>False) w2 o2 (.cells #[stv e.nm] 9);have R3:=R2.step H id;have E3:=E2.step H id;have Z3:=Z2.step H id;have O3:=O2.step H id;have A3:=A2.step H id id;have bm:=E2.lt;have L3:Hid (∀ k,k<n0->dQ w2 o2 0 k=0):=λk f=>by rw[ed (by omega)];exact L2.out k f
     have B3:=eq B2 H (λ_ _=>id) (by rw[A.out];exact G4 _);have m:∀ u ∈ [stv e.nm],u.oneCell'=true:=by intro u hu;simp at hu;subst hu;rfl
     have q1:c.length+1<=Hu:=by unfold Hu;omega
     have q2:(c.length+1)*16<=140737488355328:=by omega
     clear H E2 Z2 O2 A2 L2 B2 R2;go_wp2_with (first|(at_builtin;refine eb rfl (.tmp 60) (.tmp 63) 40 rfl 9 is (.string ⟨#[]⟩) 1 16 Ju aD ah ag af rfl (by decide) (dQ w2 o2 0) 7 _ c.length (c.map λx=>stv x) rfl R3 ⟨w2.heap.size,0,G0⟩ 1 1 [stv e.nm] rfl rfl (fM w2 _ _) m (by decide) q1 q2 ?_)|go_in);intro g9 c9 w9 o9 r9 C;have aB:(c++[e.nm]).map (λx=>stv x)=(c.map λx=>stv x)++[stv e.nm]:=by simp
     have N4:Nms w9 (.slice (G1 ⟨g9,0,G0⟩) (c.length+1) c9) (ly e.k e.nm done.len c):=by rw[aw.out];exact Nms.ofRowL (by rw[aB];exact r9) (by simp) (by omega)
     have E4:=E3.step C (by decide);have Z4:=Z3.step C (by decide);have O4:=O3.step C (by decide);have A4:=A3.step C (by decide) (by decide);have L4:Hid (∀ k,k<n0->o9 k=0):=λk f=>(C.lab k (by simp;omega)).trans (L3.out k f);have B4:=eq B3 C (λk f=>by rw[L3.out k f];decide) (by rw[A.out];exact G4 _);clear aB r9 C R3 E3 Z3 O3 A3 L3 B3 m p0 p1 p2 p3 p4 D HA;go_upto_region 21 with fail;generalize o9=o4 at *;generalize w9=w4 at *
    rotate_left
    focus
     have aU:(e.k==21)=false\/((e.k==21)=true/\((done.len:Int)==1)=false):=by
      rcases Classical.em (e.k=21) with ae|ae
      ·exact .inr ⟨by simpa using ae,by have h3:done.len≠1:=λh=>hA ⟨ae,h⟩;simp;omega⟩
      ·exact .inl (by simpa using ae)
     have aw:Hid (ly e.k e.nm done.len c=c):=by show _=_;unfold ly;rw[if_neg hA]
     have N4:Nms wr (.slice ab c.length cb) (ly e.k e.nm done.len c):=by rw[aw.out];exact au.out wr s
     have E4:=t;have Z4:=q;have O4:=z;have A4:=Z;have L4:=L1;have B4:=s;clear t q z Z L1 s hA f Q HA;rcases aU with aj|⟨aj,aV⟩
     all_goals (
      go_upto_region 21 with fail;clear p0 p1 p2 p3 p4 D;generalize o=o4 at *;generalize wr=w4 at *)
    all_goals (
     obtain⟨p0,p1,p2,p3,p4,D⟩:=dS E4.1;obtain⟨b,off,ak,ck,a0,be,-,x0,x1,x2,x3,x4,SK⟩:=Sl.kidQ (a4.out w4 B4);have hc:=IH ⟨kk,kn,km,ka,l⟩ ak ck (ly e.k e.nm done.len c) _ w4 (by show l.size<N;omega) am.2.1 am.2.2.1 (by show _+l.size<=1000000;omega) N4 SK;generalize ofE ⟨kk,kn,km,ka,l⟩ (ly e.k e.nm done.len c)=y at *;generalize (ly e.k e.nm done.len c).length=nb at *;rw[dU] at hc;simp only at hc;subst a0;have P:n0<=w4.heap.size:=by have:=E4.lt;omega
     clear aO am SK N4 aW;go_wp2_with fail;refine hc.mono ?_;rintro x w6 ⟨ay,cy,rfl,S6,b6⟩;have s6:as (λ_=>False) w4 o4 w6 (dQ w4 o4 0):=Below.toStepC b6;have T6:SlN w6 (PD (λ_=>False) n0 (dQ w4 o4 0)) y.kids ay:=S6.mono (λ_ _ _=>rfl) (G4 _) (λi hp hl=>⟨dY hp,.inr (In P hp)⟩);have L6:Hid (∀ k,k<n0->dQ w4 o4 0 k=0):=λk f=>by rw[ed (by omega)];exact L4.out k f
     have E6:=E4.step s6 id;have Z6:=Z4.step s6 id;have O6:=O4.step s6 id;have A6:=A4.step s6 id id;have B6:=eq B4 s6 (λ_ _=>id) (by rw[A.out];exact G4 _);generalize dQ w4 o4 0=o6 at *;clear hc S6 b6 s6 E4 Z4 O4 A4 B4 L4 x0 x1 x2 x3 x4 p0 p1 p2 p3 p4 D;have s7:=ez (λ_=>False) w6 o6 (.cells #[.int .i64 y.k,.int .i64 y.n,stv y.nm,.slice ay y.kids.len cy] 34);have K7:=jK w6 o6 #[.int .i64 y.k,.int .i64 y.n,stv y.nm,.slice ay y.kids.len cy] 34;have T7:=T6.labD s7 id;have bf:n0<=w6.heap.size:=by have:=E6.lt;omega
     have L7:Hid (∀ k,k<n0->dQ w6 o6 0 k=0):=λk f=>by rw[ed (by omega)];exact L6.out k f
     have E7:=E6.step s7 id;have Z7:=Z6.step s7 id;have O7:=O6.step s7 id;have A7:=A6.step s7 id id;have B7:=eq B6 s7 (λ_ _=>id) (by rw[A.out];exact G4 _);rw[dR];go_upto_region 22 with fail;generalize dQ w6 o6 0=o7 at *;generalize w6.alloc (.cells #[.int .i64 y.k,.int .i64 y.n,stv y.nm,.slice ay y.kids.len cy] 34)=w7 at *;generalize w6.heap.size=bk at *;clear s7 T6 E6 Z6 O6 A6 B6 L6;obtain⟨p0,p1,p2,p3,D⟩:=ep O7.1;obtain⟨q0,q1,q2,q3,qf⟩:=ep K7.1;have s8:=ez (λ_=>False) w7 o7 (.cells #[.int .i64 y.k,.int .i64 y.n,stv y.nm,.slice ay y.kids.len cy] 34);have T8:=T7.labD s8 id;have bl:=E7.lt;have L8:Hid (∀ k,k<n0->dQ w7 o7 0 k=0):=λk f=>by rw[ed (by omega)];exact L7.out k f
     have E8:=E7.step s8 id;have Z8:=Z7.step s8 id;have O8:=O7.step s8 id;have A8:=A7.step s8 id id;have B8:=eq B7 s8 (λ_ _=>id) (by rw[A.out];exact G4 _);obtain⟨xs,R8,F8,-⟩:=A8;obtain⟨a8,c8,rfl⟩:=R8.form;have b1:d.len+1<=Hu:=by have:=aq.out;unfold Hu;omega
     have b2:(d.len+1)*56<=140737488355328:=by have:=aq.out;omega
     have m:∀ u ∈ [Hp .i64 y.k,.int .i64 y.n,stv y.nm,.slice ay y.kids.len cy],u.oneCell'=true:=by intro u hu;simp at hu;rcases hu with rfl|rfl|rfl|rfl<;>rfl
     have aM:n0<=(w7.alloc (.cells #[.int .i64 y.k,.int .i64 y.n,stv y.nm,.slice ay y.kids.len cy] 34)).heap.size:=by simp;omega
     have ai:∀ k,k<n0->dQ w7 o7 0 k≠2:=λk f=>by rw[L8.out k f];decide
     clear E7 Z7 O7 A7 B7 L7 T7 s8;go_wp2_with (first|(at_builtin;refine eb rfl (.tmp 73) (.tmp 75) 32 rfl 34 ii _ 4 56 Tryz.underlying32 aT aA az ax rfl (by decide) (dQ w7 o7 0) 2 _ d.len xs rfl R8 ⟨w7.heap.size,0,G0⟩ 1 1 [Hp .i64 y.k,.int .i64 y.n,stv y.nm,.slice ay y.kids.len cy] rfl rfl (gj w7 _ _) m (by decide) b1 b2 ?_)|go_in);intro g9 c9 w9 o9 r9 C;have A9:ng w9 o9 (λ_=>False) n0 (d.snoc y) (.slice (G1 ⟨g9,0,G0⟩) (d.len+1) c9):=ng.push F8 T8 C ai aM r9;have E9:=E8.step C (by decide);have Z9:=Z8.step C (by decide);have O9:=O8.step C (by decide);have L9:Hid (∀ k,k<n0->o9 k=0):=λk f=>(C.lab k (by omega)).trans (L8.out k f);have B9:=eq B8 C (λk f=>by rw[L8.out k f];decide) (by rw[A.out];exact G4 _);have J:as (λk=>k=1) w9 o9 (w9.setCell ⟨n0+1+1,3,G0⟩ (.slice (G1 ⟨g9,0,G0⟩) (d.len+1) c9)) o9:=fo _ w9 o9 ⟨n0+1+1,3,G0⟩ _ O9.2;have bb:=A9.step J (by decide) (by decide);have a9:=E9.step J (by decide);have a1:=Z9.step J (by decide);have a3:=O9.set 3 (.slice (G1 ⟨g9,0,G0⟩) (d.len+1) c9);have ba:=eq B9 J (λk f=>by rw[L9.out k f];decide) (by rw[A.out];exact G4 _);obtain⟨t0,t1,t2,t3,tf⟩:=ep O9.1;have a7:Hid ((d.snoc y).app (ofF kr e.k e.nm (done.snoc ⟨kk,kn,km,ka,l⟩).len c)=F):=by
      show _=_;rw[Fs.len_snoc,<-aL.out];unfold Fs.snoc;rw[Fs.app_assoc];rfl
     have aH:Hid ((d.snoc y).len=(done.snoc ⟨kk,kn,km,ka,l⟩).len):=by show _=_;rw[Fs.len_snoc,Fs.len_snoc,aq.out]
     clear A9 E9 Z9 O9 B9 J E8 Z8 O8 B8 L8 T8 R8 F8 r9 C p0 p1 p2 p3 D q0 q1 q2 q3 qf K7 aL ai;go_wp2;go_roundw
     case rel=>(try ((repeat apply Hv);refine⟨?_,rfl⟩));exact⟨_,kr,_,o9,_,aS,by rw[<-aQ],aH,a7,a9,a1,a3,bb,L9,ba⟩
     case measure=>simp[Ih];omega))
theorem vN:∀ N,uV N -- 45
 | 0=>λe ao cap a bv w h=>absurd h (Ir _)
 | N+1=>yv (vN N)
abbrev Er:=Option (Nat × Int)
def stS:Sum (Nat × Int) Int->Er
 | .inl x=>G1 x
 | .inr _=>G0
def gS (st:Er)(k:Int):Sum (Nat × Int) Int :=
 match st with
 | some x=>.inl x
 | none=>.inr k
def eN (st:Er)(m:Int)(e:Ex)(b:List (List UInt8)):Er :=
 match st with
 | some x=>G1 x
 | none=>stS (io m e.a (fa e b))
def iv:Fs->Er->List (List UInt8)->Er
 | ⟨G0⟩,st,_=>st
 | ⟨G1 ⟨k,n,nm,a,ks,r⟩⟩,st,b=>iv r (eN st 3 ⟨k,n,nm,a,ks⟩ b) b
theorem p9:∀ (f:Fs) (x:Nat × Int) (b:List (List UInt8)),iv f (G1 x) b=G1 x
 | ⟨G0⟩,x,b=>rfl
 | ⟨G1 ⟨k,n,nm,a,ks,r⟩⟩,x,b=>p9 r x b
theorem mS:∀ (f:Fs) (y:Ex) (st:Er) (b:List (List UInt8)),iv (f.snoc y) st b=eN (iv f st b) 3 y b
 | ⟨G0⟩,y,st,b=>rfl
 | ⟨G1 ⟨k,n,nm,a,ks,r⟩⟩,y,st,b=>mS r y _ b
theorem it (m a:Int)(r:Sum (Nat × Int) Int)(hm:m≠0):(∃x,io m a r=.inl x)\/(io m a r=.inr m/\r=.inr m):=by
 cases r with
 | inl x=>exact .inl ⟨x,rfl⟩
 | inr is =>
  simp only[io];by_cases h:is=m
  ·subst h;exact .inr ⟨by rw[if_neg (λh2=>h2.2 rfl)],rfl⟩
  ·exact .inl ⟨_,by rw[if_pos ⟨hm,h⟩]⟩
theorem iV (x:Ex)(r:Fs)(k n:Int)(nm:List UInt8)(len:Nat)(b:List (List UInt8))(i:Nat)(done:List Int)(hk:k≠21) :
  fv (Fs.ex x r) k n nm len b i done=(match io (eZ k n len done) x.a (fa x b) with
   | .inl e=>.inl e
   | .inr is=>fv r k n nm len b (i+1) (done++[is])):=by
 have h:=ri x r k n nm len b i done;rw[if_neg (λh2=>hk h2.1)] at h;exact h
theorem D3 (n:Nat)(d:List Int):d++[3]++Ik n 3=d++Ik (n+1) 3:=by
 rw[JL];rfl
theorem pd (k n:Int)(nm:List UInt8)(len:Nat)(b:List (List UInt8))(hk:k≠21):∀ (f:Fs) (i:Nat) (done:List Int),(∀ d:List Int,done.length<=d.length->d.length<done.length+f.len->eZ k n len d=3) ->
  fv f k n nm len b i done=(match iv f G0 b with|some x=>.inl x|none=>.inr (done++Ik f.len 3))
 | ⟨G0⟩,i,done,h=>by simp[fv,iv,Fs.len]
 | ⟨G1 ⟨kk,kn,km,ka,kks,kr⟩⟩,i,done,h=>by
  have e1:=iV ⟨kk,kn,km,ka,kks⟩ kr k n nm len b i done hk;have e2:fv ⟨G1 ⟨kk,kn,km,ka,kks,kr⟩⟩ k n nm len b i done=_:=e1;rw[e2,h done (G4 _) (by simp[Fs.len])];simp only[iv,eN];rcases it 3 ka (fa ⟨kk,kn,km,ka,kks⟩ b) (by decide) with ⟨x,hx⟩|⟨hx,-⟩
  ·rw[hx];simp only[stS,p9]
  ·rw[hx];simp only[stS];rw[pd k n nm len b hk kr (i+1) (done++[3]) (λd h1 h2=>h d (by simp at h1;omega) (by simp[Fs.len] at h1 h2 ⊢;omega))];cases iv kr G0 b with
   | some x=>rfl
   | none=>simp only[Fs.len];rw[D3]
theorem wG {k n:Int}{nm:List UInt8}{a:Int}{x:Ex}{b:List (List UInt8)}(m g:Int)(h4:k≠4)(h21:k≠21)(h0:eZ k n 1 []=m)(hm:m≠0)(h1:eZ k n 1 [m]=g) :
  fa ⟨k,n,nm,a,Fs.ex x .nil⟩ b=gS (eN G0 m x b) g:=by
 rw[iu _ _ h4];show rn k n 1 (fv (Fs.ex x .nil) k n nm 1 b 0 [])=_;rw[iV _ _ _ _ _ _ _ _ _ h21,h0];unfold eN;simp only;rcases it m x.a (fa x b) hm with ⟨y,hy⟩|⟨hy,-⟩
 ·rw[hy];rfl
 ·rw[hy];show Sum.inr (eZ k n 1 [m])=_;rw[h1];rfl
theorem iU {k n:Int}{nm:List UInt8}{a:Int}{x y:Ex}{b:List (List UInt8)}(m g:Int)(h4:k≠4)(h21:k≠21)(h0:eZ k n 2 []=m)(h1:eZ k n 2 [m]=m)(hm:m≠0)(h2:eZ k n 2 [m,m]=g) :
  fa ⟨k,n,nm,a,Fs.ex x (Fs.ex y .nil)⟩ b=gS (eN (eN G0 m x b) m y b) g:=by
 rw[iu _ _ h4];show rn k n 2 (fv (Fs.ex x (Fs.ex y .nil)) k n nm 2 b 0 [])=_;rw[iV _ _ _ _ _ _ _ _ _ h21,h0];rcases it m x.a (fa x b) hm with ⟨z,hz⟩|⟨hz,-⟩
 ·unfold eN;simp only;rw[hz];rfl
 ·have e1:eN G0 m x b=G0:=by unfold eN;simp only;rw[hz];rfl
  rw[hz,e1];simp only[I1];rw[iV _ _ _ _ _ _ _ _ _ h21,h1];unfold eN;simp only;rcases it m y.a (fa y b) hm with ⟨z,hz⟩|⟨hz,-⟩
  ·rw[hz];rfl
  ·rw[hz];show Sum.inr (eZ k n 2 [m,m])=_;rw[h2];rfl
theorem mT {k n:Int}{nm:List UInt8}{a:Int}{x y:Ex}{b:List (List UInt8)}(hk:k=13\/k=14) :
  fa ⟨k,n,nm,a,Fs.ex x (Fs.ex y .nil)⟩ b=(match fa x b with | .inl e=>.inl e | .inr k0=>gS (eN G0 k0 y b) 2):=by
 rw[iu _ _ (by show k≠4;omega)];show rn k n 2 (fv (Fs.ex x (Fs.ex y .nil)) k n nm 2 b 0 [])=_;have hr:∀ d,eZ k n 2 d=(match d with | []=>0 | [a]=>a|_=>2):=λd=>by unfold eZ;rw[if_pos hk];first|done|(rcases d with _|⟨x,_|⟨y,r⟩⟩<;>rfl)
 rw[iV _ _ _ _ _ _ _ _ _ (by omega),hr];simp only;cases hx:fa x b with
 | inl e=>rfl
 | inr k0 =>
  simp only[io];rw[if_neg (λh=>h.1 rfl)];simp only[I1];rw[iV _ _ _ _ _ _ _ _ _ (by omega),hr];unfold eN;simp only;cases io k0 y.a (fa y b) with
  | inl e=>rfl
  | inr k1 =>
   show Sum.inr (eZ k n 2 [k0,k1])=_;rw[hr];rfl
theorem oC {n:Int}{nm:List UInt8}{a:Int}{x y z:Ex}{b:List (List UInt8)} :
  fa ⟨19,n,nm,a,Fs.ex x (Fs.ex y (Fs.ex z .nil))⟩ b=(match eN G0 2 x b with
   | some e=>.inl e
   | none=>match fa y b with | .inl e=>.inl e | .inr k1=>gS (eN G0 k1 z b) k1):=by
 rw[iu _ _ (by show (19:Int)≠4;omega)];show rn 19 n 3 (fv (Fs.ex x (Fs.ex y (Fs.ex z .nil))) 19 n nm 3 b 0 [])=_;have hr:∀ d,eZ 19 n 3 d=(match d with | []=>2 | [_]=>0|_::b::_=>b):=λd=>by unfold eZ;rw[if_neg (by omega),if_pos rfl];first|done|(rcases d with _|⟨x,_|⟨y,r⟩⟩<;>rfl)
 rw[iV _ _ _ _ _ _ _ _ _ (by omega),hr];simp only;rcases it 2 x.a (fa x b) (by decide) with ⟨u,hu⟩|⟨hu,-⟩
 ·unfold eN;simp only;rw[hu];rfl
 ·have e1:eN G0 2 x b=G0:=by unfold eN;simp only;rw[hu];rfl
  rw[hu,e1];simp only[I1];rw[iV _ _ _ _ _ _ _ _ _ (by omega),hr];simp only;cases hy:fa y b with
  | inl e=>rfl
  | inr k1 =>
   simp only[io];rw[if_neg (λh=>h.1 rfl)];simp only[Jh,I1];rw[iV _ _ _ _ _ _ _ _ _ (by omega),hr];unfold eN;simp only;cases io k1 z.a (fa z b) with
   | inl e=>rfl
   | inr k2 =>
    show Sum.inr (eZ 19 n 3 [2,k1,k2])=_;rw[hr];rfl
def j6 (n:Int):Int:=if n=1\/n=2 then 2 else if n=10 then 3 else 1
def fH (n:Int):Int:=if n<=3 then 2 else 1
def fw (n:Int):Int:=if n<=2 then 2 else 1
theorem By {n:Int}{nm:List UInt8}{a:Int}{f:Fs}{b:List (List UInt8)}(hn:1<=n/\n<=10)(hl:(j9 20 n).length=f.len+1) :
  fa ⟨20,n,nm,a,f⟩ b=gS (iv f G0 b) (j6 n):=by
 rw[iu _ _ (by show (20:Int)≠4;omega)];show rn 20 n f.len (fv f 20 n nm f.len b 0 [])=_;have hn2:n=1\/n=2\/n=3\/n=4\/n=5\/n=6\/n=7\/n=8\/n=9\/n=10:=by omega
 have hv:∀ d:List Int,d.length<f.len->eZ 20 n f.len d=3:=λd hd=>by
  have hr:eZ 20 n f.len d=(j9 20 n)[d.length]?.getD 0:=by
   unfold eZ;rw[if_neg (by omega),if_neg (by omega),if_neg (by omega)]
  rw[hr];generalize d.length=j at hd;generalize f.len=m at hl hd;rcases hn2 with rfl|rfl|rfl|rfl|rfl|rfl|rfl|rfl|rfl|rfl<;>(simp[j9] at hl;subst hl)
  all_goals (
   have hj:j=0\/j=1:=by omega
   rcases hj with rfl|rfl<;>first|rfl|omega)
 rw[pd 20 n nm f.len b (by omega) f 0 [] (λd _ h2=>hv d (by simpa using h2))];cases iv f G0 b with
 | some x=>rfl
 | none =>
  show Sum.inr (eZ 20 n f.len ([]++Ik f.len 3))=_;have hr:eZ 20 n f.len ([]++Ik f.len 3)=(j9 20 n)[f.len]?.getD 0:=by
   unfold eZ;rw[if_neg (by omega),if_neg (by omega),if_neg (by omega)];simp
  rw[hr];generalize f.len=m at hl;rcases hn2 with rfl|rfl|rfl|rfl|rfl|rfl|rfl|rfl|rfl|rfl<;>(simp[j9] at hl;subst hl;rfl)
theorem wZ {k n:Int}{nm:List UInt8}{a:Int}{f:Fs}{b:List (List UInt8)}(hk:(k=22\/k=23)/\f.len=0\/k=24/\f.len=1\/k=25) :
  fa ⟨k,n,nm,a,f⟩ b=gS (iv f G0 b) 4:=by
 rw[iu _ _ (by show k≠4;omega)];show rn k n f.len (fv f k n nm f.len b 0 [])=_;have hv:∀ d:List Int,d.length<f.len->eZ k n f.len d=3:=λd hd=>by
  rcases hk with ⟨rfl|rfl,h0⟩|⟨rfl,h0⟩|rfl
  ·omega
  ·omega
  ·have:d.length=0:=by omega
   obtain rfl:=List.length_eq_zero_iff.1 this;rfl
  ·unfold eZ;rw[if_neg (by omega),if_neg (by omega),if_pos rfl,if_pos hd]
 rw[pd k n nm f.len b (by omega) f 0 [] (λd _ h2=>hv d (by simpa using h2))];cases iv f G0 b with
 | some x=>rfl
 | none =>
  show Sum.inr (eZ k n f.len ([]++Ik f.len 3))=Sum.inr 4
  congr 1
  rcases hk with ⟨rfl|rfl,h0⟩|⟨rfl,h0⟩|rfl
  ·rw[h0];rfl
  ·rw[h0];rfl
  ·rw[h0];rfl
  ·unfold eZ;rw[if_neg (by omega),if_neg (by omega),if_pos rfl,if_neg (by simp)]
theorem xv {n:Int}{nm:List UInt8}{a:Int}{s x:Ex}{b:List (List UInt8)}(hn:1<=n/\n<=6)(hs:fa s b=gS (iv s.kids G0 b) 4) :
  fa ⟨21,n,nm,a,Fs.ex s (Fs.ex x .nil)⟩ b=gS (eN (iv s.kids G0 b) (fH n) x (b++[nm])) (fw n):=by
 rw[iu _ _ (by show (21:Int)≠4;omega)];show rn 21 n 2 (fv (Fs.ex s (Fs.ex x .nil)) 21 n nm 2 b 0 [])=_;have hn2:n=1\/n=2\/n=3\/n=4\/n=5\/n=6:=by omega
 have r0:eZ 21 n 2 []=4:=by rcases hn2 with rfl|rfl|rfl|rfl|rfl|rfl<;>rfl
 have r1:eZ 21 n 2 [4]=fH n:=by rcases hn2 with rfl|rfl|rfl|rfl|rfl|rfl<;>rfl
 have r2:∀ k,eZ 21 n 2 [4,k]=fw n:=λk=>by rcases hn2 with rfl|rfl|rfl|rfl|rfl|rfl<;>rfl
 have hb0:fH n≠0:=by unfold fH;split<;>omega
 have e1:=ri s (Fs.ex x .nil) 21 n nm 2 b 0 [];have e2:=ri x .nil 21 n nm 2 b 1 [4];rw[if_neg (by omega),hs,r0] at e1;rw[if_pos (by decide),r1] at e2;show rn 21 n 2 (fv (.cons s.k s.n s.nm s.a s.kids (.cons x.k x.n x.nm x.a x.kids .nil)) 21 n nm 2 b 0 [])=_;rw[show fv (.cons s.k s.n s.nm s.a s.kids (.cons x.k x.n x.nm x.a x.kids .nil)) 21 n nm 2 b 0 []=_ from e1];cases iv s.kids G0 b with
 | some z=>rfl
 | none =>
  simp only[gS,io];rw[if_neg (λh=>h.2 rfl)];simp only[I1];rw[show fv (Fs.ex x .nil) 21 n nm 2 b 1 [4]=_ from e2];unfold eN;simp only;rcases it (fH n) x.a (fa x (b++[nm])) hb0 with ⟨z,hz⟩|⟨hz,-⟩
  ·rw[hz];rfl
  ·rw[hz];show Sum.inr (eZ 21 n 2 [4,fH n])=_;rw[r2];rfl
theorem qB:∀ (f:Fs) (k n:Int) (nm:List UInt8) (len:Nat) (b:List (List UInt8)) (i:Nat) (done d:List Int),fv f k n nm len b i done=.inr d->d.length=done.length+f.len
 | ⟨G0⟩,k,n,nm,len,b,i,done,d,h=>by
  simp only[fv] at h;injection h with h
  subst h;rfl
 | ⟨G1 ⟨kk,kn,km,ka,kks,kr⟩⟩,k,n,nm,len,b,i,done,d,h=>by
  have e1:fv ⟨G1 ⟨kk,kn,km,ka,kks,kr⟩⟩ k n nm len b i done=_:=ri ⟨kk,kn,km,ka,kks⟩ kr k n nm len b i done;rw[e1] at h;cases hm:io (eZ k n len done) ka (fa ⟨kk,kn,km,ka,kks⟩ (if k=21/\i≠0 then b++[nm] else b)) with
  | inl z=>simp only at h;rw[hm] at h;cases h
  | inr is =>
   simp only at h;rw[hm] at h
   have:=qB kr k n nm len b (i+1) (done++[is]) d h
   simp only[Hx,Hy,I8,Fs.len] at this ⊢;omega
def Fs.stk:Fs->Bool->Prop
 | ⟨G0⟩,_=>True
 | ⟨G1 ⟨k,_,_,_,ks,r⟩⟩,first=>eQ k=first/\ks.stk (k==21)/\r.stk false
theorem rO:∀ (f:Fs) (b:Bool) (c c':Nat),hFs f b c=G1 c'->f.stk b
 | ⟨G0⟩,b,c,c',h=>trivial
 | ⟨G1 ⟨k,n,nm,a,ks,r⟩⟩,b,c,c',h=>by
  unfold hFs at h;split at h
  ·cases h
  ·rename_i h0
   split at h
   ·cases h
   ·split at h
    ·split at h
     ·cases h
     ·rename_i c2 h2
      exact⟨by simpa using h0,rO ks _ _ _ h2,rO r _ _ _ h⟩
    ·cases h
theorem EZ {e:Ex}{c c':Nat}(h:hE e c=G1 c'):e.kids.stk (e.k==21):=by
 unfold hE at h;split at h
 ·cases h
 ·split at h
  ·exact rO _ _ _ _ h
  ·cases h
theorem mG:∀ (N:Nat) (e:Ex) (b:List (List UInt8)) (k:Int),e.kids.size<N->e.okA->fa e b=.inr k->k≠0
 | 0,e,b,k,hN,_,_=>absurd hN (Ir _)
 | N+1,⟨k0,n,nm,a,f⟩,b,k,hN,hok,h=>by
  have ho:=zi hok.1;have hkid:=hok.1.2.2.1;simp only at hN ho hkid;by_cases h13:k0=13\/k0=14
  ·have hl:f.len=2:=by
    rcases h13 with rfl|rfl<;>(simp[eB,gZ,iO] at hkid;omega)
   obtain⟨x,y,rfl⟩:=jG hl;rw[mT h13] at h;cases hx:fa x b with
   | inl z=>rw[hx] at h;cases h
   | inr k1 =>
    rw[hx] at h;simp only at h;cases hm:eN G0 k1 y b with
    | some z=>rw[hm] at h;cases h
    | none=>rw[hm] at h;injection h with h;omega
  by_cases h19:k0=19
  ·subst h19;have hl:f.len=3:=by simp[eB] at hkid;omega
   obtain⟨x,y,z,rfl⟩:=CS hl;rw[oC] at h;cases hx:eN G0 2 x b with
   | some u=>rw[hx] at h;cases h
   | none =>
    rw[hx] at h;simp only at h;cases hy:fa y b with
    | inl u=>rw[hy] at h;cases h
    | inr k1 =>
     rw[hy] at h;simp only at h;cases hm:eN G0 k1 z b with
     | some u=>rw[hm] at h;cases h
     | none =>
      rw[hm] at h;injection h with h
      subst h;have hsz:y.kids.size<N:=by
       simp only[qM,Fs.size] at hN;omega
      exact mG N y b _ hsz (py (py hok.2).2).1 hy
  by_cases h25:k0=22\/k0=23\/k0=24\/k0=25
  ·have hl:(k0=22\/k0=23)/\f.len=0\/k0=24/\f.len=1\/k0=25:=by
    rcases h25 with rfl|rfl|rfl|rfl
    ·exact .inl ⟨.inl rfl,by simp[eB] at hkid;first|done|exact hkid|omega⟩
    ·exact .inl ⟨.inr rfl,by simp[eB] at hkid;first|done|exact hkid|omega⟩
    ·exact .inr (.inl ⟨rfl,by simp[eB] at hkid;first|done|exact hkid|omega⟩)
    ·exact .inr (.inr rfl)
   rw[wZ hl] at h;cases hm:iv f G0 b with
   | some z=>rw[hm] at h;cases h
   | none=>rw[hm] at h;injection h with h;omega
  have hpos:∀ (j:Nat) (v:Int),(j9 k0 n)[j]?=G1 v->v≠0:=by
   intro j v hv;have hmem:=IT hv;have hi:∀ (P:Prop) [Decidable P] (a b:List Int),(∀ x,x ∈ a->x≠0)->(∀ x,x ∈ b->x≠0)->∀ x,x ∈ (if P then a else b)->x≠0:=by
    intro P _ a b ha hb;split
    ·exact ha
    ·exact hb
   revert v
   suffices hall:∀ x,x ∈ j9 k0 n->x≠0 from λv _ hm=>hall v hm
   unfold j9
   repeat' apply hi
   all_goals (intro x hx;simp at hx<;>omega)
  have hfl:(j9 k0 n).length=f.len+1:=by
   rcases ho with ho|⟨rfl,-,ho⟩|⟨rfl,-,ho⟩|⟨hr,ho⟩
   ·omega
   ·exact ho
   ·exact ho
   ·rw[<-ho];unfold j9;simp only[hr.2.2.2.1,hr.2.2.2.2.1,if_false]
  have hlen:∀ (f:Fs) (i:Nat) (done d:List Int),fv f k0 n nm (f.len+i) b i done=.inr d->True:=λ_ _ _ _ _=>trivial;unfold fa at h;split at h
  ·cases h
  ·cases hc:fv f k0 n nm f.len b 0 [] with
   | inl z=>simp only at h;rw[hc] at h;cases h
   | inr d =>
    simp only at h;rw[hc] at h;injection h with h
    have hd:=qB f k0 n nm f.len b 0 [] d hc;have hr:eZ k0 n f.len d=(j9 k0 n)[d.length]?.getD 0:=by
     unfold eZ;rw[if_neg (by omega),if_neg (by omega),if_neg (by omega)]
    have hx:(j9 k0 n)[d.length]?=G1 ((j9 k0 n)[d.length]'(by simp at hd;omega)):=Hd (by simp at hd;omega);rw[<-h,hr,hx];exact hpos _ _ hx
def erO (st:Er):Nat:=match st with|some x=>x.1|none=>0
def plO (st:Er):Int:=match st with|some x=>x.2|none=>0
def xq (st:Er):Prop:=∀ x,st=G1 x->x.1≠0
structure Wk (w:G9)(wb:Nat)(bv:He)(st:Er):Prop where
 blk:w.heap[wb]?=G1 (.cells #[bv,.int .i64 (erO st:Nat),.int .i64 (plO st)] 139 (0,0))
 ok:xq st
theorem xq.none:xq G0:=λx h=>by cases h
theorem lu {w:G9}{b:Nat}{a0 a1 a2:He}{t:Il}(h:w.heap[b]?=G1 (.cells #[a0,a1,a2] t (0,0))):w.cell? ⟨b,0,G0⟩=G1 a0/\w.cell? ⟨b,1,G0⟩=G1 a1/\w.cell? ⟨b,2,G0⟩=G1 a2/\∀ j,w.frozen? ⟨b,j,G0⟩=false:=by
 refine⟨?_,?_,?_,λj=>IK w b j _ t h⟩<;>simp[If w b _ _ t (0,0) h]
theorem DR {w:G9}{b:Nat}{a0 a1 a2:He}{t:Il}(h:w.heap[b]?=G1 (.cells #[a0,a1,a2] t (0,0)))(v:He) :
  (w.setCell ⟨b,0,G0⟩ v).heap[b]?=G1 (.cells #[v,a1,a2] t (0,0))/\(w.setCell ⟨b,1,G0⟩ v).heap[b]?=G1 (.cells #[a0,v,a2] t (0,0))/\(w.setCell ⟨b,2,G0⟩ v).heap[b]?=G1 (.cells #[a0,a1,v] t (0,0)) :=
 ⟨(Blk.set (o:=λ_=>0) (i:=0) ⟨h,rfl⟩ 0 v).1,(Blk.set (o:=λ_=>0) (i:=0) ⟨h,rfl⟩ 1 v).1,(Blk.set (o:=λ_=>0) (i:=0) ⟨h,rfl⟩ 2 v).1⟩
def Nmk (wb:Nat)(w:G9)(v:He)(b:List (List UInt8)):Prop:=Nms w v b/\∀ g off n c,v=.slice (G1 ⟨g,off,G0⟩) n c->g≠wb
theorem Nmk.keep {wb:Nat}{w w':G9}{v:He}{b:List (List UInt8)}(h:Nmk wb w v b)(K:dX wb w w'):Nmk wb w' v b:=by
 refine⟨?_,h.2⟩;obtain⟨⟨ao,cap,rfl,hc,h1|⟨g,rfl,h2,h0,h3⟩⟩,h4⟩:=h
 ·exact⟨ao,cap,rfl,hc,.inl h1⟩
 ·exact⟨_,cap,rfl,hc,.inr ⟨g,rfl,Hh h2 K.size,h0,λj t hj=>(K.cell h2 (h4 _ _ _ _ rfl) j).trans (h3 j t hj)⟩⟩
theorem wI (w:G9)(wb:Nat)(bv:He)(er:Nat)(a:Int)(her:er≠0)(h:Wk w wb bv G0) :
  Hn G5 194 #[.pointer (G1 ⟨wb,0,G0⟩),.int .i64 (er:Nat),.int .i64 a] w λx w'=>x=.returned (.tuple #[])/\Wk w' wb bv (G1 (er,a))/\dX wb w w':=by
 have h1:=h.blk;simp only[erO,plO] at h1;obtain⟨c0,c1,c2,cf⟩:=lu h1;have F1:=(DR h1 (.int .i64 (er:Nat))).2.1;have F2:=(DR F1 (.int .i64 a)).2.2;have K:=((dX.refl wb w).set ⟨wb,1,G0⟩ (.int .i64 (er:Nat)) (.inr rfl)).set ⟨wb,2,G0⟩ (.int .i64 a) (.inr rfl);have HZ:Hid (Wk ((w.setCell ⟨wb,1,G0⟩ (.int .i64 (er:Nat))).setCell ⟨wb,2,G0⟩ (.int .i64 a)) wb bv (G1 (er,a))/\dX wb w ((w.setCell ⟨wb,1,G0⟩ (.int .i64 (er:Nat))).setCell ⟨wb,2,G0⟩ (.int .i64 a))) :=
  ⟨⟨F2,λx hx=>by injection hx with hx;subst hx;exact her⟩,K⟩
 clear h F1 F2 K h1;go_enter Tryz.func194,Tryz.ntmps194;go_wp2
 go_end0
 exact⟨rfl,HZ.out.1,HZ.out.2⟩
def EM (w:G9)(wb:Nat)(bv:He)(b:List (List UInt8))(e:Ex)(x:Ja)(w':G9):Prop :=
 (∃r,x=.returned (.int .i64 r)/\(e.nm ∈ b->r=3))/\Wk w' wb bv (if e.nm ∈ b then G0 else G1 (130,e.a))/\dX wb w w'
theorem EJ (e:Ex)(ao:Option Hw)(cap:Nat)(w:G9)(wb:Nat)(bv:He)(b:List (List UInt8))(h:Wk w wb bv G0)(hn:Nmk wb w bv b)(hl:b.length<=100000) :
  Hn G5 137 #[.pointer (G1 ⟨wb,0,G0⟩),exV e ao cap] w (EM w wb bv b e):=by
 have B0:Hf w.heap.size w (w.alloc (.cells #[.int .i64 e.k,.int .i64 e.n,stv e.nm,.slice ao e.kids.len cap,.int .i64 e.a] 25)):=(Hi _ w).alloc (G4 _) _;have E0:(w.alloc (.cells #[.int .i64 e.k,.int .i64 e.n,stv e.nm,.slice ao e.kids.len cap,.int .i64 e.a] 25)).heap[w.heap.size]?=G1 (.cells #[.int .i64 e.k,.int .i64 e.n,stv e.nm,.slice ao e.kids.len cap,.int .i64 e.a] 25):=Hc w _;have hwb:=Ha h.blk;have W0:=(B0.block _ hwb).trans h.blk;have N0:=hn.1.below B0;clear h hn;rw[dU];go_enter Tryz.func137,Tryz.ntmps137;go_upto_region 1 with fail;generalize w.alloc (.cells #[.int .i64 e.k,.int .i64 e.n,stv e.nm,.slice ao e.kids.len cap,.int .i64 e.a] 25)=w0 at *;obtain⟨bx,hbx⟩:∃bx,bx=w.heap.size:=⟨_,rfl⟩;rw[<-hbx] at E0 B0 ⊢;have HB:Hid (bx=w.heap.size):=hbx;clear hbx;have hbx0:=Ha E0;have hwb0:=Ha W0;obtain⟨av,capv,rfl,hcv,hp⟩:=N0;simp only[erO,plO] at W0;go_wp2;go_loopw [5] (λv wr=>∃k:Nat,k<=b.length/\v=.int .i64 (k:Nat)/\Hid (∀ j,j<k->b[j]?≠G1 e.nm)/\Hf w0.heap.size w0 wr) (λv _=>b.length-(Ih v).toNat)
 case atStart=>exact⟨0,by omega,by go_num,λj hj=>absurd hj (Ir _),Hi _ _⟩
 case round =>
  obtain⟨k,hk,rfl,hno,B1⟩:=hrel;have E1:=(B1.block _ hbx0).trans E0;have W1:=(B1.block _ hwb0).trans W0;obtain⟨p0,p1,p2,p3,p4,pf⟩:=dS E1;obtain⟨q0,q1,q2,qf⟩:=lu W1;by_cases hlt:k<b.length
  ·have hx:b[k]?=G1 b[k]:=Hd hlt;rcases hp with ⟨rfl,-⟩|⟨g,rfl,hg,-,hcell⟩
   ·simp at hlt
   have c1:=(B1.cell (p:=⟨g,k,G0⟩) hg).trans (hcell k _ hx);generalize b[k]=x at c1 hx;have hkI:(k:Int)<(b.length:Int):=by omega
   have HX:Hid (b[k]?=G1 x):=hx;clear hx hcell;by_cases he:x=e.nm
   ·subst he;have hbe:(e.nm==e.nm)=true:=by simp
    have hmem:e.nm ∈ b:=IT HX.out;have FIN:Hid (e.nm ∈ b):=hmem;clear hno HX hmem;go_wp2_with fail
    go_quiet (fail)
    go_wp2;refine Hb (v:=.int .i64 3) (by simp[Hk,Tryz.results137,go_sem]) rfl ⟨⟨3,rfl,λ_=>rfl⟩,?_,?_⟩
    ·rw[if_pos FIN.out];exact⟨W1,xq.none⟩
    ·refine dX.ofBelow ?_;rw[<-HB.out];exact B0.trans ((B1.trans (show Hf w0.heap.size wr (wr.drewN nq) from ⟨rfl,rfl,rfl,G4 _,λ_ _=>rfl⟩)).mono (IM hbx0))
   ·have hbe:(x==e.nm)=false:=by simpa using he
    have hn2:Hid (∀ j,j<k+1->b[j]?≠G1 e.nm):=by
     intro j hj;rcases Nat.lt_succ_iff_lt_or_eq.1 hj with h1|rfl
     ·exact hno.out j h1
     ·rw[HX.out];intro h2;injection h2 with h2
      exact he h2
    clear hno HX he;go_wp2_with fail
    go_quiet (fail)
    have B2:=B1.trans (show Hf w0.heap.size wr (wr.drewN nq) from ⟨rfl,rfl,rfl,G4 _,λ_ _=>rfl⟩);go_wp2;go_roundw
    case rel=>exact⟨k+1,by omega,by go_num,hn2,B2⟩
    case measure=>simp[Ih];omega
  ·obtain rfl:k=b.length:=by omega
   have FIN:Hid (¬e.nm ∈ b):=by
    intro h1;obtain⟨j,hj,h2⟩:=List.mem_iff_getElem.1 h1;exact hno.out j hj (by rw[Hd hj,h2])
   have c1:=wI wr wb (.slice av b.length capv) 130 e.a (by decide) ⟨W1,xq.none⟩;clear hno hp;go_wp2_with fail;refine c1.mono ?_;rintro x w3 ⟨rfl,W3,K3⟩;clear c1 p0 p1 p2 p3 p4 pf q0 q1 q2 qf;go_wp2;refine Hb (v:=.int .i64 0) (by simp[Hk,Tryz.results137,go_sem]) rfl ⟨⟨0,rfl,λh=>absurd h FIN.out⟩,?_,?_⟩
   ·rw[if_neg FIN.out];exact W3
   ·refine(dX.ofBelow ?_).trans K3;rw[<-HB.out];exact B0.trans (B1.mono (IM hbx0))
theorem qY (n:Int)(w:G9):Hn G5 140 #[.int .i64 n] w λx w'=>x=.returned (.int .i64 (j6 n))/\w'=w:=by
 unfold j6;by_cases h1:n=1
 ·subst h1;go_enter Tryz.func140,Tryz.ntmps140;go_wp2;go_ret;exact⟨rfl,rfl⟩
 ·by_cases h2:n=2
  ·subst h2;go_enter Tryz.func140,Tryz.ntmps140;go_wp2;go_ret;exact⟨rfl,rfl⟩
  ·rw[if_neg (by omega)];have b1:(n==1)=false:=by simpa using h1
   have b2:(n==2)=false:=by simpa using h2
   by_cases h3:n=10
   ·subst h3;go_enter Tryz.func140,Tryz.ntmps140;go_wp2;go_ret;exact⟨rfl,rfl⟩
   ·rw[if_neg h3];have b3:(n==10)=false:=by simpa using h3
    clear h1 h2 h3;go_enter Tryz.func140,Tryz.ntmps140;go_wp2;go_ret;exact⟨rfl,rfl⟩
theorem zK (n:Int)(w:G9):Hn G5 195 #[.int .i64 n] w λx w'=>x=.returned (.int .i64 (fH n))/\w'=w:=by
 unfold fH;by_cases h1:n<=3
 ·rw[if_pos h1];go_enter Tryz.func195,Tryz.ntmps195;go_wp2;go_ret;exact⟨rfl,rfl⟩
 ·rw[if_neg h1];go_enter Tryz.func195,Tryz.ntmps195;go_wp2;go_ret;exact⟨rfl,rfl⟩
theorem qU (n:Int)(w:G9):Hn G5 177 #[.int .i64 n] w λx w'=>x=.returned (.int .i64 (fw n))/\w'=w:=by
 unfold fw;by_cases h1:n<=2
 ·rw[if_pos h1];go_enter Tryz.func177,Tryz.ntmps177;go_wp2;go_ret;exact⟨rfl,rfl⟩
 ·rw[if_neg h1];go_enter Tryz.func177,Tryz.ntmps177;go_wp2;go_ret;exact⟨rfl,rfl⟩
structure pN (N:Nat)(e:Ex)(nb:Nat):Prop where
 sz:e.kids.size<N
 ok:e.okA
 st:eQ e.k=false
 sk:e.kids.stk (e.k==21)
 len:e.kids.len<=1000000000
 sh:e.kids.short
 bl:nb+e.kids.size<=3000
def ft (w:G9)(wb:Nat)(bv:He)(r:Sum (Nat × Int) Int)(x:Ja)(w':G9):Prop :=
 (∃k',x=.returned (.int .i64 k')/\∀ k,r=.inr k->k'=k)/\Wk w' wb bv (stS r)/\dX wb w w'
def nf (N:Nat):Prop:=∀ (e:Ex) (ao:Option Hw) (cap wb:Nat) (bv:He) (b:List (List UInt8)) (w:G9),pN N e b.length->Wk w wb bv G0->Nmk wb w bv b->Sl w (Nf wb) e.kids ao ->
 Hn G5 88 #[.pointer (G1 ⟨wb,0,G0⟩),exV e ao cap] w (ft w wb bv (fa e b))
def ov (w:G9)(wb:Nat)(bv:He)(st:Er)(x:Ja)(w':G9):Prop:=x=.returned (.tuple #[])/\Wk w' wb bv st/\dX wb w w'
theorem Sl.belowF {fb:Nat}{w w':G9}{f:Fs}{ao:Option Hw}(h:Sl w (Nf fb) f ao)(b:Hf w.heap.size w w'):Sl w' (Nf fb) f ao:=h.mono (λi _ hl=>b.block i hl) b.size (λ_ h _=>h)
theorem Nmk.below {wb:Nat}{w w':G9}{v:He}{b:List (List UInt8)}(h:Nmk wb w v b)(B:Hf w.heap.size w w'):Nmk wb w' v b:=⟨h.1.below B,h.2⟩
theorem Wk.below {w w':G9}{wb:Nat}{bv:He}{st:Er}(h:Wk w wb bv st)(B:Hf w.heap.size w w'):Wk w' wb bv st:=⟨(B.block _ (Ha h.blk)).trans h.blk,h.ok⟩
theorem dX.bel {rb:Nat}{w a b:G9}(B:Hf w.heap.size w a)(K:dX rb a b):dX rb w b:=(dX.ofBelow B).trans K
theorem je {N:Nat}(IH:nf N)(e:Ex)(ao:Option Hw)(cap wb:Nat)(bv:He)(b:List (List UInt8))(m:Int)(st:Er)(w:G9)(hr:pN N e b.length)(hm:st=G0->m≠0)(h:Wk w wb bv st)(hn:st=G0->Nmk wb w bv b)(S:Sl w (Nf wb) e.kids ao) :
  Hn G5 138 #[.pointer (G1 ⟨wb,0,G0⟩),exV e ao cap,.int .i64 m] w (ov w wb bv (eN st m e b)):=by
 have B0:Hf w.heap.size w (w.alloc (.cells #[.int .i64 e.k,.int .i64 e.n,stv e.nm,.slice ao e.kids.len cap,.int .i64 e.a] 25)):=(Hi _ w).alloc (G4 _) _;have E0:(w.alloc (.cells #[.int .i64 e.k,.int .i64 e.n,stv e.nm,.slice ao e.kids.len cap,.int .i64 e.a] 25)).heap[w.heap.size]?=G1 (.cells #[.int .i64 e.k,.int .i64 e.n,stv e.nm,.slice ao e.kids.len cap,.int .i64 e.a] 25):=Hc w _;have W0:=h.below B0;have S0:=Sl.belowF S B0;have hwb:=Ha h.blk;have N0:=λhs=>(hn hs).below B0;clear h hn S;rw[dU];go_enter Tryz.func138,Tryz.ntmps138;go_upto_region 1 with fail;generalize w.alloc (.cells #[.int .i64 e.k,.int .i64 e.n,stv e.nm,.slice ao e.kids.len cap,.int .i64 e.a] 25)=w0 at *;obtain⟨bx,hbx⟩:∃bx,bx=w.heap.size:=⟨_,rfl⟩;have hwbx:wb≠bx:=by omega
 rw[<-hbx] at E0 B0 ⊢;have HB:Hid (bx=w.heap.size):=hbx;clear hbx;obtain⟨p0,p1,p2,p3,p4,pf⟩:=dS E0;obtain⟨q0,q1,q2,qf⟩:=lu W0.blk;cases st with
 | some z =>
  have hz:=W0.ok z rfl;obtain⟨er,pa⟩:=z;simp only[erO,plO] at q1 q2 hz;have hne:((er:Int) != 0)=true:=by simp;omega
  have HZ:Hid (ov w wb bv (eN (G1 (er,pa)) m e b) (.returned (.tuple #[])) w0):=⟨rfl,W0,dX.ofBelow (by rw[<-HB.out];exact B0)⟩;clear W0 N0 S0 hr;go_wp2
  go_end0
  exact HZ.out
 | none =>
  have HM:Hid (m≠0):=hm rfl;simp only[erO,plO] at q1 q2;have c1:=IH e ao cap wb bv b w0 hr W0 (N0 rfl) S0;rw[dU] at c1;go_wp2_with fail;refine c1.mono ?_;rintro x w1 ⟨⟨k',rfl,hk'⟩,W1,K1⟩;have E1:=(K1.block _ (Ha E0) (JP hwbx)).trans E0;have KW:dX wb w w1:=dX.bel (by rw[<-HB.out];exact B0) K1;clear c1 p0 p1 p2 p3 p4 pf q0 q1 q2 qf W0 N0 S0 E0 B0 K1;obtain⟨p0,p1,p2,p3,p4,pf⟩:=dS E1;obtain⟨q0,q1,q2,qf⟩:=lu W1.blk;cases hc:fa e b with
  | inl z =>
   obtain⟨er,pa⟩:=z;have her:=wa hc;rw[hc] at W1 q1 q2;simp only[stS,erO,plO] at q1 q2;have hne:((er:Int)==0)=false:=by simp;omega
   have HZ:Hid (ov w wb bv (eN G0 m e b) (.returned (.tuple #[])) w1):=⟨rfl,by unfold eN;simp only;rw[hc];exact W1,KW⟩;clear W1 hr hc hk' her KW;go_wp2
   go_end0
   exact HZ.out
  | inr k =>
   obtain rfl:=hk' k hc;rw[hc] at W1 q1 q2;simp only[stS,erO,plO] at q1 q2 W1;by_cases hkm:k'=m
   ·have hne:(k' != m)=false:=by simpa using hkm
    have HZ:Hid (ov w wb bv (eN G0 m e b) (.returned (.tuple #[])) w1):=by
     refine⟨rfl,?_,KW⟩;unfold eN;simp only;rw[hc];simp only[io];rw[if_neg (λh=>h.2 hkm)];exact W1
    clear W1 hr hc hk' KW hkm;go_wp2
    go_end0
    exact HZ.out
   ·have hne:(k' != m)=true:=by simpa using hkm
    have c2:=wI w1 wb bv 131 e.a (by decide) W1;have hmu:Hid (eN G0 m e b=G1 (131,e.a)):=by
     show _=_;unfold eN;simp only;rw[hc];simp only[io];rw[if_pos ⟨HM.out,hkm⟩];rfl
    clear W1 hr hc hk' hkm;go_wp2_with fail;refine c2.mono ?_;rintro x w3 ⟨rfl,W3,K3⟩;have HZ:Hid (ov w wb bv (eN G0 m e b) (.returned (.tuple #[])) w3):=⟨rfl,by rw[hmu.out];exact W3,KW.trans K3⟩;clear c2 W3 K3 KW;go_wp2
    go_end0
    exact HZ.out
theorem ie {N:Nat}(IH:nf N)(e x y:Ex)(ao:Option Hw)(cap wb:Nat)(bv:He)(b:List (List UInt8))(m g:Int)(w:G9)(hk:e.kids=Fs.ex x (Fs.ex y .nil))(hx:pN N x b.length)(hy:pN N y b.length)(hm:m≠0)(h:Wk w wb bv G0)(hn:Nmk wb w bv b)(S:Sl w (Nf wb) e.kids ao) :
  Hn G5 139 #[.pointer (G1 ⟨wb,0,G0⟩),exV e ao cap,.int .i64 m,.int .i64 g] w λz w'=>z=.returned (.int .i64 g)/\Wk w' wb bv (eN (eN G0 m x b) m y b)/\dX wb w w':=by
 have hlen:e.kids.len=2:=by rw[hk];rfl
 have HK:Hid (e.kids=Fs.ex x (Fs.ex y .nil)):=hk;have HL:Hid (e.kids.len=2):=hlen;clear hk hlen;have B0:Hf w.heap.size w (w.alloc (.cells #[.int .i64 e.k,.int .i64 e.n,stv e.nm,.slice ao e.kids.len cap,.int .i64 e.a] 25)):=(Hi _ w).alloc (G4 _) _;have E0:(w.alloc (.cells #[.int .i64 e.k,.int .i64 e.n,stv e.nm,.slice ao e.kids.len cap,.int .i64 e.a] 25)).heap[w.heap.size]?=G1 (.cells #[.int .i64 e.k,.int .i64 e.n,stv e.nm,.slice ao e.kids.len cap,.int .i64 e.a] 25):=Hc w _;have W0:=h.below B0;have S0:=Sl.belowF S B0;have hwb:=Ha h.blk;have N0:=hn.below B0;clear h hn S;rw[dU];go_enter Tryz.func139,Tryz.ntmps139;go_upto_region 1 with fail;generalize w.alloc (.cells #[.int .i64 e.k,.int .i64 e.n,stv e.nm,.slice ao e.kids.len cap,.int .i64 e.a] 25)=w0 at *;obtain⟨bx,hbx⟩:∃bx,bx=w.heap.size:=⟨_,rfl⟩;have hwbx:wb≠bx:=by omega
 rw[<-hbx] at E0 B0 ⊢;have HB:Hid (bx=w.heap.size):=hbx;clear hbx;rw[HL.out] at E0 ⊢;obtain⟨p0,p1,p2,p3,p4,pf⟩:=dS E0;have S0x:Sl w0 (Nf wb) (Fs.nil.app (Fs.ex x (Fs.ex y .nil))) ao:=by rw[HK.out] at S0;exact S0
 obtain⟨kb,off,ak,ck,hao,x0,x1,x2,x3,x4,SK⟩:=Sl.kidP S0x 0 rfl;subst hao;simp only[I4,Is] at x0 x1 x2 x3 x4;have c1:=je IH x ak ck wb bv b m G0 w0 hx (λ_=>hm) W0 (λ_=>N0) SK;rw[dU] at c1;go_wp2_with fail;refine c1.mono ?_;rintro z w1 ⟨rfl,W1,K1⟩;have E1:=(K1.block _ (Ha E0) (JP hwbx)).trans E0;have S1:Sl w1 (Nf wb) ((Fs.ex x .nil).app (Fs.ex y .nil)) (G1 ⟨kb,off,G0⟩):=by
  have:=Sl.keepF S0 K1
  rw[HK.out] at this;exact this
 have N1:=N0.keep K1;have KW:dX wb w w1:=dX.bel (by rw[<-HB.out];exact B0) K1;clear c1 p0 p1 p2 p3 p4 pf x0 x1 x2 x3 x4 SK S0x S0 W0 N0 E0 B0 K1;obtain⟨p0,p1,p2,p3,p4,pf⟩:=dS E1;obtain⟨kb',off',ak,ck,hao,x0,x1,x2,x3,x4,SK⟩:=Sl.kidP S1 1 rfl;injection hao with hao
 injection hao with h1 h2
 subst h1;subst h2;have c2:=je IH y ak ck wb bv b m _ w1 hy (λ_=>hm) W1 (λ_=>N1) SK;rw[dU] at c2;go_wp2_with fail;refine c2.mono ?_;rintro z w2 ⟨rfl,W2,K2⟩;have HZ:Hid (Wk w2 wb bv (eN (eN G0 m x b) m y b)/\dX wb w w2):=⟨W2,KW.trans K2⟩;clear c2 W2 K2 KW p0 p1 p2 p3 p4 pf x0 x1 x2 x3 x4 SK S1 W1 N1 E1;go_wp2;refine Hb (v:=.int .i64 g) (by simp[Hk,Tryz.results139,go_sem]) rfl ⟨rfl,HZ.out.1,HZ.out.2⟩
theorem rX:∀ {x y:Fs},(x.app y).okA->y.okA
 | ⟨G0⟩,y,h=>h
 | ⟨G1 ⟨k,n,nm,a,ks,r⟩⟩,y,h=>rX h.2.2
theorem nd:∀ (x:Fs),x.app .nil=x
 | ⟨G0⟩=>rfl
 | ⟨G1 ⟨k,n,nm,a,ks,r⟩⟩=>by simp only[Fs.app];rw[nd r]
def Kds (N:Nat)(f:Fs)(nb:Nat):Prop:=∀ (d r:Fs) (y:Ex),f=d.app (Fs.ex y r)->pN N y nb
theorem Fs.app_stk:∀ {x y:Fs}{first:Bool},(x.app y).stk first->x.len≠0->y.stk false
 | ⟨G0⟩,y,first,h,h0=>absurd rfl h0
 | ⟨G1 ⟨k,n,nm,a,ks,⟨G0⟩⟩⟩,y,first,h,h0=>h.2.2
 | ⟨G1 ⟨k,n,nm,a,ks,⟨G1 r⟩⟩⟩,y,first,h,h0=>Fs.app_stk (x:=⟨G1 r⟩) h.2.2 (by simp[Fs.len])
theorem Fs.app_stkF {x y:Fs}(h:(x.app y).stk false):y.stk false:=by
 by_cases h0:x.len=0
 ·cases x using Fs.on with
  | nil=>exact h
  | Js k n nm a ks r=>simp[Fs.len] at h0
 ·exact Fs.app_stk h h0
theorem Kds.of {N:Nat}{f:Fs}{nb:Nat}(hs:f.size<=N)(hok:f.okA)(hsk:f.stk false)(hsh:f.short)(hbl:nb+f.size<=3000):Kds N f nb:=by
 intro d r y hf;subst hf;rw[Fs.size_app,qM] at hs hbl;have h1:=Fs.app_short hsh;have h2:=Fs.app_stkF hsk;have h3:(Fs.ex y r).okA:=rX hok;exact⟨by omega,(py h3).1,h2.1,h2.2.1,h1.2.1,h1.2.2.1,by omega⟩
theorem Do {N:Nat}(IH:nf N)(e s x:Ex)(ao:Option Hw)(cap wb:Nat)(bv:He)(b:List (List UInt8))(w:G9)(hk:e.kids=Fs.ex s (Fs.ex x .nil))(hs:Kds N s.kids b.length)(hsl:s.kids.len<=1000000000)(hx:pN N x (b.length+1))(h:Wk w wb bv G0)(hn:Nmk wb w bv b)(S:Sl w (Nf wb) e.kids ao) :
  Hn G5 141 #[.pointer (G1 ⟨wb,0,G0⟩),exV e ao cap] w λz w'=>z=.returned (.int .i64 (fw e.n))/\Wk w' wb bv (eN (iv s.kids G0 b) (fH e.n) x (b++[e.nm]))/\dX wb w w':=by
 obtain⟨ii,hii,hzi0,hzi1,hzi2⟩:=eo tg;have hlen:e.kids.len=2:=by rw[hk];rfl
 have HK:Hid (e.kids=Fs.ex s (Fs.ex x .nil)):=hk;have HL:Hid (e.kids.len=2):=hlen;clear hk hlen;have B0:Hf w.heap.size w (w.alloc (.cells #[.int .i64 e.k,.int .i64 e.n,stv e.nm,.slice ao e.kids.len cap,.int .i64 e.a] 25)):=(Hi _ w).alloc (G4 _) _;have E0:(w.alloc (.cells #[.int .i64 e.k,.int .i64 e.n,stv e.nm,.slice ao e.kids.len cap,.int .i64 e.a] 25)).heap[w.heap.size]?=G1 (.cells #[.int .i64 e.k,.int .i64 e.n,stv e.nm,.slice ao e.kids.len cap,.int .i64 e.a] 25):=Hc w _;have W0:=h.below B0;have S0:=Sl.belowF S B0;have hwb:=Ha h.blk;have N0:=hn.below B0;clear h hn S;rw[dU];go_enter Tryz.func141,Tryz.ntmps141;go_upto_region 1 with fail;generalize w.alloc (.cells #[.int .i64 e.k,.int .i64 e.n,stv e.nm,.slice ao e.kids.len cap,.int .i64 e.a] 25)=w0 at *;obtain⟨bx,hbx⟩:∃bx,bx=w.heap.size:=⟨_,rfl⟩;have hwbx:wb≠bx:=by omega
 rw[<-hbx] at E0 B0 ⊢;have HB:Hid (bx=w.heap.size):=hbx;clear hbx;rw[HL.out] at E0 ⊢;obtain⟨p0,p1,p2,p3,p4,pf⟩:=dS E0;have S0x:Sl w0 (Nf wb) (Fs.nil.app (Fs.ex s (Fs.ex x .nil))) ao:=by rw[HK.out] at S0;exact S0
 obtain⟨kb,off,as',cs',hao,x0,x1,x2,x3,x4,SK⟩:=Sl.kidP S0x 0 rfl;subst hao;simp only[I4,Is] at x0 x1 x2 x3 x4
 -- the set's box
 have B1:Hf w0.heap.size w0 (w0.alloc (.cells #[.int .i64 s.k,.int .i64 s.n,stv s.nm,.slice as' s.kids.len cs',.int .i64 s.a] 25)):=(Hi _ w0).alloc (G4 _) _;have Z1:(w0.alloc (.cells #[.int .i64 s.k,.int .i64 s.n,stv s.nm,.slice as' s.kids.len cs',.int .i64 s.a] 25)).heap[w0.heap.size]?=G1 (.cells #[.int .i64 s.k,.int .i64 s.n,stv s.nm,.slice as' s.kids.len cs',.int .i64 s.a] 25):=Hc w0 _;have E1:=(B1.block _ (Ha E0)).trans E0;have W1:=W0.below B1;have N1:=N0.below B1;have S1:=Sl.belowF S0 B1;have SK1:=Sl.belowF SK B1;have hwb1:wb<w0.heap.size:=Ha W0.blk;go_upto_region 2 with fail;generalize w0.alloc (.cells #[.int .i64 s.k,.int .i64 s.n,stv s.nm,.slice as' s.kids.len cs',.int .i64 s.a] 25)=w1 at *;obtain⟨sb,hsb⟩:∃sb,sb=w0.heap.size:=⟨_,rfl⟩;have hwsb:wb≠sb:=by omega
 rw[<-hsb] at Z1 ⊢;have BW1:Hf bx w w1:=B0.trans (B1.mono (IM (Ha E0)));clear hsb p0 p1 p2 p3 p4 pf x0 x1 x2 x3 x4 S0x S0 W0 N0 E0 B0 B1 SK;go_wp2;go_loopw [6] (λv wr=>∃(d r:Fs),Hid (s.kids=d.app r)/\v=.int .i64 (d.len:Nat)/\Wk wr wb bv (iv d G0 b)/\dX wb w1 wr) (λv _=>s.kids.len-(Ih v).toNat)
 case atStart=>exact⟨.nil,s.kids,rfl,by show _=Hp .i64 ((0:Nat):Int);rfl,W1,dX.refl _ _⟩
 case round =>
  obtain⟨d,r,hf,rfl,W2,K2⟩:=hrel;have hlk:s.kids.len=d.len+r.len:=by rw[hf.out,Fs.len_app]
  have Z2:=(K2.block _ (Ha Z1) (JP hwsb)).trans Z1;have E2:=(K2.block _ (Ha E1) (JP hwbx)).trans E1;obtain⟨p0,p1,p2,p3,p4,pf⟩:=dS Z2;cases r using Fs.on with
  | nil =>
   have hl0:¬(d.len:Int)<(s.kids.len:Int):=by simp only[Fs.len] at hlk;omega
   have hdn:s.kids=d:=by rw[hf.out];clear hf hlk hl0 W2;exact nd d
   have W2':Wk wr wb bv (iv s.kids G0 b):=by rw[hdn];exact W2
   generalize hst:iv s.kids G0 b=st at W2';have HST:Hid (iv s.kids G0 b=st):=hst;have N2:=N1.keep K2;have S2:=Sl.keepF S1 K2;have KW2:dX wb w wr:=dX.bel (by rw[<-HB.out];exact BW1) K2;obtain⟨⟨av,capv,rfl,hcv,hp⟩,hpb⟩:=N2;obtain⟨q0,q1,q2,qf⟩:=lu W2'.blk;clear hf hlk hdn hst W2 N1 S1 SK1 K2 W1 Z1 E1 BW1 hs;go_upto_region 8 with fail;go_cut [8] (λv wx=>∃ao' cap' o',v=.slice ao' b.length cap'/\Row wx o' 1 9 1 v b.length (b.map λx=>stv x)/\as I1n wr (λ_=>0) wx o')
   case first =>
    rcases hp with ⟨hb0,rfl⟩|⟨g,rfl,hg,hpos,hcell⟩
    ·subst hb0;go_wp2;go_meet;exact⟨G0,0,λ_=>0,by first|rfl|simp,Row.nil _ _ _ _ _,as.refl _ _ _⟩
    ·have hnews:∀ j u,(b.map λx=>stv x)[j]?=G1 u->wr.cell? ((⟨g,0,G0⟩:Hw).add j)=G1 u:=λj u hj=>by
      rw[ID] at hj;cases hb:b[j]? with
      | none=>rw[hb] at hj;cases hj
      | some t =>
       rw[hb] at hj;injection hj with hj
       subst hj;have h3:((⟨g,0,G0⟩:Hw).add j)=⟨g,j,G0⟩:=by simp[JA];exact Eq.symm
       rw[h3];exact hcell j t hb
     have hone:∀ u ∈ (b.map λx=>stv x),u.oneCell'=true:=λu hu=>by
      obtain⟨x,_,rfl⟩:=List.mem_map.1 hu;rfl
     have hlb:(b.map λx=>stv x).length=b.length:=List.length_map _;have hbl:=hx.bl;generalize (b.map λx=>stv x)=xs at *;clear hcell;go_wp2_with (first|(at_builtin;refine eb rfl (.tmp 31) (.tmp 32) 40 rfl 9 ii (.string ⟨#[]⟩) 1 16 Ju hii hzi0 hzi1 hzi2 rfl (by decide) (λ_=>0) 1 _ 0 [] rfl (Row.nil _ _ _ _ _) ⟨g,0,G0⟩ b.length capv xs rfl (by first|omega|(rw[hlb];omega)) hnews hone (by omega) ?c3 ?c4 ?_)|go_in)
     case c3=>unfold Hu;omega
     case c4=>omega
     intro g7 c7 w7 o7 r7 s7;have HS:Hid (as I1n wr (λ_=>0) w7 o7/\Row w7 o7 1 9 1 (.slice (G1 ⟨g7,0,G0⟩) b.length c7) b.length xs):=⟨s7,by simpa using r7⟩;clear s7 r7 hnews hone;go_wp2;go_meet;exact⟨G1 ⟨g7,0,G0⟩,c7,o7,by simp,HS.out.2,HS.out.1⟩
   case rest =>
    obtain⟨ao8,cap8,o8,rfl,R8,s8⟩:=hcut;have B8:Hf wr.heap.size wr wc:=s8.below (λ_ _=>by decide);have E8:=(B8.block _ (Ha E2)).trans E2;have W8:=W2'.below B8;have L8:Hid (∀ k,k<wr.heap.size->o8 k=0):=λk hk=>s8.lab k hk;have hwbr:wb<wr.heap.size:=Ha W2'.blk;clear q0 q1 q2 qf p0 p1 p2 p3 p4 pf;obtain⟨p0,p1,p2,p3,p4,pf⟩:=dS E8;obtain⟨q0,q1,q2,qf⟩:=lu W8.blk;have s10:=ez (λ_=>False) wc o8 (.cells #[stv e.nm] 9);have R10:=R8.step s10 id;have hrc:wr.heap.size<=wc.heap.size:=B8.size;have L10:Hid (∀ k,k<wr.heap.size->dQ wc o8 0 k=0):=λk hk=>by rw[ed (by omega)];exact L8.out k hk
    have hbl:=hx.bl;have b1:b.length+1<=Hu:=by unfold Hu;omega
    have b2:(b.length+1)*16<=140737488355328:=by omega
    have hone:∀ u ∈ [stv e.nm],u.oneCell'=true:=by intro u hu;simp at hu;subst hu;rfl
    go_upto_region 9 with fail;go_cut [] (λwx=>∃g11 c11,Wk wx wb (.slice (G1 ⟨g11,0,G0⟩) (b.length+1) c11) st/\Nmk wb wx (.slice (G1 ⟨g11,0,G0⟩) (b.length+1) c11) (b++[e.nm])/\dX wb wr wx)
    case first =>
     go_wp2_with (first|(at_builtin;refine eb rfl (.tmp 35) (.tmp 38) 40 rfl 9 ii (.string ⟨#[]⟩) 1 16 Ju hii hzi0 hzi1 hzi2 rfl (by decide) (dQ wc o8 0) 1 _ b.length (b.map λx=>stv x) rfl R10 ⟨wc.heap.size,0,G0⟩ 1 1 [stv e.nm] rfl rfl (fM wc _ _) hone (by decide) b1 b2 ?_)|go_in);intro g11 c11 w11 o11 r11 s11;have B11:Hf wr.heap.size wr w11:=np (np B8 s10 (λ_ _=>id) (G4 _)) s11 (λk hk=>by show ¬_=1;rw[L10.out k hk];decide) (G4 _);have W11:=W2'.below B11;have hgo:o11 g11=1:=r11.2 g11 rfl;have hwo:o11 wb=0:=(s11.lab wb (by simp;omega)).trans (L10.out wb hwbr);have hgw:g11≠wb:=by intro h;rw[h] at hgo;omega
     have NM11:Nms w11 (.slice (G1 ⟨g11,0,G0⟩) (b.length+1) c11) (b++[e.nm]):=Nms.ofRow (by rw[Kn];exact r11) (by simp) (by omega);have K12:dX wb wr (w11.setCell ⟨wb,0,G0⟩ (.slice (G1 ⟨g11,0,G0⟩) (b.length+1) c11)):=(dX.ofBelow B11).set ⟨wb,0,G0⟩ _ (.inr rfl);have HZ:Hid (Wk (w11.setCell ⟨wb,0,G0⟩ (.slice (G1 ⟨g11,0,G0⟩) (b.length+1) c11)) wb (.slice (G1 ⟨g11,0,G0⟩) (b.length+1) c11) st/\Nmk wb (w11.setCell ⟨wb,0,G0⟩ (.slice (G1 ⟨g11,0,G0⟩) (b.length+1) c11)) (.slice (G1 ⟨g11,0,G0⟩) (b.length+1) c11) (b++[e.nm])/\dX wb wr (w11.setCell ⟨wb,0,G0⟩ (.slice (G1 ⟨g11,0,G0⟩) (b.length+1) c11))):=by
      refine⟨⟨(DR W11.blk _).1,W11.ok⟩,Nmk.keep ⟨NM11,λg off n c h=>by injection h with h1;injection h1 with h1;injection h1 with h1;rw[<-h1];exact hgw⟩ ((dX.refl wb w11).set ⟨wb,0,G0⟩ _ (.inr rfl)),K12⟩
     obtain⟨t0,t1,t2,tf⟩:=lu W11.blk;clear s11 r11 B11 hgo hwo hgw NM11 K12 W11 p0 p1 p2 p3 p4 pf q0 q1 q2 qf;go_wp2;go_meet;exact⟨g11,c11,HZ.out.1,HZ.out.2.1,HZ.out.2.2⟩
    case rest =>
     obtain⟨g11,c11,W12,N12,K12⟩:=hcut;have E12:=(K12.block _ (Ha E2) (JP hwbx)).trans E2;have S12:Sl wc (Nf wb) ((Fs.ex s .nil).app (.cons x.k x.n x.nm x.a x.kids .nil)) (G1 ⟨kb,off,G0⟩):=by
      have:=Sl.keepF S2 K12
      rw[HK.out] at this;exact this
     have KW12:=KW2.trans K12;clear p0 p1 p2 p3 p4 pf q0 q1 q2 qf R8 s8 B8 E8 W8 L8 s10 R10 hrc L10 b1 b2 hone E2 S2 W2' hp hpb hcv KW2 K12 Z2;obtain⟨p0,p1,p2,p3,p4,pf⟩:=dS E12;obtain⟨kb',off',ak,ck,hao,hk13,hkw,x0,x1,x2,x3,x4,SK⟩:=Sl.kidQ S12;injection hao with hao
     injection hao with h1 h2
     subst h1;subst h2;simp only[Fs.len,Fs.ex,Ix,J8] at x0 x1 x2 x3 x4;have hb13:=Ha E12;have hx':pN N x (b++[e.nm]).length:=by rw[Hx];exact hx
     have hbo:fH e.n≠0:=by unfold fH;split<;>omega
     have bdT:Hf wc.heap.size wc wc.drew:=⟨rfl,rfl,rfl,G4 _,λ_ _=>rfl⟩;have c3:=je IH x ak ck wb _ (b++[e.nm]) (fH e.n) st wc.drew hx' (λ_=>hbo) (W12.below bdT) (λ_=>N12.below bdT) (Sl.belowF SK bdT);rw[dU] at c3;have hbq:=λwy=>zK e.n wy;obtain⟨bo,hbo'⟩:∃bo,bo=fH e.n:=⟨_,rfl⟩;rw[<-hbo'] at c3 hbq;have HBO:Hid (fH e.n=bo):=hbo'.symm;clear hbo' hbo;go_upto_region 10 with fail;go_cut [] (λwx=>Wk wx wb (.slice (G1 ⟨g11,0,G0⟩) (b.length+1) c11) (eN st bo x (b++[e.nm]))/\dX wb wc wx)
     case first =>
      go_wp2_with fail;go_region_held3 (λwx=>wx.cell? ⟨bx,1,G0⟩=G1 (.int .i64 e.n)/\wx.cell? ⟨bx,3,G0⟩=G1 (.slice (G1 ⟨kb,off,G0⟩) 2 cap)/\wx.cell? ⟨kb,off+5,G0⟩=G1 (.int .i64 x.k)/\wx.cell? ⟨kb,off+5+1,G0⟩=G1 (.int .i64 x.n)/\wx.cell? ⟨kb,off+5+2,G0⟩=G1 (stv x.nm)/\wx.cell? ⟨kb,off+5+3,G0⟩=G1 (.slice ak x.kids.len ck)/\wx.cell? ⟨kb,off+5+4,G0⟩=G1 (.int .i64 x.a))
       (first|exact KA|go_keep)
       (first
        | (go_at_call 195;refine(hbq _).mono ?_;rintro z w3 ⟨rfl,rfl⟩)
        | (go_at_call 138;refine c3.mono ?_;rintro z w3 ⟨rfl,W3,K3⟩;have KA:w3.cell? ⟨bx,1,G0⟩=G1 (.int .i64 e.n)/\w3.cell? ⟨bx,3,G0⟩=G1 (.slice (G1 ⟨kb,off,G0⟩) 2 cap)/\w3.cell? ⟨kb,off+5,G0⟩=G1 (.int .i64 x.k)/\w3.cell? ⟨kb,off+5+1,G0⟩=G1 (.int .i64 x.n)/\w3.cell? ⟨kb,off+5+2,G0⟩=G1 (stv x.nm)/\w3.cell? ⟨kb,off+5+3,G0⟩=G1 (.slice ak x.kids.len ck)/\w3.cell? ⟨kb,off+5+4,G0⟩=G1 (.int .i64 x.a):=⟨(K3.cell hb13 (JP hwbx) _).trans p1,(K3.cell hb13 (JP hwbx) _).trans p3,(K3.cell hk13 hkw _).trans x0,(K3.cell hk13 hkw _).trans x1,(K3.cell hk13 hkw _).trans x2,(K3.cell hk13 hkw _).trans x3,(K3.cell hk13 hkw _).trans x4⟩))
      all_goals (
       have HZ:Hid (Wk w3 wb (.slice (G1 ⟨g11,0,G0⟩) (b.length+1) c11) (eN st bo x (b++[e.nm]))/\dX wb wc w3):=⟨W3,dX.bel bdT K3⟩;clear KA W3 K3 c3 hbq;go_wp2;go_meet;exact HZ.out)
     case rest =>
      obtain⟨W13,K13⟩:=hcut;have E13:=(K13.block _ hb13 (JP hwbx)).trans E12;have KW13:=KW12.trans K13;have W14:Wk (wc.setCell ⟨wb,0,G0⟩ (.slice av b.length capv)) wb (.slice av b.length capv) (eN st bo x (b++[e.nm])):=⟨(DR W13.blk _).1,W13.ok⟩;have K14:=KW13.trans ((dX.refl wb wc).set ⟨wb,0,G0⟩ (.slice av b.length capv) (.inr rfl));have E14:=(Hl wc ⟨wb,0,G0⟩ bx (.slice av b.length capv) (JP hwbx)).trans E13;obtain⟨q0,q1,q2,qf⟩:=lu W13.blk;clear c3 hbq x0 x1 x2 x3 x4 SK S12 p0 p1 p2 p3 p4 pf E13 E12 KW12 KW13 K13 N12 W12 bdT W13;go_upto_region 12 with fail;generalize wc.setCell ⟨wb,0,G0⟩ (.slice av b.length capv)=w14 at *;obtain⟨p0,p1,p2,p3,p4,pf⟩:=dS E14;have c5:=qU e.n w14;obtain⟨wo,hwo⟩:∃wo,wo=fw e.n:=⟨_,rfl⟩;rw[<-hwo] at c5;have HWO:Hid (fw e.n=wo):=hwo.symm;clear hwo;go_wp2_with fail;refine c5.mono ?_;rintro z w15 ⟨rfl,rfl⟩;have HZ:Hid (Wk w15 wb (.slice av b.length capv) (eN st bo x (b++[e.nm]))/\dX wb w w15):=⟨W14,K14⟩;clear c5 W14 K14;go_wp2;refine Hb (v:=.int .i64 wo) (by simp[Hk,Tryz.results141,go_sem]) rfl ⟨by first|rfl|rw[HWO.out],by rw[HST.out,HBO.out];exact HZ.out.1,HZ.out.2⟩
  | Js kk kn km ka kks kr =>
   have hl0:(d.len:Int)<(s.kids.len:Int):=by simp only[Fs.len] at hlk;omega
   have hl1:d.len<s.kids.len:=by simp only[Fs.len] at hlk;omega
   have SK2:Sl wr (Nf wb) (d.app (Fs.ex ⟨kk,kn,km,ka,kks⟩ kr)) as':=by
    have:=Sl.keepF SK1 K2
    rw[hf.out] at this;exact this
   obtain⟨gb,go,ak,ck,hao,x0,x1,x2,x3,x4,SKK⟩:=Sl.kidP SK2 d.len rfl;subst hao;have c1:=je IH ⟨kk,kn,km,ka,kks⟩ ak ck wb bv b 3 _ wr (hs d kr _ hf.out) (λ_=>by decide) W2 (λ_=>N1.keep K2) SKK;rw[dU] at c1;simp only at c1 x0 x1 x2 x3 x4;have hf2:Hid (s.kids=(d.snoc ⟨kk,kn,km,ka,kks⟩).app kr):=by show s.kids=_;rw[hf.out];unfold Fs.snoc;rw[Fs.app_assoc];rfl
   have hl2:(d.len:Int)+1=((d.snoc ⟨kk,kn,km,ka,kks⟩).len:Nat):=by rw[Fs.len_snoc];rfl
   clear hf hlk SK2 SKK;go_wp2_with fail;refine c1.mono ?_;rintro z w3 ⟨rfl,W3,K3⟩;have W4:Wk w3 wb bv (iv (d.snoc ⟨kk,kn,km,ka,kks⟩) G0 b):=by rw[mS];exact W3
   have K4:=K2.trans K3;clear c1 W3 K3 W2 K2 p0 p1 p2 p3 p4 pf x0 x1 x2 x3 x4 Z2 E2;go_wp2;go_roundw
   case rel=>exact⟨_,kr,hf2,by rw[<-hl2],W4,K4⟩
   case measure=>simp[Ih];omega
theorem fV {w w':G9}{wb:Nat}{bv:He}{st:Er}{g:Int}{r:Sum (Nat × Int) Int}(a:r=gS st g)(W:Wk w' wb bv st)(K:dX wb w w'):ft w wb bv r (.returned (.int .i64 g)) w':=by
 subst a;cases st with
 | some x=>exact⟨⟨g,rfl,λk h=>by cases h⟩,W,K⟩
 | none=>exact⟨⟨g,rfl,λk h=>by injection h⟩,W,K⟩
theorem FJ {w w':G9}{wb:Nat}{bv:He}{x:Nat × Int}{g:Int}{r:Sum (Nat × Int) Int}(a:r=.inl x)(W:Wk w' wb bv (G1 x))(K:dX wb w w'):ft w wb bv r (.returned (.int .i64 g)) w':=by
 subst a;exact⟨⟨g,rfl,λk h=>by cases h⟩,W,K⟩
theorem rU:∀ {f:Fs},f.len=0->f=.nil
 | ⟨G0⟩,_=>rfl
 | ⟨G1 ⟨k,n,nm,a,ks,r⟩⟩,h=>by simp[Fs.len] at h
theorem BH {n:Int}{nm:List UInt8}{a:Int}{b:List (List UInt8)}:fa ⟨4,n,nm,a,.nil⟩ b=if nm ∈ b then .inr 3 else .inl (130,a):=by
 unfold fa;by_cases h:nm ∈ b
 ·rw[if_neg (λh2=>h2.2 h),if_pos h];rfl
 ·rw[if_pos ⟨rfl,h⟩,if_neg h]
theorem pN.kids {N:Nat}{k n:Int}{nm:List UInt8}{a:Int}{f:Fs}{nb:Nat}(h:pN (N+1) ⟨k,n,nm,a,f⟩ nb)(b:k≠21):Kds N f nb :=
 Kds.of (by have:=h.sz;simp only at this;omega) h.ok.2 (by have:=h.sk;simp only at this;rw[show (k==21)=false by simpa using b] at this;exact this) h.sh (by have:=h.bl;simp only at this;omega)
theorem FQ {w w':G9}{wb:Nat}{bv:He}{b:List (List UInt8)}{n:Int}{nm:List UInt8}{a:Int}{r:Int}{x:Sum (Nat × Int) Int}(c:x=fa ⟨4,n,nm,a,.nil⟩ b)(d:nm ∈ b->r=3)(W:Wk w' wb bv (if nm ∈ b then G0 else G1 (130,a)))(K:dX wb w w'):ft w wb bv x (.returned (.int .i64 r)) w':=by
 subst c;rw[BH];by_cases h:nm ∈ b
 ·rw[if_pos h] at W ⊢;obtain rfl:=d h;exact⟨⟨3,rfl,λk h=>by injection h⟩,W,K⟩
 ·rw[if_neg h] at W ⊢;exact⟨⟨r,rfl,λk h=>by cases h⟩,W,K⟩
theorem xR {N:Nat}(X:nf N):nf (N+1):=by
 intro e ao cap wb bv b w i h hn S;obtain⟨k0,n,nm,a,f⟩:=e;have ab:=i.ok.1;have F:=zi ab;have c:=ab.2.2.1;have al:=i.st;simp only at F c al;have aK:k0=1\/k0=2\/k0=3\/k0=4\/k0=6\/k0=7\/k0=8\/k0=9\/k0=10\/k0=11\/k0=12\/k0=13\/k0=14\/k0=15\/k0=16\/k0=17\/k0=18\/k0=19\/k0=20\/k0=21:=by
  have h1:=Ah F;have h2:k0≠22/\k0≠23/\k0≠24/\k0≠25:=by
   unfold eQ at al;simp at al;omega
  omega
 obtain⟨W,hW⟩:=exq (fa ⟨k0,n,nm,a,f⟩ b);rw[<-hW];have A:Hid (W=fa ⟨k0,n,nm,a,f⟩ b):=hW;clear hW ab al;have Q:Hf w.heap.size w (w.alloc (zEv k0 n nm ao f.len cap a)):=(Hi _ w).alloc (G4 _) _;have o:(w.alloc (zEv k0 n nm ao f.len cap a)).heap[w.heap.size]?=G1 (zEv k0 n nm ao f.len cap a):=Hc w _;have B:=h.below Q;have C:=Sl.belowF S Q;have aM:=Ha h.blk;have N0:=hn.below Q;clear h hn S;rw[dU];go_enter Tryz.func88,Tryz.ntmps88;go_upto_region 1 with fail;generalize w.alloc (zEv k0 n nm ao f.len cap a)=w0 at *;obtain⟨bx,ay⟩:=exq w.heap.size;have Z:wb≠bx:=by omega
 rw[<-ay] at o Q ⊢;have HB:Hid (bx=w.heap.size):=ay;clear ay;have g:dX wb w w0:=dX.ofBelow (by rw[<-HB.out];exact Q);simp only at C;rcases aK with rfl|rfl|rfl|rfl|rfl|rfl|rfl|rfl|rfl|rfl|rfl|rfl|rfl|rfl|rfl|rfl|rfl|rfl|rfl|rfl
 ·have D:f.len=0:=by simp[eB] at c;omega
  obtain rfl:=rU D;have t:Hid (ft w wb bv W (.returned (.int .i64 1)) w0):=fV (st:=G0) (A.out.trans rfl) B g;obtain⟨p0,p1,p2,p3,p4,q⟩:=dS o;clear A i F c C B N0 o Q g;go_wp2;exact Hb (v:=.int .i64 1) (by simp[Hk,It,go_sem]) rfl t.out
 ·have D:f.len=0:=by simp[eB] at c;omega
  obtain rfl:=rU D;have t:Hid (ft w wb bv W (.returned (.int .i64 2)) w0):=fV (st:=G0) (A.out.trans rfl) B g;obtain⟨p0,p1,p2,p3,p4,q⟩:=dS o;clear A i F c C B N0 o Q g;go_wp2;exact Hb (v:=.int .i64 2) (by simp[Hk,It,go_sem]) rfl t.out
 ·have D:f.len=0:=by simp[eB] at c;omega
  obtain rfl:=rU D;have t:Hid (ft w wb bv W (.returned (.int .i64 3)) w0):=fV (st:=G0) (A.out.trans rfl) B g;obtain⟨p0,p1,p2,p3,p4,q⟩:=dS o;clear A i F c C B N0 o Q g;go_wp2;exact Hb (v:=.int .i64 3) (by simp[Hk,It,go_sem]) rfl t.out
 ·have D:f.len=0:=by simp[eB] at c;omega
  obtain rfl:=rU D;have c1:=λk=>EJ ⟨k,n,nm,a,.nil⟩ ao cap w0 wb bv b B N0 (by have:=i.bl;simp only at this;omega);simp only[dU] at c1;obtain⟨p0,p1,p2,p3,p4,q⟩:=dS o;clear i F c;go_wp2_with fail;refine(c1 _).mono ?_;rintro z w1 ⟨⟨r,rfl,h3⟩,m,j⟩;simp only at h3 m;have t:Hid (ft w wb bv W (.returned (.int .i64 r)) w1):=FQ A.out h3 m (g.trans j);clear c1 m j h3 p0 p1 p2 p3 p4 q C B N0 o Q g A;go_wp2;exact Hb (v:=.int .i64 r) (by simp[Hk,It,go_sem]) rfl t.out
 ·have D:f.len=1:=by simp[eB] at c;omega
  obtain⟨x,rfl⟩:=uy D;have E:=i.kids (by decide) .nil .nil x rfl;have p:Hid (W=gS (eN G0 1 x b) 1):=A.out.trans (wG 1 1 (by decide) (by decide) rfl (by decide) rfl);obtain⟨p0,p1,p2,p3,p4,q⟩:=dS o;obtain⟨kb,off,ak,ck,l,K,J,I,H,G,O⟩:=Sl.kidP (x:=.nil) (r:=.nil) (y:=x) C 0 rfl;subst l;simp only[I4,Is] at K J I H G;have M:(Fs.ex x .nil).len=1:=rfl;have c1:=je X x ak ck wb bv b 1 G0 w0 E (λ_=>by decide) B (λ_=>N0) O;rw[dU] at c1;clear A i F c;simp only[M] at p3 ⊢;go_wp2_with fail;refine c1.mono ?_;rintro z w1 ⟨rfl,m,j⟩;have t:Hid (ft w wb bv W (.returned (.int .i64 1)) w1):=fV p.out m (g.trans j);clear c1 m j p p0 p1 p2 p3 p4 q K J I H G O C B N0 o Q g;go_wp2;exact Hb (v:=.int .i64 1) (by simp[Hk,It,go_sem]) rfl t.out
 ·have D:f.len=1:=by simp[eB] at c;omega
  obtain⟨x,rfl⟩:=uy D;have E:=i.kids (by decide) .nil .nil x rfl;have p:Hid (W=gS (eN G0 2 x b) 2):=A.out.trans (wG 2 2 (by decide) (by decide) rfl (by decide) rfl);obtain⟨p0,p1,p2,p3,p4,q⟩:=dS o;obtain⟨kb,off,ak,ck,l,K,J,I,H,G,O⟩:=Sl.kidP (x:=.nil) (r:=.nil) (y:=x) C 0 rfl;subst l;simp only[I4,Is] at K J I H G;have M:(Fs.ex x .nil).len=1:=rfl;have c1:=je X x ak ck wb bv b 2 G0 w0 E (λ_=>by decide) B (λ_=>N0) O;rw[dU] at c1;clear A i F c;simp only[M] at p3 ⊢;go_wp2_with fail;refine c1.mono ?_;rintro z w1 ⟨rfl,m,j⟩;have t:Hid (ft w wb bv W (.returned (.int .i64 2)) w1):=fV p.out m (g.trans j);clear c1 m j p p0 p1 p2 p3 p4 q K J I H G O C B N0 o Q g;go_wp2;exact Hb (v:=.int .i64 2) (by simp[Hk,It,go_sem]) rfl t.out
 ·have D:f.len=2:=by simp[eB,gZ,iO] at c;omega
  obtain⟨x,y,rfl⟩:=jG D;have E:=i.kids (by decide) .nil (Fs.ex y .nil) x rfl;have P:=i.kids (by decide) (Fs.ex x .nil) .nil y rfl;have p:Hid (W=gS (eN (eN G0 1 x b) 1 y b) 1):=A.out.trans (iU 1 1 (by decide) (by decide) rfl rfl (by decide) rfl);obtain⟨p0,p1,p2,p3,p4,q⟩:=dS o;have c1:=λk=>ie X ⟨k,n,nm,a,Fs.ex x (Fs.ex y .nil)⟩ x y ao cap wb bv b 1 1 w0 rfl E P (by decide) B N0 C;simp only[dU] at c1;clear A i F c;go_wp2_with fail;refine(c1 _).mono ?_;rintro z w1 ⟨rfl,m,j⟩;have t:Hid (ft w wb bv W (.returned (.int .i64 1)) w1):=fV p.out m (g.trans j);clear c1 m j p p0 p1 p2 p3 p4 q C B N0 o Q g;go_wp2;exact Hb (v:=.int .i64 1) (by simp[Hk,It,go_sem]) rfl t.out
 ·have D:f.len=2:=by simp[eB,gZ,iO] at c;omega
  obtain⟨x,y,rfl⟩:=jG D;have E:=i.kids (by decide) .nil (Fs.ex y .nil) x rfl;have P:=i.kids (by decide) (Fs.ex x .nil) .nil y rfl;have p:Hid (W=gS (eN (eN G0 1 x b) 1 y b) 1):=A.out.trans (iU 1 1 (by decide) (by decide) rfl rfl (by decide) rfl);obtain⟨p0,p1,p2,p3,p4,q⟩:=dS o;have c1:=λk=>ie X ⟨k,n,nm,a,Fs.ex x (Fs.ex y .nil)⟩ x y ao cap wb bv b 1 1 w0 rfl E P (by decide) B N0 C;simp only[dU] at c1;clear A i F c;go_wp2_with fail;refine(c1 _).mono ?_;rintro z w1 ⟨rfl,m,j⟩;have t:Hid (ft w wb bv W (.returned (.int .i64 1)) w1):=fV p.out m (g.trans j);clear c1 m j p p0 p1 p2 p3 p4 q C B N0 o Q g;go_wp2;exact Hb (v:=.int .i64 1) (by simp[Hk,It,go_sem]) rfl t.out
 ·have D:f.len=2:=by simp[eB,gZ,iO] at c;omega
  obtain⟨x,y,rfl⟩:=jG D;have E:=i.kids (by decide) .nil (Fs.ex y .nil) x rfl;have P:=i.kids (by decide) (Fs.ex x .nil) .nil y rfl;have p:Hid (W=gS (eN (eN G0 1 x b) 1 y b) 1):=A.out.trans (iU 1 1 (by decide) (by decide) rfl rfl (by decide) rfl);obtain⟨p0,p1,p2,p3,p4,q⟩:=dS o;have c1:=λk=>ie X ⟨k,n,nm,a,Fs.ex x (Fs.ex y .nil)⟩ x y ao cap wb bv b 1 1 w0 rfl E P (by decide) B N0 C;simp only[dU] at c1;clear A i F c;go_wp2_with fail;refine(c1 _).mono ?_;rintro z w1 ⟨rfl,m,j⟩;have t:Hid (ft w wb bv W (.returned (.int .i64 1)) w1):=fV p.out m (g.trans j);clear c1 m j p p0 p1 p2 p3 p4 q C B N0 o Q g;go_wp2;exact Hb (v:=.int .i64 1) (by simp[Hk,It,go_sem]) rfl t.out
 ·have D:f.len=2:=by simp[eB,gZ,iO] at c;omega
  obtain⟨x,y,rfl⟩:=jG D;have E:=i.kids (by decide) .nil (Fs.ex y .nil) x rfl;have P:=i.kids (by decide) (Fs.ex x .nil) .nil y rfl;have p:Hid (W=gS (eN (eN G0 1 x b) 1 y b) 1):=A.out.trans (iU 1 1 (by decide) (by decide) rfl rfl (by decide) rfl);obtain⟨p0,p1,p2,p3,p4,q⟩:=dS o;have c1:=λk=>ie X ⟨k,n,nm,a,Fs.ex x (Fs.ex y .nil)⟩ x y ao cap wb bv b 1 1 w0 rfl E P (by decide) B N0 C;simp only[dU] at c1;clear A i F c;go_wp2_with fail;refine(c1 _).mono ?_;rintro z w1 ⟨rfl,m,j⟩;have t:Hid (ft w wb bv W (.returned (.int .i64 1)) w1):=fV p.out m (g.trans j);clear c1 m j p p0 p1 p2 p3 p4 q C B N0 o Q g;go_wp2;exact Hb (v:=.int .i64 1) (by simp[Hk,It,go_sem]) rfl t.out
 ·have D:f.len=2:=by simp[eB,gZ,iO] at c;omega
  obtain⟨x,y,rfl⟩:=jG D;have E:=i.kids (by decide) .nil (Fs.ex y .nil) x rfl;have P:=i.kids (by decide) (Fs.ex x .nil) .nil y rfl;have p:Hid (W=gS (eN (eN G0 1 x b) 1 y b) 1):=A.out.trans (iU 1 1 (by decide) (by decide) rfl rfl (by decide) rfl);obtain⟨p0,p1,p2,p3,p4,q⟩:=dS o;have c1:=λk=>ie X ⟨k,n,nm,a,Fs.ex x (Fs.ex y .nil)⟩ x y ao cap wb bv b 1 1 w0 rfl E P (by decide) B N0 C;simp only[dU] at c1;clear A i F c;go_wp2_with fail;refine(c1 _).mono ?_;rintro z w1 ⟨rfl,m,j⟩;have t:Hid (ft w wb bv W (.returned (.int .i64 1)) w1):=fV p.out m (g.trans j);clear c1 m j p p0 p1 p2 p3 p4 q C B N0 o Q g;go_wp2;exact Hb (v:=.int .i64 1) (by simp[Hk,It,go_sem]) rfl t.out
 ·have D:f.len=2:=by simp[eB,gZ,iO] at c;omega
  obtain⟨x,y,rfl⟩:=jG D;have E:=i.kids (by decide) .nil (Fs.ex y .nil) x rfl;have P:=i.kids (by decide) (Fs.ex x .nil) .nil y rfl;have p:Hid (W=(match fa x b with | .inl e=>.inl e | .inr k0=>gS (eN G0 k0 y b) 2)):=A.out.trans (mT (by decide));have L:=mG N x b;have ai:=E.sz;have aj:=E.ok;obtain⟨p0,p1,p2,p3,p4,q⟩:=dS o;obtain⟨kb,off,ak,ck,l,K,J,I,H,G,O⟩:=Sl.kidP (x:=.nil) (r:=Fs.ex y .nil) (y:=x) C 0 rfl;subst l;simp only[I4,Is] at K J I H G;have M:(Fs.ex x (Fs.ex y .nil)).len=2:=rfl;have c1:=X x ak ck wb bv b w0 E B N0 O;rw[dU] at c1;clear A i F c;simp only[M] at p3 o ⊢;go_wp2_with fail;refine c1.mono ?_;rintro z w1 ⟨⟨k',rfl,R⟩,m,j⟩;have E1:=(j.block _ (Ha o) (JP Z)).trans o;have S1:=Sl.keepF C j;have N1:=N0.keep j;have T:=g.trans j;clear c1 p0 p1 p2 p3 p4 q K J I H G O C B N0 o Q g j;obtain⟨p0,p1,p2,p3,p4,q⟩:=dS E1;obtain⟨aq,ag,ak,ck,l,K,J,I,H,G,O⟩:=Sl.kidP (x:=Fs.ex x .nil) (r:=.nil) (y:=y) S1 1 rfl;injection l with l
  injection l with h1 h2
  subst h1;subst h2;simp only[J8] at K J I H G;have hm:stS (fa x b)=G0->k'≠0:=by
   intro hs;cases hc:fa x b with
   | inl z=>rw[hc] at hs;cases hs
   | inr U =>
    rw[R U hc];exact L U ai aj hc
  have c2:=je X y ak ck wb bv b k' _ w1 P hm m (λ_=>N1) O;rw[dU] at c2;have aa:Hid (W=gS (eN (stS (fa x b)) k' y b) 2):=by
   show W=_;rw[p.out];cases hc:fa x b with
   | inl z=>rfl
   | inr U=>rw[R U hc];rfl
  clear p hm L R ai aj;go_wp2_with fail;refine c2.mono ?_;rintro z w2 ⟨rfl,W2,Y⟩;have t:Hid (ft w wb bv W (.returned (.int .i64 2)) w2):=fV aa.out W2 (T.trans Y);clear c2 W2 Y aa p0 p1 p2 p3 p4 q K J I H G O S1 m N1 E1 T;go_wp2;exact Hb (v:=.int .i64 2) (by simp[Hk,It,go_sem]) rfl t.out
 ·have D:f.len=2:=by simp[eB,gZ,iO] at c;omega
  obtain⟨x,y,rfl⟩:=jG D;have E:=i.kids (by decide) .nil (Fs.ex y .nil) x rfl;have P:=i.kids (by decide) (Fs.ex x .nil) .nil y rfl;have p:Hid (W=(match fa x b with | .inl e=>.inl e | .inr k0=>gS (eN G0 k0 y b) 2)):=A.out.trans (mT (by decide));have L:=mG N x b;have ai:=E.sz;have aj:=E.ok;obtain⟨p0,p1,p2,p3,p4,q⟩:=dS o;obtain⟨kb,off,ak,ck,l,K,J,I,H,G,O⟩:=Sl.kidP (x:=.nil) (r:=Fs.ex y .nil) (y:=x) C 0 rfl;subst l;simp only[I4,Is] at K J I H G;have M:(Fs.ex x (Fs.ex y .nil)).len=2:=rfl;have c1:=X x ak ck wb bv b w0 E B N0 O;rw[dU] at c1;clear A i F c;simp only[M] at p3 o ⊢;go_wp2_with fail;refine c1.mono ?_;rintro z w1 ⟨⟨k',rfl,R⟩,m,j⟩;have E1:=(j.block _ (Ha o) (JP Z)).trans o;have S1:=Sl.keepF C j;have N1:=N0.keep j;have T:=g.trans j;clear c1 p0 p1 p2 p3 p4 q K J I H G O C B N0 o Q g j;obtain⟨p0,p1,p2,p3,p4,q⟩:=dS E1;obtain⟨aq,ag,ak,ck,l,K,J,I,H,G,O⟩:=Sl.kidP (x:=Fs.ex x .nil) (r:=.nil) (y:=y) S1 1 rfl;injection l with l
  injection l with h1 h2
  subst h1;subst h2;simp only[J8] at K J I H G;have hm:stS (fa x b)=G0->k'≠0:=by
   intro hs;cases hc:fa x b with
   | inl z=>rw[hc] at hs;cases hs
   | inr U =>
    rw[R U hc];exact L U ai aj hc
  have c2:=je X y ak ck wb bv b k' _ w1 P hm m (λ_=>N1) O;rw[dU] at c2;have aa:Hid (W=gS (eN (stS (fa x b)) k' y b) 2):=by
   show W=_;rw[p.out];cases hc:fa x b with
   | inl z=>rfl
   | inr U=>rw[R U hc];rfl
  clear p hm L R ai aj;go_wp2_with fail;refine c2.mono ?_;rintro z w2 ⟨rfl,W2,Y⟩;have t:Hid (ft w wb bv W (.returned (.int .i64 2)) w2):=fV aa.out W2 (T.trans Y);clear c2 W2 Y aa p0 p1 p2 p3 p4 q K J I H G O S1 m N1 E1 T;go_wp2;exact Hb (v:=.int .i64 2) (by simp[Hk,It,go_sem]) rfl t.out
 ·have D:f.len=2:=by simp[eB,gZ,iO] at c;omega
  obtain⟨x,y,rfl⟩:=jG D;have E:=i.kids (by decide) .nil (Fs.ex y .nil) x rfl;have P:=i.kids (by decide) (Fs.ex x .nil) .nil y rfl;have p:Hid (W=gS (eN (eN G0 1 x b) 1 y b) 2):=A.out.trans (iU 1 2 (by decide) (by decide) rfl rfl (by decide) rfl);obtain⟨p0,p1,p2,p3,p4,q⟩:=dS o;have c1:=λk=>ie X ⟨k,n,nm,a,Fs.ex x (Fs.ex y .nil)⟩ x y ao cap wb bv b 1 2 w0 rfl E P (by decide) B N0 C;simp only[dU] at c1;clear A i F c;go_wp2_with fail;refine(c1 _).mono ?_;rintro z w1 ⟨rfl,m,j⟩;have t:Hid (ft w wb bv W (.returned (.int .i64 2)) w1):=fV p.out m (g.trans j);clear c1 m j p p0 p1 p2 p3 p4 q C B N0 o Q g;go_wp2;exact Hb (v:=.int .i64 2) (by simp[Hk,It,go_sem]) rfl t.out
 ·have D:f.len=2:=by simp[eB,gZ,iO] at c;omega
  obtain⟨x,y,rfl⟩:=jG D;have E:=i.kids (by decide) .nil (Fs.ex y .nil) x rfl;have P:=i.kids (by decide) (Fs.ex x .nil) .nil y rfl;have p:Hid (W=gS (eN (eN G0 1 x b) 1 y b) 2):=A.out.trans (iU 1 2 (by decide) (by decide) rfl rfl (by decide) rfl);obtain⟨p0,p1,p2,p3,p4,q⟩:=dS o;have c1:=λk=>ie X ⟨k,n,nm,a,Fs.ex x (Fs.ex y .nil)⟩ x y ao cap wb bv b 1 2 w0 rfl E P (by decide) B N0 C;simp only[dU] at c1;clear A i F c;go_wp2_with fail;refine(c1 _).mono ?_;rintro z w1 ⟨rfl,m,j⟩;have t:Hid (ft w wb bv W (.returned (.int .i64 2)) w1):=fV p.out m (g.trans j);clear c1 m j p p0 p1 p2 p3 p4 q C B N0 o Q g;go_wp2;exact Hb (v:=.int .i64 2) (by simp[Hk,It,go_sem]) rfl t.out
 ·have D:f.len=2:=by simp[eB,gZ,iO] at c;omega
  obtain⟨x,y,rfl⟩:=jG D;have E:=i.kids (by decide) .nil (Fs.ex y .nil) x rfl;have P:=i.kids (by decide) (Fs.ex x .nil) .nil y rfl;have p:Hid (W=gS (eN (eN G0 2 x b) 2 y b) 2):=A.out.trans (iU 2 2 (by decide) (by decide) rfl rfl (by decide) rfl);obtain⟨p0,p1,p2,p3,p4,q⟩:=dS o;have c1:=λk=>ie X ⟨k,n,nm,a,Fs.ex x (Fs.ex y .nil)⟩ x y ao cap wb bv b 2 2 w0 rfl E P (by decide) B N0 C;simp only[dU] at c1;clear A i F c;go_wp2_with fail;refine(c1 _).mono ?_;rintro z w1 ⟨rfl,m,j⟩;have t:Hid (ft w wb bv W (.returned (.int .i64 2)) w1):=fV p.out m (g.trans j);clear c1 m j p p0 p1 p2 p3 p4 q C B N0 o Q g;go_wp2;exact Hb (v:=.int .i64 2) (by simp[Hk,It,go_sem]) rfl t.out
 ·have D:f.len=2:=by simp[eB,gZ,iO] at c;omega
  obtain⟨x,y,rfl⟩:=jG D;have E:=i.kids (by decide) .nil (Fs.ex y .nil) x rfl;have P:=i.kids (by decide) (Fs.ex x .nil) .nil y rfl;have p:Hid (W=gS (eN (eN G0 2 x b) 2 y b) 2):=A.out.trans (iU 2 2 (by decide) (by decide) rfl rfl (by decide) rfl);obtain⟨p0,p1,p2,p3,p4,q⟩:=dS o;have c1:=λk=>ie X ⟨k,n,nm,a,Fs.ex x (Fs.ex y .nil)⟩ x y ao cap wb bv b 2 2 w0 rfl E P (by decide) B N0 C;simp only[dU] at c1;clear A i F c;go_wp2_with fail;refine(c1 _).mono ?_;rintro z w1 ⟨rfl,m,j⟩;have t:Hid (ft w wb bv W (.returned (.int .i64 2)) w1):=fV p.out m (g.trans j);clear c1 m j p p0 p1 p2 p3 p4 q C B N0 o Q g;go_wp2;exact Hb (v:=.int .i64 2) (by simp[Hk,It,go_sem]) rfl t.out
 ·have D:f.len=3:=by simp[eB] at c;omega
  obtain⟨x,y,u,rfl⟩:=CS D;have E:=i.kids (by decide) .nil (Fs.ex y (Fs.ex u .nil)) x rfl;have P:=i.kids (by decide) (Fs.ex x .nil) (Fs.ex u .nil) y rfl;have hu:=i.kids (by decide) (Fs.ex x (Fs.ex y .nil)) .nil u rfl;have p:Hid (W=(match eN G0 2 x b with|some e=>.inl e|none=>match fa y b with | .inl e=>.inl e | .inr U=>gS (eN G0 U u b) U)):=A.out.trans oC;have L:=mG N y b;have aA:=P.sz;have aB:=P.ok;obtain⟨p0,p1,p2,p3,p4,q⟩:=dS o;obtain⟨kb,off,ak,ck,l,K,J,I,H,G,O⟩:=Sl.kidP (x:=.nil) (r:=Fs.ex y (Fs.ex u .nil)) (y:=x) C 0 rfl;subst l;simp only[I4,Is] at K J I H G;have M:(Fs.ex x (Fs.ex y (Fs.ex u .nil))).len=3:=rfl;have c1:=je X x ak ck wb bv b 2 G0 w0 E (λ_=>by decide) B (λ_=>N0) O;rw[dU] at c1;clear A i F c;simp only[M] at p3 o ⊢;go_wp2_with fail;refine c1.mono ?_;rintro z w1 ⟨rfl,m,j⟩;have E1:=(j.block _ (Ha o) (JP Z)).trans o;have S1:=Sl.keepF C j;have N1:=N0.keep j;have T:=g.trans j;clear c1 p0 p1 p2 p3 p4 q K J I H G O C B N0 o Q g j;obtain⟨p0,p1,p2,p3,p4,q⟩:=dS E1;obtain⟨q0,q1,q2,qf⟩:=lu m.blk;cases ae:eN G0 2 x b with
  | some z =>
   rw[ae] at m q1 q2;have hz:=m.ok z rfl;obtain⟨er,pa⟩:=z;simp only[erO,plO] at q1 q2 hz;have aN:((er:Int) != 0)=true:=by simp;omega
   have t:Hid (ft w wb bv W (.returned (.int .i64 0)) w1):=FJ (by rw[p.out,ae]) m T;clear p L m T N1 S1 ae;go_wp2;exact Hb (v:=.int .i64 0) (by simp[Hk,It,go_sem]) rfl t.out
  | none =>
   rw[ae] at m q1 q2;simp only[erO,plO] at q1 q2;have aI:Hid (W=(match fa y b with | .inl e=>.inl e | .inr U=>gS (eN G0 U u b) U)):=by show W=_;rw[p.out,ae]
   obtain⟨aq,ag,ak,ck,l,K,J,I,H,G,O⟩:=Sl.kidP (x:=Fs.ex x .nil) (r:=Fs.ex u .nil) (y:=y) S1 1 rfl;injection l with l
   injection l with h1 h2
   subst h1;subst h2;simp only[J8] at K J I H G;have c2:=X y ak ck wb bv b w1 P m N1 O;rw[dU] at c2;clear p ae;go_wp2_with fail;refine c2.mono ?_;rintro z w2 ⟨⟨k',rfl,R⟩,W2,Y⟩;have E2:=(Y.block _ (Ha E1) (JP Z)).trans E1;have S2:=Sl.keepF S1 Y;have N2:=N1.keep Y;have aH:=T.trans Y;clear c2 p0 p1 p2 p3 p4 q q0 q1 q2 qf K J I H G O S1 m N1 E1 T Y;obtain⟨p0,p1,p2,p3,p4,q⟩:=dS E2;obtain⟨aq,ag,ak,ck,l,K,J,I,H,G,O⟩:=Sl.kidP (x:=Fs.ex x (Fs.ex y .nil)) (r:=.nil) (y:=u) S2 2 rfl;injection l with l
   injection l with h1 h2
   subst h1;subst h2;simp only[Nat.reduceMul] at K J I H G;have hm:stS (fa y b)=G0->k'≠0:=by
    intro hs;cases hc:fa y b with
    | inl z=>rw[hc] at hs;cases hs
    | inr U =>
     rw[R U hc];exact L U aA aB hc
   have c3:=je X u ak ck wb bv b k' _ w2 hu hm W2 (λ_=>N2) O;rw[dU] at c3;have aa:Hid (W=gS (eN (stS (fa y b)) k' u b) k'):=by
    show W=_;rw[aI.out];cases hc:fa y b with
    | inl z=>rfl
    | inr U=>rw[R U hc];rfl
   clear aI hm L R aA aB;go_wp2_with fail;refine c3.mono ?_;rintro z w3 ⟨rfl,W3,K3⟩;have t:Hid (ft w wb bv W (.returned (.int .i64 k')) w3):=fV aa.out W3 (aH.trans K3);clear c3 W3 K3 aa p0 p1 p2 p3 p4 q K J I H G O S2 W2 N2 E2 aH;go_wp2;exact Hb (v:=.int .i64 k') (by simp[Hk,It,go_sem]) rfl t.out
 ·have hs:=i.kids (by decide);have aw:=i.len;simp only at aw;have p:Hid (W=gS (iv f G0 b) (j6 n)):=by
   rcases F with F|⟨-,h1,h2⟩|⟨F,-⟩|⟨F,-⟩
   ·omega
   ·exact A.out.trans (By h1 h2)
   ·omega
   ·omega
  obtain⟨p0,p1,p2,p3,p4,q⟩:=dS o;clear A i F c;go_upto_region 42 with fail;clear p0 p1 p2 p3 p4 q;go_loopw [7] (λv wr=>∃(d r:Fs),Hid (f=d.app r)/\v=.int .i64 (d.len:Nat)/\Wk wr wb bv (iv d G0 b)/\dX wb w0 wr) (λv _=>f.len-(Ih v).toNat)
  case atStart=>exact⟨.nil,f,rfl,by show _=Hp .i64 ((0:Nat):Int);rfl,B,dX.refl _ _⟩
  case round =>
   obtain⟨d,r,hf,rfl,W2,Y⟩:=hrel;have af:f.len=d.len+r.len:=by rw[hf.out,Fs.len_app]
   have E2:=(Y.block _ (Ha o) (JP Z)).trans o;obtain⟨p0,p1,p2,p3,p4,q⟩:=dS E2;cases r using Fs.on with
   | nil =>
    have aC:¬(d.len:Int)<(f.len:Int):=by simp only[Fs.len] at af;omega
    have aD:f=d:=by rw[hf.out];clear hf af aC W2;exact nd d
    have c2:=qY n wr;obtain⟨gv,ax⟩:=exq (j6 n);rw[<-ax] at c2;have t:Hid (ft w wb bv W (.returned (.int .i64 gv)) wr):=fV (by rw[p.out,aD,ax]) W2 (g.trans Y);clear p ax aD hf af W2 Y;go_wp2_with fail;refine c2.mono ?_;rintro z w3 ⟨rfl,rfl⟩;clear c2;go_wp2;exact Hb (v:=.int .i64 gv) (by simp[Hk,It,go_sem]) rfl t.out
   | Js kk kn km ka ah kr =>
    have aC:(d.len:Int)<(f.len:Int):=by simp only[Fs.len] at af;omega
    have aO:d.len<f.len:=by simp only[Fs.len] at af;omega
    have aG:Sl wr (Nf wb) (d.app (Fs.ex ⟨kk,kn,km,ka,ah⟩ kr)) ao:=by
     have:=Sl.keepF C Y
     rw[hf.out] at this;exact this
    obtain⟨gb,go,ak,ck,l,K,J,I,H,G,aF⟩:=Sl.kidP aG d.len rfl;subst l;have c1:=je X ⟨kk,kn,km,ka,ah⟩ ak ck wb bv b 3 _ wr (hs d kr _ hf.out) (λ_=>by decide) W2 (λ_=>N0.keep Y) aF;rw[dU] at c1;simp only at c1 K J I H G;have aL:Hid (f=(d.snoc ⟨kk,kn,km,ka,ah⟩).app kr):=by show f=_;rw[hf.out];unfold Fs.snoc;rw[Fs.app_assoc];rfl
    have aJ:(d.len:Int)+1=((d.snoc ⟨kk,kn,km,ka,ah⟩).len:Nat):=by rw[Fs.len_snoc];rfl
    clear hf af aG aF;go_wp2_with fail;refine c1.mono ?_;rintro z w3 ⟨rfl,W3,K3⟩;have W4:Wk w3 wb bv (iv (d.snoc ⟨kk,kn,km,ka,ah⟩) G0 b):=by rw[mS];exact W3
    have K4:=Y.trans K3;clear c1 W3 K3 W2 Y p0 p1 p2 p3 p4 q K J I H G E2;go_wp2;go_roundw
    case rel=>exact⟨_,kr,aL,by rw[<-aJ],W4,K4⟩
    case measure=>simp[Ih];omega
 ·have D:f.len=2:=by simp[eB] at c;omega
  obtain⟨s,x,rfl⟩:=jG D;have ab:=i.ok.2;have av:=i.sk;have au:=i.sz;have ad:=i.sh;have az:=i.bl;simp only at ab av au ad az;have V:(Fs.ex s (Fs.ex x .nil)).stk true:=av;have ac:=py ab;have ap:=py ac.2;simp only[qM,Fs.size] at au az;have E:pN N x (b.length+1):=⟨by omega,ap.1,V.2.2.1,V.2.2.2.1,ad.2.2.2.2.1,ad.2.2.2.2.2.1,by omega⟩;have an:s.k≠21:=by
   intro h
   have:=V.1
   rw[h] at this;cases this
  have hs:Kds N s.kids b.length:=Kds.of (by omega) ac.1.2 (by have:=V.2.1;rw[show (s.k==21)=false by simpa using an] at this;exact this) ad.2.2.1 (by omega);have am:(s.k=22\/s.k=23)/\s.kids.len=0\/s.k=24/\s.kids.len=1\/s.k=25:=by
   have h1:=V.1;have h2:=ac.1.1.2.2.1;unfold eQ at h1;simp at h1;rcases h1 with ((h1|h1)|h1)|h1<;>rw[h1] at h2<;>(simp[eB] at h2;omega)
  have aE:fa s b=gS (iv s.kids G0 b) 4:=wZ am;have p:Hid (W=gS (eN (iv s.kids G0 b) (fH n) x (b++[nm])) (fw n)):=by
   rcases F with F|⟨F,-⟩|⟨-,h1,-⟩|⟨F,-⟩
   ·omega
   ·omega
   ·exact A.out.trans (xv h1 aE)
   ·omega
  obtain⟨p0,p1,p2,p3,p4,q⟩:=dS o;have c1:=λk=>Do X ⟨k,n,nm,a,Fs.ex s (Fs.ex x .nil)⟩ s x ao cap wb bv b w0 rfl hs ad.2.1 E B N0 C;simp only[dU] at c1;obtain⟨wo,ar⟩:=exq (fw n);rw[<-ar] at c1;clear A i F c ab av au ad az V ac ap E an hs am aE;go_wp2_with fail;refine(c1 _).mono ?_;rintro z w1 ⟨rfl,m,j⟩;have t:Hid (ft w wb bv W (.returned (.int .i64 wo)) w1):=fV (by rw[p.out,ar]) m (g.trans j);clear c1 m j p p0 p1 p2 p3 p4 q C B N0 o Q g ar;go_wp2;exact Hb (v:=.int .i64 wo) (by simp[Hk,It,go_sem]) rfl t.out
theorem wm:∀ N,nf N
 | 0=>λe ao cap wb bv b w h=>absurd h.sz (Ir _)
 | N+1=>xR (wm N)
structure Wt where
 t:List UInt8
 o:Nat
 q:Nat
abbrev Ow:=Option Wt
def ew (x:List UInt8):Ow->Ow
 | none=>G0
 | some s=>if 2000<s.t.length+x.length then G0 else G1 ⟨s.t++x,s.o,s.q⟩
def eF:Ow->Ow
 | none=>G0
 | some s=>if 64<s.o+1 then G0 else G1 ⟨s.t,s.o+1,s.q⟩
def gY:Ow->Ow
 | none=>G0
 | some s=>G1 ⟨s.t,s.o-1,s.q⟩
def j8:Ow->Ow
 | none=>G0
 | some s=>if 4<s.q+1 then G0 else G1 ⟨s.t,s.o,s.q+1⟩
def tG:Ow->Ow
 | none=>G0
 | some s=>G1 ⟨s.t,s.o,s.q-1⟩
def gm (s:St):Ow:=if sS s then G1 ⟨s.t,s.a,s.b⟩ else G0
theorem n8 (s:St):sS s=true ↔ s.t.length<=2000/\s.m<=64/\s.n<=4:=by
 unfold sS;simp only[Bool.not_eq_true',Bool.or_eq_false_iff,decide_eq_false_iff_not];omega
theorem gL {s:St}(h:s.t.length<=2000/\s.m<=64/\s.n<=4):gm s=G1 ⟨s.t,s.a,s.b⟩:=by unfold gm;rw[if_pos ((n8 s).2 h)]
theorem fO {s:St}(h:¬(s.t.length<=2000/\s.m<=64/\s.n<=4)):gm s=G0:=by unfold gm;rw[if_neg (λe=>h ((n8 s).1 e))]
theorem fe (x:List UInt8)(s:St):ew x (gm s)=gm (s.lay x):=by
 by_cases h:s.t.length<=2000/\s.m<=64/\s.n<=4
 ·rw[gL h];by_cases h2:2000<s.t.length+x.length
  ·rw[fO (s:=s.lay x) (by simp only[St.lay,Hx];omega)];simp[ew,h2]
  ·rw[gL (s:=s.lay x) (by simp only[St.lay,Hx];omega)];simp[ew,h2,St.lay]
 ·rw[fO h,fO (s:=s.lay x) (by simp only[St.lay,Hx];omega)];rfl
theorem fJ (s:St):eF (gm s)=gm s.ent:=by
 by_cases h:s.t.length<=2000/\s.m<=64/\s.n<=4
 ·rw[gL h];by_cases h2:64<s.a+1
  ·rw[fO (s:=s.ent) (by simp only[St.ent];omega)];simp[eF,h2]
  ·rw[gL (s:=s.ent) (by simp only[St.ent];omega)];simp[eF,h2,St.ent]
 ·rw[fO h,fO (s:=s.ent) (by simp only[St.ent];omega)];rfl
theorem jj (s:St):gY (gm s)=gm s.lea:=by
 by_cases h:s.t.length<=2000/\s.m<=64/\s.n<=4
 ·rw[gL h,gL (s:=s.lea) h];rfl
 ·rw[fO h,fO (s:=s.lea) h];rfl
theorem wM (s:St):j8 (gm s)=gm s.qent:=by
 by_cases h:s.t.length<=2000/\s.m<=64/\s.n<=4
 ·rw[gL h];by_cases h2:4<s.b+1
  ·rw[fO (s:=s.qent) (by simp only[St.qent];omega)];simp[j8,h2]
  ·rw[gL (s:=s.qent) (by simp only[St.qent];omega)];simp[j8,h2,St.qent]
 ·rw[fO h,fO (s:=s.qent) (by simp only[St.qent];omega)];rfl
theorem DJ (s:St):tG (gm s)=gm s.qlea:=by
 by_cases h:s.t.length<=2000/\s.m<=64/\s.n<=4
 ·rw[gL h,gL (s:=s.qlea) h];rfl
 ·rw[fO h,fO (s:=s.qlea) h];rfl
def iM (k n:Int)(nm:List UInt8)(K:Sep->Ow->Ow)(s:Ow):Ow :=
 if k=1 then ew (I6 n) s
 else if k=2 then ew (KB (n==1)) s
 else if k=3 then ew ([64]++I6 n) s
 else if k=4\/k=23 then ew nm s
 else if k=22 then ew [118,101,114,116,105,99,101,115] s
 else K (opS k) s
def ke (x y:List UInt8)(K:Sep->Ow->Ow)(s:Ow):Ow:=ew y (gY (K jc (ew x (eF s))))
def eP (k n:Int)(nm:List UInt8)(K:Sep->Ow->Ow)(s:Ow):Ow :=
 if k=7 then gY (K (λ_=>([110,111,116,32],3)) (eF s))
 else if k=6 then gY (K (λ_=>([45],7)) (eF s))
 else if k=19 then gY (K ifS (eF s))
 else if k=21 then tG (gY (K (quS n nm) (eF (j8 s))))
 else if k=20 then ke [40] [41] K (ew (kj n) s)
 else if k=24 then ke [40] [41] K (ew [97,114,111,117,110,100] s)
 else if k=25 then ke [123] [125] K s
 else iM k n nm K s
def lA (k n:Int)(nm:List UInt8)(len:Nat)(set:Bool)(K:Sep->Ow->Ow)(s:Ow):Ow :=
 if (fl k n&&fy k nm&&eB k n len&&(eQ k==set))=true then eP k n nm K s else G0
def oE (k n:Int)(nm:List UInt8)(len:Nat)(set:Bool)(asked:Nat)(K:Sep->Ow->Ow)(s:Ow):Ow :=
 if gh k<asked then ew [41] (gY (lA k n nm len false K (ew [40] (eF s)))) else lA k n nm len set K s
def oFs:Fs->Bool->Sep->Nat->Ow->Ow
 | ⟨G0⟩,_,_,_,s=>s
 | ⟨G1 ⟨k,n,nm,a,ks,r⟩⟩,first,f,i,s=>oFs r false f (i+1) (oE k n nm ks.len first (f i).2 (λg s=>oFs ks (k==21) g 0 s) (ew (f i).1 s))
def oEx (e:Ex)(set:Bool)(s:Ow):Ow:=lA e.k e.n e.nm e.kids.len set (λg s=>oFs e.kids (e.k==21) g 0 s) s
def okS:Fs->Bool->Bool
 | ⟨G0⟩,_=>true
 | ⟨G1 ⟨k,n,nm,a,ks,r⟩⟩,first=>(fl k n&&fy k nm&&eB k n ks.len&&(eQ k==first))&&okS ks (k==21)&&okS r false
theorem Dk (s:St)(x y:List UInt8):(s.lay x).lay y=s.lay (x++y):=by simp[St.lay]
theorem oN {k n:Int}{m:Nat}(h:eB k n m=true)(hk:k=1\/k=2\/k=3\/k=4\/k=22\/k=23):m=0:=by
 unfold eB at h;rcases hk with rfl|rfl|rfl|rfl|rfl|rfl<;>simpa using h
theorem nP (s:St)(x:List UInt8):s.lea.lay x=(s.lay x).lea:=rfl
theorem rT {k n:Int}{nm:List UInt8}{K:Sep->St->St}{K':Sep->Ow->Ow}(hK:∀ g s,(k=21->(g 0).2=0)->K' g (gm s)=gm (K g s))(s:St):eP k n nm K' (gm s)=gm (nA k n nm K s):=by
 unfold eP nA;by_cases h7:k=7
 ·simp only[h7,if_true];rw[fJ,hK _ _ (by omega),jj]
 ·by_cases h6:k=6
  ·simp only[h7,h6,if_true,if_false];rw[if_neg (by omega),if_neg (by omega),fJ,hK _ _ (by omega),jj]
  ·by_cases h19:k=19
   ·rw[if_neg h7,if_neg h6,if_pos h19,if_neg h7,if_neg h6,if_pos h19,fJ,hK _ _ (by omega),jj]
   ·by_cases h21:k=21
    ·rw[if_neg h7,if_neg h6,if_neg h19,if_pos h21,if_neg h7,if_neg h6,if_neg h19,if_pos h21,wM,fJ,hK _ _ (λ_=>rfl),jj,DJ];rfl
    ·rw[if_neg h7,if_neg h6,if_neg h19,if_neg h21,if_neg h7,if_neg h6,if_neg h19,if_neg h21];by_cases h20:k=20
     ·rw[if_pos h20,if_pos h20];unfold ke nD;rw[fe,fJ,fe,hK _ _ (by omega),jj,fe,nP]
     ·rw[if_neg h20,if_neg h20];by_cases h24:k=24
      ·rw[if_pos h24,if_pos h24];unfold ke nD;rw[fe,fJ,fe,hK _ _ (by omega),jj,fe,nP]
      ·rw[if_neg h24,if_neg h24];by_cases h25:k=25
       ·rw[if_pos h25,if_pos h25];unfold ke nD;rw[fJ,fe,hK _ _ (by omega),jj,fe,nP]
       ·rw[if_neg h25,if_neg h25];unfold iM tR;by_cases h1:k=1
        ·rw[if_pos h1,if_pos h1,fe]
        ·rw[if_neg h1,if_neg h1];by_cases h2:k=2
         ·rw[if_pos h2,if_pos h2,fe]
         ·rw[if_neg h2,if_neg h2];by_cases h3:k=3
          ·rw[if_pos h3,if_pos h3,fe,Dk]
          ·rw[if_neg h3,if_neg h3];by_cases h4:k=4\/k=23
           ·rw[if_pos h4,if_pos h4,fe]
           ·rw[if_neg h4,if_neg h4];by_cases h22:k=22
            ·rw[if_pos h22,if_pos h22,fe]
            ·rw[if_neg h22,if_neg h22,hK _ _ (by omega)]
theorem pU {k n:Int}{nm:List UInt8}{K':Sep->Ow->Ow}(hK:∀ g s,(k=21->(g 0).2=0)->K' g (gm s)=G0)(hk:¬(k=1\/k=2\/k=3\/k=4\/k=22\/k=23))(s:St):eP k n nm K' (gm s)=G0:=by
 unfold eP;by_cases h7:k=7
 ·rw[if_pos h7,fJ,hK _ _ (by omega)];rfl
 ·by_cases h6:k=6
  ·rw[if_neg h7,if_pos h6,fJ,hK _ _ (by omega)];rfl
  ·by_cases h19:k=19
   ·rw[if_neg h7,if_neg h6,if_pos h19,fJ,hK _ _ (by omega)];rfl
   ·by_cases h21:k=21
    ·rw[if_neg h7,if_neg h6,if_neg h19,if_pos h21,wM,fJ,hK _ _ (λ_=>rfl)];rfl
    ·rw[if_neg h7,if_neg h6,if_neg h19,if_neg h21];by_cases h20:k=20
     ·rw[if_pos h20];unfold ke;rw[fe,fJ,fe,hK _ _ (by omega)];rfl
     ·rw[if_neg h20];by_cases h24:k=24
      ·rw[if_pos h24];unfold ke;rw[fe,fJ,fe,hK _ _ (by omega)];rfl
      ·rw[if_neg h24];by_cases h25:k=25
       ·rw[if_pos h25];unfold ke;rw[fJ,fe,hK _ _ (by omega)];rfl
       ·rw[if_neg h25];unfold iM;rw[if_neg (by omega),if_neg (by omega),if_neg (by omega),if_neg (by omega),if_neg (by omega),hK _ _ (by omega)]
theorem qJ {k n:Int}{nm:List UInt8}{K:Sep->Ow->Ow}(hK:∀ g,K g G0=G0):eP k n nm K G0=G0:=by
 simp only[eP,ke,iM,eF,ew,j8,hK,gY,tG];simp only[ite_self]
theorem EX {k n:Int}{nm:List UInt8}{len asked:Nat}{set:Bool}{K:Sep->Ow->Ow}(hK:∀ g,K g G0=G0):oE k n nm len set asked K G0=G0:=by
 have h:∀ b,lA k n nm len b K G0=G0:=λb=>by unfold lA;rw[qJ hK,ite_self]
 unfold oE;rw[h];simp only[eF,ew,h,gY,ite_self]
theorem mA:∀ (f:Fs) (b:Bool) (g:Sep) (i:Nat),oFs f b g i G0=G0
 | ⟨G0⟩,b,g,i=>rfl
 | ⟨G1 ⟨k,n,nm,a,ks,r⟩⟩,b,g,i=>by
  simp only[oFs,ew];rw[EX (λg=>mA ks (k==21) g 0)];exact mA r false g (i+1)
theorem GY {k:Int}(h:eQ k=true):gh k=8:=by
 unfold eQ at h;simp only[Jn,beq_iff_eq] at h;rcases h with ((rfl|rfl)|rfl)|rfl<;>rfl
theorem oM:∀ (f:Fs) (first:Bool) (g:Sep) (i:Nat) (s:St),(first=true->(g i).2=0)->oFs f first g i (gm s)=bif okS f first then gm (wFs f g i s) else G0
 | ⟨G0⟩,first,g,i,s,h=>by simp only[oFs,okS,wFs,cond_true]
 | ⟨G1 ⟨k,n,nm,a,ks,r⟩⟩,first,g,i,s,h=>by
  simp only[oFs,okS,wFs];rw[fe];have IHr:=λs=>oM r false g (i+1) s (λe=>by cases e);have part:∀ (set:Bool) (s:St),lA k n nm ks.len set (λg s=>oFs ks (k==21) g 0 s) (gm s)=if ((fl k n&&fy k nm&&eB k n ks.len&&(eQ k==set))&&okS ks (k==21))=true then gm (nA k n nm (λg s=>wFs ks g 0 s) s) else G0:=λset s=>by
   unfold lA;by_cases hv:(fl k n&&fy k nm&&eB k n ks.len&&(eQ k==set))=true
   ·rw[if_pos hv];by_cases ho:okS ks (k==21)=true
    ·rw[if_pos (by rw[hv,ho];rfl)];exact rT (λg s hg=>by
      show oFs ks (k==21) g 0 (gm s)=_;rw[oM ks (k==21) g 0 s (λe=>hg (by simpa using e)),ho,cond_true]) s
    ·rw[if_neg (by intro e;simp only[Ia] at e;exact ho e.2)];refine pU (λg s hg=>?_) ?_ s
     ·show oFs ks (k==21) g 0 (gm s)=_;rw[oM ks (k==21) g 0 s (λe=>hg (by simpa using e)),show okS ks (k==21)=false by simpa using ho,cond_false]
     ·intro hk;have hkid:eB k n ks.len=true:=by simp only[Ia] at hv;exact hv.1.2
      have hl:=oN hkid hk;cases ks using Fs.on with
      | nil=>exact ho (by simp only[okS])
      | Js _ _ _ _ _ _=>simp[Fs.len] at hl
   ·rw[if_neg hv,if_neg (by intro e;simp only[Ia] at e hv;exact hv e.1)]
  by_cases hv:((fl k n&&fy k nm&&eB k n ks.len&&(eQ k==first))&&okS ks (k==21))=true
  ·have e1:oE k n nm ks.len first (g i).2 (λg s=>oFs ks (k==21) g 0 s) (gm (s.lay (g i).1))=gm (wE k n nm (g i).2 (λg s=>wFs ks g 0 s) (s.lay (g i).1)):=by
    unfold oE wE;by_cases hr:gh k<(g i).2
    ·have hf:first=false:=by
      cases first with
      | false=>rfl
      | true=>have:=h rfl;omega
     subst hf;rw[if_pos hr,if_pos hr,fJ,fe,part,if_pos hv,jj,fe,nP]
    ·rw[if_neg hr,if_neg hr,part,if_pos hv]
   rw[e1,IHr,hv,JM]
  ·rw[show ((fl k n&&fy k nm&&eB k n ks.len&&(eQ k==first))&&okS ks (k==21))=false from Bool.eq_false_iff.2 hv,Bool.false_and,cond_false];have e1:oE k n nm ks.len first (g i).2 (λg s=>oFs ks (k==21) g 0 s) (gm (s.lay (g i).1))=G0:=by
    unfold oE;by_cases hr:gh k<(g i).2
    ·have hf:first=false:=by
      cases first with
      | false=>rfl
      | true=>have:=h rfl;omega
     subst hf;rw[if_pos hr,fJ,fe,part,if_neg hv];rfl
    ·rw[if_neg hr,part,if_neg hv]
   rw[e1];exact mA r false g (i+1)
theorem uX {a b:Nat}(h:¬a<=b):Nat.ble a b=false:=Bool.eq_false_iff.2 λe=>h (Nat.le_of_ble_eq_true e)
theorem ud:∀ (f:Fs) (first:Bool) (c:Nat),c<=2000->hFs f first c=bif okS f first&&Nat.ble (c+f.size) 2000 then G1 (c+f.size) else G0
 | ⟨G0⟩,first,c,hc=>by
  have h1:Nat.ble c 2000=true:=KH hc;simp only[hFs,okS,Fs.size,Is,h1,JM,cond_true]
 | ⟨G1 ⟨k,n,nm,a,ks,r⟩⟩,first,c,hc=>by
  simp only[hFs,okS,Fs.size];by_cases hs:eQ k=first
  ·rw[if_neg (by simp[hs])];by_cases h1:2000<c+1
   ·rw[if_pos h1,uX (show ¬c+(ks.size+r.size+1)<=2000 by omega),Bool.and_false,cond_false]
   ·rw[if_neg h1];by_cases hv:(fl k n&&fy k nm&&eB k n ks.len)=true
    ·rw[if_pos hv,ud ks (k==21) (c+1) (by omega),show (eQ k==first)=true by simp[hs],hv,JM,JM];by_cases ho:okS ks (k==21)=true
     ·rw[ho,JM,JM];by_cases h2:c+1+ks.size<=2000
      ·rw[KH h2,cond_true];simp only;rw[ud r false (c+1+ks.size) h2,show c+(ks.size+r.size+1)=c+1+ks.size+r.size by omega]
      ·rw[uX h2,cond_false,uX (show ¬c+(ks.size+r.size+1)<=2000 by omega),Bool.and_false,cond_false]
     ·rw[show okS ks (k==21)=false by simpa using ho];simp
    ·rw[if_neg hv,show (fl k n&&fy k nm&&eB k n ks.len)=false by simpa using hv];simp
  ·rw[if_pos (by simpa using hs),show (eQ k==first)=false by simpa using hs];simp
def pL:Fs->Sep->Nat->Nat
 | ⟨G0⟩,_,_=>0
 | ⟨G1 ⟨_,_,_,_,_,r⟩⟩,g,i=>(g i).1.length+pL r g (i+1)
theorem lY {f:Fs}{g:Sep}{i:Nat}(h:0<f.len):(g i).1.length<=pL f g i:=by
 cases f using Fs.on with
 | nil=>simp[Fs.len] at h
 | Js k n nm a ks r=>simp only[pL];omega
theorem Dm {f:Fs}{g:Sep}{i:Nat}(h:1<f.len):(g (i+1)).1.length<=pL f g i:=by
 cases f using Fs.on with
 | nil=>simp[Fs.len] at h
 | Js k n nm a ks r =>
  have h2:0<r.len:=by simp only[Fs.len] at h;omega
  have:=lY (g:=g) (i:=i+1) h2
  simp only[pL];omega
theorem Ac (n:Int):0<(I6 n).length:=by
 unfold I6;split
 ·simp
 ·rw[Go.Lib.decDigits_length];exact Go.Lib.nDigits_pos _
theorem vF {k n:Int}{nm:List UInt8}{f:Fs}{K:Sep->St->St}(hv:(fl k n&&fy k nm&&eB k n f.len)=true)(hK:∀ g s,s.t.length+f.size+pL f g 0<=(K g s).t.length)(s:St):s.t.length+f.size+1<=(nA k n nm K s).t.length:=by
 simp only[Ia] at hv;obtain⟨⟨hn,hm⟩,hk⟩:=hv;have leaf:(k=1\/k=2\/k=3\/k=4\/k=22\/k=23)->f.size=0:=λh=>by
  have:=oN hk h
  cases f using Fs.on with
  | nil=>rfl
  | Js _ _ _ _ _ _=>simp[Fs.len] at this
 unfold nA;by_cases h7:k=7
 ·rw[if_pos h7];have hl:0<f.len:=by rw[h7] at hk;simp[eB] at hk;omega
  have h1:=hK (λ_=>([110,111,116,32],3)) s.ent;have h2:=lY (g:=λ_=>([110,111,116,32],3)) (i:=0) hl;simp only[St.lea,St.ent,Hy,I8] at h1 h2 ⊢;omega
 rw[if_neg h7];by_cases h6:k=6
 ·rw[if_pos h6];have hl:0<f.len:=by rw[h6] at hk;simp[eB] at hk;omega
  have h1:=hK (λ_=>([45],7)) s.ent;have h2:=lY (g:=λ_=>([45],7)) (i:=0) hl;simp only[St.lea,St.ent,Hy,I8] at h1 h2 ⊢;omega
 rw[if_neg h6];by_cases h19:k=19
 ·rw[if_pos h19];have hl:0<f.len:=by rw[h19] at hk;simp[eB] at hk;omega
  have h1:=hK ifS s.ent;have h2:=lY (g:=ifS) (i:=0) hl;have h3:(ifS 0).1.length=3:=rfl;simp only[St.lea,St.ent] at h1 ⊢;omega
 rw[if_neg h19];by_cases h21:k=21
 ·rw[if_pos h21];have hl:0<f.len:=by rw[h21] at hk;simp[eB] at hk;omega
  have h1:=hK (quS n nm) s.ent.qent;have h2:=lY (g:=quS n nm) (i:=0) hl;have h3:1<=(quS n nm 0).1.length:=by simp[quS];omega
  simp only[St.lea,St.ent,St.qent,St.qlea] at h1 ⊢;omega
 rw[if_neg h21];have lst:∀ (x y:List UInt8) (s':St),1<=x.length->s'.t.length+f.size+1<=(nD x y K s').t.length:=λx y s' hx=>by
  have h1:=hK jc (s'.ent.lay x);simp only[nD,St.lea,St.lay,St.ent,Hx] at h1 ⊢;omega
 by_cases h20:k=20
 ·rw[if_pos h20]
  have:=lst [40] [41] (s.lay (kj n)) (by simp)
  simp only[St.lay,Hx] at this ⊢;omega
 rw[if_neg h20];by_cases h24:k=24
 ·rw[if_pos h24]
  have:=lst [40] [41] (s.lay [97,114,111,117,110,100]) (by simp)
  simp only[St.lay,Hx] at this ⊢;omega
 rw[if_neg h24];by_cases h25:k=25
 ·rw[if_pos h25];exact lst [123] [125] s (by simp)
 rw[if_neg h25];unfold tR;by_cases h1:k=1
 ·rw[if_pos h1,leaf (.inl h1)]
  have:=Ac n
  simp only[St.lay,Hx];omega
 rw[if_neg h1];by_cases h2:k=2
 ·rw[if_pos h2,leaf (by omega)]
  have:0<(KB (n==1)).length:=by cases (n==1)<;>decide
  simp only[St.lay,Hx];omega
 rw[if_neg h2];by_cases h3:k=3
 ·rw[if_pos h3,leaf (by omega)];simp only[St.lay,Hx,Hy,I8];omega
 rw[if_neg h3];by_cases h4:k=4\/k=23
 ·rw[if_pos h4,leaf (by omega)]
  have:0<nm.length:=by
   have hm2:eH nm=true:=by
    unfold fy at hm;rw[if_pos (by simp only[Jn,beq_iff_eq];omega)] at hm;exact hm
   cases nm with
   | nil=>simp[eH] at hm2
   | Js _ _=>simp
  simp only[St.lay,Hx];omega
 rw[if_neg h4];by_cases h22:k=22
 ·rw[if_pos h22,leaf (by omega)];simp only[St.lay,Hx,Hy,I8];omega
 rw[if_neg h22];have hop:(gZ k).isSome=true/\f.len=2:=by
  have h5:¬k=23:=λe=>h4 (.inr e);have h6':¬k=4:=λe=>h4 (.inl e);have h9:(gZ k).isSome=true/\(f.len:Int)=2:=by simpa [eB,h1,h2,h3,h5,h6',h22,h6,h7,h24,h21,h19,h20,h25] using hk
  exact⟨h9.1,by omega⟩
 have h8:=hK (opS k) s;have h9:(opS k 1).1.length<=pL f (opS k) 0:=Dm (i:=0) (by omega);have h10:2<=(opS k 1).1.length:=by
  unfold opS;cases ho:gZ k with
  | none=>rw[ho] at hop;cases hop.1
  | some x=>simp
 omega
theorem zZ:∀ (f:Fs) (first:Bool) (g:Sep) (i:Nat) (s:St),okS f first=true->s.t.length+f.size+pL f g i<=(wFs f g i s).t.length
 | ⟨G0⟩,first,g,i,s,h=>by simp[Fs.size,pL,wFs]
 | ⟨G1 ⟨k,n,nm,a,ks,r⟩⟩,first,g,i,s,h=>by
  simp only[okS,Ia] at h;obtain⟨⟨⟨hv,hs⟩,hk⟩,hr⟩:=h;have h1:=λs'=>vF (s:=s') (k:=k) (n:=n) (nm:=nm) (f:=ks) (K:=λg s=>wFs ks g 0 s) (by simp only[Ia];exact hv) (λg s=>zZ ks _ g 0 s hk);have h2:(s.lay (g i).1).t.length+ks.size+1<=(wE k n nm (g i).2 (λg s=>wFs ks g 0 s) (s.lay (g i).1)).t.length:=by
   unfold wE;split
   ·have:=h1 ((s.lay (g i).1).ent.lay [40])
    simp only[St.lea,St.lay,St.ent,Hx] at this ⊢;omega
   ·exact h1 _
  have h3:=zZ r false g (i+1) (wE k n nm (g i).2 (λg s=>wFs ks g 0 s) (s.lay (g i).1)) hr;simp only[wFs,Fs.size,pL,St.lay,Hx] at h2 h3 ⊢;omega
def refA (e:Ex):Option (List UInt8):=(oEx e false (G1 ⟨[],0,0⟩)).map (·.t)
theorem FO:gm s0=G1 ⟨[],0,0⟩:=rfl
theorem BV (e:Ex):refA e=jC e:=by
 unfold refA jC oEx lA;rw[<-FO];by_cases hs:eQ e.k=true
 ·rw[if_pos hs,if_neg (by simp[hs])];rfl
 ·have hs2:eQ e.k=false:=by simpa using hs
  rw[if_neg hs];have hE1:hE e 0=if (fl e.k e.n&&fy e.k e.nm&&eB e.k e.n e.kids.len)=true then hFs e.kids (e.k==21) (0+1) else G0:=by unfold hE;rw[if_neg (by omega)]
  rw[hE1];by_cases hv:(fl e.k e.n&&fy e.k e.nm&&eB e.k e.n e.kids.len)=true
  ·rw[if_pos (show (fl e.k e.n&&fy e.k e.nm&&eB e.k e.n e.kids.len&&(eQ e.k==false))=true by rw[hv,hs2];rfl),if_pos hv,ud _ _ _ (by omega)];have hw:wEx e 0 s0=nA e.k e.n e.nm (λg s=>wFs e.kids g 0 s) s0:=by unfold wEx wE;rw[if_neg (by omega)]
   by_cases ho:okS e.kids (e.k==21)=true
   ·rw[rT (K:=λg s=>wFs e.kids g 0 s) (λg s hg=>by
     show oFs e.kids (e.k==21) g 0 (gm s)=_;rw[oM e.kids (e.k==21) g 0 s (λe=>hg (by simpa using e)),ho,cond_true]) s0,ho,JM,<-hw]
    by_cases hr:sS (wEx e 0 s0)=true
    ·have hlb:=vF hv (λg s=>zZ e.kids (e.k==21) g 0 s ho) s0;rw[<-hw] at hlb;have hrr:=(n8 _).1 hr;have hs0:s0.t.length=0:=rfl;rw[show Nat.ble (0+1+e.kids.size) 2000=true from KH (by omega),cond_true];simp only[gm,hr,if_true];rfl
    ·rw[show gm (wEx e 0 s0)=G0 from if_neg hr];cases hd:Nat.ble (0+1+e.kids.size) 2000 with
     | false=>rfl
     | true=>simp only[cond_true];rw[if_neg hr];rfl
   ·have ho2:okS e.kids (e.k==21)=false:=by simpa using ho
    rw[ho2,Bool.false_and,cond_false,pU (λg s hg=>by
     show oFs e.kids (e.k==21) g 0 (gm s)=_;rw[oM e.kids (e.k==21) g 0 s (λe=>hg (by simpa using e)),ho2,cond_false]) (λhk=>by
      have hkid:eB e.k e.n e.kids.len=true:=by simp only[Ia] at hv;exact hv.2
      have hl:=oN hkid hk;cases hke:e.kids using Fs.on with
      | nil=>rw[hke] at ho;exact ho (by simp only[okS])
      | Js _ _ _ _ _ _=>rw[hke] at hl;simp[Fs.len] at hl) s0]
    rfl
  ·rw[if_neg (show ¬(fl e.k e.n&&fy e.k e.nm&&eB e.k e.n e.kids.len&&(eQ e.k==false))=true from λh=>hv (by rw[Ia] at h;exact h.1)),if_neg hv];rfl
def WR (w:G9)(o:Nat->Nat)(wb:Nat)(t:List UInt8)(oo qq:Int)(ok:Bool):Prop :=
 ∃v,Blk w o 1 wb (.cells #[v,.int .i64 oo,.int .i64 qq,.bool ok] 226 (0,0))/\Row w o 2 5 1 v t.length (byL t)
def WQ (w:G9)(o:Nat->Nat)(wb:Nat):Ow->Prop
 | some s=>WR w o wb s.t (s.o:Nat) (s.q:Nat) true/\s.t.length<=2000/\s.o<=64/\s.q<=4
 | none=>∃t oo qq,WR w o wb t oo qq false/\t.length<=2000
theorem WR.step {I:Nat->Prop}{w w':G9}{o o':Nat->Nat}{wb:Nat}{t:List UInt8}{oo qq:Int}{ok:Bool}(h:WR w o wb t oo qq ok)(s:as I w o w' o')(h1:¬I 1)(h2:¬I 2):WR w' o' wb t oo qq ok:=by
 obtain⟨v,hb,hr⟩:=h;exact⟨v,hb.step s h1,hr.step s h2⟩
theorem WQ.step {I:Nat->Prop}{w w':G9}{o o':Nat->Nat}{wb:Nat}{st:Ow}(h:WQ w o wb st)(s:as I w o w' o')(h1:¬I 1)(h2:¬I 2):WQ w' o' wb st:=by
 match st,h with
 | some x,h=>exact⟨h.1.step s h1 h2,h.2⟩
 | none,⟨t,oo,qq,h,hl⟩=>exact⟨t,oo,qq,h.step s h1 h2,hl⟩
theorem WQ.raw {w:G9}{o:Nat->Nat}{wb:Nat}{st:Ow}(h:WQ w o wb st):∃t oo qq ok,WR w o wb t oo qq ok/\t.length<=2000:=by
 match st,h with
 | some x,h=>exact⟨_,_,_,_,h.1,h.2.1⟩
 | none,⟨t,oo,qq,h,hl⟩=>exact⟨t,oo,qq,_,h,hl⟩
theorem WR.cells {w:G9}{o:Nat->Nat}{wb:Nat}{t:List UInt8}{oo qq:Int}{ok:Bool}(h:WR w o wb t oo qq ok):w.cell? ⟨wb,1,G0⟩=G1 (.int .i64 oo)/\w.cell? ⟨wb,2,G0⟩=G1 (.int .i64 qq)/\w.cell? ⟨wb,3,G0⟩=G1 (.bool ok)/\∀ j,w.frozen? ⟨wb,j,G0⟩=false:=by
 obtain⟨v,hb,hr⟩:=h;obtain⟨c0,c1,c2,c3,cf⟩:=Blk.cells4 hb;exact⟨c1,c2,c3,cf⟩
theorem WR.set {w:G9}{o:Nat->Nat}{wb:Nat}{t:List UInt8}{oo qq:Int}{ok:Bool}(h:WR w o wb t oo qq ok) :
  (∀ oo',WR (w.setCell ⟨wb,1,G0⟩ (.int .i64 oo')) o wb t oo' qq ok)/\(∀ qq',WR (w.setCell ⟨wb,2,G0⟩ (.int .i64 qq')) o wb t oo qq' ok)/\(∀ ok',WR (w.setCell ⟨wb,3,G0⟩ (.bool ok')) o wb t oo qq ok'):=by
 obtain⟨v,hb,hr⟩:=h;have s:∀ (j:Nat) (u:He),as (λk=>k=1) w o (w.setCell ⟨wb,j,G0⟩ u) o:=λj u=>fo _ w o ⟨wb,j,G0⟩ u hb.2;exact⟨λoo'=>⟨v,hb.set 1 _,hr.step (s 1 _) (by decide)⟩,λqq'=>⟨v,hb.set 2 _,hr.step (s 2 _) (by decide)⟩,λok'=>⟨v,hb.set 3 _,hr.step (s 3 _) (by decide)⟩⟩
theorem WR.setS {w:G9}{o:Nat->Nat}{wb:Nat}{t:List UInt8}{oo qq:Int}{ok:Bool}(h:WR w o wb t oo qq ok)(j:Nat)(u:He):as I12 w o (w.setCell ⟨wb,j,G0⟩ u) o:=by
 obtain⟨v,hb,hr⟩:=h;exact fo _ w o ⟨wb,j,G0⟩ u (.inl hb.2)
def Fi (w:G9)(o:Nat->Nat)(wb:Nat)(t s:List UInt8)(oo qq:Int)(ok:Bool)(e:Ja)(w':G9):Prop :=
 e=.returned (.tuple #[])/\∃o',as I12 w o w' o'/\((2000<t.length+s.length/\WR w' o' wb t oo qq false)\/(t.length+s.length<=2000/\WR w' o' wb (t++s) oo qq ok))
theorem tD {w:G9}{o:Nat->Nat}{wb:Nat}{t:List UInt8}{oo qq:Int}{ok:Bool}(s:List UInt8)(h:WR w o wb t oo qq ok)(ht:t.length<=2000)(hs:s.length<=1000000) :
  Hn G5 229 #[.pointer (G1 ⟨wb,0,G0⟩),stv s] w (Fi w o wb t s oo qq ok):=by
 have hset:=h.set.2.2 false;have hst:=h.setS 3 (.bool false);obtain⟨v,hb,hr⟩:=h;obtain⟨c0,c1,c2,c3,cf⟩:=Blk.cells4 hb;obtain⟨ao,cap,rfl⟩:=hr.form;have hsz:=jV s;by_cases hl:2000<t.length+s.length
 ·have hlI:(2000:Int)<(t.length:Int)+(s.length:Int):=by omega
  have FIN:Hid (∀ wx,wx=w.setCell ⟨wb,3,G0⟩ (.bool false)->Fi w o wb t s oo qq ok (.returned (.tuple #[])) wx):=λwx e=>by subst e;exact⟨rfl,o,hst,.inl ⟨hl,hset⟩⟩
  clear hset hst hb hr;go_enter Tryz.func229,Tryz.ntmps229;go_wp2
  (try simp only[JU,KJ])
  refine Hb (Jq rfl _ _ _) rfl ?_;exact FIN.out _ rfl
 ·have hlI:¬(2000:Int)<(t.length:Int)+(s.length:Int):=by omega
  obtain⟨ii,hii,hz0,hz1,hz2⟩:=eo Eo;clear hset hst;go_enter Tryz.func229,Tryz.ntmps229;go_wp2_with (first|(at_builtin;refine mH rfl (.tmp 20) (.tmp 21) 147 9 rfl 5 ii JV Je hii hz0 hz1 hz2 o 2 _ t.length (byL t) rfl hr ⟨s.toArray⟩ rfl ?c1 ?c2 ?_)|go_in)
  case c1=>unfold Hu;omega
  case c2=>omega
  intro v' w' o' hr' hst;obtain⟨ao',cap',rfl⟩:=hr'.form;have hb':=hb.step hst (by decide);obtain⟨d0,d1,d2,d3,df⟩:=Blk.cells4 hb';have hb2:=hb'.set 0 (.slice ao' (t.length+s.length) cap');have s2:as I12 w' o' (w'.setCell ⟨wb,0,G0⟩ (.slice ao' (t.length+s.length) cap')) o':=fo I12 w' o' ⟨wb,0,G0⟩ (.slice ao' (t.length+s.length) cap') (.inl hb'.2);have s3:=(hst.mono (λk hk=>(.inr hk:I12 k))).trans s2;have s4:as (λk=>k=1) w' o' (w'.setCell ⟨wb,0,G0⟩ (.slice ao' (t.length+s.length) cap')) o':=fo _ w' o' ⟨wb,0,G0⟩ (.slice ao' (t.length+s.length) cap') hb'.2;have hr2:=hr'.step s4 (by decide);rw[DL] at hr2;have hr3:Row (w'.setCell ⟨wb,0,G0⟩ (.slice ao' (t.length+s.length) cap')) o' 2 5 1 (.slice ao' (t.length+s.length) cap') (t++s).length (byL (t++s)):=by
   rw[Hx];exact hr2
  have FIN:Hid (∀ wx,wx=w'.setCell ⟨wb,0,G0⟩ (.slice ao' (t.length+s.length) cap')->Fi w o wb t s oo qq ok (.returned (.tuple #[])) wx):=λwx e=>by subst e;exact⟨rfl,o',s3,.inr ⟨by omega,_,hb2,hr3⟩⟩
  clear hr2 hst s2 s4 hr' hb hr c0 c1 c2 c3 cf hb2 hr3 s3 hb';go_wp2
  go_end0
  exact FIN.out _ rfl
def i8 (w:G9)(o:Nat->Nat)(wb:Nat)(st:Ow)(e:Ja)(w':G9):Prop:=e=.returned (.tuple #[])/\∃o',WQ w' o' wb st/\as I12 w o w' o'
theorem fG {w:G9}{o:Nat->Nat}{wb:Nat}{st:Ow}(s:List UInt8)(h:WQ w o wb st)(hs:s.length<=1000000) :
  Hn G5 229 #[.pointer (G1 ⟨wb,0,G0⟩),stv s] w (i8 w o wb (ew s st)):=by
 match st,h with
 | some x,h =>
  refine(tD s h.1 h.2.1 hs).mono ?_;rintro e w' ⟨rfl,o',st',hh⟩;refine⟨rfl,o',?_,st'⟩;rcases hh with ⟨hl,hw⟩|⟨hl,hw⟩
  ·rw[show ew s (G1 x)=G0 by simp[ew,hl]];exact⟨_,_,_,hw,h.2.1⟩
  ·rw[show ew s (G1 x)=G1 ⟨x.t++s,x.o,x.q⟩ by simp[ew];omega];exact⟨hw,by simp only[Hx];exact hl,h.2.2⟩
 | none,⟨t,oo,qq,h,hl⟩ =>
  refine(tD s h hl hs).mono ?_;rintro e w' ⟨rfl,o',st',hh⟩;refine⟨rfl,o',?_,st'⟩;rcases hh with ⟨hl2,hw⟩|⟨hl2,hw⟩
  ·exact⟨_,_,_,hw,hl⟩
  ·exact⟨_,_,_,hw,by simp only[Hx];exact hl2⟩
theorem WQ.ent {w:G9}{o:Nat->Nat}{wb:Nat}{st:Ow}(h:WQ w o wb st):∃oo:Int,w.cell? ⟨wb,1,G0⟩=G1 (.int .i64 oo)/\(∀ j,w.frozen? ⟨wb,j,G0⟩=false)/\as I12 w o (w.setCell ⟨wb,1,G0⟩ (.int .i64 (Io (oo+1)))) o /\
  ((64<Io (oo+1)/\WQ ((w.setCell ⟨wb,1,G0⟩ (.int .i64 (Io (oo+1)))).setCell ⟨wb,3,G0⟩ (.bool false)) o wb (eF st))\/(¬64<Io (oo+1)/\WQ (w.setCell ⟨wb,1,G0⟩ (.int .i64 (Io (oo+1)))) o wb (eF st))):=by
 match st,h with
 | some x,h =>
  obtain⟨c1,c2,c3,cf⟩:=h.1.cells;refine⟨_,c1,cf,h.1.setS 1 _,?_⟩;have e:Io ((x.o:Nat)+1)=((x.o+1:Nat):Int):=by have:=h.2.2.1;unfold Io;omega
  have hw:=h.1.set.1 (Io ((x.o:Nat)+1));by_cases hl:64<x.o+1
  ·refine .inl ⟨by rw[e];omega,?_⟩;rw[show eF (G1 x)=G0 by simp[eF,hl]];exact⟨_,_,_,hw.set.2.2 false,h.2.1⟩
  ·refine .inr ⟨by rw[e];omega,?_⟩;rw[show eF (G1 x)=G1 ⟨x.t,x.o+1,x.q⟩ by simp[eF,hl]];rw[e] at hw ⊢;exact⟨hw,h.2.1,by show x.o+1<=64;omega,h.2.2.2⟩
 | none,⟨t,oo,qq,h,hl⟩ =>
  obtain⟨c1,c2,c3,cf⟩:=h.cells;refine⟨_,c1,cf,h.setS 1 _,?_⟩;have hw:=h.set.1 (Io (oo+1));by_cases hl2:64<Io (oo+1)
  ·exact .inl ⟨hl2,t,_,_,hw.set.2.2 false,hl⟩
  ·exact .inr ⟨hl2,t,_,_,hw,hl⟩
theorem WQ.qen {w:G9}{o:Nat->Nat}{wb:Nat}{st:Ow}(h:WQ w o wb st):∃oo:Int,w.cell? ⟨wb,2,G0⟩=G1 (.int .i64 oo)/\(∀ j,w.frozen? ⟨wb,j,G0⟩=false)/\as I12 w o (w.setCell ⟨wb,2,G0⟩ (.int .i64 (Io (oo+1)))) o /\
  ((4<Io (oo+1)/\WQ ((w.setCell ⟨wb,2,G0⟩ (.int .i64 (Io (oo+1)))).setCell ⟨wb,3,G0⟩ (.bool false)) o wb (j8 st))\/(¬4<Io (oo+1)/\WQ (w.setCell ⟨wb,2,G0⟩ (.int .i64 (Io (oo+1)))) o wb (j8 st))):=by
 match st,h with
 | some x,h =>
  obtain⟨c1,c2,c3,cf⟩:=h.1.cells;refine⟨_,c2,cf,h.1.setS 2 _,?_⟩;have e:Io ((x.q:Nat)+1)=((x.q+1:Nat):Int):=by have:=h.2.2.2;unfold Io;omega
  have hw:=h.1.set.2.1 (Io ((x.q:Nat)+1));by_cases hl:4<x.q+1
  ·refine .inl ⟨by rw[e];omega,?_⟩;rw[show j8 (G1 x)=G0 by simp[j8,hl]];exact⟨_,_,_,hw.set.2.2 false,h.2.1⟩
  ·refine .inr ⟨by rw[e];omega,?_⟩;rw[show j8 (G1 x)=G1 ⟨x.t,x.o,x.q+1⟩ by simp[j8,hl]];rw[e] at hw ⊢;exact⟨hw,h.2.1,h.2.2.1,by show x.q+1<=4;omega⟩
 | none,⟨t,oo,qq,h,hl⟩ =>
  obtain⟨c1,c2,c3,cf⟩:=h.cells;refine⟨_,c2,cf,h.setS 2 _,?_⟩;have hw:=h.set.2.1 (Io (qq+1));by_cases hl2:4<Io (qq+1)
  ·exact .inl ⟨hl2,t,_,_,hw.set.2.2 false,hl⟩
  ·exact .inr ⟨hl2,t,_,_,hw,hl⟩
def Bal (st st':Ow):Prop:=∀ s',st'=G1 s'->∃s,st=G1 s/\s'.o=s.o/\s'.q=s.q
theorem WQ.lea {w:G9}{o:Nat->Nat}{wb:Nat}{st:Ow}(h:WQ w o wb st)(hp:∀ s,st=G1 s->1<=s.o):∃oo:Int,w.cell? ⟨wb,1,G0⟩=G1 (.int .i64 oo)/\(∀ j,w.frozen? ⟨wb,j,G0⟩=false)/\as I12 w o (w.setCell ⟨wb,1,G0⟩ (.int .i64 (Io (oo-1)))) o/\WQ (w.setCell ⟨wb,1,G0⟩ (.int .i64 (Io (oo-1)))) o wb (gY st):=by
 match st,h with
 | some x,h =>
  obtain⟨c1,c2,c3,cf⟩:=h.1.cells;refine⟨_,c1,cf,h.1.setS 1 _,?_⟩;have h1:=hp x rfl;have e:Io ((x.o:Nat)-1)=((x.o-1:Nat):Int):=by have:=h.2.2.1;unfold Io;omega
  rw[e];exact⟨h.1.set.1 _,h.2.1,by show x.o-1<=64;have:=h.2.2.1;omega,h.2.2.2⟩
 | none,⟨t,oo,qq,h,hl⟩ =>
  obtain⟨c1,c2,c3,cf⟩:=h.cells;exact⟨_,c1,cf,h.setS 1 _,t,_,_,h.set.1 _,hl⟩
theorem WQ.qle {w:G9}{o:Nat->Nat}{wb:Nat}{st:Ow}(h:WQ w o wb st)(hp:∀ s,st=G1 s->1<=s.q):∃oo:Int,w.cell? ⟨wb,2,G0⟩=G1 (.int .i64 oo)/\(∀ j,w.frozen? ⟨wb,j,G0⟩=false)/\as I12 w o (w.setCell ⟨wb,2,G0⟩ (.int .i64 (Io (oo-1)))) o/\WQ (w.setCell ⟨wb,2,G0⟩ (.int .i64 (Io (oo-1)))) o wb (tG st):=by
 match st,h with
 | some x,h =>
  obtain⟨c1,c2,c3,cf⟩:=h.1.cells;refine⟨_,c2,cf,h.1.setS 2 _,?_⟩;have h1:=hp x rfl;have e:Io ((x.q:Nat)-1)=((x.q-1:Nat):Int):=by have:=h.2.2.2;unfold Io;omega
  rw[e];exact⟨h.1.set.2.1 _,h.2.1,h.2.2.1,by show x.q-1<=4;have:=h.2.2.2;omega⟩
 | none,⟨t,oo,qq,h,hl⟩ =>
  obtain⟨c1,c2,c3,cf⟩:=h.cells;exact⟨_,c2,cf,h.setS 2 _,t,_,_,h.set.2.1 _,hl⟩
theorem WQ.end {w:G9}{o:Nat->Nat}{wb:Nat}{st:Ow}(h:WQ w o wb st):w.cell? ⟨wb,3,G0⟩=G1 (.bool st.isSome)/\(∀ j,w.frozen? ⟨wb,j,G0⟩=false)/\as I12 w o (w.setCell ⟨wb,3,G0⟩ (.bool false)) o/\WQ (w.setCell ⟨wb,3,G0⟩ (.bool false)) o wb G0:=by
 match st,h with
 | some x,h =>
  obtain⟨c1,c2,c3,cf⟩:=h.1.cells;exact⟨c3,cf,h.1.setS 3 _,_,_,_,h.1.set.2.2 false,h.2.1⟩
 | none,⟨t,oo,qq,h,hl⟩ =>
  obtain⟨c1,c2,c3,cf⟩:=h.cells;exact⟨c3,cf,h.setS 3 _,_,_,_,h.set.2.2 false,hl⟩
theorem jo {w:G9}{o:Nat->Nat}{wb:Nat}{st:Ow}(s:List UInt8)(h:WQ w o wb st)(hs:s.length<=1000000) :
  Hn G5 231 #[.pointer (G1 ⟨wb,0,G0⟩),stv s] w (i8 w o wb (ew s (eF st))):=by
 obtain⟨oo,c1,cf,S1,hh⟩:=h.ent;obtain⟨w1,hw1⟩:∃w1,w1=w.setCell ⟨wb,1,G0⟩ (.int .i64 (Io (oo+1))):=⟨_,rfl⟩;have d1:w1.cell? ⟨wb,1,G0⟩=G1 (.int .i64 (Io (oo+1))):=by rw[hw1];exact World.cell?_setCell_same _ _ _ c1
 have df:∀ j,w1.frozen? ⟨wb,j,G0⟩=false:=λj=>by rw[hw1];exact(World.frozen?_setCell ..).trans (cf j)
 have d3:w1.cell? ⟨wb,3,G0⟩=G1 (.bool st.isSome):=by rw[hw1];exact(World.cell?_setCell_other _ _ _ _ (by simp)).trans h.end.1
 rw[<-hw1] at hh S1;obtain⟨W,hW⟩:∃W,W=ew s (eF st):=⟨_,rfl⟩;rw[<-hW];have HW:Hid (W=ew s (eF st)):=hW;clear hW h;rcases hh with ⟨hl,hq⟩|⟨hl,hq⟩
 ·have S2:as I12 w o (w1.setCell ⟨wb,3,G0⟩ (.bool false)) o:=by
   obtain⟨t,oo2,qq,ok,hr,_⟩:=hq.raw;refine S1.trans ?_;obtain⟨v,hb,_⟩:=hr;exact fo _ w1 o ⟨wb,3,G0⟩ _ (.inl hb.2)
  have c2:=fG s hq hs;rw[<-HW.out] at c2;clear hq S1 HW;go_enter Tryz.func231,Tryz.ntmps231;go_upto_region 1 with fail;rw[<-hw1];clear hw1;go_upto_region 3 with fail;generalize w1.setCell ⟨wb,3,G0⟩ (.bool false)=w2 at *;clear d1 df d3 c1 cf;go_wp2_with fail;refine c2.mono ?_;rintro e w3 ⟨rfl,o3,h3,s3⟩;have S3:=S2.trans s3;clear c2 S2 s3;go_wp2
  go_end0
  exact⟨rfl,o3,h3,S3⟩
 ·have c2:=fG s hq hs;rw[<-HW.out] at c2;clear hq HW;go_enter Tryz.func231,Tryz.ntmps231;go_upto_region 1 with fail;rw[<-hw1];clear hw1 c1 cf;go_wp2_with fail;refine c2.mono ?_;rintro e w3 ⟨rfl,o3,h3,s3⟩;have S3:=S1.trans s3;clear c2 S1 s3;go_wp2
  go_end0
  exact⟨rfl,o3,h3,S3⟩
def grt (r:Nat):Bool:=decide (65<=r)&&decide (r<=90)
theorem jp (r:Nat)(w:G9)(hr:r<256) :
  Hn G5 95 #[.int .u8 (r:Nat)] w λe w'=>e=.returned (.bool (dig r))/\w'=w:=by
 by_cases h1:48<=r
 ·have g1:(48:Int)<=(r:Int):=by omega
  by_cases h2:r<=57
  ·have g2:(r:Int)<=57:=by omega
   have e0:dig r=true:=by simp[dig,h1,h2]
   rw[e0];clear e0;go_enter Tryz.func95,Tryz.ntmps95;go_wp2;go_ret;exact⟨rfl,rfl⟩
  ·have g2:¬(r:Int)<=57:=by omega
   have g3:decide ((r:Int)<=57)=false:=decide_eq_false g2;have e0:dig r=false:=by simp[dig];omega
   rw[e0];clear e0;go_enter Tryz.func95,Tryz.ntmps95;go_wp2;go_ret;exact⟨rfl,rfl⟩
 ·have g1:¬(48:Int)<=(r:Int):=by omega
  have e0:dig r=false:=by simp[dig];omega
  rw[e0];clear e0;go_enter Tryz.func95,Tryz.ntmps95;go_wp2;go_ret;exact⟨rfl,rfl⟩
theorem jl (r:Nat)(w:G9)(hr:r<256) :
  Hn G5 98 #[.int .u8 (r:Nat)] w λe w'=>e=.returned (.bool (sml r))/\w'=w:=by
 by_cases h1:97<=r
 ·have g1:(97:Int)<=(r:Int):=by omega
  by_cases h2:r<=122
  ·have g2:(r:Int)<=122:=by omega
   have e0:sml r=true:=by simp[sml,h1,h2]
   rw[e0];clear e0;go_enter Tryz.func98,Tryz.ntmps98;go_wp2;go_ret;exact⟨rfl,rfl⟩
  ·have g2:¬(r:Int)<=122:=by omega
   have g3:decide ((r:Int)<=122)=false:=decide_eq_false g2;have e0:sml r=false:=by simp[sml];omega
   rw[e0];clear e0;go_enter Tryz.func98,Tryz.ntmps98;go_wp2;go_ret;exact⟨rfl,rfl⟩
 ·have g1:¬(97:Int)<=(r:Int):=by omega
  have e0:sml r=false:=by simp[sml];omega
  rw[e0];clear e0;go_enter Tryz.func98,Tryz.ntmps98;go_wp2;go_ret;exact⟨rfl,rfl⟩
theorem pX (r:Nat)(w:G9)(hr:r<256) :
  Hn G5 99 #[.int .u8 (r:Nat)] w λe w'=>e=.returned (.bool (grt r))/\w'=w:=by
 by_cases h1:65<=r
 ·have g1:(65:Int)<=(r:Int):=by omega
  by_cases h2:r<=90
  ·have g2:(r:Int)<=90:=by omega
   have e0:grt r=true:=by simp[grt,h1,h2]
   rw[e0];clear e0;go_enter Tryz.func99,Tryz.ntmps99;go_wp2;go_ret;exact⟨rfl,rfl⟩
  ·have g2:¬(r:Int)<=90:=by omega
   have g3:decide ((r:Int)<=90)=false:=decide_eq_false g2;have e0:grt r=false:=by simp[grt];omega
   rw[e0];clear e0;go_enter Tryz.func99,Tryz.ntmps99;go_wp2;go_ret;exact⟨rfl,rfl⟩
 ·have g1:¬(65:Int)<=(r:Int):=by omega
  have e0:grt r=false:=by simp[grt];omega
  rw[e0];clear e0;go_enter Tryz.func99,Tryz.ntmps99;go_wp2;go_ret;exact⟨rfl,rfl⟩
theorem Ef (r:Nat)(w:G9)(hr:r<256) :
  Hn G5 49 #[.int .u8 (r:Nat)] w λe w'=>e=.returned (.bool (blk r))/\w'=w:=by
 by_cases h0:r=32
 ·subst h0;have e0:blk 32=true:=by rfl
  rw[e0];clear e0;go_enter Tryz.func49,Tryz.ntmps49;go_wp2;go_ret;exact⟨rfl,rfl⟩
 by_cases h1:r=9
 ·subst h1;clear h0;have e0:blk 9=true:=by rfl
  rw[e0];clear e0;go_enter Tryz.func49,Tryz.ntmps49;go_wp2;go_ret;exact⟨rfl,rfl⟩
 by_cases h2:r=10
 ·subst h2;clear h0;clear h1;have e0:blk 10=true:=by rfl
  rw[e0];clear e0;go_enter Tryz.func49,Tryz.ntmps49;go_wp2;go_ret;exact⟨rfl,rfl⟩
 by_cases h3:r=13
 ·subst h3;clear h0;clear h1;clear h2;have e0:blk 13=true:=by rfl
  rw[e0];clear e0;go_enter Tryz.func49,Tryz.ntmps49;go_wp2;go_ret;exact⟨rfl,rfl⟩
 have e0:blk r=false:=by simp[blk];omega
 have g0:¬(r:Int)=32:=by omega
 have g1:¬(r:Int)=9:=by omega
 have g2:¬(r:Int)=10:=by omega
 have g3:¬(r:Int)=13:=by omega
 clear h0 h1 h2 h3;rw[e0];clear e0;go_enter Tryz.func49,Tryz.ntmps49;go_wp2;go_ret;refine⟨?_,rfl⟩;simp[g0,g1,g2,g3]
abbrev uL:Array He:=#[.string ⟨#[97,108,108]⟩,.string ⟨#[97,110,100]⟩,.string ⟨#[97,114,111,117,110,100]⟩,.string ⟨#[98,108,111,99,107]⟩,.string ⟨#[98,111,116,116,108,101,110,101,99,107]⟩,.string ⟨#[99,111,110,110,101,99,116,101,100]⟩,.string ⟨#[99,111,117,110,116]⟩,.string ⟨#[100,101,103,114,101,101]⟩,.string ⟨#[101,108,115,101]⟩,.string ⟨#[102,97,108,115,101]⟩,.string ⟨#[105,102]⟩,.string ⟨#[105,110]⟩,.string ⟨#[108,101,97,115,116]⟩,.string ⟨#[109,97,120]⟩,.string ⟨#[109,105,110]⟩,.string ⟨#[109,111,115,116]⟩,.string ⟨#[110,111,116]⟩,.string ⟨#[111,114]⟩,.string ⟨#[114,101,112]⟩,.string ⟨#[115,105,122,101]⟩,.string ⟨#[115,111,109,101]⟩,.string ⟨#[115,117,109]⟩,.string ⟨#[116,104,101,110]⟩,.string ⟨#[116,111,116,97,108]⟩,.string ⟨#[116,114,117,101]⟩,.string ⟨#[118,97,108,117,101]⟩,.string ⟨#[118,101,114,116,105,99,101,115]⟩]
theorem xE (k:Nat)(hk:k<27):uL[k]?=G1 (.string (wd k)):=by
 match k,hk with
 | 0,_=>rfl
 | 1,_=>rfl
 | 2,_=>rfl
 | 3,_=>rfl
 | 4,_=>rfl
 | 5,_=>rfl
 | 6,_=>rfl
 | 7,_=>rfl
 | 8,_=>rfl
 | 9,_=>rfl
 | 10,_=>rfl
 | 11,_=>rfl
 | 12,_=>rfl
 | 13,_=>rfl
 | 14,_=>rfl
 | 15,_=>rfl
 | 16,_=>rfl
 | 17,_=>rfl
 | 18,_=>rfl
 | 19,_=>rfl
 | 20,_=>rfl
 | 21,_=>rfl
 | 22,_=>rfl
 | 23,_=>rfl
 | 24,_=>rfl
 | 25,_=>rfl
 | 26,_=>rfl
 | n+27,h=>omega
theorem uE (s:ByteArray)(w:G9)(hs:s.size<=Hu) :
  Hn G5 100 #[.string s] w λe w'=>e=.returned (.bool (iF s.data.toList))/\Hf w.heap.size w w':=by
 obtain⟨w1,hw1⟩:∃w1,w1=w.alloc (.cells uL 9):=⟨_,rfl⟩;have hce:∀ k,k<27->w1.cell? ⟨w.heap.size,k,G0⟩=G1 (.string (wd k)):=λk hk=>by
  rw[hw1,If _ _ _ _ _ _ (Hc w _),xE k hk]
 have hbe:Hf w.heap.size w w1:=by rw[hw1];exact b1 _ _
 have HW:Hid (w1=w.alloc (.cells uL 9)):=hw1;have HC:=Hg hce;clear hw1 hce;go_enter Tryz.func100,Tryz.ntmps100;go_upto_region 2 with fail;rw[show w.alloc _=w1 from HW.out.symm];clear HW;go_wp2_with fail;go_loopw [4] (λv wr=>∃k:Nat,k<=27/\v=.int .i64 (k:Nat)/\(∀ j,j<k->s≠wd j)/\wr=w1) (λv _=>27-(Ih v).toNat)
 case atStart=>exact⟨0,by omega,by go_num,λj hj=>by omega,rfl⟩
 case round =>
  obtain⟨k,hk,rfl,hin,rfl⟩:=hrel;by_cases hlt:k<27
  ·have ix:=HC.out k hlt;have hkI:(k:Int)<27:=by omega
   by_cases he:s=wd k
   ·have fin:iF s.data.toList=true:=qD k hlt (by rw[he];rfl);rw[<-he] at ix;clear he HC hin;go_wp2;go_ret;exact⟨by rw[fin];rfl,hbe⟩
   ·have hin':∀ j,j<k+1->s≠wd j:=λj hj=>by
     by_cases e:j=k
     ·subst e;exact he
     ·exact hin j (by omega)
    have heb:((wd k).toList==s.toList)=false:=AL (λe=>he e.symm);generalize wd k=t at ix he heb;clear HC hin;go_wp2;go_roundw
    case rel=>(try ((repeat apply Hv);refine⟨?_,rfl⟩));exact⟨k+1,by omega,by go_num,hin',by trivial⟩
    case measure=>simp[Ih];omega
  ·obtain rfl:k=27:=by omega
   clear HC;have fin:iF s.data.toList=false:=sv λj hj e=>hin j hj (oF.1 (by rw[e];rfl));go_wp2;go_ret;exact⟨by rw[fin];rfl,hbe⟩
theorem q9 (s:ByteArray)(w:G9)(hs:s.size<=Hu) :
  Hn G5 101 #[.string s] w λe w'=>e=.returned (.bool (eH s.data.toList))/\Hf w.heap.size w w':=by
 have hs':=hs;unfold Hu at hs;have HL:Hid (s.data.toList.length=s.size):=fk s;by_cases h0:s.size<1
 ·have fin:eH s.data.toList=false:=by rw[<-Jc,gU];rintro ⟨h,_⟩;have:=HL.out;omega
  rw[fin];clear fin;have h0I:(s.size:Int)<1:=by omega
  go_enter Tryz.func101,Tryz.ntmps101;go_wp2;go_ret;exact⟨rfl,b0 _⟩
 ·have h0I:¬(s.size:Int)<1:=by omega
  by_cases h12:12<s.size
  ·have fin:eH s.data.toList=false:=by rw[<-Jc,gU];rintro ⟨_,h,_⟩;have:=HL.out;omega
   rw[fin];clear fin;have h12I:(12:Int)<(s.size:Int):=by omega
   go_enter Tryz.func101,Tryz.ntmps101;go_wp2;go_ret;exact⟨rfl,b0 _⟩
  ·have h12I:¬(12:Int)<(s.size:Int):=by omega
   have hpos:0<s.size:=by omega
   have hpl:0<s.data.toList.length:=by have:=HL.out;omega
   have hb0:(s[0]'hpos).toNat<256:=IZ _;cases h1:sml (s[0]'hpos).toNat
   ·have fin:eH s.data.toList=false:=lh 0 hpl (by rw[fd s 0 hpos hpl];simp[nmc,h1]);rw[fin];clear fin;go_enter Tryz.func101,Tryz.ntmps101;go_wp2_with (go_at_call 98;refine(jl _ _ hb0).mono ?_;rw[h1];rintro e w1 ⟨rfl,rfl⟩);go_ret;exact⟨rfl,b0 _⟩
   ·have H0:Hid (nmc 0 s[0]=true):=by show _=_;simp[nmc,h1]
    go_enter Tryz.func101,Tryz.ntmps101;go_wp2_with (go_at_call 98;refine(jl _ _ hb0).mono ?_;rw[h1];rintro e w1 ⟨rfl,rfl⟩);go_loopw [3] (λv wr=>∃k:Nat,v=.int .i64 (k:Nat)/\k<=s.size/\(∀ j (h:j<s.data.toList.length),j<k->nmc j s.data.toList[j]=true)/\wr=w1) (λv _=>s.size-(Ih v).toNat)
    case atStart=>exact⟨0,by go_num,by omega,λj _ h=>by omega,rfl⟩
    case round =>
     obtain⟨k,rfl,hk,hin,rfl⟩:=hrel;by_cases hlt:k<s.size
     ·have hkl:k<s.data.toList.length:=by have:=HL.out;omega
      have hkI:(k:Int)<(s.size:Int):=by omega
      have hbk:(s[k]'hlt).toNat<256:=IZ _;have hex:nmc k s.data.toList[k]=nmc k s[k]:=by rw[fd s k hlt hkl]
      have hcase:nmc k s[k]=(sml (s[k]).toNat||dig (s[k]).toNat||(s[k]).toNat==95):=by
       by_cases hk0:k=0
       ·subst hk0;rw[H0.out,h1];rfl
       ·have hb:(k != 0)=true:=by simpa using hk0
        simp[nmc,hb,Bool.or_assoc]
      have hgo:(sml (s[k]).toNat||dig (s[k]).toNat||(s[k]).toNat==95)=true->∀ j (h:j<s.data.toList.length),j<k+1->nmc j s.data.toList[j]=true:=λhx j h hj=>by
       by_cases e:j=k
       ·subst e;rw[hex,hcase];exact hx
       ·exact hin j h (by omega)
      have hno:(sml (s[k]).toNat||dig (s[k]).toNat||(s[k]).toNat==95)=false->eH s.data.toList=false:=λhx=>lh k hkl (by rw[hex,hcase];exact hx);have HG:Hid (((sml (s[k]).toNat||dig (s[k]).toNat||(s[k]).toNat==95)=true->∀ j (h:j<s.data.toList.length),j<k+1->nmc j s.data.toList[j]=true)/\((sml (s[k]).toNat||dig (s[k]).toNat||(s[k]).toNat==95)=false->eH s.data.toList=false)):=⟨hgo,hno⟩;clear hex hcase hgo hno hin;cases h2:sml (s[k]'hlt).toNat
      ·cases h3:dig (s[k]'hlt).toNat
       ·by_cases h4:(s[k]'hlt).toNat=95
        ·have RL:=HG.out.1 (by simp[h4]);have H4:=Hg h4;clear HG h4;go_wp2_with (first|(go_at_call 98;refine(jl _ _ hbk).mono ?_;rw[h2];rintro e w1 ⟨rfl,rfl⟩)|(go_at_call 95;refine(jp _ _ hbk).mono ?_;rw[h3];rintro e w1 ⟨rfl,rfl⟩;have h4:=H4.out;clear h2 h3 hbk));go_roundw
         case rel=>(try ((repeat apply Hv);refine⟨?_,rfl⟩));exact⟨k+1,by go_num,by omega,RL,by trivial⟩
         case measure=>simp[Ih];omega
        ·have fin:eH s.data.toList=false:=HG.out.2 (by simp[h2,h3,h4]);have h4I:¬((s[k]'hlt).toNat:Int)=95:=by omega
         have h4b:(((s[k]'hlt).toNat:Int)==95)=false:=by simpa using h4I
         clear HG h4;go_wp2_with (first|(go_at_call 98;refine(jl _ _ hbk).mono ?_;rw[h2];rintro e w1 ⟨rfl,rfl⟩)|(go_at_call 95;refine(jp _ _ hbk).mono ?_;rw[h3];rintro e w1 ⟨rfl,rfl⟩));go_ret;exact⟨by rw[fin];rfl,b0 _⟩
       ·have RL:=HG.out.1 (by simp[h3]);clear HG;go_wp2_with (first|(go_at_call 98;refine(jl _ _ hbk).mono ?_;rw[h2];rintro e w1 ⟨rfl,rfl⟩)|(go_at_call 95;refine(jp _ _ hbk).mono ?_;rw[h3];rintro e w1 ⟨rfl,rfl⟩));go_roundw
        case rel=>(try ((repeat apply Hv);refine⟨?_,rfl⟩));exact⟨k+1,by go_num,by omega,RL,by trivial⟩
        case measure=>simp[Ih];omega
      ·have RL:=HG.out.1 (by simp[h2]);clear HG;go_wp2_with (go_at_call 98;refine(jl _ _ hbk).mono ?_;rw[h2];rintro e w1 ⟨rfl,rfl⟩);go_roundw
       case rel=>(try ((repeat apply Hv);refine⟨?_,rfl⟩));exact⟨k+1,by go_num,by omega,RL,by trivial⟩
       case measure=>simp[Ih];omega
     ·obtain rfl:k=s.size:=by omega
      have fin:eH s.data.toList=!wordB s.data.toList:=by
       have hl:=HL.out;cases hw:iF s.data.toList
       ·exact(gU _).2 ⟨by omega,by omega,λj h=>hin j h (by omega),hw⟩
       ·show _=false;rw[<-Jc,gU];rintro ⟨_,_,_,h⟩;rw[hw] at h;cases h
      clear hin;go_wp2_with (go_at_call 100;refine(uE s _ hs').mono ?_;rintro e w1 ⟨rfl,hbx⟩);go_ret;exact⟨by rw[fin];rfl,hbx⟩
theorem GQ {k:Int}(b:k≠19)(a:k≠21)(c:k≠18)(d:k≠17)(w:k≠7)(i:k≠13)(h:k≠14)(g:k≠15)(f:k≠16)(A:k≠8)(z:k≠9)(m:k≠10)(l:k≠11)(j:k≠12)(x:k≠6):gh k=8:=by
 have E:((19:Int)==k)=false:=by rw[beq_eq_false_iff_ne];exact λe=>b e.symm
 have D:((21:Int)==k)=false:=by rw[beq_eq_false_iff_ne];exact λe=>a e.symm
 have n:((18:Int)==k)=false:=by rw[beq_eq_false_iff_ne];exact λe=>c e.symm
 have o:((17:Int)==k)=false:=by rw[beq_eq_false_iff_ne];exact λe=>d e.symm
 have F:((7:Int)==k)=false:=by rw[beq_eq_false_iff_ne];exact λe=>w e.symm
 have s:((13:Int)==k)=false:=by rw[beq_eq_false_iff_ne];exact λe=>i e.symm
 have r:((14:Int)==k)=false:=by rw[beq_eq_false_iff_ne];exact λe=>h e.symm
 have q:((15:Int)==k)=false:=by rw[beq_eq_false_iff_ne];exact λe=>g e.symm
 have p:((16:Int)==k)=false:=by rw[beq_eq_false_iff_ne];exact λe=>f e.symm
 have C:((8:Int)==k)=false:=by rw[beq_eq_false_iff_ne];exact λe=>A e.symm
 have B:((9:Int)==k)=false:=by rw[beq_eq_false_iff_ne];exact λe=>z e.symm
 have v:((10:Int)==k)=false:=by rw[beq_eq_false_iff_ne];exact λe=>m e.symm
 have u:((11:Int)==k)=false:=by rw[beq_eq_false_iff_ne];exact λe=>l e.symm
 have t:((12:Int)==k)=false:=by rw[beq_eq_false_iff_ne];exact λe=>j e.symm
 have G:((6:Int)==k)=false:=by rw[beq_eq_false_iff_ne];exact λe=>x e.symm
 have y:gZ k=G0:=by simp[gZ,iO,List.find?,n,o,s,r,q,p,C,B,v,u,t]
 simp[gh,y,bne b,bne a,bne w,bne x]
theorem Eh (k:Int)(w:G9) :
  Hn G5 245 #[.int .i64 k] w λe w'=>e=.returned (.int .i64 (gh k:Nat))/\w'=w:=by
 by_cases b:k=19
 ·subst b;go_enter IY,IL;go_wp2;go_ret;exact⟨rfl,rfl⟩
 have s:(k==19)=false:=bne b;by_cases a:k=21
 ·subst a;go_enter IY,IL;go_wp2;go_ret;exact⟨rfl,rfl⟩
 have r:(k==21)=false:=bne a;by_cases c:k=18
 ·subst c;go_enter IY,IL;go_wp2;go_ret;exact⟨rfl,rfl⟩
 have t:(k==18)=false:=bne c;by_cases d:k=17
 ·subst d;go_enter IY,IL;go_wp2;go_ret;exact⟨rfl,rfl⟩
 have u:(k==17)=false:=bne d;by_cases p:k=7
 ·subst p;go_enter IY,IL;go_wp2;go_ret;exact⟨rfl,rfl⟩
 have F:(k==7)=false:=bne p;by_cases i:k=13
 ·subst i;go_enter IY,IL;go_wp2;go_ret;exact⟨rfl,rfl⟩
 have z:(k==13)=false:=bne i;by_cases h:k=14
 ·subst h;go_enter IY,IL;go_wp2;go_ret;exact⟨rfl,rfl⟩
 have y:(k==14)=false:=bne h;by_cases g:k=15
 ·subst g;go_enter IY,IL;go_wp2;go_ret;exact⟨rfl,rfl⟩
 have x:(k==15)=false:=bne g;by_cases f:k=16
 ·subst f;go_enter IY,IL;go_wp2;go_ret;exact⟨rfl,rfl⟩
 have v:(k==16)=false:=bne f;by_cases o:k=8
 ·subst o;go_enter IY,IL;go_wp2;go_ret;exact⟨rfl,rfl⟩
 have E:(k==8)=false:=bne o;by_cases n:k=9
 ·subst n;go_enter IY,IL;go_wp2;go_ret;exact⟨rfl,rfl⟩
 have D:(k==9)=false:=bne n;by_cases m:k=10
 ·subst m;go_enter IY,IL;go_wp2;go_ret;exact⟨rfl,rfl⟩
 have C:(k==10)=false:=bne m;by_cases l:k=11
 ·subst l;go_enter IY,IL;go_wp2;go_ret;exact⟨rfl,rfl⟩
 have B:(k==11)=false:=bne l;by_cases j:k=12
 ·subst j;go_enter IY,IL;go_wp2;go_ret;exact⟨rfl,rfl⟩
 have A:(k==12)=false:=bne j;by_cases q:k=6
 ·subst q;go_enter IY,IL;go_wp2;go_ret;exact⟨rfl,rfl⟩
 have G:(k==6)=false:=bne q;rw[GQ b a c d p i h g f o n m l j q];clear b a c d p i h g f o n m l j q;go_enter IY,IL;go_wp2;go_ret;exact⟨rfl,rfl⟩
def md (k:Int)(i:Nat):Nat:=if gh k=3\/gh k=7 then gh k else if gh k=4 then 5 else if gh k=0\/gh k=8 then 0 else gh k+i
theorem uo (k:Int):gh k<=8:=by
 unfold gh;split
 ·omega
 ·split
  ·omega
  ·split
   ·omega
   ·split
    ·rename_i x a
     have b:=Ii a
     have:∀ x ∈ iO,x.2.2.1<=8:=by decide
     exact this x b
    ·omega
theorem DD (k:Int)(i:Nat)(m:i<=1000000000)(w:G9) :
  Hn G5 246 #[.int .i64 k,.int .i64 i] w λe w'=>e=.returned (.int .i64 (md k i:Nat))/\w'=w:=by
 have c1:=Eh k w;have c:=uo k;obtain⟨W,a⟩:=exq (md k i);rw[<-a];unfold md at a;generalize gh k=r at *;by_cases j:r=0
 ·subst j;have b:W=0:=by simpa using a
  clear a;subst b;go_enter Kt,Kj;go_wp2_with fail;refine c1.mono ?_;rintro e w1 ⟨rfl,rfl⟩;clear c1;go_wp2;go_ret;exact⟨rfl,rfl⟩
 by_cases h:r=3
 ·subst h;have b:W=3:=by simpa using a
  clear a;subst b;go_enter Kt,Kj;go_wp2_with fail;refine c1.mono ?_;rintro e w1 ⟨rfl,rfl⟩;clear c1;go_wp2;go_ret;exact⟨rfl,rfl⟩
 by_cases g:r=4
 ·subst g;have b:W=5:=by simpa using a
  clear a;subst b;go_enter Kt,Kj;go_wp2_with fail;refine c1.mono ?_;rintro e w1 ⟨rfl,rfl⟩;clear c1;go_wp2;go_ret;exact⟨rfl,rfl⟩
 by_cases f:r=7
 ·subst f;have b:W=7:=by simpa using a
  clear a;subst b;go_enter Kt,Kj;go_wp2_with fail;refine c1.mono ?_;rintro e w1 ⟨rfl,rfl⟩;clear c1;go_wp2;go_ret;exact⟨rfl,rfl⟩
 by_cases d:r=8
 ·subst d;have b:W=0:=by simpa using a
  clear a;subst b;go_enter Kt,Kj;go_wp2_with fail;refine c1.mono ?_;rintro e w1 ⟨rfl,rfl⟩;clear c1;go_wp2;go_ret;exact⟨rfl,rfl⟩
 have b:W=r+i:=by simpa [j,h,g,f,d] using a
 clear a;subst b;have b0:((r:Int)==0)=false:=by rw[beq_eq_false_iff_ne];omega
 have b3:((r:Int)==3)=false:=by rw[beq_eq_false_iff_ne];omega
 have p:((r:Int)==4)=false:=by rw[beq_eq_false_iff_ne];omega
 have o:((r:Int)==7)=false:=by rw[beq_eq_false_iff_ne];omega
 have n:((r:Int)==8)=false:=by rw[beq_eq_false_iff_ne];omega
 have l:r<=8:=c;clear j h g f d c;go_enter Kt,Kj;go_wp2_with fail;refine c1.mono ?_;rintro e w1 ⟨rfl,rfl⟩;clear c1;go_wp2;go_ret;exact⟨by rw[show ((r+i:Nat):Int)=(r:Int)+(i:Int) by omega];rfl,rfl⟩
theorem uB (k:Int):eQ k=decide (22<=k/\k<=25):=by
 by_cases h:22<=k/\k<=25
 ·rw[show decide (22<=k/\k<=25)=true by simpa using h];unfold eQ;simp only[Jn,beq_iff_eq];omega
 ·rw[show decide (22<=k/\k<=25)=false by simpa using h];rw[<-Jc];unfold eQ;simp only[Jn,beq_iff_eq];omega
theorem DE (k:Int)(w:G9) :
  Hn G5 228 #[.int .i64 k] w λe w'=>e=.returned (.bool (eQ k))/\w'=w:=by
 rw[uB];by_cases h1:22<=k
 ·by_cases h2:k<=25
  ·rw[show decide (22<=k/\k<=25)=true by simp;omega];go_enter Tryz.func228,Tryz.ntmps228;go_wp2;go_ret;exact⟨by simp[h2],rfl⟩
  ·rw[show decide (22<=k/\k<=25)=false by simp;omega];go_enter Tryz.func228,Tryz.ntmps228;go_wp2;go_ret;exact⟨by simp[h2],rfl⟩
 ·rw[show decide (22<=k/\k<=25)=false by simp;omega];go_enter Tryz.func228,Tryz.ntmps228;go_wp2;go_ret;exact⟨rfl,rfl⟩
def fR (k n:Int):Int :=
 if k=1\/k=2\/k=3\/k=4\/k=22\/k=23 then 0 else if k=6\/k=7\/k=24 then 1 else if k=8\/k=9\/k=10\/k=11\/k=12\/k=13\/k=14\/k=15\/k=16\/k=17\/k=18\/k=21 then 2 else if k=19 then 3 else if k=25 then -1 else if k=20 then (if 1<=n/\n<=3 then 2 else 1) else -2
theorem Ft (k n:Int)(nm:List UInt8)(ao:Option Hw)(len cap:Nat)(a:Int)(w:G9) :
  Hn G5 226 #[.agg #[.int .i64 k,.int .i64 n,stv nm,.slice ao len cap,.int .i64 a]] w λe w'=>e=.returned (.int .i64 (fR k n))/\Hf w.heap.size w w':=by
 have d:Hf w.heap.size w (w.alloc (zEv k n nm ao len cap a)):=(Hi _ w).alloc (G4 _) _;have F:(w.alloc (zEv k n nm ao len cap a)).heap[w.heap.size]?=G1 (zEv k n nm ao len cap a):=Hc w _;obtain⟨z0,Y,z2,z3,z4,X⟩:=dS F;clear F;obtain⟨V,b⟩:=exq (fR k n);rw[<-b];by_cases h1:k=1
 ·subst h1;have c:V=0:=b;clear b;subst c;go_enter Ip,Im;go_wp2;go_ret;exact⟨rfl,d⟩
 have b1:(k==1)=false:=bne h1;by_cases h2:k=2
 ·subst h2;have c:V=0:=b;clear b;subst c;go_enter Ip,Im;go_wp2;go_ret;exact⟨rfl,d⟩
 have b2:(k==2)=false:=bne h2;by_cases D:k=3
 ·subst D;have c:V=0:=b;clear b;subst c;go_enter Ip,Im;go_wp2;go_ret;exact⟨rfl,d⟩
 have b3:(k==3)=false:=bne D;by_cases C:k=4
 ·subst C;have c:V=0:=b;clear b;subst c;go_enter Ip,Im;go_wp2;go_ret;exact⟨rfl,d⟩
 have b4:(k==4)=false:=bne C;by_cases i:k=22
 ·subst i;have c:V=0:=b;clear b;subst c;go_enter Ip,Im;go_wp2;go_ret;exact⟨rfl,d⟩
 have J:(k==22)=false:=bne i;by_cases h:k=23
 ·subst h;have c:V=0:=b;clear b;subst c;go_enter Ip,Im;go_wp2;go_ret;exact⟨rfl,d⟩
 have I:(k==23)=false:=bne h;by_cases B:k=6
 ·subst B;have c:V=1:=b;clear b;subst c;go_enter Ip,Im;go_wp2;go_ret;exact⟨rfl,d⟩
 have b6:(k==6)=false:=bne B;by_cases A:k=7
 ·subst A;have c:V=1:=b;clear b;subst c;go_enter Ip,Im;go_wp2;go_ret;exact⟨rfl,d⟩
 have b7:(k==7)=false:=bne A;by_cases g:k=24
 ·subst g;have c:V=1:=b;clear b;subst c;go_enter Ip,Im;go_wp2;go_ret;exact⟨rfl,d⟩
 have H:(k==24)=false:=bne g;by_cases z:k=8
 ·subst z;have c:V=2:=b;clear b;subst c;go_enter Ip,Im;go_wp2;go_ret;exact⟨rfl,d⟩
 have b8:(k==8)=false:=bne z;by_cases y:k=9
 ·subst y;have c:V=2:=b;clear b;subst c;go_enter Ip,Im;go_wp2;go_ret;exact⟨rfl,d⟩
 have Z:(k==9)=false:=bne y;by_cases x:k=10
 ·subst x;have c:V=2:=b;clear b;subst c;go_enter Ip,Im;go_wp2;go_ret;exact⟨rfl,d⟩
 have W:(k==10)=false:=bne x;by_cases v:k=11
 ·subst v;have c:V=2:=b;clear b;subst c;go_enter Ip,Im;go_wp2;go_ret;exact⟨rfl,d⟩
 have U:(k==11)=false:=bne v;by_cases u:k=12
 ·subst u;have c:V=2:=b;clear b;subst c;go_enter Ip,Im;go_wp2;go_ret;exact⟨rfl,d⟩
 have T:(k==12)=false:=bne u;by_cases t:k=13
 ·subst t;have c:V=2:=b;clear b;subst c;go_enter Ip,Im;go_wp2;go_ret;exact⟨rfl,d⟩
 have S:(k==13)=false:=bne t;by_cases s:k=14
 ·subst s;have c:V=2:=b;clear b;subst c;go_enter Ip,Im;go_wp2;go_ret;exact⟨rfl,d⟩
 have R:(k==14)=false:=bne s;by_cases r:k=15
 ·subst r;have c:V=2:=b;clear b;subst c;go_enter Ip,Im;go_wp2;go_ret;exact⟨rfl,d⟩
 have Q:(k==15)=false:=bne r;by_cases q:k=16
 ·subst q;have c:V=2:=b;clear b;subst c;go_enter Ip,Im;go_wp2;go_ret;exact⟨rfl,d⟩
 have P:(k==16)=false:=bne q;by_cases p:k=17
 ·subst p;have c:V=2:=b;clear b;subst c;go_enter Ip,Im;go_wp2;go_ret;exact⟨rfl,d⟩
 have O:(k==17)=false:=bne p;by_cases o:k=18
 ·subst o;have c:V=2:=b;clear b;subst c;go_enter Ip,Im;go_wp2;go_ret;exact⟨rfl,d⟩
 have N:(k==18)=false:=bne o;by_cases j:k=21
 ·subst j;have c:V=2:=b;clear b;subst c;go_enter Ip,Im;go_wp2;go_ret;exact⟨rfl,d⟩
 have K:(k==21)=false:=bne j;by_cases m:k=19
 ·subst m;have c:V=3:=b;clear b;subst c;go_enter Ip,Im;go_wp2;go_ret;exact⟨rfl,d⟩
 have M:(k==19)=false:=bne m;by_cases f:k=25
 ·subst f;have c:V=-1:=b;clear b;subst c;go_enter Ip,Im;go_wp2;go_ret;exact⟨rfl,d⟩
 have G:(k==25)=false:=bne f;by_cases l:k=20
 ·subst l;by_cases n1:1<=n
  ·by_cases E:n<=3
   ·have c:V=2:=by rw[b];simp[fR,n1,E]
    clear b;subst c;go_enter Ip,Im;go_wp2;go_ret;exact⟨rfl,d⟩
   ·have c:V=1:=by rw[b];simp[fR,E]
    clear b;subst c;go_enter Ip,Im;go_wp2;go_ret;exact⟨rfl,d⟩
  ·have c:V=1:=by rw[b];simp[fR,n1]
   clear b;subst c;go_enter Ip,Im;go_wp2;go_ret;exact⟨rfl,d⟩
 have L:(k==20)=false:=bne l;have c:V=-2:=by rw[b];simp[fR,h1,h2,D,C,i,h,B,A,g,z,y,x,v,u,t,s,r,q,p,o,j,m,f,l]
 clear b h1 h2 D C i h B A g z y x v u t s r q p o j m f l;subst c;go_enter Ip,Im;go_wp2;go_ret;exact⟨rfl,d⟩
theorem eU (n:Int):(jw n).isSome=decide (1<=n/\n<=10):=by
 by_cases h:1<=n/\n<=10
 ·rw[show decide (1<=n/\n<=10)=true by simpa using h]
  have:n=1\/n=2\/n=3\/n=4\/n=5\/n=6\/n=7\/n=8\/n=9\/n=10:=by omega
  rcases this with rfl|rfl|rfl|rfl|rfl|rfl|rfl|rfl|rfl|rfl<;>rfl
 ·rw[show decide (1<=n/\n<=10)=false by simpa using h,Ka,Kg];unfold jw;rw[List.find?_eq_none];intro x a
  have:∀ x ∈ gQ,1<=x.2.1/\x.2.1<=10:=by decide
  have:=this x a
  simp only[beq_iff_eq];omega
theorem eM (n:Int):(jP n).isSome=decide (1<=n/\n<=6):=by
 by_cases h:1<=n/\n<=6
 ·rw[show decide (1<=n/\n<=6)=true by simpa using h]
  have:n=1\/n=2\/n=3\/n=4\/n=5\/n=6:=by omega
  rcases this with rfl|rfl|rfl|rfl|rfl|rfl<;>rfl
 ·rw[show decide (1<=n/\n<=6)=false by simpa using h,Ka,Kg];unfold jP;rw[List.find?_eq_none];intro x a
  have:∀ x ∈ gO,1<=x.2/\x.2<=6:=by decide
  have:=this x a
  simp only[beq_iff_eq];omega
theorem y9 (k n:Int)(nm:List UInt8)(ao:Option Hw)(len cap:Nat)(a:Int)(w:G9)(D:nm.length<=Hu) :
  Hn G5 227 #[.agg #[.int .i64 k,.int .i64 n,stv nm,.slice ao len cap,.int .i64 a]] w λe w'=>e=.returned (.bool (fl k n&&fy k nm))/\Hf w.heap.size w w':=by
 have b:Hf w.heap.size w (w.alloc (zEv k n nm ao len cap a)):=(Hi _ w).alloc (G4 _) _;have h:(w.alloc (zEv k n nm ao len cap a)).heap[w.heap.size]?=G1 (zEv k n nm ao len cap a):=Hc w _;have c1:=q9 ⟨nm.toArray⟩ (w.alloc (zEv k n nm ao len cap a)) (by rw[jV];exact D);have C:(ByteArray.mk nm.toArray).data.toList=nm:=by simp
 rw[C] at c1;obtain⟨V,g⟩:=exq ((fl k n&&fy k nm));rw[<-g];have f:w.heap.size<(w.alloc (zEv k n nm ao len cap a)).heap.size:=by simp
 obtain⟨z0,l,z2,z3,z4,j⟩:=dS h;clear C;by_cases h1:k=1
 ·subst h1;by_cases p:0<=n
  ·have z:0<=n:=p;have c:V=(nm==[]):=by rw[g];simp[fl,fy,eU,eM,p]
   clear g;rw[c];clear c V;go_enter IG,IA;go_wp2_with fail;refine c1.mono ?_;rintro e w1 ⟨rfl,b1⟩;have i:=b.trans (b1.mono b.size);have d:=(b1.block _ f).trans h;obtain⟨u,t,s,q,o,m⟩:=dS d;clear c1 b1 b h d z0 l z2 z3 z4 j;go_wp2;go_ret;exact⟨eS (by first|rfl|simp),i⟩
  ·have z:¬0<=n:=p;have c:V=false:=by rw[g];simp[fl,fy,eU,eM,p]
   clear g;rw[c];clear c V;go_enter IG,IA;go_wp2_with fail;refine c1.mono ?_;rintro e w1 ⟨rfl,b1⟩;have i:=b.trans (b1.mono b.size);have d:=(b1.block _ f).trans h;obtain⟨u,t,s,q,o,m⟩:=dS d;clear c1 b1 b h d z0 l z2 z3 z4 j;go_wp2;go_ret;exact⟨eS (by first|rfl|simp),i⟩
 have b1:(k==1)=false:=bne h1;by_cases B:k=3
 ·subst B;by_cases p:0<=n
  ·have z:0<=n:=p;have c:V=(nm==[]):=by rw[g];simp[fl,fy,eU,eM,p]
   clear g;rw[c];clear c V;go_enter IG,IA;go_wp2_with fail;refine c1.mono ?_;rintro e w1 ⟨rfl,b1⟩;have i:=b.trans (b1.mono b.size);have d:=(b1.block _ f).trans h;obtain⟨u,t,s,q,o,m⟩:=dS d;clear c1 b1 b h d z0 l z2 z3 z4 j;go_wp2;go_ret;exact⟨eS (by first|rfl|simp),i⟩
  ·have z:¬0<=n:=p;have c:V=false:=by rw[g];simp[fl,fy,eU,eM,p]
   clear g;rw[c];clear c V;go_enter IG,IA;go_wp2_with fail;refine c1.mono ?_;rintro e w1 ⟨rfl,b1⟩;have i:=b.trans (b1.mono b.size);have d:=(b1.block _ f).trans h;obtain⟨u,t,s,q,o,m⟩:=dS d;clear c1 b1 b h d z0 l z2 z3 z4 j;go_wp2;go_ret;exact⟨eS (by first|rfl|simp),i⟩
 have b3:(k==3)=false:=bne B;by_cases h2:k=2
 ·subst h2;by_cases p:n=0
  ·subst p;have c:V=(nm==[]):=by rw[g];simp[fl,fy,eU,eM]
   clear g;rw[c];clear c V;go_enter IG,IA;go_wp2_with fail;refine c1.mono ?_;rintro e w1 ⟨rfl,b1⟩;have i:=b.trans (b1.mono b.size);have d:=(b1.block _ f).trans h;obtain⟨u,t,s,q,o,m⟩:=dS d;clear c1 b1 b h d z0 l z2 z3 z4 j;go_wp2;go_ret;exact⟨eS (by first|rfl|simp),i⟩
  ·have z:(n==0)=false:=by simpa using p
   by_cases r:n=1
   ·subst r;have c:V=(nm==[]):=by rw[g];simp[fl,fy,eU,eM]
    clear g;rw[c];clear c V;go_enter IG,IA;go_wp2_with fail;refine c1.mono ?_;rintro e w1 ⟨rfl,b1⟩;have i:=b.trans (b1.mono b.size);have d:=(b1.block _ f).trans h;obtain⟨u,t,s,q,o,m⟩:=dS d;clear c1 b1 b h d z0 l z2 z3 z4 j;go_wp2;go_ret;exact⟨eS (by first|rfl|simp),i⟩
   ·have rb:(n==1)=false:=by simpa using r
    have c:V=false:=by rw[g];simp[fl,fy,eU,eM,p,r]
    clear g;clear p r;rw[c];clear c V;go_enter IG,IA;go_wp2_with fail;refine c1.mono ?_;rintro e w1 ⟨rfl,b1⟩;have i:=b.trans (b1.mono b.size);have d:=(b1.block _ f).trans h;obtain⟨u,t,s,q,o,m⟩:=dS d;clear c1 b1 b h d z0 l z2 z3 z4 j;go_wp2;go_ret;exact⟨eS (by first|rfl|simp),i⟩
 have b2:(k==2)=false:=bne h2;by_cases A:k=4
 ·subst A;by_cases p:n=0
  ·subst p;have c:V=eH nm:=by rw[g];simp[fl,fy,eU,eM]
   clear g;rw[c];clear c V;go_enter IG,IA;go_wp2_with fail;refine c1.mono ?_;rintro e w1 ⟨rfl,b1⟩;have i:=b.trans (b1.mono b.size);have d:=(b1.block _ f).trans h;obtain⟨u,t,s,q,o,m⟩:=dS d;clear c1 b1 b h d z0 l z2 z3 z4 j;go_wp2;go_ret;exact⟨eS (by first|rfl|simp),i⟩
  ·have z:(n==0)=false:=by simpa using p
   have c:V=false:=by rw[g];simp[fl,fy,eU,eM,p]
   clear g;clear p;rw[c];clear c V;go_enter IG,IA;go_wp2_with fail;refine c1.mono ?_;rintro e w1 ⟨rfl,b1⟩;have i:=b.trans (b1.mono b.size);have d:=(b1.block _ f).trans h;obtain⟨u,t,s,q,o,m⟩:=dS d;clear c1 b1 b h d z0 l z2 z3 z4 j;go_wp2;go_ret;exact⟨eS (by first|rfl|simp),i⟩
 have H:(k==4)=false:=bne A;by_cases v:k=23
 ·subst v;by_cases p:n=0
  ·subst p;have c:V=eH nm:=by rw[g];simp[fl,fy,eU,eM]
   clear g;rw[c];clear c V;go_enter IG,IA;go_wp2_with fail;refine c1.mono ?_;rintro e w1 ⟨rfl,b1⟩;have i:=b.trans (b1.mono b.size);have d:=(b1.block _ f).trans h;obtain⟨u,t,s,q,o,m⟩:=dS d;clear c1 b1 b h d z0 l z2 z3 z4 j;go_wp2;go_ret;exact⟨eS (by first|rfl|simp),i⟩
  ·have z:(n==0)=false:=by simpa using p
   have c:V=false:=by rw[g];simp[fl,fy,eU,eM,p]
   clear g;clear p;rw[c];clear c V;go_enter IG,IA;go_wp2_with fail;refine c1.mono ?_;rintro e w1 ⟨rfl,b1⟩;have i:=b.trans (b1.mono b.size);have d:=(b1.block _ f).trans h;obtain⟨u,t,s,q,o,m⟩:=dS d;clear c1 b1 b h d z0 l z2 z3 z4 j;go_wp2;go_ret;exact⟨eS (by first|rfl|simp),i⟩
 have E:(k==23)=false:=bne v;by_cases y:k=20
 ·subst y;by_cases p:1<=n
  ·have z:1<=n:=p;by_cases r:n<=10
   ·have rb:n<=10:=r;have c:V=(nm==[]):=by rw[g];simp[fl,fy,eU,eM,p,r]
    clear g;rw[c];clear c V;go_enter IG,IA;go_wp2_with fail;refine c1.mono ?_;rintro e w1 ⟨rfl,b1⟩;have i:=b.trans (b1.mono b.size);have d:=(b1.block _ f).trans h;obtain⟨u,t,s,q,o,m⟩:=dS d;clear c1 b1 b h d z0 l z2 z3 z4 j;go_wp2;go_ret;exact⟨eS (by first|rfl|simp),i⟩
   ·have rb:¬n<=10:=r;have c:V=false:=by rw[g];simp[fl,fy,eU,eM,p,r]
    clear g;rw[c];clear c V;go_enter IG,IA;go_wp2_with fail;refine c1.mono ?_;rintro e w1 ⟨rfl,b1⟩;have i:=b.trans (b1.mono b.size);have d:=(b1.block _ f).trans h;obtain⟨u,t,s,q,o,m⟩:=dS d;clear c1 b1 b h d z0 l z2 z3 z4 j;go_wp2;go_ret;exact⟨eS (by first|rfl|simp),i⟩
  ·have z:¬1<=n:=p;have c:V=false:=by rw[g];simp[fl,fy,eU,eM,p]
   clear g;rw[c];clear c V;go_enter IG,IA;go_wp2_with fail;refine c1.mono ?_;rintro e w1 ⟨rfl,b1⟩;have i:=b.trans (b1.mono b.size);have d:=(b1.block _ f).trans h;obtain⟨u,t,s,q,o,m⟩:=dS d;clear c1 b1 b h d z0 l z2 z3 z4 j;go_wp2;go_ret;exact⟨eS (by first|rfl|simp),i⟩
 have G:(k==20)=false:=bne y;by_cases x:k=21
 ·subst x;by_cases p:1<=n
  ·have z:1<=n:=p;by_cases r:n<=6
   ·have rb:n<=6:=r;have c:V=eH nm:=by rw[g];simp[fl,fy,eU,eM,p,r]
    clear g;rw[c];clear c V;go_enter IG,IA;go_wp2_with fail;refine c1.mono ?_;rintro e w1 ⟨rfl,b1⟩;have i:=b.trans (b1.mono b.size);have d:=(b1.block _ f).trans h;obtain⟨u,t,s,q,o,m⟩:=dS d;clear c1 b1 b h d z0 l z2 z3 z4 j;go_wp2;go_ret;exact⟨eS (by first|rfl|simp),i⟩
   ·have rb:¬n<=6:=r;have c:V=false:=by rw[g];simp[fl,fy,eU,eM,p,r]
    clear g;rw[c];clear c V;go_enter IG,IA;go_wp2_with fail;refine c1.mono ?_;rintro e w1 ⟨rfl,b1⟩;have i:=b.trans (b1.mono b.size);have d:=(b1.block _ f).trans h;obtain⟨u,t,s,q,o,m⟩:=dS d;clear c1 b1 b h d z0 l z2 z3 z4 j;go_wp2;go_ret;exact⟨eS (by first|rfl|simp),i⟩
  ·have z:¬1<=n:=p;have c:V=false:=by rw[g];simp[fl,fy,eU,eM,p]
   clear g;rw[c];clear c V;go_enter IG,IA;go_wp2_with fail;refine c1.mono ?_;rintro e w1 ⟨rfl,b1⟩;have i:=b.trans (b1.mono b.size);have d:=(b1.block _ f).trans h;obtain⟨u,t,s,q,o,m⟩:=dS d;clear c1 b1 b h d z0 l z2 z3 z4 j;go_wp2;go_ret;exact⟨eS (by first|rfl|simp),i⟩
 have F:(k==21)=false:=bne x;by_cases p:n=0
 ·subst p;have c:V=(nm==[]):=by rw[g];simp[fl,fy,eU,eM,h1,B,h2,A,v,y,x]
  clear g;clear h1 B h2 A v y x;rw[c];clear c V;go_enter IG,IA;go_wp2_with fail;refine c1.mono ?_;rintro e w1 ⟨rfl,b1⟩;have i:=b.trans (b1.mono b.size);have d:=(b1.block _ f).trans h;obtain⟨u,t,s,q,o,m⟩:=dS d;clear c1 b1 b h d z0 l z2 z3 z4 j;go_wp2;go_ret;exact⟨eS (by first|rfl|simp),i⟩
 ·have z:(n==0)=false:=by simpa using p
  have c:V=false:=by rw[g];simp[fl,fy,eU,eM,h1,B,h2,A,v,y,x,p]
  clear g;clear p h1 B h2 A v y x;rw[c];clear c V;go_enter IG,IA;go_wp2_with fail;refine c1.mono ?_;rintro e w1 ⟨rfl,b1⟩;have i:=b.trans (b1.mono b.size);have d:=(b1.block _ f).trans h;obtain⟨u,t,s,q,o,m⟩:=dS d;clear c1 b1 b h d z0 l z2 z3 z4 j;go_wp2;go_ret;exact⟨eS (by first|rfl|simp),i⟩
def Rq (w:G9)(rb i:Nat)(o q:Int)(er pl:Nat)(all:List Tk):Prop :=
 ∃g cap,w.heap[rb]?=G1 (.cells #[.slice (G1 ⟨g,0,G0⟩) all.length cap,.int .i64 (i:Nat),.int .i64 o,.int .i64 q,.int .i64 (er:Nat),.int .i64 (pl:Nat)] 64 (0,0))/\g<rb/\(∀ j u,(fD all)[j]?=G1 u->w.cell? ⟨g,j,G0⟩=G1 u)/\all.length<=3000/\all.length<=cap/\cap<=Hu
theorem Rq.lt {w:G9}{rb i:Nat}{o q:Int}{er pl:Nat}{all:List Tk}(h:Rq w rb i o q er pl all):rb<w.heap.size:=by
 obtain⟨g,cap,h1,_⟩:=h;exact Ha h1
theorem Rq.below {w w':G9}{rb i:Nat}{o q:Int}{er pl:Nat}{all:List Tk}(h:Rq w rb i o q er pl all)(b:Hf w.heap.size w w'):Rq w' rb i o q er pl all:=by
 have hlt:=h.lt;obtain⟨g,cap,h1,h2,h3,h4⟩:=h;exact⟨g,cap,(b.block rb hlt).trans h1,h2,λj u hu=>(b.cell (p:=⟨g,j,G0⟩) (show g<w.heap.size by omega)).trans (h3 j u hu),h4⟩
theorem Rq.next {w:G9}{rb i:Nat}{o q:Int}{er pl:Nat}{all:List Tk}{x:Tk}(h:Rq w rb i o q er pl all)(hx:all[i]?=G1 x):∃g cap L,g<rb/\i<L/\L<=cap/\cap<=Hu/\L<=3000/\(w.cell? ⟨rb,0,G0⟩=G1 (.slice (G1 ⟨g,0,G0⟩) L cap)/\w.cell? ⟨rb,1,G0⟩=G1 (.int .i64 (i:Nat))/\w.cell? ⟨g,i*4,G0⟩=G1 (.int .i64 (x.k:Nat))/\w.cell? ⟨g,i*4+1,G0⟩=G1 (.int .i64 x.n)/\w.cell? ⟨g,i*4+2,G0⟩=G1 (stv x.t)/\w.cell? ⟨g,i*4+3,G0⟩=G1 (.int .i64 (x.a:Nat)))/\w.cell? ⟨rb,2,G0⟩=G1 (.int .i64 o)/\w.cell? ⟨rb,3,G0⟩=G1 (.int .i64 q)/\w.cell? ⟨rb,4,G0⟩=G1 (.int .i64 (er:Nat))/\w.cell? ⟨rb,5,G0⟩=G1 (.int .i64 (pl:Nat))/\(∀ j,w.frozen? ⟨rb,j,G0⟩=false):=by
 obtain⟨g,cap,h1,h2,h3,h4,h5,h6⟩:=h;have hi:i<all.length:=by
  by_cases hi:i<all.length
  ·exact hi
  ·rw[Ie (by omega)] at hx;cases hx
 obtain⟨t0,t1,t2,t3⟩:=oU all i x hx;refine⟨g,cap,all.length,h2,hi,h5,h6,h4,⟨?_,?_,h3 _ _ t0,h3 _ _ t1,h3 _ _ t2,h3 _ _ t3⟩,?_,?_,?_,?_,λj=>IK w rb j _ _ h1⟩
 all_goals simp[If w rb _ _ _ (0,0) h1]
theorem Rq.set {w:G9}{rb i:Nat}{o q:Int}{er pl:Nat}{all:List Tk}(h:Rq w rb i o q er pl all) :
  (∀ i':Nat,Rq (w.setCell ⟨rb,1,G0⟩ (.int .i64 (i':Nat))) rb i' o q er pl all)/\(∀ o':Int,Rq (w.setCell ⟨rb,2,G0⟩ (.int .i64 o')) rb i o' q er pl all)/\(∀ q':Int,Rq (w.setCell ⟨rb,3,G0⟩ (.int .i64 q')) rb i o q' er pl all)/\(∀ er':Nat,Rq (w.setCell ⟨rb,4,G0⟩ (.int .i64 (er':Nat))) rb i o q er' pl all)/\(∀ pl':Nat,Rq (w.setCell ⟨rb,5,G0⟩ (.int .i64 (pl':Nat))) rb i o q er pl' all):=by
 obtain⟨g,cap,h1,h2,h3,h4⟩:=h;have hB:Blk w (λ_=>0) 0 rb (.cells #[.slice (G1 ⟨g,0,G0⟩) all.length cap,.int .i64 (i:Nat),.int .i64 o,.int .i64 q,.int .i64 (er:Nat),.int .i64 (pl:Nat)] 64 (0,0)):=⟨h1,rfl⟩;have hc:∀ (k:Nat) (v:He) j u,(fD all)[j]?=G1 u->(w.setCell ⟨rb,k,G0⟩ v).cell? ⟨g,j,G0⟩=G1 u:=λk v j u hu=>(Ho (a:=⟨g,j,G0⟩) (Hl w ⟨rb,k,G0⟩ g v (show g≠rb by omega))).trans (h3 j u hu);exact⟨λi'=>⟨g,cap,(hB.set 1 _).1,h2,hc 1 _,h4⟩,λo'=>⟨g,cap,(hB.set 2 _).1,h2,hc 2 _,h4⟩,λq'=>⟨g,cap,(hB.set 3 _).1,h2,hc 3 _,h4⟩,λer'=>⟨g,cap,(hB.set 4 _).1,h2,hc 4 _,h4⟩,λpl'=>⟨g,cap,(hB.set 5 _).1,h2,hc 5 _,h4⟩⟩
theorem dX.at {rb:Nat}(w:G9)(k:Nat)(v:He):dX rb w (w.setCell ⟨rb,k,G0⟩ v):=(dX.refl rb w).set ⟨rb,k,G0⟩ v (.inr rfl)
theorem jD (w:G9)(o1:Obj):(w.alloc o1).drew.heap[w.heap.size]?=G1 o1/\Hf w.heap.size w (w.alloc o1).drew:=⟨Hc w _,((Hi _ w).alloc (G4 _) _).drew⟩
theorem is_q {w:G9}{rb i:Nat}{o q:Int}{er pl:Nat}{all:List Tk}{x:Tk}(s:List UInt8)(h:Rq w rb i o q er pl all)(hx:all[i]?=G1 x) :
  Hn G5 103 #[.pointer (G1 ⟨rb,0,G0⟩),stv s] w λe w'=>e=.returned (.bool ((er==0)&&((x.k==3||x.k==4)&&x.t==s)))/\Hf w.heap.size w w':=by
 obtain⟨B,hB⟩:∃B,B=((er==0)&&((x.k==3||x.k==4)&&x.t==s)):=⟨_,rfl⟩;rw[<-hB];have HB:Hid (B=((er==0)&&((x.k==3||x.k==4)&&x.t==s))):=hB;clear hB;obtain⟨g,cap,L,hg,hi,hc,hm,hL,⟨c0,c1,t0,t1,t2,t3⟩,c2,c3,c4,c5,hf⟩:=h.next hx;have hrb:=h.lt;have bz:Hf w.heap.size w (w.alloc (.cells #[.int .i64 0,.int .i64 0,.string ⟨#[]⟩,.int .i64 0] 67)):=(Hi _ w).alloc (G4 _) _;have d0:=(bz.cell (p:=⟨rb,0,G0⟩) hrb).trans c0;have d1:=(bz.cell (p:=⟨rb,1,G0⟩) hrb).trans c1;have hgs:g<w.heap.size:=by omega
 have u0:=(bz.cell (p:=⟨g,i*4,G0⟩) hgs).trans t0;have u1:=(bz.cell (p:=⟨g,i*4+1,G0⟩) hgs).trans t1;have u2:=(bz.cell (p:=⟨g,i*4+2,G0⟩) hgs).trans t2;have u3:=(bz.cell (p:=⟨g,i*4+3,G0⟩) hgs).trans t3;have hmm:cap<=9223372036854775807:=hm;have hiI:(i:Int)<(L:Int):=by omega
 have HX:Hid (∀ wx,Hf w.heap.size w wx->wx.cell? ⟨rb,4,G0⟩=G1 (.int .i64 (er:Nat))):=λwx b=>(b.cell (p:=⟨rb,4,G0⟩) hrb).trans c4;clear h bz hm;go_enter Tryz.func103,Tryz.ntmps103;go_upto_region 1 with fail;go_cut [5] (λv wx=>∃bt,v=.pointer (G1 ⟨bt,0,G0⟩)/\wx.heap[bt]?=G1 (.cells #[.int .i64 (x.k:Nat),.int .i64 x.n,stv x.t,.int .i64 (x.a:Nat)] 67)/\Hf w.heap.size w wx)
 case first =>
  have h2:=jD w (.cells #[.int .i64 (x.k:Nat),.int .i64 x.n,stv x.t,.int .i64 (x.a:Nat)] 67);go_region
  all_goals
   go_wp2;go_meet;exact⟨_,rfl,h2.1,h2.2⟩
 case rest =>
 obtain⟨bt,rfl,hT,B1⟩:=hcut;obtain⟨p0,p1,p2,p3,-⟩:=Blk.cells4 (o:=λ_=>0) (i:=0) ⟨hT,rfl⟩;have e4:=HX.out _ B1;clear c0 c1 t0 t1 t2 t3 d0 d1 u0 u1 u2 u3 c2 c3 c4 c5 hT HX;by_cases h0:er=0
 ·subst h0;by_cases h3:x.k=3
  ·have b3:((x.k:Int)==3)=true:=by simp[h3]
   have b4:Hid (B=(x.t==s)):=by show B=_;rw[HB.out];simp[h3]
   clear h3 HB;go_wp2;go_ret;exact⟨by rw[b4.out];simp,B1⟩
  ·have b3:((x.k:Int)==3)=false:=by simp;omega
   by_cases h4:x.k=4
   ·have b4:((x.k:Int)==4)=true:=by simp[h4]
    have b5:Hid (B=(x.t==s)):=by show B=_;rw[HB.out];simp[h4]
    clear h3 h4 HB;go_wp2;go_ret;exact⟨by rw[b5.out];simp,B1⟩
   ·have b4:((x.k:Int)==4)=false:=by simp;omega
    have b5:Hid (B=false):=by show B=_;rw[HB.out];simp[h3,h4]
    clear h3 h4 HB;go_wp2;go_ret;exact⟨by rw[b5.out];rfl,B1⟩
 ·have b0:((er:Int)==0)=false:=by simp;omega
  have b1:Hid (B=false):=by show B=_;rw[HB.out];simp[h0]
  clear h0 HB;go_wp2;go_ret;exact⟨by rw[b1.out];rfl,B1⟩
end Go.Proofs.YtkhgahljbpmfaaaGreatDoor

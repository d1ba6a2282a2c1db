import Derived.Test.YtkhgahljbpmfaaaGreatDoorEqO
set_option maxRecDepth 100000
set_option maxHeartbeats 8000000
namespace Go.Proofs.YtkhgahljbpmfaaaGreatDoor
set_option linter.unusedVariables false
set_option linter.unusedSimpArgs false
theorem Eu {K:Nat->Int}(n:Int)(u:Nat)(s:Em)(e:Dp)(h:Ry K u s e) :
  Ry K (if 5<=n then u+2 else if 3<=n then u+1 else u) (if 5<=n then (s.con 0 1 u).con 0 2 (u+1) else if 3<=n then s.con 0 1 u else s) (iN n e):=by
 unfold iN
 dsimp only
 by_cases h5:5<=n
 ·rw[if_pos h5,if_pos h5,if_pos h5,if_pos (by omega)];exact js 0 2 (js 0 1 h)
 ·rw[if_neg h5,if_neg h5,if_neg h5];by_cases h3:3<=n
  ·rw[if_pos h3,if_pos h3,if_pos h3];exact js 0 1 h
  ·rw[if_neg h3,if_neg h3,if_neg h3];exact h
theorem FC {K:Nat->Int}(lv:List Int)(n:Int)(hn:1<=n/\n<=6){t0 t1:Tr}{d0 d1:Td}(h0:Rp K 0 t0 d0)(h1:Rp K 1 t1 d1)(ar u:Nat)(s:Em)(e:Dp)(h:Ry K u s e) :
  Ry K (u+1) (qua lv n t0 t1 ar u s) (lQ lv n d0 d1 ar e):=by
 have qq:∀ X:Em,Qle X (qua lv n (λ_ _ s=>s) t1 ar u X):=λX=>vT lv n (a:=λ_ _ s=>s) (λ_ _=>Qgr.id) h1.q ar u X;have hx:qua lv n t0 t1 ar u s=qua lv n (λ_ _ s=>s) t1 ar u (t0 ar u s):=rfl;rw[hx];unfold lQ
 dsimp only
 have ra:=h0.r ar u s e h;rw[Is] at ra;generalize t0 ar u s=A at ra ⊢;generalize d0 ar e=a at ra ⊢;have rb:=Eu n u A a ra;have hq:=qq A;unfold qua yJ pP bdy Em.fork at hq ⊢
 dsimp only at hq ⊢
 by_cases hn2:n=1\/n=2
 ·rw[if_neg (show ¬5<=n by omega),if_neg (show ¬3<=n by omega),if_neg (show ¬5<=n by omega),if_neg (show ¬3<=n by omega)] at rb;have hR:Ry K (u+1) (((((((t1 (ar+1) u (iL (ar+1) lv 0 (A.lay 24 0 0))).lay (if n=2 then 14 else 15) A.ws.length 0).lay 25 0 0).con (if n=2 then 1 else 0) 2 u).lay 13 0 0).land A.ws.length).con (if n=2 then 0 else 1) 2 u |>.land ((((t1 (ar+1) u (iL (ar+1) lv 0 (A.lay 24 0 0))).lay (if n=2 then 14 else 15) A.ws.length 0).lay 25 0 0).con (if n=2 then 1 else 0) 2 u).ws.length)
    (if (iN n a).lg then iN n a else if n=1\/n=2 then qK n (iN n a).ws.length (iN n a).at1 (d1 (ar+1) (jF (ar+1) lv 0 ((iN n a).puts 24 0 0))) else pE n (iN n a).ws.length (iN n a).at1 (d1 (ar+1) (jF (ar+1) lv 0 ((iN n a).puts 24 0 0)))):=by
   refine rb.step ?_ (λhl=>by rw[if_pos hl];exact hl) (λq=>?_)
   ·rcases hn2 with e1|e1<;>subst e1<;>simpa using hq
   ·rw[if_neg (show ¬(iN n a).lg=true by rw[q.lg];decide),if_pos hn2];have rc:=rg (ar+1) lv 0 _ _ (eY 24 0 0 0 rb (λ_=>rfl));have qc:=(ey A 24 0 0).trans (im (ar+1) lv 0 (A.lay 24 0 0));have lc:A.ws.length+1<=(iL (ar+1) lv 0 (A.lay 24 0 0)).ws.length:=by
     have:=(im (ar+1) lv 0 (A.lay 24 0 0)).ws
     rw[kY] at this;exact this
    have rd:=h1.r (ar+1) u _ _ rc;have qd:=h1.q (ar+1) u (iL (ar+1) lv 0 (A.lay 24 0 0));exact ER n hn2 _ _ _ _ u _ _ rd (λo=>⟨Bl rb (qc.trans qd) o,mX rb (qc.trans qd) (In lc qd.ws) o⟩)
  rcases hn2 with e1|e1
  ·subst e1;simpa using hR
  ·subst e1;simpa using hR
 ·have h3:3<=n:=by omega
  have h1':¬n=1:=by omega
  have h2':¬n=2:=by omega
  simp only[h1',h2',if_false] at hq ⊢;obtain⟨v,hv⟩:∃v,v=if 5<=n then u+2 else u+1:=⟨_,rfl⟩;obtain⟨B,hB⟩:∃B,B=(if 5<=n then (A.con 0 1 u).con 0 2 (u+1) else if 3<=n then A.con 0 1 u else A):=⟨_,rfl⟩;have hv':(if 5<=n then u+2 else if 3<=n then u+1 else u)=v:=by rw[hv,if_pos h3]
  rw[hv',<-hB] at rb;have hR:Ry K (u+1) (if 5<=n then (((if n=3 then (((t1 (ar+1) v (iL (ar+1) lv 0 (B.lay 24 0 0))).lay 14 B.ws.length 0).con 1 1 (u+1)).lay 6 0 0 else if n=4 then (t1 (ar+1) v (iL (ar+1) lv 0 (B.lay 24 0 0))).lay 6 0 0 else (t1 (ar+1) v (iL (ar+1) lv 0 (B.lay 24 0 0))).lay 26 (n-5).toNat 0).lay 13 B.ws.length 0).land B.ws.length).lay 27 0 0
    else ((if n=3 then (((t1 (ar+1) v (iL (ar+1) lv 0 (B.lay 24 0 0))).lay 14 B.ws.length 0).con 1 1 (u+1)).lay 6 0 0 else if n=4 then (t1 (ar+1) v (iL (ar+1) lv 0 (B.lay 24 0 0))).lay 6 0 0 else (t1 (ar+1) v (iL (ar+1) lv 0 (B.lay 24 0 0))).lay 26 (n-5).toNat 0).lay 13 B.ws.length 0).land B.ws.length)
    (if (iN n a).lg then iN n a else pE n (iN n a).ws.length (iN n a).at1 (d1 (ar+1) (jF (ar+1) lv 0 ((iN n a).puts 24 0 0)))):=by
   have qc:=(ey B 24 0 0).trans (im (ar+1) lv 0 (B.lay 24 0 0));have qd:=h1.q (ar+1) v (iL (ar+1) lv 0 (B.lay 24 0 0));refine rb.step ?_ (λhl=>by rw[if_pos hl];exact hl) (λq=>?_)
   ·have qm:=((((qc.trans qd).trans (wj n B.ws.length u _)).trans (ey _ 13 B.ws.length 0)).trans (iI _ B.ws.length));split
    ·exact qm.trans (ey _ _ _ _)
    ·exact qm
   ·rw[if_neg (show ¬(iN n a).lg=true by rw[q.lg];decide)];have rc:=rg (ar+1) lv 0 _ _ (eY 24 0 0 0 rb (λ_=>rfl));have lc:B.ws.length+1<=(iL (ar+1) lv 0 (B.lay 24 0 0)).ws.length:=by
     have:=(im (ar+1) lv 0 (B.lay 24 0 0)).ws
     rw[kY] at this;exact this
    have rd:=h1.r (ar+1) v _ _ rc;exact FF n h3 _ _ _ _ u v _ _ rd hv (λo=>⟨Bl rb (qc.trans qd) o,mX rb (qc.trans qd) (In lc qd.ws) o⟩)
  have hn6:n=3\/n=4\/n=5\/n=6:=by omega
  rcases hn6 with e1|e1|e1|e1<;>subst e1<;>simp at hv hB<;>subst hv<;>subst hB<;>simpa using hR
def skF (K:Nat->Int):Fs->Int->Nat->Prop
 | ⟨G0⟩,_,_=>True
 | ⟨G1 ⟨k,n,nm,a,ks,r⟩⟩,pk,i=>((22<=k/\k<=25) ↔ (pk=21/\i=0))/\(k=26->(kdF ks).getD 0 0=K n.toNat)/\skF K ks k 0/\skF K r pk (i+1)
def skE (K:Nat->Int)(e:Ex):Prop:=¬(22<=e.k/\e.k<=25)/\(e.k=26->(kdF e.kids).getD 0 0=K e.n.toNat)/\skF K e.kids e.k 0
theorem oK:∀ f:Fs,(kdF f).length=f.len
 | ⟨G0⟩=>rfl
 | ⟨G1 ⟨k,n,nm,a,ks,r⟩⟩=>by simp only[kdF,Fs.len,Hy,oK r]
theorem qT (lv:List Int):∀ f:Fs,(emF lv f).length=f.len
 | ⟨G0⟩=>rfl
 | ⟨G1 ⟨k,n,nm,a,ks,r⟩⟩=>by simp only[emF,Fs.len,Hy,qT lv r]
theorem pt {k n:Int}{nm:List UInt8}{len:Nat}(h:eg k n nm len=true):(k=6\/k=7\/k=24->len=1)/\(8<=k->k<=18->len=2)/\(k=19->len=3)/\(k=20->1<=len/\len<=2)/\(k=21->len=2/\1<=n/\n<=6)/\(k=22\/k=23->len=0)/\(k=26->len=1)/\(k=1\/k=2\/k=3\/(5<=k/\k<=26)):=by
 unfold eg at h;refine⟨λe=>?_,λe1 e2=>?_,λe=>?_,λe=>?_,λe=>?_,λe=>?_,λe=>?_,?_⟩
 ·rcases e with rfl|rfl|rfl<;>simp at h<;>omega
 ·rw[if_neg (by omega),if_neg (by omega),if_neg (by omega),if_neg (by omega),if_pos (by omega)] at h;simp at h;omega
 ·subst e;simp at h;omega
 ·subst e;simp at h;omega
 ·subst e;simp at h;omega
 ·rcases e with rfl|rfl<;>simp at h<;>omega
 ·subst e;simp at h;omega
 ·apply JE;intro hc
  repeat rw[if_neg (by omega)] at h
  cases h
theorem An (K:Nat->Int)(lv:List Int)(nc:Nat)(k n:Int)(nm:List UInt8)(kk:List Int)(T:List Tr)(D:List Td)(len b:Nat)(hN:eg k n nm len=true)(hT:Rps K T D k 0)(hl:T.length=len)(hkk:kk.length=len)(hb:b=if 22<=k/\k<=25 then 0 else 1)(hc:k=26->kk.getD 0 0=K n.toNat)(hq:Qtr (prt lv k n nm kk T))(hk:∀ ar s,s.lg=true->(oT lv k n nm kk D ar s).lg=true) :
  Rp K b (prt lv k n nm kk T) (oT lv k n nm kk D):=by
 refine⟨hq,hk,λar u s e h=>h.step (hq ar u s) (hk ar e) (λr=>?_)⟩;subst hb;have hDl:=wN T D 0 hT;obtain⟨l1,l2,l3,l4,l5,l6,l7,l8⟩:=pt hN;have kseq:k≠21->Ry K (u+T.length) (nF T 0 ar u s) (fS D ar e):=λhk=>by
  have:=zG 0 0 k hk T D 0 0 ar u s e hT h
  rw[Is] at this;exact this
 have kget:∀ j,j<T.length->k≠21->Rp K 1 (T.getD j noT) (D.getD j noD):=λj hj hk=>by
  have:=nJ T D 0 j hT hj
  rw[if_neg (λh=>hk h.1)] at this;exact this
 have hlg:¬(e.lg=true):=by rw[r.lg];decide
 by_cases hs:22<=k/\k<=25
 ·unfold prt oT;rw[if_pos hs,if_pos hs,if_neg (by omega),if_neg (by omega),if_neg (by omega),if_neg (by omega),if_neg (by omega),if_neg (by omega),if_neg (by omega),if_neg (by omega),if_neg (by omega),Is];have hseq:=kseq (by omega);generalize nF T 0 ar u s=A at hseq ⊢;unfold yi opr
  dsimp only
  generalize fS D ar e=a at hseq ⊢;rw[if_neg (by omega),if_neg (by omega),if_neg (by omega),if_neg (by omega),if_neg (by omega)];by_cases e22:k=22
  ·subst e22;have h0:=l6 (.inl rfl);rw[if_neg (by omega),if_neg (by omega),if_pos rfl];exact fm u _ (eY 20 0 0 0 hseq (λ_=>rfl)) (by omega) (by omega)
  ·by_cases e23:k=23
   ·subst e23;have h0:=l6 (.inr rfl);rw[if_pos rfl,if_neg (by omega),if_pos rfl];exact fm u _ (eY 21 _ _ 0 (GK nm hseq) (λo=>by rw[(hseq.1 o).ns])) (by omega) (by omega)
   ·rw[if_neg e23,if_neg e22,if_neg e23];by_cases e24:k=24
    ·subst e24;rw[if_neg (by omega),if_pos rfl];exact fm u _ (eY 22 0 0 0 hseq (λ_=>rfl)) (by omega) (by omega)
    ·have e25:k=25:=by omega
     subst e25;rw[if_pos rfl,if_neg (by omega)];exact fm u _ (eY 23 kk.length D.length 0 hseq (λ_=>by omega)) (by omega) (by omega)
 ·unfold prt oT;rw[if_neg hs,if_neg hs,if_neg hlg];by_cases e1:k=1
  ·rw[if_pos e1,if_pos e1];exact js n 1 h
  rw[if_neg e1,if_neg e1];by_cases e2:k=2
  ·rw[if_pos e2,if_pos e2];exact js n 2 h
  rw[if_neg e2,if_neg e2];by_cases e3:k=3
  ·rw[if_pos e3,if_pos e3];exact rq 2 _ _ 0 (D8 n h) (λo=>by rw[(h.1 o).cs])
  rw[if_neg e3,if_neg e3];by_cases e5:k=5
  ·rw[if_pos e5,if_pos e5];exact rq 3 _ _ 0 h (λ_=>rfl)
  rw[if_neg e5,if_neg e5];by_cases e6:6<=k/\k<=12
  ·rw[if_neg (by omega),if_neg (by omega),if_neg (by omega),if_neg (by omega),if_neg (by omega),if_pos e6];have hseq:=kseq (by omega);unfold opr;rw[if_neg (by omega),if_neg (by omega),if_neg (by omega),if_neg (by omega),if_neg (by omega),if_neg (by omega),if_neg (by omega)];by_cases e67:k=6\/k=7
   ·have:=l1 (by omega)
    rw[if_pos e67];exact fm (u+1) _ (eY (jz k) 0 0 0 hseq (λ_=>rfl)) (by omega) (by omega)
   ·have:=l2 (by omega) (by omega)
    rw[if_neg e67];exact fm (u+1) _ (eY (jz k) 0 0 0 hseq (λ_=>rfl)) (by omega) (by omega)
  rw[if_neg e6];by_cases e13:13<=k/\k<=16
  ·rw[if_neg (by omega),if_neg (by omega),if_neg (by omega),if_neg (by omega),if_neg (by omega),if_pos e13];have hseq:=kseq (by omega)
   have:=l2 (by omega) (by omega)
   unfold opr yF;by_cases k13:k=13
   ·rw[if_pos k13,if_pos k13];exact fm (u+1) _ (eY 11 0 0 _ hseq (λ_=>rfl)) (by omega) (by omega)
   rw[if_neg k13,if_neg k13];by_cases k14:k=14
   ·rw[if_pos k14,if_pos k14];exact fm (u+1) _ (eY 5 0 0 0 (eY 11 0 0 _ hseq (λ_=>rfl)) (λ_=>rfl)) (by omega) (by omega)
   rw[if_neg k14,if_neg k14];by_cases k15:k=15
   ·rw[if_pos k15,if_pos k15];exact fm (u+1) _ (eY 12 0 0 0 hseq (λ_=>rfl)) (by omega) (by omega)
   rw[if_neg k15,if_neg k15,if_pos (by omega)];exact fm (u+1) _ (eY 12 0 0 1 hseq (λ_=>rfl)) (by omega) (by omega)
  rw[if_neg e13];by_cases e20:k=20
  ·rw[if_neg (by omega),if_neg (by omega),if_neg (by omega),if_neg (by omega),if_neg (by omega),if_pos e20];have hseq:=kseq (by omega)
   have:=l4 e20
   unfold opr;rw[if_neg (by omega),if_neg (by omega),if_neg (by omega),if_neg (by omega),if_pos e20];exact fm (u+1) _ (eY 16 _ _ 0 hseq (λ_=>rfl)) (by omega) (by omega)
  rw[if_neg e20];by_cases e26:k=26
  ·rw[if_neg (by omega),if_neg (by omega),if_neg (by omega),if_pos e26,if_pos e26]
   have:=l7 e26
   exact CI n.toNat _ (hc e26) (kget 0 (by omega) (by omega)) ar u s e h
  rw[if_neg e26];by_cases e21:k=21
  ·rw[if_neg (by omega),if_neg (by omega),if_neg (by omega),if_neg e26,if_pos e21,if_pos e21];have h5:=l5 e21;have g0:=nJ T D 0 0 hT (by omega);have g1:=nJ T D 0 1 hT (by omega);rw[if_pos ⟨e21,rfl⟩] at g0;rw[if_neg (by omega)] at g1;exact FC lv n h5.2 g0 g1 ar u s e h
  rw[if_neg e21];have hk3:k=17\/k=18\/k=19:=by omega
  have g0:=kget 0 (by rcases hk3 with e|e|e<;>first|(have:=l2 (by omega) (by omega);omega)|(have:=l3 e;omega)) (by omega);have g1:=kget 1 (by rcases hk3 with e|e|e<;>first|(have:=l2 (by omega) (by omega);omega)|(have:=l3 e;omega)) (by omega);have hcho:=Fe k g0 g1 (λh1 h2=>kget 2 (by have:=l3 (by omega);omega) (by omega)) ar u s e h;rcases hk3 with e|e|e<;>subst e<;>simpa using hcho
theorem AO (K:Nat->Int)(lv:List Int)(nc:Nat):∀ (f:Fs) (pk:Int) (i:Nat),skF K f pk i->okF nc f->Rps K (emF lv f) (deF lv f) pk i
 | ⟨G0⟩,_,_,_,_=>trivial
 | ⟨G1 ⟨k,n,nm,a,ks,r⟩⟩,pk,i,h,ho=>by
  obtain⟨h1,h2,h3,h4⟩:=h;refine⟨?_,AO K lv nc r pk (i+1) h4 ho.2.2⟩;refine An K lv nc k n nm (kdF ks) (emF lv ks) (deF lv ks) ks.len _ ho.1.1 (AO K lv nc ks k 0 h3 ho.2.1) (qT lv ks) (oK ks) ?_ h2 (rR lv k n nm (kdF ks) (nS lv ks)) (λar s=>(rA lv k n nm (kdF ks) (deF lv ks) ks (mC lv ks) ar s).lg);by_cases hs:22<=k/\k<=25
  ·rw[if_pos hs,if_pos (h1.1 hs)]
  ·rw[if_neg hs,if_neg (λh=>hs (h1.2 h))]
theorem rp_E (K:Nat->Int)(lv:List Int)(nc:Nat)(e:Ex)(h:skE K e)(ho:okE nc e):Rp K 1 (emE lv e) (deE lv e) :=
 An K lv nc e.k e.n e.nm (kdF e.kids) (emF lv e.kids) (deF lv e.kids) e.kids.len 1 ho.1.1 (AO K lv nc e.kids e.k 0 h.2.2 ho.2) (qT lv e.kids) (oK e.kids) (by rw[if_neg h.1]) h.2.1 (rR lv e.k e.n e.nm (kdF e.kids) (nS lv e.kids)) (λar s=>(fj lv e ar s).lg)
def de0 (lv:List Int):Dp:=⟨[],[],[],Ik lv.length 0,0,0,false⟩
def deA (lv:List Int)(e:Ex):Dp:=(deE lv e 0 (de0 lv)).puts 0 0 0
theorem ry_A (K:Nat->Int)(lv:List Int)(nc:Nat)(e:Ex)(h:skE K e)(ho:okE nc e):Ry K 1 (emA lv e) (deA lv e):=by
 have h0:Ry K 0 (em0 lv) (de0 lv):=by
  refine Ry.of ⟨⟨by simp[em0],by simp[em0]⟩,JI _,rfl,rfl,rfl,by simp[de0,em0],λi hi=>?_,rfl,rfl,rfl⟩;simp only[em0,List.length_replicate] at hi
  left
  simp only[de0,em0];simp[hi,Ib,Iw]
 exact eY 0 0 0 0 ((rp_E K lv nc e h ho).r 0 0 _ _ h0) (λ_=>rfl)
open Option renaming none->G0,some->G1
open Nat renaming le_refl->G4,lt_of_lt_of_le->Hh,le_trans->In,add_zero->Is,zero_add->Ix,zero_mul->I4,zero_le->JI,lt_or_ge->Kc
open Go.Proofs.Tryz renaming prog->G5,ntmps70->Jr,results176->Jw,ntmps34->Jz,func70->JB,func34->JH
open Go renaming World->G9,lt_of_block->Ha,bodyPost_ret->Hb,heap_alloc_new->Hc,Value->He,results->Hk,heap_setCell_other->Hl,Calls->Hn,maxLen->Hu,Addr->Hw,cell_of_row->If,frozen_of_row->IK
open List renaming getElem?_eq_getElem->Hd,length_cons->Hy,getD_eq_getElem?_getD->Ib,getElem?_eq_none->Ie,replicate->Ik,getElem?_replicate->Iw,mem_of_getElem?->IT,drop_eq_getElem_cons->Jd
open Go.RowKit renaming Below->Hf,intOf->Ih
open Go.Lib renaming hid->Hg
open Go.RowKit.Below renaming refl->Hi,heap_alloc->Hj
open Bool renaming and_eq_true->Ia
open Go.World renaming cell?_of_block->Ho,frozen?->Ki
open Go.Value renaming int->Hp
open Exists renaming intro->Hv
open Int renaming toNat_natCast->IE
open Go.AllReadyH renaming cons->Js
open Classical renaming byContradiction->JE
open Ne renaming symm->JP
open Go.ChangeShapes Go.WideShapes Go.ChangeAt Go.RowKit
theorem kW {K:Nat->Int}{x:Ex}{r:Fs}{pk:Int}(hp:pk≠21)(h:skF K (Fs.ex x r) pk 0):skE K x:=⟨λhs=>hp (h.1.1 hs).1,h.2.1,h.2.2.1⟩
theorem nQ {K:Nat->Int}{x y:Ex}{r:Fs}{pk:Int}(hp:pk≠21)(h:skF K (Fs.ex x (Fs.ex y r)) pk 0):skE K y:=⟨λhs=>hp (h.2.2.2.1.1 hs).1,h.2.2.2.2.1,h.2.2.2.2.2.1⟩
theorem ye (n:Int)(h:1<=n/\n<=10):j6 n=rV n:=by
 have hc:n=1\/n=2\/n=3\/n=4\/n=5\/n=6\/n=7\/n=8\/n=9\/n=10:=by omega
 rcases hc with rfl|rfl|rfl|rfl|rfl|rfl|rfl|rfl|rfl|rfl<;>rfl
theorem tP (n:Int)(h:1<=n/\n<=6):fw n=rS n:=by
 have hc:n=1\/n=2\/n=3\/n=4\/n=5\/n=6:=by omega
 rcases hc with rfl|rfl|rfl|rfl|rfl|rfl<;>rfl
theorem vV (K:Nat->Int)(nc N:Nat):∀ (e:Ex) (ao:Option Hw) (cap:Nat) (w:G9),e.kids.size<N->okE nc e->skE K e->SnA w e.kids ao ->
  Hn G5 113 #[exN e ao cap] w λr w'=>r=.returned (.int .i64 (kdE e))/\Hf w.heap.size w w':=by
 induction N with
 | zero=>intro e ao cap w hs;omega
 | succ N ih =>
  intro e ao cap w hs ho hsk S;obtain⟨k,n,nm,a,ks⟩:=e;obtain⟨⟨hd,-,-⟩,hk⟩:=ho;obtain⟨hsk1,-,hsk2⟩:=hsk;simp only at hs hd hk S hsk1 hsk2;rw[dR];simp only;have hdl:=lp hd;by_cases h19:k=19
  ·subst h19;have hlen:ks.len=3:=hdl.1 rfl;rw[hlen];obtain⟨x,y,z,hks⟩:=kX hlen;have S':=S;rw[hks] at S' hk hs hsk2;obtain⟨w1,hw1⟩:∃w1,w1=w.alloc (.cells #[.int .i64 19,.int .i64 n,stv nm,.slice ao 3 cap] 34):=⟨_,rfl⟩;obtain⟨g,hg⟩:∃g,g=w.heap.size:=⟨_,rfl⟩;have B1:Hf w.heap.size w w1:=by rw[hw1];exact b1 _ _
   have C1:w1.heap[g]?=G1 (.cells #[.int .i64 19,.int .i64 n,stv nm,.slice ao 3 cap] 34):=by rw[hw1,hg];exact Hc _ _
   obtain⟨⟨c0,c1,c2,c3⟩,-⟩:=dW C1;have HG:=Hg hg;have HB:=Hg B1;obtain⟨b,off,ak,ck,rfl,x0,x1,x2,x3,Sy⟩:=Eb (S'.below B1);have hv:kdE ⟨19,n,nm,a,ks⟩=kdE y:=by simp only[kdE,hks,lV];simp[kdN]
   rw[hv];have HC:=ih y ak ck w1 (by simp only[eG] at hs;omega) (et (et hk).2).1 (nQ (by omega) hsk2) Sy;rw[dR] at HC;clear B1 S S' hks hk hs hg C1 hv hdl hd hsk1 hsk2;go_enter Tryz.func113,Tryz.ntmps113;go_upto_region 1 with fail;rw[<-hw1,<-HG.out];clear hw1;go_wp2_with fail;refine HC.mono ?_;rintro r w2 ⟨rfl,B2⟩;go_wp2;go_ret;exact⟨rfl,HB.out.trans (B2.mono HB.out.size)⟩
  by_cases h26:k=26
  ·subst h26;have hlen:ks.len=1:=hdl.2.1 rfl;rw[hlen];obtain⟨x,hks⟩:=mL hlen;have S':=S;rw[hks] at S' hk hs hsk2;obtain⟨w1,hw1⟩:∃w1,w1=w.alloc (.cells #[.int .i64 26,.int .i64 n,stv nm,.slice ao 1 cap] 34):=⟨_,rfl⟩;obtain⟨g,hg⟩:∃g,g=w.heap.size:=⟨_,rfl⟩;have B1:Hf w.heap.size w w1:=by rw[hw1];exact b1 _ _
   have C1:w1.heap[g]?=G1 (.cells #[.int .i64 26,.int .i64 n,stv nm,.slice ao 1 cap] 34):=by rw[hw1,hg];exact Hc _ _
   obtain⟨⟨c0,c1,c2,c3⟩,-⟩:=dW C1;have HG:=Hg hg;have HB:=Hg B1;obtain⟨b,off,ak,ck,rfl,x0,x1,x2,x3,Sy⟩:=wV (S'.below B1);have hv:kdE ⟨26,n,nm,a,ks⟩=kdE x:=by simp only[kdE,hks,lV];simp[kdN]
   rw[hv];have HC:=ih x ak ck w1 (by simp only[eG] at hs;omega) (et hk).1 (kW (by omega) hsk2) Sy;rw[dR] at HC;clear B1 S S' hks hk hs hg C1 hv hdl hd hsk1 hsk2;go_enter Tryz.func113,Tryz.ntmps113;go_upto_region 1 with fail;rw[<-hw1,<-HG.out];clear hw1;go_wp2_with fail;refine HC.mono ?_;rintro r w2 ⟨rfl,B2⟩;go_wp2;go_ret;exact⟨rfl,HB.out.trans (B2.mono HB.out.size)⟩
  by_cases h20:k=20
  ·subst h20;have hv:kdE ⟨20,n,nm,a,ks⟩=rV n:=by simp[kdE,kdN]
   rw[hv];obtain⟨w1,hw1⟩:∃w1,w1=w.alloc (.cells #[.int .i64 20,.int .i64 n,stv nm,.slice ao ks.len cap] 34):=⟨_,rfl⟩;obtain⟨g,hg⟩:∃g,g=w.heap.size:=⟨_,rfl⟩;have B1:Hf w.heap.size w w1:=by rw[hw1];exact b1 _ _
   have C1:w1.heap[g]?=G1 (.cells #[.int .i64 20,.int .i64 n,stv nm,.slice ao ks.len cap] 34):=by rw[hw1,hg];exact Hc _ _
   obtain⟨⟨c0,c1,c2,c3⟩,-⟩:=dW C1;have HG:=Hg hg;have HB:=Hg B1;have HC:=qY n w1;rw[ye n (hdl.2.2.2.2.1 rfl)] at HC;clear B1 S hk hs hg C1 hv hdl hd hsk1 hsk2;go_enter Tryz.func113,Tryz.ntmps113;go_upto_region 1 with fail;rw[<-hw1,<-HG.out];clear hw1;go_wp2_with fail;refine HC.mono ?_;rintro r w2 ⟨rfl,hww⟩;subst hww;go_wp2;go_ret;exact⟨rfl,HB.out⟩
  by_cases h21:k=21
  ·subst h21;have hv:kdE ⟨21,n,nm,a,ks⟩=rS n:=by simp[kdE,kdN]
   rw[hv];obtain⟨w1,hw1⟩:∃w1,w1=w.alloc (.cells #[.int .i64 21,.int .i64 n,stv nm,.slice ao ks.len cap] 34):=⟨_,rfl⟩;obtain⟨g,hg⟩:∃g,g=w.heap.size:=⟨_,rfl⟩;have B1:Hf w.heap.size w w1:=by rw[hw1];exact b1 _ _
   have C1:w1.heap[g]?=G1 (.cells #[.int .i64 21,.int .i64 n,stv nm,.slice ao ks.len cap] 34):=by rw[hw1,hg];exact Hc _ _
   obtain⟨⟨c0,c1,c2,c3⟩,-⟩:=dW C1;have HG:=Hg hg;have HB:=Hg B1;have HC:=qU n w1;rw[tP n (hdl.2.2.2.1 rfl).2] at HC;clear B1 S hk hs hg C1 hv hdl hd hsk1 hsk2;go_enter Tryz.func113,Tryz.ntmps113;go_upto_region 1 with fail;rw[<-hw1,<-HG.out];clear hw1;go_wp2_with fail;refine HC.mono ?_;rintro r w2 ⟨rfl,hww⟩;subst hww;go_wp2;go_ret;exact⟨rfl,HB.out⟩
  have hc:k=1\/k=2\/k=3\/k=5\/k=6\/k=7\/k=8\/k=9\/k=10\/k=11\/k=12\/k=13\/k=14\/k=15\/k=16\/k=17\/k=18:=by
   have:=gX hd
   omega
  obtain⟨w1,hw1⟩:∃w1,w1=w.alloc (.cells #[.int .i64 k,.int .i64 n,stv nm,.slice ao ks.len cap] 34):=⟨_,rfl⟩;obtain⟨g,hg⟩:∃g,g=w.heap.size:=⟨_,rfl⟩;have B1:Hf w.heap.size w w1:=by rw[hw1];exact b1 _ _
  have C1:w1.heap[g]?=G1 (.cells #[.int .i64 k,.int .i64 n,stv nm,.slice ao ks.len cap] 34):=by rw[hw1,hg];exact Hc _ _
  obtain⟨⟨c0,c1,c2,c3⟩,-⟩:=dW C1;have HG:=Hg hg;have HB:=Hg B1;clear B1 S hk hs hg C1 hd hdl ih h19 h26 h20 h21 hsk1 hsk2;rcases hc with rfl|rfl|rfl|rfl|rfl|rfl|rfl|rfl|rfl|rfl|rfl|rfl|rfl|rfl|rfl|rfl|rfl 
  all_goals
   go_enter Tryz.func113,Tryz.ntmps113;go_upto_region 1 with fail;rw[<-hw1,<-HG.out];clear hw1;go_wp2;go_ret;exact⟨rfl,HB.out⟩
def DX (w:G9)(o:Nat->Nat)(p4:He)(lv:List Int):Prop :=
 ∃ao cap,p4=.slice ao lv.length cap/\(lv=[]\/∃b off,ao=G1 ⟨b,off,G0⟩/\o b=0/\b<w.heap.size/\∀ j x,lv[j]?=G1 x->w.cell? ⟨b,off+j,G0⟩=G1 (.int .i64 x))
theorem DX.step {I:Nat->Prop}{w w':G9}{o o':Nat->Nat}{p4:He}{lv:List Int}(h:DX w o p4 lv)(x:as I w o w' o')(hi:¬I 0):DX w' o' p4 lv:=by
 obtain⟨ao,cap,h6,h7⟩:=h;refine⟨ao,cap,h6,?_⟩;rcases h7 with h7|⟨b,off,e1,e2,e3,e4⟩
 ·exact .inl h7
 ·exact .inr ⟨b,off,e1,(x.lab b e3).trans e2,Hh e3 x.size,λj y hy=>(Ho (a:=⟨b,off+j,G0⟩) (x.block b e3 (by rw[e2];exact hi))).trans (e4 j y hy)⟩
def iH (K:Nat->Int)(nc N:Nat):Prop:=∀ (e:Ex) (ao:Option Hw) (cap ar:Nat) (w:G9) (o:Nat->Nat) (rb:Nat) (p0 p1 p2 p3 p4:He) (lv:List Int) (s:Dp) (m:Nat),
 e.kids.size<N->okE nc e->skE K e->lv.length=nc->nc<=256->ar+e.kids.size<=1000000->e.kids.size<=100000->SnO w o e.kids ao->s.ks.length=nc->s.sz m->m+(17*e.kids.size+16)<=100000000->DX w o p4 lv->DW w o rb p0 p1 p2 p3 p4 s ->
 Hn G5 34 #[pt0 rb,exN e ao cap,.int .i64 (ar:Nat)] w (fI w o rb p0 p1 p2 p3 p4 (deE lv e ar s) (.tuple #[]))
theorem gr {w:G9}{o:Nat->Nat}{rb:Nat}{p0 p1 p2 p3 p4:He}{s:Dp}{lv:List Int}{ks:Fs}{ao:Option Hw}(c:Array He)(h:DW w o rb p0 p1 p2 p3 p4 s)(X:DX w o p4 lv)(S:SnO w o ks ao) :
  ∃w1 o1 g,w1=w.alloc (.cells c 34)/\Hid (g=w.heap.size)/\Blk w1 o1 0 g (.cells c 34)/\DW w1 o1 rb p0 p1 p2 p3 p4 s/\DX w1 o1 p4 lv/\SnO w1 o1 ks ao/\as I17 w o w1 o1 :=
 have s0:∀ {I:Nat->Prop},as I w o (w.alloc (.cells c 34)) (dQ w o 0):=λ{I}=>gW o (b1 _ _)
 ⟨_,dQ w o 0,w.heap.size,rfl,rfl,⟨Hc _ _,dY (G4 _)⟩,h.step (s0 (I:=λ_=>False)) noF,X.step (s0 (I:=λ_=>False)) id,S.stepO (s0 (I:=λ_=>False)) id,s0⟩
theorem gu {w1:G9}{o1:Nat->Nat}{g:Nat}{x0 x1 x2 x3:He}(h:Blk w1 o1 0 g (.cells #[x0,x1,x2,x3] 34)):Hid (∀ w' o',as I17 w1 o1 w' o'->w'.cell? ⟨g,0,G0⟩=G1 x0/\w'.cell? ⟨g,1,G0⟩=G1 x1/\w'.cell? ⟨g,2,G0⟩=G1 x2/\w'.cell? ⟨g,3,G0⟩=G1 x3) :=
 λw' o' S=>(dW (h.step S dZ).1).1
theorem DW.cl {w:G9}{o:Nat->Nat}{rb:Nat}{p0 p1 p2 p3 p4:He}{s:Dp}(h:DW w o rb p0 p1 p2 p3 p4 s):w.cell? ⟨rb,11,G0⟩=G1 (.bool s.lg)/\w.cell? ⟨rb,4,G0⟩=G1 p4:=by
 obtain⟨wl,vc,vn,vk,vw,q0,-⟩:=h;obtain⟨⟨c4,c5,c6,c7,c8,c9,c10,c11⟩,cf⟩:=fq q0.1;exact⟨c11,c4⟩
theorem Ap {lv:List Int}{e:Ex}{ar:Nat}{s:Dp}(h:¬(22<=e.k/\e.k<=25))(hl:s.lg=true):deE lv e ar s=s:=by
 unfold deE oT;rw[if_neg h,if_pos hl]
theorem si {K:Nat->Int}{pk:Int}{lv:List Int}{ar:Nat}{s:Dp}(hp:pk≠21)(hl:s.lg=true):∀ (f:Fs) (i:Nat),skF K f pk i->fS (deF lv f) ar s=s
 | ⟨G0⟩,i,h=>rfl
 | ⟨G1 ⟨k,n,nm,a,ks,r⟩⟩,i,h=>by
  have e1:deF lv ⟨G1 ⟨k,n,nm,a,ks,r⟩⟩=deE lv ⟨k,n,nm,a,ks⟩::deF lv r:=rfl;rw[e1,fS,Ap (λhs=>hp (h.1.1 hs).1) hl,si hp hl r (i+1) h.2.2.2]
theorem rF (K:Nat->Int)(nc N:Nat)(HP:iH K nc N)(k n:Int)(nm:List UInt8)(a:Int)(ks:Fs)(ao:Option Hw)(cap ar:Nat)(w:G9)(o:Nat->Nat)(rb:Nat)(p0 p1 p2 p3 p4:He)(lv:List Int)(s:Dp)(m:Nat)
  (hN:ks.size<=N) (ho:okF nc ks) (h21:k≠21) (hsk:skF K ks k 0) (hlv:lv.length=nc) (hnc:nc<=256) (har:ar+ks.size<=1000000) (hsz:ks.size<=100000) (S:SnO w o ks ao) (hks:s.ks.length=nc) (hz:s.sz m) (hm:m+17*ks.size<=100000000) (X:DX w o p4 lv) (h:DW w o rb p0 p1 p2 p3 p4 s) :
  Hn G5 66 #[pt0 rb,exN ⟨k,n,nm,a,ks⟩ ao cap,.int .i64 (ar:Nat)] w (fI w o rb p0 p1 p2 p3 p4 (fS (deF lv ks) ar s) (.tuple #[])):=by
 obtain⟨w1,o1,g,hw1,HG,B1,E1,X1,SN1,S0⟩:=gr #[.int .i64 k,.int .i64 n,stv nm,.slice ao ks.len cap] h X S;have KK:=gu B1;have hlz:=i7 ks;obtain⟨W,hW⟩:∃W,W=fS (deF lv ks) ar s:=⟨_,rfl⟩;have HW:Hid (W=fS (deF lv ks) ar s):=hW;rw[<-hW];clear hW B1 h X S;rw[dR];obtain⟨c0,c1,c2,c3⟩:=KK.out _ _ (as.refl I17 w1 o1);obtain⟨l1,-⟩:=E1.cl;simp only;go_enter Tryz.func66,Tryz.ntmps66;go_upto_region 1 with fail;rw[<-hw1,<-HG.out];clear hw1;go_wp2_with fail;go_loopw [6] (λvi wr=>∃(d r:Fs) (s':Dp) (o':Nat->Nat),Hid (ks=d.app r)/\vi=.int .i64 (d.len:Nat)/\DW wr o' rb p0 p1 p2 p3 p4 s'/\as I17 w1 o1 wr o'/\Dle (17*d.size) s s'/\Hid (W=fS (deF lv r) ar s')/\Hid (skF K r k d.len)) (λvi _=>ks.len-(Ih vi).toNat)
 case atStart=>exact⟨.nil,ks,s,o1,rfl,by show _=Hp .i64 ((0:Nat):Int);rfl,E1,as.refl _ _ _,Dle.refl s,HW,hsk⟩
 case round =>
  clear HW E1 c0 c1 c2 c3 l1 hsk;obtain⟨d,r,s',o',HK,rfl,E2,S2,g2,HW,HS⟩:=hrel;obtain⟨c0,c1,c2,c3⟩:=KK.out _ _ S2;obtain⟨l1,-⟩:=E2.cl;have hlk:ks.len=d.len+r.len:=by rw[HK.out,Fs.len_app]
  have hsk:ks.size=d.size+r.size:=by rw[HK.out,Fs.size_app]
  have hld:=i7 d;cases r using Fs.on with
  | nil =>
   have hkI:¬(d.len:Int)<(ks.len:Int):=by simp only[Fs.len] at hlk;omega
   have HW2:Hid (W=s'):=HW.out;clear HW HK hlk hsk hld hlz KK g2;go_wp2
   go_end0
   exact⟨rfl,o',by rw[HW2.out];exact E2,S0.trans S2⟩
  | Js kk kn km ka kks kr =>
   have hkI:(d.len:Int)<(ks.len:Int):=by simp only[Fs.len] at hlk;omega
   by_cases hlg:s'.lg=true
   ·have HW2:Hid (W=s'):=by show _=_;rw[HW.out];exact si h21 hlg _ _ HS.out
    rw[hlg] at l1;clear HW HK hlk hsk hld hlz KK g2 HS;go_wp2
    go_end0
    exact⟨rfl,o',by rw[HW2.out];exact E2,S0.trans S2⟩
   ·have hlf:s'.lg=false:=by simpa using hlg
    rw[hlf] at l1;obtain⟨y,hy⟩:∃y:Ex,y=⟨kk,kn,km,ka,kks⟩:=⟨_,rfl⟩;have hcy:Fs.cons kk kn km ka kks kr=Fs.ex y kr:=by rw[hy];rfl
    rw[hcy] at HK HW HS hlk hsk;have hly:(Fs.ex y kr).len=kr.len+1:=rfl;rw[hly] at hlk;rw[eG] at hsk;have oky:okE nc y:=by
     rw[HK.out] at ho;exact(et (rk ho)).1
    have SNk:=SN1.stepO S2 dZ;rw[HK.out] at SNk;obtain⟨b,off,ak,ck,rfl,NN,Sy,NK⟩:=ij (x:=d) SNk d.len rfl;obtain⟨x0,x1,x2,x3⟩:=NN;have HC:=HP y ak ck ar wr o' rb p0 p1 p2 p3 p4 lv s' (m+17*d.size) (by omega) oky ⟨λhs=>h21 (HS.out.1.1 hs).1,HS.out.2.1,HS.out.2.2.1⟩ hlv hnc (by omega) (by omega) Sy (g2.ks.trans hks) (g2.sz m hz) (by omega) (X1.step S2 dZ) E2;have gy:=fj lv y ar s';have HWn:Hid (W=fS (deF lv kr) ar (deE lv y ar s')):=HW.out;have HSn:Hid (skF K kr k (d.len+1)):=HS.out.2.2.2;have HKn:Hid (ks=(d.snoc y).app kr):=by show _=_;rw[HK.out,rp]
    have HDN:Hid ((d.snoc y).len=d.len+1):=Fs.len_snoc d y;have HDS:Hid ((d.snoc y).size=d.size+(y.kids.size+1)):=by show _=_;unfold Fs.snoc;rw[Fs.size_app];rfl
    rw[dR] at HC;have HLK:=Hg hlk;clear hy hcy hly SNk NK Sy HW HK HS E2 hsk hlk hlf hlg KK;go_wp2_with (first|(go_at_call 34;refine HC.mono ?_;rintro z w5 ⟨rfl,o5,E5,S5⟩));go_roundw
    case rel=>(try ((repeat apply Hv);refine⟨?_,rfl⟩));exact⟨d.snoc y,kr,_,o5,HKn,by rw[HDN.out];go_num,E5,S2.trans S5,by rw[HDS.out];exact(g2.trans gy).le (by omega),HWn,by rw[HDN.out];exact HSn⟩
    case measure=>have hlk:=HLK.out;simp[Ih];omega
theorem zj (k n:Int)(nm:List UInt8)(a:Int)(ks:Fs)(ao:Option Hw)(cap ar:Nat)(w:G9)(o:Nat->Nat)(rb:Nat)(p0 p1 p2 p3 p4:He)(lv:List Int)(s:Dp)(m:Nat)(kd:Nat)(hk:(k=1/\kd=1)\/(k=2/\kd=2))(hlf:s.lg=false)(S:SnO w o ks ao)(hz:s.sz m)(hm:m+2<=100000000)(X:DX w o p4 lv)(h:DW w o rb p0 p1 p2 p3 p4 s) :
  Hn G5 34 #[pt0 rb,exN ⟨k,n,nm,a,ks⟩ ao cap,.int .i64 (ar:Nat)] w (fI w o rb p0 p1 p2 p3 p4 (s.val n kd) (.tuple #[])):=by
 obtain⟨w1,o1,g,hw1,HG,B1,E1,X1,SN1,S0⟩:=gr #[.int .i64 k,.int .i64 n,stv nm,.slice ao ks.len cap] h X S;have KK:=gu B1;obtain⟨c0,c1,c2,c3⟩:=KK.out _ _ (as.refl I17 w1 o1);obtain⟨l1,-⟩:=E1.cl;have T1:=as.refl I17 w1 o1;clear B1 h X S;rw[dR];simp only;rw[hlf] at l1;have H1:=gM w1 o1 rb p0 p1 p2 p3 p4 s n kd m hz hm E1;clear KK E1 X1 SN1;rcases hk with ⟨rfl,rfl⟩|⟨rfl,rfl⟩
 all_goals
  first|rw[show ((1:Nat):Int)=1 from rfl] at H1|rw[show ((2:Nat):Int)=2 from rfl] at H1
  go_enter JH,Jz;go_upto_region 1 with fail;rw[<-hw1,<-HG.out];clear hw1;go_wp2_with fail;refine H1.mono ?_;rintro e w2 ⟨rfl,o2,E2,S2⟩;go_wp2
  go_end0
  exact⟨rfl,o2,E2,S0.trans S2⟩
theorem En (k n:Int)(nm:List UInt8)(a:Int)(ks:Fs)(ao:Option Hw)(cap ar:Nat)(w:G9)(o:Nat->Nat)(rb:Nat)(p0 p1 p2 p3 p4:He)(lv:List Int)(s:Dp)(m:Nat)(hk:k=3)(hlf:s.lg=false)(S:SnO w o ks ao)(hz:s.sz m)(hm:m+2<=100000000)(X:DX w o p4 lv)(h:DW w o rb p0 p1 p2 p3 p4 s) :
  Hn G5 34 #[pt0 rb,exN ⟨k,n,nm,a,ks⟩ ao cap,.int .i64 (ar:Nat)] w (fI w o rb p0 p1 p2 p3 p4 (((s.kI n).puts 2 (s.cs.idxOf n) 0).grows 1) (.tuple #[])):=by
 obtain⟨w1,o1,g,hw1,HG,B1,E1,X1,SN1,S0⟩:=gr #[.int .i64 k,.int .i64 n,stv nm,.slice ao ks.len cap] h X S;have KK:=gu B1;obtain⟨c0,c1,c2,c3⟩:=KK.out _ _ (as.refl I17 w1 o1);obtain⟨l1,-⟩:=E1.cl;have T1:=as.refl I17 w1 o1;clear B1 h X S;rw[dR];simp only;rw[hlf] at l1;subst hk;go_enter JH,Jz;go_upto_region 1 with fail;rw[<-hw1,<-HG.out];clear hw1;have H1:=k_c w1 o1 rb p0 p1 p2 p3 p4 s n (by have:=hz.c;omega) E1;go_wp2_with fail;refine H1.mono ?_;rintro e w2 ⟨rfl,o2,E2,S2⟩;have T2:=T1.trans S2;clear H1 S2;clear c0 c1 c2 c3;obtain⟨c0,c1,c2,c3⟩:=KK.out _ _ T2;have H2:=eE w2 o2 rb p0 p1 p2 p3 p4 (s.kI n) 2 (s.cs.idxOf n) 0 E2;go_wp2_with fail;refine H2.mono ?_;rintro e w3 ⟨rfl,o3,E3,S3⟩;have T3:=T2.trans S3;clear H2 S3;clear c0 c1 c2 c3;obtain⟨c0,c1,c2,c3⟩:=KK.out _ _ T3;have H3:=eO w3 o3 rb p0 p1 p2 p3 p4 ((s.kI n).puts 2 (s.cs.idxOf n) 0) (1) _ ((dV _ 2 (s.cs.idxOf n) 0).sz _ ((ow s n).sz m hz)) (by omega) (by omega) E3;go_wp2_with fail;refine H3.mono ?_;rintro e w4 ⟨rfl,o4,E4,S4⟩;have T4:=T3.trans S4;clear H3 S4;clear c0 c1 c2 c3;obtain⟨c0,c1,c2,c3⟩:=KK.out _ _ T4;go_wp2
 go_end0
 exact⟨rfl,o4,E4,S0.trans T4⟩
theorem Ew (k n:Int)(nm:List UInt8)(a:Int)(ks:Fs)(ao:Option Hw)(cap ar:Nat)(w:G9)(o:Nat->Nat)(rb:Nat)(p0 p1 p2 p3 p4:He)(lv:List Int)(s:Dp)(m:Nat)(hk:k=5)(hn:0<=n)(hlf:s.lg=false)(S:SnO w o ks ao)(hz:s.sz m)(hm:m+2<=100000000)(X:DX w o p4 lv)(h:DW w o rb p0 p1 p2 p3 p4 s) :
  Hn G5 34 #[pt0 rb,exN ⟨k,n,nm,a,ks⟩ ao cap,.int .i64 (ar:Nat)] w (fI w o rb p0 p1 p2 p3 p4 ((s.puts 3 n.toNat 0).grows 1) (.tuple #[])):=by
 obtain⟨n0,hn0⟩:∃n0:Nat,(n0:Int)=n:=⟨n.toNat,by omega⟩;subst hn0;rw[IE];obtain⟨w1,o1,g,hw1,HG,B1,E1,X1,SN1,S0⟩:=gr #[.int .i64 k,.int .i64 (n0:Nat),stv nm,.slice ao ks.len cap] h X S;have KK:=gu B1;obtain⟨c0,c1,c2,c3⟩:=KK.out _ _ (as.refl I17 w1 o1);obtain⟨l1,-⟩:=E1.cl;have T1:=as.refl I17 w1 o1;clear B1 h X S;rw[dR];simp only;rw[hlf] at l1;subst hk;go_enter JH,Jz;go_upto_region 1 with fail;rw[<-hw1,<-HG.out];clear hw1;have H1:=eE w1 o1 rb p0 p1 p2 p3 p4 (s) 3 n0 0 E1;go_wp2_with fail;refine H1.mono ?_;rintro e w2 ⟨rfl,o2,E2,S2⟩;have T2:=T1.trans S2;clear H1 S2;clear c0 c1 c2 c3;obtain⟨c0,c1,c2,c3⟩:=KK.out _ _ T2;have H2:=eO w2 o2 rb p0 p1 p2 p3 p4 (s.puts 3 n0 0) (1) _ ((dV s 3 n0 0).sz m hz) (by omega) (by omega) E2;go_wp2_with fail;refine H2.mono ?_;rintro e w3 ⟨rfl,o3,E3,S3⟩;have T3:=T2.trans S3;clear H2 S3;clear c0 c1 c2 c3;obtain⟨c0,c1,c2,c3⟩:=KK.out _ _ T3;go_wp2
 go_end0
 exact⟨rfl,o3,E3,S0.trans T3⟩
theorem Ai (k:Int)(hk:6<=k/\k<=12)(w:G9):Hn G5 67 #[.int .i64 k] w λe w'=>e=.returned (.tuple #[.int .i64 (jz k:Nat),.int .i64 (if k=6\/k=7 then 0 else 1)])/\w'=w:=by
 have hc:k=6\/k=7\/k=8\/k=9\/k=10\/k=11\/k=12:=by omega
 rcases hc with rfl|rfl|rfl|rfl|rfl|rfl|rfl
 all_goals
  go_enter Tryz.func67,Tryz.ntmps67;go_wp2;go_ret2;exact⟨rfl,rfl⟩
theorem kU (lv:List Int)(ks:Fs)(ar:Nat)(s:Dp):Dle (17*ks.size) s (fS (deF lv ks) ar s):=by
 obtain⟨-,c,hc,hk⟩:=oi _ ks (mC lv ks);exact(hk ar s).le (by omega)
theorem EV (K:Nat->Int)(nc N:Nat)(HP:iH K nc N)(k n:Int)(nm:List UInt8)(a:Int)(ks:Fs)(ao:Option Hw)(cap ar:Nat)(w:G9)(o:Nat->Nat)(rb:Nat)(p0 p1 p2 p3 p4:He)(lv:List Int)(s:Dp)(m:Nat)(hk:6<=k/\k<=12)(hN:ks.size<=N)(ho:okE nc ⟨k,n,nm,a,ks⟩)(hsk:skF K ks k 0)(hlv:lv.length=nc)(hnc:nc<=256)(har:ar+ks.size<=1000000)(hsz:ks.size<=100000)(S:SnO w o ks ao)(hks:s.ks.length=nc)(hz:s.sz m)(hm:m+(17*ks.size+16)<=100000000)(X:DX w o p4 lv)(h:DW w o rb p0 p1 p2 p3 p4 s)(hlf:s.lg=false) :
  Hn G5 34 #[pt0 rb,exN ⟨k,n,nm,a,ks⟩ ao cap,.int .i64 (ar:Nat)] w (fI w o rb p0 p1 p2 p3 p4 (((fS (deF lv ks) ar s).puts (jz k) 0 0).grows (if k=6\/k=7 then 0 else -1)) (.tuple #[])):=by
 have h21:k≠21:=by omega
 have hsim:=Ai k hk;obtain⟨q,hq⟩:∃q,q=jz k:=⟨_,rfl⟩;obtain⟨l,hl⟩:∃l:Int,l=if k=6\/k=7 then 0 else 1:=⟨_,rfl⟩;have hl1:(if k=6\/k=7 then 0 else -1)=-l:=by rw[hl];split<;>rfl
 have hl2:0<=l/\l<=1:=by rw[hl];split<;>omega
 rw[hl1,<-hq];rw[<-hq,<-hl] at hsim;clear hl1 hl hq;obtain⟨w1,o1,g,hw1,HG,B1,E1,X1,SN1,S0⟩:=gr #[.int .i64 k,.int .i64 n,stv nm,.slice ao ks.len cap] h X S;have KK:=gu B1;obtain⟨c0,c1,c2,c3⟩:=KK.out _ _ (as.refl I17 w1 o1);obtain⟨l1,-⟩:=E1.cl;have T1:=as.refl I17 w1 o1;clear B1 h X S;rw[dR];simp only;rw[hlf] at l1;have H1:=rF K nc N HP k n nm a ks ao cap ar w1 o1 rb p0 p1 p2 p3 p4 lv s m hN ho.2 h21 hsk hlv hnc har hsz (SN1.stepO T1 dZ) hks hz (by omega) (X1.step T1 dZ) E1;rw[dR] at H1;simp only at H1;have zA:=((kU lv ks ar s).sz m hz);generalize fS (deF lv ks) ar s=A at *;clear hsk ho HP SN1 X1 E1;have hc:k=6\/k=7\/k=8\/k=9\/k=10\/k=11\/k=12:=by omega
 clear hk h21;rcases hc with rfl|rfl|rfl|rfl|rfl|rfl|rfl
 all_goals
  go_enter JH,Jz;go_upto_region 1 with fail;rw[<-hw1,<-HG.out];clear hw1;go_wp2_with fail;refine H1.mono ?_;rintro e w2 ⟨rfl,o2,E2,S2⟩;clear H1 c0 c1 c2 c3;obtain⟨c0,c1,c2,c3⟩:=KK.out _ _ S2;have H2:=hsim w2;go_wp2_with fail;refine H2.mono ?_;rintro e w3 ⟨rfl,hw3⟩;subst hw3;clear H2 hsim;have H3:=eE w3 o2 rb p0 p1 p2 p3 p4 A q 0 0 E2;go_wp2_with fail;refine H3.mono ?_;rintro e w4 ⟨rfl,o4,E4,S4⟩;clear H3 c0 c1 c2 c3;have H4:=eO w4 o4 rb p0 p1 p2 p3 p4 _ (-l) _ ((dV A q 0 0).sz _ zA) (by omega) (by omega) E4;go_wp2_with fail;refine H4.mono ?_;rintro e w5 ⟨rfl,o5,E5,S5⟩;go_wp2
  go_end0
  exact⟨rfl,o5,E5,((S0.trans S2).trans S4).trans S5⟩
theorem Fk (K:Nat->Int)(nc N:Nat)(HP:iH K nc N)(k n:Int)(nm:List UInt8)(a:Int)(ks:Fs)(ao:Option Hw)(cap ar:Nat)(w:G9)(o:Nat->Nat)(rb:Nat)(p0 p1 p2 p3 p4:He)(lv:List Int)(s:Dp)(m:Nat)(hk:k=20)(hn:0<=n)(hN:ks.size<=N)(ho:okE nc ⟨k,n,nm,a,ks⟩)(hsk:skF K ks k 0)(hlv:lv.length=nc)(hnc:nc<=256)(har:ar+ks.size<=1000000)(hsz:ks.size<=100000)(S:SnO w o ks ao)(hks:s.ks.length=nc)(hz:s.sz m)(hm:m+(17*ks.size+16)<=100000000)(X:DX w o p4 lv)(h:DW w o rb p0 p1 p2 p3 p4 s)(hlf:s.lg=false) :
  Hn G5 34 #[pt0 rb,exN ⟨k,n,nm,a,ks⟩ ao cap,.int .i64 (ar:Nat)] w (fI w o rb p0 p1 p2 p3 p4 (((fS (deF lv ks) ar s).puts 16 n.toNat 0).grows (1-(ks.len:Int))) (.tuple #[])):=by
 have h21:k≠21:=by omega
 obtain⟨n0,hn0⟩:∃n0:Nat,(n0:Int)=n:=⟨n.toNat,by omega⟩;subst hn0;rw[IE];obtain⟨w1,o1,g,hw1,HG,B1,E1,X1,SN1,S0⟩:=gr #[.int .i64 k,.int .i64 (n0:Nat),stv nm,.slice ao ks.len cap] h X S;have KK:=gu B1;obtain⟨c0,c1,c2,c3⟩:=KK.out _ _ (as.refl I17 w1 o1);obtain⟨l1,-⟩:=E1.cl;have T1:=as.refl I17 w1 o1;clear B1 h X S;rw[dR];simp only;rw[hlf] at l1;have H1:=rF K nc N HP k n0 nm a ks ao cap ar w1 o1 rb p0 p1 p2 p3 p4 lv s m hN ho.2 h21 hsk hlv hnc har hsz (SN1.stepO T1 dZ) hks hz (by omega) (X1.step T1 dZ) E1;rw[dR] at H1;simp only at H1;have zA:=((kU lv ks ar s).sz m hz);have hlz:=i7 ks;generalize fS (deF lv ks) ar s=A at *;generalize ks.len=le at *;clear hsk ho HP SN1 X1 E1 h21;subst hk;go_enter JH,Jz;go_upto_region 1 with fail;rw[<-hw1,<-HG.out];clear hw1;go_wp2_with fail;refine H1.mono ?_;rintro e w2 ⟨rfl,o2,E2,S2⟩;clear H1 c0 c1 c2 c3;obtain⟨c0,c1,c2,c3⟩:=KK.out _ _ S2;have H3:=eE w2 o2 rb p0 p1 p2 p3 p4 A 16 n0 0 E2;go_wp2_with fail;refine H3.mono ?_;rintro e w4 ⟨rfl,o4,E4,S4⟩;clear H3 c0 c1 c2 c3;obtain⟨c0,c1,c2,c3⟩:=KK.out _ _ (S2.trans S4);have H4:=eO w4 o4 rb p0 p1 p2 p3 p4 _ (1-(le:Int)) _ ((dV A 16 n0 0).sz _ zA) (by omega) (by omega) E4;go_wp2_with fail;refine H4.mono ?_;rintro e w5 ⟨rfl,o5,E5,S5⟩;go_wp2
 go_end0
 exact⟨rfl,o5,E5,((S0.trans S2).trans S4).trans S5⟩
theorem Fy (K:Nat->Int)(nc N:Nat)(HP:iH K nc N)(k n:Int)(nm:List UInt8)(a:Int)(ks:Fs)(ao:Option Hw)(cap ar:Nat)(w:G9)(o:Nat->Nat)(rb:Nat)(p0 p1 p2 p3 p4:He)(lv:List Int)(s:Dp)(m:Nat)(hk:13<=k/\k<=16)(hN:ks.size<=N)(ho:okE nc ⟨k,n,nm,a,ks⟩)(hsk:skF K ks k 0)(hlv:lv.length=nc)(hnc:nc<=256)(har:ar+ks.size<=1000000)(hsz:ks.size<=100000)(S:SnO w o ks ao)(hks:s.ks.length=nc)(hz:s.sz m)(hm:m+(17*ks.size+16)<=100000000)(X:DX w o p4 lv)(h:DW w o rb p0 p1 p2 p3 p4 s) :
  Hn G5 68 #[pt0 rb,exN ⟨k,n,nm,a,ks⟩ ao cap,.int .i64 (ar:Nat)] w (fI w o rb p0 p1 p2 p3 p4 ((yF k (kdF ks) (fS (deF lv ks) ar s)).grows (-1)) (.tuple #[])):=by
 have h21:k≠21:=by omega
 have hl2:ks.len=2:=(pt ho.1.1).2.1 (by simp only;omega) (by simp only;omega);obtain⟨x,y,hxy⟩:=iz hl2;obtain⟨w1,o1,g,hw1,HG,B1,E1,X1,SN1,S0⟩:=gr #[.int .i64 k,.int .i64 n,stv nm,.slice ao ks.len cap] h X S;have KK:=gu B1;obtain⟨c0,c1,c2,c3⟩:=KK.out _ _ (as.refl I17 w1 o1);obtain⟨l1,-⟩:=E1.cl;have T1:=as.refl I17 w1 o1;clear B1 h X S;rw[dR];simp only;have H1:=rF K nc N HP k n nm a ks ao cap ar w1 o1 rb p0 p1 p2 p3 p4 lv s m hN ho.2 h21 hsk hlv hnc har hsz (SN1.stepO T1 dZ) hks hz (by omega) (X1.step T1 dZ) E1;rw[dR] at H1;simp only at H1;have zA:=((kU lv ks ar s).sz m hz);have zC:=(vC k (kdF ks) (fS (deF lv ks) ar s)).sz _ zA;generalize fS (deF lv ks) ar s=A at *;have SN1':=SN1;rw[hxy] at SN1';obtain⟨b,off,ak,ck,hao,NN,Sy,NK⟩:=ij (x:=.nil) SN1' 0 rfl;have hkd:(kdF ks).getD 0 0=kdE x:=by rw[hxy];rfl
 have hx:okE nc x/\x.kids.size<N+1:=⟨by have:=ho.2;simp only at this;rw[hxy] at this;exact(et this).1,by rw[hxy,eG] at hN;omega⟩;have hsx:skE K x:=by rw[hxy] at hsk;exact kW h21 hsk
 have hkb:=lN hx.1;have HQ:∀ w' o',as I17 w1 o1 w' o'->_:=λw' o' T=>vV K nc (N+1) x ak ck w' hx.2 hx.1 hsx (Sy.stepO T dZ).all;obtain⟨kx,hkx⟩:∃kx:Nat,(kx:Int)=kdE x:=⟨(kdE x).toNat,by omega⟩;have ekx:((kdF ks).getD 0 0).toNat=kx:=by rw[hkd,<-hkx,IE]
 unfold yF at zC ⊢;rw[ekx] at zC ⊢;rw[<-hkx] at HQ;have hc:k=13\/k=14\/k=15\/k=16:=by omega
 subst hao;rw[hl2] at hw1 H1 KK c3 ⊢;clear hk h21 hkd ekx hkx hkb hx hsx hsk ho HP SN1 X1 E1 hxy SN1' Sy NN;rcases hc with rfl|rfl|rfl|rfl
 ·go_enter Tryz.func68,Tryz.ntmps68;go_upto_region 1 with fail;rw[<-hw1,<-HG.out];clear hw1;go_wp2_with fail;refine H1.mono ?_;rintro e w2 ⟨rfl,o2,E2,S2⟩;clear H1 c0 c1 c2 c3;obtain⟨c0,c1,c2,c3⟩:=KK.out _ _ S2;obtain⟨x0,x1,x2,x3⟩:Nd4 w2 b off x ak ck:=NK S2 dZ;have H2:=HQ _ _ S2;rw[dR] at H2;go_wp2_with fail;refine H2.mono ?_;rintro e w3 ⟨rfl,B3⟩;have E3:=E2.step (as.ofBelow (I:=λ_=>False) o2 B3) noF;have S3:=S2.trans (as.ofBelow (I:=I17) o2 B3);clear H2 HQ c0 c1 c2 c3 x0 x1 x2 x3 KK;have H3:=eE w3 o2 rb p0 p1 p2 p3 p4 A 11 0 kx E3;go_wp2_with fail;refine H3.mono ?_;rintro e w4 ⟨rfl,o4,E4,S4⟩;clear H3;have H4:=eO w4 o4 rb p0 p1 p2 p3 p4 _ (-1) _ zC (by omega) (by omega) E4;go_wp2_with fail;refine H4.mono ?_;rintro e w5 ⟨rfl,o5,E5,S5⟩;go_wp2
  go_end0
  exact⟨rfl,o5,E5,((S0.trans S3).trans S4).trans S5⟩
 ·go_enter Tryz.func68,Tryz.ntmps68;go_upto_region 1 with fail;rw[<-hw1,<-HG.out];clear hw1;go_wp2_with fail;refine H1.mono ?_;rintro e w2 ⟨rfl,o2,E2,S2⟩;clear H1 c0 c1 c2 c3;obtain⟨c0,c1,c2,c3⟩:=KK.out _ _ S2;obtain⟨x0,x1,x2,x3⟩:Nd4 w2 b off x ak ck:=NK S2 dZ;have H2:=HQ _ _ S2;rw[dR] at H2;go_wp2_with fail;refine H2.mono ?_;rintro e w3 ⟨rfl,B3⟩;have E3:=E2.step (as.ofBelow (I:=λ_=>False) o2 B3) noF;have S3:=S2.trans (as.ofBelow (I:=I17) o2 B3);clear H2 HQ c0 c1 c2 c3 x0 x1 x2 x3 KK;have H3:=eE w3 o2 rb p0 p1 p2 p3 p4 A 11 0 kx E3;go_wp2_with fail;refine H3.mono ?_;rintro e w4 ⟨rfl,o4,E4,S4⟩;clear H3;have H5:=eE w4 o4 rb p0 p1 p2 p3 p4 _ 5 0 0 E4;go_wp2_with fail;refine H5.mono ?_;rintro e w6 ⟨rfl,o6,E6,S6⟩;clear H5;have H4:=eO w6 o6 rb p0 p1 p2 p3 p4 _ (-1) _ zC (by omega) (by omega) E6;go_wp2_with fail;refine H4.mono ?_;rintro e w5 ⟨rfl,o5,E5,S5⟩;go_wp2
  go_end0
  exact⟨rfl,o5,E5,(((S0.trans S3).trans S4).trans S6).trans S5⟩
 ·go_enter Tryz.func68,Tryz.ntmps68;go_upto_region 1 with fail;rw[<-hw1,<-HG.out];clear hw1;go_wp2_with fail;refine H1.mono ?_;rintro e w2 ⟨rfl,o2,E2,S2⟩;clear H1 c0 c1 c2 c3;obtain⟨c0,c1,c2,c3⟩:=KK.out _ _ S2;have H3:=eE w2 o2 rb p0 p1 p2 p3 p4 A 12 0 0 E2;go_wp2_with fail;refine H3.mono ?_;rintro e w4 ⟨rfl,o4,E4,S4⟩;clear H3;have H4:=eO w4 o4 rb p0 p1 p2 p3 p4 _ (-1) _ zC (by omega) (by omega) E4;go_wp2_with fail;refine H4.mono ?_;rintro e w5 ⟨rfl,o5,E5,S5⟩;go_wp2
  go_end0
  exact⟨rfl,o5,E5,((S0.trans S2).trans S4).trans S5⟩
 ·go_enter Tryz.func68,Tryz.ntmps68;go_upto_region 1 with fail;rw[<-hw1,<-HG.out];clear hw1;go_wp2_with fail;refine H1.mono ?_;rintro e w2 ⟨rfl,o2,E2,S2⟩;clear H1 c0 c1 c2 c3;obtain⟨c0,c1,c2,c3⟩:=KK.out _ _ S2;have H3:=eE w2 o2 rb p0 p1 p2 p3 p4 A 12 0 1 E2;go_wp2_with fail;refine H3.mono ?_;rintro e w4 ⟨rfl,o4,E4,S4⟩;clear H3;have H4:=eO w4 o4 rb p0 p1 p2 p3 p4 _ (-1) _ zC (by omega) (by omega) E4;go_wp2_with fail;refine H4.mono ?_;rintro e w5 ⟨rfl,o5,E5,S5⟩;go_wp2
  go_end0
  exact⟨rfl,o5,E5,((S0.trans S2).trans S4).trans S5⟩
abbrev Nd8 (w:G9)(b j:Nat)(y:Ex)(ak:Option Hw)(ck:Nat):Prop:=w.cell? ⟨b,j+4,G0⟩=G1 (.int .i64 y.k)/\w.cell? ⟨b,j+5,G0⟩=G1 (.int .i64 y.n)/\w.cell? ⟨b,j+6,G0⟩=G1 (stv y.nm)/\w.cell? ⟨b,j+7,G0⟩=G1 (.slice ak y.kids.len ck)
abbrev NdC (w:G9)(b j:Nat)(y:Ex)(ak:Option Hw)(ck:Nat):Prop:=w.cell? ⟨b,j+8,G0⟩=G1 (.int .i64 y.k)/\w.cell? ⟨b,j+9,G0⟩=G1 (.int .i64 y.n)/\w.cell? ⟨b,j+10,G0⟩=G1 (stv y.nm)/\w.cell? ⟨b,j+11,G0⟩=G1 (.slice ak y.kids.len ck)
theorem ig {A B:Dp}{op a b c:Nat}(h:Dle c (A.puts op a b) B)(hl:B.lg=false):A.at1<B.ws.length:=by
 have hw:=h.w2;unfold Dp.at1;by_cases h1:32768<=A.ws.length
 ·have:(A.puts op a b).lg=true:=by unfold Dp.puts;rw[if_pos h1]
  rw[h.lg this] at hl;cases hl
 ·rw[if_neg h1];unfold Dp.puts at hw;rw[if_neg h1] at hw;simp at hw;omega
def chA (op:Nat)(A:Dp):Dp:=(A.puts op 0 0).grows (-1)
theorem jR (op:Nat)(A:Dp):Dle 1 (A.puts op 0 0) (chA op A):=eA _ (-1) 1 (by omega) (by omega)
theorem kT (op:Nat)(A:Dp):Dle 1 A (chA op A):=((dV A op 0 0).trans (jR op A)).le (by omega)
theorem Ba (K:Nat->Int)(nc N:Nat)(HP:iH K nc N)(n:Int)(nm:List UInt8)(a:Int)(x y:Ex)(ao:Option Hw)(cap ar:Nat)(w:G9)(o:Nat->Nat)(rb:Nat)(p0 p1 p2 p3 p4:He)(lv:List Int)(s:Dp)(m:Nat)(hN:(Fs.ex x (Fs.ex y .nil)).size<=N)(ho:okE nc ⟨17,n,nm,a,(Fs.ex x (Fs.ex y .nil))⟩)(hsk:skF K (Fs.ex x (Fs.ex y .nil)) 17 0)(hlv:lv.length=nc)(hnc:nc<=256)(har:ar+(Fs.ex x (Fs.ex y .nil)).size<=1000000)(hsz:(Fs.ex x (Fs.ex y .nil)).size<=100000)(S:SnO w o (Fs.ex x (Fs.ex y .nil)) ao)(hks:s.ks.length=nc)(hz:s.sz m)(hm:m+(17*(Fs.ex x (Fs.ex y .nil)).size+16)<=100000000)(X:DX w o p4 lv)(h:DW w o rb p0 p1 p2 p3 p4 s) :
  Hn G5 71 #[pt0 rb,exN ⟨17,n,nm,a,(Fs.ex x (Fs.ex y .nil))⟩ ao cap,.int .i64 (ar:Nat)] w (fI w o rb p0 p1 p2 p3 p4 ((((chA 13 (deE lv y ar (chA 14 (deE lv x ar s)))).lands (deE lv x ar s).at1).val 0 2).lands (deE lv y ar (chA 14 (deE lv x ar s))).at1) (.tuple #[])):=by
 have hok:=ho.2;simp only at hok;have ox:=(et hok).1;have oy:=(et (et hok).2).1;have sx:skE K x:=kW (by omega) hsk;have sy:skE K y:=nQ (by omega) hsk;simp only[eG,Fs.size] at hN har hsz hm;obtain⟨w1,o1,g,hw1,HG,B1,E1,X1,SN1,S0⟩:=gr #[.int .i64 17,.int .i64 n,stv nm,.slice ao (Fs.ex x (Fs.ex y .nil)).len cap] h X S;have KK:=gu B1;obtain⟨c0,c1,c2,c3⟩:=KK.out _ _ (as.refl I17 w1 o1);obtain⟨l1,-⟩:=E1.cl;have T1:=as.refl I17 w1 o1;clear B1 h X S;rw[dR];simp only;obtain⟨b,off,ak,ck,hao,NN,Sx,NK⟩:=ij (x:=.nil) SN1 0 rfl;obtain⟨b1,off1,ak1,ck1,hao1,NN1,Sy,NK1⟩:=ij (x:=one x) SN1 1 rfl;subst hao;injection hao1 with hao1
 injection hao1 with e1 e2
 subst e1 e2;have hlen:(Fs.ex x (Fs.ex y .nil)).len=2:=rfl;rw[hlen] at hw1 KK c3 ⊢;obtain⟨x0,x1,x2,x3⟩:Nd4 w1 b off x ak ck:=NN;have H1:=HP x ak ck ar w1 o1 rb p0 p1 p2 p3 p4 lv s m (by omega) ox sx hlv hnc (by omega) (by omega) Sx hks hz (by omega) X1 E1;rw[dR] at H1;have dA:=fj lv x ar s;generalize deE lv x ar s=A at *;have zA:=dA.sz m hz;have dB:=jR 14 A;have zP:=(dV A 14 0 0).sz _ zA;have zB:=dB.sz _ zP;have kB:(chA 14 A).ks.length=nc:=((kT 14 A).ks.trans dA.ks).trans hks;have HB:∀ wx ox',DW wx ox' rb p0 p1 p2 p3 p4 (A.puts 14 0 0)->Hn G5 65 #[.pointer (G1 ⟨rb,0,G0⟩),.int .i64 (-1)] wx (fI wx ox' rb p0 p1 p2 p3 p4 (chA 14 A) (.tuple #[])):=λwx ox' E=>eO wx ox' rb p0 p1 p2 p3 p4 _ (-1) _ zP (by omega) (by omega) E;generalize hB:chA 14 A=B at *;have dC:=fj lv y ar B;have H4:∀ wx ox',as I17 w1 o1 wx ox'->DW wx ox' rb p0 p1 p2 p3 p4 B->_:=λwx ox' T E=>HP y ak1 ck1 ar wx ox' rb p0 p1 p2 p3 p4 lv B _ (by omega) oy sy hlv hnc (by omega) (by omega) (Sy.stepO T dZ) kB zB (by omega) (X1.step T dZ) E;simp only[dR] at H4;generalize deE lv y ar B=C at *;have zC:=dC.sz _ zB;have zQ:=(dV C 13 0 0).sz _ zC;have dD:=jR 13 C;have HD:∀ wx ox',DW wx ox' rb p0 p1 p2 p3 p4 (C.puts 13 0 0)->Hn G5 65 #[.pointer (G1 ⟨rb,0,G0⟩),.int .i64 (-1)] wx (fI wx ox' rb p0 p1 p2 p3 p4 (chA 13 C) (.tuple #[])):=λwx ox' E=>eO wx ox' rb p0 p1 p2 p3 p4 _ (-1) _ zQ (by omega) (by omega) E;have zD:=dD.sz _ zQ;have lD:(chA 13 C).lg=false->A.at1<(chA 13 C).ws.length:=ig ((dB.trans dC).trans ((dV C 13 0 0).trans dD));have kD:(chA 13 C).ks.length=nc:=((((kT 13 C).ks).trans dC.ks).trans kB);generalize chA 13 C=D at *;have zE:=(eJ D A.at1).sz _ zD;have dE:=dD.trans (eJ D A.at1);have lF:((D.lands A.at1).val 0 2).lg=false->C.at1<((D.lands A.at1).val 0 2).ws.length:=ig (dE.trans (fi _ _ _));generalize hat:A.at1=iA at *;generalize hct:C.at1=iC at *;have hP:=λwx ox' E=>eE wx ox' rb p0 p1 p2 p3 p4 A 14 0 0 E;have hQ:=λwx ox' E=>eE wx ox' rb p0 p1 p2 p3 p4 C 13 0 0 E;rw[hat] at hP;rw[hct] at hQ;clear hsk ho hok HP SN1 X1 E1 hat hct hB dA dB dC dD dE zA zP zB zC zQ ox oy sx sy Sx Sy l1 NN1 hlen hN har hsz hks hz;go_enter Tryz.func71,Tryz.ntmps71;go_upto_region 1 with fail;rw[<-hw1,<-HG.out];clear hw1;go_wp2_with fail;refine H1.mono ?_;rintro e w2 ⟨rfl,o2,E2,S2⟩;have T2:=T1.trans S2;clear S2 c0 c1 c2 c3 x0 x1 x2 x3 H1;obtain⟨c0,c1,c2,c3⟩:=KK.out _ _ T2;go_wp2_with fail;refine(hP w2 o2 E2).mono ?_;rintro e w3 ⟨rfl,o3,E3,S3⟩;have T3:=T2.trans S3;clear S3 c0 c1 c2 c3;obtain⟨c0,c1,c2,c3⟩:=KK.out _ _ T3;go_wp2_with fail;refine(HB w3 o3 E3).mono ?_;rintro e w4 ⟨rfl,o4,E4,S4⟩;have T4:=T3.trans S4;clear S4 c0 c1 c2 c3;obtain⟨c0,c1,c2,c3⟩:=KK.out _ _ T4;obtain⟨x0,x1,x2,x3⟩:Nd8 w4 b off y ak1 ck1:=NK1 T4 dZ;have H5:=H4 w4 o4 T4 E4;go_wp2_with fail;refine H5.mono ?_;rintro e w5 ⟨rfl,o5,E5,S5⟩;have T5:=T4.trans S5;clear S5 c0 c1 c2 c3 x0 x1 x2 x3 H5 H4;obtain⟨c0,c1,c2,c3⟩:=KK.out _ _ T5;go_wp2_with fail;refine(hQ w5 o5 E5).mono ?_;rintro e w6 ⟨rfl,o6,E6,S6⟩;have T6:=T5.trans S6;clear S6 c0 c1 c2 c3;obtain⟨c0,c1,c2,c3⟩:=KK.out _ _ T6;go_wp2_with fail;refine(HD w6 o6 E6).mono ?_;rintro e w7 ⟨rfl,o7,E7,S7⟩;have T7:=T6.trans S7;clear S7 c0 c1 c2 c3;obtain⟨c0,c1,c2,c3⟩:=KK.out _ _ T7;have H7:=f7 w7 o7 rb p0 p1 p2 p3 p4 D iA lD E7;go_wp2_with fail;refine H7.mono ?_;rintro e w8 ⟨rfl,o8,E8,S8⟩;have T8:=T7.trans S8;clear S8 c0 c1 c2 c3 H7;obtain⟨c0,c1,c2,c3⟩:=KK.out _ _ T8;have H8:=gM w8 o8 rb p0 p1 p2 p3 p4 (D.lands iA) 0 2 _ zE (by omega) E8;go_wp2_with fail;refine H8.mono ?_;rintro e w9 ⟨rfl,o9,E9,S9⟩;have T9:=T8.trans S9;clear S9 c0 c1 c2 c3 H8;obtain⟨c0,c1,c2,c3⟩:=KK.out _ _ T9;have H10:=f7 w9 o9 rb p0 p1 p2 p3 p4 _ iC lF E9;go_wp2_with fail;refine H10.mono ?_;rintro e w10 ⟨rfl,o10,E10,S10⟩;have T10:=T9.trans S10;clear S10 c0 c1 c2 c3 H10;obtain⟨c0,c1,c2,c3⟩:=KK.out _ _ T10;go_wp2
 go_end0
 exact⟨rfl,o10,E10,S0.trans T10⟩
theorem zO (K:Nat->Int)(nc N:Nat)(HP:iH K nc N)(n:Int)(nm:List UInt8)(a:Int)(x y:Ex)(ao:Option Hw)(cap ar:Nat)(w:G9)(o:Nat->Nat)(rb:Nat)(p0 p1 p2 p3 p4:He)(lv:List Int)(s:Dp)(m:Nat)(hN:(Fs.ex x (Fs.ex y .nil)).size<=N)(ho:okE nc ⟨18,n,nm,a,(Fs.ex x (Fs.ex y .nil))⟩)(hsk:skF K (Fs.ex x (Fs.ex y .nil)) 18 0)(hlv:lv.length=nc)(hnc:nc<=256)(har:ar+(Fs.ex x (Fs.ex y .nil)).size<=1000000)(hsz:(Fs.ex x (Fs.ex y .nil)).size<=100000)(S:SnO w o (Fs.ex x (Fs.ex y .nil)) ao)(hks:s.ks.length=nc)(hz:s.sz m)(hm:m+(17*(Fs.ex x (Fs.ex y .nil)).size+16)<=100000000)(X:DX w o p4 lv)(h:DW w o rb p0 p1 p2 p3 p4 s) :
  Hn G5 71 #[pt0 rb,exN ⟨18,n,nm,a,(Fs.ex x (Fs.ex y .nil))⟩ ao cap,.int .i64 (ar:Nat)] w (fI w o rb p0 p1 p2 p3 p4 ((((chA 13 (deE lv y ar (chA 15 (deE lv x ar s)))).lands (deE lv x ar s).at1).val 1 2).lands (deE lv y ar (chA 15 (deE lv x ar s))).at1) (.tuple #[])):=by
 have hok:=ho.2;simp only at hok;have ox:=(et hok).1;have oy:=(et (et hok).2).1;have sx:skE K x:=kW (by omega) hsk;have sy:skE K y:=nQ (by omega) hsk;simp only[eG,Fs.size] at hN har hsz hm;obtain⟨w1,o1,g,hw1,HG,B1,E1,X1,SN1,S0⟩:=gr #[.int .i64 18,.int .i64 n,stv nm,.slice ao (Fs.ex x (Fs.ex y .nil)).len cap] h X S;have KK:=gu B1;obtain⟨c0,c1,c2,c3⟩:=KK.out _ _ (as.refl I17 w1 o1);obtain⟨l1,-⟩:=E1.cl;have T1:=as.refl I17 w1 o1;clear B1 h X S;rw[dR];simp only;obtain⟨b,off,ak,ck,hao,NN,Sx,NK⟩:=ij (x:=.nil) SN1 0 rfl;obtain⟨b1,off1,ak1,ck1,hao1,NN1,Sy,NK1⟩:=ij (x:=one x) SN1 1 rfl;subst hao;injection hao1 with hao1
 injection hao1 with e1 e2
 subst e1 e2;have hlen:(Fs.ex x (Fs.ex y .nil)).len=2:=rfl;rw[hlen] at hw1 KK c3 ⊢;obtain⟨x0,x1,x2,x3⟩:Nd4 w1 b off x ak ck:=NN;have H1:=HP x ak ck ar w1 o1 rb p0 p1 p2 p3 p4 lv s m (by omega) ox sx hlv hnc (by omega) (by omega) Sx hks hz (by omega) X1 E1;rw[dR] at H1;have dA:=fj lv x ar s;generalize deE lv x ar s=A at *;have zA:=dA.sz m hz;have dB:=jR 15 A;have zP:=(dV A 15 0 0).sz _ zA;have zB:=dB.sz _ zP;have kB:(chA 15 A).ks.length=nc:=((kT 15 A).ks.trans dA.ks).trans hks;have HB:∀ wx ox',DW wx ox' rb p0 p1 p2 p3 p4 (A.puts 15 0 0)->Hn G5 65 #[.pointer (G1 ⟨rb,0,G0⟩),.int .i64 (-1)] wx (fI wx ox' rb p0 p1 p2 p3 p4 (chA 15 A) (.tuple #[])):=λwx ox' E=>eO wx ox' rb p0 p1 p2 p3 p4 _ (-1) _ zP (by omega) (by omega) E;generalize hB:chA 15 A=B at *;have dC:=fj lv y ar B;have H4:∀ wx ox',as I17 w1 o1 wx ox'->DW wx ox' rb p0 p1 p2 p3 p4 B->_:=λwx ox' T E=>HP y ak1 ck1 ar wx ox' rb p0 p1 p2 p3 p4 lv B _ (by omega) oy sy hlv hnc (by omega) (by omega) (Sy.stepO T dZ) kB zB (by omega) (X1.step T dZ) E;simp only[dR] at H4;generalize deE lv y ar B=C at *;have zC:=dC.sz _ zB;have zQ:=(dV C 13 0 0).sz _ zC;have dD:=jR 13 C;have HD:∀ wx ox',DW wx ox' rb p0 p1 p2 p3 p4 (C.puts 13 0 0)->Hn G5 65 #[.pointer (G1 ⟨rb,0,G0⟩),.int .i64 (-1)] wx (fI wx ox' rb p0 p1 p2 p3 p4 (chA 13 C) (.tuple #[])):=λwx ox' E=>eO wx ox' rb p0 p1 p2 p3 p4 _ (-1) _ zQ (by omega) (by omega) E;have zD:=dD.sz _ zQ;have lD:(chA 13 C).lg=false->A.at1<(chA 13 C).ws.length:=ig ((dB.trans dC).trans ((dV C 13 0 0).trans dD));have kD:(chA 13 C).ks.length=nc:=((((kT 13 C).ks).trans dC.ks).trans kB);generalize chA 13 C=D at *;have zE:=(eJ D A.at1).sz _ zD;have dE:=dD.trans (eJ D A.at1);have lF:((D.lands A.at1).val 1 2).lg=false->C.at1<((D.lands A.at1).val 1 2).ws.length:=ig (dE.trans (fi _ _ _));generalize hat:A.at1=iA at *;generalize hct:C.at1=iC at *;have hP:=λwx ox' E=>eE wx ox' rb p0 p1 p2 p3 p4 A 15 0 0 E;have hQ:=λwx ox' E=>eE wx ox' rb p0 p1 p2 p3 p4 C 13 0 0 E;rw[hat] at hP;rw[hct] at hQ;clear hsk ho hok HP SN1 X1 E1 hat hct hB dA dB dC dD dE zA zP zB zC zQ ox oy sx sy Sx Sy l1 NN1 hlen hN har hsz hks hz;go_enter Tryz.func71,Tryz.ntmps71;go_upto_region 1 with fail;rw[<-hw1,<-HG.out];clear hw1;go_wp2_with fail;refine H1.mono ?_;rintro e w2 ⟨rfl,o2,E2,S2⟩;have T2:=T1.trans S2;clear S2 c0 c1 c2 c3 x0 x1 x2 x3 H1;obtain⟨c0,c1,c2,c3⟩:=KK.out _ _ T2;go_wp2_with fail;refine(hP w2 o2 E2).mono ?_;rintro e w3 ⟨rfl,o3,E3,S3⟩;have T3:=T2.trans S3;clear S3 c0 c1 c2 c3;obtain⟨c0,c1,c2,c3⟩:=KK.out _ _ T3;go_wp2_with fail;refine(HB w3 o3 E3).mono ?_;rintro e w4 ⟨rfl,o4,E4,S4⟩;have T4:=T3.trans S4;clear S4 c0 c1 c2 c3;obtain⟨c0,c1,c2,c3⟩:=KK.out _ _ T4;obtain⟨x0,x1,x2,x3⟩:Nd8 w4 b off y ak1 ck1:=NK1 T4 dZ;have H5:=H4 w4 o4 T4 E4;go_wp2_with fail;refine H5.mono ?_;rintro e w5 ⟨rfl,o5,E5,S5⟩;have T5:=T4.trans S5;clear S5 c0 c1 c2 c3 x0 x1 x2 x3 H5 H4;obtain⟨c0,c1,c2,c3⟩:=KK.out _ _ T5;go_wp2_with fail;refine(hQ w5 o5 E5).mono ?_;rintro e w6 ⟨rfl,o6,E6,S6⟩;have T6:=T5.trans S6;clear S6 c0 c1 c2 c3;obtain⟨c0,c1,c2,c3⟩:=KK.out _ _ T6;go_wp2_with fail;refine(HD w6 o6 E6).mono ?_;rintro e w7 ⟨rfl,o7,E7,S7⟩;have T7:=T6.trans S7;clear S7 c0 c1 c2 c3;obtain⟨c0,c1,c2,c3⟩:=KK.out _ _ T7;have H7:=f7 w7 o7 rb p0 p1 p2 p3 p4 D iA lD E7;go_wp2_with fail;refine H7.mono ?_;rintro e w8 ⟨rfl,o8,E8,S8⟩;have T8:=T7.trans S8;clear S8 c0 c1 c2 c3 H7;obtain⟨c0,c1,c2,c3⟩:=KK.out _ _ T8;have H8:=gM w8 o8 rb p0 p1 p2 p3 p4 (D.lands iA) 1 2 _ zE (by omega) E8;go_wp2_with fail;refine H8.mono ?_;rintro e w9 ⟨rfl,o9,E9,S9⟩;have T9:=T8.trans S9;clear S9 c0 c1 c2 c3 H8;obtain⟨c0,c1,c2,c3⟩:=KK.out _ _ T9;have H10:=f7 w9 o9 rb p0 p1 p2 p3 p4 _ iC lF E9;go_wp2_with fail;refine H10.mono ?_;rintro e w10 ⟨rfl,o10,E10,S10⟩;have T10:=T9.trans S10;clear S10 c0 c1 c2 c3 H10;obtain⟨c0,c1,c2,c3⟩:=KK.out _ _ T10;go_wp2
 go_end0
 exact⟨rfl,o10,E10,S0.trans T10⟩
theorem Bn (K:Nat->Int)(nc N:Nat)(HP:iH K nc N)(n:Int)(nm:List UInt8)(a:Int)(x y z:Ex)(ao:Option Hw)(cap ar:Nat)(w:G9)(o:Nat->Nat)(rb:Nat)(p0 p1 p2 p3 p4:He)(lv:List Int)(s:Dp)(m:Nat)(hN:(Fs.ex x (Fs.ex y (Fs.ex z .nil))).size<=N)(ho:okE nc ⟨19,n,nm,a,(Fs.ex x (Fs.ex y (Fs.ex z .nil)))⟩)(hsk:skF K (Fs.ex x (Fs.ex y (Fs.ex z .nil))) 19 0)(hlv:lv.length=nc)(hnc:nc<=256)(har:ar+(Fs.ex x (Fs.ex y (Fs.ex z .nil))).size<=1000000)(hsz:(Fs.ex x (Fs.ex y (Fs.ex z .nil))).size<=100000)(S:SnO w o (Fs.ex x (Fs.ex y (Fs.ex z .nil))) ao)(hks:s.ks.length=nc)(hz:s.sz m)(hm:m+(17*(Fs.ex x (Fs.ex y (Fs.ex z .nil))).size+16)<=100000000)(X:DX w o p4 lv)(h:DW w o rb p0 p1 p2 p3 p4 s) :
  Hn G5 71 #[pt0 rb,exN ⟨19,n,nm,a,(Fs.ex x (Fs.ex y (Fs.ex z .nil)))⟩ ao cap,.int .i64 (ar:Nat)] w (fI w o rb p0 p1 p2 p3 p4 (((deE lv z ar ((chA 13 (deE lv y ar (chA 14 (deE lv x ar s)))).lands (deE lv x ar s).at1))).lands (deE lv y ar (chA 14 (deE lv x ar s))).at1) (.tuple #[])):=by
 have hok:=ho.2;simp only at hok;have ox:=(et hok).1;have oy:=(et (et hok).2).1;have sx:skE K x:=kW (by omega) hsk;have sy:skE K y:=nQ (by omega) hsk;have oz:=(et (et (et hok).2).2).1;have sz':skE K z:=⟨λhs=>absurd (hsk.2.2.2.2.2.2.1.1 hs).1 (by omega),hsk.2.2.2.2.2.2.2.1,hsk.2.2.2.2.2.2.2.2.1⟩;simp only[eG,Fs.size] at hN har hsz hm;obtain⟨w1,o1,g,hw1,HG,B1,E1,X1,SN1,S0⟩:=gr #[.int .i64 19,.int .i64 n,stv nm,.slice ao (Fs.ex x (Fs.ex y (Fs.ex z .nil))).len cap] h X S;have KK:=gu B1;obtain⟨c0,c1,c2,c3⟩:=KK.out _ _ (as.refl I17 w1 o1);obtain⟨l1,-⟩:=E1.cl;have T1:=as.refl I17 w1 o1;clear B1 h X S;rw[dR];simp only;obtain⟨b,off,ak,ck,hao,NN,Sx,NK⟩:=ij (x:=.nil) SN1 0 rfl;obtain⟨b1,off1,ak1,ck1,hao1,NN1,Sy,NK1⟩:=ij (x:=one x) SN1 1 rfl;obtain⟨b2,off2,ak2,ck2,hao2,NN2,Sz,NK2⟩:=ij (x:=Fs.ex x (one y)) SN1 2 rfl;subst hao;injection hao1 with hao1
 injection hao1 with e1 e2
 subst e1 e2;injection hao2 with hao2
 injection hao2 with e1 e2
 subst e1 e2;have hlen:(Fs.ex x (Fs.ex y (Fs.ex z .nil))).len=3:=rfl;rw[hlen] at hw1 KK c3 ⊢;obtain⟨x0,x1,x2,x3⟩:Nd4 w1 b off x ak ck:=NN;have H1:=HP x ak ck ar w1 o1 rb p0 p1 p2 p3 p4 lv s m (by omega) ox sx hlv hnc (by omega) (by omega) Sx hks hz (by omega) X1 E1;rw[dR] at H1;have dA:=fj lv x ar s;generalize deE lv x ar s=A at *;have zA:=dA.sz m hz;have dB:=jR 14 A;have zP:=(dV A 14 0 0).sz _ zA;have zB:=dB.sz _ zP;have kB:(chA 14 A).ks.length=nc:=((kT 14 A).ks.trans dA.ks).trans hks;have HB:∀ wx ox',DW wx ox' rb p0 p1 p2 p3 p4 (A.puts 14 0 0)->Hn G5 65 #[.pointer (G1 ⟨rb,0,G0⟩),.int .i64 (-1)] wx (fI wx ox' rb p0 p1 p2 p3 p4 (chA 14 A) (.tuple #[])):=λwx ox' E=>eO wx ox' rb p0 p1 p2 p3 p4 _ (-1) _ zP (by omega) (by omega) E;generalize hB:chA 14 A=B at *;have dC:=fj lv y ar B;have H4:∀ wx ox',as I17 w1 o1 wx ox'->DW wx ox' rb p0 p1 p2 p3 p4 B->_:=λwx ox' T E=>HP y ak1 ck1 ar wx ox' rb p0 p1 p2 p3 p4 lv B _ (by omega) oy sy hlv hnc (by omega) (by omega) (Sy.stepO T dZ) kB zB (by omega) (X1.step T dZ) E;simp only[dR] at H4;generalize deE lv y ar B=C at *;have zC:=dC.sz _ zB;have zQ:=(dV C 13 0 0).sz _ zC;have dD:=jR 13 C;have HD:∀ wx ox',DW wx ox' rb p0 p1 p2 p3 p4 (C.puts 13 0 0)->Hn G5 65 #[.pointer (G1 ⟨rb,0,G0⟩),.int .i64 (-1)] wx (fI wx ox' rb p0 p1 p2 p3 p4 (chA 13 C) (.tuple #[])):=λwx ox' E=>eO wx ox' rb p0 p1 p2 p3 p4 _ (-1) _ zQ (by omega) (by omega) E;have zD:=dD.sz _ zQ;have lD:(chA 13 C).lg=false->A.at1<(chA 13 C).ws.length:=ig ((dB.trans dC).trans ((dV C 13 0 0).trans dD));have kD:(chA 13 C).ks.length=nc:=((((kT 13 C).ks).trans dC.ks).trans kB);generalize chA 13 C=D at *;have zE:=(eJ D A.at1).sz _ zD;have dE:=dD.trans (eJ D A.at1);have kE:(D.lands A.at1).ks.length=nc:=(eJ D A.at1).ks.trans kD;have H9:∀ wx ox',as I17 w1 o1 wx ox'->DW wx ox' rb p0 p1 p2 p3 p4 (D.lands A.at1)->_:=λwx ox' T E=>HP z ak2 ck2 ar wx ox' rb p0 p1 p2 p3 p4 lv (D.lands A.at1) _ (by omega) oz sz' hlv hnc (by omega) (by omega) (Sz.stepO T dZ) kE zE (by omega) (X1.step T dZ) E;simp only[dR] at H9;have lF:(deE lv z ar (D.lands A.at1)).lg=false->C.at1<(deE lv z ar (D.lands A.at1)).ws.length:=ig (dE.trans (fj lv z ar _));generalize deE lv z ar (D.lands A.at1)=F at *;generalize hat:A.at1=iA at *;generalize hct:C.at1=iC at *;have hP:=λwx ox' E=>eE wx ox' rb p0 p1 p2 p3 p4 A 14 0 0 E;have hQ:=λwx ox' E=>eE wx ox' rb p0 p1 p2 p3 p4 C 13 0 0 E;rw[hat] at hP;rw[hct] at hQ;clear hsk ho hok HP SN1 X1 E1 hat hct hB dA dB dC dD dE zA zP zB zC zQ ox oy sx sy Sx Sy l1 NN1 hlen hN har hsz hks hz;go_enter Tryz.func71,Tryz.ntmps71;go_upto_region 1 with fail;rw[<-hw1,<-HG.out];clear hw1;go_wp2_with fail;refine H1.mono ?_;rintro e w2 ⟨rfl,o2,E2,S2⟩;have T2:=T1.trans S2;clear S2 c0 c1 c2 c3 x0 x1 x2 x3 H1;obtain⟨c0,c1,c2,c3⟩:=KK.out _ _ T2;go_wp2_with fail;refine(hP w2 o2 E2).mono ?_;rintro e w3 ⟨rfl,o3,E3,S3⟩;have T3:=T2.trans S3;clear S3 c0 c1 c2 c3;obtain⟨c0,c1,c2,c3⟩:=KK.out _ _ T3;go_wp2_with fail;refine(HB w3 o3 E3).mono ?_;rintro e w4 ⟨rfl,o4,E4,S4⟩;have T4:=T3.trans S4;clear S4 c0 c1 c2 c3;obtain⟨c0,c1,c2,c3⟩:=KK.out _ _ T4;obtain⟨x0,x1,x2,x3⟩:Nd8 w4 b off y ak1 ck1:=NK1 T4 dZ;have H5:=H4 w4 o4 T4 E4;go_wp2_with fail;refine H5.mono ?_;rintro e w5 ⟨rfl,o5,E5,S5⟩;have T5:=T4.trans S5;clear S5 c0 c1 c2 c3 x0 x1 x2 x3 H5 H4;obtain⟨c0,c1,c2,c3⟩:=KK.out _ _ T5;go_wp2_with fail;refine(hQ w5 o5 E5).mono ?_;rintro e w6 ⟨rfl,o6,E6,S6⟩;have T6:=T5.trans S6;clear S6 c0 c1 c2 c3;obtain⟨c0,c1,c2,c3⟩:=KK.out _ _ T6;go_wp2_with fail;refine(HD w6 o6 E6).mono ?_;rintro e w7 ⟨rfl,o7,E7,S7⟩;have T7:=T6.trans S7;clear S7 c0 c1 c2 c3;obtain⟨c0,c1,c2,c3⟩:=KK.out _ _ T7;have H7:=f7 w7 o7 rb p0 p1 p2 p3 p4 D iA lD E7;go_wp2_with fail;refine H7.mono ?_;rintro e w8 ⟨rfl,o8,E8,S8⟩;have T8:=T7.trans S8;clear S8 c0 c1 c2 c3 H7;obtain⟨c0,c1,c2,c3⟩:=KK.out _ _ T8;obtain⟨x0,x1,x2,x3⟩:NdC w8 b off z ak2 ck2:=NK2 T8 dZ;have H8:=H9 w8 o8 T8 E8;go_wp2_with fail;refine H8.mono ?_;rintro e w9 ⟨rfl,o9,E9,S9⟩;have T9:=T8.trans S9;clear S9 c0 c1 c2 c3 x0 x1 x2 x3 H8 H9;obtain⟨c0,c1,c2,c3⟩:=KK.out _ _ T9;have H10:=f7 w9 o9 rb p0 p1 p2 p3 p4 F iC lF E9;go_wp2_with fail;refine H10.mono ?_;rintro e w10 ⟨rfl,o10,E10,S10⟩;have T10:=T9.trans S10;clear S10 c0 c1 c2 c3 H10;obtain⟨c0,c1,c2,c3⟩:=KK.out _ _ T10;go_wp2
 go_end0
 exact⟨rfl,o10,E10,S0.trans T10⟩
theorem n6 (K:Nat->Int)(nc N:Nat)(HP:iH K nc N)(k n:Int)(nm:List UInt8)(a:Int)(ks:Fs)(ao:Option Hw)(cap ar:Nat)(w:G9)(o:Nat->Nat)(rb:Nat)(p0 p1 p2 p3 p4:He)(lv:List Int)(s:Dp)(m:Nat)(hk:22<=k/\k<=25)(hN:ks.size<=N)(ho:okE nc ⟨k,n,nm,a,ks⟩)(hsk:skF K ks k 0)(hlv:lv.length=nc)(hnc:nc<=256)(har:ar+ks.size<=1000000)(hsz:ks.size<=100000)(S:SnO w o ks ao)(hks:s.ks.length=nc)(hz:s.sz m)(hm:m+(17*ks.size+16)<=100000000)(X:DX w o p4 lv)(h:DW w o rb p0 p1 p2 p3 p4 s) :
  Hn G5 115 #[pt0 rb,exN ⟨k,n,nm,a,ks⟩ ao cap,.int .i64 (ar:Nat)] w (fI w o rb p0 p1 p2 p3 p4 (yi k nm (deF lv ks) ar s) (.tuple #[])):=by
 have h21:k≠21:=by omega
 have hnm:=Ax ho.1.1;simp only at hnm;obtain⟨w1,o1,g,hw1,HG,B1,E1,X1,SN1,S0⟩:=gr #[.int .i64 k,.int .i64 n,stv nm,.slice ao ks.len cap] h X S;have KK:=gu B1;obtain⟨c0,c1,c2,c3⟩:=KK.out _ _ (as.refl I17 w1 o1);obtain⟨l1,-⟩:=E1.cl;have T1:=as.refl I17 w1 o1;clear B1 h X S;rw[dR];simp only;have H1:=rF K nc N HP k n nm a ks ao cap ar w1 o1 rb p0 p1 p2 p3 p4 lv s m hN ho.2 h21 hsk hlv hnc har hsz (SN1.stepO T1 dZ) hks hz (by omega) (X1.step T1 dZ) E1;rw[dR] at H1;simp only at H1;have zA:=((kU lv ks ar s).sz m hz);have hlz:=i7 ks;unfold yi
 dsimp only
 rw[rH];generalize fS (deF lv ks) ar s=A at *;generalize ks.len=le at *;have hc:k=22\/k=23\/k=24\/k=25:=by omega
 have zN:=(vu A nm).sz _ zA;clear hk h21 hsk ho HP SN1 X1 E1 l1;rcases hc with rfl|rfl|rfl|rfl
 ·go_enter Tryz.func115,Tryz.ntmps115;go_upto_region 1 with fail;rw[<-hw1,<-HG.out];clear hw1;go_wp2_with fail;refine H1.mono ?_;rintro e w2 ⟨rfl,o2,E2,S2⟩;have T2:=T1.trans S2;clear S2 c0 c1 c2 c3 H1;obtain⟨c0,c1,c2,c3⟩:=KK.out _ _ T2;have H3:=eE w2 o2 rb p0 p1 p2 p3 p4 A 20 0 0 E2;go_wp2_with fail;refine H3.mono ?_;rintro e w4 ⟨rfl,o4,E4,S4⟩;have T4:=T2.trans S4;clear S4 c0 c1 c2 c3 H3;obtain⟨c0,c1,c2,c3⟩:=KK.out _ _ T4;have H4:=eO w4 o4 rb p0 p1 p2 p3 p4 _ (-(le:Int)) _ ((dV A 20 0 0).sz _ zA) (by omega) (by omega) E4;go_wp2_with fail;refine H4.mono ?_;rintro e w5 ⟨rfl,o5,E5,S5⟩;have T5:=T4.trans S5;clear S5 c0 c1 c2 c3 H4;obtain⟨c0,c1,c2,c3⟩:=KK.out _ _ T5;go_wp2
  go_end0
  exact⟨rfl,o5,E5,S0.trans T5⟩
 ·go_enter Tryz.func115,Tryz.ntmps115;go_upto_region 1 with fail;rw[<-hw1,<-HG.out];clear hw1;go_wp2_with fail;refine H1.mono ?_;rintro e w2 ⟨rfl,o2,E2,S2⟩;have T2:=T1.trans S2;clear S2 c0 c1 c2 c3 H1;obtain⟨c0,c1,c2,c3⟩:=KK.out _ _ T2;have H2:=s_c w2 o2 rb p0 p1 p2 p3 p4 A nm (by unfold Hu;omega) (by have:=zA.n;omega) E2;go_wp2_with fail;refine H2.mono ?_;rintro e w3 ⟨rfl,o3,E3,S3⟩;have T3:=T2.trans S3;clear S3 c0 c1 c2 c3 H2;obtain⟨c0,c1,c2,c3⟩:=KK.out _ _ T3;have H3:=eE w3 o3 rb p0 p1 p2 p3 p4 (A.kN nm) 21 (A.ns.idxOf nm) 0 E3;go_wp2_with fail;refine H3.mono ?_;rintro e w4 ⟨rfl,o4,E4,S4⟩;have T4:=T3.trans S4;clear S4 c0 c1 c2 c3 H3;obtain⟨c0,c1,c2,c3⟩:=KK.out _ _ T4;have H4:=eO w4 o4 rb p0 p1 p2 p3 p4 _ (-(le:Int)) _ ((dV (A.kN nm) 21 (A.ns.idxOf nm) 0).sz _ zN) (by omega) (by omega) E4;go_wp2_with fail;refine H4.mono ?_;rintro e w5 ⟨rfl,o5,E5,S5⟩;have T5:=T4.trans S5;clear S5 c0 c1 c2 c3 H4;obtain⟨c0,c1,c2,c3⟩:=KK.out _ _ T5;go_wp2
  go_end0
  exact⟨rfl,o5,E5,S0.trans T5⟩
 ·go_enter Tryz.func115,Tryz.ntmps115;go_upto_region 1 with fail;rw[<-hw1,<-HG.out];clear hw1;go_wp2_with fail;refine H1.mono ?_;rintro e w2 ⟨rfl,o2,E2,S2⟩;have T2:=T1.trans S2;clear S2 c0 c1 c2 c3 H1;obtain⟨c0,c1,c2,c3⟩:=KK.out _ _ T2;have H3:=eE w2 o2 rb p0 p1 p2 p3 p4 A 22 0 0 E2;go_wp2_with fail;refine H3.mono ?_;rintro e w4 ⟨rfl,o4,E4,S4⟩;have T4:=T2.trans S4;clear S4 c0 c1 c2 c3 H3;obtain⟨c0,c1,c2,c3⟩:=KK.out _ _ T4;have H4:=eO w4 o4 rb p0 p1 p2 p3 p4 _ (-(le:Int)) _ ((dV A 22 0 0).sz _ zA) (by omega) (by omega) E4;go_wp2_with fail;refine H4.mono ?_;rintro e w5 ⟨rfl,o5,E5,S5⟩;have T5:=T4.trans S5;clear S5 c0 c1 c2 c3 H4;obtain⟨c0,c1,c2,c3⟩:=KK.out _ _ T5;go_wp2
  go_end0
  exact⟨rfl,o5,E5,S0.trans T5⟩
 ·go_enter Tryz.func115,Tryz.ntmps115;go_upto_region 1 with fail;rw[<-hw1,<-HG.out];clear hw1;go_wp2_with fail;refine H1.mono ?_;rintro e w2 ⟨rfl,o2,E2,S2⟩;have T2:=T1.trans S2;clear S2 c0 c1 c2 c3 H1;obtain⟨c0,c1,c2,c3⟩:=KK.out _ _ T2;have H3:=eE w2 o2 rb p0 p1 p2 p3 p4 A 23 le 0 E2;go_wp2_with fail;refine H3.mono ?_;rintro e w4 ⟨rfl,o4,E4,S4⟩;have T4:=T2.trans S4;clear S4 c0 c1 c2 c3 H3;obtain⟨c0,c1,c2,c3⟩:=KK.out _ _ T4;have H4:=eO w4 o4 rb p0 p1 p2 p3 p4 _ (-(le:Int)) _ ((dV A 23 le 0).sz _ zA) (by omega) (by omega) E4;go_wp2_with fail;refine H4.mono ?_;rintro e w5 ⟨rfl,o5,E5,S5⟩;have T5:=T4.trans S5;clear S5 c0 c1 c2 c3 H4;obtain⟨c0,c1,c2,c3⟩:=KK.out _ _ T5;go_wp2
  go_end0
  exact⟨rfl,o5,E5,S0.trans T5⟩
theorem yj (h:Nat):∀ (l:List Int) (k:Nat) (s:Dp) (x:Int) (r:List Int),l=x::r->jF h l k s=if s.lg then s else jF h r (k+1) (if x=(h:Int) then s.puts 19 k 0 else s)
 | _,k,s,x,r,rfl=>rfl
theorem kw (ar:Nat)(w:G9)(o:Nat->Nat)(rb:Nat)(p0 p1 p2 p3 p4:He)(lv:List Int)(s:Dp)(har:ar<=1000000)(hlv:lv.length<=256)(X:DX w o p4 lv)(h:DW w o rb p0 p1 p2 p3 p4 s) :
  Hn G5 116 #[pt0 rb,.int .i64 (ar:Nat)] w (fI w o rb p0 p1 p2 p3 p4 (jF (ar+1) lv 0 s) (.tuple #[])):=by
 obtain⟨al,cl,rfl,hlx⟩:=X;have LV:Hid (∀ w' o',as I17 w o w' o'->∀ j x,lv[j]?=G1 x->∃b off,al=G1 ⟨b,off,G0⟩/\w'.cell? ⟨b,off+j,G0⟩=G1 (.int .i64 x)):=λw' o' S j x hx=>by
  rcases hlx with h|⟨b,off,h1,h2,h3,h4⟩
  ·rw[h] at hx;simp at hx
  ·exact⟨b,off,h1,(Ho (a:=⟨b,off+j,G0⟩) (S.block b h3 (by rw[h2];exact dZ))).trans (h4 j x hx)⟩
 obtain⟨W,hW⟩:∃W,W=jF (ar+1) lv 0 s:=⟨_,rfl⟩;have HW:Hid (W=jF (ar+1) (lv.drop 0) 0 s):=by show _=_;rw[hW];rfl
 rw[<-hW];obtain⟨l1,l4⟩:=h.cl;obtain⟨A,hA⟩:∃A:Nat,A=ar+1:=⟨_,rfl⟩;have HAI:Hid ((A:Int)=(ar:Int)+1):=by show _=_;omega
 rw[<-hA] at HW;clear hlx hW hA;go_enter Tryz.func116,Tryz.ntmps116;go_wp2_with fail;go_loopw [4] (λvi wr=>∃(k:Nat) (s':Dp) (o':Nat->Nat),vi=.int .i64 (k:Nat)/\k<=lv.length/\DW wr o' rb p0 p1 p2 p3 (.slice al lv.length cl) s'/\as I17 w o wr o'/\Hid (W=jF A (lv.drop k) k s')) (λvi _=>lv.length-(Ih vi).toNat)
 case atStart=>exact⟨0,s,o,by go_num,by omega,h,as.refl _ _ _,HW⟩
 case round =>
  clear HW h l1 l4;obtain⟨k,s',o',rfl,hk,E2,S2,HW⟩:=hrel;obtain⟨l1,l4⟩:=E2.cl;by_cases hlt:k<lv.length
  ·have hkI:(k:Int)<(lv.length:Int):=by omega
   have hx:lv[k]?=G1 lv[k]:=Hd hlt;have hdr:lv.drop k=lv[k]::lv.drop (k+1):=Jd hlt;have HW2:=HW.out;rw[yj A _ k s' _ _ hdr] at HW2;by_cases hlg:s'.lg=true
   ·rw[if_pos hlg] at HW2;have HW3:=Hg HW2;rw[hlg] at l1;clear HW2 HW hx hdr LV HAI;go_wp2
    go_end0
    exact⟨rfl,o',by rw[HW3.out];exact E2,S2⟩
   ·rw[if_neg hlg] at HW2;have hlf:s'.lg=false:=by simpa using hlg
    rw[hlf] at l1;obtain⟨b,off,rfl,cx⟩:=LV.out _ _ S2 k _ hx;generalize lv[k]=lx at *;rw[HAI.out] at HW2;by_cases he:lx=(ar:Int)+1
    ·rw[if_pos he] at HW2;have HW3:=Hg HW2;have HL:=eE wr o' rb p0 p1 p2 p3 _ s' 19 k 0 E2;subst he;clear HW2 HW hx hdr hlf hlg;go_wp2_with (first|(go_at_call 35;refine HL.mono ?_;rintro e w3 ⟨rfl,o3,E3,S3⟩));go_roundw
     case rel=>(try ((repeat apply Hv);refine⟨?_,rfl⟩));exact⟨k+1,s'.puts 19 k 0,o3,by go_num,by omega,E3,S2.trans S3,HW3.out⟩
     case measure=>simp[Ih];omega
    ·rw[if_neg he] at HW2;have HW3:=Hg HW2;clear HW2 HW hx hdr hlf hlg;go_wp2;go_roundw
     case rel=>(try ((repeat apply Hv);refine⟨?_,rfl⟩));exact⟨k+1,s',o',by go_num,by omega,E2,S2,HW3.out⟩
     case measure=>simp[Ih];omega
  ·have hkI:¬(k:Int)<(lv.length:Int):=by omega
   obtain rfl:k=lv.length:=by omega
   have HW2:=HW.out;rw[List.drop_length] at HW2;have HW3:Hid (W=s'):=HW2;clear HW HW2 hlt LV HAI;go_wp2
   go_end0
   exact⟨rfl,o',by rw[HW3.out];exact E2,S2⟩
theorem DC (g i:Nat)(w:G9)(o:Nat->Nat)(rb:Nat)(p0 p1 p2 p3 p4:He)(s:Dp)(m:Nat)(hz:s.sz m)(hm:m+8<=100000000)(hi:s.lg=false->i<s.ws.length)(h:DW w o rb p0 p1 p2 p3 p4 s) :
  Hn G5 117 #[pt0 rb,.int .i64 1,.int .i64 (g:Nat),.int .i64 (i:Nat)] w (fI w o rb p0 p1 p2 p3 p4 (qK 1 g i s) (.tuple #[])):=by
 have e1:qK 1 g i s=((((((((s.puts 15 g 0).grows (-1)).puts 25 0 0).val 0 2).puts 13 0 0).grows (-1)).lands i).val 1 2).lands (((((s.puts 15 g 0).grows (-1)).puts 25 0 0).val 0 2).at1):=rfl;rw[e1];clear e1;have T1:=as.refl I17 w o;have d1:=dV s 15 g 0;have z1:=d1.sz _ hz;have d2:=eA (s.puts 15 g 0) (-1) 1 (by omega) (by omega);have z2:=(dV _ 25 0 0).sz _ (d2.sz _ z1);have d3:=(dV ((s.puts 15 g 0).grows (-1)) 25 0 0).trans (fi _ 0 2);have z3:=(fi _ 0 2).sz _ z2;have hA:=λwx ox' E=>eE wx ox' rb p0 p1 p2 p3 p4 s 15 g 0 E;have hB:=λwx ox' E=>eO wx ox' rb p0 p1 p2 p3 p4 _ (-1) _ z1 (by omega) (by omega) E;have hC:=λwx ox' E=>eE wx ox' rb p0 p1 p2 p3 p4 ((s.puts 15 g 0).grows (-1)) 25 0 0 E;have hD:=λwx ox' E=>gM wx ox' rb p0 p1 p2 p3 p4 (((s.puts 15 g 0).grows (-1)).puts 25 0 0) 0 2 _ z2 (by omega) E;have dC:=(d1.trans d2).trans d3;generalize (((s.puts 15 g 0).grows (-1)).puts 25 0 0).val 0 2=C at *;have hE:=λwx ox' E=>eE wx ox' rb p0 p1 p2 p3 p4 C 13 0 0 E;have z4:=(dV C 13 0 0).sz _ z3;have hF:=λwx ox' E=>eO wx ox' rb p0 p1 p2 p3 p4 _ (-1) _ z4 (by omega) (by omega) E;have d4:=eA (C.puts 13 0 0) (-1) 1 (by omega) (by omega);have z5:=d4.sz _ z4;have d5:=(dC.trans (dV C 13 0 0)).trans d4;generalize (C.puts 13 0 0).grows (-1)=D at *;have hG:=λwx ox' E=>f7 wx ox' rb p0 p1 p2 p3 p4 D i (λhl=>Hh (hi (by cases hs:s.lg with|false=>rfl|true=>rw[d5.lg hs] at hl;cases hl)) d5.w2) E;have hH:=λwx ox' E=>gM wx ox' rb p0 p1 p2 p3 p4 (D.lands i) 1 2 _ ((eJ D i).sz _ z5) (by omega) E;have lF:((D.lands i).val 1 2).lg=false->C.at1<((D.lands i).val 1 2).ws.length:=ig ((d4.trans (eJ D i)).trans (fi _ _ _));have hI:=λwx ox' E=>f7 wx ox' rb p0 p1 p2 p3 p4 ((D.lands i).val 1 2) C.at1 lF E;generalize C.at1=iC at *;clear d1 z1 d2 z2 d3 z3 dC d4 z4 d5 z5 lF hz hm hi;go_enter Tryz.func117,Tryz.ntmps117;go_wp2_with fail;refine(hA w o h).mono ?_;rintro e w2 ⟨rfl,o2,E2,S2⟩;have T2:=T1.trans S2;clear S2 ;go_wp2_with fail;refine(hB w2 o2 E2).mono ?_;rintro e w3 ⟨rfl,o3,E3,S3⟩;have T3:=T2.trans S3;clear S3 ;go_wp2_with fail;refine(hC w3 o3 E3).mono ?_;rintro e w4 ⟨rfl,o4,E4,S4⟩;have T4:=T3.trans S4;clear S4 ;go_wp2_with fail;refine(hD w4 o4 E4).mono ?_;rintro e w5 ⟨rfl,o5,E5,S5⟩;have T5:=T4.trans S5;clear S5 ;go_wp2_with fail;refine(hE w5 o5 E5).mono ?_;rintro e w6 ⟨rfl,o6,E6,S6⟩;have T6:=T5.trans S6;clear S6 ;go_wp2_with fail;refine(hF w6 o6 E6).mono ?_;rintro e w7 ⟨rfl,o7,E7,S7⟩;have T7:=T6.trans S7;clear S7 ;go_wp2_with fail;refine(hG w7 o7 E7).mono ?_;rintro e w8 ⟨rfl,o8,E8,S8⟩;have T8:=T7.trans S8;clear S8 ;go_wp2_with fail;refine(hH w8 o8 E8).mono ?_;rintro e w9 ⟨rfl,o9,E9,S9⟩;have T9:=T8.trans S9;clear S9 ;go_wp2_with fail;refine(hI w9 o9 E9).mono ?_;rintro e w10 ⟨rfl,o10,E10,S10⟩;have T10:=T9.trans S10;clear S10 ;go_wp2
 go_end0
 exact⟨rfl,o10,E10,T10⟩
theorem CU (g i:Nat)(w:G9)(o:Nat->Nat)(rb:Nat)(p0 p1 p2 p3 p4:He)(s:Dp)(m:Nat)(hz:s.sz m)(hm:m+8<=100000000)(hi:s.lg=false->i<s.ws.length)(h:DW w o rb p0 p1 p2 p3 p4 s) :
  Hn G5 117 #[pt0 rb,.int .i64 2,.int .i64 (g:Nat),.int .i64 (i:Nat)] w (fI w o rb p0 p1 p2 p3 p4 (qK 2 g i s) (.tuple #[])):=by
 have e1:qK 2 g i s=((((((((s.puts 14 g 0).grows (-1)).puts 25 0 0).val 1 2).puts 13 0 0).grows (-1)).lands i).val 0 2).lands (((((s.puts 14 g 0).grows (-1)).puts 25 0 0).val 1 2).at1):=rfl;rw[e1];clear e1;have T1:=as.refl I17 w o;have d1:=dV s 14 g 0;have z1:=d1.sz _ hz;have d2:=eA (s.puts 14 g 0) (-1) 1 (by omega) (by omega);have z2:=(dV _ 25 0 0).sz _ (d2.sz _ z1);have d3:=(dV ((s.puts 14 g 0).grows (-1)) 25 0 0).trans (fi _ 1 2);have z3:=(fi _ 1 2).sz _ z2;have hA:=λwx ox' E=>eE wx ox' rb p0 p1 p2 p3 p4 s 14 g 0 E;have hB:=λwx ox' E=>eO wx ox' rb p0 p1 p2 p3 p4 _ (-1) _ z1 (by omega) (by omega) E;have hC:=λwx ox' E=>eE wx ox' rb p0 p1 p2 p3 p4 ((s.puts 14 g 0).grows (-1)) 25 0 0 E;have hD:=λwx ox' E=>gM wx ox' rb p0 p1 p2 p3 p4 (((s.puts 14 g 0).grows (-1)).puts 25 0 0) 1 2 _ z2 (by omega) E;have dC:=(d1.trans d2).trans d3;generalize (((s.puts 14 g 0).grows (-1)).puts 25 0 0).val 1 2=C at *;have hE:=λwx ox' E=>eE wx ox' rb p0 p1 p2 p3 p4 C 13 0 0 E;have z4:=(dV C 13 0 0).sz _ z3;have hF:=λwx ox' E=>eO wx ox' rb p0 p1 p2 p3 p4 _ (-1) _ z4 (by omega) (by omega) E;have d4:=eA (C.puts 13 0 0) (-1) 1 (by omega) (by omega);have z5:=d4.sz _ z4;have d5:=(dC.trans (dV C 13 0 0)).trans d4;generalize (C.puts 13 0 0).grows (-1)=D at *;have hG:=λwx ox' E=>f7 wx ox' rb p0 p1 p2 p3 p4 D i (λhl=>Hh (hi (by cases hs:s.lg with|false=>rfl|true=>rw[d5.lg hs] at hl;cases hl)) d5.w2) E;have hH:=λwx ox' E=>gM wx ox' rb p0 p1 p2 p3 p4 (D.lands i) 0 2 _ ((eJ D i).sz _ z5) (by omega) E;have lF:((D.lands i).val 0 2).lg=false->C.at1<((D.lands i).val 0 2).ws.length:=ig ((d4.trans (eJ D i)).trans (fi _ _ _));have hI:=λwx ox' E=>f7 wx ox' rb p0 p1 p2 p3 p4 ((D.lands i).val 0 2) C.at1 lF E;generalize C.at1=iC at *;clear d1 z1 d2 z2 d3 z3 dC d4 z4 d5 z5 lF hz hm hi;go_enter Tryz.func117,Tryz.ntmps117;go_wp2_with fail;refine(hA w o h).mono ?_;rintro e w2 ⟨rfl,o2,E2,S2⟩;have T2:=T1.trans S2;clear S2 ;go_wp2_with fail;refine(hB w2 o2 E2).mono ?_;rintro e w3 ⟨rfl,o3,E3,S3⟩;have T3:=T2.trans S3;clear S3 ;go_wp2_with fail;refine(hC w3 o3 E3).mono ?_;rintro e w4 ⟨rfl,o4,E4,S4⟩;have T4:=T3.trans S4;clear S4 ;go_wp2_with fail;refine(hD w4 o4 E4).mono ?_;rintro e w5 ⟨rfl,o5,E5,S5⟩;have T5:=T4.trans S5;clear S5 ;go_wp2_with fail;refine(hE w5 o5 E5).mono ?_;rintro e w6 ⟨rfl,o6,E6,S6⟩;have T6:=T5.trans S6;clear S6 ;go_wp2_with fail;refine(hF w6 o6 E6).mono ?_;rintro e w7 ⟨rfl,o7,E7,S7⟩;have T7:=T6.trans S7;clear S7 ;go_wp2_with fail;refine(hG w7 o7 E7).mono ?_;rintro e w8 ⟨rfl,o8,E8,S8⟩;have T8:=T7.trans S8;clear S8 ;go_wp2_with fail;refine(hH w8 o8 E8).mono ?_;rintro e w9 ⟨rfl,o9,E9,S9⟩;have T9:=T8.trans S9;clear S9 ;go_wp2_with fail;refine(hI w9 o9 E9).mono ?_;rintro e w10 ⟨rfl,o10,E10,S10⟩;have T10:=T9.trans S10;clear S10 ;go_wp2
 go_end0
 exact⟨rfl,o10,E10,T10⟩
theorem mu {lv:List Int}{x:Ex}{ar:Nat}{s:Dp}(h:22<=x.k/\x.k<=25):deE lv x ar s=yi x.k x.nm (deF lv x.kids) ar s:=by
 unfold deE oT;rw[if_pos h]
theorem DW.ll {w:G9}{o:Nat->Nat}{rb:Nat}{p0 p1 p2 p3 p4:He}{s:Dp}(h:DW w o rb p0 p1 p2 p3 p4 s):∃ao cap,w.cell? ⟨rb,8,G0⟩=G1 (.slice ao s.ws.length cap):=by
 obtain⟨wl,vc,vn,vk,vw,b,a,-⟩:=h;obtain⟨⟨c4,c5,i,g,c,c9,e,d⟩,f⟩:=fq b.1;obtain⟨ao,cap,rfl⟩:=a.form;exact⟨ao,cap,c⟩
theorem D2 (K:Nat->Int)(nc N:Nat)(T:iH K nc N)(n:Int)(nm:List UInt8)(a:Int)(x y:Ex)(ao:Option Hw)(cap ar:Nat)(w:G9)(o:Nat->Nat)(rb:Nat)(p0 p1 p2 p3 p4:He)(lv:List Int)(s:Dp)(m:Nat)(hn:n=1)(hN:(Fs.ex x (Fs.ex y .nil)).size<=N)(ho:okE nc ⟨21,n,nm,a,(Fs.ex x (Fs.ex y .nil))⟩)(f:skF K (Fs.ex x (Fs.ex y .nil)) 21 0)(I:lv.length=nc)(H:nc<=256)(ad:ar+(Fs.ex x (Fs.ex y .nil)).size<=1000000)(aa:(Fs.ex x (Fs.ex y .nil)).size<=100000)(S:SnO w o (Fs.ex x (Fs.ex y .nil)) ao)(B:s.ks.length=nc)(hz:s.sz m)(hm:m+(17*(Fs.ex x (Fs.ex y .nil)).size+16)<=100000000)(X:DX w o p4 lv)(h:DW w o rb p0 p1 p2 p3 p4 s) :
  Hn G5 70 #[pt0 rb,exN ⟨21,n,nm,a,(Fs.ex x (Fs.ex y .nil))⟩ ao cap,.int .i64 ar] w (fI w o rb p0 p1 p2 p3 p4 (lQ lv n (deE lv x) (deE lv y) ar s) (.tuple #[])):=by
 have j:=ho.2;simp only at j;have ox:=(et j).1;have oy:=(et (et j).2).1;have q:22<=x.k/\x.k<=25:=f.1.2 ⟨rfl,rfl⟩;have sx:=f.2.2.1;have sy:skE K y:=⟨λhs=>absurd (f.2.2.2.1.1 hs).2 (by omega),f.2.2.2.2.1,f.2.2.2.2.2.1⟩;simp only[eG,Fs.size] at hN ad aa hm;obtain⟨w1,o1,g,i,HG,B1,Z,Y,u,S0⟩:=gr #[.int .i64 21,.int .i64 n,stv nm,.slice ao (Fs.ex x (Fs.ex y .nil)).len cap] h X S;have v:=gu B1;obtain⟨c0,c1,c2,c3⟩:=v.out _ _ (as.refl I17 w1 o1);obtain⟨z,-⟩:=Z.cl;have T1:=as.refl I17 w1 o1;clear B1 h X S;rw[dR];simp only;obtain⟨b,off,ak,ck,ae,NN,Sx,NK⟩:=ij (x:=.nil) u 0 rfl;obtain⟨b1,ah,M,L,p,ag,Sy,R⟩:=ij (x:=one x) u 1 rfl;subst ae;injection p with p
 injection p with e1 e2
 subst e1 e2;have l:(Fs.ex x (Fs.ex y .nil)).len=2:=rfl;rw[l] at i v c3 ⊢;obtain⟨x0,x1,x2,x3⟩:Nd4 w1 b off x ak ck:=NN;have D:=n6 K nc N T x.k x.n x.nm x.a x.kids ak ck ar w1 o1 rb p0 p1 p2 p3 p4 lv s m q (by omega) ox sx I H (by omega) (by omega) Sx B hz (by omega) Y Z;rw[<-mu q] at D;rw[dR] at D;have dA:=fj lv x ar s;unfold lQ
 dsimp only
 generalize deE lv x ar s=A at *;have zA:=dA.sz m hz;obtain⟨d,t⟩:=exq (iN n A);rw[<-t];have hB:d=A:=by rw[t];rcases hn with rfl<;>rfl
 have dB:Dle 4 A d:=by rw[t];exact lf n A
 have zB:=dB.sz _ zA;have kB:d.ks.length=nc:=(dB.ks.trans dA.ks).trans B;subst hB;clear t dA dB hz B;by_cases r:d.lg=true
 ·rw[if_pos r];have T:=0;clear T;clear Sx Sy NK R ag j ox oy sx sy q f ho zA zB kB Y u z l Z;subst hn;go_enter JB,Jr;go_upto_region 1 with fail;rw[<-i,<-HG.out];clear i;go_wp2_with fail;refine D.mono ?_;rintro e w2 ⟨rfl,U,G,Q⟩;have P:=T1.trans Q;clear Q c0 c1 c2 c3 x0 x1 x2 x3 D;obtain⟨c0,c1,c2,c3⟩:=v.out _ _ P;obtain⟨z,-⟩:=G.cl;rw[r] at z;go_wp2
  go_end0
  exact⟨rfl,U,G,S0.trans P⟩
 ·rw[if_neg r];have ab:d.lg=false:=by simpa using r
  have hP:=λwx c E=>eE wx c rb p0 p1 p2 p3 p4 d 24 0 0 E;have dP:=dV d 24 0 0;have W:=jq (ar+1) lv 0 (d.puts 24 0 0);have zC:=W.sz _ (dP.sz _ zB);have kC:=(W.ks.trans dP.ks).trans kB;have hC:=λwx c X E=>kw ar wx c rb p0 p1 p2 p3 p4 lv (d.puts 24 0 0) (by omega) (by omega) X E;generalize jF (ar+1) lv 0 (d.puts 24 0 0)=C at *;have V:=λwx c S X E=>T y M L (ar+1) wx c rb p0 p1 p2 p3 p4 lv C _ (by omega) oy sy I H (by omega) (by omega) S kC zC (by omega) X E;simp only[dR] at V;rw[show ((ar+1:Nat):Int)=(ar:Int)+1 from rfl] at V;have dE:=fj lv y (ar+1) C;generalize deE lv y (ar+1) C=F at *;have zF:=dE.sz _ zC;have lF:F.lg=false->d.at1<F.ws.length:=ig (W.trans dE);generalize ac:d.at1=iB at *;generalize J:d.ws.length=gB at *;have af:∀ wx c,DW wx c rb p0 p1 p2 p3 p4 d->∃ao cap,wx.cell? ⟨rb,8,G0⟩=G1 (.slice ao gB cap):=λwx c E=>by rw[<-J];exact E.ll
  have gA:=λwx c E=>DC gB iB wx c rb p0 p1 p2 p3 p4 F _ zF (by omega) lF E;clear lF zF dE zC W dP;subst hn;rw[if_pos (by omega)];clear j ox oy sx sy q f ho zA zB kB kC T ac J z l Z u;go_enter JB,Jr;go_upto_region 1 with fail;rw[<-i,<-HG.out];clear i;go_wp2_with fail;refine D.mono ?_;rintro e w2 ⟨rfl,U,G,Q⟩;have P:=T1.trans Q;clear Q c0 c1 c2 c3 x0 x1 x2 x3 D;obtain⟨c0,c1,c2,c3⟩:=v.out _ _ P;obtain⟨z,-⟩:=G.cl;rw[ab] at z;obtain⟨al,cl,l8⟩:=af w2 U G;go_wp2_with fail;refine(hP w2 U G).mono ?_;rintro e w3 ⟨rfl,o3,E3,S3⟩;have T3:=P.trans S3;clear S3 c0 c1 c2 c3 hP z l8;obtain⟨c0,c1,c2,c3⟩:=v.out _ _ T3;go_wp2_with fail;refine(hC w3 o3 (Y.step T3 dZ) E3).mono ?_;rintro e w4 ⟨rfl,o4,E4,S4⟩;have O:=T3.trans S4;clear S4 c0 c1 c2 c3 hC;obtain⟨c0,c1,c2,c3⟩:=v.out _ _ O;obtain⟨y0,y1,y2,y3⟩:Nd8 w4 b off y M L:=R O dZ;have HY:=V w4 o4 (Sy.stepO O dZ) (Y.step O dZ) E4;go_wp2_with fail;refine HY.mono ?_;rintro e w5 ⟨rfl,o5,E5,S5⟩;have T5:=O.trans S5;clear S5 c0 c1 c2 c3 y0 y1 y2 y3 HY V;obtain⟨c0,c1,c2,c3⟩:=v.out _ _ T5;go_wp2_with fail;refine(gA w5 o5 E5).mono ?_;rintro e w6 ⟨rfl,o6,E6,S6⟩;have T6:=T5.trans S6;clear S6 c0 c1 c2 c3 gA;obtain⟨c0,c1,c2,c3⟩:=v.out _ _ T6;go_wp2
  go_end0
  exact⟨rfl,o6,E6,S0.trans T6⟩
theorem Dn (K:Nat->Int)(nc N:Nat)(T:iH K nc N)(n:Int)(nm:List UInt8)(a:Int)(x y:Ex)(ao:Option Hw)(cap ar:Nat)(w:G9)(o:Nat->Nat)(rb:Nat)(p0 p1 p2 p3 p4:He)(lv:List Int)(s:Dp)(m:Nat)(hn:n=2)(hN:(Fs.ex x (Fs.ex y .nil)).size<=N)(ho:okE nc ⟨21,n,nm,a,(Fs.ex x (Fs.ex y .nil))⟩)(f:skF K (Fs.ex x (Fs.ex y .nil)) 21 0)(I:lv.length=nc)(H:nc<=256)(ad:ar+(Fs.ex x (Fs.ex y .nil)).size<=1000000)(aa:(Fs.ex x (Fs.ex y .nil)).size<=100000)(S:SnO w o (Fs.ex x (Fs.ex y .nil)) ao)(B:s.ks.length=nc)(hz:s.sz m)(hm:m+(17*(Fs.ex x (Fs.ex y .nil)).size+16)<=100000000)(X:DX w o p4 lv)(h:DW w o rb p0 p1 p2 p3 p4 s) :
  Hn G5 70 #[pt0 rb,exN ⟨21,n,nm,a,(Fs.ex x (Fs.ex y .nil))⟩ ao cap,.int .i64 ar] w (fI w o rb p0 p1 p2 p3 p4 (lQ lv n (deE lv x) (deE lv y) ar s) (.tuple #[])):=by
 have j:=ho.2;simp only at j;have ox:=(et j).1;have oy:=(et (et j).2).1;have q:22<=x.k/\x.k<=25:=f.1.2 ⟨rfl,rfl⟩;have sx:=f.2.2.1;have sy:skE K y:=⟨λhs=>absurd (f.2.2.2.1.1 hs).2 (by omega),f.2.2.2.2.1,f.2.2.2.2.2.1⟩;simp only[eG,Fs.size] at hN ad aa hm;obtain⟨w1,o1,g,i,HG,B1,Z,Y,u,S0⟩:=gr #[.int .i64 21,.int .i64 n,stv nm,.slice ao (Fs.ex x (Fs.ex y .nil)).len cap] h X S;have v:=gu B1;obtain⟨c0,c1,c2,c3⟩:=v.out _ _ (as.refl I17 w1 o1);obtain⟨z,-⟩:=Z.cl;have T1:=as.refl I17 w1 o1;clear B1 h X S;rw[dR];simp only;obtain⟨b,off,ak,ck,ae,NN,Sx,NK⟩:=ij (x:=.nil) u 0 rfl;obtain⟨b1,ah,M,L,p,ag,Sy,R⟩:=ij (x:=one x) u 1 rfl;subst ae;injection p with p
 injection p with e1 e2
 subst e1 e2;have l:(Fs.ex x (Fs.ex y .nil)).len=2:=rfl;rw[l] at i v c3 ⊢;obtain⟨x0,x1,x2,x3⟩:Nd4 w1 b off x ak ck:=NN;have D:=n6 K nc N T x.k x.n x.nm x.a x.kids ak ck ar w1 o1 rb p0 p1 p2 p3 p4 lv s m q (by omega) ox sx I H (by omega) (by omega) Sx B hz (by omega) Y Z;rw[<-mu q] at D;rw[dR] at D;have dA:=fj lv x ar s;unfold lQ
 dsimp only
 generalize deE lv x ar s=A at *;have zA:=dA.sz m hz;obtain⟨d,t⟩:=exq (iN n A);rw[<-t];have hB:d=A:=by rw[t];rcases hn with rfl<;>rfl
 have dB:Dle 4 A d:=by rw[t];exact lf n A
 have zB:=dB.sz _ zA;have kB:d.ks.length=nc:=(dB.ks.trans dA.ks).trans B;subst hB;clear t dA dB hz B;by_cases r:d.lg=true
 ·rw[if_pos r];have T:=0;clear T;clear Sx Sy NK R ag j ox oy sx sy q f ho zA zB kB Y u z l Z;subst hn;go_enter JB,Jr;go_upto_region 1 with fail;rw[<-i,<-HG.out];clear i;go_wp2_with fail;refine D.mono ?_;rintro e w2 ⟨rfl,U,G,Q⟩;have P:=T1.trans Q;clear Q c0 c1 c2 c3 x0 x1 x2 x3 D;obtain⟨c0,c1,c2,c3⟩:=v.out _ _ P;obtain⟨z,-⟩:=G.cl;rw[r] at z;go_wp2
  go_end0
  exact⟨rfl,U,G,S0.trans P⟩
 ·rw[if_neg r];have ab:d.lg=false:=by simpa using r
  have hP:=λwx c E=>eE wx c rb p0 p1 p2 p3 p4 d 24 0 0 E;have dP:=dV d 24 0 0;have W:=jq (ar+1) lv 0 (d.puts 24 0 0);have zC:=W.sz _ (dP.sz _ zB);have kC:=(W.ks.trans dP.ks).trans kB;have hC:=λwx c X E=>kw ar wx c rb p0 p1 p2 p3 p4 lv (d.puts 24 0 0) (by omega) (by omega) X E;generalize jF (ar+1) lv 0 (d.puts 24 0 0)=C at *;have V:=λwx c S X E=>T y M L (ar+1) wx c rb p0 p1 p2 p3 p4 lv C _ (by omega) oy sy I H (by omega) (by omega) S kC zC (by omega) X E;simp only[dR] at V;rw[show ((ar+1:Nat):Int)=(ar:Int)+1 from rfl] at V;have dE:=fj lv y (ar+1) C;generalize deE lv y (ar+1) C=F at *;have zF:=dE.sz _ zC;have lF:F.lg=false->d.at1<F.ws.length:=ig (W.trans dE);generalize ac:d.at1=iB at *;generalize J:d.ws.length=gB at *;have af:∀ wx c,DW wx c rb p0 p1 p2 p3 p4 d->∃ao cap,wx.cell? ⟨rb,8,G0⟩=G1 (.slice ao gB cap):=λwx c E=>by rw[<-J];exact E.ll
  have gA:=λwx c E=>CU gB iB wx c rb p0 p1 p2 p3 p4 F _ zF (by omega) lF E;clear lF zF dE zC W dP;subst hn;rw[if_pos (by omega)];clear j ox oy sx sy q f ho zA zB kB kC T ac J z l Z u;go_enter JB,Jr;go_upto_region 1 with fail;rw[<-i,<-HG.out];clear i;go_wp2_with fail;refine D.mono ?_;rintro e w2 ⟨rfl,U,G,Q⟩;have P:=T1.trans Q;clear Q c0 c1 c2 c3 x0 x1 x2 x3 D;obtain⟨c0,c1,c2,c3⟩:=v.out _ _ P;obtain⟨z,-⟩:=G.cl;rw[ab] at z;obtain⟨al,cl,l8⟩:=af w2 U G;go_wp2_with fail;refine(hP w2 U G).mono ?_;rintro e w3 ⟨rfl,o3,E3,S3⟩;have T3:=P.trans S3;clear S3 c0 c1 c2 c3 hP z l8;obtain⟨c0,c1,c2,c3⟩:=v.out _ _ T3;go_wp2_with fail;refine(hC w3 o3 (Y.step T3 dZ) E3).mono ?_;rintro e w4 ⟨rfl,o4,E4,S4⟩;have O:=T3.trans S4;clear S4 c0 c1 c2 c3 hC;obtain⟨c0,c1,c2,c3⟩:=v.out _ _ O;obtain⟨y0,y1,y2,y3⟩:Nd8 w4 b off y M L:=R O dZ;have HY:=V w4 o4 (Sy.stepO O dZ) (Y.step O dZ) E4;go_wp2_with fail;refine HY.mono ?_;rintro e w5 ⟨rfl,o5,E5,S5⟩;have T5:=O.trans S5;clear S5 c0 c1 c2 c3 y0 y1 y2 y3 HY V;obtain⟨c0,c1,c2,c3⟩:=v.out _ _ T5;go_wp2_with fail;refine(gA w5 o5 E5).mono ?_;rintro e w6 ⟨rfl,o6,E6,S6⟩;have T6:=T5.trans S6;clear S6 c0 c1 c2 c3 gA;obtain⟨c0,c1,c2,c3⟩:=v.out _ _ T6;go_wp2
  go_end0
  exact⟨rfl,o6,E6,S0.trans T6⟩
theorem Cm (K:Nat->Int)(nc N:Nat)(HP:iH K nc N)(n:Int)(nm:List UInt8)(a:Int)(x y:Ex)(ao:Option Hw)(cap ar:Nat)(w:G9)(o:Nat->Nat)(rb:Nat)(p0 p1 p2 p3 p4:He)(lv:List Int)(s:Dp)(m:Nat)(hn:n=3)(hN:(Fs.ex x (Fs.ex y .nil)).size<=N)(ho:okE nc ⟨21,n,nm,a,(Fs.ex x (Fs.ex y .nil))⟩)(j:skF K (Fs.ex x (Fs.ex y .nil)) 21 0)(L:lv.length=nc)(J:nc<=256)(ax:ar+(Fs.ex x (Fs.ex y .nil)).size<=1000000)(au:(Fs.ex x (Fs.ex y .nil)).size<=100000)(S:SnO w o (Fs.ex x (Fs.ex y .nil)) ao)(G:s.ks.length=nc)(hz:s.sz m)(hm:m+(17*(Fs.ex x (Fs.ex y .nil)).size+16)<=100000000)(X:DX w o p4 lv)(h:DW w o rb p0 p1 p2 p3 p4 s) :
  Hn G5 70 #[pt0 rb,exN ⟨21,n,nm,a,(Fs.ex x (Fs.ex y .nil))⟩ ao cap,.int .i64 ar] w (fI w o rb p0 p1 p2 p3 p4 (lQ lv n (deE lv x) (deE lv y) ar s) (.tuple #[])):=by
 have p:=ho.2;simp only at p;have ox:=(et p).1;have oy:=(et (et p).2).1;have t:22<=x.k/\x.k<=25:=j.1.2 ⟨rfl,rfl⟩;have sx:=j.2.2.1;have sy:skE K y:=⟨λhs=>absurd (j.2.2.2.1.1 hs).2 (by omega),j.2.2.2.2.1,j.2.2.2.2.2.1⟩;simp only[eG,Fs.size] at hN ax au hm;obtain⟨w1,o1,g,l,HG,B1,E1,X1,z,S0⟩:=gr #[.int .i64 21,.int .i64 n,stv nm,.slice ao (Fs.ex x (Fs.ex y .nil)).len cap] h X S;have f:=gu B1;obtain⟨c0,c1,c2,c3⟩:=f.out _ _ (as.refl I17 w1 o1);obtain⟨D,-⟩:=E1.cl;have T1:=as.refl I17 w1 o1;clear B1 h X S;rw[dR];simp only;obtain⟨b,off,ak,ck,ay,NN,Sx,NK⟩:=ij (x:=.nil) z 0 rfl;obtain⟨b1,aF,T,R,r,aA,Sy,ag⟩:=ij (x:=one x) z 1 rfl;subst ay;injection r with r
 injection r with e1 e2
 subst e1 e2;have q:(Fs.ex x (Fs.ex y .nil)).len=2:=rfl;rw[q] at l f c3 ⊢;obtain⟨x0,x1,x2,x3⟩:Nd4 w1 b off x ak ck:=NN;have H:=n6 K nc N HP x.k x.n x.nm x.a x.kids ak ck ar w1 o1 rb p0 p1 p2 p3 p4 lv s m t (by omega) ox sx L J (by omega) (by omega) Sx G hz (by omega) X1 E1;rw[<-mu t] at H;rw[dR] at H;have dA:=fj lv x ar s;unfold lQ
 dsimp only
 generalize deE lv x ar s=A at *;have zA:=dA.sz m hz;obtain⟨i,v⟩:=exq (iN n A);rw[<-v];have hB:i=(A.val 0 1):=by rw[v];rcases hn with rfl<;>rfl
 have dB:Dle 4 A i:=by rw[v];exact lf n A
 have zB:=dB.sz _ zA;have kB:i.ks.length=nc:=(dB.ks.trans dA.ks).trans G;have P:=λwx c E=>gM wx c rb p0 p1 p2 p3 p4 A 0 1 _ zA (by omega) E;rw[<-hB] at P;clear v dA dB hz G;by_cases u:i.lg=true
 ·rw[if_pos u];have HP:=0;clear HP;clear Sx Sy NK ag aA p ox oy sx sy t j ho zA zB kB X1 z D q E1;subst hn;go_enter JB,Jr;go_upto_region 1 with fail;rw[<-l,<-HG.out];clear l;go_wp2_with fail;refine H.mono ?_;rintro e w2 ⟨rfl,o2,E2,S2⟩;have W:=T1.trans S2;clear S2 c0 c1 c2 c3 x0 x1 x2 x3 H;obtain⟨c0,c1,c2,c3⟩:=f.out _ _ W;go_wp2_with fail;refine(P w2 o2 E2).mono ?_;rintro e w3 ⟨rfl,o3,I,S3⟩;have V:=W.trans S3;clear S3 c0 c1 c2 c3 P;obtain⟨c0,c1,c2,c3⟩:=f.out _ _ V;obtain⟨D,-⟩:=I.cl;rw[u] at D;go_wp2
  go_end0
  exact⟨rfl,o3,I,S0.trans V⟩
 ·rw[if_neg u];have av:i.lg=false:=by simpa using u
  have hP:=λwx c E=>eE wx c rb p0 p1 p2 p3 p4 i 24 0 0 E;have dP:=dV i 24 0 0;have dC:=jq (ar+1) lv 0 (i.puts 24 0 0);have zC:=dC.sz _ (dP.sz _ zB);have kC:=(dC.ks.trans dP.ks).trans kB;have hC:=λwx c X E=>kw ar wx c rb p0 p1 p2 p3 p4 lv (i.puts 24 0 0) (by omega) (by omega) X E;generalize jF (ar+1) lv 0 (i.puts 24 0 0)=C at *;have hY:=λwx c S X E=>HP y T R (ar+1) wx c rb p0 p1 p2 p3 p4 lv C _ (by omega) oy sy L J (by omega) (by omega) S kC zC (by omega) X E;simp only[dR] at hY;rw[show ((ar+1:Nat):Int)=(ar:Int)+1 from rfl] at hY;have dE:=fj lv y (ar+1) C;generalize deE lv y (ar+1) C=F at *;have zF:=dE.sz _ zC;have lF:F.lg=false->i.at1<F.ws.length:=ig (dC.trans dE);generalize aw:i.at1=iB at *;generalize O:i.ws.length=d at *;have az:∀ wx c,DW wx c rb p0 p1 p2 p3 p4 i->∃ao cap,wx.cell? ⟨rb,8,G0⟩=G1 (.slice ao d cap):=λwx c E=>by rw[<-O];exact E.ll
  have gA:=λwx c E=>eE wx c rb p0 p1 p2 p3 p4 F 14 d 0 E;have z1:=(dV F 14 d 0).sz _ zF;have gC:=λwx c E=>eO wx c rb p0 p1 p2 p3 p4 _ (-1) _ z1 (by omega) (by omega) E;have d1:=eA (F.puts 14 d 0) (-1) 1 (by omega) (by omega);have z2:=d1.sz _ z1;have gD:=λwx c E=>gM wx c rb p0 p1 p2 p3 p4 ((F.puts 14 d 0).grows (-1)) 1 1 _ z2 (by omega) E;have gE:=λwx c E=>eE wx c rb p0 p1 p2 p3 p4 (((F.puts 14 d 0).grows (-1)).val 1 1) 6 0 0 E;have z3:=(dV _ 6 0 0).sz _ ((fi ((F.puts 14 d 0).grows (-1)) 1 1).sz _ z2);have gF:=λwx c E=>eO wx c rb p0 p1 p2 p3 p4 _ (-1) _ z3 (by omega) (by omega) E;have dM:=nU 3 d F;generalize hM:pD 3 d F=M at *;have Q:(((((F.puts 14 d 0).grows (-1)).val 1 1).puts 6 0 0).grows (-1))=M:=hM;rw[Q] at gF;have gG:=λwx c E=>eE wx c rb p0 p1 p2 p3 p4 M 13 d 0 E;have lM:(M.puts 13 d 0).lg=false->iB<(M.puts 13 d 0).ws.length:=λhl=>Hh (lF (by cases hs:F.lg with|false=>rfl|true=>rw[(dM.trans (dV M 13 d 0)).lg hs] at hl;cases hl)) (dM.trans (dV M 13 d 0)).w2;have gH:=λwx c E=>f7 wx c rb p0 p1 p2 p3 p4 (M.puts 13 d 0) iB lM E;clear z1 z2 z3 d1 dM lM lF zF dE zC dC dP;subst hn;rw[if_neg (by omega)];have B:pE 3 d iB F=(M.puts 13 d 0).lands iB:=by rw[<-hM];rfl
  rw[B];clear B hM Q;clear p ox oy sx sy t j ho zA zB kB kC HP aw O D q E1 z;go_enter JB,Jr;go_upto_region 1 with fail;rw[<-l,<-HG.out];clear l;go_wp2_with fail;refine H.mono ?_;rintro e w2 ⟨rfl,o2,E2,S2⟩;have W:=T1.trans S2;clear S2 c0 c1 c2 c3 x0 x1 x2 x3 H;obtain⟨c0,c1,c2,c3⟩:=f.out _ _ W;go_wp2_with fail;refine(P w2 o2 E2).mono ?_;rintro e w3 ⟨rfl,o3,I,S3⟩;have V:=W.trans S3;clear S3 c0 c1 c2 c3 P;obtain⟨c0,c1,c2,c3⟩:=f.out _ _ V;obtain⟨D,-⟩:=I.cl;rw[av] at D;obtain⟨al,cl,l8⟩:=az w3 o3 I;go_wp2_with fail;refine(hP w3 o3 I).mono ?_;rintro e w4 ⟨rfl,o4,E4,S4⟩;have T4:=V.trans S4;clear S4 c0 c1 c2 c3 hP D l8;obtain⟨c0,c1,c2,c3⟩:=f.out _ _ T4;go_wp2_with fail;refine(hC w4 o4 (X1.step T4 dZ) E4).mono ?_;rintro e w5 ⟨rfl,o5,E5,S5⟩;have U:=T4.trans S5;clear S5 c0 c1 c2 c3 hC;obtain⟨c0,c1,c2,c3⟩:=f.out _ _ U;obtain⟨y0,y1,y2,y3⟩:Nd8 w5 b off y T R:=ag U dZ;have HY:=hY w5 o5 (Sy.stepO U dZ) (X1.step U dZ) E5;go_wp2_with fail;refine HY.mono ?_;rintro e w6 ⟨rfl,o6,E6,S6⟩;have T6:=U.trans S6;clear S6 c0 c1 c2 c3 y0 y1 y2 y3 HY hY;obtain⟨c0,c1,c2,c3⟩:=f.out _ _ T6;go_wp2_with fail;refine(gA w6 o6 E6).mono ?_;rintro e w7 ⟨rfl,o7,E7,S7⟩;have T7:=T6.trans S7;clear S7 c0 c1 c2 c3 gA;obtain⟨c0,c1,c2,c3⟩:=f.out _ _ T7;go_wp2_with fail;refine(gC w7 o7 E7).mono ?_;rintro e w8 ⟨rfl,o8,E8,S8⟩;have T8:=T7.trans S8;clear S8 c0 c1 c2 c3 gC;obtain⟨c0,c1,c2,c3⟩:=f.out _ _ T8;go_wp2_with fail;refine(gD w8 o8 E8).mono ?_;rintro e w9 ⟨rfl,o9,E9,S9⟩;have T9:=T8.trans S9;clear S9 c0 c1 c2 c3 gD;obtain⟨c0,c1,c2,c3⟩:=f.out _ _ T9;go_wp2_with fail;refine(gE w9 o9 E9).mono ?_;rintro e aj ⟨rfl,aq,aE,af⟩;have ab:=T9.trans af;clear af c0 c1 c2 c3 gE;obtain⟨c0,c1,c2,c3⟩:=f.out _ _ ab;go_wp2_with fail;refine(gF aj aq aE).mono ?_;rintro e ai ⟨rfl,ap,aD,ae⟩;have aa:=ab.trans ae;clear ae c0 c1 c2 c3 gF;obtain⟨c0,c1,c2,c3⟩:=f.out _ _ aa;go_wp2_with fail;refine(gG ai ap aD).mono ?_;rintro e ah ⟨rfl,an,aC,ad⟩;have Z:=aa.trans ad;clear ad c0 c1 c2 c3 gG;obtain⟨c0,c1,c2,c3⟩:=f.out _ _ Z;go_wp2_with fail;refine(gH ah an aC).mono ?_;rintro e aG ⟨rfl,am,aB,ac⟩;have Y:=Z.trans ac;clear ac c0 c1 c2 c3 gH;obtain⟨c0,c1,c2,c3⟩:=f.out _ _ Y;go_wp2
  go_end0
  exact⟨rfl,am,aB,S0.trans Y⟩
theorem Co (K:Nat->Int)(nc N:Nat)(HP:iH K nc N)(n:Int)(nm:List UInt8)(a:Int)(x y:Ex)(ao:Option Hw)(cap ar:Nat)(w:G9)(o:Nat->Nat)(rb:Nat)(p0 p1 p2 p3 p4:He)(lv:List Int)(s:Dp)(m:Nat)(hn:n=4)(hN:(Fs.ex x (Fs.ex y .nil)).size<=N)(ho:okE nc ⟨21,n,nm,a,(Fs.ex x (Fs.ex y .nil))⟩)(f:skF K (Fs.ex x (Fs.ex y .nil)) 21 0)(L:lv.length=nc)(J:nc<=256)(ag:ar+(Fs.ex x (Fs.ex y .nil)).size<=1000000)(ad:(Fs.ex x (Fs.ex y .nil)).size<=100000)(S:SnO w o (Fs.ex x (Fs.ex y .nil)) ao)(G:s.ks.length=nc)(hz:s.sz m)(hm:m+(17*(Fs.ex x (Fs.ex y .nil)).size+16)<=100000000)(X:DX w o p4 lv)(h:DW w o rb p0 p1 p2 p3 p4 s) :
  Hn G5 70 #[pt0 rb,exN ⟨21,n,nm,a,(Fs.ex x (Fs.ex y .nil))⟩ ao cap,.int .i64 ar] w (fI w o rb p0 p1 p2 p3 p4 (lQ lv n (deE lv x) (deE lv y) ar s) (.tuple #[])):=by
 have l:=ho.2;simp only at l;have ox:=(et l).1;have oy:=(et (et l).2).1;have t:22<=x.k/\x.k<=25:=f.1.2 ⟨rfl,rfl⟩;have sx:=f.2.2.1;have sy:skE K y:=⟨λhs=>absurd (f.2.2.2.1.1 hs).2 (by omega),f.2.2.2.2.1,f.2.2.2.2.2.1⟩;simp only[eG,Fs.size] at hN ag ad hm;obtain⟨w1,o1,g,j,HG,B1,E1,X1,z,S0⟩:=gr #[.int .i64 21,.int .i64 n,stv nm,.slice ao (Fs.ex x (Fs.ex y .nil)).len cap] h X S;have i:=gu B1;obtain⟨c0,c1,c2,c3⟩:=i.out _ _ (as.refl I17 w1 o1);obtain⟨D,-⟩:=E1.cl;have T1:=as.refl I17 w1 o1;clear B1 h X S;rw[dR];simp only;obtain⟨b,off,ak,ck,ah,NN,Sx,NK⟩:=ij (x:=.nil) z 0 rfl;obtain⟨b1,an,T,R,q,aj,Sy,ab⟩:=ij (x:=one x) z 1 rfl;subst ah;injection q with q
 injection q with e1 e2
 subst e1 e2;have p:(Fs.ex x (Fs.ex y .nil)).len=2:=rfl;rw[p] at j i c3 ⊢;obtain⟨x0,x1,x2,x3⟩:Nd4 w1 b off x ak ck:=NN;have H:=n6 K nc N HP x.k x.n x.nm x.a x.kids ak ck ar w1 o1 rb p0 p1 p2 p3 p4 lv s m t (by omega) ox sx L J (by omega) (by omega) Sx G hz (by omega) X1 E1;rw[<-mu t] at H;rw[dR] at H;have dA:=fj lv x ar s;unfold lQ
 dsimp only
 generalize deE lv x ar s=A at *;have zA:=dA.sz m hz;obtain⟨d,v⟩:=exq (iN n A);rw[<-v];have hB:d=(A.val 0 1):=by rw[v];rcases hn with rfl<;>rfl
 have dB:Dle 4 A d:=by rw[v];exact lf n A
 have zB:=dB.sz _ zA;have kB:d.ks.length=nc:=(dB.ks.trans dA.ks).trans G;have P:=λwx c E=>gM wx c rb p0 p1 p2 p3 p4 A 0 1 _ zA (by omega) E;rw[<-hB] at P;clear v dA dB hz G;by_cases u:d.lg=true
 ·rw[if_pos u];have HP:=0;clear HP;clear Sx Sy NK ab aj l ox oy sx sy t f ho zA zB kB X1 z D p E1;subst hn;go_enter JB,Jr;go_upto_region 1 with fail;rw[<-j,<-HG.out];clear j;go_wp2_with fail;refine H.mono ?_;rintro e w2 ⟨rfl,o2,E2,S2⟩;have W:=T1.trans S2;clear S2 c0 c1 c2 c3 x0 x1 x2 x3 H;obtain⟨c0,c1,c2,c3⟩:=i.out _ _ W;go_wp2_with fail;refine(P w2 o2 E2).mono ?_;rintro e w3 ⟨rfl,o3,I,Z⟩;have V:=W.trans Z;clear Z c0 c1 c2 c3 P;obtain⟨c0,c1,c2,c3⟩:=i.out _ _ V;obtain⟨D,-⟩:=I.cl;rw[u] at D;go_wp2
  go_end0
  exact⟨rfl,o3,I,S0.trans V⟩
 ·rw[if_neg u];have ae:d.lg=false:=by simpa using u
  have hP:=λwx c E=>eE wx c rb p0 p1 p2 p3 p4 d 24 0 0 E;have dP:=dV d 24 0 0;have dC:=jq (ar+1) lv 0 (d.puts 24 0 0);have zC:=dC.sz _ (dP.sz _ zB);have kC:=(dC.ks.trans dP.ks).trans kB;have hC:=λwx c X E=>kw ar wx c rb p0 p1 p2 p3 p4 lv (d.puts 24 0 0) (by omega) (by omega) X E;generalize jF (ar+1) lv 0 (d.puts 24 0 0)=C at *;have hY:=λwx c S X E=>HP y T R (ar+1) wx c rb p0 p1 p2 p3 p4 lv C _ (by omega) oy sy L J (by omega) (by omega) S kC zC (by omega) X E;simp only[dR] at hY;rw[show ((ar+1:Nat):Int)=(ar:Int)+1 from rfl] at hY;have dE:=fj lv y (ar+1) C;generalize deE lv y (ar+1) C=F at *;have zF:=dE.sz _ zC;have lF:F.lg=false->d.at1<F.ws.length:=ig (dC.trans dE);generalize af:d.at1=iB at *;generalize O:d.ws.length=r at *;have ai:∀ wx c,DW wx c rb p0 p1 p2 p3 p4 d->∃ao cap,wx.cell? ⟨rb,8,G0⟩=G1 (.slice ao r cap):=λwx c E=>by rw[<-O];exact E.ll
  have gA:=λwx c E=>eE wx c rb p0 p1 p2 p3 p4 F 6 0 0 E;have z1:=(dV F 6 0 0).sz _ zF;have gC:=λwx c E=>eO wx c rb p0 p1 p2 p3 p4 _ (-1) _ z1 (by omega) (by omega) E;have dM:=nU 4 r F;generalize hM:pD 4 r F=M at *;have Q:((F.puts 6 0 0).grows (-1))=M:=hM;rw[Q] at gC;have gG:=λwx c E=>eE wx c rb p0 p1 p2 p3 p4 M 13 r 0 E;have lM:(M.puts 13 r 0).lg=false->iB<(M.puts 13 r 0).ws.length:=λhl=>Hh (lF (by cases hs:F.lg with|false=>rfl|true=>rw[(dM.trans (dV M 13 r 0)).lg hs] at hl;cases hl)) (dM.trans (dV M 13 r 0)).w2;have gH:=λwx c E=>f7 wx c rb p0 p1 p2 p3 p4 (M.puts 13 r 0) iB lM E;clear z1 dM lM lF zF dE zC dC dP;subst hn;rw[if_neg (by omega)];have B:pE 4 r iB F=(M.puts 13 r 0).lands iB:=by rw[<-hM];rfl
  rw[B];clear B hM Q;clear l ox oy sx sy t f ho zA zB kB kC HP af O D p E1 z;go_enter JB,Jr;go_upto_region 1 with fail;rw[<-j,<-HG.out];clear j;go_wp2_with fail;refine H.mono ?_;rintro e w2 ⟨rfl,o2,E2,S2⟩;have W:=T1.trans S2;clear S2 c0 c1 c2 c3 x0 x1 x2 x3 H;obtain⟨c0,c1,c2,c3⟩:=i.out _ _ W;go_wp2_with fail;refine(P w2 o2 E2).mono ?_;rintro e w3 ⟨rfl,o3,I,Z⟩;have V:=W.trans Z;clear Z c0 c1 c2 c3 P;obtain⟨c0,c1,c2,c3⟩:=i.out _ _ V;obtain⟨D,-⟩:=I.cl;rw[ae] at D;obtain⟨al,cl,l8⟩:=ai w3 o3 I;go_wp2_with fail;refine(hP w3 o3 I).mono ?_;rintro e w4 ⟨rfl,o4,E4,S4⟩;have T4:=V.trans S4;clear S4 c0 c1 c2 c3 hP D l8;obtain⟨c0,c1,c2,c3⟩:=i.out _ _ T4;go_wp2_with fail;refine(hC w4 o4 (X1.step T4 dZ) E4).mono ?_;rintro e w5 ⟨rfl,o5,E5,S5⟩;have U:=T4.trans S5;clear S5 c0 c1 c2 c3 hC;obtain⟨c0,c1,c2,c3⟩:=i.out _ _ U;obtain⟨y0,y1,y2,y3⟩:Nd8 w5 b off y T R:=ab U dZ;have HY:=hY w5 o5 (Sy.stepO U dZ) (X1.step U dZ) E5;go_wp2_with fail;refine HY.mono ?_;rintro e w6 ⟨rfl,o6,E6,S6⟩;have T6:=U.trans S6;clear S6 c0 c1 c2 c3 y0 y1 y2 y3 HY hY;obtain⟨c0,c1,c2,c3⟩:=i.out _ _ T6;go_wp2_with fail;refine(gA w6 o6 E6).mono ?_;rintro e w7 ⟨rfl,o7,E7,S7⟩;have T7:=T6.trans S7;clear S7 c0 c1 c2 c3 gA;obtain⟨c0,c1,c2,c3⟩:=i.out _ _ T7;go_wp2_with fail;refine(gC w7 o7 E7).mono ?_;rintro e w8 ⟨rfl,o8,E8,S8⟩;have T8:=T7.trans S8;clear S8 c0 c1 c2 c3 gC;obtain⟨c0,c1,c2,c3⟩:=i.out _ _ T8;go_wp2_with fail;refine(gG w8 o8 E8).mono ?_;rintro e w9 ⟨rfl,o9,E9,S9⟩;have T9:=T8.trans S9;clear S9 c0 c1 c2 c3 gG;obtain⟨c0,c1,c2,c3⟩:=i.out _ _ T9;go_wp2_with fail;refine(gH w9 o9 E9).mono ?_;rintro e ap ⟨rfl,ac,am,aa⟩;have Y:=T9.trans aa;clear aa c0 c1 c2 c3 gH;obtain⟨c0,c1,c2,c3⟩:=i.out _ _ Y;go_wp2
  go_end0
  exact⟨rfl,ac,am,S0.trans Y⟩
theorem CY (K:Nat->Int)(nc N:Nat)(HP:iH K nc N)(n:Int)(nm:List UInt8)(a:Int)(x y:Ex)(ao:Option Hw)(cap ar:Nat)(w:G9)(o:Nat->Nat)(rb:Nat)(p0 p1 p2 p3 p4:He)(lv:List Int)(s:Dp)(m:Nat)(hn:n=5\/n=6)(hN:(Fs.ex x (Fs.ex y .nil)).size<=N)(ho:okE nc ⟨21,n,nm,a,(Fs.ex x (Fs.ex y .nil))⟩)(j:skF K (Fs.ex x (Fs.ex y .nil)) 21 0)(ax:lv.length=nc)(aw:nc<=256)(aF:ar+(Fs.ex x (Fs.ex y .nil)).size<=1000000)(aD:(Fs.ex x (Fs.ex y .nil)).size<=100000)(S:SnO w o (Fs.ex x (Fs.ex y .nil)) ao)(ah:s.ks.length=nc)(hz:s.sz m)(hm:m+(17*(Fs.ex x (Fs.ex y .nil)).size+16)<=100000000)(X:DX w o p4 lv)(h:DW w o rb p0 p1 p2 p3 p4 s) :
  Hn G5 70 #[pt0 rb,exN ⟨21,n,nm,a,(Fs.ex x (Fs.ex y .nil))⟩ ao cap,.int .i64 ar] w (fI w o rb p0 p1 p2 p3 p4 (lQ lv n (deE lv x) (deE lv y) ar s) (.tuple #[])):=by
 have q:=ho.2;simp only at q;have ox:=(et q).1;have oy:=(et (et q).2).1;have Q:22<=x.k/\x.k<=25:=j.1.2 ⟨rfl,rfl⟩;have sx:=j.2.2.1;have sy:skE K y:=⟨λhs=>absurd (j.2.2.2.1.1 hs).2 (by omega),j.2.2.2.2.1,j.2.2.2.2.2.1⟩;simp only[eG,Fs.size] at hN aF aD hm;obtain⟨w1,o1,g,i,HG,B1,E1,X1,U,S0⟩:=gr #[.int .i64 21,.int .i64 n,stv nm,.slice ao (Fs.ex x (Fs.ex y .nil)).len cap] h X S;have d:=gu B1;obtain⟨c0,c1,c2,c3⟩:=d.out _ _ (as.refl I17 w1 o1);obtain⟨O,-⟩:=E1.cl;have T1:=as.refl I17 w1 o1;clear B1 h X S;rw[dR];simp only;obtain⟨b,off,ak,ck,aG,NN,Sx,NK⟩:=ij (x:=.nil) U 0 rfl;obtain⟨b1,aI,aj,ai,t,aH,Sy,am⟩:=ij (x:=one x) U 1 rfl;subst aG;injection t with t
 injection t with e1 e2
 subst e1 e2;have r:(Fs.ex x (Fs.ex y .nil)).len=2:=rfl;rw[r] at i d c3 ⊢;obtain⟨x0,x1,x2,x3⟩:Nd4 w1 b off x ak ck:=NN;have H1:=n6 K nc N HP x.k x.n x.nm x.a x.kids ak ck ar w1 o1 rb p0 p1 p2 p3 p4 lv s m Q (by omega) ox sx ax aw (by omega) (by omega) Sx ah hz (by omega) X1 E1;rw[<-mu Q] at H1;rw[dR] at H1;have dA:=fj lv x ar s;unfold lQ
 dsimp only
 generalize deE lv x ar s=A at *;have zA:=dA.sz m hz;obtain⟨f,T⟩:=exq (iN n A);rw[<-T];have hB:f=((A.val 0 1).val 0 2):=by rw[T];rcases hn with rfl|rfl<;>rfl
 have dB:Dle 4 A f:=by rw[T];exact lf n A
 have zB:=dB.sz _ zA;have kB:f.ks.length=nc:=(dB.ks.trans dA.ks).trans ah;have hV:=λwx c E=>gM wx c rb p0 p1 p2 p3 p4 A 0 1 _ zA (by omega) E;have l:=λwx c E=>gM wx c rb p0 p1 p2 p3 p4 (A.val 0 1) 0 2 _ ((fi A 0 1).sz _ zA) (by omega) E;rw[<-hB] at l;clear T dA dB hz ah;by_cases R:f.lg=true
 ·rw[if_pos R];have HP:=0;clear HP;clear Sx Sy NK am aH q ox oy sx sy Q j ho zA zB kB X1 U O r E1;rcases hn with rfl|rfl
  all_goals
   go_enter JB,Jr;go_upto_region 1 with fail;rw[<-i,<-HG.out];clear i;go_wp2_with fail;refine H1.mono ?_;rintro e w2 ⟨rfl,o2,E2,S2⟩;have Y:=T1.trans S2;clear S2 c0 c1 c2 c3 x0 x1 x2 x3 H1;obtain⟨c0,c1,c2,c3⟩:=d.out _ _ Y;go_wp2_with fail;refine(hV w2 o2 E2).mono ?_;rintro e w3 ⟨rfl,o3,E3,S3⟩;have W:=Y.trans S3;clear S3 c0 c1 c2 c3 hV;obtain⟨c0,c1,c2,c3⟩:=d.out _ _ W;go_wp2_with fail;refine(l w3 o3 E3).mono ?_;rintro e w4 ⟨rfl,o4,P,Z⟩;have V:=W.trans Z;clear Z c0 c1 c2 c3 l;obtain⟨c0,c1,c2,c3⟩:=d.out _ _ V;obtain⟨O,-⟩:=P.cl;rw[R] at O;go_wp2
   go_end0
   exact⟨rfl,o4,P,S0.trans V⟩
 ·rw[if_neg R];have ay:f.lg=false:=by simpa using R
  have hP:=λwx c E=>eE wx c rb p0 p1 p2 p3 p4 f 24 0 0 E;have dP:=dV f 24 0 0;have dC:=jq (ar+1) lv 0 (f.puts 24 0 0);have zC:=dC.sz _ (dP.sz _ zB);have kC:=(dC.ks.trans dP.ks).trans kB;have hC:=λwx c X E=>kw ar wx c rb p0 p1 p2 p3 p4 lv (f.puts 24 0 0) (by omega) (by omega) X E;generalize jF (ar+1) lv 0 (f.puts 24 0 0)=C at *;have hY:=λwx c S X E=>HP y aj ai (ar+1) wx c rb p0 p1 p2 p3 p4 lv C _ (by omega) oy sy ax aw (by omega) (by omega) S kC zC (by omega) X E;simp only[dR] at hY;rw[show ((ar+1:Nat):Int)=(ar:Int)+1 from rfl] at hY;have dE:=fj lv y (ar+1) C;generalize deE lv y (ar+1) C=F at *;have zF:=dE.sz _ zC;have lF:F.lg=false->f.at1<F.ws.length:=ig (dC.trans dE);generalize aE:f.at1=iB at *;generalize az:f.ws.length=p at *;have aB:∀ wx c,DW wx c rb p0 p1 p2 p3 p4 f->∃ao cap,wx.cell? ⟨rb,8,G0⟩=G1 (.slice ao p cap):=λwx c E=>by rw[<-az];exact E.ll
  obtain⟨v,hv⟩:=exq ((n-5).toNat);have gA:=λwx c E=>eE wx c rb p0 p1 p2 p3 p4 F 26 v 0 E;have z1:=(dV F 26 v 0).sz _ zF;have gC:=λwx c E=>eO wx c rb p0 p1 p2 p3 p4 _ (-1) _ z1 (by omega) (by omega) E;have dM:=nU n p F;have aA:((F.puts 26 v 0).grows (-1))=pD n p F:=by rw[hv];rcases hn with rfl|rfl<;>rfl
  unfold pE
  dsimp only
  generalize pD n p F=M at *;rw[aA] at gC;clear aA;have gG:=λwx c E=>eE wx c rb p0 p1 p2 p3 p4 M 13 p 0 E;have lM:(M.puts 13 p 0).lg=false->iB<(M.puts 13 p 0).ws.length:=λhl=>Hh (lF (by cases hs:F.lg with|false=>rfl|true=>rw[(dM.trans (dV M 13 p 0)).lg hs] at hl;cases hl)) (dM.trans (dV M 13 p 0)).w2;have gH:=λwx c E=>f7 wx c rb p0 p1 p2 p3 p4 (M.puts 13 p 0) iB lM E;have gI:=λwx c E=>eE wx c rb p0 p1 p2 p3 p4 ((M.puts 13 p 0).lands iB) 27 0 0 E;have z9:=(dV _ 27 0 0).sz _ ((eJ _ iB).sz _ ((dV M 13 p 0).sz _ (dM.sz _ zF)));have gJ:=λwx c E=>eO wx c rb p0 p1 p2 p3 p4 _ (-1) _ z9 (by omega) (by omega) E;clear z9;clear z1 dM lM lF zF dE zC dC dP;rw[if_neg (show ¬(n=1\/n=2) by omega),if_pos (show 5<=n by omega)];clear q ox oy sx sy Q j ho zA zB kB kC HP aE az O r E1 U;have av:(v:Int)=n-5:=by omega
  rcases hn with rfl|rfl
  ·obtain rfl:v=0:=by omega
   clear av hv;go_enter JB,Jr;go_upto_region 1 with fail;rw[<-i,<-HG.out];clear i;go_wp2_with fail;refine H1.mono ?_;rintro e w2 ⟨rfl,o2,E2,S2⟩;have Y:=T1.trans S2;clear S2 c0 c1 c2 c3 x0 x1 x2 x3 H1;obtain⟨c0,c1,c2,c3⟩:=d.out _ _ Y;go_wp2_with fail;refine(hV w2 o2 E2).mono ?_;rintro e w3 ⟨rfl,o3,E3,S3⟩;have W:=Y.trans S3;clear S3 c0 c1 c2 c3 hV;obtain⟨c0,c1,c2,c3⟩:=d.out _ _ W;go_wp2_with fail;refine(l w3 o3 E3).mono ?_;rintro e w4 ⟨rfl,o4,P,Z⟩;have V:=W.trans Z;clear Z c0 c1 c2 c3 l;obtain⟨c0,c1,c2,c3⟩:=d.out _ _ V;obtain⟨O,-⟩:=P.cl;rw[ay] at O;obtain⟨al,cl,l8⟩:=aB w4 o4 P;go_wp2_with fail;refine(hP w4 o4 P).mono ?_;rintro e w5 ⟨rfl,o5,E5,S5⟩;have T5:=V.trans S5;clear S5 c0 c1 c2 c3 hP O l8;obtain⟨c0,c1,c2,c3⟩:=d.out _ _ T5;go_wp2_with fail;refine(hC w5 o5 (X1.step T5 dZ) E5).mono ?_;rintro e w6 ⟨rfl,o6,E6,S6⟩;have u:=T5.trans S6;clear S6 c0 c1 c2 c3 hC;obtain⟨c0,c1,c2,c3⟩:=d.out _ _ u;obtain⟨y0,y1,y2,y3⟩:Nd8 w6 b off y aj ai:=am u dZ;have HY:=hY w6 o6 (Sy.stepO u dZ) (X1.step u dZ) E6;go_wp2_with fail;refine HY.mono ?_;rintro e w7 ⟨rfl,o7,E7,S7⟩;have T7:=u.trans S7;clear S7 c0 c1 c2 c3 y0 y1 y2 y3 HY hY;obtain⟨c0,c1,c2,c3⟩:=d.out _ _ T7;go_wp2_with fail;refine(gA w7 o7 E7).mono ?_;rintro e w8 ⟨rfl,o8,E8,S8⟩;have T8:=T7.trans S8;clear S8 c0 c1 c2 c3 gA;obtain⟨c0,c1,c2,c3⟩:=d.out _ _ T8;go_wp2_with fail;refine(gC w8 o8 E8).mono ?_;rintro e w9 ⟨rfl,o9,E9,S9⟩;have T9:=T8.trans S9;clear S9 c0 c1 c2 c3 gC;obtain⟨c0,c1,c2,c3⟩:=d.out _ _ T9;go_wp2_with fail;refine(gG w9 o9 E9).mono ?_;rintro e ac ⟨rfl,ag,au,L⟩;have G:=T9.trans L;clear L c0 c1 c2 c3 gG;obtain⟨c0,c1,c2,c3⟩:=d.out _ _ G;go_wp2_with fail;refine(gH ac ag au).mono ?_;rintro e ab ⟨rfl,af,aq,J⟩;have D:=G.trans J;clear J c0 c1 c2 c3 gH;obtain⟨c0,c1,c2,c3⟩:=d.out _ _ D;go_wp2_with fail;refine(gI ab af aq).mono ?_;rintro e aa ⟨rfl,ae,ap,I⟩;have B:=D.trans I;clear I c0 c1 c2 c3 gI;obtain⟨c0,c1,c2,c3⟩:=d.out _ _ B;go_wp2_with fail;refine(gJ aa ae ap).mono ?_;rintro e aC ⟨rfl,ad,an,H⟩;have z:=B.trans H;clear H c0 c1 c2 c3 gJ;obtain⟨c0,c1,c2,c3⟩:=d.out _ _ z;go_wp2
   go_end0
   exact⟨rfl,ad,an,S0.trans z⟩
  ·obtain rfl:v=1:=by omega
   clear av hv;go_enter JB,Jr;go_upto_region 1 with fail;rw[<-i,<-HG.out];clear i;go_wp2_with fail;refine H1.mono ?_;rintro e w2 ⟨rfl,o2,E2,S2⟩;have Y:=T1.trans S2;clear S2 c0 c1 c2 c3 x0 x1 x2 x3 H1;obtain⟨c0,c1,c2,c3⟩:=d.out _ _ Y;go_wp2_with fail;refine(hV w2 o2 E2).mono ?_;rintro e w3 ⟨rfl,o3,E3,S3⟩;have W:=Y.trans S3;clear S3 c0 c1 c2 c3 hV;obtain⟨c0,c1,c2,c3⟩:=d.out _ _ W;go_wp2_with fail;refine(l w3 o3 E3).mono ?_;rintro e w4 ⟨rfl,o4,P,Z⟩;have V:=W.trans Z;clear Z c0 c1 c2 c3 l;obtain⟨c0,c1,c2,c3⟩:=d.out _ _ V;obtain⟨O,-⟩:=P.cl;rw[ay] at O;obtain⟨al,cl,l8⟩:=aB w4 o4 P;go_wp2_with fail;refine(hP w4 o4 P).mono ?_;rintro e w5 ⟨rfl,o5,E5,S5⟩;have T5:=V.trans S5;clear S5 c0 c1 c2 c3 hP O l8;obtain⟨c0,c1,c2,c3⟩:=d.out _ _ T5;go_wp2_with fail;refine(hC w5 o5 (X1.step T5 dZ) E5).mono ?_;rintro e w6 ⟨rfl,o6,E6,S6⟩;have u:=T5.trans S6;clear S6 c0 c1 c2 c3 hC;obtain⟨c0,c1,c2,c3⟩:=d.out _ _ u;obtain⟨y0,y1,y2,y3⟩:Nd8 w6 b off y aj ai:=am u dZ;have HY:=hY w6 o6 (Sy.stepO u dZ) (X1.step u dZ) E6;go_wp2_with fail;refine HY.mono ?_;rintro e w7 ⟨rfl,o7,E7,S7⟩;have T7:=u.trans S7;clear S7 c0 c1 c2 c3 y0 y1 y2 y3 HY hY;obtain⟨c0,c1,c2,c3⟩:=d.out _ _ T7;go_wp2_with fail;refine(gA w7 o7 E7).mono ?_;rintro e w8 ⟨rfl,o8,E8,S8⟩;have T8:=T7.trans S8;clear S8 c0 c1 c2 c3 gA;obtain⟨c0,c1,c2,c3⟩:=d.out _ _ T8;go_wp2_with fail;refine(gC w8 o8 E8).mono ?_;rintro e w9 ⟨rfl,o9,E9,S9⟩;have T9:=T8.trans S9;clear S9 c0 c1 c2 c3 gC;obtain⟨c0,c1,c2,c3⟩:=d.out _ _ T9;go_wp2_with fail;refine(gG w9 o9 E9).mono ?_;rintro e ac ⟨rfl,ag,au,L⟩;have G:=T9.trans L;clear L c0 c1 c2 c3 gG;obtain⟨c0,c1,c2,c3⟩:=d.out _ _ G;go_wp2_with fail;refine(gH ac ag au).mono ?_;rintro e ab ⟨rfl,af,aq,J⟩;have D:=G.trans J;clear J c0 c1 c2 c3 gH;obtain⟨c0,c1,c2,c3⟩:=d.out _ _ D;go_wp2_with fail;refine(gI ab af aq).mono ?_;rintro e aa ⟨rfl,ae,ap,I⟩;have B:=D.trans I;clear I c0 c1 c2 c3 gI;obtain⟨c0,c1,c2,c3⟩:=d.out _ _ B;go_wp2_with fail;refine(gJ aa ae ap).mono ?_;rintro e aC ⟨rfl,ad,an,H⟩;have z:=B.trans H;clear H c0 c1 c2 c3 gJ;obtain⟨c0,c1,c2,c3⟩:=d.out _ _ z;go_wp2
   go_end0
   exact⟨rfl,ad,an,S0.trans z⟩
theorem mV:∀ (f g:Fs),fX f g=true->kdF f=kdF g
 | ⟨G0⟩,⟨G0⟩,_=>rfl
 | ⟨G0⟩,⟨G1 ⟨k',n',nm',a',ks',r'⟩⟩,h=>by cases h
 | ⟨G1 ⟨k,n,nm,a,ks,r⟩⟩,⟨G0⟩,h=>by cases h
 | ⟨G1 ⟨k,n,nm,a,ks,r⟩⟩,⟨G1 ⟨k',n',nm',a',ks',r'⟩⟩,h=>by
  simp only[fX,Ia,beq_iff_eq] at h;obtain⟨⟨⟨⟨h1,h2⟩,h3⟩,h4⟩,h5⟩:=h;simp only[kdF,h1,h2,mV ks ks' h4,mV r r' h5]
theorem xB {x y:Ex}(h:eR x y=true):kdE x=kdE y:=by
 unfold eR at h;simp only[Ia,beq_iff_eq] at h;obtain⟨⟨⟨h1,h2⟩,h3⟩,h4⟩:=h;simp only[kdE,h1,h2,mV _ _ h4]
theorem nN (kd:List Int)(i:Nat):wkP kd i≠4:=by
 unfold wkP;cases kd[i]? with
 | none=>simp
 | some v=>simp only;split<;>omega
theorem ph {k n:Int}{kd:List Int}:(eK k n kd).2=4 ↔ (22<=k/\k<=25):=by
 have h0:=nN kd 0;have h1:=nN kd 1;by_cases hs:22<=k/\k<=25
 ·have hc:k=22\/k=23\/k=24\/k=25:=by omega
  rcases hc with rfl|rfl|rfl|rfl<;>simp[eK]
 ·refine⟨λh=>?_,λh=>absurd h hs⟩;exfalso;unfold eK at h;generalize wkP kd 0=a at h h0;generalize wkP kd 1=b at h h1;by_cases e1:k=1
  ·rw[if_pos e1] at h;cases h
  rw[if_neg e1] at h;by_cases e2:k=2
  ·rw[if_pos e2] at h;cases h
  rw[if_neg e2] at h;by_cases e3:k=3\/k=5
  ·rw[if_pos e3] at h;cases h
  rw[if_neg e3] at h;by_cases e6:k=6
  ·rw[if_pos e6] at h;cases h
  rw[if_neg e6] at h;by_cases e7:k=7
  ·rw[if_pos e7] at h;cases h
  rw[if_neg e7] at h;by_cases e8:8<=k/\k<=12
  ·rw[if_pos e8] at h;cases h
  rw[if_neg e8] at h;by_cases e15:k=15\/k=16
  ·rw[if_pos e15] at h;cases h
  rw[if_neg e15] at h;by_cases e17:k=17\/k=18
  ·rw[if_pos e17] at h;cases h
  rw[if_neg e17] at h;by_cases e13:k=13\/k=14
  ·rw[if_pos e13] at h;cases h
  rw[if_neg e13] at h;by_cases e19:k=19
  ·rw[if_pos e19] at h;exact h1 h
  rw[if_neg e19] at h;by_cases e20:k=20
  ·rw[if_pos e20] at h;split at h
   ·cases h
   split at h
   ·cases h
   split at h<;>cases h
  rw[if_neg e20] at h;by_cases e21:k=21
  ·rw[if_pos e21] at h;split at h
   ·cases h
   split at h<;>cases h
  rw[if_neg e21] at h;by_cases e26:k=26
  ·rw[if_pos e26] at h;exact h0 h
  rw[if_neg e26,if_neg (by omega),if_neg (by omega),if_neg (by omega)] at h;cases h
theorem xD {k n:Int}{kd:List Int}(hk:k≠21):∀ v ∈ (eK k n kd).1,v≠4:=by
 have w0:=nN kd 0;have w1:=nN kd 1;unfold eK;generalize wkP kd 0=a at w0 ⊢;generalize wkP kd 1=b at w1 ⊢;intro v hv h4;subst h4;by_cases e0:k=1
 ·rw[if_pos e0] at hv;simp at hv
 rw[if_neg e0] at hv;by_cases e1:k=2
 ·rw[if_pos e1] at hv;simp at hv
 rw[if_neg e1] at hv;by_cases e2:k=3\/k=5
 ·rw[if_pos e2] at hv;simp at hv
 rw[if_neg e2] at hv;by_cases e3:k=6
 ·rw[if_pos e3] at hv;simp at hv
 rw[if_neg e3] at hv;by_cases e4:k=7
 ·rw[if_pos e4] at hv;simp at hv
 rw[if_neg e4] at hv;by_cases e5:8<=k/\k<=12
 ·rw[if_pos e5] at hv;simp at hv
 rw[if_neg e5] at hv;by_cases e6:k=15\/k=16
 ·rw[if_pos e6] at hv;simp at hv
 rw[if_neg e6] at hv;by_cases e7:k=17\/k=18
 ·rw[if_pos e7] at hv;simp at hv
 rw[if_neg e7] at hv;by_cases e8:k=13\/k=14
 ·rw[if_pos e8] at hv;simp at hv;omega
 rw[if_neg e8] at hv;by_cases e9:k=19
 ·rw[if_pos e9] at hv;simp at hv;omega
 rw[if_neg e9] at hv;by_cases e20:k=20
 ·rw[if_pos e20] at hv;split at hv
  ·simp at hv
  split at hv
  ·simp at hv
  split at hv<;>simp at hv
 rw[if_neg e20,if_neg hk] at hv;by_cases e26:k=26
 ·rw[if_pos e26] at hv;simp at hv;omega
 rw[if_neg e26] at hv;by_cases e22:k=22\/k=23
 ·rw[if_pos e22] at hv;simp at hv
 rw[if_neg e22] at hv;by_cases e24:k=24
 ·rw[if_pos e24] at hv;simp at hv
 rw[if_neg e24] at hv;by_cases e25:k=25
 ·rw[if_pos e25] at hv;simp at hv
 rw[if_neg e25] at hv;simp at hv
theorem oS {k n:Int}{kd:List Int}(h:(eK k n kd).1=kd)(h0:(eK k n kd).2≠0)(j:Nat)(v:Int)(hv:kd[j]?=G1 v):v=4 ↔ (k=21/\j=0):=by
 rw[<-h] at hv;by_cases hk:k=21
 ·subst hk;unfold eK at hv;simp at hv;by_cases n1:n=1\/n=2
  ·rw[if_pos n1] at hv;rcases j with _|_|j<;>simp at hv<;>omega
  ·rw[if_neg n1] at hv;by_cases n3:n=3
   ·rw[if_pos n3] at hv;rcases j with _|_|j<;>simp at hv<;>omega
   ·rw[if_neg n3] at hv;rcases j with _|_|j<;>simp at hv<;>omega
 ·have:=xD hk v (IT hv)
  constructor
  ·intro e;exact absurd e this
  ·intro e;exact absurd e.1 hk
theorem Dh {cells:List Int}:∀ (f:Fs) (pk:Int) (i ar wi:Nat) (s s':Rg) (kd:List Int),rgF cells f pk i ar wi s=G1 (s',kd)->∀ x r,f=Fs.ex x r->∃s2 k rest,rgE cells x (eu pk i ar wi).1 (eu pk i ar wi).2 s=G1 (s2,k)/\rgF cells r pk (i+1) ar wi s2=G1 (s',rest)/\kd=k::rest:=by
 intro f pk i ar wi s s' kd h x r hf;subst hf;rw[iQ] at h;cases hx:rgE cells x (eu pk i ar wi).1 (eu pk i ar wi).2 s with
 | none=>rw[hx] at h;cases h
 | some z =>
  obtain⟨s2,k⟩:=z;rw[hx] at h;simp only at h;cases hq:rgF cells r pk (i+1) ar wi s2 with
  | none=>rw[hq] at h;cases h
  | some z =>
   obtain⟨s3,rest⟩:=z;rw[hq] at h;injection h with h
   injection h with h1 h2
   subst h1;exact⟨s2,k,rest,rfl,hq,h2.symm⟩
theorem yg {cells:List Int}{n:Int}{ks:Fs}{ar:Nat}{s s':Rg}(h:fT cells n ks ar s=G1 s'):(s.2 n.toNat=G0/\s'.2=λi=>if i=n.toNat then G1 ks.head else s.2 i)\/(∃x,s.2 n.toNat=G1 x/\eR x ks.head=true/\s'=s):=by
 unfold fT at h;split at h
 ·cases h
 ·split at h
  ·cases h
  ·split at h
   ·rename_i h1
    injection h with h;subst h
    exact .inl ⟨h1,rfl⟩
   ·rename_i x h1
    split at h
    ·rename_i h2
     injection h with h;subst h
     exact .inr ⟨x,h1,h2,rfl⟩
    ·cases h
structure Kgo (s s':Rg):Prop where
 up:∀ i x,s.2 i=G1 x->s'.2 i=G1 x
 pos:(∀ i x,s.2 i=G1 x->1<=kdE x)->∀ i x,s'.2 i=G1 x->1<=kdE x
theorem Kgo.refl (s:Rg):Kgo s s:=⟨λ_ _ h=>h,λh=>h⟩
theorem Kgo.trans {a b c:Rg}(h:Kgo a b)(k:Kgo b c):Kgo a c:=⟨λi x q=>k.up i x (h.up i x q),λq=>k.pos (h.pos q)⟩
theorem tj {cells:List Int}{n:Int}{ks:Fs}{ar:Nat}{s s':Rg}(h:fT cells n ks ar s=G1 s')(hp:1<=kdE ks.head):Kgo s s'/\∃x,s'.2 n.toNat=G1 x/\kdE x=kdE ks.head:=by
 rcases yg h with ⟨h1,h2⟩|⟨x,h1,h2,rfl⟩
 ·refine⟨⟨λi x q=>?_,λq i x hx=>?_⟩,ks.head,by rw[h2];simp,rfl⟩
  ·rw[h2];simp only;rw[if_neg (by rintro rfl;rw[h1] at q;cases q)];exact q
  ·rw[h2] at hx;simp only at hx;split at hx
   ·injection hx with hx;subst hx;exact hp
   ·exact q i x hx
 ·exact⟨Kgo.refl _,x,h1,xB h2⟩
theorem vO {ks:Fs}(h:ks.len=1):(kdF ks).getD 0 0=kdE ks.head:=by
 obtain⟨v⟩:=ks;cases v with
 | none=>simp[Fs.len] at h
 | some z=>obtain⟨k,n,nm,a,ks,r⟩:=z;simp[kdF,Fs.head,kdE]
theorem vQ {nc:Nat}{ks:Fs}(h:ks.len=1)(ho:okF nc ks):okE nc ks.head:=by
 obtain⟨v⟩:=ks;cases v with
 | none=>simp[Fs.len] at h
 | some z=>obtain⟨k,n,nm,a,ks,r⟩:=z;exact⟨ho.1,ho.2.1⟩
theorem Ei {n:Int}{nm:List UInt8}{len:Nat}(h:eg 26 n nm len=true):len=1:=by
 unfold eg at h;simp at h;exact h.2
theorem Ay (cells:List Int)(nc:Nat):∀ (f:Fs) (pk:Int) (i ar wi:Nat) (s s':Rg) (kd:List Int),okF nc f->rgF cells f pk i ar wi s=G1 (s',kd) ->
  Kgo s s'/\∀ K:Nat->Int,(∀ i x,s'.2 i=G1 x->kdE x=K i)->(∀ j v,kd[j]?=G1 v->(v=4 ↔ (pk=21/\i+j=0)))->skF K f pk i
 | ⟨G0⟩,pk,i,ar,wi,s,s',kd,ho,h=>by
  simp only[rgF] at h;injection h with h
  injection h with h1 h2
  subst h1;exact⟨Kgo.refl _,λ_ _ _=>trivial⟩
 | ⟨G1 ⟨k,n,nm,a,ks,r⟩⟩,pk,i,ar,wi,s,s',kd,ho,h=>by
  obtain⟨s2,k2,rest,hx,hr,rfl⟩:=Dh _ pk i ar wi s s' kd h ⟨k,n,nm,a,ks⟩ r rfl;obtain⟨hg,s1,kd1,hk,hl,h0,h1,h2,h3⟩:=gN hx;simp only at hk hl h0 h1 h2 h3;obtain⟨g1,f1⟩:=Ay cells nc ks k 0 _ _ _ _ _ ho.2.1 hk;obtain⟨g3,f3⟩:=Ay cells nc r pk (i+1) ar wi _ _ _ ho.2.2 hr;have g1':Kgo s s1:=⟨λi x q=>g1.up i x q,λq=>g1.pos q⟩;have g2:Kgo s1 s2/\(k=26->∃x,s2.2 n.toNat=G1 x/\kdE x=(kdF ks).getD 0 0):=by
   by_cases e:k=26
   ·rw[if_pos e] at h3;subst e;have hl1:=Ei ho.1.1;have hp:=(lN (vQ hl1 ho.2.1)).1;obtain⟨a1,x,a2,a3⟩:=tj h3 hp;exact⟨a1,λ_=>⟨x,a2,by rw[a3,vO hl1]⟩⟩
   ·rw[if_neg e] at h3;injection h3 with h3
    subst h3;exact⟨Kgo.refl _,λh=>absurd h e⟩
  refine⟨(g1'.trans g2.1).trans g3,λK hK hv=>⟨?_,λe=>?_,?_,?_⟩⟩
  ·have:=hv 0 k2 rfl
   rw[h2,ph] at this;simpa using this
  ·obtain⟨x,a1,a2⟩:=g2.2 e;rw[<-a2];exact hK _ _ (g3.up _ _ a1)
  ·exact f1 K (λi x q=>hK i x (g3.up i x (g2.1.up i x q))) (λj v q=>by have:=oS h1 h0 j v q;simpa using this)
  ·exact f3 K hK (λj v q=>by have:=hv (j+1) v q;rw[this];omega)
theorem Gu {nc:Nat}{cells:List Int}{e:Ex}(h:fh cells e≠0)(ho:okE nc e):∃K:Nat->Int,(∀ i,1<=K i)/\skE K e:=by
 obtain⟨-,-,s,hx,h4⟩:=mY h;obtain⟨hg,s1,kd,hk,hl,h0,h1,h2,h3⟩:=gN hx;obtain⟨g1,f1⟩:=Ay cells nc e.kids e.k 0 _ _ _ _ _ ho.2 hk;have g1':Kgo (0,λ_=>G0) s1:=⟨λi x q=>g1.up i x q,λq=>g1.pos q⟩;have g2:Kgo s1 s/\(e.k=26->∃x,s.2 e.n.toNat=G1 x/\kdE x=(kdF e.kids).getD 0 0):=by
  by_cases ek:e.k=26
  ·rw[if_pos ek] at h3;have hl1:e.kids.len=1:=by
    have:=ho.1.1
    rw[ek] at this;exact Ei this
   have hp:=(lN (vQ hl1 ho.2)).1;obtain⟨a1,x,a2,a3⟩:=tj h3 hp;exact⟨a1,λ_=>⟨x,a2,by rw[a3,vO hl1]⟩⟩
  ·rw[if_neg ek] at h3;injection h3 with h3
   subst h3;exact⟨Kgo.refl _,λh=>absurd h ek⟩
 have hpos:=(g1'.trans g2.1).pos (λi x q=>by cases q)
 let K:Nat->Int:=λi=>match s.2 i with|none=>1|some x=>kdE x
 have hK:∀ i x,s.2 i=G1 x->kdE x=K i:=λi x q=>by simp only[K];rw[q]
 refine⟨K,λi=>?_,?_,λek=>?_,?_⟩
 ·simp only[K];cases hs:s.2 i with
  | none=>simp
  | some x=>exact hpos i x hs
 ·rw[<-ph (n:=e.n) (kd:=kd),<-h2];exact h4
 ·obtain⟨x,a1,a2⟩:=g2.2 ek;rw[<-a2];exact hK _ _ a1
 ·exact f1 K (λi x q=>hK i x (g2.1.up i x q)) (λj v q=>by have:=oS h1 h0 j v q;simpa using this)
theorem FP (K:Nat->Int)(nc N:Nat)(HP:iH K nc N)(n:Int)(nm:List UInt8)(a:Int)(x:Ex)(ao:Option Hw)(cap ar:Nat)(w:G9)(o:Nat->Nat)(rb:Nat)(p0 p1 p2 p3 p4:He)(lv:List Int)(s:Dp)(m:Nat)(hN:(Fs.ex x .nil).size<=N)(ho:okE nc ⟨26,n,nm,a,(Fs.ex x .nil)⟩)(U:skF K (Fs.ex x .nil) 26 0)(aj:lv.length=nc)(ai:nc<=256)(al:ar+(Fs.ex x .nil).size<=1000000)(ah:(Fs.ex x .nil).size<=100000)(S:SnO w o (Fs.ex x .nil) ao)(W:s.ks.length=nc)(hz:s.sz m)(hm:m+(17*(Fs.ex x .nil).size+16)<=100000000)(X:DX w o p4 lv)(h:DW w o rb p0 p1 p2 p3 p4 s) :
  Hn G5 69 #[pt0 rb,exN ⟨26,n,nm,a,(Fs.ex x .nil)⟩ ao cap,.int .i64 ar] w (fI w o rb p0 p1 p2 p3 p4 (um n.toNat (kdE x) (deE lv x) ar s) (.tuple #[])):=by
 have L:=ho.2;simp only at L;have ox:=(et L).1;have hn:0<=n/\n<(nc:Int):=ho.1.2.2.1 rfl;obtain⟨n0,V⟩:∃n0:Nat,(n0:Int)=n:=⟨n.toNat,by omega⟩;subst V;rw[IE];have sx:skE K x:=kW (by omega) U;have aq:=lN ox;simp only[eG,Fs.size] at hN al ah hm;obtain⟨w1,c,g,A,HG,B1,E1,X1,Z,S0⟩:=gr #[.int .i64 26,.int .i64 n0,stv nm,.slice ao (Fs.ex x .nil).len cap] h X S;have f:=gu B1;obtain⟨c0,c1,c2,c3⟩:=f.out _ _ (as.refl I17 w1 c);obtain⟨l1,-⟩:=E1.cl;have T1:=as.refl I17 w1 c;clear B1 h X S;rw[dR];simp only;obtain⟨b,off,ak,ck,am,NN,Sx,NK⟩:=ij (x:=.nil) Z 0 rfl;subst am;have C:(Fs.ex x .nil).len=1:=rfl;rw[C] at A f c3 ⊢;have H:=λw2 (S2:SnA w2 x.kids ak)=>vV K nc (N+1) x ak ck w2 (by omega) ox sx S2;rw[dR] at H;obtain⟨d,l⟩:=exq (s.cel n0 (kdE x));have dC:=rL s n0 (kdE x);rw[<-l] at dC;have zC:=dC.sz m hz;have kC:=dC.ks.trans W;have hP:=λwx i E=>eE wx i rb p0 p1 p2 p3 p4 d 17 n0 0 E;have dP:=dV d 17 n0 0;have zP:=dP.sz _ zC;have hY:=λwx i S X E=>HP x ak ck ar wx i rb p0 p1 p2 p3 p4 lv (d.puts 17 n0 0) _ (by omega) ox sx aj ai (by omega) (by omega) S (dP.ks.trans kC) zP (by omega) X E;simp only[dR] at hY;have dF:=fj lv x ar (d.puts 17 n0 0);have ac:um n0 (kdE x) (deE lv x) ar s=((deE lv x ar (d.puts 17 n0 0)).puts 18 n0 0).lands d.at1:=by rw[l];rfl
 rw[ac];clear ac;generalize deE lv x ar (d.puts 17 n0 0)=F at *;have hQ:=λwx i E=>eE wx i rb p0 p1 p2 p3 p4 F 18 n0 0 E;have lF:(F.puts 18 n0 0).lg=false->d.at1<(F.puts 18 n0 0).ws.length:=ig (dF.trans (dV F 18 n0 0));generalize af:d.at1=iC at *;have hR:=λwx i E=>f7 wx i rb p0 p1 p2 p3 p4 (F.puts 18 n0 0) iC lF E;have h7:=E1;obtain⟨wl,vc,vn,vk,vw,q0,q1,q2,q3,q4⟩:=E1;obtain⟨gk,Q,rfl,aa,-,-,ad,Y,ae⟩:=q4.pos (by omega);have ab:rb≠gk:=λe=>by have:=q0.2;rw[e,aa] at this;cases this
 have V:n0<s.ks.length:=by omega
 have r7:=(fq q0.1).1.2.2.2.1;have rz:w1.cell? ⟨gk,n0,G0⟩=G1 (.int .i64 (s.ks.getD n0 0)):=by
  rw[Y n0 (by omega)];simp[eiV,V,Ib]
 have ap:(n0:Int)<(s.ks.length:Int):=by omega
 obtain⟨y,M⟩:=exq (kdE x);by_cases h0:s.ks.getD n0 0=0
 ·have O:d={ s with ks:=s.ks.set n0 y }:=by rw[l,M];unfold Dp.cel;rw[if_pos h0]
  rw[h0] at rz;have HS:Hid (∀ w2,Hf w1.heap.size w1 w2->DW (w2.setCell ⟨gk,n0,G0⟩ (.int .i64 y)) c rb p0 p1 p2 p3 p4 d/\as I17 w1 c (w2.setCell ⟨gk,n0,G0⟩ (.int .i64 y)) c):=λw2 B=>by
   have R:=as.ofBelow (I:=λ_=>False) c B;have z:as (λk=>k=5) w1 c (w2.setCell ⟨gk,n0,G0⟩ (.int .i64 y)) c:=(as.ofBelow c B).setCell ⟨gk,n0,G0⟩ _ aa;rw[O];refine⟨⟨wl,_,_,_,_,q0.step z (by decide),q1.step z (by decide),q2.step z (by decide),q3.step z (by decide),?_⟩,z.mono (fC (by decide))⟩;have r:=(q4.step R id).store n0 (.int .i64 y);have e2:eiV (s.ks.set n0 y)=(eiV s.ks).set n0 (.int .i64 y):=by simp[eiV]
   have e3:(s.ks.set n0 y).length=s.ks.length:=by simp
   simp only[e2,e3];exact r
  have FZ:Hid (∀ w2,Hf w1.heap.size w1 w2->w2.cell? ⟨rb,7,G0⟩=G1 (.slice (G1 ⟨gk,0,G0⟩) s.ks.length Q)/\(∃v,w2.cell? ⟨gk,n0,G0⟩=G1 v)/\w2.frozen? ⟨gk,n0,G0⟩=false):=λw2 B=>by
   refine⟨(B.cell (p:=⟨rb,7,G0⟩) q0.lt).trans r7,⟨.int .i64 0,?_⟩,?_⟩
   ·rw[B.cell (p:=⟨gk,n0,G0⟩) ad];exact rz
   ·have e:=B.block gk ad
    have:=ae n0
    unfold Ki at this ⊢;rw[e];exact this
  rw[<-M] at H;have G:Hid (∀ w' o',as I17 w1 c w' o'->Nd4 w' b off x ak ck):=λw' o' T=>NK T dZ;clear l O q0 q1 q2 q3 q4 Y ae dC zC kC dP zP dF af h7 hz W l1 hn ho L U HP Z NN lF wl M h0 C;go_enter Tryz.func69,Tryz.ntmps69;go_upto_region 1 with fail;rw[<-A,<-HG.out];clear A;have BD:∀ q,Hf w1.heap.size w1 (w1.drewN q):=λq=>⟨rfl,rfl,rfl,G4 _,λ_ _=>rfl⟩
  go_quiet (fail)
  have BD:=BD nq;generalize w1.drewN nq=wd at *;clear c0 c1 c2 c3 r7 rz;obtain⟨c0,c1,c2,c3⟩:=f.out _ _ (as.ofBelow (I:=I17) c BD);obtain⟨r7,⟨an,ag⟩,rf⟩:=FZ.out wd BD;obtain⟨R,z,x2,x3⟩:=G.out _ _ (as.ofBelow (I:=I17) c BD);have t:=BD.drew;obtain⟨d0,d1,d2,d3⟩:=f.out _ _ (as.ofBelow (I:=I17) c t);obtain⟨u7,⟨uz,ur⟩,uf⟩:=FZ.out wd.drew t;obtain⟨y0,y1,y2,y3⟩:=G.out _ _ (as.ofBelow (I:=I17) c t);have HK:=H wd.drew (Sx.all.below t);clear H;go_upto_region 2 with fail;go_region_held3 (λwx=>wx.cell? ⟨g,1,G0⟩=G1 (.int .i64 n0)/\wx.cell? ⟨g,3,G0⟩=G1 (.slice (G1 ⟨b,off,G0⟩) 1 cap)/\wx.cell? ⟨rb,7,G0⟩=G1 (.slice (G1 ⟨gk,0,G0⟩) s.ks.length Q)/\(wx.cell? ⟨b,off,G0⟩=G1 (.int .i64 x.k)/\wx.cell? ⟨b,off+1,G0⟩=G1 (.int .i64 x.n)/\wx.cell? ⟨b,off+2,G0⟩=G1 (stv x.nm)/\wx.cell? ⟨b,off+3,G0⟩=G1 (.slice ak x.kids.len ck))) (go_keep) (first|(go_at_call 113;refine HK.mono ?_;rintro e w2 ⟨rfl,B2⟩;have u:=t.trans (B2.mono t.size);obtain⟨e0,e1,e2,e3⟩:=f.out _ _ (as.ofBelow (I:=I17) c u);obtain⟨t7,⟨tz,tr⟩,tf⟩:=FZ.out w2 u;obtain⟨z0,z1,z2,z3⟩:=G.out _ _ (as.ofBelow (I:=I17) c u);obtain⟨m0,m1,m2,m3⟩:=f.out _ _ (HS.out w2 u).2;obtain⟨v0,v1,v2,v3⟩:=G.out _ _ (HS.out w2 u).2;have mr:=(Ho (a:=⟨rb,7,G0⟩) (Hl w2 ⟨gk,n0,G0⟩ rb (.int .i64 y) ab)).trans t7))
  all_goals
   obtain⟨E3,P⟩:=HS.out w2 u;clear HS FZ HK G c0 c1 c2 c3 r7 ag rf R z x2 x3 d0 d1 d2 d3 u7 ur uf y0 y1 y2 y3 e0 e1 e2 e3 t7 tr tf z0 z1 z2 z3 m0 m1 m2 m3 v0 v1 v2 v3 mr;generalize w2.setCell ⟨gk,n0,G0⟩ (.int .i64 y)=w3 at *;obtain⟨c0,c1,c2,c3⟩:=f.out _ _ P;obtain⟨J,j⟩:=exq c;rw[<-j] at E3;have P:as I17 w1 c w3 J:=by rw[j];exact P
   clear j;go_wp2_with fail;refine(hP w3 J E3).mono ?_;rintro e w4 ⟨rfl,o4,E4,S4⟩;have D:=P.trans S4;clear S4 c0 c1 c2 c3 hP;obtain⟨c0,c1,c2,c3⟩:=f.out _ _ D;obtain⟨R,z,x2,x3⟩:Nd4 w4 b off x ak ck:=NK D dZ;have HY:=hY w4 o4 (Sx.stepO D dZ) (X1.step D dZ) E4;go_wp2_with fail;refine HY.mono ?_;rintro e w5 ⟨rfl,o5,E5,S5⟩;have T5:=D.trans S5;clear S5 c0 c1 c2 c3 R z x2 x3 HY hY;obtain⟨c0,c1,c2,c3⟩:=f.out _ _ T5;go_wp2_with fail;refine(hQ w5 o5 E5).mono ?_;rintro e w6 ⟨rfl,o6,E6,S6⟩;have T6:=T5.trans S6;clear S6 c0 c1 c2 c3 hQ;obtain⟨c0,c1,c2,c3⟩:=f.out _ _ T6;go_wp2_with fail;refine(hR w6 o6 E6).mono ?_;rintro e w7 ⟨rfl,o7,E7,S7⟩;have T7:=T6.trans S7;clear S7 c0 c1 c2 c3 hR;obtain⟨c0,c1,c2,c3⟩:=f.out _ _ T7;go_wp2
   go_end0
   exact⟨rfl,o7,E7,S0.trans T7⟩
 ·have O:d=s:=by rw[l];unfold Dp.cel;rw[if_neg h0]
  subst O;have au:(d.ks.getD n0 0==0)=false:=by simpa using h0
  generalize d.ks.getD n0 0=z0 at *;have TD:∀ q,as I17 w1 c (w1.drewN q) c:=λq=>(as.refl _ w1 c).drewN q;have ED:∀ q,DW (w1.drewN q) c rb p0 p1 p2 p3 p4 d:=λq=>h7.step ((as.refl (λ_=>False) w1 c).drewN q) noF;clear l q0 q1 q2 q3 q4 Y dC zC kC dP zP dF af hz W l1 hn ho L U HP Z NN lF wl M C H h7;go_enter Tryz.func69,Tryz.ntmps69;go_upto_region 1 with fail;rw[<-A,<-HG.out];clear A
  go_quiet (fail)
  have P:=TD nq;have E3:=ED nq;clear TD ED;generalize w1.drewN nq=w3 at *;clear c0 c1 c2 c3 r7 rz;obtain⟨c0,c1,c2,c3⟩:=f.out _ _ P;obtain⟨J,j⟩:=exq c;rw[<-j] at E3;have P:as I17 w1 c w3 J:=by rw[j];exact P
  clear j;go_wp2_with fail;refine(hP w3 J E3).mono ?_;rintro e w4 ⟨rfl,o4,E4,S4⟩;have D:=P.trans S4;clear S4 c0 c1 c2 c3 hP;obtain⟨c0,c1,c2,c3⟩:=f.out _ _ D;obtain⟨R,z,x2,x3⟩:Nd4 w4 b off x ak ck:=NK D dZ;have HY:=hY w4 o4 (Sx.stepO D dZ) (X1.step D dZ) E4;go_wp2_with fail;refine HY.mono ?_;rintro e w5 ⟨rfl,o5,E5,S5⟩;have T5:=D.trans S5;clear S5 c0 c1 c2 c3 R z x2 x3 HY hY;obtain⟨c0,c1,c2,c3⟩:=f.out _ _ T5;go_wp2_with fail;refine(hQ w5 o5 E5).mono ?_;rintro e w6 ⟨rfl,o6,E6,S6⟩;have T6:=T5.trans S6;clear S6 c0 c1 c2 c3 hQ;obtain⟨c0,c1,c2,c3⟩:=f.out _ _ T6;go_wp2_with fail;refine(hR w6 o6 E6).mono ?_;rintro e w7 ⟨rfl,o7,E7,S7⟩;have T7:=T6.trans S7;clear S7 c0 c1 c2 c3 hR;obtain⟨c0,c1,c2,c3⟩:=f.out _ _ T7;go_wp2
  go_end0
  exact⟨rfl,o7,E7,S0.trans T7⟩
theorem Fh (k n:Int)(nm:List UInt8)(a:Int)(ks:Fs)(ao:Option Hw)(cap ar:Nat)(w:G9)(o:Nat->Nat)(rb:Nat)(p0 p1 p2 p3 p4:He)(lv:List Int)(s:Dp)(m:Nat)(R:Dp)(y:k=13\/k=14\/k=15\/k=16)(H:∀ wx b,SnO wx b ks ao->DX wx b p4 lv->DW wx b rb p0 p1 p2 p3 p4 s->Hn G5 68 #[pt0 rb,exN ⟨k,n,nm,a,ks⟩ ao cap,.int .i64 ar] wx (fI wx b rb p0 p1 p2 p3 p4 R (.tuple #[])))(j:s.lg=false)(S:SnO w o ks ao)(X:DX w o p4 lv)(h:DW w o rb p0 p1 p2 p3 p4 s) :
  Hn G5 34 #[pt0 rb,exN ⟨k,n,nm,a,ks⟩ ao cap,.int .i64 ar] w (fI w o rb p0 p1 p2 p3 p4 (R) (.tuple #[])):=by
 obtain⟨w1,i,g,c,B,u,l,p,d,A⟩:=gr #[.int .i64 k,.int .i64 n,stv nm,.slice ao ks.len cap] h X S;have t:=gu u;obtain⟨c0,c1,c2,c3⟩:=t.out _ _ (as.refl I17 w1 i);obtain⟨x,-⟩:=l.cl;have z:=as.refl I17 w1 i;clear u h X S;rw[dR];simp only;rw[j] at x;have f:=H w1 i d p l;rw[dR] at f;simp only at f;generalize ks.len=le at *;clear H d p l;rcases y with rfl|rfl|rfl|rfl
 all_goals
  go_enter JH,Jz;go_upto_region 1 with fail;rw[<-c,<-B.out];clear c;go_wp2_with fail;refine f.mono ?_;rintro e w2 ⟨rfl,v,C,r⟩;have q:=z.trans r;clear r c0 c1 c2 c3 f;obtain⟨c0,c1,c2,c3⟩:=t.out _ _ q;go_wp2
  go_end0
  exact⟨rfl,v,C,A.trans q⟩
theorem Ep (k n:Int)(nm:List UInt8)(a:Int)(ks:Fs)(ao:Option Hw)(cap ar:Nat)(w:G9)(o:Nat->Nat)(rb:Nat)(p0 p1 p2 p3 p4:He)(lv:List Int)(s:Dp)(m:Nat)(R:Dp)(y:k=26)(H:∀ wx b,SnO wx b ks ao->DX wx b p4 lv->DW wx b rb p0 p1 p2 p3 p4 s->Hn G5 69 #[pt0 rb,exN ⟨k,n,nm,a,ks⟩ ao cap,.int .i64 ar] wx (fI wx b rb p0 p1 p2 p3 p4 R (.tuple #[])))(j:s.lg=false)(S:SnO w o ks ao)(X:DX w o p4 lv)(h:DW w o rb p0 p1 p2 p3 p4 s) :
  Hn G5 34 #[pt0 rb,exN ⟨k,n,nm,a,ks⟩ ao cap,.int .i64 ar] w (fI w o rb p0 p1 p2 p3 p4 (R) (.tuple #[])):=by
 obtain⟨w1,i,g,c,B,u,l,p,d,A⟩:=gr #[.int .i64 k,.int .i64 n,stv nm,.slice ao ks.len cap] h X S;have t:=gu u;obtain⟨c0,c1,c2,c3⟩:=t.out _ _ (as.refl I17 w1 i);obtain⟨x,-⟩:=l.cl;have z:=as.refl I17 w1 i;clear u h X S;rw[dR];simp only;rw[j] at x;have f:=H w1 i d p l;rw[dR] at f;simp only at f;generalize ks.len=le at *;clear H d p l;subst y;go_enter JH,Jz;go_upto_region 1 with fail;rw[<-c,<-B.out];clear c;go_wp2_with fail;refine f.mono ?_;rintro e w2 ⟨rfl,v,C,r⟩;have q:=z.trans r;clear r c0 c1 c2 c3 f;obtain⟨c0,c1,c2,c3⟩:=t.out _ _ q;go_wp2
 go_end0
 exact⟨rfl,v,C,A.trans q⟩
theorem EL (k n:Int)(nm:List UInt8)(a:Int)(ks:Fs)(ao:Option Hw)(cap ar:Nat)(w:G9)(o:Nat->Nat)(rb:Nat)(p0 p1 p2 p3 p4:He)(lv:List Int)(s:Dp)(m:Nat)(R:Dp)(y:k=21)(H:∀ wx b,SnO wx b ks ao->DX wx b p4 lv->DW wx b rb p0 p1 p2 p3 p4 s->Hn G5 70 #[pt0 rb,exN ⟨k,n,nm,a,ks⟩ ao cap,.int .i64 ar] wx (fI wx b rb p0 p1 p2 p3 p4 R (.tuple #[])))(j:s.lg=false)(S:SnO w o ks ao)(X:DX w o p4 lv)(h:DW w o rb p0 p1 p2 p3 p4 s) :
  Hn G5 34 #[pt0 rb,exN ⟨k,n,nm,a,ks⟩ ao cap,.int .i64 ar] w (fI w o rb p0 p1 p2 p3 p4 (R) (.tuple #[])):=by
 obtain⟨w1,i,g,c,B,u,l,p,d,A⟩:=gr #[.int .i64 k,.int .i64 n,stv nm,.slice ao ks.len cap] h X S;have t:=gu u;obtain⟨c0,c1,c2,c3⟩:=t.out _ _ (as.refl I17 w1 i);obtain⟨x,-⟩:=l.cl;have z:=as.refl I17 w1 i;clear u h X S;rw[dR];simp only;rw[j] at x;have f:=H w1 i d p l;rw[dR] at f;simp only at f;generalize ks.len=le at *;clear H d p l;subst y;go_enter JH,Jz;go_upto_region 1 with fail;rw[<-c,<-B.out];clear c;go_wp2_with fail;refine f.mono ?_;rintro e w2 ⟨rfl,v,C,r⟩;have q:=z.trans r;clear r c0 c1 c2 c3 f;obtain⟨c0,c1,c2,c3⟩:=t.out _ _ q;go_wp2
 go_end0
 exact⟨rfl,v,C,A.trans q⟩
theorem Fb (k n:Int)(nm:List UInt8)(a:Int)(ks:Fs)(ao:Option Hw)(cap ar:Nat)(w:G9)(o:Nat->Nat)(rb:Nat)(p0 p1 p2 p3 p4:He)(lv:List Int)(s:Dp)(m:Nat)(R:Dp)(y:k=17\/k=18\/k=19)(H:∀ wx b,SnO wx b ks ao->DX wx b p4 lv->DW wx b rb p0 p1 p2 p3 p4 s->Hn G5 71 #[pt0 rb,exN ⟨k,n,nm,a,ks⟩ ao cap,.int .i64 ar] wx (fI wx b rb p0 p1 p2 p3 p4 R (.tuple #[])))(j:s.lg=false)(S:SnO w o ks ao)(X:DX w o p4 lv)(h:DW w o rb p0 p1 p2 p3 p4 s) :
  Hn G5 34 #[pt0 rb,exN ⟨k,n,nm,a,ks⟩ ao cap,.int .i64 ar] w (fI w o rb p0 p1 p2 p3 p4 (R) (.tuple #[])):=by
 obtain⟨w1,i,g,c,B,u,l,p,d,A⟩:=gr #[.int .i64 k,.int .i64 n,stv nm,.slice ao ks.len cap] h X S;have t:=gu u;obtain⟨c0,c1,c2,c3⟩:=t.out _ _ (as.refl I17 w1 i);obtain⟨x,-⟩:=l.cl;have z:=as.refl I17 w1 i;clear u h X S;rw[dR];simp only;rw[j] at x;have f:=H w1 i d p l;rw[dR] at f;simp only at f;generalize ks.len=le at *;clear H d p l;rcases y with rfl|rfl|rfl
 all_goals
  go_enter JH,Jz;go_upto_region 1 with fail;rw[<-c,<-B.out];clear c;go_wp2_with fail;refine f.mono ?_;rintro e w2 ⟨rfl,v,C,r⟩;have q:=z.trans r;clear r c0 c1 c2 c3 f;obtain⟨c0,c1,c2,c3⟩:=t.out _ _ q;go_wp2
  go_end0
  exact⟨rfl,v,C,A.trans q⟩
theorem DV (k n:Int)(nm:List UInt8)(a:Int)(ks:Fs)(ao:Option Hw)(cap ar:Nat)(w:G9)(o:Nat->Nat)(rb:Nat)(p0 p1 p2 p3 p4:He)(lv:List Int)(s:Dp)(m:Nat)(d:s.lg=true)(S:SnO w o ks ao)(X:DX w o p4 lv)(h:DW w o rb p0 p1 p2 p3 p4 s) :
  Hn G5 34 #[pt0 rb,exN ⟨k,n,nm,a,ks⟩ ao cap,.int .i64 ar] w (fI w o rb p0 p1 p2 p3 p4 (s) (.tuple #[])):=by
 obtain⟨w1,c,g,b,t,j,i,p,e,r⟩:=gr #[.int .i64 k,.int .i64 n,stv nm,.slice ao ks.len cap] h X S;have f:=gu j;obtain⟨c0,c1,c2,c3⟩:=f.out _ _ (as.refl I17 w1 c);obtain⟨l,-⟩:=i.cl;have q:=as.refl I17 w1 c;clear j h X S;rw[dR];simp only;rw[d] at l;clear e p f;go_enter JH,Jz;go_upto_region 1 with fail;rw[<-b,<-t.out];clear b;go_wp2
 go_end0
 exact⟨rfl,c,i,r.trans q⟩
theorem uu (K:Nat->Int)(nc N:Nat)(v:iH K nc N):iH K nc (N+1):=by
 intro e ao cap ar w o rb p0 p1 p2 p3 p4 lv s m V q H g f d b S i p u X h;by_cases A:s.lg=true
 ·rw[Ap H.1 A];exact DV e.k e.n e.nm e.a e.kids ao cap ar w o rb p0 p1 p2 p3 p4 lv s m A S X h
 have l:s.lg=false:=by simpa using A
 obtain⟨k,n,nm,a,ks⟩:=e;obtain⟨I,-,c⟩:=H;simp only at V c I d b u S;have j:ks.size<=N:=by omega
 have r:=lp q.1.1;have C:=pt q.1.1;simp only at r C;have M:=gX q.1.1;simp only at M;unfold deE oT
 dsimp only
 rw[if_neg I,if_neg A];by_cases R:k=1
 ·rw[if_pos R];exact zj k n nm a ks ao cap ar w o rb p0 p1 p2 p3 p4 lv s m 1 (.inl ⟨R,rfl⟩) l S p (by omega) X h
 rw[if_neg R];by_cases Q:k=2
 ·rw[if_pos Q];exact zj k n nm a ks ao cap ar w o rb p0 p1 p2 p3 p4 lv s m 2 (.inr ⟨Q,rfl⟩) l S p (by omega) X h
 rw[if_neg Q];by_cases P:k=3
 ·rw[if_pos P];exact En k n nm a ks ao cap ar w o rb p0 p1 p2 p3 p4 lv s m P l S p (by omega) X h
 rw[if_neg P];by_cases L:k=5
 ·rw[if_pos L];exact Ew k n nm a ks ao cap ar w o rb p0 p1 p2 p3 p4 lv s m L (r.2.2.2.2.2.1 (.inl L)) l S p (by omega) X h
 rw[if_neg L];by_cases O:6<=k/\k<=12
 ·rw[if_pos O];exact EV K nc N v k n nm a ks ao cap ar w o rb p0 p1 p2 p3 p4 lv s m O j q c g f d b S i p u X h l
 rw[if_neg O];by_cases G:13<=k/\k<=16
 ·rw[if_pos G];exact Fh k n nm a ks ao cap ar w o rb p0 p1 p2 p3 p4 lv s m _ (by omega) (λwx t S X E=>Fy K nc N v k n nm a ks ao cap ar wx t rb p0 p1 p2 p3 p4 lv s m G j q c g f d b S i p u X E) l S X h
 rw[if_neg G];by_cases B:k=20
 ·rw[if_pos B,rH];exact Fk K nc N v k n nm a ks ao cap ar w o rb p0 p1 p2 p3 p4 lv s m B (by have:=r.2.2.2.2.1 B;omega) j q c g f d b S i p u X h l
 rw[if_neg B];by_cases D:k=26
 ·rw[if_pos D];subst D;obtain⟨x,rfl⟩:=mL (r.2.1 rfl);exact Ep 26 n nm a _ ao cap ar w o rb p0 p1 p2 p3 p4 lv s m _ rfl (λwx t S X E=>FP K nc N v n nm a x ao cap ar wx t rb p0 p1 p2 p3 p4 lv s m j q c g f d b S i p u X E) l S X h
 rw[if_neg D];by_cases F:k=21
 ·rw[if_pos F];subst F;obtain⟨x,y,rfl⟩:=iz (r.2.2.2.1 rfl).1;refine EL 21 n nm a _ ao cap ar w o rb p0 p1 p2 p3 p4 lv s m _ rfl (λwx t S X E=>?_) l S X h;have W:=(r.2.2.2.1 rfl).2;by_cases n1:n=1
  ·exact D2 K nc N v n nm a x y ao cap ar wx t rb p0 p1 p2 p3 p4 lv s m n1 j q c g f d b S i p u X E
  by_cases n2:n=2
  ·exact Dn K nc N v n nm a x y ao cap ar wx t rb p0 p1 p2 p3 p4 lv s m n2 j q c g f d b S i p u X E
  by_cases U:n=3
  ·exact Cm K nc N v n nm a x y ao cap ar wx t rb p0 p1 p2 p3 p4 lv s m U j q c g f d b S i p u X E
  by_cases T:n=4
  ·exact Co K nc N v n nm a x y ao cap ar wx t rb p0 p1 p2 p3 p4 lv s m T j q c g f d b S i p u X E
  ·exact CY K nc N v n nm a x y ao cap ar wx t rb p0 p1 p2 p3 p4 lv s m (by omega) j q c g f d b S i p u X E
 rw[if_neg F];have J:k=17\/k=18\/k=19:=by omega
 refine Fb k n nm a _ ao cap ar w o rb p0 p1 p2 p3 p4 lv s m _ J (λwx t S X E=>?_) l S X h;rcases J with e|e|e
 ·subst e;obtain⟨x,y,rfl⟩:=iz (C.2.1 (by omega) (by omega));exact Ba K nc N v n nm a x y ao cap ar wx t rb p0 p1 p2 p3 p4 lv s m j q c g f d b S i p u X E
 ·subst e;obtain⟨x,y,rfl⟩:=iz (C.2.1 (by omega) (by omega));exact zO K nc N v n nm a x y ao cap ar wx t rb p0 p1 p2 p3 p4 lv s m j q c g f d b S i p u X E
 ·subst e;obtain⟨x,y,z,rfl⟩:=kX (r.1 rfl);exact Bn K nc N v n nm a x y z ao cap ar wx t rb p0 p1 p2 p3 p4 lv s m j q c g f d b S i p u X E
theorem qn (K:Nat->Int)(nc:Nat):∀ N,iH K nc N
 | 0=>λe ao cap ar w o rb p0 p1 p2 p3 p4 lv s m h=>by omega
 | N+1=>uu K nc N (qn K nc N)
def lz (cells:List Int)(n:Int)(x:Ex)(ar b:Nat)(s:Rg):Option (Rg × Int) :=
 if 0<=n/\n<(cells.length:Int) then (match fP cells x ar b s with|none=>G0|some (s2,k0)=>anD (fT cells n (Fs.ex x .nil) ar s2) k0) else G0
theorem CL {cells:List Int}{i:Nat}{x:Ex}{ar a:Nat}{s:Rg}{lv:Int}(h:cells[i]?=G1 lv)(b:(ar:Int)<lv):lz cells (i:Nat) x ar a s=G0:=by
 unfold lz;split
 ·cases fP cells x ar a s with
  | none=>rfl
  | some z =>
   obtain⟨s2,k0⟩:=z;simp only[fT,IE,h];rw[if_pos (.inl b)];rfl
 ·rfl
theorem CD {cells:List Int}{i:Nat}{x:Ex}{ar a:Nat}{s:Rg}{lv:Int}(h:cells[i]?=G1 lv)(c:¬(ar:Int)<lv):lz cells (i:Nat) x ar a s=(match fP cells x ar a s with|none=>G0|some (s2,k0)=>if lv<hgE x ar then G0 else (match s2.2 i with|none=>G1 ((s2.1,λj=>if j=i then G1 x else s2.2 j),k0)|some y=>if eR y x=true then G1 (s2,k0) else G0)):=by
 have e:i<cells.length:=by
  rcases Kc i cells.length with h1|h1
  ·exact h1
  ·rw[Ie h1] at h;cases h
 unfold lz;rw[if_pos ⟨by omega,by omega⟩];cases fP cells x ar a s with
 | none=>rfl
 | some z =>
  obtain⟨s2,k0⟩:=z;have d:(Fs.ex x .nil).head=x:=rfl;simp only[fT,IE,h,d];by_cases h2:lv<hgE x ar
  ·rw[if_pos (.inr h2),if_pos h2];rfl
  ·rw[if_neg (by rintro (b|b);exact c b;exact h2 b),if_neg h2];cases s2.2 i with
   | none=>rfl
   | some y =>
    simp only;split<;>rfl
theorem KT.put {w:G9}{wb a nc:Nat}{t:Nat->Option Ex}(h:KT w (Nf2 wb a) a nc t)(i:Nat)(x y:Ex)(ak:Option Hw)(ck:Nat)(G:eR x y=true)(J:fA y)(S:SlN w (Nf2 wb a) y.kids ak)(E:wb<w.heap.size) :
  KT ((w.alloc (.cells #[.int .i64 y.k,.int .i64 y.n,stv y.nm,.slice ak y.kids.len ck] 34)).setCell ⟨a,i,G0⟩ (.slice (G1 ⟨w.heap.size,0,G0⟩) 1 1)) (Nf2 wb a) a nc (λj=>if j=i then G1 x else t j):=by
 obtain⟨q,h1,h2,L⟩:=h;have l:=Ha h1;generalize f:(Obj.cells #[.int .i64 y.k,.int .i64 y.n,stv y.nm,.slice ak y.kids.len ck] 34 (0,0))=c;have p:(w.alloc c).heap[a]?=G1 (.cells q 32 (0,0)):=(Hj w c a l).trans h1;have s:∀ k,Nf2 wb a k->k<w.heap.size->((w.alloc c).setCell ⟨a,i,G0⟩ (.slice (G1 ⟨w.heap.size,0,G0⟩) 1 1)).heap[k]?=w.heap[k]?:=λk I H=>(Hl _ _ k _ I.2).trans (Hj w c k H);have d:w.heap.size<=((w.alloc c).setCell ⟨a,i,G0⟩ (.slice (G1 ⟨w.heap.size,0,G0⟩) 1 1)).heap.size:=by simp
 have e:((w.alloc c).setCell ⟨a,i,G0⟩ (.slice (G1 ⟨w.heap.size,0,G0⟩) 1 1)).heap[w.heap.size]?=G1 c:=(Hl _ _ _ _ (by show w.heap.size≠a;omega)).trans (Hc w c);refine⟨_,(Blk.set (o:=λ_=>0) (i:=0) ⟨p,rfl⟩ i _).1,by simp[h2],λj r=>?_⟩;by_cases b:j=i
 ·subst b;refine .inr ⟨x,y,w.heap.size,1,by simp,G,by simp[h2,r],?_,J⟩;subst f;exact .inr ⟨w.heap.size,0,_,rfl,⟨by omega,by omega⟩,by simp,λm u F=>by rw[Ix,If _ _ _ _ _ _ e];simpa using F,FcN.one ck (S.mono s d (λ_ h _=>h))⟩
 ·rcases L j r with ⟨K,h5⟩|⟨z,v,g,cap,D,q2,C,B,A⟩
  ·exact .inl ⟨by simp[b,K],by rw[Array.getElem?_setIfInBounds_ne (JP b)];exact h5⟩
  ·exact .inr ⟨z,v,g,cap,by simp[b,D],q2,by rw[Array.getElem?_setIfInBounds_ne (JP b)];exact C,B.mono s d (λ_ h _=>h),A⟩
theorem FB {N:Nat}(IH:lX N)(k0 n:Int)(nm:List UInt8)(a:Int)(x:Ex)(ao:Option Hw)(cap wb b:Nat)(bv:He)(cells:List Int)(ar O:Nat)(s:Rg)(w:G9)(hN:x.kids.size<N)(P:fA x)(aZ:O<=4)(a9:ar<=O)(av:wb≠b)(h:WD w wb b bv cells.length (G1 s))(hn:Inw w (Nf2 wb b) bv cells)(S:SlN w (Nf2 wb b) (Fs.ex x .nil) ao) :
  Hn G5 176 #[.pointer (G1 ⟨wb,0,G0⟩),.agg #[.int .i64 k0,.int .i64 n,stv nm,.slice ao 1 cap],.int .i64 ar,.int .i64 O] w (eD w wb b bv cells.length (lz cells n x ar O s)):=by
 have B0:Hf w.heap.size w (w.alloc (zNv k0 n nm ao 1 cap)):=(Hi _ w).alloc (G4 _) _;have E0:(w.alloc (zNv k0 n nm ao 1 cap)).heap[w.heap.size]?=G1 (zNv k0 n nm ao 1 cap):=Hc w _;have W0:=h.below B0;have S0:=S.belowP B0;have N0:=hn.below B0;have a0:=h.lt;have a5:=h.ltk;clear h S hn;go_enter Tryz.func176,Tryz.ntmps176;go_upto_region 1 with fail;generalize w.alloc (zNv k0 n nm ao 1 cap)=w0 at *;have KK:Kp wb b w w0:=Kp.ofBelow B0;obtain⟨bx,aT⟩:=exq w.heap.size;rw[<-aT] at E0 ⊢;have a8:bx≠wb:=by omega
 have af:bx≠b:=by omega
 clear aT a0 a5 B0;obtain⟨p0,p1,p2,p3,pf⟩:=ep E0;have V0:=W0.1;have a6:=W0.ltk;obtain⟨T,q1,q2,q3,qf⟩:=ep V0;have K:∀ {w2:G9},Hf w0.heap.size w0 w2->lz cells n x ar O s=G0->Hid (eD w wb b bv cells.length (lz cells n x ar O s) (.returned (.int .i64 0)) (w2.setCell ⟨wb,3,G0⟩ (.bool false))):=by
  intro w2 b2 hz;rw[hz];exact⟨⟨0,rfl,λs k h=>by cases h⟩,⟨by simpa using Hh a6 b2.size,_,_,(kq ((b2.block _ (Ha V0)).trans V0) (.bool false)).2⟩,(KK.trans (Kp.ofBelow b2)).set _ _ (.inr (.inl rfl))⟩
 have bdr:∀ m,Hf w0.heap.size w0 (w0.drewN m):=λm=>⟨rfl,rfl,rfl,G4 _,λ_ _=>rfl⟩;obtain⟨bb,q,aU,l⟩:=N0;have N0:Inw w0 (Nf2 wb b) bv cells:=⟨bb,q,aU,l⟩;subst aU;by_cases aO:n<0
 ·have hd:decide (n<0)=true:=decide_eq_true aO;have HB:=λm=>K (bdr m) (by unfold lz;rw[if_neg (by omega)]);clear K bdr S0 W0 l N0 KK V0 E0;go_wp2_with fail
  go_quiet (fail)
  have HB:=HB nq;go_wp2;exact Hb (v:=.int .i64 0) (by simp[Hk,Jw,go_sem]) rfl HB.out
 ·have hd:decide (n<0)=false:=decide_eq_false aO;obtain⟨i,rfl⟩:∃i:Nat,n=(i:Nat):=⟨n.toNat,by omega⟩;by_cases a3:(cells.length:Int)<=(i:Int)
  ·have HB:=λm=>K (bdr m) (by unfold lz;rw[if_neg (by omega)]);clear K bdr S0 W0 l N0 KK V0 E0;go_wp2_with fail
   go_quiet (fail)
   have HB:=HB nq;go_wp2;exact Hb (v:=.int .i64 0) (by simp[Hk,Jw,go_sem]) rfl HB.out
  ·have bk:decide ((cells.length:Int)<=(i:Int))=false:=decide_eq_false a3;have aK:i<cells.length:=by omega
   have bi:(i:Int)<(cells.length:Int):=by omega
   obtain⟨lv,aG⟩:∃lv,cells[i]?=G1 lv:=⟨_,Hd aK⟩;rcases l with l|⟨cb,d,rfl,aR,aL,aS⟩
   ·subst l;simp at aK
   have aV:=aS i lv aG;clear aS;by_cases aH:(ar:Int)<lv
   ·have HB:=λm=>K (bdr m) (CL aG aH);clear K bdr S0 W0 N0 KK V0 E0;go_wp2_with fail
    go_quiet (fail)
    have HB:=HB nq;go_wp2;exact Hb (v:=.int .i64 0) (by simp[Hk,Jw,go_sem]) rfl HB.out
   ·have bj:decide ((ar:Int)<lv)=false:=decide_eq_false aH;have HC:Hid (lz cells (i:Nat) x ar O s=_):=CD aG aH;clear K;go_wp2_with fail
    go_quiet (fail)
    have bd:=bdr nq;clear bdr;have W1:=W0.below bd;have S1:=S0.belowP bd;have N1:=N0.below bd;have E1:=(bd.block _ (Ha E0)).trans E0;have aY:=KK.trans (Kp.ofBelow bd);have aE:=(bd.cell (p:=⟨cb,d+i,G0⟩) aL).trans aV;have ae:cb<(w0.drewN nq).heap.size:=Hh aL bd.size;clear p0 p1 p2 p3 pf T q1 q2 q3 qf W0 S0 N0 E0 KK V0 bd aV aL;generalize w0.drewN nq=w1 at *;obtain⟨p0,p1,p2,p3,pf⟩:=ep E1;obtain⟨gb,off,ak,ck,ag,F,e,Z,Y,X,W,SK⟩:=SlN.kidQ (x:=.nil) (r:=.nil) (ks:=x.kids) (k:=x.k) (n:=x.n) (nm:=x.nm) (a:=x.a) S1;subst ag;have a4:(Fs.nil).len=0:=rfl;simp only[a4,I4,Is] at Z Y X W;have c1:=IH x ak ck wb b _ cells ar O s w1 hN P aZ a9 av W1 N1 SK;rw[dR] at c1;go_wp2_with fail;refine c1.mono ?_;rintro z w2 ⟨⟨U,rfl,aJ⟩,W2,R⟩;have E2:=(R.block _ (Ha E1) a8 af).trans E1;have S2:=S1.kp R;have N2:=N1.kp R;have ay:=aY.trans R;have aW:=(R.cell ae aR.1 aR.2 _).trans aE;have aD:=Hh ae R.size;have Z:=(R.cell F e.1 e.2 _).trans Z;have Y:=(R.cell F e.1 e.2 _).trans Y;have X:=(R.cell F e.1 e.2 _).trans X;have W:=(R.cell F e.1 e.2 _).trans W;have C:=Hh F R.size;have ax:=SK.kp R;clear c1 p0 p1 p2 p3 pf W1 S1 N1 E1 aY aE ae F SK R S2;obtain⟨p0,p1,p2,p3,pf⟩:=ep E2;cases hr:fP cells x ar O s with
    | none =>
     have HR:Hid (eD w wb b (.slice (G1 ⟨cb,d,G0⟩) cells.length q) cells.length (lz cells (i:Nat) x ar O s) (.returned (.int .i64 0)) w2):=by
      rw[HC.out,hr];rw[hr] at W2;exact⟨⟨0,rfl,λs k h=>by cases h⟩,W2,ay⟩
     rw[hr] at W2;obtain⟨-,p,kv,V2⟩:=W2;obtain⟨T,q1,q2,q3,qf⟩:=ep V2;clear hr aJ HC V2 ax N2 ay E2;go_wp2;exact Hb (v:=.int .i64 0) (by simp[Hk,Jw,go_sem]) rfl HR.out
    | some z =>
     obtain⟨s2,k⟩:=z;obtain rfl:=aJ s2 k hr;have a2:x.nv:=by
      unfold fP at hr;cases hx:rgE cells x ar O s with
      | none=>rw[hx] at hr;cases hr
      | some z=>obtain⟨s',kz⟩:=z;exact BC hx
     rw[hr] at W2;have aC:Hid (lz cells (i:Nat) x ar O s=if lv<hgE x ar then G0 else (match s2.2 i with|none=>G1 ((s2.1,λj=>if j=i then G1 x else s2.2 j),U)|some y=>if eR y x=true then G1 (s2,U) else G0)):=by show _=_;rw[HC.out,hr]
     have W2:WD w2 wb b (.slice (G1 ⟨cb,d,G0⟩) cells.length q) cells.length (G1 s2):=W2;clear hr aJ HC;generalize lz cells (i:Nat) x ar O s=CR at *;have aI:=W2.ltk;obtain⟨V2,a1,aX⟩:=W2;obtain⟨T,q1,q2,q3,qf⟩:=ep V2;have aq:=Ha E2;have aF:=Ha V2;have E:Hf w2.heap.size w2 w2.drew:=⟨rfl,rfl,rfl,G4 _,λ_ _=>rfl⟩;have c5:=sr (x.kids.size+1) x ak ck ar w2.drew (by omega) P.len P.sh a2 (by omega) (by omega) (ax.all.below E);rw[dR] at c5;generalize hgE x ar=hx at *;go_wp2_with fail;go_region_held3 (λwx=>wx.cell? ⟨bx,1,G0⟩=G1 (.int .i64 i)/\wx.cell? ⟨bx,3,G0⟩=G1 (.slice (G1 ⟨gb,off,G0⟩) 1 cap)/\wx.cell? ⟨wb,0,G0⟩=G1 (.slice (G1 ⟨cb,d,G0⟩) cells.length q)/\wx.cell? ⟨cb,d+i,G0⟩=G1 (.int .i64 lv)/\wx.cell? ⟨gb,off,G0⟩=G1 (.int .i64 x.k)/\wx.cell? ⟨gb,off+1,G0⟩=G1 (.int .i64 x.n)/\wx.cell? ⟨gb,off+2,G0⟩=G1 (stv x.nm)/\wx.cell? ⟨gb,off+3,G0⟩=G1 (.slice ak x.kids.len ck))
      (first|exact KA|go_keep)
      (first
       | (go_at_call 219;refine c5.mono ?_;rintro z w3 ⟨rfl,B3⟩;have KA:w3.cell? ⟨bx,1,G0⟩=G1 (.int .i64 i)/\w3.cell? ⟨bx,3,G0⟩=G1 (.slice (G1 ⟨gb,off,G0⟩) 1 cap)/\w3.cell? ⟨wb,0,G0⟩=G1 (.slice (G1 ⟨cb,d,G0⟩) cells.length q)/\w3.cell? ⟨cb,d+i,G0⟩=G1 (.int .i64 lv)/\w3.cell? ⟨gb,off,G0⟩=G1 (.int .i64 x.k)/\w3.cell? ⟨gb,off+1,G0⟩=G1 (.int .i64 x.n)/\w3.cell? ⟨gb,off+2,G0⟩=G1 (stv x.nm)/\w3.cell? ⟨gb,off+3,G0⟩=G1 (.slice ak x.kids.len ck):=⟨(B3.cell (p:=⟨bx,1,G0⟩) aq).trans p1,(B3.cell (p:=⟨bx,3,G0⟩) aq).trans p3,(B3.cell (p:=⟨wb,0,G0⟩) aF).trans T,(B3.cell (p:=⟨cb,d+i,G0⟩) aD).trans aW,(B3.cell (p:=⟨gb,off,G0⟩) C).trans Z,(B3.cell (p:=⟨gb,off+1,G0⟩) C).trans Y,(B3.cell (p:=⟨gb,off+2,G0⟩) C).trans X,(B3.cell (p:=⟨gb,off+3,G0⟩) C).trans W⟩))
     have B:Hf w2.heap.size w2 w3:=E.trans B3;have E3:=(B.block _ aq).trans E2;have V3:=(B.block _ aF).trans V2;have I:=aX.mono (B.block _ aI) (λi _ hl=>B.block i hl) B.size;have J:=ay.trans (Kp.ofBelow B);have Q:=ax.belowP B;have D:=Hh aI B.size;have o:=Hh C B.size;obtain⟨-,-,-,-,Z,Y,X,W⟩:=KA;clear c5 p0 p1 p2 p3 pf T q1 q2 q3 qf E2 V2 aX ay ax aI C aq aF E B3 B aW aD N2;obtain⟨p0,p1,p2,p3,pf⟩:=ep E3;obtain⟨T,q1,q2,q3,qf⟩:=ep V3;by_cases aP:lv<hx
     ·have HR:Hid (eD w wb b (.slice (G1 ⟨cb,d,G0⟩) cells.length q) cells.length CR (.returned (.int .i64 0)) (w3.setCell ⟨wb,3,G0⟩ (.bool false))):=by
       rw[aC.out,if_pos aP];exact⟨⟨0,rfl,λs k h=>by cases h⟩,⟨by simpa using D,_,_,(kq V3 (.bool false)).2⟩,J.set _ _ (.inr (.inl rfl))⟩
      clear aC I J Q E3 V3;go_wp2;exact Hb (v:=.int .i64 0) (by simp[Hk,Jw,go_sem]) rfl HR.out
     ·have aB:Hid (CR=(match s2.2 i with|none=>G1 ((s2.1,λj=>if j=i then G1 x else s2.2 j),U)|some y=>if eR y x=true then G1 (s2,U) else G0)):=by show CR=_;rw[aC.out,if_neg aP]
      clear aC;have ap:=Ha E3;have ab:=Ha V3;obtain⟨ai,H,ba,ah⟩:=I;have I:KT w3 (Nf2 wb b) b cells.length s2.2:=⟨ai,H,ba,ah⟩;have A:=λ(v:He) (hv:ai[i]?=G1 v)=>(If w3 b i ai _ _ H).trans hv;have aj:∀ {w4:G9} (y:Ex),Hf w3.heap.size w3 w4->eR y x=true->CR=G1 ((s2.1,λj=>if j=i then G1 y else s2.2 j),U)->Hid (eD w wb b (.slice (G1 ⟨cb,d,G0⟩) cells.length q) cells.length CR (.returned (.int .i64 U)) ((w4.alloc (zNd x ak ck)).setCell ⟨b,i,G0⟩ (.slice (G1 ⟨w4.heap.size,0,G0⟩) 1 1))):=by
       intro w4 y b4 au a7;rw[a7];have bh:=Hh D b4.size;have aN:=Hh ab b4.size;have V:=(b4.block _ ab).trans V3;have bc:=I.mono (b4.block _ D) (λi _ hl=>b4.block i hl) b4.size;refine⟨⟨U,rfl,λs k h=>by injection h with h;injection h⟩,⟨?_,a1,bc.put i y x ak ck au P (Q.belowP b4) aN⟩,((J.trans (Kp.ofBelow b4)).alloc _).set _ _ (.inr (.inr rfl))⟩;exact(Hl _ _ _ _ (by show wb≠b;exact av)).trans ((Hj w4 _ wb aN).trans V)
      rcases ah i aK with ⟨ht,aw⟩|⟨x',u,g,cg,ht,au,aw,SY,aQ⟩
      ·have e1:=A _ aw;have HP:=λm=>aj (w4:=w3.drewN m) x ⟨rfl,rfl,rfl,G4 _,λ_ _=>rfl⟩ (tX x) (by rw[aB.out,ht]);clear aj aB I J Q A ah ht;go_wp2_with fail
       go_quiet (fail)
       have HP:=HP nq;have c:Hf w3.heap.size w3 (w3.drewN nq):=⟨rfl,rfl,rfl,G4 _,λ_ _=>rfl⟩;have E4:=(c.block _ ap).trans E3;have V:=(c.block _ ab).trans V3;have Y0:=(c.cell (p:=⟨gb,off,G0⟩) o).trans Z;have Y1:=(c.cell (p:=⟨gb,off+1,G0⟩) o).trans Y;have Y2:=(c.cell (p:=⟨gb,off+2,G0⟩) o).trans X;have Y3:=(c.cell (p:=⟨gb,off+3,G0⟩) o).trans W;have KF:=IK (w3.drewN nq) b i ai _ ((c.block _ D).trans H);have KC:=(c.cell (p:=⟨b,i,G0⟩) D).trans e1;have M:=Hh D c.size;have t:=Hh o c.size;clear p0 p1 p2 p3 pf T q1 q2 q3 qf Z Y X W c E3 V3 aw e1 H;generalize w3.drewN nq=w4 at *;obtain⟨p0,p1,p2,p3,pf⟩:=ep E4;obtain⟨T,q1,q2,q3,qf⟩:=ep V;have G:=Ha E4;have aa:=Ha V;clear E4 V;have f:∀ (g j:Nat),g≠b->g<w4.heap.size->(((w4.setCell ⟨b,i,G0⟩ (.slice (G1 ⟨w4.heap.size,0,G0⟩) 1 1)).alloc (zNd x ak ck)).drew).cell? ⟨g,j,G0⟩=w4.cell? ⟨g,j,G0⟩:=λg j h1 h2=>Ho (a:=⟨g,j,G0⟩) ((Hj (w4.setCell ⟨b,i,G0⟩ (.slice (G1 ⟨w4.heap.size,0,G0⟩) 1 1)) (zNd x ak ck) g (by simpa using h2)).trans (Hl w4 ⟨b,i,G0⟩ g _ h1));have al:(((w4.setCell ⟨b,i,G0⟩ (.slice (G1 ⟨w4.heap.size,0,G0⟩) 1 1)).alloc (zNd x ak ck)).drew).cell? ⟨bx,1,G0⟩=G1 (.int .i64 i)/\(((w4.setCell ⟨b,i,G0⟩ (.slice (G1 ⟨w4.heap.size,0,G0⟩) 1 1)).alloc (zNd x ak ck)).drew).cell? ⟨bx,3,G0⟩=G1 (.slice (G1 ⟨gb,off,G0⟩) 1 cap)/\(((w4.setCell ⟨b,i,G0⟩ (.slice (G1 ⟨w4.heap.size,0,G0⟩) 1 1)).alloc (zNd x ak ck)).drew).cell? ⟨wb,2,G0⟩=G1 (.slice (G1 ⟨b,0,G0⟩) cells.length cells.length)/\(((w4.setCell ⟨b,i,G0⟩ (.slice (G1 ⟨w4.heap.size,0,G0⟩) 1 1)).alloc (zNd x ak ck)).drew).cell? ⟨gb,off,G0⟩=G1 (.int .i64 x.k)/\(((w4.setCell ⟨b,i,G0⟩ (.slice (G1 ⟨w4.heap.size,0,G0⟩) 1 1)).alloc (zNd x ak ck)).drew).cell? ⟨gb,off+1,G0⟩=G1 (.int .i64 x.n)/\(((w4.setCell ⟨b,i,G0⟩ (.slice (G1 ⟨w4.heap.size,0,G0⟩) 1 1)).alloc (zNd x ak ck)).drew).cell? ⟨gb,off+2,G0⟩=G1 (stv x.nm)/\(((w4.setCell ⟨b,i,G0⟩ (.slice (G1 ⟨w4.heap.size,0,G0⟩) 1 1)).alloc (zNd x ak ck)).drew).cell? ⟨gb,off+3,G0⟩=G1 (.slice ak x.kids.len ck):=⟨(f _ _ af G).trans p1,(f _ _ af G).trans p3,(f _ _ av aa).trans q2,(f _ _ e.2 t).trans Y0,(f _ _ e.2 t).trans Y1,(f _ _ e.2 t).trans Y2,(f _ _ e.2 t).trans Y3⟩;have aM:Hid (eD w wb b (.slice (G1 ⟨cb,d,G0⟩) cells.length q) cells.length CR (.returned (.int .i64 U)) (((w4.setCell ⟨b,i,G0⟩ (.slice (G1 ⟨w4.heap.size,0,G0⟩) 1 1)).alloc (zNd x ak ck)).drew)):=by
        have h5:=HP.out;rw[World.setCell_alloc_past _ _ _ _ M] at h5;exact⟨h5.1,h5.2.1.below ⟨rfl,rfl,rfl,G4 _,λ_ _=>rfl⟩,h5.2.2.trans (Kp.ofBelow ⟨rfl,rfl,rfl,G4 _,λ_ _=>rfl⟩)⟩
       clear HP f;go_wp2_with fail;go_region_held3 (λwx=>wx.cell? ⟨bx,1,G0⟩=G1 (.int .i64 i)/\wx.cell? ⟨bx,3,G0⟩=G1 (.slice (G1 ⟨gb,off,G0⟩) 1 cap)/\wx.cell? ⟨wb,2,G0⟩=G1 (.slice (G1 ⟨b,0,G0⟩) cells.length cells.length)/\wx.cell? ⟨gb,off,G0⟩=G1 (.int .i64 x.k)/\wx.cell? ⟨gb,off+1,G0⟩=G1 (.int .i64 x.n)/\wx.cell? ⟨gb,off+2,G0⟩=G1 (stv x.nm)/\wx.cell? ⟨gb,off+3,G0⟩=G1 (.slice ak x.kids.len ck)) (first|exact al|go_keep) (fail);clear al;go_wp2;exact Hb (v:=.int .i64 U) (by simp[Hk,Jw,go_sem]) rfl aM.out
      ·have e1:=A _ aw;obtain⟨az,cz,an,bg,z0,z1,z2,z3,SZ⟩:∃az,∃cz,g<w3.heap.size/\Nf2 wb b g/\w3.cell? ⟨g,0,G0⟩=G1 (.int .i64 u.k)/\w3.cell? ⟨g,1,G0⟩=G1 (.int .i64 u.n)/\w3.cell? ⟨g,2,G0⟩=G1 (stv u.nm)/\w3.cell? ⟨g,3,G0⟩=G1 (.slice az u.kids.len cz)/\SlN w3 (Nf2 wb b) u.kids az:=by
        obtain⟨bl,bf,az,cz,ag,F,e,z0,z1,z2,z3,SZ⟩:=SlN.kidQ (x:=.nil) (r:=.nil) (ks:=u.kids) (k:=u.k) (n:=u.n) (nm:=u.nm) (a:=u.a) SY;injection ag with ag
        injection ag with h1 h2
        subst h1;subst h2;exact⟨az,cz,F,e,z0,z1,z2,z3,SZ⟩
       have E:Hf w3.heap.size w3 w3.drew:=⟨rfl,rfl,rfl,G4 _,λ_ _=>rfl⟩;have c6:=nu (u.kids.size+1) u x az ak cz ck w3.drew (by omega) aQ.len aQ.sh P.len P.sh (SZ.all.below E) (Q.all.below E);rw[dR,dR,BQ x au] at c6;have aA:Hid (CR=if eR x' x=true then G1 (s2,U) else G0):=by show CR=_;rw[aB.out,ht]
       have ad:Hid ((λj=>if j=i then G1 x' else s2.2 j)=s2.2):=by
        show _=_;funext j;by_cases hj:j=i
        ·rw[if_pos hj,hj,ht]
        ·rw[if_neg hj]
       obtain⟨sm,ac⟩:=exq (eR x' x);rw[<-ac] at c6;have am:Hid (eR x' x=sm):=ac.symm;clear ac aB SY SZ au ht;have be:w3.drew.cell? ⟨bx,1,G0⟩=G1 (.int .i64 i)/\w3.drew.cell? ⟨bx,3,G0⟩=G1 (.slice (G1 ⟨gb,off,G0⟩) 1 cap)/\w3.drew.cell? ⟨wb,2,G0⟩=G1 (.slice (G1 ⟨b,0,G0⟩) cells.length cells.length)/\w3.drew.cell? ⟨b,i,G0⟩=G1 (.slice (G1 ⟨g,0,G0⟩) 1 cg)/\w3.drew.cell? ⟨g,0,G0⟩=G1 (.int .i64 u.k)/\w3.drew.cell? ⟨g,1,G0⟩=G1 (.int .i64 u.n)/\w3.drew.cell? ⟨g,2,G0⟩=G1 (stv u.nm)/\w3.drew.cell? ⟨g,3,G0⟩=G1 (.slice az u.kids.len cz)/\w3.drew.cell? ⟨gb,off,G0⟩=G1 (.int .i64 x.k)/\w3.drew.cell? ⟨gb,off+1,G0⟩=G1 (.int .i64 x.n)/\w3.drew.cell? ⟨gb,off+2,G0⟩=G1 (stv x.nm)/\w3.drew.cell? ⟨gb,off+3,G0⟩=G1 (.slice ak x.kids.len ck):=⟨p1,p3,q2,e1,z0,z1,z2,z3,Z,Y,X,W⟩;go_wp2_with fail;go_region_held3 (λwx=>wx.cell? ⟨bx,1,G0⟩=G1 (.int .i64 i)/\wx.cell? ⟨bx,3,G0⟩=G1 (.slice (G1 ⟨gb,off,G0⟩) 1 cap)/\wx.cell? ⟨wb,2,G0⟩=G1 (.slice (G1 ⟨b,0,G0⟩) cells.length cells.length)/\wx.cell? ⟨b,i,G0⟩=G1 (.slice (G1 ⟨g,0,G0⟩) 1 cg)/\wx.cell? ⟨g,0,G0⟩=G1 (.int .i64 u.k)/\wx.cell? ⟨g,1,G0⟩=G1 (.int .i64 u.n)/\wx.cell? ⟨g,2,G0⟩=G1 (stv u.nm)/\wx.cell? ⟨g,3,G0⟩=G1 (.slice az u.kids.len cz)/\wx.cell? ⟨gb,off,G0⟩=G1 (.int .i64 x.k)/\wx.cell? ⟨gb,off+1,G0⟩=G1 (.int .i64 x.n)/\wx.cell? ⟨gb,off+2,G0⟩=G1 (stv x.nm)/\wx.cell? ⟨gb,off+3,G0⟩=G1 (.slice ak x.kids.len ck))
        (first|exact KA|exact be|go_keep)
        (first
         | (go_at_call 220;refine c6.mono ?_;rintro z w4 ⟨rfl,L⟩;have KA:w4.cell? ⟨bx,1,G0⟩=G1 (.int .i64 i)/\w4.cell? ⟨bx,3,G0⟩=G1 (.slice (G1 ⟨gb,off,G0⟩) 1 cap)/\w4.cell? ⟨wb,2,G0⟩=G1 (.slice (G1 ⟨b,0,G0⟩) cells.length cells.length)/\w4.cell? ⟨b,i,G0⟩=G1 (.slice (G1 ⟨g,0,G0⟩) 1 cg)/\w4.cell? ⟨g,0,G0⟩=G1 (.int .i64 u.k)/\w4.cell? ⟨g,1,G0⟩=G1 (.int .i64 u.n)/\w4.cell? ⟨g,2,G0⟩=G1 (stv u.nm)/\w4.cell? ⟨g,3,G0⟩=G1 (.slice az u.kids.len cz)/\w4.cell? ⟨gb,off,G0⟩=G1 (.int .i64 x.k)/\w4.cell? ⟨gb,off+1,G0⟩=G1 (.int .i64 x.n)/\w4.cell? ⟨gb,off+2,G0⟩=G1 (stv x.nm)/\w4.cell? ⟨gb,off+3,G0⟩=G1 (.slice ak x.kids.len ck):=⟨(L.cell (p:=⟨bx,1,G0⟩) ap).trans p1,(L.cell (p:=⟨bx,3,G0⟩) ap).trans p3,(L.cell (p:=⟨wb,2,G0⟩) ab).trans q2,(L.cell (p:=⟨b,i,G0⟩) D).trans e1,(L.cell (p:=⟨g,0,G0⟩) an).trans z0,(L.cell (p:=⟨g,1,G0⟩) an).trans z1,(L.cell (p:=⟨g,2,G0⟩) an).trans z2,(L.cell (p:=⟨g,3,G0⟩) an).trans z3,(L.cell (p:=⟨gb,off,G0⟩) o).trans Z,(L.cell (p:=⟨gb,off+1,G0⟩) o).trans Y,(L.cell (p:=⟨gb,off+2,G0⟩) o).trans X,(L.cell (p:=⟨gb,off+3,G0⟩) o).trans W⟩))
       have c:Hf w3.heap.size w3 w4:=E.trans L;have E4:=(c.block _ ap).trans E3;have V:=(c.block _ ab).trans V3;have KF:=IK w4 b i ai _ ((c.block _ D).trans H);obtain⟨-,-,-,KC,-,-,-,-,Y0,Y1,Y2,Y3⟩:=KA;have M:=Hh D c.size;have t:=Hh o c.size;have G:=Ha E4;have aa:=Ha V;cases sm with
       | false =>
        have HR:Hid (eD w wb b (.slice (G1 ⟨cb,d,G0⟩) cells.length q) cells.length CR (.returned (.int .i64 0)) (w4.setCell ⟨wb,3,G0⟩ (.bool false))):=by
         rw[aA.out,am.out,if_neg (by decide)];exact⟨⟨0,rfl,λs k h=>by cases h⟩,⟨by simpa using M,_,_,(kq V (.bool false)).2⟩,(J.trans (Kp.ofBelow c)).set _ _ (.inr (.inl rfl))⟩
        clear c6 aj aA am ad I J Q p0 p1 p2 p3 pf T q1 q2 q3 qf Z Y X W z0 z1 z2 z3 e1 H E3 V3 L c E A ah;obtain⟨T,q1,q2,q3,qf⟩:=ep V;clear E4 V;go_wp2;exact Hb (v:=.int .i64 0) (by simp[Hk,Jw,go_sem]) rfl HR.out
       | true =>
        have HP:=aj x' c am.out (by rw[aA.out,am.out,if_pos rfl,ad.out]);clear c6 aj aA am ad I J Q p0 p1 p2 p3 pf T q1 q2 q3 qf Z Y X W z0 z1 z2 z3 e1 H E3 V3 L c E A ah;obtain⟨p0,p1,p2,p3,pf⟩:=ep E4;obtain⟨T,q1,q2,q3,qf⟩:=ep V;clear E4 V;have f:∀ (g j:Nat),g≠b->g<w4.heap.size->(((w4.setCell ⟨b,i,G0⟩ (.slice (G1 ⟨w4.heap.size,0,G0⟩) 1 1)).alloc (zNd x ak ck)).drew).cell? ⟨g,j,G0⟩=w4.cell? ⟨g,j,G0⟩:=λg j h1 h2=>Ho (a:=⟨g,j,G0⟩) ((Hj (w4.setCell ⟨b,i,G0⟩ (.slice (G1 ⟨w4.heap.size,0,G0⟩) 1 1)) (zNd x ak ck) g (by simpa using h2)).trans (Hl w4 ⟨b,i,G0⟩ g _ h1));have al:(((w4.setCell ⟨b,i,G0⟩ (.slice (G1 ⟨w4.heap.size,0,G0⟩) 1 1)).alloc (zNd x ak ck)).drew).cell? ⟨bx,1,G0⟩=G1 (.int .i64 i)/\(((w4.setCell ⟨b,i,G0⟩ (.slice (G1 ⟨w4.heap.size,0,G0⟩) 1 1)).alloc (zNd x ak ck)).drew).cell? ⟨bx,3,G0⟩=G1 (.slice (G1 ⟨gb,off,G0⟩) 1 cap)/\(((w4.setCell ⟨b,i,G0⟩ (.slice (G1 ⟨w4.heap.size,0,G0⟩) 1 1)).alloc (zNd x ak ck)).drew).cell? ⟨wb,2,G0⟩=G1 (.slice (G1 ⟨b,0,G0⟩) cells.length cells.length)/\(((w4.setCell ⟨b,i,G0⟩ (.slice (G1 ⟨w4.heap.size,0,G0⟩) 1 1)).alloc (zNd x ak ck)).drew).cell? ⟨gb,off,G0⟩=G1 (.int .i64 x.k)/\(((w4.setCell ⟨b,i,G0⟩ (.slice (G1 ⟨w4.heap.size,0,G0⟩) 1 1)).alloc (zNd x ak ck)).drew).cell? ⟨gb,off+1,G0⟩=G1 (.int .i64 x.n)/\(((w4.setCell ⟨b,i,G0⟩ (.slice (G1 ⟨w4.heap.size,0,G0⟩) 1 1)).alloc (zNd x ak ck)).drew).cell? ⟨gb,off+2,G0⟩=G1 (stv x.nm)/\(((w4.setCell ⟨b,i,G0⟩ (.slice (G1 ⟨w4.heap.size,0,G0⟩) 1 1)).alloc (zNd x ak ck)).drew).cell? ⟨gb,off+3,G0⟩=G1 (.slice ak x.kids.len ck):=⟨(f _ _ af G).trans p1,(f _ _ af G).trans p3,(f _ _ av aa).trans q2,(f _ _ e.2 t).trans Y0,(f _ _ e.2 t).trans Y1,(f _ _ e.2 t).trans Y2,(f _ _ e.2 t).trans Y3⟩;have aM:Hid (eD w wb b (.slice (G1 ⟨cb,d,G0⟩) cells.length q) cells.length CR (.returned (.int .i64 U)) (((w4.setCell ⟨b,i,G0⟩ (.slice (G1 ⟨w4.heap.size,0,G0⟩) 1 1)).alloc (zNd x ak ck)).drew)):=by
         have h5:=HP.out;rw[World.setCell_alloc_past _ _ _ _ M] at h5;exact⟨h5.1,h5.2.1.below ⟨rfl,rfl,rfl,G4 _,λ_ _=>rfl⟩,h5.2.2.trans (Kp.ofBelow ⟨rfl,rfl,rfl,G4 _,λ_ _=>rfl⟩)⟩
        clear HP f;go_wp2_with fail;go_region_held3 (λwx=>wx.cell? ⟨bx,1,G0⟩=G1 (.int .i64 i)/\wx.cell? ⟨bx,3,G0⟩=G1 (.slice (G1 ⟨gb,off,G0⟩) 1 cap)/\wx.cell? ⟨wb,2,G0⟩=G1 (.slice (G1 ⟨b,0,G0⟩) cells.length cells.length)/\wx.cell? ⟨gb,off,G0⟩=G1 (.int .i64 x.k)/\wx.cell? ⟨gb,off+1,G0⟩=G1 (.int .i64 x.n)/\wx.cell? ⟨gb,off+2,G0⟩=G1 (stv x.nm)/\wx.cell? ⟨gb,off+3,G0⟩=G1 (.slice ak x.kids.len ck)) (first|exact al|go_keep) (fail);clear al;go_wp2;exact Hb (v:=.int .i64 U) (by simp[Hk,Jw,go_sem]) rfl aM.out
end Go.Proofs.YtkhgahljbpmfaaaGreatDoor

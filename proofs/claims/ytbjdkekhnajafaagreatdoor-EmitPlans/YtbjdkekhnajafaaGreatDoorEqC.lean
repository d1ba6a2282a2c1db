import Derived.Test.YtbjdkekhnajafaaGreatDoorEqO
set_option maxRecDepth 100000
set_option maxHeartbeats 8000000
namespace Go.Proofs.YtbjdkekhnajafaaGreatDoor
set_option linter.unusedVariables false
set_option linter.unusedSimpArgs false
theorem Cy {K:Nat->Int}(n:Int)(u:Nat)(s:Em)(e:Dp)(h:Ry K u s e) :
  Ry K(if 5<=n then u+2 else if 3<=n then u+1 else u)(if 5<=n then(s.con 0 1 u).con 0 2(u+1) else if 3<=n then s.con 0 1 u else s)(eD n e):=by
 unfold eD
 dsimp only
 by_cases h5:5<=n
 ·rw[if_pos h5,if_pos h5,if_pos h5,if_pos(by omega)];exact fo 0 2(fo 0 1 h)
 ·rw[if_neg h5,if_neg h5,if_neg h5];by_cases h3:3<=n
  ·rw[if_pos h3,if_pos h3,if_pos h3];exact fo 0 1 h
  ·rw[if_neg h3,if_neg h3,if_neg h3];exact h
theorem CN {K:Nat->Int}(lv:List Int)(n:Int)(hn:1<=n/\n<=6){t0 t1:Tr}{d0 d1:Td}(h0:Rp K 0 t0 d0)(h1:Rp K 1 t1 d1)(ar u:Nat)(s:Em)(e:Dp)(h:Ry K u s e) :
  Ry K(u+1)(qua lv n t0 t1 ar u s)(iS lv n d0 d1 ar e):=by
 have qq:∀ X:Em,Qle X(qua lv n(fun _ _ s=>s) t1 ar u X):=fun X=>td lv n(a:=fun _ _ s=>s)(fun _ _=>Qgr.id) h1.q ar u X;have hx:qua lv n t0 t1 ar u s=qua lv n(fun _ _ s=>s) t1 ar u(t0 ar u s):=rfl;rw[hx];unfold iS
 dsimp only
 have ra:=h0.r ar u s e h;rw[Nat.add_zero] at ra;generalize t0 ar u s=A at ra ⊢;generalize d0 ar e=a at ra ⊢;have rb:=Cy n u A a ra;have hq:=qq A;unfold qua uK mN bdy Em.fork at hq ⊢
 dsimp only at hq ⊢
 by_cases hn2:n=1\/n=2
 ·rw[if_neg(show ¬5<=n by omega),if_neg(show ¬3<=n by omega),if_neg(show ¬5<=n by omega),if_neg(show ¬3<=n by omega)] at rb;have hR:Ry K(u+1)(((((((t1(ar+1) u(eC(ar+1) lv 0(A.lay 24 0 0))).lay(if n=2 then 14 else 15) A.ws.length 0).lay 25 0 0).con(if n=2 then 1 else 0) 2 u).lay 13 0 0).land A.ws.length).con(if n=2 then 0 else 1) 2 u |>.land((((t1(ar+1) u(eC(ar+1) lv 0(A.lay 24 0 0))).lay(if n=2 then 14 else 15) A.ws.length 0).lay 25 0 0).con(if n=2 then 1 else 0) 2 u).ws.length)
    (if(eD n a).lg then eD n a else if n=1\/n=2 then nT n(eD n a).ws.length(eD n a).at1(d1(ar+1)(fB(ar+1) lv 0((eD n a).puts 24 0 0))) else mP n(eD n a).ws.length(eD n a).at1(d1(ar+1)(fB(ar+1) lv 0((eD n a).puts 24 0 0)))):=by
   refine rb.step ?_(fun hl=>by rw[if_pos hl];exact hl)(fun q=>?_)
   ·rcases hn2 with e1|e1<;>subst e1<;>simpa using hq
   ·rw[if_neg(show ¬(eD n a).lg=true by rw[q.lg];decide),if_pos hn2];have rc:=oc(ar+1) lv 0 _ _(bI 24 0 0 0 rb(fun _=>rfl));have qc:=(aN A 24 0 0).trans(dS(ar+1) lv 0(A.lay 24 0 0));have lc:A.ws.length+1<=(eC(ar+1) lv 0(A.lay 24 0 0)).ws.length:=by
     have:=(dS(ar+1) lv 0(A.lay 24 0 0)).ws
     rw[im] at this;exact this
    have rd:=h1.r(ar+1) u _ _ rc;have qd:=h1.q(ar+1) u(eC(ar+1) lv 0(A.lay 24 0 0));exact CI n hn2 _ _ _ _ u _ _ rd(fun o=>⟨yv rb(qc.trans qd) o,jV rb(qc.trans qd)(Nat.le_trans lc qd.ws) o⟩)
  rcases hn2 with e1|e1
  ·subst e1;simpa using hR
  ·subst e1;simpa using hR
 ·have h3:3<=n:=by omega
  have h1':¬n=1:=by omega
  have h2':¬n=2:=by omega
  simp only[h1',h2',if_false] at hq ⊢;obtain⟨v,hv⟩:∃v,v=if 5<=n then u+2 else u+1:=⟨_,rfl⟩
  obtain⟨B,hB⟩:∃B,B=(if 5<=n then(A.con 0 1 u).con 0 2(u+1) else if 3<=n then A.con 0 1 u else A):=⟨_,rfl⟩
  have hv':(if 5<=n then u+2 else if 3<=n then u+1 else u)=v:=by rw[hv,if_pos h3]
  rw[hv',<-hB] at rb;have hR:Ry K(u+1)(if 5<=n then(((if n=3 then(((t1(ar+1) v(eC(ar+1) lv 0(B.lay 24 0 0))).lay 14 B.ws.length 0).con 1 1(u+1)).lay 6 0 0 else if n=4 then(t1(ar+1) v(eC(ar+1) lv 0(B.lay 24 0 0))).lay 6 0 0 else(t1(ar+1) v(eC(ar+1) lv 0(B.lay 24 0 0))).lay 26(n-5).toNat 0).lay 13 B.ws.length 0).land B.ws.length).lay 27 0 0
    else((if n=3 then(((t1(ar+1) v(eC(ar+1) lv 0(B.lay 24 0 0))).lay 14 B.ws.length 0).con 1 1(u+1)).lay 6 0 0 else if n=4 then(t1(ar+1) v(eC(ar+1) lv 0(B.lay 24 0 0))).lay 6 0 0 else(t1(ar+1) v(eC(ar+1) lv 0(B.lay 24 0 0))).lay 26(n-5).toNat 0).lay 13 B.ws.length 0).land B.ws.length)
    (if(eD n a).lg then eD n a else mP n(eD n a).ws.length(eD n a).at1(d1(ar+1)(fB(ar+1) lv 0((eD n a).puts 24 0 0)))):=by
   have qc:=(aN B 24 0 0).trans(dS(ar+1) lv 0(B.lay 24 0 0));have qd:=h1.q(ar+1) v(eC(ar+1) lv 0(B.lay 24 0 0));refine rb.step ?_(fun hl=>by rw[if_pos hl];exact hl)(fun q=>?_)
   ·have qm:=((((qc.trans qd).trans(tK n B.ws.length u _)).trans(aN _ 13 B.ws.length 0)).trans(eA _ B.ws.length))
    split
    ·exact qm.trans(aN _ _ _ _)
    ·exact qm
   ·rw[if_neg(show ¬(eD n a).lg=true by rw[q.lg];decide)];have rc:=oc(ar+1) lv 0 _ _(bI 24 0 0 0 rb(fun _=>rfl));have lc:B.ws.length+1<=(eC(ar+1) lv 0(B.lay 24 0 0)).ws.length:=by
     have:=(dS(ar+1) lv 0(B.lay 24 0 0)).ws
     rw[im] at this;exact this
    have rd:=h1.r(ar+1) v _ _ rc;exact CK n h3 _ _ _ _ u v _ _ rd hv(fun o=>⟨yv rb(qc.trans qd) o,jV rb(qc.trans qd)(Nat.le_trans lc qd.ws) o⟩)
  have hn6:n=3\/n=4\/n=5\/n=6:=by omega
  rcases hn6 with e1|e1|e1|e1<;>subst e1<;>simp at hv hB<;>subst hv<;>subst hB<;>simpa using hR
def skF (K:Nat->Int):Fs->Int->Nat->Prop
 | ⟨none⟩,_,_=>True
 | ⟨some⟨k,n,nm,a,ks,r⟩⟩,pk,i=>((22<=k/\k<=25) ↔ (pk=21/\i=0))/\(k=26->(kdF ks).getD 0 0=K n.toNat)/\skF K ks k 0/\skF K r pk(i+1)
def skE (K:Nat->Int)(e:Ex):Prop:=¬(22<=e.k/\e.k<=25)/\(e.k=26->(kdF e.kids).getD 0 0=K e.n.toNat)/\skF K e.kids e.k 0
theorem lj:∀ f:Fs,(kdF f).length=f.len
 | ⟨none⟩=>rfl
 | ⟨some⟨k,n,nm,a,ks,r⟩⟩=>by simp only[kdF,Fs.len,List.length_cons,lj r]
theorem oJ (lv:List Int):∀ f:Fs,(emF lv f).length=f.len
 | ⟨none⟩=>rfl
 | ⟨some⟨k,n,nm,a,ks,r⟩⟩=>by simp only[emF,Fs.len,List.length_cons,oJ lv r]
theorem ml {k n:Int}{nm:List UInt8}{len:Nat}(h:aD k n nm len=true):(k=6\/k=7\/k=24->len=1)/\(8<=k->k<=18->len=2)/\(k=19->len=3)/\(k=20->1<=len/\len<=2)/\(k=21->len=2/\1<=n/\n<=6)/\(k=22\/k=23->len=0)/\(k=26->len=1)/\(k=1\/k=2\/k=3\/(5<=k/\k<=26)):=by
 unfold aD at h;refine⟨fun e=>?_,fun e1 e2=>?_,fun e=>?_,fun e=>?_,fun e=>?_,fun e=>?_,fun e=>?_,?_⟩
 ·rcases e with rfl|rfl|rfl<;>simp at h<;>omega
 ·rw[if_neg(by omega),if_neg(by omega),if_neg(by omega),if_neg(by omega),if_pos(by omega)] at h;simp at h;omega
 ·subst e;simp at h;omega
 ·subst e;simp at h;omega
 ·subst e;simp at h;omega
 ·rcases e with rfl|rfl<;>simp at h<;>omega
 ·subst e;simp at h;omega
 ·apply Classical.byContradiction;intro hc
  repeat rw[if_neg(by omega)] at h
  cases h
theorem yI (K:Nat->Int)(lv:List Int)(nc:Nat)(k n:Int)(nm:List UInt8)(kk:List Int)(T:List Tr)(D:List Td)(len b:Nat)(hN:aD k n nm len=true)(hT:Rps K T D k 0)(hl:T.length=len)(hkk:kk.length=len)(hb:b=if 22<=k/\k<=25 then 0 else 1)(hc:k=26->kk.getD 0 0=K n.toNat)(hq:Qtr (prt lv k n nm kk T))(hk:∀ ar s,s.lg=true->(mf lv k n nm kk D ar s).lg=true) :
  Rp K b(prt lv k n nm kk T)(mf lv k n nm kk D):=by
 refine⟨hq,hk,fun ar u s e h=>h.step(hq ar u s)(hk ar e)(fun r=>?_)⟩;subst hb;have hDl:=ue T D 0 hT;obtain⟨l1,l2,l3,l4,l5,l6,l7,l8⟩:=ml hN;have kseq:k≠21->Ry K(u+T.length)(kH T 0 ar u s)(cR D ar e):=fun hk=>by
  have:=xp 0 0 k hk T D 0 0 ar u s e hT h
  rw[Nat.add_zero] at this;exact this
 have kget:∀ j,j<T.length->k≠21->Rp K 1(T.getD j noT)(D.getD j noD):=fun j hj hk=>by
  have:=kR T D 0 j hT hj
  rw[if_neg(fun h=>hk h.1)] at this;exact this
 have hlg:¬(e.lg=true):=by rw[r.lg];decide
 by_cases hs:22<=k/\k<=25
 ·unfold prt mf;rw[if_pos hs,if_pos hs,if_neg(by omega),if_neg(by omega),if_neg(by omega),if_neg(by omega),if_neg(by omega),if_neg(by omega),if_neg(by omega),if_neg(by omega),if_neg(by omega),Nat.add_zero];have hseq:=kseq(by omega);generalize kH T 0 ar u s=A at hseq ⊢;unfold uX opr
  dsimp only
  generalize cR D ar e=a at hseq ⊢;rw[if_neg(by omega),if_neg(by omega),if_neg(by omega),if_neg(by omega),if_neg(by omega)];by_cases e22:k=22
  ·subst e22;have h0:=l6(.inl rfl);rw[if_neg(by omega),if_neg(by omega),if_pos rfl];exact bV u _(bI 20 0 0 0 hseq(fun _=>rfl))(by omega)(by omega)
  ·by_cases e23:k=23
   ·subst e23;have h0:=l6(.inr rfl);rw[if_pos rfl,if_neg(by omega),if_pos rfl];exact bV u _(bI 21 _ _ 0(DT nm hseq)(fun o=>by rw[(hseq.1 o).ns]))(by omega)(by omega)
   ·rw[if_neg e23,if_neg e22,if_neg e23];by_cases e24:k=24
    ·subst e24;rw[if_neg(by omega),if_pos rfl];exact bV u _(bI 22 0 0 0 hseq(fun _=>rfl))(by omega)(by omega)
    ·have e25:k=25:=by omega
     subst e25;rw[if_pos rfl,if_neg(by omega)];exact bV u _(bI 23 kk.length D.length 0 hseq(fun _=>by omega))(by omega)(by omega)
 ·unfold prt mf;rw[if_neg hs,if_neg hs,if_neg hlg];by_cases e1:k=1
  ·rw[if_pos e1,if_pos e1];exact fo n 1 h
  rw[if_neg e1,if_neg e1];by_cases e2:k=2
  ·rw[if_pos e2,if_pos e2];exact fo n 2 h
  rw[if_neg e2,if_neg e2];by_cases e3:k=3
  ·rw[if_pos e3,if_pos e3];exact oD 2 _ _ 0(BC n h)(fun o=>by rw[(h.1 o).cs])
  rw[if_neg e3,if_neg e3];by_cases e5:k=5
  ·rw[if_pos e5,if_pos e5];exact oD 3 _ _ 0 h(fun _=>rfl)
  rw[if_neg e5,if_neg e5];by_cases e6:6<=k/\k<=12
  ·rw[if_neg(by omega),if_neg(by omega),if_neg(by omega),if_neg(by omega),if_neg(by omega),if_pos e6];have hseq:=kseq(by omega);unfold opr;rw[if_neg(by omega),if_neg(by omega),if_neg(by omega),if_neg(by omega),if_neg(by omega),if_neg(by omega),if_neg(by omega)];by_cases e67:k=6\/k=7
   ·have:=l1(by omega)
    rw[if_pos e67];exact bV(u+1) _(bI(fy k) 0 0 0 hseq(fun _=>rfl))(by omega)(by omega)
   ·have:=l2(by omega)(by omega)
    rw[if_neg e67];exact bV(u+1) _(bI(fy k) 0 0 0 hseq(fun _=>rfl))(by omega)(by omega)
  rw[if_neg e6];by_cases e13:13<=k/\k<=16
  ·rw[if_neg(by omega),if_neg(by omega),if_neg(by omega),if_neg(by omega),if_neg(by omega),if_pos e13];have hseq:=kseq(by omega)
   have:=l2(by omega)(by omega)
   unfold opr we;by_cases k13:k=13
   ·rw[if_pos k13,if_pos k13];exact bV(u+1) _(bI 11 0 0 _ hseq(fun _=>rfl))(by omega)(by omega)
   rw[if_neg k13,if_neg k13];by_cases k14:k=14
   ·rw[if_pos k14,if_pos k14];exact bV(u+1) _(bI 5 0 0 0(bI 11 0 0 _ hseq(fun _=>rfl))(fun _=>rfl))(by omega)(by omega)
   rw[if_neg k14,if_neg k14];by_cases k15:k=15
   ·rw[if_pos k15,if_pos k15];exact bV(u+1) _(bI 12 0 0 0 hseq(fun _=>rfl))(by omega)(by omega)
   rw[if_neg k15,if_neg k15,if_pos(by omega)];exact bV(u+1) _(bI 12 0 0 1 hseq(fun _=>rfl))(by omega)(by omega)
  rw[if_neg e13];by_cases e20:k=20
  ·rw[if_neg(by omega),if_neg(by omega),if_neg(by omega),if_neg(by omega),if_neg(by omega),if_pos e20];have hseq:=kseq(by omega)
   have:=l4 e20
   unfold opr;rw[if_neg(by omega),if_neg(by omega),if_neg(by omega),if_neg(by omega),if_pos e20];exact bV(u+1) _(bI 16 _ _ 0 hseq(fun _=>rfl))(by omega)(by omega)
  rw[if_neg e20];by_cases e26:k=26
  ·rw[if_neg(by omega),if_neg(by omega),if_neg(by omega),if_pos e26,if_pos e26]
   have:=l7 e26
   exact Aa n.toNat _(hc e26)(kget 0(by omega)(by omega)) ar u s e h
  rw[if_neg e26];by_cases e21:k=21
  ·rw[if_neg(by omega),if_neg(by omega),if_neg(by omega),if_neg e26,if_pos e21,if_pos e21];have h5:=l5 e21;have g0:=kR T D 0 0 hT(by omega);have g1:=kR T D 0 1 hT(by omega);rw[if_pos⟨e21,rfl⟩] at g0;rw[if_neg(by omega)] at g1;exact CN lv n h5.2 g0 g1 ar u s e h
  rw[if_neg e21];have hk3:k=17\/k=18\/k=19:=by omega
  have g0:=kget 0(by rcases hk3 with e|e|e<;>first|(have:=l2(by omega)(by omega);omega)|(have:=l3 e;omega))(by omega);have g1:=kget 1(by rcases hk3 with e|e|e<;>first|(have:=l2(by omega)(by omega);omega)|(have:=l3 e;omega))(by omega);have hcho:=DB k g0 g1(fun h1 h2=>kget 2(by have:=l3(by omega);omega)(by omega)) ar u s e h;rcases hk3 with e|e|e<;>subst e<;>simpa using hcho
theorem yu (K:Nat->Int)(lv:List Int)(nc:Nat):∀ (f:Fs) (pk:Int) (i:Nat),skF K f pk i->okF nc f->Rps K (emF lv f) (deF lv f) pk i
 | ⟨none⟩,_,_,_,_=>trivial
 | ⟨some⟨k,n,nm,a,ks,r⟩⟩,pk,i,h,ho=>by
  obtain⟨h1,h2,h3,h4⟩:=h;refine⟨?_,yu K lv nc r pk(i+1) h4 ho.2.2⟩;refine yI K lv nc k n nm(kdF ks)(emF lv ks)(deF lv ks) ks.len _ ho.1.1(yu K lv nc ks k 0 h3 ho.2.1)(oJ lv ks)(lj ks) ?_ h2(oe lv k n nm(kdF ks)(lf lv ks))(fun ar s=>(od lv k n nm(kdF ks)(deF lv ks) ks(jl lv ks) ar s).lg);by_cases hs:22<=k/\k<=25
  ·rw[if_pos hs,if_pos(h1.1 hs)]
  ·rw[if_neg hs,if_neg(fun h=>hs(h1.2 h))]
theorem rp_E (K:Nat->Int)(lv:List Int)(nc:Nat)(e:Ex)(h:skE K e)(ho:okE nc e):Rp K 1 (emE lv e) (deE lv e) :=
 yI K lv nc e.k e.n e.nm(kdF e.kids)(emF lv e.kids)(deF lv e.kids) e.kids.len 1 ho.1.1(yu K lv nc e.kids e.k 0 h.2.2 ho.2)(oJ lv e.kids)(lj e.kids)(by rw[if_neg h.1]) h.2.1(oe lv e.k e.n e.nm(kdF e.kids)(lf lv e.kids))(fun ar s=>(bQ lv e ar s).lg)
def de0 (lv:List Int):Dp:=⟨[],[],[],List.replicate lv.length 0,0,0,false⟩
def deA (lv:List Int)(e:Ex):Dp:=(deE lv e 0 (de0 lv)).puts 0 0 0
theorem ry_A (K:Nat->Int)(lv:List Int)(nc:Nat)(e:Ex)(h:skE K e)(ho:okE nc e):Ry K 1 (emA lv e) (deA lv e):=by
 have h0:Ry K 0(em0 lv)(de0 lv):=by
  refine Ry.of⟨⟨by simp[em0],by simp[em0]⟩,Nat.zero_le _,rfl,rfl,rfl,by simp[de0,em0],fun i hi=>?_,rfl,rfl,rfl⟩;simp only[em0,List.length_replicate] at hi
  left
  simp only[de0,em0];simp[hi,List.getD_eq_getElem?_getD,List.getElem?_replicate]
 exact bI 0 0 0 0((rp_E K lv nc e h ho).r 0 0 _ _ h0)(fun _=>rfl)
open Go.ChangeShapes Go.WideShapes Go.ChangeAt Go.RowKit
theorem gV {K:Nat->Int}{x:Ex}{r:Fs}{pk:Int}(hp:pk≠21)(h:skF K (Fs.ex x r) pk 0):skE K x:=⟨fun hs=>hp (h.1.1 hs).1,h.2.1,h.2.2.1⟩
theorem kM {K:Nat->Int}{x y:Ex}{r:Fs}{pk:Int}(hp:pk≠21)(h:skF K (Fs.ex x (Fs.ex y r)) pk 0):skE K y:=⟨fun hs=>hp (h.2.2.2.1.1 hs).1,h.2.2.2.2.1,h.2.2.2.2.2.1⟩
theorem vB (n:Int)(h:1<=n/\n<=10):fS n=pU n:=by
 have hc:n=1\/n=2\/n=3\/n=4\/n=5\/n=6\/n=7\/n=8\/n=9\/n=10:=by omega
 rcases hc with rfl|rfl|rfl|rfl|rfl|rfl|rfl|rfl|rfl|rfl<;>rfl
theorem sH (n:Int)(h:1<=n/\n<=6):cq n=pK n:=by
 have hc:n=1\/n=2\/n=3\/n=4\/n=5\/n=6:=by omega
 rcases hc with rfl|rfl|rfl|rfl|rfl|rfl<;>rfl
theorem sJ (K:Nat->Int)(nc N:Nat):∀ (e:Ex) (ao:Option Addr) (cap:Nat) (w:World),e.kids.size<N->okE nc e->skE K e->SnA w e.kids ao ->
  Calls Tryz.prog 137 #[exN e ao cap] w fun r w'=>r=.returned(.int .i64(kdE e))/\Below w.heap.size w w':=by
 induction N with
 | zero=>intro e ao cap w hs;omega
 | succ N ih =>
  intro e ao cap w hs ho hsk S;obtain⟨k,n,nm,a,ks⟩:=e;obtain⟨⟨hd,-,-⟩,hk⟩:=ho;obtain⟨hsk1,-,hsk2⟩:=hsk;simp only at hs hd hk S hsk1 hsk2;rw[ah];simp only;have hdl:=gZ hd;by_cases h19:k=19
  ·subst h19;have hlen:ks.len=3:=hdl.1 rfl;rw[hlen];obtain⟨x,y,z,hks⟩:=gY hlen;have S':=S;rw[hks] at S' hk hs hsk2;obtain⟨w1,hw1⟩:∃w1,w1=w.alloc(.cells #[.int .i64 19,.int .i64 n,stv nm,.slice ao 3 cap] 34):=⟨_,rfl⟩
   obtain⟨g,hg⟩:∃g,g=w.heap.size:=⟨_,rfl⟩
   have B1:Below w.heap.size w w1:=by rw[hw1];exact b1 _ _
   have C1:w1.heap[g]?=some(.cells #[.int .i64 19,.int .i64 n,stv nm,.slice ao 3 cap] 34):=by rw[hw1,hg];exact heap_alloc_new _ _
   obtain⟨⟨c0,c1,c2,c3⟩,-⟩:=ai C1;have HG:=Lib.hid hg;have HB:=Lib.hid B1;obtain⟨b,off,ak,ck,rfl,x0,x1,x2,x3,Sy⟩:=BK(S'.below B1);have hv:kdE⟨19,n,nm,a,ks⟩=kdE y:=by simp only[kdE,hks,iM];simp[kdN]
   rw[hv];have HC:=ih y ak ck w1(by simp only[aV] at hs;omega)(aK(aK hk).2).1(kM(by omega) hsk2) Sy;rw[ah] at HC;clear B1 S S' hks hk hs hg C1 hv hdl hd hsk1 hsk2;go_enter Tryz.func137,Tryz.ntmps137;go_upto_region 1 with fail;rw[<-hw1,<-HG.out];clear hw1;go_wp2_with fail;refine HC.mono ?_;rintro r w2⟨rfl,B2⟩;go_wp2;go_ret;exact⟨rfl,HB.out.trans(B2.mono HB.out.size)⟩
  by_cases h26:k=26
  ·subst h26;have hlen:ks.len=1:=hdl.2.1 rfl;rw[hlen];obtain⟨x,hks⟩:=iW hlen;have S':=S;rw[hks] at S' hk hs hsk2;obtain⟨w1,hw1⟩:∃w1,w1=w.alloc(.cells #[.int .i64 26,.int .i64 n,stv nm,.slice ao 1 cap] 34):=⟨_,rfl⟩
   obtain⟨g,hg⟩:∃g,g=w.heap.size:=⟨_,rfl⟩
   have B1:Below w.heap.size w w1:=by rw[hw1];exact b1 _ _
   have C1:w1.heap[g]?=some(.cells #[.int .i64 26,.int .i64 n,stv nm,.slice ao 1 cap] 34):=by rw[hw1,hg];exact heap_alloc_new _ _
   obtain⟨⟨c0,c1,c2,c3⟩,-⟩:=ai C1;have HG:=Lib.hid hg;have HB:=Lib.hid B1;obtain⟨b,off,ak,ck,rfl,x0,x1,x2,x3,Sy⟩:=tW(S'.below B1);have hv:kdE⟨26,n,nm,a,ks⟩=kdE x:=by simp only[kdE,hks,iM];simp[kdN]
   rw[hv];have HC:=ih x ak ck w1(by simp only[aV] at hs;omega)(aK hk).1(gV(by omega) hsk2) Sy;rw[ah] at HC;clear B1 S S' hks hk hs hg C1 hv hdl hd hsk1 hsk2;go_enter Tryz.func137,Tryz.ntmps137;go_upto_region 1 with fail;rw[<-hw1,<-HG.out];clear hw1;go_wp2_with fail;refine HC.mono ?_;rintro r w2⟨rfl,B2⟩;go_wp2;go_ret;exact⟨rfl,HB.out.trans(B2.mono HB.out.size)⟩
  by_cases h20:k=20
  ·subst h20;have hv:kdE⟨20,n,nm,a,ks⟩=pU n:=by simp[kdE,kdN]
   rw[hv];obtain⟨w1,hw1⟩:∃w1,w1=w.alloc(.cells #[.int .i64 20,.int .i64 n,stv nm,.slice ao ks.len cap] 34):=⟨_,rfl⟩
   obtain⟨g,hg⟩:∃g,g=w.heap.size:=⟨_,rfl⟩
   have B1:Below w.heap.size w w1:=by rw[hw1];exact b1 _ _
   have C1:w1.heap[g]?=some(.cells #[.int .i64 20,.int .i64 n,stv nm,.slice ao ks.len cap] 34):=by rw[hw1,hg];exact heap_alloc_new _ _
   obtain⟨⟨c0,c1,c2,c3⟩,-⟩:=ai C1;have HG:=Lib.hid hg;have HB:=Lib.hid B1;have HC:=oH n w1;rw[vB n(hdl.2.2.2.2.1 rfl)] at HC;clear B1 S hk hs hg C1 hv hdl hd hsk1 hsk2;go_enter Tryz.func137,Tryz.ntmps137;go_upto_region 1 with fail;rw[<-hw1,<-HG.out];clear hw1;go_wp2_with fail;refine HC.mono ?_;rintro r w2⟨rfl,hww⟩;subst hww;go_wp2;go_ret;exact⟨rfl,HB.out⟩
  by_cases h21:k=21
  ·subst h21;have hv:kdE⟨21,n,nm,a,ks⟩=pK n:=by simp[kdE,kdN]
   rw[hv];obtain⟨w1,hw1⟩:∃w1,w1=w.alloc(.cells #[.int .i64 21,.int .i64 n,stv nm,.slice ao ks.len cap] 34):=⟨_,rfl⟩
   obtain⟨g,hg⟩:∃g,g=w.heap.size:=⟨_,rfl⟩
   have B1:Below w.heap.size w w1:=by rw[hw1];exact b1 _ _
   have C1:w1.heap[g]?=some(.cells #[.int .i64 21,.int .i64 n,stv nm,.slice ao ks.len cap] 34):=by rw[hw1,hg];exact heap_alloc_new _ _
   obtain⟨⟨c0,c1,c2,c3⟩,-⟩:=ai C1;have HG:=Lib.hid hg;have HB:=Lib.hid B1;have HC:=oO n w1;rw[sH n(hdl.2.2.2.1 rfl).2] at HC;clear B1 S hk hs hg C1 hv hdl hd hsk1 hsk2;go_enter Tryz.func137,Tryz.ntmps137;go_upto_region 1 with fail;rw[<-hw1,<-HG.out];clear hw1;go_wp2_with fail;refine HC.mono ?_;rintro r w2⟨rfl,hww⟩;subst hww;go_wp2;go_ret;exact⟨rfl,HB.out⟩
  by_cases h1:k=1
  ·subst h1;have hv:kdE⟨1,n,nm,a,ks⟩=1:=by simp[kdE,kdN]
   rw[hv];obtain⟨w1,hw1⟩:∃w1,w1=w.alloc(.cells #[.int .i64 1,.int .i64 n,stv nm,.slice ao ks.len cap] 34):=⟨_,rfl⟩
   obtain⟨g,hg⟩:∃g,g=w.heap.size:=⟨_,rfl⟩
   have B1:Below w.heap.size w w1:=by rw[hw1];exact b1 _ _
   have C1:w1.heap[g]?=some(.cells #[.int .i64 1,.int .i64 n,stv nm,.slice ao ks.len cap] 34):=by rw[hw1,hg];exact heap_alloc_new _ _
   obtain⟨⟨c0,c1,c2,c3⟩,-⟩:=ai C1;have HG:=Lib.hid hg;have HB:=Lib.hid B1;clear B1 S hk hs hg C1 hv hd hdl ih hsk1 hsk2;go_enter Tryz.func137,Tryz.ntmps137;go_upto_region 1 with fail;rw[<-hw1,<-HG.out];clear hw1;go_wp2;go_ret;exact⟨rfl,HB.out⟩
  by_cases h2:k=2
  ·subst h2;have hv:kdE⟨2,n,nm,a,ks⟩=2:=by simp[kdE,kdN]
   rw[hv];obtain⟨w1,hw1⟩:∃w1,w1=w.alloc(.cells #[.int .i64 2,.int .i64 n,stv nm,.slice ao ks.len cap] 34):=⟨_,rfl⟩
   obtain⟨g,hg⟩:∃g,g=w.heap.size:=⟨_,rfl⟩
   have B1:Below w.heap.size w w1:=by rw[hw1];exact b1 _ _
   have C1:w1.heap[g]?=some(.cells #[.int .i64 2,.int .i64 n,stv nm,.slice ao ks.len cap] 34):=by rw[hw1,hg];exact heap_alloc_new _ _
   obtain⟨⟨c0,c1,c2,c3⟩,-⟩:=ai C1;have HG:=Lib.hid hg;have HB:=Lib.hid B1;clear B1 S hk hs hg C1 hv hd hdl ih hsk1 hsk2;go_enter Tryz.func137,Tryz.ntmps137;go_upto_region 1 with fail;rw[<-hw1,<-HG.out];clear hw1;go_wp2;go_ret;exact⟨rfl,HB.out⟩
  by_cases h3:k=3
  ·subst h3;have hv:kdE⟨3,n,nm,a,ks⟩=3:=by simp[kdE,kdN]
   rw[hv];obtain⟨w1,hw1⟩:∃w1,w1=w.alloc(.cells #[.int .i64 3,.int .i64 n,stv nm,.slice ao ks.len cap] 34):=⟨_,rfl⟩
   obtain⟨g,hg⟩:∃g,g=w.heap.size:=⟨_,rfl⟩
   have B1:Below w.heap.size w w1:=by rw[hw1];exact b1 _ _
   have C1:w1.heap[g]?=some(.cells #[.int .i64 3,.int .i64 n,stv nm,.slice ao ks.len cap] 34):=by rw[hw1,hg];exact heap_alloc_new _ _
   obtain⟨⟨c0,c1,c2,c3⟩,-⟩:=ai C1;have HG:=Lib.hid hg;have HB:=Lib.hid B1;clear B1 S hk hs hg C1 hv hd hdl ih hsk1 hsk2;go_enter Tryz.func137,Tryz.ntmps137;go_upto_region 1 with fail;rw[<-hw1,<-HG.out];clear hw1;go_wp2;go_ret;exact⟨rfl,HB.out⟩
  by_cases h5:k=5
  ·subst h5;have hv:kdE⟨5,n,nm,a,ks⟩=3:=by simp[kdE,kdN]
   rw[hv];obtain⟨w1,hw1⟩:∃w1,w1=w.alloc(.cells #[.int .i64 5,.int .i64 n,stv nm,.slice ao ks.len cap] 34):=⟨_,rfl⟩
   obtain⟨g,hg⟩:∃g,g=w.heap.size:=⟨_,rfl⟩
   have B1:Below w.heap.size w w1:=by rw[hw1];exact b1 _ _
   have C1:w1.heap[g]?=some(.cells #[.int .i64 5,.int .i64 n,stv nm,.slice ao ks.len cap] 34):=by rw[hw1,hg];exact heap_alloc_new _ _
   obtain⟨⟨c0,c1,c2,c3⟩,-⟩:=ai C1;have HG:=Lib.hid hg;have HB:=Lib.hid B1;clear B1 S hk hs hg C1 hv hd hdl ih hsk1 hsk2;go_enter Tryz.func137,Tryz.ntmps137;go_upto_region 1 with fail;rw[<-hw1,<-HG.out];clear hw1;go_wp2;go_ret;exact⟨rfl,HB.out⟩
  by_cases h6:k=6
  ·subst h6;have hv:kdE⟨6,n,nm,a,ks⟩=1:=by simp[kdE,kdN]
   rw[hv];obtain⟨w1,hw1⟩:∃w1,w1=w.alloc(.cells #[.int .i64 6,.int .i64 n,stv nm,.slice ao ks.len cap] 34):=⟨_,rfl⟩
   obtain⟨g,hg⟩:∃g,g=w.heap.size:=⟨_,rfl⟩
   have B1:Below w.heap.size w w1:=by rw[hw1];exact b1 _ _
   have C1:w1.heap[g]?=some(.cells #[.int .i64 6,.int .i64 n,stv nm,.slice ao ks.len cap] 34):=by rw[hw1,hg];exact heap_alloc_new _ _
   obtain⟨⟨c0,c1,c2,c3⟩,-⟩:=ai C1;have HG:=Lib.hid hg;have HB:=Lib.hid B1;clear B1 S hk hs hg C1 hv hd hdl ih hsk1 hsk2;go_enter Tryz.func137,Tryz.ntmps137;go_upto_region 1 with fail;rw[<-hw1,<-HG.out];clear hw1;go_wp2;go_ret;exact⟨rfl,HB.out⟩
  by_cases h7:k=7
  ·subst h7;have hv:kdE⟨7,n,nm,a,ks⟩=2:=by simp[kdE,kdN]
   rw[hv];obtain⟨w1,hw1⟩:∃w1,w1=w.alloc(.cells #[.int .i64 7,.int .i64 n,stv nm,.slice ao ks.len cap] 34):=⟨_,rfl⟩
   obtain⟨g,hg⟩:∃g,g=w.heap.size:=⟨_,rfl⟩
   have B1:Below w.heap.size w w1:=by rw[hw1];exact b1 _ _
   have C1:w1.heap[g]?=some(.cells #[.int .i64 7,.int .i64 n,stv nm,.slice ao ks.len cap] 34):=by rw[hw1,hg];exact heap_alloc_new _ _
   obtain⟨⟨c0,c1,c2,c3⟩,-⟩:=ai C1;have HG:=Lib.hid hg;have HB:=Lib.hid B1;clear B1 S hk hs hg C1 hv hd hdl ih hsk1 hsk2;go_enter Tryz.func137,Tryz.ntmps137;go_upto_region 1 with fail;rw[<-hw1,<-HG.out];clear hw1;go_wp2;go_ret;exact⟨rfl,HB.out⟩
  by_cases h8:k=8
  ·subst h8;have hv:kdE⟨8,n,nm,a,ks⟩=1:=by simp[kdE,kdN]
   rw[hv];obtain⟨w1,hw1⟩:∃w1,w1=w.alloc(.cells #[.int .i64 8,.int .i64 n,stv nm,.slice ao ks.len cap] 34):=⟨_,rfl⟩
   obtain⟨g,hg⟩:∃g,g=w.heap.size:=⟨_,rfl⟩
   have B1:Below w.heap.size w w1:=by rw[hw1];exact b1 _ _
   have C1:w1.heap[g]?=some(.cells #[.int .i64 8,.int .i64 n,stv nm,.slice ao ks.len cap] 34):=by rw[hw1,hg];exact heap_alloc_new _ _
   obtain⟨⟨c0,c1,c2,c3⟩,-⟩:=ai C1;have HG:=Lib.hid hg;have HB:=Lib.hid B1;clear B1 S hk hs hg C1 hv hd hdl ih hsk1 hsk2;go_enter Tryz.func137,Tryz.ntmps137;go_upto_region 1 with fail;rw[<-hw1,<-HG.out];clear hw1;go_wp2;go_ret;exact⟨rfl,HB.out⟩
  by_cases h9:k=9
  ·subst h9;have hv:kdE⟨9,n,nm,a,ks⟩=1:=by simp[kdE,kdN]
   rw[hv];obtain⟨w1,hw1⟩:∃w1,w1=w.alloc(.cells #[.int .i64 9,.int .i64 n,stv nm,.slice ao ks.len cap] 34):=⟨_,rfl⟩
   obtain⟨g,hg⟩:∃g,g=w.heap.size:=⟨_,rfl⟩
   have B1:Below w.heap.size w w1:=by rw[hw1];exact b1 _ _
   have C1:w1.heap[g]?=some(.cells #[.int .i64 9,.int .i64 n,stv nm,.slice ao ks.len cap] 34):=by rw[hw1,hg];exact heap_alloc_new _ _
   obtain⟨⟨c0,c1,c2,c3⟩,-⟩:=ai C1;have HG:=Lib.hid hg;have HB:=Lib.hid B1;clear B1 S hk hs hg C1 hv hd hdl ih hsk1 hsk2;go_enter Tryz.func137,Tryz.ntmps137;go_upto_region 1 with fail;rw[<-hw1,<-HG.out];clear hw1;go_wp2;go_ret;exact⟨rfl,HB.out⟩
  by_cases h10:k=10
  ·subst h10;have hv:kdE⟨10,n,nm,a,ks⟩=1:=by simp[kdE,kdN]
   rw[hv];obtain⟨w1,hw1⟩:∃w1,w1=w.alloc(.cells #[.int .i64 10,.int .i64 n,stv nm,.slice ao ks.len cap] 34):=⟨_,rfl⟩
   obtain⟨g,hg⟩:∃g,g=w.heap.size:=⟨_,rfl⟩
   have B1:Below w.heap.size w w1:=by rw[hw1];exact b1 _ _
   have C1:w1.heap[g]?=some(.cells #[.int .i64 10,.int .i64 n,stv nm,.slice ao ks.len cap] 34):=by rw[hw1,hg];exact heap_alloc_new _ _
   obtain⟨⟨c0,c1,c2,c3⟩,-⟩:=ai C1;have HG:=Lib.hid hg;have HB:=Lib.hid B1;clear B1 S hk hs hg C1 hv hd hdl ih hsk1 hsk2;go_enter Tryz.func137,Tryz.ntmps137;go_upto_region 1 with fail;rw[<-hw1,<-HG.out];clear hw1;go_wp2;go_ret;exact⟨rfl,HB.out⟩
  by_cases h11:k=11
  ·subst h11;have hv:kdE⟨11,n,nm,a,ks⟩=1:=by simp[kdE,kdN]
   rw[hv];obtain⟨w1,hw1⟩:∃w1,w1=w.alloc(.cells #[.int .i64 11,.int .i64 n,stv nm,.slice ao ks.len cap] 34):=⟨_,rfl⟩
   obtain⟨g,hg⟩:∃g,g=w.heap.size:=⟨_,rfl⟩
   have B1:Below w.heap.size w w1:=by rw[hw1];exact b1 _ _
   have C1:w1.heap[g]?=some(.cells #[.int .i64 11,.int .i64 n,stv nm,.slice ao ks.len cap] 34):=by rw[hw1,hg];exact heap_alloc_new _ _
   obtain⟨⟨c0,c1,c2,c3⟩,-⟩:=ai C1;have HG:=Lib.hid hg;have HB:=Lib.hid B1;clear B1 S hk hs hg C1 hv hd hdl ih hsk1 hsk2;go_enter Tryz.func137,Tryz.ntmps137;go_upto_region 1 with fail;rw[<-hw1,<-HG.out];clear hw1;go_wp2;go_ret;exact⟨rfl,HB.out⟩
  by_cases h12:k=12
  ·subst h12;have hv:kdE⟨12,n,nm,a,ks⟩=1:=by simp[kdE,kdN]
   rw[hv];obtain⟨w1,hw1⟩:∃w1,w1=w.alloc(.cells #[.int .i64 12,.int .i64 n,stv nm,.slice ao ks.len cap] 34):=⟨_,rfl⟩
   obtain⟨g,hg⟩:∃g,g=w.heap.size:=⟨_,rfl⟩
   have B1:Below w.heap.size w w1:=by rw[hw1];exact b1 _ _
   have C1:w1.heap[g]?=some(.cells #[.int .i64 12,.int .i64 n,stv nm,.slice ao ks.len cap] 34):=by rw[hw1,hg];exact heap_alloc_new _ _
   obtain⟨⟨c0,c1,c2,c3⟩,-⟩:=ai C1;have HG:=Lib.hid hg;have HB:=Lib.hid B1;clear B1 S hk hs hg C1 hv hd hdl ih hsk1 hsk2;go_enter Tryz.func137,Tryz.ntmps137;go_upto_region 1 with fail;rw[<-hw1,<-HG.out];clear hw1;go_wp2;go_ret;exact⟨rfl,HB.out⟩
  by_cases h13:k=13
  ·subst h13;have hv:kdE⟨13,n,nm,a,ks⟩=2:=by simp[kdE,kdN]
   rw[hv];obtain⟨w1,hw1⟩:∃w1,w1=w.alloc(.cells #[.int .i64 13,.int .i64 n,stv nm,.slice ao ks.len cap] 34):=⟨_,rfl⟩
   obtain⟨g,hg⟩:∃g,g=w.heap.size:=⟨_,rfl⟩
   have B1:Below w.heap.size w w1:=by rw[hw1];exact b1 _ _
   have C1:w1.heap[g]?=some(.cells #[.int .i64 13,.int .i64 n,stv nm,.slice ao ks.len cap] 34):=by rw[hw1,hg];exact heap_alloc_new _ _
   obtain⟨⟨c0,c1,c2,c3⟩,-⟩:=ai C1;have HG:=Lib.hid hg;have HB:=Lib.hid B1;clear B1 S hk hs hg C1 hv hd hdl ih hsk1 hsk2;go_enter Tryz.func137,Tryz.ntmps137;go_upto_region 1 with fail;rw[<-hw1,<-HG.out];clear hw1;go_wp2;go_ret;exact⟨rfl,HB.out⟩
  by_cases h14:k=14
  ·subst h14;have hv:kdE⟨14,n,nm,a,ks⟩=2:=by simp[kdE,kdN]
   rw[hv];obtain⟨w1,hw1⟩:∃w1,w1=w.alloc(.cells #[.int .i64 14,.int .i64 n,stv nm,.slice ao ks.len cap] 34):=⟨_,rfl⟩
   obtain⟨g,hg⟩:∃g,g=w.heap.size:=⟨_,rfl⟩
   have B1:Below w.heap.size w w1:=by rw[hw1];exact b1 _ _
   have C1:w1.heap[g]?=some(.cells #[.int .i64 14,.int .i64 n,stv nm,.slice ao ks.len cap] 34):=by rw[hw1,hg];exact heap_alloc_new _ _
   obtain⟨⟨c0,c1,c2,c3⟩,-⟩:=ai C1;have HG:=Lib.hid hg;have HB:=Lib.hid B1;clear B1 S hk hs hg C1 hv hd hdl ih hsk1 hsk2;go_enter Tryz.func137,Tryz.ntmps137;go_upto_region 1 with fail;rw[<-hw1,<-HG.out];clear hw1;go_wp2;go_ret;exact⟨rfl,HB.out⟩
  by_cases h15:k=15
  ·subst h15;have hv:kdE⟨15,n,nm,a,ks⟩=2:=by simp[kdE,kdN]
   rw[hv];obtain⟨w1,hw1⟩:∃w1,w1=w.alloc(.cells #[.int .i64 15,.int .i64 n,stv nm,.slice ao ks.len cap] 34):=⟨_,rfl⟩
   obtain⟨g,hg⟩:∃g,g=w.heap.size:=⟨_,rfl⟩
   have B1:Below w.heap.size w w1:=by rw[hw1];exact b1 _ _
   have C1:w1.heap[g]?=some(.cells #[.int .i64 15,.int .i64 n,stv nm,.slice ao ks.len cap] 34):=by rw[hw1,hg];exact heap_alloc_new _ _
   obtain⟨⟨c0,c1,c2,c3⟩,-⟩:=ai C1;have HG:=Lib.hid hg;have HB:=Lib.hid B1;clear B1 S hk hs hg C1 hv hd hdl ih hsk1 hsk2;go_enter Tryz.func137,Tryz.ntmps137;go_upto_region 1 with fail;rw[<-hw1,<-HG.out];clear hw1;go_wp2;go_ret;exact⟨rfl,HB.out⟩
  by_cases h16:k=16
  ·subst h16;have hv:kdE⟨16,n,nm,a,ks⟩=2:=by simp[kdE,kdN]
   rw[hv];obtain⟨w1,hw1⟩:∃w1,w1=w.alloc(.cells #[.int .i64 16,.int .i64 n,stv nm,.slice ao ks.len cap] 34):=⟨_,rfl⟩
   obtain⟨g,hg⟩:∃g,g=w.heap.size:=⟨_,rfl⟩
   have B1:Below w.heap.size w w1:=by rw[hw1];exact b1 _ _
   have C1:w1.heap[g]?=some(.cells #[.int .i64 16,.int .i64 n,stv nm,.slice ao ks.len cap] 34):=by rw[hw1,hg];exact heap_alloc_new _ _
   obtain⟨⟨c0,c1,c2,c3⟩,-⟩:=ai C1;have HG:=Lib.hid hg;have HB:=Lib.hid B1;clear B1 S hk hs hg C1 hv hd hdl ih hsk1 hsk2;go_enter Tryz.func137,Tryz.ntmps137;go_upto_region 1 with fail;rw[<-hw1,<-HG.out];clear hw1;go_wp2;go_ret;exact⟨rfl,HB.out⟩
  by_cases h17:k=17
  ·subst h17;have hv:kdE⟨17,n,nm,a,ks⟩=2:=by simp[kdE,kdN]
   rw[hv];obtain⟨w1,hw1⟩:∃w1,w1=w.alloc(.cells #[.int .i64 17,.int .i64 n,stv nm,.slice ao ks.len cap] 34):=⟨_,rfl⟩
   obtain⟨g,hg⟩:∃g,g=w.heap.size:=⟨_,rfl⟩
   have B1:Below w.heap.size w w1:=by rw[hw1];exact b1 _ _
   have C1:w1.heap[g]?=some(.cells #[.int .i64 17,.int .i64 n,stv nm,.slice ao ks.len cap] 34):=by rw[hw1,hg];exact heap_alloc_new _ _
   obtain⟨⟨c0,c1,c2,c3⟩,-⟩:=ai C1;have HG:=Lib.hid hg;have HB:=Lib.hid B1;clear B1 S hk hs hg C1 hv hd hdl ih hsk1 hsk2;go_enter Tryz.func137,Tryz.ntmps137;go_upto_region 1 with fail;rw[<-hw1,<-HG.out];clear hw1;go_wp2;go_ret;exact⟨rfl,HB.out⟩
  by_cases h18:k=18
  ·subst h18;have hv:kdE⟨18,n,nm,a,ks⟩=2:=by simp[kdE,kdN]
   rw[hv];obtain⟨w1,hw1⟩:∃w1,w1=w.alloc(.cells #[.int .i64 18,.int .i64 n,stv nm,.slice ao ks.len cap] 34):=⟨_,rfl⟩
   obtain⟨g,hg⟩:∃g,g=w.heap.size:=⟨_,rfl⟩
   have B1:Below w.heap.size w w1:=by rw[hw1];exact b1 _ _
   have C1:w1.heap[g]?=some(.cells #[.int .i64 18,.int .i64 n,stv nm,.slice ao ks.len cap] 34):=by rw[hw1,hg];exact heap_alloc_new _ _
   obtain⟨⟨c0,c1,c2,c3⟩,-⟩:=ai C1;have HG:=Lib.hid hg;have HB:=Lib.hid B1;clear B1 S hk hs hg C1 hv hd hdl ih hsk1 hsk2;go_enter Tryz.func137,Tryz.ntmps137;go_upto_region 1 with fail;rw[<-hw1,<-HG.out];clear hw1;go_wp2;go_ret;exact⟨rfl,HB.out⟩
  by_cases h22:k=22
  ·exact absurd(show 22<=k/\k<=25 by omega) hsk1
  by_cases h23:k=23
  ·exact absurd(show 22<=k/\k<=25 by omega) hsk1
  by_cases h24:k=24
  ·exact absurd(show 22<=k/\k<=25 by omega) hsk1
  by_cases h25:k=25
  ·exact absurd(show 22<=k/\k<=25 by omega) hsk1
  exfalso;rcases dK hd with h|h|h|h|h|h|h|h|h|h|h|h|h|h|h|h|h|h|h|h|h|h|h|h|h<;>contradiction
def DX (w:World)(o:Nat->Nat)(p4:Value)(lv:List Int):Prop :=
 ∃ao cap,p4=.slice ao lv.length cap/\(lv=[]\/∃b off,ao=some⟨b,off,none⟩/\o b=0/\b<w.heap.size/\∀ j x,lv[j]?=some x->w.cell?⟨b,off+j,none⟩=some(.int .i64 x))
theorem DX.step {I:Nat->Prop}{w w':World}{o o':Nat->Nat}{p4:Value}{lv:List Int}(h:DX w o p4 lv)(x:aa I w o w' o')(hi:¬I 0):DX w' o' p4 lv:=by
 obtain⟨ao,cap,h6,h7⟩:=h;refine⟨ao,cap,h6,?_⟩;rcases h7 with h7|⟨b,off,e1,e2,e3,e4⟩
 ·exact .inl h7
 ·exact .inr⟨b,off,e1,(x.lab b e3).trans e2,Nat.lt_of_lt_of_le e3 x.size,fun j y hy=>(World.cell?_of_block(a:=⟨b,off+j,none⟩)(x.block b e3(by rw[e2];exact hi))).trans(e4 j y hy)⟩
def eu (K:Nat->Int)(nc N:Nat):Prop:=∀ (e:Ex) (ao:Option Addr) (cap ar:Nat) (w:World) (o:Nat->Nat) (rb:Nat) (p0 p1 p2 p3 p4:Value) (lv:List Int) (s:Dp) (m:Nat),
 e.kids.size<N->okE nc e->skE K e->lv.length=nc->nc<=256->ar+e.kids.size<=1000000->e.kids.size<=100000->SnO w o e.kids ao->s.ks.length=nc->s.sz m->m+(17*e.kids.size+16)<=100000000->DX w o p4 lv->DW w o rb p0 p1 p2 p3 p4 s ->
 Calls Tryz.prog 40 #[pt0 rb,exN e ao cap,.int .i64(ar:Nat)] w(cH w o rb p0 p1 p2 p3 p4(deE lv e ar s)(.tuple #[]))
theorem dn {w:World}{o:Nat->Nat}{rb:Nat}{p0 p1 p2 p3 p4:Value}{s:Dp}{lv:List Int}{ks:Fs}{ao:Option Addr}(c:Array Value)(h:DW w o rb p0 p1 p2 p3 p4 s)(X:DX w o p4 lv)(S:SnO w o ks ao) :
  ∃w1 o1 g,w1=w.alloc(.cells c 34)/\Hid(g=w.heap.size)/\Blk w1 o1 0 g(.cells c 34)/\DW w1 o1 rb p0 p1 p2 p3 p4 s/\DX w1 o1 p4 lv/\SnO w1 o1 ks ao/\aa I17 w o w1 o1 :=
 have s0:∀ {I:Nat->Prop},aa I w o(w.alloc(.cells c 34))(ae w o 0):=fun {I}=>dI o(b1 _ _)
 ⟨_,ae w o 0,w.heap.size,rfl,rfl,⟨heap_alloc_new _ _,ax(Nat.le_refl _)⟩,h.step(s0(I:=fun _=>False)) noF,X.step(s0(I:=fun _=>False)) id,S.stepO(s0(I:=fun _=>False)) id,s0⟩
theorem dl {w1:World}{o1:Nat->Nat}{g:Nat}{x0 x1 x2 x3:Value}(h:Blk w1 o1 0 g (.cells #[x0,x1,x2,x3] 34)):Hid (∀ w' o',aa I17 w1 o1 w' o'->w'.cell? ⟨g,0,none⟩=some x0/\w'.cell? ⟨g,1,none⟩=some x1/\w'.cell? ⟨g,2,none⟩=some x2/\w'.cell? ⟨g,3,none⟩=some x3) :=
 fun w' o' S=>(ai(h.step S aA).1).1
theorem DW.cl {w:World}{o:Nat->Nat}{rb:Nat}{p0 p1 p2 p3 p4:Value}{s:Dp}(h:DW w o rb p0 p1 p2 p3 p4 s):w.cell? ⟨rb,11,none⟩=some (.bool s.lg)/\w.cell? ⟨rb,4,none⟩=some p4:=by
 obtain⟨wl,vc,vn,vk,vw,q0,-⟩:=h;obtain⟨⟨c4,c5,c6,c7,c8,c9,c10,c11⟩,cf⟩:=bT q0.1;exact⟨c11,c4⟩
theorem y5 {lv:List Int}{e:Ex}{ar:Nat}{s:Dp}(h:¬(22<=e.k/\e.k<=25))(hl:s.lg=true):deE lv e ar s=s:=by
 unfold deE mf;rw[if_neg h,if_pos hl]
theorem pc {K:Nat->Int}{pk:Int}{lv:List Int}{ar:Nat}{s:Dp}(hp:pk≠21)(hl:s.lg=true):∀ (f:Fs) (i:Nat),skF K f pk i->cR (deF lv f) ar s=s
 | ⟨none⟩,i,h=>rfl
 | ⟨some⟨k,n,nm,a,ks,r⟩⟩,i,h=>by
  have e1:deF lv⟨some⟨k,n,nm,a,ks,r⟩⟩=deE lv⟨k,n,nm,a,ks⟩::deF lv r:=rfl;rw[e1,cR,y5(fun hs=>hp(h.1.1 hs).1) hl,pc hp hl r(i+1) h.2.2.2]
theorem oS (K:Nat->Int)(nc N:Nat)(HP:eu K nc N)(k n:Int)(nm:List UInt8)(a:Int)(ks:Fs)(ao:Option Addr)(cap ar:Nat)(w:World)(o:Nat->Nat)(rb:Nat)(p0 p1 p2 p3 p4:Value)(lv:List Int)(s:Dp)(m:Nat)
  (hN:ks.size<=N)(ho:okF nc ks)(h21:k≠21)(hsk:skF K ks k 0)(hlv:lv.length=nc)(hnc:nc<=256)(har:ar+ks.size<=1000000)(hsz:ks.size<=100000)(S:SnO w o ks ao)(hks:s.ks.length=nc)(hz:s.sz m)(hm:m+17*ks.size<=100000000)(X:DX w o p4 lv)(h:DW w o rb p0 p1 p2 p3 p4 s) :
  Calls Tryz.prog 78 #[pt0 rb,exN⟨k,n,nm,a,ks⟩ ao cap,.int .i64(ar:Nat)] w(cH w o rb p0 p1 p2 p3 p4(cR(deF lv ks) ar s)(.tuple #[])):=by
 obtain⟨w1,o1,g,hw1,HG,B1,E1,X1,SN1,S0⟩:=dn #[.int .i64 k,.int .i64 n,stv nm,.slice ao ks.len cap] h X S;have KK:=dl B1;have hlz:=eX ks;obtain⟨W,hW⟩:∃W,W=cR(deF lv ks) ar s:=⟨_,rfl⟩
 have HW:Hid(W=cR(deF lv ks) ar s):=hW;rw[<-hW];clear hW B1 h X S;rw[ah];obtain⟨c0,c1,c2,c3⟩:=KK.out _ _(aa.refl I17 w1 o1);obtain⟨l1,-⟩:=E1.cl;simp only;go_enter Tryz.func78,Tryz.ntmps78;go_upto_region 1 with fail;rw[<-hw1,<-HG.out];clear hw1;go_wp2_with fail;go_loopw [6](fun vi wr=>∃(d r:Fs)(s':Dp)(o':Nat->Nat),Hid(ks=d.app r)/\vi=.int .i64(d.len:Nat)/\DW wr o' rb p0 p1 p2 p3 p4 s'/\aa I17 w1 o1 wr o'/\Dle(17*d.size) s s'/\Hid(W=cR(deF lv r) ar s')/\Hid(skF K r k d.len))(fun vi _=>ks.len-(intOf vi).toNat)
 case atStart=>exact⟨.nil,ks,s,o1,rfl,by show _=Value.int .i64((0:Nat):Int);rfl,E1,aa.refl _ _ _,Dle.refl s,HW,hsk⟩
 case round =>
  clear HW E1 c0 c1 c2 c3 l1 hsk;obtain⟨d,r,s',o',HK,rfl,E2,S2,g2,HW,HS⟩:=hrel;obtain⟨c0,c1,c2,c3⟩:=KK.out _ _ S2;obtain⟨l1,-⟩:=E2.cl;have hlk:ks.len=d.len+r.len:=by rw[HK.out,Fs.len_app]
  have hsk:ks.size=d.size+r.size:=by rw[HK.out,Fs.size_app]
  have hld:=eX d;cases r using Fs.on with
  | nil =>
   have hkI:¬(d.len:Int)<(ks.len:Int):=by simp only[Fs.len] at hlk;omega
   have HW2:Hid(W=s'):=HW.out;clear HW HK hlk hsk hld hlz KK g2;go_wp2
   go_end0
   exact⟨rfl,o',by rw[HW2.out];exact E2,S0.trans S2⟩
  | cons kk kn km ka kks kr =>
   have hkI:(d.len:Int)<(ks.len:Int):=by simp only[Fs.len] at hlk;omega
   by_cases hlg:s'.lg=true
   ·have HW2:Hid(W=s'):=by show _=_;rw[HW.out];exact pc h21 hlg _ _ HS.out
    rw[hlg] at l1;clear HW HK hlk hsk hld hlz KK g2 HS;go_wp2
    go_end0
    exact⟨rfl,o',by rw[HW2.out];exact E2,S0.trans S2⟩
   ·have hlf:s'.lg=false:=by simpa using hlg
    rw[hlf] at l1;obtain⟨y,hy⟩:∃y:Ex,y=⟨kk,kn,km,ka,kks⟩:=⟨_,rfl⟩
    have hcy:Fs.cons kk kn km ka kks kr=Fs.ex y kr:=by rw[hy];rfl
    rw[hcy] at HK HW HS hlk hsk;have hly:(Fs.ex y kr).len=kr.len+1:=rfl;rw[hly] at hlk;rw[aV] at hsk;have oky:okE nc y:=by
     rw[HK.out] at ho;exact(aK(ou ho)).1
    have SNk:=SN1.stepO S2 aA;rw[HK.out] at SNk;obtain⟨b,off,ak,ck,rfl,NN,Sy,NK⟩:=dX(x:=d) SNk d.len rfl;obtain⟨x0,x1,x2,x3⟩:=NN;have HC:=HP y ak ck ar wr o' rb p0 p1 p2 p3 p4 lv s'(m+17*d.size)(by omega) oky⟨fun hs=>h21(HS.out.1.1 hs).1,HS.out.2.1,HS.out.2.2.1⟩ hlv hnc(by omega)(by omega) Sy(g2.ks.trans hks)(g2.sz m hz)(by omega)(X1.step S2 aA) E2;have gy:=bQ lv y ar s';have HWn:Hid(W=cR(deF lv kr) ar(deE lv y ar s')):=HW.out;have HSn:Hid(skF K kr k(d.len+1)):=HS.out.2.2.2;have HKn:Hid(ks=(d.snoc y).app kr):=by show _=_;rw[HK.out,ol]
    have HDN:Hid((d.snoc y).len=d.len+1):=Fs.len_snoc d y;have HDS:Hid((d.snoc y).size=d.size+(y.kids.size+1)):=by show _=_;unfold Fs.snoc;rw[Fs.size_app];rfl
    rw[ah] at HC;have HLK:=Lib.hid hlk;clear hy hcy hly SNk NK Sy HW HK HS E2 hsk hlk hlf hlg KK;go_wp2_with(first|(go_at_call 40;refine HC.mono ?_;rintro z w5⟨rfl,o5,E5,S5⟩));go_roundw
    case rel=>(try((repeat apply Exists.intro);refine⟨?_,rfl⟩));exact⟨d.snoc y,kr,_,o5,HKn,by rw[HDN.out];go_num,E5,S2.trans S5,by rw[HDS.out];exact(g2.trans gy).le(by omega),HWn,by rw[HDN.out];exact HSn⟩
    case measure=>have hlk:=HLK.out;simp[intOf];omega
theorem yL (k n:Int)(nm:List UInt8)(a:Int)(ks:Fs)(ao:Option Addr)(cap ar:Nat)(w:World)(o:Nat->Nat)(rb:Nat)(p0 p1 p2 p3 p4:Value)(lv:List Int)(s:Dp)(m:Nat)(kd:Nat)(hk:(k=1/\kd=1)\/(k=2/\kd=2))(hlf:s.lg=false)(S:SnO w o ks ao)(hz:s.sz m)(hm:m+2<=100000000)(X:DX w o p4 lv)(h:DW w o rb p0 p1 p2 p3 p4 s) :
  Calls Tryz.prog 40 #[pt0 rb,exN⟨k,n,nm,a,ks⟩ ao cap,.int .i64(ar:Nat)] w(cH w o rb p0 p1 p2 p3 p4(s.val n kd)(.tuple #[])):=by
 obtain⟨w1,o1,g,hw1,HG,B1,E1,X1,SN1,S0⟩:=dn #[.int .i64 k,.int .i64 n,stv nm,.slice ao ks.len cap] h X S;have KK:=dl B1;obtain⟨c0,c1,c2,c3⟩:=KK.out _ _(aa.refl I17 w1 o1);obtain⟨l1,-⟩:=E1.cl;have T1:=aa.refl I17 w1 o1;clear B1 h X S;rw[ah];simp only;rw[hlf] at l1;have H1:=du w1 o1 rb p0 p1 p2 p3 p4 s n kd m hz hm E1;clear KK E1 X1 SN1;rcases hk with⟨rfl,rfl⟩|⟨rfl,rfl⟩
 all_goals
  first|rw[show((1:Nat):Int)=1 from rfl] at H1|rw[show((2:Nat):Int)=2 from rfl] at H1
  go_enter Tryz.func40,Tryz.ntmps40;go_upto_region 1 with fail;rw[<-hw1,<-HG.out];clear hw1;go_wp2_with fail;refine H1.mono ?_;rintro e w2⟨rfl,o2,E2,S2⟩;go_wp2
  go_end0
  exact⟨rfl,o2,E2,S0.trans S2⟩
theorem Cs (k n:Int)(nm:List UInt8)(a:Int)(ks:Fs)(ao:Option Addr)(cap ar:Nat)(w:World)(o:Nat->Nat)(rb:Nat)(p0 p1 p2 p3 p4:Value)(lv:List Int)(s:Dp)(m:Nat)(hk:k=3)(hlf:s.lg=false)(S:SnO w o ks ao)(hz:s.sz m)(hm:m+2<=100000000)(X:DX w o p4 lv)(h:DW w o rb p0 p1 p2 p3 p4 s) :
  Calls Tryz.prog 40 #[pt0 rb,exN⟨k,n,nm,a,ks⟩ ao cap,.int .i64(ar:Nat)] w(cH w o rb p0 p1 p2 p3 p4(((s.kI n).puts 2(s.cs.idxOf n) 0).grows 1)(.tuple #[])):=by
 obtain⟨w1,o1,g,hw1,HG,B1,E1,X1,SN1,S0⟩:=dn #[.int .i64 k,.int .i64 n,stv nm,.slice ao ks.len cap] h X S;have KK:=dl B1;obtain⟨c0,c1,c2,c3⟩:=KK.out _ _(aa.refl I17 w1 o1);obtain⟨l1,-⟩:=E1.cl;have T1:=aa.refl I17 w1 o1;clear B1 h X S;rw[ah];simp only;rw[hlf] at l1;subst hk;go_enter Tryz.func40,Tryz.ntmps40;go_upto_region 1 with fail;rw[<-hw1,<-HG.out];clear hw1;have H1:=k_c w1 o1 rb p0 p1 p2 p3 p4 s n(by have:=hz.c;omega) E1;go_wp2_with fail;refine H1.mono ?_;rintro e w2⟨rfl,o2,E2,S2⟩;have T2:=T1.trans S2;clear H1 S2;clear c0 c1 c2 c3;obtain⟨c0,c1,c2,c3⟩:=KK.out _ _ T2;have H2:=aS w2 o2 rb p0 p1 p2 p3 p4(s.kI n) 2(s.cs.idxOf n) 0 E2;go_wp2_with fail;refine H2.mono ?_;rintro e w3⟨rfl,o3,E3,S3⟩;have T3:=T2.trans S3;clear H2 S3;clear c0 c1 c2 c3;obtain⟨c0,c1,c2,c3⟩:=KK.out _ _ T3;have H3:=bh w3 o3 rb p0 p1 p2 p3 p4((s.kI n).puts 2(s.cs.idxOf n) 0)(1) _((as _ 2(s.cs.idxOf n) 0).sz _((lz s n).sz m hz))(by omega)(by omega) E3;go_wp2_with fail;refine H3.mono ?_;rintro e w4⟨rfl,o4,E4,S4⟩;have T4:=T3.trans S4;clear H3 S4;clear c0 c1 c2 c3;obtain⟨c0,c1,c2,c3⟩:=KK.out _ _ T4;go_wp2
 go_end0
 exact⟨rfl,o4,E4,S0.trans T4⟩
theorem CJ (k n:Int)(nm:List UInt8)(a:Int)(ks:Fs)(ao:Option Addr)(cap ar:Nat)(w:World)(o:Nat->Nat)(rb:Nat)(p0 p1 p2 p3 p4:Value)(lv:List Int)(s:Dp)(m:Nat)(hk:k=5)(hn:0<=n)(hlf:s.lg=false)(S:SnO w o ks ao)(hz:s.sz m)(hm:m+2<=100000000)(X:DX w o p4 lv)(h:DW w o rb p0 p1 p2 p3 p4 s) :
  Calls Tryz.prog 40 #[pt0 rb,exN⟨k,n,nm,a,ks⟩ ao cap,.int .i64(ar:Nat)] w(cH w o rb p0 p1 p2 p3 p4((s.puts 3 n.toNat 0).grows 1)(.tuple #[])):=by
 obtain⟨n0,hn0⟩:∃n0:Nat,(n0:Int)=n:=⟨n.toNat,by omega⟩
 subst hn0;rw[Int.toNat_natCast];obtain⟨w1,o1,g,hw1,HG,B1,E1,X1,SN1,S0⟩:=dn #[.int .i64 k,.int .i64(n0:Nat),stv nm,.slice ao ks.len cap] h X S;have KK:=dl B1;obtain⟨c0,c1,c2,c3⟩:=KK.out _ _(aa.refl I17 w1 o1);obtain⟨l1,-⟩:=E1.cl;have T1:=aa.refl I17 w1 o1;clear B1 h X S;rw[ah];simp only;rw[hlf] at l1;subst hk;go_enter Tryz.func40,Tryz.ntmps40;go_upto_region 1 with fail;rw[<-hw1,<-HG.out];clear hw1;have H1:=aS w1 o1 rb p0 p1 p2 p3 p4(s) 3 n0 0 E1;go_wp2_with fail;refine H1.mono ?_;rintro e w2⟨rfl,o2,E2,S2⟩;have T2:=T1.trans S2;clear H1 S2;clear c0 c1 c2 c3;obtain⟨c0,c1,c2,c3⟩:=KK.out _ _ T2;have H2:=bh w2 o2 rb p0 p1 p2 p3 p4(s.puts 3 n0 0)(1) _((as s 3 n0 0).sz m hz)(by omega)(by omega) E2;go_wp2_with fail;refine H2.mono ?_;rintro e w3⟨rfl,o3,E3,S3⟩;have T3:=T2.trans S3;clear H2 S3;clear c0 c1 c2 c3;obtain⟨c0,c1,c2,c3⟩:=KK.out _ _ T3;go_wp2
 go_end0
 exact⟨rfl,o3,E3,S0.trans T3⟩
theorem xi (k:Int)(hk:6<=k/\k<=12)(w:World):Calls Tryz.prog 79 #[.int .i64 k] w fun e w'=>e=.returned (.tuple #[.int .i64 (fy k:Nat),.int .i64 (if k=6\/k=7 then 0 else 1)])/\w'=w:=by
 have hc:k=6\/k=7\/k=8\/k=9\/k=10\/k=11\/k=12:=by omega
 rcases hc with rfl|rfl|rfl|rfl|rfl|rfl|rfl
 all_goals
  go_enter Tryz.func79,Tryz.ntmps79;go_wp2;go_ret2;exact⟨rfl,rfl⟩
theorem ia (lv:List Int)(ks:Fs)(ar:Nat)(s:Dp):Dle (17*ks.size) s (cR (deF lv ks) ar s):=by
 obtain⟨-,c,hc,hk⟩:=lW _ ks(jl lv ks);exact(hk ar s).le(by omega)
theorem BQ (K:Nat->Int)(nc N:Nat)(HP:eu K nc N)(k n:Int)(nm:List UInt8)(a:Int)(ks:Fs)(ao:Option Addr)(cap ar:Nat)(w:World)(o:Nat->Nat)(rb:Nat)(p0 p1 p2 p3 p4:Value)(lv:List Int)(s:Dp)(m:Nat)(hk:6<=k/\k<=12)(hN:ks.size<=N)(ho:okE nc ⟨k,n,nm,a,ks⟩)(hsk:skF K ks k 0)(hlv:lv.length=nc)(hnc:nc<=256)(har:ar+ks.size<=1000000)(hsz:ks.size<=100000)(S:SnO w o ks ao)(hks:s.ks.length=nc)(hz:s.sz m)(hm:m+(17*ks.size+16)<=100000000)(X:DX w o p4 lv)(h:DW w o rb p0 p1 p2 p3 p4 s)(hlf:s.lg=false) :
  Calls Tryz.prog 40 #[pt0 rb,exN⟨k,n,nm,a,ks⟩ ao cap,.int .i64(ar:Nat)] w(cH w o rb p0 p1 p2 p3 p4(((cR(deF lv ks) ar s).puts(fy k) 0 0).grows(if k=6\/k=7 then 0 else -1))(.tuple #[])):=by
 have h21:k≠21:=by omega
 have hsim:=xi k hk;obtain⟨q,hq⟩:∃q,q=fy k:=⟨_,rfl⟩
 obtain⟨l,hl⟩:∃l:Int,l=if k=6\/k=7 then 0 else 1:=⟨_,rfl⟩
 have hl1:(if k=6\/k=7 then 0 else -1)=-l:=by rw[hl];split<;>rfl
 have hl2:0<=l/\l<=1:=by rw[hl];split<;>omega
 rw[hl1,<-hq];rw[<-hq,<-hl] at hsim;clear hl1 hl hq;obtain⟨w1,o1,g,hw1,HG,B1,E1,X1,SN1,S0⟩:=dn #[.int .i64 k,.int .i64 n,stv nm,.slice ao ks.len cap] h X S;have KK:=dl B1;obtain⟨c0,c1,c2,c3⟩:=KK.out _ _(aa.refl I17 w1 o1);obtain⟨l1,-⟩:=E1.cl;have T1:=aa.refl I17 w1 o1;clear B1 h X S;rw[ah];simp only;rw[hlf] at l1;have H1:=oS K nc N HP k n nm a ks ao cap ar w1 o1 rb p0 p1 p2 p3 p4 lv s m hN ho.2 h21 hsk hlv hnc har hsz(SN1.stepO T1 aA) hks hz(by omega)(X1.step T1 aA) E1;rw[ah] at H1;simp only at H1;have zA:=((ia lv ks ar s).sz m hz)
 generalize cR(deF lv ks) ar s=A at *;clear hsk ho HP SN1 X1 E1;have hc:k=6\/k=7\/k=8\/k=9\/k=10\/k=11\/k=12:=by omega
 clear hk h21;rcases hc with rfl|rfl|rfl|rfl|rfl|rfl|rfl
 all_goals
  go_enter Tryz.func40,Tryz.ntmps40;go_upto_region 1 with fail;rw[<-hw1,<-HG.out];clear hw1;go_wp2_with fail;refine H1.mono ?_;rintro e w2⟨rfl,o2,E2,S2⟩;clear H1 c0 c1 c2 c3;obtain⟨c0,c1,c2,c3⟩:=KK.out _ _ S2;have H2:=hsim w2;go_wp2_with fail;refine H2.mono ?_;rintro e w3⟨rfl,hw3⟩;subst hw3;clear H2 hsim;have H3:=aS w3 o2 rb p0 p1 p2 p3 p4 A q 0 0 E2;go_wp2_with fail;refine H3.mono ?_;rintro e w4⟨rfl,o4,E4,S4⟩;clear H3 c0 c1 c2 c3;have H4:=bh w4 o4 rb p0 p1 p2 p3 p4 _(-l) _((as A q 0 0).sz _ zA)(by omega)(by omega) E4;go_wp2_with fail;refine H4.mono ?_;rintro e w5⟨rfl,o5,E5,S5⟩;go_wp2
  go_end0
  exact⟨rfl,o5,E5,((S0.trans S2).trans S4).trans S5⟩
theorem Dy (K:Nat->Int)(nc N:Nat)(HP:eu K nc N)(k n:Int)(nm:List UInt8)(a:Int)(ks:Fs)(ao:Option Addr)(cap ar:Nat)(w:World)(o:Nat->Nat)(rb:Nat)(p0 p1 p2 p3 p4:Value)(lv:List Int)(s:Dp)(m:Nat)(hk:k=20)(hn:0<=n)(hN:ks.size<=N)(ho:okE nc ⟨k,n,nm,a,ks⟩)(hsk:skF K ks k 0)(hlv:lv.length=nc)(hnc:nc<=256)(har:ar+ks.size<=1000000)(hsz:ks.size<=100000)(S:SnO w o ks ao)(hks:s.ks.length=nc)(hz:s.sz m)(hm:m+(17*ks.size+16)<=100000000)(X:DX w o p4 lv)(h:DW w o rb p0 p1 p2 p3 p4 s)(hlf:s.lg=false) :
  Calls Tryz.prog 40 #[pt0 rb,exN⟨k,n,nm,a,ks⟩ ao cap,.int .i64(ar:Nat)] w(cH w o rb p0 p1 p2 p3 p4(((cR(deF lv ks) ar s).puts 16 n.toNat 0).grows(1-(ks.len:Int)))(.tuple #[])):=by
 have h21:k≠21:=by omega
 obtain⟨n0,hn0⟩:∃n0:Nat,(n0:Int)=n:=⟨n.toNat,by omega⟩
 subst hn0;rw[Int.toNat_natCast];obtain⟨w1,o1,g,hw1,HG,B1,E1,X1,SN1,S0⟩:=dn #[.int .i64 k,.int .i64(n0:Nat),stv nm,.slice ao ks.len cap] h X S;have KK:=dl B1;obtain⟨c0,c1,c2,c3⟩:=KK.out _ _(aa.refl I17 w1 o1);obtain⟨l1,-⟩:=E1.cl;have T1:=aa.refl I17 w1 o1;clear B1 h X S;rw[ah];simp only;rw[hlf] at l1;have H1:=oS K nc N HP k n0 nm a ks ao cap ar w1 o1 rb p0 p1 p2 p3 p4 lv s m hN ho.2 h21 hsk hlv hnc har hsz(SN1.stepO T1 aA) hks hz(by omega)(X1.step T1 aA) E1;rw[ah] at H1;simp only at H1;have zA:=((ia lv ks ar s).sz m hz)
 have hlz:=eX ks;generalize cR(deF lv ks) ar s=A at *;generalize ks.len=le at *;clear hsk ho HP SN1 X1 E1 h21;subst hk;go_enter Tryz.func40,Tryz.ntmps40;go_upto_region 1 with fail;rw[<-hw1,<-HG.out];clear hw1;go_wp2_with fail;refine H1.mono ?_;rintro e w2⟨rfl,o2,E2,S2⟩;clear H1 c0 c1 c2 c3;obtain⟨c0,c1,c2,c3⟩:=KK.out _ _ S2;have H3:=aS w2 o2 rb p0 p1 p2 p3 p4 A 16 n0 0 E2;go_wp2_with fail;refine H3.mono ?_;rintro e w4⟨rfl,o4,E4,S4⟩;clear H3 c0 c1 c2 c3;obtain⟨c0,c1,c2,c3⟩:=KK.out _ _(S2.trans S4);have H4:=bh w4 o4 rb p0 p1 p2 p3 p4 _(1-(le:Int)) _((as A 16 n0 0).sz _ zA)(by omega)(by omega) E4;go_wp2_with fail;refine H4.mono ?_;rintro e w5⟨rfl,o5,E5,S5⟩;go_wp2
 go_end0
 exact⟨rfl,o5,E5,((S0.trans S2).trans S4).trans S5⟩
theorem Dq (K:Nat->Int)(nc N:Nat)(HP:eu K nc N)(k n:Int)(nm:List UInt8)(a:Int)(ks:Fs)(ao:Option Addr)(cap ar:Nat)(w:World)(o:Nat->Nat)(rb:Nat)(p0 p1 p2 p3 p4:Value)(lv:List Int)(s:Dp)(m:Nat)(hk:13<=k/\k<=16)(hN:ks.size<=N)(ho:okE nc ⟨k,n,nm,a,ks⟩)(hsk:skF K ks k 0)(hlv:lv.length=nc)(hnc:nc<=256)(har:ar+ks.size<=1000000)(hsz:ks.size<=100000)(S:SnO w o ks ao)(hks:s.ks.length=nc)(hz:s.sz m)(hm:m+(17*ks.size+16)<=100000000)(X:DX w o p4 lv)(h:DW w o rb p0 p1 p2 p3 p4 s) :
  Calls Tryz.prog 80 #[pt0 rb,exN⟨k,n,nm,a,ks⟩ ao cap,.int .i64(ar:Nat)] w(cH w o rb p0 p1 p2 p3 p4((we k(kdF ks)(cR(deF lv ks) ar s)).grows(-1))(.tuple #[])):=by
 have h21:k≠21:=by omega
 have hl2:ks.len=2:=(ml ho.1.1).2.1(by simp only;omega)(by simp only;omega);obtain⟨x,y,hxy⟩:=ep hl2;obtain⟨w1,o1,g,hw1,HG,B1,E1,X1,SN1,S0⟩:=dn #[.int .i64 k,.int .i64 n,stv nm,.slice ao ks.len cap] h X S;have KK:=dl B1;obtain⟨c0,c1,c2,c3⟩:=KK.out _ _(aa.refl I17 w1 o1);obtain⟨l1,-⟩:=E1.cl;have T1:=aa.refl I17 w1 o1;clear B1 h X S;rw[ah];simp only;have H1:=oS K nc N HP k n nm a ks ao cap ar w1 o1 rb p0 p1 p2 p3 p4 lv s m hN ho.2 h21 hsk hlv hnc har hsz(SN1.stepO T1 aA) hks hz(by omega)(X1.step T1 aA) E1;rw[ah] at H1;simp only at H1;have zA:=((ia lv ks ar s).sz m hz)
 have zC:=(tg k(kdF ks)(cR(deF lv ks) ar s)).sz _ zA;generalize cR(deF lv ks) ar s=A at *;have SN1':=SN1;rw[hxy] at SN1';obtain⟨b,off,ak,ck,hao,NN,Sy,NK⟩:=dX(x:=.nil) SN1' 0 rfl;have hkd:(kdF ks).getD 0 0=kdE x:=by rw[hxy];rfl
 have hx:okE nc x/\x.kids.size<N+1:=⟨by have:=ho.2;simp only at this;rw[hxy] at this;exact(aK this).1,by rw[hxy,aV] at hN;omega⟩
 have hsx:skE K x:=by rw[hxy] at hsk;exact gV h21 hsk
 have hkb:=iR hx.1;have HQ:∀ w' o',aa I17 w1 o1 w' o'->_:=fun w' o' T=>sJ K nc(N+1) x ak ck w' hx.2 hx.1 hsx(Sy.stepO T aA).all;obtain⟨kx,hkx⟩:∃kx:Nat,(kx:Int)=kdE x:=⟨(kdE x).toNat,by omega⟩
 have ekx:((kdF ks).getD 0 0).toNat=kx:=by rw[hkd,<-hkx,Int.toNat_natCast]
 unfold we at zC ⊢;rw[ekx] at zC ⊢;rw[<-hkx] at HQ;have hc:k=13\/k=14\/k=15\/k=16:=by omega
 subst hao;rw[hl2] at hw1 H1 KK c3 ⊢;clear hk h21 hkd ekx hkx hkb hx hsx hsk ho HP SN1 X1 E1 hxy SN1' Sy NN;rcases hc with rfl|rfl|rfl|rfl
 ·go_enter Tryz.func80,Tryz.ntmps80;go_upto_region 1 with fail;rw[<-hw1,<-HG.out];clear hw1;go_wp2_with fail;refine H1.mono ?_;rintro e w2⟨rfl,o2,E2,S2⟩;clear H1 c0 c1 c2 c3;obtain⟨c0,c1,c2,c3⟩:=KK.out _ _ S2;obtain⟨x0,x1,x2,x3⟩:Nd4 w2 b off x ak ck:=NK S2 aA;have H2:=HQ _ _ S2;rw[ah] at H2;go_wp2_with fail;refine H2.mono ?_;rintro e w3⟨rfl,B3⟩;have E3:=E2.step(aa.ofBelow(I:=fun _=>False) o2 B3) noF;have S3:=S2.trans(aa.ofBelow(I:=I17) o2 B3);clear H2 HQ c0 c1 c2 c3 x0 x1 x2 x3 KK;have H3:=aS w3 o2 rb p0 p1 p2 p3 p4 A 11 0 kx E3;go_wp2_with fail;refine H3.mono ?_;rintro e w4⟨rfl,o4,E4,S4⟩;clear H3;have H4:=bh w4 o4 rb p0 p1 p2 p3 p4 _(-1) _ zC(by omega)(by omega) E4;go_wp2_with fail;refine H4.mono ?_;rintro e w5⟨rfl,o5,E5,S5⟩;go_wp2
  go_end0
  exact⟨rfl,o5,E5,((S0.trans S3).trans S4).trans S5⟩
 ·go_enter Tryz.func80,Tryz.ntmps80;go_upto_region 1 with fail;rw[<-hw1,<-HG.out];clear hw1;go_wp2_with fail;refine H1.mono ?_;rintro e w2⟨rfl,o2,E2,S2⟩;clear H1 c0 c1 c2 c3;obtain⟨c0,c1,c2,c3⟩:=KK.out _ _ S2;obtain⟨x0,x1,x2,x3⟩:Nd4 w2 b off x ak ck:=NK S2 aA;have H2:=HQ _ _ S2;rw[ah] at H2;go_wp2_with fail;refine H2.mono ?_;rintro e w3⟨rfl,B3⟩;have E3:=E2.step(aa.ofBelow(I:=fun _=>False) o2 B3) noF;have S3:=S2.trans(aa.ofBelow(I:=I17) o2 B3);clear H2 HQ c0 c1 c2 c3 x0 x1 x2 x3 KK;have H3:=aS w3 o2 rb p0 p1 p2 p3 p4 A 11 0 kx E3;go_wp2_with fail;refine H3.mono ?_;rintro e w4⟨rfl,o4,E4,S4⟩;clear H3;have H5:=aS w4 o4 rb p0 p1 p2 p3 p4 _ 5 0 0 E4;go_wp2_with fail;refine H5.mono ?_;rintro e w6⟨rfl,o6,E6,S6⟩;clear H5;have H4:=bh w6 o6 rb p0 p1 p2 p3 p4 _(-1) _ zC(by omega)(by omega) E6;go_wp2_with fail;refine H4.mono ?_;rintro e w5⟨rfl,o5,E5,S5⟩;go_wp2
  go_end0
  exact⟨rfl,o5,E5,(((S0.trans S3).trans S4).trans S6).trans S5⟩
 ·go_enter Tryz.func80,Tryz.ntmps80;go_upto_region 1 with fail;rw[<-hw1,<-HG.out];clear hw1;go_wp2_with fail;refine H1.mono ?_;rintro e w2⟨rfl,o2,E2,S2⟩;clear H1 c0 c1 c2 c3;obtain⟨c0,c1,c2,c3⟩:=KK.out _ _ S2;have H3:=aS w2 o2 rb p0 p1 p2 p3 p4 A 12 0 0 E2;go_wp2_with fail;refine H3.mono ?_;rintro e w4⟨rfl,o4,E4,S4⟩;clear H3;have H4:=bh w4 o4 rb p0 p1 p2 p3 p4 _(-1) _ zC(by omega)(by omega) E4;go_wp2_with fail;refine H4.mono ?_;rintro e w5⟨rfl,o5,E5,S5⟩;go_wp2
  go_end0
  exact⟨rfl,o5,E5,((S0.trans S2).trans S4).trans S5⟩
 ·go_enter Tryz.func80,Tryz.ntmps80;go_upto_region 1 with fail;rw[<-hw1,<-HG.out];clear hw1;go_wp2_with fail;refine H1.mono ?_;rintro e w2⟨rfl,o2,E2,S2⟩;clear H1 c0 c1 c2 c3;obtain⟨c0,c1,c2,c3⟩:=KK.out _ _ S2;have H3:=aS w2 o2 rb p0 p1 p2 p3 p4 A 12 0 1 E2;go_wp2_with fail;refine H3.mono ?_;rintro e w4⟨rfl,o4,E4,S4⟩;clear H3;have H4:=bh w4 o4 rb p0 p1 p2 p3 p4 _(-1) _ zC(by omega)(by omega) E4;go_wp2_with fail;refine H4.mono ?_;rintro e w5⟨rfl,o5,E5,S5⟩;go_wp2
  go_end0
  exact⟨rfl,o5,E5,((S0.trans S2).trans S4).trans S5⟩
abbrev Nd8 (w:World)(b j:Nat)(y:Ex)(ak:Option Addr)(ck:Nat):Prop:=w.cell? ⟨b,j+4,none⟩=some (.int .i64 y.k)/\w.cell? ⟨b,j+5,none⟩=some (.int .i64 y.n)/\w.cell? ⟨b,j+6,none⟩=some (stv y.nm)/\w.cell? ⟨b,j+7,none⟩=some (.slice ak y.kids.len ck)
abbrev NdC (w:World)(b j:Nat)(y:Ex)(ak:Option Addr)(ck:Nat):Prop:=w.cell? ⟨b,j+8,none⟩=some (.int .i64 y.k)/\w.cell? ⟨b,j+9,none⟩=some (.int .i64 y.n)/\w.cell? ⟨b,j+10,none⟩=some (stv y.nm)/\w.cell? ⟨b,j+11,none⟩=some (.slice ak y.kids.len ck)
theorem dW {A B:Dp}{op a b c:Nat}(h:Dle c (A.puts op a b) B)(hl:B.lg=false):A.at1<B.ws.length:=by
 have hw:=h.w2;unfold Dp.at1;by_cases h1:32768<=A.ws.length
 ·have:(A.puts op a b).lg=true:=by unfold Dp.puts;rw[if_pos h1]
  rw[h.lg this] at hl;cases hl
 ·rw[if_neg h1];unfold Dp.puts at hw;rw[if_neg h1] at hw;simp at hw;omega
def chA (op:Nat)(A:Dp):Dp:=(A.puts op 0 0).grows (-1)
theorem fO (op:Nat)(A:Dp):Dle 1 (A.puts op 0 0) (chA op A):=aP _ (-1) 1 (by omega) (by omega)
theorem gW (op:Nat)(A:Dp):Dle 1 A (chA op A):=((as A op 0 0).trans (fO op A)).le (by omega)
theorem yH (K:Nat->Int)(nc N:Nat)(HP:eu K nc N)(n:Int)(nm:List UInt8)(a:Int)(x y:Ex)(ao:Option Addr)(cap ar:Nat)(w:World)(o:Nat->Nat)(rb:Nat)(p0 p1 p2 p3 p4:Value)(lv:List Int)(s:Dp)(m:Nat)(hN:(Fs.ex x (Fs.ex y .nil)).size<=N)(ho:okE nc ⟨17,n,nm,a,(Fs.ex x (Fs.ex y .nil))⟩)(hsk:skF K (Fs.ex x (Fs.ex y .nil)) 17 0)(hlv:lv.length=nc)(hnc:nc<=256)(har:ar+(Fs.ex x (Fs.ex y .nil)).size<=1000000)(hsz:(Fs.ex x (Fs.ex y .nil)).size<=100000)(S:SnO w o (Fs.ex x (Fs.ex y .nil)) ao)(hks:s.ks.length=nc)(hz:s.sz m)(hm:m+(17*(Fs.ex x (Fs.ex y .nil)).size+16)<=100000000)(X:DX w o p4 lv)(h:DW w o rb p0 p1 p2 p3 p4 s) :
  Calls Tryz.prog 83 #[pt0 rb,exN⟨17,n,nm,a,(Fs.ex x(Fs.ex y .nil))⟩ ao cap,.int .i64(ar:Nat)] w(cH w o rb p0 p1 p2 p3 p4((((chA 13(deE lv y ar(chA 14(deE lv x ar s)))).lands(deE lv x ar s).at1).val 0 2).lands(deE lv y ar(chA 14(deE lv x ar s))).at1)(.tuple #[])):=by
 have hok:=ho.2;simp only at hok;have ox:=(aK hok).1;have oy:=(aK(aK hok).2).1;have sx:skE K x:=gV(by omega) hsk;have sy:skE K y:=kM(by omega) hsk;simp only[aV,Fs.size] at hN har hsz hm;obtain⟨w1,o1,g,hw1,HG,B1,E1,X1,SN1,S0⟩:=dn #[.int .i64 17,.int .i64 n,stv nm,.slice ao(Fs.ex x(Fs.ex y .nil)).len cap] h X S;have KK:=dl B1;obtain⟨c0,c1,c2,c3⟩:=KK.out _ _(aa.refl I17 w1 o1);obtain⟨l1,-⟩:=E1.cl;have T1:=aa.refl I17 w1 o1;clear B1 h X S;rw[ah];simp only;obtain⟨b,off,ak,ck,hao,NN,Sx,NK⟩:=dX(x:=.nil) SN1 0 rfl;obtain⟨b1,off1,ak1,ck1,hao1,NN1,Sy,NK1⟩:=dX(x:=one x) SN1 1 rfl;subst hao;injection hao1 with hao1
 injection hao1 with e1 e2
 subst e1 e2;have hlen:(Fs.ex x(Fs.ex y .nil)).len=2:=rfl;rw[hlen] at hw1 KK c3 ⊢;obtain⟨x0,x1,x2,x3⟩:Nd4 w1 b off x ak ck:=NN;have H1:=HP x ak ck ar w1 o1 rb p0 p1 p2 p3 p4 lv s m(by omega) ox sx hlv hnc(by omega)(by omega) Sx hks hz(by omega) X1 E1;rw[ah] at H1;have dA:=bQ lv x ar s;generalize deE lv x ar s=A at *;have zA:=dA.sz m hz;have dB:=fO 14 A;have zP:=(as A 14 0 0).sz _ zA;have zB:=dB.sz _ zP;have kB:(chA 14 A).ks.length=nc:=((gW 14 A).ks.trans dA.ks).trans hks;have HB:∀ wx ox',DW wx ox' rb p0 p1 p2 p3 p4(A.puts 14 0 0)->Calls Tryz.prog 77 #[.pointer(some⟨rb,0,none⟩),.int .i64(-1)] wx(cH wx ox' rb p0 p1 p2 p3 p4(chA 14 A)(.tuple #[])):=fun wx ox' E=>bh wx ox' rb p0 p1 p2 p3 p4 _(-1) _ zP(by omega)(by omega) E;generalize hB:chA 14 A=B at *;have dC:=bQ lv y ar B;have H4:∀ wx ox',aa I17 w1 o1 wx ox'->DW wx ox' rb p0 p1 p2 p3 p4 B->_:=fun wx ox' T E=>HP y ak1 ck1 ar wx ox' rb p0 p1 p2 p3 p4 lv B _(by omega) oy sy hlv hnc(by omega)(by omega)(Sy.stepO T aA) kB zB(by omega)(X1.step T aA) E;simp only[ah] at H4;generalize deE lv y ar B=C at *;have zC:=dC.sz _ zB;have zQ:=(as C 13 0 0).sz _ zC;have dD:=fO 13 C;have HD:∀ wx ox',DW wx ox' rb p0 p1 p2 p3 p4(C.puts 13 0 0)->Calls Tryz.prog 77 #[.pointer(some⟨rb,0,none⟩),.int .i64(-1)] wx(cH wx ox' rb p0 p1 p2 p3 p4(chA 13 C)(.tuple #[])):=fun wx ox' E=>bh wx ox' rb p0 p1 p2 p3 p4 _(-1) _ zQ(by omega)(by omega) E;have zD:=dD.sz _ zQ;have lD:(chA 13 C).lg=false->A.at1<(chA 13 C).ws.length:=dW((dB.trans dC).trans((as C 13 0 0).trans dD));have kD:(chA 13 C).ks.length=nc:=((((gW 13 C).ks).trans dC.ks).trans kB)
 generalize chA 13 C=D at *;have zE:=(aY D A.at1).sz _ zD;have dE:=dD.trans(aY D A.at1);have lF:((D.lands A.at1).val 0 2).lg=false->C.at1<((D.lands A.at1).val 0 2).ws.length:=dW(dE.trans(bP _ _ _));generalize hat:A.at1=iA at *;generalize hct:C.at1=iC at *;have hP:=fun wx ox' E=>aS wx ox' rb p0 p1 p2 p3 p4 A 14 0 0 E;have hQ:=fun wx ox' E=>aS wx ox' rb p0 p1 p2 p3 p4 C 13 0 0 E;rw[hat] at hP;rw[hct] at hQ;clear hsk ho hok HP SN1 X1 E1 hat hct hB dA dB dC dD dE zA zP zB zC zQ ox oy sx sy Sx Sy l1 NN1 hlen hN har hsz hks hz;go_enter Tryz.func83,Tryz.ntmps83;go_upto_region 1 with fail;rw[<-hw1,<-HG.out];clear hw1;go_wp2_with fail;refine H1.mono ?_;rintro e w2⟨rfl,o2,E2,S2⟩;have T2:=T1.trans S2;clear S2 c0 c1 c2 c3 x0 x1 x2 x3 H1;obtain⟨c0,c1,c2,c3⟩:=KK.out _ _ T2;go_wp2_with fail;refine(hP w2 o2 E2).mono ?_;rintro e w3⟨rfl,o3,E3,S3⟩;have T3:=T2.trans S3;clear S3 c0 c1 c2 c3;obtain⟨c0,c1,c2,c3⟩:=KK.out _ _ T3;go_wp2_with fail;refine(HB w3 o3 E3).mono ?_;rintro e w4⟨rfl,o4,E4,S4⟩;have T4:=T3.trans S4;clear S4 c0 c1 c2 c3;obtain⟨c0,c1,c2,c3⟩:=KK.out _ _ T4;obtain⟨x0,x1,x2,x3⟩:Nd8 w4 b off y ak1 ck1:=NK1 T4 aA;have H5:=H4 w4 o4 T4 E4;go_wp2_with fail;refine H5.mono ?_;rintro e w5⟨rfl,o5,E5,S5⟩;have T5:=T4.trans S5;clear S5 c0 c1 c2 c3 x0 x1 x2 x3 H5 H4;obtain⟨c0,c1,c2,c3⟩:=KK.out _ _ T5;go_wp2_with fail;refine(hQ w5 o5 E5).mono ?_;rintro e w6⟨rfl,o6,E6,S6⟩;have T6:=T5.trans S6;clear S6 c0 c1 c2 c3;obtain⟨c0,c1,c2,c3⟩:=KK.out _ _ T6;go_wp2_with fail;refine(HD w6 o6 E6).mono ?_;rintro e w7⟨rfl,o7,E7,S7⟩;have T7:=T6.trans S7;clear S7 c0 c1 c2 c3;obtain⟨c0,c1,c2,c3⟩:=KK.out _ _ T7;have H7:=db w7 o7 rb p0 p1 p2 p3 p4 D iA lD E7;go_wp2_with fail;refine H7.mono ?_;rintro e w8⟨rfl,o8,E8,S8⟩;have T8:=T7.trans S8;clear S8 c0 c1 c2 c3 H7;obtain⟨c0,c1,c2,c3⟩:=KK.out _ _ T8;have H8:=du w8 o8 rb p0 p1 p2 p3 p4(D.lands iA) 0 2 _ zE(by omega) E8;go_wp2_with fail;refine H8.mono ?_;rintro e w9⟨rfl,o9,E9,S9⟩;have T9:=T8.trans S9;clear S9 c0 c1 c2 c3 H8;obtain⟨c0,c1,c2,c3⟩:=KK.out _ _ T9;have H10:=db w9 o9 rb p0 p1 p2 p3 p4 _ iC lF E9;go_wp2_with fail;refine H10.mono ?_;rintro e w10⟨rfl,o10,E10,S10⟩;have T10:=T9.trans S10;clear S10 c0 c1 c2 c3 H10;obtain⟨c0,c1,c2,c3⟩:=KK.out _ _ T10;go_wp2
 go_end0
 exact⟨rfl,o10,E10,S0.trans T10⟩
theorem yy (K:Nat->Int)(nc N:Nat)(HP:eu K nc N)(n:Int)(nm:List UInt8)(a:Int)(x y:Ex)(ao:Option Addr)(cap ar:Nat)(w:World)(o:Nat->Nat)(rb:Nat)(p0 p1 p2 p3 p4:Value)(lv:List Int)(s:Dp)(m:Nat)(hN:(Fs.ex x (Fs.ex y .nil)).size<=N)(ho:okE nc ⟨18,n,nm,a,(Fs.ex x (Fs.ex y .nil))⟩)(hsk:skF K (Fs.ex x (Fs.ex y .nil)) 18 0)(hlv:lv.length=nc)(hnc:nc<=256)(har:ar+(Fs.ex x (Fs.ex y .nil)).size<=1000000)(hsz:(Fs.ex x (Fs.ex y .nil)).size<=100000)(S:SnO w o (Fs.ex x (Fs.ex y .nil)) ao)(hks:s.ks.length=nc)(hz:s.sz m)(hm:m+(17*(Fs.ex x (Fs.ex y .nil)).size+16)<=100000000)(X:DX w o p4 lv)(h:DW w o rb p0 p1 p2 p3 p4 s) :
  Calls Tryz.prog 83 #[pt0 rb,exN⟨18,n,nm,a,(Fs.ex x(Fs.ex y .nil))⟩ ao cap,.int .i64(ar:Nat)] w(cH w o rb p0 p1 p2 p3 p4((((chA 13(deE lv y ar(chA 15(deE lv x ar s)))).lands(deE lv x ar s).at1).val 1 2).lands(deE lv y ar(chA 15(deE lv x ar s))).at1)(.tuple #[])):=by
 have hok:=ho.2;simp only at hok;have ox:=(aK hok).1;have oy:=(aK(aK hok).2).1;have sx:skE K x:=gV(by omega) hsk;have sy:skE K y:=kM(by omega) hsk;simp only[aV,Fs.size] at hN har hsz hm;obtain⟨w1,o1,g,hw1,HG,B1,E1,X1,SN1,S0⟩:=dn #[.int .i64 18,.int .i64 n,stv nm,.slice ao(Fs.ex x(Fs.ex y .nil)).len cap] h X S;have KK:=dl B1;obtain⟨c0,c1,c2,c3⟩:=KK.out _ _(aa.refl I17 w1 o1);obtain⟨l1,-⟩:=E1.cl;have T1:=aa.refl I17 w1 o1;clear B1 h X S;rw[ah];simp only;obtain⟨b,off,ak,ck,hao,NN,Sx,NK⟩:=dX(x:=.nil) SN1 0 rfl;obtain⟨b1,off1,ak1,ck1,hao1,NN1,Sy,NK1⟩:=dX(x:=one x) SN1 1 rfl;subst hao;injection hao1 with hao1
 injection hao1 with e1 e2
 subst e1 e2;have hlen:(Fs.ex x(Fs.ex y .nil)).len=2:=rfl;rw[hlen] at hw1 KK c3 ⊢;obtain⟨x0,x1,x2,x3⟩:Nd4 w1 b off x ak ck:=NN;have H1:=HP x ak ck ar w1 o1 rb p0 p1 p2 p3 p4 lv s m(by omega) ox sx hlv hnc(by omega)(by omega) Sx hks hz(by omega) X1 E1;rw[ah] at H1;have dA:=bQ lv x ar s;generalize deE lv x ar s=A at *;have zA:=dA.sz m hz;have dB:=fO 15 A;have zP:=(as A 15 0 0).sz _ zA;have zB:=dB.sz _ zP;have kB:(chA 15 A).ks.length=nc:=((gW 15 A).ks.trans dA.ks).trans hks;have HB:∀ wx ox',DW wx ox' rb p0 p1 p2 p3 p4(A.puts 15 0 0)->Calls Tryz.prog 77 #[.pointer(some⟨rb,0,none⟩),.int .i64(-1)] wx(cH wx ox' rb p0 p1 p2 p3 p4(chA 15 A)(.tuple #[])):=fun wx ox' E=>bh wx ox' rb p0 p1 p2 p3 p4 _(-1) _ zP(by omega)(by omega) E;generalize hB:chA 15 A=B at *;have dC:=bQ lv y ar B;have H4:∀ wx ox',aa I17 w1 o1 wx ox'->DW wx ox' rb p0 p1 p2 p3 p4 B->_:=fun wx ox' T E=>HP y ak1 ck1 ar wx ox' rb p0 p1 p2 p3 p4 lv B _(by omega) oy sy hlv hnc(by omega)(by omega)(Sy.stepO T aA) kB zB(by omega)(X1.step T aA) E;simp only[ah] at H4;generalize deE lv y ar B=C at *;have zC:=dC.sz _ zB;have zQ:=(as C 13 0 0).sz _ zC;have dD:=fO 13 C;have HD:∀ wx ox',DW wx ox' rb p0 p1 p2 p3 p4(C.puts 13 0 0)->Calls Tryz.prog 77 #[.pointer(some⟨rb,0,none⟩),.int .i64(-1)] wx(cH wx ox' rb p0 p1 p2 p3 p4(chA 13 C)(.tuple #[])):=fun wx ox' E=>bh wx ox' rb p0 p1 p2 p3 p4 _(-1) _ zQ(by omega)(by omega) E;have zD:=dD.sz _ zQ;have lD:(chA 13 C).lg=false->A.at1<(chA 13 C).ws.length:=dW((dB.trans dC).trans((as C 13 0 0).trans dD));have kD:(chA 13 C).ks.length=nc:=((((gW 13 C).ks).trans dC.ks).trans kB)
 generalize chA 13 C=D at *;have zE:=(aY D A.at1).sz _ zD;have dE:=dD.trans(aY D A.at1);have lF:((D.lands A.at1).val 1 2).lg=false->C.at1<((D.lands A.at1).val 1 2).ws.length:=dW(dE.trans(bP _ _ _));generalize hat:A.at1=iA at *;generalize hct:C.at1=iC at *;have hP:=fun wx ox' E=>aS wx ox' rb p0 p1 p2 p3 p4 A 15 0 0 E;have hQ:=fun wx ox' E=>aS wx ox' rb p0 p1 p2 p3 p4 C 13 0 0 E;rw[hat] at hP;rw[hct] at hQ;clear hsk ho hok HP SN1 X1 E1 hat hct hB dA dB dC dD dE zA zP zB zC zQ ox oy sx sy Sx Sy l1 NN1 hlen hN har hsz hks hz;go_enter Tryz.func83,Tryz.ntmps83;go_upto_region 1 with fail;rw[<-hw1,<-HG.out];clear hw1;go_wp2_with fail;refine H1.mono ?_;rintro e w2⟨rfl,o2,E2,S2⟩;have T2:=T1.trans S2;clear S2 c0 c1 c2 c3 x0 x1 x2 x3 H1;obtain⟨c0,c1,c2,c3⟩:=KK.out _ _ T2;go_wp2_with fail;refine(hP w2 o2 E2).mono ?_;rintro e w3⟨rfl,o3,E3,S3⟩;have T3:=T2.trans S3;clear S3 c0 c1 c2 c3;obtain⟨c0,c1,c2,c3⟩:=KK.out _ _ T3;go_wp2_with fail;refine(HB w3 o3 E3).mono ?_;rintro e w4⟨rfl,o4,E4,S4⟩;have T4:=T3.trans S4;clear S4 c0 c1 c2 c3;obtain⟨c0,c1,c2,c3⟩:=KK.out _ _ T4;obtain⟨x0,x1,x2,x3⟩:Nd8 w4 b off y ak1 ck1:=NK1 T4 aA;have H5:=H4 w4 o4 T4 E4;go_wp2_with fail;refine H5.mono ?_;rintro e w5⟨rfl,o5,E5,S5⟩;have T5:=T4.trans S5;clear S5 c0 c1 c2 c3 x0 x1 x2 x3 H5 H4;obtain⟨c0,c1,c2,c3⟩:=KK.out _ _ T5;go_wp2_with fail;refine(hQ w5 o5 E5).mono ?_;rintro e w6⟨rfl,o6,E6,S6⟩;have T6:=T5.trans S6;clear S6 c0 c1 c2 c3;obtain⟨c0,c1,c2,c3⟩:=KK.out _ _ T6;go_wp2_with fail;refine(HD w6 o6 E6).mono ?_;rintro e w7⟨rfl,o7,E7,S7⟩;have T7:=T6.trans S7;clear S7 c0 c1 c2 c3;obtain⟨c0,c1,c2,c3⟩:=KK.out _ _ T7;have H7:=db w7 o7 rb p0 p1 p2 p3 p4 D iA lD E7;go_wp2_with fail;refine H7.mono ?_;rintro e w8⟨rfl,o8,E8,S8⟩;have T8:=T7.trans S8;clear S8 c0 c1 c2 c3 H7;obtain⟨c0,c1,c2,c3⟩:=KK.out _ _ T8;have H8:=du w8 o8 rb p0 p1 p2 p3 p4(D.lands iA) 1 2 _ zE(by omega) E8;go_wp2_with fail;refine H8.mono ?_;rintro e w9⟨rfl,o9,E9,S9⟩;have T9:=T8.trans S9;clear S9 c0 c1 c2 c3 H8;obtain⟨c0,c1,c2,c3⟩:=KK.out _ _ T9;have H10:=db w9 o9 rb p0 p1 p2 p3 p4 _ iC lF E9;go_wp2_with fail;refine H10.mono ?_;rintro e w10⟨rfl,o10,E10,S10⟩;have T10:=T9.trans S10;clear S10 c0 c1 c2 c3 H10;obtain⟨c0,c1,c2,c3⟩:=KK.out _ _ T10;go_wp2
 go_end0
 exact⟨rfl,o10,E10,S0.trans T10⟩
theorem xO (K:Nat->Int)(nc N:Nat)(HP:eu K nc N)(n:Int)(nm:List UInt8)(a:Int)(x y z:Ex)(ao:Option Addr)(cap ar:Nat)(w:World)(o:Nat->Nat)(rb:Nat)(p0 p1 p2 p3 p4:Value)(lv:List Int)(s:Dp)(m:Nat)(hN:(Fs.ex x (Fs.ex y (Fs.ex z .nil))).size<=N)(ho:okE nc ⟨19,n,nm,a,(Fs.ex x (Fs.ex y (Fs.ex z .nil)))⟩)(hsk:skF K (Fs.ex x (Fs.ex y (Fs.ex z .nil))) 19 0)(hlv:lv.length=nc)(hnc:nc<=256)(har:ar+(Fs.ex x (Fs.ex y (Fs.ex z .nil))).size<=1000000)(hsz:(Fs.ex x (Fs.ex y (Fs.ex z .nil))).size<=100000)(S:SnO w o (Fs.ex x (Fs.ex y (Fs.ex z .nil))) ao)(hks:s.ks.length=nc)(hz:s.sz m)(hm:m+(17*(Fs.ex x (Fs.ex y (Fs.ex z .nil))).size+16)<=100000000)(X:DX w o p4 lv)(h:DW w o rb p0 p1 p2 p3 p4 s) :
  Calls Tryz.prog 83 #[pt0 rb,exN⟨19,n,nm,a,(Fs.ex x(Fs.ex y(Fs.ex z .nil)))⟩ ao cap,.int .i64(ar:Nat)] w(cH w o rb p0 p1 p2 p3 p4(((deE lv z ar((chA 13(deE lv y ar(chA 14(deE lv x ar s)))).lands(deE lv x ar s).at1))).lands(deE lv y ar(chA 14(deE lv x ar s))).at1)(.tuple #[])):=by
 have hok:=ho.2;simp only at hok;have ox:=(aK hok).1;have oy:=(aK(aK hok).2).1;have sx:skE K x:=gV(by omega) hsk;have sy:skE K y:=kM(by omega) hsk;have oz:=(aK(aK(aK hok).2).2).1;have sz':skE K z:=⟨fun hs=>absurd(hsk.2.2.2.2.2.2.1.1 hs).1(by omega),hsk.2.2.2.2.2.2.2.1,hsk.2.2.2.2.2.2.2.2.1⟩
 simp only[aV,Fs.size] at hN har hsz hm;obtain⟨w1,o1,g,hw1,HG,B1,E1,X1,SN1,S0⟩:=dn #[.int .i64 19,.int .i64 n,stv nm,.slice ao(Fs.ex x(Fs.ex y(Fs.ex z .nil))).len cap] h X S;have KK:=dl B1;obtain⟨c0,c1,c2,c3⟩:=KK.out _ _(aa.refl I17 w1 o1);obtain⟨l1,-⟩:=E1.cl;have T1:=aa.refl I17 w1 o1;clear B1 h X S;rw[ah];simp only;obtain⟨b,off,ak,ck,hao,NN,Sx,NK⟩:=dX(x:=.nil) SN1 0 rfl;obtain⟨b1,off1,ak1,ck1,hao1,NN1,Sy,NK1⟩:=dX(x:=one x) SN1 1 rfl;obtain⟨b2,off2,ak2,ck2,hao2,NN2,Sz,NK2⟩:=dX(x:=Fs.ex x(one y)) SN1 2 rfl;subst hao;injection hao1 with hao1
 injection hao1 with e1 e2
 subst e1 e2;injection hao2 with hao2
 injection hao2 with e1 e2
 subst e1 e2;have hlen:(Fs.ex x(Fs.ex y(Fs.ex z .nil))).len=3:=rfl;rw[hlen] at hw1 KK c3 ⊢;obtain⟨x0,x1,x2,x3⟩:Nd4 w1 b off x ak ck:=NN;have H1:=HP x ak ck ar w1 o1 rb p0 p1 p2 p3 p4 lv s m(by omega) ox sx hlv hnc(by omega)(by omega) Sx hks hz(by omega) X1 E1;rw[ah] at H1;have dA:=bQ lv x ar s;generalize deE lv x ar s=A at *;have zA:=dA.sz m hz;have dB:=fO 14 A;have zP:=(as A 14 0 0).sz _ zA;have zB:=dB.sz _ zP;have kB:(chA 14 A).ks.length=nc:=((gW 14 A).ks.trans dA.ks).trans hks;have HB:∀ wx ox',DW wx ox' rb p0 p1 p2 p3 p4(A.puts 14 0 0)->Calls Tryz.prog 77 #[.pointer(some⟨rb,0,none⟩),.int .i64(-1)] wx(cH wx ox' rb p0 p1 p2 p3 p4(chA 14 A)(.tuple #[])):=fun wx ox' E=>bh wx ox' rb p0 p1 p2 p3 p4 _(-1) _ zP(by omega)(by omega) E;generalize hB:chA 14 A=B at *;have dC:=bQ lv y ar B;have H4:∀ wx ox',aa I17 w1 o1 wx ox'->DW wx ox' rb p0 p1 p2 p3 p4 B->_:=fun wx ox' T E=>HP y ak1 ck1 ar wx ox' rb p0 p1 p2 p3 p4 lv B _(by omega) oy sy hlv hnc(by omega)(by omega)(Sy.stepO T aA) kB zB(by omega)(X1.step T aA) E;simp only[ah] at H4;generalize deE lv y ar B=C at *;have zC:=dC.sz _ zB;have zQ:=(as C 13 0 0).sz _ zC;have dD:=fO 13 C;have HD:∀ wx ox',DW wx ox' rb p0 p1 p2 p3 p4(C.puts 13 0 0)->Calls Tryz.prog 77 #[.pointer(some⟨rb,0,none⟩),.int .i64(-1)] wx(cH wx ox' rb p0 p1 p2 p3 p4(chA 13 C)(.tuple #[])):=fun wx ox' E=>bh wx ox' rb p0 p1 p2 p3 p4 _(-1) _ zQ(by omega)(by omega) E;have zD:=dD.sz _ zQ;have lD:(chA 13 C).lg=false->A.at1<(chA 13 C).ws.length:=dW((dB.trans dC).trans((as C 13 0 0).trans dD));have kD:(chA 13 C).ks.length=nc:=((((gW 13 C).ks).trans dC.ks).trans kB)
 generalize chA 13 C=D at *;have zE:=(aY D A.at1).sz _ zD;have dE:=dD.trans(aY D A.at1);have kE:(D.lands A.at1).ks.length=nc:=(aY D A.at1).ks.trans kD;have H9:∀ wx ox',aa I17 w1 o1 wx ox'->DW wx ox' rb p0 p1 p2 p3 p4(D.lands A.at1)->_:=fun wx ox' T E=>HP z ak2 ck2 ar wx ox' rb p0 p1 p2 p3 p4 lv(D.lands A.at1) _(by omega) oz sz' hlv hnc(by omega)(by omega)(Sz.stepO T aA) kE zE(by omega)(X1.step T aA) E;simp only[ah] at H9;have lF:(deE lv z ar(D.lands A.at1)).lg=false->C.at1<(deE lv z ar(D.lands A.at1)).ws.length:=dW(dE.trans(bQ lv z ar _));generalize deE lv z ar(D.lands A.at1)=F at *;generalize hat:A.at1=iA at *;generalize hct:C.at1=iC at *;have hP:=fun wx ox' E=>aS wx ox' rb p0 p1 p2 p3 p4 A 14 0 0 E;have hQ:=fun wx ox' E=>aS wx ox' rb p0 p1 p2 p3 p4 C 13 0 0 E;rw[hat] at hP;rw[hct] at hQ;clear hsk ho hok HP SN1 X1 E1 hat hct hB dA dB dC dD dE zA zP zB zC zQ ox oy sx sy Sx Sy l1 NN1 hlen hN har hsz hks hz;go_enter Tryz.func83,Tryz.ntmps83;go_upto_region 1 with fail;rw[<-hw1,<-HG.out];clear hw1;go_wp2_with fail;refine H1.mono ?_;rintro e w2⟨rfl,o2,E2,S2⟩;have T2:=T1.trans S2;clear S2 c0 c1 c2 c3 x0 x1 x2 x3 H1;obtain⟨c0,c1,c2,c3⟩:=KK.out _ _ T2;go_wp2_with fail;refine(hP w2 o2 E2).mono ?_;rintro e w3⟨rfl,o3,E3,S3⟩;have T3:=T2.trans S3;clear S3 c0 c1 c2 c3;obtain⟨c0,c1,c2,c3⟩:=KK.out _ _ T3;go_wp2_with fail;refine(HB w3 o3 E3).mono ?_;rintro e w4⟨rfl,o4,E4,S4⟩;have T4:=T3.trans S4;clear S4 c0 c1 c2 c3;obtain⟨c0,c1,c2,c3⟩:=KK.out _ _ T4;obtain⟨x0,x1,x2,x3⟩:Nd8 w4 b off y ak1 ck1:=NK1 T4 aA;have H5:=H4 w4 o4 T4 E4;go_wp2_with fail;refine H5.mono ?_;rintro e w5⟨rfl,o5,E5,S5⟩;have T5:=T4.trans S5;clear S5 c0 c1 c2 c3 x0 x1 x2 x3 H5 H4;obtain⟨c0,c1,c2,c3⟩:=KK.out _ _ T5;go_wp2_with fail;refine(hQ w5 o5 E5).mono ?_;rintro e w6⟨rfl,o6,E6,S6⟩;have T6:=T5.trans S6;clear S6 c0 c1 c2 c3;obtain⟨c0,c1,c2,c3⟩:=KK.out _ _ T6;go_wp2_with fail;refine(HD w6 o6 E6).mono ?_;rintro e w7⟨rfl,o7,E7,S7⟩;have T7:=T6.trans S7;clear S7 c0 c1 c2 c3;obtain⟨c0,c1,c2,c3⟩:=KK.out _ _ T7;have H7:=db w7 o7 rb p0 p1 p2 p3 p4 D iA lD E7;go_wp2_with fail;refine H7.mono ?_;rintro e w8⟨rfl,o8,E8,S8⟩;have T8:=T7.trans S8;clear S8 c0 c1 c2 c3 H7;obtain⟨c0,c1,c2,c3⟩:=KK.out _ _ T8;obtain⟨x0,x1,x2,x3⟩:NdC w8 b off z ak2 ck2:=NK2 T8 aA;have H8:=H9 w8 o8 T8 E8;go_wp2_with fail;refine H8.mono ?_;rintro e w9⟨rfl,o9,E9,S9⟩;have T9:=T8.trans S9;clear S9 c0 c1 c2 c3 x0 x1 x2 x3 H8 H9;obtain⟨c0,c1,c2,c3⟩:=KK.out _ _ T9;have H10:=db w9 o9 rb p0 p1 p2 p3 p4 F iC lF E9;go_wp2_with fail;refine H10.mono ?_;rintro e w10⟨rfl,o10,E10,S10⟩;have T10:=T9.trans S10;clear S10 c0 c1 c2 c3 H10;obtain⟨c0,c1,c2,c3⟩:=KK.out _ _ T10;go_wp2
 go_end0
 exact⟨rfl,o10,E10,S0.trans T10⟩
theorem mC (K:Nat->Int)(nc N:Nat)(HP:eu K nc N)(k n:Int)(nm:List UInt8)(a:Int)(ks:Fs)(ao:Option Addr)(cap ar:Nat)(w:World)(o:Nat->Nat)(rb:Nat)(p0 p1 p2 p3 p4:Value)(lv:List Int)(s:Dp)(m:Nat)(hk:22<=k/\k<=25)(hN:ks.size<=N)(ho:okE nc ⟨k,n,nm,a,ks⟩)(hsk:skF K ks k 0)(hlv:lv.length=nc)(hnc:nc<=256)(har:ar+ks.size<=1000000)(hsz:ks.size<=100000)(S:SnO w o ks ao)(hks:s.ks.length=nc)(hz:s.sz m)(hm:m+(17*ks.size+16)<=100000000)(X:DX w o p4 lv)(h:DW w o rb p0 p1 p2 p3 p4 s) :
  Calls Tryz.prog 139 #[pt0 rb,exN⟨k,n,nm,a,ks⟩ ao cap,.int .i64(ar:Nat)] w(cH w o rb p0 p1 p2 p3 p4(uX k nm(deF lv ks) ar s)(.tuple #[])):=by
 have h21:k≠21:=by omega
 have hnm:=wS ho.1.1;simp only at hnm;obtain⟨w1,o1,g,hw1,HG,B1,E1,X1,SN1,S0⟩:=dn #[.int .i64 k,.int .i64 n,stv nm,.slice ao ks.len cap] h X S;have KK:=dl B1;obtain⟨c0,c1,c2,c3⟩:=KK.out _ _(aa.refl I17 w1 o1);obtain⟨l1,-⟩:=E1.cl;have T1:=aa.refl I17 w1 o1;clear B1 h X S;rw[ah];simp only;have H1:=oS K nc N HP k n nm a ks ao cap ar w1 o1 rb p0 p1 p2 p3 p4 lv s m hN ho.2 h21 hsk hlv hnc har hsz(SN1.stepO T1 aA) hks hz(by omega)(X1.step T1 aA) E1;rw[ah] at H1;simp only at H1;have zA:=((ia lv ks ar s).sz m hz)
 have hlz:=eX ks;unfold uX
 dsimp only
 rw[nU];generalize cR(deF lv ks) ar s=A at *;generalize ks.len=le at *;have hc:k=22\/k=23\/k=24\/k=25:=by omega
 have zN:=(rj A nm).sz _ zA;clear hk h21 hsk ho HP SN1 X1 E1 l1;rcases hc with rfl|rfl|rfl|rfl
 ·go_enter Tryz.func139,Tryz.ntmps139;go_upto_region 1 with fail;rw[<-hw1,<-HG.out];clear hw1;go_wp2_with fail;refine H1.mono ?_;rintro e w2⟨rfl,o2,E2,S2⟩;have T2:=T1.trans S2;clear S2 c0 c1 c2 c3 H1;obtain⟨c0,c1,c2,c3⟩:=KK.out _ _ T2;have H3:=aS w2 o2 rb p0 p1 p2 p3 p4 A 20 0 0 E2;go_wp2_with fail;refine H3.mono ?_;rintro e w4⟨rfl,o4,E4,S4⟩;have T4:=T2.trans S4;clear S4 c0 c1 c2 c3 H3;obtain⟨c0,c1,c2,c3⟩:=KK.out _ _ T4;have H4:=bh w4 o4 rb p0 p1 p2 p3 p4 _(-(le:Int)) _((as A 20 0 0).sz _ zA)(by omega)(by omega) E4;go_wp2_with fail;refine H4.mono ?_;rintro e w5⟨rfl,o5,E5,S5⟩;have T5:=T4.trans S5;clear S5 c0 c1 c2 c3 H4;obtain⟨c0,c1,c2,c3⟩:=KK.out _ _ T5;go_wp2
  go_end0
  exact⟨rfl,o5,E5,S0.trans T5⟩
 ·go_enter Tryz.func139,Tryz.ntmps139;go_upto_region 1 with fail;rw[<-hw1,<-HG.out];clear hw1;go_wp2_with fail;refine H1.mono ?_;rintro e w2⟨rfl,o2,E2,S2⟩;have T2:=T1.trans S2;clear S2 c0 c1 c2 c3 H1;obtain⟨c0,c1,c2,c3⟩:=KK.out _ _ T2;have H2:=s_c w2 o2 rb p0 p1 p2 p3 p4 A nm(by unfold maxLen;omega)(by have:=zA.n;omega) E2;go_wp2_with fail;refine H2.mono ?_;rintro e w3⟨rfl,o3,E3,S3⟩;have T3:=T2.trans S3;clear S3 c0 c1 c2 c3 H2;obtain⟨c0,c1,c2,c3⟩:=KK.out _ _ T3;have H3:=aS w3 o3 rb p0 p1 p2 p3 p4(A.kN nm) 21(A.ns.idxOf nm) 0 E3;go_wp2_with fail;refine H3.mono ?_;rintro e w4⟨rfl,o4,E4,S4⟩;have T4:=T3.trans S4;clear S4 c0 c1 c2 c3 H3;obtain⟨c0,c1,c2,c3⟩:=KK.out _ _ T4;have H4:=bh w4 o4 rb p0 p1 p2 p3 p4 _(-(le:Int)) _((as(A.kN nm) 21(A.ns.idxOf nm) 0).sz _ zN)(by omega)(by omega) E4;go_wp2_with fail;refine H4.mono ?_;rintro e w5⟨rfl,o5,E5,S5⟩;have T5:=T4.trans S5;clear S5 c0 c1 c2 c3 H4;obtain⟨c0,c1,c2,c3⟩:=KK.out _ _ T5;go_wp2
  go_end0
  exact⟨rfl,o5,E5,S0.trans T5⟩
 ·go_enter Tryz.func139,Tryz.ntmps139;go_upto_region 1 with fail;rw[<-hw1,<-HG.out];clear hw1;go_wp2_with fail;refine H1.mono ?_;rintro e w2⟨rfl,o2,E2,S2⟩;have T2:=T1.trans S2;clear S2 c0 c1 c2 c3 H1;obtain⟨c0,c1,c2,c3⟩:=KK.out _ _ T2;have H3:=aS w2 o2 rb p0 p1 p2 p3 p4 A 22 0 0 E2;go_wp2_with fail;refine H3.mono ?_;rintro e w4⟨rfl,o4,E4,S4⟩;have T4:=T2.trans S4;clear S4 c0 c1 c2 c3 H3;obtain⟨c0,c1,c2,c3⟩:=KK.out _ _ T4;have H4:=bh w4 o4 rb p0 p1 p2 p3 p4 _(-(le:Int)) _((as A 22 0 0).sz _ zA)(by omega)(by omega) E4;go_wp2_with fail;refine H4.mono ?_;rintro e w5⟨rfl,o5,E5,S5⟩;have T5:=T4.trans S5;clear S5 c0 c1 c2 c3 H4;obtain⟨c0,c1,c2,c3⟩:=KK.out _ _ T5;go_wp2
  go_end0
  exact⟨rfl,o5,E5,S0.trans T5⟩
 ·go_enter Tryz.func139,Tryz.ntmps139;go_upto_region 1 with fail;rw[<-hw1,<-HG.out];clear hw1;go_wp2_with fail;refine H1.mono ?_;rintro e w2⟨rfl,o2,E2,S2⟩;have T2:=T1.trans S2;clear S2 c0 c1 c2 c3 H1;obtain⟨c0,c1,c2,c3⟩:=KK.out _ _ T2;have H3:=aS w2 o2 rb p0 p1 p2 p3 p4 A 23 le 0 E2;go_wp2_with fail;refine H3.mono ?_;rintro e w4⟨rfl,o4,E4,S4⟩;have T4:=T2.trans S4;clear S4 c0 c1 c2 c3 H3;obtain⟨c0,c1,c2,c3⟩:=KK.out _ _ T4;have H4:=bh w4 o4 rb p0 p1 p2 p3 p4 _(-(le:Int)) _((as A 23 le 0).sz _ zA)(by omega)(by omega) E4;go_wp2_with fail;refine H4.mono ?_;rintro e w5⟨rfl,o5,E5,S5⟩;have T5:=T4.trans S5;clear S5 c0 c1 c2 c3 H4;obtain⟨c0,c1,c2,c3⟩:=KK.out _ _ T5;go_wp2
  go_end0
  exact⟨rfl,o5,E5,S0.trans T5⟩
theorem vG (h:Nat):∀ (l:List Int) (k:Nat) (s:Dp) (x:Int) (r:List Int),l=x::r->fB h l k s=if s.lg then s else fB h r (k+1) (if x=(h:Int) then s.puts 19 k 0 else s)
 | _,k,s,x,r,rfl=>rfl
theorem gh (ar:Nat)(w:World)(o:Nat->Nat)(rb:Nat)(p0 p1 p2 p3 p4:Value)(lv:List Int)(s:Dp)(har:ar<=1000000)(hlv:lv.length<=256)(X:DX w o p4 lv)(h:DW w o rb p0 p1 p2 p3 p4 s) :
  Calls Tryz.prog 140 #[pt0 rb,.int .i64(ar:Nat)] w(cH w o rb p0 p1 p2 p3 p4(fB(ar+1) lv 0 s)(.tuple #[])):=by
 obtain⟨al,cl,rfl,hlx⟩:=X;have LV:Hid(∀ w' o',aa I17 w o w' o'->∀ j x,lv[j]?=some x->∃b off,al=some⟨b,off,none⟩/\w'.cell?⟨b,off+j,none⟩=some(.int .i64 x)):=fun w' o' S j x hx=>by
  rcases hlx with h|⟨b,off,h1,h2,h3,h4⟩
  ·rw[h] at hx;simp at hx
  ·exact⟨b,off,h1,(World.cell?_of_block(a:=⟨b,off+j,none⟩)(S.block b h3(by rw[h2];exact aA))).trans(h4 j x hx)⟩
 obtain⟨W,hW⟩:∃W,W=fB(ar+1) lv 0 s:=⟨_,rfl⟩
 have HW:Hid(W=fB(ar+1)(lv.drop 0) 0 s):=by show _=_;rw[hW];rfl
 rw[<-hW];obtain⟨l1,l4⟩:=h.cl;obtain⟨A,hA⟩:∃A:Nat,A=ar+1:=⟨_,rfl⟩
 have HAI:Hid((A:Int)=(ar:Int)+1):=by show _=_;omega
 rw[<-hA] at HW;clear hlx hW hA;go_enter Tryz.func140,Tryz.ntmps140;go_wp2_with fail;go_loopw [4](fun vi wr=>∃(k:Nat)(s':Dp)(o':Nat->Nat),vi=.int .i64(k:Nat)/\k<=lv.length/\DW wr o' rb p0 p1 p2 p3(.slice al lv.length cl) s'/\aa I17 w o wr o'/\Hid(W=fB A(lv.drop k) k s'))(fun vi _=>lv.length-(intOf vi).toNat)
 case atStart=>exact⟨0,s,o,by go_num,by omega,h,aa.refl _ _ _,HW⟩
 case round =>
  clear HW h l1 l4;obtain⟨k,s',o',rfl,hk,E2,S2,HW⟩:=hrel;obtain⟨l1,l4⟩:=E2.cl;by_cases hlt:k<lv.length
  ·have hkI:(k:Int)<(lv.length:Int):=by omega
   have hx:lv[k]?=some lv[k]:=List.getElem?_eq_getElem hlt;have hdr:lv.drop k=lv[k]::lv.drop(k+1):=List.drop_eq_getElem_cons hlt;have HW2:=HW.out;rw[vG A _ k s' _ _ hdr] at HW2;by_cases hlg:s'.lg=true
   ·rw[if_pos hlg] at HW2;have HW3:=Lib.hid HW2;rw[hlg] at l1;clear HW2 HW hx hdr LV HAI;go_wp2
    go_end0
    exact⟨rfl,o',by rw[HW3.out];exact E2,S2⟩
   ·rw[if_neg hlg] at HW2;have hlf:s'.lg=false:=by simpa using hlg
    rw[hlf] at l1;obtain⟨b,off,rfl,cx⟩:=LV.out _ _ S2 k _ hx;generalize lv[k]=lx at *;rw[HAI.out] at HW2;by_cases he:lx=(ar:Int)+1
    ·rw[if_pos he] at HW2;have HW3:=Lib.hid HW2;have HL:=aS wr o' rb p0 p1 p2 p3 _ s' 19 k 0 E2;subst he;clear HW2 HW hx hdr hlf hlg;go_wp2_with(first|(go_at_call 41;refine HL.mono ?_;rintro e w3⟨rfl,o3,E3,S3⟩));go_roundw
     case rel=>(try((repeat apply Exists.intro);refine⟨?_,rfl⟩));exact⟨k+1,s'.puts 19 k 0,o3,by go_num,by omega,E3,S2.trans S3,HW3.out⟩
     case measure=>simp[intOf];omega
    ·rw[if_neg he] at HW2;have HW3:=Lib.hid HW2;clear HW2 HW hx hdr hlf hlg;go_wp2;go_roundw
     case rel=>(try((repeat apply Exists.intro);refine⟨?_,rfl⟩));exact⟨k+1,s',o',by go_num,by omega,E2,S2,HW3.out⟩
     case measure=>simp[intOf];omega
  ·have hkI:¬(k:Int)<(lv.length:Int):=by omega
   obtain rfl:k=lv.length:=by omega
   have HW2:=HW.out;rw[List.drop_length] at HW2;have HW3:Hid(W=s'):=HW2;clear HW HW2 hlt LV HAI;go_wp2
   go_end0
   exact⟨rfl,o',by rw[HW3.out];exact E2,S2⟩
theorem Bu (g i:Nat)(w:World)(o:Nat->Nat)(rb:Nat)(p0 p1 p2 p3 p4:Value)(s:Dp)(m:Nat)(hz:s.sz m)(hm:m+8<=100000000)(hi:s.lg=false->i<s.ws.length)(h:DW w o rb p0 p1 p2 p3 p4 s) :
  Calls Tryz.prog 141 #[pt0 rb,.int .i64 1,.int .i64(g:Nat),.int .i64(i:Nat)] w(cH w o rb p0 p1 p2 p3 p4(nT 1 g i s)(.tuple #[])):=by
 have e1:nT 1 g i s=((((((((s.puts 15 g 0).grows(-1)).puts 25 0 0).val 0 2).puts 13 0 0).grows(-1)).lands i).val 1 2).lands(((((s.puts 15 g 0).grows(-1)).puts 25 0 0).val 0 2).at1):=rfl;rw[e1];clear e1;have T1:=aa.refl I17 w o;have d1:=as s 15 g 0;have z1:=d1.sz _ hz;have d2:=aP(s.puts 15 g 0)(-1) 1(by omega)(by omega);have z2:=(as _ 25 0 0).sz _(d2.sz _ z1);have d3:=(as((s.puts 15 g 0).grows(-1)) 25 0 0).trans(bP _ 0 2);have z3:=(bP _ 0 2).sz _ z2;have hA:=fun wx ox' E=>aS wx ox' rb p0 p1 p2 p3 p4 s 15 g 0 E;have hB:=fun wx ox' E=>bh wx ox' rb p0 p1 p2 p3 p4 _(-1) _ z1(by omega)(by omega) E;have hC:=fun wx ox' E=>aS wx ox' rb p0 p1 p2 p3 p4((s.puts 15 g 0).grows(-1)) 25 0 0 E;have hD:=fun wx ox' E=>du wx ox' rb p0 p1 p2 p3 p4(((s.puts 15 g 0).grows(-1)).puts 25 0 0) 0 2 _ z2(by omega) E;have dC:=(d1.trans d2).trans d3;generalize(((s.puts 15 g 0).grows(-1)).puts 25 0 0).val 0 2=C at *;have hE:=fun wx ox' E=>aS wx ox' rb p0 p1 p2 p3 p4 C 13 0 0 E;have z4:=(as C 13 0 0).sz _ z3;have hF:=fun wx ox' E=>bh wx ox' rb p0 p1 p2 p3 p4 _(-1) _ z4(by omega)(by omega) E;have d4:=aP(C.puts 13 0 0)(-1) 1(by omega)(by omega);have z5:=d4.sz _ z4;have d5:=(dC.trans(as C 13 0 0)).trans d4;generalize(C.puts 13 0 0).grows(-1)=D at *;have hG:=fun wx ox' E=>db wx ox' rb p0 p1 p2 p3 p4 D i(fun hl=>Nat.lt_of_lt_of_le(hi(by cases hs:s.lg with|false=>rfl|true=>rw[d5.lg hs] at hl;cases hl)) d5.w2) E;have hH:=fun wx ox' E=>du wx ox' rb p0 p1 p2 p3 p4(D.lands i) 1 2 _((aY D i).sz _ z5)(by omega) E;have lF:((D.lands i).val 1 2).lg=false->C.at1<((D.lands i).val 1 2).ws.length:=dW((d4.trans(aY D i)).trans(bP _ _ _));have hI:=fun wx ox' E=>db wx ox' rb p0 p1 p2 p3 p4((D.lands i).val 1 2) C.at1 lF E;generalize C.at1=iC at *;clear d1 z1 d2 z2 d3 z3 dC d4 z4 d5 z5 lF hz hm hi;go_enter Tryz.func141,Tryz.ntmps141;go_wp2_with fail;refine(hA w o h).mono ?_;rintro e w2⟨rfl,o2,E2,S2⟩;have T2:=T1.trans S2;clear S2 ;go_wp2_with fail;refine(hB w2 o2 E2).mono ?_;rintro e w3⟨rfl,o3,E3,S3⟩;have T3:=T2.trans S3;clear S3 ;go_wp2_with fail;refine(hC w3 o3 E3).mono ?_;rintro e w4⟨rfl,o4,E4,S4⟩;have T4:=T3.trans S4;clear S4 ;go_wp2_with fail;refine(hD w4 o4 E4).mono ?_;rintro e w5⟨rfl,o5,E5,S5⟩;have T5:=T4.trans S5;clear S5 ;go_wp2_with fail;refine(hE w5 o5 E5).mono ?_;rintro e w6⟨rfl,o6,E6,S6⟩;have T6:=T5.trans S6;clear S6 ;go_wp2_with fail;refine(hF w6 o6 E6).mono ?_;rintro e w7⟨rfl,o7,E7,S7⟩;have T7:=T6.trans S7;clear S7 ;go_wp2_with fail;refine(hG w7 o7 E7).mono ?_;rintro e w8⟨rfl,o8,E8,S8⟩;have T8:=T7.trans S8;clear S8 ;go_wp2_with fail;refine(hH w8 o8 E8).mono ?_;rintro e w9⟨rfl,o9,E9,S9⟩;have T9:=T8.trans S9;clear S9 ;go_wp2_with fail;refine(hI w9 o9 E9).mono ?_;rintro e w10⟨rfl,o10,E10,S10⟩;have T10:=T9.trans S10;clear S10 ;go_wp2
 go_end0
 exact⟨rfl,o10,E10,T10⟩
theorem AD (g i:Nat)(w:World)(o:Nat->Nat)(rb:Nat)(p0 p1 p2 p3 p4:Value)(s:Dp)(m:Nat)(hz:s.sz m)(hm:m+8<=100000000)(hi:s.lg=false->i<s.ws.length)(h:DW w o rb p0 p1 p2 p3 p4 s) :
  Calls Tryz.prog 141 #[pt0 rb,.int .i64 2,.int .i64(g:Nat),.int .i64(i:Nat)] w(cH w o rb p0 p1 p2 p3 p4(nT 2 g i s)(.tuple #[])):=by
 have e1:nT 2 g i s=((((((((s.puts 14 g 0).grows(-1)).puts 25 0 0).val 1 2).puts 13 0 0).grows(-1)).lands i).val 0 2).lands(((((s.puts 14 g 0).grows(-1)).puts 25 0 0).val 1 2).at1):=rfl;rw[e1];clear e1;have T1:=aa.refl I17 w o;have d1:=as s 14 g 0;have z1:=d1.sz _ hz;have d2:=aP(s.puts 14 g 0)(-1) 1(by omega)(by omega);have z2:=(as _ 25 0 0).sz _(d2.sz _ z1);have d3:=(as((s.puts 14 g 0).grows(-1)) 25 0 0).trans(bP _ 1 2);have z3:=(bP _ 1 2).sz _ z2;have hA:=fun wx ox' E=>aS wx ox' rb p0 p1 p2 p3 p4 s 14 g 0 E;have hB:=fun wx ox' E=>bh wx ox' rb p0 p1 p2 p3 p4 _(-1) _ z1(by omega)(by omega) E;have hC:=fun wx ox' E=>aS wx ox' rb p0 p1 p2 p3 p4((s.puts 14 g 0).grows(-1)) 25 0 0 E;have hD:=fun wx ox' E=>du wx ox' rb p0 p1 p2 p3 p4(((s.puts 14 g 0).grows(-1)).puts 25 0 0) 1 2 _ z2(by omega) E;have dC:=(d1.trans d2).trans d3;generalize(((s.puts 14 g 0).grows(-1)).puts 25 0 0).val 1 2=C at *;have hE:=fun wx ox' E=>aS wx ox' rb p0 p1 p2 p3 p4 C 13 0 0 E;have z4:=(as C 13 0 0).sz _ z3;have hF:=fun wx ox' E=>bh wx ox' rb p0 p1 p2 p3 p4 _(-1) _ z4(by omega)(by omega) E;have d4:=aP(C.puts 13 0 0)(-1) 1(by omega)(by omega);have z5:=d4.sz _ z4;have d5:=(dC.trans(as C 13 0 0)).trans d4;generalize(C.puts 13 0 0).grows(-1)=D at *;have hG:=fun wx ox' E=>db wx ox' rb p0 p1 p2 p3 p4 D i(fun hl=>Nat.lt_of_lt_of_le(hi(by cases hs:s.lg with|false=>rfl|true=>rw[d5.lg hs] at hl;cases hl)) d5.w2) E;have hH:=fun wx ox' E=>du wx ox' rb p0 p1 p2 p3 p4(D.lands i) 0 2 _((aY D i).sz _ z5)(by omega) E;have lF:((D.lands i).val 0 2).lg=false->C.at1<((D.lands i).val 0 2).ws.length:=dW((d4.trans(aY D i)).trans(bP _ _ _));have hI:=fun wx ox' E=>db wx ox' rb p0 p1 p2 p3 p4((D.lands i).val 0 2) C.at1 lF E;generalize C.at1=iC at *;clear d1 z1 d2 z2 d3 z3 dC d4 z4 d5 z5 lF hz hm hi;go_enter Tryz.func141,Tryz.ntmps141;go_wp2_with fail;refine(hA w o h).mono ?_;rintro e w2⟨rfl,o2,E2,S2⟩;have T2:=T1.trans S2;clear S2 ;go_wp2_with fail;refine(hB w2 o2 E2).mono ?_;rintro e w3⟨rfl,o3,E3,S3⟩;have T3:=T2.trans S3;clear S3 ;go_wp2_with fail;refine(hC w3 o3 E3).mono ?_;rintro e w4⟨rfl,o4,E4,S4⟩;have T4:=T3.trans S4;clear S4 ;go_wp2_with fail;refine(hD w4 o4 E4).mono ?_;rintro e w5⟨rfl,o5,E5,S5⟩;have T5:=T4.trans S5;clear S5 ;go_wp2_with fail;refine(hE w5 o5 E5).mono ?_;rintro e w6⟨rfl,o6,E6,S6⟩;have T6:=T5.trans S6;clear S6 ;go_wp2_with fail;refine(hF w6 o6 E6).mono ?_;rintro e w7⟨rfl,o7,E7,S7⟩;have T7:=T6.trans S7;clear S7 ;go_wp2_with fail;refine(hG w7 o7 E7).mono ?_;rintro e w8⟨rfl,o8,E8,S8⟩;have T8:=T7.trans S8;clear S8 ;go_wp2_with fail;refine(hH w8 o8 E8).mono ?_;rintro e w9⟨rfl,o9,E9,S9⟩;have T9:=T8.trans S9;clear S9 ;go_wp2_with fail;refine(hI w9 o9 E9).mono ?_;rintro e w10⟨rfl,o10,E10,S10⟩;have T10:=T9.trans S10;clear S10 ;go_wp2
 go_end0
 exact⟨rfl,o10,E10,T10⟩
theorem jc {lv:List Int}{x:Ex}{ar:Nat}{s:Dp}(h:22<=x.k/\x.k<=25):deE lv x ar s=uX x.k x.nm (deF lv x.kids) ar s:=by
 unfold deE mf;rw[if_pos h]
theorem DW.ll {w:World}{o:Nat->Nat}{rb:Nat}{p0 p1 p2 p3 p4:Value}{s:Dp}(h:DW w o rb p0 p1 p2 p3 p4 s):∃ao cap,w.cell? ⟨rb,8,none⟩=some (.slice ao s.ws.length cap):=by
 obtain⟨wl,vc,vn,vk,vw,q0,q1,-⟩:=h;obtain⟨⟨c4,c5,c6,c7,c8,c9,c10,c11⟩,cf⟩:=bT q0.1;obtain⟨ao,cap,rfl⟩:=q1.form;exact⟨ao,cap,c8⟩
theorem AU (K:Nat->Int)(nc N:Nat)(HP:eu K nc N)(n:Int)(nm:List UInt8)(a:Int)(x y:Ex)(ao:Option Addr)(cap ar:Nat)(w:World)(o:Nat->Nat)(rb:Nat)(p0 p1 p2 p3 p4:Value)(lv:List Int)(s:Dp)(m:Nat)(hn:n=1)(hN:(Fs.ex x (Fs.ex y .nil)).size<=N)(ho:okE nc ⟨21,n,nm,a,(Fs.ex x (Fs.ex y .nil))⟩)(hsk:skF K (Fs.ex x (Fs.ex y .nil)) 21 0)(hlv:lv.length=nc)(hnc:nc<=256)(har:ar+(Fs.ex x (Fs.ex y .nil)).size<=1000000)(hsz:(Fs.ex x (Fs.ex y .nil)).size<=100000)(S:SnO w o (Fs.ex x (Fs.ex y .nil)) ao)(hks:s.ks.length=nc)(hz:s.sz m)(hm:m+(17*(Fs.ex x (Fs.ex y .nil)).size+16)<=100000000)(X:DX w o p4 lv)(h:DW w o rb p0 p1 p2 p3 p4 s) :
  Calls Tryz.prog 82 #[pt0 rb,exN⟨21,n,nm,a,(Fs.ex x(Fs.ex y .nil))⟩ ao cap,.int .i64(ar:Nat)] w(cH w o rb p0 p1 p2 p3 p4(iS lv n(deE lv x)(deE lv y) ar s)(.tuple #[])):=by
 have hok:=ho.2;simp only at hok;have ox:=(aK hok).1;have oy:=(aK(aK hok).2).1;have hx4:22<=x.k/\x.k<=25:=hsk.1.2⟨rfl,rfl⟩;have sx:=hsk.2.2.1;have sy:skE K y:=⟨fun hs=>absurd(hsk.2.2.2.1.1 hs).2(by omega),hsk.2.2.2.2.1,hsk.2.2.2.2.2.1⟩
 simp only[aV,Fs.size] at hN har hsz hm;obtain⟨w1,o1,g,hw1,HG,B1,E1,X1,SN1,S0⟩:=dn #[.int .i64 21,.int .i64 n,stv nm,.slice ao(Fs.ex x(Fs.ex y .nil)).len cap] h X S;have KK:=dl B1;obtain⟨c0,c1,c2,c3⟩:=KK.out _ _(aa.refl I17 w1 o1);obtain⟨l1,-⟩:=E1.cl;have T1:=aa.refl I17 w1 o1;clear B1 h X S;rw[ah];simp only;obtain⟨b,off,ak,ck,hao,NN,Sx,NK⟩:=dX(x:=.nil) SN1 0 rfl;obtain⟨b1,off1,ak1,ck1,hao1,NN1,Sy,NK1⟩:=dX(x:=one x) SN1 1 rfl;subst hao;injection hao1 with hao1
 injection hao1 with e1 e2
 subst e1 e2;have hlen:(Fs.ex x(Fs.ex y .nil)).len=2:=rfl;rw[hlen] at hw1 KK c3 ⊢;obtain⟨x0,x1,x2,x3⟩:Nd4 w1 b off x ak ck:=NN;have H1:=mC K nc N HP x.k x.n x.nm x.a x.kids ak ck ar w1 o1 rb p0 p1 p2 p3 p4 lv s m hx4(by omega) ox sx hlv hnc(by omega)(by omega) Sx hks hz(by omega) X1 E1;rw[<-jc hx4] at H1;rw[ah] at H1;have dA:=bQ lv x ar s;unfold iS
 dsimp only
 generalize deE lv x ar s=A at *;have zA:=dA.sz m hz;obtain⟨Bq,hBq⟩:∃Bq,Bq=eD n A:=⟨_,rfl⟩
 rw[<-hBq];have hB:Bq=A:=by rw[hBq];rcases hn with rfl<;>rfl
 have dB:Dle 4 A Bq:=by rw[hBq];exact gU n A
 have zB:=dB.sz _ zA;have kB:Bq.ks.length=nc:=(dB.ks.trans dA.ks).trans hks;subst hB;clear hBq dA dB hz hks;by_cases hlg:Bq.lg=true
 ·rw[if_pos hlg];have HP:=0;clear HP;clear Sx Sy NK NK1 NN1 hok ox oy sx sy hx4 hsk ho zA zB kB X1 SN1 l1 hlen E1;subst hn;go_enter Tryz.func82,Tryz.ntmps82;go_upto_region 1 with fail;rw[<-hw1,<-HG.out];clear hw1;go_wp2_with fail;refine H1.mono ?_;rintro e w2⟨rfl,o2,E2,S2⟩;have T2:=T1.trans S2;clear S2 c0 c1 c2 c3 x0 x1 x2 x3 H1;obtain⟨c0,c1,c2,c3⟩:=KK.out _ _ T2;obtain⟨l1,-⟩:=E2.cl;rw[hlg] at l1;go_wp2
  go_end0
  exact⟨rfl,o2,E2,S0.trans T2⟩
 ·rw[if_neg hlg];have hlf:Bq.lg=false:=by simpa using hlg
  have hP:=fun wx ox' E=>aS wx ox' rb p0 p1 p2 p3 p4 Bq 24 0 0 E;have dP:=as Bq 24 0 0;have dC:=fa(ar+1) lv 0(Bq.puts 24 0 0);have zC:=dC.sz _(dP.sz _ zB);have kC:=(dC.ks.trans dP.ks).trans kB;have hC:=fun wx ox' X E=>gh ar wx ox' rb p0 p1 p2 p3 p4 lv(Bq.puts 24 0 0)(by omega)(by omega) X E;generalize fB(ar+1) lv 0(Bq.puts 24 0 0)=C at *;have hY:=fun wx ox' S X E=>HP y ak1 ck1(ar+1) wx ox' rb p0 p1 p2 p3 p4 lv C _(by omega) oy sy hlv hnc(by omega)(by omega) S kC zC(by omega) X E;simp only[ah] at hY;rw[show((ar+1:Nat):Int)=(ar:Int)+1 from rfl] at hY;have dE:=bQ lv y(ar+1) C;generalize deE lv y(ar+1) C=F at *;have zF:=dE.sz _ zC;have lF:F.lg=false->Bq.at1<F.ws.length:=dW(dC.trans dE);generalize hat:Bq.at1=iB at *;generalize hgl:Bq.ws.length=gB at *;have hLL:∀ wx ox',DW wx ox' rb p0 p1 p2 p3 p4 Bq->∃ao cap,wx.cell?⟨rb,8,none⟩=some(.slice ao gB cap):=fun wx ox' E=>by rw[<-hgl];exact E.ll
  have gA:=fun wx ox' E=>Bu gB iB wx ox' rb p0 p1 p2 p3 p4 F _ zF(by omega) lF E;clear lF zF dE zC dC dP;subst hn;rw[if_pos(by omega)];clear hok ox oy sx sy hx4 hsk ho zA zB kB kC HP hat hgl l1 hlen E1 SN1;go_enter Tryz.func82,Tryz.ntmps82;go_upto_region 1 with fail;rw[<-hw1,<-HG.out];clear hw1;go_wp2_with fail;refine H1.mono ?_;rintro e w2⟨rfl,o2,E2,S2⟩;have T2:=T1.trans S2;clear S2 c0 c1 c2 c3 x0 x1 x2 x3 H1;obtain⟨c0,c1,c2,c3⟩:=KK.out _ _ T2;obtain⟨l1,-⟩:=E2.cl;rw[hlf] at l1;obtain⟨al,cl,l8⟩:=hLL w2 o2 E2;go_wp2_with fail;refine(hP w2 o2 E2).mono ?_;rintro e w3⟨rfl,o3,E3,S3⟩;have T3:=T2.trans S3;clear S3 c0 c1 c2 c3 hP l1 l8;obtain⟨c0,c1,c2,c3⟩:=KK.out _ _ T3;go_wp2_with fail;refine(hC w3 o3(X1.step T3 aA) E3).mono ?_;rintro e w4⟨rfl,o4,E4,S4⟩;have T4:=T3.trans S4;clear S4 c0 c1 c2 c3 hC;obtain⟨c0,c1,c2,c3⟩:=KK.out _ _ T4;obtain⟨y0,y1,y2,y3⟩:Nd8 w4 b off y ak1 ck1:=NK1 T4 aA;have HY:=hY w4 o4(Sy.stepO T4 aA)(X1.step T4 aA) E4;go_wp2_with fail;refine HY.mono ?_;rintro e w5⟨rfl,o5,E5,S5⟩;have T5:=T4.trans S5;clear S5 c0 c1 c2 c3 y0 y1 y2 y3 HY hY;obtain⟨c0,c1,c2,c3⟩:=KK.out _ _ T5;go_wp2_with fail;refine(gA w5 o5 E5).mono ?_;rintro e w6⟨rfl,o6,E6,S6⟩;have T6:=T5.trans S6;clear S6 c0 c1 c2 c3 gA;obtain⟨c0,c1,c2,c3⟩:=KK.out _ _ T6;go_wp2
  go_end0
  exact⟨rfl,o6,E6,S0.trans T6⟩
theorem Ay (K:Nat->Int)(nc N:Nat)(HP:eu K nc N)(n:Int)(nm:List UInt8)(a:Int)(x y:Ex)(ao:Option Addr)(cap ar:Nat)(w:World)(o:Nat->Nat)(rb:Nat)(p0 p1 p2 p3 p4:Value)(lv:List Int)(s:Dp)(m:Nat)(hn:n=2)(hN:(Fs.ex x (Fs.ex y .nil)).size<=N)(ho:okE nc ⟨21,n,nm,a,(Fs.ex x (Fs.ex y .nil))⟩)(hsk:skF K (Fs.ex x (Fs.ex y .nil)) 21 0)(hlv:lv.length=nc)(hnc:nc<=256)(har:ar+(Fs.ex x (Fs.ex y .nil)).size<=1000000)(hsz:(Fs.ex x (Fs.ex y .nil)).size<=100000)(S:SnO w o (Fs.ex x (Fs.ex y .nil)) ao)(hks:s.ks.length=nc)(hz:s.sz m)(hm:m+(17*(Fs.ex x (Fs.ex y .nil)).size+16)<=100000000)(X:DX w o p4 lv)(h:DW w o rb p0 p1 p2 p3 p4 s) :
  Calls Tryz.prog 82 #[pt0 rb,exN⟨21,n,nm,a,(Fs.ex x(Fs.ex y .nil))⟩ ao cap,.int .i64(ar:Nat)] w(cH w o rb p0 p1 p2 p3 p4(iS lv n(deE lv x)(deE lv y) ar s)(.tuple #[])):=by
 have hok:=ho.2;simp only at hok;have ox:=(aK hok).1;have oy:=(aK(aK hok).2).1;have hx4:22<=x.k/\x.k<=25:=hsk.1.2⟨rfl,rfl⟩;have sx:=hsk.2.2.1;have sy:skE K y:=⟨fun hs=>absurd(hsk.2.2.2.1.1 hs).2(by omega),hsk.2.2.2.2.1,hsk.2.2.2.2.2.1⟩
 simp only[aV,Fs.size] at hN har hsz hm;obtain⟨w1,o1,g,hw1,HG,B1,E1,X1,SN1,S0⟩:=dn #[.int .i64 21,.int .i64 n,stv nm,.slice ao(Fs.ex x(Fs.ex y .nil)).len cap] h X S;have KK:=dl B1;obtain⟨c0,c1,c2,c3⟩:=KK.out _ _(aa.refl I17 w1 o1);obtain⟨l1,-⟩:=E1.cl;have T1:=aa.refl I17 w1 o1;clear B1 h X S;rw[ah];simp only;obtain⟨b,off,ak,ck,hao,NN,Sx,NK⟩:=dX(x:=.nil) SN1 0 rfl;obtain⟨b1,off1,ak1,ck1,hao1,NN1,Sy,NK1⟩:=dX(x:=one x) SN1 1 rfl;subst hao;injection hao1 with hao1
 injection hao1 with e1 e2
 subst e1 e2;have hlen:(Fs.ex x(Fs.ex y .nil)).len=2:=rfl;rw[hlen] at hw1 KK c3 ⊢;obtain⟨x0,x1,x2,x3⟩:Nd4 w1 b off x ak ck:=NN;have H1:=mC K nc N HP x.k x.n x.nm x.a x.kids ak ck ar w1 o1 rb p0 p1 p2 p3 p4 lv s m hx4(by omega) ox sx hlv hnc(by omega)(by omega) Sx hks hz(by omega) X1 E1;rw[<-jc hx4] at H1;rw[ah] at H1;have dA:=bQ lv x ar s;unfold iS
 dsimp only
 generalize deE lv x ar s=A at *;have zA:=dA.sz m hz;obtain⟨Bq,hBq⟩:∃Bq,Bq=eD n A:=⟨_,rfl⟩
 rw[<-hBq];have hB:Bq=A:=by rw[hBq];rcases hn with rfl<;>rfl
 have dB:Dle 4 A Bq:=by rw[hBq];exact gU n A
 have zB:=dB.sz _ zA;have kB:Bq.ks.length=nc:=(dB.ks.trans dA.ks).trans hks;subst hB;clear hBq dA dB hz hks;by_cases hlg:Bq.lg=true
 ·rw[if_pos hlg];have HP:=0;clear HP;clear Sx Sy NK NK1 NN1 hok ox oy sx sy hx4 hsk ho zA zB kB X1 SN1 l1 hlen E1;subst hn;go_enter Tryz.func82,Tryz.ntmps82;go_upto_region 1 with fail;rw[<-hw1,<-HG.out];clear hw1;go_wp2_with fail;refine H1.mono ?_;rintro e w2⟨rfl,o2,E2,S2⟩;have T2:=T1.trans S2;clear S2 c0 c1 c2 c3 x0 x1 x2 x3 H1;obtain⟨c0,c1,c2,c3⟩:=KK.out _ _ T2;obtain⟨l1,-⟩:=E2.cl;rw[hlg] at l1;go_wp2
  go_end0
  exact⟨rfl,o2,E2,S0.trans T2⟩
 ·rw[if_neg hlg];have hlf:Bq.lg=false:=by simpa using hlg
  have hP:=fun wx ox' E=>aS wx ox' rb p0 p1 p2 p3 p4 Bq 24 0 0 E;have dP:=as Bq 24 0 0;have dC:=fa(ar+1) lv 0(Bq.puts 24 0 0);have zC:=dC.sz _(dP.sz _ zB);have kC:=(dC.ks.trans dP.ks).trans kB;have hC:=fun wx ox' X E=>gh ar wx ox' rb p0 p1 p2 p3 p4 lv(Bq.puts 24 0 0)(by omega)(by omega) X E;generalize fB(ar+1) lv 0(Bq.puts 24 0 0)=C at *;have hY:=fun wx ox' S X E=>HP y ak1 ck1(ar+1) wx ox' rb p0 p1 p2 p3 p4 lv C _(by omega) oy sy hlv hnc(by omega)(by omega) S kC zC(by omega) X E;simp only[ah] at hY;rw[show((ar+1:Nat):Int)=(ar:Int)+1 from rfl] at hY;have dE:=bQ lv y(ar+1) C;generalize deE lv y(ar+1) C=F at *;have zF:=dE.sz _ zC;have lF:F.lg=false->Bq.at1<F.ws.length:=dW(dC.trans dE);generalize hat:Bq.at1=iB at *;generalize hgl:Bq.ws.length=gB at *;have hLL:∀ wx ox',DW wx ox' rb p0 p1 p2 p3 p4 Bq->∃ao cap,wx.cell?⟨rb,8,none⟩=some(.slice ao gB cap):=fun wx ox' E=>by rw[<-hgl];exact E.ll
  have gA:=fun wx ox' E=>AD gB iB wx ox' rb p0 p1 p2 p3 p4 F _ zF(by omega) lF E;clear lF zF dE zC dC dP;subst hn;rw[if_pos(by omega)];clear hok ox oy sx sy hx4 hsk ho zA zB kB kC HP hat hgl l1 hlen E1 SN1;go_enter Tryz.func82,Tryz.ntmps82;go_upto_region 1 with fail;rw[<-hw1,<-HG.out];clear hw1;go_wp2_with fail;refine H1.mono ?_;rintro e w2⟨rfl,o2,E2,S2⟩;have T2:=T1.trans S2;clear S2 c0 c1 c2 c3 x0 x1 x2 x3 H1;obtain⟨c0,c1,c2,c3⟩:=KK.out _ _ T2;obtain⟨l1,-⟩:=E2.cl;rw[hlf] at l1;obtain⟨al,cl,l8⟩:=hLL w2 o2 E2;go_wp2_with fail;refine(hP w2 o2 E2).mono ?_;rintro e w3⟨rfl,o3,E3,S3⟩;have T3:=T2.trans S3;clear S3 c0 c1 c2 c3 hP l1 l8;obtain⟨c0,c1,c2,c3⟩:=KK.out _ _ T3;go_wp2_with fail;refine(hC w3 o3(X1.step T3 aA) E3).mono ?_;rintro e w4⟨rfl,o4,E4,S4⟩;have T4:=T3.trans S4;clear S4 c0 c1 c2 c3 hC;obtain⟨c0,c1,c2,c3⟩:=KK.out _ _ T4;obtain⟨y0,y1,y2,y3⟩:Nd8 w4 b off y ak1 ck1:=NK1 T4 aA;have HY:=hY w4 o4(Sy.stepO T4 aA)(X1.step T4 aA) E4;go_wp2_with fail;refine HY.mono ?_;rintro e w5⟨rfl,o5,E5,S5⟩;have T5:=T4.trans S5;clear S5 c0 c1 c2 c3 y0 y1 y2 y3 HY hY;obtain⟨c0,c1,c2,c3⟩:=KK.out _ _ T5;go_wp2_with fail;refine(gA w5 o5 E5).mono ?_;rintro e w6⟨rfl,o6,E6,S6⟩;have T6:=T5.trans S6;clear S6 c0 c1 c2 c3 gA;obtain⟨c0,c1,c2,c3⟩:=KK.out _ _ T6;go_wp2
  go_end0
  exact⟨rfl,o6,E6,S0.trans T6⟩
theorem AE (K:Nat->Int)(nc N:Nat)(HP:eu K nc N)(n:Int)(nm:List UInt8)(a:Int)(x y:Ex)(ao:Option Addr)(cap ar:Nat)(w:World)(o:Nat->Nat)(rb:Nat)(p0 p1 p2 p3 p4:Value)(lv:List Int)(s:Dp)(m:Nat)(hn:n=3)(hN:(Fs.ex x (Fs.ex y .nil)).size<=N)(ho:okE nc ⟨21,n,nm,a,(Fs.ex x (Fs.ex y .nil))⟩)(hsk:skF K (Fs.ex x (Fs.ex y .nil)) 21 0)(hlv:lv.length=nc)(hnc:nc<=256)(har:ar+(Fs.ex x (Fs.ex y .nil)).size<=1000000)(hsz:(Fs.ex x (Fs.ex y .nil)).size<=100000)(S:SnO w o (Fs.ex x (Fs.ex y .nil)) ao)(hks:s.ks.length=nc)(hz:s.sz m)(hm:m+(17*(Fs.ex x (Fs.ex y .nil)).size+16)<=100000000)(X:DX w o p4 lv)(h:DW w o rb p0 p1 p2 p3 p4 s) :
  Calls Tryz.prog 82 #[pt0 rb,exN⟨21,n,nm,a,(Fs.ex x(Fs.ex y .nil))⟩ ao cap,.int .i64(ar:Nat)] w(cH w o rb p0 p1 p2 p3 p4(iS lv n(deE lv x)(deE lv y) ar s)(.tuple #[])):=by
 have hok:=ho.2;simp only at hok;have ox:=(aK hok).1;have oy:=(aK(aK hok).2).1;have hx4:22<=x.k/\x.k<=25:=hsk.1.2⟨rfl,rfl⟩;have sx:=hsk.2.2.1;have sy:skE K y:=⟨fun hs=>absurd(hsk.2.2.2.1.1 hs).2(by omega),hsk.2.2.2.2.1,hsk.2.2.2.2.2.1⟩
 simp only[aV,Fs.size] at hN har hsz hm;obtain⟨w1,o1,g,hw1,HG,B1,E1,X1,SN1,S0⟩:=dn #[.int .i64 21,.int .i64 n,stv nm,.slice ao(Fs.ex x(Fs.ex y .nil)).len cap] h X S;have KK:=dl B1;obtain⟨c0,c1,c2,c3⟩:=KK.out _ _(aa.refl I17 w1 o1);obtain⟨l1,-⟩:=E1.cl;have T1:=aa.refl I17 w1 o1;clear B1 h X S;rw[ah];simp only;obtain⟨b,off,ak,ck,hao,NN,Sx,NK⟩:=dX(x:=.nil) SN1 0 rfl;obtain⟨b1,off1,ak1,ck1,hao1,NN1,Sy,NK1⟩:=dX(x:=one x) SN1 1 rfl;subst hao;injection hao1 with hao1
 injection hao1 with e1 e2
 subst e1 e2;have hlen:(Fs.ex x(Fs.ex y .nil)).len=2:=rfl;rw[hlen] at hw1 KK c3 ⊢;obtain⟨x0,x1,x2,x3⟩:Nd4 w1 b off x ak ck:=NN;have H1:=mC K nc N HP x.k x.n x.nm x.a x.kids ak ck ar w1 o1 rb p0 p1 p2 p3 p4 lv s m hx4(by omega) ox sx hlv hnc(by omega)(by omega) Sx hks hz(by omega) X1 E1;rw[<-jc hx4] at H1;rw[ah] at H1;have dA:=bQ lv x ar s;unfold iS
 dsimp only
 generalize deE lv x ar s=A at *;have zA:=dA.sz m hz;obtain⟨Bq,hBq⟩:∃Bq,Bq=eD n A:=⟨_,rfl⟩
 rw[<-hBq];have hB:Bq=(A.val 0 1):=by rw[hBq];rcases hn with rfl<;>rfl
 have dB:Dle 4 A Bq:=by rw[hBq];exact gU n A
 have zB:=dB.sz _ zA;have kB:Bq.ks.length=nc:=(dB.ks.trans dA.ks).trans hks;have hV:=fun wx ox' E=>du wx ox' rb p0 p1 p2 p3 p4 A 0 1 _ zA(by omega) E;rw[<-hB] at hV;clear hBq dA dB hz hks;by_cases hlg:Bq.lg=true
 ·rw[if_pos hlg];have HP:=0;clear HP;clear Sx Sy NK NK1 NN1 hok ox oy sx sy hx4 hsk ho zA zB kB X1 SN1 l1 hlen E1;subst hn;go_enter Tryz.func82,Tryz.ntmps82;go_upto_region 1 with fail;rw[<-hw1,<-HG.out];clear hw1;go_wp2_with fail;refine H1.mono ?_;rintro e w2⟨rfl,o2,E2,S2⟩;have T2:=T1.trans S2;clear S2 c0 c1 c2 c3 x0 x1 x2 x3 H1;obtain⟨c0,c1,c2,c3⟩:=KK.out _ _ T2;go_wp2_with fail;refine(hV w2 o2 E2).mono ?_;rintro e w3⟨rfl,o3,E3,S3⟩;have T3:=T2.trans S3;clear S3 c0 c1 c2 c3 hV;obtain⟨c0,c1,c2,c3⟩:=KK.out _ _ T3;obtain⟨l1,-⟩:=E3.cl;rw[hlg] at l1;go_wp2
  go_end0
  exact⟨rfl,o3,E3,S0.trans T3⟩
 ·rw[if_neg hlg];have hlf:Bq.lg=false:=by simpa using hlg
  have hP:=fun wx ox' E=>aS wx ox' rb p0 p1 p2 p3 p4 Bq 24 0 0 E;have dP:=as Bq 24 0 0;have dC:=fa(ar+1) lv 0(Bq.puts 24 0 0);have zC:=dC.sz _(dP.sz _ zB);have kC:=(dC.ks.trans dP.ks).trans kB;have hC:=fun wx ox' X E=>gh ar wx ox' rb p0 p1 p2 p3 p4 lv(Bq.puts 24 0 0)(by omega)(by omega) X E;generalize fB(ar+1) lv 0(Bq.puts 24 0 0)=C at *;have hY:=fun wx ox' S X E=>HP y ak1 ck1(ar+1) wx ox' rb p0 p1 p2 p3 p4 lv C _(by omega) oy sy hlv hnc(by omega)(by omega) S kC zC(by omega) X E;simp only[ah] at hY;rw[show((ar+1:Nat):Int)=(ar:Int)+1 from rfl] at hY;have dE:=bQ lv y(ar+1) C;generalize deE lv y(ar+1) C=F at *;have zF:=dE.sz _ zC;have lF:F.lg=false->Bq.at1<F.ws.length:=dW(dC.trans dE);generalize hat:Bq.at1=iB at *;generalize hgl:Bq.ws.length=gB at *;have hLL:∀ wx ox',DW wx ox' rb p0 p1 p2 p3 p4 Bq->∃ao cap,wx.cell?⟨rb,8,none⟩=some(.slice ao gB cap):=fun wx ox' E=>by rw[<-hgl];exact E.ll
  have gA:=fun wx ox' E=>aS wx ox' rb p0 p1 p2 p3 p4 F 14 gB 0 E;have z1:=(as F 14 gB 0).sz _ zF;have gC:=fun wx ox' E=>bh wx ox' rb p0 p1 p2 p3 p4 _(-1) _ z1(by omega)(by omega) E;have d1:=aP(F.puts 14 gB 0)(-1) 1(by omega)(by omega);have z2:=d1.sz _ z1;have gD:=fun wx ox' E=>du wx ox' rb p0 p1 p2 p3 p4((F.puts 14 gB 0).grows(-1)) 1 1 _ z2(by omega) E;have gE:=fun wx ox' E=>aS wx ox' rb p0 p1 p2 p3 p4(((F.puts 14 gB 0).grows(-1)).val 1 1) 6 0 0 E;have z3:=(as _ 6 0 0).sz _((bP((F.puts 14 gB 0).grows(-1)) 1 1).sz _ z2);have gF:=fun wx ox' E=>bh wx ox' rb p0 p1 p2 p3 p4 _(-1) _ z3(by omega)(by omega) E;have dM:=la 3 gB F;generalize hM:mK 3 gB F=M at *;have hM2:(((((F.puts 14 gB 0).grows(-1)).val 1 1).puts 6 0 0).grows(-1))=M:=hM;rw[hM2] at gF;have gG:=fun wx ox' E=>aS wx ox' rb p0 p1 p2 p3 p4 M 13 gB 0 E;have lM:(M.puts 13 gB 0).lg=false->iB<(M.puts 13 gB 0).ws.length:=fun hl=>Nat.lt_of_lt_of_le(lF(by cases hs:F.lg with|false=>rfl|true=>rw[(dM.trans(as M 13 gB 0)).lg hs] at hl;cases hl))(dM.trans(as M 13 gB 0)).w2;have gH:=fun wx ox' E=>db wx ox' rb p0 p1 p2 p3 p4(M.puts 13 gB 0) iB lM E;clear z1 z2 z3 d1 dM lM lF zF dE zC dC dP;subst hn;rw[if_neg(by omega)];have hfin:mP 3 gB iB F=(M.puts 13 gB 0).lands iB:=by rw[<-hM];rfl
  rw[hfin];clear hfin hM hM2;clear hok ox oy sx sy hx4 hsk ho zA zB kB kC HP hat hgl l1 hlen E1 SN1;go_enter Tryz.func82,Tryz.ntmps82;go_upto_region 1 with fail;rw[<-hw1,<-HG.out];clear hw1;go_wp2_with fail;refine H1.mono ?_;rintro e w2⟨rfl,o2,E2,S2⟩;have T2:=T1.trans S2;clear S2 c0 c1 c2 c3 x0 x1 x2 x3 H1;obtain⟨c0,c1,c2,c3⟩:=KK.out _ _ T2;go_wp2_with fail;refine(hV w2 o2 E2).mono ?_;rintro e w3⟨rfl,o3,E3,S3⟩;have T3:=T2.trans S3;clear S3 c0 c1 c2 c3 hV;obtain⟨c0,c1,c2,c3⟩:=KK.out _ _ T3;obtain⟨l1,-⟩:=E3.cl;rw[hlf] at l1;obtain⟨al,cl,l8⟩:=hLL w3 o3 E3;go_wp2_with fail;refine(hP w3 o3 E3).mono ?_;rintro e w4⟨rfl,o4,E4,S4⟩;have T4:=T3.trans S4;clear S4 c0 c1 c2 c3 hP l1 l8;obtain⟨c0,c1,c2,c3⟩:=KK.out _ _ T4;go_wp2_with fail;refine(hC w4 o4(X1.step T4 aA) E4).mono ?_;rintro e w5⟨rfl,o5,E5,S5⟩;have T5:=T4.trans S5;clear S5 c0 c1 c2 c3 hC;obtain⟨c0,c1,c2,c3⟩:=KK.out _ _ T5;obtain⟨y0,y1,y2,y3⟩:Nd8 w5 b off y ak1 ck1:=NK1 T5 aA;have HY:=hY w5 o5(Sy.stepO T5 aA)(X1.step T5 aA) E5;go_wp2_with fail;refine HY.mono ?_;rintro e w6⟨rfl,o6,E6,S6⟩;have T6:=T5.trans S6;clear S6 c0 c1 c2 c3 y0 y1 y2 y3 HY hY;obtain⟨c0,c1,c2,c3⟩:=KK.out _ _ T6;go_wp2_with fail;refine(gA w6 o6 E6).mono ?_;rintro e w7⟨rfl,o7,E7,S7⟩;have T7:=T6.trans S7;clear S7 c0 c1 c2 c3 gA;obtain⟨c0,c1,c2,c3⟩:=KK.out _ _ T7;go_wp2_with fail;refine(gC w7 o7 E7).mono ?_;rintro e w8⟨rfl,o8,E8,S8⟩;have T8:=T7.trans S8;clear S8 c0 c1 c2 c3 gC;obtain⟨c0,c1,c2,c3⟩:=KK.out _ _ T8;go_wp2_with fail;refine(gD w8 o8 E8).mono ?_;rintro e w9⟨rfl,o9,E9,S9⟩;have T9:=T8.trans S9;clear S9 c0 c1 c2 c3 gD;obtain⟨c0,c1,c2,c3⟩:=KK.out _ _ T9;go_wp2_with fail;refine(gE w9 o9 E9).mono ?_;rintro e w10⟨rfl,o10,E10,S10⟩;have T10:=T9.trans S10;clear S10 c0 c1 c2 c3 gE;obtain⟨c0,c1,c2,c3⟩:=KK.out _ _ T10;go_wp2_with fail;refine(gF w10 o10 E10).mono ?_;rintro e w11⟨rfl,o11,E11,S11⟩;have T11:=T10.trans S11;clear S11 c0 c1 c2 c3 gF;obtain⟨c0,c1,c2,c3⟩:=KK.out _ _ T11;go_wp2_with fail;refine(gG w11 o11 E11).mono ?_;rintro e w12⟨rfl,o12,E12,S12⟩;have T12:=T11.trans S12;clear S12 c0 c1 c2 c3 gG;obtain⟨c0,c1,c2,c3⟩:=KK.out _ _ T12;go_wp2_with fail;refine(gH w12 o12 E12).mono ?_;rintro e w13⟨rfl,o13,E13,S13⟩;have T13:=T12.trans S13;clear S13 c0 c1 c2 c3 gH;obtain⟨c0,c1,c2,c3⟩:=KK.out _ _ T13;go_wp2
  go_end0
  exact⟨rfl,o13,E13,S0.trans T13⟩
theorem zi (K:Nat->Int)(nc N:Nat)(HP:eu K nc N)(n:Int)(nm:List UInt8)(a:Int)(x y:Ex)(ao:Option Addr)(cap ar:Nat)(w:World)(o:Nat->Nat)(rb:Nat)(p0 p1 p2 p3 p4:Value)(lv:List Int)(s:Dp)(m:Nat)(hn:n=4)(hN:(Fs.ex x (Fs.ex y .nil)).size<=N)(ho:okE nc ⟨21,n,nm,a,(Fs.ex x (Fs.ex y .nil))⟩)(hsk:skF K (Fs.ex x (Fs.ex y .nil)) 21 0)(hlv:lv.length=nc)(hnc:nc<=256)(har:ar+(Fs.ex x (Fs.ex y .nil)).size<=1000000)(hsz:(Fs.ex x (Fs.ex y .nil)).size<=100000)(S:SnO w o (Fs.ex x (Fs.ex y .nil)) ao)(hks:s.ks.length=nc)(hz:s.sz m)(hm:m+(17*(Fs.ex x (Fs.ex y .nil)).size+16)<=100000000)(X:DX w o p4 lv)(h:DW w o rb p0 p1 p2 p3 p4 s) :
  Calls Tryz.prog 82 #[pt0 rb,exN⟨21,n,nm,a,(Fs.ex x(Fs.ex y .nil))⟩ ao cap,.int .i64(ar:Nat)] w(cH w o rb p0 p1 p2 p3 p4(iS lv n(deE lv x)(deE lv y) ar s)(.tuple #[])):=by
 have hok:=ho.2;simp only at hok;have ox:=(aK hok).1;have oy:=(aK(aK hok).2).1;have hx4:22<=x.k/\x.k<=25:=hsk.1.2⟨rfl,rfl⟩;have sx:=hsk.2.2.1;have sy:skE K y:=⟨fun hs=>absurd(hsk.2.2.2.1.1 hs).2(by omega),hsk.2.2.2.2.1,hsk.2.2.2.2.2.1⟩
 simp only[aV,Fs.size] at hN har hsz hm;obtain⟨w1,o1,g,hw1,HG,B1,E1,X1,SN1,S0⟩:=dn #[.int .i64 21,.int .i64 n,stv nm,.slice ao(Fs.ex x(Fs.ex y .nil)).len cap] h X S;have KK:=dl B1;obtain⟨c0,c1,c2,c3⟩:=KK.out _ _(aa.refl I17 w1 o1);obtain⟨l1,-⟩:=E1.cl;have T1:=aa.refl I17 w1 o1;clear B1 h X S;rw[ah];simp only;obtain⟨b,off,ak,ck,hao,NN,Sx,NK⟩:=dX(x:=.nil) SN1 0 rfl;obtain⟨b1,off1,ak1,ck1,hao1,NN1,Sy,NK1⟩:=dX(x:=one x) SN1 1 rfl;subst hao;injection hao1 with hao1
 injection hao1 with e1 e2
 subst e1 e2;have hlen:(Fs.ex x(Fs.ex y .nil)).len=2:=rfl;rw[hlen] at hw1 KK c3 ⊢;obtain⟨x0,x1,x2,x3⟩:Nd4 w1 b off x ak ck:=NN;have H1:=mC K nc N HP x.k x.n x.nm x.a x.kids ak ck ar w1 o1 rb p0 p1 p2 p3 p4 lv s m hx4(by omega) ox sx hlv hnc(by omega)(by omega) Sx hks hz(by omega) X1 E1;rw[<-jc hx4] at H1;rw[ah] at H1;have dA:=bQ lv x ar s;unfold iS
 dsimp only
 generalize deE lv x ar s=A at *;have zA:=dA.sz m hz;obtain⟨Bq,hBq⟩:∃Bq,Bq=eD n A:=⟨_,rfl⟩
 rw[<-hBq];have hB:Bq=(A.val 0 1):=by rw[hBq];rcases hn with rfl<;>rfl
 have dB:Dle 4 A Bq:=by rw[hBq];exact gU n A
 have zB:=dB.sz _ zA;have kB:Bq.ks.length=nc:=(dB.ks.trans dA.ks).trans hks;have hV:=fun wx ox' E=>du wx ox' rb p0 p1 p2 p3 p4 A 0 1 _ zA(by omega) E;rw[<-hB] at hV;clear hBq dA dB hz hks;by_cases hlg:Bq.lg=true
 ·rw[if_pos hlg];have HP:=0;clear HP;clear Sx Sy NK NK1 NN1 hok ox oy sx sy hx4 hsk ho zA zB kB X1 SN1 l1 hlen E1;subst hn;go_enter Tryz.func82,Tryz.ntmps82;go_upto_region 1 with fail;rw[<-hw1,<-HG.out];clear hw1;go_wp2_with fail;refine H1.mono ?_;rintro e w2⟨rfl,o2,E2,S2⟩;have T2:=T1.trans S2;clear S2 c0 c1 c2 c3 x0 x1 x2 x3 H1;obtain⟨c0,c1,c2,c3⟩:=KK.out _ _ T2;go_wp2_with fail;refine(hV w2 o2 E2).mono ?_;rintro e w3⟨rfl,o3,E3,S3⟩;have T3:=T2.trans S3;clear S3 c0 c1 c2 c3 hV;obtain⟨c0,c1,c2,c3⟩:=KK.out _ _ T3;obtain⟨l1,-⟩:=E3.cl;rw[hlg] at l1;go_wp2
  go_end0
  exact⟨rfl,o3,E3,S0.trans T3⟩
 ·rw[if_neg hlg];have hlf:Bq.lg=false:=by simpa using hlg
  have hP:=fun wx ox' E=>aS wx ox' rb p0 p1 p2 p3 p4 Bq 24 0 0 E;have dP:=as Bq 24 0 0;have dC:=fa(ar+1) lv 0(Bq.puts 24 0 0);have zC:=dC.sz _(dP.sz _ zB);have kC:=(dC.ks.trans dP.ks).trans kB;have hC:=fun wx ox' X E=>gh ar wx ox' rb p0 p1 p2 p3 p4 lv(Bq.puts 24 0 0)(by omega)(by omega) X E;generalize fB(ar+1) lv 0(Bq.puts 24 0 0)=C at *;have hY:=fun wx ox' S X E=>HP y ak1 ck1(ar+1) wx ox' rb p0 p1 p2 p3 p4 lv C _(by omega) oy sy hlv hnc(by omega)(by omega) S kC zC(by omega) X E;simp only[ah] at hY;rw[show((ar+1:Nat):Int)=(ar:Int)+1 from rfl] at hY;have dE:=bQ lv y(ar+1) C;generalize deE lv y(ar+1) C=F at *;have zF:=dE.sz _ zC;have lF:F.lg=false->Bq.at1<F.ws.length:=dW(dC.trans dE);generalize hat:Bq.at1=iB at *;generalize hgl:Bq.ws.length=gB at *;have hLL:∀ wx ox',DW wx ox' rb p0 p1 p2 p3 p4 Bq->∃ao cap,wx.cell?⟨rb,8,none⟩=some(.slice ao gB cap):=fun wx ox' E=>by rw[<-hgl];exact E.ll
  have gA:=fun wx ox' E=>aS wx ox' rb p0 p1 p2 p3 p4 F 6 0 0 E;have z1:=(as F 6 0 0).sz _ zF;have gC:=fun wx ox' E=>bh wx ox' rb p0 p1 p2 p3 p4 _(-1) _ z1(by omega)(by omega) E;have dM:=la 4 gB F;generalize hM:mK 4 gB F=M at *;have hM2:((F.puts 6 0 0).grows(-1))=M:=hM;rw[hM2] at gC;have gG:=fun wx ox' E=>aS wx ox' rb p0 p1 p2 p3 p4 M 13 gB 0 E;have lM:(M.puts 13 gB 0).lg=false->iB<(M.puts 13 gB 0).ws.length:=fun hl=>Nat.lt_of_lt_of_le(lF(by cases hs:F.lg with|false=>rfl|true=>rw[(dM.trans(as M 13 gB 0)).lg hs] at hl;cases hl))(dM.trans(as M 13 gB 0)).w2;have gH:=fun wx ox' E=>db wx ox' rb p0 p1 p2 p3 p4(M.puts 13 gB 0) iB lM E;clear z1 dM lM lF zF dE zC dC dP;subst hn;rw[if_neg(by omega)];have hfin:mP 4 gB iB F=(M.puts 13 gB 0).lands iB:=by rw[<-hM];rfl
  rw[hfin];clear hfin hM hM2;clear hok ox oy sx sy hx4 hsk ho zA zB kB kC HP hat hgl l1 hlen E1 SN1;go_enter Tryz.func82,Tryz.ntmps82;go_upto_region 1 with fail;rw[<-hw1,<-HG.out];clear hw1;go_wp2_with fail;refine H1.mono ?_;rintro e w2⟨rfl,o2,E2,S2⟩;have T2:=T1.trans S2;clear S2 c0 c1 c2 c3 x0 x1 x2 x3 H1;obtain⟨c0,c1,c2,c3⟩:=KK.out _ _ T2;go_wp2_with fail;refine(hV w2 o2 E2).mono ?_;rintro e w3⟨rfl,o3,E3,S3⟩;have T3:=T2.trans S3;clear S3 c0 c1 c2 c3 hV;obtain⟨c0,c1,c2,c3⟩:=KK.out _ _ T3;obtain⟨l1,-⟩:=E3.cl;rw[hlf] at l1;obtain⟨al,cl,l8⟩:=hLL w3 o3 E3;go_wp2_with fail;refine(hP w3 o3 E3).mono ?_;rintro e w4⟨rfl,o4,E4,S4⟩;have T4:=T3.trans S4;clear S4 c0 c1 c2 c3 hP l1 l8;obtain⟨c0,c1,c2,c3⟩:=KK.out _ _ T4;go_wp2_with fail;refine(hC w4 o4(X1.step T4 aA) E4).mono ?_;rintro e w5⟨rfl,o5,E5,S5⟩;have T5:=T4.trans S5;clear S5 c0 c1 c2 c3 hC;obtain⟨c0,c1,c2,c3⟩:=KK.out _ _ T5;obtain⟨y0,y1,y2,y3⟩:Nd8 w5 b off y ak1 ck1:=NK1 T5 aA;have HY:=hY w5 o5(Sy.stepO T5 aA)(X1.step T5 aA) E5;go_wp2_with fail;refine HY.mono ?_;rintro e w6⟨rfl,o6,E6,S6⟩;have T6:=T5.trans S6;clear S6 c0 c1 c2 c3 y0 y1 y2 y3 HY hY;obtain⟨c0,c1,c2,c3⟩:=KK.out _ _ T6;go_wp2_with fail;refine(gA w6 o6 E6).mono ?_;rintro e w7⟨rfl,o7,E7,S7⟩;have T7:=T6.trans S7;clear S7 c0 c1 c2 c3 gA;obtain⟨c0,c1,c2,c3⟩:=KK.out _ _ T7;go_wp2_with fail;refine(gC w7 o7 E7).mono ?_;rintro e w8⟨rfl,o8,E8,S8⟩;have T8:=T7.trans S8;clear S8 c0 c1 c2 c3 gC;obtain⟨c0,c1,c2,c3⟩:=KK.out _ _ T8;go_wp2_with fail;refine(gG w8 o8 E8).mono ?_;rintro e w9⟨rfl,o9,E9,S9⟩;have T9:=T8.trans S9;clear S9 c0 c1 c2 c3 gG;obtain⟨c0,c1,c2,c3⟩:=KK.out _ _ T9;go_wp2_with fail;refine(gH w9 o9 E9).mono ?_;rintro e w10⟨rfl,o10,E10,S10⟩;have T10:=T9.trans S10;clear S10 c0 c1 c2 c3 gH;obtain⟨c0,c1,c2,c3⟩:=KK.out _ _ T10;go_wp2
  go_end0
  exact⟨rfl,o10,E10,S0.trans T10⟩
theorem Ar (K:Nat->Int)(nc N:Nat)(HP:eu K nc N)(n:Int)(nm:List UInt8)(a:Int)(x y:Ex)(ao:Option Addr)(cap ar:Nat)(w:World)(o:Nat->Nat)(rb:Nat)(p0 p1 p2 p3 p4:Value)(lv:List Int)(s:Dp)(m:Nat)(hn:n=5\/n=6)(hN:(Fs.ex x (Fs.ex y .nil)).size<=N)(ho:okE nc ⟨21,n,nm,a,(Fs.ex x (Fs.ex y .nil))⟩)(hsk:skF K (Fs.ex x (Fs.ex y .nil)) 21 0)(hlv:lv.length=nc)(hnc:nc<=256)(har:ar+(Fs.ex x (Fs.ex y .nil)).size<=1000000)(hsz:(Fs.ex x (Fs.ex y .nil)).size<=100000)(S:SnO w o (Fs.ex x (Fs.ex y .nil)) ao)(hks:s.ks.length=nc)(hz:s.sz m)(hm:m+(17*(Fs.ex x (Fs.ex y .nil)).size+16)<=100000000)(X:DX w o p4 lv)(h:DW w o rb p0 p1 p2 p3 p4 s) :
  Calls Tryz.prog 82 #[pt0 rb,exN⟨21,n,nm,a,(Fs.ex x(Fs.ex y .nil))⟩ ao cap,.int .i64(ar:Nat)] w(cH w o rb p0 p1 p2 p3 p4(iS lv n(deE lv x)(deE lv y) ar s)(.tuple #[])):=by
 have hok:=ho.2;simp only at hok;have ox:=(aK hok).1;have oy:=(aK(aK hok).2).1;have hx4:22<=x.k/\x.k<=25:=hsk.1.2⟨rfl,rfl⟩;have sx:=hsk.2.2.1;have sy:skE K y:=⟨fun hs=>absurd(hsk.2.2.2.1.1 hs).2(by omega),hsk.2.2.2.2.1,hsk.2.2.2.2.2.1⟩
 simp only[aV,Fs.size] at hN har hsz hm;obtain⟨w1,o1,g,hw1,HG,B1,E1,X1,SN1,S0⟩:=dn #[.int .i64 21,.int .i64 n,stv nm,.slice ao(Fs.ex x(Fs.ex y .nil)).len cap] h X S;have KK:=dl B1;obtain⟨c0,c1,c2,c3⟩:=KK.out _ _(aa.refl I17 w1 o1);obtain⟨l1,-⟩:=E1.cl;have T1:=aa.refl I17 w1 o1;clear B1 h X S;rw[ah];simp only;obtain⟨b,off,ak,ck,hao,NN,Sx,NK⟩:=dX(x:=.nil) SN1 0 rfl;obtain⟨b1,off1,ak1,ck1,hao1,NN1,Sy,NK1⟩:=dX(x:=one x) SN1 1 rfl;subst hao;injection hao1 with hao1
 injection hao1 with e1 e2
 subst e1 e2;have hlen:(Fs.ex x(Fs.ex y .nil)).len=2:=rfl;rw[hlen] at hw1 KK c3 ⊢;obtain⟨x0,x1,x2,x3⟩:Nd4 w1 b off x ak ck:=NN;have H1:=mC K nc N HP x.k x.n x.nm x.a x.kids ak ck ar w1 o1 rb p0 p1 p2 p3 p4 lv s m hx4(by omega) ox sx hlv hnc(by omega)(by omega) Sx hks hz(by omega) X1 E1;rw[<-jc hx4] at H1;rw[ah] at H1;have dA:=bQ lv x ar s;unfold iS
 dsimp only
 generalize deE lv x ar s=A at *;have zA:=dA.sz m hz;obtain⟨Bq,hBq⟩:∃Bq,Bq=eD n A:=⟨_,rfl⟩
 rw[<-hBq];have hB:Bq=((A.val 0 1).val 0 2):=by rw[hBq];rcases hn with rfl|rfl<;>rfl
 have dB:Dle 4 A Bq:=by rw[hBq];exact gU n A
 have zB:=dB.sz _ zA;have kB:Bq.ks.length=nc:=(dB.ks.trans dA.ks).trans hks;have hV:=fun wx ox' E=>du wx ox' rb p0 p1 p2 p3 p4 A 0 1 _ zA(by omega) E;have hV2:=fun wx ox' E=>du wx ox' rb p0 p1 p2 p3 p4(A.val 0 1) 0 2 _((bP A 0 1).sz _ zA)(by omega) E;rw[<-hB] at hV2;clear hBq dA dB hz hks;by_cases hlg:Bq.lg=true
 ·rw[if_pos hlg];have HP:=0;clear HP;clear Sx Sy NK NK1 NN1 hok ox oy sx sy hx4 hsk ho zA zB kB X1 SN1 l1 hlen E1;rcases hn with rfl|rfl
  all_goals
   go_enter Tryz.func82,Tryz.ntmps82;go_upto_region 1 with fail;rw[<-hw1,<-HG.out];clear hw1;go_wp2_with fail;refine H1.mono ?_;rintro e w2⟨rfl,o2,E2,S2⟩;have T2:=T1.trans S2;clear S2 c0 c1 c2 c3 x0 x1 x2 x3 H1;obtain⟨c0,c1,c2,c3⟩:=KK.out _ _ T2;go_wp2_with fail;refine(hV w2 o2 E2).mono ?_;rintro e w3⟨rfl,o3,E3,S3⟩;have T3:=T2.trans S3;clear S3 c0 c1 c2 c3 hV;obtain⟨c0,c1,c2,c3⟩:=KK.out _ _ T3;go_wp2_with fail;refine(hV2 w3 o3 E3).mono ?_;rintro e w4⟨rfl,o4,E4,S4⟩;have T4:=T3.trans S4;clear S4 c0 c1 c2 c3 hV2;obtain⟨c0,c1,c2,c3⟩:=KK.out _ _ T4;obtain⟨l1,-⟩:=E4.cl;rw[hlg] at l1;go_wp2
   go_end0
   exact⟨rfl,o4,E4,S0.trans T4⟩
 ·rw[if_neg hlg];have hlf:Bq.lg=false:=by simpa using hlg
  have hP:=fun wx ox' E=>aS wx ox' rb p0 p1 p2 p3 p4 Bq 24 0 0 E;have dP:=as Bq 24 0 0;have dC:=fa(ar+1) lv 0(Bq.puts 24 0 0);have zC:=dC.sz _(dP.sz _ zB);have kC:=(dC.ks.trans dP.ks).trans kB;have hC:=fun wx ox' X E=>gh ar wx ox' rb p0 p1 p2 p3 p4 lv(Bq.puts 24 0 0)(by omega)(by omega) X E;generalize fB(ar+1) lv 0(Bq.puts 24 0 0)=C at *;have hY:=fun wx ox' S X E=>HP y ak1 ck1(ar+1) wx ox' rb p0 p1 p2 p3 p4 lv C _(by omega) oy sy hlv hnc(by omega)(by omega) S kC zC(by omega) X E;simp only[ah] at hY;rw[show((ar+1:Nat):Int)=(ar:Int)+1 from rfl] at hY;have dE:=bQ lv y(ar+1) C;generalize deE lv y(ar+1) C=F at *;have zF:=dE.sz _ zC;have lF:F.lg=false->Bq.at1<F.ws.length:=dW(dC.trans dE);generalize hat:Bq.at1=iB at *;generalize hgl:Bq.ws.length=gB at *;have hLL:∀ wx ox',DW wx ox' rb p0 p1 p2 p3 p4 Bq->∃ao cap,wx.cell?⟨rb,8,none⟩=some(.slice ao gB cap):=fun wx ox' E=>by rw[<-hgl];exact E.ll
  obtain⟨v,hv⟩:∃v,v=(n-5).toNat:=⟨_,rfl⟩
  have gA:=fun wx ox' E=>aS wx ox' rb p0 p1 p2 p3 p4 F 26 v 0 E;have z1:=(as F 26 v 0).sz _ zF;have gC:=fun wx ox' E=>bh wx ox' rb p0 p1 p2 p3 p4 _(-1) _ z1(by omega)(by omega) E;have dM:=la n gB F;have hM2:((F.puts 26 v 0).grows(-1))=mK n gB F:=by rw[hv];rcases hn with rfl|rfl<;>rfl
  unfold mP
  dsimp only
  generalize mK n gB F=M at *;rw[hM2] at gC;clear hM2;have gG:=fun wx ox' E=>aS wx ox' rb p0 p1 p2 p3 p4 M 13 gB 0 E;have lM:(M.puts 13 gB 0).lg=false->iB<(M.puts 13 gB 0).ws.length:=fun hl=>Nat.lt_of_lt_of_le(lF(by cases hs:F.lg with|false=>rfl|true=>rw[(dM.trans(as M 13 gB 0)).lg hs] at hl;cases hl))(dM.trans(as M 13 gB 0)).w2;have gH:=fun wx ox' E=>db wx ox' rb p0 p1 p2 p3 p4(M.puts 13 gB 0) iB lM E;have gI:=fun wx ox' E=>aS wx ox' rb p0 p1 p2 p3 p4((M.puts 13 gB 0).lands iB) 27 0 0 E;have z9:=(as _ 27 0 0).sz _((aY _ iB).sz _((as M 13 gB 0).sz _(dM.sz _ zF)));have gJ:=fun wx ox' E=>bh wx ox' rb p0 p1 p2 p3 p4 _(-1) _ z9(by omega)(by omega) E;clear z9;clear z1 dM lM lF zF dE zC dC dP;rw[if_neg(show ¬(n=1\/n=2) by omega),if_pos(show 5<=n by omega)];clear hok ox oy sx sy hx4 hsk ho zA zB kB kC HP hat hgl l1 hlen E1 SN1;have hv1:(v:Int)=n-5:=by omega
  rcases hn with rfl|rfl
  ·obtain rfl:v=0:=by omega
   clear hv1 hv;go_enter Tryz.func82,Tryz.ntmps82;go_upto_region 1 with fail;rw[<-hw1,<-HG.out];clear hw1;go_wp2_with fail;refine H1.mono ?_;rintro e w2⟨rfl,o2,E2,S2⟩;have T2:=T1.trans S2;clear S2 c0 c1 c2 c3 x0 x1 x2 x3 H1;obtain⟨c0,c1,c2,c3⟩:=KK.out _ _ T2;go_wp2_with fail;refine(hV w2 o2 E2).mono ?_;rintro e w3⟨rfl,o3,E3,S3⟩;have T3:=T2.trans S3;clear S3 c0 c1 c2 c3 hV;obtain⟨c0,c1,c2,c3⟩:=KK.out _ _ T3;go_wp2_with fail;refine(hV2 w3 o3 E3).mono ?_;rintro e w4⟨rfl,o4,E4,S4⟩;have T4:=T3.trans S4;clear S4 c0 c1 c2 c3 hV2;obtain⟨c0,c1,c2,c3⟩:=KK.out _ _ T4;obtain⟨l1,-⟩:=E4.cl;rw[hlf] at l1;obtain⟨al,cl,l8⟩:=hLL w4 o4 E4;go_wp2_with fail;refine(hP w4 o4 E4).mono ?_;rintro e w5⟨rfl,o5,E5,S5⟩;have T5:=T4.trans S5;clear S5 c0 c1 c2 c3 hP l1 l8;obtain⟨c0,c1,c2,c3⟩:=KK.out _ _ T5;go_wp2_with fail;refine(hC w5 o5(X1.step T5 aA) E5).mono ?_;rintro e w6⟨rfl,o6,E6,S6⟩;have T6:=T5.trans S6;clear S6 c0 c1 c2 c3 hC;obtain⟨c0,c1,c2,c3⟩:=KK.out _ _ T6;obtain⟨y0,y1,y2,y3⟩:Nd8 w6 b off y ak1 ck1:=NK1 T6 aA;have HY:=hY w6 o6(Sy.stepO T6 aA)(X1.step T6 aA) E6;go_wp2_with fail;refine HY.mono ?_;rintro e w7⟨rfl,o7,E7,S7⟩;have T7:=T6.trans S7;clear S7 c0 c1 c2 c3 y0 y1 y2 y3 HY hY;obtain⟨c0,c1,c2,c3⟩:=KK.out _ _ T7;go_wp2_with fail;refine(gA w7 o7 E7).mono ?_;rintro e w8⟨rfl,o8,E8,S8⟩;have T8:=T7.trans S8;clear S8 c0 c1 c2 c3 gA;obtain⟨c0,c1,c2,c3⟩:=KK.out _ _ T8;go_wp2_with fail;refine(gC w8 o8 E8).mono ?_;rintro e w9⟨rfl,o9,E9,S9⟩;have T9:=T8.trans S9;clear S9 c0 c1 c2 c3 gC;obtain⟨c0,c1,c2,c3⟩:=KK.out _ _ T9;go_wp2_with fail;refine(gG w9 o9 E9).mono ?_;rintro e w10⟨rfl,o10,E10,S10⟩;have T10:=T9.trans S10;clear S10 c0 c1 c2 c3 gG;obtain⟨c0,c1,c2,c3⟩:=KK.out _ _ T10;go_wp2_with fail;refine(gH w10 o10 E10).mono ?_;rintro e w11⟨rfl,o11,E11,S11⟩;have T11:=T10.trans S11;clear S11 c0 c1 c2 c3 gH;obtain⟨c0,c1,c2,c3⟩:=KK.out _ _ T11;go_wp2_with fail;refine(gI w11 o11 E11).mono ?_;rintro e w12⟨rfl,o12,E12,S12⟩;have T12:=T11.trans S12;clear S12 c0 c1 c2 c3 gI;obtain⟨c0,c1,c2,c3⟩:=KK.out _ _ T12;go_wp2_with fail;refine(gJ w12 o12 E12).mono ?_;rintro e w13⟨rfl,o13,E13,S13⟩;have T13:=T12.trans S13;clear S13 c0 c1 c2 c3 gJ;obtain⟨c0,c1,c2,c3⟩:=KK.out _ _ T13;go_wp2
   go_end0
   exact⟨rfl,o13,E13,S0.trans T13⟩
  ·obtain rfl:v=1:=by omega
   clear hv1 hv;go_enter Tryz.func82,Tryz.ntmps82;go_upto_region 1 with fail;rw[<-hw1,<-HG.out];clear hw1;go_wp2_with fail;refine H1.mono ?_;rintro e w2⟨rfl,o2,E2,S2⟩;have T2:=T1.trans S2;clear S2 c0 c1 c2 c3 x0 x1 x2 x3 H1;obtain⟨c0,c1,c2,c3⟩:=KK.out _ _ T2;go_wp2_with fail;refine(hV w2 o2 E2).mono ?_;rintro e w3⟨rfl,o3,E3,S3⟩;have T3:=T2.trans S3;clear S3 c0 c1 c2 c3 hV;obtain⟨c0,c1,c2,c3⟩:=KK.out _ _ T3;go_wp2_with fail;refine(hV2 w3 o3 E3).mono ?_;rintro e w4⟨rfl,o4,E4,S4⟩;have T4:=T3.trans S4;clear S4 c0 c1 c2 c3 hV2;obtain⟨c0,c1,c2,c3⟩:=KK.out _ _ T4;obtain⟨l1,-⟩:=E4.cl;rw[hlf] at l1;obtain⟨al,cl,l8⟩:=hLL w4 o4 E4;go_wp2_with fail;refine(hP w4 o4 E4).mono ?_;rintro e w5⟨rfl,o5,E5,S5⟩;have T5:=T4.trans S5;clear S5 c0 c1 c2 c3 hP l1 l8;obtain⟨c0,c1,c2,c3⟩:=KK.out _ _ T5;go_wp2_with fail;refine(hC w5 o5(X1.step T5 aA) E5).mono ?_;rintro e w6⟨rfl,o6,E6,S6⟩;have T6:=T5.trans S6;clear S6 c0 c1 c2 c3 hC;obtain⟨c0,c1,c2,c3⟩:=KK.out _ _ T6;obtain⟨y0,y1,y2,y3⟩:Nd8 w6 b off y ak1 ck1:=NK1 T6 aA;have HY:=hY w6 o6(Sy.stepO T6 aA)(X1.step T6 aA) E6;go_wp2_with fail;refine HY.mono ?_;rintro e w7⟨rfl,o7,E7,S7⟩;have T7:=T6.trans S7;clear S7 c0 c1 c2 c3 y0 y1 y2 y3 HY hY;obtain⟨c0,c1,c2,c3⟩:=KK.out _ _ T7;go_wp2_with fail;refine(gA w7 o7 E7).mono ?_;rintro e w8⟨rfl,o8,E8,S8⟩;have T8:=T7.trans S8;clear S8 c0 c1 c2 c3 gA;obtain⟨c0,c1,c2,c3⟩:=KK.out _ _ T8;go_wp2_with fail;refine(gC w8 o8 E8).mono ?_;rintro e w9⟨rfl,o9,E9,S9⟩;have T9:=T8.trans S9;clear S9 c0 c1 c2 c3 gC;obtain⟨c0,c1,c2,c3⟩:=KK.out _ _ T9;go_wp2_with fail;refine(gG w9 o9 E9).mono ?_;rintro e w10⟨rfl,o10,E10,S10⟩;have T10:=T9.trans S10;clear S10 c0 c1 c2 c3 gG;obtain⟨c0,c1,c2,c3⟩:=KK.out _ _ T10;go_wp2_with fail;refine(gH w10 o10 E10).mono ?_;rintro e w11⟨rfl,o11,E11,S11⟩;have T11:=T10.trans S11;clear S11 c0 c1 c2 c3 gH;obtain⟨c0,c1,c2,c3⟩:=KK.out _ _ T11;go_wp2_with fail;refine(gI w11 o11 E11).mono ?_;rintro e w12⟨rfl,o12,E12,S12⟩;have T12:=T11.trans S12;clear S12 c0 c1 c2 c3 gI;obtain⟨c0,c1,c2,c3⟩:=KK.out _ _ T12;go_wp2_with fail;refine(gJ w12 o12 E12).mono ?_;rintro e w13⟨rfl,o13,E13,S13⟩;have T13:=T12.trans S13;clear S13 c0 c1 c2 c3 gJ;obtain⟨c0,c1,c2,c3⟩:=KK.out _ _ T13;go_wp2
   go_end0
   exact⟨rfl,o13,E13,S0.trans T13⟩
theorem jO:∀ (f g:Fs),cX f g=true->kdF f=kdF g
 | ⟨none⟩,⟨none⟩,_=>rfl
 | ⟨none⟩,⟨some⟨k',n',nm',a',ks',r'⟩⟩,h=>by cases h
 | ⟨some⟨k,n,nm,a,ks,r⟩⟩,⟨none⟩,h=>by cases h
 | ⟨some⟨k,n,nm,a,ks,r⟩⟩,⟨some⟨k',n',nm',a',ks',r'⟩⟩,h=>by
  simp only[cX,Bool.and_eq_true,beq_iff_eq] at h;obtain⟨⟨⟨⟨h1,h2⟩,h3⟩,h4⟩,h5⟩:=h;simp only[kdF,h1,h2,jO ks ks' h4,jO r r' h5]
theorem vp {x y:Ex}(h:bC x y=true):kdE x=kdE y:=by
 unfold bC at h;simp only[Bool.and_eq_true,beq_iff_eq] at h;obtain⟨⟨⟨h1,h2⟩,h3⟩,h4⟩:=h;simp only[kdE,h1,h2,jO _ _ h4]
theorem kO (kd:List Int)(i:Nat):wkP kd i≠4:=by
 unfold wkP;cases kd[i]? with
 | none=>simp
 | some v=>simp only;split<;>omega
theorem lX {k n:Int}{kd:List Int}:(aZ k n kd).2=4 ↔ (22<=k/\k<=25):=by
 have h0:=kO kd 0;have h1:=kO kd 1;by_cases hs:22<=k/\k<=25
 ·have hc:k=22\/k=23\/k=24\/k=25:=by omega
  rcases hc with rfl|rfl|rfl|rfl<;>simp[aZ]
 ·refine⟨fun h=>?_,fun h=>absurd h hs⟩;exfalso;unfold aZ at h;generalize wkP kd 0=a at h h0;generalize wkP kd 1=b at h h1;by_cases e1:k=1
  ·rw[if_pos e1] at h;cases h
  rw[if_neg e1] at h;by_cases e2:k=2
  ·rw[if_pos e2] at h;cases h
  rw[if_neg e2] at h;by_cases e3:k=3\/k=5
  ·rw[if_pos e3] at h;cases h
  rw[if_neg e3] at h;by_cases e6:k=6
  ·rw[if_pos e6] at h;cases h
  rw[if_neg e6] at h;by_cases e7:k=7
  ·rw[if_pos e7] at h;cases h
  rw[if_neg e7] at h;by_cases e8:8<=k/\k<=12
  ·rw[if_pos e8] at h;cases h
  rw[if_neg e8] at h;by_cases e15:k=15\/k=16
  ·rw[if_pos e15] at h;cases h
  rw[if_neg e15] at h;by_cases e17:k=17\/k=18
  ·rw[if_pos e17] at h;cases h
  rw[if_neg e17] at h;by_cases e13:k=13\/k=14
  ·rw[if_pos e13] at h;cases h
  rw[if_neg e13] at h;by_cases e19:k=19
  ·rw[if_pos e19] at h;exact h1 h
  rw[if_neg e19] at h;by_cases e20:k=20
  ·rw[if_pos e20] at h;split at h
   ·cases h
   split at h
   ·cases h
   split at h<;>cases h
  rw[if_neg e20] at h;by_cases e21:k=21
  ·rw[if_pos e21] at h;split at h
   ·cases h
   split at h<;>cases h
  rw[if_neg e21] at h;by_cases e26:k=26
  ·rw[if_pos e26] at h;exact h0 h
  rw[if_neg e26,if_neg(by omega),if_neg(by omega),if_neg(by omega)] at h;cases h
theorem uv {k n:Int}{kd:List Int}(hk:k≠21):∀ v ∈ (aZ k n kd).1,v≠4:=by
 have w0:=kO kd 0;have w1:=kO kd 1;unfold aZ;generalize wkP kd 0=a at w0 ⊢;generalize wkP kd 1=b at w1 ⊢;intro v hv h4;subst h4;by_cases e0:k=1
 ·rw[if_pos e0] at hv;simp at hv
 rw[if_neg e0] at hv;by_cases e1:k=2
 ·rw[if_pos e1] at hv;simp at hv
 rw[if_neg e1] at hv;by_cases e2:k=3\/k=5
 ·rw[if_pos e2] at hv;simp at hv
 rw[if_neg e2] at hv;by_cases e3:k=6
 ·rw[if_pos e3] at hv;simp at hv
 rw[if_neg e3] at hv;by_cases e4:k=7
 ·rw[if_pos e4] at hv;simp at hv
 rw[if_neg e4] at hv;by_cases e5:8<=k/\k<=12
 ·rw[if_pos e5] at hv;simp at hv
 rw[if_neg e5] at hv;by_cases e6:k=15\/k=16
 ·rw[if_pos e6] at hv;simp at hv
 rw[if_neg e6] at hv;by_cases e7:k=17\/k=18
 ·rw[if_pos e7] at hv;simp at hv
 rw[if_neg e7] at hv;by_cases e8:k=13\/k=14
 ·rw[if_pos e8] at hv;simp at hv;omega
 rw[if_neg e8] at hv;by_cases e9:k=19
 ·rw[if_pos e9] at hv;simp at hv;omega
 rw[if_neg e9] at hv;by_cases e20:k=20
 ·rw[if_pos e20] at hv;split at hv
  ·simp at hv
  split at hv
  ·simp at hv
  split at hv<;>simp at hv
 rw[if_neg e20,if_neg hk] at hv;by_cases e26:k=26
 ·rw[if_pos e26] at hv;simp at hv;omega
 rw[if_neg e26] at hv;by_cases e22:k=22\/k=23
 ·rw[if_pos e22] at hv;simp at hv
 rw[if_neg e22] at hv;by_cases e24:k=24
 ·rw[if_pos e24] at hv;simp at hv
 rw[if_neg e24] at hv;by_cases e25:k=25
 ·rw[if_pos e25] at hv;simp at hv
 rw[if_neg e25] at hv;simp at hv
theorem lA {k n:Int}{kd:List Int}(h:(aZ k n kd).1=kd)(h0:(aZ k n kd).2≠0)(j:Nat)(v:Int)(hv:kd[j]?=some v):v=4 ↔ (k=21/\j=0):=by
 rw[<-h] at hv;by_cases hk:k=21
 ·subst hk;unfold aZ at hv;simp at hv;by_cases n1:n=1\/n=2
  ·rw[if_pos n1] at hv;rcases j with _|_|j<;>simp at hv<;>omega
  ·rw[if_neg n1] at hv;by_cases n3:n=3
   ·rw[if_pos n3] at hv;rcases j with _|_|j<;>simp at hv<;>omega
   ·rw[if_neg n3] at hv;rcases j with _|_|j<;>simp at hv<;>omega
 ·have:=uv hk v(List.mem_of_getElem? hv)
  constructor
  ·intro e;exact absurd e this
  ·intro e;exact absurd e.1 hk
theorem AB {cells:List Int}:∀ (f:Fs) (pk:Int) (i ar wi:Nat) (s s':Rg) (kd:List Int),rgF cells f pk i ar wi s=some (s',kd)->∀ x r,f=Fs.ex x r->∃s2 k rest,rgE cells x (aL pk i ar wi).1 (aL pk i ar wi).2 s=some (s2,k)/\rgF cells r pk (i+1) ar wi s2=some (s',rest)/\kd=k::rest:=by
 intro f pk i ar wi s s' kd h x r hf;subst hf;rw[eI] at h;cases hx:rgE cells x(aL pk i ar wi).1(aL pk i ar wi).2 s with
 | none=>rw[hx] at h;cases h
 | some z =>
  obtain⟨s2,k⟩:=z;rw[hx] at h;simp only at h;cases hq:rgF cells r pk(i+1) ar wi s2 with
  | none=>rw[hq] at h;cases h
  | some z =>
   obtain⟨s3,rest⟩:=z;rw[hq] at h;injection h with h
   injection h with h1 h2
   subst h1;exact⟨s2,k,rest,rfl,hq,h2.symm⟩
theorem vN {cells:List Int}{n:Int}{ks:Fs}{ar:Nat}{s s':Rg}(h:cT cells n ks ar s=some s'):(s.2 n.toNat=none/\s'.2=fun i=>if i=n.toNat then some ks.head else s.2 i)\/(∃x,s.2 n.toNat=some x/\bC x ks.head=true/\s'=s):=by
 unfold cT at h;split at h
 ·cases h
 ·split at h
  ·cases h
  ·split at h
   ·rename_i h1
    injection h with h;subst h
    exact .inl⟨h1,rfl⟩
   ·rename_i x h1
    split at h
    ·rename_i h2
     injection h with h;subst h
     exact .inr⟨x,h1,h2,rfl⟩
    ·cases h
structure Kgo (s s':Rg):Prop where
 up:∀ i x,s.2 i=some x->s'.2 i=some x
 pos:(∀ i x,s.2 i=some x->1<=kdE x)->∀ i x,s'.2 i=some x->1<=kdE x
theorem Kgo.refl (s:Rg):Kgo s s:=⟨fun _ _ h=>h,fun h=>h⟩
theorem Kgo.trans {a b c:Rg}(h:Kgo a b)(k:Kgo b c):Kgo a c:=⟨fun i x q=>k.up i x (h.up i x q),fun q=>k.pos (h.pos q)⟩
theorem pC {cells:List Int}{n:Int}{ks:Fs}{ar:Nat}{s s':Rg}(h:cT cells n ks ar s=some s')(hp:1<=kdE ks.head):Kgo s s'/\∃x,s'.2 n.toNat=some x/\kdE x=kdE ks.head:=by
 rcases vN h with⟨h1,h2⟩|⟨x,h1,h2,rfl⟩
 ·refine⟨⟨fun i x q=>?_,fun q i x hx=>?_⟩,ks.head,by rw[h2];simp,rfl⟩
  ·rw[h2];simp only;rw[if_neg(by rintro rfl;rw[h1] at q;cases q)];exact q
  ·rw[h2] at hx;simp only at hx;split at hx
   ·injection hx with hx;subst hx;exact hp
   ·exact q i x hx
 ·exact⟨Kgo.refl _,x,h1,vp h2⟩
theorem sQ {ks:Fs}(h:ks.len=1):(kdF ks).getD 0 0=kdE ks.head:=by
 obtain⟨v⟩:=ks;cases v with
 | none=>simp[Fs.len] at h
 | some z=>obtain⟨k,n,nm,a,ks,r⟩:=z;simp[kdF,Fs.head,kdE]
theorem tT {nc:Nat}{ks:Fs}(h:ks.len=1)(ho:okF nc ks):okE nc ks.head:=by
 obtain⟨v⟩:=ks;cases v with
 | none=>simp[Fs.len] at h
 | some z=>obtain⟨k,n,nm,a,ks,r⟩:=z;exact⟨ho.1,ho.2.1⟩
theorem By {n:Int}{nm:List UInt8}{len:Nat}(h:aD 26 n nm len=true):len=1:=by
 unfold aD at h;simp at h;exact h.2
theorem yD (cells:List Int)(nc:Nat):∀ (f:Fs) (pk:Int) (i ar wi:Nat) (s s':Rg) (kd:List Int),okF nc f->rgF cells f pk i ar wi s=some (s',kd) ->
  Kgo s s'/\∀ K:Nat->Int,(∀ i x,s'.2 i=some x->kdE x=K i)->(∀ j v,kd[j]?=some v->(v=4 ↔ (pk=21/\i+j=0)))->skF K f pk i
 | ⟨none⟩,pk,i,ar,wi,s,s',kd,ho,h=>by
  simp only[rgF] at h;injection h with h
  injection h with h1 h2
  subst h1;exact⟨Kgo.refl _,fun _ _ _=>trivial⟩
 | ⟨some⟨k,n,nm,a,ks,r⟩⟩,pk,i,ar,wi,s,s',kd,ho,h=>by
  obtain⟨s2,k2,rest,hx,hr,rfl⟩:=AB _ pk i ar wi s s' kd h⟨k,n,nm,a,ks⟩ r rfl;obtain⟨hg,s1,kd1,hk,hl,h0,h1,h2,h3⟩:=dv hx;simp only at hk hl h0 h1 h2 h3;obtain⟨g1,f1⟩:=yD cells nc ks k 0 _ _ _ _ _ ho.2.1 hk;obtain⟨g3,f3⟩:=yD cells nc r pk(i+1) ar wi _ _ _ ho.2.2 hr;have g1':Kgo s s1:=⟨fun i x q=>g1.up i x q,fun q=>g1.pos q⟩
  have g2:Kgo s1 s2/\(k=26->∃x,s2.2 n.toNat=some x/\kdE x=(kdF ks).getD 0 0):=by
   by_cases e:k=26
   ·rw[if_pos e] at h3;subst e;have hl1:=By ho.1.1;have hp:=(iR(tT hl1 ho.2.1)).1;obtain⟨a1,x,a2,a3⟩:=pC h3 hp;exact⟨a1,fun _=>⟨x,a2,by rw[a3,sQ hl1]⟩⟩
   ·rw[if_neg e] at h3;injection h3 with h3
    subst h3;exact⟨Kgo.refl _,fun h=>absurd h e⟩
  refine⟨(g1'.trans g2.1).trans g3,fun K hK hv=>⟨?_,fun e=>?_,?_,?_⟩⟩
  ·have:=hv 0 k2 rfl
   rw[h2,lX] at this;simpa using this
  ·obtain⟨x,a1,a2⟩:=g2.2 e;rw[<-a2];exact hK _ _(g3.up _ _ a1)
  ·exact f1 K(fun i x q=>hK i x(g3.up i x(g2.1.up i x q)))(fun j v q=>by have:=lA h1 h0 j v q;simpa using this)
  ·exact f3 K hK(fun j v q=>by have:=hv(j+1) v q;rw[this];omega)
theorem DV {nc:Nat}{cells:List Int}{e:Ex}(h:bO cells e≠0)(ho:okE nc e):∃K:Nat->Int,(∀ i,1<=K i)/\skE K e:=by
 obtain⟨-,-,s,hx,h4⟩:=jP h;obtain⟨hg,s1,kd,hk,hl,h0,h1,h2,h3⟩:=dv hx;obtain⟨g1,f1⟩:=yD cells nc e.kids e.k 0 _ _ _ _ _ ho.2 hk;have g1':Kgo(0,fun _=>none) s1:=⟨fun i x q=>g1.up i x q,fun q=>g1.pos q⟩
 have g2:Kgo s1 s/\(e.k=26->∃x,s.2 e.n.toNat=some x/\kdE x=(kdF e.kids).getD 0 0):=by
  by_cases ek:e.k=26
  ·rw[if_pos ek] at h3;have hl1:e.kids.len=1:=by
    have:=ho.1.1
    rw[ek] at this;exact By this
   have hp:=(iR(tT hl1 ho.2)).1;obtain⟨a1,x,a2,a3⟩:=pC h3 hp;exact⟨a1,fun _=>⟨x,a2,by rw[a3,sQ hl1]⟩⟩
  ·rw[if_neg ek] at h3;injection h3 with h3
   subst h3;exact⟨Kgo.refl _,fun h=>absurd h ek⟩
 have hpos:=(g1'.trans g2.1).pos(fun i x q=>by cases q)
 let K:Nat->Int:=fun i=>match s.2 i with|none=>1|some x=>kdE x
 have hK:∀ i x,s.2 i=some x->kdE x=K i:=fun i x q=>by simp only[K];rw[q]
 refine⟨K,fun i=>?_,?_,fun ek=>?_,?_⟩
 ·simp only[K];cases hs:s.2 i with
  | none=>simp
  | some x=>exact hpos i x hs
 ·rw[<-lX(n:=e.n)(kd:=kd),<-h2];exact h4
 ·obtain⟨x,a1,a2⟩:=g2.2 ek;rw[<-a2];exact hK _ _ a1
 ·exact f1 K(fun i x q=>hK i x(g2.1.up i x q))(fun j v q=>by have:=lA h1 h0 j v q;simpa using this)
theorem Ce (K:Nat->Int)(nc N:Nat)(HP:eu K nc N)(n:Int)(nm:List UInt8)(a:Int)(x:Ex)(ao:Option Addr)(cap ar:Nat)(w:World)(o:Nat->Nat)(rb:Nat)(p0 p1 p2 p3 p4:Value)(lv:List Int)(s:Dp)(m:Nat)(hN:(Fs.ex x .nil).size<=N)(ho:okE nc ⟨26,n,nm,a,(Fs.ex x .nil)⟩)(hsk:skF K (Fs.ex x .nil) 26 0)(hlv:lv.length=nc)(hnc:nc<=256)(har:ar+(Fs.ex x .nil).size<=1000000)(hsz:(Fs.ex x .nil).size<=100000)(S:SnO w o (Fs.ex x .nil) ao)(hks:s.ks.length=nc)(hz:s.sz m)(hm:m+(17*(Fs.ex x .nil).size+16)<=100000000)(X:DX w o p4 lv)(h:DW w o rb p0 p1 p2 p3 p4 s) :
  Calls Tryz.prog 81 #[pt0 rb,exN⟨26,n,nm,a,(Fs.ex x .nil)⟩ ao cap,.int .i64(ar:Nat)] w(cH w o rb p0 p1 p2 p3 p4(sG n.toNat(kdE x)(deE lv x) ar s)(.tuple #[])):=by
 have hok:=ho.2;simp only at hok;have ox:=(aK hok).1;have hn:0<=n/\n<(nc:Int):=ho.1.2.2.1 rfl;obtain⟨n0,hn0⟩:∃n0:Nat,(n0:Int)=n:=⟨n.toNat,by omega⟩
 subst hn0;rw[Int.toNat_natCast];have sx:skE K x:=gV(by omega) hsk;have hkx:=iR ox;simp only[aV,Fs.size] at hN har hsz hm;obtain⟨w1,o1,g,hw1,HG,B1,E1,X1,SN1,S0⟩:=dn #[.int .i64 26,.int .i64(n0:Nat),stv nm,.slice ao(Fs.ex x .nil).len cap] h X S;have KK:=dl B1;obtain⟨c0,c1,c2,c3⟩:=KK.out _ _(aa.refl I17 w1 o1);obtain⟨l1,-⟩:=E1.cl;have T1:=aa.refl I17 w1 o1;clear B1 h X S;rw[ah];simp only;obtain⟨b,off,ak,ck,hao,NN,Sx,NK⟩:=dX(x:=.nil) SN1 0 rfl;subst hao;have hlen:(Fs.ex x .nil).len=1:=rfl;rw[hlen] at hw1 KK c3 ⊢;have HKO:=fun w2(S2:SnA w2 x.kids ak)=>sJ K nc(N+1) x ak ck w2(by omega) ox sx S2;rw[ah] at HKO;obtain⟨Cq,hCq⟩:∃Cq,Cq=s.cel n0(kdE x):=⟨_,rfl⟩
 have dC:=nQ s n0(kdE x);rw[<-hCq] at dC;have zC:=dC.sz m hz;have kC:=dC.ks.trans hks;have hP:=fun wx ox' E=>aS wx ox' rb p0 p1 p2 p3 p4 Cq 17 n0 0 E;have dP:=as Cq 17 n0 0;have zP:=dP.sz _ zC;have hY:=fun wx ox' S X E=>HP x ak ck ar wx ox' rb p0 p1 p2 p3 p4 lv(Cq.puts 17 n0 0) _(by omega) ox sx hlv hnc(by omega)(by omega) S(dP.ks.trans kC) zP(by omega) X E;simp only[ah] at hY;have dF:=bQ lv x ar(Cq.puts 17 n0 0);have hgo:sG n0(kdE x)(deE lv x) ar s=((deE lv x ar(Cq.puts 17 n0 0)).puts 18 n0 0).lands Cq.at1:=by rw[hCq];rfl
 rw[hgo];clear hgo;generalize deE lv x ar(Cq.puts 17 n0 0)=F at *;have hQ:=fun wx ox' E=>aS wx ox' rb p0 p1 p2 p3 p4 F 18 n0 0 E;have lF:(F.puts 18 n0 0).lg=false->Cq.at1<(F.puts 18 n0 0).ws.length:=dW(dF.trans(as F 18 n0 0));generalize hat:Cq.at1=iC at *;have hR:=fun wx ox' E=>db wx ox' rb p0 p1 p2 p3 p4(F.puts 18 n0 0) iC lF E;have h7:=E1;obtain⟨wl,vc,vn,vk,vw,q0,q1,q2,q3,q4⟩:=E1;obtain⟨gk,capk,rfl,ogk,-,-,hgl,hck,hfk⟩:=q4.pos(by omega);have hne1:rb≠gk:=fun e=>by have:=q0.2;rw[e,ogk] at this;cases this
 have hn0:n0<s.ks.length:=by omega
 have r7:=(bT q0.1).1.2.2.2.1;have rz:w1.cell?⟨gk,n0,none⟩=some(.int .i64(s.ks.getD n0 0)):=by
  rw[hck n0(by omega)];simp[eiV,hn0,List.getD_eq_getElem?_getD]
 have hnI:(n0:Int)<(s.ks.length:Int):=by omega
 obtain⟨kx,hkk⟩:∃kx,kx=kdE x:=⟨_,rfl⟩
 by_cases h0:s.ks.getD n0 0=0
 ·have hC2:Cq={ s with ks:=s.ks.set n0 kx }:=by rw[hCq,hkk];unfold Dp.cel;rw[if_pos h0]
  rw[h0] at rz;have HS:Hid(∀ w2,Below w1.heap.size w1 w2->DW(w2.setCell⟨gk,n0,none⟩(.int .i64 kx)) o1 rb p0 p1 p2 p3 p4 Cq/\aa I17 w1 o1(w2.setCell⟨gk,n0,none⟩(.int .i64 kx)) o1):=fun w2 B=>by
   have x0:=aa.ofBelow(I:=fun _=>False) o1 B;have x1:aa(fun k=>k=5) w1 o1(w2.setCell⟨gk,n0,none⟩(.int .i64 kx)) o1:=(aa.ofBelow o1 B).setCell⟨gk,n0,none⟩ _ ogk;rw[hC2];refine⟨⟨wl,_,_,_,_,q0.step x1(by decide),q1.step x1(by decide),q2.step x1(by decide),q3.step x1(by decide),?_⟩,x1.mono(cC(by decide))⟩;have r:=(q4.step x0 id).store n0(.int .i64 kx);have e2:eiV(s.ks.set n0 kx)=(eiV s.ks).set n0(.int .i64 kx):=by simp[eiV]
   have e3:(s.ks.set n0 kx).length=s.ks.length:=by simp
   simp only[e2,e3];exact r
  have FZ:Hid(∀ w2,Below w1.heap.size w1 w2->w2.cell?⟨rb,7,none⟩=some(.slice(some⟨gk,0,none⟩) s.ks.length capk)/\(∃v,w2.cell?⟨gk,n0,none⟩=some v)/\w2.frozen?⟨gk,n0,none⟩=false):=fun w2 B=>by
   refine⟨(B.cell(p:=⟨rb,7,none⟩) q0.lt).trans r7,⟨.int .i64 0,?_⟩,?_⟩
   ·rw[B.cell(p:=⟨gk,n0,none⟩) hgl];exact rz
   ·have e:=B.block gk hgl
    have:=hfk n0
    unfold World.frozen? at this ⊢;rw[e];exact this
  rw[<-hkk] at HKO;have HNK:Hid(∀ w' o',aa I17 w1 o1 w' o'->Nd4 w' b off x ak ck):=fun w' o' T=>NK T aA;clear hCq hC2 q0 q1 q2 q3 q4 hck hfk dC zC kC dP zP dF hat h7 hz hks l1 hn ho hok hsk HP SN1 NN lF wl hkk h0 hlen;go_enter Tryz.func81,Tryz.ntmps81;go_upto_region 1 with fail;rw[<-hw1,<-HG.out];clear hw1;have BD:∀ q,Below w1.heap.size w1(w1.drewN q):=fun q=>⟨rfl,rfl,rfl,Nat.le_refl _,fun _ _=>rfl⟩
  go_quiet(fail)
  have BD:=BD nq;generalize w1.drewN nq=wd at *;clear c0 c1 c2 c3 r7 rz;obtain⟨c0,c1,c2,c3⟩:=KK.out _ _(aa.ofBelow(I:=I17) o1 BD);obtain⟨r7,⟨vz2,rz0⟩,rf⟩:=FZ.out wd BD;obtain⟨x0,x1,x2,x3⟩:=HNK.out _ _(aa.ofBelow(I:=I17) o1 BD);have BD2:=BD.drew;obtain⟨d0,d1,d2,d3⟩:=KK.out _ _(aa.ofBelow(I:=I17) o1 BD2);obtain⟨u7,⟨uz,ur⟩,uf⟩:=FZ.out wd.drew BD2;obtain⟨y0,y1,y2,y3⟩:=HNK.out _ _(aa.ofBelow(I:=I17) o1 BD2);have HK:=HKO wd.drew(Sx.all.below BD2);clear HKO;go_upto_region 2 with fail;go_region_held3(fun wx=>wx.cell?⟨g,1,none⟩=some(.int .i64(n0:Nat))/\wx.cell?⟨g,3,none⟩=some(.slice(some⟨b,off,none⟩) 1 cap)/\wx.cell?⟨rb,7,none⟩=some(.slice(some⟨gk,0,none⟩) s.ks.length capk)/\(wx.cell?⟨b,off,none⟩=some(.int .i64 x.k)/\wx.cell?⟨b,off+1,none⟩=some(.int .i64 x.n)/\wx.cell?⟨b,off+2,none⟩=some(stv x.nm)/\wx.cell?⟨b,off+3,none⟩=some(.slice ak x.kids.len ck)))(go_keep)(first|(go_at_call 137;refine HK.mono ?_;rintro e w2⟨rfl,B2⟩;have BB2:=BD2.trans(B2.mono BD2.size);obtain⟨e0,e1,e2,e3⟩:=KK.out _ _(aa.ofBelow(I:=I17) o1 BB2);obtain⟨t7,⟨tz,tr⟩,tf⟩:=FZ.out w2 BB2;obtain⟨z0,z1,z2,z3⟩:=HNK.out _ _(aa.ofBelow(I:=I17) o1 BB2);obtain⟨m0,m1,m2,m3⟩:=KK.out _ _(HS.out w2 BB2).2;obtain⟨v0,v1,v2,v3⟩:=HNK.out _ _(HS.out w2 BB2).2;have mr:=(World.cell?_of_block(a:=⟨rb,7,none⟩)(heap_setCell_other w2⟨gk,n0,none⟩ rb(.int .i64 kx) hne1)).trans t7))
  all_goals
   obtain⟨E3,T3⟩:=HS.out w2 BB2;clear HS FZ HK HNK c0 c1 c2 c3 r7 rz0 rf x0 x1 x2 x3 d0 d1 d2 d3 u7 ur uf y0 y1 y2 y3 e0 e1 e2 e3 t7 tr tf z0 z1 z2 z3 m0 m1 m2 m3 v0 v1 v2 v3 mr;generalize w2.setCell⟨gk,n0,none⟩(.int .i64 kx)=w3 at *;obtain⟨c0,c1,c2,c3⟩:=KK.out _ _ T3;obtain⟨o3,ho3⟩:∃o3,o3=o1:=⟨_,rfl⟩
   rw[<-ho3] at E3;have T3:aa I17 w1 o1 w3 o3:=by rw[ho3];exact T3
   clear ho3;go_wp2_with fail;refine(hP w3 o3 E3).mono ?_;rintro e w4⟨rfl,o4,E4,S4⟩;have T4:=T3.trans S4;clear S4 c0 c1 c2 c3 hP;obtain⟨c0,c1,c2,c3⟩:=KK.out _ _ T4;obtain⟨x0,x1,x2,x3⟩:Nd4 w4 b off x ak ck:=NK T4 aA;have HY:=hY w4 o4(Sx.stepO T4 aA)(X1.step T4 aA) E4;go_wp2_with fail;refine HY.mono ?_;rintro e w5⟨rfl,o5,E5,S5⟩;have T5:=T4.trans S5;clear S5 c0 c1 c2 c3 x0 x1 x2 x3 HY hY;obtain⟨c0,c1,c2,c3⟩:=KK.out _ _ T5;go_wp2_with fail;refine(hQ w5 o5 E5).mono ?_;rintro e w6⟨rfl,o6,E6,S6⟩;have T6:=T5.trans S6;clear S6 c0 c1 c2 c3 hQ;obtain⟨c0,c1,c2,c3⟩:=KK.out _ _ T6;go_wp2_with fail;refine(hR w6 o6 E6).mono ?_;rintro e w7⟨rfl,o7,E7,S7⟩;have T7:=T6.trans S7;clear S7 c0 c1 c2 c3 hR;obtain⟨c0,c1,c2,c3⟩:=KK.out _ _ T7;go_wp2
   go_end0
   exact⟨rfl,o7,E7,S0.trans T7⟩
 ·have hC2:Cq=s:=by rw[hCq];unfold Dp.cel;rw[if_neg h0]
  subst hC2;have hb0:(Cq.ks.getD n0 0==0)=false:=by simpa using h0
  generalize Cq.ks.getD n0 0=z0 at *;have TD:∀ q,aa I17 w1 o1(w1.drewN q) o1:=fun q=>(aa.refl _ w1 o1).drewN q;have ED:∀ q,DW(w1.drewN q) o1 rb p0 p1 p2 p3 p4 Cq:=fun q=>h7.step((aa.refl(fun _=>False) w1 o1).drewN q) noF;clear hCq q0 q1 q2 q3 q4 hck dC zC kC dP zP dF hat hz hks l1 hn ho hok hsk HP SN1 NN lF wl hkk hlen HKO h7;go_enter Tryz.func81,Tryz.ntmps81;go_upto_region 1 with fail;rw[<-hw1,<-HG.out];clear hw1
  go_quiet(fail)
  have T3:=TD nq;have E3:=ED nq;clear TD ED;generalize w1.drewN nq=w3 at *;clear c0 c1 c2 c3 r7 rz;obtain⟨c0,c1,c2,c3⟩:=KK.out _ _ T3;obtain⟨o3,ho3⟩:∃o3,o3=o1:=⟨_,rfl⟩
  rw[<-ho3] at E3;have T3:aa I17 w1 o1 w3 o3:=by rw[ho3];exact T3
  clear ho3;go_wp2_with fail;refine(hP w3 o3 E3).mono ?_;rintro e w4⟨rfl,o4,E4,S4⟩;have T4:=T3.trans S4;clear S4 c0 c1 c2 c3 hP;obtain⟨c0,c1,c2,c3⟩:=KK.out _ _ T4;obtain⟨x0,x1,x2,x3⟩:Nd4 w4 b off x ak ck:=NK T4 aA;have HY:=hY w4 o4(Sx.stepO T4 aA)(X1.step T4 aA) E4;go_wp2_with fail;refine HY.mono ?_;rintro e w5⟨rfl,o5,E5,S5⟩;have T5:=T4.trans S5;clear S5 c0 c1 c2 c3 x0 x1 x2 x3 HY hY;obtain⟨c0,c1,c2,c3⟩:=KK.out _ _ T5;go_wp2_with fail;refine(hQ w5 o5 E5).mono ?_;rintro e w6⟨rfl,o6,E6,S6⟩;have T6:=T5.trans S6;clear S6 c0 c1 c2 c3 hQ;obtain⟨c0,c1,c2,c3⟩:=KK.out _ _ T6;go_wp2_with fail;refine(hR w6 o6 E6).mono ?_;rintro e w7⟨rfl,o7,E7,S7⟩;have T7:=T6.trans S7;clear S7 c0 c1 c2 c3 hR;obtain⟨c0,c1,c2,c3⟩:=KK.out _ _ T7;go_wp2
  go_end0
  exact⟨rfl,o7,E7,S0.trans T7⟩
theorem Dh (k n:Int)(nm:List UInt8)(a:Int)(ks:Fs)(ao:Option Addr)(cap ar:Nat)(w:World)(o:Nat->Nat)(rb:Nat)(p0 p1 p2 p3 p4:Value)(lv:List Int)(s:Dp)(m:Nat)(R:Dp)(hk:k=13\/k=14\/k=15\/k=16)(H:∀ wx ox',SnO wx ox' ks ao->DX wx ox' p4 lv->DW wx ox' rb p0 p1 p2 p3 p4 s->Calls Tryz.prog 80 #[pt0 rb,exN ⟨k,n,nm,a,ks⟩ ao cap,.int .i64 (ar:Nat)] wx (cH wx ox' rb p0 p1 p2 p3 p4 R (.tuple #[])))(hlf:s.lg=false)(S:SnO w o ks ao)(X:DX w o p4 lv)(h:DW w o rb p0 p1 p2 p3 p4 s) :
  Calls Tryz.prog 40 #[pt0 rb,exN⟨k,n,nm,a,ks⟩ ao cap,.int .i64(ar:Nat)] w(cH w o rb p0 p1 p2 p3 p4(R)(.tuple #[])):=by
 obtain⟨w1,o1,g,hw1,HG,B1,E1,X1,SN1,S0⟩:=dn #[.int .i64 k,.int .i64 n,stv nm,.slice ao ks.len cap] h X S;have KK:=dl B1;obtain⟨c0,c1,c2,c3⟩:=KK.out _ _(aa.refl I17 w1 o1);obtain⟨l1,-⟩:=E1.cl;have T1:=aa.refl I17 w1 o1;clear B1 h X S;rw[ah];simp only;rw[hlf] at l1;have H1:=H w1 o1 SN1 X1 E1;rw[ah] at H1;simp only at H1;generalize ks.len=le at *;clear H SN1 X1 E1;rcases hk with rfl|rfl|rfl|rfl
 all_goals
  go_enter Tryz.func40,Tryz.ntmps40;go_upto_region 1 with fail;rw[<-hw1,<-HG.out];clear hw1;go_wp2_with fail;refine H1.mono ?_;rintro e w2⟨rfl,o2,E2,S2⟩;have T2:=T1.trans S2;clear S2 c0 c1 c2 c3 H1;obtain⟨c0,c1,c2,c3⟩:=KK.out _ _ T2;go_wp2
  go_end0
  exact⟨rfl,o2,E2,S0.trans T2⟩
theorem Dm (k n:Int)(nm:List UInt8)(a:Int)(ks:Fs)(ao:Option Addr)(cap ar:Nat)(w:World)(o:Nat->Nat)(rb:Nat)(p0 p1 p2 p3 p4:Value)(lv:List Int)(s:Dp)(m:Nat)(R:Dp)(hk:k=26)(H:∀ wx ox',SnO wx ox' ks ao->DX wx ox' p4 lv->DW wx ox' rb p0 p1 p2 p3 p4 s->Calls Tryz.prog 81 #[pt0 rb,exN ⟨k,n,nm,a,ks⟩ ao cap,.int .i64 (ar:Nat)] wx (cH wx ox' rb p0 p1 p2 p3 p4 R (.tuple #[])))(hlf:s.lg=false)(S:SnO w o ks ao)(X:DX w o p4 lv)(h:DW w o rb p0 p1 p2 p3 p4 s) :
  Calls Tryz.prog 40 #[pt0 rb,exN⟨k,n,nm,a,ks⟩ ao cap,.int .i64(ar:Nat)] w(cH w o rb p0 p1 p2 p3 p4(R)(.tuple #[])):=by
 obtain⟨w1,o1,g,hw1,HG,B1,E1,X1,SN1,S0⟩:=dn #[.int .i64 k,.int .i64 n,stv nm,.slice ao ks.len cap] h X S;have KK:=dl B1;obtain⟨c0,c1,c2,c3⟩:=KK.out _ _(aa.refl I17 w1 o1);obtain⟨l1,-⟩:=E1.cl;have T1:=aa.refl I17 w1 o1;clear B1 h X S;rw[ah];simp only;rw[hlf] at l1;have H1:=H w1 o1 SN1 X1 E1;rw[ah] at H1;simp only at H1;generalize ks.len=le at *;clear H SN1 X1 E1;subst hk;go_enter Tryz.func40,Tryz.ntmps40;go_upto_region 1 with fail;rw[<-hw1,<-HG.out];clear hw1;go_wp2_with fail;refine H1.mono ?_;rintro e w2⟨rfl,o2,E2,S2⟩;have T2:=T1.trans S2;clear S2 c0 c1 c2 c3 H1;obtain⟨c0,c1,c2,c3⟩:=KK.out _ _ T2;go_wp2
 go_end0
 exact⟨rfl,o2,E2,S0.trans T2⟩
theorem Cl (k n:Int)(nm:List UInt8)(a:Int)(ks:Fs)(ao:Option Addr)(cap ar:Nat)(w:World)(o:Nat->Nat)(rb:Nat)(p0 p1 p2 p3 p4:Value)(lv:List Int)(s:Dp)(m:Nat)(R:Dp)(hk:k=21)(H:∀ wx ox',SnO wx ox' ks ao->DX wx ox' p4 lv->DW wx ox' rb p0 p1 p2 p3 p4 s->Calls Tryz.prog 82 #[pt0 rb,exN ⟨k,n,nm,a,ks⟩ ao cap,.int .i64 (ar:Nat)] wx (cH wx ox' rb p0 p1 p2 p3 p4 R (.tuple #[])))(hlf:s.lg=false)(S:SnO w o ks ao)(X:DX w o p4 lv)(h:DW w o rb p0 p1 p2 p3 p4 s) :
  Calls Tryz.prog 40 #[pt0 rb,exN⟨k,n,nm,a,ks⟩ ao cap,.int .i64(ar:Nat)] w(cH w o rb p0 p1 p2 p3 p4(R)(.tuple #[])):=by
 obtain⟨w1,o1,g,hw1,HG,B1,E1,X1,SN1,S0⟩:=dn #[.int .i64 k,.int .i64 n,stv nm,.slice ao ks.len cap] h X S;have KK:=dl B1;obtain⟨c0,c1,c2,c3⟩:=KK.out _ _(aa.refl I17 w1 o1);obtain⟨l1,-⟩:=E1.cl;have T1:=aa.refl I17 w1 o1;clear B1 h X S;rw[ah];simp only;rw[hlf] at l1;have H1:=H w1 o1 SN1 X1 E1;rw[ah] at H1;simp only at H1;generalize ks.len=le at *;clear H SN1 X1 E1;subst hk;go_enter Tryz.func40,Tryz.ntmps40;go_upto_region 1 with fail;rw[<-hw1,<-HG.out];clear hw1;go_wp2_with fail;refine H1.mono ?_;rintro e w2⟨rfl,o2,E2,S2⟩;have T2:=T1.trans S2;clear S2 c0 c1 c2 c3 H1;obtain⟨c0,c1,c2,c3⟩:=KK.out _ _ T2;go_wp2
 go_end0
 exact⟨rfl,o2,E2,S0.trans T2⟩
theorem Ch (k n:Int)(nm:List UInt8)(a:Int)(ks:Fs)(ao:Option Addr)(cap ar:Nat)(w:World)(o:Nat->Nat)(rb:Nat)(p0 p1 p2 p3 p4:Value)(lv:List Int)(s:Dp)(m:Nat)(R:Dp)(hk:k=17\/k=18\/k=19)(H:∀ wx ox',SnO wx ox' ks ao->DX wx ox' p4 lv->DW wx ox' rb p0 p1 p2 p3 p4 s->Calls Tryz.prog 83 #[pt0 rb,exN ⟨k,n,nm,a,ks⟩ ao cap,.int .i64 (ar:Nat)] wx (cH wx ox' rb p0 p1 p2 p3 p4 R (.tuple #[])))(hlf:s.lg=false)(S:SnO w o ks ao)(X:DX w o p4 lv)(h:DW w o rb p0 p1 p2 p3 p4 s) :
  Calls Tryz.prog 40 #[pt0 rb,exN⟨k,n,nm,a,ks⟩ ao cap,.int .i64(ar:Nat)] w(cH w o rb p0 p1 p2 p3 p4(R)(.tuple #[])):=by
 obtain⟨w1,o1,g,hw1,HG,B1,E1,X1,SN1,S0⟩:=dn #[.int .i64 k,.int .i64 n,stv nm,.slice ao ks.len cap] h X S;have KK:=dl B1;obtain⟨c0,c1,c2,c3⟩:=KK.out _ _(aa.refl I17 w1 o1);obtain⟨l1,-⟩:=E1.cl;have T1:=aa.refl I17 w1 o1;clear B1 h X S;rw[ah];simp only;rw[hlf] at l1;have H1:=H w1 o1 SN1 X1 E1;rw[ah] at H1;simp only at H1;generalize ks.len=le at *;clear H SN1 X1 E1;rcases hk with rfl|rfl|rfl
 all_goals
  go_enter Tryz.func40,Tryz.ntmps40;go_upto_region 1 with fail;rw[<-hw1,<-HG.out];clear hw1;go_wp2_with fail;refine H1.mono ?_;rintro e w2⟨rfl,o2,E2,S2⟩;have T2:=T1.trans S2;clear S2 c0 c1 c2 c3 H1;obtain⟨c0,c1,c2,c3⟩:=KK.out _ _ T2;go_wp2
  go_end0
  exact⟨rfl,o2,E2,S0.trans T2⟩
theorem Ac (k n:Int)(nm:List UInt8)(a:Int)(ks:Fs)(ao:Option Addr)(cap ar:Nat)(w:World)(o:Nat->Nat)(rb:Nat)(p0 p1 p2 p3 p4:Value)(lv:List Int)(s:Dp)(m:Nat)(hlg:s.lg=true)(S:SnO w o ks ao)(X:DX w o p4 lv)(h:DW w o rb p0 p1 p2 p3 p4 s) :
  Calls Tryz.prog 40 #[pt0 rb,exN⟨k,n,nm,a,ks⟩ ao cap,.int .i64(ar:Nat)] w(cH w o rb p0 p1 p2 p3 p4(s)(.tuple #[])):=by
 obtain⟨w1,o1,g,hw1,HG,B1,E1,X1,SN1,S0⟩:=dn #[.int .i64 k,.int .i64 n,stv nm,.slice ao ks.len cap] h X S;have KK:=dl B1;obtain⟨c0,c1,c2,c3⟩:=KK.out _ _(aa.refl I17 w1 o1);obtain⟨l1,-⟩:=E1.cl;have T1:=aa.refl I17 w1 o1;clear B1 h X S;rw[ah];simp only;rw[hlg] at l1;clear SN1 X1 KK;go_enter Tryz.func40,Tryz.ntmps40;go_upto_region 1 with fail;rw[<-hw1,<-HG.out];clear hw1;go_wp2
 go_end0
 exact⟨rfl,o1,E1,S0.trans T1⟩
theorem qN (K:Nat->Int)(nc N:Nat)(HP:eu K nc N):eu K nc (N+1):=by
 intro e ao cap ar w o rb p0 p1 p2 p3 p4 lv s m hN ho hsk hlv hnc har hsz S hks hz hm X h;by_cases hlg:s.lg=true
 ·rw[y5 hsk.1 hlg];exact Ac e.k e.n e.nm e.a e.kids ao cap ar w o rb p0 p1 p2 p3 p4 lv s m hlg S X h
 have hlf:s.lg=false:=by simpa using hlg
 obtain⟨k,n,nm,a,ks⟩:=e;obtain⟨hs1,-,hsf⟩:=hsk;simp only at hN hsf hs1 har hsz hm S;have hN':ks.size<=N:=by omega
 have hdl:=gZ ho.1.1;have hdq:=ml ho.1.1;simp only at hdl hdq;have hkk:=dK ho.1.1;simp only at hkk;unfold deE mf
 dsimp only
 rw[if_neg hs1,if_neg hlg];by_cases e1:k=1
 ·rw[if_pos e1];exact yL k n nm a ks ao cap ar w o rb p0 p1 p2 p3 p4 lv s m 1(.inl⟨e1,rfl⟩) hlf S hz(by omega) X h
 rw[if_neg e1];by_cases e2:k=2
 ·rw[if_pos e2];exact yL k n nm a ks ao cap ar w o rb p0 p1 p2 p3 p4 lv s m 2(.inr⟨e2,rfl⟩) hlf S hz(by omega) X h
 rw[if_neg e2];by_cases e3:k=3
 ·rw[if_pos e3];exact Cs k n nm a ks ao cap ar w o rb p0 p1 p2 p3 p4 lv s m e3 hlf S hz(by omega) X h
 rw[if_neg e3];by_cases e5:k=5
 ·rw[if_pos e5];exact CJ k n nm a ks ao cap ar w o rb p0 p1 p2 p3 p4 lv s m e5(hdl.2.2.2.2.2.1(.inl e5)) hlf S hz(by omega) X h
 rw[if_neg e5];by_cases e6:6<=k/\k<=12
 ·rw[if_pos e6];exact BQ K nc N HP k n nm a ks ao cap ar w o rb p0 p1 p2 p3 p4 lv s m e6 hN' ho hsf hlv hnc har hsz S hks hz hm X h hlf
 rw[if_neg e6];by_cases e13:13<=k/\k<=16
 ·rw[if_pos e13];exact Dh k n nm a ks ao cap ar w o rb p0 p1 p2 p3 p4 lv s m _(by omega)(fun wx ox S X E=>Dq K nc N HP k n nm a ks ao cap ar wx ox rb p0 p1 p2 p3 p4 lv s m e13 hN' ho hsf hlv hnc har hsz S hks hz hm X E) hlf S X h
 rw[if_neg e13];by_cases e20:k=20
 ·rw[if_pos e20,nU];exact Dy K nc N HP k n nm a ks ao cap ar w o rb p0 p1 p2 p3 p4 lv s m e20(by have:=hdl.2.2.2.2.1 e20;omega) hN' ho hsf hlv hnc har hsz S hks hz hm X h hlf
 rw[if_neg e20];by_cases e26:k=26
 ·rw[if_pos e26];subst e26;obtain⟨x,rfl⟩:=iW(hdl.2.1 rfl);exact Dm 26 n nm a _ ao cap ar w o rb p0 p1 p2 p3 p4 lv s m _ rfl(fun wx ox S X E=>Ce K nc N HP n nm a x ao cap ar wx ox rb p0 p1 p2 p3 p4 lv s m hN' ho hsf hlv hnc har hsz S hks hz hm X E) hlf S X h
 rw[if_neg e26];by_cases e21:k=21
 ·rw[if_pos e21];subst e21;obtain⟨x,y,rfl⟩:=ep(hdl.2.2.2.1 rfl).1;refine Cl 21 n nm a _ ao cap ar w o rb p0 p1 p2 p3 p4 lv s m _ rfl(fun wx ox S X E=>?_) hlf S X h;have hn:=(hdl.2.2.2.1 rfl).2;by_cases n1:n=1
  ·exact AU K nc N HP n nm a x y ao cap ar wx ox rb p0 p1 p2 p3 p4 lv s m n1 hN' ho hsf hlv hnc har hsz S hks hz hm X E
  by_cases n2:n=2
  ·exact Ay K nc N HP n nm a x y ao cap ar wx ox rb p0 p1 p2 p3 p4 lv s m n2 hN' ho hsf hlv hnc har hsz S hks hz hm X E
  by_cases n3:n=3
  ·exact AE K nc N HP n nm a x y ao cap ar wx ox rb p0 p1 p2 p3 p4 lv s m n3 hN' ho hsf hlv hnc har hsz S hks hz hm X E
  by_cases n4:n=4
  ·exact zi K nc N HP n nm a x y ao cap ar wx ox rb p0 p1 p2 p3 p4 lv s m n4 hN' ho hsf hlv hnc har hsz S hks hz hm X E
  ·exact Ar K nc N HP n nm a x y ao cap ar wx ox rb p0 p1 p2 p3 p4 lv s m(by omega) hN' ho hsf hlv hnc har hsz S hks hz hm X E
 rw[if_neg e21];have hk3:k=17\/k=18\/k=19:=by omega
 refine Ch k n nm a _ ao cap ar w o rb p0 p1 p2 p3 p4 lv s m _ hk3(fun wx ox S X E=>?_) hlf S X h;rcases hk3 with e|e|e
 ·subst e;obtain⟨x,y,rfl⟩:=ep(hdq.2.1(by omega)(by omega));exact yH K nc N HP n nm a x y ao cap ar wx ox rb p0 p1 p2 p3 p4 lv s m hN' ho hsf hlv hnc har hsz S hks hz hm X E
 ·subst e;obtain⟨x,y,rfl⟩:=ep(hdq.2.1(by omega)(by omega));exact yy K nc N HP n nm a x y ao cap ar wx ox rb p0 p1 p2 p3 p4 lv s m hN' ho hsf hlv hnc har hsz S hks hz hm X E
 ·subst e;obtain⟨x,y,z,rfl⟩:=gY(hdl.1 rfl);exact xO K nc N HP n nm a x y z ao cap ar wx ox rb p0 p1 p2 p3 p4 lv s m hN' ho hsf hlv hnc har hsz S hks hz hm X E
theorem mT (K:Nat->Int)(nc:Nat):∀ N,eu K nc N
 | 0=>fun e ao cap ar w o rb p0 p1 p2 p3 p4 lv s m h=>by omega
 | N+1=>qN K nc N(mT K nc N)
end Go.Proofs.YtbjdkekhnajafaaGreatDoor

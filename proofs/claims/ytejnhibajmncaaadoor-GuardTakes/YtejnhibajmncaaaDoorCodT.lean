import Derived.Test.YtejnhibajmncaaaDoorTkS
import Derived.Lib.Hide
set_option maxRecDepth 100000
set_option maxHeartbeats 8000000
namespace Go.Proofs.YtejnhibajmncaaaDoor
set_option linter.unusedVariables false
set_option linter.unusedSimpArgs false
abbrev rgQ (n:Int):Prop:=-9223372036854775808<=n/\n<=9223372036854775807
def WokQ (nc:Nat)(cs:List Int)(x:Wo):Prop :=
 if x.op=1 then (x.b=1\/x.b=2)/\∃v,cs[x.a]?=some v/\rgQ v/\(x.b=2->v=0\/v=1)
 else if x.op=2 then x.b=0/\∃v,cs[x.a]?=some v/\rgQ v/\0<=v
 else if x.op=3 then x.a<=3/\x.b=0
 else if x.op=11 then x.a=0/\1<=x.b/\x.b<=3
 else if x.op=12 then x.a=0/\x.b<=1
 else if x.op=13\/x.op=14\/x.op=15\/x.op=24\/x.op=21\/x.op=23 then x.b=0
 else if x.op=16 then 1<=x.a/\x.a<=10/\x.b=0
 else if x.op=17 then x.a<nc
 else if x.op=18\/x.op=19 then x.a<nc/\x.b=0
 else if x.op=26 then x.a<=1/\x.b=0
 else x.op<28/\x.a=0/\x.b=0
theorem WokQ.up {nc:Nat}{cs cs':List Int}{x:Wo}(h:WokQ nc cs x)(k:∀ (i:Nat) v,cs[i]?=some v->cs'[i]?=some v):WokQ nc cs' x:=by
 unfold WokQ at h ⊢;by_cases e1:x.op=1
 ·rw[if_pos e1] at h ⊢;exact⟨h.1,h.2.imp fun v hv=>⟨k _ _ hv.1,hv.2⟩⟩
 ·rw[if_neg e1] at h ⊢;by_cases e2:x.op=2
  ·rw[if_pos e2] at h ⊢;exact⟨h.1,h.2.imp fun v hv=>⟨k _ _ hv.1,hv.2⟩⟩
  ·rw[if_neg e2] at h ⊢;exact h
abbrev WokS (nc:Nat)(s:Em):Prop:=s.ks.length=nc/\∀ x ∈ s.ws,WokQ nc s.cs x
abbrev Gk (nc:Nat)(f:Em->Em):Prop:=Gd f/\∀ s,Inv s->WokS nc s->WokS nc (f s)
theorem Gk.comp {nc:Nat}{f g:Em->Em}(hf:Gk nc f)(hg:Gk nc g):Gk nc (fun s=>g (f s)):=⟨hf.1.comp hg.1,fun s a b=>hg.2 _ (hf.1 s a).1 (hf.2 s a b)⟩
theorem Gk.id (nc:Nat):Gk nc (fun s=>s):=⟨Gd.id,fun _ _ h=>h⟩
theorem wok_word {nc:Nat}{s:Em}(h:WokS nc s){x:Wo}{cs:List Int}{ns:List (List UInt8)}{d:Nat}(k:∀ (i:Nat) v,s.cs[i]?=some v->cs[i]?=some v)(hx:WokQ nc cs x):WokS nc ⟨s.ws++[x],cs,ns,s.ks,d⟩ :=
 ⟨h.1,fun y hy=>by
  rcases List.mem_append.1 hy with hy|hy
  ·exact(h.2 y hy).up k
  ·rw[List.mem_singleton.1 hy];exact hx⟩
theorem gk_lay {nc:Nat}(op a b:Nat)(h1:op≠1)(h2:op≠2)(h3:op≠21)(h:∀ cs,WokQ nc cs ⟨op,a,b⟩):Gk nc (fun s=>s.lay op a b):=⟨gd_lay op a b h1 h2 h3,fun s _ w=>wok_word w (fun _ _ h=>h) (h s.cs)⟩
theorem kc_upK (s:Em)(n:Int)(i:Nat)(v:Int)(h:s.cs[i]?=some v):(s.kc n).cs[i]?=some v:=by
 simp only[Em.kc];split
 ·exact h
 ·exact(List.getElem?_append_left (List.getElem?_eq_some_iff.1 h).1).trans h
theorem kc_atK (s:Em)(n:Int):(s.kc n).cs[s.cs.idxOf n]?=some n:=by
 simp only[Em.kc];split
 ·rename_i h
  have hl:=List.idxOf_lt_length_of_mem h;rw[List.getElem?_eq_getElem hl,List.getElem_idxOf hl]
 ·rename_i h
  rw[List.idxOf_eq_length h];simp
theorem gk_con (nc:Nat)(n:Int)(kd u:Nat)(h:kd=1\/(kd=2/\(n=0\/n=1)))(hr:rgQ n):Gk nc (fun s=>s.con n kd u):=⟨gd_con n kd u,fun s _ w=>wok_word w (kc_upK s n) (by
 unfold WokQ;rw[if_pos rfl];exact⟨h.imp id (fun h=>h.1),n,kc_atK s n,hr,fun e=>h.elim (fun h=>absurd (h.symm.trans e) (by decide)) (fun h=>h.2)⟩)⟩
theorem gk_vtx (nc:Nat)(n:Int)(u:Nat)(h:0<=n)(hr:rgQ n):Gk nc (fun s=>(s.kc n).push 2 (s.cs.idxOf n) 0 u):=⟨gd_vtx n u,fun s _ w=>wok_word w (kc_upK s n) (by
 unfold WokQ;rw[if_neg (show ¬(2:Nat)=1 by decide),if_pos rfl];exact⟨rfl,n,kc_atK s n,hr,h⟩)⟩
theorem gk_nam (nc:Nat)(x:List UInt8):Gk nc (fun s=>(s.kn x).lay 21 (s.ns.idxOf x) 0):=⟨gd_nam x,fun s _ w=>wok_word w (fun _ _ h=>h) rfl⟩
theorem gk_var (nc a u:Nat)(h:a<=3):Gk nc (fun s=>s.push 3 a 0 u):=⟨gd_var a u,fun s _ w=>wok_word w (fun _ _ h=>h) ⟨h,rfl⟩⟩
theorem wok_land {nc:Nat}{s:Em}(h:WokS nc s){i:Nat}{x:Wo}(hx:s.ws[i]?=some x)(ho:x.op=13\/x.op=14\/x.op=15\/x.op=24\/x.op=17):WokS nc (s.land i):=⟨h.1,fun y hy=>by
 obtain⟨j,hj⟩:=List.mem_iff_getElem?.1 hy;rw[land_at] at hj;by_cases e:i=j
 ·subst e;rw[if_pos rfl,hx] at hj;simp only[Option.map_some,Option.some.injEq] at hj;subst hj;have hq:=h.2 x (List.mem_of_getElem? hx);obtain⟨op,a,b⟩:=x;rcases ho with rfl|rfl|rfl|rfl|rfl<;>exact hq
 ·rw[if_neg e] at hj;exact h.2 y (List.mem_of_getElem? hj)⟩
theorem gk_fork {nc:Nat}{f g:Em->Em}(op:Nat)(hf:Gk nc f)(hg:Gk nc g)(ho:op=14\/op=15\/op=24):Gk nc (fun s=>s.fork op f g):=⟨gd_fork op hf.1 hg.1 (by omega) (by omega) (by omega),fun s h w=>by
 have n1:op≠1:=by omega
 have n2:op≠2:=by omega
 have n3:op≠21:=by omega
 have L1:=gk_lay (nc:=nc) op 0 0 n1 n2 n3 (fun cs=>by rcases ho with rfl|rfl|rfl<;>rfl);have L3:=gk_lay (nc:=nc) 13 0 0 (by decide) (by decide) (by decide) (fun cs=>rfl);obtain⟨i1,p1⟩:=L1.1 s h;obtain⟨i2,p2⟩:=hf.1 _ i1;obtain⟨i3,p3⟩:=L3.1 _ i2;have w3:=L3.2 _ i2 (hf.2 _ i1 (L1.2 s h w))
 dsimp only at i1 p1 i2 p2 i3 p3 w3
 have hl1:(s.lay op 0 0).ws.length=s.ws.length+1:=by simp[Em.lay]
 have hw1:((f (s.lay op 0 0)).lay 13 0 0).ws[s.ws.length]?=some ⟨op,0,0⟩:=((p2.trans p3).at1 s.ws.length (by omega)).trans (lay_last s op 0 0);have i4:=inv_land i3 hw1 n1 n2 n3;have w4:=wok_land w3 hw1 (by rcases ho with e|e|e<;>simp[e]);obtain⟨i5,p5⟩:=hg.1 _ i4;have hl2:=p2.len;have hl3:(((f (s.lay op 0 0)).lay 13 0 0).land s.ws.length).ws.length=(f (s.lay op 0 0)).ws.length+1:=by rw[land_len];simp[Em.lay]
 have hw2:(((f (s.lay op 0 0)).lay 13 0 0).land s.ws.length).ws[(f (s.lay op 0 0)).ws.length]?=some ⟨13,0,0⟩:=by
  rw[land_at,if_neg (by omega)];exact lay_last _ 13 0 0
 exact wok_land (hg.2 _ i4 w4) ((p5.at1 (f (s.lay op 0 0)).ws.length (by omega)).trans hw2) (.inl rfl)⟩
theorem gk_clrs (nc h:Nat):∀ (l:List Int) (i:Nat),i+l.length<=nc->Gk nc (clrs h l i)
 | [],_,_=>Gk.id nc
 | x::r,i,hl=>by
  have hl:i+(r.length+1)<=nc:=hl;have h1:=gk_clrs nc h r (i+1) (by omega);refine⟨gd_clrs h (x::r) i,fun s a w=>?_⟩;unfold clrs;have L:=gk_lay (nc:=nc) 19 i 0 (by decide) (by decide) (by decide) (fun cs=>⟨show i<nc by omega,rfl⟩);by_cases e:x=(h:Int)
  ·rw[if_pos e];exact h1.2 _ (L.1 s a).1 (L.2 s a w)
  ·rw[if_neg e];exact h1.2 s a w
theorem gk_bdy (lv:List Int){t:Tr}(ht:∀ ar u,Gk lv.length (t ar u))(ar u:Nat):Gk lv.length (bdy lv t ar u):=(gk_clrs lv.length (ar+1) lv 0 (by omega)).comp (ht (ar+1) u)
theorem gk_srch (lv:List Int){t:Tr}(ht:∀ ar u,Gk lv.length (t ar u))(op:Nat)(v:Int)(ho:op=14\/op=15)(hv:v=0\/v=1)(ar u:Nat):Gk lv.length (srch lv t op v ar u) :=
 ⟨gd_srch lv (fun ar u=>(ht ar u).1) op v (by omega) (by omega) (by omega) ar u,fun s hs w =>
 (gk_fork 24 ((((gk_bdy lv ht ar u).comp (gk_lay op s.ws.length 0 (by omega) (by omega) (by omega) (fun cs=>by rcases ho with rfl|rfl<;>rfl))).comp (gk_lay 25 0 0 (by decide) (by decide) (by decide) (fun cs=>⟨by decide,rfl,rfl⟩))).comp (gk_con lv.length v 2 u (.inr ⟨rfl,hv⟩) (by omega))) (gk_con lv.length (1-v) 2 u (.inr ⟨rfl,by omega⟩) (by omega)) (by omega)).2 s hs w⟩
theorem gk_gath (lv:List Int){t:Tr}(ht:∀ ar u,Gk lv.length (t ar u)){f:Nat->Em->Em}(hf:∀ g,Gk lv.length (f g))(ar u:Nat):Gk lv.length (gath lv t f ar u):=⟨gd_gath lv (fun ar u=>(ht ar u).1) (fun g=>(hf g).1) ar u,fun s h w=>by
 have L:=gk_lay (nc:=lv.length) 24 0 0 (by decide) (by decide) (by decide) (fun cs=>rfl);have M:=((gk_bdy lv ht ar u).comp (hf s.ws.length)).comp (gk_lay 13 s.ws.length 0 (by decide) (by decide) (by decide) (fun cs=>rfl));obtain⟨i1,p1⟩:=L.1 s h;obtain⟨i2,p2⟩:=M.1 _ i1;have w2:=M.2 _ i1 (L.2 s h w)
 dsimp only at i1 p1 i2 p2 w2
 have hl1:(s.lay 24 0 0).ws.length=s.ws.length+1:=by simp[Em.lay]
 have hw:=(p2.at1 s.ws.length (by omega)).trans (lay_last s 24 0 0);exact wok_land w2 hw (by decide)⟩
theorem gk_qua (lv:List Int)(n:Int)(hn:n<=6){a t:Tr}(ha:∀ ar u,Gk lv.length (a ar u))(ht:∀ ar u,Gk lv.length (t ar u))(ar u:Nat):Gk lv.length (qua lv n a t ar u):=⟨gd_qua lv n (fun ar u=>(ha ar u).1) (fun ar u=>(ht ar u).1) ar u,fun s hs w=>by
 have c0:=fun u=>gk_con lv.length 0 1 u (.inl rfl) (by decide);have c1:=fun u=>gk_con lv.length 1 1 u (.inl rfl) (by decide);have c2:=fun u=>gk_con lv.length 0 2 u (.inr ⟨rfl,.inl rfl⟩) (by decide);have b6:=gk_lay (nc:=lv.length) 6 0 0 (by decide) (by decide) (by decide) (fun cs=>⟨by decide,rfl,rfl⟩);have b27:=gk_lay (nc:=lv.length) 27 0 0 (by decide) (by decide) (by decide) (fun cs=>⟨by decide,rfl,rfl⟩);have b26:=gk_lay (nc:=lv.length) 26 (n-5).toNat 0 (by decide) (by decide) (by decide) (fun cs=>⟨show (n-5).toNat<=1 by omega,rfl⟩);have b14:=fun g=>gk_lay (nc:=lv.length) 14 g 0 (by decide) (by decide) (by decide) (fun cs=>rfl);unfold qua;split
 ·exact((ha ar u).comp (gk_srch lv ht 15 0 (by omega) (by omega) ar u)).2 s hs w
 ·split
  ·exact((ha ar u).comp (gk_srch lv ht 14 1 (by omega) (by omega) ar u)).2 s hs w
  ·split
   ·exact(((ha ar u).comp (c0 u)).comp (gk_gath lv ht (fun g=>((b14 g).comp (c1 (u+1))).comp b6) ar (u+1))).2 s hs w
   ·split
    ·exact(((ha ar u).comp (c0 u)).comp (gk_gath lv ht (fun g=>b6) ar (u+1))).2 s hs w
    ·exact(((((ha ar u).comp (c0 u)).comp (c2 (u+1))).comp (gk_gath lv ht (fun g=>b26) ar (u+2))).comp b27).2 s hs w⟩
theorem gk_seq {nc:Nat}:∀ (T:List Tr) (i ar u:Nat),(∀ t ∈ T,∀ ar u,Gk nc (t ar u))->Gk nc (seqT T i ar u)
 | [],_,_,_,_=>Gk.id nc
 | t::r,i,ar,u,h=>(h t (List.mem_cons_self ..) ar (u+i)).comp (gk_seq r (i+1) ar u (fun x hx=>h x (List.mem_cons_of_mem _ hx)))
theorem bar_wq (nc:Nat)(cs:List Int)(k:Int):WokQ nc cs ⟨barN k,0,0⟩:=by
 unfold barN
 repeat' split
 all_goals exact⟨by decide,rfl,rfl⟩
theorem gk_opr {nc:Nat}(k n:Int)(nm:List UInt8)(kk:List Int)(h1:k=13\/k=14->1<=kk.getD 0 0/\kk.getD 0 0<=3)(h2:k=20->1<=n/\n<=10):Gk nc (opr k n nm kk):=⟨gd_opr k n nm kk,fun s hs w=>by
 unfold opr;have b5:=gk_lay (nc:=nc) 5 0 0 (by decide) (by decide) (by decide) (fun cs=>⟨by decide,rfl,rfl⟩);have b11:1<=kk.getD 0 0/\kk.getD 0 0<=3->Gk nc (fun s=>s.lay 11 0 (kk.getD 0 0).toNat):=fun h=>gk_lay (nc:=nc) 11 0 (kk.getD 0 0).toNat (by decide) (by decide) (by decide) (fun cs=>⟨rfl,show 1<=(kk.getD 0 0).toNat by omega,show (kk.getD 0 0).toNat<=3 by omega⟩);split
 ·rename_i e;exact(b11 (h1 (.inl e))).2 s hs w
 ·split
  ·rename_i e;exact((b11 (h1 (.inr e))).comp b5).2 s hs w
  ·split
   ·exact(gk_lay (nc:=nc) 12 0 0 (by decide) (by decide) (by decide) (fun cs=>⟨rfl,by decide⟩)).2 s hs w
   ·split
    ·exact(gk_lay (nc:=nc) 12 0 1 (by decide) (by decide) (by decide) (fun cs=>⟨rfl,by decide⟩)).2 s hs w
    ·split
     ·rename_i e
      have:=h2 e
      exact(gk_lay (nc:=nc) 16 n.toNat 0 (by decide) (by decide) (by decide) (fun cs=>⟨show 1<=n.toNat by omega,show n.toNat<=10 by omega,rfl⟩)).2 s hs w
     ·split
      ·exact(gk_nam nc nm).2 s hs w
      ·split
       ·exact(gk_lay (nc:=nc) 23 _ 0 (by decide) (by decide) (by decide) (fun cs=>rfl)).2 s hs w
       ·exact(gk_lay (nc:=nc) _ 0 0 (bar_ne k).1 (bar_ne k).2.1 (bar_ne k).2.2 (fun cs=>bar_wq nc cs k)).2 s hs w⟩
theorem gk_get {nc:Nat}{T:List Tr}(h:∀ t ∈ T,∀ ar u,Gk nc (t ar u))(i ar u:Nat):Gk nc (T.getD i noT ar u):=by
 by_cases hi:i<T.length
 ·rw[List.getD_eq_getElem?_getD,List.getElem?_eq_getElem hi];exact h _ (List.getElem_mem hi) ar u
 ·rw[List.getD_eq_getElem?_getD,List.getElem?_eq_none (by omega)];exact Gk.id nc
theorem gk_prt (lv:List Int)(k n:Int)(nm:List UInt8)(kk:List Int)(len:Nat){T:List Tr}(ho:okN lv.length k n nm len)(h:∀ t ∈ T,∀ ar u,Gk lv.length (t ar u))(hk:k=13\/k=14->1<=kk.getD 0 0/\kk.getD 0 0<=3)(ar u:Nat):Gk lv.length (prt lv k n nm kk T ar u):=⟨gd_prt lv k n nm kk (fun t ht ar u=>(h t ht ar u).1) ar u,fun s hs w=>by
 obtain⟨hd,o5,o26,orr⟩:=ho;unfold prt;split
 ·exact(gk_con _ n 1 u (.inl rfl) orr).2 s hs w
 split
 ·rename_i e
  exact(gk_con _ n 2 u (.inr ⟨rfl,by subst e;simp[docF] at hd;omega⟩) orr).2 s hs w
 split
 ·rename_i e
  exact(gk_vtx _ n u (by subst e;simp[docF] at hd;omega) orr).2 s hs w
 split
 ·rename_i e
  exact(gk_var _ n.toNat u (by have:=o5 e;omega)).2 s hs w
 split
 ·exact((gk_get h 0 ar u).comp (gk_fork 14 (gk_get h 1 ar u) (gk_con _ 0 2 u (.inr ⟨rfl,.inl rfl⟩) (by decide)) (by omega))).2 s hs w
 split
 ·exact((gk_get h 0 ar u).comp (gk_fork 15 (gk_get h 1 ar u) (gk_con _ 1 2 u (.inr ⟨rfl,.inr rfl⟩) (by decide)) (by omega))).2 s hs w
 split
 ·exact((gk_get h 0 ar u).comp (gk_fork 14 (gk_get h 1 ar u) (gk_get h 2 ar u) (by omega))).2 s hs w
 split
 ·rename_i e
  have hnc:=o26 e;have hs1:Inv (s.cel n.toNat (kk.getD 0 0)):=⟨hs.nc,hs.nn,hs.wc,hs.wn,hs.uc,hs.un⟩
  have w1:WokS lv.length (s.cel n.toNat (kk.getD 0 0)):=⟨by simpa [Em.cel] using w.1,w.2⟩
  have L:=gk_lay (nc:=lv.length) 17 n.toNat 0 (by decide) (by decide) (by decide) (fun cs=>show n.toNat<lv.length by omega);have M:=(gk_get h 0 ar u).comp (gk_lay (nc:=lv.length) 18 n.toNat 0 (by decide) (by decide) (by decide) (fun cs=>⟨show n.toNat<lv.length by omega,rfl⟩));obtain⟨i1,p1⟩:=L.1 _ hs1;obtain⟨i2,p2⟩:=M.1 _ i1;have w2:=M.2 _ i1 (L.2 _ hs1 w1)
  dsimp only at i1 p1 i2 p2 w2
  have hl1:((s.cel n.toNat (kk.getD 0 0)).lay 17 n.toNat 0).ws.length=s.ws.length+1:=by simp[Em.lay,Em.cel]
  have hw:=(p2.at1 s.ws.length (by omega)).trans (lay_last (s.cel n.toNat (kk.getD 0 0)) 17 n.toNat 0);exact wok_land w2 hw (.inr (.inr (.inr (.inr rfl))))
 split
 ·rename_i e
  exact(gk_qua lv n ((doc_lenq hd).2.2.2.2.1 e).2.2 (fun ar u=>gk_get h 0 ar u) (fun ar u=>gk_get h 1 ar u) ar u).2 s hs w
 ·exact((gk_seq T 0 ar u h).comp (gk_opr k n nm kk hk (fun e=>by subst e;simp[docF] at hd;omega))).2 s hs w⟩
theorem gk_emF (lv:List Int):∀ (f:Fs),okF lv.length f->∀ t ∈ emF lv f,∀ ar u,Gk lv.length (t ar u)
 | ⟨none⟩,_=>fun t ht=>by simp[emF] at ht
 | ⟨some ⟨k,n,nm,a,ks,r⟩⟩,ho=>fun t ht ar u=>by
  rcases List.mem_cons.1 (show t ∈ prt lv k n nm (kdF ks) (emF lv ks)::emF lv r from ht) with rfl|ht
  ·refine gk_prt lv k n nm (kdF ks) ks.len ho.1 (gk_emF lv ks ho.2.1) (fun e=>?_) ar u;have hl:ks.len=2:=(doc_lenq ho.1.1).2.1 (by omega) (by omega);have h2:=kdF_bd ho.2.1;have h3:=kdF_lenq ks;obtain⟨x,y,hx⟩:∃x y,kdF ks=[x,y]:=by
    match kdF ks,h3.trans hl with
    | [x,y],_=>exact⟨x,y,rfl⟩
   rw[hx] at h2 ⊢;exact h2 x (by simp)
  ·exact gk_emF lv r ho.2.2 t ht ar u
theorem wok_A (lv:List Int)(e:Ex)(ho:okE lv.length e):Inv (emA lv e)/\WokS lv.length (emA lv e):=by
 have h0:Inv (em0 lv):=⟨List.nodup_nil,List.nodup_nil,fun x hx=>by simp[em0] at hx,fun x hx=>by simp[em0] at hx,fun i hi=>by simp[em0] at hi,fun i hi=>by simp[em0] at hi⟩
 have w0:WokS lv.length (em0 lv):=⟨by simp[em0],fun x hx=>by simp[em0] at hx⟩
 have G:=gk_emF lv (one e) ⟨ho.1,ho.2,trivial⟩ (emE lv e) (List.mem_singleton.2 rfl) 0 0;have L:=G.comp (gk_lay (nc:=lv.length) 0 0 0 (by decide) (by decide) (by decide) (fun cs=>⟨by decide,rfl,rfl⟩));exact⟨(L.1 _ h0).1,L.2 _ h0 w0⟩
structure Cn (m:Nat)(a b:List (List UInt8)):Prop where
 len:b.length<=a.length+m
 nam:∀ x ∈ b,x ∈ a\/nameB x=true
theorem Cn.refl (a:List (List UInt8)):Cn 0 a a:=⟨Nat.le_refl _,fun _ h=>.inl h⟩
theorem Cn.trans {m n:Nat}{a b c:List (List UInt8)}(h:Cn m a b)(k:Cn n b c):Cn (m+n) a c:=⟨by have:=h.len;have:=k.len;omega,fun x hx=>(k.nam x hx).elim (h.nam x) .inr⟩
theorem Cn.le {m n:Nat}{a b:List (List UInt8)}(h:Cn m a b)(k:m<=n):Cn n a b:=⟨by have:=h.len;omega,h.nam⟩
abbrev Tn (m:Nat)(t:Tr):Prop:=∀ ar u s,Cn m s.ns (t ar u s).ns
theorem clrs_nsq (h:Nat):∀ (lv:List Int) (i:Nat) (s:Em),(clrs h lv i s).ns=s.ns
 | [],_,_=>rfl
 | l::r,i,s=>by
  unfold clrs;rw[clrs_nsq h r];split<;>rfl
theorem cn_bdy {m:Nat}(lv:List Int){t:Tr}(h:Tn m t):Tn m (bdy lv t):=fun ar u s=>by
 have:=h (ar+1) u (clrs (ar+1) lv 0 s)
 rw[clrs_nsq] at this;exact this
theorem cn_fork {m n:Nat}{f g:Em->Em}(hf:∀ s:Em,Cn m s.ns (f s).ns)(hg:∀ s:Em,Cn n s.ns (g s).ns)(op:Nat)(s:Em):Cn (m+n) s.ns (s.fork op f g).ns:=(hf (s.lay op 0 0)).trans (hg (((f (s.lay op 0 0)).lay 13 0 0).land s.ws.length))
theorem cn_srch {m:Nat}(lv:List Int){t:Tr}(h:Tn m t)(op:Nat)(v:Int):Tn m (srch lv t op v):=fun ar u s =>
 cn_fork (n:=0) (f:=fun x=>(((bdy lv t ar u x).lay op s.ws.length 0).lay 25 0 0).con v 2 u) (g:=fun x=>x.con (1-v) 2 u) (fun x=>cn_bdy lv h ar u x) (fun x=>Cn.refl x.ns) 24 s
theorem cn_gath {m:Nat}(lv:List Int){t:Tr}(h:Tn m t)(f:Nat->Em->Em)(hf:∀ g s,(f g s).ns=s.ns):Tn m (gath lv t f):=fun ar u s=>by
 have:=cn_bdy lv h ar u (s.lay 24 0 0)
 show Cn m s.ns (f s.ws.length (bdy lv t ar u (s.lay 24 0 0))).ns;rw[hf];exact this
theorem cn_qua {m m':Nat}(lv:List Int)(n:Int){a t:Tr}(h:Tn m a)(k:Tn m' t):Tn (m+m') (qua lv n a t):=fun ar u s=>by
 unfold qua;split
 ·exact(h ar u s).trans (cn_srch lv k 15 0 ar u _)
 split
 ·exact(h ar u s).trans (cn_srch lv k 14 1 ar u _)
 split
 ·exact(h ar u s).trans (cn_gath lv k (fun g x=>((x.lay 14 g 0).con 1 1 (u+1)).lay 6 0 0) (fun _ _=>rfl) ar (u+1) ((a ar u s).con 0 1 u))
 split
 ·exact(h ar u s).trans (cn_gath lv k (fun _ x=>x.lay 6 0 0) (fun _ _=>rfl) ar (u+1) ((a ar u s).con 0 1 u))
 ·exact(h ar u s).trans (cn_gath lv k (fun _ x=>x.lay 26 (n-5).toNat 0) (fun _ _=>rfl) ar (u+2) (((a ar u s).con 0 1 u).con 0 2 (u+1)))
def Tns:List Tr->Nat->Prop
 | [],_=>True
 | t::T,m=>∃a b,Tn a t/\Tns T b/\a+b<=m
theorem cn_seq:∀ (T:List Tr) (m j ar u:Nat) (s:Em),Tns T m->Cn m s.ns (seqT T j ar u s).ns
 | [],m,_,_,_,s,_=>(Cn.refl s.ns).le (Nat.zero_le _)
 | t::T,m,j,ar,u,s,⟨a,b,h1,h2,h3⟩=>((h1 ar (u+j) s).trans (cn_seq T b (j+1) ar u (t ar (u+j) s) h2)).le h3
theorem cn_opr (k n:Int)(nm:List UInt8)(kk:List Int)(hn:k=23->nameB nm=true)(s:Em):Cn (if k=23 then 1 else 0) s.ns (opr k n nm kk s).ns:=by
 by_cases e:k=23
 ·subst e
  have:opr 23 n nm kk s=(s.kn nm).lay 21 (s.ns.idxOf nm) 0:=by simp[opr]
  rw[this,if_pos rfl];show Cn 1 s.ns (if nm ∈ s.ns then s.ns else s.ns++[nm]);split
  ·exact(Cn.refl _).le (by omega)
  ·refine⟨by simp,fun x hx=>?_⟩;rcases List.mem_append.1 hx with h|h
   ·exact .inl h
   ·rw[List.mem_singleton.1 h];exact .inr (hn rfl)
 ·have:(opr k n nm kk s).ns=s.ns:=by
   unfold opr
   repeat' split
   all_goals first|rfl|(exfalso;exact e (by assumption))
  rw[this,if_neg e];exact Cn.refl _
theorem cn_prt (lv:List Int)(k n:Int)(nm:List UInt8)(kk:List Int)(T:List Tr)(m len:Nat)(hd:docF k n nm len=true)(hl:T.length=len)(hT:Tns T m)(hn:k=23->nameB nm=true) :
  Tn (m+if k=23 then 1 else 0) (prt lv k n nm kk T):=fun ar u s=>by
 obtain⟨l1,l2,l3,l4,l5,l6,l7,l8⟩:=doc_lenq hd;have z:∀ t:Em,t.ns=s.ns->Cn (m+if k=23 then 1 else 0) s.ns t.ns:=fun t h=>by rw[h];exact(Cn.refl _).le (Nat.zero_le _)
 have le:∀ {a:Nat}{b:List (List UInt8)},Cn a s.ns b->a<=m->Cn (m+if k=23 then 1 else 0) s.ns b:=fun h1 h2=>h1.le (by omega);have two:len=2->∃x y a b,T=[x,y]/\Tn a x/\Tn b y/\a+b<=m:=fun h=>by
  match T,hl.trans h,hT with
  | [x,y],_,⟨a,b,h1,⟨c,d,h2,_,h3⟩,h4⟩=>exact⟨x,y,a,c,rfl,h1,h2,by omega⟩
 unfold prt;by_cases e1:k=1
 ·rw[if_pos e1];exact z _ rfl
 rw[if_neg e1];by_cases e2:k=2
 ·rw[if_pos e2];exact z _ rfl
 rw[if_neg e2];by_cases e3:k=3
 ·rw[if_pos e3];exact z _ rfl
 rw[if_neg e3];by_cases e5:k=5
 ·rw[if_pos e5];exact z _ rfl
 rw[if_neg e5];by_cases e17:k=17
 ·obtain⟨x,y,a,b,rfl,ha,hb,hm⟩:=two (l2 (by omega) (by omega));rw[if_pos e17];exact le ((ha ar u s).trans (cn_fork (n:=0) (f:=y ar u) (g:=fun x=>x.con 0 2 u) (hb ar u) (fun x=>Cn.refl x.ns) 14 (x ar u s))) hm
 rw[if_neg e17];by_cases e18:k=18
 ·obtain⟨x,y,a,b,rfl,ha,hb,hm⟩:=two (l2 (by omega) (by omega));rw[if_pos e18];exact le ((ha ar u s).trans (cn_fork (n:=0) (f:=y ar u) (g:=fun x=>x.con 1 2 u) (hb ar u) (fun x=>Cn.refl x.ns) 15 (x ar u s))) hm
 rw[if_neg e18];by_cases e19:k=19
 ·rw[if_pos e19]
  match T,hl.trans (l3 e19),hT with
  | [x,y,w],_,⟨a,b,h1,⟨c,d,h2,⟨f,g,h3,_,h4⟩,h5⟩,h6⟩ =>
   exact le ((h1 ar u s).trans (cn_fork (f:=y ar u) (g:=w ar u) (h2 ar u) (h3 ar u) 14 (x ar u s))) (by omega)
 rw[if_neg e19];by_cases e26:k=26
 ·rw[if_pos e26]
  match T,hl.trans (l7 e26),hT with
  | [x],_,⟨a,b,h1,_,h2⟩=>exact le (h1 ar u ((s.cel n.toNat (kk.getD 0 0)).lay 17 n.toNat 0)) (by omega)
 rw[if_neg e26];by_cases e21:k=21
 ·obtain⟨x,y,a,b,rfl,ha,hb,hm⟩:=two (l5 e21).1;rw[if_pos e21];exact le (cn_qua lv n ha hb ar u s) hm
 rw[if_neg e21];exact(cn_seq T m 0 ar u s hT).trans (cn_opr k n nm kk hn _)
def nmF:Fs->Nat
 | ⟨none⟩=>0
 | ⟨some ⟨k,_,_,_,ks,r⟩⟩=>(nmF ks+if k=23 then 1 else 0)+nmF r
theorem cn_F (lv:List Int)(nc:Nat):∀ (f:Fs),okF nc f->Tns (emF lv f) (nmF f)
 | ⟨none⟩,_=>trivial
 | ⟨some ⟨k,n,nm,a,ks,r⟩⟩,ho=>⟨_,_,cn_prt lv k n nm (kdF ks) (emF lv ks) _ ks.len ho.1.1 (emF_len lv ks) (cn_F lv nc ks ho.2.1) (fun e=>by
   have:=ho.1.1
   subst e;simp[docF] at this;exact this.2.2),cn_F lv nc r ho.2.2,Nat.le_refl _⟩
def quF:Fs->Nat
 | ⟨none⟩=>0
 | ⟨some ⟨k,_,_,_,ks,r⟩⟩=>(quF ks+if k=21 then 1 else 0)+quF r
def szF:Fs->Nat
 | ⟨none⟩=>0
 | ⟨some ⟨_,_,_,_,ks,r⟩⟩=>(szF ks+1)+szF r
theorem len_z:∀ f:Fs,f.len=0->szF f=0/\quF f=0/\nesF f=0/\nmF f=0
 | ⟨none⟩,_=>⟨rfl,rfl,rfl,rfl⟩
 | ⟨some ⟨k,n,nm,a,ks,r⟩⟩,h=>by simp[Fs.len] at h
theorem nm_qu (K:Nat->Int):∀ (f:Fs) (pk:Int) (i:Nat),skF K f pk i->nmF f<=quF f+(if pk=21/\i=0 then 1 else 0)
 | ⟨none⟩,_,_,_=>Nat.zero_le _
 | ⟨some ⟨k,n,nm,a,ks,r⟩⟩,pk,i,⟨h1,_,h3,h4⟩=>by
  have a1:=nm_qu K ks k 0 h3;have a2:=nm_qu K r pk (i+1) h4;have e2:¬(pk=21/\i+1=0):=fun h=>by omega
  rw[if_neg e2] at a2;simp only[nmF,quF];by_cases e:pk=21/\i=0
  ·have:=h1.2 e
   rw[if_pos e];rw[if_neg (show ¬(k=21/\0=0) by omega)] at a1;rw[if_neg (show ¬k=21 by omega)];split<;>omega
  ·have:¬(22<=k/\k<=25):=fun h=>e (h1.1 h)
   rw[if_neg e,if_neg (show ¬k=23 by omega)];by_cases e21:k=21
   ·rw[if_pos ⟨e21,rfl⟩] at a1;rw[if_pos e21];omega
   ·rw[if_neg (fun h=>e21 h.1)] at a1;rw[if_neg e21];omega
theorem cnt_F (K:Nat->Int)(nc:Nat):∀ (f:Fs) (pk:Int) (i d:Nat),okF nc f->skF K f pk i->nesF f<=d ->
  ∃b,quF f<=d*b/\2*quF f+b+(if pk=21/\i=0/\f.len≠0 then 1 else 0)<=szF f/\((if pk=21/\i=0 then 2 else 1)<=f.len->1<=b)
 | ⟨none⟩,pk,i,d,_,_,_=>⟨0,Nat.zero_le _,by simp[quF,szF,Fs.len],fun h=>by
   have:(if pk=21/\i=0 then 2 else 1)<=0:=h
   split at this<;>omega⟩
 | ⟨some ⟨k,n,nm,a,ks,r⟩⟩,pk,i,d,ho,⟨h1,_,h3,h4⟩,hd=>by
  simp only[nesF] at hd;obtain⟨b1,p1,p2,p3⟩:=cnt_F K nc ks k 0 (d-if k=21 then 1 else 0) ho.2.1 h3 (by omega);obtain⟨b2,q1,q2,q3⟩:=cnt_F K nc r pk (i+1) d ho.2.2 h4 (by omega);have e2:¬(pk=21/\i+1=0):=fun h=>by omega
  rw[if_neg (fun h=>e2 ⟨h.1,h.2.1⟩)] at q2;rw[if_neg e2] at q3;have hlen:Fs.len ⟨some ⟨k,n,nm,a,ks,r⟩⟩=r.len+1:=rfl;generalize Fs.len ⟨some ⟨k,n,nm,a,ks,r⟩⟩=L at hlen ⊢;simp only[quF,szF];have hm:=Nat.mul_add d b1 b2;by_cases e:pk=21/\i=0
  ·have hk:=h1.2 e;have n21:¬k=21:=by omega
   rw[if_neg n21,Nat.sub_zero] at p1;rw[if_neg (fun h=>n21 h.1)] at p2;rw[if_neg n21,if_pos (show pk=21/\i=0/\L≠0 from ⟨e.1,e.2,by omega⟩),if_pos e];exact⟨b1+b2,by omega,by omega,fun h=>by have:=q3 (by omega);omega⟩
  ·rw[if_neg (show ¬(pk=21/\i=0/\L≠0) from fun h=>e ⟨h.1,h.2.1⟩),if_neg e];by_cases e21:k=21
   ·have hl:ks.len=2:=((doc_lenq ho.1.1).2.2.2.2.1 e21).1;rw[if_pos ⟨e21,rfl⟩] at p3;have hb:=p3 (by omega);rw[if_pos e21] at p1 hd ⊢;rw[if_pos ⟨e21,rfl,by omega⟩] at p2;have hs:(d-1)*b1+b1=d*b1:=by
     obtain⟨c,rfl⟩:∃c,d=c+1:=⟨d-1,by omega⟩
     rw[Nat.add_sub_cancel,Nat.succ_mul]
    exact⟨b1+b2,by omega,by omega,fun _=>by omega⟩
   ·rw[if_neg e21,Nat.sub_zero] at p1;rw[if_neg (fun h=>e21 h.1)] at p2 p3;rw[if_neg e21];by_cases hz:ks.len=0
    ·obtain⟨z1,z2,-,-⟩:=len_z ks hz;have hm1:=Nat.mul_add d 1 b2;exact⟨1+b2,by omega,by omega,fun _=>by omega⟩
    ·have:=p3 (by omega)
     exact⟨b1+b2,by omega,by omega,fun _=>by omega⟩
theorem keepP_fst {cells:List Int}{n:Int}{ks:Fs}{ar:Nat}{s s':Rg}(h:keepP cells n ks ar s=some s'):s'.1=s.1:=by
 unfold keepP at h;split at h
 ·cases h
 ·split at h
  ·cases h
  ·split at h
   ·injection h with h;subst h;rfl
   ·split at h
    ·injection h with h;subst h;rfl
    ·cases h
theorem rg_cnt (cells:List Int)(nc:Nat):∀ (f:Fs) (pk:Int) (i ar wi:Nat) (s s':Rg) (kd:List Int),okF nc f->rgF cells f pk i ar wi s=some (s',kd) ->
  s'.1=s.1+szF f/\(s.1<=4096->s'.1<=4096)/\(f.len≠0->wi+(if pk=21 then 1 else 0)+nesF f<=4)
 | ⟨none⟩,pk,i,ar,wi,s,s',kd,_,h=>by
  simp only[rgF] at h;injection h with h
  injection h with h1 h2
  subst h1;exact⟨rfl,id,fun h=>absurd rfl h⟩
 | ⟨some ⟨k,n,nm,a,ks,r⟩⟩,pk,i,ar,wi,s,s',kd,ho,h=>by
  obtain⟨s2,k2,rest,hx,hr,rfl⟩:=rg_kids _ pk i ar wi s s' kd h ⟨k,n,nm,a,ks⟩ r rfl;obtain⟨hg,s1,kd1,hk,hl,h0,h1,h2,h3⟩:=rgE_inv hx;simp only at hk hl h0 h1 h2 h3;obtain⟨a1,a2,a3⟩:=rg_cnt cells nc ks k 0 _ _ _ _ _ ho.2.1 hk;obtain⟨b1,b2,b3⟩:=rg_cnt cells nc r pk (i+1) ar wi _ _ _ ho.2.2 hr;have e1:s2.1=s1.1:=by
   split at h3
   ·exact keepP_fst h3
   ·injection h3 with h3;rw[h3]
  unfold gdE at hg;simp only[not_or] at hg;obtain⟨y1,y2,-,-⟩:=hg;have hsp:(spotP pk i ar wi).2=wi+(if pk=21 then 1 else 0):=by
   unfold spotP;split<;>rfl
  simp only at a1 a2;refine⟨by simp only[szF];omega,fun _=>by have:=a2 (by omega);exact b2 (by omega),fun _=>?_⟩;simp only[nesF];have hr4:wi+(if pk=21 then 1 else 0)+nesF r<=4:=by
   by_cases hz:r.len=0
   ·rw[(len_z r hz).2.2.1];omega
   ·exact b3 hz
  have hk4:wi+(if pk=21 then 1 else 0)+(nesF ks+if k=21 then 1 else 0)<=4:=by
   by_cases hz:ks.len=0
   ·rw[(len_z ks hz).2.2.1]
    have:¬k=21:=fun e=>by have:=((doc_lenq ho.1.1).2.2.2.2.1 e).1;omega
    rw[if_neg this];omega
   ·have:=a3 hz
    omega
  omega
theorem nam_A {cells:List Int}{e:Ex}(h:kindP cells e≠0)(ho:okE cells.length e):nesF (one e)<=4/\(emA cells e).ns.length<=2000/\∀ x ∈ (emA cells e).ns,nameB x=true:=by
 have ho':okF cells.length (one e):=⟨ho.1,ho.2,trivial⟩
 obtain⟨h4,s,hs⟩:=kindP_one h;obtain⟨K,-,k1,k2,k3⟩:=sk_of h ho;obtain⟨c1,c2,c3⟩:=rg_cnt cells cells.length (one e) 0 0 0 0 _ _ _ ho' hs;have hn:nesF (one e)<=4:=by simpa using c3 (by simp[one,Fs.len])
 have hsk:skF K (one e) 0 0:=⟨⟨fun h=>absurd h k1,fun h=>absurd h.1 (by decide)⟩,k2,k3,trivial⟩
 have hq:=nm_qu K (one e) 0 0 hsk;obtain⟨b,q1,q2,-⟩:=cnt_F K cells.length (one e) 0 0 4 ho' hsk hn;have hsz:szF (one e)<=4096:=by have:=c2 (by simp);simp at c1;omega
 obtain⟨a,b',t1,-,t3⟩:=cn_F cells cells.length (one e) ho';have T:=t1 0 0 (em0 cells);have hns:(emA cells e).ns=(emE cells e 0 0 (em0 cells)).ns:=rfl;refine⟨hn,?_,fun x hx=>?_⟩
 ·have hl:(emA cells e).ns.length<=0+a:=T.len;simp at hq q2;omega
 ·rcases T.nam x hx with hx|hx
  ·simp[em0] at hx
  ·exact hx
def cdM (s:Em):Cd:=⟨s.ws.map encW,s.cs,s.ns.map (fun x=>⟨x.toArray⟩),s.ks⟩
theorem rg_okx (cells:List Int)(nc:Nat):∀ (f:Fs) (pk:Int) (i ar wi:Nat) (s s':Rg) (kd:List Int),okF nc f->rgF cells f pk i ar wi s=some (s',kd)->(∀ i x,s.2 i=some x->okE nc x)->∀ i x,s'.2 i=some x->okE nc x
 | ⟨none⟩,pk,i,ar,wi,s,s',kd,_,h,hs=>by
  simp only[rgF] at h;injection h with h
  injection h with h1 h2
  subst h1;exact hs
 | ⟨some ⟨k,n,nm,a,ks,r⟩⟩,pk,i,ar,wi,s,s',kd,ho,h,hs=>by
  obtain⟨s2,k2,rest,hx,hr,rfl⟩:=rg_kids _ pk i ar wi s s' kd h ⟨k,n,nm,a,ks⟩ r rfl;obtain⟨hg,s1,kd1,hk,hl,h0,h1,h2,h3⟩:=rgE_inv hx;simp only at hk hl h0 h1 h2 h3;have a1:=rg_okx cells nc ks k 0 _ _ _ _ _ ho.2.1 hk hs;refine rg_okx cells nc r pk (i+1) ar wi _ _ _ ho.2.2 hr (fun j x hj=>?_);by_cases e:k=26
  ·rw[if_pos e] at h3;subst e;rcases keepP_inv h3 with ⟨b1,b2⟩|⟨z,b1,b2,rfl⟩
   ·rw[b2] at hj;simp only at hj;by_cases e:j=n.toNat
    ·rw[if_pos e] at hj;injection hj with hj
     subst hj;exact head_ok (doc26 ho.1.1) ho.2.1
    ·rw[if_neg e] at hj;exact a1 j x hj
   ·exact a1 j x hj
  ·rw[if_neg e] at h3;injection h3 with h3
   subst h3;exact a1 j x hj
theorem ks_A {cells:List Int}{e:Ex}(h:kindP cells e≠0)(ho:okE cells.length e):∀ k ∈ (emA cells e).ks,1<=k/\k<=3:=by
 obtain⟨h4,s,hs⟩:=kindP_one h;have ho':okF cells.length (one e):=⟨ho.1,ho.2,trivial⟩
 have hx:=rg_okx cells cells.length (one e) 0 0 0 0 _ _ _ ho' hs (fun i x q=>by cases q)
 let K:Nat->Int:=fun i=>match s.2 i with|none=>1|some x=>kdE x
 have hK:∀ i x,s.2 i=some x->kdE x=K i:=fun i x q=>by simp only[K];rw[q]
 have hb:∀ i,1<=K i/\K i<=3:=fun i=>by
  simp only[K];cases hi:s.2 i with
  | none=>simp
  | some x=>exact kdE_bd (hx i x hi)
 intro k hk;obtain⟨i,hi⟩:=List.mem_iff_getElem?.1 hk;obtain⟨c,-⟩:=ck_F K i cells cells cells.length (one e) 0 0 0 0 _ _ _ ho' hs hK;have C:=c (emE cells e) (List.mem_singleton.2 rfl) 0 0 (em0 cells);have hks:(emA cells e).ks=(emE cells e 0 0 (em0 cells)).ks:=rfl;rw[hks] at hi;have hl:=(List.getElem?_eq_some_iff.1 hi).1;rw[C.len] at hl;have hg:(emE cells e 0 0 (em0 cells)).ks.getD i 0=k:=by rw[List.getD_eq_getElem?_getD,hi];rfl
 rcases C.or with h|h
 ·rw[hg] at h;simp only[em0,List.length_replicate] at hl;simp[em0,List.getD_eq_getElem?_getD,List.getElem?_replicate,hl] at h;omega
 ·rw[hg] at h;rw[h];exact hb i
theorem nodup_le:∀ {l m:List Nat},l.Nodup->(∀ a ∈ l,a ∈ m)->l.length<=m.length
 | [],_,_,_=>Nat.zero_le _
 | x::l,m,hn,hs=>by
  have hx:=hs x (List.mem_cons_self ..);have h1:=nodup_le (l:=l) (m:=m.erase x) (List.nodup_cons.1 hn).2 (fun a ha=>by
   have hne:a≠x:=fun e=>by subst e;exact(List.nodup_cons.1 hn).1 ha
   exact(List.mem_erase_of_ne hne).2 (hs a (List.mem_cons_of_mem _ ha)))
  have h2:=List.length_erase_of_mem hx;have h3:=List.length_pos_of_mem hx;simp only[List.length_cons];omega
theorem cs_le {s:Em}(h:Inv s):s.cs.length<=s.ws.length:=by
 have hf:∀ n,n<=s.cs.length->∃l:List Wo,l.length=n/\(∀ x ∈ l,x ∈ s.ws)/\l.map (·.a)=List.range n:=by
  intro n hn
  induction n with
  | zero=>exact⟨[],rfl,fun x hx=>by simp at hx,rfl⟩
  | succ n ih =>
   obtain⟨l,h1,h2,h3⟩:=ih (by omega);obtain⟨x,hx,-,ha⟩:=h.uc n (by omega);exact⟨l++[x],by simp[h1],fun y hy=>by
    rcases List.mem_append.1 hy with hy|hy
    ·exact h2 y hy
    ·rw[List.mem_singleton.1 hy];exact hx,by simp[h3,ha,List.range_succ]⟩
 obtain⟨l,h1,h2,h3⟩:=hf _ (Nat.le_refl _)
 have:=nodup_le (l:=l.map (·.a)) (m:=s.ws.map (·.a)) (by rw[h3];exact List.nodup_range) (fun a ha=>by
  obtain⟨x,hx,rfl⟩:=List.mem_map.1 ha;exact List.mem_map.2 ⟨x,h2 x hx,rfl⟩)
 simp only[List.length_map] at this;omega
theorem nameB_g (x:List UInt8):nameBG x=nameB x:=rfl
theorem wrd_A {s:Em}{nc:Nat}(hi:Inv s)(hw:WokS nc s){x:Wo}(hx:x ∈ s.ws)(ho:x.ok)(h23:x.op=23->x.a<=1024):wrdB (cdM s) (encW x)=true:=by
 obtain⟨e1,e2,e3⟩:=encW_parts ho;unfold wrdB opW aW bW;rw[e1,e2,e3];have hq:=hw.2 x hx;have c1:=hi.wc x hx;have c2:=hi.wn x hx;have hk:=hw.1;obtain⟨o,a,b⟩:=x;unfold WokQ at hq;simp only at *;have hcs:∀ v,s.cs[a]?=some v->(cdM s).cs.getD (a:Int).toNat 0=v:=fun v hv=>by
  show s.cs.getD (a:Int).toNat 0=v;rw[Int.toNat_natCast,List.getD_eq_getElem?_getD,hv];rfl
 have hcl:(cdM s).cs.length=s.cs.length:=rfl;have hnl:(cdM s).ns.length=s.ns.length:=by simp[cdM]
 have hkl:(cdM s).ks.length=nc:=hk;have ho28:o<28:=by
  by_cases h:o<28
  ·exact h
  ·exfalso
   repeat rw[if_neg (by omega)] at hq
   exact h hq.1
 by_cases e1:o=1
 ·subst e1;have hc:=c1 (.inl rfl);rw[if_pos rfl] at hq;obtain⟨hb,v,hv,-,hv2⟩:=hq;rcases hb with rfl|rfl
  ·simp[wrdD,within,hcl];omega
  ·simp only[wrdD,within,hcl,hcs v hv];rcases hv2 rfl with rfl|rfl<;>(simp;omega)
 by_cases e2:o=2
 ·subst e2;have hc:=c1 (.inr rfl);rw[if_neg (by decide),if_pos rfl] at hq;obtain⟨rfl,v,hv,-,hv2⟩:=hq;simp only[wrdD,within,hcl,hcs v hv];simp;omega
 rw[if_neg e1,if_neg e2] at hq;clear hcs c1;clear hi hw hk;have hc:o=0\/o=3\/o=4\/o=5\/o=6\/o=7\/o=8\/o=9\/o=10\/o=11\/o=12\/o=13\/o=14\/o=15\/o=16\/o=17\/o=18\/o=19\/o=20\/o=21\/o=22\/o=23\/o=24\/o=25\/o=26\/o=27:=by omega
 clear e1 e2 ho28;rcases hc with rfl|rfl|rfl|rfl|rfl|rfl|rfl|rfl|rfl|rfl|rfl|rfl|rfl|rfl|rfl|rfl|rfl|rfl|rfl|rfl|rfl|rfl|rfl|rfl|rfl|rfl<;>(simp at hq c2 h23;simp[wrdD,within,hkl,hnl];try omega)
theorem opN_M {s:Em}{i:Nat}{x:Wo}(hx:s.ws[i]?=some x)(ho:x.ok):opN (cdM s) i=x.op/\aN (cdM s) i=x.a/\bN (cdM s) i=x.b:=by
 obtain⟨e1,e2,e3⟩:=encW_parts ho;have e:(cdM s).ws.getD i 0=encW x:=by
  show (s.ws.map encW).getD i 0=encW x;rw[List.getD_eq_getElem?_getD,List.getElem?_map,hx];rfl
 refine⟨?_,?_,?_⟩
 ·show ((cdM s).ws.getD i 0 / 72057594037927936).toNat=x.op;rw[e,e1,Int.toNat_natCast]
 ·show ((cdM s).ws.getD i 0 / 268435456 % 268435456).toNat=x.a;rw[e,e2,Int.toNat_natCast]
 ·show ((cdM s).ws.getD i 0 % 268435456).toNat=x.b;rw[e,e3,Int.toNat_natCast]
theorem sc_inv {c:Cd}{nq:Nat}{x:Wo}{i:Nat}{s:StQ}{l:List (Nat × StQ)}(h:scV c nq x i s=some l):(x.op=13/\l=[(x.a,s)]) \/
  (x.op≠13/\x.op≠0/\(20<=x.op->x.op<=23->s.2<nq)/\s.1.length<=1024/\∃t d,passF c x.op x.a x.b s=.inr t/\leadF c x.op x.a t=some d/\l=(i+1,t)::(match ledTo x.op x.a x.b with|none=>[] | some q=>[(q,d)])):=by
 unfold scV at h;by_cases e:x.op=13
 ·rw[if_pos e] at h;injection h with h
  exact .inl ⟨e,h.symm⟩
 ·rw[if_neg e] at h;by_cases e2:x.op=0\/(20<=x.op/\x.op<=23/\¬s.2<nq)\/1024<s.1.length
  ·rw[if_pos e2] at h;cases h
  ·rw[if_neg e2] at h;refine .inr ⟨e,fun h0=>e2 (.inl h0),fun a b=>?_,?_,?_⟩
   ·by_cases e3:s.2<nq
    ·exact e3
    ·exact absurd (.inr (.inl ⟨a,b,e3⟩)) e2
   ·by_cases e3:1024<s.1.length
    ·exact absurd (.inr (.inr e3)) e2
    ·omega
   ·split at h
    ·cases h
    ·rename_i t ht
     split at h
     ·cases h
     ·rename_i d hd
      injection h with h
      exact⟨t,d,ht,hd,h.symm⟩
theorem ok_A {cells:List Int}{e:Ex}(h:kindP cells e≠0)(ho:okE cells.length e)(hl:(emA cells e).ws.length<=32768)(hd:(emA cells e).dp<=1024):∀ x ∈ (emA cells e).ws,x.ok:=by
 obtain⟨hn,hns,hnm⟩:=nam_A h ho;obtain⟨hi,hw⟩:=wok_A cells e ho;obtain⟨hcl,-,-⟩:=kindP_inv h;obtain⟨n,n1,n2,hseg⟩:=tk_A h ho (Nat.le_refl _) (scV_q (cdM (emA cells e)) (nesF (one e)) hn) hd;obtain⟨-,σ,s0,sn,hst,-⟩:=hseg;have hcs:=cs_le hi;intro x hx;obtain⟨i,hxi⟩:=List.mem_iff_getElem?.1 hx;have hil:=(List.getElem?_eq_some_iff.1 hxi).1;have hj:i<n->((x.op=13\/x.op=14\/x.op=15\/x.op=24->x.a<=n)/\(x.op=17->x.b<=n)/\(x.op=23->x.a<=1024)):=fun hin=>by
  obtain⟨x',hx',l,hs,hy⟩:=hst i (Nat.zero_le _) hin;rw[hxi] at hx';injection hx' with hx'
  subst hx';have hv:=sc_inv hs;rcases hv with ⟨a,rfl⟩|⟨a1,a2,a3,a4,t,d,hp,hld,rfl⟩
  ·have:=(hy (x.a,σ i) (by simp)).elim (fun h=>h.2.1) (fun h=>h.elim)
   exact⟨fun _=>this,fun h=>by omega,fun h=>by omega⟩
  ·refine⟨fun hj=>?_,fun hj=>?_,fun h23=>?_⟩
   ·have hlt:ledTo x.op x.a x.b=some x.a:=by rcases hj with e|e|e|e<;>simp[ledTo,e]
    exact(hy (x.a,d) (by rw[hlt];simp)).elim (fun h=>h.2.1) (fun h=>h.elim)
   ·have hlt:ledTo x.op x.a x.b=some x.b:=by simp[ledTo,hj]
    exact(hy (x.b,d) (by rw[hlt];simp)).elim (fun h=>h.2.1) (fun h=>h.elim)
   ·unfold passF at hp;split at hp
    ·split at hp
     ·rename_i hdr
      have he:(effE (cdM (emA cells e)) x.op x.a x.b).1=List.replicate x.a 3:=by rw[h23];rfl
      rw[he] at hdr
      have:=congrArg List.length hdr
      simp only[List.length_drop,List.length_replicate] at this;omega
     ·cases hp
    ·cases hp
 have hq:=hw.2 x hx;have c1:=hi.wc x hx;have c2:=hi.wn x hx;by_cases hin:i<n
 ·obtain⟨j1,j2,j3⟩:=hj hin;obtain⟨o,a,b⟩:=x;unfold WokQ at hq;unfold Wo.ok;simp only at *;by_cases e1:o=1
  ·have:=c1 (.inl e1)
   rw[if_pos e1] at hq
   have:=hq.1
   omega
  by_cases e2:o=2
  ·have:=c1 (.inr e2)
   rw[if_neg e1,if_pos e2] at hq
   have:=hq.1
   omega
  rw[if_neg e1,if_neg e2] at hq;clear c1
  repeat' split at hq
  all_goals omega
 ·obtain rfl:i=n:=by omega
  rw[n2] at hxi;injection hxi with hxi
  rw[<-hxi];exact⟨by decide,by decide,by decide⟩
theorem name_sz {x:List UInt8}(h:nameB x=true):x.length<=12:=by
 unfold nameB at h;split at h
 ·cases h
 ·simp at h;simp;omega
theorem cdM_ok {cells:List Int}{e:Ex}(h:kindP cells e≠0)(ho:okE cells.length e)(hl:(emA cells e).ws.length<=32768)(hd:(emA cells e).dp<=1024):(cdM (emA cells e)).Ok:=by
 have hok:=ok_A h ho hl hd;obtain⟨hi,hw⟩:=wok_A cells e ho;refine⟨fun u hu=>?_,fun u hu=>?_,fun u hu=>?_,fun b hb=>?_⟩
 ·obtain⟨x,hx,rfl⟩:=List.mem_map.1 (show u ∈ (emA cells e).ws.map _ from hu);exact encW_bd (hok x hx)
 ·obtain⟨i,hui⟩:=List.mem_iff_getElem?.1 (show u ∈ (emA cells e).cs from hu);obtain⟨x,hx,ho2,ha⟩:=hi.uc i (List.getElem?_eq_some_iff.1 hui).1;have hq:=hw.2 x hx;unfold WokQ at hq;have hv:∃v,(emA cells e).cs[x.a]?=some v/\rgQ v:=by
   by_cases e1:x.op=1
   ·rw[if_pos e1] at hq;obtain⟨-,v,a,b,-⟩:=hq;exact⟨v,a,b⟩
   ·rw[if_neg e1,if_pos (ho2.resolve_left e1)] at hq;obtain⟨-,v,a,b,-⟩:=hq;exact⟨v,a,b⟩
  obtain⟨v,hv1,hv2⟩:=hv;rw[ha,hui] at hv1;injection hv1 with hv1
  rw[hv1];exact hv2
 ·have:=ks_A h ho u hu
  omega
 ·obtain⟨x,hx,rfl⟩:=List.mem_map.1 (show b ∈ (emA cells e).ns.map _ from hb)
  have:=name_sz ((nam_A h ho).2.2 x hx)
  show x.toArray.size<=maxLen;unfold maxLen;simp;omega
theorem tk_taken {cells:List Int}{e:Ex}(h:kindP cells e≠0)(ho:okE cells.length e)(hl:(emA cells e).ws.length<=32768)(hd:(emA cells e).dp<=1024) :
  ∃st rd,vrfA (cdM (emA cells e))=((st,rd,(kindP cells e).toNat),0,0)/\1<=st/\st<=1024/\rd<=nesF (one e):=by
 have hok:=ok_A h ho hl hd;have hc:=cdM_ok h ho hl hd;obtain⟨hn,hns,hnm⟩:=nam_A h ho;have hks:=ks_A h ho;obtain⟨hi,hw⟩:=wok_A cells e ho;obtain⟨hcl,-,-⟩:=kindP_inv h;obtain⟨n,n1,n2,hseg⟩:=tk_A h ho (Nat.le_refl _) (scV_q (cdM (emA cells e)) (nesF (one e)) hn) hd;obtain⟨-,σ,s0,sn,hst,hre⟩:=hseg;have hkp:1<=kindP cells e:=by
  have:=(kdE_bd ho).1
  rwa [(tk_E h ho (Nat.le_refl _) (scV_q (cdM (emA cells e)) (nesF (one e)) hn)).2] at this
 have hW:∀ i,i<n->∃x,(emA cells e).ws[i]?=some x/\x.ok/\∃l,scV (cdM (emA cells e)) (nesF (one e)) x i (σ i)=some l/\∀ y ∈ l,y.1<=n/\y.2=σ y.1:=fun i hi=>by
  obtain⟨x,hx,l,h1,h2⟩:=hst i (Nat.zero_le _) hi;exact⟨x,hx,hok x (List.mem_of_getElem? hx),l,h1,fun y hy=>(h2 y hy).elim (fun h=>⟨h.2.1,h.2.2⟩) (fun h=>h.elim)⟩
 have hr:rgtB (cdM (emA cells e))=true:=by
  have h23:∀ x ∈ (emA cells e).ws,x.op=23->x.a<=1024:=fun x hx h23=>by
   obtain⟨i,hi⟩:=List.mem_iff_getElem?.1 hx;have hil:=(List.getElem?_eq_some_iff.1 hi).1;by_cases hin:i<n
   ·obtain⟨x',hx',-,l,hs,-⟩:=hW i hin;rw[hi] at hx';injection hx' with hx'
    subst hx';have hv:=sc_inv hs;rcases hv with ⟨a,-⟩|⟨-,-,-,b,t,d,hp,-⟩
    ·omega
    ·unfold passF at hp;split at hp
     ·split at hp
      ·rename_i hdr
       have he:(effE (cdM (emA cells e)) x.op x.a x.b).1=List.replicate x.a 3:=by rw[h23];rfl
       rw[he] at hdr
       have:=congrArg List.length hdr
       simp only[List.length_drop,List.length_replicate] at this;omega
      ·cases hp
     ·cases hp
   ·obtain rfl:i=n:=by omega
    rw[n2] at hi;injection hi with hi
    rw[<-hi] at h23;cases h23
  have hcs:=cs_le hi;unfold rgtB lstB lenB wdsB;simp only[Bool.and_eq_true,decide_eq_true_eq,List.all_eq_true];refine⟨⟨⟨⟨⟨?_,?_⟩,?_⟩,fun b hb=>?_⟩,fun k hk=>?_⟩,⟨?_,?_⟩,fun u hu=>?_⟩
  ·show (emA cells e).cs.length<=32768;omega
  ·simpa [cdM] using hns
  ·show (emA cells e).ks.length<=256;rw[hw.1];exact hcl
  ·obtain⟨x,hx,rfl⟩:=List.mem_map.1 (show b ∈ (emA cells e).ns.map _ from hb);rw[nameB_g];exact hnm x hx
  ·have:=hks k hk
   simp[kndB];omega
  ·simp[cdM];omega
  ·simpa [cdM] using hl
  ·obtain⟨x,hx,rfl⟩:=List.mem_map.1 (show u ∈ (emA cells e).ws.map _ from hu);exact wrd_A hi hw hx (hok x hx) (h23 x hx)
 refine vrf_of (σ:=σ) (n:=n) (N:=nesF (one e)) (k:=(kindP cells e).toNat) hc hr ⟨by simpa [cdM] using n1,s0,sn,by omega,?_,fun i hi=>?_,fun Kn hk h0=>?_⟩
 ·exact(opN_M n2 (hok _ (List.mem_of_getElem? n2))).1
 ·obtain⟨x,hx,hxo,l,hs,hy⟩:=hW i hi;obtain⟨o1,o2,o3⟩:=opN_M hx hxo;have hv:=sc_inv hs;rcases hv with ⟨a,rfl⟩|⟨a1,a2,a3,a4,t,d,hp,hld,rfl⟩
  ·refine⟨by rw[o1,a];decide,fun hlen=>⟨σ i,σ i,?_,?_,fun h=>absurd (o1.trans a) h,fun q hq=>?_⟩,fun b c=>by rw[o1,a] at b;omega⟩
   ·rw[o1,a]
    have:=pass_pop (c:=cdM (emA cells e)) (o:=13) (a:=aN (cdM (emA cells e)) i) (b:=bN (cdM (emA cells e)) i) (σ i).1 [] [] (σ i).2 rfl rfl (by simpa using hlen)
    rw[List.append_nil] at this;exact this
   ·rw[o1,a];rfl
   ·rw[o1,a,o2] at hq;simp[ledTo] at hq;subst hq;exact hy (x.a,σ i) (by simp)
  ·refine⟨by rw[o1];exact a2,fun _=>⟨t,d,by rw[o1,o2,o3];exact hp,by rw[o1,o2];exact hld,fun _=>?_,fun q hq=>?_⟩,by rw[o1];exact a3⟩
   ·exact hy (i+1,t) (by simp)
   ·rw[o1,o2,o3] at hq;exact hy (q,d) (by rw[hq];simp)
 ·refine hre Kn (fun i x l y _ hi hx hs hy hki=>?_) h0;have hxo:=hok x (List.mem_of_getElem? hx);obtain⟨o1,o2,o3⟩:=opN_M hx hxo;obtain⟨k1,k2⟩:=hk i hi hki;rw[o1,o2,o3] at k2;rw[o1] at k1;have hv:=sc_inv hs;rcases hv with ⟨a,rfl⟩|⟨a1,a2,a3,a4,t,d,hp,hld,rfl⟩
  ·obtain rfl:=List.mem_singleton.1 hy;exact k2 x.a (by simp[ledTo,a])
  ·rcases List.mem_cons.1 hy with rfl|hy
   ·exact k1 a1
   ·cases hq:ledTo x.op x.a x.b with
    | none=>rw[hq] at hy;cases hy
    | some q =>
     rw[hq] at hy;obtain rfl:=List.mem_singleton.1 hy;exact k2 q hq
open Go.RowKit
def grp:List Nat->Nat
 | []=>0
 | k::t=>k+4*grp t
def gk (l:List Nat)(i:Nat):Nat:=grp ((l.drop (32*i)).take 32)
theorem grp_lt:∀ l:List Nat,(∀ k ∈ l,k<=3)->grp l<4 ^ l.length
 | [],_=>by simp[grp]
 | k::t,h=>by
  have h1:=grp_lt t (fun x hx=>h x (List.mem_cons_of_mem _ hx));have h2:=h k (List.mem_cons_self ..);simp only[grp,List.length_cons,Nat.pow_succ];omega
theorem grp_snoc (k:Nat):∀ l:List Nat,grp (l++[k])=grp l+k*4 ^ l.length
 | []=>by simp[grp]
 | x::t=>by
  simp only[List.cons_append,grp,grp_snoc k t,List.length_cons,Nat.pow_succ];rw[Nat.mul_add,show k*(4 ^ t.length*4)=4*(k*4 ^ t.length) by rw[<-Nat.mul_assoc,Nat.mul_comm]];omega
theorem grp_inj:∀ l m:List Nat,(∀ k ∈ l,1<=k/\k<=3)->(∀ k ∈ m,1<=k/\k<=3)->grp l=grp m->l=m
 | [],[],_,_,_=>rfl
 | [],k::t,_,h,e=>by
  have:=h k (List.mem_cons_self ..)
  simp only[grp] at e;omega
 | k::t,[],h,_,e=>by
  have:=h k (List.mem_cons_self ..)
  simp only[grp] at e;omega
 | k::t,k'::t',h,h',e=>by
  have h1:=h k (List.mem_cons_self ..);have h2:=h' k' (List.mem_cons_self ..);simp only[grp] at e;have e1:k=k':=by omega
  have e2:grp t=grp t':=by omega
  rw[e1,grp_inj t t' (fun x hx=>h x (List.mem_cons_of_mem _ hx)) (fun x hx=>h' x (List.mem_cons_of_mem _ hx)) e2]
theorem gk_top {l:List Nat}(h:∀ k ∈ l,1<=k/\k<=3){h0:Nat}(hl:l.length=h0):gk l (h0 / 32)=grp (l.drop (32*(h0 / 32)))/\gk l (h0 / 32)<4 ^ (h0 % 32):=by
 have h1:(l.drop (32*(h0 / 32))).length=h0 % 32:=by rw[List.length_drop];omega
 have e:gk l (h0 / 32)=grp (l.drop (32*(h0 / 32))):=by
  unfold gk;rw[List.take_of_length_le (by omega)]
 refine⟨e,?_⟩;rw[e,<-h1];exact grp_lt _ (fun k hk=>(h k (List.mem_of_mem_drop hk)).2)
theorem gk_snoc (l:List Nat)(k i:Nat):gk (l++[k]) i=if i=l.length / 32 then gk l i+k*4 ^ (l.length % 32) else gk l i:=by
 by_cases h:i=l.length / 32
 ·rw[if_pos h];subst h;have h1:(l.drop (32*(l.length / 32))).length=l.length % 32:=by rw[List.length_drop];omega
  unfold gk;rw[List.drop_append_of_le_length (by omega),List.take_of_length_le (by simp;omega),List.take_of_length_le (by omega),grp_snoc,h1]
 ·rw[if_neg h];unfold gk;by_cases hi:i<l.length / 32
  ·rw[List.drop_append_of_le_length (by omega),List.take_append_of_le_length (by rw[List.length_drop];omega)]
  ·have h2:l.length<32*i:=by omega
   rw[List.drop_of_length_le (by simp;omega),List.drop_of_length_le (by omega)]
theorem gk_inj {l m:List Nat}(hl:∀ k ∈ l,1<=k/\k<=3)(hm:∀ k ∈ m,1<=k/\k<=3)(ll:l.length<=1024)(lm:m.length<=1024)(h:∀ i,i<32->gk l i=gk m i):l=m:=by
 have hc:∀ i,i<32->(l.drop (32*i)).take 32=(m.drop (32*i)).take 32:=fun i hi =>
  grp_inj _ _ (fun k hk=>hl k (List.mem_of_mem_drop (List.mem_of_mem_take hk))) (fun k hk=>hm k (List.mem_of_mem_drop (List.mem_of_mem_take hk))) (h i hi)
 apply List.ext_getElem?;intro j;by_cases hj:j<1024
 ·have h1:=hc (j / 32) (by omega);have h2:∀ x:List Nat,((x.drop (32*(j / 32))).take 32)[j % 32]?=x[j]?:=fun x=>by
   rw[List.getElem?_take,if_pos (by omega),List.getElem?_drop]
   congr 1
   omega
  rw[<-h2 l,<-h2 m,h1]
 ·rw[List.getElem?_eq_none (by omega),List.getElem?_eq_none (by omega)]
def kdV (l:List Nat):List Value:=(List.range 32).map fun i=>.int .u64 (gk l i:Nat)
def stC (s:StG):List Value:=kdV s.1++[.int .i64 (s.1.length:Nat),.int .i64 (s.2:Nat)]
theorem kdV_len (l:List Nat):(kdV l).length=32:=by simp[kdV]
theorem stC_len (s:StG):(stC s).length=34:=by simp[stC,kdV_len]
theorem kdV_get (l:List Nat){i:Nat}(h:i<32):(kdV l)[i]?=some (.int .u64 (gk l i:Nat)):=by simp[kdV,h]
theorem stC_get (s:StG){i:Nat}(h:i<32):(stC s)[i]?=some (.int .u64 (gk s.1 i:Nat)):=by
 unfold stC;rw[List.getElem?_append_left (by rw[kdV_len];exact h),kdV_get _ h]
theorem stC_ht (s:StG):(stC s)[32]?=some (.int .i64 (s.1.length:Nat)):=by
 unfold stC;rw[List.getElem?_append_right (by rw[kdV_len];omega),kdV_len];rfl
theorem stC_rd (s:StG):(stC s)[33]?=some (.int .i64 (s.2:Nat)):=by
 unfold stC;rw[List.getElem?_append_right (by rw[kdV_len];omega),kdV_len];rfl
theorem stC_one (s:StG):∀ v ∈ stC s,v.oneCell'=true:=fun v hv=>by
 simp only[stC,kdV,List.mem_append,List.mem_map,List.mem_cons,List.not_mem_nil,or_false] at hv;rcases hv with ⟨i,_,rfl⟩|rfl|rfl<;>rfl
theorem stC_push (l:List Nat)(r k:Nat)(hl:l.length<1024):((stC (l,r)).set (l.length / 32) (.int .u64 ((gk l (l.length / 32)+k*4 ^ (l.length % 32):Nat):Nat))).set 32 (.int .i64 ((l.length+1:Nat):Nat))=stC (l++[k],r):=by
 apply List.ext_getElem?;intro i;rw[List.getElem?_set,List.getElem?_set];by_cases h32:i=32
 ·subst h32;rw[if_pos rfl,if_pos (by rw[List.length_set,stC_len];omega),stC_ht];simp
 ·rw[if_neg (fun e=>h32 e.symm)];by_cases hi:i<32
  ·rw[stC_get _ hi,stC_get _ hi]
   dsimp only
   rw[gk_snoc];by_cases e:l.length / 32=i
   ·rw[if_pos e,if_pos (by rw[stC_len];omega),if_pos e.symm,e]
   ·rw[if_neg e,if_neg (fun x=>e x.symm)]
  ·rw[if_neg (by omega)];by_cases h33:i=33
   ·subst h33;rw[stC_rd,stC_rd]
   ·rw[List.getElem?_eq_none (by rw[stC_len];omega),List.getElem?_eq_none (by rw[stC_len];omega)]
theorem stC_pop (l:List Nat)(r k:Nat)(hl:l.length<1024):((stC (l++[k],r)).set 32 (.int .i64 (l.length:Nat))).set (l.length / 32) (.int .u64 (gk l (l.length / 32):Nat))=stC (l,r):=by
 apply List.ext_getElem?;intro i;rw[List.getElem?_set,List.getElem?_set];by_cases hq:l.length / 32=i
 ·rw[if_pos hq,if_pos (by rw[List.length_set,stC_len];omega),stC_get _ (by omega),hq]
 ·rw[if_neg hq];by_cases h32:i=32
  ·subst h32;rw[if_pos rfl,if_pos (by rw[stC_len];omega),stC_ht]
  ·rw[if_neg (fun e=>h32 e.symm)];by_cases hi:i<32
   ·rw[stC_get _ hi,stC_get _ hi]
    dsimp only
    rw[gk_snoc,if_neg (fun e=>hq e.symm)]
   ·by_cases h33:i=33
    ·subst h33;rw[stC_rd,stC_rd]
    ·rw[List.getElem?_eq_none (by rw[stC_len];omega),List.getElem?_eq_none (by rw[stC_len];omega)]
theorem stC_rdset (s:StG)(r:Nat):(stC s).set 33 (.int .i64 (r:Nat))=stC (s.1,r):=by
 unfold stC;rw[List.set_append_right _ _ (by rw[kdV_len];omega),kdV_len];rfl
theorem pow4 (r:Nat):(2:Nat) ^ (r*2)=4 ^ r:=by rw[Nat.mul_comm,Nat.pow_mul]
theorem pk_lt {k r:Nat}(hk:k<=3)(hr:r<32):k*4 ^ r<=3*4 ^ r/\4 ^ r*4<=18446744073709551616:=by
 refine⟨Nat.mul_le_mul_right _ hk,?_⟩;have h:(4:Nat) ^ (r+1)<=4 ^ 32:=Nat.pow_le_pow_right (by decide) (by omega);rw[Nat.pow_succ] at h;have h4:(4:Nat) ^ 32=18446744073709551616:=by decide
 omega
theorem pk_wrap {k r:Nat}(hk:k<=3)(hr:r<32):IntKind.u64.wrap (((k:Nat):Int)*2 ^ (r*2))=((k*4 ^ r:Nat):Int):=by
 obtain⟨h1,h2⟩:=pk_lt hk hr;have e:(((k:Nat):Int)*2 ^ (r*2))=((k*4 ^ r:Nat):Int):=by rw[<-pow4];simp
 rw[e,IntKind.wrap_u64];omega
theorem pk_or {a k r:Nat}(hk:k<=3)(hr:r<32)(ha:a<4 ^ r):bits .or .u64 (a:Int) ((k*4 ^ r:Nat):Int)=((a+k*4 ^ r:Nat):Int):=by
 obtain⟨h1,h2⟩:=pk_lt hk hr;rw[u64_or _ _ (by omega) (by omega) (by omega) (by omega),Int.toNat_natCast,Int.toNat_natCast,Nat.or_comm,
  nat_join (2*r) _ _ (by rw[Nat.mul_comm 2 r,pow4];exact Nat.mul_mod_left _ _) (by rw[Nat.mul_comm 2 r,pow4];exact ha)]
 omega
theorem pk_xor {a k r:Nat}(hk:k<=3)(hr:r<32)(ha:a<4 ^ r):bits .xor .u64 ((a+k*4 ^ r:Nat):Int) ((k*4 ^ r:Nat):Int)=(a:Int):=by
 obtain⟨h1,h2⟩:=pk_lt hk hr;have h3:(a+k*4 ^ r) ^^^ (k*4 ^ r)=a:=by
  have e:a+k*4 ^ r=k*4 ^ r ||| a:=by
   rw[nat_join (2*r) _ _ (by rw[Nat.mul_comm 2 r,pow4];exact Nat.mul_mod_left _ _) (by rw[Nat.mul_comm 2 r,pow4];exact ha)];omega
  rw[e];apply Nat.eq_of_testBit_eq;intro i;rw[Nat.testBit_xor,Nat.testBit_or];have hd:(k*4 ^ r).testBit i=true->a.testBit i=false:=fun h=>by
   have hi:2*r<=i:=by
    by_cases hx:i<2*r
    ·exfalso;rw[<-pow4,Nat.mul_comm r 2,Nat.testBit_mul_two_pow] at h;simp at h;omega
    ·omega
   apply Nat.testBit_lt_two_pow
   have:(2:Nat) ^ (2*r)<=2 ^ i:=Nat.pow_le_pow_right (by decide) hi
   rw[Nat.mul_comm 2 r,pow4] at this;omega
  cases h1:(k*4 ^ r).testBit i
  ·simp
  ·rw[hd h1];simp
 have hw:(a+k*4 ^ r)<18446744073709551616:=by omega
 rw[u64_xor _ _ (by omega) (by omega) (by omega) (by omega),Int.toNat_natCast,Int.toNat_natCast,h3]
theorem pk_shr {a k r:Nat}(hk:k<=3)(hr:r<32)(ha:a<4 ^ r):(((a+k*4 ^ r:Nat):Int) / 2 ^ (r*2))=(k:Int):=by
 have e:((2:Int) ^ (r*2))=((4 ^ r:Nat):Int):=by rw[<-pow4];simp
 rw[e];have h0:0<4 ^ r:=Nat.pow_pos (by decide);have h1:(a+k*4 ^ r) / 4 ^ r=k:=by
  rw[Nat.add_mul_div_right _ _ h0,Nat.div_eq_of_lt ha];omega
 rw[<-Int.natCast_ediv,h1]
theorem pk_and {k:Nat}(hk:k<=3):bits .and .u64 (k:Int) 3=(k:Int):=by
 have h:∀ k:Fin 4,bits .and .u64 ((k.val:Nat):Int) 3=((k.val:Nat):Int):=by decide +kernel
 exact h ⟨k,by omega⟩
open Go.ChangeShapes Go.WideShapes Go.ChangeAt Go.RowKit
def wdG (k:Nat):ByteArray:=⟨(wordsLG.getD k []).toArray⟩
def wordsAG:Array Value:=#[.string (wdG 0),.string (wdG 1),.string (wdG 2),.string (wdG 3),.string (wdG 4),.string (wdG 5),.string (wdG 6),.string (wdG 7),.string (wdG 8),.string (wdG 9),.string (wdG 10),.string (wdG 11),.string (wdG 12),.string (wdG 13),.string (wdG 14),.string (wdG 15),.string (wdG 16),.string (wdG 17),.string (wdG 18),.string (wdG 19),.string (wdG 20),.string (wdG 21),.string (wdG 22),.string (wdG 23),.string (wdG 24),.string (wdG 25),.string (wdG 26)]
theorem wix0G (w:World):(Instr.index 123 (.agg wordsAG) (.int .i64 0)).run Tryd.prog w=.ok (.string (wdG 0)) w:=by kernel_rfl
theorem wix1G (w:World):(Instr.index 123 (.agg wordsAG) (.int .i64 1)).run Tryd.prog w=.ok (.string (wdG 1)) w:=by kernel_rfl
theorem wix2G (w:World):(Instr.index 123 (.agg wordsAG) (.int .i64 2)).run Tryd.prog w=.ok (.string (wdG 2)) w:=by kernel_rfl
theorem wix3G (w:World):(Instr.index 123 (.agg wordsAG) (.int .i64 3)).run Tryd.prog w=.ok (.string (wdG 3)) w:=by kernel_rfl
theorem wix4G (w:World):(Instr.index 123 (.agg wordsAG) (.int .i64 4)).run Tryd.prog w=.ok (.string (wdG 4)) w:=by kernel_rfl
theorem wix5G (w:World):(Instr.index 123 (.agg wordsAG) (.int .i64 5)).run Tryd.prog w=.ok (.string (wdG 5)) w:=by kernel_rfl
theorem wix6G (w:World):(Instr.index 123 (.agg wordsAG) (.int .i64 6)).run Tryd.prog w=.ok (.string (wdG 6)) w:=by kernel_rfl
theorem wix7G (w:World):(Instr.index 123 (.agg wordsAG) (.int .i64 7)).run Tryd.prog w=.ok (.string (wdG 7)) w:=by kernel_rfl
theorem wix8G (w:World):(Instr.index 123 (.agg wordsAG) (.int .i64 8)).run Tryd.prog w=.ok (.string (wdG 8)) w:=by kernel_rfl
theorem wix9G (w:World):(Instr.index 123 (.agg wordsAG) (.int .i64 9)).run Tryd.prog w=.ok (.string (wdG 9)) w:=by kernel_rfl
theorem wix10G (w:World):(Instr.index 123 (.agg wordsAG) (.int .i64 10)).run Tryd.prog w=.ok (.string (wdG 10)) w:=by kernel_rfl
theorem wix11G (w:World):(Instr.index 123 (.agg wordsAG) (.int .i64 11)).run Tryd.prog w=.ok (.string (wdG 11)) w:=by kernel_rfl
theorem wix12G (w:World):(Instr.index 123 (.agg wordsAG) (.int .i64 12)).run Tryd.prog w=.ok (.string (wdG 12)) w:=by kernel_rfl
theorem wix13G (w:World):(Instr.index 123 (.agg wordsAG) (.int .i64 13)).run Tryd.prog w=.ok (.string (wdG 13)) w:=by kernel_rfl
theorem wix14G (w:World):(Instr.index 123 (.agg wordsAG) (.int .i64 14)).run Tryd.prog w=.ok (.string (wdG 14)) w:=by kernel_rfl
theorem wix15G (w:World):(Instr.index 123 (.agg wordsAG) (.int .i64 15)).run Tryd.prog w=.ok (.string (wdG 15)) w:=by kernel_rfl
theorem wix16G (w:World):(Instr.index 123 (.agg wordsAG) (.int .i64 16)).run Tryd.prog w=.ok (.string (wdG 16)) w:=by kernel_rfl
theorem wix17G (w:World):(Instr.index 123 (.agg wordsAG) (.int .i64 17)).run Tryd.prog w=.ok (.string (wdG 17)) w:=by kernel_rfl
theorem wix18G (w:World):(Instr.index 123 (.agg wordsAG) (.int .i64 18)).run Tryd.prog w=.ok (.string (wdG 18)) w:=by kernel_rfl
theorem wix19G (w:World):(Instr.index 123 (.agg wordsAG) (.int .i64 19)).run Tryd.prog w=.ok (.string (wdG 19)) w:=by kernel_rfl
theorem wix20G (w:World):(Instr.index 123 (.agg wordsAG) (.int .i64 20)).run Tryd.prog w=.ok (.string (wdG 20)) w:=by kernel_rfl
theorem wix21G (w:World):(Instr.index 123 (.agg wordsAG) (.int .i64 21)).run Tryd.prog w=.ok (.string (wdG 21)) w:=by kernel_rfl
theorem wix22G (w:World):(Instr.index 123 (.agg wordsAG) (.int .i64 22)).run Tryd.prog w=.ok (.string (wdG 22)) w:=by kernel_rfl
theorem wix23G (w:World):(Instr.index 123 (.agg wordsAG) (.int .i64 23)).run Tryd.prog w=.ok (.string (wdG 23)) w:=by kernel_rfl
theorem wix24G (w:World):(Instr.index 123 (.agg wordsAG) (.int .i64 24)).run Tryd.prog w=.ok (.string (wdG 24)) w:=by kernel_rfl
theorem wix25G (w:World):(Instr.index 123 (.agg wordsAG) (.int .i64 25)).run Tryd.prog w=.ok (.string (wdG 25)) w:=by kernel_rfl
theorem wix26G (w:World):(Instr.index 123 (.agg wordsAG) (.int .i64 26)).run Tryd.prog w=.ok (.string (wdG 26)) w:=by kernel_rfl
theorem wordsA_atG (k:Nat)(hk:k<27)(w:World):(Instr.index 123 (.agg wordsAG) (.int .i64 (k:Nat))).run Tryd.prog w=.ok (.string (wdG k)) w:=by
 match k,hk with
 | 0,_=>exact wix0G w
 | 1,_=>exact wix1G w
 | 2,_=>exact wix2G w
 | 3,_=>exact wix3G w
 | 4,_=>exact wix4G w
 | 5,_=>exact wix5G w
 | 6,_=>exact wix6G w
 | 7,_=>exact wix7G w
 | 8,_=>exact wix8G w
 | 9,_=>exact wix9G w
 | 10,_=>exact wix10G w
 | 11,_=>exact wix11G w
 | 12,_=>exact wix12G w
 | 13,_=>exact wix13G w
 | 14,_=>exact wix14G w
 | 15,_=>exact wix15G w
 | 16,_=>exact wix16G w
 | 17,_=>exact wix17G w
 | 18,_=>exact wix18G w
 | 19,_=>exact wix19G w
 | 20,_=>exact wix20G w
 | 21,_=>exact wix21G w
 | 22,_=>exact wix22G w
 | 23,_=>exact wix23G w
 | 24,_=>exact wix24G w
 | 25,_=>exact wix25G w
 | 26,_=>exact wix26G w
 | n+27,h=>omega
def WdG (w:World):Prop:=∃t fr,w.heap[2]?=some (.cells wordsAG t fr)
theorem WdG.lt {w:World}(h:WdG w):2<w.heap.size:=by
 obtain⟨t,fr,h⟩:=h;exact lt_of_block h
theorem WdG.below {w w':World}(h:WdG w)(b:Below w.heap.size w w'):WdG w':=by
 have hl:=h.lt;obtain⟨t,fr,h⟩:=h;exact⟨t,fr,(b.block _ hl).trans h⟩
theorem wordB_yesG {t:List UInt8}(k:Nat)(hk:k<27)(h:t=wordsLG.getD k []):wordBG t=true:=by
 subst h;have hl:wordsLG.length=27:=rfl;unfold wordBG;rw[List.contains_iff_mem];simp only[List.getD,List.getElem?_eq_getElem (by omega:k<wordsLG.length),Option.getD_some];exact List.getElem_mem _
theorem wordB_noG {t:List UInt8}(h:∀ k,k<27->¬t=wordsLG.getD k []):wordBG t=false:=by
 rw[<-Bool.not_eq_true];unfold wordBG;rw[List.contains_iff_mem,List.mem_iff_getElem];rintro ⟨k,hk,e⟩;have hl:wordsLG.length=27:=rfl;refine h k (by omega) ?_;simp only[List.getD,List.getElem?_eq_getElem hk,Option.getD_some];exact e.symm
theorem wordsInfoG:(Tryd.prog.info? 123).map (·.size)=some wordsAG.size:=by kernel_rfl
theorem word_cG (s:ByteArray)(w:World)(hW:WdG w)(hs:s.size<=maxLen) :
  Calls Tryd.prog 74 #[.string s] w fun e w'=>e=.returned (.bool (wordBG s.data.toList))/\w'=w:=by
 obtain⟨tt,fr,hg⟩:=hW;have IX:Hid (∀ k:Nat,k<27->(Instr.index 123 (.agg wordsAG) (.int .i64 (k:Nat))).run Tryd.prog w=.ok (.string (wdG k)) w):=fun k hk=>wordsA_atG k hk w;have hsz:=wordsInfoG;generalize wordsAG=cs at *;go_enter Tryd.func74,Tryd.ntmps74;go_wp2_with (refine wpList_load_row rfl 123 _ rfl 2 rfl tt _ fr _ hg Tryd.underlying123 rfl hsz ?_);go_loopw [6] (fun v wr=>∃k:Nat,k<=27/\v=.int .i64 (k:Nat)/\(∀ j,j<k->s≠wdG j)/\wr=w) (fun v _=>27-(intOf v).toNat)
 case atStart=>exact⟨0,by omega,by go_num,fun j hj=>by omega,rfl⟩
 case round =>
  obtain⟨k,hk,rfl,hin,rfl⟩:=hrel;by_cases hlt:k<27
  ·have ix:=IX.out k hlt;have hkI:(k:Int)<27:=by omega
   by_cases he:s=wdG k
   ·have fin:wordBG s.data.toList=true:=wordB_yesG k hlt (by rw[he];rfl);rw[<-he] at ix;clear he IX;go_wp2;go_ret;exact⟨by rw[fin];rfl,rfl⟩
   ·have hin':∀ j,j<k+1->s≠wdG j:=fun j hj=>by
     by_cases e:j=k
     ·subst e;exact he
     ·exact hin j (by omega)
    have heb:=str_neG he;generalize wdG k=t at ix he heb;clear IX hin;go_wp2;go_roundw
    case rel=>(try ((repeat apply Exists.intro);refine⟨?_,rfl⟩));exact⟨k+1,by omega,by go_num,hin',by trivial⟩
    case measure=>simp[intOf];omega
  ·obtain rfl:k=27:=by omega
   clear IX;have fin:wordBG s.data.toList=false:=wordB_noG fun j hj e=>hin j hj (bytes_eqG.1 (by rw[e];rfl));go_wp2;go_ret;exact⟨by rw[fin];rfl,rfl⟩
def nmcG (j:Nat)(c:UInt8):Bool:=smlG c.toNat||(j != 0&&(digG c.toNat||c.toNat==95))
theorem nameB_iffG (l:List UInt8):nameBG l=true ↔ 0<l.length/\l.length<=12/\(∀ j (h:j<l.length),nmcG j l[j]=true)/\wordBG l=false:=by
 cases l with
 | nil=>simp[nameBG]
 | cons c r =>
  simp only[nameBG,Bool.and_eq_true,decide_eq_true_eq,List.all_eq_true,Bool.not_eq_true',List.length_cons];constructor
  ·rintro ⟨⟨⟨h1,h2⟩,h3⟩,h4⟩;refine⟨by omega,by omega,fun j h=>?_,h4⟩;cases j with
   | zero=>simp[nmcG,h2]
   | succ j =>
    have:=h3 (r[j]'(by omega)) (List.getElem_mem _)
    simp only[innG] at this;simp[nmcG];simpa [Bool.or_eq_true,or_assoc] using this
  ·rintro ⟨h1,h2,h3,h4⟩;refine⟨⟨⟨by omega,?_⟩,fun x hx=>?_⟩,h4⟩
   ·have:=h3 0 (by omega)
    simpa [nmcG] using this
   ·obtain⟨j,hj,rfl⟩:=List.mem_iff_getElem.1 hx
    have:=h3 (j+1) (by omega)
    simp only[nmcG,List.getElem_cons_succ] at this;simp only[innG];simpa [Bool.or_eq_true,or_assoc] using this
theorem nameB_notG {l:List UInt8}(j:Nat)(h:j<l.length)(hn:nmcG j l[j]=false):nameBG l=false:=by
 rw[<-Bool.not_eq_true,nameB_iffG];rintro ⟨_,_,h3,_⟩
 have:=h3 j h
 rw[hn] at this;cases this
theorem nmc_highG (j:Nat)(c:UInt8)(h:128<=c.toNat):nmcG j c=false:=by
 simp[nmcG,smlG,digG];omega
theorem data_getG (s:ByteArray)(j:Nat)(h:j<s.size)(h':j<s.data.toList.length):s.data.toList[j]=s[j]:=by
 rw[Array.getElem_toList];rfl
theorem data_lenG (s:ByteArray):s.data.toList.length=s.size:=Array.length_toList
theorem name_cG (s:ByteArray)(w:World)(hW:WdG w)(hs:s.size<=maxLen) :
  Calls Tryd.prog 53 #[.string s] w fun e w'=>e=.returned (.bool (nameBG s.data.toList))/\Below w.heap.size w w':=by
 have hs':=hs;unfold maxLen at hs;have hln:=data_lenG s;by_cases h0:s.size=0
 ·have e0:s=⟨#[]⟩:=by
   apply ByteArray.ext;exact Array.eq_empty_of_size_eq_zero h0
  subst e0;have fin:nameBG (⟨#[]⟩:ByteArray).data.toList=false:=rfl;rw[fin];clear fin h0 hln;go_enter Tryd.func53,Tryd.ntmps53;go_wp2;go_ret;exact⟨rfl,b0G _⟩
 ·by_cases h12:12<s.size
  ·have fin:nameBG s.data.toList=false:=by rw[<-Bool.not_eq_true,nameB_iffG];rintro ⟨_,h,_⟩;omega
   rw[fin];clear fin hln;have hne:=str_fullG h0;have h12I:(12:Int)<(s.size:Int):=by omega
   go_enter Tryd.func53,Tryd.ntmps53;go_wp2;go_ret;exact⟨by simp,b0G _⟩
  ·have hne:=str_fullG h0;have h12I:¬(12:Int)<(s.size:Int):=by omega
   have HL:Hid (s.data.toList.length=s.size):=hln;clear hln;go_enter Tryd.func53,Tryd.ntmps53;go_wp2;go_loopw [3] (fun _ wr=>∃pos:Nat,wr.heap[w.heap.size]?=some (.stringIter s pos)/\pos<=s.size/\(∀ j (h:j<s.data.toList.length),j<pos->nmcG j s.data.toList[j]=true)/\Below w.heap.size w wr) (fun _ wr=>s.size-wr.iterPos w.heap.size)
   case atStart=>exact⟨0,World.iter_heap w s 0,by omega,fun j _ h=>by omega,b1G _ _⟩
   case round =>
    obtain⟨pos,hit,hps,hin,hbw⟩:=hrel;by_cases hp:pos<s.size
    ·have hpl:pos<s.data.toList.length:=by have:=HL.out;omega
     by_cases ha:(s[pos]'hp).toNat<128
     ·have hnx:∀ ty,(Instr.next (.pointer (some ⟨w.heap.size,0,none⟩)) true ty).run Tryd.prog wr=_:=fun ty=>Lib.run_next_ascii_at wr w.heap.size s pos ty hit hp ha;have hit2:=Lib.iterAt_heap wr w.heap.size s pos (pos+1) hit;have hbw2:=Lib.below_iterAt hbw (k:=w.heap.size) (by omega) s (pos+1);have hex:nmcG pos s.data.toList[pos]=nmcG pos s[pos]:=by rw[data_getG s pos hp hpl]
      have hgo:nmcG pos s[pos]=true->∀ j (h:j<s.data.toList.length),j<pos+1->nmcG j s.data.toList[j]=true:=fun hx j h hj=>by
       by_cases e:j=pos
       ·subst e;rw[hex];exact hx
       ·exact hin j h (by omega)
      have hno:nmcG pos s[pos]=false->nameBG s.data.toList=false:=fun hx=>nameB_notG pos hpl (by rw[hex];exact hx);have hme:s.size-(wr.iterAt w.heap.size s (pos+1)).iterPos w.heap.size<s.size-wr.iterPos w.heap.size:=by
       simp only[World.iterPos,hit2,hit];omega
      clear hit hbw hin hex;have hwz:w.heap.size=w.heap.size:=rfl;generalize wr.iterAt w.heap.size s (pos+1)=w2 at *;have hnm:nmcG pos s[pos]=(smlG (s[pos]).toNat||(pos != 0&&(digG (s[pos]).toNat||(s[pos]).toNat==95))):=rfl;rw[hnm] at hgo hno;clear hnm;generalize hrn:(s[pos]'hp).toNat=r at *;have hr:r<=2147483647:=by omega
      clear hrn;have HG:Hid (((smlG r||(pos != 0&&(digG r||r==95)))=true->∀ j (h:j<s.data.toList.length),j<pos+1->nmcG j s.data.toList[j]=true)/\((smlG r||(pos != 0&&(digG r||r==95)))=false->nameBG s.data.toList=false)):=⟨hgo,hno⟩
      clear hgo hno;cases h1:smlG r
      ·by_cases hz:pos=0
       ·have fin:nameBG s.data.toList=false:=HG.out.2 (by simp[h1,hz]);subst hz;clear HG hme;go_wp2_with (go_at_call 72;refine(sml_cG r _ hr).mono ?_;rw[h1];rintro e w1 ⟨rfl,rfl⟩);go_ret;exact⟨by rw[fin];rfl,hbw2⟩
       ·have hz':¬(pos:Int)=0:=by omega
        cases h2:digG r
        ·by_cases h3:r=95
         ·have RL:=HG.out.1 (by simp[h3,hz]);clear HG;subst h3;go_wp2_with (first|(go_at_call 72;refine(sml_cG 95 _ hr).mono ?_;rw[h1];rintro e w1 ⟨rfl,rfl⟩)|(go_at_call 73;refine(dig_cG 95 _ hr).mono ?_;rw[h2];rintro e w1 ⟨rfl,rfl⟩));go_roundw
          case rel=>(try ((repeat apply Exists.intro);refine⟨?_,rfl⟩));exact⟨pos+1,hit2,by omega,RL,hbw2⟩
          case measure=>exact hme
         ·have fin:nameBG s.data.toList=false:=HG.out.2 (by simp[h1,h2,h3]);have h3':¬(r:Int)=95:=by omega
          have h3b:((r:Int) != 95)=true:=by simpa using h3'
          clear HG hme;go_wp2_with (first|(go_at_call 72;refine(sml_cG r _ hr).mono ?_;rw[h1];rintro e w1 ⟨rfl,rfl⟩)|(go_at_call 73;refine(dig_cG r _ hr).mono ?_;rw[h2];rintro e w1 ⟨rfl,rfl⟩));go_ret;exact⟨by rw[fin];rfl,hbw2⟩
        ·have RL:=HG.out.1 (by simp[h2,hz]);clear HG;go_wp2_with (first|(go_at_call 72;refine(sml_cG r _ hr).mono ?_;rw[h1];rintro e w1 ⟨rfl,rfl⟩)|(go_at_call 73;refine(dig_cG r _ hr).mono ?_;rw[h2];rintro e w1 ⟨rfl,rfl⟩));go_roundw
         case rel=>(try ((repeat apply Exists.intro);refine⟨?_,rfl⟩));exact⟨pos+1,hit2,by omega,RL,hbw2⟩
         case measure=>exact hme
      ·have RL:=HG.out.1 (by simp[h1]);clear HG;go_wp2_with (go_at_call 72;refine(sml_cG r _ hr).mono ?_;rw[h1];rintro e w1 ⟨rfl,rfl⟩);go_roundw
       case rel=>(try ((repeat apply Exists.intro);refine⟨?_,rfl⟩));exact⟨pos+1,hit2,by omega,RL,hbw2⟩
       case measure=>exact hme
     ·have fin:nameBG s.data.toList=false:=nameB_notG pos hpl (by rw[data_getG s pos hp hpl];exact nmc_highG _ _ (by omega));have hnx:∀ ty,(Instr.next (.pointer (some ⟨w.heap.size,0,none⟩)) true ty).run Tryd.prog wr=_:=fun ty=>Lib.run_next_any_at wr w.heap.size s pos ty hit hp;have hbw2:=Lib.below_iterAt hbw (k:=w.heap.size) (by omega) s (pos+(Utf8.decode s pos).2);have hr:=decode_le s pos;have hr2:=(decode_high s pos hp (by omega)).1;generalize wr.iterAt w.heap.size s (pos+(Utf8.decode s pos).2)=w2 at *;generalize (Utf8.decode s pos).1=r at *;have h1:smlG r=false:=by simp[smlG];omega
      have h2:digG r=false:=by simp[digG];omega
      have h3':¬(r:Int)=95:=by omega
      have h3b:((r:Int) != 95)=true:=by simpa using h3'
      clear hit hbw hin ha;by_cases hz:pos=0
      ·subst hz;go_wp2_with (go_at_call 72;refine(sml_cG r _ hr).mono ?_;rw[h1];rintro e w1 ⟨rfl,rfl⟩);go_ret;exact⟨by rw[fin];rfl,hbw2⟩
      ·have hz':¬(pos:Int)=0:=by omega
       go_wp2_with (first|(go_at_call 72;refine(sml_cG r _ hr).mono ?_;rw[h1];rintro e w1 ⟨rfl,rfl⟩)|(go_at_call 73;refine(dig_cG r _ hr).mono ?_;rw[h2];rintro e w1 ⟨rfl,rfl⟩));go_ret;exact⟨by rw[fin];rfl,hbw2⟩
    ·have hnx:∀ ty,(Instr.next (.pointer (some ⟨w.heap.size,0,none⟩)) true ty).run Tryd.prog wr=_:=fun ty=>Lib.run_next_end_at wr w.heap.size s pos ty hit hp;have hW2:=hW.below hbw;have fin:nameBG s.data.toList=!wordBG s.data.toList:=by
      have hl:=HL.out;cases hw:wordBG s.data.toList
      ·exact(nameB_iffG _).2 ⟨by omega,by omega,fun j h=>hin j h (by omega),hw⟩
      ·show _=false;rw[<-Bool.not_eq_true,nameB_iffG];rintro ⟨_,_,_,h⟩;rw[hw] at h;cases h
     clear hin hit;go_wp2_with (go_at_call 74;refine(word_cG s _ hW2 hs').mono ?_;rintro e w1 ⟨rfl,rfl⟩);go_ret;exact⟨by rw[fin];rfl,hbw⟩
theorem gTabG : Tryd.prog.globalNamed "isthmus/pack.fields" = some 3 := by kernel_rfl
theorem gTabTypeG:(Tryd.prog.globals[3]?).map (·.type)=some 126:=by kernel_rfl
theorem cellsTabG:Tryd.prog.cellsOf 126=6:=by kernel_rfl
theorem cellsFieldG:Tryd.prog.cellsOf 125=2:=by kernel_rfl
theorem cellsUintG:Tryd.prog.cellsOf 99=1:=by kernel_rfl
theorem cellsUint64G:Tryd.prog.cellsOf 54=1:=by kernel_rfl
def TabG (w:World):Prop :=
 w.cell? ⟨3,0,none⟩=some (.int .u64 56)/\w.cell? ⟨3,1,none⟩=some (.int .u64 255)/\w.cell? ⟨3,2,none⟩=some (.int .u64 28) /\
 w.cell? ⟨3,3,none⟩=some (.int .u64 268435455)/\w.cell? ⟨3,4,none⟩=some (.int .u64 0)/\w.cell? ⟨3,5,none⟩=some (.int .u64 268435455)/\3<w.heap.size
theorem TabG.below {w w':World}(h:TabG w)(hb:Below w.heap.size w w'):TabG w':=by
 obtain⟨h0,h1,h2,h3,h4,h5,hs⟩:=h;refine⟨?_,?_,?_,?_,?_,?_,Nat.lt_of_lt_of_le hs hb.size⟩
 ·exact(hb.cell (p:=⟨3,0,none⟩) hs).trans h0
 ·exact(hb.cell (p:=⟨3,1,none⟩) hs).trans h1
 ·exact(hb.cell (p:=⟨3,2,none⟩) hs).trans h2
 ·exact(hb.cell (p:=⟨3,3,none⟩) hs).trans h3
 ·exact(hb.cell (p:=⟨3,4,none⟩) hs).trans h4
 ·exact(hb.cell (p:=⟨3,5,none⟩) hs).trans h5
theorem below_drewNG (w:World)(n:Nat):Below w.heap.size w (w.drewN n):=by
 have key:∀ (n:Nat) (v:World),Below w.heap.size w v->Below w.heap.size w (v.drewN n):=by
  intro n
  induction n with
  | zero=>intro v h;exact h
  | succ n ih=>intro v h;exact(ih v h).drew
 exact key n w (Below.refl _ _)
theorem bjoinG {a b c:World}(h:Below a.heap.size a b)(k:Below b.heap.size b c):Below a.heap.size a c:=h.trans (k.mono h.size)
theorem bd_i64 {a:Int}(h:(Lit.int .i64 a).wf=true):-9223372036854775808<=a/\a<=9223372036854775807:=by
 simpa [Lit.wf,IntKind.min,IntKind.max,IntKind.signed,IntKind.bits] using h
theorem part0G (u:Int)(w:World)(hT:TabG w)(h1:0<=u)(h2:u<18446744073709551616) :
  Calls Tryd.prog 76 #[.int .i64 0,.int .u64 u] w fun e w'=>e=.returned (.int .i64 (u / 72057594037927936))/\Below w.heap.size w w':=by
 have hc:=hT.1;have hd:=hT.2.1;go_enter Tryd.func76,Tryd.ntmps76;go_wp2
 go_quiet (fail)
 go_wp2;go_ret;exact⟨ret_int (part0_eq u h1 h2),below_drewNG _ _⟩
theorem part1G (u:Int)(w:World)(hT:TabG w)(h1:0<=u)(h2:u<18446744073709551616) :
  Calls Tryd.prog 76 #[.int .i64 1,.int .u64 u] w fun e w'=>e=.returned (.int .i64 (u / 268435456 % 268435456))/\Below w.heap.size w w':=by
 have hc:=hT.2.2.1;have hd:=hT.2.2.2.1;go_enter Tryd.func76,Tryd.ntmps76;go_wp2
 go_quiet (fail)
 go_wp2;go_ret;exact⟨ret_int (part1_eq u h1 h2),below_drewNG _ _⟩
theorem part2G (u:Int)(w:World)(hT:TabG w)(h1:0<=u)(h2:u<18446744073709551616) :
  Calls Tryd.prog 76 #[.int .i64 2,.int .u64 u] w fun e w'=>e=.returned (.int .i64 (u % 268435456))/\Below w.heap.size w w':=by
 have hc:=hT.2.2.2.2.1;have hd:=hT.2.2.2.2.2.1;go_enter Tryd.func76,Tryd.ntmps76;go_wp2
 go_quiet (fail)
 go_wp2;go_ret;exact⟨ret_int (by simpa using part2_eq u h1 h2),below_drewNG _ _⟩
theorem parts_anyG (u:Int)(w:World)(hT:TabG w)(h1:0<=u)(h2:u<18446744073709551616) :
  Calls Tryd.prog 57 #[.int .u64 u] w fun e w' =>
   e=.returned (.tuple #[.int .i64 (u / 72057594037927936),.int .i64 (u / 268435456 % 268435456),.int .i64 (u % 268435456)])/\Below w.heap.size w w':=by
 go_enter Tryd.func57,Tryd.ntmps57;go_wp2_with fail;refine(part0G u w hT h1 h2).mono ?_;rintro e w1 ⟨rfl,hb1⟩;have hT1:=hT.below hb1;go_wp2_with fail;refine(part1G u w1 hT1 h1 h2).mono ?_;rintro e w2 ⟨rfl,hb2⟩;have hT2:=hT1.below hb2;go_wp2_with fail;refine(part2G u w2 hT2 h1 h2).mono ?_;rintro e w3 ⟨rfl,hb3⟩;go_wp2;go_ret3;exact⟨rfl,bjoinG (bjoinG hb1 hb2) hb3⟩
theorem field_cells {W:World}{m:Nat}{l:List Value}{a b:Int}{p:List MemPlace}
  (h:DataW.trod (fun _=>()) Tryd.prog W 0 (fun _=>true) false m 125 l=some (.agg [.lit (.int .u64 a),.lit (.int .u64 b)],p)):l=[.int .u64 a,.int .u64 b]:=by
 obtain⟨y0,y1,n,hx,hl,h0,h1⟩:=trod_struct2 Tryd.underlying125 h;simp only[Prod.mk.injEq,DataW.agg.injEq,List.cons.injEq,and_true] at hx;obtain⟨⟨e0,e1⟩,_⟩:=hx;obtain⟨z0,c0,r0,_⟩:=DataW.trod_int Tryd.underlying99 h0;obtain⟨z1,c1,r1,_⟩:=DataW.trod_int Tryd.underlying54 h1;subst r0 r1;simp only[DataW.lit.injEq,Lit.int.injEq,true_and] at e0 e1;subst e0 e1;rw[cellsFieldG] at hl;simp only[cellsUintG,cellsUint64G] at c0 c1
 match l,hl with
 | [v0,v1],_ =>
  simp at c0 c1;rw[c0,c1]
def Lsv (w:World)(ao:Option Addr)(xs:List Value):Prop :=
 xs=[]\/∃b off,ao=some ⟨b,off,none⟩/\b<w.heap.size/\∀ j x,xs[j]?=some x->w.cell? ⟨b,off+j,none⟩=some x
theorem Lsv.below {w w':World}{ao:Option Addr}{xs:List Value}(h:Lsv w ao xs)(B:Below w.heap.size w w'):Lsv w' ao xs:=by
 rcases h with h|⟨b,off,rfl,hlt,hc⟩
 ·exact .inl h
 ·exact .inr ⟨b,off,rfl,Nat.lt_of_lt_of_le hlt B.size,fun j x hx=>(B.cell (p:=⟨b,off+j,none⟩) hlt).trans (hc j x hx)⟩
theorem Lsv.at {w:World}{ao:Option Addr}{xs:List Value}(h:Lsv w ao xs){j:Nat}{x:Value}(hx:xs[j]?=some x):∃b off,ao=some ⟨b,off,none⟩/\b<w.heap.size/\w.cell? ⟨b,off+j,none⟩=some x:=by
 rcases h with rfl|⟨b,off,rfl,hlt,hc⟩
 ·simp at hx
 ·exact⟨b,off,rfl,hlt,hc j x hx⟩
def wsV (l:List Int):List Value:=l.map (.int .u64 ·)
def isV (l:List Int):List Value:=l.map (.int .i64 ·)
def nsV (l:List ByteArray):List Value:=l.map (.string ·)
structure Pl where
 aw:Option Addr
 cw:Nat
 ac:Option Addr
 cc:Nat
 an:Option Addr
 cn:Nat
 ak:Option Addr
 ck:Nat
abbrev cdA (p:Pl)(c:Cd):Array Value:=#[.slice p.aw c.ws.length p.cw,.slice p.ac c.cs.length p.cc,.slice p.an c.ns.length p.cn,.slice p.ak c.ks.length p.ck]
abbrev cdV (p:Pl)(c:Cd):Value:=.agg (cdA p c)
structure CdW (w:World)(p:Pl)(c:Cd):Prop where
 ok:c.Ok
 ws:Lsv w p.aw (wsV c.ws)
 cs:Lsv w p.ac (isV c.cs)
 ns:Lsv w p.an (nsV c.ns)
 ks:Lsv w p.ak (isV c.ks)
 lw:c.ws.length<=9223372036854775807
 lc:c.cs.length<=9223372036854775807
 ln:c.ns.length<=9223372036854775807
 lk:c.ks.length<=9223372036854775807
theorem CdW.below {w w':World}{p:Pl}{c:Cd}(h:CdW w p c)(B:Below w.heap.size w w'):CdW w' p c :=
 ⟨h.ok,h.ws.below B,h.cs.below B,h.ns.below B,h.ks.below B,h.lw,h.lc,h.ln,h.lk⟩
theorem bd1 {w w':World}{o:Obj}(h:Below (w.alloc o).heap.size (w.alloc o) w'):Below w.heap.size w w':=(b1G w o).trans (h.mono (by simp))
theorem box4G (w:World)(a b c d:Value)(t:TypeId):(w.alloc (.cells #[a,b,c,d] t)).heap[w.heap.size]?=some (.cells #[a,b,c,d] t (0,0)):=heap_alloc_new _ _
theorem box4_cells {w:World}{g:Nat}{a b c d:Value}{t:TypeId}(h:w.heap[g]?=some (.cells #[a,b,c,d] t (0,0))):w.cell? ⟨g,0,none⟩=some a/\w.cell? ⟨g,1,none⟩=some b/\w.cell? ⟨g,2,none⟩=some c/\w.cell? ⟨g,3,none⟩=some d:=by
 refine⟨?_,?_,?_,?_⟩<;>simp[World.cell?,h]
end Go.Proofs.YtejnhibajmncaaaDoor

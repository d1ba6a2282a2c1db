import Derived.Test.YtnfmpocfakblmaaGreatDoorAwaE
set_option maxRecDepth 100000
set_option maxHeartbeats 8000000
namespace Go.Proofs.YtnfmpocfakblmaaGreatDoor
set_option linter.unusedVariables false
set_option linter.unusedSimpArgs false
structure Inv (s:Em):Prop where
 nc:s.cs.Nodup
 nn:s.ns.Nodup
 wc:∀ x ∈ s.ws,(x.op=1\/x.op=2)->x.a<s.cs.length
 wn:∀ x ∈ s.ws,x.op=21->x.a<s.ns.length
 uc:∀ i,i<s.cs.length->∃x ∈ s.ws,(x.op=1\/x.op=2)/\x.a=i
 un:∀ i,i<s.ns.length->∃x ∈ s.ws,x.op=21/\x.a=i
structure Pre (s s':Em):Prop where
 at1:∀ i,i<s.ws.length->s'.ws[i]?=s.ws[i]?
 len:s.ws.length<=s'.ws.length
 ks:s'.ks.length=s.ks.length
theorem Pre.refl (s:Em):Pre s s:=⟨fun _ _=>rfl,Nat.le_refl _,rfl⟩
theorem Pre.trans {a b c:Em}(h:Pre a b)(k:Pre b c):Pre a c:=⟨fun i hi=>(k.at1 i (Nat.lt_of_lt_of_le hi h.len)).trans (h.at1 i hi),Nat.le_trans h.len k.len,k.ks.trans h.ks⟩
def Gd (f:Em->Em):Prop:=∀ s,Inv s->Inv (f s)/\Pre s (f s)
theorem Gd.id:Gd (fun s=>s):=fun s h=>⟨h,Pre.refl s⟩
theorem Gd.comp {f g:Em->Em}(hf:Gd f)(hg:Gd g):Gd (fun s=>g (f s)):=fun s h=>⟨(hg _ (hf s h).1).1,(hf s h).2.trans (hg _ (hf s h).1).2⟩
theorem pre_lay (s:Em)(op a b:Nat):Pre s (s.lay op a b):=⟨fun i hi=>by simp only[Em.lay];exact List.getElem?_append_left hi,by simp[Em.lay],rfl⟩
theorem pre_push (s:Em)(op a b u:Nat):Pre s (s.push op a b u):=⟨fun i hi=>by simp only[Em.push];exact List.getElem?_append_left hi,by simp[Em.push],rfl⟩
theorem inv_word {s:Em}(h:Inv s)(x:Wo)(d:Nat)(h1:(x.op=1\/x.op=2)->x.a<s.cs.length)(h2:x.op=21->x.a<s.ns.length):Inv ⟨s.ws++[x],s.cs,s.ns,s.ks,d⟩:=by
 refine⟨h.nc,h.nn,fun y hy=>?_,fun y hy=>?_,fun i hi=>?_,fun i hi=>?_⟩
 ·rcases List.mem_append.1 hy with hy|hy
  ·exact h.wc y hy
  ·simp at hy;subst hy;exact h1
 ·rcases List.mem_append.1 hy with hy|hy
  ·exact h.wn y hy
  ·simp at hy;subst hy;exact h2
 ·obtain⟨y,hy,h3⟩:=h.uc i hi;exact⟨y,List.mem_append_left _ hy,h3⟩
 ·obtain⟨y,hy,h3⟩:=h.un i hi;exact⟨y,List.mem_append_left _ hy,h3⟩
theorem gd_lay (op a b:Nat)(h1:op≠1)(h2:op≠2)(h3:op≠21):Gd (fun s=>s.lay op a b):=fun s h =>
 ⟨inv_word h ⟨op,a,b⟩ s.dp (fun h=>by rcases h with h|h<;>contradiction) (fun h=>absurd h h3),pre_lay s op a b⟩
theorem inv_const {s:Em}(h:Inv s)(n:Int)(op b d:Nat)(hop:op=1\/op=2):Inv ⟨(s.kc n).ws++[⟨op,s.cs.idxOf n,b⟩],(s.kc n).cs,(s.kc n).ns,(s.kc n).ks,d⟩:=by
 by_cases hm:n ∈ s.cs
 ·have e:(s.kc n).cs=s.cs:=by simp[Em.kc,hm]
  simp only[e];exact inv_word h ⟨op,s.cs.idxOf n,b⟩ d (fun _=>List.idxOf_lt_length_of_mem hm) (fun h=>by rcases hop with e|e<;>(rw[e] at h;cases h))
 ·have e:(s.kc n).cs=s.cs++[n]:=by simp[Em.kc,hm]
  have ei:s.cs.idxOf n=s.cs.length:=List.idxOf_eq_length hm;simp only[e,ei];refine⟨?_,h.nn,fun y hy hyo=>?_,fun y hy hyo=>?_,fun i hi=>?_,fun i hi=>?_⟩
  ·rw[List.nodup_append];exact⟨h.nc,by simp,fun x hx y hy=>by simp at hy;subst hy;rintro rfl;exact hm hx⟩
  ·rw[List.length_append];rcases List.mem_append.1 hy with hy|hy
   ·have:=h.wc y hy hyo;omega
   ·simp at hy;subst hy;simp
  ·rcases List.mem_append.1 hy with hy|hy
   ·exact h.wn y hy hyo
   ·simp at hy;subst hy;rcases hop with e|e<;>(rw[e] at hyo;cases hyo)
  ·rw[List.length_append] at hi;by_cases hi2:i<s.cs.length
   ·obtain⟨y,hy,h3⟩:=h.uc i hi2;exact⟨y,List.mem_append_left _ hy,h3⟩
   ·exact⟨_,List.mem_append_right _ (List.mem_singleton.2 rfl),hop,by simp at hi;simp only;omega⟩
  ·obtain⟨y,hy,h3⟩:=h.un i hi;exact⟨y,List.mem_append_left _ hy,h3⟩
theorem inv_name {s:Em}(h:Inv s)(n:List UInt8)(d:Nat):Inv ⟨(s.kn n).ws++[⟨21,s.ns.idxOf n,0⟩],(s.kn n).cs,(s.kn n).ns,(s.kn n).ks,d⟩:=by
 by_cases hm:n ∈ s.ns
 ·have e:(s.kn n).ns=s.ns:=by simp[Em.kn,hm]
  simp only[e];exact inv_word h ⟨21,s.ns.idxOf n,0⟩ d (fun h=>by simp at h) (fun _=>List.idxOf_lt_length_of_mem hm)
 ·have e:(s.kn n).ns=s.ns++[n]:=by simp[Em.kn,hm]
  have ei:s.ns.idxOf n=s.ns.length:=List.idxOf_eq_length hm;simp only[e,ei];refine⟨h.nc,?_,fun y hy hyo=>?_,fun y hy hyo=>?_,fun i hi=>?_,fun i hi=>?_⟩
  ·rw[List.nodup_append];exact⟨h.nn,by simp,fun x hx y hy=>by simp at hy;subst hy;rintro rfl;exact hm hx⟩
  ·rcases List.mem_append.1 hy with hy|hy
   ·exact h.wc y hy hyo
   ·simp at hy;subst hy;simp at hyo
  ·rw[List.length_append];rcases List.mem_append.1 hy with hy|hy
   ·have:=h.wn y hy hyo;omega
   ·simp at hy;subst hy;simp
  ·obtain⟨y,hy,h3⟩:=h.uc i hi;exact⟨y,List.mem_append_left _ hy,h3⟩
  ·rw[List.length_append] at hi;by_cases hi2:i<s.ns.length
   ·obtain⟨y,hy,h3⟩:=h.un i hi2;exact⟨y,List.mem_append_left _ hy,h3⟩
   ·exact⟨_,List.mem_append_right _ (List.mem_singleton.2 rfl),rfl,by simp at hi;simp only;omega⟩
theorem gd_con (n:Int)(kd u:Nat):Gd (fun s=>s.con n kd u):=fun s h=>⟨inv_const h n 1 kd _ (.inl rfl),Pre.trans (b:=s.kc n) ⟨fun _ _=>rfl,Nat.le_refl _,rfl⟩ (pre_push (s.kc n) 1 _ kd u)⟩
theorem gd_vtx (n:Int)(u:Nat):Gd (fun s=>(s.kc n).push 2 (s.cs.idxOf n) 0 u):=fun s h=>⟨inv_const h n 2 0 _ (.inr rfl),Pre.trans (b:=s.kc n) ⟨fun _ _=>rfl,Nat.le_refl _,rfl⟩ (pre_push (s.kc n) 2 _ 0 u)⟩
theorem gd_nam (n:List UInt8):Gd (fun s=>(s.kn n).lay 21 (s.ns.idxOf n) 0):=fun s h=>⟨inv_name h n _,Pre.trans (b:=s.kn n) ⟨fun _ _=>rfl,Nat.le_refl _,rfl⟩ (pre_lay (s.kn n) 21 _ 0)⟩
theorem gd_var (a u:Nat):Gd (fun s=>s.push 3 a 0 u):=fun s h=>⟨inv_word h ⟨3,a,0⟩ _ (fun h=>by simp at h) (fun h=>by simp at h),pre_push s 3 a 0 u⟩
theorem land_at (s:Em)(i j:Nat):(s.land i).ws[j]?=if i=j then (s.ws[j]?).map (fun x=>x.to s.ws.length) else s.ws[j]?:=by
 simp only[Em.land];rw[List.getElem?_modify];split<;>simp
theorem to_op (x:Wo)(n:Nat):(x.to n).op=x.op:=by unfold Wo.to;split<;>rfl
theorem inv_land {s:Em}(h:Inv s){i:Nat}{x:Wo}(hx:s.ws[i]?=some x)(h1:x.op≠1)(h2:x.op≠2)(h3:x.op≠21):Inv (s.land i):=by
 have hmem:∀ y ∈ (s.land i).ws,(y.op=1\/y.op=2\/y.op=21)->y ∈ s.ws:=fun y hy ho=>by
  obtain⟨j,hj⟩:=List.mem_iff_getElem?.1 hy;rw[land_at] at hj;split at hj
  ·rename_i e
   subst e;rw[hx] at hj;simp at hj;subst hj;rw[to_op] at ho;rcases ho with ho|ho|ho<;>contradiction
  ·exact List.mem_iff_getElem?.2 ⟨j,hj⟩
 have hback:∀ y ∈ s.ws,(y.op=1\/y.op=2\/y.op=21)->y ∈ (s.land i).ws:=fun y hy ho=>by
  obtain⟨j,hj⟩:=List.mem_iff_getElem?.1 hy;refine List.mem_iff_getElem?.2 ⟨j,?_⟩;rw[land_at];split
  ·rename_i e
   subst e;rw[hx] at hj;simp at hj;subst hj;rcases ho with ho|ho|ho<;>contradiction
  ·exact hj
 refine⟨h.nc,h.nn,fun y hy ho=>h.wc y (hmem y hy (by rcases ho with e|e;exact .inl e;exact .inr (.inl e))) ho,fun y hy ho=>h.wn y (hmem y hy (.inr (.inr ho))) ho,fun k hk=>?_,fun k hk=>?_⟩
 ·obtain⟨y,hy,ho,ha⟩:=h.uc k hk;exact⟨y,hback y hy (by rcases ho with e|e;exact .inl e;exact .inr (.inl e)),ho,ha⟩
 ·obtain⟨y,hy,ho,ha⟩:=h.un k hk;exact⟨y,hback y hy (.inr (.inr ho)),ho,ha⟩
theorem land_len (s:Em)(i:Nat):(s.land i).ws.length=s.ws.length:=by simp[Em.land]
theorem pre_land {s s':Em}(h:Pre s s'){i:Nat}(hi:s.ws.length<=i):Pre s (s'.land i):=⟨fun j hj=>by rw[land_at,if_neg (by omega)];exact h.at1 j hj,by rw[land_len];exact h.len,h.ks⟩
theorem lay_last (s:Em)(op a b:Nat):(s.lay op a b).ws[s.ws.length]?=some ⟨op,a,b⟩:=by simp[Em.lay]
theorem gd_fork {f g:Em->Em}(op:Nat)(hf:Gd f)(hg:Gd g)(h1:op≠1)(h2:op≠2)(h3:op≠21):Gd (fun s=>s.fork op f g):=fun s h=>by
 obtain⟨i1,p1⟩:=gd_lay op 0 0 h1 h2 h3 s h;obtain⟨i2,p2⟩:=hf _ i1;obtain⟨i3,p3⟩:=gd_lay 13 0 0 (by decide) (by decide) (by decide) _ i2
 dsimp only at i1 p1 i2 p2 i3 p3
 have hl1:(s.lay op 0 0).ws.length=s.ws.length+1:=by simp[Em.lay]
 have hw1:((f (s.lay op 0 0)).lay 13 0 0).ws[s.ws.length]?=some ⟨op,0,0⟩:=((p2.trans p3).at1 s.ws.length (by omega)).trans (lay_last s op 0 0);have i4:=inv_land i3 hw1 h1 h2 h3;have p4:=pre_land ((p1.trans p2).trans p3) (Nat.le_refl s.ws.length);obtain⟨i5,p5⟩:=hg _ i4;have hl2:=p2.len;have hl3:(((f (s.lay op 0 0)).lay 13 0 0).land s.ws.length).ws.length=(f (s.lay op 0 0)).ws.length+1:=by rw[land_len];simp[Em.lay]
 have hw2:(((f (s.lay op 0 0)).lay 13 0 0).land s.ws.length).ws[(f (s.lay op 0 0)).ws.length]?=some ⟨13,0,0⟩:=by
  rw[land_at,if_neg (by omega)];exact lay_last _ 13 0 0
 have hw3:=(p5.at1 (f (s.lay op 0 0)).ws.length (by omega)).trans hw2;exact⟨inv_land i5 hw3 (by decide) (by decide) (by decide),pre_land (p4.trans p5) (by omega)⟩
theorem gd_clrs (h:Nat):∀ (l:List Int) (i:Nat),Gd (clrs h l i)
 | [],_=>Gd.id
 | x::r,i=>fun s hs=>by
  unfold clrs;by_cases e:x=(h:Int)
  ·rw[if_pos e];obtain⟨a,b⟩:=gd_lay 19 i 0 (by decide) (by decide) (by decide) s hs;obtain⟨c,d⟩:=gd_clrs h r (i+1) _ a;exact⟨c,b.trans d⟩
  ·rw[if_neg e];exact gd_clrs h r (i+1) s hs
theorem gd_bdy (lv:List Int){t:Tr}(ht:∀ ar u,Gd (t ar u))(ar u:Nat):Gd (bdy lv t ar u):=(gd_clrs (ar+1) lv 0).comp (ht (ar+1) u)
theorem gd_srch (lv:List Int){t:Tr}(ht:∀ ar u,Gd (t ar u))(op:Nat)(v:Int)(h1:op≠1)(h2:op≠2)(h3:op≠21)(ar u:Nat):Gd (srch lv t op v ar u):=fun s hs =>
 gd_fork 24 ((((gd_bdy lv ht ar u).comp (gd_lay op s.ws.length 0 h1 h2 h3)).comp (gd_lay 25 0 0 (by decide) (by decide) (by decide))).comp (gd_con v 2 u)) (gd_con (1-v) 2 u) (by decide) (by decide) (by decide) s hs
theorem gd_gath (lv:List Int){t:Tr}(ht:∀ ar u,Gd (t ar u)){f:Nat->Em->Em}(hf:∀ g,Gd (f g))(ar u:Nat):Gd (gath lv t f ar u):=fun s h=>by
 obtain⟨i1,p1⟩:=gd_lay 24 0 0 (by decide) (by decide) (by decide) s h;obtain⟨i2,p2⟩:=(((gd_bdy lv ht ar u).comp (hf s.ws.length)).comp (gd_lay 13 s.ws.length 0 (by decide) (by decide) (by decide))) _ i1
 dsimp only at i1 p1 i2 p2
 have hl1:(s.lay 24 0 0).ws.length=s.ws.length+1:=by simp[Em.lay]
 have hw:=(p2.at1 s.ws.length (by omega)).trans (lay_last s 24 0 0);exact⟨inv_land i2 hw (by decide) (by decide) (by decide),pre_land (p1.trans p2) (Nat.le_refl _)⟩
theorem gd_qua (lv:List Int)(n:Int){a t:Tr}(ha:∀ ar u,Gd (a ar u))(ht:∀ ar u,Gd (t ar u))(ar u:Nat):Gd (qua lv n a t ar u):=fun s hs=>by
 unfold qua;split
 ·exact((ha ar u).comp (gd_srch lv ht 15 0 (by decide) (by decide) (by decide) ar u)) s hs
 ·split
  ·exact((ha ar u).comp (gd_srch lv ht 14 1 (by decide) (by decide) (by decide) ar u)) s hs
  ·split
   ·exact(((ha ar u).comp (gd_con 0 1 u)).comp (gd_gath lv ht (fun g=>((gd_lay 14 g 0 (by decide) (by decide) (by decide)).comp (gd_con 1 1 (u+1))).comp (gd_lay 6 0 0 (by decide) (by decide) (by decide))) ar (u+1))) s hs
   ·split
    ·exact(((ha ar u).comp (gd_con 0 1 u)).comp (gd_gath lv ht (fun g=>gd_lay 6 0 0 (by decide) (by decide) (by decide)) ar (u+1))) s hs
    ·exact(((((ha ar u).comp (gd_con 0 1 u)).comp (gd_con 0 2 (u+1))).comp (gd_gath lv ht (fun g=>gd_lay 26 (n-5).toNat 0 (by decide) (by decide) (by decide)) ar (u+2))).comp (gd_lay 27 0 0 (by decide) (by decide) (by decide))) s hs
theorem gd_seq:∀ (T:List Tr) (i ar u:Nat),(∀ t ∈ T,∀ ar u,Gd (t ar u))->Gd (seqT T i ar u)
 | [],_,_,_,_=>Gd.id
 | t::r,i,ar,u,h=>(h t (List.mem_cons_self ..) ar (u+i)).comp (gd_seq r (i+1) ar u (fun x hx=>h x (List.mem_cons_of_mem _ hx)))
theorem bar_ne (k:Int):barN k≠1/\barN k≠2/\barN k≠21:=by
 unfold barN
 repeat' split
 all_goals decide
theorem gd_opr (k n:Int)(nm:List UInt8)(kk:List Int):Gd (opr k n nm kk):=fun s hs=>by
 unfold opr;split
 ·exact gd_lay 11 0 _ (by decide) (by decide) (by decide) s hs
 ·split
  ·exact((gd_lay 11 0 (kk.getD 0 0).toNat (by decide) (by decide) (by decide)).comp (gd_lay 5 0 0 (by decide) (by decide) (by decide))) s hs
  ·split
   ·exact gd_lay 12 0 0 (by decide) (by decide) (by decide) s hs
   ·split
    ·exact gd_lay 12 0 1 (by decide) (by decide) (by decide) s hs
    ·split
     ·exact gd_lay 16 _ 0 (by decide) (by decide) (by decide) s hs
     ·split
      ·exact gd_nam nm s hs
      ·split
       ·exact gd_lay 23 _ 0 (by decide) (by decide) (by decide) s hs
       ·exact gd_lay _ 0 0 (bar_ne k).1 (bar_ne k).2.1 (bar_ne k).2.2 s hs
theorem gd_get {T:List Tr}(h:∀ t ∈ T,∀ ar u,Gd (t ar u))(i ar u:Nat):Gd (T.getD i noT ar u):=by
 by_cases hi:i<T.length
 ·rw[List.getD_eq_getElem?_getD,List.getElem?_eq_getElem hi];exact h _ (List.getElem_mem hi) ar u
 ·rw[List.getD_eq_getElem?_getD,List.getElem?_eq_none (by omega)];exact Gd.id
theorem gd_prt (lv:List Int)(k n:Int)(nm:List UInt8)(kk:List Int){T:List Tr}(h:∀ t ∈ T,∀ ar u,Gd (t ar u))(ar u:Nat):Gd (prt lv k n nm kk T ar u):=fun s hs=>by
 unfold prt;split
 ·exact gd_con n 1 u s hs
 split
 ·exact gd_con n 2 u s hs
 split
 ·exact gd_vtx n u s hs
 split
 ·exact gd_var _ u s hs
 split
 ·exact((gd_get h 0 ar u).comp (gd_fork 14 (gd_get h 1 ar u) (gd_con 0 2 u) (by decide) (by decide) (by decide))) s hs
 split
 ·exact((gd_get h 0 ar u).comp (gd_fork 15 (gd_get h 1 ar u) (gd_con 1 2 u) (by decide) (by decide) (by decide))) s hs
 split
 ·exact((gd_get h 0 ar u).comp (gd_fork 14 (gd_get h 1 ar u) (gd_get h 2 ar u) (by decide) (by decide) (by decide))) s hs
 split
 ·have hs1:Inv (s.cel n.toNat (kk.getD 0 0)):=⟨hs.nc,hs.nn,hs.wc,hs.wn,hs.uc,hs.un⟩
  have p0:Pre s (s.cel n.toNat (kk.getD 0 0)):=⟨fun _ _=>rfl,Nat.le_refl _,by simp[Em.cel]⟩
  obtain⟨i1,p1⟩:=gd_lay 17 n.toNat 0 (by decide) (by decide) (by decide) _ hs1;obtain⟨i2,p2⟩:=((gd_get h 0 ar u).comp (gd_lay 18 n.toNat 0 (by decide) (by decide) (by decide))) _ i1
  dsimp only at i1 p1 i2 p2
  have hl1:((s.cel n.toNat (kk.getD 0 0)).lay 17 n.toNat 0).ws.length=s.ws.length+1:=by simp[Em.lay,Em.cel]
  have hw:=(p2.at1 s.ws.length (by omega)).trans (lay_last (s.cel n.toNat (kk.getD 0 0)) 17 n.toNat 0);exact⟨inv_land i2 hw (show (17:Nat)≠1 by decide) (show (17:Nat)≠2 by decide) (show (17:Nat)≠21 by decide),pre_land ((p0.trans p1).trans p2) (Nat.le_refl _)⟩
 split
 ·exact gd_qua lv n (fun ar u=>gd_get h 0 ar u) (fun ar u=>gd_get h 1 ar u) ar u s hs
 ·exact((gd_seq T 0 ar u h).comp (gd_opr k n nm kk)) s hs
theorem gd_emF (lv:List Int):∀ (f:Fs),∀ t ∈ emF lv f,∀ ar u,Gd (t ar u)
 | ⟨none⟩=>fun t ht=>by simp[emF] at ht
 | ⟨some ⟨k,n,nm,a,ks,r⟩⟩=>fun t ht ar u=>by
  simp only[emF,List.mem_cons] at ht;rcases ht with rfl|ht
  ·exact gd_prt lv k n nm (kdF ks) (gd_emF lv ks) ar u
  ·exact gd_emF lv r t ht ar u
theorem gd_emE (lv:List Int)(e:Ex)(ar u:Nat):Gd (emE lv e ar u):=gd_prt lv e.k e.n e.nm (kdF e.kids) (gd_emF lv e.kids) ar u
theorem emA_inv (lv:List Int)(e:Ex):Inv (emA lv e)/\(emA lv e).ks.length=lv.length:=by
 have h0:Inv (em0 lv):=⟨List.nodup_nil,List.nodup_nil,fun x hx=>by simp[em0] at hx,fun x hx=>by simp[em0] at hx,fun i hi=>by simp[em0] at hi,fun i hi=>by simp[em0] at hi⟩
 obtain⟨h,p⟩:=((gd_emE lv e 0 0).comp (gd_lay 0 0 0 (by decide) (by decide) (by decide))) _ h0;exact⟨h,p.ks.trans (by simp[em0])⟩
open Go.ChangeShapes Go.WideShapes Go.ChangeAt Go.RowKit
def hvP (e:Ex)(cells:List Int):Bool:=decide (20000<cells.length)||decide (wgF e.kids (20000-1)<0)
theorem heavy14_c (e:Ex)(ao:Option Addr)(cap ac0:Nat)(cv:Value)(cells:List Int)(w:World)(hc:InA w cv cells)(hcl:cells.length<=maxLen)(hlen:e.kids.len<=maxLen)(hwd:e.kids.wide)(S:SnA w e.kids ao) :
  Calls Tryz.prog 14 #[plV e ao cap cv] w fun x w'=>x=.returned (.bool (hvP e cells))/\Below w.heap.size w w':=by
 obtain⟨W,hW⟩:∃W,W=hvP e cells:=⟨_,rfl⟩
 rw[<-hW];have HW:Hid (W=hvP e cells):=hW;clear hW;obtain⟨ac,cc,hcv,hcx⟩:=hc;subst hcv;clear hcx;have hml:Hid (maxLen=9223372036854775807):=rfl;have hcm:cells.length<=9223372036854775807:=by have:=hml.out;omega
 have B0:Below w.heap.size w (w.alloc (.cells #[.int .i64 e.k,.int .i64 e.n,stv e.nm,.slice ao e.kids.len cap,.slice ac cells.length cc] 37)):=(Below.refl _ w).alloc (Nat.le_refl _) _;have E0:(w.alloc (.cells #[.int .i64 e.k,.int .i64 e.n,stv e.nm,.slice ao e.kids.len cap,.slice ac cells.length cc] 37)).heap[w.heap.size]?=some (.cells #[.int .i64 e.k,.int .i64 e.n,stv e.nm,.slice ao e.kids.len cap,.slice ac cells.length cc] 37):=heap_alloc_new w _;have S0:=SnA.below S B0;rw[plV_out];go_enter Tryz.func14,Tryz.ntmps14;go_upto_region 1 with fail;generalize w.alloc (.cells #[.int .i64 e.k,.int .i64 e.n,stv e.nm,.slice ao e.kids.len cap,.slice ac cells.length cc] 37)=w0 at *;obtain⟨p0,p1,p2,p3,p4,pf⟩:=box5 E0;by_cases h2:20000<cells.length
 ·have hI:(20000:Int)<(cells.length:Int):=by omega
  have HZ:Hid (W=true):=by show W=_;rw[HW.out];simp[hvP,h2]
  clear HW h2;go_wp2;go_ret;rw[HZ.out];exact⟨rfl,B0⟩
 ·have hI:¬(20000:Int)<(cells.length:Int):=by omega
  have HZ:Hid (W=decide (wgF e.kids (20000-1)<0)):=by show W=_;rw[HW.out];simp[hvP,h2]
  have c1:=weighn_ok (e.kids.size+1) e ao cap 20000 w0 (by omega) hlen hwd (by omega) (by omega) S0;rw[exN_out] at c1;generalize wgF e.kids (20000-1)=g at *;clear HW h2;go_wp2_with fail;refine c1.mono ?_;rintro z w1 ⟨rfl,b1⟩;have B1:Below w.heap.size w w1:=B0.trans (b1.mono B0.size);clear c1 p0 p1 p2 p3 p4 pf E0;go_wp2;go_ret;rw[HZ.out];exact⟨rfl,B1⟩
theorem hvE_not {e:Ex}{cells:List Int}(h:hvP e cells=false):cells.length<=20000/\e.kids.size<=20000:=by
 unfold hvP at h;simp only[Bool.or_eq_false_iff,decide_eq_false_iff_not] at h;have h1:=wgF_size e.kids (20000-1) (by omega);omega
theorem ret_highE {k l m:IntKind}{a b c d:Int}(h:a=b):Ending.returned (.tuple #[.int k a,.int l c,.int m d])=.returned (.tuple #[.int k b,.int l c,.int m d]):=by rw[h]
theorem rparts_e (u:Int)(w:World)(h1:0<=u)(h2:u<18446744073709551616) :
  Calls Tryz.prog 27 #[.int .u64 u] w fun e w' =>
   e=.returned (.tuple #[.int .i64 (u / 72057594037927936),.int .i64 (u / 268435456 % 268435456),.int .i64 (u % 268435456)])/\w'=w:=by
 go_enter Tryz.func27,Tryz.ntmps27;go_wp2;go_ret3;exact⟨ret_highE (by omega),rfl⟩
def Lse (w:World)(ao:Option Addr)(xs:List Value):Prop:=xs=[]\/∃b,ao=some ⟨b,0,none⟩/\b<w.heap.size/\∀ j x,xs[j]?=some x->w.cell? ⟨b,j,none⟩=some x
theorem Lse.below {w w':World}{ao:Option Addr}{xs:List Value}(h:Lse w ao xs)(B:Below w.heap.size w w'):Lse w' ao xs:=by
 rcases h with h|⟨b,h1,h2,h3⟩
 ·exact .inl h
 ·exact .inr ⟨b,h1,Nat.lt_of_lt_of_le h2 B.size,fun j x hx=>(B.cell (p:=⟨b,j,none⟩) h2).trans (h3 j x hx)⟩
theorem Lse.at {w:World}{ao:Option Addr}{xs:List Value}(h:Lse w ao xs){j:Nat}{x:Value}(hx:xs[j]?=some x):∃b,ao=some ⟨b,0,none⟩/\w.cell? ⟨b,j,none⟩=some x:=by
 rcases h with rfl|⟨b,h1,h2,h3⟩
 ·simp at hx
 ·exact⟨b,h1,h3 j x hx⟩
theorem Row.lse {w:World}{o:Nat->Nat}{i:Nat}{e:TypeId}{ao:Option Addr}{n cap:Nat}{xs:List Value}(h:Row w o i e 1 (.slice ao n cap) n xs):Lse w ao xs:=by
 by_cases hn:0<n
 ·obtain⟨g,c,hv,-,-,-,hlt,hc,-⟩:=h.pos hn;simp only[Value.slice.injEq,true_and] at hv;refine .inr ⟨g,hv.1,hlt,fun j x hx=>?_⟩;have hl:=h.len;have hj:j<n*1:=by have:=(List.getElem?_eq_some_iff.1 hx).1;omega
  rw[hc j hj];exact hx
 ·have hl:=h.len;exact .inl (List.eq_nil_of_length_eq_zero (by omega))
structure EmLs (w:World)(s:Em)(aw ac an:Option Addr):Prop where
 ws:Lse w aw (woV s.ws)
 cs:Lse w ac (eiV s.cs)
 ns:Lse w an (esV s.ns)
theorem EmLs.below {w w':World}{s:Em}{aw ac an:Option Addr}(h:EmLs w s aw ac an)(B:Below w.heap.size w w'):EmLs w' s aw ac an:=⟨h.ws.below B,h.cs.below B,h.ns.below B⟩
abbrev bV (U:List Bool):Array Value:=(U.map Value.bool).toArray
structure Mks (w0 wr:World)(g:Nat)(U V:List Bool):Prop where
 bl:Below g w0 wr
 u:wr.heap[g]?=some (.cells (bV U) 4 (0,0))
 v:wr.heap[g+1]?=some (.cells (bV V) 4 (0,0))
theorem Mks.drewN {w0 wr:World}{g:Nat}{U V:List Bool}(h:Mks w0 wr g U V)(n:Nat):Mks w0 (wr.drewN n) g U V:=by
 induction n with
 | zero=>exact h
 | succ n ih=>exact⟨ih.bl.drew,ih.u,ih.v⟩
theorem bool_cell {w:World}{g:Nat}{U:List Bool}(h:w.heap[g]?=some (.cells (bV U) 4 (0,0))){j:Nat}(hj:j<U.length):w.cell? ⟨g,j,none⟩=some (.bool U[j])/\w.frozen? ⟨g,j,none⟩=false:=by
 refine⟨?_,frozen_of_row w g j _ _ h⟩;rw[cell_of_row w g j _ _ _ h];simp[hj]
theorem bool_set {w:World}{g:Nat}{U:List Bool}(h:w.heap[g]?=some (.cells (bV U) 4 (0,0)))(j:Nat)(b:Bool):(w.setCell ⟨g,j,none⟩ (.bool b)).heap[g]?=some (.cells (bV (U.set j b)) 4 (0,0)):=by
 rw[heap_setCell_same w g j _ _ (.bool b) h];simp[bV]
theorem Mks.setU {w0 wr:World}{g:Nat}{U V:List Bool}(h:Mks w0 wr g U V)(j:Nat):Mks w0 (wr.setCell ⟨g,j,none⟩ (.bool true)) g (U.set j true) V :=
 ⟨h.bl.setCell (p:=⟨g,j,none⟩) (Nat.le_refl _) _,bool_set h.u j true,(heap_setCell_other wr ⟨g,j,none⟩ (g+1) _ (by show g+1≠g;omega)).trans h.v⟩
theorem Mks.setV {w0 wr:World}{g:Nat}{U V:List Bool}(h:Mks w0 wr g U V)(j:Nat):Mks w0 (wr.setCell ⟨g+1,j,none⟩ (.bool true)) g U (V.set j true) :=
 ⟨h.bl.setCell (p:=⟨g+1,j,none⟩) (by show g<=g+1;omega) _,(heap_setCell_other wr ⟨g+1,j,none⟩ g _ (by show g≠g+1;omega)).trans h.u,bool_set h.v j true⟩
def Mk1 (l:List Wo)(k:Nat)(U V:List Bool):Prop:=∀ j x,j<k->l[j]?=some x->((x.op=1\/x.op=2)->U[x.a]?=some true)/\(x.op=21->V[x.a]?=some true)
theorem set_true {U:List Bool}{a i:Nat}(h:U[i]?=some true):(U.set a true)[i]?=some true:=by
 have hl:=(List.getElem?_eq_some_iff.1 h).1;rw[List.getElem?_set];split
 ·rw[if_pos (by omega)]
 ·exact h
theorem Mk1.next {l:List Wo}{k:Nat}{U V U' V':List Bool}(h:Mk1 l k U V){x:Wo}(hx:l[k]?=some x)(hU:∀ i:Nat,U[i]?=some true->U'[i]?=some true)(hV:∀ i:Nat,V[i]?=some true->V'[i]?=some true)(h1:(x.op=1\/x.op=2)->U'[x.a]?=some true)(h2:x.op=21->V'[x.a]?=some true):Mk1 l (k+1) U' V':=by
 intro j y hj hy;by_cases e:j=k
 ·subst e;rw[hx] at hy;injection hy with hy
  subst hy;exact⟨h1,h2⟩
 ·obtain⟨a,b⟩:=h j y (by omega) hy;exact⟨fun ho=>hU _ (a ho),fun ho=>hV _ (b ho)⟩
theorem Mk1.all {s:Em}(hi:Inv s){U V:List Bool}(h:Mk1 s.ws s.ws.length U V):(∀ i,i<s.cs.length->U[i]?=some true)/\(∀ i,i<s.ns.length->V[i]?=some true):=by
 refine⟨fun i hlt=>?_,fun i hlt=>?_⟩
 ·obtain⟨x,hx,ho,ha⟩:=hi.uc i hlt;obtain⟨j,hj⟩:=List.mem_iff_getElem?.1 hx;rw[<-ha];exact(h j x (List.getElem?_eq_some_iff.1 hj).1 hj).1 ho
 ·obtain⟨x,hx,ho,ha⟩:=hi.un i hlt;obtain⟨j,hj⟩:=List.mem_iff_getElem?.1 hx;rw[<-ha];exact(h j x (List.getElem?_eq_some_iff.1 hj).1 hj).2 ho
theorem run_bools (w:World)(n:Nat)(hn:n<=100000000):(Instr.makeSlice 57 (.int .i64 (n:Nat)) (.int .i64 (n:Nat))).run Tryz.prog w=.ok (.slice (some ⟨w.heap.size,0,none⟩) n n) (w.alloc (.cells (bV (List.replicate n false)) 4)):=by
 obtain⟨ii,i1,i2,i3,i4⟩:=info_parts (show (Tryz.prog.info? 4).map (fun i=>(i.zero,i.size,i.bytes))=some (some (.bool false),1,1) by kernel_rfl)
 have:=run_make (P:=Tryz.prog) w 57 4 ii _ Tryz.underlying57 i1 i2 .i64 .i64 n n (by omega) (Int.le_refl _) (by rw[i4];omega) (by omega)
 rw[i3] at this;have e:madeCells (Value.bool false).cells (n*1)=bV (List.replicate n false):=by
  apply Array.ext';apply List.ext_getElem?;intro j;simp only[madeCells,Value.cells,bV];by_cases hj:j<n
  ·simp[hj,Nat.mod_one]
  ·simp[hj]
 simp only[Int.toNat_natCast] at this;rw[e] at this;exact this
end Go.Proofs.YtnfmpocfakblmaaGreatDoor

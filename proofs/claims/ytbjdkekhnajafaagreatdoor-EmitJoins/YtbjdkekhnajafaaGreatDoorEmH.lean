import Derived.Test.YtbjdkekhnajafaaGreatDoorAwaE
set_option maxRecDepth 100000
set_option maxHeartbeats 8000000
namespace Go.Proofs.YtbjdkekhnajafaaGreatDoor
set_option linter.unusedVariables false
set_option linter.unusedSimpArgs false
structure Inv (s:Em):Prop where
 nc:s.cs.Nodup
 nn:s.ns.Nodup
 wc:∀ x ∈ s.ws,(x.op=1\/x.op=2)->x.a<s.cs.length
 wn:∀ x ∈ s.ws,x.op=21->x.a<s.ns.length
 uc:∀ i,i<s.cs.length->∃x ∈ s.ws,(x.op=1\/x.op=2)/\x.a=i
 un:∀ i,i<s.ns.length->∃x ∈ s.ws,x.op=21/\x.a=i
structure Pre (s s':Em):Prop where
 at1:∀ i,i<s.ws.length->s'.ws[i]?=s.ws[i]?
 len:s.ws.length<=s'.ws.length
 ks:s'.ks.length=s.ks.length
theorem Pre.refl (s:Em):Pre s s:=⟨fun _ _=>rfl,Nat.le_refl _,rfl⟩
theorem Pre.trans {a b c:Em}(h:Pre a b)(k:Pre b c):Pre a c:=⟨fun i hi=>(k.at1 i (Nat.lt_of_lt_of_le hi h.len)).trans (h.at1 i hi),Nat.le_trans h.len k.len,k.ks.trans h.ks⟩
def Gd (f:Em->Em):Prop:=∀ s,Inv s->Inv (f s)/\Pre s (f s)
theorem Gd.id:Gd (fun s=>s):=fun s h=>⟨h,Pre.refl s⟩
theorem Gd.comp {f g:Em->Em}(hf:Gd f)(hg:Gd g):Gd (fun s=>g (f s)):=fun s h=>⟨(hg _ (hf s h).1).1,(hf s h).2.trans (hg _ (hf s h).1).2⟩
theorem pre_lay (s:Em)(op a b:Nat):Pre s (s.lay op a b):=⟨fun i hi=>by simp only[Em.lay];exact List.getElem?_append_left hi,by simp[Em.lay],rfl⟩
theorem pre_push (s:Em)(op a b u:Nat):Pre s (s.push op a b u):=⟨fun i hi=>by simp only[Em.push];exact List.getElem?_append_left hi,by simp[Em.push],rfl⟩
theorem inv_word {s:Em}(h:Inv s)(x:Wo)(d:Nat)(h1:(x.op=1\/x.op=2)->x.a<s.cs.length)(h2:x.op=21->x.a<s.ns.length):Inv ⟨s.ws++[x],s.cs,s.ns,s.ks,d⟩:=by
 refine⟨h.nc,h.nn,fun y hy=>?_,fun y hy=>?_,fun i hi=>?_,fun i hi=>?_⟩
 ·rcases List.mem_append.1 hy with hy|hy
  ·exact h.wc y hy
  ·simp at hy;subst hy;exact h1
 ·rcases List.mem_append.1 hy with hy|hy
  ·exact h.wn y hy
  ·simp at hy;subst hy;exact h2
 ·obtain⟨y,hy,h3⟩:=h.uc i hi;exact⟨y,List.mem_append_left _ hy,h3⟩
 ·obtain⟨y,hy,h3⟩:=h.un i hi;exact⟨y,List.mem_append_left _ hy,h3⟩
theorem gd_lay (op a b:Nat)(h1:op≠1)(h2:op≠2)(h3:op≠21):Gd (fun s=>s.lay op a b):=fun s h =>
 ⟨inv_word h ⟨op,a,b⟩ s.dp (fun h=>by rcases h with h|h<;>contradiction) (fun h=>absurd h h3),pre_lay s op a b⟩
theorem inv_const {s:Em}(h:Inv s)(n:Int)(op b d:Nat)(hop:op=1\/op=2):Inv ⟨(s.kc n).ws++[⟨op,s.cs.idxOf n,b⟩],(s.kc n).cs,(s.kc n).ns,(s.kc n).ks,d⟩:=by
 by_cases hm:n ∈ s.cs
 ·have e:(s.kc n).cs=s.cs:=by simp[Em.kc,hm]
  simp only[e];exact inv_word h ⟨op,s.cs.idxOf n,b⟩ d (fun _=>List.idxOf_lt_length_of_mem hm) (fun h=>by rcases hop with e|e<;>(rw[e] at h;cases h))
 ·have e:(s.kc n).cs=s.cs++[n]:=by simp[Em.kc,hm]
  have ei:s.cs.idxOf n=s.cs.length:=List.idxOf_eq_length hm;simp only[e,ei];refine⟨?_,h.nn,fun y hy hyo=>?_,fun y hy hyo=>?_,fun i hi=>?_,fun i hi=>?_⟩
  ·rw[List.nodup_append];exact⟨h.nc,by simp,fun x hx y hy=>by simp at hy;subst hy;rintro rfl;exact hm hx⟩
  ·rw[List.length_append];rcases List.mem_append.1 hy with hy|hy
   ·have:=h.wc y hy hyo;omega
   ·simp at hy;subst hy;simp
  ·rcases List.mem_append.1 hy with hy|hy
   ·exact h.wn y hy hyo
   ·simp at hy;subst hy;rcases hop with e|e<;>(rw[e] at hyo;cases hyo)
  ·rw[List.length_append] at hi;by_cases hi2:i<s.cs.length
   ·obtain⟨y,hy,h3⟩:=h.uc i hi2;exact⟨y,List.mem_append_left _ hy,h3⟩
   ·exact⟨_,List.mem_append_right _ (List.mem_singleton.2 rfl),hop,by simp at hi;simp only;omega⟩
  ·obtain⟨y,hy,h3⟩:=h.un i hi;exact⟨y,List.mem_append_left _ hy,h3⟩
theorem inv_name {s:Em}(h:Inv s)(n:List UInt8)(d:Nat):Inv ⟨(s.kn n).ws++[⟨21,s.ns.idxOf n,0⟩],(s.kn n).cs,(s.kn n).ns,(s.kn n).ks,d⟩:=by
 by_cases hm:n ∈ s.ns
 ·have e:(s.kn n).ns=s.ns:=by simp[Em.kn,hm]
  simp only[e];exact inv_word h ⟨21,s.ns.idxOf n,0⟩ d (fun h=>by simp at h) (fun _=>List.idxOf_lt_length_of_mem hm)
 ·have e:(s.kn n).ns=s.ns++[n]:=by simp[Em.kn,hm]
  have ei:s.ns.idxOf n=s.ns.length:=List.idxOf_eq_length hm;simp only[e,ei];refine⟨h.nc,?_,fun y hy hyo=>?_,fun y hy hyo=>?_,fun i hi=>?_,fun i hi=>?_⟩
  ·rw[List.nodup_append];exact⟨h.nn,by simp,fun x hx y hy=>by simp at hy;subst hy;rintro rfl;exact hm hx⟩
  ·rcases List.mem_append.1 hy with hy|hy
   ·exact h.wc y hy hyo
   ·simp at hy;subst hy;simp at hyo
  ·rw[List.length_append];rcases List.mem_append.1 hy with hy|hy
   ·have:=h.wn y hy hyo;omega
   ·simp at hy;subst hy;simp
  ·obtain⟨y,hy,h3⟩:=h.uc i hi;exact⟨y,List.mem_append_left _ hy,h3⟩
  ·rw[List.length_append] at hi;by_cases hi2:i<s.ns.length
   ·obtain⟨y,hy,h3⟩:=h.un i hi2;exact⟨y,List.mem_append_left _ hy,h3⟩
   ·exact⟨_,List.mem_append_right _ (List.mem_singleton.2 rfl),rfl,by simp at hi;simp only;omega⟩
theorem gd_con (n:Int)(kd u:Nat):Gd (fun s=>s.con n kd u):=fun s h=>⟨inv_const h n 1 kd _ (.inl rfl),Pre.trans (b:=s.kc n) ⟨fun _ _=>rfl,Nat.le_refl _,rfl⟩ (pre_push (s.kc n) 1 _ kd u)⟩
theorem gd_vtx (n:Int)(u:Nat):Gd (fun s=>(s.kc n).push 2 (s.cs.idxOf n) 0 u):=fun s h=>⟨inv_const h n 2 0 _ (.inr rfl),Pre.trans (b:=s.kc n) ⟨fun _ _=>rfl,Nat.le_refl _,rfl⟩ (pre_push (s.kc n) 2 _ 0 u)⟩
theorem gd_nam (n:List UInt8):Gd (fun s=>(s.kn n).lay 21 (s.ns.idxOf n) 0):=fun s h=>⟨inv_name h n _,Pre.trans (b:=s.kn n) ⟨fun _ _=>rfl,Nat.le_refl _,rfl⟩ (pre_lay (s.kn n) 21 _ 0)⟩
theorem gd_var (a u:Nat):Gd (fun s=>s.push 3 a 0 u):=fun s h=>⟨inv_word h ⟨3,a,0⟩ _ (fun h=>by simp at h) (fun h=>by simp at h),pre_push s 3 a 0 u⟩
theorem land_at (s:Em)(i j:Nat):(s.land i).ws[j]?=if i=j then (s.ws[j]?).map (fun x=>x.to s.ws.length) else s.ws[j]?:=by
 simp only[Em.land];rw[List.getElem?_modify];split<;>simp
theorem to_op (x:Wo)(n:Nat):(x.to n).op=x.op:=by unfold Wo.to;split<;>rfl
theorem inv_land {s:Em}(h:Inv s){i:Nat}{x:Wo}(hx:s.ws[i]?=some x)(h1:x.op≠1)(h2:x.op≠2)(h3:x.op≠21):Inv (s.land i):=by
 have hmem:∀ y ∈ (s.land i).ws,(y.op=1\/y.op=2\/y.op=21)->y ∈ s.ws:=fun y hy ho=>by
  obtain⟨j,hj⟩:=List.mem_iff_getElem?.1 hy;rw[land_at] at hj;split at hj
  ·rename_i e
   subst e;rw[hx] at hj;simp at hj;subst hj;rw[to_op] at ho;rcases ho with ho|ho|ho<;>contradiction
  ·exact List.mem_iff_getElem?.2 ⟨j,hj⟩
 have hback:∀ y ∈ s.ws,(y.op=1\/y.op=2\/y.op=21)->y ∈ (s.land i).ws:=fun y hy ho=>by
  obtain⟨j,hj⟩:=List.mem_iff_getElem?.1 hy;refine List.mem_iff_getElem?.2 ⟨j,?_⟩;rw[land_at];split
  ·rename_i e
   subst e;rw[hx] at hj;simp at hj;subst hj;rcases ho with ho|ho|ho<;>contradiction
  ·exact hj
 refine⟨h.nc,h.nn,fun y hy ho=>h.wc y (hmem y hy (by rcases ho with e|e;exact .inl e;exact .inr (.inl e))) ho,fun y hy ho=>h.wn y (hmem y hy (.inr (.inr ho))) ho,fun k hk=>?_,fun k hk=>?_⟩
 ·obtain⟨y,hy,ho,ha⟩:=h.uc k hk;exact⟨y,hback y hy (by rcases ho with e|e;exact .inl e;exact .inr (.inl e)),ho,ha⟩
 ·obtain⟨y,hy,ho,ha⟩:=h.un k hk;exact⟨y,hback y hy (.inr (.inr ho)),ho,ha⟩
theorem land_len (s:Em)(i:Nat):(s.land i).ws.length=s.ws.length:=by simp[Em.land]
theorem pre_land {s s':Em}(h:Pre s s'){i:Nat}(hi:s.ws.length<=i):Pre s (s'.land i):=⟨fun j hj=>by rw[land_at,if_neg (by omega)];exact h.at1 j hj,by rw[land_len];exact h.len,h.ks⟩
theorem lay_last (s:Em)(op a b:Nat):(s.lay op a b).ws[s.ws.length]?=some ⟨op,a,b⟩:=by simp[Em.lay]
theorem gd_fork {f g:Em->Em}(op:Nat)(hf:Gd f)(hg:Gd g)(h1:op≠1)(h2:op≠2)(h3:op≠21):Gd (fun s=>s.fork op f g):=fun s h=>by
 obtain⟨i1,p1⟩:=gd_lay op 0 0 h1 h2 h3 s h;obtain⟨i2,p2⟩:=hf _ i1;obtain⟨i3,p3⟩:=gd_lay 13 0 0 (by decide) (by decide) (by decide) _ i2
 dsimp only at i1 p1 i2 p2 i3 p3
 have hl1:(s.lay op 0 0).ws.length=s.ws.length+1:=by simp[Em.lay]
 have hw1:((f (s.lay op 0 0)).lay 13 0 0).ws[s.ws.length]?=some ⟨op,0,0⟩:=((p2.trans p3).at1 s.ws.length (by omega)).trans (lay_last s op 0 0);have i4:=inv_land i3 hw1 h1 h2 h3;have p4:=pre_land ((p1.trans p2).trans p3) (Nat.le_refl s.ws.length);obtain⟨i5,p5⟩:=hg _ i4;have hl2:=p2.len;have hl3:(((f (s.lay op 0 0)).lay 13 0 0).land s.ws.length).ws.length=(f (s.lay op 0 0)).ws.length+1:=by rw[land_len];simp[Em.lay]
 have hw2:(((f (s.lay op 0 0)).lay 13 0 0).land s.ws.length).ws[(f (s.lay op 0 0)).ws.length]?=some ⟨13,0,0⟩:=by
  rw[land_at,if_neg (by omega)];exact lay_last _ 13 0 0
 have hw3:=(p5.at1 (f (s.lay op 0 0)).ws.length (by omega)).trans hw2;exact⟨inv_land i5 hw3 (by decide) (by decide) (by decide),pre_land (p4.trans p5) (by omega)⟩
theorem gd_clrs (h:Nat):∀ (l:List Int) (i:Nat),Gd (clrs h l i)
 | [],_=>Gd.id
 | x::r,i=>fun s hs=>by
  unfold clrs;by_cases e:x=(h:Int)
  ·rw[if_pos e];obtain⟨a,b⟩:=gd_lay 19 i 0 (by decide) (by decide) (by decide) s hs;obtain⟨c,d⟩:=gd_clrs h r (i+1) _ a;exact⟨c,b.trans d⟩
  ·rw[if_neg e];exact gd_clrs h r (i+1) s hs
theorem gd_bdy (lv:List Int){t:Tr}(ht:∀ ar u,Gd (t ar u))(ar u:Nat):Gd (bdy lv t ar u):=(gd_clrs (ar+1) lv 0).comp (ht (ar+1) u)
theorem gd_srch (lv:List Int){t:Tr}(ht:∀ ar u,Gd (t ar u))(op:Nat)(v:Int)(h1:op≠1)(h2:op≠2)(h3:op≠21)(ar u:Nat):Gd (srch lv t op v ar u):=fun s hs =>
 gd_fork 24 ((((gd_bdy lv ht ar u).comp (gd_lay op s.ws.length 0 h1 h2 h3)).comp (gd_lay 25 0 0 (by decide) (by decide) (by decide))).comp (gd_con v 2 u)) (gd_con (1-v) 2 u) (by decide) (by decide) (by decide) s hs
theorem gd_gath (lv:List Int){t:Tr}(ht:∀ ar u,Gd (t ar u)){f:Nat->Em->Em}(hf:∀ g,Gd (f g))(ar u:Nat):Gd (gath lv t f ar u):=fun s h=>by
 obtain⟨i1,p1⟩:=gd_lay 24 0 0 (by decide) (by decide) (by decide) s h;obtain⟨i2,p2⟩:=(((gd_bdy lv ht ar u).comp (hf s.ws.length)).comp (gd_lay 13 s.ws.length 0 (by decide) (by decide) (by decide))) _ i1
 dsimp only at i1 p1 i2 p2
 have hl1:(s.lay 24 0 0).ws.length=s.ws.length+1:=by simp[Em.lay]
 have hw:=(p2.at1 s.ws.length (by omega)).trans (lay_last s 24 0 0);exact⟨inv_land i2 hw (by decide) (by decide) (by decide),pre_land (p1.trans p2) (Nat.le_refl _)⟩
theorem gd_qua (lv:List Int)(n:Int){a t:Tr}(ha:∀ ar u,Gd (a ar u))(ht:∀ ar u,Gd (t ar u))(ar u:Nat):Gd (qua lv n a t ar u):=fun s hs=>by
 unfold qua;split
 ·exact((ha ar u).comp (gd_srch lv ht 15 0 (by decide) (by decide) (by decide) ar u)) s hs
 ·split
  ·exact((ha ar u).comp (gd_srch lv ht 14 1 (by decide) (by decide) (by decide) ar u)) s hs
  ·split
   ·exact(((ha ar u).comp (gd_con 0 1 u)).comp (gd_gath lv ht (fun g=>((gd_lay 14 g 0 (by decide) (by decide) (by decide)).comp (gd_con 1 1 (u+1))).comp (gd_lay 6 0 0 (by decide) (by decide) (by decide))) ar (u+1))) s hs
   ·split
    ·exact(((ha ar u).comp (gd_con 0 1 u)).comp (gd_gath lv ht (fun g=>gd_lay 6 0 0 (by decide) (by decide) (by decide)) ar (u+1))) s hs
    ·exact(((((ha ar u).comp (gd_con 0 1 u)).comp (gd_con 0 2 (u+1))).comp (gd_gath lv ht (fun g=>gd_lay 26 (n-5).toNat 0 (by decide) (by decide) (by decide)) ar (u+2))).comp (gd_lay 27 0 0 (by decide) (by decide) (by decide))) s hs
theorem gd_seq:∀ (T:List Tr) (i ar u:Nat),(∀ t ∈ T,∀ ar u,Gd (t ar u))->Gd (seqT T i ar u)
 | [],_,_,_,_=>Gd.id
 | t::r,i,ar,u,h=>(h t (List.mem_cons_self ..) ar (u+i)).comp (gd_seq r (i+1) ar u (fun x hx=>h x (List.mem_cons_of_mem _ hx)))
theorem bar_ne (k:Int):barN k≠1/\barN k≠2/\barN k≠21:=by
 unfold barN
 repeat' split
 all_goals decide
theorem gd_opr (k n:Int)(nm:List UInt8)(kk:List Int):Gd (opr k n nm kk):=fun s hs=>by
 unfold opr;split
 ·exact gd_lay 11 0 _ (by decide) (by decide) (by decide) s hs
 ·split
  ·exact((gd_lay 11 0 (kk.getD 0 0).toNat (by decide) (by decide) (by decide)).comp (gd_lay 5 0 0 (by decide) (by decide) (by decide))) s hs
  ·split
   ·exact gd_lay 12 0 0 (by decide) (by decide) (by decide) s hs
   ·split
    ·exact gd_lay 12 0 1 (by decide) (by decide) (by decide) s hs
    ·split
     ·exact gd_lay 16 _ 0 (by decide) (by decide) (by decide) s hs
     ·split
      ·exact gd_nam nm s hs
      ·split
       ·exact gd_lay 23 _ 0 (by decide) (by decide) (by decide) s hs
       ·exact gd_lay _ 0 0 (bar_ne k).1 (bar_ne k).2.1 (bar_ne k).2.2 s hs
theorem gd_get {T:List Tr}(h:∀ t ∈ T,∀ ar u,Gd (t ar u))(i ar u:Nat):Gd (T.getD i noT ar u):=by
 by_cases hi:i<T.length
 ·rw[List.getD_eq_getElem?_getD,List.getElem?_eq_getElem hi];exact h _ (List.getElem_mem hi) ar u
 ·rw[List.getD_eq_getElem?_getD,List.getElem?_eq_none (by omega)];exact Gd.id
theorem gd_prt (lv:List Int)(k n:Int)(nm:List UInt8)(kk:List Int){T:List Tr}(h:∀ t ∈ T,∀ ar u,Gd (t ar u))(ar u:Nat):Gd (prt lv k n nm kk T ar u):=fun s hs=>by
 unfold prt;split
 ·exact gd_con n 1 u s hs
 split
 ·exact gd_con n 2 u s hs
 split
 ·exact gd_vtx n u s hs
 split
 ·exact gd_var _ u s hs
 split
 ·exact((gd_get h 0 ar u).comp (gd_fork 14 (gd_get h 1 ar u) (gd_con 0 2 u) (by decide) (by decide) (by decide))) s hs
 split
 ·exact((gd_get h 0 ar u).comp (gd_fork 15 (gd_get h 1 ar u) (gd_con 1 2 u) (by decide) (by decide) (by decide))) s hs
 split
 ·exact((gd_get h 0 ar u).comp (gd_fork 14 (gd_get h 1 ar u) (gd_get h 2 ar u) (by decide) (by decide) (by decide))) s hs
 split
 ·have hs1:Inv (s.cel n.toNat (kk.getD 0 0)):=⟨hs.nc,hs.nn,hs.wc,hs.wn,hs.uc,hs.un⟩
  have p0:Pre s (s.cel n.toNat (kk.getD 0 0)):=⟨fun _ _=>rfl,Nat.le_refl _,by simp[Em.cel]⟩
  obtain⟨i1,p1⟩:=gd_lay 17 n.toNat 0 (by decide) (by decide) (by decide) _ hs1;obtain⟨i2,p2⟩:=((gd_get h 0 ar u).comp (gd_lay 18 n.toNat 0 (by decide) (by decide) (by decide))) _ i1
  dsimp only at i1 p1 i2 p2
  have hl1:((s.cel n.toNat (kk.getD 0 0)).lay 17 n.toNat 0).ws.length=s.ws.length+1:=by simp[Em.lay,Em.cel]
  have hw:=(p2.at1 s.ws.length (by omega)).trans (lay_last (s.cel n.toNat (kk.getD 0 0)) 17 n.toNat 0);exact⟨inv_land i2 hw (show (17:Nat)≠1 by decide) (show (17:Nat)≠2 by decide) (show (17:Nat)≠21 by decide),pre_land ((p0.trans p1).trans p2) (Nat.le_refl _)⟩
 split
 ·exact gd_qua lv n (fun ar u=>gd_get h 0 ar u) (fun ar u=>gd_get h 1 ar u) ar u s hs
 ·exact((gd_seq T 0 ar u h).comp (gd_opr k n nm kk)) s hs
theorem gd_emF (lv:List Int):∀ (f:Fs),∀ t ∈ emF lv f,∀ ar u,Gd (t ar u)
 | ⟨none⟩=>fun t ht=>by simp[emF] at ht
 | ⟨some ⟨k,n,nm,a,ks,r⟩⟩=>fun t ht ar u=>by
  simp only[emF,List.mem_cons] at ht;rcases ht with rfl|ht
  ·exact gd_prt lv k n nm (kdF ks) (gd_emF lv ks) ar u
  ·exact gd_emF lv r t ht ar u
theorem gd_emE (lv:List Int)(e:Ex)(ar u:Nat):Gd (emE lv e ar u):=gd_prt lv e.k e.n e.nm (kdF e.kids) (gd_emF lv e.kids) ar u
open Go.ChangeShapes Go.WideShapes Go.ChangeAt Go.RowKit
def hvP (e:Ex)(cells:List Int):Bool:=decide (20000<cells.length)||decide (wgF e.kids (20000-1)<0)
theorem heavy14_c (e:Ex)(ao:Option Addr)(cap ac0:Nat)(cv:Value)(cells:List Int)(w:World)(hc:InA w cv cells)(hcl:cells.length<=maxLen)(hlen:e.kids.len<=maxLen)(hwd:e.kids.wide)(S:SnA w e.kids ao) :
  Calls Tryz.prog 14 #[plV e ao cap cv] w fun x w'=>x=.returned (.bool (hvP e cells))/\Below w.heap.size w w':=by
 obtain⟨W,hW⟩:∃W,W=hvP e cells:=⟨_,rfl⟩
 rw[<-hW];have HW:Hid (W=hvP e cells):=hW;clear hW;obtain⟨ac,cc,hcv,hcx⟩:=hc;subst hcv;clear hcx;have hml:Hid (maxLen=9223372036854775807):=rfl;have hcm:cells.length<=9223372036854775807:=by have:=hml.out;omega
 have B0:Below w.heap.size w (w.alloc (.cells #[.int .i64 e.k,.int .i64 e.n,stv e.nm,.slice ao e.kids.len cap,.slice ac cells.length cc] 37)):=(Below.refl _ w).alloc (Nat.le_refl _) _;have E0:(w.alloc (.cells #[.int .i64 e.k,.int .i64 e.n,stv e.nm,.slice ao e.kids.len cap,.slice ac cells.length cc] 37)).heap[w.heap.size]?=some (.cells #[.int .i64 e.k,.int .i64 e.n,stv e.nm,.slice ao e.kids.len cap,.slice ac cells.length cc] 37):=heap_alloc_new w _;have S0:=SnA.below S B0;rw[plV_out];go_enter Tryz.func14,Tryz.ntmps14;go_upto_region 1 with fail;generalize w.alloc (.cells #[.int .i64 e.k,.int .i64 e.n,stv e.nm,.slice ao e.kids.len cap,.slice ac cells.length cc] 37)=w0 at *;obtain⟨p0,p1,p2,p3,p4,pf⟩:=box5 E0;by_cases h2:20000<cells.length
 ·have hI:(20000:Int)<(cells.length:Int):=by omega
  have HZ:Hid (W=true):=by show W=_;rw[HW.out];simp[hvP,h2]
  clear HW h2;go_wp2;go_ret;rw[HZ.out];exact⟨rfl,B0⟩
 ·have hI:¬(20000:Int)<(cells.length:Int):=by omega
  have HZ:Hid (W=decide (wgF e.kids (20000-1)<0)):=by show W=_;rw[HW.out];simp[hvP,h2]
  have c1:=weighn_ok (e.kids.size+1) e ao cap 20000 w0 (by omega) hlen hwd (by omega) (by omega) S0;rw[exN_out] at c1;generalize wgF e.kids (20000-1)=g at *;clear HW h2;go_wp2_with fail;refine c1.mono ?_;rintro z w1 ⟨rfl,b1⟩;have B1:Below w.heap.size w w1:=B0.trans (b1.mono B0.size);clear c1 p0 p1 p2 p3 p4 pf E0;go_wp2;go_ret;rw[HZ.out];exact⟨rfl,B1⟩
theorem hvE_not {e:Ex}{cells:List Int}(h:hvP e cells=false):cells.length<=20000/\e.kids.size<=20000:=by
 unfold hvP at h;simp only[Bool.or_eq_false_iff,decide_eq_false_iff_not] at h;have h1:=wgF_size e.kids (20000-1) (by omega);omega
theorem ret_highE {k l m:IntKind}{a b c d:Int}(h:a=b):Ending.returned (.tuple #[.int k a,.int l c,.int m d])=.returned (.tuple #[.int k b,.int l c,.int m d]):=by rw[h]
theorem rparts_e (u:Int)(w:World)(h1:0<=u)(h2:u<18446744073709551616) :
  Calls Tryz.prog 27 #[.int .u64 u] w fun e w' =>
   e=.returned (.tuple #[.int .i64 (u / 72057594037927936),.int .i64 (u / 268435456 % 268435456),.int .i64 (u % 268435456)])/\w'=w:=by
 go_enter Tryz.func27,Tryz.ntmps27;go_wp2;go_ret3;exact⟨ret_highE (by omega),rfl⟩
def Lse (w:World)(ao:Option Addr)(xs:List Value):Prop:=xs=[]\/∃b,ao=some ⟨b,0,none⟩/\b<w.heap.size/\∀ j x,xs[j]?=some x->w.cell? ⟨b,j,none⟩=some x
theorem Lse.below {w w':World}{ao:Option Addr}{xs:List Value}(h:Lse w ao xs)(B:Below w.heap.size w w'):Lse w' ao xs:=by
 rcases h with h|⟨b,h1,h2,h3⟩
 ·exact .inl h
 ·exact .inr ⟨b,h1,Nat.lt_of_lt_of_le h2 B.size,fun j x hx=>(B.cell (p:=⟨b,j,none⟩) h2).trans (h3 j x hx)⟩
theorem Lse.at {w:World}{ao:Option Addr}{xs:List Value}(h:Lse w ao xs){j:Nat}{x:Value}(hx:xs[j]?=some x):∃b,ao=some ⟨b,0,none⟩/\w.cell? ⟨b,j,none⟩=some x:=by
 rcases h with rfl|⟨b,h1,h2,h3⟩
 ·simp at hx
 ·exact⟨b,h1,h3 j x hx⟩
theorem Row.lse {w:World}{o:Nat->Nat}{i:Nat}{e:TypeId}{ao:Option Addr}{n cap:Nat}{xs:List Value}(h:Row w o i e 1 (.slice ao n cap) n xs):Lse w ao xs:=by
 by_cases hn:0<n
 ·obtain⟨g,c,hv,-,-,-,hlt,hc,-⟩:=h.pos hn;simp only[Value.slice.injEq,true_and] at hv;refine .inr ⟨g,hv.1,hlt,fun j x hx=>?_⟩;have hl:=h.len;have hj:j<n*1:=by have:=(List.getElem?_eq_some_iff.1 hx).1;omega
  rw[hc j hj];exact hx
 ·have hl:=h.len;exact .inl (List.eq_nil_of_length_eq_zero (by omega))
structure EmLs (w:World)(s:Em)(aw ac an:Option Addr):Prop where
 ws:Lse w aw (woV s.ws)
 cs:Lse w ac (eiV s.cs)
 ns:Lse w an (esV s.ns)
theorem EmLs.below {w w':World}{s:Em}{aw ac an:Option Addr}(h:EmLs w s aw ac an)(B:Below w.heap.size w w'):EmLs w' s aw ac an:=⟨h.ws.below B,h.cs.below B,h.ns.below B⟩
structure Wrj (n:Nat)(s t:Em)(q:Prop)(x y:Wo):Prop where
 op:y.op=x.op
 b:y.b=x.b
 a:¬q->(x.op=13\/x.op=14\/x.op=15\/x.op=24)->y.a=x.a+n
 c:(x.op=1\/x.op=2)->∃c,s.cs[x.a]?=some c/\t.cs[y.a]?=some c
 m:x.op=21->∃c,s.ns[x.a]?=some c/\t.ns[y.a]?=some c
 no:x.op≠17
structure Rlj (n:Nat)(P:Nat->Prop)(s t:Em):Prop where
 len:t.ws.length=n+s.ws.length
 wr:∀ (i:Nat) x,s.ws[i]?=some x->∃y,t.ws[n+i]?=some y/\Wrj n s t (P i) x y
theorem Rlj.mono {n:Nat}{P Q:Nat->Prop}{s t:Em}(h:Rlj n P s t)(hq:∀ i,P i->Q i):Rlj n Q s t:=⟨h.len,fun i x hx=>by
 obtain⟨y,h1,h2⟩:=h.wr i x hx;exact⟨y,h1,h2.op,h2.b,fun hn=>h2.a (fun hp=>hn (hq i hp)),h2.c,h2.m,h2.no⟩⟩
def Jn (n:Nat)(f g:Em->Em):Prop:=∀ P s t,Inv s->Inv t->Rlj n P s t->Rlj n P (f s) (g t)
theorem Jn.id (n:Nat):Jn n (fun s=>s) (fun s=>s):=fun P s t _ _ h=>h
theorem Jn.comp {n:Nat}{f g f' g':Em->Em}(hf:Gd f)(hg:Gd g)(h:Jn n f g)(h':Jn n f' g'):Jn n (fun s=>f' (f s)) (fun s=>g' (g s)):=fun P s t a b r=>h' P _ _ (hf s a).1 (hg t b).1 (h P s t a b r)
theorem Wrj.up {n:Nat}{s t s' t':Em}{q:Prop}{x y:Wo}(h:Wrj n s t q x y)(hc:∀ (i:Nat) c,s.cs[i]?=some c->s'.cs[i]?=some c)(hc':∀ (i:Nat) c,t.cs[i]?=some c->t'.cs[i]?=some c)(hn:∀ (i:Nat) c,s.ns[i]?=some c->s'.ns[i]?=some c)(hn':∀ (i:Nat) c,t.ns[i]?=some c->t'.ns[i]?=some c):Wrj n s' t' q x y :=
 ⟨h.op,h.b,h.a,fun ho=>by obtain⟨c,h1,h2⟩:=h.c ho;exact⟨c,hc _ _ h1,hc' _ _ h2⟩,fun ho=>by obtain⟨c,h1,h2⟩:=h.m ho;exact⟨c,hn _ _ h1,hn' _ _ h2⟩,h.no⟩
theorem Rlj.word {n:Nat}{P:Nat->Prop}{s t s' t':Em}{x y:Wo}(h:Rlj n P s t)(hs:s'.ws=s.ws++[x])(ht:t'.ws=t.ws++[y])(hc:∀ (i:Nat) c,s.cs[i]?=some c->s'.cs[i]?=some c)(hc':∀ (i:Nat) c,t.cs[i]?=some c->t'.cs[i]?=some c)(hn:∀ (i:Nat) c,s.ns[i]?=some c->s'.ns[i]?=some c)(hn':∀ (i:Nat) c,t.ns[i]?=some c->t'.ns[i]?=some c)(hw:Wrj n s' t' (P s.ws.length) x y):Rlj n P s' t':=by
 have hl:=h.len;refine⟨by rw[hs,ht];simp;omega,fun i z hz=>?_⟩;rw[hs] at hz;rw[ht];by_cases hi:i<s.ws.length
 ·rw[List.getElem?_append_left hi] at hz;obtain⟨y',h1,h2⟩:=h.wr i z hz;exact⟨y',by rw[List.getElem?_append_left (by omega)];exact h1,h2.up hc hc' hn hn'⟩
 ·have hi':i=s.ws.length:=by
   have:=(List.getElem?_eq_some_iff.1 hz).1
   simp at this;omega
  subst hi';simp at hz;subst hz;exact⟨y,by rw[<-hl];simp,hw⟩
theorem Rlj.lay {n:Nat}{P:Nat->Prop}{s t:Em}(r:Rlj n P s t)(op a a' b:Nat)(h1:op≠1)(h2:op≠2)(h3:op≠21)(h4:op≠17)(ha:¬P s.ws.length->(op=13\/op=14\/op=15\/op=24)->a'=a+n):Rlj n P (s.lay op a b) (t.lay op a' b) :=
 r.word (x:=⟨op,a,b⟩) (y:=⟨op,a',b⟩) rfl rfl (fun _ _ h=>h) (fun _ _ h=>h) (fun _ _ h=>h) (fun _ _ h=>h) ⟨rfl,rfl,ha,fun h=>by rcases h with h|h<;>contradiction,fun h=>absurd h h3,h4⟩
theorem jn_lay (n op a a' b:Nat)(h1:op≠1)(h2:op≠2)(h3:op≠21)(h4:op≠17)(ha:(op=13\/op=14\/op=15\/op=24)->a'=a+n):Jn n (fun s=>s.lay op a b) (fun s=>s.lay op a' b):=fun P s t _ _ r=>r.lay op a a' b h1 h2 h3 h4 (fun _=>ha)
theorem kc_upJ (s:Em)(n:Int)(i:Nat)(c:Int)(h:s.cs[i]?=some c):(s.kc n).cs[i]?=some c:=by
 unfold Em.kc
 dsimp only
 split
 ·exact h
 ·rw[List.getElem?_append_left (List.getElem?_eq_some_iff.1 h).1];exact h
theorem kn_upJ (s:Em)(n:List UInt8)(i:Nat)(c:List UInt8)(h:s.ns[i]?=some c):(s.kn n).ns[i]?=some c:=by
 unfold Em.kn
 dsimp only
 split
 ·exact h
 ·rw[List.getElem?_append_left (List.getElem?_eq_some_iff.1 h).1];exact h
theorem kc_atJ (s:Em)(n:Int):(s.kc n).cs[s.cs.idxOf n]?=some n:=by
 unfold Em.kc
 dsimp only
 split
 ·rename_i h
  have hl:=List.idxOf_lt_length_of_mem h;rw[List.getElem?_eq_getElem hl,List.getElem_idxOf]
 ·rename_i h
  rw[List.idxOf_eq_length h];simp
theorem kn_atJ (s:Em)(n:List UInt8):(s.kn n).ns[s.ns.idxOf n]?=some n:=by
 unfold Em.kn
 dsimp only
 split
 ·rename_i h
  have hl:=List.idxOf_lt_length_of_mem h;rw[List.getElem?_eq_getElem hl,List.getElem_idxOf]
 ·rename_i h
  rw[List.idxOf_eq_length h];simp
theorem jn_con (n:Nat)(v:Int)(kd u u':Nat):Jn n (fun s=>s.con v kd u) (fun s=>s.con v kd u'):=fun P s t _ _ r =>
 r.word (x:=⟨1,s.cs.idxOf v,kd⟩) (y:=⟨1,t.cs.idxOf v,kd⟩) rfl rfl (fun _ _ h=>kc_upJ s v _ _ h) (fun _ _ h=>kc_upJ t v _ _ h) (fun _ _ h=>h) (fun _ _ h=>h) ⟨rfl,rfl,fun _ h=>by simp at h,fun _=>⟨v,kc_atJ s v,kc_atJ t v⟩,fun h=>by simp at h,by simp⟩
theorem jn_vtx (n:Nat)(v:Int)(u u':Nat):Jn n (fun s=>(s.kc v).push 2 (s.cs.idxOf v) 0 u) (fun s=>(s.kc v).push 2 (s.cs.idxOf v) 0 u'):=fun P s t _ _ r =>
 r.word (x:=⟨2,s.cs.idxOf v,0⟩) (y:=⟨2,t.cs.idxOf v,0⟩) rfl rfl (fun _ _ h=>kc_upJ s v _ _ h) (fun _ _ h=>kc_upJ t v _ _ h) (fun _ _ h=>h) (fun _ _ h=>h) ⟨rfl,rfl,fun _ h=>by simp at h,fun _=>⟨v,kc_atJ s v,kc_atJ t v⟩,fun h=>by simp at h,by simp⟩
theorem jn_nam (n:Nat)(v:List UInt8):Jn n (fun s=>(s.kn v).lay 21 (s.ns.idxOf v) 0) (fun s=>(s.kn v).lay 21 (s.ns.idxOf v) 0):=fun P s t _ _ r =>
 r.word (x:=⟨21,s.ns.idxOf v,0⟩) (y:=⟨21,t.ns.idxOf v,0⟩) rfl rfl (fun _ _ h=>h) (fun _ _ h=>h) (fun _ _ h=>kn_upJ s v _ _ h) (fun _ _ h=>kn_upJ t v _ _ h) ⟨rfl,rfl,fun _ h=>by simp at h,fun h=>by simp at h,fun _=>⟨v,kn_atJ s v,kn_atJ t v⟩,by simp⟩
theorem jn_var (n a u u':Nat):Jn n (fun s=>s.push 3 a 0 u) (fun s=>s.push 3 a 0 u'):=fun P s t _ _ r =>
 r.word (x:=⟨3,a,0⟩) (y:=⟨3,a,0⟩) rfl rfl (fun _ _ h=>h) (fun _ _ h=>h) (fun _ _ h=>h) (fun _ _ h=>h) ⟨rfl,rfl,fun _ h=>by simp at h,fun h=>by simp at h,fun h=>by simp at h,by simp⟩
theorem Rlj.land {n:Nat}{P Q:Nat->Prop}{s t:Em}(h:Rlj n P s t){i k:Nat}{x:Wo}(hk:k=n+i)(hx:s.ws[i]?=some x)(ho:x.op=13\/x.op=14\/x.op=15\/x.op=24)(hq:∀ j,P j->j=i\/Q j):Rlj n Q (s.land i) (t.land k):=by
 subst hk;have hl:=h.len;refine⟨by rw[land_len,land_len];exact hl,fun j z hz=>?_⟩;rw[land_at] at hz ⊢;by_cases e:i=j
 ·subst e;rw[if_pos rfl,hx] at hz;simp only[Option.map_some,Option.some.injEq] at hz;obtain⟨y,h1,h2⟩:=h.wr i x hx;rw[if_pos rfl,h1];refine⟨y.to t.ws.length,rfl,?_⟩;have hx17:¬x.op=17:=h2.no;have hy17:¬y.op=17:=by rw[h2.op];exact hx17
  subst hz;unfold Wo.to;rw[if_neg hx17,if_neg hy17];exact⟨h2.op,h2.b,fun _ _=>by show t.ws.length=s.ws.length+n;omega,fun hh=>by exfalso;dsimp only at hh;omega,fun hh=>by exfalso;dsimp only at hh;omega,hx17⟩
 ·rw[if_neg e] at hz;rw[if_neg (by omega)];obtain⟨y,h1,h2⟩:=h.wr j z hz;exact⟨y,h1,⟨h2.op,h2.b,fun hn=>h2.a (fun hp=>by rcases hq j hp with hh|hh;exact e hh.symm;exact hn hh),h2.c,h2.m,h2.no⟩⟩
theorem jn_fork {n:Nat}{f g f' g':Em->Em}(op:Nat)(hf:Gd f)(hg:Gd g)(hf':Gd f')(hg':Gd g')(jf:Jn n f f')(jg:Jn n g g')(ho:op=14\/op=15\/op=24):Jn n (fun s=>s.fork op f g) (fun s=>s.fork op f' g'):=fun P s t hs ht r=>by
 have o1:op≠1:=by omega
 have o2:op≠2:=by omega
 have o3:op≠21:=by omega
 have hl:=r.len;obtain⟨i1,p1⟩:=gd_lay op 0 0 o1 o2 o3 s hs;obtain⟨i1',p1'⟩:=gd_lay op 0 0 o1 o2 o3 t ht;obtain⟨i2,p2⟩:=hf _ i1;obtain⟨i2',p2'⟩:=hf' _ i1';obtain⟨i3,p3⟩:=gd_lay 13 0 0 (by decide) (by decide) (by decide) _ i2;obtain⟨i3',p3'⟩:=gd_lay 13 0 0 (by decide) (by decide) (by decide) _ i2'
 dsimp only at i1 p1 i2 p2 i3 p3 i1' p1' i2' p2' i3' p3'
 have hl1:(s.lay op 0 0).ws.length=s.ws.length+1:=by simp[Em.lay]
 have hl1':(t.lay op 0 0).ws.length=t.ws.length+1:=by simp[Em.lay]
 have hw1:((f (s.lay op 0 0)).lay 13 0 0).ws[s.ws.length]?=some ⟨op,0,0⟩:=((p2.trans p3).at1 s.ws.length (by omega)).trans (lay_last s op 0 0);have hw1':((f' (t.lay op 0 0)).lay 13 0 0).ws[t.ws.length]?=some ⟨op,0,0⟩:=((p2'.trans p3').at1 t.ws.length (by omega)).trans (lay_last t op 0 0);have i4:=inv_land i3 hw1 o1 o2 o3;have i4':=inv_land i3' hw1' o1 o2 o3;obtain⟨i5,p5⟩:=hg _ i4;have hl2:=p2.len;have hl3:(((f (s.lay op 0 0)).lay 13 0 0).land s.ws.length).ws.length=(f (s.lay op 0 0)).ws.length+1:=by rw[land_len];simp[Em.lay]
 have hw2:(((f (s.lay op 0 0)).lay 13 0 0).land s.ws.length).ws[(f (s.lay op 0 0)).ws.length]?=some ⟨13,0,0⟩:=by
  rw[land_at,if_neg (by omega)];exact lay_last _ 13 0 0
 have hw3:=(p5.at1 (f (s.lay op 0 0)).ws.length (by omega)).trans hw2;have r1:Rlj n (fun j=>j=(f (s.lay op 0 0)).ws.length\/j=s.ws.length\/P j) (s.lay op 0 0) (t.lay op 0 0):=(r.mono (fun i h=>.inr (.inr h))).lay op 0 0 0 o1 o2 o3 (by omega) (fun hh=>absurd (.inr (.inl rfl)) hh);have r2:=jf _ _ _ i1 i1' r1;have r3:=r2.lay 13 0 0 0 (by decide) (by decide) (by decide) (by decide) (fun hh=>absurd (.inl rfl) hh);have r4:=r3.land (Q:=fun j=>j=(f (s.lay op 0 0)).ws.length\/P j) hl hw1 (by dsimp only;omega) (fun j hj=>by rcases hj with h|h|h;exact .inr (.inl h);exact .inl h;exact .inr (.inr h));have r5:=jg _ _ _ i4 i4' r4;exact r5.land r2.len hw3 (.inl rfl) (fun j hj=>hj)
theorem jn_clrs (n h:Nat):∀ (l:List Int) (i:Nat),Jn n (clrs h l i) (clrs h l i)
 | [],_=>Jn.id n
 | x::r,i=>fun P s t hs ht hr=>by
  unfold clrs;by_cases e:x=(h:Int)
  ·rw[if_pos e,if_pos e];exact jn_clrs n h r (i+1) P _ _ (gd_lay 19 i 0 (by decide) (by decide) (by decide) s hs).1 (gd_lay 19 i 0 (by decide) (by decide) (by decide) t ht).1 (hr.lay 19 i i 0 (by decide) (by decide) (by decide) (by decide) (fun _ h=>by omega))
  ·rw[if_neg e,if_neg e];exact jn_clrs n h r (i+1) P s t hs ht hr
def Okj (n:Nat)(t:Tr):Prop:=(∀ ar u,Gd (t ar u))/\∀ ar u u',Jn n (t ar u) (t ar u')
theorem jn_bdy (n:Nat)(lv:List Int){t:Tr}(ht:Okj n t)(ar u u':Nat):Jn n (bdy lv t ar u) (bdy lv t ar u'):=fun P s z hs hz r=>ht.2 (ar+1) u u' P _ _ (gd_clrs (ar+1) lv 0 s hs).1 (gd_clrs (ar+1) lv 0 z hz).1 (jn_clrs n (ar+1) lv 0 P s z hs hz r)
theorem jn_srch (n:Nat)(lv:List Int){t:Tr}(ht:Okj n t)(op:Nat)(v:Int)(ho:op=14\/op=15)(ar u u':Nat):Jn n (srch lv t op v ar u) (srch lv t op v ar u'):=fun P s z hs hz r=>by
 have hl:=r.len;have o1:op≠1:=by omega
 have o2:op≠2:=by omega
 have o3:op≠21:=by omega
 have g1:=fun u a=>(gd_bdy lv ht.1 ar u).comp (gd_lay op a 0 o1 o2 o3);have g2:=fun u a=>(g1 u a).comp (gd_lay 25 0 0 (by decide) (by decide) (by decide));have g3:=fun u a=>(g2 u a).comp (gd_con v 2 u);have j1:=Jn.comp (gd_bdy lv ht.1 ar u) (gd_bdy lv ht.1 ar u') (jn_bdy n lv ht ar u u') (jn_lay n op s.ws.length z.ws.length 0 o1 o2 o3 (by omega) (fun _=>by omega));have j2:=Jn.comp (g1 u s.ws.length) (g1 u' z.ws.length) j1 (jn_lay n 25 0 0 0 (by decide) (by decide) (by decide) (by decide) (fun h=>by omega));have j3:=Jn.comp (g2 u s.ws.length) (g2 u' z.ws.length) j2 (jn_con n v 2 u u');exact jn_fork 24 (g3 u s.ws.length) (gd_con (1-v) 2 u) (g3 u' z.ws.length) (gd_con (1-v) 2 u') j3 (jn_con n (1-v) 2 u u') (by omega) P s z hs hz r
theorem jn_gath (n:Nat)(lv:List Int){t:Tr}(ht:Okj n t){f f':Nat->Em->Em}(hf:∀ g,Gd (f g))(hf':∀ g,Gd (f' g))(jf:∀ g,Jn n (f g) (f' (n+g)))(ar u u':Nat):Jn n (gath lv t f ar u) (gath lv t f' ar u'):=fun P s z hs hz r=>by
 have hl:=r.len;obtain⟨i1,p1⟩:=gd_lay 24 0 0 (by decide) (by decide) (by decide) s hs;obtain⟨i1',p1'⟩:=gd_lay 24 0 0 (by decide) (by decide) (by decide) z hz;obtain⟨i2,p2⟩:=(((gd_bdy lv ht.1 ar u).comp (hf s.ws.length)).comp (gd_lay 13 s.ws.length 0 (by decide) (by decide) (by decide))) _ i1
 dsimp only at i1 p1 i1' p1' i2 p2
 have hl1:(s.lay 24 0 0).ws.length=s.ws.length+1:=by simp[Em.lay]
 have hw:=(p2.at1 s.ws.length (by omega)).trans (lay_last s 24 0 0);have r1:Rlj n (fun j=>j=s.ws.length\/P j) (s.lay 24 0 0) (z.lay 24 0 0):=(r.mono (fun i h=>.inr h)).lay 24 0 0 0 (by decide) (by decide) (by decide) (by decide) (fun hh=>absurd (.inl rfl) hh);have jj:=jf s.ws.length;rw[<-hl] at jj;have j1:=Jn.comp (gd_bdy lv ht.1 ar u) (gd_bdy lv ht.1 ar u') (jn_bdy n lv ht ar u u') jj;have j2:=Jn.comp ((gd_bdy lv ht.1 ar u).comp (hf s.ws.length)) ((gd_bdy lv ht.1 ar u').comp (hf' z.ws.length)) j1 (jn_lay n 13 s.ws.length z.ws.length 0 (by decide) (by decide) (by decide) (by decide) (fun _=>by omega));have r2:=j2 _ _ _ i1 i1' r1;exact r2.land hl hw (by simp) (fun j hj=>hj)
theorem jn_qua (n:Nat)(lv:List Int)(v:Int){a t:Tr}(ha:Okj n a)(ht:Okj n t)(ar u u':Nat):Jn n (qua lv v a t ar u) (qua lv v a t ar u'):=fun P s z hs hz r=>by
 unfold qua;have d6:Jn n (fun s=>s.lay 6 0 0) (fun s=>s.lay 6 0 0):=jn_lay n 6 0 0 0 (by decide) (by decide) (by decide) (by decide) (fun h=>by omega);have g6:Gd (fun s=>s.lay 6 0 0):=gd_lay 6 0 0 (by decide) (by decide) (by decide);have g14:=fun g=>gd_lay 14 g 0 (by decide) (by decide) (by decide);have ga:=ha.1 ar u;have ga':=ha.1 ar u';have ja:=ha.2 ar u u';have gb:=ga.comp (gd_con 0 1 u);have gb':=ga'.comp (gd_con 0 1 u');have jb:=Jn.comp ga ga' ja (jn_con n 0 1 u u');split
 ·exact Jn.comp ga ga' ja (jn_srch n lv ht 15 0 (.inr rfl) ar u u') P s z hs hz r
 split
 ·exact Jn.comp ga ga' ja (jn_srch n lv ht 14 1 (.inl rfl) ar u u') P s z hs hz r
 split
 ·exact Jn.comp gb gb' jb (jn_gath n lv ht (f:=fun g x=>((x.lay 14 g 0).con 1 1 (u+1)).lay 6 0 0) (f':=fun g x=>((x.lay 14 g 0).con 1 1 (u'+1)).lay 6 0 0) (fun g=>((g14 g).comp (gd_con 1 1 (u+1))).comp g6) (fun g=>((g14 g).comp (gd_con 1 1 (u'+1))).comp g6)
   (fun g=>Jn.comp ((g14 g).comp (gd_con 1 1 (u+1))) ((g14 (n+g)).comp (gd_con 1 1 (u'+1))) (Jn.comp (g14 g) (g14 (n+g)) (jn_lay n 14 g (n+g) 0 (by decide) (by decide) (by decide) (by decide) (fun _=>by omega)) (jn_con n 1 1 (u+1) (u'+1))) d6) ar (u+1) (u'+1)) P s z hs hz r
 split
 ·exact Jn.comp gb gb' jb (jn_gath n lv ht (f:=fun _ x=>x.lay 6 0 0) (f':=fun _ x=>x.lay 6 0 0) (fun _=>g6) (fun _=>g6) (fun _=>d6) ar (u+1) (u'+1)) P s z hs hz r
 ·have g26:Gd (fun s=>s.lay 26 (v-5).toNat 0):=gd_lay 26 _ 0 (by decide) (by decide) (by decide);have d26:Jn n (fun s=>s.lay 26 (v-5).toNat 0) (fun s=>s.lay 26 (v-5).toNat 0):=jn_lay n 26 _ _ 0 (by decide) (by decide) (by decide) (by decide) (fun h=>by omega);have gc:=gb.comp (gd_con 0 2 (u+1));have gc':=gb'.comp (gd_con 0 2 (u'+1));have jc:=Jn.comp gb gb' jb (jn_con n 0 2 (u+1) (u'+1));have gd:=gc.comp (gd_gath lv ht.1 (f:=fun _ x=>x.lay 26 (v-5).toNat 0) (fun _=>g26) ar (u+2));have gd':=gc'.comp (gd_gath lv ht.1 (f:=fun _ x=>x.lay 26 (v-5).toNat 0) (fun _=>g26) ar (u'+2));have jd:=Jn.comp gc gc' jc (jn_gath n lv ht (f:=fun _ x=>x.lay 26 (v-5).toNat 0) (f':=fun _ x=>x.lay 26 (v-5).toNat 0) (fun _=>g26) (fun _=>g26) (fun _=>d26) ar (u+2) (u'+2));exact Jn.comp gd gd' jd (jn_lay n 27 0 0 0 (by decide) (by decide) (by decide) (by decide) (fun h=>by omega)) P s z hs hz r
theorem jn_seq (n:Nat):∀ (T:List Tr) (i ar u u':Nat),(∀ t ∈ T,Okj n t)->Jn n (seqT T i ar u) (seqT T i ar u')
 | [],_,_,_,_,_=>Jn.id n
 | t::r,i,ar,u,u',h=>fun P s z hs hz hr=>jn_seq n r (i+1) ar u u' (fun x hx=>h x (List.mem_cons_of_mem _ hx)) P _ _ ((h t (List.mem_cons_self ..)).1 ar (u+i) s hs).1 ((h t (List.mem_cons_self ..)).1 ar (u'+i) z hz).1 ((h t (List.mem_cons_self ..)).2 ar (u+i) (u'+i) P s z hs hz hr)
theorem bar_nl (k:Int):barN k≠17/\¬(barN k=13\/barN k=14\/barN k=15\/barN k=24):=by
 unfold barN
 repeat' split
 all_goals decide
theorem jn_opr (m:Nat)(k n:Int)(nm:List UInt8)(kk:List Int):Jn m (opr k n nm kk) (opr k n nm kk):=fun P s t hs ht r=>by
 unfold opr;split
 ·exact r.lay 11 0 0 _ (by decide) (by decide) (by decide) (by decide) (fun _ h=>by omega)
 split
 ·exact(r.lay 11 0 0 _ (by decide) (by decide) (by decide) (by decide) (fun _ h=>by omega)).lay 5 0 0 0 (by decide) (by decide) (by decide) (by decide) (fun _ h=>by omega)
 split
 ·exact r.lay 12 0 0 0 (by decide) (by decide) (by decide) (by decide) (fun _ h=>by omega)
 split
 ·exact r.lay 12 0 0 1 (by decide) (by decide) (by decide) (by decide) (fun _ h=>by omega)
 split
 ·exact r.lay 16 _ _ 0 (by decide) (by decide) (by decide) (by decide) (fun _ h=>by omega)
 split
 ·exact jn_nam m nm P s t hs ht r
 split
 ·exact r.lay 23 _ _ 0 (by decide) (by decide) (by decide) (by decide) (fun _ h=>by omega)
 ·exact r.lay _ 0 0 0 (bar_ne k).1 (bar_ne k).2.1 (bar_ne k).2.2 (bar_nl k).1 (fun _ h=>absurd h (bar_nl k).2)
theorem ok_get {n:Nat}{T:List Tr}(h:∀ t ∈ T,Okj n t)(i:Nat):Okj n (T.getD i noT):=by
 by_cases hi:i<T.length
 ·rw[List.getD_eq_getElem?_getD,List.getElem?_eq_getElem hi];exact h _ (List.getElem_mem hi)
 ·rw[List.getD_eq_getElem?_getD,List.getElem?_eq_none (by omega)];exact⟨fun _ _=>Gd.id,fun _ _ _=>Jn.id n⟩
theorem ok_prt (m:Nat)(lv:List Int)(k n:Int)(nm:List UInt8)(kk:List Int){T:List Tr}(h:∀ t ∈ T,Okj m t)(hk:k≠26):Okj m (prt lv k n nm kk T):=by
 refine⟨gd_prt lv k n nm kk (fun t ht=>(h t ht).1),fun ar u u' P s t hs ht r=>?_⟩;have q0:=ok_get h 0;have q1:=ok_get h 1;have q2:=ok_get h 2;unfold prt;split
 ·exact jn_con m n 1 u u' P s t hs ht r
 split
 ·exact jn_con m n 2 u u' P s t hs ht r
 split
 ·exact jn_vtx m n u u' P s t hs ht r
 split
 ·exact jn_var m _ u u' P s t hs ht r
 split
 ·exact Jn.comp (q0.1 ar u) (q0.1 ar u') (q0.2 ar u u') (jn_fork 14 (q1.1 ar u) (gd_con 0 2 u) (q1.1 ar u') (gd_con 0 2 u') (q1.2 ar u u') (jn_con m 0 2 u u') (.inl rfl)) P s t hs ht r
 split
 ·exact Jn.comp (q0.1 ar u) (q0.1 ar u') (q0.2 ar u u') (jn_fork 15 (q1.1 ar u) (gd_con 1 2 u) (q1.1 ar u') (gd_con 1 2 u') (q1.2 ar u u') (jn_con m 1 2 u u') (.inr (.inl rfl))) P s t hs ht r
 split
 ·exact Jn.comp (q0.1 ar u) (q0.1 ar u') (q0.2 ar u u') (jn_fork 14 (q1.1 ar u) (q2.1 ar u) (q1.1 ar u') (q2.1 ar u') (q1.2 ar u u') (q2.2 ar u u') (.inl rfl)) P s t hs ht r
 split
 ·exact jn_qua m lv n q0 q1 ar u u' P s t hs ht r
 ·exact Jn.comp (gd_seq T 0 ar u (fun t ht=>(h t ht).1)) (gd_seq T 0 ar u' (fun t ht=>(h t ht).1)) (jn_seq m T 0 ar u u' h) (jn_opr m k n nm kk) P s t hs ht r
theorem okN_26 {k n:Int}{nm:List UInt8}{len:Nat}(h:okN 0 k n nm len):k≠26:=fun e=>by
 have:=h.2.2.1 e
 simp at this;omega
theorem ok_emF (m:Nat)(lv:List Int):∀ (f:Fs),okF 0 f->∀ t ∈ emF lv f,Okj m t
 | ⟨none⟩,_=>fun t ht=>by simp[emF] at ht
 | ⟨some ⟨k,n,nm,a,ks,r⟩⟩,h=>fun t ht=>by
  simp only[emF,List.mem_cons] at ht;simp only[okF] at h;rcases ht with rfl|ht
  ·exact ok_prt m lv k n nm (kdF ks) (ok_emF m lv ks h.2.1) (okN_26 h.1)
  ·exact ok_emF m lv r h.2.2 t ht
theorem ok_emE (m:Nat)(lv:List Int)(e:Ex)(h:okE 0 e):Okj m (emE lv e):=ok_prt m lv e.k e.n e.nm (kdF e.kids) (ok_emF m lv e.kids h.2) (okN_26 h.1)
theorem inv_em0 (lv:List Int):Inv (em0 lv):=⟨List.nodup_nil,List.nodup_nil,fun x hx=>by simp[em0] at hx,fun x hx=>by simp[em0] at hx,fun i hi=>by simp[em0] at hi,fun i hi=>by simp[em0] at hi⟩
theorem emjoins (a b:Ex)(z:Em)(hz:z=((emE [] b 0 1 (emE [] a 0 0 (em0 []))).lay 6 0 0).lay 0 0 0)(hb:okE 0 b) :
  (emA [] a).ws.length-1+(emA [] b).ws.length+1=z.ws.length/\1<=(emA [] a).ws.length/\1<=(emA [] b).ws.length/\(∀ i,i<(emA [] a).ws.length-1->z.ws[i]?=(emA [] a).ws[i]?) /\
  (∀ (i:Nat) x,i+1<(emA [] b).ws.length->(emA [] b).ws[i]?=some x->∃y,z.ws[(emA [] a).ws.length-1+i]?=some y/\Wrj ((emA [] a).ws.length-1) (emA [] b) z False x y) /\
  z.ws[z.ws.length-2]?=some ⟨6,0,0⟩:=by
 subst hz;obtain⟨A,hA⟩:∃A,A=emE [] a 0 0 (em0 []):=⟨_,rfl⟩
 obtain⟨B0,hB0⟩:∃B0,B0=emE [] b 0 0 (em0 []):=⟨_,rfl⟩
 obtain⟨B1,hB1⟩:∃B1,B1=emE [] b 0 1 A:=⟨_,rfl⟩
 have ea:emA [] a=A.lay 0 0 0:=by rw[hA];rfl
 have eb:emA [] b=B0.lay 0 0 0:=by rw[hB0];rfl
 have iA:Inv A:=by rw[hA];exact(gd_emE [] a 0 0 _ (inv_em0 [])).1
 have pr:Pre A B1:=by rw[hB1];exact(gd_emE [] b 0 1 _ iA).2
 have rr:Rlj A.ws.length (fun _=>False) B0 B1:=by
  rw[hB0,hB1];exact(ok_emE A.ws.length [] b hb).2 0 0 1 _ _ _ (inv_em0 []) iA ⟨by simp[em0],fun i x hx=>by simp[em0] at hx⟩
 rw[<-hA,<-hB1,ea,eb];have hl:=rr.len;have la:(A.lay 0 0 0).ws.length-1=A.ws.length:=by simp[Em.lay]
 have lb:(B0.lay 0 0 0).ws.length=B0.ws.length+1:=by simp[Em.lay]
 have lz:((B1.lay 6 0 0).lay 0 0 0).ws.length=B1.ws.length+2:=by simp[Em.lay]
 rw[la,lb,lz];have hz1:∀ j,j<B1.ws.length->((B1.lay 6 0 0).lay 0 0 0).ws[j]?=B1.ws[j]?:=fun j hj=>by
  simp only[Em.lay];rw[List.getElem?_append_left (by simp;omega),List.getElem?_append_left hj]
 refine⟨by omega,by simp[Em.lay],by omega,fun i hi=>?_,fun i x hi hx=>?_,?_⟩
 ·have hple:=pr.len;rw[hz1 i (by omega),pr.at1 i hi];simp only[Em.lay];rw[List.getElem?_append_left hi]
 ·have hx':B0.ws[i]?=some x:=by
   simp only[Em.lay] at hx
   rwa [List.getElem?_append_left (by omega)] at hx
  obtain⟨y,h1,h2⟩:=rr.wr i x hx';exact⟨y,by rw[hz1 _ (by omega)];exact h1,h2.op,h2.b,h2.a,h2.c,h2.m,h2.no⟩
 ·simp[Em.lay]
end Go.Proofs.YtbjdkekhnajafaaGreatDoor

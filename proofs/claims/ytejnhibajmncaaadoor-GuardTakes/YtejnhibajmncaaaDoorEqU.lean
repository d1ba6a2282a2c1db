import Derived.Test.YtejnhibajmncaaaDoorEmN
import Derived.Maps.OwnSet
import Derived.DeepKeys4
import Derived.Laws.BitsAllLaws
import Derived.Laws.Bits64
import Derived.Laws.ShiftsVarLaws
import Derived.Below
import Derived.IntWalk
import Derived.Lib.LaidTab
import Derived.Defers
set_option maxRecDepth 100000
set_option maxHeartbeats 8000000
namespace Go.Proofs.YtejnhibajmncaaaDoor
set_option linter.unusedVariables false
set_option linter.unusedSimpArgs false
structure Inv (s:Em):Prop where
 nc:s.cs.Nodup
 nn:s.ns.Nodup
 wc:∀ x ∈ s.ws,(x.op=1\/x.op=2)->x.a<s.cs.length
 wn:∀ x ∈ s.ws,x.op=21->x.a<s.ns.length
 uc:∀ i,i<s.cs.length->∃x ∈ s.ws,(x.op=1\/x.op=2)/\x.a=i
 un:∀ i,i<s.ns.length->∃x ∈ s.ws,x.op=21/\x.a=i
structure Pre (s s':Em):Prop where
 at1:∀ i,i<s.ws.length->s'.ws[i]?=s.ws[i]?
 len:s.ws.length<=s'.ws.length
 ks:s'.ks.length=s.ks.length
theorem Pre.refl (s:Em):Pre s s:=⟨fun _ _=>rfl,Nat.le_refl _,rfl⟩
theorem Pre.trans {a b c:Em}(h:Pre a b)(k:Pre b c):Pre a c:=⟨fun i hi=>(k.at1 i (Nat.lt_of_lt_of_le hi h.len)).trans (h.at1 i hi),Nat.le_trans h.len k.len,k.ks.trans h.ks⟩
def Gd (f:Em->Em):Prop:=∀ s,Inv s->Inv (f s)/\Pre s (f s)
theorem Gd.id:Gd (fun s=>s):=fun s h=>⟨h,Pre.refl s⟩
theorem Gd.comp {f g:Em->Em}(hf:Gd f)(hg:Gd g):Gd (fun s=>g (f s)):=fun s h=>⟨(hg _ (hf s h).1).1,(hf s h).2.trans (hg _ (hf s h).1).2⟩
theorem pre_lay (s:Em)(op a b:Nat):Pre s (s.lay op a b):=⟨fun i hi=>by simp only[Em.lay];exact List.getElem?_append_left hi,by simp[Em.lay],rfl⟩
theorem pre_push (s:Em)(op a b u:Nat):Pre s (s.push op a b u):=⟨fun i hi=>by simp only[Em.push];exact List.getElem?_append_left hi,by simp[Em.push],rfl⟩
theorem inv_word {s:Em}(h:Inv s)(x:Wo)(d:Nat)(h1:(x.op=1\/x.op=2)->x.a<s.cs.length)(h2:x.op=21->x.a<s.ns.length):Inv ⟨s.ws++[x],s.cs,s.ns,s.ks,d⟩:=by
 refine⟨h.nc,h.nn,fun y hy=>?_,fun y hy=>?_,fun i hi=>?_,fun i hi=>?_⟩
 ·rcases List.mem_append.1 hy with hy|hy
  ·exact h.wc y hy
  ·simp at hy;subst hy;exact h1
 ·rcases List.mem_append.1 hy with hy|hy
  ·exact h.wn y hy
  ·simp at hy;subst hy;exact h2
 ·obtain⟨y,hy,h3⟩:=h.uc i hi;exact⟨y,List.mem_append_left _ hy,h3⟩
 ·obtain⟨y,hy,h3⟩:=h.un i hi;exact⟨y,List.mem_append_left _ hy,h3⟩
theorem gd_lay (op a b:Nat)(h1:op≠1)(h2:op≠2)(h3:op≠21):Gd (fun s=>s.lay op a b):=fun s h =>
 ⟨inv_word h ⟨op,a,b⟩ s.dp (fun h=>by rcases h with h|h<;>contradiction) (fun h=>absurd h h3),pre_lay s op a b⟩
theorem inv_const {s:Em}(h:Inv s)(n:Int)(op b d:Nat)(hop:op=1\/op=2):Inv ⟨(s.kc n).ws++[⟨op,s.cs.idxOf n,b⟩],(s.kc n).cs,(s.kc n).ns,(s.kc n).ks,d⟩:=by
 by_cases hm:n ∈ s.cs
 ·have e:(s.kc n).cs=s.cs:=by simp[Em.kc,hm]
  simp only[e];exact inv_word h ⟨op,s.cs.idxOf n,b⟩ d (fun _=>List.idxOf_lt_length_of_mem hm) (fun h=>by rcases hop with e|e<;>(rw[e] at h;cases h))
 ·have e:(s.kc n).cs=s.cs++[n]:=by simp[Em.kc,hm]
  have ei:s.cs.idxOf n=s.cs.length:=List.idxOf_eq_length hm;simp only[e,ei];refine⟨?_,h.nn,fun y hy hyo=>?_,fun y hy hyo=>?_,fun i hi=>?_,fun i hi=>?_⟩
  ·rw[List.nodup_append];exact⟨h.nc,by simp,fun x hx y hy=>by simp at hy;subst hy;rintro rfl;exact hm hx⟩
  ·rw[List.length_append];rcases List.mem_append.1 hy with hy|hy
   ·have:=h.wc y hy hyo;omega
   ·simp at hy;subst hy;simp
  ·rcases List.mem_append.1 hy with hy|hy
   ·exact h.wn y hy hyo
   ·simp at hy;subst hy;rcases hop with e|e<;>(rw[e] at hyo;cases hyo)
  ·rw[List.length_append] at hi;by_cases hi2:i<s.cs.length
   ·obtain⟨y,hy,h3⟩:=h.uc i hi2;exact⟨y,List.mem_append_left _ hy,h3⟩
   ·exact⟨_,List.mem_append_right _ (List.mem_singleton.2 rfl),hop,by simp at hi;simp only;omega⟩
  ·obtain⟨y,hy,h3⟩:=h.un i hi;exact⟨y,List.mem_append_left _ hy,h3⟩
theorem inv_name {s:Em}(h:Inv s)(n:List UInt8)(d:Nat):Inv ⟨(s.kn n).ws++[⟨21,s.ns.idxOf n,0⟩],(s.kn n).cs,(s.kn n).ns,(s.kn n).ks,d⟩:=by
 by_cases hm:n ∈ s.ns
 ·have e:(s.kn n).ns=s.ns:=by simp[Em.kn,hm]
  simp only[e];exact inv_word h ⟨21,s.ns.idxOf n,0⟩ d (fun h=>by simp at h) (fun _=>List.idxOf_lt_length_of_mem hm)
 ·have e:(s.kn n).ns=s.ns++[n]:=by simp[Em.kn,hm]
  have ei:s.ns.idxOf n=s.ns.length:=List.idxOf_eq_length hm;simp only[e,ei];refine⟨h.nc,?_,fun y hy hyo=>?_,fun y hy hyo=>?_,fun i hi=>?_,fun i hi=>?_⟩
  ·rw[List.nodup_append];exact⟨h.nn,by simp,fun x hx y hy=>by simp at hy;subst hy;rintro rfl;exact hm hx⟩
  ·rcases List.mem_append.1 hy with hy|hy
   ·exact h.wc y hy hyo
   ·simp at hy;subst hy;simp at hyo
  ·rw[List.length_append];rcases List.mem_append.1 hy with hy|hy
   ·have:=h.wn y hy hyo;omega
   ·simp at hy;subst hy;simp
  ·obtain⟨y,hy,h3⟩:=h.uc i hi;exact⟨y,List.mem_append_left _ hy,h3⟩
  ·rw[List.length_append] at hi;by_cases hi2:i<s.ns.length
   ·obtain⟨y,hy,h3⟩:=h.un i hi2;exact⟨y,List.mem_append_left _ hy,h3⟩
   ·exact⟨_,List.mem_append_right _ (List.mem_singleton.2 rfl),rfl,by simp at hi;simp only;omega⟩
theorem gd_con (n:Int)(kd u:Nat):Gd (fun s=>s.con n kd u):=fun s h=>⟨inv_const h n 1 kd _ (.inl rfl),Pre.trans (b:=s.kc n) ⟨fun _ _=>rfl,Nat.le_refl _,rfl⟩ (pre_push (s.kc n) 1 _ kd u)⟩
theorem gd_vtx (n:Int)(u:Nat):Gd (fun s=>(s.kc n).push 2 (s.cs.idxOf n) 0 u):=fun s h=>⟨inv_const h n 2 0 _ (.inr rfl),Pre.trans (b:=s.kc n) ⟨fun _ _=>rfl,Nat.le_refl _,rfl⟩ (pre_push (s.kc n) 2 _ 0 u)⟩
theorem gd_nam (n:List UInt8):Gd (fun s=>(s.kn n).lay 21 (s.ns.idxOf n) 0):=fun s h=>⟨inv_name h n _,Pre.trans (b:=s.kn n) ⟨fun _ _=>rfl,Nat.le_refl _,rfl⟩ (pre_lay (s.kn n) 21 _ 0)⟩
theorem gd_var (a u:Nat):Gd (fun s=>s.push 3 a 0 u):=fun s h=>⟨inv_word h ⟨3,a,0⟩ _ (fun h=>by simp at h) (fun h=>by simp at h),pre_push s 3 a 0 u⟩
theorem land_at (s:Em)(i j:Nat):(s.land i).ws[j]?=if i=j then (s.ws[j]?).map (fun x=>x.to s.ws.length) else s.ws[j]?:=by
 simp only[Em.land];rw[List.getElem?_modify];split<;>simp
theorem to_op (x:Wo)(n:Nat):(x.to n).op=x.op:=by unfold Wo.to;split<;>rfl
theorem inv_land {s:Em}(h:Inv s){i:Nat}{x:Wo}(hx:s.ws[i]?=some x)(h1:x.op≠1)(h2:x.op≠2)(h3:x.op≠21):Inv (s.land i):=by
 have hmem:∀ y ∈ (s.land i).ws,(y.op=1\/y.op=2\/y.op=21)->y ∈ s.ws:=fun y hy ho=>by
  obtain⟨j,hj⟩:=List.mem_iff_getElem?.1 hy;rw[land_at] at hj;split at hj
  ·rename_i e
   subst e;rw[hx] at hj;simp at hj;subst hj;rw[to_op] at ho;rcases ho with ho|ho|ho<;>contradiction
  ·exact List.mem_iff_getElem?.2 ⟨j,hj⟩
 have hback:∀ y ∈ s.ws,(y.op=1\/y.op=2\/y.op=21)->y ∈ (s.land i).ws:=fun y hy ho=>by
  obtain⟨j,hj⟩:=List.mem_iff_getElem?.1 hy;refine List.mem_iff_getElem?.2 ⟨j,?_⟩;rw[land_at];split
  ·rename_i e
   subst e;rw[hx] at hj;simp at hj;subst hj;rcases ho with ho|ho|ho<;>contradiction
  ·exact hj
 refine⟨h.nc,h.nn,fun y hy ho=>h.wc y (hmem y hy (by rcases ho with e|e;exact .inl e;exact .inr (.inl e))) ho,fun y hy ho=>h.wn y (hmem y hy (.inr (.inr ho))) ho,fun k hk=>?_,fun k hk=>?_⟩
 ·obtain⟨y,hy,ho,ha⟩:=h.uc k hk;exact⟨y,hback y hy (by rcases ho with e|e;exact .inl e;exact .inr (.inl e)),ho,ha⟩
 ·obtain⟨y,hy,ho,ha⟩:=h.un k hk;exact⟨y,hback y hy (.inr (.inr ho)),ho,ha⟩
theorem land_len (s:Em)(i:Nat):(s.land i).ws.length=s.ws.length:=by simp[Em.land]
theorem pre_land {s s':Em}(h:Pre s s'){i:Nat}(hi:s.ws.length<=i):Pre s (s'.land i):=⟨fun j hj=>by rw[land_at,if_neg (by omega)];exact h.at1 j hj,by rw[land_len];exact h.len,h.ks⟩
theorem lay_last (s:Em)(op a b:Nat):(s.lay op a b).ws[s.ws.length]?=some ⟨op,a,b⟩:=by simp[Em.lay]
theorem gd_fork {f g:Em->Em}(op:Nat)(hf:Gd f)(hg:Gd g)(h1:op≠1)(h2:op≠2)(h3:op≠21):Gd (fun s=>s.fork op f g):=fun s h=>by
 obtain⟨i1,p1⟩:=gd_lay op 0 0 h1 h2 h3 s h;obtain⟨i2,p2⟩:=hf _ i1;obtain⟨i3,p3⟩:=gd_lay 13 0 0 (by decide) (by decide) (by decide) _ i2
 dsimp only at i1 p1 i2 p2 i3 p3
 have hl1:(s.lay op 0 0).ws.length=s.ws.length+1:=by simp[Em.lay]
 have hw1:((f (s.lay op 0 0)).lay 13 0 0).ws[s.ws.length]?=some ⟨op,0,0⟩:=((p2.trans p3).at1 s.ws.length (by omega)).trans (lay_last s op 0 0);have i4:=inv_land i3 hw1 h1 h2 h3;have p4:=pre_land ((p1.trans p2).trans p3) (Nat.le_refl s.ws.length);obtain⟨i5,p5⟩:=hg _ i4;have hl2:=p2.len;have hl3:(((f (s.lay op 0 0)).lay 13 0 0).land s.ws.length).ws.length=(f (s.lay op 0 0)).ws.length+1:=by rw[land_len];simp[Em.lay]
 have hw2:(((f (s.lay op 0 0)).lay 13 0 0).land s.ws.length).ws[(f (s.lay op 0 0)).ws.length]?=some ⟨13,0,0⟩:=by
  rw[land_at,if_neg (by omega)];exact lay_last _ 13 0 0
 have hw3:=(p5.at1 (f (s.lay op 0 0)).ws.length (by omega)).trans hw2;exact⟨inv_land i5 hw3 (by decide) (by decide) (by decide),pre_land (p4.trans p5) (by omega)⟩
theorem gd_clrs (h:Nat):∀ (l:List Int) (i:Nat),Gd (clrs h l i)
 | [],_=>Gd.id
 | x::r,i=>fun s hs=>by
  unfold clrs;by_cases e:x=(h:Int)
  ·rw[if_pos e];obtain⟨a,b⟩:=gd_lay 19 i 0 (by decide) (by decide) (by decide) s hs;obtain⟨c,d⟩:=gd_clrs h r (i+1) _ a;exact⟨c,b.trans d⟩
  ·rw[if_neg e];exact gd_clrs h r (i+1) s hs
theorem gd_bdy (lv:List Int){t:Tr}(ht:∀ ar u,Gd (t ar u))(ar u:Nat):Gd (bdy lv t ar u):=(gd_clrs (ar+1) lv 0).comp (ht (ar+1) u)
theorem gd_srch (lv:List Int){t:Tr}(ht:∀ ar u,Gd (t ar u))(op:Nat)(v:Int)(h1:op≠1)(h2:op≠2)(h3:op≠21)(ar u:Nat):Gd (srch lv t op v ar u):=fun s hs =>
 gd_fork 24 ((((gd_bdy lv ht ar u).comp (gd_lay op s.ws.length 0 h1 h2 h3)).comp (gd_lay 25 0 0 (by decide) (by decide) (by decide))).comp (gd_con v 2 u)) (gd_con (1-v) 2 u) (by decide) (by decide) (by decide) s hs
theorem gd_gath (lv:List Int){t:Tr}(ht:∀ ar u,Gd (t ar u)){f:Nat->Em->Em}(hf:∀ g,Gd (f g))(ar u:Nat):Gd (gath lv t f ar u):=fun s h=>by
 obtain⟨i1,p1⟩:=gd_lay 24 0 0 (by decide) (by decide) (by decide) s h;obtain⟨i2,p2⟩:=(((gd_bdy lv ht ar u).comp (hf s.ws.length)).comp (gd_lay 13 s.ws.length 0 (by decide) (by decide) (by decide))) _ i1
 dsimp only at i1 p1 i2 p2
 have hl1:(s.lay 24 0 0).ws.length=s.ws.length+1:=by simp[Em.lay]
 have hw:=(p2.at1 s.ws.length (by omega)).trans (lay_last s 24 0 0);exact⟨inv_land i2 hw (by decide) (by decide) (by decide),pre_land (p1.trans p2) (Nat.le_refl _)⟩
theorem gd_qua (lv:List Int)(n:Int){a t:Tr}(ha:∀ ar u,Gd (a ar u))(ht:∀ ar u,Gd (t ar u))(ar u:Nat):Gd (qua lv n a t ar u):=fun s hs=>by
 unfold qua;split
 ·exact((ha ar u).comp (gd_srch lv ht 15 0 (by decide) (by decide) (by decide) ar u)) s hs
 ·split
  ·exact((ha ar u).comp (gd_srch lv ht 14 1 (by decide) (by decide) (by decide) ar u)) s hs
  ·split
   ·exact(((ha ar u).comp (gd_con 0 1 u)).comp (gd_gath lv ht (fun g=>((gd_lay 14 g 0 (by decide) (by decide) (by decide)).comp (gd_con 1 1 (u+1))).comp (gd_lay 6 0 0 (by decide) (by decide) (by decide))) ar (u+1))) s hs
   ·split
    ·exact(((ha ar u).comp (gd_con 0 1 u)).comp (gd_gath lv ht (fun g=>gd_lay 6 0 0 (by decide) (by decide) (by decide)) ar (u+1))) s hs
    ·exact(((((ha ar u).comp (gd_con 0 1 u)).comp (gd_con 0 2 (u+1))).comp (gd_gath lv ht (fun g=>gd_lay 26 (n-5).toNat 0 (by decide) (by decide) (by decide)) ar (u+2))).comp (gd_lay 27 0 0 (by decide) (by decide) (by decide))) s hs
theorem gd_seq:∀ (T:List Tr) (i ar u:Nat),(∀ t ∈ T,∀ ar u,Gd (t ar u))->Gd (seqT T i ar u)
 | [],_,_,_,_=>Gd.id
 | t::r,i,ar,u,h=>(h t (List.mem_cons_self ..) ar (u+i)).comp (gd_seq r (i+1) ar u (fun x hx=>h x (List.mem_cons_of_mem _ hx)))
theorem bar_ne (k:Int):barN k≠1/\barN k≠2/\barN k≠21:=by
 unfold barN
 repeat' split
 all_goals decide
theorem gd_opr (k n:Int)(nm:List UInt8)(kk:List Int):Gd (opr k n nm kk):=fun s hs=>by
 unfold opr;split
 ·exact gd_lay 11 0 _ (by decide) (by decide) (by decide) s hs
 ·split
  ·exact((gd_lay 11 0 (kk.getD 0 0).toNat (by decide) (by decide) (by decide)).comp (gd_lay 5 0 0 (by decide) (by decide) (by decide))) s hs
  ·split
   ·exact gd_lay 12 0 0 (by decide) (by decide) (by decide) s hs
   ·split
    ·exact gd_lay 12 0 1 (by decide) (by decide) (by decide) s hs
    ·split
     ·exact gd_lay 16 _ 0 (by decide) (by decide) (by decide) s hs
     ·split
      ·exact gd_nam nm s hs
      ·split
       ·exact gd_lay 23 _ 0 (by decide) (by decide) (by decide) s hs
       ·exact gd_lay _ 0 0 (bar_ne k).1 (bar_ne k).2.1 (bar_ne k).2.2 s hs
theorem gd_get {T:List Tr}(h:∀ t ∈ T,∀ ar u,Gd (t ar u))(i ar u:Nat):Gd (T.getD i noT ar u):=by
 by_cases hi:i<T.length
 ·rw[List.getD_eq_getElem?_getD,List.getElem?_eq_getElem hi];exact h _ (List.getElem_mem hi) ar u
 ·rw[List.getD_eq_getElem?_getD,List.getElem?_eq_none (by omega)];exact Gd.id
theorem gd_prt (lv:List Int)(k n:Int)(nm:List UInt8)(kk:List Int){T:List Tr}(h:∀ t ∈ T,∀ ar u,Gd (t ar u))(ar u:Nat):Gd (prt lv k n nm kk T ar u):=fun s hs=>by
 unfold prt;split
 ·exact gd_con n 1 u s hs
 split
 ·exact gd_con n 2 u s hs
 split
 ·exact gd_vtx n u s hs
 split
 ·exact gd_var _ u s hs
 split
 ·exact((gd_get h 0 ar u).comp (gd_fork 14 (gd_get h 1 ar u) (gd_con 0 2 u) (by decide) (by decide) (by decide))) s hs
 split
 ·exact((gd_get h 0 ar u).comp (gd_fork 15 (gd_get h 1 ar u) (gd_con 1 2 u) (by decide) (by decide) (by decide))) s hs
 split
 ·exact((gd_get h 0 ar u).comp (gd_fork 14 (gd_get h 1 ar u) (gd_get h 2 ar u) (by decide) (by decide) (by decide))) s hs
 split
 ·have hs1:Inv (s.cel n.toNat (kk.getD 0 0)):=⟨hs.nc,hs.nn,hs.wc,hs.wn,hs.uc,hs.un⟩
  have p0:Pre s (s.cel n.toNat (kk.getD 0 0)):=⟨fun _ _=>rfl,Nat.le_refl _,by simp[Em.cel]⟩
  obtain⟨i1,p1⟩:=gd_lay 17 n.toNat 0 (by decide) (by decide) (by decide) _ hs1;obtain⟨i2,p2⟩:=((gd_get h 0 ar u).comp (gd_lay 18 n.toNat 0 (by decide) (by decide) (by decide))) _ i1
  dsimp only at i1 p1 i2 p2
  have hl1:((s.cel n.toNat (kk.getD 0 0)).lay 17 n.toNat 0).ws.length=s.ws.length+1:=by simp[Em.lay,Em.cel]
  have hw:=(p2.at1 s.ws.length (by omega)).trans (lay_last (s.cel n.toNat (kk.getD 0 0)) 17 n.toNat 0);exact⟨inv_land i2 hw (show (17:Nat)≠1 by decide) (show (17:Nat)≠2 by decide) (show (17:Nat)≠21 by decide),pre_land ((p0.trans p1).trans p2) (Nat.le_refl _)⟩
 split
 ·exact gd_qua lv n (fun ar u=>gd_get h 0 ar u) (fun ar u=>gd_get h 1 ar u) ar u s hs
 ·exact((gd_seq T 0 ar u h).comp (gd_opr k n nm kk)) s hs
theorem gd_emF (lv:List Int):∀ (f:Fs),∀ t ∈ emF lv f,∀ ar u,Gd (t ar u)
 | ⟨none⟩=>fun t ht=>by simp[emF] at ht
 | ⟨some ⟨k,n,nm,a,ks,r⟩⟩=>fun t ht ar u=>by
  simp only[emF,List.mem_cons] at ht;rcases ht with rfl|ht
  ·exact gd_prt lv k n nm (kdF ks) (gd_emF lv ks) ar u
  ·exact gd_emF lv r t ht ar u
def okQ (s:Em):Prop:=s.ws.length<=32768/\s.dp<=1024
structure Qle (s t:Em):Prop where
 ws:s.ws.length<=t.ws.length
 dp:s.dp<=t.dp
theorem Qle.ok {s t:Em}(h:Qle s t)(k:okQ t):okQ s:=⟨Nat.le_trans h.ws k.1,Nat.le_trans h.dp k.2⟩
theorem Qle.refl (s:Em):Qle s s:=⟨Nat.le_refl _,Nat.le_refl _⟩
theorem Qle.trans {a b c:Em}(h:Qle a b)(k:Qle b c):Qle a c:=⟨Nat.le_trans h.ws k.ws,Nat.le_trans h.dp k.dp⟩
theorem qle_lay (s:Em)(op a b:Nat):Qle s (s.lay op a b):=⟨by simp[Em.lay],Nat.le_refl _⟩
theorem qle_push (s:Em)(op a b u:Nat):Qle s (s.push op a b u):=⟨by simp[Em.push],by simp only[Em.push];omega⟩
theorem qle_kc (s:Em)(n:Int):Qle s (s.kc n):=⟨Nat.le_refl _,Nat.le_refl _⟩
theorem qle_kn (s:Em)(x:List UInt8):Qle s (s.kn x):=⟨Nat.le_refl _,Nat.le_refl _⟩
theorem qle_con (s:Em)(n:Int)(kd u:Nat):Qle s (s.con n kd u):=(qle_kc s n).trans (qle_push _ 1 _ kd u)
theorem qle_land (s:Em)(i:Nat):Qle s (s.land i):=⟨by simp[Em.land],Nat.le_refl _⟩
theorem qle_cel (s:Em)(i:Nat)(k:Int):Qle s (s.cel i k):=⟨Nat.le_refl _,Nat.le_refl _⟩
def Qgr (f:Em->Em):Prop:=∀ s,Qle s (f s)
theorem Qgr.id:Qgr (fun s=>s):=Qle.refl
theorem qgr_fork {f g:Em->Em}(op:Nat)(hf:Qgr f)(hg:Qgr g):Qgr (fun s=>s.fork op f g):=fun s =>
 ((((qle_lay s op 0 0).trans (hf _)).trans (qle_lay _ 13 0 0)).trans (qle_land _ _)).trans ((hg _).trans (qle_land _ _))
theorem qgr_clrs (h:Nat):∀ (l:List Int) (i:Nat),Qgr (clrs h l i)
 | [],_=>Qgr.id
 | x::r,i=>fun s=>by
  unfold clrs;by_cases e:x=(h:Int)
  ·rw[if_pos e];exact(qle_lay s 19 i 0).trans (qgr_clrs h r (i+1) _)
  ·rw[if_neg e];exact qgr_clrs h r (i+1) s
def Qtr (t:Tr):Prop:=∀ ar u,Qgr (t ar u)
theorem qgr_bdy (lv:List Int){t:Tr}(ht:Qtr t)(ar u:Nat):Qgr (bdy lv t ar u):=fun s=>(qgr_clrs (ar+1) lv 0 s).trans (ht (ar+1) u _)
theorem qgr_srch (lv:List Int){t:Tr}(ht:Qtr t)(op:Nat)(v:Int)(ar u:Nat):Qgr (srch lv t op v ar u):=fun s =>
 qgr_fork 24 (f:=fun x=>(((bdy lv t ar u x).lay op s.ws.length 0).lay 25 0 0).con v 2 u) (fun x=>(((qgr_bdy lv ht ar u x).trans (qle_lay _ _ _ _)).trans (qle_lay _ _ _ _)).trans (qle_con _ _ _ _)) (fun x=>qle_con _ _ _ _) s
theorem qgr_gath (lv:List Int){t:Tr}(ht:Qtr t){f:Nat->Em->Em}(hf:∀ g,Qgr (f g))(ar u:Nat):Qgr (gath lv t f ar u):=fun s =>
 ((((qle_lay s 24 0 0).trans (qgr_bdy lv ht ar u _)).trans (hf _ _)).trans (qle_lay _ _ _ _)).trans (qle_land _ _)
theorem qgr_qua (lv:List Int)(n:Int){a t:Tr}(ha:Qtr a)(ht:Qtr t)(ar u:Nat):Qgr (qua lv n a t ar u):=fun s=>by
 unfold qua;split
 ·exact(ha ar u s).trans (qgr_srch lv ht 15 0 ar u _)
 split
 ·exact(ha ar u s).trans (qgr_srch lv ht 14 1 ar u _)
 split
 ·exact((ha ar u s).trans (qle_con _ _ _ _)).trans (qgr_gath lv ht (f:=fun g x=>((x.lay 14 g 0).con 1 1 (u+1)).lay 6 0 0) (fun g x=>((qle_lay _ _ _ _).trans (qle_con _ _ _ _)).trans (qle_lay _ _ _ _)) ar (u+1) _)
 split
 ·exact((ha ar u s).trans (qle_con _ _ _ _)).trans (qgr_gath lv ht (f:=fun _ x=>x.lay 6 0 0) (fun g x=>qle_lay _ _ _ _) ar (u+1) _)
 ·exact((((ha ar u s).trans (qle_con _ _ _ _)).trans (qle_con _ _ _ _)).trans (qgr_gath lv ht (f:=fun _ x=>x.lay 26 (n-5).toNat 0) (fun g x=>qle_lay _ _ _ _) ar (u+2) _)).trans (qle_lay _ _ _ _)
theorem qgr_seq:∀ (T:List Tr) (i ar u:Nat),(∀ t ∈ T,Qtr t)->Qgr (seqT T i ar u)
 | [],_,_,_,_=>Qgr.id
 | t::r,i,ar,u,h=>fun s=>(h t (List.mem_cons_self ..) ar (u+i) s).trans (qgr_seq r (i+1) ar u (fun x hx=>h x (List.mem_cons_of_mem _ hx)) _)
theorem qgr_opr (k n:Int)(nm:List UInt8)(kk:List Int):Qgr (opr k n nm kk):=fun s=>by
 unfold opr
 repeat' split
 all_goals first|exact qle_lay _ _ _ _|exact(qle_lay _ _ _ _).trans (qle_lay _ _ _ _)|exact(qle_kn _ _).trans (qle_lay _ _ _ _)
theorem qtr_get {T:List Tr}(h:∀ t ∈ T,Qtr t)(i:Nat):Qtr (T.getD i noT):=by
 by_cases hi:i<T.length
 ·rw[List.getD_eq_getElem?_getD,List.getElem?_eq_getElem hi];exact h _ (List.getElem_mem hi)
 ·rw[List.getD_eq_getElem?_getD,List.getElem?_eq_none (by omega)];exact fun _ _=>Qgr.id
theorem qtr_prt (lv:List Int)(k n:Int)(nm:List UInt8)(kk:List Int){T:List Tr}(h:∀ t ∈ T,Qtr t):Qtr (prt lv k n nm kk T):=fun ar u s=>by
 have q0:=qtr_get h 0;have q1:=qtr_get h 1;have q2:=qtr_get h 2;unfold prt;split
 ·exact qle_con _ _ _ _
 split
 ·exact qle_con _ _ _ _
 split
 ·exact(qle_kc _ _).trans (qle_push _ _ _ _ _)
 split
 ·exact qle_push _ _ _ _ _
 split
 ·exact(q0 ar u s).trans (qgr_fork 14 (q1 ar u) (fun x=>qle_con _ _ _ _) _)
 split
 ·exact(q0 ar u s).trans (qgr_fork 15 (q1 ar u) (fun x=>qle_con _ _ _ _) _)
 split
 ·exact(q0 ar u s).trans (qgr_fork 14 (q1 ar u) (q2 ar u) _)
 split
 ·exact((((qle_cel _ _ _).trans (qle_lay _ _ _ _)).trans (q0 ar u _)).trans (qle_lay _ _ _ _)).trans (qle_land _ _)
 split
 ·exact qgr_qua lv n q0 q1 ar u s
 ·exact(qgr_seq T 0 ar u h s).trans (qgr_opr k n nm kk _)
theorem qtr_emF (lv:List Int):∀ (f:Fs),∀ t ∈ emF lv f,Qtr t
 | ⟨none⟩=>fun t ht=>by simp[emF] at ht
 | ⟨some ⟨k,n,nm,a,ks,r⟩⟩=>fun t ht=>by
  simp only[emF,List.mem_cons] at ht;rcases ht with rfl|ht
  ·exact qtr_prt lv k n nm (kdF ks) (qtr_emF lv ks)
  ·exact qtr_emF lv r t ht
structure Dp where
 ws:List Wo
 cs:List Int
 ns:List (List UInt8)
 ks:List Int
 h:Int
 top:Int
 lg:Bool
def Dp.puts (s:Dp)(op a b:Nat):Dp:=if 32768<=s.ws.length then { s with lg:=true } else { s with ws:=s.ws++[⟨op,a,b⟩] }
def Dp.at1 (s:Dp):Nat:=if 32768<=s.ws.length then 0 else s.ws.length
def Dp.grows (s:Dp)(n:Int):Dp:={ s with h:=s.h+n,top:=max s.top (s.h+n),lg:=s.lg||decide (1024<max s.top (s.h+n)) }
def Dp.kI (s:Dp)(n:Int):Dp:={ s with cs:=if n ∈ s.cs then s.cs else s.cs++[n] }
def Dp.kN (s:Dp)(x:List UInt8):Dp:={ s with ns:=if x ∈ s.ns then s.ns else s.ns++[x] }
def Dp.val (s:Dp)(n:Int)(kd:Nat):Dp:=((s.kI n).puts 1 (s.cs.idxOf n) kd).grows 1
def Dp.lands (s:Dp)(i:Nat):Dp:=if s.lg then s else { s with ws:=s.ws.modify i (fun x=>x.to s.ws.length) }
def Dp.cel (s:Dp)(i:Nat)(k:Int):Dp:=if s.ks.getD i 0=0 then { s with ks:=s.ks.set i k } else s
abbrev Td:=Nat->Dp->Dp
abbrev noD:Td:=fun _ s=>s
def kidsD:List Td->Nat->Dp->Dp
 | [],_,s=>s
 | t::r,ar,s=>kidsD r ar (t ar s)
def cmpD (k:Int)(kk:List Int)(s:Dp):Dp :=
 if k=13 then s.puts 11 0 (kk.getD 0 0).toNat else if k=14 then (s.puts 11 0 (kk.getD 0 0).toNat).puts 5 0 0 else if k=15 then s.puts 12 0 0 else s.puts 12 0 1
def choD (k:Int)(t0 t1 t2:Td):Td:=fun ar s =>
 let a:=t0 ar s
 let c:=t1 ar ((a.puts (if k=18 then 15 else 14) 0 0).grows (-1))
 let e:=((c.puts 13 0 0).grows (-1)).lands a.at1
 (if k=17 then e.val 0 2 else if k=18 then e.val 1 2 else t2 ar e).lands c.at1
def clxD (n:Nat)(kd:Int)(t0:Td):Td:=fun ar s =>
 ((t0 ar ((s.cel n kd).puts 17 n 0)).puts 18 n 0).lands (s.cel n kd).at1
def setD (k:Int)(nm:List UInt8)(T:List Td):Td:=fun ar s =>
 let a:=kidsD T ar s
 (if k=22 then a.puts 20 0 0 else if k=23 then (a.kN nm).puts 21 (a.ns.idxOf nm) 0 else if k=24 then a.puts 22 0 0 else a.puts 23 T.length 0).grows (-(T.length:Int))
def clrD (h:Nat):List Int->Nat->Dp->Dp
 | [],_,s=>s
 | l::r,i,s=>if s.lg then s else clrD h r (i+1) (if l=(h:Int) then s.puts 19 i 0 else s)
def endD (n:Int)(loop next:Nat)(e:Dp):Dp :=
 let c:=(((e.puts (if n=2 then 14 else 15) loop 0).grows (-1)).puts 25 0 0).val (if n=2 then 1 else 0) 2
 ((((c.puts 13 0 0).grows (-1)).lands next).val (if n=2 then 0 else 1) 2).lands c.at1
def preD (n:Int)(a:Dp):Dp :=
 let b:=if 3<=n then a.val 0 1 else a
 if 5<=n then b.val 0 2 else b
def midD (n:Int)(loop:Nat)(e:Dp):Dp :=
 if n=3 then ((((e.puts 14 loop 0).grows (-1)).val 1 1).puts 6 0 0).grows (-1) else if n=4 then (e.puts 6 0 0).grows (-1) else (e.puts 26 (n-5).toNat 0).grows (-1)
def finD (n:Int)(loop next:Nat)(e:Dp):Dp :=
 let g:=((midD n loop e).puts 13 loop 0).lands next
 if 5<=n then (g.puts 27 0 0).grows (-1) else g
def quaD (lv:List Int)(n:Int)(t0 t1:Td):Td:=fun ar s =>
 let b:=preD n (t0 ar s)
 if b.lg then b else
 let e:=t1 (ar+1) (clrD (ar+1) lv 0 (b.puts 24 0 0))
 if n=1\/n=2 then endD n b.ws.length b.at1 e else finD n b.ws.length b.at1 e
def parD (lv:List Int)(k n:Int)(nm:List UInt8)(kk:List Int)(T:List Td):Td:=fun ar s =>
 if 22<=k/\k<=25 then setD k nm T ar s else if s.lg then s
 else if k=1 then s.val n 1 else if k=2 then s.val n 2 else if k=3 then ((s.kI n).puts 2 (s.cs.idxOf n) 0).grows 1 else if k=5 then (s.puts 3 n.toNat 0).grows 1
 else if 6<=k/\k<=12 then ((kidsD T ar s).puts (barN k) 0 0).grows (if k=6\/k=7 then 0 else -1)
 else if 13<=k/\k<=16 then (cmpD k kk (kidsD T ar s)).grows (-1)
 else if k=20 then ((kidsD T ar s).puts 16 n.toNat 0).grows (1-(T.length:Int))
 else if k=26 then clxD n.toNat (kk.getD 0 0) (T.getD 0 noD) ar s
 else if k=21 then quaD lv n (T.getD 0 noD) (T.getD 1 noD) ar s
 else choD k (T.getD 0 noD) (T.getD 1 noD) (T.getD 2 noD) ar s
def deF (lv:List Int):Fs->List Td
 | ⟨none⟩=>[]
 | ⟨some ⟨k,n,nm,_,ks,r⟩⟩=>parD lv k n nm (kdF ks) (deF lv ks)::deF lv r
def deE (lv:List Int)(e:Ex):Td:=parD lv e.k e.n e.nm (kdF e.kids) (deF lv e.kids)
theorem deF_len (lv:List Int):∀ f:Fs,(deF lv f).length=f.len
 | ⟨none⟩=>rfl
 | ⟨some ⟨k,n,nm,a,ks,r⟩⟩=>by simp only[deF,Fs.len,List.length_cons,deF_len lv r]
structure Dp.sz (m:Nat)(s:Dp):Prop where
 c:s.cs.length<=m
 n:s.ns.length<=m
 h1:-(m:Int)<=s.h
 h2:s.h<=(m:Int)
 t1:-(m:Int)<=s.top
 t2:s.top<=(m:Int)
structure Dle (c:Nat)(s t:Dp):Prop where
 sz:∀ m,s.sz m->t.sz (m+c)
 w1:s.ws.length<=32768->t.ws.length<=32768
 w2:s.ws.length<=t.ws.length
 ks:t.ks.length=s.ks.length
 lg:s.lg=true->t.lg=true
theorem Dp.sz.mono {m m':Nat}{s:Dp}(h:s.sz m)(k:m<=m'):s.sz m':=by
 obtain⟨a,b,c,d,e,f⟩:=h;constructor<;>omega
theorem Dle.refl (s:Dp):Dle 0 s s:=⟨fun m h=>h,id,Nat.le_refl _,rfl,id⟩
theorem Dle.trans {a b:Nat}{x y z:Dp}(h:Dle a x y)(k:Dle b y z):Dle (a+b) x z:=⟨fun m q=>(k.sz _ (h.sz m q)).mono (by omega),fun q=>k.w1 (h.w1 q),Nat.le_trans h.w2 k.w2,k.ks.trans h.ks,fun q=>k.lg (h.lg q)⟩
theorem Dle.le {a b:Nat}{x y:Dp}(h:Dle a x y)(k:a<=b):Dle b x y:=⟨fun m q=>(h.sz m q).mono (by omega),h.w1,h.w2,h.ks,h.lg⟩
theorem dle_puts (s:Dp)(op a b:Nat):Dle 0 s (s.puts op a b):=by
 unfold Dp.puts;split
 ·exact⟨fun m h=>⟨h.c,h.n,h.h1,h.h2,h.t1,h.t2⟩,id,Nat.le_refl _,rfl,fun _=>rfl⟩
 ·exact⟨fun m h=>⟨h.c,h.n,h.h1,h.h2,h.t1,h.t2⟩,fun _=>by simp;omega,by simp,rfl,id⟩
theorem dle_grows (s:Dp)(n:Int)(c:Nat)(h1:-(c:Int)<=n)(h2:n<=(c:Int)):Dle c s (s.grows n):=by
 refine⟨fun m h=>?_,id,Nat.le_refl _,rfl,fun h=>by simp[Dp.grows,h]⟩;obtain⟨a,b,d,e,f,g⟩:=h;constructor<;>simp only[Dp.grows]<;>omega
theorem dle_kI (s:Dp)(n:Int):Dle 1 s (s.kI n):=by
 refine⟨fun m h=>?_,id,Nat.le_refl _,rfl,id⟩;obtain⟨a,b,d,e,f,g⟩:=h;constructor<;>simp only[Dp.kI]
 ·split<;>(try simp)<;>omega
 all_goals omega
theorem dle_kN (s:Dp)(n:List UInt8):Dle 1 s (s.kN n):=by
 refine⟨fun m h=>?_,id,Nat.le_refl _,rfl,id⟩;obtain⟨a,b,d,e,f,g⟩:=h;constructor<;>simp only[Dp.kN]
 ·omega
 ·split<;>(try simp)<;>omega
 all_goals omega
theorem dle_val (s:Dp)(n:Int)(kd:Nat):Dle 2 s (s.val n kd):=(((dle_kI s n).trans (dle_puts _ 1 _ kd)).trans (dle_grows _ 1 1 (by omega) (by omega))).le (by omega)
theorem dle_lands (s:Dp)(i:Nat):Dle 0 s (s.lands i):=by
 unfold Dp.lands;split
 ·exact Dle.refl s
 ·exact⟨fun m h=>⟨h.c,h.n,h.h1,h.h2,h.t1,h.t2⟩,fun h=>by simp;omega,by simp,rfl,id⟩
theorem dle_cel (s:Dp)(i:Nat)(k:Int):Dle 0 s (s.cel i k):=by
 unfold Dp.cel;split
 ·exact⟨fun m h=>⟨h.c,h.n,h.h1,h.h2,h.t1,h.t2⟩,id,Nat.le_refl _,by simp,id⟩
 ·exact Dle.refl s
theorem dle_clr (h:Nat):∀ (l:List Int) (i:Nat) (s:Dp),Dle 0 s (clrD h l i s)
 | [],_,s=>Dle.refl s
 | x::r,i,s=>by
  unfold clrD;split
  ·exact Dle.refl s
  ·split
   ·exact(dle_puts s 19 i 0).trans (dle_clr h r (i+1) _)
   ·exact dle_clr h r (i+1) s
def Tle (c:Nat)(t:Td):Prop:=∀ ar s,Dle c s (t ar s)
theorem dle_end (n:Int)(loop next:Nat)(e:Dp):Dle 6 e (endD n loop next e) :=
 ((((((((dle_puts e _ loop 0).trans (dle_grows _ (-1) 1 (by omega) (by omega))).trans (dle_puts _ 25 0 0)).trans (dle_val _ _ 2)).trans (dle_puts _ 13 0 0)).trans (dle_grows _ (-1) 1 (by omega) (by omega))).trans (dle_lands _ _)).trans (dle_val _ _ 2)).trans (dle_lands _ _)
theorem dle_pre (n:Int)(a:Dp):Dle 4 a (preD n a):=by
 unfold preD
 dsimp only
 split<;>split
 ·exact(dle_val _ _ _).trans (dle_val _ _ _)
 ·exact((dle_val _ _ _)).le (by omega)
 ·exact((dle_val _ _ _)).le (by omega)
 ·exact(Dle.refl _).le (by omega)
theorem dle_mid (n:Int)(loop:Nat)(e:Dp):Dle 4 e (midD n loop e):=by
 unfold midD;split
 ·exact((((dle_puts e 14 loop 0).trans (dle_grows _ (-1) 1 (by omega) (by omega))).trans (dle_val _ 1 1)).trans (dle_puts _ 6 0 0)).trans (dle_grows _ (-1) 1 (by omega) (by omega))
 ·split
  ·exact((dle_puts e _ _ 0).trans (dle_grows _ (-1) 1 (by omega) (by omega))).le (by omega)
  ·exact((dle_puts e _ _ 0).trans (dle_grows _ (-1) 1 (by omega) (by omega))).le (by omega)
theorem dle_fin (n:Int)(loop next:Nat)(e:Dp):Dle 5 e (finD n loop next e):=by
 unfold finD
 dsimp only
 have h:=((dle_mid n loop e).trans (dle_puts _ 13 loop 0)).trans (dle_lands _ next);split
 ·exact((h.trans (dle_puts _ 27 0 0)).trans (dle_grows _ (-1) 1 (by omega) (by omega))).le (by omega)
 ·exact h.le (by omega)
theorem dle_qua (lv:List Int)(n:Int){t0 t1:Td}{a b:Nat}(h0:Tle a t0)(h1:Tle b t1):Tle (a+b+10) (quaD lv n t0 t1):=fun ar s=>by
 unfold quaD
 dsimp only
 have hb:=(h0 ar s).trans (dle_pre n _);split
 ·exact hb.le (by omega)
 ·have he:=((hb.trans (dle_puts _ 24 0 0)).trans (dle_clr (ar+1) lv 0 _)).trans (h1 (ar+1) _);split
  ·exact(he.trans (dle_end n _ _ _)).le (by omega)
  ·exact(he.trans (dle_fin n _ _ _)).le (by omega)
theorem dle_cho (k:Int){t0 t1 t2:Td}{a b c:Nat}(h0:Tle a t0)(h1:Tle b t1)(h2:Tle c t2):Tle (a+b+c+4) (choD k t0 t1 t2):=fun ar s=>by
 unfold choD
 dsimp only
 generalize (if k=18 then 15 else 14)=op;have he:=((((((h0 ar s).trans (dle_puts _ op 0 0)).trans (dle_grows _ (-1) 1 (by omega) (by omega))).trans (h1 ar _)).trans (dle_puts _ 13 0 0)).trans (dle_grows _ (-1) 1 (by omega) (by omega))).trans (dle_lands _ (t0 ar s).at1);split
 ·exact((he.trans (dle_val _ _ _)).trans (dle_lands _ _)).le (by omega)
 ·split
  ·exact((he.trans (dle_val _ _ _)).trans (dle_lands _ _)).le (by omega)
  ·exact((he.trans (h2 ar _)).trans (dle_lands _ _)).le (by omega)
theorem dle_celD (n:Nat)(kd:Int){t0:Td}{a:Nat}(h0:Tle a t0):Tle a (clxD n kd t0):=fun ar s=>by
 unfold clxD;exact((((dle_cel s n kd).trans (dle_puts _ 17 n 0)).trans (h0 ar _)).trans ((dle_puts _ 18 n 0).trans (dle_lands _ _))).le (by omega)
def Tls:List Td->Fs->Prop
 | [],⟨none⟩=>True
 | t::T,⟨some ⟨_,_,_,_,ks,r⟩⟩=>Tle (17*ks.size+16) t/\Tls T r
 | _,_=>False
theorem dle_kids:∀ (T:List Td) (f:Fs),Tls T f->T.length=f.len/\∃c,c+f.len=17*f.size/\Tle c (fun ar s=>kidsD T ar s)
 | [],⟨none⟩,_=>⟨rfl,0,rfl,fun ar s=>Dle.refl s⟩
 | t::T,⟨some ⟨k,n,nm,a,ks,r⟩⟩,h=>by
  obtain⟨hl,c,hc,hk⟩:=dle_kids T r h.2;refine⟨by simp only[List.length_cons,Fs.len,hl],17*ks.size+16+c,by simp only[Fs.len,Fs.size];omega,fun ar s=>?_⟩;exact(h.1 ar s).trans (hk ar _)
 | [],⟨some ⟨k,n,nm,a,ks,r⟩⟩,h=>by simp[Tls] at h
 | t::T,⟨none⟩,h=>by simp[Tls] at h
theorem tls_get:∀ (T:List Td) (f:Fs),Tls T f->∃a b c,Tle a (T.getD 0 noD)/\Tle b (T.getD 1 noD)/\Tle c (T.getD 2 noD)/\a+b+c+min f.len 3<=17*f.size
 | [],⟨none⟩,_=>⟨0,0,0,fun _ s=>Dle.refl s,fun _ s=>Dle.refl s,fun _ s=>Dle.refl s,by simp[Fs.len]⟩
 | [t],⟨some ⟨k,n,nm,a,ks,⟨none⟩⟩⟩,h=>⟨_,0,0,h.1,fun _ s=>Dle.refl s,fun _ s=>Dle.refl s,by simp only[Fs.len,Fs.size];omega⟩
 | [t,u],⟨some ⟨k,n,nm,a,ks,⟨some ⟨k',n',nm',a',ks',⟨none⟩⟩⟩⟩⟩,h=>⟨_,_,0,h.1,h.2.1,fun _ s=>Dle.refl s,by simp only[Fs.len,Fs.size];omega⟩
 | t::u::v::T,⟨some ⟨k,n,nm,a,ks,⟨some ⟨k',n',nm',a',ks',⟨some ⟨k2,n2,nm2,a2,ks2,r⟩⟩⟩⟩⟩⟩,h=>⟨_,_,_,h.1,h.2.1,h.2.2.1,by simp only[Fs.len,Fs.size];omega⟩
 | [],⟨some ⟨k,n,nm,a,ks,r⟩⟩,h=>by simp[Tls] at h
 | t::T,⟨none⟩,h=>by simp[Tls] at h
 | [t],⟨some ⟨k,n,nm,a,ks,⟨some ⟨k',n',nm',a',ks',r⟩⟩⟩⟩,h=>by simp[Tls] at h
 | t::u::T,⟨some ⟨k,n,nm,a,ks,⟨none⟩⟩⟩,h=>by simp[Tls] at h
 | [t,u],⟨some ⟨k,n,nm,a,ks,⟨some ⟨k',n',nm',a',ks',⟨some ⟨k2,n2,nm2,a2,ks2,r⟩⟩⟩⟩⟩⟩,h=>by simp[Tls] at h
 | t::u::v::T,⟨some ⟨k,n,nm,a,ks,⟨some ⟨k',n',nm',a',ks',⟨none⟩⟩⟩⟩⟩,h=>by simp[Tls] at h
theorem dle_cmp (k:Int)(kk:List Int)(s:Dp):Dle 0 s (cmpD k kk s):=by
 unfold cmpD;split
 ·exact dle_puts _ _ _ _
 split
 ·exact(dle_puts _ _ _ _).trans (dle_puts _ _ _ _)
 split
 ·exact dle_puts _ _ _ _
 ·exact dle_puts _ _ _ _
theorem dle_par (lv:List Int)(k n:Int)(nm:List UInt8)(kk:List Int)(T:List Td)(f:Fs)(h:Tls T f):Tle (17*f.size+16) (parD lv k n nm kk T):=fun ar s=>by
 obtain⟨hl,c,hc,hk⟩:=dle_kids T f h;obtain⟨a,b,d,g0,g1,g2,hg⟩:=tls_get T f h;have hkd:=hk ar s
 dsimp only at hkd
 unfold parD;split
 ·unfold setD
  dsimp only
  split
  ·exact((hkd.trans (dle_puts _ _ _ _)).trans (dle_grows _ _ T.length (by omega) (by omega))).le (by omega)
  split
  ·exact(((hkd.trans (dle_kN _ nm)).trans (dle_puts _ _ _ _)).trans (dle_grows _ _ T.length (by omega) (by omega))).le (by omega)
  split
  ·exact((hkd.trans (dle_puts _ _ _ _)).trans (dle_grows _ _ T.length (by omega) (by omega))).le (by omega)
  ·exact((hkd.trans (dle_puts _ _ _ _)).trans (dle_grows _ _ T.length (by omega) (by omega))).le (by omega)
 split
 ·exact(Dle.refl s).le (by omega)
 split
 ·exact(dle_val _ _ _).le (by omega)
 split
 ·exact(dle_val _ _ _).le (by omega)
 split
 ·exact(((dle_kI s n).trans (dle_puts _ _ _ _)).trans (dle_grows _ 1 1 (by omega) (by omega))).le (by omega)
 split
 ·exact((dle_puts s _ _ _).trans (dle_grows _ 1 1 (by omega) (by omega))).le (by omega)
 split
 ·refine((hkd.trans (dle_puts _ _ _ _)).trans (dle_grows _ _ 1 ?_ ?_)).le (by omega)<;>split<;>omega
 split
 ·exact((hkd.trans (dle_cmp k kk _)).trans (dle_grows _ (-1) 1 (by omega) (by omega))).le (by omega)
 split
 ·exact((hkd.trans (dle_puts _ _ _ _)).trans (dle_grows _ _ (T.length+1) (by omega) (by omega))).le (by omega)
 split
 ·exact(dle_celD n.toNat _ g0 ar s).le (by omega)
 split
 ·exact(dle_qua lv n g0 g1 ar s).le (by omega)
 ·exact(dle_cho k g0 g1 g2 ar s).le (by omega)
theorem tls_deF (lv:List Int):∀ (f:Fs),Tls (deF lv f) f
 | ⟨none⟩=>trivial
 | ⟨some ⟨k,n,nm,a,ks,r⟩⟩=>⟨dle_par lv k n nm (kdF ks) (deF lv ks) ks (tls_deF lv ks),tls_deF lv r⟩
theorem dle_deE (lv:List Int)(e:Ex):Tle (17*e.kids.size+16) (deE lv e):=dle_par lv e.k e.n e.nm (kdF e.kids) (deF lv e.kids) e.kids (tls_deF lv e.kids)
open Go.ChangeShapes Go.WideShapes Go.ChangeAt Go.RowKit
abbrev N0 (n0:Nat)(o:Nat->Nat):Nat->Prop:=fun b=>n0<=b/\o b=0
def FcN (w:World)(P:Nat->Prop):Fs->List Value->Prop
 | ⟨none⟩,xs=>xs=[]
 | ⟨some ⟨k,n,nm,a,ks,r⟩⟩,xs=>∃ao cap ys,xs=.int .i64 k::.int .i64 n::stv nm::.slice ao ks.len cap::ys /\
   (ks=.nil\/∃b off zs,ao=some ⟨b,off,none⟩/\P b/\b<w.heap.size/\(∀ j u,zs[j]?=some u->w.cell? ⟨b,off+j,none⟩=some u)/\FcN w P ks zs)/\FcN w P r ys
def SlN (w:World)(P:Nat->Prop)(ks:Fs)(ao:Option Addr):Prop :=
 ks=.nil\/∃b off zs,ao=some ⟨b,off,none⟩/\P b/\b<w.heap.size/\(∀ j u,zs[j]?=some u->w.cell? ⟨b,off+j,none⟩=some u)/\FcN w P ks zs
def exN (e:Ex)(ao:Option Addr)(cap:Nat):Value:=.agg #[.int .i64 e.k,.int .i64 e.n,stv e.nm,.slice ao e.kids.len cap]
theorem exN_out (e:Ex)(ao:Option Addr)(cap:Nat):exN e ao cap=.agg #[.int .i64 e.k,.int .i64 e.n,stv e.nm,.slice ao e.kids.len cap]:=rfl
theorem FcN.len {w:World}{P:Nat->Prop}:∀ {f:Fs}{xs:List Value},FcN w P f xs->xs.length=f.len*4
 | ⟨none⟩,xs,h=>by
  have h:xs=[]:=h;subst h;rfl
 | ⟨some ⟨k,n,nm,a,ks,r⟩⟩,xs,h=>by
  obtain⟨ao,cap,ys,rfl,_,h2⟩:=h
  have:=FcN.len h2
  simp only[List.length_cons,Fs.len];omega
theorem FcN.mono {w w':World}{P Q:Nat->Prop}(hb:∀ k,P k->k<w.heap.size->w'.heap[k]?=w.heap[k]?)(hs:w.heap.size<=w'.heap.size)(hq:∀ k,P k->k<w.heap.size->Q k):∀ {f:Fs}{xs:List Value},FcN w P f xs->FcN w' Q f xs
 | ⟨none⟩,xs,h=>h
 | ⟨some ⟨k,n,nm,a,ks,r⟩⟩,xs,h=>by
  obtain⟨ao,cap,ys,rfl,h1,h2⟩:=h;refine⟨ao,cap,ys,rfl,?_,FcN.mono hb hs hq h2⟩;rcases h1 with h1|⟨b,off,zs,rfl,hp,hlt,hc,h3⟩
  ·exact .inl h1
  ·exact .inr ⟨b,off,zs,rfl,hq b hp hlt,Nat.lt_of_lt_of_le hlt hs,fun j u hu=>(World.cell?_of_block (a:=⟨b,off+j,none⟩) (hb b hp hlt)).trans (hc j u hu),FcN.mono hb hs hq h3⟩
theorem SlN.mono {w w':World}{P Q:Nat->Prop}{f:Fs}{ao:Option Addr}(hb:∀ k,P k->k<w.heap.size->w'.heap[k]?=w.heap[k]?)(hs:w.heap.size<=w'.heap.size)(hq:∀ k,P k->k<w.heap.size->Q k)(h:SlN w P f ao):SlN w' Q f ao:=by
 rcases h with h|⟨b,off,zs,rfl,hp,hlt,hc,h3⟩
 ·exact .inl h
 ·exact .inr ⟨b,off,zs,rfl,hq b hp hlt,Nat.lt_of_lt_of_le hlt hs,fun j u hu=>(World.cell?_of_block (a:=⟨b,off+j,none⟩) (hb b hp hlt)).trans (hc j u hu),h3.mono hb hs hq⟩
theorem FcN.one {w:World}{P:Nat->Prop}{e:Ex}{ao:Option Addr}(cap:Nat)(h:SlN w P e.kids ao):FcN w P (one e) [.int .i64 e.k,.int .i64 e.n,stv e.nm,.slice ao e.kids.len cap]:=⟨ao,cap,[],rfl,h,rfl⟩
theorem FcN.split {w:World}{P:Nat->Prop}:∀ {x y:Fs}{zs:List Value},FcN w P (x.app y) zs->∃zx zy,zs=zx++zy/\FcN w P x zx/\FcN w P y zy
 | ⟨none⟩,y,zs,h=>⟨[],zs,rfl,rfl,h⟩
 | ⟨some ⟨k,n,nm,a,ks,r⟩⟩,y,zs,h=>by
  obtain⟨ao,cap,ys,rfl,h1,h2⟩:=h;obtain⟨zx,zy,rfl,h3,h4⟩:=FcN.split h2;exact⟨_,zy,rfl,⟨ao,cap,zx,rfl,h1,h3⟩,h4⟩
theorem SlN.kidQ {P:Nat->Prop}{w:World}{x r:Fs}{k n:Int}{nm:List UInt8}{a:Int}{ks:Fs}{ao:Option Addr}(h:SlN w P (x.app (.cons k n nm a ks r)) ao):∃b off ak ck,ao=some ⟨b,off,none⟩/\b<w.heap.size/\P b/\w.cell? ⟨b,off+x.len*4,none⟩=some (.int .i64 k)/\w.cell? ⟨b,off+x.len*4+1,none⟩=some (.int .i64 n)/\w.cell? ⟨b,off+x.len*4+2,none⟩=some (stv nm)/\w.cell? ⟨b,off+x.len*4+3,none⟩=some (.slice ak ks.len ck)/\SlN w P ks ak:=by
 rcases h with h|⟨b,off,zs,rfl,hp,hlt,hc,hf⟩
 ·cases x using Fs.on with
  | nil=>cases h
  | cons k n nm a ks r=>cases h
 ·obtain⟨zx,zy,rfl,h3,h4⟩:=FcN.split hf;have hl:=h3.len;obtain⟨ak,ck,ys,rfl,h5,h6⟩:=h4;have hc':∀ j u,(.int .i64 k::.int .i64 n::stv nm::.slice ak ks.len ck::ys:List Value)[j]?=some u->w.cell? ⟨b,off+x.len*4+j,none⟩=some u:=fun j u hu=>by
   have:=hc (x.len*4+j) u (by rw[List.getElem?_append_right (by omega),hl,Nat.add_sub_cancel_left];exact hu)
   rw[Nat.add_assoc];exact this
  exact⟨b,off,ak,ck,rfl,hlt,hp,hc' 0 _ rfl,hc' 1 _ rfl,hc' 2 _ rfl,hc' 3 _ rfl,h5⟩
abbrev SnA (w:World)(f:Fs)(ao:Option Addr):Prop:=SlN w (fun _=>True) f ao
theorem SnA.below {w w':World}{f:Fs}{ao:Option Addr}(h:SnA w f ao)(b:Below w.heap.size w w'):SnA w' f ao:=h.mono (fun i _ hl=>b.block i hl) b.size (fun _ h _=>h)
theorem SlN.all {w:World}{P:Nat->Prop}{f:Fs}{ao:Option Addr}(h:SlN w P f ao):SnA w f ao:=h.mono (fun _ _ _=>rfl) (Nat.le_refl _) (fun _ _ _=>trivial)
theorem box4 {w:World}{b:Nat}{a0 a1 a2 a3:Value}{t:TypeId}(h:w.heap[b]?=some (.cells #[a0,a1,a2,a3] t (0,0))):w.cell? ⟨b,0,none⟩=some a0/\w.cell? ⟨b,1,none⟩=some a1/\w.cell? ⟨b,2,none⟩=some a2/\w.cell? ⟨b,3,none⟩=some a3/\∀ j,w.frozen? ⟨b,j,none⟩=false:=by
 refine⟨?_,?_,?_,?_,fun j=>frozen_of_row w b j _ t h⟩<;>simp[cell_of_row w b _ _ t (0,0) h]
structure Kp (a b:Nat)(w w':World):Prop where
 os:w'.os=w.os
 tape:w'.tape=w.tape
 output:w'.output=w.output
 size:w.heap.size<=w'.heap.size
 block:∀ k,k<w.heap.size->k≠a->k≠b->w'.heap[k]?=w.heap[k]?
theorem Kp.trans {p q:Nat}{a b c:World}(h:Kp p q a b)(k:Kp p q b c):Kp p q a c :=
 ⟨k.os.trans h.os,k.tape.trans h.tape,k.output.trans h.output,Nat.le_trans h.size k.size,fun i hi hn hm=>(k.block i (Nat.lt_of_lt_of_le hi h.size) hn hm).trans (h.block i hi hn hm)⟩
theorem Kp.ofBelow {a b:Nat}{w w':World}(h:Below w.heap.size w w'):Kp a b w w':=⟨h.os,h.tape,h.output,h.size,fun k hk _ _=>h.block k hk⟩
theorem Kp.set {p q:Nat}{a w:World}(h:Kp p q a w)(r:Addr)(u:Value)(hp:a.heap.size<=r.block\/r.block=p\/r.block=q):Kp p q a (w.setCell r u) :=
 ⟨h.os,h.tape,h.output,by simpa using h.size,fun k hk hn hm=>(heap_setCell_other w r k u (fun e=>by
  rcases hp with hp|hp|hp
  ·omega
  ·exact hn (e.trans hp)
  ·exact hm (e.trans hp))).trans (h.block k hk hn hm)⟩
theorem Kp.alloc {p q:Nat}{a w:World}(h:Kp p q a w)(ob:Obj):Kp p q a (w.alloc ob):=h.trans ⟨rfl,rfl,rfl,by simp,fun k hk _ _=>Below.heap_alloc w ob k hk⟩
theorem Kp.below {a b n:Nat}{w w':World}(h:Kp a b w w')(ha:n<=a)(hb:n<=b)(hs:n<=w.heap.size):Below n w w':=⟨h.os,h.tape,h.output,h.size,fun k hk=>h.block k (by omega) (by omega) (by omega)⟩
theorem Kp.bel {p q:Nat}{w a b:World}(B:Below w.heap.size w a)(K:Kp p q a b):Kp p q w b:=(Kp.ofBelow B).trans K
abbrev Nf2 (a b:Nat):Nat->Prop:=fun i=>i≠a/\i≠b
theorem SlN.kp {a b:Nat}{w w':World}{f:Fs}{ao:Option Addr}(h:SlN w (Nf2 a b) f ao)(k:Kp a b w w'):SlN w' (Nf2 a b) f ao:=h.mono (fun i hp hl=>k.block i hl hp.1 hp.2) k.size (fun _ h _=>h)
theorem SlN.belowP {P:Nat->Prop}{w w':World}{f:Fs}{ao:Option Addr}(h:SlN w P f ao)(b:Below w.heap.size w w'):SlN w' P f ao:=h.mono (fun i _ hl=>b.block i hl) b.size (fun _ h _=>h)
def Inw (w:World)(P:Nat->Prop)(v:Value)(xs:List Int):Prop :=
 ∃ao cap,v=.slice ao xs.length cap/\(xs=[]\/∃b off,ao=some ⟨b,off,none⟩/\P b/\b<w.heap.size/\∀ j x,xs[j]?=some x->w.cell? ⟨b,off+j,none⟩=some (.int .i64 x))
theorem Inw.mono {w w':World}{P Q:Nat->Prop}{v:Value}{xs:List Int}(hb:∀ k,P k->k<w.heap.size->w'.heap[k]?=w.heap[k]?)(hs:w.heap.size<=w'.heap.size)(hq:∀ k,P k->k<w.heap.size->Q k)(h:Inw w P v xs):Inw w' Q v xs:=by
 obtain⟨ao,cap,rfl,h⟩:=h;refine⟨ao,cap,rfl,?_⟩;rcases h with h|⟨b,off,rfl,hp,hlt,hc⟩
 ·exact .inl h
 ·exact .inr ⟨b,off,rfl,hq b hp hlt,Nat.lt_of_lt_of_le hlt hs,fun j u hu=>(World.cell?_of_block (a:=⟨b,off+j,none⟩) (hb b hp hlt)).trans (hc j u hu)⟩
theorem Inw.kp {a b:Nat}{w w':World}{v:Value}{xs:List Int}(h:Inw w (Nf2 a b) v xs)(k:Kp a b w w'):Inw w' (Nf2 a b) v xs:=h.mono (fun i hp hl=>k.block i hl hp.1 hp.2) k.size (fun _ h _=>h)
theorem Inw.below {P:Nat->Prop}{w w':World}{v:Value}{xs:List Int}(h:Inw w P v xs)(b:Below w.heap.size w w'):Inw w' P v xs:=h.mono (fun i _ hl=>b.block i hl) b.size (fun _ h _=>h)
theorem SlN.kidP {P:Nat->Prop}{w:World}{x r:Fs}{y:Ex}{ao:Option Addr}(h:SlN w P (x.app (Fs.ex y r)) ao)(i:Nat)(hi:x.len=i):∃b off ak ck,ao=some ⟨b,off,none⟩/\w.cell? ⟨b,off+i*4,none⟩=some (.int .i64 y.k)/\w.cell? ⟨b,off+i*4+1,none⟩=some (.int .i64 y.n)/\w.cell? ⟨b,off+i*4+2,none⟩=some (stv y.nm)/\w.cell? ⟨b,off+i*4+3,none⟩=some (.slice ak y.kids.len ck)/\SlN w P y.kids ak:=by
 subst hi;obtain⟨b,off,ak,ck,rfl,-,-,x0,x1,x2,x3,S⟩:=SlN.kidQ h;exact⟨b,off,ak,ck,rfl,x0,x1,x2,x3,S⟩
open Go.ChangeShapes Go.WideShapes Go.ChangeAt Go.RowKit Go.Maps
theorem idx_none {α:Type}[BEq α][LawfulBEq α]{l:List α}{x:α}(h:x ∉ l):l.idxOf x=l.length:=List.idxOf_eq_length h
open Go.RowKit
theorem wrap64_small (n:Int)(h1:-9223372036854775808<=n)(h2:n<=9223372036854775807):wrap64 n=n:=by
 unfold wrap64;omega
theorem part0_eq (u:Int)(h1:0<=u)(h2:u<18446744073709551616):wrap64 (bits .and .u64 (u / 72057594037927936) 255)=u / 72057594037927936:=by
 rw[u64_and _ _ (by omega) (by omega) (by omega) (by omega),show (255:Int).toNat=255 from rfl,nat_mask8,wrap64_small _ (by omega) (by omega)];omega
theorem and_mask28 (x:Nat):x &&& 268435455=x % 268435456:=Nat.and_two_pow_sub_one_eq_mod x 28
theorem part1_eq (u:Int)(h1:0<=u)(h2:u<18446744073709551616):wrap64 (bits .and .u64 (u / 268435456) 268435455)=u / 268435456 % 268435456:=by
 rw[u64_and _ _ (by omega) (by omega) (by omega) (by omega),show (268435455:Int).toNat=268435455 from rfl,and_mask28,wrap64_small _ (by omega) (by omega)];omega
theorem part2_eq (u:Int)(h1:0<=u)(h2:u<18446744073709551616):wrap64 (bits .and .u64 u 268435455)=u % 268435456:=by
 rw[u64_and _ _ (by omega) (by omega) (by omega) (by omega),show (268435455:Int).toNat=268435455 from rfl,and_mask28,wrap64_small _ (by omega) (by omega)];omega
abbrev I17:Nat->Prop:=fun k=>1<=k/\k<=7
theorem I17_of {i:Nat}(h:1<=i/\i<=7):∀ k,k=i->I17 k:=fun k hk=>by subst hk;exact h
def encW (x:Wo):Int:=((x.op:Int)*268435456+(x.a:Int))*268435456+(x.b:Int)
def Wo.ok (x:Wo):Prop:=x.op<=255/\x.a<=268435455/\x.b<=268435455
theorem encW_bd {x:Wo}(h:x.ok):0<=encW x/\encW x<18446744073709551616:=by
 obtain⟨h1,h2,h3⟩:=h;unfold encW;omega
theorem encW_parts {x:Wo}(h:x.ok):encW x / 72057594037927936=(x.op:Int)/\encW x / 268435456 % 268435456=(x.a:Int)/\encW x % 268435456=(x.b:Int):=by
 obtain⟨h1,h2,h3⟩:=h;unfold encW;omega
def woV (l:List Wo):List Value:=l.map fun x=>.int .u64 (encW x)
def eiV (l:List Int):List Value:=l.map (.int .i64 ·)
def esV (l:List (List UInt8)):List Value:=l.map stv
abbrev SnO (w:World)(o:Nat->Nat)(f:Fs)(ao:Option Addr):Prop:=SlN w (fun b=>o b=0) f ao
theorem SlN.stepO {I:Nat->Prop}{w w':World}{o o':Nat->Nat}{f:Fs}{ao:Option Addr}(h:SnO w o f ao)(x:Step I w o w' o')(hi:¬I 0):SnO w' o' f ao :=
 h.mono (fun k hk hl=>x.block k hl (by rw[hk];exact hi)) x.size (fun k hk hl=>(x.lab k hl).trans hk)
theorem infoEw:(Tryd.prog.info? 54).map (fun i=>(i.zero,i.size,i.bytes))=some (some (.int .u64 0),1,8):=by kernel_rfl
theorem infoEi:(Tryd.prog.info? 3).map (fun i=>(i.zero,i.size,i.bytes))=some (some (.int .i64 0),1,8):=by kernel_rfl
theorem infoEs:(Tryd.prog.info? 9).map (fun i=>(i.zero,i.size,i.bytes))=some (some (.string ⟨#[]⟩),1,16):=by kernel_rfl
theorem one1E (v:Value)(h:v.oneCell'=true):∀ u ∈ [v],u.oneCell'=true:=by
 intro u hu;simp at hu;subst hu;exact h
theorem noF:∀ k,I17 k->¬(fun _:Nat=>False) k:=fun _ _=>id
def insV (x:Wo):List Value:=[.int .i64 (x.op:Nat),.int .i64 (x.a:Nat),.int .i64 (x.b:Nat)]
def insL:List Wo->List Value
 | []=>[]
 | x::r=>insV x++insL r
theorem insL_app:∀ l m:List Wo,insL (l++m)=insL l++insL m
 | [],m=>rfl
 | x::l,m=>by rw[List.cons_append,insL,insL_app l m,insL,List.append_assoc]
theorem insL_at:∀ (l:List Wo) (i j:Nat) (x:Wo),l[i]?=some x->j<3->(insL l)[i*3+j]?=(insV x)[j]?
 | [],i,j,x,h,_=>by simp at h
 | y::l,0,j,x,h,hj=>by
  simp at h;subst h;rw[insL,List.getElem?_append_left (by simp[insV];omega)]
  congr 1
  omega
 | y::l,i+1,j,x,h,hj=>by
  have h':l[i]?=some x:=by simpa using h
  rw[insL,List.getElem?_append_right (by simp[insV];omega),<-insL_at l i j x h' hj]
  congr 1
  simp[insV];omega
structure DW (w:World)(o:Nat->Nat)(rb:Nat)(p0 p1 p2 p3 p4:Value)(s:Dp):Prop where
 wl:s.ws.length<=32768
 mem:∃vc vn vk vw,Blk w o 1 rb (.cells #[p0,p1,p2,p3,p4,vc,vn,vk,vw,.int .i64 s.h,.int .i64 s.top,.bool s.lg] 52) /\
  Row w o 2 57 3 vw s.ws.length (insL s.ws)/\Row w o 3 3 1 vc s.cs.length (eiV s.cs)/\Row w o 4 9 1 vn s.ns.length (esV s.ns)/\Row w o 5 3 1 vk s.ks.length (eiV s.ks)
theorem DW.step {I:Nat->Prop}{w w':World}{o o':Nat->Nat}{rb:Nat}{p0 p1 p2 p3 p4:Value}{s:Dp}(h:DW w o rb p0 p1 p2 p3 p4 s)(x:Step I w o w' o')(hi:∀ k,I17 k->¬I k):DW w' o' rb p0 p1 p2 p3 p4 s:=by
 obtain⟨a,vc,vn,vk,vw,q0,q1,q2,q3,q4⟩:=h;exact⟨a,vc,vn,vk,vw,q0.step x (hi 1 (by decide)),q1.step x (hi 2 (by decide)),q2.step x (hi 3 (by decide)),q3.step x (hi 4 (by decide)),q4.step x (hi 5 (by decide))⟩
theorem cells12 {w:World}{b:Nat}{x0 x1 x2 x3 x4 x5 x6 x7 x8 x9 xa xb:Value}{t:TypeId}(h:w.heap[b]?=some (.cells #[x0,x1,x2,x3,x4,x5,x6,x7,x8,x9,xa,xb] t (0,0))):(w.cell? ⟨b,4,none⟩=some x4/\w.cell? ⟨b,5,none⟩=some x5/\w.cell? ⟨b,6,none⟩=some x6/\w.cell? ⟨b,7,none⟩=some x7/\w.cell? ⟨b,8,none⟩=some x8/\w.cell? ⟨b,9,none⟩=some x9/\w.cell? ⟨b,10,none⟩=some xa/\w.cell? ⟨b,11,none⟩=some xb)/\∀ j,w.frozen? ⟨b,j,none⟩=false:=by
 refine⟨⟨?_,?_,?_,?_,?_,?_,?_,?_⟩,fun j=>frozen_of_row w b j _ t h⟩<;>(rw[cell_of_row w b _ _ t (0,0) h];rfl)
def PosD (w:World)(o:Nat->Nat)(rb:Nat)(p0 p1 p2 p3 p4:Value)(s:Dp)(v:Value)(e:Ending)(w':World):Prop:=e=.returned v/\∃o',DW w' o' rb p0 p1 p2 p3 p4 s/\Step I17 w o w' o'
theorem infoIns:(Tryd.prog.info? 57).map (fun i=>(i.zero,i.size,i.bytes))=some (some (.agg #[.int .i64 0,.int .i64 0,.int .i64 0]),3,24):=by kernel_rfl
theorem puts_c (w:World)(o:Nat->Nat)(rb:Nat)(p0 p1 p2 p3 p4:Value)(s:Dp)(op a b:Nat)(hM:DW w o rb p0 p1 p2 p3 p4 s) :
  Calls Tryd.prog 15 #[.pointer (some ⟨rb,0,none⟩),.int .i64 (op:Nat),.int .i64 (a:Nat),.int .i64 (b:Nat)] w (PosD w o rb p0 p1 p2 p3 p4 (s.puts op a b) (.int .i64 (s.at1:Nat))):=by
 obtain⟨wl,vc,vn,vk,vw,q0,q1,q2,q3,q4⟩:=hM;obtain⟨⟨c4,c5,c6,c7,c8,c9,c10,c11⟩,cf⟩:=cells12 q0.1;obtain⟨aw,cw,rfl⟩:=q1.form;by_cases hl:32768<=s.ws.length
 ·have e1:s.puts op a b={ s with lg:=true }:=by unfold Dp.puts;rw[if_pos hl]
  have e2:s.at1=0:=by unfold Dp.at1;rw[if_pos hl]
  rw[e1,e2];have hlI:(32768:Int)<=(s.ws.length:Int):=by omega
  have f11:=cf 11;have T:Step (fun k=>k=1) w o (w.setCell ⟨rb,11,none⟩ (.bool true)) o:=(Step.refl _ w o).setCell ⟨rb,11,none⟩ _ q0.2;have HZ:Hid (DW (w.setCell ⟨rb,11,none⟩ (.bool true)) o rb p0 p1 p2 p3 p4 { s with lg:=true }/\Step I17 w o (w.setCell ⟨rb,11,none⟩ (.bool true)) o) :=
   ⟨⟨wl,vc,vn,vk,_,q0.set 11 (.bool true),q1.step T (by decide),q2.step T (by decide),q3.step T (by decide),q4.step T (by decide)⟩,T.mono (I17_of (by decide))⟩
  clear q0 q1 q2 q3 q4 T e1 e2 cf hl;go_enter Tryd.func15,Tryd.ntmps15;go_wp2;go_ret;exact⟨rfl,o,HZ.out⟩
 ·have e1:s.puts op a b={ s with ws:=s.ws++[⟨op,a,b⟩] }:=by unfold Dp.puts;rw[if_neg hl]
  have e2:s.at1=s.ws.length:=by unfold Dp.at1;rw[if_neg hl]
  rw[e1,e2];have hlI:¬(32768:Int)<=(s.ws.length:Int):=by omega
  obtain⟨ii,i1,i2,i3,i4⟩:=info_parts infoIns;have HL:=Lib.hid hl;have q0h:=Lib.hid q0;have q2h:=Lib.hid q2;have q3h:=Lib.hid q3;have q4h:=Lib.hid q4;clear q0 q2 q3 q4 e1 e2 hl;go_enter Tryd.func15,Tryd.ntmps15;go_wp2_with (first|(at_builtin;refine wpList_append_lab rfl _ _ 50 rfl 57 ii (.agg #[.int .i64 0,.int .i64 0,.int .i64 0]) 3 24 Tryd.underlying50 i1 i2 i3 i4 rfl (by decide) o 2 _ s.ws.length (insL s.ws) rfl (q1.step (Step.ofBelow (I:=fun _=>False) o (b1 _ _)) id) ⟨w.heap.size,0,none⟩ 1 1 [.int .i64 (op:Nat),.int .i64 (a:Nat),.int .i64 (b:Nat)] rfl rfl ?hn1 ?hn2 (by decide) ?hn4 ?hn5 ?_)|go_in)
  case hn2=>exact⟨rfl,rfl,rfl⟩
  case hn4=>have:=HL.out;unfold maxLen;omega
  case hn5=>have:=HL.out;omega
  intro g2 cap2 w2 o2 R2 S2;have S1:∀ {I:Nat->Prop},Step I w o (w.alloc (.cells #[.int .i64 (op:Nat),.int .i64 (a:Nat),.int .i64 (b:Nat)] 57)) o:=fun {I}=>Step.ofBelow (I:=I) o (b1 _ _);have S12:=(S1 (I:=fun k=>k=2)).trans S2;have k0:=q0h.out.step S12 (by decide);have T:Step (fun k=>k=1) w2 o2 (w2.setCell ⟨rb,8,none⟩ (.slice (some ⟨g2,0,none⟩) (s.ws.length+1) cap2)) o2:=(Step.refl _ w2 o2).setCell ⟨rb,8,none⟩ _ k0.2;have R3:=R2.step T (by decide);have hll:(s.ws++[(⟨op,a,b⟩:Wo)]).length=s.ws.length+1:=by simp
  have HZ:Hid (DW (w2.setCell ⟨rb,8,none⟩ (.slice (some ⟨g2,0,none⟩) (s.ws.length+1) cap2)) o2 rb p0 p1 p2 p3 p4 { s with ws:=s.ws++[⟨op,a,b⟩] }/\Step I17 w o (w2.setCell ⟨rb,8,none⟩ (.slice (some ⟨g2,0,none⟩) (s.ws.length+1) cap2)) o2):=by
   have hl:=HL.out;refine⟨⟨by simp only[hll];omega,vc,vn,vk,_,k0.set 8 _,?_,(q2h.out.step S12 (by decide)).step T (by decide),(q3h.out.step S12 (by decide)).step T (by decide),(q4h.out.step S12 (by decide)).step T (by decide)⟩,(S12.mono (I17_of (by decide))).trans (T.mono (I17_of (by decide)))⟩;simp only[hll,insL_app];exact R3
  obtain⟨⟨d4,d5,d6,d7,d8,d9,d10,d11⟩,df⟩:=cells12 k0.1;have f8:=df 8;have hz:DW (w2.setCell ⟨rb,8,none⟩ (.slice (some ⟨g2,0,none⟩) (s.ws.length+1) cap2)) o2 rb p0 p1 p2 p3 p4 { s with ws:=s.ws++[⟨op,a,b⟩] }:=HZ.out.1;have hc8:=k0.set 8 (.slice (some ⟨g2,0,none⟩) (s.ws.length+1) cap2);obtain⟨⟨-,-,-,-,m8,-,-,-⟩,-⟩:=cells12 hc8.1;have hsub:((s.ws.length+1:Nat):Int)-1=(s.ws.length:Int):=by omega
  clear q0h q2h q3h q4h S1 S12 S2 k0 T R3 R2 q1 hz hc8 hll df cf d4 d5 d6 d7 d9 d10 d11;go_wp2;go_ret;exact⟨by first|rfl|(simp;done)|(congr 1;simp),o2,HZ.out⟩
theorem modify_at {l:List Wo}{i:Nat}(h:i<l.length)(f:Wo->Wo):l.modify i f=l.set i (f (l[i])):=by
 apply List.ext_getElem?;intro j;rw[List.getElem?_modify,List.getElem?_set];by_cases e:i=j
 ·subst e;simp[h]
 ·simp[e]
theorem grows_c (w:World)(o:Nat->Nat)(rb:Nat)(p0 p1 p2 p3 p4:Value)(s:Dp)(n:Int)(m:Nat)(hz:s.sz m)(hm:m<=1000000000)(hn:-1000000000<=n/\n<=1000000000)(hM:DW w o rb p0 p1 p2 p3 p4 s) :
  Calls Tryd.prog 26 #[.pointer (some ⟨rb,0,none⟩),.int .i64 n] w (PosD w o rb p0 p1 p2 p3 p4 (s.grows n) (.tuple #[])):=by
 obtain⟨wl,vc,vn,vk,vw,q0,q1,q2,q3,q4⟩:=hM;obtain⟨-,-,z1,z2,z3,z4⟩:=hz;obtain⟨x,hx⟩:∃x,x=s.h+n:=⟨_,rfl⟩
 obtain⟨T,hT⟩:∃T,T=max s.top x:=⟨_,rfl⟩
 have e1:s.grows n={ s with h:=x,top:=T,lg:=s.lg||decide (1024<T) }:=by rw[hT,hx];rfl
 rw[e1];have HMX:Hid ((if s.top<x then x else s.top)=T):=by show _=_;rw[hT];split<;>omega
 have HMY:Hid (max s.top x=T):=hT.symm;have HMZ:Hid (s.h+n=x):=hx.symm;have d1:∀ wx:World,Step (fun _=>False) wx o wx.drew o:=fun wx=>(Step.refl _ wx o).drew;have T1:Step (fun k=>k=1) w o (w.setCell ⟨rb,9,none⟩ (.int .i64 x)) o:=(Step.refl _ w o).setCell _ _ q0.2;have T2:=(T1.setCell ⟨rb,10,none⟩ (.int .i64 T) q0.2).drew;have r0:=q0.set 9 (.int .i64 x);have r1:=(r0.set 10 (.int .i64 T)).step (d1 _) id;obtain⟨⟨c4,c5,c6,c7,c8,c9,c10,c11⟩,cf⟩:=cells12 q0.1;obtain⟨⟨k4,k5,k6,k7,k8,k9,k10,k11⟩,kf⟩:=cells12 r0.1;obtain⟨⟨t4,t5,t6,t7,t8,t9,t10,t11⟩,tf⟩:=cells12 r1.1;have cf9:=cf 9;have kf10:=kf 10;have tf11:=tf 11;have HF0:Hid (¬1024<T->DW ((w.setCell ⟨rb,9,none⟩ (.int .i64 x)).setCell ⟨rb,10,none⟩ (.int .i64 T)).drew o rb p0 p1 p2 p3 p4 { s with h:=x,top:=T,lg:=s.lg||decide (1024<T) }):=fun hb=>by
  refine⟨wl,vc,vn,vk,vw,?_,q1.step T2 (by decide),q2.step T2 (by decide),q3.step T2 (by decide),q4.step T2 (by decide)⟩;simp only[decide_eq_false hb,Bool.or_false];exact r1
 have T3:=T2.setCell ⟨rb,11,none⟩ (.bool true) q0.2;have HF1:Hid (1024<T->DW (((w.setCell ⟨rb,9,none⟩ (.int .i64 x)).setCell ⟨rb,10,none⟩ (.int .i64 T)).drew.setCell ⟨rb,11,none⟩ (.bool true)) o rb p0 p1 p2 p3 p4 { s with h:=x,top:=T,lg:=s.lg||decide (1024<T) }):=fun hb=>by
  refine⟨wl,vc,vn,vk,vw,?_,q1.step T3 (by decide),q2.step T3 (by decide),q3.step T3 (by decide),q4.step T3 (by decide)⟩;simp only[decide_eq_true hb,Bool.or_true];exact r1.set 11 _
 have HT:=Lib.hid (And.intro (T2.mono (I17_of (by decide))) (T3.mono (I17_of (by decide))));clear hT hx e1 T1 T2 T3 r0 r1 q0 q1 q2 q3 q4 d1 cf kf tf k4 k5 k6 k7 k8 k11 t4 t5 t6 t7 t8 t9 c4 c5 c6 c7 c8 c10;go_enter Tryd.func26,Tryd.ntmps26;go_upto_region 1 with fail;rw[HMZ.out];generalize w.setCell ⟨rb,9,none⟩ (.int .i64 x)=wA at *;go_region
 all_goals
  first|rw[HMX.out] | rw[HMY.out]
  generalize (wA.setCell ⟨rb,10,none⟩ (.int .i64 T)).drew=wB at *;by_cases hb:1024<T
  ·have F:=HF1.out hb;have G:=HT.out.2;clear HF0 HF1 HT HMX HMY HMZ;go_wp2
   go_end0
   exact⟨rfl,o,F,G⟩
  ·have F:=HF0.out hb;have G:=HT.out.1;clear HF0 HF1 HT HMX HMY HMZ;go_wp2
   go_end0
   exact⟨rfl,o,F,G⟩
theorem k_c (w:World)(o:Nat->Nat)(rb:Nat)(p0 p1 p2 p3 p4:Value)(s:Dp)(n:Int)(hl:s.cs.length<=100000000)(hM:DW w o rb p0 p1 p2 p3 p4 s) :
  Calls Tryd.prog 25 #[.pointer (some ⟨rb,0,none⟩),.int .i64 n] w (PosD w o rb p0 p1 p2 p3 p4 (s.kI n) (.int .i64 (s.cs.idxOf n:Nat))):=by
 have hM':=hM;obtain⟨wl,vc,vn,vk,vw,q0,q1,q2,q3,q4⟩:=hM;obtain⟨⟨c4,c5,c6,c7,c8,c9,c10,c11⟩,cf⟩:=cells12 q0.1;obtain⟨ii,i1,i2,i3,i4⟩:=info_parts infoEi;obtain⟨ao,cap,rfl⟩:=q2.form;have HC:Hid (∀ j,j<s.cs.length->∃g,ao=some ⟨g,0,none⟩/\w.cell? ⟨g,j,none⟩=some (.int .i64 (s.cs.getD j 0))):=fun j hj=>by
  obtain⟨g,cap',e,-,-,-,-,hc,-⟩:=q2.pos (by omega);injection e with e1 e2 e3
  refine⟨g,e1,?_⟩;rw[hc j (by omega)];simp[eiV,hj,List.getD_eq_getElem?_getD]
 have q1h:=Lib.hid q1;have q3h:=Lib.hid q3;have q4h:=Lib.hid q4;have q0h:=Lib.hid q0;have HM:=Lib.hid hM';clear q0 q1 q3 q4 hM' c4 c6 c7 c8 c9 c10 c11 cf;go_enter Tryd.func25,Tryd.ntmps25;go_wp2_with fail;go_loopw [5] (fun v wr=>∃i:Nat,v=.int .i64 (i:Nat)/\i<=s.cs.length/\Hid (n ∉ s.cs.take i)/\wr=w) (fun v _=>s.cs.length-(intOf v).toNat)
 case atStart=>exact⟨0,by go_num,by omega,by show _ ∉ _;simp,rfl⟩
 case round =>
  obtain⟨i,rfl,hi,HN,rfl⟩:=hrel;by_cases hlt:i<s.cs.length
  ·have hkI:(i:Int)<(s.cs.length:Int):=by omega
   obtain⟨g,rfl,cg⟩:=HC.out i hlt;have hget:s.cs.getD i 0=s.cs[i]:=by simp[List.getD_eq_getElem?_getD,hlt]
   by_cases he:s.cs.getD i 0=n
   ·have hin:n ∈ s.cs:=by rw[<-he,hget];exact List.getElem_mem hlt
    have hix:s.cs.idxOf n=i:=by
     have h1:s.cs=s.cs.take i++s.cs.drop i:=(List.take_append_drop i s.cs).symm;rw[h1,List.idxOf_append,if_neg HN.out,List.drop_eq_getElem_cons hlt,<-hget,he];simp;omega
    have e1:s.kI n=s:=by unfold Dp.kI;rw[if_pos hin]
    rw[e1,hix];rw[he] at cg;clear HC q0h q1h q3h q4h he hget hin hix e1 q2 HN;go_wp2;go_ret;exact⟨rfl,o,HM.out,Step.refl _ _ _⟩
   ·have HN2:Hid (n ∉ s.cs.take (i+1)):=by
     show _ ∉ _;rw[List.take_succ_eq_append_getElem hlt];intro hm;rcases List.mem_append.1 hm with hm|hm
     ·exact HN.out hm
     ·simp at hm;exact he (by rw[hget,hm])
    generalize s.cs.getD i 0=y at *;clear HC q0h q1h q3h q4h hget q2 HN;go_wp2;go_roundw
    case rel=>(try ((repeat apply Exists.intro);refine⟨?_,rfl⟩));exact⟨i+1,by go_num,by omega,HN2,by trivial⟩
    case measure=>simp[intOf];omega
  ·have hkI:¬(i:Int)<(s.cs.length:Int):=by omega
   obtain rfl:i=s.cs.length:=by omega
   have hin:n ∉ s.cs:=by have:=HN.out;rwa [List.take_length] at this
   have HX:Hid (s.kI n={ s with cs:=s.cs++[n] }/\s.cs.idxOf n=s.cs.length):=⟨by unfold Dp.kI;rw[if_neg hin],idx_none hin⟩
   have hn1:s.cs.length+1<=maxLen:=by unfold maxLen;omega
   have hn2:(s.cs.length+1)*8<=140737488355328:=by omega
   have pr:=q2.step (Step.ofBelow (I:=fun _=>False) o (b1 wr (.cells #[.int .i64 n] 3))) id;clear HC HN hin;go_wp2_with (first|(at_builtin;refine wpList_append_lab rfl _ _ 25 rfl 3 ii (.int .i64 0) 1 8 Tryd.underlying25 i1 i2 i3 i4 rfl (by decide) o 3 (.slice ao s.cs.length cap) s.cs.length (eiV s.cs) rfl pr ⟨wr.heap.size,0,none⟩ 1 1 [.int .i64 n] rfl rfl (new_one _ _ _) (one1E _ rfl) (by decide) hn1 hn2 ?_)|go_in);intro g1 cp w2 o2 R2 S2;have s2:Step (fun k=>k=3) wr o w2 o2:=(Step.ofBelow o (b1 wr _)).trans S2;have r0:=q0h.out.step s2 (by decide);obtain⟨⟨d4,d5,d6,d7,d8,d9,d10,d11⟩,df⟩:=cells12 r0.1;have df5:=df 5;have s3:Step (fun k=>k=1) w2 o2 (w2.setCell ⟨rb,5,none⟩ (.slice (some ⟨g1,0,none⟩) (s.cs.length+1) cp)) o2:=setStep _ w2 o2 ⟨rb,5,none⟩ _ r0.2;have HF:Hid (DW (w2.setCell ⟨rb,5,none⟩ (.slice (some ⟨g1,0,none⟩) (s.cs.length+1) cp)) o2 rb p0 p1 p2 p3 p4 (s.kI n)/\Step I17 wr o (w2.setCell ⟨rb,5,none⟩ (.slice (some ⟨g1,0,none⟩) (s.cs.length+1) cp)) o2):=by
    rw[HX.out.1];refine⟨⟨wl,_,vn,vk,vw,r0.set 5 _,(q1h.out.step s2 (by decide)).step s3 (by decide),?_,(q3h.out.step s2 (by decide)).step s3 (by decide),(q4h.out.step s2 (by decide)).step s3 (by decide)⟩,(s2.mono (I17_of (by decide))).trans (s3.mono (I17_of (by decide)))⟩
    have:=R2.step s3 (by decide)
    have e:(s.cs++[n]).length=s.cs.length+1:=by simp
    have e2:eiV (s.cs++[n])=eiV s.cs++[.int .i64 n]:=by simp[eiV]
    simp only[e,e2];exact this
   have rz:=r0.set 5 (.slice (some ⟨g1,0,none⟩) (s.cs.length+1) cp);obtain⟨⟨-,m5,-,-,-,-,-,-⟩,-⟩:=cells12 rz.1;have HI:Hid (s.cs.idxOf n=s.cs.length):=HX.out.2;have hsub:((s.cs.length+1:Nat):Int)-1=(s.cs.length:Int):=by omega
   clear s2 s3 R2 S2 pr r0 rz q0h q1h q3h q4h q2 HX d4 d6 d7 d8 d9 d10 d11 df HM;go_wp2;go_ret;exact⟨by rw[HI.out];first|rfl|(simp;done)|(congr 1;simp),o2,HF.out⟩
theorem s_c (w:World)(o:Nat->Nat)(rb:Nat)(p0 p1 p2 p3 p4:Value)(s:Dp)(n:List UInt8)(hk:n.length<=maxLen)(hl:s.ns.length<=100000000)(hM:DW w o rb p0 p1 p2 p3 p4 s) :
  Calls Tryd.prog 71 #[.pointer (some ⟨rb,0,none⟩),stv n] w (PosD w o rb p0 p1 p2 p3 p4 (s.kN n) (.int .i64 (s.ns.idxOf n:Nat))):=by
 have hM':=hM;obtain⟨wl,vc,vn,vk,vw,q0,q1,q2,q3,q4⟩:=hM;obtain⟨⟨c4,c5,c6,c7,c8,c9,c10,c11⟩,cf⟩:=cells12 q0.1;obtain⟨ii,i1,i2,i3,i4⟩:=info_parts infoEs;obtain⟨ao,cap,rfl⟩:=q3.form;have HC:Hid (∀ j,j<s.ns.length->∃g,ao=some ⟨g,0,none⟩/\w.cell? ⟨g,j,none⟩=some (stv (s.ns.getD j []))):=fun j hj=>by
  obtain⟨g,cap',e,-,-,-,-,hc,-⟩:=q3.pos (by omega);injection e with e1 e2 e3
  refine⟨g,e1,?_⟩;rw[hc j (by omega)];simp[esV,hj,List.getD_eq_getElem?_getD]
 have q1h:=Lib.hid q1;have q2h:=Lib.hid q2;have q4h:=Lib.hid q4;have q0h:=Lib.hid q0;have HM:=Lib.hid hM';clear q0 q1 q2 q4 hM' c4 c5 c7 c8 c9 c10 c11 cf;go_enter Tryd.func71,Tryd.ntmps71;go_wp2_with fail;go_loopw [5] (fun v wr=>∃i:Nat,v=.int .i64 (i:Nat)/\i<=s.ns.length/\Hid (n ∉ s.ns.take i)/\wr=w) (fun v _=>s.ns.length-(intOf v).toNat)
 case atStart=>exact⟨0,by go_num,by omega,by show _ ∉ _;simp,rfl⟩
 case round =>
  obtain⟨i,rfl,hi,HN,rfl⟩:=hrel;by_cases hlt:i<s.ns.length
  ·have hkI:(i:Int)<(s.ns.length:Int):=by omega
   obtain⟨g,rfl,cg⟩:=HC.out i hlt;have hget:s.ns.getD i []=s.ns[i]:=by simp[List.getD_eq_getElem?_getD,hlt]
   by_cases he:s.ns.getD i []=n
   ·have hin:n ∈ s.ns:=by rw[<-he,hget];exact List.getElem_mem hlt
    have hix:s.ns.idxOf n=i:=by
     have h1:s.ns=s.ns.take i++s.ns.drop i:=(List.take_append_drop i s.ns).symm;rw[h1,List.idxOf_append,if_neg HN.out,List.drop_eq_getElem_cons hlt,<-hget,he];simp;omega
    have e1:s.kN n=s:=by unfold Dp.kN;rw[if_pos hin]
    rw[e1,hix];rw[he] at cg;clear HC q0h q1h q2h q4h he hget hin hix e1 q3 HN;go_wp2;go_ret;exact⟨rfl,o,HM.out,Step.refl _ _ _⟩
   ·have HN2:Hid (n ∉ s.ns.take (i+1)):=by
     show _ ∉ _;rw[List.take_succ_eq_append_getElem hlt];intro hm;rcases List.mem_append.1 hm with hm|hm
     ·exact HN.out hm
     ·simp at hm;exact he (by rw[hget,hm])
    generalize s.ns.getD i []=y at *;have hyn2:(y==n)=false:=by simpa using he
    clear HC q0h q1h q2h q4h hget q3 HN;go_wp2;go_roundw
    case rel=>(try ((repeat apply Exists.intro);refine⟨?_,rfl⟩));exact⟨i+1,by go_num,by omega,HN2,by trivial⟩
    case measure=>simp[intOf];omega
  ·have hkI:¬(i:Int)<(s.ns.length:Int):=by omega
   obtain rfl:i=s.ns.length:=by omega
   have hin:n ∉ s.ns:=by have:=HN.out;rwa [List.take_length] at this
   have HX:Hid (s.kN n={ s with ns:=s.ns++[n] }/\s.ns.idxOf n=s.ns.length):=⟨by unfold Dp.kN;rw[if_neg hin],idx_none hin⟩
   have hn1:s.ns.length+1<=maxLen:=by unfold maxLen;omega
   have hn2:(s.ns.length+1)*16<=140737488355328:=by omega
   have pr:=q3.step (Step.ofBelow (I:=fun _=>False) o (b1 wr (.cells #[stv n] 9))) id;clear HC HN hin;go_wp2_with (first|(at_builtin;refine wpList_append_lab rfl _ _ 31 rfl 9 ii (.string ⟨#[]⟩) 1 16 Tryd.underlying31 i1 i2 i3 i4 rfl (by decide) o 4 (.slice ao s.ns.length cap) s.ns.length (esV s.ns) rfl pr ⟨wr.heap.size,0,none⟩ 1 1 [stv n] rfl rfl (new_one _ _ _) (one1E _ rfl) (by decide) hn1 hn2 ?_)|go_in);intro g1 cp w2 o2 R2 S2;have s2:Step (fun k=>k=4) wr o w2 o2:=(Step.ofBelow o (b1 wr _)).trans S2;have r0:=q0h.out.step s2 (by decide);obtain⟨⟨d4,d5,d6,d7,d8,d9,d10,d11⟩,df⟩:=cells12 r0.1;have df5:=df 6;have s3:Step (fun k=>k=1) w2 o2 (w2.setCell ⟨rb,6,none⟩ (.slice (some ⟨g1,0,none⟩) (s.ns.length+1) cp)) o2:=setStep _ w2 o2 ⟨rb,6,none⟩ _ r0.2;have HF:Hid (DW (w2.setCell ⟨rb,6,none⟩ (.slice (some ⟨g1,0,none⟩) (s.ns.length+1) cp)) o2 rb p0 p1 p2 p3 p4 (s.kN n)/\Step I17 wr o (w2.setCell ⟨rb,6,none⟩ (.slice (some ⟨g1,0,none⟩) (s.ns.length+1) cp)) o2):=by
    rw[HX.out.1];refine⟨⟨wl,vc,_,vk,vw,r0.set 6 _,(q1h.out.step s2 (by decide)).step s3 (by decide),(q2h.out.step s2 (by decide)).step s3 (by decide),?_,(q4h.out.step s2 (by decide)).step s3 (by decide)⟩,(s2.mono (I17_of (by decide))).trans (s3.mono (I17_of (by decide)))⟩
    have:=R2.step s3 (by decide)
    have e:(s.ns++[n]).length=s.ns.length+1:=by simp
    have e2:esV (s.ns++[n])=esV s.ns++[stv n]:=by simp[esV]
    simp only[e,e2];exact this
   have rz:=r0.set 6 (.slice (some ⟨g1,0,none⟩) (s.ns.length+1) cp);obtain⟨⟨-,-,m6,-,-,-,-,-⟩,-⟩:=cells12 rz.1;have HI:Hid (s.ns.idxOf n=s.ns.length):=HX.out.2;have hsub:((s.ns.length+1:Nat):Int)-1=(s.ns.length:Int):=by omega
   clear s2 s3 R2 S2 pr r0 rz q0h q1h q2h q4h q3 HX d4 d5 d7 d8 d9 d10 d11 df HM;go_wp2;go_ret;exact⟨by rw[HI.out];first|rfl|(simp;done)|(congr 1;simp),o2,HF.out⟩
theorem value_c (w:World)(o:Nat->Nat)(rb:Nat)(p0 p1 p2 p3 p4:Value)(s:Dp)(n:Int)(kd m:Nat)(hz:s.sz m)(hm:m+2<=100000000)(hM:DW w o rb p0 p1 p2 p3 p4 s) :
  Calls Tryd.prog 24 #[.pointer (some ⟨rb,0,none⟩),.int .i64 n,.int .i64 (kd:Nat)] w (PosD w o rb p0 p1 p2 p3 p4 (s.val n kd) (.tuple #[])):=by
 have H1:=k_c w o rb p0 p1 p2 p3 p4 s n (by have:=hz.c;omega) hM;have hz2:=(dle_puts (s.kI n) 1 (s.cs.idxOf n) kd).sz _ ((dle_kI s n).sz m hz);clear hM;go_enter Tryd.func24,Tryd.ntmps24;go_wp2_with (first|(go_at_call 25;refine H1.mono ?_;rintro e w2 ⟨rfl,o2,E2,S2⟩;have H2:=puts_c w2 o2 rb p0 p1 p2 p3 p4 (s.kI n) 1 (s.cs.idxOf n) kd E2)|(go_at_call 15;refine H2.mono ?_;rintro e w3 ⟨rfl,o3,E3,S3⟩;have H3:=grows_c w3 o3 rb p0 p1 p2 p3 p4 _ 1 _ hz2 (by omega) (by omega) E3)|(go_at_call 26;refine H3.mono ?_;rintro e w4 ⟨rfl,o4,E4,S4⟩))
 go_end0
 exact⟨rfl,o4,E4,(S2.trans S3).trans S4⟩
theorem insL_set:∀ {l:List Wo}{i j:Nat}{x:Wo}{u:Value} (hi:i<l.length),(j=1\/j=2)->(insV l[i]).set j u=insV x->(insL l).set (i*3+j) u=insL (l.set i x)
 | y::l,0,j,x,u,_,hj,h=>by
  have h':(insV y).set j u=insV x:=h;simp only[insL,List.set_cons_zero,Nat.zero_mul,Nat.zero_add];rw[List.set_append_left _ _ (by simp[insV];omega),h']
 | y::l,i+1,j,x,u,hi,hj,h=>by
  have hi':i<l.length:=by simpa using hi
  have h':(insV l[i]).set j u=insV x:=h;simp only[insL,List.set_cons_succ];rw[List.set_append_right _ _ (by simp[insV];omega),<-insL_set hi' hj h']
  congr 2
  simp[insV];omega
theorem lands_c (w:World)(o:Nat->Nat)(rb:Nat)(p0 p1 p2 p3 p4:Value)(s:Dp)(i:Nat)(hi:s.lg=false->i<s.ws.length)(hM:DW w o rb p0 p1 p2 p3 p4 s) :
  Calls Tryd.prog 49 #[.pointer (some ⟨rb,0,none⟩),.int .i64 (i:Nat)] w (PosD w o rb p0 p1 p2 p3 p4 (s.lands i) (.tuple #[])):=by
 have hM':=hM;obtain⟨wl,vc,vn,vk,vw,q0,q1,q2,q3,q4⟩:=hM;obtain⟨⟨c4,c5,c6,c7,c8,c9,c10,c11⟩,cf⟩:=cells12 q0.1;by_cases hlg:s.lg=true
 ·have e1:s.lands i=s:=by unfold Dp.lands;rw[if_pos hlg]
  rw[e1];rw[hlg] at c11;have HM:=Lib.hid hM';clear q0 q1 q2 q3 q4 hM' e1 hi;go_enter Tryd.func49,Tryd.ntmps49;go_wp2
  go_end0
  exact⟨rfl,o,HM.out,Step.refl _ _ _⟩
 ·have hlf:s.lg=false:=by simpa using hlg
  have hil:=hi hlf;have e1:s.lands i={ s with ws:=s.ws.set i ((s.ws[i]).to s.ws.length) }:=by unfold Dp.lands;rw[if_neg hlg,modify_at hil]
  rw[e1];rw[hlf] at c11;obtain⟨g,cap,rfl,og,-,-,hgl,hc,hf⟩:=q1.pos (by omega);have hat:∀ j,j<3->w.cell? ⟨g,i*3+j,none⟩=(insV s.ws[i])[j]?:=fun j hj=>by
   rw[hc (i*3+j) (by omega),insL_at s.ws i j s.ws[i] (List.getElem?_eq_getElem hil) hj]
  have f1:=hf (i*3+1);have f2:=hf (i*3+2);have d1:∀ wx:World,Step (fun _=>False) wx o wx.drew o:=fun wx=>(Step.refl _ wx o).drew;have HS:Hid (∀ j,j=1\/j=2->(insV s.ws[i]).set j (.int .i64 (s.ws.length:Nat))=insV ((s.ws[i]).to s.ws.length)->DW (w.setCell ⟨g,i*3+j,none⟩ (.int .i64 (s.ws.length:Nat))).drew o rb p0 p1 p2 p3 p4 { s with ws:=s.ws.set i ((s.ws[i]).to s.ws.length) }/\Step I17 w o (w.setCell ⟨g,i*3+j,none⟩ (.int .i64 (s.ws.length:Nat))).drew o):=fun j hj he=>by
   have T:Step (fun k=>k=2) w o (w.setCell ⟨g,i*3+j,none⟩ (.int .i64 (s.ws.length:Nat))).drew o:=((Step.refl _ w o).setCell _ _ og).drew;refine⟨⟨by simp;exact wl,vc,vn,vk,_,q0.step T (by decide),?_,q2.step T (by decide),q3.step T (by decide),q4.step T (by decide)⟩,T.mono (I17_of (by decide))⟩;have r1:=(q1.store (i*3+j) (.int .i64 (s.ws.length:Nat))).step (d1 _) id;have e3:(s.ws.set i ((s.ws[i]).to s.ws.length)).length=s.ws.length:=by simp
   simp only[e3];rw[<-insL_set hil hj he];exact r1
  have hiI:(i:Int)<(s.ws.length:Int):=by omega
  obtain⟨⟨op,oa,ob⟩,hx⟩:∃x,x=s.ws[i]:=⟨_,rfl⟩
  rw[<-hx] at hat HS ⊢;have x0:w.cell? ⟨g,i*3,none⟩=some (.int .i64 (op:Nat)):=hat 0 (by omega);have x1:w.cell? ⟨g,i*3+1,none⟩=some (.int .i64 (oa:Nat)):=hat 1 (by omega);have x2:w.cell? ⟨g,i*3+2,none⟩=some (.int .i64 (ob:Nat)):=hat 2 (by omega);by_cases ho:op=17
  ·subst ho;have F:=Lib.hid (HS.out 2 (.inr rfl) rfl);clear HS q0 q1 q2 q3 q4 hM' e1 hi hc hf hat d1 hx c5 c6 c7 c9 c10 cf;go_enter Tryd.func49,Tryd.ntmps49;go_upto_region 2 with fail;go_region
   all_goals
    go_end0
    exact⟨rfl,o,F.out⟩
  ·have hop:((op:Int)==17)=false:=by simp;omega
   have hto:(⟨op,oa,ob⟩:Wo).to s.ws.length=⟨op,s.ws.length,ob⟩:=by unfold Wo.to;rw[if_neg ho]
   have F:=Lib.hid (HS.out 1 (.inl rfl) (by rw[hto];rfl));clear HS q0 q1 q2 q3 q4 hM' e1 hi hc hf hat d1 hx c5 c6 c7 c9 c10 cf hto;go_enter Tryd.func49,Tryd.ntmps49;go_upto_region 3 with fail;go_region
   all_goals
    go_end0
    exact⟨rfl,o,F.out⟩
end Go.Proofs.YtejnhibajmncaaaDoor

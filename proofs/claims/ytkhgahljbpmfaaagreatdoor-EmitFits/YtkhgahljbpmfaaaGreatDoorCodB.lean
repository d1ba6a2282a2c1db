import Derived.Test.YtkhgahljbpmfaaaGreatDoorTkX
import Derived.Lib.Hide
set_option maxRecDepth 100000
set_option maxHeartbeats 8000000
namespace Go.Proofs.YtkhgahljbpmfaaaGreatDoor
set_option linter.unusedVariables false
set_option linter.unusedSimpArgs false
theorem opN_M {s:Em}{i:Nat}{x:Wo}(hx:s.ws[i]?=some x)(ho:x.ok):opN (cdM s) i=x.op/\aN (cdM s) i=x.a/\bN (cdM s) i=x.b:=by
 obtain⟨e1,e2,e3⟩:=encW_parts ho;have e:(cdM s).ws.getD i 0=encW x:=by
  show (s.ws.map encW).getD i 0=encW x;rw[List.getD_eq_getElem?_getD,List.getElem?_map,hx];rfl
 refine⟨?_,?_,?_⟩
 ·show ((cdM s).ws.getD i 0 / 72057594037927936).toNat=x.op;rw[e,e1,Int.toNat_natCast]
 ·show ((cdM s).ws.getD i 0 / 268435456 % 268435456).toNat=x.a;rw[e,e2,Int.toNat_natCast]
 ·show ((cdM s).ws.getD i 0 % 268435456).toNat=x.b;rw[e,e3,Int.toNat_natCast]
theorem sc_inv {c:Cd}{nq:Nat}{x:Wo}{i:Nat}{s:StQ}{l:List (Nat × StQ)}(h:scV c nq x i s=some l):(x.op=13/\l=[(x.a,s)]) \/
  (x.op≠13/\x.op≠0/\(20<=x.op->x.op<=23->s.2<nq)/\s.1.length<=1024/\∃t d,passF c x.op x.a x.b s=.inr t/\leadF c x.op x.a t=some d/\l=(i+1,t)::(match ledTo x.op x.a x.b with|none=>[] | some q=>[(q,d)])):=by
 unfold scV at h;by_cases e:x.op=13
 ·rw[if_pos e] at h;injection h with h
  exact .inl ⟨e,h.symm⟩
 ·rw[if_neg e] at h;by_cases e2:x.op=0\/(20<=x.op/\x.op<=23/\¬s.2<nq)\/1024<s.1.length
  ·rw[if_pos e2] at h;cases h
  ·rw[if_neg e2] at h;refine .inr ⟨e,fun h0=>e2 (.inl h0),fun a b=>?_,?_,?_⟩
   ·by_cases e3:s.2<nq
    ·exact e3
    ·exact absurd (.inr (.inl ⟨a,b,e3⟩)) e2
   ·by_cases e3:1024<s.1.length
    ·exact absurd (.inr (.inr e3)) e2
    ·omega
   ·split at h
    ·cases h
    ·rename_i t ht
     split at h
     ·cases h
     ·rename_i d hd
      injection h with h
      exact⟨t,d,ht,hd,h.symm⟩
theorem ok_A {cells:List Int}{e:Ex}(h:kindP cells e≠0)(ho:okE cells.length e)(hl:(emA cells e).ws.length<=32768)(hd:(emA cells e).dp<=1024):∀ x ∈ (emA cells e).ws,x.ok:=by
 obtain⟨hn,hns,hnm⟩:=nam_A h ho;obtain⟨hi,hw⟩:=wok_A cells e ho;obtain⟨hcl,-,-⟩:=kindP_inv h;obtain⟨n,n1,n2,hseg⟩:=tk_A h ho (Nat.le_refl _) (scV_q (cdM (emA cells e)) (nesF (one e)) hn) hd;obtain⟨-,σ,s0,sn,hst,-⟩:=hseg;have hcs:=cs_le hi;intro x hx;obtain⟨i,hxi⟩:=List.mem_iff_getElem?.1 hx;have hil:=(List.getElem?_eq_some_iff.1 hxi).1;have hj:i<n->((x.op=13\/x.op=14\/x.op=15\/x.op=24->x.a<=n)/\(x.op=17->x.b<=n)/\(x.op=23->x.a<=1024)):=fun hin=>by
  obtain⟨x',hx',l,hs,hy⟩:=hst i (Nat.zero_le _) hin;rw[hxi] at hx';injection hx' with hx'
  subst hx';have hv:=sc_inv hs;rcases hv with ⟨a,rfl⟩|⟨a1,a2,a3,a4,t,d,hp,hld,rfl⟩
  ·have:=(hy (x.a,σ i) (by simp)).elim (fun h=>h.2.1) (fun h=>h.elim)
   exact⟨fun _=>this,fun h=>by omega,fun h=>by omega⟩
  ·refine⟨fun hj=>?_,fun hj=>?_,fun h23=>?_⟩
   ·have hlt:ledTo x.op x.a x.b=some x.a:=by rcases hj with e|e|e|e<;>simp[ledTo,e]
    exact(hy (x.a,d) (by rw[hlt];simp)).elim (fun h=>h.2.1) (fun h=>h.elim)
   ·have hlt:ledTo x.op x.a x.b=some x.b:=by simp[ledTo,hj]
    exact(hy (x.b,d) (by rw[hlt];simp)).elim (fun h=>h.2.1) (fun h=>h.elim)
   ·unfold passF at hp;split at hp
    ·split at hp
     ·rename_i hdr
      have he:(effE (cdM (emA cells e)) x.op x.a x.b).1=List.replicate x.a 3:=by rw[h23];rfl
      rw[he] at hdr
      have:=congrArg List.length hdr
      simp only[List.length_drop,List.length_replicate] at this;omega
     ·cases hp
    ·cases hp
 have hq:=hw.2 x hx;have c1:=hi.wc x hx;have c2:=hi.wn x hx;by_cases hin:i<n
 ·obtain⟨j1,j2,j3⟩:=hj hin;obtain⟨o,a,b⟩:=x;unfold WokQ at hq;unfold Wo.ok;simp only at *;by_cases e1:o=1
  ·have:=c1 (.inl e1)
   rw[if_pos e1] at hq
   have:=hq.1
   omega
  by_cases e2:o=2
  ·have:=c1 (.inr e2)
   rw[if_neg e1,if_pos e2] at hq
   have:=hq.1
   omega
  rw[if_neg e1,if_neg e2] at hq;clear c1
  repeat' split at hq
  all_goals omega
 ·obtain rfl:i=n:=by omega
  rw[n2] at hxi;injection hxi with hxi
  rw[<-hxi];exact⟨by decide,by decide,by decide⟩
theorem name_sz {x:List UInt8}(h:nameB x=true):x.length<=12:=by
 unfold nameB at h;split at h
 ·cases h
 ·simp at h;simp;omega
theorem cdM_ok {cells:List Int}{e:Ex}(h:kindP cells e≠0)(ho:okE cells.length e)(hl:(emA cells e).ws.length<=32768)(hd:(emA cells e).dp<=1024):(cdM (emA cells e)).Ok:=by
 have hok:=ok_A h ho hl hd;obtain⟨hi,hw⟩:=wok_A cells e ho;refine⟨fun u hu=>?_,fun u hu=>?_,fun u hu=>?_,fun b hb=>?_⟩
 ·obtain⟨x,hx,rfl⟩:=List.mem_map.1 (show u ∈ (emA cells e).ws.map _ from hu);exact encW_bd (hok x hx)
 ·obtain⟨i,hui⟩:=List.mem_iff_getElem?.1 (show u ∈ (emA cells e).cs from hu);obtain⟨x,hx,ho2,ha⟩:=hi.uc i (List.getElem?_eq_some_iff.1 hui).1;have hq:=hw.2 x hx;unfold WokQ at hq;have hv:∃v,(emA cells e).cs[x.a]?=some v/\rgQ v:=by
   by_cases e1:x.op=1
   ·rw[if_pos e1] at hq;obtain⟨-,v,a,b,-⟩:=hq;exact⟨v,a,b⟩
   ·rw[if_neg e1,if_pos (ho2.resolve_left e1)] at hq;obtain⟨-,v,a,b,-⟩:=hq;exact⟨v,a,b⟩
  obtain⟨v,hv1,hv2⟩:=hv;rw[ha,hui] at hv1;injection hv1 with hv1
  rw[hv1];exact hv2
 ·have:=ks_A h ho u hu
  omega
 ·obtain⟨x,hx,rfl⟩:=List.mem_map.1 (show b ∈ (emA cells e).ns.map _ from hb)
  have:=name_sz ((nam_A h ho).2.2 x hx)
  show x.toArray.size<=maxLen;unfold maxLen;simp;omega
theorem tk_taken {cells:List Int}{e:Ex}(h:kindP cells e≠0)(ho:okE cells.length e)(hl:(emA cells e).ws.length<=32768)(hd:(emA cells e).dp<=1024) :
  ∃st rd,vrfA (cdM (emA cells e))=((st,rd,(kindP cells e).toNat),0,0)/\1<=st/\st<=1024/\rd<=nesF (one e):=by
 have hok:=ok_A h ho hl hd;have hc:=cdM_ok h ho hl hd;obtain⟨hn,hns,hnm⟩:=nam_A h ho;have hks:=ks_A h ho;obtain⟨hi,hw⟩:=wok_A cells e ho;obtain⟨hcl,-,-⟩:=kindP_inv h;obtain⟨n,n1,n2,hseg⟩:=tk_A h ho (Nat.le_refl _) (scV_q (cdM (emA cells e)) (nesF (one e)) hn) hd;obtain⟨-,σ,s0,sn,hst,hre⟩:=hseg;have hkp:1<=kindP cells e:=by
  have:=(kdE_bd ho).1
  rwa [(tk_E h ho (Nat.le_refl _) (scV_q (cdM (emA cells e)) (nesF (one e)) hn)).2] at this
 have hW:∀ i,i<n->∃x,(emA cells e).ws[i]?=some x/\x.ok/\∃l,scV (cdM (emA cells e)) (nesF (one e)) x i (σ i)=some l/\∀ y ∈ l,y.1<=n/\y.2=σ y.1:=fun i hi=>by
  obtain⟨x,hx,l,h1,h2⟩:=hst i (Nat.zero_le _) hi;exact⟨x,hx,hok x (List.mem_of_getElem? hx),l,h1,fun y hy=>(h2 y hy).elim (fun h=>⟨h.2.1,h.2.2⟩) (fun h=>h.elim)⟩
 have hr:rgtB (cdM (emA cells e))=true:=by
  have h23:∀ x ∈ (emA cells e).ws,x.op=23->x.a<=1024:=fun x hx h23=>by
   obtain⟨i,hi⟩:=List.mem_iff_getElem?.1 hx;have hil:=(List.getElem?_eq_some_iff.1 hi).1;by_cases hin:i<n
   ·obtain⟨x',hx',-,l,hs,-⟩:=hW i hin;rw[hi] at hx';injection hx' with hx'
    subst hx';have hv:=sc_inv hs;rcases hv with ⟨a,-⟩|⟨-,-,-,b,t,d,hp,-⟩
    ·omega
    ·unfold passF at hp;split at hp
     ·split at hp
      ·rename_i hdr
       have he:(effE (cdM (emA cells e)) x.op x.a x.b).1=List.replicate x.a 3:=by rw[h23];rfl
       rw[he] at hdr
       have:=congrArg List.length hdr
       simp only[List.length_drop,List.length_replicate] at this;omega
      ·cases hp
     ·cases hp
   ·obtain rfl:i=n:=by omega
    rw[n2] at hi;injection hi with hi
    rw[<-hi] at h23;cases h23
  have hcs:=cs_le hi;unfold rgtB lstB lenB wdsB;simp only[Bool.and_eq_true,decide_eq_true_eq,List.all_eq_true];refine⟨⟨⟨⟨⟨?_,?_⟩,?_⟩,fun b hb=>?_⟩,fun k hk=>?_⟩,⟨?_,?_⟩,fun u hu=>?_⟩
  ·show (emA cells e).cs.length<=32768;omega
  ·simpa [cdM] using hns
  ·show (emA cells e).ks.length<=256;rw[hw.1];exact hcl
  ·obtain⟨x,hx,rfl⟩:=List.mem_map.1 (show b ∈ (emA cells e).ns.map _ from hb);rw[nameB_g];exact hnm x hx
  ·have:=hks k hk
   simp[kndB];omega
  ·simp[cdM];omega
  ·simpa [cdM] using hl
  ·obtain⟨x,hx,rfl⟩:=List.mem_map.1 (show u ∈ (emA cells e).ws.map _ from hu);exact wrd_A hi hw hx (hok x hx) (h23 x hx)
 refine vrf_of (σ:=σ) (n:=n) (N:=nesF (one e)) (k:=(kindP cells e).toNat) hc hr ⟨by simpa [cdM] using n1,s0,sn,by omega,?_,fun i hi=>?_,fun Kn hk h0=>?_⟩
 ·exact(opN_M n2 (hok _ (List.mem_of_getElem? n2))).1
 ·obtain⟨x,hx,hxo,l,hs,hy⟩:=hW i hi;obtain⟨o1,o2,o3⟩:=opN_M hx hxo;have hv:=sc_inv hs;rcases hv with ⟨a,rfl⟩|⟨a1,a2,a3,a4,t,d,hp,hld,rfl⟩
  ·refine⟨by rw[o1,a];decide,fun hlen=>⟨σ i,σ i,?_,?_,fun h=>absurd (o1.trans a) h,fun q hq=>?_⟩,fun b c=>by rw[o1,a] at b;omega⟩
   ·rw[o1,a]
    have:=pass_pop (c:=cdM (emA cells e)) (o:=13) (a:=aN (cdM (emA cells e)) i) (b:=bN (cdM (emA cells e)) i) (σ i).1 [] [] (σ i).2 rfl rfl (by simpa using hlen)
    rw[List.append_nil] at this;exact this
   ·rw[o1,a];rfl
   ·rw[o1,a,o2] at hq;simp[ledTo] at hq;subst hq;exact hy (x.a,σ i) (by simp)
  ·refine⟨by rw[o1];exact a2,fun _=>⟨t,d,by rw[o1,o2,o3];exact hp,by rw[o1,o2];exact hld,fun _=>?_,fun q hq=>?_⟩,by rw[o1];exact a3⟩
   ·exact hy (i+1,t) (by simp)
   ·rw[o1,o2,o3] at hq;exact hy (q,d) (by rw[hq];simp)
 ·refine hre Kn (fun i x l y _ hi hx hs hy hki=>?_) h0;have hxo:=hok x (List.mem_of_getElem? hx);obtain⟨o1,o2,o3⟩:=opN_M hx hxo;obtain⟨k1,k2⟩:=hk i hi hki;rw[o1,o2,o3] at k2;rw[o1] at k1;have hv:=sc_inv hs;rcases hv with ⟨a,rfl⟩|⟨a1,a2,a3,a4,t,d,hp,hld,rfl⟩
  ·obtain rfl:=List.mem_singleton.1 hy;exact k2 x.a (by simp[ledTo,a])
  ·rcases List.mem_cons.1 hy with rfl|hy
   ·exact k1 a1
   ·cases hq:ledTo x.op x.a x.b with
    | none=>rw[hq] at hy;cases hy
    | some q =>
     rw[hq] at hy;obtain rfl:=List.mem_singleton.1 hy;exact k2 q hq
abbrev Wb (m:Nat)(a b:Em):Prop:=b.ws.length<=a.ws.length+m
abbrev Tw (m:Nat)(t:Tr):Prop:=∀ ar u s,Wb m s (t ar u s)
theorem ws_lay (s:Em)(op a b:Nat):(s.lay op a b).ws.length=s.ws.length+1:=by simp[Em.lay]
theorem ws_push (s:Em)(op a b u:Nat):(s.push op a b u).ws.length=s.ws.length+1:=by simp[Em.push]
theorem ws_con (s:Em)(n:Int)(kd u:Nat):(s.con n kd u).ws.length=s.ws.length+1:=by simp[Em.con,Em.push,Em.kc]
theorem ws_land (s:Em)(i:Nat):(s.land i).ws.length=s.ws.length:=by simp[Em.land]
theorem ws_cel (s:Em)(i:Nat)(k:Int):(s.cel i k).ws.length=s.ws.length:=rfl
theorem ws_kn (s:Em)(x:List UInt8):(s.kn x).ws.length=s.ws.length:=rfl
theorem wb_fork {m n:Nat}{f g:Em->Em}(hf:∀ s,Wb m s (f s))(hg:∀ s,Wb n s (g s))(op:Nat)(s:Em):Wb (m+n+2) s (s.fork op f g):=by
 have h1:=hf (s.lay op 0 0);have h2:=hg (((f (s.lay op 0 0)).lay 13 0 0).land s.ws.length);unfold Wb at *;unfold Em.fork;rw[ws_land];rw[ws_land,ws_lay] at h2;rw[ws_lay] at h1;omega
theorem wb_clrs (h:Nat):∀ (lv:List Int) (i:Nat) (s:Em),Wb lv.length s (clrs h lv i s)
 | [],i,s=>Nat.le_refl _
 | l::r,i,s=>by
  have:=wb_clrs h r (i+1) (if l=(h:Int) then s.lay 19 i 0 else s)
  unfold Wb at *;unfold clrs;simp only[List.length_cons];split at this
  ·rw[ws_lay] at this;rw[if_pos (by assumption)];omega
  ·rw[if_neg (by assumption)];omega
theorem wb_bdy {m:Nat}(lv:List Int){t:Tr}(h:Tw m t):Tw (m+lv.length) (bdy lv t):=fun ar u s=>by
 have h1:=h (ar+1) u (clrs (ar+1) lv 0 s);have h2:=wb_clrs (ar+1) lv 0 s;unfold Wb at *;show (t (ar+1) u (clrs (ar+1) lv 0 s)).ws.length<=_;omega
theorem wb_srch {m:Nat}(lv:List Int){t:Tr}(h:Tw m t)(op:Nat)(v:Int):Tw (m+lv.length+6) (srch lv t op v):=fun ar u s=>by
 have:=wb_fork (m:=m+lv.length+3) (n:=1) (f:=fun x=>(((bdy lv t ar u x).lay op s.ws.length 0).lay 25 0 0).con v 2 u) (g:=fun x=>x.con (1-v) 2 u) (fun x=>by
  have:=wb_bdy lv h ar u x
  unfold Wb at *;rw[ws_con,ws_lay,ws_lay];omega) (fun x=>by unfold Wb;rw[ws_con];omega) 24 s
 unfold Wb at *;show (s.fork 24 _ _).ws.length<=_;omega
theorem wb_gath {m c:Nat}(lv:List Int){t:Tr}(h:Tw m t)(f:Nat->Em->Em)(hf:∀ g s,Wb c s (f g s)):Tw (m+lv.length+c+2) (gath lv t f):=fun ar u s=>by
 have h1:=wb_bdy lv h ar u (s.lay 24 0 0);have h2:=hf s.ws.length (bdy lv t ar u (s.lay 24 0 0));unfold Wb at *;show (((f s.ws.length (bdy lv t ar u (s.lay 24 0 0))).lay 13 s.ws.length 0).land s.ws.length).ws.length<=_;rw[ws_land,ws_lay];rw[ws_lay] at h1;omega
theorem wb_qua {m m':Nat}(lv:List Int)(n:Int){a t:Tr}(h:Tw m a)(k:Tw m' t):Tw (m+m'+lv.length+6) (qua lv n a t):=fun ar u s=>by
 have h0:=h ar u s;unfold Wb at *;unfold qua;by_cases h1:n=1
 ·rw[if_pos h1];have:=wb_srch lv k 15 0 ar u (a ar u s);unfold Wb at this;omega
 rw[if_neg h1];by_cases h2:n=2
 ·rw[if_pos h2];have:=wb_srch lv k 14 1 ar u (a ar u s);unfold Wb at this;omega
 rw[if_neg h2];by_cases h3:n=3
 ·rw[if_pos h3]
  have:=wb_gath (c:=3) lv k (fun g x=>((x.lay 14 g 0).con 1 1 (u+1)).lay 6 0 0) (fun g s=>by unfold Wb;rw[ws_lay,ws_con,ws_lay];omega) ar (u+1) ((a ar u s).con 0 1 u)
  unfold Wb at this;rw[ws_con] at this;omega
 rw[if_neg h3];by_cases h4:n=4
 ·rw[if_pos h4]
  have:=wb_gath (c:=1) lv k (fun _ x=>x.lay 6 0 0) (fun g s=>by unfold Wb;rw[ws_lay];omega) ar (u+1) ((a ar u s).con 0 1 u)
  unfold Wb at this;rw[ws_con] at this;omega
 rw[if_neg h4]
 have:=wb_gath (c:=1) lv k (fun _ x=>x.lay 26 (n-5).toNat 0) (fun g s=>by unfold Wb;rw[ws_lay];omega) ar (u+2) (((a ar u s).con 0 1 u).con 0 2 (u+1))
 unfold Wb at this;rw[ws_con,ws_con] at this;rw[ws_lay];omega
def Tws:List Tr->Nat->Prop
 | [],_=>True
 | t::r,m=>∃a b,Tw a t/\Tws r b/\a+b<=m
theorem wb_seq:∀ (T:List Tr) (m j ar u:Nat) (s:Em),Tws T m->Wb m s (seqT T j ar u s)
 | [],m,j,ar,u,s,_=>Nat.le_add_right _ _
 | t::r,m,j,ar,u,s,⟨a,b,h1,h2,h3⟩=>by
  have k1:=h1 ar (u+j) s;have k2:=wb_seq r b (j+1) ar u (t ar (u+j) s) h2;unfold Wb at *;unfold seqT;omega
theorem wb_opr (k n:Int)(nm:List UInt8)(kk:List Int)(s:Em):Wb 2 s (opr k n nm kk s):=by
 unfold Wb opr
 repeat' split
 all_goals simp only[ws_lay,ws_kn]
 all_goals omega
theorem wb_prt (lv:List Int)(k n:Int)(nm:List UInt8)(kk:List Int)(T:List Tr)(m len:Nat)(hd:docF k n nm len=true)(hl:T.length=len)(hT:Tws T m) :
  Tw (m+(if k=21 then lv.length else 0)+8) (prt lv k n nm kk T):=fun ar u s=>by
 obtain⟨l1,l2,l3,l4,l5,l6,l7,l8⟩:=doc_lenq hd;obtain⟨M,hM⟩:∃M,M=m+(if k=21 then lv.length else 0)+8:=⟨_,rfl⟩
 have hm8:m+8<=M:=by omega
 rw[<-hM];have z:∀ t:Em,t.ws.length=s.ws.length+1->Wb M s t:=fun t h=>by unfold Wb;omega
 have le:∀ {a:Nat}{b:Em},Wb a s b->a<=m+8->Wb M s b:=fun h1 h2=>by unfold Wb at *;omega
 have two:len=2->∃x y a b,T=[x,y]/\Tw a x/\Tw b y/\a+b<=m:=fun h=>by
  match T,hl.trans h,hT with
  | [x,y],_,⟨a,b,h1,⟨c,d,h2,_,h3⟩,h4⟩=>exact⟨x,y,a,c,rfl,h1,h2,by omega⟩
 unfold prt;by_cases e1:k=1
 ·rw[if_pos e1];exact z _ (ws_con _ _ _ _)
 rw[if_neg e1];by_cases e2:k=2
 ·rw[if_pos e2];exact z _ (ws_con _ _ _ _)
 rw[if_neg e2];by_cases e3:k=3
 ·rw[if_pos e3];exact z _ (ws_push _ _ _ _ _)
 rw[if_neg e3];by_cases e5:k=5
 ·rw[if_pos e5];exact z _ (ws_push _ _ _ _ _)
 rw[if_neg e5];by_cases e17:k=17
 ·obtain⟨x,y,a,b,rfl,ha,hb,hm⟩:=two (l2 (by omega) (by omega));rw[if_pos e17];have h1:=ha ar u s;have h2:=wb_fork (n:=1) (f:=y ar u) (g:=fun x=>x.con 0 2 u) (hb ar u) (fun x=>by unfold Wb;rw[ws_con];omega) 14 (x ar u s);unfold Wb at *;simp only[List.getD_cons_zero,List.getD_cons_succ];omega
 rw[if_neg e17];by_cases e18:k=18
 ·obtain⟨x,y,a,b,rfl,ha,hb,hm⟩:=two (l2 (by omega) (by omega));rw[if_pos e18];have h1:=ha ar u s;have h2:=wb_fork (n:=1) (f:=y ar u) (g:=fun x=>x.con 1 2 u) (hb ar u) (fun x=>by unfold Wb;rw[ws_con];omega) 15 (x ar u s);unfold Wb at *;simp only[List.getD_cons_zero,List.getD_cons_succ];omega
 rw[if_neg e18];by_cases e19:k=19
 ·rw[if_pos e19]
  match T,hl.trans (l3 e19),hT with
  | [x,y,w],_,⟨a,b,h1,⟨c,d,h2,⟨f,g,h3,_,h4⟩,h5⟩,h6⟩ =>
   have k1:=h1 ar u s;have k2:=wb_fork (f:=y ar u) (g:=w ar u) (h2 ar u) (h3 ar u) 14 (x ar u s);unfold Wb at *;simp only[List.getD_cons_zero,List.getD_cons_succ];omega
 rw[if_neg e19];by_cases e26:k=26
 ·rw[if_pos e26]
  match T,hl.trans (l7 e26),hT with
  | [x],_,⟨a,b,h1,_,h2⟩ =>
   have k1:=h1 ar u ((s.cel n.toNat (kk.getD 0 0)).lay 17 n.toNat 0);unfold Wb at *;rw[ws_land,ws_lay];rw[ws_lay,ws_cel] at k1;simp only[List.getD_cons_zero];omega
 rw[if_neg e26];by_cases e21:k=21
 ·obtain⟨x,y,a,b,rfl,ha,hb,hm⟩:=two (l5 e21).1;rw[if_pos e21];have h1:=wb_qua lv n ha hb ar u s;rw[if_pos e21] at hM;unfold Wb at *;simp only[List.getD_cons_zero,List.getD_cons_succ];omega
 rw[if_neg e21];have h1:=wb_seq T m 0 ar u s hT;have h2:=wb_opr k n nm kk (seqT T 0 ar u s);unfold Wb at *;omega
theorem wb_F (lv:List Int)(nc:Nat):∀ (f:Fs),okF nc f->Tws (emF lv f) (8*szF f+lv.length*quF f)
 | ⟨none⟩,_=>trivial
 | ⟨some ⟨k,n,nm,a,ks,r⟩⟩,ho=>⟨_,_,wb_prt lv k n nm (kdF ks) (emF lv ks) _ ks.len ho.1.1 (emF_len lv ks) (wb_F lv nc ks ho.2.1),wb_F lv nc r ho.2.2,by
   show 8*szF ks+lv.length*quF ks+(if k=21 then lv.length else 0)+8+(8*szF r+lv.length*quF r)<=8*((szF ks+1)+szF r)+lv.length*((quF ks+if k=21 then 1 else 0)+quF r);split
   all_goals simp only[Nat.mul_add,Nat.mul_one,Nat.mul_zero,Nat.add_zero]
   all_goals omega⟩
theorem len_A (cells:List Int)(e:Ex)(ho:okE cells.length e):(emA cells e).ws.length<=8*szF (one e)+cells.length*quF (one e)+1:=by
 obtain⟨a,b,h1,-,h3⟩:=wb_F cells cells.length (one e) ⟨ho.1,ho.2,trivial⟩;have h4:=h1 0 0 (em0 cells);unfold Wb at h4;have h5:(emA cells e).ws.length=(emE cells e 0 0 (em0 cells)).ws.length+1:=ws_lay _ _ _ _;have h6:(em0 cells).ws.length=0:=rfl;have h7:(emE cells e 0 0 (em0 cells)).ws.length<=(em0 cells).ws.length+a:=h4;omega
theorem fit_A {cells:List Int}{e:Ex}(h:kindP cells e≠0)(ho:okE cells.length e)(hl:(emA cells e).ws.length<=32768)(hd:(emA cells e).dp<=1024) :
  rgtB (cdM (emA cells e))=true/\(emA cells e).ks.length=cells.length/\(∀ x ∈ (emA cells e).ws,∀ q,ledTo x.op x.a x.b=some q->q<(emA cells e).ws.length)/\∃n,n+1=(emA cells e).ws.length/\(emA cells e).ws[n]?=some ⟨0,0,0⟩:=by
 obtain⟨st,rd,hv,-⟩:=tk_taken h ho hl hd;obtain⟨hi,hw⟩:=wok_A cells e ho;obtain⟨hn,-,-⟩:=nam_A h ho;obtain⟨n,n1,n2,hseg⟩:=tk_A h ho (Nat.le_refl _) (scV_q (cdM (emA cells e)) (nesF (one e)) hn) hd;obtain⟨-,σ,s0,sn,hst,hre⟩:=hseg;refine⟨?_,hw.1,fun x hx q hq=>?_,n,n1,n2⟩
 ·by_cases hr:rgtB (cdM (emA cells e))=true
  ·exact hr
  ·unfold vrfA at hv;rw[if_neg hr] at hv;simp at hv
 ·obtain⟨i,hi⟩:=List.mem_iff_getElem?.1 hx;have hil:=(List.getElem?_eq_some_iff.1 hi).1;by_cases hin:i<n
  ·obtain⟨x',hx',l,hs,hy⟩:=hst i (Nat.zero_le _) hin;rw[hi] at hx';injection hx' with hx'
   subst hx';rcases sc_inv hs with ⟨a,rfl⟩|⟨-,-,-,-,t,d,-,-,rfl⟩
   ·have:=hy (x.a,σ i) (by simp)
    rw[a] at hq;simp[ledTo] at hq;subst hq;rcases this with h|h
    ·have:=h.2.1
     simp only at this;omega
    ·exact h.elim
   ·rw[hq] at hy
    have:=hy (q,d) (by simp)
    rcases this with h|h
    ·have:=h.2.1
     simp only at this;omega
    ·exact h.elim
  ·obtain rfl:i=n:=by omega
   rw[n2] at hi;injection hi with hi
   rw[<-hi] at hq;simp[ledTo] at hq
open Go.ChangeShapes Go.WideShapes Go.ChangeAt Go.RowKit
theorem szF_size:∀ f:Fs,szF f<=f.size
 | ⟨none⟩=>Nat.le_refl _
 | ⟨some ⟨k,n,nm,a,ks,r⟩⟩=>by
  have h1:=szF_size ks;have h2:=szF_size r;simp only[szF,Fs.size];omega
theorem quF_size:∀ f:Fs,quF f<=f.size
 | ⟨none⟩=>Nat.le_refl _
 | ⟨some ⟨k,n,nm,a,ks,r⟩⟩=>by
  have h1:=quF_size ks;have h2:=quF_size r;simp only[quF,Fs.size];split<;>omega
def prtsOk (N:Nat):Prop:=∀ (e:Ex) (ao:Option Addr) (cap:Nat) (w:World),e.kids.size<N->e.kids.size<=1000000->e.kids.len<=maxLen->e.kids.wide->SnA w e.kids ao ->
 Calls Tryz.prog 22 #[exN e ao cap] w fun x w'=>x=.returned (.int .i64 (szF (one e):Nat))/\Below w.heap.size w w'
theorem prts_step {N:Nat}(IH:prtsOk N):prtsOk (N+1):=by
 intro e ao cap w hN hN2 hlen hwd S;obtain⟨W,hW⟩:∃W,W=szF (one e):=⟨_,rfl⟩
 have hWs:W<=1000001:=by rw[hW];refine Nat.le_trans (szF_size _) ?_;show e.kids.size+0+1<=_;omega
 have hW2:W=szF e.kids+(1):=by rw[hW];rfl
 rw[<-hW];have HW:Hid (W=szF e.kids+(1)):=hW2;have hml:Hid (maxLen=9223372036854775807):=rfl;have hlm:e.kids.len<=9223372036854775807:=by have:=hml.out;omega
 clear hW hW2;have B0:Below w.heap.size w (w.alloc (.cells #[.int .i64 e.k,.int .i64 e.n,stv e.nm,.slice ao e.kids.len cap] 34)):=(Below.refl _ w).alloc (Nat.le_refl _) _;have E0:(w.alloc (.cells #[.int .i64 e.k,.int .i64 e.n,stv e.nm,.slice ao e.kids.len cap] 34)).heap[w.heap.size]?=some (.cells #[.int .i64 e.k,.int .i64 e.n,stv e.nm,.slice ao e.kids.len cap] 34):=heap_alloc_new w _;rw[exN_out];go_enter Tryz.func22,Tryz.ntmps22;go_upto_region 1 with fail;generalize w.alloc (.cells #[.int .i64 e.k,.int .i64 e.n,stv e.nm,.slice ao e.kids.len cap] 34)=w0 at *;obtain⟨bx,hbx⟩:∃bx,bx=w.heap.size:=⟨_,rfl⟩
 rw[<-hbx] at E0 B0 ⊢;have HB:Hid (bx=w.heap.size):=hbx;clear hbx
 all_goals
  go_wp2;go_loopw [3,4] (fun v3 v4 wr=>∃(done r:Fs) (c:Nat),Hid (e.kids=done.app r)/\v3=.int .i64 (c:Nat)/\v4=.int .i64 (done.len:Nat)/\Hid (c+szF r=W)/\wr.heap[bx]?=some (.cells #[.int .i64 e.k,.int .i64 e.n,stv e.nm,.slice ao e.kids.len cap] 34)/\Below bx w wr) (fun _ v4 _=>e.kids.len-(intOf v4).toNat)
  case atStart=>first|exact⟨.nil,e.kids,1,rfl,rfl,rfl,by show 1+_=W;rw[HW.out];omega,E0,B0⟩|exact⟨.nil,e.kids,0,rfl,rfl,rfl,by show 0+_=W;rw[HW.out];omega,E0,B0⟩
  case round =>
   clear E0 B0 HW;obtain⟨done,r,c,hk,rfl,rfl,HA,E1,B1⟩:=hrel;have hlk:e.kids.len=done.len+r.len:=by rw[hk.out,Fs.len_app]
   have hc1:c<=1000001:=by have:=HA.out;omega
   obtain⟨p0,p1,p2,p3,pf⟩:=box4 E1;cases r using Fs.on with
   | nil =>
    have hlt:¬(done.len:Int)<(e.kids.len:Int):=by simp only[Fs.len] at hlk;omega
    have FIN:Hid (W=c):=by show W=c;rw[<-HA.out];show c+0=c;omega
    clear HA hlk;go_wp2;go_ret;rw[FIN.out];exact⟨rfl,by rw[<-HB.out];exact B1⟩
   | cons kk kn km ka kks kr =>
    have hlt:(done.len:Int)<(e.kids.len:Int):=by simp only[Fs.len] at hlk;omega
    have hl3:done.len<e.kids.len:=by omega
    have hsz:e.kids.size=done.size+(kks.size+kr.size+1):=by rw[hk.out,Fs.size_app];rfl
    have hwk:(Fs.cons kk kn km ka kks kr).wide:=Fs.app_wide (x:=done) (by rw[<-hk.out];exact hwd);obtain⟨b,off,ak,ck,hao,lb1,-,x0,x1,x2,x3,SK⟩:=SlN.kidQ (by rw[<-hk.out];exact SnA.below S (by rw[<-HB.out];exact B1));subst hao;have hcc:=IH ⟨kk,kn,km,ka,kks⟩ ak ck wr (by show kks.size<N;omega) (by show kks.size<=_;omega) hwk.1 hwk.2.1 SK;rw[exN_out] at hcc;simp only at hcc;obtain⟨m,hm⟩:∃m,m=szF (one ⟨kk,kn,km,ka,kks⟩):=⟨_,rfl⟩
    rw[<-hm] at hcc;have hms:m<=1000001:=by
     rw[hm];refine Nat.le_trans (szF_size _) ?_;show kks.size+0+1<=1000001;omega
    have HA2:Hid ((c+m)+szF kr=W):=by
     show _=W;rw[<-HA.out,hm];show (c+((szF kks+1)+0))+szF kr=c+((szF kks+1)+szF kr);omega
    have hk2:Hid (e.kids=(done.snoc ⟨kk,kn,km,ka,kks⟩).app kr):=by show e.kids=_;rw[hk.out];unfold Fs.snoc;rw[Fs.app_assoc];rfl
    have hl2:(done.len:Int)+1=((done.snoc ⟨kk,kn,km,ka,kks⟩).len:Nat):=by rw[Fs.len_snoc];rfl
    clear HA hlk hsz hwk SK hk hm;go_wp2_with fail;refine hcc.mono ?_;rintro x w2 ⟨rfl,b2⟩;have B2:=B1.trans (b2.mono (by have:=lt_of_block E1;omega));have E2:=(b2.block bx (lt_of_block E1)).trans E1;clear hcc x0 x1 x2 x3 p0 p1 p2 p3 pf b2 E1 B1;go_wp2;go_roundw
    case rel=>(try ((repeat apply Exists.intro);refine⟨?_,rfl⟩));exact⟨_,kr,c+m,hk2,by first|rfl|(congr 1;omega),by rw[<-hl2],HA2,E2,B2⟩
    case measure=>simp[intOf];omega
theorem prts_ok:∀ N,prtsOk N -- 22
 | 0=>fun e ao cap w h=>absurd h (Nat.not_lt_zero _)
 | N+1=>prts_step (prts_ok N)
def qntsOk (N:Nat):Prop:=∀ (e:Ex) (ao:Option Addr) (cap:Nat) (w:World),e.kids.size<N->e.kids.size<=1000000->e.kids.len<=maxLen->e.kids.wide->SnA w e.kids ao ->
 Calls Tryz.prog 23 #[exN e ao cap] w fun x w'=>x=.returned (.int .i64 (quF (one e):Nat))/\Below w.heap.size w w'
theorem qnts_step {N:Nat}(IH:qntsOk N):qntsOk (N+1):=by
 intro e ao cap w hN hN2 hlen hwd S;obtain⟨W,hW⟩:∃W,W=quF (one e):=⟨_,rfl⟩
 have hWs:W<=1000001:=by rw[hW];refine Nat.le_trans (quF_size _) ?_;show e.kids.size+0+1<=_;omega
 have hW2:W=quF e.kids+(if e.k=21 then 1 else 0):=by rw[hW];rfl
 rw[<-hW];have HW:Hid (W=quF e.kids+(if e.k=21 then 1 else 0)):=hW2;have hml:Hid (maxLen=9223372036854775807):=rfl;have hlm:e.kids.len<=9223372036854775807:=by have:=hml.out;omega
 clear hW hW2;have B0:Below w.heap.size w (w.alloc (.cells #[.int .i64 e.k,.int .i64 e.n,stv e.nm,.slice ao e.kids.len cap] 34)):=(Below.refl _ w).alloc (Nat.le_refl _) _;have E0:(w.alloc (.cells #[.int .i64 e.k,.int .i64 e.n,stv e.nm,.slice ao e.kids.len cap] 34)).heap[w.heap.size]?=some (.cells #[.int .i64 e.k,.int .i64 e.n,stv e.nm,.slice ao e.kids.len cap] 34):=heap_alloc_new w _;rw[exN_out];go_enter Tryz.func23,Tryz.ntmps23;go_upto_region 1 with fail;generalize w.alloc (.cells #[.int .i64 e.k,.int .i64 e.n,stv e.nm,.slice ao e.kids.len cap] 34)=w0 at *;obtain⟨bx,hbx⟩:∃bx,bx=w.heap.size:=⟨_,rfl⟩
 rw[<-hbx] at E0 B0 ⊢;have HB:Hid (bx=w.heap.size):=hbx;clear hbx;obtain⟨p0,p1,p2,p3,pf⟩:=box4 E0;cases hb:(e.k==21)
 all_goals
  go_wp2;go_loopw [3,4] (fun v3 v4 wr=>∃(done r:Fs) (c:Nat),Hid (e.kids=done.app r)/\v3=.int .i64 (c:Nat)/\v4=.int .i64 (done.len:Nat)/\Hid (c+quF r=W)/\wr.heap[bx]?=some (.cells #[.int .i64 e.k,.int .i64 e.n,stv e.nm,.slice ao e.kids.len cap] 34)/\Below bx w wr) (fun _ v4 _=>e.kids.len-(intOf v4).toNat)
  case atStart=>first|exact⟨.nil,e.kids,1,rfl,rfl,rfl,by show 1+_=W;rw[HW.out,if_pos (show e.k=21 by simpa using hb)];omega,E0,B0⟩|exact⟨.nil,e.kids,0,rfl,rfl,rfl,by show 0+_=W;rw[HW.out,if_neg (show ¬e.k=21 by simpa using hb)];omega,E0,B0⟩
  case round =>
   clear E0 B0 HW;obtain⟨done,r,c,hk,rfl,rfl,HA,E1,B1⟩:=hrel;have hlk:e.kids.len=done.len+r.len:=by rw[hk.out,Fs.len_app]
   have hc1:c<=1000001:=by have:=HA.out;omega
   obtain⟨p0,p1,p2,p3,pf⟩:=box4 E1;cases r using Fs.on with
   | nil =>
    have hlt:¬(done.len:Int)<(e.kids.len:Int):=by simp only[Fs.len] at hlk;omega
    have FIN:Hid (W=c):=by show W=c;rw[<-HA.out];show c+0=c;omega
    clear HA hlk;go_wp2;go_ret;rw[FIN.out];exact⟨rfl,by rw[<-HB.out];exact B1⟩
   | cons kk kn km ka kks kr =>
    have hlt:(done.len:Int)<(e.kids.len:Int):=by simp only[Fs.len] at hlk;omega
    have hl3:done.len<e.kids.len:=by omega
    have hsz:e.kids.size=done.size+(kks.size+kr.size+1):=by rw[hk.out,Fs.size_app];rfl
    have hwk:(Fs.cons kk kn km ka kks kr).wide:=Fs.app_wide (x:=done) (by rw[<-hk.out];exact hwd);obtain⟨b,off,ak,ck,hao,lb1,-,x0,x1,x2,x3,SK⟩:=SlN.kidQ (by rw[<-hk.out];exact SnA.below S (by rw[<-HB.out];exact B1));subst hao;have hcc:=IH ⟨kk,kn,km,ka,kks⟩ ak ck wr (by show kks.size<N;omega) (by show kks.size<=_;omega) hwk.1 hwk.2.1 SK;rw[exN_out] at hcc;simp only at hcc;obtain⟨m,hm⟩:∃m,m=quF (one ⟨kk,kn,km,ka,kks⟩):=⟨_,rfl⟩
    rw[<-hm] at hcc;have hms:m<=1000001:=by
     rw[hm];refine Nat.le_trans (quF_size _) ?_;show kks.size+0+1<=1000001;omega
    have HA2:Hid ((c+m)+quF kr=W):=by
     show _=W;rw[<-HA.out,hm];show (c+((quF kks+if kk=21 then 1 else 0)+0))+quF kr=c+((quF kks+if kk=21 then 1 else 0)+quF kr);omega
    have hk2:Hid (e.kids=(done.snoc ⟨kk,kn,km,ka,kks⟩).app kr):=by show e.kids=_;rw[hk.out];unfold Fs.snoc;rw[Fs.app_assoc];rfl
    have hl2:(done.len:Int)+1=((done.snoc ⟨kk,kn,km,ka,kks⟩).len:Nat):=by rw[Fs.len_snoc];rfl
    clear HA hlk hsz hwk SK hk hm;go_wp2_with fail;refine hcc.mono ?_;rintro x w2 ⟨rfl,b2⟩;have B2:=B1.trans (b2.mono (by have:=lt_of_block E1;omega));have E2:=(b2.block bx (lt_of_block E1)).trans E1;clear hcc x0 x1 x2 x3 p0 p1 p2 p3 pf b2 E1 B1;go_wp2;go_roundw
    case rel=>(try ((repeat apply Exists.intro);refine⟨?_,rfl⟩));exact⟨_,kr,c+m,hk2,by first|rfl|(congr 1;omega),by rw[<-hl2],HA2,E2,B2⟩
    case measure=>simp[intOf];omega
theorem qnts_ok:∀ N,qntsOk N -- 23
 | 0=>fun e ao cap w h=>absurd h (Nat.not_lt_zero _)
 | N+1=>qnts_step (qnts_ok N)
def wdG (k:Nat):ByteArray:=⟨(wordsLG.getD k []).toArray⟩
def wordsAG:Array Value:=#[.string (wdG 0),.string (wdG 1),.string (wdG 2),.string (wdG 3),.string (wdG 4),.string (wdG 5),.string (wdG 6),.string (wdG 7),.string (wdG 8),.string (wdG 9),.string (wdG 10),.string (wdG 11),.string (wdG 12),.string (wdG 13),.string (wdG 14),.string (wdG 15),.string (wdG 16),.string (wdG 17),.string (wdG 18),.string (wdG 19),.string (wdG 20),.string (wdG 21),.string (wdG 22),.string (wdG 23),.string (wdG 24),.string (wdG 25),.string (wdG 26)]
theorem wix0G (w:World):(Instr.index 229 (.agg wordsAG) (.int .i64 0)).run Tryz.prog w=.ok (.string (wdG 0)) w:=by kernel_rfl
theorem wix1G (w:World):(Instr.index 229 (.agg wordsAG) (.int .i64 1)).run Tryz.prog w=.ok (.string (wdG 1)) w:=by kernel_rfl
theorem wix2G (w:World):(Instr.index 229 (.agg wordsAG) (.int .i64 2)).run Tryz.prog w=.ok (.string (wdG 2)) w:=by kernel_rfl
theorem wix3G (w:World):(Instr.index 229 (.agg wordsAG) (.int .i64 3)).run Tryz.prog w=.ok (.string (wdG 3)) w:=by kernel_rfl
theorem wix4G (w:World):(Instr.index 229 (.agg wordsAG) (.int .i64 4)).run Tryz.prog w=.ok (.string (wdG 4)) w:=by kernel_rfl
theorem wix5G (w:World):(Instr.index 229 (.agg wordsAG) (.int .i64 5)).run Tryz.prog w=.ok (.string (wdG 5)) w:=by kernel_rfl
theorem wix6G (w:World):(Instr.index 229 (.agg wordsAG) (.int .i64 6)).run Tryz.prog w=.ok (.string (wdG 6)) w:=by kernel_rfl
theorem wix7G (w:World):(Instr.index 229 (.agg wordsAG) (.int .i64 7)).run Tryz.prog w=.ok (.string (wdG 7)) w:=by kernel_rfl
theorem wix8G (w:World):(Instr.index 229 (.agg wordsAG) (.int .i64 8)).run Tryz.prog w=.ok (.string (wdG 8)) w:=by kernel_rfl
theorem wix9G (w:World):(Instr.index 229 (.agg wordsAG) (.int .i64 9)).run Tryz.prog w=.ok (.string (wdG 9)) w:=by kernel_rfl
theorem wix10G (w:World):(Instr.index 229 (.agg wordsAG) (.int .i64 10)).run Tryz.prog w=.ok (.string (wdG 10)) w:=by kernel_rfl
theorem wix11G (w:World):(Instr.index 229 (.agg wordsAG) (.int .i64 11)).run Tryz.prog w=.ok (.string (wdG 11)) w:=by kernel_rfl
theorem wix12G (w:World):(Instr.index 229 (.agg wordsAG) (.int .i64 12)).run Tryz.prog w=.ok (.string (wdG 12)) w:=by kernel_rfl
theorem wix13G (w:World):(Instr.index 229 (.agg wordsAG) (.int .i64 13)).run Tryz.prog w=.ok (.string (wdG 13)) w:=by kernel_rfl
theorem wix14G (w:World):(Instr.index 229 (.agg wordsAG) (.int .i64 14)).run Tryz.prog w=.ok (.string (wdG 14)) w:=by kernel_rfl
theorem wix15G (w:World):(Instr.index 229 (.agg wordsAG) (.int .i64 15)).run Tryz.prog w=.ok (.string (wdG 15)) w:=by kernel_rfl
theorem wix16G (w:World):(Instr.index 229 (.agg wordsAG) (.int .i64 16)).run Tryz.prog w=.ok (.string (wdG 16)) w:=by kernel_rfl
theorem wix17G (w:World):(Instr.index 229 (.agg wordsAG) (.int .i64 17)).run Tryz.prog w=.ok (.string (wdG 17)) w:=by kernel_rfl
theorem wix18G (w:World):(Instr.index 229 (.agg wordsAG) (.int .i64 18)).run Tryz.prog w=.ok (.string (wdG 18)) w:=by kernel_rfl
theorem wix19G (w:World):(Instr.index 229 (.agg wordsAG) (.int .i64 19)).run Tryz.prog w=.ok (.string (wdG 19)) w:=by kernel_rfl
theorem wix20G (w:World):(Instr.index 229 (.agg wordsAG) (.int .i64 20)).run Tryz.prog w=.ok (.string (wdG 20)) w:=by kernel_rfl
theorem wix21G (w:World):(Instr.index 229 (.agg wordsAG) (.int .i64 21)).run Tryz.prog w=.ok (.string (wdG 21)) w:=by kernel_rfl
theorem wix22G (w:World):(Instr.index 229 (.agg wordsAG) (.int .i64 22)).run Tryz.prog w=.ok (.string (wdG 22)) w:=by kernel_rfl
theorem wix23G (w:World):(Instr.index 229 (.agg wordsAG) (.int .i64 23)).run Tryz.prog w=.ok (.string (wdG 23)) w:=by kernel_rfl
theorem wix24G (w:World):(Instr.index 229 (.agg wordsAG) (.int .i64 24)).run Tryz.prog w=.ok (.string (wdG 24)) w:=by kernel_rfl
theorem wix25G (w:World):(Instr.index 229 (.agg wordsAG) (.int .i64 25)).run Tryz.prog w=.ok (.string (wdG 25)) w:=by kernel_rfl
theorem wix26G (w:World):(Instr.index 229 (.agg wordsAG) (.int .i64 26)).run Tryz.prog w=.ok (.string (wdG 26)) w:=by kernel_rfl
theorem wordsA_atG (k:Nat)(hk:k<27)(w:World):(Instr.index 229 (.agg wordsAG) (.int .i64 (k:Nat))).run Tryz.prog w=.ok (.string (wdG k)) w:=by
 match k,hk with
 | 0,_=>exact wix0G w
 | 1,_=>exact wix1G w
 | 2,_=>exact wix2G w
 | 3,_=>exact wix3G w
 | 4,_=>exact wix4G w
 | 5,_=>exact wix5G w
 | 6,_=>exact wix6G w
 | 7,_=>exact wix7G w
 | 8,_=>exact wix8G w
 | 9,_=>exact wix9G w
 | 10,_=>exact wix10G w
 | 11,_=>exact wix11G w
 | 12,_=>exact wix12G w
 | 13,_=>exact wix13G w
 | 14,_=>exact wix14G w
 | 15,_=>exact wix15G w
 | 16,_=>exact wix16G w
 | 17,_=>exact wix17G w
 | 18,_=>exact wix18G w
 | 19,_=>exact wix19G w
 | 20,_=>exact wix20G w
 | 21,_=>exact wix21G w
 | 22,_=>exact wix22G w
 | 23,_=>exact wix23G w
 | 24,_=>exact wix24G w
 | 25,_=>exact wix25G w
 | 26,_=>exact wix26G w
 | n+27,h=>omega
def WdG (w:World):Prop:=∃t fr,w.heap[3]?=some (.cells wordsAG t fr)
theorem WdG.lt {w:World}(h:WdG w):3<w.heap.size:=by
 obtain⟨t,fr,h⟩:=h;exact lt_of_block h
theorem WdG.below {w w':World}(h:WdG w)(b:Below w.heap.size w w'):WdG w':=by
 have hl:=h.lt;obtain⟨t,fr,h⟩:=h;exact⟨t,fr,(b.block _ hl).trans h⟩
theorem wordB_yesG {t:List UInt8}(k:Nat)(hk:k<27)(h:t=wordsLG.getD k []):wordBG t=true:=by
 subst h;have hl:wordsLG.length=27:=rfl;unfold wordBG;rw[List.contains_iff_mem];simp only[List.getD,List.getElem?_eq_getElem (by omega:k<wordsLG.length),Option.getD_some];exact List.getElem_mem _
theorem wordB_noG {t:List UInt8}(h:∀ k,k<27->¬t=wordsLG.getD k []):wordBG t=false:=by
 rw[<-Bool.not_eq_true];unfold wordBG;rw[List.contains_iff_mem,List.mem_iff_getElem];rintro ⟨k,hk,e⟩;have hl:wordsLG.length=27:=rfl;refine h k (by omega) ?_;simp only[List.getD,List.getElem?_eq_getElem hk,Option.getD_some];exact e.symm
theorem wordsInfoG:(Tryz.prog.info? 229).map (·.size)=some wordsAG.size:=by kernel_rfl
theorem word_cG (s:ByteArray)(w:World)(hW:WdG w)(hs:s.size<=maxLen) :
  Calls Tryz.prog 144 #[.string s] w fun e w'=>e=.returned (.bool (wordBG s.data.toList))/\w'=w:=by
 obtain⟨tt,fr,hg⟩:=hW;have IX:Hid (∀ k:Nat,k<27->(Instr.index 229 (.agg wordsAG) (.int .i64 (k:Nat))).run Tryz.prog w=.ok (.string (wdG k)) w):=fun k hk=>wordsA_atG k hk w;have hsz:=wordsInfoG;generalize wordsAG=cs at *;go_enter Tryz.func144,Tryz.ntmps144;go_wp2_with (refine wpList_load_row rfl 229 _ rfl 3 rfl tt _ fr _ hg Tryz.underlying229 rfl hsz ?_);go_loopw [6] (fun v wr=>∃k:Nat,k<=27/\v=.int .i64 (k:Nat)/\(∀ j,j<k->s≠wdG j)/\wr=w) (fun v _=>27-(intOf v).toNat)
 case atStart=>exact⟨0,by omega,by go_num,fun j hj=>by omega,rfl⟩
 case round =>
  obtain⟨k,hk,rfl,hin,rfl⟩:=hrel;by_cases hlt:k<27
  ·have ix:=IX.out k hlt;have hkI:(k:Int)<27:=by omega
   by_cases he:s=wdG k
   ·have fin:wordBG s.data.toList=true:=wordB_yesG k hlt (by rw[he];rfl);rw[<-he] at ix;clear he IX;go_wp2;go_ret;exact⟨by rw[fin];rfl,rfl⟩
   ·have hin':∀ j,j<k+1->s≠wdG j:=fun j hj=>by
     by_cases e:j=k
     ·subst e;exact he
     ·exact hin j (by omega)
    have heb:=str_neG he;generalize wdG k=t at ix he heb;clear IX hin;go_wp2;go_roundw
    case rel=>(try ((repeat apply Exists.intro);refine⟨?_,rfl⟩));exact⟨k+1,by omega,by go_num,hin',by trivial⟩
    case measure=>simp[intOf];omega
  ·obtain rfl:k=27:=by omega
   clear IX;have fin:wordBG s.data.toList=false:=wordB_noG fun j hj e=>hin j hj (bytes_eqG.1 (by rw[e];rfl));go_wp2;go_ret;exact⟨by rw[fin];rfl,rfl⟩
def nmcG (j:Nat)(c:UInt8):Bool:=smlG c.toNat||(j != 0&&(digG c.toNat||c.toNat==95))
theorem nameB_iffG (l:List UInt8):nameBG l=true ↔ 0<l.length/\l.length<=12/\(∀ j (h:j<l.length),nmcG j l[j]=true)/\wordBG l=false:=by
 cases l with
 | nil=>simp[nameBG]
 | cons c r =>
  simp only[nameBG,Bool.and_eq_true,decide_eq_true_eq,List.all_eq_true,Bool.not_eq_true',List.length_cons];constructor
  ·rintro ⟨⟨⟨h1,h2⟩,h3⟩,h4⟩;refine⟨by omega,by omega,fun j h=>?_,h4⟩;cases j with
   | zero=>simp[nmcG,h2]
   | succ j =>
    have:=h3 (r[j]'(by omega)) (List.getElem_mem _)
    simp only[innG] at this;simp[nmcG];simpa [Bool.or_eq_true,or_assoc] using this
  ·rintro ⟨h1,h2,h3,h4⟩;refine⟨⟨⟨by omega,?_⟩,fun x hx=>?_⟩,h4⟩
   ·have:=h3 0 (by omega)
    simpa [nmcG] using this
   ·obtain⟨j,hj,rfl⟩:=List.mem_iff_getElem.1 hx
    have:=h3 (j+1) (by omega)
    simp only[nmcG,List.getElem_cons_succ] at this;simp only[innG];simpa [Bool.or_eq_true,or_assoc] using this
theorem nameB_notG {l:List UInt8}(j:Nat)(h:j<l.length)(hn:nmcG j l[j]=false):nameBG l=false:=by
 rw[<-Bool.not_eq_true,nameB_iffG];rintro ⟨_,_,h3,_⟩
 have:=h3 j h
 rw[hn] at this;cases this
theorem nmc_highG (j:Nat)(c:UInt8)(h:128<=c.toNat):nmcG j c=false:=by
 simp[nmcG,smlG,digG];omega
theorem data_getG (s:ByteArray)(j:Nat)(h:j<s.size)(h':j<s.data.toList.length):s.data.toList[j]=s[j]:=by
 rw[Array.getElem_toList];rfl
theorem data_lenG (s:ByteArray):s.data.toList.length=s.size:=Array.length_toList
theorem name_cG (s:ByteArray)(w:World)(hW:WdG w)(hs:s.size<=maxLen) :
  Calls Tryz.prog 89 #[.string s] w fun e w'=>e=.returned (.bool (nameBG s.data.toList))/\Below w.heap.size w w':=by
 have hs':=hs;unfold maxLen at hs;have hln:=data_lenG s;by_cases h0:s.size=0
 ·have e0:s=⟨#[]⟩:=by
   apply ByteArray.ext;exact Array.eq_empty_of_size_eq_zero h0
  subst e0;have fin:nameBG (⟨#[]⟩:ByteArray).data.toList=false:=rfl;rw[fin];clear fin h0 hln;go_enter Tryz.func89,Tryz.ntmps89;go_wp2;go_ret;exact⟨rfl,b0G _⟩
 ·by_cases h12:12<s.size
  ·have fin:nameBG s.data.toList=false:=by rw[<-Bool.not_eq_true,nameB_iffG];rintro ⟨_,h,_⟩;omega
   rw[fin];clear fin hln;have hne:=str_fullG h0;have h12I:(12:Int)<(s.size:Int):=by omega
   go_enter Tryz.func89,Tryz.ntmps89;go_wp2;go_ret;exact⟨by simp,b0G _⟩
  ·have hne:=str_fullG h0;have h12I:¬(12:Int)<(s.size:Int):=by omega
   have HL:Hid (s.data.toList.length=s.size):=hln;clear hln;go_enter Tryz.func89,Tryz.ntmps89;go_wp2;go_loopw [3] (fun _ wr=>∃pos:Nat,wr.heap[w.heap.size]?=some (.stringIter s pos)/\pos<=s.size/\(∀ j (h:j<s.data.toList.length),j<pos->nmcG j s.data.toList[j]=true)/\Below w.heap.size w wr) (fun _ wr=>s.size-wr.iterPos w.heap.size)
   case atStart=>exact⟨0,World.iter_heap w s 0,by omega,fun j _ h=>by omega,b1G _ _⟩
   case round =>
    obtain⟨pos,hit,hps,hin,hbw⟩:=hrel;by_cases hp:pos<s.size
    ·have hpl:pos<s.data.toList.length:=by have:=HL.out;omega
     by_cases ha:(s[pos]'hp).toNat<128
     ·have hnx:∀ ty,(Instr.next (.pointer (some ⟨w.heap.size,0,none⟩)) true ty).run Tryz.prog wr=_:=fun ty=>Lib.run_next_ascii_at wr w.heap.size s pos ty hit hp ha;have hit2:=Lib.iterAt_heap wr w.heap.size s pos (pos+1) hit;have hbw2:=Lib.below_iterAt hbw (k:=w.heap.size) (by omega) s (pos+1);have hex:nmcG pos s.data.toList[pos]=nmcG pos s[pos]:=by rw[data_getG s pos hp hpl]
      have hgo:nmcG pos s[pos]=true->∀ j (h:j<s.data.toList.length),j<pos+1->nmcG j s.data.toList[j]=true:=fun hx j h hj=>by
       by_cases e:j=pos
       ·subst e;rw[hex];exact hx
       ·exact hin j h (by omega)
      have hno:nmcG pos s[pos]=false->nameBG s.data.toList=false:=fun hx=>nameB_notG pos hpl (by rw[hex];exact hx);have hme:s.size-(wr.iterAt w.heap.size s (pos+1)).iterPos w.heap.size<s.size-wr.iterPos w.heap.size:=by
       simp only[World.iterPos,hit2,hit];omega
      clear hit hbw hin hex;have hwz:w.heap.size=w.heap.size:=rfl;generalize wr.iterAt w.heap.size s (pos+1)=w2 at *;have hnm:nmcG pos s[pos]=(smlG (s[pos]).toNat||(pos != 0&&(digG (s[pos]).toNat||(s[pos]).toNat==95))):=rfl;rw[hnm] at hgo hno;clear hnm;generalize hrn:(s[pos]'hp).toNat=r at *;have hr:r<=2147483647:=by omega
      clear hrn;have HG:Hid (((smlG r||(pos != 0&&(digG r||r==95)))=true->∀ j (h:j<s.data.toList.length),j<pos+1->nmcG j s.data.toList[j]=true)/\((smlG r||(pos != 0&&(digG r||r==95)))=false->nameBG s.data.toList=false)):=⟨hgo,hno⟩
      clear hgo hno;cases h1:smlG r
      ·by_cases hz:pos=0
       ·have fin:nameBG s.data.toList=false:=HG.out.2 (by simp[h1,hz]);subst hz;clear HG hme;go_wp2_with (go_at_call 142;refine(sml_cG r _ hr).mono ?_;rw[h1];rintro e w1 ⟨rfl,rfl⟩);go_ret;exact⟨by rw[fin];rfl,hbw2⟩
       ·have hz':¬(pos:Int)=0:=by omega
        cases h2:digG r
        ·by_cases h3:r=95
         ·have RL:=HG.out.1 (by simp[h3,hz]);clear HG;subst h3;go_wp2_with (first|(go_at_call 142;refine(sml_cG 95 _ hr).mono ?_;rw[h1];rintro e w1 ⟨rfl,rfl⟩)|(go_at_call 143;refine(dig_cG 95 _ hr).mono ?_;rw[h2];rintro e w1 ⟨rfl,rfl⟩));go_roundw
          case rel=>(try ((repeat apply Exists.intro);refine⟨?_,rfl⟩));exact⟨pos+1,hit2,by omega,RL,hbw2⟩
          case measure=>exact hme
         ·have fin:nameBG s.data.toList=false:=HG.out.2 (by simp[h1,h2,h3]);have h3':¬(r:Int)=95:=by omega
          have h3b:((r:Int) != 95)=true:=by simpa using h3'
          clear HG hme;go_wp2_with (first|(go_at_call 142;refine(sml_cG r _ hr).mono ?_;rw[h1];rintro e w1 ⟨rfl,rfl⟩)|(go_at_call 143;refine(dig_cG r _ hr).mono ?_;rw[h2];rintro e w1 ⟨rfl,rfl⟩));go_ret;exact⟨by rw[fin];rfl,hbw2⟩
        ·have RL:=HG.out.1 (by simp[h2,hz]);clear HG;go_wp2_with (first|(go_at_call 142;refine(sml_cG r _ hr).mono ?_;rw[h1];rintro e w1 ⟨rfl,rfl⟩)|(go_at_call 143;refine(dig_cG r _ hr).mono ?_;rw[h2];rintro e w1 ⟨rfl,rfl⟩));go_roundw
         case rel=>(try ((repeat apply Exists.intro);refine⟨?_,rfl⟩));exact⟨pos+1,hit2,by omega,RL,hbw2⟩
         case measure=>exact hme
      ·have RL:=HG.out.1 (by simp[h1]);clear HG;go_wp2_with (go_at_call 142;refine(sml_cG r _ hr).mono ?_;rw[h1];rintro e w1 ⟨rfl,rfl⟩);go_roundw
       case rel=>(try ((repeat apply Exists.intro);refine⟨?_,rfl⟩));exact⟨pos+1,hit2,by omega,RL,hbw2⟩
       case measure=>exact hme
     ·have fin:nameBG s.data.toList=false:=nameB_notG pos hpl (by rw[data_getG s pos hp hpl];exact nmc_highG _ _ (by omega));have hnx:∀ ty,(Instr.next (.pointer (some ⟨w.heap.size,0,none⟩)) true ty).run Tryz.prog wr=_:=fun ty=>Lib.run_next_any_at wr w.heap.size s pos ty hit hp;have hbw2:=Lib.below_iterAt hbw (k:=w.heap.size) (by omega) s (pos+(Utf8.decode s pos).2);have hr:=decode_le s pos;have hr2:=(decode_high s pos hp (by omega)).1;generalize wr.iterAt w.heap.size s (pos+(Utf8.decode s pos).2)=w2 at *;generalize (Utf8.decode s pos).1=r at *;have h1:smlG r=false:=by simp[smlG];omega
      have h2:digG r=false:=by simp[digG];omega
      have h3':¬(r:Int)=95:=by omega
      have h3b:((r:Int) != 95)=true:=by simpa using h3'
      clear hit hbw hin ha;by_cases hz:pos=0
      ·subst hz;go_wp2_with (go_at_call 142;refine(sml_cG r _ hr).mono ?_;rw[h1];rintro e w1 ⟨rfl,rfl⟩);go_ret;exact⟨by rw[fin];rfl,hbw2⟩
      ·have hz':¬(pos:Int)=0:=by omega
       go_wp2_with (first|(go_at_call 142;refine(sml_cG r _ hr).mono ?_;rw[h1];rintro e w1 ⟨rfl,rfl⟩)|(go_at_call 143;refine(dig_cG r _ hr).mono ?_;rw[h2];rintro e w1 ⟨rfl,rfl⟩));go_ret;exact⟨by rw[fin];rfl,hbw2⟩
    ·have hnx:∀ ty,(Instr.next (.pointer (some ⟨w.heap.size,0,none⟩)) true ty).run Tryz.prog wr=_:=fun ty=>Lib.run_next_end_at wr w.heap.size s pos ty hit hp;have hW2:=hW.below hbw;have fin:nameBG s.data.toList=!wordBG s.data.toList:=by
      have hl:=HL.out;cases hw:wordBG s.data.toList
      ·exact(nameB_iffG _).2 ⟨by omega,by omega,fun j h=>hin j h (by omega),hw⟩
      ·show _=false;rw[<-Bool.not_eq_true,nameB_iffG];rintro ⟨_,_,_,h⟩;rw[hw] at h;cases h
     clear hin hit;go_wp2_with (go_at_call 144;refine(word_cG s _ hW2 hs').mono ?_;rintro e w1 ⟨rfl,rfl⟩);go_ret;exact⟨by rw[fin];rfl,hbw⟩
def TabG (w:World):Prop :=
 w.cell? ⟨2,0,none⟩=some (.int .u64 56)/\w.cell? ⟨2,1,none⟩=some (.int .u64 255)/\w.cell? ⟨2,2,none⟩=some (.int .u64 28) /\
 w.cell? ⟨2,3,none⟩=some (.int .u64 268435455)/\w.cell? ⟨2,4,none⟩=some (.int .u64 0)/\w.cell? ⟨2,5,none⟩=some (.int .u64 268435455)/\2<w.heap.size
theorem TabG.below {w w':World}(h:TabG w)(hb:Below w.heap.size w w'):TabG w':=by
 obtain⟨h0,h1,h2,h3,h4,h5,hs⟩:=h;refine⟨?_,?_,?_,?_,?_,?_,Nat.lt_of_lt_of_le hs hb.size⟩
 ·exact(hb.cell (p:=⟨2,0,none⟩) hs).trans h0
 ·exact(hb.cell (p:=⟨2,1,none⟩) hs).trans h1
 ·exact(hb.cell (p:=⟨2,2,none⟩) hs).trans h2
 ·exact(hb.cell (p:=⟨2,3,none⟩) hs).trans h3
 ·exact(hb.cell (p:=⟨2,4,none⟩) hs).trans h4
 ·exact(hb.cell (p:=⟨2,5,none⟩) hs).trans h5
theorem below_drewNG (w:World)(n:Nat):Below w.heap.size w (w.drewN n):=by
 have key:∀ (n:Nat) (v:World),Below w.heap.size w v->Below w.heap.size w (v.drewN n):=by
  intro n
  induction n with
  | zero=>intro v h;exact h
  | succ n ih=>intro v h;exact(ih v h).drew
 exact key n w (Below.refl _ _)
theorem bjoinG {a b c:World}(h:Below a.heap.size a b)(k:Below b.heap.size b c):Below a.heap.size a c:=h.trans (k.mono h.size)
theorem bd_i64 {a:Int}(h:(Lit.int .i64 a).wf=true):-9223372036854775808<=a/\a<=9223372036854775807:=by
 simpa [Lit.wf,IntKind.min,IntKind.max,IntKind.signed,IntKind.bits] using h
theorem part0G (u:Int)(w:World)(hT:TabG w)(h1:0<=u)(h2:u<18446744073709551616) :
  Calls Tryz.prog 196 #[.int .i64 0,.int .u64 u] w fun e w'=>e=.returned (.int .i64 (u / 72057594037927936))/\Below w.heap.size w w':=by
 have hc:=hT.1;have hd:=hT.2.1;go_enter Tryz.func196,Tryz.ntmps196;go_wp2
 go_quiet (fail)
 go_wp2;go_ret;exact⟨ret_int (part0_eq u h1 h2),below_drewNG _ _⟩
theorem part1G (u:Int)(w:World)(hT:TabG w)(h1:0<=u)(h2:u<18446744073709551616) :
  Calls Tryz.prog 196 #[.int .i64 1,.int .u64 u] w fun e w'=>e=.returned (.int .i64 (u / 268435456 % 268435456))/\Below w.heap.size w w':=by
 have hc:=hT.2.2.1;have hd:=hT.2.2.2.1;go_enter Tryz.func196,Tryz.ntmps196;go_wp2
 go_quiet (fail)
 go_wp2;go_ret;exact⟨ret_int (part1_eq u h1 h2),below_drewNG _ _⟩
theorem part2G (u:Int)(w:World)(hT:TabG w)(h1:0<=u)(h2:u<18446744073709551616) :
  Calls Tryz.prog 196 #[.int .i64 2,.int .u64 u] w fun e w'=>e=.returned (.int .i64 (u % 268435456))/\Below w.heap.size w w':=by
 have hc:=hT.2.2.2.2.1;have hd:=hT.2.2.2.2.2.1;go_enter Tryz.func196,Tryz.ntmps196;go_wp2
 go_quiet (fail)
 go_wp2;go_ret;exact⟨ret_int (by simpa using part2_eq u h1 h2),below_drewNG _ _⟩
theorem parts_anyG (u:Int)(w:World)(hT:TabG w)(h1:0<=u)(h2:u<18446744073709551616) :
  Calls Tryz.prog 146 #[.int .u64 u] w fun e w' =>
   e=.returned (.tuple #[.int .i64 (u / 72057594037927936),.int .i64 (u / 268435456 % 268435456),.int .i64 (u % 268435456)])/\Below w.heap.size w w':=by
 go_enter Tryz.func146,Tryz.ntmps146;go_wp2_with fail;refine(part0G u w hT h1 h2).mono ?_;rintro e w1 ⟨rfl,hb1⟩;have hT1:=hT.below hb1;go_wp2_with fail;refine(part1G u w1 hT1 h1 h2).mono ?_;rintro e w2 ⟨rfl,hb2⟩;have hT2:=hT1.below hb2;go_wp2_with fail;refine(part2G u w2 hT2 h1 h2).mono ?_;rintro e w3 ⟨rfl,hb3⟩;go_wp2;go_ret3;exact⟨rfl,bjoinG (bjoinG hb1 hb2) hb3⟩
def Lsv (w:World)(ao:Option Addr)(xs:List Value):Prop :=
 xs=[]\/∃b off,ao=some ⟨b,off,none⟩/\b<w.heap.size/\∀ j x,xs[j]?=some x->w.cell? ⟨b,off+j,none⟩=some x
theorem Lsv.below {w w':World}{ao:Option Addr}{xs:List Value}(h:Lsv w ao xs)(B:Below w.heap.size w w'):Lsv w' ao xs:=by
 rcases h with h|⟨b,off,rfl,hlt,hc⟩
 ·exact .inl h
 ·exact .inr ⟨b,off,rfl,Nat.lt_of_lt_of_le hlt B.size,fun j x hx=>(B.cell (p:=⟨b,off+j,none⟩) hlt).trans (hc j x hx)⟩
theorem Lsv.at {w:World}{ao:Option Addr}{xs:List Value}(h:Lsv w ao xs){j:Nat}{x:Value}(hx:xs[j]?=some x):∃b off,ao=some ⟨b,off,none⟩/\b<w.heap.size/\w.cell? ⟨b,off+j,none⟩=some x:=by
 rcases h with rfl|⟨b,off,rfl,hlt,hc⟩
 ·simp at hx
 ·exact⟨b,off,rfl,hlt,hc j x hx⟩
def wsV (l:List Int):List Value:=l.map (.int .u64 ·)
def isV (l:List Int):List Value:=l.map (.int .i64 ·)
def nsV (l:List ByteArray):List Value:=l.map (.string ·)
structure Pl where
 aw:Option Addr
 cw:Nat
 ac:Option Addr
 cc:Nat
 an:Option Addr
 cn:Nat
 ak:Option Addr
 ck:Nat
abbrev cdA (p:Pl)(c:Cd):Array Value:=#[.slice p.aw c.ws.length p.cw,.slice p.ac c.cs.length p.cc,.slice p.an c.ns.length p.cn,.slice p.ak c.ks.length p.ck]
abbrev cdV (p:Pl)(c:Cd):Value:=.agg (cdA p c)
structure CdW (w:World)(p:Pl)(c:Cd):Prop where
 ok:c.Ok
 ws:Lsv w p.aw (wsV c.ws)
 cs:Lsv w p.ac (isV c.cs)
 ns:Lsv w p.an (nsV c.ns)
 ks:Lsv w p.ak (isV c.ks)
 lw:c.ws.length<=9223372036854775807
 lc:c.cs.length<=9223372036854775807
 ln:c.ns.length<=9223372036854775807
 lk:c.ks.length<=9223372036854775807
theorem CdW.below {w w':World}{p:Pl}{c:Cd}(h:CdW w p c)(B:Below w.heap.size w w'):CdW w' p c :=
 ⟨h.ok,h.ws.below B,h.cs.below B,h.ns.below B,h.ks.below B,h.lw,h.lc,h.ln,h.lk⟩
theorem bd1 {w w':World}{o:Obj}(h:Below (w.alloc o).heap.size (w.alloc o) w'):Below w.heap.size w w':=(b1G w o).trans (h.mono (by simp))
theorem box4G (w:World)(a b c d:Value)(t:TypeId):(w.alloc (.cells #[a,b,c,d] t)).heap[w.heap.size]?=some (.cells #[a,b,c,d] t (0,0)):=heap_alloc_new _ _
theorem box4_cells {w:World}{g:Nat}{a b c d:Value}{t:TypeId}(h:w.heap[g]?=some (.cells #[a,b,c,d] t (0,0))):w.cell? ⟨g,0,none⟩=some a/\w.cell? ⟨g,1,none⟩=some b/\w.cell? ⟨g,2,none⟩=some c/\w.cell? ⟨g,3,none⟩=some d:=by
 refine⟨?_,?_,?_,?_⟩<;>simp[World.cell?,h]
theorem span_0 (p:Pl)(c:Cd)(w:World)(hl:c.cs.length<=9223372036854775807)(hn:c.ns.length<=9223372036854775807)(hk:c.ks.length<=9223372036854775807) :
  Calls Tryz.prog 145 #[.int .i64 0,cdV p c] w fun e w'=>e=.returned (.tuple #[.int .i64 (spn c 0).1,.int .i64 (spn c 0).2])/\Below w.heap.size w w':=by
 go_enter Tryz.func145,Tryz.ntmps145;go_wp2;go_ret2;exact⟨rfl,b1G _ _⟩
theorem span_1 (p:Pl)(c:Cd)(w:World)(hl:c.cs.length<=9223372036854775807)(hn:c.ns.length<=9223372036854775807)(hk:c.ks.length<=9223372036854775807) :
  Calls Tryz.prog 145 #[.int .i64 1,cdV p c] w fun e w'=>e=.returned (.tuple #[.int .i64 (spn c 1).1,.int .i64 (spn c 1).2])/\Below w.heap.size w w':=by
 go_enter Tryz.func145,Tryz.ntmps145;go_wp2;go_ret2;exact⟨rfl,b1G _ _⟩
theorem span_2 (p:Pl)(c:Cd)(w:World)(hl:c.cs.length<=9223372036854775807)(hn:c.ns.length<=9223372036854775807)(hk:c.ks.length<=9223372036854775807) :
  Calls Tryz.prog 145 #[.int .i64 2,cdV p c] w fun e w'=>e=.returned (.tuple #[.int .i64 (spn c 2).1,.int .i64 (spn c 2).2])/\Below w.heap.size w w':=by
 go_enter Tryz.func145,Tryz.ntmps145;go_wp2;go_ret2;exact⟨rfl,b1G _ _⟩
theorem span_3 (p:Pl)(c:Cd)(w:World)(hl:c.cs.length<=9223372036854775807)(hn:c.ns.length<=9223372036854775807)(hk:c.ks.length<=9223372036854775807) :
  Calls Tryz.prog 145 #[.int .i64 3,cdV p c] w fun e w'=>e=.returned (.tuple #[.int .i64 (spn c 3).1,.int .i64 (spn c 3).2])/\Below w.heap.size w w':=by
 go_enter Tryz.func145,Tryz.ntmps145;go_wp2;go_ret2;exact⟨rfl,b1G _ _⟩
theorem span_4 (p:Pl)(c:Cd)(w:World)(hl:c.cs.length<=9223372036854775807)(hn:c.ns.length<=9223372036854775807)(hk:c.ks.length<=9223372036854775807) :
  Calls Tryz.prog 145 #[.int .i64 4,cdV p c] w fun e w'=>e=.returned (.tuple #[.int .i64 (spn c 4).1,.int .i64 (spn c 4).2])/\Below w.heap.size w w':=by
 go_enter Tryz.func145,Tryz.ntmps145;go_wp2;go_ret2;exact⟨rfl,b1G _ _⟩
theorem span_5 (p:Pl)(c:Cd)(w:World)(hl:c.cs.length<=9223372036854775807)(hn:c.ns.length<=9223372036854775807)(hk:c.ks.length<=9223372036854775807) :
  Calls Tryz.prog 145 #[.int .i64 5,cdV p c] w fun e w'=>e=.returned (.tuple #[.int .i64 (spn c 5).1,.int .i64 (spn c 5).2])/\Below w.heap.size w w':=by
 go_enter Tryz.func145,Tryz.ntmps145;go_wp2;go_ret2;exact⟨rfl,b1G _ _⟩
theorem span_6 (p:Pl)(c:Cd)(w:World)(hl:c.cs.length<=9223372036854775807)(hn:c.ns.length<=9223372036854775807)(hk:c.ks.length<=9223372036854775807) :
  Calls Tryz.prog 145 #[.int .i64 6,cdV p c] w fun e w'=>e=.returned (.tuple #[.int .i64 (spn c 6).1,.int .i64 (spn c 6).2])/\Below w.heap.size w w':=by
 go_enter Tryz.func145,Tryz.ntmps145;go_wp2;go_ret2;exact⟨rfl,b1G _ _⟩
theorem span_7 (p:Pl)(c:Cd)(w:World)(hl:c.cs.length<=9223372036854775807)(hn:c.ns.length<=9223372036854775807)(hk:c.ks.length<=9223372036854775807) :
  Calls Tryz.prog 145 #[.int .i64 7,cdV p c] w fun e w'=>e=.returned (.tuple #[.int .i64 (spn c 7).1,.int .i64 (spn c 7).2])/\Below w.heap.size w w':=by
 go_enter Tryz.func145,Tryz.ntmps145;go_wp2;go_ret2;exact⟨rfl,b1G _ _⟩
theorem span_8 (p:Pl)(c:Cd)(w:World)(hl:c.cs.length<=9223372036854775807)(hn:c.ns.length<=9223372036854775807)(hk:c.ks.length<=9223372036854775807) :
  Calls Tryz.prog 145 #[.int .i64 8,cdV p c] w fun e w'=>e=.returned (.tuple #[.int .i64 (spn c 8).1,.int .i64 (spn c 8).2])/\Below w.heap.size w w':=by
 go_enter Tryz.func145,Tryz.ntmps145;go_wp2
 go_quiet (fail)
 go_wp2;go_ret2;refine⟨?_,(b1G _ _).trans ((below_drewNG _ _).mono (by simp))⟩;simp[spn]
theorem span_9 (p:Pl)(c:Cd)(w:World)(hl:c.cs.length<=9223372036854775807)(hn:c.ns.length<=9223372036854775807)(hk:c.ks.length<=9223372036854775807) :
  Calls Tryz.prog 145 #[.int .i64 9,cdV p c] w fun e w'=>e=.returned (.tuple #[.int .i64 (spn c 9).1,.int .i64 (spn c 9).2])/\Below w.heap.size w w':=by
 go_enter Tryz.func145,Tryz.ntmps145;go_wp2
 go_quiet (fail)
 go_wp2;go_ret2;refine⟨?_,(b1G _ _).trans ((below_drewNG _ _).mono (by simp))⟩;simp[spn]
theorem span_10 (p:Pl)(c:Cd)(w:World)(hl:c.cs.length<=9223372036854775807)(hn:c.ns.length<=9223372036854775807)(hk:c.ks.length<=9223372036854775807) :
  Calls Tryz.prog 145 #[.int .i64 10,cdV p c] w fun e w'=>e=.returned (.tuple #[.int .i64 (spn c 10).1,.int .i64 (spn c 10).2])/\Below w.heap.size w w':=by
 go_enter Tryz.func145,Tryz.ntmps145;go_wp2
 go_quiet (fail)
 go_wp2;go_ret2;refine⟨?_,(b1G _ _).trans ((below_drewNG _ _).mono (by simp))⟩;simp[spn]
theorem span_c (t:Nat)(ht:t<=10)(p:Pl)(c:Cd)(w:World)(hl:c.cs.length<=9223372036854775807)(hn:c.ns.length<=9223372036854775807)(hk:c.ks.length<=9223372036854775807) :
  Calls Tryz.prog 145 #[.int .i64 (t:Nat),cdV p c] w fun e w'=>e=.returned (.tuple #[.int .i64 (spn c t).1,.int .i64 (spn c t).2])/\Below w.heap.size w w':=by
 match t,ht with
 | 0,_=>exact span_0 p c w hl hn hk
 | 1,_=>exact span_1 p c w hl hn hk
 | 2,_=>exact span_2 p c w hl hn hk
 | 3,_=>exact span_3 p c w hl hn hk
 | 4,_=>exact span_4 p c w hl hn hk
 | 5,_=>exact span_5 p c w hl hn hk
 | 6,_=>exact span_6 p c w hl hn hk
 | 7,_=>exact span_7 p c w hl hn hk
 | 8,_=>exact span_8 p c w hl hn hk
 | 9,_=>exact span_9 p c w hl hn hk
 | 10,_=>exact span_10 p c w hl hn hk
 | n+11,h=>omega
theorem may_c (t:Nat)(ht:t<=10)(n:Int)(p:Pl)(c:Cd)(w:World)(hl:c.cs.length<=9223372036854775807)(hn:c.ns.length<=9223372036854775807)(hk:c.ks.length<=9223372036854775807) :
  Calls Tryz.prog 90 #[.int .i64 (t:Nat),.int .i64 n,cdV p c] w fun e w'=>e=.returned (.bool (mayB c t n))/\Below w.heap.size w w':=by
 have hm:mayB c t n=(decide ((spn c t).1<=n)&&decide (n<=(spn c t).2)):=rfl;have HS:=fun w=>span_c t ht p c w hl hn hk;rw[hm];generalize (spn c t).1=lo at *;generalize (spn c t).2=hi at *;clear hm;by_cases h1:lo<=n
 ·go_enter Tryz.func90,Tryz.ntmps90;go_wp2_with (go_at_call 145;refine(HS _).mono ?_;rintro e w1 ⟨rfl,hb⟩);go_ret;exact⟨by simp[h1],bd1 hb⟩
 ·go_enter Tryz.func90,Tryz.ntmps90;go_wp2_with (go_at_call 145;refine(HS _).mono ?_;rintro e w1 ⟨rfl,hb⟩);go_ret;exact⟨by simp;intro;omega,bd1 hb⟩
def Rul (w:World):Prop:=1<w.heap.size/\∀ o,o<28->w.cell? ⟨1,o*2,none⟩=some (.int .i64 (rulA.getD o 0:Nat))/\w.cell? ⟨1,o*2+1,none⟩=some (.int .i64 (rulB.getD o 0:Nat))
theorem Rul.below {w w':World}(h:Rul w)(B:Below w.heap.size w w'):Rul w' :=
 ⟨Nat.lt_of_lt_of_le h.1 B.size,fun o ho=>⟨(B.cell (p:=⟨1,o*2,none⟩) h.1).trans (h.2 o ho).1,(B.cell (p:=⟨1,o*2+1,none⟩) h.1).trans (h.2 o ho).2⟩⟩
theorem rul_le (o:Nat):rulA.getD o 0<=10/\rulB.getD o 0<=10:=by
 by_cases h:o<28
 ·have H:∀ o,o<28->rulA.getD o 0<=10/\rulB.getD o 0<=10:=by decide
  exact H o h
 ·have h1:rulA.length<=o:=by have:rulA.length=28:=rfl;omega
  have h2:rulB.length<=o:=by have:rulB.length=28:=rfl;omega
  simp[List.getD,List.getElem?_eq_none h1,List.getElem?_eq_none h2]
theorem isV_at {l:List Int}{k:Nat}(h:k<l.length):(isV l)[k]?=some (.int .i64 (l.getD k 0)):=by
 simp[isV,List.getD,List.getElem?_eq_getElem h]
theorem keep2 {w w':World}{g b:Nat}(B:Below w.heap.size w w')(h:g<w.heap.size/\b<w.heap.size):g<w'.heap.size/\b<w'.heap.size:=⟨Nat.lt_of_lt_of_le h.1 B.size,Nat.lt_of_lt_of_le h.2 B.size⟩
theorem keep6 {w w':World}{g b x y:Nat}{v0 v1 v2 v3 v4 v5:Option Value}(B:Below w.heap.size w w')(hg:g<w.heap.size)(hb:b<w.heap.size)
  (h:w.cell? ⟨g,x,none⟩=v0/\w.cell? ⟨g,y,none⟩=v1/\w.cell? ⟨b,0,none⟩=v2/\w.cell? ⟨b,1,none⟩=v3/\w.cell? ⟨b,2,none⟩=v4/\w.cell? ⟨b,3,none⟩=v5) :
  w'.cell? ⟨g,x,none⟩=v0/\w'.cell? ⟨g,y,none⟩=v1/\w'.cell? ⟨b,0,none⟩=v2/\w'.cell? ⟨b,1,none⟩=v3/\w'.cell? ⟨b,2,none⟩=v4/\w'.cell? ⟨b,3,none⟩=v5 :=
 ⟨(B.cell (p:=⟨g,x,none⟩) hg).trans h.1,(B.cell (p:=⟨g,y,none⟩) hg).trans h.2.1,(B.cell (p:=⟨b,0,none⟩) hb).trans h.2.2.1,(B.cell (p:=⟨b,1,none⟩) hb).trans h.2.2.2.1,(B.cell (p:=⟨b,2,none⟩) hb).trans h.2.2.2.2.1,(B.cell (p:=⟨b,3,none⟩) hb).trans h.2.2.2.2.2⟩
theorem keep5 {w w':World}{g b x:Nat}{v0 v2 v3 v4 v5:Option Value}(B:Below w.heap.size w w')(hg:g<w.heap.size)(hb:b<w.heap.size)
  (h:w.cell? ⟨g,x,none⟩=v0/\w.cell? ⟨b,0,none⟩=v2/\w.cell? ⟨b,1,none⟩=v3/\w.cell? ⟨b,2,none⟩=v4/\w.cell? ⟨b,3,none⟩=v5) :
  w'.cell? ⟨g,x,none⟩=v0/\w'.cell? ⟨b,0,none⟩=v2/\w'.cell? ⟨b,1,none⟩=v3/\w'.cell? ⟨b,2,none⟩=v4/\w'.cell? ⟨b,3,none⟩=v5 :=
 ⟨(B.cell (p:=⟨g,x,none⟩) hg).trans h.1,(B.cell (p:=⟨b,0,none⟩) hb).trans h.2.1,(B.cell (p:=⟨b,1,none⟩) hb).trans h.2.2.1,(B.cell (p:=⟨b,2,none⟩) hb).trans h.2.2.2.1,(B.cell (p:=⟨b,3,none⟩) hb).trans h.2.2.2.2⟩
theorem word_walk (u:Int)(o a b:Nat)(ho:u / 72057594037927936=(o:Int))(ha:u / 268435456 % 268435456=(a:Int))(hb:u % 268435456=(b:Int))(h1:0<=u)(h2:u<18446744073709551616)
  (p:Pl) (c:Cd) (w:World) (hT:TabG w) (hR:Rul w) (hC:CdW w p c) :
  Calls Tryz.prog 91 #[.int .u64 u,cdV p c] w fun e w'=>e=.returned (.bool (wrdP c o a b))/\Below w.heap.size w w':=by
 have HP:∀ w,TabG w->Calls Tryz.prog 146 #[.int .u64 u] w fun e w'=>e=.returned (.tuple #[.int .i64 (o:Int),.int .i64 (a:Int),.int .i64 (b:Int)])/\Below w.heap.size w w':=fun w hT=>by
  have:=parts_anyG u w hT h1 h2
  rw[ho,ha,hb] at this;exact this
 have hob:o<256:=by omega
 have hab:a<268435456:=by omega
 have hbb:b<268435456:=by omega
 clear ho ha hb h1 h2;obtain⟨w1,hw1⟩:∃w1,w1=w.alloc (.cells (cdA p c) 42):=⟨_,rfl⟩
 obtain⟨b0G,hb0⟩:∃b0G,b0G=w.heap.size:=⟨_,rfl⟩
 have B1:Below w.heap.size w w1:=by rw[hw1];exact b1G _ _
 have K1:=box4_cells (w:=w1) (g:=b0G) (by rw[hw1,hb0];exact box4G _ _ _ _ _ _);have L1:b0G<w1.heap.size:=by rw[hw1,hb0];simp
 have T1:=hT.below B1;have R1:=hR.below B1;have C1:=hC.below B1;have HB0:Hid (b0G=w.heap.size):=hb0;clear hb0 hT hR hC;by_cases h28:o<28
 ·have g28:(o:Int)<28:=by omega
  obtain⟨hra,hrb⟩:=rul_le o;obtain⟨ra,hra'⟩:∃ra,ra=rulA.getD o 0:=⟨_,rfl⟩
  obtain⟨rb,hrb'⟩:∃rb,rb=rulB.getD o 0:=⟨_,rfl⟩
  have hX:wrdP c o a b=(mayB c ra a&&mayB c rb b&&(if (o:Int)=1/\(b:Int)=2 then mayB c 2 (c.cs.getD a 0) else if (o:Int)=2 then decide (0<=c.cs.getD a 0) else true)):=by
   have:decide ((o:Int)<28)=true:=by simpa using g28
   rw[hra',hrb'];unfold wrdP;rw[this,Bool.true_and,Int.toNat_natCast,Int.toNat_natCast]
  rw[hX];have hal:ra=8->mayB c ra a=true->a<c.cs.length:=fun e h=>by
   subst e;simp[mayB,spn] at h;omega
  have h12:o=1\/o=2->ra=8:=fun h=>by rw[hra'];rcases h with rfl|rfl<;>rfl
  rw[<-hra'] at hra;rw[<-hrb'] at hrb;have MA:=fun w=>may_c ra hra a p c w C1.lc C1.ln C1.lk;have MB:=fun w=>may_c rb hrb b p c w C1.lc C1.ln C1.lk;clear hX;have HX:∀ w,Rul w->w.cell? ⟨1,o*2,none⟩=some (.int .i64 (ra:Nat))/\w.cell? ⟨1,o*2+1,none⟩=some (.int .i64 (rb:Nat)):=fun w h=>by rw[hra',hrb'];exact h.2 o h28
  clear hra' hrb';have n28:¬(28:Int)<=(o:Int):=by omega
  have d28:decide ((28:Int)<=(o:Int))=false:=by simpa using g28
  cases hma:mayB c ra a
  ·rw[hma] at MA;rw[Bool.false_and,Bool.false_and];clear MB hal h12;go_enter Tryz.func91,Tryz.ntmps91;go_wp2_with fail;rw[<-hw1];refine(HP _ T1).mono ?_;rintro e w2 ⟨rfl,B2⟩;rw[<-HB0.out];have R2:=R1.below B2;have KA:1<w2.heap.size/\b0G<w2.heap.size:=⟨R2.1,Nat.lt_of_lt_of_le L1 B2.size⟩
   have KC:w2.cell? ⟨b0G,0,none⟩=some (.slice p.aw c.ws.length p.cw)/\w2.cell? ⟨b0G,1,none⟩=some (.slice p.ac c.cs.length p.cc)/\w2.cell? ⟨b0G,2,none⟩=some (.slice p.an c.ns.length p.cn)/\w2.cell? ⟨b0G,3,none⟩=some (.slice p.ak c.ks.length p.ck) :=
    ⟨(B2.cell (p:=⟨b0G,0,none⟩) L1).trans K1.1,(B2.cell (p:=⟨b0G,1,none⟩) L1).trans K1.2.1,(B2.cell (p:=⟨b0G,2,none⟩) L1).trans K1.2.2.1,(B2.cell (p:=⟨b0G,3,none⟩) L1).trans K1.2.2.2⟩
   have KB:(fun wx=>wx.cell? ⟨1,o*2,none⟩=some (.int .i64 (ra:Nat))/\wx.cell? ⟨1,o*2+1,none⟩=some (.int .i64 (rb:Nat))/\wx.cell? ⟨b0G,0,none⟩=some (.slice p.aw c.ws.length p.cw)/\wx.cell? ⟨b0G,1,none⟩=some (.slice p.ac c.cs.length p.cc)/\wx.cell? ⟨b0G,2,none⟩=some (.slice p.an c.ns.length p.cn)/\wx.cell? ⟨b0G,3,none⟩=some (.slice p.ak c.ks.length p.ck)) w2:=⟨(HX _ R2).1,(HX _ R2).2,KC⟩
   simp only at KB;have BB:=B1.trans (B2.mono B1.size);have C2:=C1.below B2;clear K1 HX KC;go_wp2_with fail;refine wp_region_held_drew (S:=(fun wx=>wx.cell? ⟨1,o*2,none⟩=some (.int .i64 (ra:Nat))/\wx.cell? ⟨1,o*2+1,none⟩=some (.int .i64 (rb:Nat))/\wx.cell? ⟨b0G,0,none⟩=some (.slice p.aw c.ws.length p.cw)/\wx.cell? ⟨b0G,1,none⟩=some (.slice p.ac c.cs.length p.cc)/\wx.cell? ⟨b0G,2,none⟩=some (.slice p.an c.ns.length p.cn)/\wx.cell? ⟨b0G,3,none⟩=some (.slice p.ak c.ks.length p.ck))) (by kernel_rfl) KB (fun hHeld=>?_);refine wpAnyH_take (i:=0) (v:=?v1) rfl (by kernel_rfl) (by kernel_rfl) (by kernel_rfl) (fun _ _ _ h=>h) (Or.inl ⟨by rfl,?hy1⟩) (by assumption) ?rest1
   case hy1=>(intro w hSw;(try dsimp only at hSw);go_simp;all_goals (with_reducible rfl))
   simp only[Act.put,List.getElem_toArray,List.getElem_cons_zero,List.getElem_cons_succ,List.setIfInBounds_toArray,List.set_cons_zero,List.set_cons_succ];refine wpAnyH_take (i:=1) (v:=?v2) rfl (by kernel_rfl) (by kernel_rfl) (by kernel_rfl) (fun _ _ _ h=>h) (Or.inl ⟨by rfl,?hy2⟩) (by assumption) ?rest2
   case hy2=>(intro w hSw;(try dsimp only at hSw);go_simp;all_goals (with_reducible rfl))
   simp only[Act.put,List.getElem_toArray,List.getElem_cons_zero,List.getElem_cons_succ,List.setIfInBounds_toArray,List.set_cons_zero,List.set_cons_succ];refine wpAnyH_take (i:=2) (v:=?v3) rfl (by kernel_rfl) (by kernel_rfl) (by kernel_rfl) (fun _ _ _ h=>h) (Or.inl ⟨by rfl,?hy3⟩) (by assumption) ?rest3
   case hy3=>(intro w hSw;(try dsimp only at hSw);go_simp;all_goals (with_reducible rfl))
   simp only[Act.put,List.getElem_toArray,List.getElem_cons_zero,List.getElem_cons_succ,List.setIfInBounds_toArray,List.set_cons_zero,List.set_cons_succ];refine wpAnyH_take (i:=3) (v:=?v4) rfl (by kernel_rfl) (by kernel_rfl) (by kernel_rfl) (fun _ _ _ h=>h) (Or.inl ⟨by rfl,?hy4⟩) (by assumption) ?rest4
   case hy4=>(intro w hSw;(try dsimp only at hSw);go_simp;all_goals (with_reducible rfl))
   simp only[Act.put,List.getElem_toArray,List.getElem_cons_zero,List.getElem_cons_succ,List.setIfInBounds_toArray,List.set_cons_zero,List.set_cons_succ];refine wpAnyH_take (i:=4) (v:=?v5) rfl (by kernel_rfl) (by kernel_rfl) (by kernel_rfl) (fun _ _ _ h=>h) (Or.inl ⟨by rfl,?hy5⟩) (by assumption) ?rest5
   case hy5=>(intro w hSw;(try dsimp only at hSw);go_simp;all_goals (with_reducible rfl))
   simp only[Act.put,List.getElem_toArray,List.getElem_cons_zero,List.getElem_cons_succ,List.setIfInBounds_toArray,List.set_cons_zero,List.set_cons_succ];refine wpAnyH_take (i:=5) (v:=?v6) rfl (by kernel_rfl) (by kernel_rfl) (by kernel_rfl) (fun _ _ _ h=>h) (Or.inl ⟨by rfl,?hy6⟩) (by assumption) ?rest6
   case hy6=>(intro w hSw;(try dsimp only at hSw);go_simp;all_goals (with_reducible rfl))
   simp only[Act.put,List.getElem_toArray,List.getElem_cons_zero,List.getElem_cons_succ,List.setIfInBounds_toArray,List.set_cons_zero,List.set_cons_succ];refine wpAnyH_take (i:=6) (v:=?v7) rfl (by kernel_rfl) (by kernel_rfl) (by kernel_rfl) (fun _ _ _ h=>h) (Or.inl ⟨by rfl,?hy7⟩) (by assumption) ?rest7
   case hy7=>(intro w hSw;(try dsimp only at hSw);obtain⟨z1,z2,z3,z4,z5,z6⟩:=hSw;go_simp;all_goals (with_reducible rfl))
   simp only[Act.put,List.getElem_toArray,List.getElem_cons_zero,List.getElem_cons_succ,List.setIfInBounds_toArray,List.set_cons_zero,List.set_cons_succ];refine wpAnyH_take (i:=7) (v:=?v8) rfl (by kernel_rfl) (by kernel_rfl) (by kernel_rfl) (fun _ _ _ h=>h) (Or.inl ⟨by rfl,?hy8⟩) (by assumption) ?rest8
   case hy8=>(intro w hSw;(try dsimp only at hSw);go_simp;all_goals (with_reducible rfl))
   simp only[Act.put,List.getElem_toArray,List.getElem_cons_zero,List.getElem_cons_succ,List.setIfInBounds_toArray,List.set_cons_zero,List.set_cons_succ];refine wpAnyH_take (i:=8) (v:=?v9) rfl (by kernel_rfl) (by kernel_rfl) (by kernel_rfl) (fun _ _ _ h=>h) (Or.inl ⟨by rfl,?hy9⟩) (by assumption) ?rest9
   case hy9=>(intro w hSw;(try dsimp only at hSw);obtain⟨z1,z2,z3,z4,z5,z6⟩:=hSw;go_simp;all_goals (with_reducible rfl))
   simp only[Act.put,List.getElem_toArray,List.getElem_cons_zero,List.getElem_cons_succ,List.setIfInBounds_toArray,List.set_cons_zero,List.set_cons_succ];refine wpAnyH_ready (rs:=[9]) (by kernel_rfl) (by simp) ?_;refine AllReadyH.cons rfl (fun K hK=>?_) AllReadyH.nil
   go_simp
   go_wp2_with (go_at_call 90;refine(MA _).mono ?_;rintro e w3 ⟨rfl,B3⟩;have KE:=keep6 B3 KA.1 KA.2 KB;have KD:=keep2 B3 KA);refine hK.out _ _ KE (fun hHeld=>?_);clear hK K;refine wpAnyH_take (i:=10) (v:=?v10) rfl (by kernel_rfl) (by kernel_rfl) (by kernel_rfl) (fun _ _ _ h=>h) (Or.inl ⟨by rfl,?hy10⟩) (by assumption) ?rest10
   case hy10=>(intro w hSw;(try dsimp only at hSw);go_simp;all_goals (with_reducible rfl))
   simp only[Act.put,List.getElem_toArray,List.getElem_cons_zero,List.getElem_cons_succ,List.setIfInBounds_toArray,List.set_cons_zero,List.set_cons_succ];refine wpAnyH_take (i:=11) (v:=?v11) rfl (by kernel_rfl) (by kernel_rfl) (by kernel_rfl) (fun _ _ _ h=>h) (Or.inl ⟨by rfl,?hy11⟩) (by assumption) ?rest11
   case hy11=>(intro w hSw;(try dsimp only at hSw);go_simp;all_goals (with_reducible rfl))
   simp only[Act.put,List.getElem_toArray,List.getElem_cons_zero,List.getElem_cons_succ,List.setIfInBounds_toArray,List.set_cons_zero,List.set_cons_succ];refine wpAnyH_take (i:=12) (v:=?v12) rfl (by kernel_rfl) (by kernel_rfl) (by kernel_rfl) (fun _ _ _ h=>h) (Or.inl ⟨by rfl,?hy12⟩) (by assumption) ?rest12
   case hy12=>(intro w hSw;(try dsimp only at hSw);go_simp;all_goals (with_reducible rfl))
   simp only[Act.put,List.getElem_toArray,List.getElem_cons_zero,List.getElem_cons_succ,List.setIfInBounds_toArray,List.set_cons_zero,List.set_cons_succ];refine wpAnyH_take (i:=13) (v:=undef) rfl (by kernel_rfl) (by kernel_rfl) (by kernel_rfl) (fun _ _ _ h=>h) (Or.inr ⟨?uw1,rfl⟩) (by assumption) ?urest1
   case uw1=>kernel_rfl
   simp only[Act.put,List.getElem_toArray,List.getElem_cons_zero,List.getElem_cons_succ,List.setIfInBounds_toArray,List.set_cons_zero,List.set_cons_succ];refine wpAnyH_take (i:=14) (v:=undef) rfl (by kernel_rfl) (by kernel_rfl) (by kernel_rfl) (fun _ _ _ h=>h) (Or.inr ⟨?uw2,rfl⟩) (by assumption) ?urest2
   case uw2=>kernel_rfl
   simp only[Act.put,List.getElem_toArray,List.getElem_cons_zero,List.getElem_cons_succ,List.setIfInBounds_toArray,List.set_cons_zero,List.set_cons_succ];refine wpAnyH_take (i:=15) (v:=undef) rfl (by kernel_rfl) (by kernel_rfl) (by kernel_rfl) (fun _ _ _ h=>h) (Or.inr ⟨?uw3,rfl⟩) (by assumption) ?urest3
   case uw3=>kernel_rfl
   simp only[Act.put,List.getElem_toArray,List.getElem_cons_zero,List.getElem_cons_succ,List.setIfInBounds_toArray,List.set_cons_zero,List.set_cons_succ];refine wpAnyH_take (i:=16) (v:=undef) rfl (by kernel_rfl) (by kernel_rfl) (by kernel_rfl) (fun _ _ _ h=>h) (Or.inr ⟨?uw4,rfl⟩) (by assumption) ?urest4
   case uw4=>kernel_rfl
   simp only[Act.put,List.getElem_toArray,List.getElem_cons_zero,List.getElem_cons_succ,List.setIfInBounds_toArray,List.set_cons_zero,List.set_cons_succ];refine wpAnyH_take (i:=17) (v:=undef) rfl (by kernel_rfl) (by kernel_rfl) (by kernel_rfl) (fun _ _ _ h=>h) (Or.inr ⟨?uw5,rfl⟩) (by assumption) ?urest5
   case uw5=>kernel_rfl
   simp only[Act.put,List.getElem_toArray,List.getElem_cons_zero,List.getElem_cons_succ,List.setIfInBounds_toArray,List.set_cons_zero,List.set_cons_succ];refine wpAnyH_take (i:=18) (v:=undef) rfl (by kernel_rfl) (by kernel_rfl) (by kernel_rfl) (fun _ _ _ h=>h) (Or.inr ⟨?uw6,rfl⟩) (by assumption) ?urest6
   case uw6=>kernel_rfl
   simp only[Act.put,List.getElem_toArray,List.getElem_cons_zero,List.getElem_cons_succ,List.setIfInBounds_toArray,List.set_cons_zero,List.set_cons_succ];refine wpAnyH_take (i:=19) (v:=undef) rfl (by kernel_rfl) (by kernel_rfl) (by kernel_rfl) (fun _ _ _ h=>h) (Or.inr ⟨?uw7,rfl⟩) (by assumption) ?urest7
   case uw7=>kernel_rfl
   simp only[Act.put,List.getElem_toArray,List.getElem_cons_zero,List.getElem_cons_succ,List.setIfInBounds_toArray,List.set_cons_zero,List.set_cons_succ];refine wpAnyH_take (i:=20) (v:=undef) rfl (by kernel_rfl) (by kernel_rfl) (by kernel_rfl) (fun _ _ _ h=>h) (Or.inr ⟨?uw8,rfl⟩) (by assumption) ?urest8
   case uw8=>kernel_rfl
   simp only[Act.put,List.getElem_toArray,List.getElem_cons_zero,List.getElem_cons_succ,List.setIfInBounds_toArray,List.set_cons_zero,List.set_cons_succ];refine wpAnyH_take (i:=21) (v:=?v13) rfl (by kernel_rfl) (by kernel_rfl) (by kernel_rfl) (fun _ _ _ h=>h) (Or.inl ⟨by rfl,?hy13⟩) (by assumption) ?rest13
   case hy13=>(intro w hSw;(try dsimp only at hSw);go_simp;all_goals (with_reducible rfl))
   simp only[Act.put,List.getElem_toArray,List.getElem_cons_zero,List.getElem_cons_succ,List.setIfInBounds_toArray,List.set_cons_zero,List.set_cons_succ];refine wpAnyH_done (by kernel_rfl) ?_ _;go_wp2;go_ret;exact⟨rfl,BB.drew.trans (B3.mono BB.size)⟩
  ·rw[hma] at MA;cases hmb:mayB c rb b
   ·rw[hmb] at MB;rw[Bool.true_and,Bool.false_and];clear hal h12;go_enter Tryz.func91,Tryz.ntmps91;go_wp2_with fail;rw[<-hw1];refine(HP _ T1).mono ?_;rintro e w2 ⟨rfl,B2⟩;rw[<-HB0.out];have R2:=R1.below B2;have KA:1<w2.heap.size/\b0G<w2.heap.size:=⟨R2.1,Nat.lt_of_lt_of_le L1 B2.size⟩
    have KC:w2.cell? ⟨b0G,0,none⟩=some (.slice p.aw c.ws.length p.cw)/\w2.cell? ⟨b0G,1,none⟩=some (.slice p.ac c.cs.length p.cc)/\w2.cell? ⟨b0G,2,none⟩=some (.slice p.an c.ns.length p.cn)/\w2.cell? ⟨b0G,3,none⟩=some (.slice p.ak c.ks.length p.ck) :=
     ⟨(B2.cell (p:=⟨b0G,0,none⟩) L1).trans K1.1,(B2.cell (p:=⟨b0G,1,none⟩) L1).trans K1.2.1,(B2.cell (p:=⟨b0G,2,none⟩) L1).trans K1.2.2.1,(B2.cell (p:=⟨b0G,3,none⟩) L1).trans K1.2.2.2⟩
    have KB:(fun wx=>wx.cell? ⟨1,o*2,none⟩=some (.int .i64 (ra:Nat))/\wx.cell? ⟨1,o*2+1,none⟩=some (.int .i64 (rb:Nat))/\wx.cell? ⟨b0G,0,none⟩=some (.slice p.aw c.ws.length p.cw)/\wx.cell? ⟨b0G,1,none⟩=some (.slice p.ac c.cs.length p.cc)/\wx.cell? ⟨b0G,2,none⟩=some (.slice p.an c.ns.length p.cn)/\wx.cell? ⟨b0G,3,none⟩=some (.slice p.ak c.ks.length p.ck)) w2:=⟨(HX _ R2).1,(HX _ R2).2,KC⟩
    simp only at KB;have BB:=B1.trans (B2.mono B1.size);have C2:=C1.below B2;clear K1 HX KC;go_wp2_with fail;refine wp_region_held_drew (S:=(fun wx=>wx.cell? ⟨1,o*2,none⟩=some (.int .i64 (ra:Nat))/\wx.cell? ⟨1,o*2+1,none⟩=some (.int .i64 (rb:Nat))/\wx.cell? ⟨b0G,0,none⟩=some (.slice p.aw c.ws.length p.cw)/\wx.cell? ⟨b0G,1,none⟩=some (.slice p.ac c.cs.length p.cc)/\wx.cell? ⟨b0G,2,none⟩=some (.slice p.an c.ns.length p.cn)/\wx.cell? ⟨b0G,3,none⟩=some (.slice p.ak c.ks.length p.ck))) (by kernel_rfl) KB (fun hHeld=>?_);refine wpAnyH_take (i:=0) (v:=?v14) rfl (by kernel_rfl) (by kernel_rfl) (by kernel_rfl) (fun _ _ _ h=>h) (Or.inl ⟨by rfl,?hy14⟩) (by assumption) ?rest14
    case hy14=>(intro w hSw;(try dsimp only at hSw);go_simp;all_goals (with_reducible rfl))
    simp only[Act.put,List.getElem_toArray,List.getElem_cons_zero,List.getElem_cons_succ,List.setIfInBounds_toArray,List.set_cons_zero,List.set_cons_succ];refine wpAnyH_take (i:=1) (v:=?v15) rfl (by kernel_rfl) (by kernel_rfl) (by kernel_rfl) (fun _ _ _ h=>h) (Or.inl ⟨by rfl,?hy15⟩) (by assumption) ?rest15
    case hy15=>(intro w hSw;(try dsimp only at hSw);go_simp;all_goals (with_reducible rfl))
    simp only[Act.put,List.getElem_toArray,List.getElem_cons_zero,List.getElem_cons_succ,List.setIfInBounds_toArray,List.set_cons_zero,List.set_cons_succ];refine wpAnyH_take (i:=2) (v:=?v16) rfl (by kernel_rfl) (by kernel_rfl) (by kernel_rfl) (fun _ _ _ h=>h) (Or.inl ⟨by rfl,?hy16⟩) (by assumption) ?rest16
    case hy16=>(intro w hSw;(try dsimp only at hSw);go_simp;all_goals (with_reducible rfl))
    simp only[Act.put,List.getElem_toArray,List.getElem_cons_zero,List.getElem_cons_succ,List.setIfInBounds_toArray,List.set_cons_zero,List.set_cons_succ];refine wpAnyH_take (i:=3) (v:=?v17) rfl (by kernel_rfl) (by kernel_rfl) (by kernel_rfl) (fun _ _ _ h=>h) (Or.inl ⟨by rfl,?hy17⟩) (by assumption) ?rest17
    case hy17=>(intro w hSw;(try dsimp only at hSw);go_simp;all_goals (with_reducible rfl))
    simp only[Act.put,List.getElem_toArray,List.getElem_cons_zero,List.getElem_cons_succ,List.setIfInBounds_toArray,List.set_cons_zero,List.set_cons_succ];refine wpAnyH_take (i:=4) (v:=?v18) rfl (by kernel_rfl) (by kernel_rfl) (by kernel_rfl) (fun _ _ _ h=>h) (Or.inl ⟨by rfl,?hy18⟩) (by assumption) ?rest18
    case hy18=>(intro w hSw;(try dsimp only at hSw);go_simp;all_goals (with_reducible rfl))
    simp only[Act.put,List.getElem_toArray,List.getElem_cons_zero,List.getElem_cons_succ,List.setIfInBounds_toArray,List.set_cons_zero,List.set_cons_succ];refine wpAnyH_take (i:=5) (v:=?v19) rfl (by kernel_rfl) (by kernel_rfl) (by kernel_rfl) (fun _ _ _ h=>h) (Or.inl ⟨by rfl,?hy19⟩) (by assumption) ?rest19
    case hy19=>(intro w hSw;(try dsimp only at hSw);go_simp;all_goals (with_reducible rfl))
    simp only[Act.put,List.getElem_toArray,List.getElem_cons_zero,List.getElem_cons_succ,List.setIfInBounds_toArray,List.set_cons_zero,List.set_cons_succ];refine wpAnyH_take (i:=6) (v:=?v20) rfl (by kernel_rfl) (by kernel_rfl) (by kernel_rfl) (fun _ _ _ h=>h) (Or.inl ⟨by rfl,?hy20⟩) (by assumption) ?rest20
    case hy20=>(intro w hSw;(try dsimp only at hSw);obtain⟨z1,z2,z3,z4,z5,z6⟩:=hSw;go_simp;all_goals (with_reducible rfl))
    simp only[Act.put,List.getElem_toArray,List.getElem_cons_zero,List.getElem_cons_succ,List.setIfInBounds_toArray,List.set_cons_zero,List.set_cons_succ];refine wpAnyH_take (i:=7) (v:=?v21) rfl (by kernel_rfl) (by kernel_rfl) (by kernel_rfl) (fun _ _ _ h=>h) (Or.inl ⟨by rfl,?hy21⟩) (by assumption) ?rest21
    case hy21=>(intro w hSw;(try dsimp only at hSw);go_simp;all_goals (with_reducible rfl))
    simp only[Act.put,List.getElem_toArray,List.getElem_cons_zero,List.getElem_cons_succ,List.setIfInBounds_toArray,List.set_cons_zero,List.set_cons_succ];refine wpAnyH_take (i:=8) (v:=?v22) rfl (by kernel_rfl) (by kernel_rfl) (by kernel_rfl) (fun _ _ _ h=>h) (Or.inl ⟨by rfl,?hy22⟩) (by assumption) ?rest22
    case hy22=>(intro w hSw;(try dsimp only at hSw);obtain⟨z1,z2,z3,z4,z5,z6⟩:=hSw;go_simp;all_goals (with_reducible rfl))
    simp only[Act.put,List.getElem_toArray,List.getElem_cons_zero,List.getElem_cons_succ,List.setIfInBounds_toArray,List.set_cons_zero,List.set_cons_succ];refine wpAnyH_ready (rs:=[9]) (by kernel_rfl) (by simp) ?_;refine AllReadyH.cons rfl (fun K hK=>?_) AllReadyH.nil
    go_simp
    go_wp2_with (go_at_call 90;refine(MA _).mono ?_;rintro e w3 ⟨rfl,B3⟩;have KE:=keep6 B3 KA.1 KA.2 KB;have KD:=keep2 B3 KA);refine hK.out _ _ KE (fun hHeld=>?_);clear hK K;refine wpAnyH_take (i:=10) (v:=?v23) rfl (by kernel_rfl) (by kernel_rfl) (by kernel_rfl) (fun _ _ _ h=>h) (Or.inl ⟨by rfl,?hy23⟩) (by assumption) ?rest23
    case hy23=>(intro w hSw;(try dsimp only at hSw);go_simp;all_goals (with_reducible rfl))
    simp only[Act.put,List.getElem_toArray,List.getElem_cons_zero,List.getElem_cons_succ,List.setIfInBounds_toArray,List.set_cons_zero,List.set_cons_succ];refine wpAnyH_take (i:=11) (v:=?v24) rfl (by kernel_rfl) (by kernel_rfl) (by kernel_rfl) (fun _ _ _ h=>h) (Or.inl ⟨by rfl,?hy24⟩) (by assumption) ?rest24
    case hy24=>(intro w hSw;(try dsimp only at hSw);go_simp;all_goals (with_reducible rfl))
    simp only[Act.put,List.getElem_toArray,List.getElem_cons_zero,List.getElem_cons_succ,List.setIfInBounds_toArray,List.set_cons_zero,List.set_cons_succ];refine wpAnyH_take (i:=12) (v:=?v25) rfl (by kernel_rfl) (by kernel_rfl) (by kernel_rfl) (fun _ _ _ h=>h) (Or.inl ⟨by rfl,?hy25⟩) (by assumption) ?rest25
    case hy25=>(intro w hSw;(try dsimp only at hSw);go_simp;all_goals (with_reducible rfl))
    simp only[Act.put,List.getElem_toArray,List.getElem_cons_zero,List.getElem_cons_succ,List.setIfInBounds_toArray,List.set_cons_zero,List.set_cons_succ];refine wpAnyH_take (i:=13) (v:=?v26) rfl (by kernel_rfl) (by kernel_rfl) (by kernel_rfl) (fun _ _ _ h=>h) (Or.inl ⟨by rfl,?hy26⟩) (by assumption) ?rest26
    case hy26=>(intro w hSw;(try dsimp only at hSw);go_simp;all_goals (with_reducible rfl))
    simp only[Act.put,List.getElem_toArray,List.getElem_cons_zero,List.getElem_cons_succ,List.setIfInBounds_toArray,List.set_cons_zero,List.set_cons_succ];refine wpAnyH_take (i:=14) (v:=?v27) rfl (by kernel_rfl) (by kernel_rfl) (by kernel_rfl) (fun _ _ _ h=>h) (Or.inl ⟨by rfl,?hy27⟩) (by assumption) ?rest27
    case hy27=>(intro w hSw;(try dsimp only at hSw);go_simp;all_goals (with_reducible rfl))
    simp only[Act.put,List.getElem_toArray,List.getElem_cons_zero,List.getElem_cons_succ,List.setIfInBounds_toArray,List.set_cons_zero,List.set_cons_succ];refine wpAnyH_take (i:=15) (v:=?v28) rfl (by kernel_rfl) (by kernel_rfl) (by kernel_rfl) (fun _ _ _ h=>h) (Or.inl ⟨by rfl,?hy28⟩) (by assumption) ?rest28
    case hy28=>(intro w hSw;(try dsimp only at hSw);go_simp;all_goals (with_reducible rfl))
    simp only[Act.put,List.getElem_toArray,List.getElem_cons_zero,List.getElem_cons_succ,List.setIfInBounds_toArray,List.set_cons_zero,List.set_cons_succ];refine wpAnyH_take (i:=16) (v:=?v29) rfl (by kernel_rfl) (by kernel_rfl) (by kernel_rfl) (fun _ _ _ h=>h) (Or.inl ⟨by rfl,?hy29⟩) (by assumption) ?rest29
    case hy29=>(intro w hSw;(try dsimp only at hSw);obtain⟨z1,z2,z3,z4,z5,z6⟩:=hSw;go_simp;all_goals (with_reducible rfl))
    simp only[Act.put,List.getElem_toArray,List.getElem_cons_zero,List.getElem_cons_succ,List.setIfInBounds_toArray,List.set_cons_zero,List.set_cons_succ];refine wpAnyH_take (i:=17) (v:=?v30) rfl (by kernel_rfl) (by kernel_rfl) (by kernel_rfl) (fun _ _ _ h=>h) (Or.inl ⟨by rfl,?hy30⟩) (by assumption) ?rest30
    case hy30=>(intro w hSw;(try dsimp only at hSw);go_simp;all_goals (with_reducible rfl))
    simp only[Act.put,List.getElem_toArray,List.getElem_cons_zero,List.getElem_cons_succ,List.setIfInBounds_toArray,List.set_cons_zero,List.set_cons_succ];refine wpAnyH_take (i:=18) (v:=?v31) rfl (by kernel_rfl) (by kernel_rfl) (by kernel_rfl) (fun _ _ _ h=>h) (Or.inl ⟨by rfl,?hy31⟩) (by assumption) ?rest31
    case hy31=>(intro w hSw;(try dsimp only at hSw);obtain⟨z1,z2,z3,z4,z5,z6⟩:=hSw;go_simp;all_goals (with_reducible rfl))
    simp only[Act.put,List.getElem_toArray,List.getElem_cons_zero,List.getElem_cons_succ,List.setIfInBounds_toArray,List.set_cons_zero,List.set_cons_succ];refine wpAnyH_ready (rs:=[19]) (by kernel_rfl) (by simp) ?_;refine AllReadyH.cons rfl (fun K hK=>?_) AllReadyH.nil
    go_simp
    go_wp2_with (go_at_call 90;refine(MB _).mono ?_;rintro e w4 ⟨rfl,B4⟩;have KF:=keep6 B4 KD.1 KD.2 KE;have KG:=keep2 B4 KD);refine hK.out _ _ KF (fun hHeld=>?_);clear hK K;refine wpAnyH_take (i:=20) (v:=?v32) rfl (by kernel_rfl) (by kernel_rfl) (by kernel_rfl) (fun _ _ _ h=>h) (Or.inl ⟨by rfl,?hy32⟩) (by assumption) ?rest32
    case hy32=>(intro w hSw;(try dsimp only at hSw);go_simp;all_goals (with_reducible rfl))
    simp only[Act.put,List.getElem_toArray,List.getElem_cons_zero,List.getElem_cons_succ,List.setIfInBounds_toArray,List.set_cons_zero,List.set_cons_succ];refine wpAnyH_take (i:=21) (v:=?v33) rfl (by kernel_rfl) (by kernel_rfl) (by kernel_rfl) (fun _ _ _ h=>h) (Or.inl ⟨by rfl,?hy33⟩) (by assumption) ?rest33
    case hy33=>(intro w hSw;(try dsimp only at hSw);go_simp;all_goals (with_reducible rfl))
    simp only[Act.put,List.getElem_toArray,List.getElem_cons_zero,List.getElem_cons_succ,List.setIfInBounds_toArray,List.set_cons_zero,List.set_cons_succ];refine wpAnyH_done (by kernel_rfl) ?_ _;go_wp2;go_ret;exact⟨rfl,(BB.drew.trans (B3.mono BB.size)).trans (B4.mono (Nat.le_trans BB.size B3.size))⟩
   ·rw[hmb] at MB;rw[Bool.true_and,Bool.true_and];have hal':=fun h=>hal h hma;obtain⟨X,hX⟩:∃X:Bool,X=(if (o:Int)=1/\(b:Int)=2 then mayB c 2 (c.cs.getD a 0) else if (o:Int)=2 then decide (0<=c.cs.getD a 0) else true):=⟨_,rfl⟩
    rw[<-hX];have HX2:Hid (X=(if (o:Int)=1/\(b:Int)=2 then mayB c 2 (c.cs.getD a 0) else if (o:Int)=2 then decide (0<=c.cs.getD a 0) else true)):=hX;clear hX hal;go_enter Tryz.func91,Tryz.ntmps91;go_wp2_with fail;rw[<-hw1];refine(HP _ T1).mono ?_;rintro e w2 ⟨rfl,B2⟩;rw[<-HB0.out];have R2:=R1.below B2;have KA:1<w2.heap.size/\b0G<w2.heap.size:=⟨R2.1,Nat.lt_of_lt_of_le L1 B2.size⟩
    have KC:w2.cell? ⟨b0G,0,none⟩=some (.slice p.aw c.ws.length p.cw)/\w2.cell? ⟨b0G,1,none⟩=some (.slice p.ac c.cs.length p.cc)/\w2.cell? ⟨b0G,2,none⟩=some (.slice p.an c.ns.length p.cn)/\w2.cell? ⟨b0G,3,none⟩=some (.slice p.ak c.ks.length p.ck) :=
     ⟨(B2.cell (p:=⟨b0G,0,none⟩) L1).trans K1.1,(B2.cell (p:=⟨b0G,1,none⟩) L1).trans K1.2.1,(B2.cell (p:=⟨b0G,2,none⟩) L1).trans K1.2.2.1,(B2.cell (p:=⟨b0G,3,none⟩) L1).trans K1.2.2.2⟩
    have KB:(fun wx=>wx.cell? ⟨1,o*2,none⟩=some (.int .i64 (ra:Nat))/\wx.cell? ⟨1,o*2+1,none⟩=some (.int .i64 (rb:Nat))/\wx.cell? ⟨b0G,0,none⟩=some (.slice p.aw c.ws.length p.cw)/\wx.cell? ⟨b0G,1,none⟩=some (.slice p.ac c.cs.length p.cc)/\wx.cell? ⟨b0G,2,none⟩=some (.slice p.an c.ns.length p.cn)/\wx.cell? ⟨b0G,3,none⟩=some (.slice p.ak c.ks.length p.ck)) w2:=⟨(HX _ R2).1,(HX _ R2).2,KC⟩
    simp only at KB;have BB:=B1.trans (B2.mono B1.size);have C2:=C1.below B2;clear K1 HX KC;go_wp2_with fail;refine wp_region_held_drew (S:=(fun wx=>wx.cell? ⟨1,o*2,none⟩=some (.int .i64 (ra:Nat))/\wx.cell? ⟨1,o*2+1,none⟩=some (.int .i64 (rb:Nat))/\wx.cell? ⟨b0G,0,none⟩=some (.slice p.aw c.ws.length p.cw)/\wx.cell? ⟨b0G,1,none⟩=some (.slice p.ac c.cs.length p.cc)/\wx.cell? ⟨b0G,2,none⟩=some (.slice p.an c.ns.length p.cn)/\wx.cell? ⟨b0G,3,none⟩=some (.slice p.ak c.ks.length p.ck))) (by kernel_rfl) KB (fun hHeld=>?_);refine wpAnyH_take (i:=0) (v:=?v34) rfl (by kernel_rfl) (by kernel_rfl) (by kernel_rfl) (fun _ _ _ h=>h) (Or.inl ⟨by rfl,?hy34⟩) (by assumption) ?rest34
    case hy34=>(intro w hSw;(try dsimp only at hSw);go_simp;all_goals (with_reducible rfl))
    simp only[Act.put,List.getElem_toArray,List.getElem_cons_zero,List.getElem_cons_succ,List.setIfInBounds_toArray,List.set_cons_zero,List.set_cons_succ];refine wpAnyH_take (i:=1) (v:=?v35) rfl (by kernel_rfl) (by kernel_rfl) (by kernel_rfl) (fun _ _ _ h=>h) (Or.inl ⟨by rfl,?hy35⟩) (by assumption) ?rest35
    case hy35=>(intro w hSw;(try dsimp only at hSw);go_simp;all_goals (with_reducible rfl))
    simp only[Act.put,List.getElem_toArray,List.getElem_cons_zero,List.getElem_cons_succ,List.setIfInBounds_toArray,List.set_cons_zero,List.set_cons_succ];refine wpAnyH_take (i:=2) (v:=?v36) rfl (by kernel_rfl) (by kernel_rfl) (by kernel_rfl) (fun _ _ _ h=>h) (Or.inl ⟨by rfl,?hy36⟩) (by assumption) ?rest36
    case hy36=>(intro w hSw;(try dsimp only at hSw);go_simp;all_goals (with_reducible rfl))
    simp only[Act.put,List.getElem_toArray,List.getElem_cons_zero,List.getElem_cons_succ,List.setIfInBounds_toArray,List.set_cons_zero,List.set_cons_succ];refine wpAnyH_take (i:=3) (v:=?v37) rfl (by kernel_rfl) (by kernel_rfl) (by kernel_rfl) (fun _ _ _ h=>h) (Or.inl ⟨by rfl,?hy37⟩) (by assumption) ?rest37
    case hy37=>(intro w hSw;(try dsimp only at hSw);go_simp;all_goals (with_reducible rfl))
    simp only[Act.put,List.getElem_toArray,List.getElem_cons_zero,List.getElem_cons_succ,List.setIfInBounds_toArray,List.set_cons_zero,List.set_cons_succ];refine wpAnyH_take (i:=4) (v:=?v38) rfl (by kernel_rfl) (by kernel_rfl) (by kernel_rfl) (fun _ _ _ h=>h) (Or.inl ⟨by rfl,?hy38⟩) (by assumption) ?rest38
    case hy38=>(intro w hSw;(try dsimp only at hSw);go_simp;all_goals (with_reducible rfl))
    simp only[Act.put,List.getElem_toArray,List.getElem_cons_zero,List.getElem_cons_succ,List.setIfInBounds_toArray,List.set_cons_zero,List.set_cons_succ];refine wpAnyH_take (i:=5) (v:=?v39) rfl (by kernel_rfl) (by kernel_rfl) (by kernel_rfl) (fun _ _ _ h=>h) (Or.inl ⟨by rfl,?hy39⟩) (by assumption) ?rest39
    case hy39=>(intro w hSw;(try dsimp only at hSw);go_simp;all_goals (with_reducible rfl))
    simp only[Act.put,List.getElem_toArray,List.getElem_cons_zero,List.getElem_cons_succ,List.setIfInBounds_toArray,List.set_cons_zero,List.set_cons_succ];refine wpAnyH_take (i:=6) (v:=?v40) rfl (by kernel_rfl) (by kernel_rfl) (by kernel_rfl) (fun _ _ _ h=>h) (Or.inl ⟨by rfl,?hy40⟩) (by assumption) ?rest40
    case hy40=>(intro w hSw;(try dsimp only at hSw);obtain⟨z1,z2,z3,z4,z5,z6⟩:=hSw;go_simp;all_goals (with_reducible rfl))
    simp only[Act.put,List.getElem_toArray,List.getElem_cons_zero,List.getElem_cons_succ,List.setIfInBounds_toArray,List.set_cons_zero,List.set_cons_succ];refine wpAnyH_take (i:=7) (v:=?v41) rfl (by kernel_rfl) (by kernel_rfl) (by kernel_rfl) (fun _ _ _ h=>h) (Or.inl ⟨by rfl,?hy41⟩) (by assumption) ?rest41
    case hy41=>(intro w hSw;(try dsimp only at hSw);go_simp;all_goals (with_reducible rfl))
    simp only[Act.put,List.getElem_toArray,List.getElem_cons_zero,List.getElem_cons_succ,List.setIfInBounds_toArray,List.set_cons_zero,List.set_cons_succ];refine wpAnyH_take (i:=8) (v:=?v42) rfl (by kernel_rfl) (by kernel_rfl) (by kernel_rfl) (fun _ _ _ h=>h) (Or.inl ⟨by rfl,?hy42⟩) (by assumption) ?rest42
    case hy42=>(intro w hSw;(try dsimp only at hSw);obtain⟨z1,z2,z3,z4,z5,z6⟩:=hSw;go_simp;all_goals (with_reducible rfl))
    simp only[Act.put,List.getElem_toArray,List.getElem_cons_zero,List.getElem_cons_succ,List.setIfInBounds_toArray,List.set_cons_zero,List.set_cons_succ];refine wpAnyH_ready (rs:=[9]) (by kernel_rfl) (by simp) ?_;refine AllReadyH.cons rfl (fun K hK=>?_) AllReadyH.nil
    go_simp
    go_wp2_with (go_at_call 90;refine(MA _).mono ?_;rintro e w3 ⟨rfl,B3⟩;have KE:=keep6 B3 KA.1 KA.2 KB;have KD:=keep2 B3 KA);refine hK.out _ _ KE (fun hHeld=>?_);clear hK K;refine wpAnyH_take (i:=10) (v:=?v43) rfl (by kernel_rfl) (by kernel_rfl) (by kernel_rfl) (fun _ _ _ h=>h) (Or.inl ⟨by rfl,?hy43⟩) (by assumption) ?rest43
    case hy43=>(intro w hSw;(try dsimp only at hSw);go_simp;all_goals (with_reducible rfl))
    simp only[Act.put,List.getElem_toArray,List.getElem_cons_zero,List.getElem_cons_succ,List.setIfInBounds_toArray,List.set_cons_zero,List.set_cons_succ];refine wpAnyH_take (i:=11) (v:=?v44) rfl (by kernel_rfl) (by kernel_rfl) (by kernel_rfl) (fun _ _ _ h=>h) (Or.inl ⟨by rfl,?hy44⟩) (by assumption) ?rest44
    case hy44=>(intro w hSw;(try dsimp only at hSw);go_simp;all_goals (with_reducible rfl))
    simp only[Act.put,List.getElem_toArray,List.getElem_cons_zero,List.getElem_cons_succ,List.setIfInBounds_toArray,List.set_cons_zero,List.set_cons_succ];refine wpAnyH_take (i:=12) (v:=?v45) rfl (by kernel_rfl) (by kernel_rfl) (by kernel_rfl) (fun _ _ _ h=>h) (Or.inl ⟨by rfl,?hy45⟩) (by assumption) ?rest45
    case hy45=>(intro w hSw;(try dsimp only at hSw);go_simp;all_goals (with_reducible rfl))
    simp only[Act.put,List.getElem_toArray,List.getElem_cons_zero,List.getElem_cons_succ,List.setIfInBounds_toArray,List.set_cons_zero,List.set_cons_succ];refine wpAnyH_take (i:=13) (v:=?v46) rfl (by kernel_rfl) (by kernel_rfl) (by kernel_rfl) (fun _ _ _ h=>h) (Or.inl ⟨by rfl,?hy46⟩) (by assumption) ?rest46
    case hy46=>(intro w hSw;(try dsimp only at hSw);go_simp;all_goals (with_reducible rfl))
    simp only[Act.put,List.getElem_toArray,List.getElem_cons_zero,List.getElem_cons_succ,List.setIfInBounds_toArray,List.set_cons_zero,List.set_cons_succ];refine wpAnyH_take (i:=14) (v:=?v47) rfl (by kernel_rfl) (by kernel_rfl) (by kernel_rfl) (fun _ _ _ h=>h) (Or.inl ⟨by rfl,?hy47⟩) (by assumption) ?rest47
    case hy47=>(intro w hSw;(try dsimp only at hSw);go_simp;all_goals (with_reducible rfl))
    simp only[Act.put,List.getElem_toArray,List.getElem_cons_zero,List.getElem_cons_succ,List.setIfInBounds_toArray,List.set_cons_zero,List.set_cons_succ];refine wpAnyH_take (i:=15) (v:=?v48) rfl (by kernel_rfl) (by kernel_rfl) (by kernel_rfl) (fun _ _ _ h=>h) (Or.inl ⟨by rfl,?hy48⟩) (by assumption) ?rest48
    case hy48=>(intro w hSw;(try dsimp only at hSw);go_simp;all_goals (with_reducible rfl))
    simp only[Act.put,List.getElem_toArray,List.getElem_cons_zero,List.getElem_cons_succ,List.setIfInBounds_toArray,List.set_cons_zero,List.set_cons_succ];refine wpAnyH_take (i:=16) (v:=?v49) rfl (by kernel_rfl) (by kernel_rfl) (by kernel_rfl) (fun _ _ _ h=>h) (Or.inl ⟨by rfl,?hy49⟩) (by assumption) ?rest49
    case hy49=>(intro w hSw;(try dsimp only at hSw);obtain⟨z1,z2,z3,z4,z5,z6⟩:=hSw;go_simp;all_goals (with_reducible rfl))
    simp only[Act.put,List.getElem_toArray,List.getElem_cons_zero,List.getElem_cons_succ,List.setIfInBounds_toArray,List.set_cons_zero,List.set_cons_succ];refine wpAnyH_take (i:=17) (v:=?v50) rfl (by kernel_rfl) (by kernel_rfl) (by kernel_rfl) (fun _ _ _ h=>h) (Or.inl ⟨by rfl,?hy50⟩) (by assumption) ?rest50
    case hy50=>(intro w hSw;(try dsimp only at hSw);go_simp;all_goals (with_reducible rfl))
    simp only[Act.put,List.getElem_toArray,List.getElem_cons_zero,List.getElem_cons_succ,List.setIfInBounds_toArray,List.set_cons_zero,List.set_cons_succ];refine wpAnyH_take (i:=18) (v:=?v51) rfl (by kernel_rfl) (by kernel_rfl) (by kernel_rfl) (fun _ _ _ h=>h) (Or.inl ⟨by rfl,?hy51⟩) (by assumption) ?rest51
    case hy51=>(intro w hSw;(try dsimp only at hSw);obtain⟨z1,z2,z3,z4,z5,z6⟩:=hSw;go_simp;all_goals (with_reducible rfl))
    simp only[Act.put,List.getElem_toArray,List.getElem_cons_zero,List.getElem_cons_succ,List.setIfInBounds_toArray,List.set_cons_zero,List.set_cons_succ];refine wpAnyH_ready (rs:=[19]) (by kernel_rfl) (by simp) ?_;refine AllReadyH.cons rfl (fun K hK=>?_) AllReadyH.nil
    go_simp
    go_wp2_with (go_at_call 90;refine(MB _).mono ?_;rintro e w4 ⟨rfl,B4⟩;have KF:=keep6 B4 KD.1 KD.2 KE;have KG:=keep2 B4 KD);refine hK.out _ _ KF (fun hHeld=>?_);clear hK K;refine wpAnyH_take (i:=20) (v:=?v52) rfl (by kernel_rfl) (by kernel_rfl) (by kernel_rfl) (fun _ _ _ h=>h) (Or.inl ⟨by rfl,?hy52⟩) (by assumption) ?rest52
    case hy52=>(intro w hSw;(try dsimp only at hSw);go_simp;all_goals (with_reducible rfl))
    simp only[Act.put,List.getElem_toArray,List.getElem_cons_zero,List.getElem_cons_succ,List.setIfInBounds_toArray,List.set_cons_zero,List.set_cons_succ];refine wpAnyH_take (i:=21) (v:=?v53) rfl (by kernel_rfl) (by kernel_rfl) (by kernel_rfl) (fun _ _ _ h=>h) (Or.inl ⟨by rfl,?hy53⟩) (by assumption) ?rest53
    case hy53=>(intro w hSw;(try dsimp only at hSw);go_simp;all_goals (with_reducible rfl))
    simp only[Act.put,List.getElem_toArray,List.getElem_cons_zero,List.getElem_cons_succ,List.setIfInBounds_toArray,List.set_cons_zero,List.set_cons_succ];refine wpAnyH_done (by kernel_rfl) ?_ _;have B5:=(BB.drew.trans (B3.mono BB.size)).trans (B4.mono (Nat.le_trans BB.size B3.size));have C4:=((C2.below (Below.refl _ w2).drew).below B3).below B4;clear MA MB hHeld B3 B4 BB B2 KB KE KA KD B1 C2 C1 R1 R2 T1;obtain⟨-,-,k0,k1,k2,k3⟩:=KF;by_cases o1:o=1
    ·have hlt:=hal' (h12 (.inl o1));obtain⟨cb,co,hac,hcb,hcx⟩:=C4.cs.at (isV_at hlt);have hl4:=C4.lc;have MC:=fun w=>may_c 2 (by omega) (c.cs.getD a 0) p c w C4.lc C4.ln C4.lk;have oI:(o:Int)=1:=by omega
     have haI:(a:Int)<(c.cs.length:Int):=by omega
     by_cases hb2:b=2
     ·have bI:(b:Int)=2:=by omega
      have fin:X=mayB c 2 (c.cs.getD a 0):=by rw[HX2.out,if_pos ⟨oI,bI⟩]
      clear HX2 hal' h12;rw[<-fin] at MC;clear fin;generalize c.cs.getD a 0=z at MC hcx;rw[hac] at k1;have KH:w4.cell? ⟨cb,co+a,none⟩=some (.int .i64 z)/\w4.cell? ⟨b0G,0,none⟩=some (.slice p.aw c.ws.length p.cw)/\w4.cell? ⟨b0G,1,none⟩=some (.slice (some ⟨cb,co,none⟩) c.cs.length p.cc)/\w4.cell? ⟨b0G,2,none⟩=some (.slice p.an c.ns.length p.cn)/\w4.cell? ⟨b0G,3,none⟩=some (.slice p.ak c.ks.length p.ck):=⟨hcx,k0,k1,k2,k3⟩
      unfold cdV cdA at MC;rw[hac] at MC;go_wp2_with fail;go_region_held3 (fun wx=>wx.cell? ⟨cb,co+a,none⟩=some (.int .i64 z)/\wx.cell? ⟨b0G,0,none⟩=some (.slice p.aw c.ws.length p.cw)/\wx.cell? ⟨b0G,1,none⟩=some (.slice (some ⟨cb,co,none⟩) c.cs.length p.cc)/\wx.cell? ⟨b0G,2,none⟩=some (.slice p.an c.ns.length p.cn)/\wx.cell? ⟨b0G,3,none⟩=some (.slice p.ak c.ks.length p.ck)) (first|exact KH|go_keep) ((go_at_call 90;refine(MC _).mono ?_;rintro e w5 ⟨rfl,B6⟩;have KH:=keep5 B6 hcb KG.2 KH));go_wp2;go_ret;exact⟨rfl,B5.drew.trans (B6.mono B5.size)⟩
     ·have bI:¬(b:Int)=2:=by omega
      have fin:X=true:=by rw[HX2.out,if_neg (fun h=>bI h.2),if_neg (by omega)]
      clear HX2 hal' h12;subst fin;go_wp2;go_ret;exact⟨rfl,B5⟩
    ·have oI:¬(o:Int)=1:=by omega
     by_cases o2:o=2
     ·have hlt:=hal' (h12 (.inr o2));obtain⟨cb,co,hac,hcb,hcx⟩:=C4.cs.at (isV_at hlt);have hl4:=C4.lc;have oJ:(o:Int)=2:=by omega
      have haI:(a:Int)<(c.cs.length:Int):=by omega
      have fin:X=decide (0<=c.cs.getD a 0):=by rw[HX2.out,if_neg (fun h=>oI h.1),if_pos oJ]
      clear HX2 hal' h12;generalize c.cs.getD a 0=z at hcx fin;have FN:=Lib.hid fin;clear fin;rw[hac] at k1;go_wp2;go_ret;exact⟨by rw[FN.out];rfl,B5⟩
     ·have oJ:¬(o:Int)=2:=by omega
      have fin:X=true:=by rw[HX2.out,if_neg (fun h=>oI h.1),if_neg oJ]
      clear HX2 hal' h12;subst fin;go_wp2;go_ret;exact⟨rfl,B5⟩
 ·have fin:wrdP c o a b=false:=by
   have:decide ((o:Int)<28)=false:=by simp;omega
   unfold wrdP;rw[this];rfl
  rw[fin];have g28:(28:Int)<=(o:Int):=by omega
  go_enter Tryz.func91,Tryz.ntmps91;go_wp2_with fail;rw[<-hw1];refine(HP _ T1).mono ?_;rintro e w2 ⟨rfl,B2⟩;go_wp2_with fail
  go_quiet (fail)
  go_wp2;go_ret;exact⟨rfl,B1.trans ((B2.trans ((below_drewNG _ _).mono B2.size)).mono B1.size)⟩
theorem wordRight_c (u:Int)(h1:0<=u)(h2:u<18446744073709551616)(p:Pl)(c:Cd)(w:World)(hT:TabG w)(hR:Rul w)(hC:CdW w p c) :
  Calls Tryz.prog 91 #[.int .u64 u,cdV p c] w fun e w'=>e=.returned (.bool (wrdB c u))/\Below w.heap.size w w':=by
 obtain⟨o,ho⟩:=Int.eq_ofNat_of_zero_le (show 0<=u / 72057594037927936 by omega);obtain⟨a,ha⟩:=Int.eq_ofNat_of_zero_le (show 0<=u / 268435456 % 268435456 by omega);obtain⟨b,hb⟩:=Int.eq_ofNat_of_zero_le (show 0<=u % 268435456 by omega);have e:wrdB c u=wrdP c o a b:=by
  unfold wrdB;rw[show opW u=(o:Int) from ho,show aW u=(a:Int) from ha,show bW u=(b:Int) from hb,wrd_same c o a b (by omega) (by omega) (by omega) (by omega) (by omega)]
 rw[e];exact word_walk u o a b ho ha hb h1 h2 p c w hT hR hC
end Go.Proofs.YtkhgahljbpmfaaaGreatDoor

import Derived.Test.YtkhgahljbpmfaaaGreatDoorDocC
set_option maxRecDepth 100000
set_option maxHeartbeats 8000000
namespace Go.Proofs.YtkhgahljbpmfaaaGreatDoor
open Option renaming none->G0,some->G1,isSome_some->JW,isSome_none->JX
open Nat renaming le_refl->G4,lt_of_lt_of_le->Hh,le_trans->In,not_lt_zero->Ir,add_zero->Is,le_succ->Iv,zero_add->Ix,zero_mul->I4,zero_le->JI,eq_zero_or_pos->JY,one_mul->J8,lt_or_ge->Kc,sub_self->Kk
open Go.Proofs.Tryz renaming prog->G5,underlying35->Iu,results120->Jg,results72->Kv,results28->Kw
open Go renaming World->G9,lt_of_block->Ha,bodyPost_ret->Hb,heap_alloc_new->Hc,Value->He,results->Hk,heap_setCell_other->Hl,Calls->Hn,maxLen->Hu,Addr->Hw,TypeId->Il,Ending->Ja
open List renaming getElem?_eq_getElem->Hd,getElem?_eq_none->Ie,mem_of_find?_eq_some->Ii,replicate->Ik,not_mem_nil->IP,mem_cons->IR,mem_of_getElem?->IT,nil_append->I1,cons_append->Jh,find?_some->Jm,eq_nil_of_length_eq_zero->Jt,append_assoc->JL,append_nil->J1,map_append->Kn
open Go.RowKit renaming Below->Hf,intOf->Ih,wrap64->Io
open Go.Lib renaming hid->Hg
open Go.RowKit.Below renaming refl->Hi,heap_alloc->Hj
open Bool renaming and_eq_true->Ia,or_eq_true->Jn,true_and->JM
open Go.World renaming cell?_of_block->Ho,alloc->IB
open Go.Value renaming int->Hp
open Exists renaming intro->Hv
open Int renaming toNat_natCast->IE
open Go.IntKind renaming wrap_i64->II
open Go.Value.slice renaming injEq->IS
open Option.some renaming injEq->Ji
open Go.AllReadyH renaming cons->Js
open Classical renaming byContradiction->JE
open Ne renaming symm->JP
open Go.ChangeShapes Go.WideShapes Go.ChangeAt Go.RowKit
set_option linter.unusedVariables false
set_option linter.unusedSimpArgs false
theorem fA.kid {e:Ex}{d r:Fs}{x:Ex}(h:fA e)(hk:e.kids=d.app (Fs.ex x r)):fA x:=by
 have:=Fs.app_short (x:=d) (y:=Fs.ex x r) (by rw[<-hk];exact h.sh)
 exact⟨this.1,this.2.1,this.2.2.1⟩
theorem WD.okc {w:G9}{wb kb:Nat}{bv:He}{nc:Nat}{st:Dg}(h:WD w wb kb bv nc st):∃a1 a2,w.heap[wb]?=G1 (.cells #[bv,a1,a2,.bool st.isSome] 162 (0,0)):=by
 cases st with
 | none=>obtain⟨-,p,kv,h⟩:=h;exact⟨_,_,h⟩
 | some s=>exact⟨_,_,h.1⟩
theorem jY {N:Nat}(IH:lX N)(e:Ex)(ao:Option Hw)(cap wb kb:Nat)(bv:He)(cells:List Int)(ar wi:Nat)(m g:Int)(st:Dg)(w:G9)(hN:e.kids.size<=N)(hf:fA e)(hwi:wi<=4)(har:ar<=wi)(hne:wb≠kb)(hm:m≠4)(h:WD w wb kb bv cells.length st)(hn:Inw w (Nf2 wb kb) bv cells)(S:SlN w (Nf2 wb kb) e.kids ao) :
  Hn G5 173 #[.pointer (G1 ⟨wb,0,G0⟩),exN e ao cap,.int .i64 (ar:Nat),.int .i64 (wi:Nat),.int .i64 m,.int .i64 g] w λz w'=>z=.returned (.int .i64 g)/\WD w' wb kb bv cells.length (fE cells e.kids st m ar wi)/\Kp wb kb w w':=by
 obtain⟨Z,hZ⟩:∃Z,Z=fE cells e.kids st m ar wi:=⟨_,rfl⟩;rw[<-hZ];have HZ:Hid (Z=fE cells e.kids st m ar wi):=hZ;clear hZ;have hlen:=hf.len;have B0:Hf w.heap.size w (w.alloc (.cells #[.int .i64 e.k,.int .i64 e.n,stv e.nm,.slice ao e.kids.len cap] 34)):=(Hi _ w).alloc (G4 _) _;have E0:(w.alloc (.cells #[.int .i64 e.k,.int .i64 e.n,stv e.nm,.slice ao e.kids.len cap] 34)).heap[w.heap.size]?=G1 (.cells #[.int .i64 e.k,.int .i64 e.n,stv e.nm,.slice ao e.kids.len cap] 34):=Hc w _;have W0:=h.below B0;have S0:=S.belowP B0;have N0:=hn.below B0;have hwb:=h.lt;have hkb:=h.ltk;clear h S hn;rw[dR];go_enter Tryz.func173,Tryz.ntmps173;go_upto_region 1 with fail;generalize w.alloc (.cells #[.int .i64 e.k,.int .i64 e.n,stv e.nm,.slice ao e.kids.len cap] 34)=w0 at *;have KK:Kp wb kb w w0:=Kp.ofBelow B0;obtain⟨bx,hbx⟩:∃bx,bx=w.heap.size:=⟨_,rfl⟩;rw[<-hbx] at E0 ⊢;have hb1:bx≠wb:=by omega
 have hb2:bx≠kb:=by omega
 clear hbx hwb hkb;go_wp2;go_loopw [13] (λv wr=>∃(d r:Fs) (st':Dg),Hid (e.kids=d.app r)/\v=.int .i64 (d.len:Nat)/\Hid (fE cells r st' m ar wi=Z)/\WD wr wb kb bv cells.length st'/\wr.heap[bx]?=G1 (.cells #[.int .i64 e.k,.int .i64 e.n,stv e.nm,.slice ao e.kids.len cap] 34)/\Inw wr (Nf2 wb kb) bv cells/\SlN wr (Nf2 wb kb) e.kids ao/\Kp wb kb w wr) (λv _=>e.kids.len-(Ih v).toNat)
 case atStart=>exact⟨.nil,e.kids,st,rfl,by show _=Hp .i64 ((0:Nat):Int);rfl,HZ.out.symm,W0,E0,N0,S0,KK⟩
 case round =>
  clear E0 B0 HZ W0 N0 S0 KK;obtain⟨d,r,st',hk,rfl,HA,W1,E1,N1,S1,K1⟩:=hrel;have hlk:e.kids.len=d.len+r.len:=by rw[hk.out,Fs.len_app]
  obtain⟨p0,p1,p2,p3,pf⟩:=ep E1;cases r using Fs.on with
  | nil =>
   have hlt:¬(d.len:Int)<(e.kids.len:Int):=by simp only[Fs.len] at hlk;omega
   have FIN:Hid (WD wr wb kb bv cells.length Z/\Kp wb kb w wr):=by rw[<-HA.out];exact⟨W1,K1⟩
   clear HA hlk W1 K1 N1 S1 E1;go_wp2;go_ret;exact⟨rfl,FIN.out.1,FIN.out.2⟩
  | Js kk kn km ka kks kr =>
   have hlt:(d.len:Int)<(e.kids.len:Int):=by simp only[Fs.len] at hlk;omega
   have hl3:d.len<e.kids.len:=by omega
   have hsz:e.kids.size=d.size+(kks.size+kr.size+1):=by rw[hk.out,Fs.size_app];rfl
   have hfk:fA ⟨kk,kn,km,ka,kks⟩:=hf.kid (d:=d) (r:=kr) hk.out;obtain⟨b,off,ak,ck,hao,lb1,-,x0,x1,x2,x3,SK⟩:=SlN.kidQ (by rw[<-hk.out];exact S1);subst hao;have c1:=lK IH ⟨kk,kn,km,ka,kks⟩ ak ck wb kb bv cells ar wi m st' wr (λ_=>by show kks.size<N;omega) hfk hwi har hne (λ_=>hm) W1 N1 SK;rw[dR] at c1;simp only at c1;have HA2:Hid (fE cells kr (eW cells st' m ⟨kk,kn,km,ka,kks⟩ ar wi) m ar wi=Z):=HA.out;have hk2:Hid (e.kids=(d.snoc ⟨kk,kn,km,ka,kks⟩).app kr):=by show e.kids=_;rw[hk.out];unfold Fs.snoc;rw[Fs.app_assoc];rfl
   have hl2:(d.len:Int)+1=((d.snoc ⟨kk,kn,km,ka,kks⟩).len:Nat):=by rw[Fs.len_snoc];rfl
   generalize eW cells st' m ⟨kk,kn,km,ka,kks⟩ ar wi=st2 at *;clear HA hlk hsz hfk SK hk W1;go_wp2_with fail;refine c1.mono ?_;rintro x w2 ⟨rfl,W2,k2⟩;have E2:=(k2.block bx (Ha E1) hb1 hb2).trans E1;have N2:=N1.kp k2;have S2:=S1.kp k2;have K2:=K1.trans k2;clear c1 x0 x1 x2 x3 p0 p1 p2 p3 pf k2 E1 K1 N1 S1;go_wp2;go_roundw
   case rel=>exact⟨_,kr,st2,hk2,by rw[<-hl2],HA2,W2,E2,N2,S2,K2⟩
   case measure=>simp[Ih];omega
theorem Aj (ks:List Int)(i:Nat):wkP ks i≠4:=by
 unfold wkP;split
 ·split<;>omega
 ·omega
theorem yz {k n:Int}{kd:List Int}(h:(eK k n kd).2=4):22<=k/\k<=25:=by
 apply JE;intro hc;have h0:=Aj kd 0;have h1:=Aj kd 1;have hk:(1<=k/\k<=3)\/(5<=k/\k<=26):=pg (by rw[h];decide);have hc2:k=1\/k=2\/k=3\/k=5\/k=6\/k=7\/k=8\/k=9\/k=10\/k=11\/k=12\/k=13\/k=14\/k=15\/k=16\/k=17\/k=18\/k=19\/k=20\/k=21\/k=26:=by omega
 rcases hc2 with rfl|rfl|rfl|rfl|rfl|rfl|rfl|rfl|rfl|rfl|rfl|rfl|rfl|rfl|rfl|rfl|rfl|rfl|rfl|rfl|rfl<;>simp[eK,h0,h1] at h
 all_goals (
  revert h
  split
  ·simp
  ·split
   ·simp
   ·first|(split<;>simp)|simp)
theorem Bb {cells:List Int}{s:Rg}{m:Int}{e:Ex}{ar wi:Nat}(h:4096<s.1+1):eW cells (G1 s) m e ar wi=G0:=by
 simp only[eW];rw[jO (λhg=>hg (.inl h))]
theorem sW {cells:List Int}{s:Rg}{e:Ex}{ar wi:Nat}(h:e.k<22\/25<e.k):eW cells (G1 s) 4 e ar wi=G0:=by
 simp only[eW];cases hr:rgE cells e ar wi s with
 | none=>rfl
 | some z =>
  obtain⟨s',k⟩:=z;simp only;split
  ·rename_i hk
   obtain⟨-,s1,kd,-,-,-,-,h5,-⟩:=gN hr
   have:=yz (h5.symm.trans hk)
   omega
  ·rfl
theorem AF {cells:List Int}{s:Rg}{m:Int}{e:Ex}{ar wi:Nat}(h:eg e.k e.n e.nm e.kids.len=false):eW cells (G1 s) m e ar wi=G0:=by
 simp only[eW];rw[tA h]
theorem Dz {cells:List Int}{s:Rg}{e:Ex}{ar wi:Nat}(h:eg e.k e.n e.nm e.kids.len=true)(hk:22<=e.k/\e.k<=25)(hs:s.1+1<=4096)(hw:wi<=4):eW cells (G1 s) 4 e ar wi=fE cells e.kids (G1 (s.1+1,s.2)) 3 ar wi:=by
 have hg:gdE cells e ar wi s:=li h hs hw (λh5=>by omega) (λh6=>by omega);have hf:∀ kd:List Int,kd.length=e.kids.len->eK e.k e.n kd=(Ik e.kids.len 3,4):=by
  intro kd hl;have hc:e.k=22\/e.k=23\/e.k=24\/e.k=25:=by omega
  rcases hc with hc|hc|hc|hc<;>rw[hc] at h ⊢<;>simp[eg] at h
  ·rw[h.2.2];rfl
  ·rw[h.2.1];rfl
  ·rw[h.2.2];rfl
  ·rw[<-hl];rfl
 simp only[eW];rw[zV 3 4 hg (by omega) (by omega) hf (by omega)];cases fE cells e.kids (G1 (s.1+1,s.2)) 3 ar wi with
 | none=>rfl
 | some s'=>rfl
theorem KT.set {w:G9}{wb kb nc:Nat}{t:Nat->Option Ex}(h:KT w (Nf2 wb kb) kb nc t)(p:Hw)(v:He)(hp:p.block=wb)(hne:wb≠kb):KT (w.setCell p v) (Nf2 wb kb) kb nc t :=
 h.mono (Hl w p kb v (by rw[hp];exact λh=>hne h.symm)) (λk hk _=>Hl w p k v (by rw[hp];exact hk.1)) (by simp)
theorem Inw.set {w:G9}{wb kb:Nat}{bv:He}{xs:List Int}(h:Inw w (Nf2 wb kb) bv xs)(p:Hw)(v:He)(hp:p.block=wb):Inw (w.setCell p v) (Nf2 wb kb) bv xs :=
 h.mono (λk hk _=>Hl w p k v (by rw[hp];exact hk.1)) (by simp) (λ_ h _=>h)
theorem SlN.set {w:G9}{wb kb:Nat}{f:Fs}{ao:Option Hw}(h:SlN w (Nf2 wb kb) f ao)(p:Hw)(v:He)(hp:p.block=wb):SlN (w.setCell p v) (Nf2 wb kb) f ao :=
 h.mono (λk hk _=>Hl w p k v (by rw[hp];exact hk.1)) (by simp) (λ_ h _=>h)
theorem GN {N:Nat}(IH:lX N)(e:Ex)(ao:Option Hw)(cap wb kb:Nat)(bv:He)(cells:List Int)(ar wi:Nat)(s:Rg)(w:G9)(hN:e.kids.size<=N)(hf:fA e)(hwi:wi<=4)(har:ar<=wi)(hne:wb≠kb)(h:WD w wb kb bv cells.length (G1 s))(hn:Inw w (Nf2 wb kb) bv cells)(S:SlN w (Nf2 wb kb) e.kids ao) :
  Hn G5 218 #[.pointer (G1 ⟨wb,0,G0⟩),exN e ao cap,.int .i64 (ar:Nat),.int .i64 (wi:Nat)] w (jN w wb kb bv cells.length (eW cells (G1 s) 4 e ar wi)):=by
 obtain⟨Z,hZ⟩:∃Z,Z=eW cells (G1 s) 4 e ar wi:=⟨_,rfl⟩;rw[<-hZ];have HZ:Hid (Z=eW cells (G1 s) 4 e ar wi):=hZ;clear hZ;have hlen:=hf.len;have B0:Hf w.heap.size w (w.alloc (.cells #[.int .i64 e.k,.int .i64 e.n,stv e.nm,.slice ao e.kids.len cap] 34)):=(Hi _ w).alloc (G4 _) _;have E0:(w.alloc (.cells #[.int .i64 e.k,.int .i64 e.n,stv e.nm,.slice ao e.kids.len cap] 34)).heap[w.heap.size]?=G1 (.cells #[.int .i64 e.k,.int .i64 e.n,stv e.nm,.slice ao e.kids.len cap] 34):=Hc w _;have W0:=h.below B0;have S0:=S.belowP B0;have N0:=hn.below B0;have hwb:=h.lt;have hkb:=h.ltk;clear h S hn;rw[dR];go_enter Tryz.func218,Tryz.ntmps218;go_upto_region 1 with fail;generalize w.alloc (.cells #[.int .i64 e.k,.int .i64 e.n,stv e.nm,.slice ao e.kids.len cap] 34)=w0 at *;have KK:Kp wb kb w w0:=Kp.ofBelow B0;obtain⟨bx,hbx⟩:∃bx,bx=w.heap.size:=⟨_,rfl⟩;rw[<-hbx] at E0 ⊢;have hb1:bx≠wb:=by omega
 have hb2:bx≠kb:=by omega
 have hkb0:=W0.ltk;obtain⟨W0,hs,KT0⟩:=W0;obtain⟨q0,q1,q2,q3,qf⟩:=ep W0;have F1:=(kq W0 (.int .i64 ((s.1:Int)+1))).1;have K1:=KK.set ⟨wb,1,G0⟩ (.int .i64 ((s.1:Int)+1)) (.inr (.inl rfl));have E1:=(Hl w0 ⟨wb,1,G0⟩ bx (.int .i64 ((s.1:Int)+1)) hb1).trans E0;have N1:=N0.set ⟨wb,1,G0⟩ (.int .i64 ((s.1:Int)+1)) rfl;have S1:=S0.set ⟨wb,1,G0⟩ (.int .i64 ((s.1:Int)+1)) rfl;have KT1:=KT0.set ⟨wb,1,G0⟩ (.int .i64 ((s.1:Int)+1)) rfl hne;have hk1:kb<(w0.setCell ⟨wb,1,G0⟩ (.int .i64 ((s.1:Int)+1))).heap.size:=by simpa using hkb0
 clear hbx hwb hkb B0 E0 KK N0 S0 KT0 W0;go_upto_region 2 with fail;generalize w0.setCell ⟨wb,1,G0⟩ (.int .i64 ((s.1:Int)+1))=w1 at *;clear q0 q1 q2 q3 qf hkb0;obtain⟨q0,q1,q2,q3,qf⟩:=ep F1;obtain⟨p0,p1,p2,p3,pf⟩:=ep E1;have c1:=Am e ao cap w1 hf.nm;rw[dR] at c1;have BAD:∀ {w2:G9},Hid (Z=G0)->Hf w1.heap.size w1 w2->Hid (jN w wb kb bv cells.length Z (.returned (.tuple #[])) (w2.setCell ⟨wb,3,G0⟩ (.bool false))):=by
  intro w2 hz b2;refine⟨rfl,?_,(K1.trans (Kp.ofBelow b2)).set _ _ (.inr (.inl rfl))⟩;rw[hz.out];exact⟨by simpa using Hh hk1 b2.size,_,_,(kq ((b2.block _ (Ha F1)).trans F1) (.bool false)).2⟩
 by_cases hs1:4096<s.1+1
 ·have HB:=BAD (by show Z=G0;rw[HZ.out];exact Bb hs1) (Hi _ w1);have hI:(4096:Int)<(s.1:Int)+1:=by omega
  clear BAD HZ;clear c1 p1 p2 p3 N1 S1 E1 KT1;go_wp2
  go_end0
  exact HB.out
 have hI:¬(4096:Int)<(s.1:Int)+1:=by omega
 by_cases hk1:e.k<22
 ·have HB:=BAD (by show Z=G0;rw[HZ.out];exact sW (.inl hk1)) (Hi _ w1);clear BAD HZ;clear c1 p1 p2 p3 N1 S1 E1 KT1;go_wp2
  go_end0
  exact HB.out
 by_cases hk2:25<e.k
 ·have HB:=BAD (by show Z=G0;rw[HZ.out];exact sW (.inr hk2)) (Hi _ w1);clear BAD HZ;clear c1 p1 p2 p3 N1 S1 E1 KT1;go_wp2
  go_end0
  exact HB.out
 go_wp2_with fail;refine c1.mono ?_;rintro x w2 ⟨rfl,b2⟩;have F2:=(b2.block _ (Ha F1)).trans F1;have E2:=(b2.block _ (Ha E1)).trans E1;have N2:=N1.below b2;have S2:=S1.belowP b2;have hkt:=KT1;obtain⟨arr,hkx,-⟩:=hkt;have KT2:=KT1.mono (b2.block _ (Ha hkx)) (λi _ hl=>b2.block i hl) b2.size;have K2:=K1.trans (Kp.ofBelow b2);cases hd:eg e.k e.n e.nm e.kids.len with
 | false =>
  have HB:=BAD (by show Z=G0;rw[HZ.out];exact AF hd) b2;clear c1 BAD HZ q0 q1 q2 q3 qf p0 p1 p2 p3 pf hkx;obtain⟨q0,q1,q2,q3,qf⟩:=ep F2;obtain⟨p0,p1,p2,p3,pf⟩:=ep E2;clear F1 E1 N1 S1 KT1 K1 K2 KT2 N2 S2 F2 E2;go_wp2
  go_end0
  exact HB.out
 | true =>
  have HZ2:Hid (fE cells e.kids (G1 (s.1+1,s.2)) 3 ar wi=Z):=by show _=Z;rw[HZ.out];exact(Dz hd (by omega) (by omega) hwi).symm
  have W2:WD w2 wb kb bv cells.length (G1 (s.1+1,s.2)):=⟨F2,by show s.1+1<=4096;omega,KT2⟩;clear c1 BAD HZ q0 q1 q2 q3 qf p0 p1 p2 p3 pf hkx;clear F1 E1 N1 S1 KT1 K1 KT2 F2 b2 hd;go_wp2;go_loopw [8] (λv wr=>∃(d r:Fs) (st':Dg),Hid (e.kids=d.app r)/\v=.int .i64 (d.len:Nat)/\Hid (fE cells r st' 3 ar wi=Z)/\WD wr wb kb bv cells.length st'/\wr.heap[bx]?=G1 (.cells #[.int .i64 e.k,.int .i64 e.n,stv e.nm,.slice ao e.kids.len cap] 34)/\Inw wr (Nf2 wb kb) bv cells/\SlN wr (Nf2 wb kb) e.kids ao/\Kp wb kb w wr) (λv _=>e.kids.len-(Ih v).toNat)
  case atStart=>exact⟨.nil,e.kids,_,rfl,by show _=Hp .i64 ((0:Nat):Int);rfl,HZ2.out,W2,E2,N2,S2,K2⟩
  case round =>
   clear HZ2 W2 E2 N2 S2 K2;obtain⟨d,r,st',hk,rfl,HA,W1,E1,N1,S1,K1⟩:=hrel;have hlk:e.kids.len=d.len+r.len:=by rw[hk.out,Fs.len_app]
   obtain⟨p0,p1,p2,p3,pf⟩:=ep E1;obtain⟨a1,a2,V1⟩:=W1.okc;obtain⟨q0,q1,q2,q3,qf⟩:=ep V1;cases r using Fs.on with
   | nil =>
    have hlt:¬(d.len:Int)<(e.kids.len:Int):=by simp only[Fs.len] at hlk;omega
    have FIN:Hid (jN w wb kb bv cells.length Z (.returned (.tuple #[])) wr):=⟨rfl,by rw[<-HA.out];exact W1,K1⟩;clear HA hlk W1 K1 N1 S1 E1;go_wp2
    go_end0
    exact FIN.out
   | Js kk kn km ka kks kr =>
    have hlt:(d.len:Int)<(e.kids.len:Int):=by simp only[Fs.len] at hlk;omega
    have hl3:d.len<e.kids.len:=by omega
    cases st' with
    | none =>
     simp only[JX] at q3;have FIN:Hid (jN w wb kb bv cells.length Z (.returned (.tuple #[])) wr):=⟨rfl,by rw[<-HA.out,jQ];exact W1,K1⟩;clear HA hlk W1 K1 N1 S1 E1 V1;go_wp2
     go_end0
     exact FIN.out
    | some s' =>
     simp only[JW] at q3;have hsz:e.kids.size=d.size+(kks.size+kr.size+1):=by rw[hk.out,Fs.size_app];rfl
     have hfk:fA ⟨kk,kn,km,ka,kks⟩:=hf.kid (d:=d) (r:=kr) hk.out;obtain⟨b,off,ak,ck,hao,lb1,-,x0,x1,x2,x3,SK⟩:=SlN.kidQ (by rw[<-hk.out];exact S1);subst hao;have c1:=lK IH ⟨kk,kn,km,ka,kks⟩ ak ck wb kb bv cells ar wi 3 (G1 s') wr (λ_=>by show kks.size<N;omega) hfk hwi har hne (λ_=>by decide) W1 N1 SK;rw[dR] at c1;simp only at c1;have HA2:Hid (fE cells kr (eW cells (G1 s') 3 ⟨kk,kn,km,ka,kks⟩ ar wi) 3 ar wi=Z):=HA.out;have hk2:Hid (e.kids=(d.snoc ⟨kk,kn,km,ka,kks⟩).app kr):=by show e.kids=_;rw[hk.out];unfold Fs.snoc;rw[Fs.app_assoc];rfl
     have hl2:(d.len:Int)+1=((d.snoc ⟨kk,kn,km,ka,kks⟩).len:Nat):=by rw[Fs.len_snoc];rfl
     generalize eW cells (G1 s') 3 ⟨kk,kn,km,ka,kks⟩ ar wi=st2 at *;clear HA hlk hsz hfk SK hk W1 V1;go_wp2_with fail;refine c1.mono ?_;rintro x w2 ⟨rfl,W2,k2⟩;have E2:=(k2.block bx (Ha E1) hb1 hb2).trans E1;have N2:=N1.kp k2;have S2:=S1.kp k2;have K2:=K1.trans k2;clear c1 x0 x1 x2 x3 p0 p1 p2 p3 pf q0 q1 q2 q3 qf k2 E1 K1 N1 S1;go_wp2;go_roundw
     case rel=>exact⟨_,kr,st2,hk2,by rw[<-hl2],HA2,W2,E2,N2,S2,K2⟩
     case measure=>simp[Ih];omega
theorem Kp.cell {a b:Nat}{w w':G9}(h:Kp a b w w'){g:Nat}(hg:g<w.heap.size)(ha:g≠a)(hb:g≠b)(j:Nat):w'.cell? ⟨g,j,G0⟩=w.cell? ⟨g,j,G0⟩:=Ho (a:=⟨g,j,G0⟩) (h.block g hg ha hb)
theorem fQ {w w':G9}{wb kb:Nat}{bv:He}{nc:Nat}{st:Dg}{g:Int}{r:Option (Rg × Int)}(hc:r=anD st g)(W:WD w' wb kb bv nc st)(K:Kp wb kb w w'):eD w wb kb bv nc r (.returned (.int .i64 g)) w':=by
 subst hc;cases st with
 | none=>exact⟨⟨g,rfl,λs k h=>by cases h⟩,W,K⟩
 | some s=>exact⟨⟨g,rfl,λs k h=>by injection h with h;injection h⟩,W,K⟩
theorem DF {N:Nat}(IH:lX N)(e t x:Ex)(ao:Option Hw)(cap wb kb:Nat)(bv:He)(cells:List Int)(ar wi:Nat)(s:Rg)(w:G9)(hk:e.kids=Fs.ex t (Fs.ex x .nil))(hN:e.kids.size<=N)(hf:fA e)(hwi:wi<=4)(har:ar<=wi)(hne:wb≠kb)(h:WD w wb kb bv cells.length (G1 s))(hn:Inw w (Nf2 wb kb) bv cells)(S:SlN w (Nf2 wb kb) e.kids ao) :
  Hn G5 175 #[.pointer (G1 ⟨wb,0,G0⟩),exN e ao cap,.int .i64 (ar:Nat),.int .i64 (wi:Nat)] w (eD w wb kb bv cells.length (anD (eW cells (eW cells (G1 s) 4 t ar (wi+1)) (fH e.n) x (ar+1) (wi+1)) (fw e.n))):=by
 have hl:e.kids.len=2:=by rw[hk];rfl
 have HK:Hid (e.kids=Fs.ex t (Fs.ex x .nil)):=hk;have hsz:e.kids.size=t.kids.size+(x.kids.size+0+1)+1:=by rw[hk];rfl
 have hft:fA t:=hf.kid (d:=.nil) hk;have hfx:fA x:=hf.kid (d:=Fs.ex t .nil) hk;have HL:Hid (e.kids.len=2):=hl;clear hk hl;have B0:Hf w.heap.size w (w.alloc (.cells #[.int .i64 e.k,.int .i64 e.n,stv e.nm,.slice ao 2 cap] 34)):=(Hi _ w).alloc (G4 _) _;have E0:(w.alloc (.cells #[.int .i64 e.k,.int .i64 e.n,stv e.nm,.slice ao 2 cap] 34)).heap[w.heap.size]?=G1 (.cells #[.int .i64 e.k,.int .i64 e.n,stv e.nm,.slice ao 2 cap] 34):=Hc w _;have W0:=h.below B0;have S0:=S.belowP B0;have N0:=hn.below B0;have hwb:=h.lt;have hkb:=h.ltk;clear h S hn;rw[dR,HL.out];go_enter Tryz.func175,Tryz.ntmps175;go_upto_region 1 with fail;generalize w.alloc (.cells #[.int .i64 e.k,.int .i64 e.n,stv e.nm,.slice ao 2 cap] 34)=w0 at *;have KK:Kp wb kb w w0:=Kp.ofBelow B0;obtain⟨bx,hbx⟩:∃bx,bx=w.heap.size:=⟨_,rfl⟩;rw[<-hbx] at E0 ⊢;have hb1:bx≠wb:=by omega
 have hb2:bx≠kb:=by omega
 clear hbx hwb hkb B0;obtain⟨p0,p1,p2,p3,pf⟩:=ep E0;by_cases h4:wi=4
 ·subst h4;have HR:Hid (eD w wb kb bv cells.length (anD (eW cells (eW cells (G1 s) 4 t ar (4+1)) (fH e.n) x (ar+1) (4+1)) (fw e.n)) (.returned (.int .i64 0)) (w0.setCell ⟨wb,3,G0⟩ (.bool false))):=by
   rw[yw (by omega)];obtain⟨V0,-,arr,V1,-⟩:=W0;exact⟨⟨0,rfl,λs k h=>by cases h⟩,⟨by simpa using Ha V1,_,_,(kq V0 (.bool false)).2⟩,KK.set _ _ (.inr (.inl rfl))⟩
  obtain⟨V0,-,-⟩:=W0;obtain⟨q0,q1,q2,q3,qf⟩:=ep V0;clear S0 N0 KK;go_wp2;exact Hb (v:=.int .i64 0) (by simp[Hk,Tryz.results175,go_sem]) rfl HR.out
 ·have hwb:((wi:Int)==4)=false:=by simp;omega
  have S0x:SlN w0 (Nf2 wb kb) (Fs.nil.app (Fs.ex t (Fs.ex x .nil))) ao:=by rw[HK.out] at S0;exact S0
  obtain⟨gb,off,ak,ck,hao,y0,y1,y2,y3,SK⟩:=SlN.kidP S0x 0 rfl;subst hao;simp only[I4,Is] at y0 y1 y2 y3;have c1:=GN IH t ak ck wb kb bv cells ar (wi+1) s w0 (by omega) hft (by omega) (by omega) hne W0 N0 SK;have hcast:((wi+1:Nat):Int)=(wi:Int)+1:=rfl;have hcast2:((ar+1:Nat):Int)=(ar:Int)+1:=rfl;rw[dR,hcast] at c1;go_wp2_with fail;refine c1.mono ?_;rintro z wc ⟨rfl,W1,K1⟩;have E1:=(K1.block _ (Ha E0) hb1 hb2).trans E0;have S1:SlN wc (Nf2 wb kb) ((Fs.ex t .nil).app (Fs.ex x .nil)) (G1 ⟨gb,off,G0⟩):=by
   have:=S0.kp K1
   rw[HK.out] at this;exact this
  have N1:=N0.kp K1;have KW:=KK.trans K1;clear c1 p0 p1 p2 p3 pf y0 y1 y2 y3 SK S0x S0 W0 N0 E0 K1 KK;obtain⟨p0,p1,p2,p3,pf⟩:=ep E1;have hbl:=Ha E1;obtain⟨gb',off',ak,ck,hao,hgl,hgp,x0,x1,x2,x3,SK⟩:=SlN.kidQ (x:=Fs.ex t .nil) (r:=.nil) (ks:=x.kids) (k:=x.k) (n:=x.n) (nm:=x.nm) (a:=x.a) S1;injection hao with hao
  injection hao with h1 h2
  subst h1;subst h2;have hlt1:(Fs.ex t .nil).len=1:=rfl;simp only[hlt1,J8] at x0 x1 x2 x3;have bdT:Hf wc.heap.size wc wc.drew:=⟨rfl,rfl,rfl,G4 _,λ_ _=>rfl⟩;have hbo4:fH e.n≠4:=by unfold fH;split<;>omega
  have c3:=lK IH x ak ck wb kb bv cells (ar+1) (wi+1) (fH e.n) (eW cells (G1 s) 4 t ar (wi+1)) wc.drew (λ_=>by omega) hfx (by omega) (by omega) hne (λ_=>hbo4) (W1.below bdT) (N1.below bdT) (SK.belowP bdT);rw[dR,hcast,hcast2] at c3;have c3:=λ(a1 a2:Int) (h1:a1=(ar:Int)+1) (h2:a2=(wi:Int)+1)=>(by rw[h1,h2];exact c3:Hn G5 174 #[.pointer (G1 ⟨wb,0,G0⟩),.agg #[.int .i64 x.k,.int .i64 x.n,stv x.nm,.slice ak x.kids.len ck],.int .i64 a1,.int .i64 a2,.int .i64 (fH e.n)] wc.drew (jN wc.drew wb kb bv cells.length (eW cells (eW cells (G1 s) 4 t ar (wi+1)) (fH e.n) x (ar+1) (wi+1))));have hbq:=λwy=>zK e.n wy;have hwq:=λwy=>qU e.n wy;obtain⟨bo,hbo'⟩:∃bo,bo=fH e.n:=⟨_,rfl⟩;rw[<-hbo'] at c3 hbq ⊢;have hrb:Hid (fH e.n=bo):=hbo'.symm;obtain⟨st2,hst2⟩:∃st2,st2=eW cells (eW cells (G1 s) 4 t ar (wi+1)) bo x (ar+1) (wi+1):=⟨_,rfl⟩;rw[<-hst2] at c3;have HST:Hid (anD (eW cells (eW cells (G1 s) 4 t ar (wi+1)) bo x (ar+1) (wi+1)) (fw e.n)=anD st2 (fw e.n)):=by show _=_;rw[hst2]
  clear hst2 hbo' hbo4 W1 N1 SK S1 IH HK HL hsz hft hfx hf hN h4 hwb hcast hcast2 hlt1 p0 p2 pf;go_upto_region 5 with fail;go_cut [] (λwx=>WD wx wb kb bv cells.length st2/\Kp wb kb wc wx)
  case first =>
   go_wp2_with fail;go_region_held3 (λwx=>wx.cell? ⟨bx,1,G0⟩=G1 (.int .i64 e.n)/\wx.cell? ⟨bx,3,G0⟩=G1 (.slice (G1 ⟨gb,off,G0⟩) 2 cap)/\wx.cell? ⟨gb,off+4,G0⟩=G1 (.int .i64 x.k)/\wx.cell? ⟨gb,off+4+1,G0⟩=G1 (.int .i64 x.n)/\wx.cell? ⟨gb,off+4+2,G0⟩=G1 (stv x.nm)/\wx.cell? ⟨gb,off+4+3,G0⟩=G1 (.slice ak x.kids.len ck))
    (first|exact KA|go_keep)
    (first
     | (go_at_call 195;refine(hbq _).mono ?_;rintro z w3 ⟨rfl,rfl⟩)
     | (go_at_call 174;refine(c3 _ _ ?_ ?_).mono ?_;(rw[II];omega);(rw[II];omega);rintro z w3 ⟨rfl,W3,K3⟩;have KA:w3.cell? ⟨bx,1,G0⟩=G1 (.int .i64 e.n)/\w3.cell? ⟨bx,3,G0⟩=G1 (.slice (G1 ⟨gb,off,G0⟩) 2 cap)/\w3.cell? ⟨gb,off+4,G0⟩=G1 (.int .i64 x.k)/\w3.cell? ⟨gb,off+4+1,G0⟩=G1 (.int .i64 x.n)/\w3.cell? ⟨gb,off+4+2,G0⟩=G1 (stv x.nm)/\w3.cell? ⟨gb,off+4+3,G0⟩=G1 (.slice ak x.kids.len ck):=⟨(K3.cell hbl hb1 hb2 _).trans p1,(K3.cell hbl hb1 hb2 _).trans p3,(K3.cell hgl hgp.1 hgp.2 _).trans x0,(K3.cell hgl hgp.1 hgp.2 _).trans x1,(K3.cell hgl hgp.1 hgp.2 _).trans x2,(K3.cell hgl hgp.1 hgp.2 _).trans x3⟩))
   all_goals (
    have HZ:Hid (WD w3 wb kb bv cells.length st2/\Kp wb kb wc w3):=⟨W3,Kp.bel bdT K3⟩;clear KA W3 K3 c3 hbq;go_wp2;go_meet;exact HZ.out)
  case rest =>
   obtain⟨W3,K3⟩:=hcut;have E3:=(K3.block _ hbl hb1 hb2).trans E1;obtain⟨p0,p1,p2,p3,pf⟩:=ep E3;have HR:Hid (eD w wb kb bv cells.length (anD (eW cells (eW cells (G1 s) 4 t ar (wi+1)) bo x (ar+1) (wi+1)) (fw e.n)) (.returned (.int .i64 (fw e.n))) wc):=fQ HST.out W3 (KW.trans K3);clear W3 K3 KW HST E1 E3;generalize fw e.n=wh at *;go_wp2_with (go_at_call 177;refine(hwq _).mono ?_;rintro z w4 ⟨rfl,rfl⟩);go_wp2;exact Hb (v:=.int .i64 wh) (by simp[Hk,Tryz.results175,go_sem]) rfl (by rw[hrb.out];exact HR.out)
open Go.ChangeShapes Go.WideShapes Go.ChangeAt Go.RowKit Go.Maps
abbrev Lt0 (n0:Nat):Nat->Prop:=λk=>k<n0
structure RD (w:G9)(n0 rb mb:Nat)(bv:He)(c:Nat)(s:Rg):Prop where
 blk:w.heap[rb]?=G1 (.cells #[bv,.map (G1 mb),.int .i64 (s.1:Nat)] 170 (0,0))
 mp:∃m,m+c<=s.1/\MpN w (Lt0 n0) mb m s.2
 le:s.1<=4096
 fit:∀ i y,s.2 i=G1 y->fA y
theorem RD.ltm {w:G9}{n0 rb mb c:Nat}{bv:He}{s:Rg}(h:RD w n0 rb mb bv c s):mb<w.heap.size:=by obtain⟨m,-,h⟩:=h.mp;exact h.lt
theorem RD.less {w:G9}{n0 rb mb c:Nat}{bv:He}{s:Rg}(h:RD w n0 rb mb bv (c+1) s):RD w n0 rb mb bv c s:=⟨h.blk,by obtain⟨m,hm,hp⟩:=h.mp;exact⟨m,by omega,hp⟩,h.le,h.fit⟩
theorem RD.below {w w':G9}{n0 rb mb c:Nat}{bv:He}{s:Rg}(h:RD w n0 rb mb bv c s)(b:Hf w.heap.size w w'):RD w' n0 rb mb bv c s:=by
 refine⟨(b.block _ (Ha h.blk)).trans h.blk,?_,h.le,h.fit⟩;obtain⟨m,hm,hp⟩:=h.mp;exact⟨m,hm,hp.mono (b.block _ hp.lt) (λi _ hl=>b.block i hl) b.size⟩
def mZ (w:G9)(n0 rb mb:Nat)(bv:He)(c:Nat)(r:Option Rg)(x:Ja)(w':G9):Prop:=x=.returned (.bool r.isSome)/\(∀ s,r=G1 s->RD w' n0 rb mb bv c s)/\Kp rb mb w w'
theorem zg {cells:List Int}{i:Nat}{x:Ex}{ar:Nat}{s:Rg}{lv:Int}(h:cells[i]?=G1 lv):fT cells (i:Nat) (Fs.ex x .nil) ar s=if (ar:Int)<lv\/lv<hgE x ar then G0 else (match s.2 i with|none=>G1 (s.1,λj=>if j=i then G1 x else s.2 j)|some y=>if eR y x=true then G1 s else G0):=by
 have hh:(Fs.ex x .nil).head=x:=rfl;simp only[fT,IE,h,hh];rfl
theorem D0 (k0:Int)(i:Nat)(nm:List UInt8)(x:Ex)(ao:Option Hw)(cap n0 rb mb:Nat)(bv:He)(cells:List Int)(ar wi:Nat)(s:Rg)(w:G9)(hi:i<cells.length)(hcl:cells.length<=256)(hfx:fA x)(hnv:x.nv)(har:ar<=100)(hwi:wi<=100)(hne:rb≠mb)(hn0:n0<=mb)(c:Nat)(h:RD w n0 rb mb bv (c+1) s)(hn:Inw w (Lt0 n0) bv cells)(S:SlN w (Lt0 n0) (Fs.ex x .nil) ao) :
  Hn G5 185 #[.pointer (G1 ⟨rb,0,G0⟩),.agg #[.int .i64 k0,.int .i64 (i:Nat),stv nm,.slice ao 1 cap],.agg #[.int .i64 (ar:Nat),.int .i64 (wi:Nat)]] w (mZ w n0 rb mb bv c (fT cells (i:Nat) (Fs.ex x .nil) ar s)):=by
 obtain⟨R,hR⟩:∃R,R=fT cells (i:Nat) (Fs.ex x .nil) ar s:=⟨_,rfl⟩;rw[<-hR];obtain⟨lv,hlv⟩:∃lv,cells[i]?=G1 lv:=⟨_,Hd hi⟩;have HR:Hid (R=if (ar:Int)<lv\/lv<hgE x ar then G0 else (match s.2 i with|none=>G1 (s.1,λj=>if j=i then G1 x else s.2 j)|some y=>if eR y x=true then G1 s else G0)):=hR.trans (zg hlv);clear hR;obtain⟨gb,off,ak,ck,hao,hgl,hgp,y0,y1,y2,y3,SK⟩:=SlN.kidQ (x:=.nil) (r:=.nil) (ks:=x.kids) (k:=x.k) (n:=x.n) (nm:=x.nm) (a:=x.a) S;subst hao;have hl0:(Fs.nil).len=0:=rfl;simp only[hl0,I4,Is] at y0 y1 y2 y3;obtain⟨aoc,capc,rfl,hcells⟩:=hn;rcases hcells with hcells|⟨cb,coff,rfl,hcp,hcb,hcc⟩
 ·subst hcells;simp at hi
 have ccl:=hcc i lv hlv;clear hcc S;have hiI:(i:Int)<(cells.length:Int):=by omega
 obtain⟨w0,hw0⟩:∃w0,w0=(w.alloc (.cells #[.int .i64 k0,.int .i64 (i:Nat),stv nm,.slice (G1 ⟨gb,off,G0⟩) 1 cap] 34)).alloc (.cells #[.int .i64 (ar:Nat),.int .i64 (wi:Nat)] 173):=⟨_,rfl⟩;have B0:Hf w.heap.size w w0:=by rw[hw0];exact((Hi _ w).alloc (G4 _) _).alloc (by simp) _
 have E0:w0.heap[w.heap.size]?=G1 (.cells #[.int .i64 k0,.int .i64 (i:Nat),stv nm,.slice (G1 ⟨gb,off,G0⟩) 1 cap] 34):=by
  rw[hw0];exact(Hj _ _ _ (by simp)).trans (Hc w _)
 have T0:w0.heap[w.heap.size+1]?=G1 (.cells #[.int .i64 (ar:Nat),.int .i64 (wi:Nat)] 173):=by
  rw[hw0]
  have:=Hc (w.alloc (.cells #[.int .i64 k0,.int .i64 (i:Nat),stv nm,.slice (G1 ⟨gb,off,G0⟩) 1 cap] 34)) (.cells #[.int .i64 (ar:Nat),.int .i64 (wi:Nat)] 173)
  simpa using this
 have R0:=h.below B0;have hrl:=Ha h.blk;have hml:=h.ltm;have SK0:=SK.belowP B0;have Y0:=(B0.cell (p:=⟨gb,off,G0⟩) hgl).trans y0;have Y1:=(B0.cell (p:=⟨gb,off+1,G0⟩) hgl).trans y1;have Y2:=(B0.cell (p:=⟨gb,off+2,G0⟩) hgl).trans y2;have Y3:=(B0.cell (p:=⟨gb,off+3,G0⟩) hgl).trans y3;have CC0:=(B0.cell (p:=⟨cb,coff+i,G0⟩) hcb).trans ccl;have hgl0:=Hh hgl B0.size;have hcb0:=Hh hcb B0.size;have KK:Kp rb mb w w0:=Kp.ofBelow B0;go_enter Tryz.func185,Tryz.ntmps185;go_upto_region 1 with fail;rw[<-hw0];obtain⟨bx,hbx⟩:∃bx,bx=w.heap.size:=⟨_,rfl⟩;rw[<-hbx] at E0 T0 ⊢;have hb1:bx≠rb:=by omega
 have hb2:bx≠mb:=by omega
 have hs1:bx+1≠rb:=by omega
 have hs2:bx+1≠mb:=by omega
 clear hbx hw0 B0 hrl hml y0 y1 y2 y3 ccl hgl hcb h SK;have hbl:=Ha E0;have hsl:=Ha T0;obtain⟨p0,p1,p2,p3,pf⟩:=ep E0;obtain⟨t0,t1,tf⟩:=jf T0;obtain⟨r0,r1,r2,rf⟩:=lu R0.blk;have hrl:=Ha R0.blk;go_wp2_with fail;go_region_held3 (λwx=>wx.cell? ⟨bx,1,G0⟩=G1 (.int .i64 (i:Nat))/\wx.cell? ⟨bx,3,G0⟩=G1 (.slice (G1 ⟨gb,off,G0⟩) 1 cap)/\wx.cell? ⟨rb,0,G0⟩=G1 (.slice (G1 ⟨cb,coff,G0⟩) cells.length capc)/\wx.cell? ⟨cb,coff+i,G0⟩=G1 (.int .i64 lv)/\wx.cell? ⟨gb,off,G0⟩=G1 (.int .i64 x.k)/\wx.cell? ⟨gb,off+1,G0⟩=G1 (.int .i64 x.n)/\wx.cell? ⟨gb,off+2,G0⟩=G1 (stv x.nm)/\wx.cell? ⟨gb,off+3,G0⟩=G1 (.slice ak x.kids.len ck)) (go_keep) (fail);have B1:Hf w0.heap.size w0 ((w0.alloc (.cells #[.int .i64 x.k,.int .i64 x.n,stv x.nm,.slice ak x.kids.len ck] 34)).drew):=(Hi _ w0).alloc (G4 _) _ |>.trans ⟨rfl,rfl,rfl,G4 _,λ_ _=>rfl⟩
 have X1:((w0.alloc (.cells #[.int .i64 x.k,.int .i64 x.n,stv x.nm,.slice ak x.kids.len ck] 34)).drew).heap[w0.heap.size]?=G1 (.cells #[.int .i64 x.k,.int .i64 x.n,stv x.nm,.slice ak x.kids.len ck] 34):=Hc w0 _;have R1:=R0.below B1;have E1:=(B1.block _ hbl).trans E0;have T1:=(B1.block _ hsl).trans T0;have SK1:=SK0.belowP B1;have KK1:=KK.trans (Kp.ofBelow B1);have hxr:w0.heap.size≠rb:=by omega
 have hxm:w0.heap.size≠mb:=by have:=R0.ltm;omega
 have hxb:Hid (bx<w0.heap.size/\bx+1<w0.heap.size):=⟨hbl,hsl⟩;clear p0 p1 p2 p3 pf t0 t1 tf r0 r1 r2 rf R0 E0 T0 SK0 KK Y0 Y1 Y2 Y3 CC0 hgl0 hcb0 hbl hsl hrl B1;generalize (w0.alloc (.cells #[.int .i64 x.k,.int .i64 x.n,stv x.nm,.slice ak x.kids.len ck] 34)).drew=w1 at *;generalize w0.heap.size=xb at *;obtain⟨p0,p1,p2,p3,pf⟩:=ep E1;obtain⟨t0,t1,tf⟩:=jf T1;obtain⟨r0,r1,r2,rf⟩:=lu R1.blk;obtain⟨z0,z1,z2,z3,zf⟩:=ep X1;by_cases hlt:(ar:Int)<lv
 ·have HF:Hid (mZ w n0 rb mb (.slice (G1 ⟨cb,coff,G0⟩) cells.length capc) c R (.returned (.bool false)) w1):=by
   rw[HR.out,if_pos (.inl hlt)];exact⟨rfl,λs h=>(by cases h),KK1⟩
  clear HR R1 E1 T1 X1 SK1 KK1;go_wp2;go_ret;exact HF.out
 have c1:=tn (x.kids.size+1) x ak ck ar w1 (by omega) hfx.len hfx.sh hnv (by omega) (by omega) SK1.all;rw[dR] at c1;generalize hgE x ar=hx at *;go_wp2_with fail;refine c1.mono ?_;rintro z w2 ⟨rfl,B2⟩;have R2:=R1.below B2;have E2:=(B2.block _ (Ha E1)).trans E1;have T2:=(B2.block _ (Ha T1)).trans T1;have X2:=(B2.block _ (Ha X1)).trans X1;have SK2:=SK1.belowP B2;have KK2:=KK1.trans (Kp.ofBelow B2);clear c1 p0 p1 p2 p3 pf t0 t1 tf r0 r1 r2 rf z0 z1 z2 z3 zf R1 E1 T1 X1 SK1 KK1 B2;obtain⟨p0,p1,p2,p3,pf⟩:=ep E2;obtain⟨t0,t1,tf⟩:=jf T2;obtain⟨r0,r1,r2,rf⟩:=lu R2.blk;obtain⟨z0,z1,z2,z3,zf⟩:=ep X2;by_cases hlh:lv<hx
 ·have HF:Hid (mZ w n0 rb mb (.slice (G1 ⟨cb,coff,G0⟩) cells.length capc) c R (.returned (.bool false)) w2):=by
   rw[HR.out,if_pos (.inr hlh)];exact⟨rfl,λs h=>(by cases h),KK2⟩
  clear HR R2 E2 T2 X2 SK2 KK2;go_wp2;go_ret;exact HF.out
 have HR2:Hid (R=(match s.2 i with|none=>G1 (s.1,λj=>if j=i then G1 x else s.2 j)|some y=>if eR y x=true then G1 s else G0)):=by show R=_;rw[HR.out,if_neg (by omega)]
 clear HR;have hwf:(Lit.int .i64 (i:Nat)).wf=true:=WalkArith.wf_i64 (by omega);obtain⟨m,hm,M2⟩:=R2.mp;have hml:=M2.lt;have hrl:=Ha R2.blk;have hbl:=Ha E2;have hxl:=Ha X2;have bdT:Hf w2.heap.size w2 w2.drew:=⟨rfl,rfl,rfl,G4 _,λ_ _=>rfl⟩;have M2d:MpN w2.drew (Lt0 n0) mb m s.2:=M2.mono rfl (λ_ _ _=>rfl) (G4 _);have bdA:Hf w2.heap.size w2 ((w2.alloc (.cells #[.int .i64 0,.int .i64 0,.string ⟨#[]⟩,.slice G0 0 0] 34)).drew):=(Hi _ w2).alloc (G4 _) _ |>.trans ⟨rfl,rfl,rfl,G4 _,λ_ _=>rfl⟩
 have M2a:MpN ((w2.alloc (.cells #[.int .i64 0,.int .i64 0,.string ⟨#[]⟩,.slice G0 0 0] 34)).drew) (λi=>i<w2.heap.size) mb m s.2:=M2.monoQ (bdA.block _ hml) (λi _ hl=>bdA.block i hl) bdA.size (λi _ hl=>hl);cases ht:s.2 i with
 | none =>
  obtain⟨a1,a2,a3,a4,a5,a6,lk1⟩:=M2d.miss hwf ht;obtain⟨d1,d2,d3,d4,d5,d6,lk2⟩:=M2a.miss hwf ht;have HF:Hid (∀ w3:G9,Hf w2.heap.size w2 w3->∃w4,(Instr.mapUpdate 168 (.map (G1 mb)) (.int .i64 (i:Nat)) (exN x ak ck)).run G5 w3.drew=.ok () w4/\mZ w n0 rb mb (.slice (G1 ⟨cb,coff,G0⟩) cells.length capc) c R (.returned (.bool true)) w4):=by
   intro w3 b3;have b3d:Hf w2.heap.size w2 w3.drew:=b3.trans ⟨rfl,rfl,rfl,G4 _,λ_ _=>rfl⟩;have M3:MpN w3.drew (Lt0 n0) mb m s.2:=M2.mono (b3d.block _ hml) (λi _ hl=>b3d.block i hl) b3d.size;obtain⟨w4,hr4,M4,ht4⟩:=M3.put (λh=>Nat.not_lt.2 hn0 h) i x ak ck hwf (by have:=R2.le;omega) ht (SK2.belowP b3d);have hg4:=ht4.grown;refine⟨w4,hr4,?_⟩;rw[HR2.out,ht];refine⟨rfl,λs' hs'=>?_,KK2.trans ((Kp.ofBelow b3d).trans ⟨hg4.os,hg4.tape,hg4.output,hg4.size,λk hk h1 h2=>hg4.block k hk (λe=>h2 (by cases e;rfl))⟩)⟩;injection hs' with hs'
   subst hs';refine⟨(hg4.block _ (Hh hrl b3d.size) (λe=>hne (by cases e;rfl))).trans ((b3d.block _ hrl).trans R2.blk),?_,R2.le,?_⟩
   ·exact⟨m+1,by show m+1+c<=s.1;omega,M4.mono rfl (λ_ _ _=>rfl) (G4 _)⟩
   ·intro j y hy;simp only at hy;split at hy
    ·injection hy with hy
     subst hy;exact hfx
    ·exact R2.fit j y hy
  go_upto_region 4 with fail;go_cut [9,10] (λv9 v10 wx=>v10=.bool false/\Hf w2.heap.size w2 wx)
  case first =>
   go_wp2_with fail;go_region_held3 (λwx=>wx.cell? ⟨bx,1,G0⟩=G1 (.int .i64 (i:Nat))/\wx.cell? ⟨rb,1,G0⟩=G1 (.map (G1 mb))) (go_keep) (fail)
   all_goals (
    have HB:Hid (∀ ob:Obj,Hf w2.heap.size w2 ((w2.alloc ob).drew)):=λob=>(Hi _ w2).alloc (G4 _) _ |>.trans ⟨rfl,rfl,rfl,G4 _,λ_ _=>rfl⟩
    go_wp2;go_meet;exact⟨rfl,HB.out _⟩)
  case rest =>
   obtain⟨rfl,B3⟩:=hcut;obtain⟨w4,hr4,HP⟩:=HF.out wc B3;rw[dR] at hr4;have HQ:Hid (mZ w n0 rb mb (.slice (G1 ⟨cb,coff,G0⟩) cells.length capc) c R (.returned (.bool true)) w4):=HP;have p1':=(B3.cell (p:=⟨bx,1,G0⟩) hbl).trans p1;have r1':=(B3.cell (p:=⟨rb,1,G0⟩) hrl).trans r1;have z0':=(B3.cell (p:=⟨xb,0,G0⟩) hxl).trans z0;have z1':=(B3.cell (p:=⟨xb,1,G0⟩) hxl).trans z1;have z2':=(B3.cell (p:=⟨xb,2,G0⟩) hxl).trans z2;have z3':=(B3.cell (p:=⟨xb,3,G0⟩) hxl).trans z3;clear HF HP p0 p1 p2 p3 pf t0 t1 tf r0 r1 r2 rf z0 z1 z2 z3 zf R2 E2 T2 X2 SK2 KK2 M2 M2d M2a lk1 lk2 HR2 bdT bdA;go_wp2_with fail;go_region;go_wp2;go_ret;exact HQ.out
 | some y =>
  obtain⟨ay,cy,lk1,SY1⟩:=M2d.look hwf ht;obtain⟨ay2,cy2,lk2,SY2⟩:=M2a.look hwf ht;have hfy:=R2.fit i y ht;have HR3:Hid (R=if eR y x=true then G1 s else G0):=by show R=_;rw[HR2.out,ht]
  rw[dR] at lk1 lk2;go_upto_region 4 with fail;go_cut [9,10] (λv9 v10 wx=>v9=.pointer (G1 ⟨w2.heap.size,0,G0⟩)/\v10=.bool true/\Hf w2.heap.size w2 wx/\∃az cz,wx.heap[w2.heap.size]?=G1 (.cells #[.int .i64 y.k,.int .i64 y.n,stv y.nm,.slice az y.kids.len cz] 34 (0,0))/\SnA wx y.kids az)
  case first =>
   have HB:Hid (∀ ob:Obj,Hf w2.heap.size w2 ((w2.alloc ob).drew)/\((w2.alloc ob).drew).heap[w2.heap.size]?=G1 ob):=λob=>⟨(Hi _ w2).alloc (G4 _) _ |>.trans ⟨rfl,rfl,rfl,G4 _,λ_ _=>rfl⟩,Hc w2 ob⟩;have HY1:Hid (∀ ob:Obj,SnA ((w2.alloc ob).drew) y.kids ay):=λob=>SlN.all (SlN.mono (w:=w2) (P:=Lt0 n0) (Q:=Lt0 n0) (λi _ hl=>(HB.out ob).1.block i hl) (HB.out ob).1.size (λ_ h _=>h) (SlN.mono (w:=w2.drew) (w':=w2) (λ_ _ _=>rfl) (G4 _) (λ_ h _=>h) SY1));have HY2:Hid (∀ ob:Obj,SnA ((w2.alloc ob).drew) y.kids ay2):=λob=>SlN.all (SlN.mono (Q:=λi=>i<w2.heap.size) (λi hi _=>((HB.out ob).1.block i hi).trans (bdA.block i hi).symm) (by show (w2.alloc _).heap.size<=(w2.alloc _).heap.size;simp) (λ_ h _=>h) SY2);clear SY1 SY2 M2 M2d M2a HR2 HR3;go_wp2_with fail;go_region_held3 (λwx=>wx.cell? ⟨bx,1,G0⟩=G1 (.int .i64 (i:Nat))/\wx.cell? ⟨rb,1,G0⟩=G1 (.map (G1 mb))) (go_keep) (fail)
   ·go_wp2;go_meet;exact⟨rfl,rfl,(HB.out _).1,_,_,(HB.out _).2,HY1.out _⟩
   ·go_wp2;go_meet;exact⟨rfl,rfl,(HB.out _).1,_,_,(HB.out _).2,HY2.out _⟩
  case rest =>
   obtain⟨rfl,rfl,B3,az,cz,Z3,SZ⟩:=hcut;have c8:=wg (y.kids.size+1) y x az ak cz ck wc (by omega) hfy.len hfy.sh hfx.len hfx.sh SZ (SK2.belowP B3).all;rw[dR,dR] at c8;have HF:Hid (∀ w4,Hf wc.heap.size wc w4->mZ w n0 rb mb (.slice (G1 ⟨cb,coff,G0⟩) cells.length capc) c R (.returned (.bool (eR y x))) w4):=by
    intro w4 b4;have b24:Hf w2.heap.size w2 w4:=B3.trans (b4.mono B3.size);rw[HR3.out];cases hsm:eR y x with
    | false=>exact⟨rfl,λs h=>(by cases h),KK2.trans (Kp.ofBelow b24)⟩
    | true=>exact⟨rfl,λs' h=>(by injection h with h;subst h;exact(R2.below b24).less),KK2.trans (Kp.ofBelow b24)⟩
   have z0':=(B3.cell (p:=⟨xb,0,G0⟩) hxl).trans z0;have z1':=(B3.cell (p:=⟨xb,1,G0⟩) hxl).trans z1;have z2':=(B3.cell (p:=⟨xb,2,G0⟩) hxl).trans z2;have z3':=(B3.cell (p:=⟨xb,3,G0⟩) hxl).trans z3;obtain⟨v0,v1,v2,v3,vf⟩:=ep Z3;generalize eR y x=sm at *;clear p0 p1 p2 p3 pf t0 t1 tf r0 r1 r2 rf z0 z1 z2 z3 zf R2 E2 T2 X2 SK2 KK2 M2 M2d M2a lk1 lk2 HR2 HR3 bdT bdA SZ SY1 SY2;go_wp2_with fail;refine c8.mono ?_;rintro z w4 ⟨rfl,B4⟩;have HQ:=HF.out w4 B4;clear c8 HF;go_wp2;go_ret;exact HQ
theorem Wd.kp {w w':G9}{rb mb:Nat}(h:Wd w)(K:Kp rb mb w w')(h1:3≠rb)(h2:3≠mb):Wd w':=by
 have a:=h.lt;obtain⟨t,b,h⟩:=h;exact⟨t,b,(K.block _ a h1 h2).trans h⟩
def lP (w:G9)(n0 rb mb:Nat)(bv:He)(c:Nat)(r:Option (Rg × Int))(x:Ja)(w':G9):Prop :=
 (∃v,x=.returned (.tuple #[v,.bool r.isSome])/\∀ s k,r=G1 (s,k)->kO v k)/\(∀ s k,r=G1 (s,k)->RD w' n0 rb mb bv c s)/\Kp rb mb w w'
def rB (N:Nat):Prop:=∀ (e:Ex) (ao:Option Hw) (cap n0 rb mb:Nat) (bv:He) (cells:List Int) (ar a:Nat) (s:Rg) (c:Nat) (w:G9),e.kids.size<N->fA e->a<=5->ar<=a->cells.length<=256->rb≠mb->n0<=rb->n0<=mb->3<n0->Wd w->RD w n0 rb mb bv c s->Inw w (Lt0 n0) bv cells->SlN w (Lt0 n0) e.kids ao ->
 Hn G5 120 #[.pointer (G1 ⟨rb,0,G0⟩),exN e ao cap,.agg #[.int .i64 ar,.int .i64 a]] w (lP w n0 rb mb bv c (rgE cells e ar a s))
def CN (cells:List Int)(e:Ex)(ar:Nat)(b:Rg)(kd:List Int):Option (Rg × Int) :=
 if (eK e.k e.n kd).2=0\/(eK e.k e.n kd).1≠kd then G0 else
  match (if e.k=26 then fT cells e.n e.kids ar b else G1 b) with
  | none=>G0
  | some s2=>G1 (s2,(eK e.k e.n kd).2)
def jZ (cells:List Int)(e:Ex)(ar a:Nat)(r:Fs)(i:Nat)(s:Rg)(c:List Int):Option (Rg × Int) :=
 match rgF cells r e.k i ar a s with
 | none=>G0
 | some (b,kd)=>CN cells e ar b (c++kd)
theorem Ar {cells:List Int}{e:Ex}{ar a:Nat}{s:Rg}(h:gdE cells e ar a s):rgE cells e ar a s=jZ cells e ar a e.kids 0 (s.1+1,s.2) []:=by
 unfold rgE jZ;rw[if_neg h];rfl
theorem Ab {cells:List Int}{e:Ex}{ar b i:Nat}{s:Rg}{a:List Int}:jZ cells e ar b .nil i s a=CN cells e ar s a:=by
 unfold jZ;simp only[rgF,J1]
theorem yM {cells:List Int}{e x:Ex}{r:Fs}{ar a i:Nat}{s:Rg}{b:List Int}:jZ cells e ar a (Fs.ex x r) i s b=(match rgE cells x (eu e.k i ar a).1 (eu e.k i ar a).2 s with|none=>G0|some (s2,k)=>jZ cells e ar a r (i+1) s2 (b++[k])):=by
 unfold jZ;rw[iQ];cases rgE cells x (eu e.k i ar a).1 (eu e.k i ar a).2 s with
 | none=>rfl
 | some z =>
  obtain⟨s2,k⟩:=z;simp only;cases rgF cells r e.k (i+1) ar a s2 with
  | none=>rfl
  | some z =>
   obtain⟨c,rest⟩:=z;simp only[JL,Jh,I1]
theorem pS {cells:List Int}{n:Int}{ks:Fs}{ar:Nat}{s s':Rg}(h:fT cells n ks ar s=G1 s'):s'.1=s.1:=by
 unfold fT at h;split at h
 ·cases h
 ·split at h
  ·cases h
  ·split at h
   ·injection h with h
    rw[<-h]
   ·split at h
    ·injection h with h
     rw[<-h]
    ·cases h
theorem qP (cells:List Int):∀ (f:Fs) (pk:Int) (i ar c:Nat) (s s':Rg) (kd:List Int),rgF cells f pk i ar c s=G1 (s',kd)->s.1+f.len<=s'.1
 | ⟨G0⟩,pk,i,ar,c,s,s',kd,h=>by
  simp only[rgF] at h;injection h with h
  injection h with h1 h2
  subst h1;exact G4 _
 | ⟨G1 ⟨k,n,nm,a,ks,r⟩⟩,pk,i,ar,c,s,s',kd,h=>by
  have p:rgF cells ⟨G1 ⟨k,n,nm,a,ks,r⟩⟩ pk i ar c s=_:=iQ cells ⟨k,n,nm,a,ks⟩ r pk i ar c s;rw[p] at h;cases d:rgE cells ⟨k,n,nm,a,ks⟩ (eu pk i ar c).1 (eu pk i ar c).2 s with
  | none=>rw[d] at h;cases h
  | some z =>
   obtain⟨s2,q⟩:=z;rw[d] at h;simp only at h;cases e:rgF cells r pk (i+1) ar c s2 with
   | none=>rw[e] at h;cases h
   | some z =>
    obtain⟨g,rest⟩:=z;rw[e] at h;injection h with h
    injection h with h1 h2
    subst h1;have t:=qP cells r pk (i+1) ar c s2 g rest e;obtain⟨-,j,l,m,-,-,-,-,b⟩:=gN d;have o:=qP cells ks k 0 _ _ _ _ _ m;have h5:s2.1=j.1:=by
     simp only at b;split at b
     ·exact pS b
     ·injection b with b
      rw[b]
    simp only at o;simp only[Fs.len];omega
theorem Dw {cells:List Int}{e:Ex}{ar b:Nat}{s s':Rg}{k:Int}(h:rgE cells e ar b s=G1 (s',k)):s.1+1<=s'.1:=by
 obtain⟨-,c,d,f,-,-,-,-,a⟩:=gN h;have g:=qP cells _ _ 0 _ _ _ _ _ f;have h5:s'.1=c.1:=by
  split at a
  ·exact pS a
  ·injection a with a
   rw[a]
 simp only at g;omega
theorem Fs.snoc_nv:∀ {f:Fs}{x:Ex},f.nv->x.nv->(f.snoc x).nv
 | ⟨G0⟩,x,h,k=>⟨k.1,k.2,trivial⟩
 | ⟨G1 ⟨i,n,nm,a,ks,r⟩⟩,x,h,k=>⟨h.1,h.2.1,Fs.snoc_nv (f:=r) h.2.2 k⟩
theorem Row.inA {w:G9}{o:Nat->Nat}{i:Nat}{v:He}{n:Nat}{a:List Int}(h:Row w o i 3 1 v n (a.map (Hp .i64)))(d:a.length=n):InA w v a:=by
 subst d;rcases JY a.length with c|c
 ·obtain⟨ao,cap,rfl⟩:=h.form;exact⟨ao,cap,rfl,.inl (Jt c)⟩
 ·obtain⟨g,cap,rfl,-,-,-,e,f,-⟩:=h.pos c;refine⟨_,cap,rfl,.inr ⟨g,0,rfl,trivial,e,λj x b=>?_⟩⟩;have k:j<a.length:=by
   rcases Kc j a.length with h1|h1
   ·exact h1
   ·rw[Ie h1] at b;cases b
  rw[Ix,f j (by omega)];simp[b]
theorem Row.pks {w:G9}{o:Nat->Nat}{i:Nat}{v:He}{n:Nat}{ps:List He}(h:Row w o i 126 1 v n ps)(f:∀ u,u ∈ ps->∃a x,u=.iface a x):PKs w v n:=by
 rcases JY n with b|b
 ·obtain⟨ao,cap,rfl⟩:=h.form;exact⟨ao,cap,rfl,.inl b⟩
 ·have d:=h.len;obtain⟨g,cap,rfl,-,-,-,k,l,-⟩:=h.pos b;refine⟨_,cap,rfl,.inr ⟨g,0,rfl,k,λj m=>?_⟩⟩;have c:ps[j]?=G1 (ps[j]'(by omega)):=Hd (by omega);obtain⟨a,u,e⟩:=f _ (IT c);refine⟨a,u,?_⟩;rw[Ix,l j (by omega),c,e]
theorem PKs.below {w w':G9}{v:He}{n:Nat}(h:PKs w v n)(b:Hf w.heap.size w w'):PKs w' v n:=by
 obtain⟨ak,ck,rfl,h⟩:=h;refine⟨ak,ck,rfl,?_⟩;rcases h with h|⟨g,off,rfl,a,f⟩
 ·exact .inl h
 ·refine .inr ⟨g,off,rfl,Hh a b.size,λj e=>?_⟩;obtain⟨c,u,d⟩:=f j e;exact⟨c,u,(b.cell (p:=⟨g,off+j,G0⟩) a).trans d⟩
theorem xm (k n:Int)(c:List Int):(eK k n c).1.length<=3+c.length:=by
 have d:∀ (P:Prop) [Decidable P] (a b:List Int × Int),a.1.length<=3+c.length->b.1.length<=3+c.length->(if P then a else b).1.length<=3+c.length:=by
  intro P _ a b f e;split
  ·exact f
  ·exact e
 unfold eK
 repeat' apply d
 all_goals (simp<;>omega)
theorem PKs.kp {rb mb:Nat}{w w':G9}{ak:Option Hw}{ck n:Nat}(h:PKs w (.slice ak n ck) n)(K:Kp rb mb w w')(f:0<n->∀ g off,ak=G1 ⟨g,off,G0⟩->g≠rb/\g≠mb):PKs w' (.slice ak n ck) n:=by
 obtain⟨o,m,i,h⟩:=h;injection i with h1 h2 l
 subst h1;subst l;refine⟨ak,ck,rfl,?_⟩;rcases h with h|⟨g,off,rfl,a,k⟩
 ·exact .inl h
 ·rcases JY n with b|b
  ·exact .inl b
  ·obtain⟨g1,g2⟩:=f b g off rfl;refine .inr ⟨g,off,rfl,Hh a K.size,λj e=>?_⟩;obtain⟨c,u,d⟩:=k j e;exact⟨c,u,(K.cell a g1 g2 _).trans d⟩
theorem GD {w:G9}{b:Nat}{a0 a1 a2:He}{t:Il}(h:w.heap[b]?=G1 (.cells #[a0,a1,a2] t (0,0)))(v:He):(w.setCell ⟨b,2,G0⟩ v).heap[b]?=G1 (.cells #[a0,a1,v] t (0,0)) :=
 (Blk.set (o:=λ_=>0) (i:=0) ⟨h,rfl⟩ 2 v).1
theorem AW:(Tryz.prog.info? 126).map (λi=>(i.zero,i.size,i.bytes))=G1 (G1 .nilIface,1,16):=by kernel_rfl
theorem Kp.step {rb mb i:Nat}{a w w':G9}{o o':Nat->Nat}(K:Kp rb mb a w)(s:as (λk=>k=i) w o w' o')(h:∀ k,k<a.heap.size->o k≠i):Kp rb mb a w' :=
 ⟨s.os.trans K.os,s.tape.trans K.tape,s.output.trans K.output,In K.size s.size,λk b h1 h2=>(s.block k (by have:=K.size;omega) (h k b)).trans (K.block k b h1 h2)⟩
theorem Kp.toStep {rb mb:Nat}{w w':G9}{o:Nat->Nat}(K:Kp rb mb w w')(h1:o rb=1)(h2:o mb=1):as (λk=>k=1) w o w' (dQ w o 0) :=
 ⟨K.os,K.tape,K.output,K.size,λk b=>ed b,λk b c=>K.block k b (λe=>c (by rw[e];exact h1)) (λe=>c (by rw[e];exact h2))⟩
theorem Below.toStep {w w':G9}{o:Nat->Nat}{I:Nat->Prop}(b:Hf w.heap.size w w'):as I w o w' (dQ w o 0):=⟨b.os,b.tape,b.output,b.size,λk a=>ed a,λk a _=>b.block k a⟩
theorem RD.step {w w':G9}{n0 rb mb c i:Nat}{bv:He}{s:Rg}{o o':Nat->Nat}(h:RD w n0 rb mb bv c s)(st:as (λk=>k=i) w o w' o')(h1:o rb≠i)(h2:o mb≠i)(f:∀ k,k<n0->o k≠i):RD w' n0 rb mb bv c s:=by
 refine⟨(st.block _ (Ha h.blk) h1).trans h.blk,?_,h.le,h.fit⟩;obtain⟨m,b,a⟩:=h.mp;exact⟨m,b,a.mono (st.block _ a.lt h2) (λk e d=>st.block k d (f k e)) st.size⟩
theorem tV {N:Nat}(IH:rB N):rB (N+1):=by
 intro e ao cap n0 rb mb bv cells ar q s c w hN hf dH dN cp bq df cb hG cq h hn S;obtain⟨k0,n,nm,a,f⟩:=e;simp only at hN S;have br:=hn;obtain⟨A,l,dt,-⟩:=br;subst dt;have bc:=hf.len;simp only at bc;obtain⟨Z,hZ⟩:=exq (rgE cells ⟨k0,n,nm,a,f⟩ ar q s);rw[<-hZ];have HZ:Hid (Z=rgE cells ⟨k0,n,nm,a,f⟩ ar q s):=hZ;clear hZ;obtain⟨w0,ax⟩:=exq ((w.alloc (zNv k0 n nm ao f.len cap)).alloc (.cells #[.int .i64 ar,.int .i64 q] 173));have B0:Hf w.heap.size w w0:=by rw[ax];exact((Hi _ w).alloc (G4 _) _).alloc (by simp) _
 have E0:w0.heap[w.heap.size]?=G1 (zNv k0 n nm ao f.len cap):=by
  rw[ax];exact(Hj _ _ _ (by simp)).trans (Hc w _)
 have T0:w0.heap[w.heap.size+1]?=G1 (.cells #[.int .i64 ar,.int .i64 q] 173):=by
  rw[ax]
  have:=Hc (w.alloc (zNv k0 n nm ao f.len cap)) (.cells #[.int .i64 ar,.int .i64 q] 173)
  simpa using this
 have R0:=h.below B0;have dd:=Ha h.blk;have dj:=h.ltm;have KK:Kp rb mb w w0:=Kp.ofBelow B0;rw[dR];go_enter Tryz.func120,Tryz.ntmps120;go_upto_region 1 with fail;rw[<-ax];obtain⟨bx,bu⟩:=exq w.heap.size;rw[<-bu] at E0 T0 ⊢;have dP:Hid (bx=w.heap.size):=bu;have ah:bx≠rb:=by omega
 have au:bx≠mb:=by omega
 have az:bx+1≠rb:=by omega
 have aS:bx+1≠mb:=by omega
 have dC:n0<=w.heap.size:=by omega
 clear bu ax dd dj h;obtain⟨r0,r1,r2,rf⟩:=lu R0.blk;have hs:=R0.le;have F1:=GD R0.blk (.int .i64 ((s.1:Int)+1));have F:=KK.set ⟨rb,2,G0⟩ (.int .i64 ((s.1:Int)+1)) (.inr (.inl rfl));have E1:=(Hl w0 ⟨rb,2,G0⟩ bx (.int .i64 ((s.1:Int)+1)) ah).trans E0;have T1:=(Hl w0 ⟨rb,2,G0⟩ (bx+1) (.int .i64 ((s.1:Int)+1)) az).trans T0;have M1:∃m,m+c<=s.1/\MpN (w0.setCell ⟨rb,2,G0⟩ (.int .i64 ((s.1:Int)+1))) (Lt0 n0) mb m s.2:=by
  obtain⟨m,hm,B⟩:=R0.mp;exact⟨m,hm,B.mono (Hl w0 _ _ _ (JP bq)) (λk y hl=>Hl w0 _ k _ (by have y:k<n0:=y;show k≠rb;omega)) (by simp)⟩
 have ci:=R0.fit;clear B0 E0 T0 KK R0;go_upto_region 2 with fail;generalize w0.setCell ⟨rb,2,G0⟩ (.int .i64 ((s.1:Int)+1))=w1 at *;clear r0 r1 r2 rf;obtain⟨r0,r1,r2,rf⟩:=lu F1;obtain⟨p0,p1,p2,p3,K⟩:=ep E1;obtain⟨t0,t1,Q⟩:=jf T1;have t:∀ {w2:G9},Z=G0->Hf w1.heap.size w1 w2->Hid (lP w n0 rb mb (.slice A cells.length l) c Z (.returned (.tuple #[.nilIface,.bool false])) w2):=by
  intro w2 hz b2;rw[hz];exact⟨⟨_,rfl,λs k h=>(by cases h)⟩,λs k h=>(by cases h),F.trans (Kp.ofBelow b2)⟩
 by_cases dh:4096<s.1+1
 ·have V:=t (by rw[HZ.out];exact jO (λhg=>hg (.inl dh))) (Hi _ w1);have hI:(4096:Int)<(s.1:Int)+1:=by omega
  clear t HZ M1 E1 T1 F1 F;go_wp2;exact Hb (v:=.tuple #[.nilIface,.bool false]) (by simp[Hk,Jg,go_sem]) rfl V.out
 have hI:¬(4096:Int)<(s.1:Int)+1:=by omega
 by_cases dg:4<q
 ·have V:=t (by rw[HZ.out];exact jO (λhg=>hg (.inr (.inl dg)))) (Hi _ w1);have hJ:(4:Int)<(q:Int):=by omega
  clear t HZ M1 E1 T1 F1 F;go_wp2;exact Hb (v:=.tuple #[.nilIface,.bool false]) (by simp[Hk,Jg,go_sem]) rfl V.out
 have hJ:¬(4:Int)<(q:Int):=by omega
 have ab:Wd w1:=cq.kp F (by omega) (by omega);have c1:=tF ⟨k0,n,nm,a,f⟩ ao cap w1 ab hf.nm;rw[dR] at c1;simp only at c1;go_wp2_with fail;refine c1.mono ?_;rintro z w2 ⟨rfl,b2⟩;have F2:=(b2.block _ (Ha F1)).trans F1;have E2:=(b2.block _ (Ha E1)).trans E1;have T2:=(b2.block _ (Ha T1)).trans T1;cases aB:nmP k0 nm with
 | false =>
  have V:=t (by rw[HZ.out];exact jO (λhg=>hg (.inr (.inr (.inl aB))))) b2;clear c1 t HZ M1 E1 T1 F1 F p0 p1 p2 p3 K t0 t1 Q r0 r1 r2 rf;obtain⟨p0,p1,p2,p3,K⟩:=ep E2;obtain⟨t0,t1,Q⟩:=jf T2;clear E2 T2 F2;go_wp2;exact Hb (v:=.tuple #[.nilIface,.bool false]) (by simp[Hk,Jg,go_sem]) rfl V.out
 | true =>
 have c2:=pH ⟨k0,n,nm,a,f⟩ ao cap ar q rb cells.length w2 A l _ _ F2;rw[dR] at c2;simp only at c2;clear c1 p0 p1 p2 p3 K t0 t1 Q r0 r1 r2 rf;obtain⟨p0,p1,p2,p3,K⟩:=ep E2;obtain⟨t0,t1,Q⟩:=jf T2;go_wp2_with fail;refine c2.mono ?_;rintro z w3 ⟨rfl,b3⟩;have aw:Hf w1.heap.size w1 w3:=b2.trans (b3.mono b2.size);have F3:=(b3.block _ (Ha F2)).trans F2;have E3:=(b3.block _ (Ha E2)).trans E2;have T3:=(b3.block _ (Ha T2)).trans T2;clear c2 p0 p1 p2 p3 K t0 t1 Q F2 E2 T2;cases aj:nuP cells.length k0 n ar with
 | false =>
  have V:=t (by rw[HZ.out];exact jO (λhg=>hg (.inr (.inr (.inr aj))))) aw;obtain⟨p0,p1,p2,p3,K⟩:=ep E3;obtain⟨t0,t1,Q⟩:=jf T3;clear t HZ M1 E1 T1 F1 F E3 T3 F3;go_wp2;exact Hb (v:=.tuple #[.nilIface,.bool false]) (by simp[Hk,Jg,go_sem]) rfl V.out
 | true =>
 have cf:gdE cells ⟨k0,n,nm,a,f⟩ ar q s:=by
  rintro (h|h|h|h)
  ·omega
  ·omega
  ·simp only at h;rw[aB] at h;cases h
  ·simp only at h;rw[aj] at h;cases h
 have cL:Hid (jZ cells ⟨k0,n,nm,a,f⟩ ar q f 0 (s.1+1,s.2) []=Z):=(HZ.out.trans (Ar cf)).symm;have K3:=F.trans (Kp.ofBelow aw);have R3:RD w3 n0 rb mb (.slice A cells.length l) (c+1) (s.1+1,s.2):=by
  refine⟨F3,?_,by show s.1+1<=4096;omega,ci⟩;obtain⟨m,hm,B⟩:=M1;exact⟨m,by show m+(c+1)<=s.1+1;omega,B.mono (aw.block _ B.lt) (λk _ hl=>aw.block k hl) aw.size⟩
 have a7:Hid (nuP cells.length k0 n ar=true):=aj;clear t HZ M1 E1 T1 F1 F F3 b2 b3 aw cf aB aj ab;obtain⟨o3,aA⟩:∃o3:Nat->Nat,o3=λk=>if k=rb\/k=mb then 1 else 0:=⟨_,rfl⟩;have bJ:o3 rb=1:=by rw[aA];simp
 have bN:o3 mb=1:=by rw[aA];simp
 have bn:∀ k,k≠rb->k≠mb->o3 k=0:=λk h1 h2=>by rw[aA];simp[h1,h2]
 have bO:∀ k,o3 k<=1:=λk=>by rw[aA];simp only;split<;>omega
 have bF:Blk w3 o3 0 bx (zNv k0 n nm ao f.len cap):=⟨E3,bn _ ah au⟩;have cT:Blk w3 o3 0 (bx+1) (.cells #[.int .i64 ar,.int .i64 q] 173 (0,0)):=⟨T3,bn _ az aS⟩;have L3:Hid (∀ k,k<w.heap.size->o3 k<=1):=λk _=>bO k;clear aA bn bO E3 T3;have dD:f.len<=1000000000:=bc;obtain⟨ip,dn,bR,bQ,bP⟩:=eo AW;obtain⟨ii,dp,bU,bT,bS⟩:=eo vH;obtain⟨p0,p1,p2,p3,K⟩:=ep bF.1;go_wp2;go_loopw [8,9,47] (λv8 v9 bg wr=>∃(d r:Fs) (o:Nat->Nat) (ps:List He) (E:List Int) (T:Rg),Hid (f=d.app r)/\bg=.int .i64 (d.len:Nat)/\Row wr o 2 126 1 v8 d.len ps/\Hid (∀ u,u ∈ ps->∃ty x,u=.iface ty x)/\Row wr o 3 3 1 v9 d.len (E.map (Hp .i64))/\E.length=d.len/\d.len<=T.1/\Hid d.nv/\RD wr n0 rb mb (.slice A cells.length l) (c+1) T/\o rb=1/\o mb=1/\Blk wr o 0 bx (zNv k0 n nm ao f.len cap)/\Blk wr o 0 (bx+1) (.cells #[.int .i64 ar,.int .i64 q] 173 (0,0))/\Hid (∀ k,k<w.heap.size->o k<=1)/\Kp rb mb w wr/\Hid (jZ cells ⟨k0,n,nm,a,f⟩ ar q r d.len T E=Z)) (λ_ _ bg _=>f.len-(Ih bg).toNat)
 case atStart=>exact⟨.nil,f,o3,[],[],_,rfl,by show _=Hp .i64 ((0:Nat):Int);rfl,Row.nil _ _ _ _ _,λu hu=>(by cases hu),Row.nil _ _ _ _ _,rfl,JI _,trivial,R3,bJ,bN,bF,cT,L3,K3,cL.out⟩
 case round =>
  clear bF cT L3 R3 K3 cL bJ bN p0 p1 p2 p3 K;obtain⟨d,r,o,ps,E,T,y,rfl,R8,aT,R9,aV,dL,b0,U,aN,aO,aM,aK,L1,F,HA⟩:=hrel;have aU:f.len=d.len+r.len:=by rw[y.out,Fs.len_app]
  obtain⟨p0,p1,p2,p3,K⟩:=ep aM.1;obtain⟨t0,t1,Q⟩:=jf aK.1;cases r using Fs.on with
  | nil =>
   have dk:¬(d.len:Int)<(f.len:Int):=by simp only[Fs.len] at aU;omega
   have ai:Hid (CN cells ⟨k0,n,nm,a,f⟩ ar T E=Z):=by show _=Z;rw[<-HA.out];exact Ab.symm
   clear HA;have bs:Hid (f=d):=by show f=d;rw[y.out];exact mB d
   have dq:Hid (d.len=f.len):=by show d.len=f.len;rw[bs.out]
   have cM:Hid (E.length=d.len):=aV;have dI:=U.le;have I9:=R9.inA aV;have P8:=R8.pks aT.out;obtain⟨a9,c9,rfl⟩:=R9.form;obtain⟨a8,c8,rfl⟩:=R8.form;have dy:Hid (0<d.len->∀ g of,a8=G1 ⟨g,of,G0⟩->g≠rb/\g≠mb):=by
    intro hd g of ha;obtain⟨g',dF,he,ho,-⟩:=R8.pos hd;injection he with he
    rw[ha] at he;injection he with he
    injection he with dr dK
    subst dr;exact⟨λh=>(by rw[h,aN] at ho;cases ho),λh=>(by rw[h,aO] at ho;cases ho)⟩
   have E1:=aM.1;have T1:=aK.1;have S1:SlN wr (Lt0 n0) f ao:=S.mono (λi B hl=>F.block i hl (by have B:i<n0:=B;omega) (by have B:i<n0:=B;omega)) F.size (λ_ h _=>h);have N1:Inw wr (Lt0 n0) (.slice A cells.length l) cells:=hn.mono (λi B hl=>F.block i hl (by have B:i<n0:=B;omega) (by have B:i<n0:=B;omega)) F.size (λ_ h _=>h);have c1:=zR k0 n nm a f ao cap wr _ E I9 (by omega);rw[dR] at c1;simp only at c1;clear R8 R9 aM aK aN aO L1 aT aU aV;obtain⟨pp,bp⟩:=exq (eK k0 n E);rw[<-bp] at c1;have HP:Hid (pp=eK k0 n E):=bp;clear bp;obtain⟨xs,is⟩:=pp;go_wp2_with fail;refine c1.mono ?_;rintro z w2 ⟨lv,rfl,L2,b2⟩;simp only at L2;obtain⟨al,cl,cd,cc⟩:=L2;have L2:Inw w2 (Nw wr.heap.size) lv xs:=⟨al,cl,cd,cc⟩;subst cd;clear cc;have bf:rb<w2.heap.size:=Hh (Ha U.blk) b2.size;have be:mb<w2.heap.size:=Hh U.ltm b2.size;have b3:Hf wr.heap.size wr (w2.alloc (.cells #[.slice al xs.length cl,.int .i64 is] 211)):=b2.alloc b2.size _;have cs:Hf w2.heap.size w2 (w2.alloc (.cells #[.slice al xs.length cl,.int .i64 is] 211)):=(Hi _ w2).alloc (G4 _) _;have X3:(w2.alloc (.cells #[.slice al xs.length cl,.int .i64 is] 211)).heap[w2.heap.size]?=G1 (.cells #[.slice al xs.length cl,.int .i64 is] 211 (0,0)):=Hc w2 _;have L3:=L2.below cs;have a2:=I9.below b3;have a1:=P8.below b3;have E3:=(b3.block _ (Ha E1)).trans E1;have T3:=(b3.block _ (Ha T1)).trans T1;have a0:=U.below b3;have S3:=S1.belowP b3;have N3:=N1.below b3;have K3:=F.trans (Kp.ofBelow b3);clear c1 p0 p1 p2 p3 K t0 t1 Q E1 T1 U S1 N1 F I9 P8 L2 b2 b3 cs;go_upto_region 15 with fail;generalize w2.alloc (.cells #[.slice al xs.length cl,.int .i64 is] 211)=w3 at *;have cm:w2.heap.size≠rb:=by have:=bf;omega
   have cj:w2.heap.size≠mb:=by have:=be;omega
   clear bf be;generalize w2.heap.size=fb at *;obtain⟨p0,p1,p2,p3,K⟩:=ep E3;obtain⟨t0,t1,Q⟩:=jf T3;obtain⟨y0,y1,yf⟩:=jf X3;have P:Hid (Z=if is=0\/xs≠E then G0 else match (if k0=26 then fT cells n f ar T else G1 T) with|none=>G0|some s2=>G1 (s2,is)):=by
    show Z=_;rw[<-ai.out];unfold CN;simp only;rw[<-HP.out]
   clear ai;have t:∀ {w4:G9},Z=G0->Kp rb mb w3 w4->Hid (lP w n0 rb mb (.slice A cells.length l) c Z (.returned (.tuple #[.nilIface,.bool false])) w4):=by
    intro w4 hz k4;rw[hz];exact⟨⟨_,rfl,λs k h=>(by cases h)⟩,λs k h=>(by cases h),K3.trans k4⟩
   have L:Hid (xs.length<=1000000000):=by
    show xs.length<=1000000000;have h1:=xm k0 n E;rw[<-HP.out] at h1;have h2:=cM.out;simp only at h1;omega
   by_cases ag:is=0
   ·have du:(is==0)=true:=by simpa using ag
    have V:=t (by rw[P.out,if_pos (.inl ag)]) (Kp.refl _ _ w3);clear t P HP a0 S3 N3 K3 a2 a1 L3 E3 T3 X3 ag;go_wp2;exact Hb (v:=.tuple #[.nilIface,.bool false]) (by simp[Hk,Jg,go_sem]) rfl V.out
   have du:(is==0)=false:=by simpa using ag
   have c2:=zU w3 _ _ xs E (L3.mono (λ_ _ _=>rfl) (G4 _) (λ_ _ _=>trivial)) a2 (L.out);obtain⟨sm,bo⟩:=exq (decide (xs=E));rw[<-bo] at c2;have a3:Hid (sm=decide (xs=E)):=bo;clear bo;go_wp2_with fail;refine c2.mono ?_;rintro z w4 ⟨rfl,b4⟩;have E4:=(b4.block _ (Ha E3)).trans E3;have T4:=(b4.block _ (Ha T3)).trans T3;have X4:=(b4.block _ (Ha X3)).trans X3;have M:=a0.below b4;have S4:=S3.belowP b4;have N4:=N3.below b4;have aH:=a1.below b4;have H:=K3.trans (Kp.ofBelow b4);cases sm with
   | false =>
    have ap:xs≠E:=of_decide_eq_false a3.out.symm;have V:=t (by rw[P.out,if_pos (.inr ap)]) (Kp.ofBelow b4);clear c2 t P HP a0 S3 N3 K3 a2 a1 L3 E3 T3 X3 ag ap p0 p1 p2 p3 K t0 t1 Q y0 y1 yf E4 T4 X4 M S4 N4 aH H b4 a3;go_wp2;exact Hb (v:=.tuple #[.nilIface,.bool false]) (by simp[Hk,Jg,go_sem]) rfl V.out
   | true =>
   have ap:xs=E:=of_decide_eq_true a3.out.symm;have W:Hid (Z=match (if k0=26 then fT cells n f ar T else G1 T) with|none=>G0|some s2=>G1 (s2,is)):=by show Z=_;rw[P.out,if_neg (by rintro (h|h);exact ag h;exact h ap)]
   have af:Hid ((k0=17\/k0=18\/k0=21->d.len=2)/\(k0=19->d.len=3)/\(k0=24\/k0=26->d.len=1)):=by
    have hx:d.len=(eK k0 n E).1.length:=by rw[<-HP.out];show d.len=xs.length;rw[ap,cM.out]
    refine⟨?_,?_,?_⟩
    ·rintro (rfl|rfl|rfl)
     ·rw[hx];rfl
     ·rw[hx];rfl
     ·rw[hx,oq];unfold qfP;split
      ·rfl
      ·split<;>rfl
    ·rintro rfl;rw[hx];rfl
    ·rintro (rfl|rfl)
     ·rw[hx];rfl
     ·rw[hx];rfl
   have ac:∀ w5,PKs w5 (.slice a8 d.len c8) d.len->Hn G5 186 #[.agg #[.int .i64 k0,.int .i64 n,stv nm,.slice ao f.len cap],.agg #[.int .i64 is],.slice a8 d.len c8,.int .i64 ar] w5 λx w'=>(∃v,x=.returned v/\kO v is)/\Hf w5.heap.size w5 w':=λw5 B=>EE k0 n nm f ao cap is _ d.len ar w5 B af.out.1 af.out.2.1 af.out.2.2;clear c2 t P HP a0 S3 N3 K3 a2 a1 L3 E3 T3 X3 ag ap p0 p1 p2 p3 K t0 t1 Q y0 y1 yf b4 a3;obtain⟨p0,p1,p2,p3,K⟩:=ep E4;obtain⟨t0,t1,Q⟩:=jf T4;obtain⟨y0,y1,yf⟩:=jf X4;by_cases aW:k0=26
   ·subst aW;have bt:=af.out.2.2 (.inr rfl);obtain⟨x,hx⟩:=uy (dq.out.symm.trans bt);have b1:=a7.out;have br:0<=n/\n<(cells.length:Int):=by simp[nuP] at b1;omega
    obtain⟨i,rfl⟩:∃i:Nat,n=(i:Nat):=⟨n.toNat,by omega⟩;have a4:x.nv:=by
     have:=b0.out
     rw[<-bs.out,hx] at this;exact⟨this.1,this.2.1⟩
    have cg:fA x:=fA.kid (e:=⟨26,(i:Nat),nm,a,f⟩) (d:=.nil) hf hx;have cu:SlN w4 (Lt0 n0) (Fs.ex x .nil) ao:=by rw[<-hx];exact S4
    have c3:=D0 26 i nm x ao cap n0 rb mb _ cells ar q T w4 (by omega) cp cg a4 (by omega) (by omega) bq cb c M N4 cu;have ce:f.len=1:=by rw[hx];rfl
    have am:Hid (Z=match fT cells (i:Nat) (Fs.ex x .nil) ar T with|none=>G0|some s2=>G1 (s2,is)):=by show Z=_;rw[W.out,if_pos rfl,hx]
    rw[<-ce] at c3;generalize fT cells (i:Nat) (Fs.ex x .nil) ar T=R at *;have dO:Hid (d.len=1):=bt;clear W S4 N4 cu a4 cg b1 br ce hx bt a7 bs;go_wp2_with fail;refine c3.mono ?_;rintro z w5 ⟨rfl,bw,K5⟩;have ad:=H.trans K5;have bB:=aH.kp K5 dy.out;have E5:=(K5.block _ (Ha E4) ah au).trans E4;have T5:=(K5.block _ (Ha T4) az aS).trans T4;have X5:=(K5.block _ (Ha X4) cm cj).trans X4;clear c3 H K5 aH E4 T4 X4 M p0 p1 p2 p3 K t0 t1 Q y0 y1 yf;obtain⟨p0,p1,p2,p3,K⟩:=ep E5;obtain⟨t0,t1,Q⟩:=jf T5;obtain⟨y0,y1,yf⟩:=jf X5;cases R with
    | none =>
     have V:Hid (lP w n0 rb mb (.slice A cells.length l) c Z (.returned (.tuple #[.nilIface,.bool false])) w5):=by
      have hz:Z=G0:=am.out;rw[hz];exact⟨⟨_,rfl,λs k h=>(by cases h)⟩,λs k h=>(by cases h),ad⟩
     clear am ac bw ad bB E5 T5 X5 af;simp only[JX];go_wp2;exact Hb (v:=.tuple #[.nilIface,.bool false]) (by simp[Hk,Jg,go_sem]) rfl V.out
    | some s2 =>
     have aF:=bw s2 rfl;have G:Hid (Z=G1 (s2,is)):=am.out;have c4:=ac w5 bB;clear am ac bw af;simp only[JW];go_wp2_with fail;refine c4.mono ?_;rintro z w6 ⟨⟨v,rfl,hv⟩,b6⟩;have V:Hid (lP w n0 rb mb (.slice A cells.length l) c Z (.returned (.tuple #[v,.bool true])) w6):=by
      rw[G.out];refine⟨⟨v,rfl,λs k h=>?_⟩,λs k h=>?_,ad.trans (Kp.ofBelow b6)⟩
      ·injection h with h
       injection h with h1 h2
       rw[<-h2];exact hv
      ·injection h with h
       injection h with h1 h2
       rw[<-h1];exact aF.below b6
     clear c4 G hv b6 aF ad bB E5 T5 X5 p0 p1 p2 p3 K t0 t1 Q y0 y1 yf;go_wp2;exact Hb (v:=.tuple #[v,.bool true]) (by simp[Hk,Jg,go_sem]) rfl V.out
   ·have dE:(k0==26)=false:=by simpa using aW
    have G:Hid (Z=G1 (T,is)):=by show Z=_;rw[W.out,if_neg aW]
    have c3:=ac w4 aH;clear W ac aW af S4 N4;go_wp2_with fail;refine c3.mono ?_;rintro z w5 ⟨⟨v,rfl,hv⟩,b5⟩;have V:Hid (lP w n0 rb mb (.slice A cells.length l) c Z (.returned (.tuple #[v,.bool true])) w5):=by
     rw[G.out];refine⟨⟨v,rfl,λs k h=>?_⟩,λs k h=>?_,H.trans (Kp.ofBelow b5)⟩
     ·injection h with h
      injection h with h1 h2
      rw[<-h2];exact hv
     ·injection h with h
      injection h with h1 h2
      rw[<-h1];exact(M.below b5).less
    clear c3 G hv b5 M H aH E4 T4 X4 p0 p1 p2 p3 K t0 t1 Q y0 y1 yf;go_wp2;exact Hb (v:=.tuple #[v,.bool true]) (by simp[Hk,Jg,go_sem]) rfl V.out
  | Js D kn C X j kr =>
   have dk:(d.len:Int)<(f.len:Int):=by simp only[Fs.len] at aU;omega
   have dJ:d.len<f.len:=by omega
   have db:f.size=d.size+(j.size+kr.size+1):=by rw[y.out,Fs.size_app];rfl
   have ch:fA ⟨D,kn,C,X,j⟩:=hf.kid (d:=d) (r:=kr) y.out;have S1:SlN wr (Lt0 n0) f ao:=S.mono (λi B hl=>F.block i hl (by have B:i<n0:=B;omega) (by have B:i<n0:=B;omega)) F.size (λ_ h _=>h);have N1:Inw wr (Lt0 n0) (.slice A cells.length l) cells:=hn.mono (λi B hl=>F.block i hl (by have B:i<n0:=B;omega) (by have B:i<n0:=B;omega)) F.size (λ_ h _=>h);have ab:Wd wr:=cq.kp F (by omega) (by omega);obtain⟨b,off,ak,ck,dv,dG,-,x0,x1,x2,x3,SK⟩:=SlN.kidQ (by rw[<-y.out];exact S1);subst dv;have dm:Hid (f=(d.snoc ⟨D,kn,C,X,j⟩).app kr):=by show f=_;rw[y.out];unfold Fs.snoc;rw[Fs.app_assoc];rfl
   have dl:(d.len:Int)+1=((d.snoc ⟨D,kn,C,X,j⟩).len:Nat):=by rw[Fs.len_snoc];rfl
   have ai:Hid ((match rgE cells ⟨D,kn,C,X,j⟩ (eu k0 d.len ar q).1 (eu k0 d.len ar q).2 T with|none=>G0|some (s2,k)=>jZ cells ⟨k0,n,nm,a,f⟩ ar q kr (d.len+1) s2 (E++[k]))=Z):=by show _=Z;rw[<-HA.out];exact(yM (e:=⟨k0,n,nm,a,f⟩) (x:=⟨D,kn,C,X,j⟩)).symm
   have ay:(eu k0 d.len ar q).2<=5/\(eu k0 d.len ar q).1<=(eu k0 d.len ar q).2:=by
    unfold eu;split
    ·simp only;split<;>omega
    ·simp only;omega
   -- the kid's box
   have s2:=ez (λ_=>False) wr o (zNv D kn C ak j.len ck);have b2:Hf wr.heap.size wr (wr.alloc (zNv D kn C ak j.len ck)):=(Hi _ wr).alloc (G4 _) _;have X2:(wr.alloc (zNv D kn C ak j.len ck)).heap[wr.heap.size]?=G1 (zNv D kn C ak j.len ck):=Hc wr _;have aG:=U.below b2;have bA:=R8.step s2 id;have bz:=R9.step s2 id;have aL:=aM.step s2 id;have aJ:=aK.step s2 id;have dc:rb<wr.heap.size:=Ha U.blk;have di:mb<wr.heap.size:=U.ltm;have bj:dQ wr o 0 rb=1:=(ed dc).trans aN;have bm:dQ wr o 0 mb=1:=(ed di).trans aO;have L2:Hid (∀ k,k<w.heap.size->dQ wr o 0 k<=1):=λk y=>by rw[ed (by have:=F.size;omega)];exact L1.out k y
   have K2:=F.trans (Kp.ofBelow b2);have N2:=N1.below b2;have ct:=SK.belowP b2;have bd:=ab.below b2;obtain⟨O,bV⟩:=exq wr.heap.size;have aQ:O≠rb:=by omega
   have aP:O≠mb:=by omega
   clear HA R8 R9 aM aK aN aO L1 F U S1 N1 SK ab s2 y p0 p1 p2 p3 K t0 t1 Q;go_upto_region 9 with fail;generalize dQ wr o 0=o2 at *;generalize wr.alloc (zNv D kn C ak j.len ck)=w2 at *;rw[<-bV] at X2 ⊢;clear bV b2 x0 x1 x2 x3;obtain⟨p0,p1,p2,p3,K⟩:=ep aL.1;obtain⟨t0,t1,Q⟩:=jf aJ.1;obtain⟨z0,z1,z2,z3,zf⟩:=ep X2;have aa:=aL.lt;have aR:=aJ.lt;have L:=Ha X2;have av:Hf w2.heap.size w2 w2.drew:=⟨rfl,rfl,rfl,G4 _,λ_ _=>rfl⟩;have c9:=DI ⟨k0,n,nm,a,f⟩ (G1 ⟨b,off,G0⟩) cap ar q d.len w2.drew (by omega) (by omega) (by omega);rw[dR] at c9;simp only at c9;have de:=λk2 (h:∃s2,rgE cells ⟨D,kn,C,X,j⟩ (eu k0 d.len ar q).1 (eu k0 d.len ar q).2 T=G1 (s2,k2))=>h;clear de;have an:Hid (∀ s2 k,rgE cells ⟨D,kn,C,X,j⟩ (eu k0 d.len ar q).1 (eu k0 d.len ar q).2 T=G1 (s2,k)->T.1+1<=s2.1/\(d.snoc ⟨D,kn,C,X,j⟩).nv):=λs2 k h=>⟨Dw h,Fs.snoc_nv b0.out (BC h)⟩;have aX:=λ(w3:G9) (b3:Hf w2.drew.heap.size w2.drew w3)=>IH ⟨D,kn,C,X,j⟩ ak ck n0 rb mb (.slice A cells.length l) cells (eu k0 d.len ar q).1 (eu k0 d.len ar q).2 T (c+1) w3 (by show j.size<N;omega) ch ay.1 ay.2 cp bq df cb hG ((bd.below av).below b3) ((aG.below av).below b3) ((N2.below av).below b3) ((ct.belowP av).belowP b3);simp only[dR] at aX;generalize rgE cells ⟨D,kn,C,X,j⟩ (eu k0 d.len ar q).1 (eu k0 d.len ar q).2 T=rr at *;generalize (eu k0 d.len ar q).1=sA at *;generalize (eu k0 d.len ar q).2=sB at *;clear bd N2 ct db ch ay aU;go_upto_region 9 with fail;go_cut [12,13] (λc0 cZ wx=>∃v,c0=v/\cZ=.bool rr.isSome/\(∀ s k,rr=G1 (s,k)->kO v k)/\(∀ s k,rr=G1 (s,k)->RD wx n0 rb mb (.slice A cells.length l) (c+1) s)/\Kp rb mb w2 wx)
   case first =>
    go_wp2_with fail;go_region_held3 (λwx=>wx.cell? ⟨bx,0,G0⟩=G1 (.int .i64 k0)/\wx.cell? ⟨bx,1,G0⟩=G1 (.int .i64 n)/\wx.cell? ⟨bx,2,G0⟩=G1 (stv nm)/\wx.cell? ⟨bx,3,G0⟩=G1 (.slice (G1 ⟨b,off,G0⟩) f.len cap)/\wx.cell? ⟨bx+1,0,G0⟩=G1 (.int .i64 ar)/\wx.cell? ⟨bx+1,1,G0⟩=G1 (.int .i64 q)/\wx.cell? ⟨O,0,G0⟩=G1 (.int .i64 D)/\wx.cell? ⟨O,1,G0⟩=G1 (.int .i64 kn)/\wx.cell? ⟨O,2,G0⟩=G1 (stv C)/\wx.cell? ⟨O,3,G0⟩=G1 (.slice ak j.len ck))
     (first|exact KA|go_keep)
     (first
      | (go_at_call 182;refine c9.mono ?_;rintro z w3 ⟨rfl,J⟩;have KA:w3.cell? ⟨bx,0,G0⟩=G1 (.int .i64 k0)/\w3.cell? ⟨bx,1,G0⟩=G1 (.int .i64 n)/\w3.cell? ⟨bx,2,G0⟩=G1 (stv nm)/\w3.cell? ⟨bx,3,G0⟩=G1 (.slice (G1 ⟨b,off,G0⟩) f.len cap)/\w3.cell? ⟨bx+1,0,G0⟩=G1 (.int .i64 ar)/\w3.cell? ⟨bx+1,1,G0⟩=G1 (.int .i64 q)/\w3.cell? ⟨O,0,G0⟩=G1 (.int .i64 D)/\w3.cell? ⟨O,1,G0⟩=G1 (.int .i64 kn)/\w3.cell? ⟨O,2,G0⟩=G1 (stv C)/\w3.cell? ⟨O,3,G0⟩=G1 (.slice ak j.len ck):=⟨(J.cell (p:=⟨bx,0,G0⟩) aa).trans p0,(J.cell (p:=⟨bx,1,G0⟩) aa).trans p1,(J.cell (p:=⟨bx,2,G0⟩) aa).trans p2,(J.cell (p:=⟨bx,3,G0⟩) aa).trans p3,(J.cell (p:=⟨bx+1,0,G0⟩) aR).trans t0,(J.cell (p:=⟨bx+1,1,G0⟩) aR).trans t1,(J.cell (p:=⟨O,0,G0⟩) L).trans z0,(J.cell (p:=⟨O,1,G0⟩) L).trans z1,(J.cell (p:=⟨O,2,G0⟩) L).trans z2,(J.cell (p:=⟨O,3,G0⟩) L).trans z3⟩)
      | (go_at_call 120;refine(aX _ J).mono ?_;rintro z w4 ⟨⟨v,rfl,hv⟩,aE,H⟩;have cK:w4.cell? ⟨bx,0,G0⟩=G1 (.int .i64 k0)/\w4.cell? ⟨bx,1,G0⟩=G1 (.int .i64 n)/\w4.cell? ⟨bx,2,G0⟩=G1 (stv nm)/\w4.cell? ⟨bx,3,G0⟩=G1 (.slice (G1 ⟨b,off,G0⟩) f.len cap)/\w4.cell? ⟨bx+1,0,G0⟩=G1 (.int .i64 ar)/\w4.cell? ⟨bx+1,1,G0⟩=G1 (.int .i64 q)/\w4.cell? ⟨O,0,G0⟩=G1 (.int .i64 D)/\w4.cell? ⟨O,1,G0⟩=G1 (.int .i64 kn)/\w4.cell? ⟨O,2,G0⟩=G1 (stv C)/\w4.cell? ⟨O,3,G0⟩=G1 (.slice ak j.len ck):=⟨(H.cell (Hh aa J.size) ah au _).trans KA.1,(H.cell (Hh aa J.size) ah au _).trans KA.2.1,(H.cell (Hh aa J.size) ah au _).trans KA.2.2.1,(H.cell (Hh aa J.size) ah au _).trans KA.2.2.2.1,(H.cell (Hh aR J.size) az aS _).trans KA.2.2.2.2.1,(H.cell (Hh aR J.size) az aS _).trans KA.2.2.2.2.2.1,(H.cell (Hh L J.size) aQ aP _).trans KA.2.2.2.2.2.2.1,(H.cell (Hh L J.size) aQ aP _).trans KA.2.2.2.2.2.2.2.1,(H.cell (Hh L J.size) aQ aP _).trans KA.2.2.2.2.2.2.2.2.1,(H.cell (Hh L J.size) aQ aP _).trans KA.2.2.2.2.2.2.2.2.2⟩;have KA:=cK))
    have HM:Hid (Kp rb mb w2 w4):=(Kp.ofBelow (av.trans J)).trans H;clear KA cK c9 aX;go_wp2;go_meet;exact⟨v,rfl,rfl,hv,aE,HM.out⟩
   case rest =>
    obtain⟨v,rfl,rfl,hv,aE,H⟩:=hcut;have aI:=K2.trans H;clear c9 aX p0 p1 p2 p3 K t0 t1 Q z0 z1 z2 z3 zf;cases ae:rr with
    | none =>
     have V:Hid (lP w n0 rb mb (.slice A cells.length l) c Z (.returned (.tuple #[.nilIface,.bool false])) wc):=by
      have hz:Z=G0:=by rw[<-ai.out,ae]
      rw[hz];exact⟨⟨_,rfl,λs k h=>(by cases h)⟩,λs k h=>(by cases h),aI⟩
     clear ai hv aE H aI an bA bz aL aJ L2 aG X2;simp only[JX];go_wp2;exact Hb (v:=.tuple #[.nilIface,.bool false]) (by simp[Hk,Jg,go_sem]) rfl V.out
    | some zz =>
     obtain⟨s2,k⟩:=zz;have dM:=(an.out s2 k ae).1;have bZ:Hid (d.snoc ⟨D,kn,C,X,j⟩).nv:=(an.out s2 k ae).2;obtain⟨ty,vx,rfl,he⟩:=hv s2 k ae;have M:=aE s2 k ae;have cN:Hid (jZ cells ⟨k0,n,nm,a,f⟩ ar q kr (d.len+1) s2 (E++[k])=Z):=by show _=Z;rw[<-ai.out,ae]
     have s4:=H.toStep bj bm;have bX:rb<w2.heap.size:=Ha aG.blk;have ca:mb<w2.heap.size:=aG.ltm;have cJ:=bA.step s4 (by decide);have cC:=bz.step s4 (by decide);have cY:=aL.step s4 (by decide);have cS:=aJ.step s4 (by decide);have bI:dQ w2 o2 0 rb=1:=(ed bX).trans bj;have bM:dQ w2 o2 0 mb=1:=(ed ca).trans bm;have L4:Hid (∀ k,k<w.heap.size->dQ w2 o2 0 k<=1):=λk y=>by rw[ed (by have:=K2.size;omega)];exact L2.out k y
     simp only[JW];clear ai hv aE H an bA bz aL aJ L2 aG X2 ae s4 K2 bj bm av;generalize dQ w2 o2 0=o4 at *
     -- the part goes behind the others
     have s5:=ez (λ_=>False) wc o4 (.cells #[.iface ty vx] 126);have b5:Hf wc.heap.size wc (wc.alloc (.cells #[.iface ty vx] 126)):=(Hi _ wc).alloc (G4 _) _;have cI:=cJ.step s5 id;have cB:=cC.step s5 id;have cX:=cY.step s5 id;have cR:=cS.step s5 id;have aF:=M.below b5;have a5:rb<wc.heap.size:=Ha M.blk;have ba:mb<wc.heap.size:=M.ltm;have bi:dQ wc o4 0 rb=1:=(ed a5).trans bI;have bl:dQ wc o4 0 mb=1:=(ed ba).trans bM;have L5:Hid (∀ k,k<w.heap.size->dQ wc o4 0 k<=1):=λk y=>by rw[ed (by have:=aI.size;omega)];exact L4.out k y
     have ad:=aI.trans (Kp.ofBelow b5);have Y:∀ u ∈ [Value.iface ty vx],u.oneCell'=true:=by intro u hu;simp at hu;subst hu;rfl
     have q1:d.len+1<=Hu:=by unfold Hu;omega
     have q2:(d.len+1)*16<=140737488355328:=by omega
     clear cJ cC cY cS M bI bM L4 aI s5 b5;go_wp2_with (first|(at_builtin;refine eb rfl (.tmp 64) (.tmp 66) 208 rfl 126 ip .nilIface 1 16 Tryz.underlying208 dn bR bQ bP rfl (by decide) (dQ wc o4 0) 2 _ d.len ps rfl cI ⟨wc.heap.size,0,G0⟩ 1 1 [.iface ty vx] rfl rfl (fM wc _ _) Y (by decide) q1 q2 ?_)|go_in);intro g8 c8 w6 o6 cH s6;have da:(wc.alloc (.cells #[.iface ty vx] 126)).heap.size=wc.heap.size+1:=by simp
     have aD:∀ k,k<w.heap.size->dQ wc o4 0 k≠2:=λk y=>by have:=L5.out k y;omega
     have cA:=cB.step s6 (by decide);have cW:=cX.step s6 (by decide);have cQ:=cR.step s6 (by decide);have aZ:=aF.step s6 (by rw[bi];decide) (by rw[bl];decide) (λk y=>aD k (by omega));have bH:o6 rb=1:=(s6.lab rb (by omega)).trans bi;have bL:o6 mb=1:=(s6.lab mb (by omega)).trans bl;have L6:Hid (∀ k,k<w.heap.size->o6 k<=1):=λk y=>by rw[s6.lab k (by have:=ad.size;omega)];exact L5.out k y
     have bE:=ad.step s6 aD;clear cI cB cX cR aF bi bl L5 ad s6 aD da Y q2 a5 ba;generalize dQ wc o4 0=o5 at *;have cr:=λw=>sM k w;go_wp2_with fail;refine(cr _).mono ?_;rintro z w7 ⟨rfl,b7⟩;have s7:=Below.toStep (I:=λ_=>False) (o:=o6) b7;have cG:=cH.step s7 id;have cz:=cA.step s7 id;have cV:=cW.step s7 id;have cP:=cQ.step s7 id;have aY:=aZ.below b7;have a6:rb<w6.heap.size:=Ha aZ.blk;have bb:mb<w6.heap.size:=aZ.ltm;have bG:dQ w6 o6 0 rb=1:=(ed a6).trans bH;have bK:dQ w6 o6 0 mb=1:=(ed bb).trans bL;have L7:Hid (∀ k,k<w.heap.size->dQ w6 o6 0 k<=1):=λk y=>by rw[ed (by have:=bE.size;omega)];exact L6.out k y
     have bD:=bE.trans (Kp.ofBelow b7);clear cH cA cW cQ aZ bH bL L6 bE s7 b7 cr he a6 bb;generalize dQ w6 o6 0=o7 at *;have s8:=ez (λ_=>False) w7 o7 (.cells #[.int .i64 k] 3);have b8:Hf w7.heap.size w7 (w7.alloc (.cells #[.int .i64 k] 3)):=(Hi _ w7).alloc (G4 _) _;have cF:=cG.step s8 id;have cy:=cz.step s8 id;have cU:=cV.step s8 id;have cO:=cP.step s8 id;have cv:=aY.below b8;have bW:rb<w7.heap.size:=Ha aY.blk;have b9:mb<w7.heap.size:=aY.ltm;have bh:dQ w7 o7 0 rb=1:=(ed bW).trans bG;have bk:dQ w7 o7 0 mb=1:=(ed b9).trans bK;have L8:Hid (∀ k,k<w.heap.size->dQ w7 o7 0 k<=1):=λk y=>by rw[ed (by have:=bD.size;omega)];exact L7.out k y
     have bC:=bD.trans (Kp.ofBelow b8);have Y:∀ u ∈ [Hp .i64 k],u.oneCell'=true:=by intro u hu;simp at hu;subst hu;rfl
     have q2:(d.len+1)*8<=140737488355328:=by omega
     have c7:(w7.alloc (.cells #[.int .i64 k] 3)).heap.size=w7.heap.size+1:=by simp
     clear cG cz cV cP aY bG bK L7 bD s8 b8;go_wp2_with (first|(at_builtin;refine eb rfl (.tmp 68) (.tmp 71) 35 rfl 3 ii (.int .i64 0) 1 8 Iu dp bU bT bS rfl (by decide) (dQ w7 o7 0) 3 _ d.len (E.map (Hp .i64)) rfl cy ⟨w7.heap.size,0,G0⟩ 1 1 [.int .i64 k] rfl rfl (fM w7 _ _) Y (by decide) q1 q2 ?_)|go_in);intro g9 c9 w9 o9 cx s9;have aC:∀ k,k<w.heap.size->dQ w7 o7 0 k≠3:=λk y=>by have:=L8.out k y;omega
     have cE:=cF.step s9 (by decide);have dB:=cU.step s9 (by decide);have dA:=cO.step s9 (by decide);have dw:=cv.step s9 (by rw[bh];decide) (by rw[bk];decide) (λk y=>aC k (by omega));have c5:o9 rb=1:=(s9.lab rb (by omega)).trans bh;have c6:o9 mb=1:=(s9.lab mb (by omega)).trans bk;have L9:Hid (∀ k,k<w.heap.size->o9 k<=1):=λk y=>by rw[s9.lab k (by have:=bC.size;omega)];exact L8.out k y
     have dx:=bC.step s9 aC;have bY:Hid (∀ u,u ∈ ps++[Value.iface ty vx]->∃ty x,u=.iface ty x):=by
      intro u hu;rcases List.mem_append.1 hu with h|h
      ·exact aT.out u h
      ·simp at h;exact⟨ty,vx,h⟩
     have aq:(d.snoc ⟨D,kn,C,X,j⟩).len=d.len+1:=Fs.len_snoc _ _;have cw:Row w9 o9 3 3 1 (.slice (G1 ⟨g9,0,G0⟩) (d.len+1) c9) (d.snoc ⟨D,kn,C,X,j⟩).len ((E++[k]).map (Hp .i64)):=by rw[aq,Kn];exact cx
     have cD:Row w9 o9 2 126 1 (.slice (G1 ⟨g8,0,G0⟩) (d.len+1) c8) (d.snoc ⟨D,kn,C,X,j⟩).len (ps++[.iface ty vx]):=by rw[aq];exact cE
     have co:(E++[k]).length=(d.snoc ⟨D,kn,C,X,j⟩).len:=by rw[aq];simp[aV]
     have cn:(d.snoc ⟨D,kn,C,X,j⟩).len<=s2.1:=by rw[aq];omega
     have dz:Hid (jZ cells ⟨k0,n,nm,a,f⟩ ar q kr (d.snoc ⟨D,kn,C,X,j⟩).len s2 (E++[k])=Z):=by rw[aq];exact cN
     clear cF cy cU cO cv bh bk L8 bC s9 aC c7 Y cx cE cN aT aq;go_wp2;go_roundw
     case rel=>exact⟨_,kr,o9,_,_,s2,dm,by rw[<-dl],cD,bY,cw,co,cn,bZ,dw,c5,c6,dB,dA,L9,dx,dz⟩
     case measure=>simp[Ih];omega
theorem sd:∀ N,rB N -- 120
 | 0=>λe ao cap n0 rb mb bv cells ar a s c w h=>absurd h (Ir _)
 | N+1=>tV (sd N)
theorem mY {cells:List Int}{e:Ex}(h:fh cells e≠0):cells.length<=256/\(∀ c,c ∈ cells->0<=c/\c<=4)/\∃s,rgE cells e 0 0 (0,λ_=>G0)=G1 (s,fh cells e)/\fh cells e≠4:=by
 have h0:=h;unfold fh at h ⊢;split at h
 ·exact absurd rfl h
 ·rename_i h1
  rw[if_neg h1];have h2:rgF cells (one e) 0 0 0 0 (0,λ_=>G0)=_:=iQ cells e .nil 0 0 0 0 (0,λ_=>G0);have hsp:eu 0 0 0 0=(0,0):=rfl;rw[hsp] at h2;simp only at h2;refine⟨by omega,?_,?_⟩
  ·intro c hc;have h3:¬(cells.any (λc=>decide (c<0)||decide (4<c))=true):=λh=>h1 (.inr h);simp only[List.any_eq_true,not_exists,not_and,Jn,decide_eq_true_eq] at h3
   have:=h3 c hc
   omega
  ·cases hx:rgE cells e 0 0 (0,λ_=>G0) with
   | none=>rw[h2,hx] at h;exact absurd rfl h
   | some z =>
    obtain⟨s,k⟩:=z;rw[h2,hx] at h ⊢;simp only[rgF] at h ⊢;by_cases h4:k=4
    ·rw[if_pos h4] at h;exact absurd rfl h
    ·rw[if_neg h4];exact⟨s,rfl,h4⟩
theorem qj {cells:List Int}{e:Ex}(h1:cells.length<=256)(h2:∀ c,c ∈ cells->0<=c/\c<=4):fh cells e=(match fP cells e 0 0 (0,λ_=>G0) with|none=>0|some (_,k)=>k):=by
 unfold fh;have h3:¬(256<cells.length\/cells.any (λc=>decide (c<0)||decide (4<c))=true):=by
  rintro (h|h)
  ·omega
  ·simp only[List.any_eq_true,Jn,decide_eq_true_eq] at h;obtain⟨c,hc,h⟩:=h
   have:=h2 c hc
   omega
 rw[if_neg h3];have h4:rgF cells (one e) 0 0 0 0 (0,λ_=>G0)=_:=iQ cells e .nil 0 0 0 0 (0,λ_=>G0);have hsp:eu 0 0 0 0=(0,0):=rfl;rw[h4,hsp];unfold fP;simp only;cases rgE cells e 0 0 (0,λ_=>G0) with
 | none=>rfl
 | some z =>
  obtain⟨s,k⟩:=z;simp only[rgF];split<;>rfl
theorem qy {cells:List Int}{e:Ex}(h:256<cells.length):fh cells e=0:=by unfold fh;rw[if_pos (.inl h)]
def plV (e:Ex)(ao:Option Hw)(cap:Nat)(cv:He):He:=.agg #[.int .i64 e.k,.int .i64 e.n,stv e.nm,.slice ao e.kids.len cap,cv]
theorem fu (e:Ex)(ao:Option Hw)(cap:Nat)(cv:He):plV e ao cap cv=.agg #[.int .i64 e.k,.int .i64 e.n,stv e.nm,.slice ao e.kids.len cap,cv]:=rfl
theorem Fz (cells:List Int):cells.any (λc=>decide (c<0)||decide (4<c))=cells.any nlB:=rfl
theorem sQ {cells:List Int}(h:cells.any nlB=false):∀ c,c ∈ cells->0<=c/\c<=4:=by
 intro c hc;rw[List.any_eq_false] at h
 have:=h c hc
 simp[nlB] at this;omega
theorem ss {cells:List Int}{e:Ex}(h:cells.any nlB=true):fh cells e=0:=by
 unfold fh;rw[if_pos (.inr (by rw[Fz];exact h))]
theorem BI {cells:List Int}{e:Ex}(h1:cells.length<=256)(h2:cells.any nlB=false):fh cells e=(match rgE cells e 0 0 (0,λ_=>G0) with|none=>0|some (_,k)=>if k=4 then 0 else k):=by
 rw[qj h1 (sQ h2)];unfold fP;cases rgE cells e 0 0 (0,λ_=>G0) with
 | none=>rfl
 | some z =>
  obtain⟨s,k⟩:=z;simp only;by_cases h4:k=4
  ·rw[if_pos h4,if_pos h4]
  ·rw[if_neg h4,if_neg h4]
theorem Fj (e:Ex)(ao:Option Hw)(cap:Nat)(cv:He)(cells:List Int)(w:G9)(hf:fA e)(hW:Wd w)(hc:InA w cv cells)(hcl:cells.length<=1000000000)(S:SnA w e.kids ao) :
  Hn G5 72 #[plV e ao cap cv] w λx w'=>(∃v,x=.returned (.tuple #[v,.bool (decide (fh cells e≠0))]))/\Hf w.heap.size w w':=by
 obtain⟨W,hZ⟩:∃W,W=decide (fh cells e≠0):=⟨_,rfl⟩;rw[<-hZ];have HW:Hid (W=decide (fh cells e≠0)):=hZ;clear hZ;obtain⟨ac,cc,hcv,hcx⟩:=hc;have hc:InA w cv cells:=⟨ac,cc,hcv,hcx⟩;subst hcv;clear hcx;have hG:=hW.lt;have B0:Hf w.heap.size w (w.alloc (.cells #[.int .i64 e.k,.int .i64 e.n,stv e.nm,.slice ao e.kids.len cap,.slice ac cells.length cc] 37)):=(Hi _ w).alloc (G4 _) _;have E0:(w.alloc (.cells #[.int .i64 e.k,.int .i64 e.n,stv e.nm,.slice ao e.kids.len cap,.slice ac cells.length cc] 37)).heap[w.heap.size]?=G1 (.cells #[.int .i64 e.k,.int .i64 e.n,stv e.nm,.slice ao e.kids.len cap,.slice ac cells.length cc] 37):=Hc w _;have S0:SlN (w.alloc (.cells #[.int .i64 e.k,.int .i64 e.n,stv e.nm,.slice ao e.kids.len cap,.slice ac cells.length cc] 37)) (Lt0 w.heap.size) e.kids ao:=S.mono (λi _ hl=>B0.block i hl) B0.size (λk _ hl=>hl);have N0:Inw (w.alloc (.cells #[.int .i64 e.k,.int .i64 e.n,stv e.nm,.slice ao e.kids.len cap,.slice ac cells.length cc] 37)) (Lt0 w.heap.size) (.slice ac cells.length cc) cells:=hc.mono (λi _ hl=>B0.block i hl) B0.size (λk _ hl=>hl);have I0:=hc.below B0;have W0:=hW.below B0;clear S hc hW;rw[fu];go_enter Tryz.func72,Tryz.ntmps72;go_upto_region 1 with fail;generalize w.alloc (.cells #[.int .i64 e.k,.int .i64 e.n,stv e.nm,.slice ao e.kids.len cap,.slice ac cells.length cc] 37)=w0 at *;obtain⟨n0,hn0⟩:∃n0,n0=w.heap.size:=⟨_,rfl⟩;rw[<-hn0] at E0 S0 N0 hG B0 ⊢;have HN:Hid (n0=w.heap.size):=hn0;clear hn0;obtain⟨p0,p1,p2,p3,p4,pf⟩:=dS E0;by_cases h256:256<cells.length
 ·have hI:(256:Int)<(cells.length:Int):=by omega
  have HZ:Hid (W=false):=by show W=_;rw[HW.out,qy h256];rfl
  clear HW S0 N0 I0 W0 E0;go_wp2;refine Hb (v:=.tuple #[.nilIface,.bool false]) (by simp[Hk,Kv,go_sem]) rfl ⟨⟨_,by rw[HZ.out]⟩,?_⟩;rw[<-HN.out];exact B0
 have hI:¬(256:Int)<(cells.length:Int):=by omega
 have c1:=om w0 _ cells I0 hcl;go_wp2_with fail;refine c1.mono ?_;rintro z w1 ⟨rfl,rfl⟩;cases hnl:cells.any nlB with
 | true =>
  have HZ:Hid (W=false):=by show W=_;rw[HW.out,ss hnl];rfl
  clear HW S0 N0 I0 W0 E0 c1;go_wp2;refine Hb (v:=.tuple #[.nilIface,.bool false]) (by simp[Hk,Kv,go_sem]) rfl ⟨⟨_,by rw[HZ.out]⟩,?_⟩;rw[<-HN.out];exact B0
 | false =>
 have HW2:Hid (W=decide ((match rgE cells e 0 0 (0,λ_=>G0) with|none=>0|some (_,k)=>if k=4 then 0 else k)≠0)):=by show W=_;rw[HW.out,BI (by omega) hnl]
 clear HW c1;have hmm:=@run_makeMap G5;obtain⟨w2,hw2⟩:∃w2,w2=(w1.alloc (.map #[] 0)).alloc (.cells #[.slice ac cells.length cc,.map (G1 w1.heap.size),.int .i64 0] 170):=⟨_,rfl⟩;have b2:Hf w1.heap.size w1 w2:=by rw[hw2];exact((Hi _ w1).alloc (G4 _) _).alloc (by simp) _
 have M2:MpN w2 (Lt0 n0) w1.heap.size 0 (λ_=>G0):=by
  rw[hw2];exact(MpN.made w1 (Lt0 n0)).mono (Hj _ _ _ (by simp)) (λk _ hl=>Hj _ _ _ hl) (by simp)
 have X2:w2.heap[w1.heap.size+1]?=G1 (.cells #[.slice ac cells.length cc,.map (G1 w1.heap.size),.int .i64 0] 170 (0,0)):=by
  rw[hw2]
  have:=Hc (w1.alloc (.map #[] 0)) (.cells #[.slice ac cells.length cc,.map (G1 w1.heap.size),.int .i64 0] 170)
  simpa using this
 have R2:RD w2 n0 (w1.heap.size+1) w1.heap.size (.slice ac cells.length cc) 0 (0,λ_=>G0):=⟨X2,⟨0,G4 _,M2⟩,by show 0<=4096;omega,λi y h=>by cases h⟩;have hlt:=Ha E0;have c4:=sd (e.kids.size+1) e ao cap n0 (w1.heap.size+1) w1.heap.size (.slice ac cells.length cc) cells 0 0 (0,λ_=>G0) 0 w2 (by omega) hf (by omega) (by omega) (by omega) (by omega) (by omega) (by omega) hG (W0.below b2) R2 (N0.below b2) (S0.belowP b2);rw[dR] at c4;have E2:=(b2.block _ hlt).trans E0;have hmx:n0<=w1.heap.size:=by omega
 have hsz2:w1.heap.size+2<=w2.heap.size:=by have:=Ha X2;omega
 clear E0 S0 N0 I0 W0 M2 X2 R2;go_upto_region 4 with fail;rw[<-hw2];clear hw2 hmm p0 p1 p2 p3 p4 pf;obtain⟨p0,p1,p2,p3,p4,pf⟩:=dS E2;have hpos:Hid (∀ s k,rgE cells e 0 0 (0,λ_=>G0)=G1 (s,k)->k≠0):=λs k h=>mz h;generalize rgE cells e 0 0 (0,λ_=>G0)=rr at *;go_wp2_with fail;refine c4.mono ?_;rintro z w3 ⟨⟨v,rfl,hv⟩,-,K3⟩;have B3:Hf n0 w w3:=(B0.trans (b2.mono hmx)).trans (K3.below (by omega) hmx (by omega));clear c4 p0 p1 p2 p3 p4 pf E2 K3 b2;cases rr with
 | none =>
  have HZ:Hid (W=false):=by show W=_;rw[HW2.out];rfl
  clear HW2 hv;simp only[JX];go_wp2;refine Hb (v:=.tuple #[.nilIface,.bool false]) (by simp[Hk,Kv,go_sem]) rfl ⟨⟨_,by rw[HZ.out]⟩,?_⟩;rw[<-HN.out];exact B3
 | some zz =>
  obtain⟨s2,k⟩:=zz;obtain⟨ty,vx,rfl,he⟩:=hv s2 k rfl;have c5:=λw=>sM k w;simp only[JW];clear hv;go_wp2_with fail;refine(c5 _).mono ?_;rintro z w4 ⟨rfl,b4⟩;have B4:Hf n0 w w4:=B3.trans (b4.mono (by have h1:=B3.size;have h2:=HN.out;omega));by_cases h4:k=4
  ·have hb4:(k==4)=true:=by simpa using h4
   have HZ:Hid (W=false):=by show W=_;rw[HW2.out];simp[h4]
   clear HW2 h4 c5;go_wp2;refine Hb (v:=.tuple #[.nilIface,.bool false]) (by simp[Hk,Kv,go_sem]) rfl ⟨⟨_,by rw[HZ.out]⟩,?_⟩;rw[<-HN.out];exact B4
  ·have hb4:(k==4)=false:=by simpa using h4
   have HZ:Hid (W=true):=by show W=_;rw[HW2.out];simp[h4,hpos.out s2 k rfl]
   clear HW2 h4 c5;go_wp2;refine Hb (v:=.tuple #[.iface ty vx,.bool true]) (by simp[Hk,Kv,go_sem]) rfl ⟨⟨_,by rw[HZ.out]⟩,?_⟩;rw[<-HN.out];exact B4
theorem Bf (e:Ex)(ao:Option Hw)(cap:Nat)(cv:He)(cells:List Int)(w:G9)(hf:fA e)(hW:Wd w)(hc:InA w cv cells)(hcl:cells.length<=1000000000)(S:SnA w e.kids ao) :
  Hn G5 38 #[plV e ao cap cv] w λx w'=>x=.returned (.bool (decide (fh cells e≠0)))/\Hf w.heap.size w w':=by
 obtain⟨ac,cc,hcv,hcx⟩:=hc;have hc:InA w cv cells:=⟨ac,cc,hcv,hcx⟩;subst hcv;clear hcx;have B0:Hf w.heap.size w (w.alloc (.cells #[.int .i64 e.k,.int .i64 e.n,stv e.nm,.slice ao e.kids.len cap,.slice ac cells.length cc] 37)):=(Hi _ w).alloc (G4 _) _;have c1:=Fj e ao cap _ cells _ hf (hW.below B0) (hc.below B0) hcl (SnA.below S B0);generalize decide (fh cells e≠0)=W at *;rw[fu] at c1 ⊢;go_enter Tryz.func38,Tryz.ntmps38;go_wp2_with fail;refine c1.mono ?_;rintro z w1 ⟨⟨v,rfl⟩,b1⟩;have B1:Hf w.heap.size w w1:=B0.trans (b1.mono B0.size);clear c1 b1;go_wp2;go_ret;exact⟨rfl,B1⟩
def kK (w:G9)(e:Ex)(x:Ja)(w':G9):Prop :=
 if (pu e).2.1=0 then ∃ay cy,x=.returned (.tuple #[plV (ofE e []) ay cy (.slice G0 0 0),.int .i64 0])/\SlN w' (Nw w.heap.size) (ofE e []).kids ay/\Hf w.heap.size w w'
 else x=.returned (.tuple #[.agg #[.int .i64 0,.int .i64 0,.string ⟨#[]⟩,.slice G0 0 0,.slice G0 0 0],.int .i64 140])/\Hf w.heap.size w w'
theorem EK (e:Ex)(ao:Option Hw)(cap:Nat)(w:G9)(hf:e.fit)(hsz:e.kids.size<=1000000)(S:SlT w e.kids ao) :
  Hn G5 20 #[exV e ao cap] w (kK w e):=by
 obtain⟨w0,hw0⟩:∃w0,w0=(w.alloc (.cells #[.int .i64 e.k,.int .i64 e.n,stv e.nm,.slice ao e.kids.len cap,.int .i64 e.a] 25)).alloc (.cells #[.int .i64 0,.int .i64 0,.string ⟨#[]⟩,.slice G0 0 0,.slice G0 0 0] 37):=⟨_,rfl⟩;have B0:Hf w.heap.size w w0:=by rw[hw0];exact((Hi _ w).alloc (G4 _) _).alloc (by simp) _
 have E0:w0.heap[w.heap.size]?=G1 (.cells #[.int .i64 e.k,.int .i64 e.n,stv e.nm,.slice ao e.kids.len cap,.int .i64 e.a] 25 (0,0)):=by
  rw[hw0];exact(Hj _ _ _ (by simp)).trans (Hc w _)
 have Z0:w0.heap[w.heap.size+1]?=G1 (.cells #[.int .i64 0,.int .i64 0,.string ⟨#[]⟩,.slice G0 0 0,.slice G0 0 0] 37 (0,0)):=by
  rw[hw0]
  have:=Hc (w.alloc (.cells #[.int .i64 e.k,.int .i64 e.n,stv e.nm,.slice ao e.kids.len cap,.int .i64 e.a] 25)) (.cells #[.int .i64 0,.int .i64 0,.string ⟨#[]⟩,.slice G0 0 0,.slice G0 0 0] 37)
  simpa using this
 have S0:=SlT.below S B0;have c1:=ze e ao cap w0 hf S0;rw[dU] at c1 ⊢;go_enter Tryz.func20,Tryz.ntmps20;go_upto_region 1 with fail;rw[<-hw0];clear hw0;obtain⟨n0,hn0⟩:∃n0,n0=w.heap.size:=⟨_,rfl⟩;rw[<-hn0] at E0 Z0 B0;try rw[<-hn0]
 have HB:Hid (n0=w.heap.size):=hn0;clear hn0;obtain⟨p0,p1,p2,p3,p4,pf⟩:=dS E0;have HT:Hid (∀ (x:Ja) (w':G9),(if (pu e).2.1=0 then ∃ay cy,x=.returned (.tuple #[plV (ofE e []) ay cy (.slice G0 0 0),.int .i64 0])/\SlN w' (Nw w.heap.size) (ofE e []).kids ay/\Hf w.heap.size w w' else x=.returned (.tuple #[.agg #[.int .i64 0,.int .i64 0,.string ⟨#[]⟩,.slice G0 0 0,.slice G0 0 0],.int .i64 140])/\Hf w.heap.size w w')->kK w e x w'):=λx w' h=>h;generalize pu e=T at *;obtain⟨tk,te,tp⟩:=T;simp only at HT;go_wp2_with fail;refine c1.mono ?_;rintro x w1 ⟨rfl,b1⟩;have hzl:=Ha Z0;have E1:=(b1.block _ (Ha E0)).trans E0;have Z1:=(b1.block _ hzl).trans Z0;have B1:Hf n0 w w1:=B0.trans (b1.mono (by omega));have S1:=SlT.below S0 b1;clear c1 b1 E0 Z0 p0 p1 p2 p3 p4 pf S0 B0;obtain⟨p0,p1,p2,p3,p4,pf⟩:=dS E1;obtain⟨z0,z1,z2,z3,z4,zf⟩:=dS Z1;simp only[Aq];by_cases hte:te=0
 ·have hb:((te:Int) != 0)=false:=by simp[hte]
  have c2:=vN (e.kids.size+1) e ao cap [] (.slice G0 0 0) w1 (by omega) hf.len hf.sh (by simp;omega) (Nms.nil w1) S1;rw[dU] at c2;have HT2:Hid (∀ (x:Ja) (w':G9),(∃ay cy,x=.returned (.tuple #[plV (ofE e []) ay cy (.slice G0 0 0),.int .i64 0])/\SlN w' (Nw w.heap.size) (ofE e []).kids ay/\Hf w.heap.size w w')->kK w e x w'):=λx w' h=>HT.out x w' (by rw[if_pos hte];exact h);generalize ofE e []=y at *;clear HT S1 hte z0 z1 z2 z3 z4 zf;go_wp2_with fail;refine c2.mono ?_;rintro x w2 ⟨ay,cy,rfl,S2,b2⟩;have Z2:=(b2.block _ (Ha Z1)).trans Z1;have B2:Hf n0 w w2:=B1.trans (b2.mono (by have:=Ha Z1;omega));have hz1:=Ha Z1;have HU:Hid (∃wz,wz=(((((w2.setCell ⟨n0+1,0,G0⟩ (.int .i64 y.k)).setCell ⟨n0+1,1,G0⟩ (.int .i64 y.n)).setCell ⟨n0+1,2,G0⟩ (stv y.nm)).setCell ⟨n0+1,3,G0⟩ (.slice ay y.kids.len cy)).setCell ⟨n0+1,4,G0⟩ (.slice G0 0 0))/\wz.cell? ⟨n0+1,0,G0⟩=G1 (.int .i64 y.k)/\wz.cell? ⟨n0+1,1,G0⟩=G1 (.int .i64 y.n)/\wz.cell? ⟨n0+1,2,G0⟩=G1 (stv y.nm)/\wz.cell? ⟨n0+1,3,G0⟩=G1 (.slice ay y.kids.len cy)/\wz.cell? ⟨n0+1,4,G0⟩=G1 (.slice G0 0 0)/\kK w e (.returned (.tuple #[.agg #[.int .i64 y.k,.int .i64 y.n,stv y.nm,.slice ay y.kids.len cy,.slice G0 0 0],.int .i64 0])) wz):=by
   obtain⟨u0,u1,u2,u3,u4,-⟩:=dS (eX (.int .i64 y.k) (.int .i64 y.n) (stv y.nm) (.slice ay y.kids.len cy) (.slice G0 0 0) Z2);refine⟨_,rfl,u0,u1,u2,u3,u4,HT2.out _ _ ⟨ay,cy,rfl,?_,?_⟩⟩
   ·exact S2.mono (λk hp _=>ir w2 (n0+1) k _ _ _ _ _ (by have hp:w1.heap.size<=k:=hp;omega)) (by simp) (λk hp _=>by have hp:w1.heap.size<=k:=hp;have:=HB.out;show w.heap.size<=k;omega)
   ·rw[<-HB.out];exact(((((B2.setCell (p:=⟨n0+1,0,G0⟩) (Iv _) _).setCell (p:=⟨n0+1,1,G0⟩) (Iv _) _).setCell (p:=⟨n0+1,2,G0⟩) (Iv _) _).setCell (p:=⟨n0+1,3,G0⟩) (Iv _) _).setCell (p:=⟨n0+1,4,G0⟩) (Iv _) _)
  obtain⟨z0,z1,z2,z3,z4,zf⟩:=dS Z2;clear c2 S2 b2 Z2 B2 Z1 E1 B1 p0 p1 p2 p3 p4 pf HT2 hz1;rw[dR];go_wp2;obtain⟨wz,hwz,v0,v1,v2,v3,v4,PZ⟩:=HU.out;rw[<-hwz];exact Hb (v:=.tuple #[.agg #[.int .i64 y.k,.int .i64 y.n,stv y.nm,.slice ay y.kids.len cy,.slice G0 0 0],.int .i64 0]) (by simp[Hk,Tryz.results20,go_sem,v0,v1,v2,v3,v4]) rfl PZ
 ·have hb:((te:Int) != 0)=true:=by simp;omega
  have HU:Hid (∃wz,wz=(((((w1.setCell ⟨n0+1,0,G0⟩ (.int .i64 0)).setCell ⟨n0+1,1,G0⟩ (.int .i64 0)).setCell ⟨n0+1,2,G0⟩ (.string ⟨#[]⟩)).setCell ⟨n0+1,3,G0⟩ (.slice G0 0 0)).setCell ⟨n0+1,4,G0⟩ (.slice G0 0 0))/\wz.cell? ⟨n0+1,0,G0⟩=G1 (.int .i64 0)/\wz.cell? ⟨n0+1,1,G0⟩=G1 (.int .i64 0)/\wz.cell? ⟨n0+1,2,G0⟩=G1 (.string ⟨#[]⟩)/\wz.cell? ⟨n0+1,3,G0⟩=G1 (.slice G0 0 0)/\wz.cell? ⟨n0+1,4,G0⟩=G1 (.slice G0 0 0)/\kK w e (.returned (.tuple #[.agg #[.int .i64 0,.int .i64 0,.string ⟨#[]⟩,.slice G0 0 0,.slice G0 0 0],.int .i64 140])) wz):=by
   obtain⟨u0,u1,u2,u3,u4,-⟩:=dS (eX (.int .i64 0) (.int .i64 0) (.string ⟨#[]⟩) (.slice G0 0 0) (.slice G0 0 0) Z1);refine⟨_,rfl,u0,u1,u2,u3,u4,HT.out _ _ ?_⟩;rw[if_neg hte,<-HB.out];exact⟨rfl,(((((B1.setCell (p:=⟨n0+1,0,G0⟩) (Iv _) _).setCell (p:=⟨n0+1,1,G0⟩) (Iv _) _).setCell (p:=⟨n0+1,2,G0⟩) (Iv _) _).setCell (p:=⟨n0+1,3,G0⟩) (Iv _) _).setCell (p:=⟨n0+1,4,G0⟩) (Iv _) _)⟩
  clear HT hte E1 Z1 B1 S1;go_wp2;obtain⟨wz,hwz,v0,v1,v2,v3,v4,PZ⟩:=HU.out;rw[<-hwz];exact Hb (v:=.tuple #[.agg #[.int .i64 0,.int .i64 0,.string ⟨#[]⟩,.slice G0 0 0,.slice G0 0 0],.int .i64 140]) (by simp[Hk,Tryz.results20,go_sem,v0,v1,v2,v3,v4]) rfl PZ
def Qd {α:Type}(f:List Tk->Rs α)(st:Sq)(X:α)(st':Sq):Prop:=st'=onw f st/\∀ ts y t,st=.inr ts->f ts=.ok y t->X=y
def Nou {α:Type}(f:List Tk->Rs α)(st:Sq):Prop:=∀ ts,st=.inr ts->f ts≠.out
theorem Nou.fst {α β:Type}{f:List Tk->Rs α}{g:α->List Tk->Rs β}{st:Sq}(h:Nou (λts=>(f ts).bind g) st):Nou f st:=λts hs e=>h ts hs (by show (f ts).bind g=_;rw[e];rfl)
theorem Nou.snd {α β:Type}{f:List Tk->Rs α}{g:α->List Tk->Rs β}{st st':Sq}{x:α}(h:Nou (λts=>(f ts).bind g) st)(q:Qd f st x st'):Nou (g x) st':=by
 obtain⟨rfl,q⟩:=q
 match st with
 | .inl ea=>intro ts hs;cases hs
 | .inr t0 =>
  intro ts hs e;cases hf:f t0 using Rs.on with
  | out=>exact h t0 rfl (by show (f t0).bind g=_;rw[hf];rfl)
  | bad e2 a=>simp[onw,hf,stp] at hs
  | ok y t =>
   have e1:=q t0 y t rfl hf;subst e1;have e2:t=ts:=by simpa [onw,hf,stp] using hs
   subst e2;exact h t0 rfl (by show (f t0).bind g=_;rw[hf];exact e)
theorem Qd.bind {α β:Type}{f:List Tk->Rs α}{g:α->List Tk->Rs β}{st st1 st':Sq}{x:α}{X:β}(p:Qd f st x st1)(q:Qd (g x) st1 X st'):Qd (λts=>(f ts).bind g) st X st':=by
 obtain⟨rfl,p⟩:=p;obtain⟨rfl,q⟩:=q
 match st with
 | .inl ea=>exact⟨rfl,λts y t hs=>by cases hs⟩
 | .inr t0 =>
  cases hf:f t0 using Rs.on with
  | out =>
   refine⟨by simp[onw,hf,stp,Rs.bind],λts y t hs hb=>?_⟩;cases hs;have hb:(f t0).bind g=_:=hb;rw[hf] at hb;cases hb
  | bad e a =>
   refine⟨by simp[onw,hf,stp,Rs.bind],λts y t hs hb=>?_⟩;cases hs;have hb:(f t0).bind g=_:=hb;rw[hf] at hb;cases hb
  | ok y t =>
   have e1:=p t0 y t rfl hf;subst e1;refine⟨by simp[onw,hf,stp,Rs.bind],λts z t2 hs hb=>?_⟩;cases hs;have hb:(f t0).bind g=_:=hb;rw[hf] at hb;exact q t z t2 (by simp[onw,hf,stp]) hb
theorem Qd.ret {α:Type}(X:α)(st:Sq):Qd (λt=>.ok X t) st X st:=by
 match st with
 | .inl ea=>exact⟨rfl,λts y t hs=>by cases hs⟩
 | .inr t0=>exact⟨rfl,λts y t hs hb=>(Rs.ok_inj hb).1⟩
theorem Qd.any {α:Type}[Inhabited α](f:List Tk->Rs α)(st:Sq):∃X,Qd f st X (onw f st):=by
 match st with
 | .inl ea=>exact⟨default,rfl,λts y t hs=>by cases hs⟩
 | .inr t0 =>
  cases hf:f t0 using Rs.on with
  | out=>exact⟨default,rfl,λts y t hs hb=>by cases hs;rw[hf] at hb;cases hb⟩
  | bad e a=>exact⟨default,rfl,λts y t hs hb=>by cases hs;rw[hf] at hb;cases hb⟩
  | ok y t=>exact⟨y,rfl,λts z t2 hs hb=>by cases hs;rw[hf] at hb;exact(Rs.ok_inj hb).1⟩
theorem Qd.congr {α:Type}{f g:List Tk->Rs α}{st st':Sq}{X:α}(h:Qd f st X st')(e:∀ ts,st=.inr ts->f ts=g ts):Qd g st X st':=by
 obtain⟨rfl,h⟩:=h
 match st with
 | .inl ea=>exact⟨rfl,λts y t hs=>by cases hs⟩
 | .inr t0=>exact⟨by simp only[onw];rw[e t0 rfl],λts y t hs hb=>by rw[<-e ts hs] at hb;exact h ts y t hs hb⟩
theorem Nou.congr {α:Type}{f g:List Tk->Rs α}{st:Sq}(h:Nou f st)(e:∀ ts,st=.inr ts->f ts=g ts):Nou g st:=λts hs=>by rw[<-e ts hs];exact h ts hs
def gq (rb:Nat)(all:List Tk)(o q:Nat)(w:G9)(st:Sq)(f:List Tk->Rs Ex)(e:Ja)(w':G9):Prop :=
 ∃X ao cap st',e=.returned (exV X ao cap)/\Sl w' (Nw w.heap.size) X.kids ao/\QS w' rb all o q st'/\dX rb w w'/\Qd f st X st'
def mK (rec:Rdr):Prop :=
 ∀ (w:G9) (rb:Nat) (all:List Tk) (row o q:Nat) (st:Sq),(∀ x,x ∈ all->iJ x)->1<=row->row<=7->QS w rb all o q st->Nou (rec row o q) st->Hn G5 28 #[.pointer (G1 ⟨rb,0,G0⟩),.int .i64 (row:Nat)] w (gq rb all o q w st (rec row o q))
theorem QS.alloc {w:G9}{rb o q:Nat}{all:List Tk}{st:Sq}(h:QS w rb all o q st)(ob:Obj):QS (w.alloc ob) rb all o q st:=h.below ((Hi _ w).alloc (G4 _) ob)
theorem Rq.setP {w:G9}{rb i:Nat}{o q:Int}{er pl:Nat}{all:List Tk}(h:Rq w rb i o q er pl all)(p:Hw)(v:He)(hp:rb<p.block):Rq (w.setCell p v) rb i o q er pl all:=by
 obtain⟨g,cap,h1,h2,h4,h5⟩:=h;exact⟨g,cap,(Hl w p rb v (by omega)).trans h1,h2,λj u hu=>(Ho (a:=⟨g,j,G0⟩) (Hl w p g v (by omega))).trans (h4 j u hu),h5⟩
theorem QS.setP {w:G9}{rb o q:Nat}{all:List Tk}{st:Sq}(h:QS w rb all o q st)(p:Hw)(v:He)(hp:rb<p.block):QS (w.setCell p v) rb all o q st:=by
 match st,h with
 | .inl (er,a),⟨i,o',q',h1,h2⟩=>exact⟨i,o',q',h1.setP p v hp,h2⟩
 | .inr ts,⟨i,pl,h1,h2⟩=>exact⟨i,pl,h1.setP p v hp,h2⟩
theorem QS.set5 {w:G9}{rb o q:Nat}{all:List Tk}{st:Sq}(h:QS w rb all o q st){b:Nat}(hb:rb<b)(b0 b1 b2 b3 b4:He):QS (((((w.setCell ⟨b,0,G0⟩ b0).setCell ⟨b,1,G0⟩ b1).setCell ⟨b,2,G0⟩ b2).setCell ⟨b,3,G0⟩ b3).setCell ⟨b,4,G0⟩ b4) rb all o q st:=((((h.setP ⟨b,0,G0⟩ b0 hb).setP ⟨b,1,G0⟩ b1 hb).setP ⟨b,2,G0⟩ b2 hb).setP ⟨b,3,G0⟩ b3 hb).setP ⟨b,4,G0⟩ b4 hb
theorem rx {w:G9}{rb o q:Nat}{all:List Tk}{x:Tk}{r:List Tk}(s:List UInt8)(hs:s≠[])(hx:x.t=s)(h:QS w rb all o q (.inr (x::r))) :
  Hn G5 104 #[.pointer (G1 ⟨rb,0,G0⟩)] w λe w'=>e=.returned (.tuple #[])/\QS w' rb all (o+1) q (onw (el s o) (.inr (x::r)))/\dX rb w w':=by
 by_cases h64:o=64
 ·subst h64;have e1:onw (el s 64) (.inr (x::r))=.inl (121,x.a):=by simp[onw,el,hx,stp]
  rw[e1];exact vL h
 ·have e1:onw (el s o) (.inr (x::r))=.inr r:=by simp[onw,el,hx,stp,h64]
  rw[e1];exact q7 (by have:=h.le.1;omega) (by rw[hx];exact hs) h
theorem mw {o:Nat}{x:Tk}{r:List Tk}(s:List UInt8):Qd (el s o) (.inr (x::r)) x.a (onw (el s o) (.inr (x::r))):=by
 refine⟨rfl,λts y t hs hb=>?_⟩;cases hs;unfold el at hb;by_cases hx:x.t=s
 ·by_cases h64:o=64
  ·simp[hx,h64] at hb
  ·simp[hx,h64] at hb;exact hb.1
 ·simp[hx] at hb
def Ctx {β:Type}(F:List Tk->Rs β)(st0:Sq)(G:List Tk->Rs β)(st:Sq):Prop:=Nou G st/\∀ X st',Qd G st X st'->Qd F st0 X st'
theorem Ctx.start {β:Type}{F:List Tk->Rs β}{st:Sq}(h:Nou F st):Ctx F st F st:=⟨h,λ_ _ q=>q⟩
theorem Ctx.nou {α β:Type}{F:List Tk->Rs β}{st0 st:Sq}{f:List Tk->Rs α}{g:α->List Tk->Rs β}(h:Ctx F st0 (λts=>(f ts).bind g) st):Nou f st:=h.1.fst
theorem Ctx.step {α β:Type}{F:List Tk->Rs β}{st0 st st1:Sq}{f:List Tk->Rs α}{g:α->List Tk->Rs β}{x:α}(h:Ctx F st0 (λts=>(f ts).bind g) st)(q:Qd f st x st1):Ctx F st0 (g x) st1:=⟨h.1.snd q,λX st' q2=>h.2 X st' (q.bind q2)⟩
theorem Ctx.fin {β:Type}{F:List Tk->Rs β}{st0 st:Sq}{X:β}(h:Ctx F st0 (λt=>.ok X t) st):Qd F st0 X st:=h.2 X st (Qd.ret X st)
def wL (rb:Nat)(all:List Tk)(o q:Nat)(w:G9)(st:Sq)(f:List Tk->Rs Nat)(e:Ja)(w':G9):Prop :=
 ∃X st',e=.returned (.tuple #[])/\QS w' rb all o q st'/\dX rb w w'/\Qd f st X st'
theorem D9 {rb:Nat}{all:List Tk}{o q:Nat}{w:G9}{st:Sq}(f:List Tk->Rs Nat){e:Ja}{w':G9}(h:e=.returned (.tuple #[])/\QS w' rb all o q (onw f st)/\dX rb w w'):wL rb all o q w st f e w':=by
 obtain⟨X,hX⟩:=Qd.any f st;exact⟨X,_,h.1,h.2.1,h.2.2,hX⟩
theorem oX {w:G9}{rb o q:Nat}{all:List Tk}{st:Sq}(TI:∀ x,x ∈ all->iJ x)(s:List UInt8)(hs:s≠[]/\eH s=false)(h:QS w rb all o q st) :
  Hn G5 203 #[.pointer (G1 ⟨rb,0,G0⟩),stv s] w (wL rb all o q w st (eI s)):=(vj TI s hs.1 hs.2 h).mono λ_ _ hh=>D9 _ hh
theorem lj {w:G9}{rb o q:Nat}{all:List Tk}{st:Sq}(TI:∀ x,x ∈ all->iJ x)(s:List UInt8)(hs:s≠[]/\eH s=false)(h:QS w rb all (o+1) q st) :
  Hn G5 161 #[.pointer (G1 ⟨rb,0,G0⟩),stv s] w (wL rb all o q w st (eI s)):=(Dl TI s hs.1 hs.2 h).mono λ_ _ hh=>D9 _ hh
theorem kV {w:G9}{rb o q:Nat}{all:List Tk}{st:Sq}(TI:∀ x,x ∈ all->iJ x)(s:List UInt8)(hs:s≠[]/\eH s=false)(h:QS w rb all o q st) :
  Hn G5 160 #[.pointer (G1 ⟨rb,0,G0⟩),stv s] w (wL rb all (o+1) q w st (el s o)):=(qH TI s hs.1 hs.2 h).mono λ_ _ hh=>by
 obtain⟨X,hX⟩:=Qd.any (el s o) st;exact⟨X,_,hh.1,hh.2.1,hh.2.2,hX⟩
theorem BO {rec:Rdr}(R:mK rec){w:G9}{rb o q:Nat}{all:List Tk}{x:Tk}{r:List Tk}(TI:∀ x,x ∈ all->iJ x)(hx:x.t=[105,102])(h:QS w rb all o q (.inr (x::r)))(hn:Nou (gP rec o q) (.inr (x::r))) :
  Hn G5 162 #[.pointer (G1 ⟨rb,0,G0⟩),.int .i64 (x.a:Nat)] w (gq rb all o q w (.inr (x::r)) (gP rec o q)):=by
 have C0:=Ctx.start hn;have q0:=mw (o:=o) (x:=x) (r:=r) [105,102];have hrb:=h.lt;have K0:dX rb w (w.alloc exZ):=(dX.refl rb w).alloc _;have Z0:(w.alloc exZ).heap[w.heap.size]?=G1 exZ:=Hc w _;have h0:=h.alloc exZ;have c1:=rx [105,102] (by decide) hx h0;have C1:=C0.step q0;generalize onw (el [105,102] o) (.inr (x::r))=st1 at *;clear C0 q0 hn;go_enter Tryz.func162,Tryz.ntmps162;go_wp2_with fail;refine c1.mono ?_;rintro e w1 ⟨rfl,h1,k1⟩;clear c1;have Z1:=k1.blk Z0 (by have:=K0.size;omega);have K1:=K0.trans k1;clear K0 Z0;have c2:=R _ rb all 1 (o+1) (q) st1 TI (by omega) (by omega) h1 C1.nou;go_wp2_with fail;refine c2.mono ?_;rintro e w2 ⟨x2,ao2,cap2,st2,rfl,S2,h2,k2,Q2⟩;have C2:=C1.step Q2;clear c2 Q2 C1;have S2a:=S2.low (show (w.heap.size+1)<=_ from (by have:=Ha Z1;omega));clear S2;have Z2:=k2.blk Z1 (by have:=K1.size;omega);have K2:=K1.trans k2;clear K1 Z1;have h2a:=h2.alloc (.cells #[.int .i64 x2.k,.int .i64 x2.n,stv x2.nm,.slice ao2 x2.kids.len cap2,.int .i64 x2.a] 25);have K2a:=K2.alloc (.cells #[.int .i64 x2.k,.int .i64 x2.n,stv x2.nm,.slice ao2 x2.kids.len cap2,.int .i64 x2.a] 25);have Z2a:=(Hj w2 (.cells #[.int .i64 x2.k,.int .i64 x2.n,stv x2.nm,.slice ao2 x2.kids.len cap2,.int .i64 x2.a] 25) _ (Ha Z2)).trans Z2;have Y2_a:(IB w2 (.cells #[.int .i64 x2.k,.int .i64 x2.n,stv x2.nm,.slice ao2 x2.kids.len cap2,.int .i64 x2.a] 25)).heap[w2.heap.size]?=G1 (.cells #[.int .i64 x2.k,.int .i64 x2.n,stv x2.nm,.slice ao2 x2.kids.len cap2,.int .i64 x2.a] 25):=Hc w2 _;have S2a_2b:=S2a.allocN (.cells #[.int .i64 x2.k,.int .i64 x2.n,stv x2.nm,.slice ao2 x2.kids.len cap2,.int .i64 x2.a] 25);have hb2:rb<w2.heap.size:=by have:=K2.size;omega
 clear h2 K2 Z2 S2a;rw[dU];have c3:=oX TI [116,104,101,110] ⟨by decide,by decide⟩ h2a;go_wp2_with fail;refine c3.mono ?_;rintro e w3 ⟨x3,st3,rfl,h3,k3,Q3⟩;have C3:=C2.step Q3;clear c3 Q3 C2;have Z3:=k3.blk Z2a (by have:=K2a.size;omega);have K3:=K2a.trans k3;have Y2_3:=k3.blk Y2_a (by omega);have S2a_3:=S2a_2b.keepN k3 (by omega);clear K2a Z2a Y2_a S2a_2b;have c4:=R _ rb all 1 (o+1) (q) st3 TI (by omega) (by omega) h3 C3.nou;go_wp2_with fail;refine c4.mono ?_;rintro e w4 ⟨x4,ao4,cap4,st4,rfl,S4,h4,k4,Q4⟩;have C4:=C3.step Q4;clear c4 Q4 C3;have S4a:=S4.low (show (w.heap.size+1)<=_ from (by have:=Ha Z3;omega));clear S4;have Z4:=k4.blk Z3 (by have:=K3.size;omega);have K4:=K3.trans k4;have Y2_4:=k4.blk Y2_3 (by omega);have S2a_4:=S2a_3.keepN k4 (by omega);clear K3 Z3 Y2_3 S2a_3;have h4a:=h4.alloc (.cells #[.int .i64 x4.k,.int .i64 x4.n,stv x4.nm,.slice ao4 x4.kids.len cap4,.int .i64 x4.a] 25);have K4a:=K4.alloc (.cells #[.int .i64 x4.k,.int .i64 x4.n,stv x4.nm,.slice ao4 x4.kids.len cap4,.int .i64 x4.a] 25);have Z4a:=(Hj w4 (.cells #[.int .i64 x4.k,.int .i64 x4.n,stv x4.nm,.slice ao4 x4.kids.len cap4,.int .i64 x4.a] 25) _ (Ha Z4)).trans Z4;have Y2_4a:=(Hj w4 (.cells #[.int .i64 x4.k,.int .i64 x4.n,stv x4.nm,.slice ao4 x4.kids.len cap4,.int .i64 x4.a] 25) _ (Ha Y2_4)).trans Y2_4;have Y4_a:(IB w4 (.cells #[.int .i64 x4.k,.int .i64 x4.n,stv x4.nm,.slice ao4 x4.kids.len cap4,.int .i64 x4.a] 25)).heap[w4.heap.size]?=G1 (.cells #[.int .i64 x4.k,.int .i64 x4.n,stv x4.nm,.slice ao4 x4.kids.len cap4,.int .i64 x4.a] 25):=Hc w4 _;have S2a_4b:=S2a_4.allocN (.cells #[.int .i64 x4.k,.int .i64 x4.n,stv x4.nm,.slice ao4 x4.kids.len cap4,.int .i64 x4.a] 25);have S4a_4b:=S4a.allocN (.cells #[.int .i64 x4.k,.int .i64 x4.n,stv x4.nm,.slice ao4 x4.kids.len cap4,.int .i64 x4.a] 25);have hb4:rb<w4.heap.size:=by have:=K4.size;omega
 clear h4 K4 Z4 Y2_4 S2a_4 S4a;rw[dU];have c5:=oX TI [101,108,115,101] ⟨by decide,by decide⟩ h4a;go_wp2_with fail;refine c5.mono ?_;rintro e w5 ⟨x5,st5,rfl,h5,k5,Q5⟩;have C5:=C4.step Q5;clear c5 Q5 C4;have Z5:=k5.blk Z4a (by have:=K4a.size;omega);have K5:=K4a.trans k5;have Y2_5:=k5.blk Y2_4a (by omega);have Y4_5:=k5.blk Y4_a (by omega);have S2a_5:=S2a_4b.keepN k5 (by omega);have S4a_5:=S4a_4b.keepN k5 (by omega);clear K4a Z4a Y2_4a Y4_a S2a_4b S4a_4b;have c6:=R _ rb all 1 (o+1) (q) st5 TI (by omega) (by omega) h5 C5.nou;go_wp2_with fail;refine c6.mono ?_;rintro e w6 ⟨x6,ao6,cap6,st6,rfl,S6,h6,k6,Q6⟩;have C6:=C5.step Q6;clear c6 Q6 C5;have S6a:=S6.low (show (w.heap.size+1)<=_ from (by have:=Ha Z5;omega));clear S6;have Z6:=k6.blk Z5 (by have:=K5.size;omega);have K6:=K5.trans k6;have Y2_6:=k6.blk Y2_5 (by omega);have Y4_6:=k6.blk Y4_5 (by omega);have S2a_6:=S2a_5.keepN k6 (by omega);have S4a_6:=S4a_5.keepN k6 (by omega);clear K5 Z5 Y2_5 Y4_5 S2a_5 S4a_5;have h6a:=h6.alloc (.cells #[.int .i64 x6.k,.int .i64 x6.n,stv x6.nm,.slice ao6 x6.kids.len cap6,.int .i64 x6.a] 25);have K6a:=K6.alloc (.cells #[.int .i64 x6.k,.int .i64 x6.n,stv x6.nm,.slice ao6 x6.kids.len cap6,.int .i64 x6.a] 25);have Z6a:=(Hj w6 (.cells #[.int .i64 x6.k,.int .i64 x6.n,stv x6.nm,.slice ao6 x6.kids.len cap6,.int .i64 x6.a] 25) _ (Ha Z6)).trans Z6;have Y2_6a:=(Hj w6 (.cells #[.int .i64 x6.k,.int .i64 x6.n,stv x6.nm,.slice ao6 x6.kids.len cap6,.int .i64 x6.a] 25) _ (Ha Y2_6)).trans Y2_6;have Y4_6a:=(Hj w6 (.cells #[.int .i64 x6.k,.int .i64 x6.n,stv x6.nm,.slice ao6 x6.kids.len cap6,.int .i64 x6.a] 25) _ (Ha Y4_6)).trans Y4_6;have Y6_a:(IB w6 (.cells #[.int .i64 x6.k,.int .i64 x6.n,stv x6.nm,.slice ao6 x6.kids.len cap6,.int .i64 x6.a] 25)).heap[w6.heap.size]?=G1 (.cells #[.int .i64 x6.k,.int .i64 x6.n,stv x6.nm,.slice ao6 x6.kids.len cap6,.int .i64 x6.a] 25):=Hc w6 _;have S2a_6b:=S2a_6.allocN (.cells #[.int .i64 x6.k,.int .i64 x6.n,stv x6.nm,.slice ao6 x6.kids.len cap6,.int .i64 x6.a] 25);have S4a_6b:=S4a_6.allocN (.cells #[.int .i64 x6.k,.int .i64 x6.n,stv x6.nm,.slice ao6 x6.kids.len cap6,.int .i64 x6.a] 25);have S6a_6b:=S6a.allocN (.cells #[.int .i64 x6.k,.int .i64 x6.n,stv x6.nm,.slice ao6 x6.kids.len cap6,.int .i64 x6.a] 25);have hb6:rb<w6.heap.size:=by have:=K6.size;omega
 clear h6 K6 Z6 Y2_6 Y4_6 S2a_6 S4a_6 S6a;rw[dU];go_upto_region 7 with fail;generalize (IB w6 (.cells #[.int .i64 x6.k,.int .i64 x6.n,stv x6.nm,.slice ao6 x6.kids.len cap6,.int .i64 x6.a] 25))=v7 at *;obtain⟨o8,d8,df8,h8⟩:=h6a.down;have k8:dX rb v7 _:=dX.at v7 2 (.int .i64 (Io (o8-1)));clear h6a;go_upto_region 8 with fail;generalize v7.setCell ⟨rb,2,G0⟩ (.int .i64 (Io (o8-1)))=w8 at *;clear d8 df8;have Z8:=k8.blk Z6a (by have:=K6a.size;omega);have K8:=K6a.trans k8;have Y2_8:=k8.blk Y2_6a (by omega);have Y4_8:=k8.blk Y4_6a (by omega);have Y6_8:=k8.blk Y6_a (by omega);have S2a_8:=S2a_6b.keepN k8 (by omega);have S4a_8:=S4a_6b.keepN k8 (by omega);have S6a_8:=S6a_6b.keepN k8 (by omega);clear K6a Z6a Y2_6a Y4_6a Y6_a S2a_6b S4a_6b S6a_6b;have NS:Sl (IB w8 (.cells [.int .i64 x2.k,.int .i64 x2.n,stv x2.nm,.slice ao2 x2.kids.len cap2,.int .i64 x2.a,.int .i64 x4.k,.int .i64 x4.n,stv x4.nm,.slice ao4 x4.kids.len cap4,.int .i64 x4.a,.int .i64 x6.k,.int .i64 x6.n,stv x6.nm,.slice ao6 x6.kids.len cap6,.int .i64 x6.a].toArray 25)) (Nw (w.heap.size+1)) (((one x2).snoc x4).snoc x6) (G1 ⟨w8.heap.size,0,G0⟩):=Sl.fresh _ 25 (Fc.app (Fc.app (Fc.one (e:=x2) cap2 S2a_8) (Fc.one (e:=x4) cap4 S4a_8)) (Fc.one (e:=x6) cap6 S6a_8)) (by have:=Ha Z8;omega);have KF:=K8.alloc (.cells [.int .i64 x2.k,.int .i64 x2.n,stv x2.nm,.slice ao2 x2.kids.len cap2,.int .i64 x2.a,.int .i64 x4.k,.int .i64 x4.n,stv x4.nm,.slice ao4 x4.kids.len cap4,.int .i64 x4.a,.int .i64 x6.k,.int .i64 x6.n,stv x6.nm,.slice ao6 x6.kids.len cap6,.int .i64 x6.a].toArray 25);have RF:=h8.alloc (.cells [.int .i64 x2.k,.int .i64 x2.n,stv x2.nm,.slice ao2 x2.kids.len cap2,.int .i64 x2.a,.int .i64 x4.k,.int .i64 x4.n,stv x4.nm,.slice ao4 x4.kids.len cap4,.int .i64 x4.a,.int .i64 x6.k,.int .i64 x6.n,stv x6.nm,.slice ao6 x6.kids.len cap6,.int .i64 x6.a].toArray 25);have ZF:=(Hj w8 (.cells [.int .i64 x2.k,.int .i64 x2.n,stv x2.nm,.slice ao2 x2.kids.len cap2,.int .i64 x2.a,.int .i64 x4.k,.int .i64 x4.n,stv x4.nm,.slice ao4 x4.kids.len cap4,.int .i64 x4.a,.int .i64 x6.k,.int .i64 x6.n,stv x6.nm,.slice ao6 x6.kids.len cap6,.int .i64 x6.a].toArray 25) _ (Ha Z8)).trans Z8;have KE:=KF.set5 (b:=w.heap.size) (by omega) (.int .i64 19) (.int .i64 0) (stv []) (.slice (G1 ⟨w8.heap.size,0,G0⟩) 3 3) (.int .i64 x.a);have RE:=RF.set5 (b:=w.heap.size) (by omega) (.int .i64 19) (.int .i64 0) (stv []) (.slice (G1 ⟨w8.heap.size,0,G0⟩) 3 3) (.int .i64 x.a);have ZE:=eX (.int .i64 19) (.int .i64 0) (stv []) (.slice (G1 ⟨w8.heap.size,0,G0⟩) 3 3) (.int .i64 x.a) ZF;have SE:Sl _ (Nw w.heap.size) _ _:=(NS.set5 (b:=w.heap.size) (by omega) (.int .i64 19) (.int .i64 0) (stv []) (.slice (G1 ⟨w8.heap.size,0,G0⟩) 3 3) (.int .i64 x.a)).low (by omega);obtain⟨z0,z1,z2,z3,z4,zf⟩:=dS ZF;obtain⟨u0,u1,u2,u3,u4,-⟩:=dS ZE;obtain⟨y00,y01,y02,y03,y04,y0f⟩:=dS Y2_8;obtain⟨y10,y11,y12,y13,y14,y1f⟩:=dS Y4_8;obtain⟨y20,y21,y22,y23,y24,y2f⟩:=dS Y6_8;have FIN:=C6.fin;clear C6 ZE ZF KF RF NS K8 Z8 h8 Y2_8 Y4_8 Y6_8 S2a_8 S4a_8 S6a_8;go_wp2;exact Hb (v:=exV ⟨19,0,[],x.a,(((one x2).snoc x4).snoc x6)⟩ (G1 ⟨w8.heap.size,0,G0⟩) 3) (by simp[Hk,Tryz.results162,go_sem,u0,u1,u2,u3,u4,exV];rfl) rfl ⟨_,_,_,_,rfl,SE,RE,KE,FIN⟩
theorem Gl {rec:Rdr}(R:mK rec){w:G9}{rb o q:Nat}{all:List Tk}{x:Tk}{r:List Tk}(TI:∀ x,x ∈ all->iJ x)(h:QS w rb all o q (.inr (x::r)))(hn:Nou (f9 rec [110,111,116] 7 3 o q) (.inr (x::r))) :
  Hn G5 51 #[.pointer (G1 ⟨rb,0,G0⟩)] w (gq rb all o q w (.inr (x::r)) (f9 rec [110,111,116] 7 3 o q)):=by
 have hrb:=h.lt;have K0:dX rb w (w.alloc exZ):=(dX.refl rb w).alloc _;have Z0:(w.alloc exZ).heap[w.heap.size]?=G1 exZ:=Hc w _;have h0:=h.alloc exZ;have hs1:w.heap.size<(w.alloc exZ).heap.size:=by simp
 have c0:=vr TI [110,111,116] (by decide) (by decide) h0;by_cases hx:x.t=[110,111,116]
 ·have EQ:∀ ts,(.inr (x::r):Sq)=.inr ts->f9 rec [110,111,116] 7 3 o q ts=(λts=>(el [110,111,116] o ts).bind λa t1=>(rec 3 (o+1) q t1).bind λkid t2=>.ok ⟨7,0,[],(a:Nat),one kid⟩ t2) ts:=λts hs=>by
   cases hs;show (if x.t=[110,111,116] then _ else _)=(el [110,111,116] o (x::r)).bind _;by_cases h64:o=64
   ·simp[el,hx,h64,Rs.bind]
   ·simp[el,hx,h64,Rs.bind]
  have C0:=Ctx.start (hn.congr EQ);have HC:Hid (∀ X st',Qd (λts=>(el [110,111,116] o ts).bind λa t1=>(rec 3 (o+1) q t1).bind λkid t2=>.ok ⟨7,0,[],(a:Nat),one kid⟩ t2) (.inr (x::r)) X st'->Qd (f9 rec [110,111,116] 7 3 o q) (.inr (x::r)) X st'):=λX st' q=>q.congr λts hs=>(EQ ts hs).symm;have q0:=mw (o:=o) (x:=x) (r:=r) [110,111,116];have C1:=C0.step q0;have c1:=λ(wx:G9) (hh:QS wx rb all o q (.inr (x::r)))=>rx [110,111,116] (by decide) hx hh;rw[show isS [110,111,116] (.inr (x::r))=true by simp[isS,hx]] at c0;generalize onw (el [110,111,116] o) (.inr (x::r))=st1 at *;clear C0 q0 hn EQ hx;go_enter Tryz.func51,Tryz.ntmps51;go_wp2_with fail;refine c0.mono ?_;rintro e w1 ⟨rfl,b1⟩;clear c0;have k1:=dX.ofBelow (rb:=rb) b1;have h1:=h0.below b1;clear b1 h0;have Z1:=k1.blk Z0 (by have:=K0.size;omega);have K1:=K0.trans k1;clear K0 Z0;obtain⟨i,g,cap,L,hg,hi,hcL,hcap,hL,hm,d0,d1,-,-,-,⟨-,-,-,t3⟩,hf⟩:=h1.ok;have hiI:(i:Int)<(L:Int):=by omega
  go_wp2_with fail
  go_quiet (fail)
  have b2:Hf w1.heap.size w1 (w1.drewN nq):=bdr (Hi _ _) nq;have h2:=h1.below b2;have k2:=dX.ofBelow (rb:=rb) b2;generalize w1.drewN nq=w2 at *;clear b2 h1 d0 d1 t3 hf hm;have Z2:=k2.blk Z1 (by have:=K1.size;omega);have K2:=K1.trans k2;clear K1 Z1;have c3:=c1 _ h2;clear c1;go_wp2_with fail;refine c3.mono ?_;rintro e w3 ⟨rfl,h3,k3⟩;clear c3;have Z3:=k3.blk Z2 (by have:=K2.size;omega);have K3:=K2.trans k3;clear K2 Z2;have c4:=R _ rb all 3 (o+1) (q) st1 TI (by omega) (by omega) h3 C1.nou;go_wp2_with fail;refine c4.mono ?_;rintro e w4 ⟨x4,ao4,cap4,st4,rfl,S4,h4,k4,Q4⟩;have C4:=C1.step Q4;clear c4 Q4 C1;have S4a:=S4.low (show (w.heap.size+1)<=_ from (by have:=Ha Z3;omega));clear S4;have Z4:=k4.blk Z3 (by have:=K3.size;omega);have K4:=K3.trans k4;clear K3 Z3;have h4a:=h4.alloc (.cells #[.int .i64 x4.k,.int .i64 x4.n,stv x4.nm,.slice ao4 x4.kids.len cap4,.int .i64 x4.a] 25);have K4a:=K4.alloc (.cells #[.int .i64 x4.k,.int .i64 x4.n,stv x4.nm,.slice ao4 x4.kids.len cap4,.int .i64 x4.a] 25);have Z4a:=(Hj w4 (.cells #[.int .i64 x4.k,.int .i64 x4.n,stv x4.nm,.slice ao4 x4.kids.len cap4,.int .i64 x4.a] 25) _ (Ha Z4)).trans Z4;have Y4_a:(IB w4 (.cells #[.int .i64 x4.k,.int .i64 x4.n,stv x4.nm,.slice ao4 x4.kids.len cap4,.int .i64 x4.a] 25)).heap[w4.heap.size]?=G1 (.cells #[.int .i64 x4.k,.int .i64 x4.n,stv x4.nm,.slice ao4 x4.kids.len cap4,.int .i64 x4.a] 25):=Hc w4 _;have S4a_4b:=S4a.allocN (.cells #[.int .i64 x4.k,.int .i64 x4.n,stv x4.nm,.slice ao4 x4.kids.len cap4,.int .i64 x4.a] 25);have hb4:rb<w4.heap.size:=by have:=K4.size;omega
  clear h4 K4 Z4 S4a;rw[dU];go_upto_region 7 with fail;generalize (IB w4 (.cells #[.int .i64 x4.k,.int .i64 x4.n,stv x4.nm,.slice ao4 x4.kids.len cap4,.int .i64 x4.a] 25))=v5 at *;obtain⟨o6,d6,df6,h6⟩:=h4a.down;have k6:dX rb v5 _:=dX.at v5 2 (.int .i64 (Io (o6-1)));clear h4a;go_upto_region 8 with fail;generalize v5.setCell ⟨rb,2,G0⟩ (.int .i64 (Io (o6-1)))=w6 at *;clear d6 df6;have Z6:=k6.blk Z4a (by have:=K4a.size;omega);have K6:=K4a.trans k6;have Y4_6:=k6.blk Y4_a (by omega);have S4a_6:=S4a_4b.keepN k6 (by omega);clear K4a Z4a Y4_a S4a_4b;have HX:=HC.out _ _ C4.fin;have NS:Sl (IB w6 (.cells [.int .i64 x4.k,.int .i64 x4.n,stv x4.nm,.slice ao4 x4.kids.len cap4,.int .i64 x4.a].toArray 25)) (Nw (w.heap.size+1)) (one x4) (G1 ⟨w6.heap.size,0,G0⟩):=Sl.fresh _ 25 (Fc.one (e:=x4) cap4 S4a_6) (by have:=Ha Z6;omega);have KF:=K6.alloc (.cells [.int .i64 x4.k,.int .i64 x4.n,stv x4.nm,.slice ao4 x4.kids.len cap4,.int .i64 x4.a].toArray 25);have RF:=h6.alloc (.cells [.int .i64 x4.k,.int .i64 x4.n,stv x4.nm,.slice ao4 x4.kids.len cap4,.int .i64 x4.a].toArray 25);have ZF:=(Hj w6 (.cells [.int .i64 x4.k,.int .i64 x4.n,stv x4.nm,.slice ao4 x4.kids.len cap4,.int .i64 x4.a].toArray 25) _ (Ha Z6)).trans Z6;have KE:=KF.set5 (b:=w.heap.size) (by omega) (.int .i64 7) (.int .i64 0) (stv []) (.slice (G1 ⟨w6.heap.size,0,G0⟩) 1 1) (.int .i64 x.a);have RE:=RF.set5 (b:=w.heap.size) (by omega) (.int .i64 7) (.int .i64 0) (stv []) (.slice (G1 ⟨w6.heap.size,0,G0⟩) 1 1) (.int .i64 x.a);have ZE:=eX (.int .i64 7) (.int .i64 0) (stv []) (.slice (G1 ⟨w6.heap.size,0,G0⟩) 1 1) (.int .i64 x.a) ZF;have SE:Sl _ (Nw w.heap.size) _ _:=(NS.set5 (b:=w.heap.size) (by omega) (.int .i64 7) (.int .i64 0) (stv []) (.slice (G1 ⟨w6.heap.size,0,G0⟩) 1 1) (.int .i64 x.a)).low (by omega);obtain⟨z0,z1,z2,z3,z4,zf⟩:=dS ZF;obtain⟨u0,u1,u2,u3,u4,-⟩:=dS ZE;obtain⟨y00,y01,y02,y03,y04,y0f⟩:=dS Y4_6;have FIN:=HX;clear HX ZE ZF KF RF NS K6 Z6 h6 Y4_6 S4a_6;go_wp2;exact Hb (v:=exV ⟨7,0,[],x.a,(one x4)⟩ (G1 ⟨w6.heap.size,0,G0⟩) 1) (by simp[Hk,Tryz.results51,go_sem,u0,u1,u2,u3,u4,exV];rfl) rfl ⟨_,_,_,_,rfl,SE,RE,KE,FIN⟩
 ·have EQ:∀ ts,(.inr (x::r):Sq)=.inr ts->f9 rec [110,111,116] 7 3 o q ts=rec 4 o q ts:=λts hs=>by
   cases hs;show (if x.t=[110,111,116] then _ else _)=_;rw[if_neg hx]
  have HN:=hn.congr EQ;have HC:Hid (∀ X st',Qd (rec 4 o q) (.inr (x::r)) X st'->Qd (f9 rec [110,111,116] 7 3 o q) (.inr (x::r)) X st'):=λX st' q=>q.congr λts hs=>(EQ ts hs).symm;rw[show isS [110,111,116] (.inr (x::r))=false by simp[isS,hx]] at c0;clear EQ hx hn;go_enter Tryz.func51,Tryz.ntmps51;go_wp2_with fail;refine c0.mono ?_;rintro e w1 ⟨rfl,b1⟩;clear c0;have k1:=dX.ofBelow (rb:=rb) b1;have h1:=h0.below b1;clear b1 h0;have Z1:=k1.blk Z0 (by have:=K0.size;omega);have K1:=K0.trans k1;clear K0 Z0;have c2:=R _ rb all 4 o q _ TI (by omega) (by omega) h1 HN;go_wp2_with fail;refine c2.mono ?_;rintro e w2 ⟨x2,ao2,cap2,st2,rfl,S2,h2,k2,Q2⟩;have HX:=HC.out _ _ Q2;clear c2 Q2;have S2a:=S2.low (show (w.heap.size+1)<=_ from (by have:=Ha Z1;omega));clear S2;have Z2:=k2.blk Z1 (by have:=K1.size;omega);have K2:=K1.trans k2;clear K1 Z1;have KE:=K2.set5 (b:=w.heap.size) (by omega) (.int .i64 x2.k) (.int .i64 x2.n) (stv x2.nm) (.slice ao2 x2.kids.len cap2) (.int .i64 x2.a);have RE:=h2.set5 (b:=w.heap.size) (by omega) (.int .i64 x2.k) (.int .i64 x2.n) (stv x2.nm) (.slice ao2 x2.kids.len cap2) (.int .i64 x2.a);have ZE:=eX (.int .i64 x2.k) (.int .i64 x2.n) (stv x2.nm) (.slice ao2 x2.kids.len cap2) (.int .i64 x2.a) Z2;have SE:Sl _ (Nw w.heap.size) _ _:=(S2a.set5 (b:=w.heap.size) (by omega) (.int .i64 x2.k) (.int .i64 x2.n) (stv x2.nm) (.slice ao2 x2.kids.len cap2) (.int .i64 x2.a)).low (by omega);obtain⟨z0,z1,z2,z3,z4,zf⟩:=dS Z2;obtain⟨u0,u1,u2,u3,u4,-⟩:=dS ZE;have FIN:=HX;clear ZE K2 Z2 h2 S2a;rw[dU];go_wp2;exact Hb (v:=exV x2 ao2 cap2) (by simp[Hk,Tryz.results51,go_sem,u0,u1,u2,u3,u4,exV]) rfl ⟨_,_,_,_,rfl,SE,RE,KE,FIN⟩
def Ez (rec:Rdr):Prop :=
 ∀ (w:G9) (rb:Nat) (all:List Tk) (o q:Nat) (x:Tk) (r:List Tk),(∀ x,x ∈ all->iJ x)->QS w rb all o q (.inr (x::r))->Nou (rec 8 o q) (.inr (x::r))->Hn G5 105 #[.pointer (G1 ⟨rb,0,G0⟩)] w (gq rb all o q w (.inr (x::r)) (rec 8 o q))
theorem Dt {rec:Rdr}(R:mK rec)(RA:Ez rec){w:G9}{rb o q:Nat}{all:List Tk}{x:Tk}{r:List Tk}(TI:∀ x,x ∈ all->iJ x)(h:QS w rb all o q (.inr (x::r)))(hn:Nou (f9 rec [45] 6 7 o q) (.inr (x::r))) :
  Hn G5 52 #[.pointer (G1 ⟨rb,0,G0⟩)] w (gq rb all o q w (.inr (x::r)) (f9 rec [45] 6 7 o q)):=by
 have hrb:=h.lt;have K0:dX rb w (w.alloc exZ):=(dX.refl rb w).alloc _;have Z0:(w.alloc exZ).heap[w.heap.size]?=G1 exZ:=Hc w _;have h0:=h.alloc exZ;have hs1:w.heap.size<(w.alloc exZ).heap.size:=by simp
 have c0:=vr TI [45] (by decide) (by decide) h0;by_cases hx:x.t=[45]
 ·have EQ:∀ ts,(.inr (x::r):Sq)=.inr ts->f9 rec [45] 6 7 o q ts=(λts=>(el [45] o ts).bind λa t1=>(rec 7 (o+1) q t1).bind λkid t2=>.ok ⟨6,0,[],(a:Nat),one kid⟩ t2) ts:=λts hs=>by
   cases hs;show (if x.t=[45] then _ else _)=(el [45] o (x::r)).bind _;by_cases h64:o=64
   ·simp[el,hx,h64,Rs.bind]
   ·simp[el,hx,h64,Rs.bind]
  have C0:=Ctx.start (hn.congr EQ);have HC:Hid (∀ X st',Qd (λts=>(el [45] o ts).bind λa t1=>(rec 7 (o+1) q t1).bind λkid t2=>.ok ⟨6,0,[],(a:Nat),one kid⟩ t2) (.inr (x::r)) X st'->Qd (f9 rec [45] 6 7 o q) (.inr (x::r)) X st'):=λX st' q=>q.congr λts hs=>(EQ ts hs).symm;have q0:=mw (o:=o) (x:=x) (r:=r) [45];have C1:=C0.step q0;have c1:=λ(wx:G9) (hh:QS wx rb all o q (.inr (x::r)))=>rx [45] (by decide) hx hh;rw[show isS [45] (.inr (x::r))=true by simp[isS,hx]] at c0;generalize onw (el [45] o) (.inr (x::r))=st1 at *;clear C0 q0 hn EQ hx;go_enter Tryz.func52,Tryz.ntmps52;go_wp2_with fail;refine c0.mono ?_;rintro e w1 ⟨rfl,b1⟩;clear c0;have k1:=dX.ofBelow (rb:=rb) b1;have h1:=h0.below b1;clear b1 h0;have Z1:=k1.blk Z0 (by have:=K0.size;omega);have K1:=K0.trans k1;clear K0 Z0;obtain⟨i,g,cap,L,hg,hi,hcL,hcap,hL,hm,d0,d1,-,-,-,⟨-,-,-,t3⟩,hf⟩:=h1.ok;have hiI:(i:Int)<(L:Int):=by omega
  go_wp2_with fail
  go_quiet (fail)
  have b2:Hf w1.heap.size w1 (w1.drewN nq):=bdr (Hi _ _) nq;have h2:=h1.below b2;have k2:=dX.ofBelow (rb:=rb) b2;generalize w1.drewN nq=w2 at *;clear b2 h1 d0 d1 t3 hf hm;have Z2:=k2.blk Z1 (by have:=K1.size;omega);have K2:=K1.trans k2;clear K1 Z1;have c3:=c1 _ h2;clear c1;go_wp2_with fail;refine c3.mono ?_;rintro e w3 ⟨rfl,h3,k3⟩;clear c3;have Z3:=k3.blk Z2 (by have:=K2.size;omega);have K3:=K2.trans k3;clear K2 Z2;have c4:=R _ rb all 7 (o+1) (q) st1 TI (by omega) (by omega) h3 C1.nou;go_wp2_with fail;refine c4.mono ?_;rintro e w4 ⟨x4,ao4,cap4,st4,rfl,S4,h4,k4,Q4⟩;have C4:=C1.step Q4;clear c4 Q4 C1;have S4a:=S4.low (show (w.heap.size+1)<=_ from (by have:=Ha Z3;omega));clear S4;have Z4:=k4.blk Z3 (by have:=K3.size;omega);have K4:=K3.trans k4;clear K3 Z3;have h4a:=h4.alloc (.cells #[.int .i64 x4.k,.int .i64 x4.n,stv x4.nm,.slice ao4 x4.kids.len cap4,.int .i64 x4.a] 25);have K4a:=K4.alloc (.cells #[.int .i64 x4.k,.int .i64 x4.n,stv x4.nm,.slice ao4 x4.kids.len cap4,.int .i64 x4.a] 25);have Z4a:=(Hj w4 (.cells #[.int .i64 x4.k,.int .i64 x4.n,stv x4.nm,.slice ao4 x4.kids.len cap4,.int .i64 x4.a] 25) _ (Ha Z4)).trans Z4;have Y4_a:(IB w4 (.cells #[.int .i64 x4.k,.int .i64 x4.n,stv x4.nm,.slice ao4 x4.kids.len cap4,.int .i64 x4.a] 25)).heap[w4.heap.size]?=G1 (.cells #[.int .i64 x4.k,.int .i64 x4.n,stv x4.nm,.slice ao4 x4.kids.len cap4,.int .i64 x4.a] 25):=Hc w4 _;have S4a_4b:=S4a.allocN (.cells #[.int .i64 x4.k,.int .i64 x4.n,stv x4.nm,.slice ao4 x4.kids.len cap4,.int .i64 x4.a] 25);have hb4:rb<w4.heap.size:=by have:=K4.size;omega
  clear h4 K4 Z4 S4a;rw[dU];go_upto_region 7 with fail;generalize (IB w4 (.cells #[.int .i64 x4.k,.int .i64 x4.n,stv x4.nm,.slice ao4 x4.kids.len cap4,.int .i64 x4.a] 25))=v5 at *;obtain⟨o6,d6,df6,h6⟩:=h4a.down;have k6:dX rb v5 _:=dX.at v5 2 (.int .i64 (Io (o6-1)));clear h4a;go_upto_region 8 with fail;generalize v5.setCell ⟨rb,2,G0⟩ (.int .i64 (Io (o6-1)))=w6 at *;clear d6 df6;have Z6:=k6.blk Z4a (by have:=K4a.size;omega);have K6:=K4a.trans k6;have Y4_6:=k6.blk Y4_a (by omega);have S4a_6:=S4a_4b.keepN k6 (by omega);clear K4a Z4a Y4_a S4a_4b;have HX:=HC.out _ _ C4.fin;have NS:Sl (IB w6 (.cells [.int .i64 x4.k,.int .i64 x4.n,stv x4.nm,.slice ao4 x4.kids.len cap4,.int .i64 x4.a].toArray 25)) (Nw (w.heap.size+1)) (one x4) (G1 ⟨w6.heap.size,0,G0⟩):=Sl.fresh _ 25 (Fc.one (e:=x4) cap4 S4a_6) (by have:=Ha Z6;omega);have KF:=K6.alloc (.cells [.int .i64 x4.k,.int .i64 x4.n,stv x4.nm,.slice ao4 x4.kids.len cap4,.int .i64 x4.a].toArray 25);have RF:=h6.alloc (.cells [.int .i64 x4.k,.int .i64 x4.n,stv x4.nm,.slice ao4 x4.kids.len cap4,.int .i64 x4.a].toArray 25);have ZF:=(Hj w6 (.cells [.int .i64 x4.k,.int .i64 x4.n,stv x4.nm,.slice ao4 x4.kids.len cap4,.int .i64 x4.a].toArray 25) _ (Ha Z6)).trans Z6;have KE:=KF.set5 (b:=w.heap.size) (by omega) (.int .i64 6) (.int .i64 0) (stv []) (.slice (G1 ⟨w6.heap.size,0,G0⟩) 1 1) (.int .i64 x.a);have RE:=RF.set5 (b:=w.heap.size) (by omega) (.int .i64 6) (.int .i64 0) (stv []) (.slice (G1 ⟨w6.heap.size,0,G0⟩) 1 1) (.int .i64 x.a);have ZE:=eX (.int .i64 6) (.int .i64 0) (stv []) (.slice (G1 ⟨w6.heap.size,0,G0⟩) 1 1) (.int .i64 x.a) ZF;have SE:Sl _ (Nw w.heap.size) _ _:=(NS.set5 (b:=w.heap.size) (by omega) (.int .i64 6) (.int .i64 0) (stv []) (.slice (G1 ⟨w6.heap.size,0,G0⟩) 1 1) (.int .i64 x.a)).low (by omega);obtain⟨z0,z1,z2,z3,z4,zf⟩:=dS ZF;obtain⟨u0,u1,u2,u3,u4,-⟩:=dS ZE;obtain⟨y00,y01,y02,y03,y04,y0f⟩:=dS Y4_6;have FIN:=HX;clear HX ZE ZF KF RF NS K6 Z6 h6 Y4_6 S4a_6;go_wp2;exact Hb (v:=exV ⟨6,0,[],x.a,(one x4)⟩ (G1 ⟨w6.heap.size,0,G0⟩) 1) (by simp[Hk,Tryz.results52,go_sem,u0,u1,u2,u3,u4,exV];rfl) rfl ⟨_,_,_,_,rfl,SE,RE,KE,FIN⟩
 ·have EQ:∀ ts,(.inr (x::r):Sq)=.inr ts->f9 rec [45] 6 7 o q ts=rec 8 o q ts:=λts hs=>by
   cases hs;show (if x.t=[45] then _ else _)=_;rw[if_neg hx]
  have HN:=hn.congr EQ;have HC:Hid (∀ X st',Qd (rec 8 o q) (.inr (x::r)) X st'->Qd (f9 rec [45] 6 7 o q) (.inr (x::r)) X st'):=λX st' q=>q.congr λts hs=>(EQ ts hs).symm;rw[show isS [45] (.inr (x::r))=false by simp[isS,hx]] at c0;clear EQ hx hn;go_enter Tryz.func52,Tryz.ntmps52;go_wp2_with fail;refine c0.mono ?_;rintro e w1 ⟨rfl,b1⟩;clear c0;have k1:=dX.ofBelow (rb:=rb) b1;have h1:=h0.below b1;clear b1 h0;have Z1:=k1.blk Z0 (by have:=K0.size;omega);have K1:=K0.trans k1;clear K0 Z0;have c2:=RA _ rb all o q _ _ TI h1 HN;go_wp2_with fail;refine c2.mono ?_;rintro e w2 ⟨x2,ao2,cap2,st2,rfl,S2,h2,k2,Q2⟩;have HX:=HC.out _ _ Q2;clear c2 Q2;have S2a:=S2.low (show (w.heap.size+1)<=_ from (by have:=Ha Z1;omega));clear S2;have Z2:=k2.blk Z1 (by have:=K1.size;omega);have K2:=K1.trans k2;clear K1 Z1;have KE:=K2.set5 (b:=w.heap.size) (by omega) (.int .i64 x2.k) (.int .i64 x2.n) (stv x2.nm) (.slice ao2 x2.kids.len cap2) (.int .i64 x2.a);have RE:=h2.set5 (b:=w.heap.size) (by omega) (.int .i64 x2.k) (.int .i64 x2.n) (stv x2.nm) (.slice ao2 x2.kids.len cap2) (.int .i64 x2.a);have ZE:=eX (.int .i64 x2.k) (.int .i64 x2.n) (stv x2.nm) (.slice ao2 x2.kids.len cap2) (.int .i64 x2.a) Z2;have SE:Sl _ (Nw w.heap.size) _ _:=(S2a.set5 (b:=w.heap.size) (by omega) (.int .i64 x2.k) (.int .i64 x2.n) (stv x2.nm) (.slice ao2 x2.kids.len cap2) (.int .i64 x2.a)).low (by omega);obtain⟨z0,z1,z2,z3,z4,zf⟩:=dS Z2;obtain⟨u0,u1,u2,u3,u4,-⟩:=dS ZE;have FIN:=HX;clear ZE K2 Z2 h2 S2a;rw[dU];go_wp2;exact Hb (v:=exV x2 ao2 cap2) (by simp[Hk,Tryz.results52,go_sem,u0,u1,u2,u3,u4,exV]) rfl ⟨_,_,_,_,rfl,SE,RE,KE,FIN⟩
theorem QS.bad {w:G9}{rb o q er a:Nat}{all:List Tk}(h:QS w rb all o q (.inl (er,a))):((er:Int)==0)=false/\w.cell? ⟨rb,4,G0⟩=G1 (.int .i64 (er:Nat))/\(∀ o' q':Nat,QS w rb all o' q' (.inl (er,a))):=by
 obtain⟨i,o',q',h1,h2,h3⟩:=h;obtain⟨_,_,_,_,_,_,_,_,_,_,_,c4,_,hf0⟩:=h1.next (Hd h2);exact⟨by simp;omega,c4,λ_ _=>⟨i,o',q',h1,h2,h3⟩⟩
theorem Qd.bad {α:Type}(f:List Tk->Rs α)(ea:Nat × Nat)(X:α):Qd f (.inl ea) X (.inl ea):=⟨rfl,λts y t hs=>by cases hs⟩
theorem wQ {w:G9}{rb o q row er a:Nat}{all:List Tk}(f:List Tk->Rs Ex)(h:QS w rb all o q (.inl (er,a))) :
  Hn G5 28 #[.pointer (G1 ⟨rb,0,G0⟩),.int .i64 (row:Nat)] w (gq rb all o q w (.inl (er,a)) f):=by
 have hrb:=h.lt;have h0:=h.alloc exZ;have K0:dX rb w (w.alloc exZ):=(dX.refl rb w).alloc _;have Z0:(w.alloc exZ).heap[w.heap.size]?=G1 exZ:=Hc w _;obtain⟨hb,c4,-⟩:=h0.bad;have hb2:((er:Int) != 0)=true:=by rw[_root_.bne,hb];rfl
 have FIN:Hid (∀ wx st',(QS wx rb all o q st'/\dX rb w wx/\st'=.inl (er,a))->gq rb all o q w (.inl (er,a)) f (.returned (exV f6 G0 0)) wx):=λwx st' hh=>⟨f6,G0,0,st',rfl,Sl.nil _ _ _,hh.1,hh.2.1,by rw[hh.2.2];exact Qd.bad f _ _⟩;obtain⟨z0,z1,z2,z3,z4,zf⟩:=dS Z0;go_enter Tryz.func28,Tryz.ntmps28;go_wp2;exact Hb (v:=exV f6 G0 0) (by simp[Hk,Kw,go_sem,exV,f6,Fs.len]) rfl (FIN.out _ _ ⟨h0,K0,rfl⟩)
theorem QS.e0 {w:G9}{rb o q:Nat}{all:List Tk}{ts:List Tk}(h:QS w rb all o q (.inr ts)):w.cell? ⟨rb,4,G0⟩=G1 (.int .i64 0):=by
 match ts,h with
 | [],h=>exact absurd rfl h.le.2.2.ne
 | x::r,h =>
  obtain⟨i,g,cap,L,hg,hi,hcL,hcap,hL,hm,d0,d1,d2,d3,d4,-⟩:=h.ok;exact d4
theorem GB {rec:Rdr}(R:mK rec){w:G9}{rb o q:Nat}{all:List Tk}{x:Tk}{r:List Tk}(TI:∀ x,x ∈ all->iJ x)(h:QS w rb all o q (.inr (x::r)))(hn:Nou (f9 rec [110,111,116] 7 3 o q) (.inr (x::r))) :
  Hn G5 28 #[.pointer (G1 ⟨rb,0,G0⟩),.int .i64 3] w (gq rb all o q w (.inr (x::r)) (f9 rec [110,111,116] 7 3 o q)):=by
 have hrb:=h.lt;have K0:dX rb w (w.alloc exZ):=(dX.refl rb w).alloc _;have Z0:(w.alloc exZ).heap[w.heap.size]?=G1 exZ:=Hc w _;have h0:=h.alloc exZ;have d4:=h0.e0;have hs1:w.heap.size<(w.alloc exZ).heap.size:=by simp
 have c1:=Gl R TI h0 hn;clear hn;go_enter Tryz.func28,Tryz.ntmps28;go_wp2_with fail;refine c1.mono ?_;rintro e w1 ⟨x1,ao1,cap1,st1,rfl,S1,h1,k1,Q1⟩;clear c1 h0 d4;have S1a:=S1.low (show (w.heap.size+1)<=_ from (by omega));clear S1;have Z1:=k1.blk Z0 (by have:=K0.size;omega);have K1:=K0.trans k1;clear K0 Z0;have KE:=K1.set5 (b:=w.heap.size) (by omega) (.int .i64 x1.k) (.int .i64 x1.n) (stv x1.nm) (.slice ao1 x1.kids.len cap1) (.int .i64 x1.a);have RE:=h1.set5 (b:=w.heap.size) (by omega) (.int .i64 x1.k) (.int .i64 x1.n) (stv x1.nm) (.slice ao1 x1.kids.len cap1) (.int .i64 x1.a);have ZE:=eX (.int .i64 x1.k) (.int .i64 x1.n) (stv x1.nm) (.slice ao1 x1.kids.len cap1) (.int .i64 x1.a) Z1;have SE:Sl _ (Nw w.heap.size) _ _:=(S1a.set5 (b:=w.heap.size) (by omega) (.int .i64 x1.k) (.int .i64 x1.n) (stv x1.nm) (.slice ao1 x1.kids.len cap1) (.int .i64 x1.a)).low (by omega);obtain⟨z0,z1,z2,z3,z4,zf⟩:=dS Z1;obtain⟨u0,u1,u2,u3,u4,-⟩:=dS ZE;have FIN:=Q1;clear ZE K1 Z1 h1 S1a;rw[dU];go_wp2;exact Hb (v:=exV x1 ao1 cap1) (by simp[Hk,Kw,go_sem,u0,u1,u2,u3,u4,exV]) rfl ⟨_,_,_,_,rfl,SE,RE,KE,FIN⟩
theorem GF {rec:Rdr}(R:mK rec)(RA:Ez rec){w:G9}{rb o q:Nat}{all:List Tk}{x:Tk}{r:List Tk}(TI:∀ x,x ∈ all->iJ x)(h:QS w rb all o q (.inr (x::r)))(hn:Nou (f9 rec [45] 6 7 o q) (.inr (x::r))) :
  Hn G5 28 #[.pointer (G1 ⟨rb,0,G0⟩),.int .i64 7] w (gq rb all o q w (.inr (x::r)) (f9 rec [45] 6 7 o q)):=by
 have hrb:=h.lt;have K0:dX rb w (w.alloc exZ):=(dX.refl rb w).alloc _;have Z0:(w.alloc exZ).heap[w.heap.size]?=G1 exZ:=Hc w _;have h0:=h.alloc exZ;have d4:=h0.e0;have hs1:w.heap.size<(w.alloc exZ).heap.size:=by simp
 have c1:=Dt R RA TI h0 hn;clear hn;go_enter Tryz.func28,Tryz.ntmps28;go_wp2_with fail;refine c1.mono ?_;rintro e w1 ⟨x1,ao1,cap1,st1,rfl,S1,h1,k1,Q1⟩;clear c1 h0 d4;have S1a:=S1.low (show (w.heap.size+1)<=_ from (by omega));clear S1;have Z1:=k1.blk Z0 (by have:=K0.size;omega);have K1:=K0.trans k1;clear K0 Z0;have KE:=K1.set5 (b:=w.heap.size) (by omega) (.int .i64 x1.k) (.int .i64 x1.n) (stv x1.nm) (.slice ao1 x1.kids.len cap1) (.int .i64 x1.a);have RE:=h1.set5 (b:=w.heap.size) (by omega) (.int .i64 x1.k) (.int .i64 x1.n) (stv x1.nm) (.slice ao1 x1.kids.len cap1) (.int .i64 x1.a);have ZE:=eX (.int .i64 x1.k) (.int .i64 x1.n) (stv x1.nm) (.slice ao1 x1.kids.len cap1) (.int .i64 x1.a) Z1;have SE:Sl _ (Nw w.heap.size) _ _:=(S1a.set5 (b:=w.heap.size) (by omega) (.int .i64 x1.k) (.int .i64 x1.n) (stv x1.nm) (.slice ao1 x1.kids.len cap1) (.int .i64 x1.a)).low (by omega);obtain⟨z0,z1,z2,z3,z4,zf⟩:=dS Z1;obtain⟨u0,u1,u2,u3,u4,-⟩:=dS ZE;have FIN:=Q1;clear ZE K1 Z1 h1 S1a;rw[dU];go_wp2;exact Hb (v:=exV x1 ao1 cap1) (by simp[Hk,Kw,go_sem,u0,u1,u2,u3,u4,exV]) rfl ⟨_,_,_,_,rfl,SE,RE,KE,FIN⟩
theorem Ctx.eat {β:Type}{F:List Tk->Rs β}{a:Sq}{G H:List Tk->Rs β}{x:Tk}{r:List Tk}(h:Ctx F a G (.inr (x::r)))(e:G (x::r)=H r):Ctx F a H (.inr r):=by
 refine⟨λts c f=>h.1 (x::r) rfl (by cases c;rw[e];exact f),λX b q=>h.2 X b ⟨?_,?_⟩⟩
 ·rw[q.1];simp only[onw];rw[e]
 ·intro ts y t c d;cases c;exact q.2 r y t rfl (by rw[<-e];exact d)
theorem Ctx.congr {β:Type}{F:List Tk->Rs β}{a st:Sq}{G H:List Tk->Rs β}(h:Ctx F a G st)(e:∀ ts,st=.inr ts->G ts=H ts):Ctx F a H st:=⟨h.1.congr e,λX b q=>h.2 X b (q.congr λts c=>(e ts c).symm)⟩
theorem Dd {row:Nat}(c:row=1\/row=2\/row=4\/row=5\/row=6){x:Tk}{r:List Tk}(h:yB x.t row=G0):iS (sgW row) (.inr (x::r))=-1:=by
 have d:∀ s,s ∈ sgW row->¬x.t=s:=λs a e=>by
  rw[e] at h;rcases c with rfl|rfl|rfl|rfl|rfl<;>simp only[sgW,IR,IP,or_false] at a
  all_goals (rcases a with rfl|rfl|rfl|rfl)<;>revert h<;>decide
 exact rM λj t f b=>by
  have:=d t (IT b)
  simpa [isS] using this
theorem De {row:Nat}(m:row=1\/row=2\/row=4\/row=5\/row=6){x:Tk}{r:List Tk}{z:List UInt8 × Nat × Nat × Nat × Nat}(h:yB x.t row=G1 z) :
  ∃i k:Nat,iS (sgW row) (.inr (x::r))=(i:Nat)/\(sgK row)[i]?=G1 k/\i<(sgW row).length/\z.2.1=k/\z.2.2.2.2=row+1/\(row<z.2.2.2.1 ↔ row=4)/\x.t≠[]:=by
 have d:z ∈ iO:=Ii h;have f:=Jm h;simp only[Ia,beq_iff_eq] at f;obtain⟨h1,h2⟩:=f;simp only[iO,IR,IP,or_false] at d;have a:∀ (L:List (List UInt8)) (i:Nat),L[i]?=G1 x.t->(∀ j t,j<i->L[j]?=G1 t->t≠x.t)->iS L (.inr (x::r))=(i:Nat):=λL i l c=>q8 l (by simp[isS]) λj t g b=>by
  have:=c j t g b
  simp only[isS,beq_eq_false_iff_ne];exact λe=>this e.symm
 rcases d with rfl|rfl|rfl|rfl|rfl|rfl|rfl|rfl|rfl|rfl|rfl<;>simp only at h1 h2<;>subst h2
 ·exact⟨0,18,a _ 0 (by rw[<-h1];rfl) (by omega),rfl,by decide,rfl,rfl,by decide,by rw[<-h1];decide⟩
 ·exact⟨0,17,a _ 0 (by rw[<-h1];rfl) (by omega),rfl,by decide,rfl,rfl,by decide,by rw[<-h1];decide⟩
 ·exact⟨0,13,a _ 0 (by rw[<-h1];rfl) (by omega),rfl,by decide,rfl,rfl,by decide,by rw[<-h1];decide⟩
 ·exact⟨1,14,a _ 1 (by rw[<-h1];rfl) (λj t c b=>by rw[<-h1];(obtain rfl:j=0:=by omega);simp[sgW] at b;subst b;decide),rfl,by decide,rfl,rfl,by decide,by rw[<-h1];decide⟩
 ·exact⟨3,15,a _ 3 (by rw[<-h1];rfl) (λj t c b=>by rw[<-h1];(obtain rfl|rfl|rfl:j=0\/j=1\/j=2:=by omega)<;>simp[sgW] at b<;>subst b<;>decide),rfl,by decide,rfl,rfl,by decide,by rw[<-h1];decide⟩
 ·exact⟨2,16,a _ 2 (by rw[<-h1];rfl) (λj t c b=>by rw[<-h1];(obtain rfl|rfl:j=0\/j=1:=by omega)<;>simp[sgW] at b<;>subst b<;>decide),rfl,by decide,rfl,rfl,by decide,by rw[<-h1];decide⟩
 ·exact⟨0,8,a _ 0 (by rw[<-h1];rfl) (by omega),rfl,by decide,rfl,rfl,by decide,by rw[<-h1];decide⟩
 ·exact⟨1,9,a _ 1 (by rw[<-h1];rfl) (λj t c b=>by rw[<-h1];(obtain rfl:j=0:=by omega);simp[sgW] at b;subst b;decide),rfl,by decide,rfl,rfl,by decide,by rw[<-h1];decide⟩
 ·exact⟨0,10,a _ 0 (by rw[<-h1];rfl) (by omega),rfl,by decide,rfl,rfl,by decide,by rw[<-h1];decide⟩
 ·exact⟨1,11,a _ 1 (by rw[<-h1];rfl) (λj t c b=>by rw[<-h1];(obtain rfl:j=0:=by omega);simp[sgW] at b;subst b;decide),rfl,by decide,rfl,rfl,by decide,by rw[<-h1];decide⟩
 ·exact⟨2,12,a _ 2 (by rw[<-h1];rfl) (λj t c b=>by rw[<-h1];(obtain rfl|rfl:j=0\/j=1:=by omega)<;>simp[sgW] at b<;>subst b<;>decide),rfl,by decide,rfl,rfl,by decide,by rw[<-h1];decide⟩
theorem DZ (L:List (List UInt8))(a:Nat × Nat):iS L (.inl a)=-1:=rM λ_ _ _ _=>rfl
theorem tK {row:Nat}(a:row=1\/row=2\/row=4\/row=5\/row=6):(∀ s,s ∈ sgW row->s≠[]/\eH s=false)/\(sgW row).length<=4:=by
 rcases a with rfl|rfl|rfl|rfl|rfl<;>exact⟨by decide,by decide⟩
theorem blk5 {w:G9}{b k:Nat}(a:k≠b)(b0 b1 b2 b3 c:He):(((((w.setCell ⟨b,0,G0⟩ b0).setCell ⟨b,1,G0⟩ b1).setCell ⟨b,2,G0⟩ b2).setCell ⟨b,3,G0⟩ b3).setCell ⟨b,4,G0⟩ c).heap[k]?=w.heap[k]?:=by
 rw[Hl _ ⟨b,4,G0⟩ k _ a,Hl _ ⟨b,3,G0⟩ k _ a,Hl _ ⟨b,2,G0⟩ k _ a,Hl _ ⟨b,1,G0⟩ k _ a,Hl _ ⟨b,0,G0⟩ k _ a]
theorem GA {rec:Rdr}(R:mK rec){w:G9}{rb o q m row:Nat}{all:List Tk}{ts:List Tk}(hr:row=1\/row=2\/row=4\/row=5\/row=6)(TI:∀ x,x ∈ all->iJ x)(h:QS w rb all o q (.inr ts))(hn:Nou (λts=>(rec (row+1) o q ts).bind λl t=>fW rec m row o q l t) (.inr ts)) :
  Hn G5 28 #[.pointer (G1 ⟨rb,0,G0⟩),.int .i64 (row:Nat)] w (gq rb all o q w (.inr ts) (λts=>(rec (row+1) o q ts).bind λl t=>fW rec m row o q l t)):=by
 have bc:=h.lt;obtain⟨F,hF⟩:∃F,F=(λts=>(rec (row+1) o q ts).bind λl t=>fW rec m row o q l t):=⟨_,rfl⟩;have aN:=Ctx.start hn;rw[<-hF];have C0:Ctx F (.inr ts) (λts=>(rec (row+1) o q ts).bind λl t=>fW rec m row o q l t) (.inr ts):=by rw[hF];exact aN
 clear hF hn aN;have K0:dX rb w (w.alloc exZ):=(dX.refl rb w).alloc _;have Z0:(w.alloc exZ).heap[w.heap.size]?=G1 exZ:=Hc w _;have h0:=h.alloc exZ;have d4:=h0.e0;have aW:w.heap.size<(w.alloc exZ).heap.size:=by simp
 have r3:((row:Int)==3)=false:=by rcases hr with rfl|rfl|rfl|rfl|rfl<;>rfl
 have r7:((row:Int)==7)=false:=by rcases hr with rfl|rfl|rfl|rfl|rfl<;>rfl
 have r8:1<=row+1/\row+1<=7:=by omega
 obtain⟨n,ae⟩:∃n,n=(sgW row).length:=⟨_,rfl⟩;have c1:=wS (w.alloc exZ) row n hr ae;have HN:Hid (n=(sgW row).length):=ae;have HR:Hid (row=1\/row=2\/row=4\/row=5\/row=6):=hr;clear ae hr;go_enter Tryz.func28,Tryz.ntmps28;go_wp2_with fail;refine c1.mono ?_;rintro e w1 ⟨g1,g2,rfl,Q⟩;have k1:=dX.ofBelow (rb:=rb) Q.1.1;have h1:=h0.below Q.1.1;have K:Hid (g1<w1.heap.size/\g2<w1.heap.size/\rb<g1/\rb<g2/\(∀ j s,(sgW row)[j]?=G1 s->w1.cell? ⟨g1,j,G0⟩=G1 (stv s))/\∀ j k,(sgK row)[j]?=G1 k->w1.cell? ⟨g2,j,G0⟩=G1 (.int .i64 (k:Nat))):=⟨Q.1.2.2.1,Q.2.2.1,by have:=Q.1.2.1;omega,by have:=Q.2.1;omega,Q.1.2.2.2,Q.2.2.2⟩;have Z1:=k1.blk Z0 (by omega);have K1:=K0.trans k1;have aT:w.heap.size<w1.heap.size:=Ha Z1;have c2:=R w1 rb all (row+1) o q _ TI r8.1 r8.2 h1 C0.nou;rw[show ((row+1:Nat):Int)=(row:Int)+1 by omega] at c2;clear c1 Q k1 h0 d4 aW K0 Z0;have ba:(row:Int)<=7:=by omega
 go_wp2_with fail;refine c2.mono ?_;rintro e w2 ⟨M,D,u,aO,rfl,S2,h2,k2,Q2⟩;have C2:=C0.step Q2;have Z2:=k2.blk Z1 (by omega);have K2:=K1.trans k2;have aD:=S2.low (show w.heap.size+1<=w1.heap.size by omega);have aS:w.heap.size<w2.heap.size:=Ha Z2;have h3:=h2.alloc (bxE M D u);have K3:=K2.alloc (bxE M D u);have k3:dX rb w1 (w2.alloc (bxE M D u)):=k2.alloc _;have Z3:=(Hj w2 (bxE M D u) _ (Ha Z2)).trans Z2;have L3:(w2.alloc (bxE M D u)).heap[w2.heap.size]?=G1 (bxE M D u):=Hc w2 _;have S3:=(aD.toB' (G4 _)).allocB (bxE M D u);obtain⟨bl,T⟩:∃bl,bl=w2.heap.size:=⟨_,rfl⟩;rw[<-T] at S3 L3 aS;have aM:Hid (bl=w2.heap.size):=T;have I:g1<(w2.alloc (bxE M D u)).heap.size:=by have:=K.out.1;have:=k3.size;omega
 have c3:=jT TI (sgW row) (tK HR.out).1 h3 HN.out I (λj s hj=>(k3.cell K.out.1 (by have:=K.out.2.2.1;omega) j).trans (K.out.2.2.2.2.1 j s hj)) (G4 n) (by have:=(tK HR.out).2;have:=HN.out;unfold Hu;omega);have aV:w1.heap.size<=bl:=by rw[T];exact k2.size
 clear c2 Q2 C0 K1 Z1 S2 aD h1 h2 k2 Z2 K2 T I aT;rw[dU];go_wp2_with fail;refine c3.mono ?_;rintro e w4 ⟨rfl,b4⟩;rw[<-aM.out];clear c3 aM;have k4:=dX.ofBelow (rb:=rb) b4;have h4:=h3.below b4;have Z4:=k4.blk Z3 (by omega);have L4:=k4.blk L3 (by omega);have S4:=S3.keepB k4 (by omega);have K4:=K3.trans k4;have aK:=k3.trans k4;clear k4 b4 k3 h3 Z3 L3 S3 K3;go_wp2_with fail;go_loopg [8] m (λg v wr=>∃st left ao cap,v=.int .i64 (iS (sgW row) st)/\Ctx F (.inr ts) (λt=>fW rec g row o q left t) st/\wr.heap[bl]?=G1 (.cells #[.int .i64 left.k,.int .i64 left.n,stv left.nm,.slice ao left.kids.len cap,.int .i64 left.a] 25 (0,0))/\Sl wr (Nb (w.heap.size+1) bl) left.kids ao/\QS wr rb all o q st/\dX rb w wr/\dX rb w1 wr/\wr.heap[w.heap.size]?=G1 (.cells #[.int .i64 0,.int .i64 0,.string ⟨#[]⟩,.slice G0 0 0,.int .i64 0] 25 (0,0)))
 case atStart=>exact⟨aO,M,D,u,rfl,C2,L4,S4,h4,K4,aK,Z4⟩
 case round =>
  clear C2 L4 S4 h4 K4 aK Z4;obtain⟨st,left,ao,cap,rfl,C,L5,S5,h5,K5,aq,Z5⟩:=hrel;have aP:Hid (iS (sgW row) st=-1/\Qd F (.inr ts) left st)\/∃x r g' z,gk=g'+1/\st=.inr (x::r)/\yB x.t row=G1 z:=by
   match st,C,h5 with
   | .inl ea,C,h5=>exact .inl ⟨DZ _ _,C.2 _ _ (Qd.bad _ _ _)⟩
   | .inr [],C,h5=>exact absurd rfl h5.le.2.2.ne
   | .inr (x::r),C,h5 =>
    cases gk with
    | zero=>exact absurd rfl (C.1 _ rfl)
    | succ g' =>
     cases Y:yB x.t row with
     | none =>
      refine .inl ⟨Dd HR.out Y,C.2 _ _ ⟨?_,?_⟩⟩
      ·simp only[onw,fW,Y,stp]
      ·intro ts y t hs hy;cases hs;simp only[fW,Y] at hy;exact(Rs.ok_inj hy).1
     | some z=>exact .inr ⟨x,r,g',z,rfl,rfl,Y⟩
  rcases aP with W|⟨x,r,g',z,rfl,rfl,Y⟩
  ·obtain⟨hk,W⟩:=W.out;have HF:Hid (Qd F (.inr ts) left st):=W;rw[hk];have KE:=K5.set5 (b:=w.heap.size) (by omega) (.int .i64 left.k) (.int .i64 left.n) (stv left.nm) (.slice ao left.kids.len cap) (.int .i64 left.a);have RE:=h5.set5 (b:=w.heap.size) (by omega) (.int .i64 left.k) (.int .i64 left.n) (stv left.nm) (.slice ao left.kids.len cap) (.int .i64 left.a);have ZE:=eX (.int .i64 left.k) (.int .i64 left.n) (stv left.nm) (.slice ao left.kids.len cap) (.int .i64 left.a) Z5;have SE:Sl _ (Nw w.heap.size) _ _:=(S5.set5B (b:=w.heap.size) (.inr (by omega)) (.int .i64 left.k) (.int .i64 left.n) (stv left.nm) (.slice ao left.kids.len cap) (.int .i64 left.a)).lowB (by omega);obtain⟨z0,z1,z2,z3,z4,zf⟩:=dS Z5;obtain⟨v0,v1,v2,v3,v4,vf⟩:=dS L5;obtain⟨u0,u1,u2,u3,u4,-⟩:=dS ZE;clear C W hk h5 K5 aq Z5 L5 S5 ZE;go_wp2;exact Hb (v:=exV left ao cap) (by simp[Hk,Kw,go_sem,u0,u1,u2,u3,u4,exV]) rfl ⟨_,_,_,_,rfl,SE,RE,KE,HF.out⟩
  ·obtain⟨i,k,hi,hk,ax,av,au,ad,aU⟩:=De (r:=r) HR.out Y;obtain⟨z1,z2,z3,z4,z5⟩:=z;simp only at av au ad;subst av au;have CE:=C.eat (H:=λt=>(rec (row+1) o q t).bind λright t2=>if row<z4 then .ok ⟨(z2:Nat),0,[],x.a,(one left).snoc right⟩ t2 else fW rec g' row o q ⟨(z2:Nat),0,[],x.a,(one left).snoc right⟩ t2) (by simp only[fW,Y]);rw[hi];have HK:Hid ((sgK row)[i]?=G1 z2):=hk;have H4:Hid (row<z4 ↔ row=4):=ad;obtain⟨i2,g,a5,L,hg,bh,bj,a2,hL,hm,d0,d1,-,-,d4,⟨-,-,-,t3⟩,hf⟩:=h5.ok;have be:(i2:Int)<(L:Int):=by omega
   have bf:i<4:=by have:=(tK HR.out).2;omega
   have bd:i<n:=by rw[HN.out];exact ax
   have a1:(i:Int)<(n:Int):=by omega
   have hn4:n<=4:=by have:=(tK HR.out).2;have:=HN.out;omega
   clear C Y hi hk ad ax;go_wp2_with fail
   go_quiet (fail)
   have b6:Hf wr.heap.size wr (wr.drewN nq):=bdr (Hi _ _) nq;have k6:=dX.ofBelow (rb:=rb) b6;have h6:=h5.below b6;generalize wr.drewN nq=w6 at *;have Z6:=k6.blk Z5 (by omega);have L6:=k6.blk L5 (by omega);have S6:=S5.keepB k6 (by omega);have K6:=K5.trans k6;have aJ:=aq.trans k6;clear b6 k6 h5 Z5 L5 S5 K5 aq d0 d1 d4 t3 hf hm;obtain⟨i3,g3,a4,L4,bi,bg,a3,aZ,bk,aY,-,d1,-,-,-,-,hf⟩:=h6.ok;have h7:=h6.over (.inl aU) d1;have k7:=dX.at (rb:=rb) w6 1 (.int .i64 ((i3:Int)+1));go_upto_region 13 with fail;generalize w6.setCell ⟨rb,1,G0⟩ (.int .i64 ((i3:Int)+1))=w7 at *;have Z7:=k7.blk Z6 (by omega);have L7:=k7.blk L6 (by omega);have S7:=S6.keepB k7 (by omega);have K7:=K6.trans k7;have aI:=aJ.trans k7;clear k7 h6 Z6 L6 S6 K6 aJ d1 hf aY;have c8:=R w7 rb all (row+1) o q _ TI r8.1 r8.2 h7 CE.nou;rw[show ((row+1:Nat):Int)=(row:Int)+1 by omega] at c8;have aw:bl<w7.heap.size:=Ha L7;go_wp2_with fail;refine c8.mono ?_;rintro e X ⟨f,B,p,O,rfl,S8,h8,k8,Q8⟩;have C8:=CE.step Q8;have aB:=S8.toB (n:=w.heap.size+1) (bl:=bl) (by omega) aw;have Z8:=k8.blk Z7 (by omega);have L8:=k8.blk L7 (by omega);have aC:=S7.keepB k8 (by omega);have K8:=K7.trans k8;have aH:=aI.trans k8;have aR:bl<X.heap.size:=Ha L8;clear c8 Q8 CE S8 k8 h7 Z7 L7 S7 K7 aI aw;have h9:=h8.alloc (bxE f B p);have K9:=K8.alloc (bxE f B p);have V:=aH.alloc (bxE f B p);have Z9:=(Hj X (bxE f B p) _ (Ha Z8)).trans Z8;have L9:=(Hj X (bxE f B p) _ (Ha L8)).trans L8;have Y9:(X.alloc (bxE f B p)).heap[X.heap.size]?=G1 (bxE f B p):=Hc X _;have al:=aC.allocB (bxE f B p);have ak:=aB.allocB (bxE f B p);rw[dU];go_upto_region 14 with fail;generalize X.alloc (bxE f B p)=N at *;generalize X.heap.size=bb at *;have ck:=(V.cell K.out.2.1 (by have:=K.out.2.2.2.1;omega) i).trans (K.out.2.2.2.2.2 i z2 HK.out);obtain⟨v0,v1,v2,v3,v4,vf⟩:=dS L9;obtain⟨y0,y1,y2,y3,y4,yf⟩:=dS Y9;have Z:bl<N.heap.size:=Ha L9;have ai:=λ(wx:G9) (hx:wx.heap=N.heap)=>GT (w:=wx) (P:=Nb (w.heap.size+1) bl) z2 (x.a:Nat) (a:=left) (b:=f) (aoa:=ao) (aob:=B) (ca:=cap) (cb:=p) (al.mono (λj _ _=>by rw[hx]) (by rw[hx];exact G4 _) (λ_ h _=>h)) (ak.mono (λj _ _=>by rw[hx]) (by rw[hx];exact G4 _) (λ_ h _=>h)) (by rw[hx];exact⟨by omega,by omega⟩);unfold exV at ai;have ac:=Hg ai;clear ai aC aB h8 K8 aH Z8 L8;have ay:bl<N.drew.heap.size:=Z;have aF:N.drew.heap[bl]?=G1 (bxE left ao cap):=L9;go_cut [75] (λv wx=>∃d c,wx.heap[bl]?=G1 (.cells #[.int .i64 (z2:Nat),.int .i64 0,stv [],.slice d ((one left).snoc f).len c,.int .i64 (x.a:Nat)] 25 (0,0))/\Sl wx (Nb (w.heap.size+1) bl) ((one left).snoc f) d/\QS wx rb all o q O/\dX rb w wx/\dX rb w1 wx/\wx.heap[w.heap.size]?=G1 (.cells #[.int .i64 0,.int .i64 0,.string ⟨#[]⟩,.slice G0 0 0,.int .i64 0] 25 (0,0)))
   case first =>
    have HH:Hid (∀ A d c,Sl A (Nb (w.heap.size+1) bl) ((one left).snoc f) d->Hf N.drew.heap.size N.drew A->∃aa ah,(((((A.setCell ⟨bl,0,G0⟩ (.int .i64 (z2:Nat))).setCell ⟨bl,1,G0⟩ (.int .i64 0)).setCell ⟨bl,2,G0⟩ (stv [])).setCell ⟨bl,3,G0⟩ (.slice d ((one left).snoc f).len c)).setCell ⟨bl,4,G0⟩ (.int .i64 (x.a:Nat))).heap[bl]?=G1 (.cells #[.int .i64 (z2:Nat),.int .i64 0,stv [],.slice aa ((one left).snoc f).len ah,.int .i64 (x.a:Nat)] 25 (0,0))/\Sl (((((A.setCell ⟨bl,0,G0⟩ (.int .i64 (z2:Nat))).setCell ⟨bl,1,G0⟩ (.int .i64 0)).setCell ⟨bl,2,G0⟩ (stv [])).setCell ⟨bl,3,G0⟩ (.slice d ((one left).snoc f).len c)).setCell ⟨bl,4,G0⟩ (.int .i64 (x.a:Nat))) (Nb (w.heap.size+1) bl) ((one left).snoc f) aa/\QS (((((A.setCell ⟨bl,0,G0⟩ (.int .i64 (z2:Nat))).setCell ⟨bl,1,G0⟩ (.int .i64 0)).setCell ⟨bl,2,G0⟩ (stv [])).setCell ⟨bl,3,G0⟩ (.slice d ((one left).snoc f).len c)).setCell ⟨bl,4,G0⟩ (.int .i64 (x.a:Nat))) rb all o q O/\dX rb w (((((A.setCell ⟨bl,0,G0⟩ (.int .i64 (z2:Nat))).setCell ⟨bl,1,G0⟩ (.int .i64 0)).setCell ⟨bl,2,G0⟩ (stv [])).setCell ⟨bl,3,G0⟩ (.slice d ((one left).snoc f).len c)).setCell ⟨bl,4,G0⟩ (.int .i64 (x.a:Nat)))/\dX rb w1 (((((A.setCell ⟨bl,0,G0⟩ (.int .i64 (z2:Nat))).setCell ⟨bl,1,G0⟩ (.int .i64 0)).setCell ⟨bl,2,G0⟩ (stv [])).setCell ⟨bl,3,G0⟩ (.slice d ((one left).snoc f).len c)).setCell ⟨bl,4,G0⟩ (.int .i64 (x.a:Nat)))/\(((((A.setCell ⟨bl,0,G0⟩ (.int .i64 (z2:Nat))).setCell ⟨bl,1,G0⟩ (.int .i64 0)).setCell ⟨bl,2,G0⟩ (stv [])).setCell ⟨bl,3,G0⟩ (.slice d ((one left).snoc f).len c)).setCell ⟨bl,4,G0⟩ (.int .i64 (x.a:Nat))).heap[w.heap.size]?=G1 (.cells #[.int .i64 0,.int .i64 0,.string ⟨#[]⟩,.slice G0 0 0,.int .i64 0] 25 (0,0))):=λA d c an J=>by
     have S:dX rb N A:=(dX.refl rb N).drew.trans (dX.ofBelow J);have hq:=(h9.below (Hi _ _).drew).below J;have hl:=(S.blk L9 (by omega));have aQ:=(S.blk Z9 (by omega));exact⟨d,c,eX (.int .i64 (z2:Nat)) (.int .i64 0) (stv []) (.slice d ((one left).snoc f).len c) (.int .i64 (x.a:Nat)) hl,an.set5B (b:=bl) (.inl rfl) (.int .i64 (z2:Nat)) (.int .i64 0) (stv []) (.slice d ((one left).snoc f).len c) (.int .i64 (x.a:Nat)),hq.set5 (b:=bl) (by omega) (.int .i64 (z2:Nat)) (.int .i64 0) (stv []) (.slice d ((one left).snoc f).len c) (.int .i64 (x.a:Nat)),(K9.trans S).set5 (b:=bl) (by omega) (.int .i64 (z2:Nat)) (.int .i64 0) (stv []) (.slice d ((one left).snoc f).len c) (.int .i64 (x.a:Nat)),(V.trans S).set5 (b:=bl) aV (.int .i64 (z2:Nat)) (.int .i64 0) (stv []) (.slice d ((one left).snoc f).len c) (.int .i64 (x.a:Nat)),(blk5 (by omega) (.int .i64 (z2:Nat)) (.int .i64 0) (stv []) (.slice d ((one left).snoc f).len c) (.int .i64 (x.a:Nat))).trans aQ⟩
    clear h9 K9 V Z9 L9 Y9 al ak;go_region_with ((go_at_call 55;refine(ac.out N.drew rfl).mono ?_;rintro e A ⟨d,c,rfl,an,J⟩;have a0:=(J.block bl ay).trans aF;have FX:=HH.out _ _ c an J;obtain⟨q0,q1,q2,q3,q4,qf⟩:=dS a0))
    all_goals
     go_wp2;go_meet;exact FX
   case rest =>
   obtain⟨d,c,aG,aE,ag,aL,E,aA⟩:=hcut;clear h9 K9 V Z9 L9 Y9 al ak ac ck v0 v1 v2 v3 v4 vf y0 y1 y2 y3 y4 yf ay aF Z aR;have I:g1<wc.heap.size:=by have:=K.out.1;have:=E.size;omega
   have az:=jT TI (sgW row) (tK HR.out).1 ag HN.out I (λj s hj=>(E.cell K.out.1 (by have:=K.out.2.2.1;omega) j).trans (K.out.2.2.2.2.1 j s hj)) (G4 n) (by unfold Hu;omega);go_wp2_with fail;refine az.mono ?_;rintro e a9 ⟨rfl,aj⟩;have G:=dX.ofBelow (rb:=rb) aj;have af:=ag.below aj;have U:=G.blk aA (by omega);have ap:=G.blk aG (by omega);have am:=aE.keepB G (by omega);have ar:=aL.trans G;have ab:=E.trans G;clear az aj G ag aA aG aE aL E I;by_cases h4:row=4
   ·have C9:=(C8.congr (H:=λt2=>.ok ⟨(z2:Nat),0,[],x.a,(one left).snoc f⟩ t2) (λt _=>if_pos (H4.out.2 h4))).fin;have HF:Hid (Qd F (.inr ts) ⟨(z2:Nat),0,[],x.a,(one left).snoc f⟩ O):=C9;have aX:((row:Int)==4)=true:=by rw[h4];rfl
    have KE:=ar.set5 (b:=w.heap.size) (by omega) (.int .i64 (z2:Nat)) (.int .i64 0) (stv []) (.slice d ((one left).snoc f).len c) (.int .i64 (x.a:Nat));have RE:=af.set5 (b:=w.heap.size) (by omega) (.int .i64 (z2:Nat)) (.int .i64 0) (stv []) (.slice d ((one left).snoc f).len c) (.int .i64 (x.a:Nat));have ZE:=eX (.int .i64 (z2:Nat)) (.int .i64 0) (stv []) (.slice d ((one left).snoc f).len c) (.int .i64 (x.a:Nat)) U;have SE:Sl _ (Nw w.heap.size) _ _:=(am.set5B (b:=w.heap.size) (.inr (by omega)) (.int .i64 (z2:Nat)) (.int .i64 0) (stv []) (.slice d ((one left).snoc f).len c) (.int .i64 (x.a:Nat))).lowB (by omega);obtain⟨z0,z1,a8,a7,a6,zf⟩:=dS U;obtain⟨v0,v1,v2,v3,v4,vf⟩:=dS ap;obtain⟨u0,u1,u2,u3,u4,-⟩:=dS ZE;clear C8 C9 h4 af ar ab U ap am ZE;go_wp2;exact Hb (v:=exV ⟨(z2:Nat),0,[],x.a,(one left).snoc f⟩ d c) (by simp[Hk,Kw,go_sem,u0,u1,u2,u3,u4,exV]) rfl ⟨_,_,_,_,rfl,SE,RE,KE,HF.out⟩
   ·have C9:=C8.congr (H:=λt2=>fW rec g' row o q ⟨(z2:Nat),0,[],x.a,(one left).snoc f⟩ t2) (λt _=>if_neg (λe=>h4 (H4.out.1 e)));have aX:((row:Int)==4)=false:=by simp;omega
    clear C8 h4;go_wp2
    go_roundg g'
    case rel=>(try ((repeat apply Hv);refine⟨?_,rfl⟩));exact⟨O,⟨(z2:Nat),0,[],x.a,(one left).snoc f⟩,d,c,rfl,C9,ap,am,af,ar,ab,U⟩
    all_goals omega
theorem Rs.bind_assoc {α β γ:Type}(r:Rs α)(f:α->List Tk->Rs β)(g:β->List Tk->Rs γ):(r.bind f).bind g=r.bind λx t=>(f x t).bind g:=by
 cases r using Rs.on with
 | out=>rfl
 | bad e a=>rfl
 | ok x t=>rfl
def lB (rec:Rdr)(many n a o q:Nat)(ts:List Tk):Rs Ex:=(iP rec many o q ts.tail).bind λks t1=>.ok ⟨20,(n:Int)+1,[],(a:Nat),ks⟩ t1
theorem Rq.same {w w2:G9}{rb i:Nat}{o q:Int}{er pl:Nat}{all:List Tk}(h:Rq w rb i o q er pl all)(hb:∀ k,k<=rb->w2.heap[k]?=w.heap[k]?):Rq w2 rb i o q er pl all:=by
 obtain⟨g,cap,h1,h2,h4,h5⟩:=h;exact⟨g,cap,(hb rb (G4 _)).trans h1,h2,λj u hu=>(Ho (a:=⟨g,j,G0⟩) (hb g (by omega))).trans (h4 j u hu),h5⟩
theorem QS.same {w w2:G9}{rb o q:Nat}{all:List Tk}{st:Sq}(h:QS w rb all o q st)(hb:∀ k,k<=rb->w2.heap[k]?=w.heap[k]?):QS w2 rb all o q st:=by
 match st,h with
 | .inl (er,a),⟨i,o',q',h1,h2⟩=>exact⟨i,o',q',h1.same hb,h2⟩
 | .inr ts,⟨i,pl,h1,h2⟩=>exact⟨i,pl,h1.same hb,h2⟩
theorem QS.step1 {w w2:G9}{o2:Nat->Nat}{rb g o q:Nat}{all:List Tk}{st:Sq}(h:QS w rb all o q st)(s:as (λx=>x=1) w (mP g) w2 o2)(hg:rb<g):QS w2 rb all o q st:=h.same λk hk=>s.block k (by have:=h.lt;omega) (by unfold mP;rw[if_neg (by omega)];decide)
theorem Rs.ok_bind {α β:Type}(x:α)(t:List Tk)(f:α->List Tk->Rs β):(Rs.ok x t).bind f=f x t:=rfl
theorem CZ {rec:Rdr}(R:mK rec){w:G9}{rb o q n:Nat}{all:List Tk}{x:Tk}{r:List Tk}(TI:∀ x,x ∈ all->iJ x)(hxt:x.t≠[])(hn9:3<=n/\n<10)(h:QS w rb all o q (.inr (x::r)))(hn:Nou (lB rec 1 n x.a o q) (.inr (x::r))) :
  Hn G5 163 #[.pointer (G1 ⟨rb,0,G0⟩),.int .i64 (n:Nat),.int .i64 (x.a:Nat)] w (gq rb all o q w (.inr (x::r)) (lB rec 1 n x.a o q)):=by
 have hrb:=h.lt;have K0:dX rb w (w.alloc exZ):=(dX.refl rb w).alloc _;have Z0:(w.alloc exZ).heap[w.heap.size]?=G1 exZ:=Hc w _;have h0:=h.alloc exZ;have C0:=Ctx.start hn;have C1:=C0.eat (H:=(λts=>(el [40] o ts).bind λ_ t1=>(rec 1 (o+1) q t1).bind λe t2=>(eI [41] t2).bind λ_ t4=>.ok ⟨20,(n:Int)+1,[],(x.a:Nat),one e⟩ t4)) (by simp only[lB,List.tail_cons,iP,jB,Rs.bind_assoc,Rs.ok_bind,Kk,Nat.reduceSub]);have hs1:w.heap.size<(w.alloc exZ).heap.size:=by simp
 have hnI:¬(n:Int)<3:=by omega
 obtain⟨ii,hii,hzi0,hzi1,hzi2⟩:=eo pB;obtain⟨i,g,cap,L,hg,hi,hcL,hcap,hL,hm,-,d1,-,-,-,-,hf⟩:=h0.ok;have h1:=h0.over (.inl hxt) d1;have k1:=dX.at (rb:=rb) (w.alloc exZ) 1 (.int .i64 ((i:Int)+1));clear C0 hn h0 hm;go_enter Tryz.func163,Tryz.ntmps163;go_upto_region 1 with fail;generalize w.alloc exZ=v0 at *;go_upto_region 2 with fail;generalize v0.setCell ⟨rb,1,G0⟩ (.int .i64 ((i:Int)+1))=w1 at *;clear d1 hf;have Z1:=k1.blk Z0 (by have:=K0.size;omega);have K1:=K0.trans k1;clear K0 Z0;have c2:=kV TI [40] ⟨by decide,by decide⟩ h1;go_wp2_with fail;refine c2.mono ?_;rintro e w2 ⟨x2,st2,rfl,h2,k2,Q2⟩;have C2:=C1.step Q2;clear c2 Q2 C1;have Z2:=k2.blk Z1 (by have:=K1.size;omega);have K2:=K1.trans k2;clear K1 Z1;have c3:=R _ rb all 1 (o+1) (q) st2 TI (by omega) (by omega) h2 C2.nou;go_wp2_with fail;refine c3.mono ?_;rintro e w3 ⟨x3,ao3,cap3,st3,rfl,S3,h3,k3,Q3⟩;have C3:=C2.step Q3;clear c3 Q3 C2;have S3a:=S3.low (show (w.heap.size+1)<=_ from (by have:=Ha Z2;omega));clear S3;have Z3:=k3.blk Z2 (by have:=K2.size;omega);have K3:=K2.trans k3;clear K2 Z2;have A3_a:=Acc.one cap3 S3a (by have:=Ha Z3;omega);have h3a:=h3.alloc (.cells #[.int .i64 x3.k,.int .i64 x3.n,stv x3.nm,.slice ao3 x3.kids.len cap3,.int .i64 x3.a] 25);have K3a:=K3.alloc (.cells #[.int .i64 x3.k,.int .i64 x3.n,stv x3.nm,.slice ao3 x3.kids.len cap3,.int .i64 x3.a] 25);have Z3a:=(Hj w3 (.cells #[.int .i64 x3.k,.int .i64 x3.n,stv x3.nm,.slice ao3 x3.kids.len cap3,.int .i64 x3.a] 25) _ (Ha Z3)).trans Z3;clear h3 K3 Z3 S3a;rw[dU];have c4:=lj TI [41] ⟨by decide,by decide⟩ h3a;go_wp2_with fail;refine c4.mono ?_;rintro e w4 ⟨x4,st4,rfl,h4,k4,Q4⟩;have C4:=C3.step Q4;clear c4 Q4 C3;have Z4:=k4.blk Z3a (by have:=K3a.size;omega);have K4:=K3a.trans k4;have A3_4:=A3_a.keep k4 (by omega);clear K3a Z3a A3_a;obtain⟨aoF,capF,hvF,SF⟩:=A3_4.sl;simp only[IS] at hvF;obtain⟨rfl,-,rfl⟩:=hvF;have KE:=K4.set5 (b:=w.heap.size) (by omega) (.int .i64 20) (.int .i64 ((n:Int)+1)) (stv []) (.slice (G1 ⟨w3.heap.size,0,G0⟩) 1 1) (.int .i64 x.a);have RE:=h4.set5 (b:=w.heap.size) (by omega) (.int .i64 20) (.int .i64 ((n:Int)+1)) (stv []) (.slice (G1 ⟨w3.heap.size,0,G0⟩) 1 1) (.int .i64 x.a);have ZE:=eX (.int .i64 20) (.int .i64 ((n:Int)+1)) (stv []) (.slice (G1 ⟨w3.heap.size,0,G0⟩) 1 1) (.int .i64 x.a) Z4;have SE:Sl _ (Nw w.heap.size) _ _:=(SF.set5 (b:=w.heap.size) (by omega) (.int .i64 20) (.int .i64 ((n:Int)+1)) (stv []) (.slice (G1 ⟨w3.heap.size,0,G0⟩) 1 1) (.int .i64 x.a)).low (by omega);obtain⟨z0,z1,z2,z3,z4,zf⟩:=dS Z4;obtain⟨u0,u1,u2,u3,u4,-⟩:=dS ZE;have FIN:=C4.fin;clear ZE SF K4 Z4 h4 A3_4;go_wp2;exact Hb (v:=exV ⟨20,((n:Int)+1),[],x.a,(one x3)⟩ (G1 ⟨w3.heap.size,0,G0⟩) 1) (by simp[Hk,Tryz.results163,go_sem,u0,u1,u2,u3,u4,exV];try rfl) rfl ⟨_,_,_,_,rfl,SE,RE,KE,FIN⟩
theorem Di {rec:Rdr}(R:mK rec){w:G9}{rb o q n:Nat}{all:List Tk}{x:Tk}{r:List Tk}(TI:∀ x,x ∈ all->iJ x)(hxt:x.t≠[])(hn9:n<3)(h:QS w rb all o q (.inr (x::r)))(hn:Nou (lB rec 2 n x.a o q) (.inr (x::r))) :
  Hn G5 163 #[.pointer (G1 ⟨rb,0,G0⟩),.int .i64 (n:Nat),.int .i64 (x.a:Nat)] w (gq rb all o q w (.inr (x::r)) (lB rec 2 n x.a o q)):=by
 have hrb:=h.lt;have K0:dX rb w (w.alloc exZ):=(dX.refl rb w).alloc _;have Z0:(w.alloc exZ).heap[w.heap.size]?=G1 exZ:=Hc w _;have h0:=h.alloc exZ;have C0:=Ctx.start hn;have C1:=C0.eat (H:=(λts=>(el [40] o ts).bind λ_ t1=>(rec 1 (o+1) q t1).bind λe t2=>(eI [44] t2).bind λ_ t2b=>(rec 1 (o+1) q t2b).bind λe2 t2c=>(eI [41] t2c).bind λ_ t4=>.ok ⟨20,(n:Int)+1,[],(x.a:Nat),(one e).snoc e2⟩ t4)) (by simp only[lB,List.tail_cons,iP,jB,Rs.bind_assoc,Rs.ok_bind,Kk,Nat.reduceSub]);have hs1:w.heap.size<(w.alloc exZ).heap.size:=by simp
 have hnI:(n:Int)<3:=by omega
 obtain⟨ii,hii,hzi0,hzi1,hzi2⟩:=eo pB;obtain⟨i,g,cap,L,hg,hi,hcL,hcap,hL,hm,-,d1,-,-,-,-,hf⟩:=h0.ok;have h1:=h0.over (.inl hxt) d1;have k1:=dX.at (rb:=rb) (w.alloc exZ) 1 (.int .i64 ((i:Int)+1));clear C0 hn h0 hm;go_enter Tryz.func163,Tryz.ntmps163;go_upto_region 1 with fail;generalize w.alloc exZ=v0 at *;go_upto_region 2 with fail;generalize v0.setCell ⟨rb,1,G0⟩ (.int .i64 ((i:Int)+1))=w1 at *;clear d1 hf;have Z1:=k1.blk Z0 (by have:=K0.size;omega);have K1:=K0.trans k1;clear K0 Z0;have c2:=kV TI [40] ⟨by decide,by decide⟩ h1;go_wp2_with fail;refine c2.mono ?_;rintro e w2 ⟨x2,st2,rfl,h2,k2,Q2⟩;have C2:=C1.step Q2;clear c2 Q2 C1;have Z2:=k2.blk Z1 (by have:=K1.size;omega);have K2:=K1.trans k2;clear K1 Z1;have c3:=R _ rb all 1 (o+1) (q) st2 TI (by omega) (by omega) h2 C2.nou;go_wp2_with fail;refine c3.mono ?_;rintro e w3 ⟨x3,ao3,cap3,st3,rfl,S3,h3,k3,Q3⟩;have C3:=C2.step Q3;clear c3 Q3 C2;have S3a:=S3.low (show (w.heap.size+1)<=_ from (by have:=Ha Z2;omega));clear S3;have Z3:=k3.blk Z2 (by have:=K2.size;omega);have K3:=K2.trans k3;clear K2 Z2;have A3_a:=Acc.one cap3 S3a (by have:=Ha Z3;omega);have h3a:=h3.alloc (.cells #[.int .i64 x3.k,.int .i64 x3.n,stv x3.nm,.slice ao3 x3.kids.len cap3,.int .i64 x3.a] 25);have K3a:=K3.alloc (.cells #[.int .i64 x3.k,.int .i64 x3.n,stv x3.nm,.slice ao3 x3.kids.len cap3,.int .i64 x3.a] 25);have Z3a:=(Hj w3 (.cells #[.int .i64 x3.k,.int .i64 x3.n,stv x3.nm,.slice ao3 x3.kids.len cap3,.int .i64 x3.a] 25) _ (Ha Z3)).trans Z3;clear h3 K3 Z3 S3a;rw[dU];have c4:=oX TI [44] ⟨by decide,by decide⟩ h3a;go_wp2_with fail;refine c4.mono ?_;rintro e w4 ⟨x4,st4,rfl,h4,k4,Q4⟩;have C4:=C3.step Q4;clear c4 Q4 C3;have Z4:=k4.blk Z3a (by have:=K3a.size;omega);have K4:=K3a.trans k4;have A3_4:=A3_a.keep k4 (by omega);clear K3a Z3a A3_a;have c5:=R _ rb all 1 (o+1) (q) st4 TI (by omega) (by omega) h4 C4.nou;go_wp2_with fail;refine c5.mono ?_;have hw5:w3.heap.size<w4.heap.size:=by obtain⟨g9,c9,x9,hv9,B9⟩:=A3_4;simp only[IS,Ji,Addr.mk.injEq,JM,and_true] at hv9;obtain⟨e9,-,-⟩:=hv9;subst e9;exact B9.row.lt rfl
 rintro e w5 ⟨x5,ao5,cap5,st5,rfl,SN0,h5,k5,Q5⟩;have C5:=C4.step Q5;clear c5 Q5 C4;have SN:=SN0;have S5a:=SN0.low (show (w.heap.size+1)<=_ from (by have:=Ha Z4;omega));clear SN0;have Z5:=k5.blk Z4 (by have:=K4.size;omega);have K5:=K4.trans k5;have A3_5:=A3_4.keep k5 (by omega);clear K4 Z4 A3_4;obtain⟨gA,capA,xs,hvA,AG⟩:=A3_5;simp only[IS,Ji,Addr.mk.injEq,JM,and_true] at hvA;obtain⟨hgA,-,rfl⟩:=hvA;subst hgA;have AG8:Bc (IB w5 (.cells #[.int .i64 x5.k,.int .i64 x5.n,stv x5.nm,.slice ao5 x5.kids.len cap5,.int .i64 x5.a] 25)) (w.heap.size+1) (one x3) w3.heap.size 1 xs:=⟨AG.1,(AG.row.step (gV (λ_=>False) w5 (mP w3.heap.size) _) id).1,AG.2.2.mono (λi hp hl=>Hj w5 _ i hl) (by simp) (λ_ h _=>h)⟩;have S8:=SN.allocN (.cells #[.int .i64 x5.k,.int .i64 x5.n,stv x5.nm,.slice ao5 x5.kids.len cap5,.int .i64 x5.a] 25);have h8:=h5.alloc (.cells #[.int .i64 x5.k,.int .i64 x5.n,stv x5.nm,.slice ao5 x5.kids.len cap5,.int .i64 x5.a] 25);have K8:=K5.alloc (.cells #[.int .i64 x5.k,.int .i64 x5.n,stv x5.nm,.slice ao5 x5.kids.len cap5,.int .i64 x5.a] 25);have Z8:=(Hj w5 (.cells #[.int .i64 x5.k,.int .i64 x5.n,stv x5.nm,.slice ao5 x5.kids.len cap5,.int .i64 x5.a] 25) _ (Ha Z5)).trans Z5;have hone:∀ u ∈ [Hp .i64 x5.k,.int .i64 x5.n,stv x5.nm,.slice ao5 x5.kids.len cap5,.int .i64 x5.a],u.oneCell'=true:=by intro u hu;simp at hu;rcases hu with rfl|rfl|rfl|rfl|rfl<;>rfl
 have b1:1+1<=Hu:=by unfold Hu;omega
 have b2:(1+1)*64<=140737488355328:=by omega
 have l1:(one x3).len=1:=rfl;have AR:=AG8.row;rw[l1] at AR;clear l1;clear AG h5 K5 Z5 S5a SN;rw[dU];go_wp2_with (first|(at_builtin;refine eb rfl (.tmp 24) (.tmp 27) 23 rfl 25 ii _ 5 64 Tryz.underlying23 hii hzi0 hzi1 hzi2 rfl (by decide) (mP w3.heap.size) 1 _ 1 xs rfl AR ⟨w5.heap.size,0,G0⟩ 1 1 [.int .i64 x5.k,.int .i64 x5.n,stv x5.nm,.slice ao5 x5.kids.len cap5,.int .i64 x5.a] rfl rfl (gj w5 _ _) hone (by decide) b1 b2 ?_)|go_in);intro g8 c8 w8 o8 r8 s8;have A8:=Acc.push AG8 S8 hw5 (by have:=Ha Z8;omega) s8 r8;have hgr:w.heap.size+1<=w3.heap.size:=AG8.1;have h9:=h8.step1 s8 (by omega);have K9:=K8.step1 s8 (by omega);have Z9:=(s8.block w.heap.size (Ha Z8) (by unfold mP;rw[if_neg (by omega)];decide)).trans Z8;clear AG8 AR S8 h8 K8 Z8 r8 s8 hone b1 b2 hii hzi0 hzi1 hzi2 ii hw5 hgr xs;have c11:=lj TI [41] ⟨by decide,by decide⟩ h9;go_wp2_with fail;refine c11.mono ?_;rintro e w11 ⟨x11,st11,rfl,h11,k11,Q11⟩;have C11:=C5.step Q11;clear c11 Q11 C5;have Z11:=k11.blk Z9 (by have:=K9.size;omega);have K11:=K9.trans k11;have A8_11:=A8.keep k11 (by omega);clear K9 Z9 A8;obtain⟨aoF,capF,hvF,SF⟩:=A8_11.sl;simp only[IS] at hvF;obtain⟨rfl,-,rfl⟩:=hvF;have KE:=K11.set5 (b:=w.heap.size) (by omega) (.int .i64 20) (.int .i64 ((n:Int)+1)) (stv []) (.slice (G1 ⟨g8,0,G0⟩) 2 c8) (.int .i64 x.a);have RE:=h11.set5 (b:=w.heap.size) (by omega) (.int .i64 20) (.int .i64 ((n:Int)+1)) (stv []) (.slice (G1 ⟨g8,0,G0⟩) 2 c8) (.int .i64 x.a);have ZE:=eX (.int .i64 20) (.int .i64 ((n:Int)+1)) (stv []) (.slice (G1 ⟨g8,0,G0⟩) 2 c8) (.int .i64 x.a) Z11;have SE:Sl _ (Nw w.heap.size) _ _:=(SF.set5 (b:=w.heap.size) (by omega) (.int .i64 20) (.int .i64 ((n:Int)+1)) (stv []) (.slice (G1 ⟨g8,0,G0⟩) 2 c8) (.int .i64 x.a)).low (by omega);obtain⟨z0,z1,z2,z3,z4,zf⟩:=dS Z11;obtain⟨u0,u1,u2,u3,u4,-⟩:=dS ZE;have FIN:=C11.fin;clear ZE SF K11 Z11 h11 A8_11;go_wp2;exact Hb (v:=exV ⟨20,((n:Int)+1),[],x.a,((one x3).snoc x5)⟩ (G1 ⟨g8,0,G0⟩) c8) (by simp[Hk,Tryz.results163,go_sem,u0,u1,u2,u3,u4,exV];try rfl) rfl ⟨_,_,_,_,rfl,SE,RE,KE,FIN⟩
end Go.Proofs.YtkhgahljbpmfaaaGreatDoor

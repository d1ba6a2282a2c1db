import Derived.Test.YtkhgahljbpmfaaaGreatDoorDocF
import Derived.SizedLaws
import Derived.Stop.LaidErr
import Derived.ShutString
import Derived.Deep.DeepHandedRow
import Derived.Test.YtkhgahljbpmfaaaGreatDoorCards
import Derived.Test.YtkhgahljbpmfaaaGreatDoorTie
set_option maxRecDepth 100000
set_option maxHeartbeats 8000000
namespace Go.Proofs.YtkhgahljbpmfaaaGreatDoor
open Option renaming none->G0,some->G1
open Nat renaming le_refl->G4,lt_of_lt_of_le->Hh,le_trans->In,not_lt_zero->Ir,add_zero->Is,le_succ->Iv,zero_add->Ix,le_of_lt->IM,zero_mul->I4,zero_le->JI,add_sub_cancel_left->JR,one_mul->J8,lt_or_ge->Kc,sub_self->Kk,lt_of_succ_lt->Ky
open Go.Proofs.Tryz renaming prog->G5,results112->Ig,underlying35->Iu,underlying9->Je,underlying3->Jk,underlying40->Ju
open Go renaming World->G9,lt_of_block->Ha,bodyPost_ret->Hb,heap_alloc_new->Hc,Value->He,results->Hk,heap_setCell_other->Hl,Calls->Hn,maxLen->Hu,Addr->Hw,TypeId->Il,heap_alloc_old->IO,Ending->Ja,madeCells->Jb,MemPlace->JD,DataW->JO,Program->JT
open List renaming getElem?_eq_getElem->Hd,getD_eq_getElem?_getD->Ib,getElem?_eq_none->Ie,replicate->Ik,getElem?_map->ID,getElem?_append_right->IF,mem_of_getElem?->IT,getElem_mem->IU,getElem?_append_left->IV,nil_append->I1,take_succ_eq_append_getElem->Jj,mem_append_left->Jo,eq_nil_of_length_eq_zero->Jt,ext_getElem?->JK,append_nil->J1,take_length->Ke,map_append->Kn
open Go.RowKit renaming Below->Hf,intOf->Ih
open Go.Lib renaming hid->Hg
open Go.RowKit.Below renaming refl->Hi,heap_alloc->Hj
open Bool renaming and_eq_true->Ia,true_and->JM
open Go.World renaming cell?_of_block->Ho,cell?->J7
open Go.Value renaming int->Hp,ownBlock->JQ
open Exists renaming intro->Hv
open Int renaming toNat_natCast->IE
open Go.IntKind renaming wrap_i64->II
open Go.Act renaming put->IQ,eval->Ks
open Go.Value.slice renaming injEq->IS
open Prod.mk renaming injEq->Jf
open Option.some renaming injEq->Ji,inj->J0
open Go.AllReadyH renaming cons->Js
open Go.Addr renaming add->JA
open Go.Proofs.YtkhgahljbpmfaaaGreatDoor.Rows renaming laid_isthmus_pack_fields->JS,laid_isthmus_lex_words->J5,laid_isthmus_emit_bare->J6
open Go.OpenSpec renaming ofChange->J4
open Go.Maps renaming size->Kb
open List.cons renaming injEq->Ko
open Go.ChangeShapes Go.WideShapes Go.ChangeAt Go.RowKit
set_option linter.unusedVariables false
set_option linter.unusedSimpArgs false
theorem fL {cells:List Int}{k n:Int}{nm:List UInt8}{a:Int}{f:Fs}{ar c:Nat}{s:Rg}(m g:Int)(o:eg k n nm f.len=true)(j:s.1+1<=4096)(i:c<=4)(h5:k=5->n<(ar:Int))(d:k≠21)(b:k≠26)(l:∀ kd:List Int,kd.length=f.len->eK k n kd=(Ik f.len m,g))(q:g≠0)(p:g≠4) :
  fP cells ⟨k,n,nm,a,f⟩ ar c s=anD (fE cells f (G1 (s.1+1,s.2)) m ar c) g :=
 wT (zV (e:=⟨k,n,nm,a,f⟩) m g (li (e:=⟨k,n,nm,a,f⟩) o j i h5 (λh=>absurd h b)) d b l q) p
theorem Cu {cells:List Int}{n:Int}{nm:List UInt8}{a:Int}{f:Fs}{ar b:Nat}{s:Rg}(h:(ar:Int)<=n):fP cells ⟨5,n,nm,a,f⟩ ar b s=G0 :=
 kR (jO (λc=>c (.inr (.inr (.inr (by simp[nuP];omega))))))
theorem nR {cells:List Int}{k n:Int}{nm:List UInt8}{a:Int}{f:Fs}{ar b:Nat}{s:Rg}(h:22<=k/\k<=25):fP cells ⟨k,n,nm,a,f⟩ ar b s=G0:=by
 unfold fP;cases c:rgE cells ⟨k,n,nm,a,f⟩ ar b s with
 | none=>rfl
 | some z =>
  obtain⟨s',g⟩:=z;obtain⟨-,e,kd,-,-,-,-,h5,-⟩:=gN c;simp only at h5 ⊢;rw[if_pos];rw[h5];have d:k=22\/k=23\/k=24\/k=25:=by omega
  rcases d with rfl|rfl|rfl|rfl<;>rfl
theorem qp {cells:List Int}{k n:Int}{nm:List UInt8}{a:Int}{x y:Ex}{ar b:Nat}{s:Rg}(j:k=13\/k=14)(m:eg k n nm 2=true)(i:s.1+1<=4096)(g:b<=4) :
  fP cells ⟨k,n,nm,a,Fs.ex x (Fs.ex y .nil)⟩ ar b s=(match fP cells x ar b (s.1+1,s.2) with|none=>G0|some (d,k0)=>anD (eW cells (G1 d) k0 y ar b) 2):=by
 have l:=li (cells:=cells) (ar:=ar) (e:=⟨k,n,nm,a,Fs.ex x (Fs.ex y .nil)⟩) (s:=s) m i g (λh=>absurd h (by simp only;omega)) (λh=>absurd h (by simp only;omega));unfold fP;rw[zq j l];cases rgE cells x ar b (s.1+1,s.2) with
 | none=>rfl
 | some z =>
  obtain⟨d,f⟩:=z;simp only;by_cases c:f=4
  ·rw[if_pos c,if_pos c]
  ·rw[if_neg c,if_neg c];simp only;cases eW cells (G1 d) f y ar b with
   | none=>rfl
   | some s2=>rfl
theorem vg {cells:List Int}{n:Int}{nm:List UInt8}{a:Int}{x y z:Ex}{ar b:Nat}{s:Rg}(k:eg 19 n nm 3=true)(i:s.1+1<=4096)(g:b<=4) :
  fP cells ⟨19,n,nm,a,Fs.ex x (Fs.ex y (Fs.ex z .nil))⟩ ar b s=(match eW cells (G1 (s.1+1,s.2)) 2 x ar b with|none=>G0|some s0=>match fP cells y ar b s0 with|none=>G0|some (d,k0)=>anD (eW cells (G1 d) k0 z ar b) k0):=by
 have j:=li (cells:=cells) (ar:=ar) (e:=⟨19,n,nm,a,Fs.ex x (Fs.ex y (Fs.ex z .nil))⟩) (s:=s) k i g (λh=>absurd h (by simp only;omega)) (λh=>absurd h (by simp only;omega));unfold fP;rw[yn j];cases eW cells (G1 (s.1+1,s.2)) 2 x ar b with
 | none=>rfl
 | some s0 =>
  simp only;cases rgE cells y ar b s0 with
  | none=>rfl
  | some u =>
   obtain⟨d,f⟩:=u;simp only;by_cases c:f=4
   ·rw[if_pos c,if_pos c]
   ·rw[if_neg c,if_neg c];simp only;cases eW cells (G1 d) f z ar b with
    | none=>rfl
    | some s2=>simp only[anD];rw[if_neg c]
theorem yo {cells:List Int}{n:Int}{nm:List UInt8}{a:Int}{t x:Ex}{ar b:Nat}{s:Rg}(c:eg 21 n nm 2=true)(f:s.1+1<=4096)(d:b<=4) :
  fP cells ⟨21,n,nm,a,Fs.ex t (Fs.ex x .nil)⟩ ar b s=anD (eW cells (eW cells (G1 (s.1+1,s.2)) 4 t ar (b+1)) (fH n) x (ar+1) (b+1)) (fw n):=by
 have i:=li (cells:=cells) (ar:=ar) (e:=⟨21,n,nm,a,Fs.ex t (Fs.ex x .nil)⟩) (s:=s) c f d (λh=>absurd h (by simp only;omega)) (λh=>absurd h (by simp only;omega));have g:1<=n/\n<=6:=by simp[eg] at c;omega
 exact wT (AX i g) (by unfold fw;split<;>omega)
theorem Az {cells:List Int}{n:Int}{nm:List UInt8}{a:Int}{x:Ex}{ar c:Nat}{s:Rg}(l:eg 26 n nm 1=true)(k:s.1+1<=4096)(j:c<=4) :
  fP cells ⟨26,n,nm,a,Fs.ex x .nil⟩ ar c s=lz cells n x ar c (s.1+1,s.2):=by
 unfold lz;by_cases f:0<=n/\n<(cells.length:Int)
 ·have d:=li (cells:=cells) (ar:=ar) (e:=⟨26,n,nm,a,Fs.ex x .nil⟩) (s:=s) l k j (λh=>absurd h (by simp only;omega)) (λ_=>f);rw[if_pos f];unfold fP;rw[Cc d];cases rgE cells x ar c (s.1+1,s.2) with
  | none=>rfl
  | some z =>
   obtain⟨g,i⟩:=z;simp only;by_cases b:i=4
   ·rw[if_pos b,if_pos b]
   ·rw[if_neg b,if_neg b];simp only;cases fT cells n (Fs.ex x .nil) ar g with
    | none=>rfl
    | some s2=>simp only[anD];rw[if_neg b]
 ·rw[if_neg f];exact kR (jO (λd=>d (.inr (.inr (.inr (by simp[nuP];omega))))))
def jt (cells:List Int)(st:Dg)(e:Ex)(ar a:Nat):Option (Rg × Int):=match st with|none=>G0|some s=>fP cells e ar a s
theorem oA {N:Nat}(k:lX N)(e:Ex)(ao:Option Hw)(cap wb a:Nat)(bv:He)(cells:List Int)(ar b:Nat)(st:Dg)(w:G9)(j:e.kids.size<N)(i:fA e)(c:b<=4)(f:ar<=b)(d:wb≠a)(h:WD w wb a bv cells.length st)(g:Inw w (Nf2 wb a) bv cells)(S:SlN w (Nf2 wb a) e.kids ao) :
  Hn G5 112 #[.pointer (G1 ⟨wb,0,G0⟩),exN e ao cap,.int .i64 ar,.int .i64 b] w (eD w wb a bv cells.length (jt cells st e ar b)):=by
 cases st with
 | none=>exact sc e ao cap wb a bv cells.length ar b w h
 | some s=>exact k e ao cap wb a bv cells ar b s w j i c f d h g S
theorem n7 {cells:List Int}{st:Dg}{e:Ex}{ar a:Nat}{s:Rg}{k:Int}(h:jt cells st e ar a=G1 (s,k)):k≠4:=by
 unfold jt at h;cases st with
 | none=>cases h
 | some s0 =>
  simp only[fP] at h;cases b:rgE cells e ar a s0 with
  | none=>rw[b] at h;cases h
  | some z =>
   obtain⟨s',c⟩:=z;rw[b] at h;simp only at h;split at h
   ·cases h
   ·injection h with h
    injection h with h1 h2
    omega
theorem uG {N:Nat}(V:lX N):lX (N+1):=by
 intro e ao cap wb B bv cells ar q s w hN o j J I h hn S;obtain⟨k0,n,nm,a,f⟩:=e;simp only at hN S;obtain⟨Z,hZ⟩:=exq (fP cells ⟨k0,n,nm,a,f⟩ ar q s);rw[<-hZ];have t:Hid (Z=fP cells ⟨k0,n,nm,a,f⟩ ar q s):=hZ;clear hZ;have az:=o.len;simp only at az;have B0:Hf w.heap.size w (w.alloc (zNv k0 n nm ao f.len cap)):=(Hi _ w).alloc (G4 _) _;have E0:(w.alloc (zNv k0 n nm ao f.len cap)).heap[w.heap.size]?=G1 (zNv k0 n nm ao f.len cap):=Hc w _;have W0:=h.below B0;have S0:=S.belowP B0;have N0:=hn.below B0;have aH:=h.lt;have aK:=h.ltk;clear h S hn;rw[dR];go_enter Tryz.func112,Tryz.ntmps112;go_upto_region 1 with fail;generalize w.alloc (zNv k0 n nm ao f.len cap)=w0 at *;have KK:Kp wb B w w0:=Kp.ofBelow B0;obtain⟨bx,aC⟩:=exq w.heap.size;rw[<-aC] at E0 ⊢;have aa:bx≠wb:=by omega
 have ab:bx≠B:=by omega
 have aq:=W0.ltk;obtain⟨W0,hs,aF⟩:=W0;obtain⟨T,R,q2,Q,P⟩:=ep W0;have F1:=(kq W0 (.int .i64 ((s.1:Int)+1))).1;have K1:=KK.set ⟨wb,1,G0⟩ (.int .i64 ((s.1:Int)+1)) (.inr (.inl rfl));have E1:=(Hl w0 ⟨wb,1,G0⟩ bx (.int .i64 ((s.1:Int)+1)) aa).trans E0;have N1:=N0.set ⟨wb,1,G0⟩ (.int .i64 ((s.1:Int)+1)) rfl;have S1:=S0.set ⟨wb,1,G0⟩ (.int .i64 ((s.1:Int)+1)) rfl;have aj:=aF.set ⟨wb,1,G0⟩ (.int .i64 ((s.1:Int)+1)) rfl I;have aA:B<(w0.setCell ⟨wb,1,G0⟩ (.int .i64 ((s.1:Int)+1))).heap.size:=by simpa using aq
 clear aC aH aK B0 E0 KK N0 S0 aF W0;go_upto_region 2 with fail;generalize w0.setCell ⟨wb,1,G0⟩ (.int .i64 ((s.1:Int)+1))=w1 at *;clear T R q2 Q P aq;obtain⟨T,R,q2,Q,P⟩:=ep F1;obtain⟨p0,p1,p2,p3,O⟩:=ep E1;have c1:=Am ⟨k0,n,nm,a,f⟩ ao cap w1 o.nm;rw[dR] at c1;simp only at c1;have ag:∀ {w2:G9}{g:Int},Z=G0->Hf w1.heap.size w1 w2->Hid (eD w wb B bv cells.length Z (.returned (.int .i64 g)) (w2.setCell ⟨wb,3,G0⟩ (.bool false))):=by
  intro w2 g hz b2;rw[hz];exact⟨⟨g,rfl,λs k h=>by cases h⟩,⟨by simpa using Hh aA b2.size,_,_,(kq ((b2.block _ (Ha F1)).trans F1) (.bool false)).2⟩,(K1.trans (Kp.ofBelow b2)).set _ _ (.inr (.inl rfl))⟩
 by_cases ax:4096<s.1+1
 ·have A:=ag (g:=0) (by rw[t.out];exact kR (jO (λhg=>hg (.inl ax)))) (Hi _ w1);have hI:(4096:Int)<(s.1:Int)+1:=by omega
  clear ag t c1 p0 p1 p2 p3 N1 S1 E1 aj K1;go_wp2;exact Hb (v:=.int .i64 0) (by simp[Hk,Ig,go_sem]) rfl A.out
 have hI:¬(4096:Int)<(s.1:Int)+1:=by omega
 go_wp2_with fail;refine c1.mono ?_;rintro x w2 ⟨rfl,b2⟩;have F2:=(b2.block _ (Ha F1)).trans F1;have L:=(b2.block _ (Ha E1)).trans E1;have G:=N1.below b2;have F:=S1.belowP b2;have aI:=aj;obtain⟨aO,av,-⟩:=aI;have aw:=aj.mono (b2.block _ (Ha av)) (λi _ m=>b2.block i m) b2.size;have D:=K1.trans (Kp.ofBelow b2);cases l:eg k0 n nm f.len with
 | false =>
  have A:=ag (g:=0) (by rw[t.out];exact kR (tA (e:=⟨k0,n,nm,a,f⟩) l)) b2;clear c1 ag t T R q2 Q P p0 p1 p2 p3 O av;obtain⟨T,R,q2,Q,P⟩:=ep F2;obtain⟨p0,p1,p2,p3,O⟩:=ep L;clear F1 E1 N1 S1 aj K1 D aw G F F2 L;go_wp2;exact Hb (v:=.int .i64 0) (by simp[Hk,Ig,go_sem]) rfl A.out
 | true =>
 have H:s.1+1<=4096:=by omega
 have E:WD w2 wb B bv cells.length (G1 (s.1+1,s.2)):=⟨F2,H,aw⟩;have c:=λ(g:Int) (hz:Z=G0)=>ag (g:=g) hz b2;clear c1 ag T R q2 Q P p0 p1 p2 p3 O av F1 E1 N1 S1 aj K1 aw b2 hs aA ax hI;have aJ:=gX l;obtain⟨p0,p1,p2,p3,O⟩:=ep L;obtain⟨T,R,q2,Q,P⟩:=ep F2;clear F2;go_upto_region 5 with fail;rcases aJ with rfl|rfl|rfl|rfl|rfl|rfl|rfl|rfl|rfl|rfl|rfl|rfl|rfl|rfl|rfl|rfl|rfl|rfl|rfl|rfl|rfl|rfl|rfl|rfl|rfl
 ·have m:f.len=0:=by simp[eg] at l;omega
  have A:Hid (eD w wb B bv cells.length Z (.returned (.int .i64 1)) w2):=by
   show eD w wb B bv cells.length Z (.returned (.int .i64 1)) w2;rw[t.out,fL 1 1 l H j (λh=>absurd h (by decide)) (by decide) (by decide) (λkd hk=>by rw[m];rfl) (by decide) (by decide)];exact fQ (st:=G1 (s.1+1,s.2)) (by rw[rU m];rfl) E D
  clear t c E G F D L l;go_wp2;exact Hb (v:=.int .i64 1) (by simp[Hk,Ig,go_sem]) rfl A.out
 ·have m:f.len=0:=by simp[eg] at l;omega
  have A:Hid (eD w wb B bv cells.length Z (.returned (.int .i64 2)) w2):=by
   show eD w wb B bv cells.length Z (.returned (.int .i64 2)) w2;rw[t.out,fL 1 2 l H j (λh=>absurd h (by decide)) (by decide) (by decide) (λkd hk=>by rw[m];rfl) (by decide) (by decide)];exact fQ (st:=G1 (s.1+1,s.2)) (by rw[rU m];rfl) E D
  clear t c E G F D L l;go_wp2;exact Hb (v:=.int .i64 2) (by simp[Hk,Ig,go_sem]) rfl A.out
 ·have m:f.len=0:=by simp[eg] at l;omega
  have A:Hid (eD w wb B bv cells.length Z (.returned (.int .i64 3)) w2):=by
   show eD w wb B bv cells.length Z (.returned (.int .i64 3)) w2;rw[t.out,fL 1 3 l H j (λh=>absurd h (by decide)) (by decide) (by decide) (λkd hk=>by rw[m];rfl) (by decide) (by decide)];exact fQ (st:=G1 (s.1+1,s.2)) (by rw[rU m];rfl) E D
  clear t c E G F D L l;go_wp2;exact Hb (v:=.int .i64 3) (by simp[Hk,Ig,go_sem]) rfl A.out
 ·by_cases hv:(ar:Int)<=n
  ·have A:=c 3 (by rw[t.out];exact Cu hv);clear t c E G F D L l;go_wp2;exact Hb (v:=.int .i64 3) (by simp[Hk,Ig,go_sem]) rfl A.out
  have m:f.len=0:=by simp[eg] at l;omega
  have A:Hid (eD w wb B bv cells.length Z (.returned (.int .i64 3)) w2):=by
   show eD w wb B bv cells.length Z (.returned (.int .i64 3)) w2;rw[t.out,fL 1 3 l H j (λ_=>by omega) (by decide) (by decide) (λkd hk=>by rw[m];rfl) (by decide) (by decide)];exact fQ (st:=G1 (s.1+1,s.2)) (by rw[rU m];rfl) E D
  clear t c E G F D L l;go_wp2;exact Hb (v:=.int .i64 3) (by simp[Hk,Ig,go_sem]) rfl A.out
 ·have m:f.len=1:=by simp[eg] at l;omega
  have b:Hid (Z=anD (fE cells f (G1 (s.1+1,s.2)) 1 ar q) 1):=t.out.trans (fL 1 1 l H j (λh=>absurd h (by decide)) (by decide) (by decide) (λkd hk=>by rw[m];rfl) (by decide) (by decide));have c1:=λk=>jY V ⟨k,n,nm,a,f⟩ ao cap wb B bv cells ar q 1 1 (G1 (s.1+1,s.2)) w2 (by simp only;omega) ⟨o.nm,o.len,o.sh⟩ j J I (by decide) E G F;simp only[dR] at c1;clear t c l m;go_wp2_with fail;refine(c1 _).mono ?_;rintro z w3 ⟨rfl,C,p⟩;have A:Hid (eD w wb B bv cells.length Z (.returned (.int .i64 1)) w3):=fQ b.out C (D.trans p);clear c1 C p b p0 p1 p2 p3 O T R q2 Q P E G F D L;go_wp2;exact Hb (v:=.int .i64 1) (by simp[Hk,Ig,go_sem]) rfl A.out
 ·have m:f.len=1:=by simp[eg] at l;omega
  have b:Hid (Z=anD (fE cells f (G1 (s.1+1,s.2)) 2 ar q) 2):=t.out.trans (fL 2 2 l H j (λh=>absurd h (by decide)) (by decide) (by decide) (λkd hk=>by rw[m];rfl) (by decide) (by decide));have c1:=λk=>jY V ⟨k,n,nm,a,f⟩ ao cap wb B bv cells ar q 2 2 (G1 (s.1+1,s.2)) w2 (by simp only;omega) ⟨o.nm,o.len,o.sh⟩ j J I (by decide) E G F;simp only[dR] at c1;clear t c l m;go_wp2_with fail;refine(c1 _).mono ?_;rintro z w3 ⟨rfl,C,p⟩;have A:Hid (eD w wb B bv cells.length Z (.returned (.int .i64 2)) w3):=fQ b.out C (D.trans p);clear c1 C p b p0 p1 p2 p3 O T R q2 Q P E G F D L;go_wp2;exact Hb (v:=.int .i64 2) (by simp[Hk,Ig,go_sem]) rfl A.out
 ·have m:f.len=2:=by simp[eg] at l;omega
  have b:Hid (Z=anD (fE cells f (G1 (s.1+1,s.2)) 1 ar q) 1):=t.out.trans (fL 1 1 l H j (λh=>absurd h (by decide)) (by decide) (by decide) (λkd hk=>by rw[m];rfl) (by decide) (by decide));have c1:=λk=>jY V ⟨k,n,nm,a,f⟩ ao cap wb B bv cells ar q 1 1 (G1 (s.1+1,s.2)) w2 (by simp only;omega) ⟨o.nm,o.len,o.sh⟩ j J I (by decide) E G F;simp only[dR] at c1;clear t c l m;go_wp2_with fail;refine(c1 _).mono ?_;rintro z w3 ⟨rfl,C,p⟩;have A:Hid (eD w wb B bv cells.length Z (.returned (.int .i64 1)) w3):=fQ b.out C (D.trans p);clear c1 C p b p0 p1 p2 p3 O T R q2 Q P E G F D L;go_wp2;exact Hb (v:=.int .i64 1) (by simp[Hk,Ig,go_sem]) rfl A.out
 ·have m:f.len=2:=by simp[eg] at l;omega
  have b:Hid (Z=anD (fE cells f (G1 (s.1+1,s.2)) 1 ar q) 1):=t.out.trans (fL 1 1 l H j (λh=>absurd h (by decide)) (by decide) (by decide) (λkd hk=>by rw[m];rfl) (by decide) (by decide));have c1:=λk=>jY V ⟨k,n,nm,a,f⟩ ao cap wb B bv cells ar q 1 1 (G1 (s.1+1,s.2)) w2 (by simp only;omega) ⟨o.nm,o.len,o.sh⟩ j J I (by decide) E G F;simp only[dR] at c1;clear t c l m;go_wp2_with fail;refine(c1 _).mono ?_;rintro z w3 ⟨rfl,C,p⟩;have A:Hid (eD w wb B bv cells.length Z (.returned (.int .i64 1)) w3):=fQ b.out C (D.trans p);clear c1 C p b p0 p1 p2 p3 O T R q2 Q P E G F D L;go_wp2;exact Hb (v:=.int .i64 1) (by simp[Hk,Ig,go_sem]) rfl A.out
 ·have m:f.len=2:=by simp[eg] at l;omega
  have b:Hid (Z=anD (fE cells f (G1 (s.1+1,s.2)) 1 ar q) 1):=t.out.trans (fL 1 1 l H j (λh=>absurd h (by decide)) (by decide) (by decide) (λkd hk=>by rw[m];rfl) (by decide) (by decide));have c1:=λk=>jY V ⟨k,n,nm,a,f⟩ ao cap wb B bv cells ar q 1 1 (G1 (s.1+1,s.2)) w2 (by simp only;omega) ⟨o.nm,o.len,o.sh⟩ j J I (by decide) E G F;simp only[dR] at c1;clear t c l m;go_wp2_with fail;refine(c1 _).mono ?_;rintro z w3 ⟨rfl,C,p⟩;have A:Hid (eD w wb B bv cells.length Z (.returned (.int .i64 1)) w3):=fQ b.out C (D.trans p);clear c1 C p b p0 p1 p2 p3 O T R q2 Q P E G F D L;go_wp2;exact Hb (v:=.int .i64 1) (by simp[Hk,Ig,go_sem]) rfl A.out
 ·have m:f.len=2:=by simp[eg] at l;omega
  have b:Hid (Z=anD (fE cells f (G1 (s.1+1,s.2)) 1 ar q) 1):=t.out.trans (fL 1 1 l H j (λh=>absurd h (by decide)) (by decide) (by decide) (λkd hk=>by rw[m];rfl) (by decide) (by decide));have c1:=λk=>jY V ⟨k,n,nm,a,f⟩ ao cap wb B bv cells ar q 1 1 (G1 (s.1+1,s.2)) w2 (by simp only;omega) ⟨o.nm,o.len,o.sh⟩ j J I (by decide) E G F;simp only[dR] at c1;clear t c l m;go_wp2_with fail;refine(c1 _).mono ?_;rintro z w3 ⟨rfl,C,p⟩;have A:Hid (eD w wb B bv cells.length Z (.returned (.int .i64 1)) w3):=fQ b.out C (D.trans p);clear c1 C p b p0 p1 p2 p3 O T R q2 Q P E G F D L;go_wp2;exact Hb (v:=.int .i64 1) (by simp[Hk,Ig,go_sem]) rfl A.out
 ·have m:f.len=2:=by simp[eg] at l;omega
  have b:Hid (Z=anD (fE cells f (G1 (s.1+1,s.2)) 1 ar q) 1):=t.out.trans (fL 1 1 l H j (λh=>absurd h (by decide)) (by decide) (by decide) (λkd hk=>by rw[m];rfl) (by decide) (by decide));have c1:=λk=>jY V ⟨k,n,nm,a,f⟩ ao cap wb B bv cells ar q 1 1 (G1 (s.1+1,s.2)) w2 (by simp only;omega) ⟨o.nm,o.len,o.sh⟩ j J I (by decide) E G F;simp only[dR] at c1;clear t c l m;go_wp2_with fail;refine(c1 _).mono ?_;rintro z w3 ⟨rfl,C,p⟩;have A:Hid (eD w wb B bv cells.length Z (.returned (.int .i64 1)) w3):=fQ b.out C (D.trans p);clear c1 C p b p0 p1 p2 p3 O T R q2 Q P E G F D L;go_wp2;exact Hb (v:=.int .i64 1) (by simp[Hk,Ig,go_sem]) rfl A.out
 ·have m:f.len=2:=by simp[eg] at l;omega
  obtain⟨x,y,rfl⟩:=jG m;have b:Hid (Z=(match fP cells x ar q (s.1+1,s.2) with|none=>G0|some (s1,k0)=>anD (eW cells (G1 s1) k0 y ar q) 2)):=t.out.trans (qp (by decide) l H j);have ae:fA x:=fA.kid (e:=⟨13,n,nm,a,Fs.ex x (Fs.ex y .nil)⟩) (d:=.nil) ⟨o.nm,o.len,o.sh⟩ rfl;have ai:fA y:=fA.kid (e:=⟨13,n,nm,a,Fs.ex x (Fs.ex y .nil)⟩) (d:=Fs.ex x .nil) ⟨o.nm,o.len,o.sh⟩ rfl;have au:x.kids.size+(y.kids.size+0+1)+1<N+1:=hN;rw[m] at p3 L;obtain⟨aE,ap,ak,ck,K,x0,x1,Y,X,W⟩:=SlN.kidP (x:=.nil) (r:=Fs.ex y .nil) (y:=x) F 0 rfl;subst K;simp only[I4,Is] at x0 x1 Y X;have c1:=oA V x ak ck wb B bv cells ar q (G1 (s.1+1,s.2)) w2 (by omega) ae j J I E G W;rw[dR] at c1;simp only[m];clear t c l;go_wp2_with fail;refine c1.mono ?_;rintro z w3 ⟨⟨U,rfl,M⟩,C,p⟩;have E3:=(p.block _ (Ha L) aa ab).trans L;have S3:=F.kp p;have N3:=G.kp p;have ac:=D.trans p;clear c1 p0 p1 p2 p3 O T R q2 Q P x0 x1 Y X W F E G L D p;obtain⟨p0,p1,p2,p3,O⟩:=ep E3;have ad:Hid (Z=anD (eW cells ((jt cells (G1 (s.1+1,s.2)) x ar q).map (·.1)) U y ar q) 2):=by
   show Z=_;rw[b.out];simp only[jt];cases hc:fP cells x ar q (s.1+1,s.2) with
   | none=>rfl
   | some u=>obtain⟨s1,k1⟩:=u;rw[M s1 k1 (by simp only[jt];exact hc)];rfl
  have hm:(jt cells (G1 (s.1+1,s.2)) x ar q).map (·.1)≠G0->U≠4:=by
   intro h;cases hc:jt cells (G1 (s.1+1,s.2)) x ar q with
   | none=>rw[hc] at h;exact absurd rfl h
   | some u=>obtain⟨s1,k1⟩:=u;rw[M s1 k1 hc];exact n7 hc
  clear b M;generalize (jt cells (G1 (s.1+1,s.2)) x ar q).map (·.1)=ah at *;obtain⟨aD,an,ak,ck,K,x0,x1,Y,X,W⟩:=SlN.kidP (x:=Fs.ex x .nil) (r:=.nil) (y:=y) S3 1 rfl;injection K with K
  injection K with h1 h2
  subst h1;subst h2;simp only[J8] at x0 x1 Y X;have c2:=lK V y ak ck wb B bv cells ar q U ah w3 (λ_=>by omega) ai j J I hm C N3 W;rw[dR] at c2;go_wp2_with fail;refine c2.mono ?_;rintro z w4 ⟨rfl,W4,K4⟩;have A:Hid (eD w wb B bv cells.length Z (.returned (.int .i64 2)) w4):=fQ ad.out W4 (ac.trans K4);clear c2 W4 K4 ad p0 p1 p2 p3 O x0 x1 Y X W S3 C N3 E3 ac;go_wp2;exact Hb (v:=.int .i64 2) (by simp[Hk,Ig,go_sem]) rfl A.out
 ·have m:f.len=2:=by simp[eg] at l;omega
  obtain⟨x,y,rfl⟩:=jG m;have b:Hid (Z=(match fP cells x ar q (s.1+1,s.2) with|none=>G0|some (s1,k0)=>anD (eW cells (G1 s1) k0 y ar q) 2)):=t.out.trans (qp (by decide) l H j);have ae:fA x:=fA.kid (e:=⟨13,n,nm,a,Fs.ex x (Fs.ex y .nil)⟩) (d:=.nil) ⟨o.nm,o.len,o.sh⟩ rfl;have ai:fA y:=fA.kid (e:=⟨13,n,nm,a,Fs.ex x (Fs.ex y .nil)⟩) (d:=Fs.ex x .nil) ⟨o.nm,o.len,o.sh⟩ rfl;have au:x.kids.size+(y.kids.size+0+1)+1<N+1:=hN;rw[m] at p3 L;obtain⟨aE,ap,ak,ck,K,x0,x1,Y,X,W⟩:=SlN.kidP (x:=.nil) (r:=Fs.ex y .nil) (y:=x) F 0 rfl;subst K;simp only[I4,Is] at x0 x1 Y X;have c1:=oA V x ak ck wb B bv cells ar q (G1 (s.1+1,s.2)) w2 (by omega) ae j J I E G W;rw[dR] at c1;simp only[m];clear t c l;go_wp2_with fail;refine c1.mono ?_;rintro z w3 ⟨⟨U,rfl,M⟩,C,p⟩;have E3:=(p.block _ (Ha L) aa ab).trans L;have S3:=F.kp p;have N3:=G.kp p;have ac:=D.trans p;clear c1 p0 p1 p2 p3 O T R q2 Q P x0 x1 Y X W F E G L D p;obtain⟨p0,p1,p2,p3,O⟩:=ep E3;have ad:Hid (Z=anD (eW cells ((jt cells (G1 (s.1+1,s.2)) x ar q).map (·.1)) U y ar q) 2):=by
   show Z=_;rw[b.out];simp only[jt];cases hc:fP cells x ar q (s.1+1,s.2) with
   | none=>rfl
   | some u=>obtain⟨s1,k1⟩:=u;rw[M s1 k1 (by simp only[jt];exact hc)];rfl
  have hm:(jt cells (G1 (s.1+1,s.2)) x ar q).map (·.1)≠G0->U≠4:=by
   intro h;cases hc:jt cells (G1 (s.1+1,s.2)) x ar q with
   | none=>rw[hc] at h;exact absurd rfl h
   | some u=>obtain⟨s1,k1⟩:=u;rw[M s1 k1 hc];exact n7 hc
  clear b M;generalize (jt cells (G1 (s.1+1,s.2)) x ar q).map (·.1)=ah at *;obtain⟨aD,an,ak,ck,K,x0,x1,Y,X,W⟩:=SlN.kidP (x:=Fs.ex x .nil) (r:=.nil) (y:=y) S3 1 rfl;injection K with K
  injection K with h1 h2
  subst h1;subst h2;simp only[J8] at x0 x1 Y X;have c2:=lK V y ak ck wb B bv cells ar q U ah w3 (λ_=>by omega) ai j J I hm C N3 W;rw[dR] at c2;go_wp2_with fail;refine c2.mono ?_;rintro z w4 ⟨rfl,W4,K4⟩;have A:Hid (eD w wb B bv cells.length Z (.returned (.int .i64 2)) w4):=fQ ad.out W4 (ac.trans K4);clear c2 W4 K4 ad p0 p1 p2 p3 O x0 x1 Y X W S3 C N3 E3 ac;go_wp2;exact Hb (v:=.int .i64 2) (by simp[Hk,Ig,go_sem]) rfl A.out
 ·have m:f.len=2:=by simp[eg] at l;omega
  have b:Hid (Z=anD (fE cells f (G1 (s.1+1,s.2)) 1 ar q) 2):=t.out.trans (fL 1 2 l H j (λh=>absurd h (by decide)) (by decide) (by decide) (λkd hk=>by rw[m];rfl) (by decide) (by decide));have c1:=λk=>jY V ⟨k,n,nm,a,f⟩ ao cap wb B bv cells ar q 1 2 (G1 (s.1+1,s.2)) w2 (by simp only;omega) ⟨o.nm,o.len,o.sh⟩ j J I (by decide) E G F;simp only[dR] at c1;clear t c l m;go_wp2_with fail;refine(c1 _).mono ?_;rintro z w3 ⟨rfl,C,p⟩;have A:Hid (eD w wb B bv cells.length Z (.returned (.int .i64 2)) w3):=fQ b.out C (D.trans p);clear c1 C p b p0 p1 p2 p3 O T R q2 Q P E G F D L;go_wp2;exact Hb (v:=.int .i64 2) (by simp[Hk,Ig,go_sem]) rfl A.out
 ·have m:f.len=2:=by simp[eg] at l;omega
  have b:Hid (Z=anD (fE cells f (G1 (s.1+1,s.2)) 1 ar q) 2):=t.out.trans (fL 1 2 l H j (λh=>absurd h (by decide)) (by decide) (by decide) (λkd hk=>by rw[m];rfl) (by decide) (by decide));have c1:=λk=>jY V ⟨k,n,nm,a,f⟩ ao cap wb B bv cells ar q 1 2 (G1 (s.1+1,s.2)) w2 (by simp only;omega) ⟨o.nm,o.len,o.sh⟩ j J I (by decide) E G F;simp only[dR] at c1;clear t c l m;go_wp2_with fail;refine(c1 _).mono ?_;rintro z w3 ⟨rfl,C,p⟩;have A:Hid (eD w wb B bv cells.length Z (.returned (.int .i64 2)) w3):=fQ b.out C (D.trans p);clear c1 C p b p0 p1 p2 p3 O T R q2 Q P E G F D L;go_wp2;exact Hb (v:=.int .i64 2) (by simp[Hk,Ig,go_sem]) rfl A.out
 ·have m:f.len=2:=by simp[eg] at l;omega
  have b:Hid (Z=anD (fE cells f (G1 (s.1+1,s.2)) 2 ar q) 2):=t.out.trans (fL 2 2 l H j (λh=>absurd h (by decide)) (by decide) (by decide) (λkd hk=>by rw[m];rfl) (by decide) (by decide));have c1:=λk=>jY V ⟨k,n,nm,a,f⟩ ao cap wb B bv cells ar q 2 2 (G1 (s.1+1,s.2)) w2 (by simp only;omega) ⟨o.nm,o.len,o.sh⟩ j J I (by decide) E G F;simp only[dR] at c1;clear t c l m;go_wp2_with fail;refine(c1 _).mono ?_;rintro z w3 ⟨rfl,C,p⟩;have A:Hid (eD w wb B bv cells.length Z (.returned (.int .i64 2)) w3):=fQ b.out C (D.trans p);clear c1 C p b p0 p1 p2 p3 O T R q2 Q P E G F D L;go_wp2;exact Hb (v:=.int .i64 2) (by simp[Hk,Ig,go_sem]) rfl A.out
 ·have m:f.len=2:=by simp[eg] at l;omega
  have b:Hid (Z=anD (fE cells f (G1 (s.1+1,s.2)) 2 ar q) 2):=t.out.trans (fL 2 2 l H j (λh=>absurd h (by decide)) (by decide) (by decide) (λkd hk=>by rw[m];rfl) (by decide) (by decide));have c1:=λk=>jY V ⟨k,n,nm,a,f⟩ ao cap wb B bv cells ar q 2 2 (G1 (s.1+1,s.2)) w2 (by simp only;omega) ⟨o.nm,o.len,o.sh⟩ j J I (by decide) E G F;simp only[dR] at c1;clear t c l m;go_wp2_with fail;refine(c1 _).mono ?_;rintro z w3 ⟨rfl,C,p⟩;have A:Hid (eD w wb B bv cells.length Z (.returned (.int .i64 2)) w3):=fQ b.out C (D.trans p);clear c1 C p b p0 p1 p2 p3 O T R q2 Q P E G F D L;go_wp2;exact Hb (v:=.int .i64 2) (by simp[Hk,Ig,go_sem]) rfl A.out
 ·have m:f.len=3:=by simp[eg] at l;omega
  obtain⟨x,y,u,rfl⟩:=CS m;have b:Hid (Z=(match eW cells (G1 (s.1+1,s.2)) 2 x ar q with|none=>G0|some s0=>match fP cells y ar q s0 with|none=>G0|some (s1,k0)=>anD (eW cells (G1 s1) k0 u ar q) k0)):=t.out.trans (vg l H j);have ae:fA x:=fA.kid (e:=⟨13,n,nm,a,Fs.ex x (Fs.ex y (Fs.ex u .nil))⟩) (d:=.nil) ⟨o.nm,o.len,o.sh⟩ rfl;have ai:fA y:=fA.kid (e:=⟨13,n,nm,a,Fs.ex x (Fs.ex y (Fs.ex u .nil))⟩) (d:=Fs.ex x .nil) ⟨o.nm,o.len,o.sh⟩ rfl;have aL:fA u:=fA.kid (e:=⟨13,n,nm,a,Fs.ex x (Fs.ex y (Fs.ex u .nil))⟩) (d:=Fs.ex x (Fs.ex y .nil)) ⟨o.nm,o.len,o.sh⟩ rfl;have au:x.kids.size+(y.kids.size+(u.kids.size+0+1)+1)+1<N+1:=hN;rw[m] at p3 L;obtain⟨aE,ap,ak,ck,K,x0,x1,Y,X,W⟩:=SlN.kidP (x:=.nil) (r:=Fs.ex y (Fs.ex u .nil)) (y:=x) F 0 rfl;subst K;simp only[I4,Is] at x0 x1 Y X;have c1:=lK V x ak ck wb B bv cells ar q 2 (G1 (s.1+1,s.2)) w2 (λ_=>by omega) ae j J I (λ_=>by decide) E G W;rw[dR] at c1;simp only[m];clear t c l;go_wp2_with fail;refine c1.mono ?_;rintro z w3 ⟨rfl,C,p⟩;have E3:=(p.block _ (Ha L) aa ab).trans L;have S3:=F.kp p;have N3:=G.kp p;have ac:=D.trans p;clear c1 p0 p1 p2 p3 O T R q2 Q P x0 x1 Y X W F E G L D p;obtain⟨p0,p1,p2,p3,O⟩:=ep E3;generalize eW cells (G1 (s.1+1,s.2)) 2 x ar q=af at *;obtain⟨aD,an,ak,ck,K,x0,x1,Y,X,W⟩:=SlN.kidP (x:=Fs.ex x .nil) (r:=Fs.ex u .nil) (y:=y) S3 1 rfl;injection K with K
  injection K with h1 h2
  subst h1;subst h2;simp only[J8] at x0 x1 Y X;have c2:=oA V y ak ck wb B bv cells ar q af w3 (by omega) ai j J I C N3 W;rw[dR] at c2;go_wp2_with fail;refine c2.mono ?_;rintro z w4 ⟨⟨U,rfl,M⟩,W4,K4⟩;have E4:=(K4.block _ (Ha E3) aa ab).trans E3;have S4:=S3.kp K4;have N4:=N3.kp K4;have aG:=ac.trans K4;clear c2 p0 p1 p2 p3 O x0 x1 Y X W S3 C N3 E3 ac K4;obtain⟨p0,p1,p2,p3,O⟩:=ep E4;have ad:Hid (Z=anD (eW cells ((jt cells af y ar q).map (·.1)) U u ar q) U):=by
   show Z=_;rw[b.out];cases af with
   | none=>rfl
   | some s0 =>
    simp only[jt];cases hc:fP cells y ar q s0 with
    | none=>rfl
    | some v=>obtain⟨s1,k1⟩:=v;rw[M s1 k1 (by simp only[jt];exact hc)];rfl
  have hm:(jt cells af y ar q).map (·.1)≠G0->U≠4:=by
   intro h;cases hc:jt cells af y ar q with
   | none=>rw[hc] at h;exact absurd rfl h
   | some v=>obtain⟨s1,k1⟩:=v;rw[M s1 k1 hc];exact n7 hc
  clear b M;generalize (jt cells af y ar q).map (·.1)=ah at *;obtain⟨aN,aM,ak,ck,K,x0,x1,Y,X,W⟩:=SlN.kidP (x:=Fs.ex x (Fs.ex y .nil)) (r:=.nil) (y:=u) S4 2 rfl;injection K with K
  injection K with h1 h2
  subst h1;subst h2;have c3:=lK V u ak ck wb B bv cells ar q U ah w4 (λ_=>by omega) aL j J I hm W4 N4 W;rw[dR] at c3;go_wp2_with fail;refine c3.mono ?_;rintro z w5 ⟨rfl,W5,K5⟩;have A:Hid (eD w wb B bv cells.length Z (.returned (.int .i64 U)) w5):=fQ ad.out W5 (aG.trans K5);clear c3 W5 K5 ad p0 p1 p2 p3 O x0 x1 Y X W S4 W4 N4 E4 aG;go_wp2;exact Hb (v:=.int .i64 U) (by simp[Hk,Ig,go_sem]) rfl A.out
 ·have m:f.len=1\/f.len=2:=by simp[eg] at l;omega
  have b:Hid (Z=anD (fE cells f (G1 (s.1+1,s.2)) 3 ar q) (j6 n)):=t.out.trans (fL 3 (j6 n) l H j (λh=>absurd h (by decide)) (by decide) (by decide) (λkd hk=>by
   have ay:(1<=n/\n<=3/\f.len=2)\/(4<=n/\n<=10/\f.len=1):=by simp[eg] at l;omega
   rcases ay with ⟨h1,h2,h3⟩|⟨h1,h2,h3⟩
   ·rw[h3]
    have:n=1\/n=2\/n=3:=by omega
    rcases this with rfl|rfl|rfl<;>rfl
   ·rw[h3]
    have:n=4\/n=5\/n=6\/n=7\/n=8\/n=9\/n=10:=by omega
    rcases this with rfl|rfl|rfl|rfl|rfl|rfl|rfl<;>rfl) (by unfold j6;split;decide;split<;>decide) (by unfold j6;split;decide;split<;>decide))
  have am:Hf w2.heap.size w2 w2.drew:=⟨rfl,rfl,rfl,G4 _,λ_ _=>rfl⟩;have c1:=jY V ⟨20,n,nm,a,f⟩ ao cap wb B bv cells ar q 3 (j6 n) (G1 (s.1+1,s.2)) w2.drew (by simp only;omega) ⟨o.nm,o.len,o.sh⟩ j J I (by decide) (E.below am) (G.below am) (F.belowP am);rw[dR] at c1;simp only at c1;have aB:=λwy=>qY n wy;generalize j6 n=gv at *;have al:=Ha L;clear t c l E G F m;go_wp2_with fail;go_region_held3 (λwx=>wx.cell? ⟨bx,0,G0⟩=G1 (.int .i64 20)/\wx.cell? ⟨bx,1,G0⟩=G1 (.int .i64 n)/\wx.cell? ⟨bx,2,G0⟩=G1 (stv nm)/\wx.cell? ⟨bx,3,G0⟩=G1 (.slice ao f.len cap))
   (first|exact KA|go_keep)
   (first
    | (go_at_call 140;refine(aB _).mono ?_;rintro z w3 ⟨rfl,rfl⟩)
    | (go_at_call 173;refine c1.mono ?_;rintro z w3 ⟨rfl,C,p⟩;have KA:w3.cell? ⟨bx,0,G0⟩=G1 (.int .i64 20)/\w3.cell? ⟨bx,1,G0⟩=G1 (.int .i64 n)/\w3.cell? ⟨bx,2,G0⟩=G1 (stv nm)/\w3.cell? ⟨bx,3,G0⟩=G1 (.slice ao f.len cap):=⟨(p.cell al aa ab _).trans p0,(p.cell al aa ab _).trans p1,(p.cell al aa ab _).trans p2,(p.cell al aa ab _).trans p3⟩))
  all_goals (
   have A:Hid (eD w wb B bv cells.length Z (.returned (.int .i64 gv)) w3):=fQ b.out C (D.trans (Kp.bel am p));clear KA C p c1 aB p0 p1 p2 p3 O T R q2 Q P L D b;go_wp2;exact Hb (v:=.int .i64 gv) (by simp[Hk,Ig,go_sem]) rfl A.out)
 ·have m:f.len=2:=by simp[eg] at l;omega
  obtain⟨x,y,rfl⟩:=jG m;have b:Hid (Z=_):=t.out.trans (yo l H j);have c1:=λk=>DF V ⟨k,n,nm,a,Fs.ex x (Fs.ex y .nil)⟩ x y ao cap wb B bv cells ar q (s.1+1,s.2) w2 rfl (by simp only;omega) ⟨o.nm,o.len,o.sh⟩ j J I E G F;simp only[dR] at c1;clear t c l m;simp only[<-b.out] at c1;go_wp2_with fail;refine(c1 _).mono ?_;rintro z w3 ⟨⟨U,rfl,M⟩,C,p⟩;have A:Hid (eD w wb B bv cells.length Z (.returned (.int .i64 U)) w3):=⟨⟨U,rfl,M⟩,C,D.trans p⟩;clear c1 C p M b p0 p1 p2 p3 O T R q2 Q P E G F D L;go_wp2;exact Hb (v:=.int .i64 U) (by simp[Hk,Ig,go_sem]) rfl A.out
 ·have A:=c 0 (by rw[t.out];exact nR (by decide));clear t c E G F D L l;go_wp2;exact Hb (v:=.int .i64 0) (by simp[Hk,Ig,go_sem]) rfl A.out
 ·have A:=c 0 (by rw[t.out];exact nR (by decide));clear t c E G F D L l;go_wp2;exact Hb (v:=.int .i64 0) (by simp[Hk,Ig,go_sem]) rfl A.out
 ·have A:=c 0 (by rw[t.out];exact nR (by decide));clear t c E G F D L l;go_wp2;exact Hb (v:=.int .i64 0) (by simp[Hk,Ig,go_sem]) rfl A.out
 ·have A:=c 0 (by rw[t.out];exact nR (by decide));clear t c E G F D L l;go_wp2;exact Hb (v:=.int .i64 0) (by simp[Hk,Ig,go_sem]) rfl A.out
 ·have m:f.len=1:=by simp[eg] at l;omega
  obtain⟨x,rfl⟩:=uy m;have b:Hid (Z=lz cells n x ar q (s.1+1,s.2)):=t.out.trans (Az l H j);have ae:fA x:=fA.kid (e:=⟨26,n,nm,a,Fs.ex x .nil⟩) (d:=.nil) ⟨o.nm,o.len,o.sh⟩ rfl;have au:x.kids.size+0+1<N+1:=hN;have c1:=FB V 26 n nm a x ao cap wb B bv cells ar q (s.1+1,s.2) w2 (by omega) ae j J I E G F;rw[<-b.out] at c1;simp only[m] at p3 L ⊢;clear t c l;go_wp2_with fail;refine c1.mono ?_;rintro z w3 ⟨⟨U,rfl,M⟩,C,p⟩;have A:Hid (eD w wb B bv cells.length Z (.returned (.int .i64 U)) w3):=⟨⟨U,rfl,M⟩,C,D.trans p⟩;clear c1 C p M b p0 p1 p2 p3 O T R q2 Q P E G F D L;go_wp2;exact Hb (v:=.int .i64 U) (by simp[Hk,Ig,go_sem]) rfl A.out
theorem tq:∀ N,lX N -- 112
 | 0=>λe ao cap wb b bv cells ar a s w h=>absurd h (Ir _)
 | N+1=>uG (tq N)
theorem yl:(Tryz.prog.info? 32).map (λi=>(i.zero,i.size,i.bytes))=G1 (G1 (.slice G0 0 0),1,24):=by kernel_rfl
theorem yp (n:Nat):(Jb (Value.slice G0 0 0).cells (n*1)).size=n/\∀ i,i<n->(Jb (Value.slice G0 0 0).cells (n*1))[i]?=G1 (.slice G0 0 0):=by
 constructor
 ·simp[Jb,Value.cells]
 ·intro i hi;simp[Jb,Value.cells,hi,Nat.mod_one]
theorem BF (e:Ex)(ao:Option Hw)(cap:Nat)(cv:He)(cells:List Int)(w:G9)(hf:fA e)(hc:InA w cv cells)(hcl:cells.length<=1000000000)(S:SnA w e.kids ao) :
  Hn G5 62 #[plV e ao cap cv] w λx w'=>x=.returned (.int .i64 (fh cells e))/\Hf w.heap.size w w':=by
 obtain⟨W,hZ⟩:∃W,W=fh cells e:=⟨_,rfl⟩;rw[<-hZ];have HW:Hid (W=fh cells e):=hZ;clear hZ;obtain⟨ii,hii,hzi0,hzi1,hzi2⟩:=eo yl;obtain⟨ac,cc,hcv,hcx⟩:=hc;have hc:InA w cv cells:=⟨ac,cc,hcv,hcx⟩;subst hcv;clear hcx;have B0:Hf w.heap.size w (w.alloc (.cells #[.int .i64 e.k,.int .i64 e.n,stv e.nm,.slice ao e.kids.len cap,.slice ac cells.length cc] 37)):=(Hi _ w).alloc (G4 _) _;have E0:(w.alloc (.cells #[.int .i64 e.k,.int .i64 e.n,stv e.nm,.slice ao e.kids.len cap,.slice ac cells.length cc] 37)).heap[w.heap.size]?=G1 (.cells #[.int .i64 e.k,.int .i64 e.n,stv e.nm,.slice ao e.kids.len cap,.slice ac cells.length cc] 37):=Hc w _;have S0:=SnA.below S B0;have I0:=hc.below B0;clear S hc;rw[fu];go_enter Tryz.func62,Tryz.ntmps62;go_upto_region 1 with fail;generalize w.alloc (.cells #[.int .i64 e.k,.int .i64 e.n,stv e.nm,.slice ao e.kids.len cap,.slice ac cells.length cc] 37)=w0 at *;obtain⟨n0,hn0⟩:∃n0,n0=w.heap.size:=⟨_,rfl⟩;rw[<-hn0] at E0 B0 ⊢;have HN:Hid (n0=w.heap.size):=hn0;clear hn0;obtain⟨p0,p1,p2,p3,p4,pf⟩:=dS E0;by_cases h256:256<cells.length
 ·have hI:(256:Int)<(cells.length:Int):=by omega
  have HZ:Hid (W=0):=by show W=_;rw[HW.out,qy h256]
  clear HW S0 I0 E0;go_wp2;go_ret;rw[HZ.out];exact⟨rfl,by rw[<-HN.out];exact B0⟩
 have hI:¬(256:Int)<(cells.length:Int):=by omega
 obtain⟨ac',cc',he,hcell⟩:=I0;have I0:InA w0 (.slice ac cells.length cc) cells:=⟨ac',cc',he,hcell⟩;injection he with he1 he2 he3
 subst he1;subst he3;clear he2;go_wp2;go_loopw [3] (λv wr=>∃k:Nat,k<=cells.length/\v=.int .i64 (k:Nat)/\Hid (∀ j c,j<k->cells[j]?=G1 c->nlB c=false)/\wr=w0) (λv _=>cells.length-(Ih v).toNat)
 case atStart=>exact⟨0,by omega,by go_num,λj c hj=>absurd hj (Ir _),rfl⟩
 case round =>
  obtain⟨k,hk,rfl,hno,rfl⟩:=hrel;by_cases hlt:k<cells.length
  ·have hx1:cells[k]?=G1 cells[k]:=Hd hlt;rcases hcell with rfl|⟨g1,o1,rfl,-,hg1,hc1⟩
   ·simp at hlt
   have x1:=hc1 k _ hx1;generalize cells[k]=x at x1 hx1;have hkI:(k:Int)<(cells.length:Int):=by omega
   have HX:Hid (cells[k]?=G1 x):=hx1;clear hx1 hc1;have BADZ:nlB x=true->Hid (W=0):=by
    intro hb;show W=0;rw[HW.out,ss (List.any_eq_true.2 ⟨x,IT HX.out,hb⟩)]
   by_cases h0:x<0
   ·have HZ:=BADZ (by simp[nlB];omega);clear HW hno HX BADZ I0 S0 E0;go_wp2;go_ret;rw[HZ.out];exact⟨rfl,by rw[<-HN.out];exact B0⟩
   by_cases h4:4<x
   ·have HZ:=BADZ (by simp[nlB];omega);clear HW hno HX BADZ I0 S0 E0;go_wp2;go_ret;rw[HZ.out];exact⟨rfl,by rw[<-HN.out];exact B0⟩
   have hn2:Hid (∀ j c,j<k+1->cells[j]?=G1 c->nlB c=false):=by
    intro j c hj hc;rcases Nat.lt_succ_iff_lt_or_eq.1 hj with h3|rfl
    ·exact hno.out j c h3 hc
    ·rw[HX.out] at hc;injection hc with hc
     rw[<-hc];simp[nlB];omega
   clear HW hno HX BADZ I0 S0 E0;go_wp2;go_roundw
   case rel=>exact⟨k+1,by omega,by go_num,hn2,trivial⟩
   case measure=>simp[Ih];omega
  ·have hkI:¬(k:Int)<(cells.length:Int):=by omega
   have hnl:cells.any nlB=false:=by
    rw[List.any_eq_false];intro c hc;obtain⟨j,hj,h2⟩:=List.mem_iff_getElem.1 hc
    have:=hno.out j c (by omega) (by rw[Hd hj,h2])
    simp[this]
   have HW2:Hid (W=(match fP cells e 0 0 (0,λ_=>G0) with|none=>0|some (_,k)=>k)):=by show W=_;rw[HW.out,qj (by omega) (sQ hnl)];rfl
   clear HW hno hcell hnl;have mk:∀ w:G9,(Instr.makeSlice 160 (.int .i64 (cells.length:Nat)) (.int .i64 (cells.length:Nat))).run G5 w=.ok (.slice (G1 ⟨w.heap.size,0,G0⟩) cells.length cells.length) (w.alloc (.cells (Jb (Value.slice G0 0 0).cells (cells.length*1)) 32)):=λw=>by
    have:=run_make (P:=G5) w 160 32 ii _ Tryz.underlying160 hii hzi0 .i64 .i64 cells.length cells.length (by omega) (Int.le_refl _) (by rw[hzi2];omega) (by omega)
    rw[hzi1] at this;simpa only[IE] using this
   obtain⟨hXs,hXe⟩:=yp cells.length;generalize Jb (Value.slice G0 0 0).cells (cells.length*1)=X at *;have HXE:Hid (X.size=cells.length/\∀ i,i<cells.length->X[i]?=G1 (.slice G0 0 0)):=⟨hXs,hXe⟩;clear hXs hXe;have hn4:=Ha E0;have hmk:=mk wr.drew;obtain⟨w2,hw2⟩:∃w2,w2=((wr.alloc (.cells X 32)).alloc (.cells #[.slice ac cells.length cc,.int .i64 0,.slice (G1 ⟨wr.heap.size,0,G0⟩) cells.length cells.length,.bool true] 162)).drew:=⟨_,rfl⟩;have b2:Hf wr.heap.size wr w2:=by rw[hw2];exact(((Hi _ wr).alloc (G4 _) _).alloc (by simp) _).trans ⟨rfl,rfl,rfl,G4 _,λ_ _=>rfl⟩
   have X2:w2.heap[wr.heap.size]?=G1 (.cells X 32 (0,0)):=by
    rw[hw2];exact(Hj _ _ _ (by simp)).trans (Hc wr _)
   have V2:w2.heap[wr.heap.size+1]?=G1 (.cells #[.slice ac cells.length cc,.int .i64 0,.slice (G1 ⟨wr.heap.size,0,G0⟩) cells.length cells.length,.bool true] 162 (0,0)):=by
    rw[hw2]
    have:=Hc (wr.alloc (.cells X 32)) (.cells #[.slice ac cells.length cc,.int .i64 0,.slice (G1 ⟨wr.heap.size,0,G0⟩) cells.length cells.length,.bool true] 162)
    have h2:(wr.alloc (.cells X 32)).heap.size=wr.heap.size+1:=by simp
    rw[h2] at this;exact this
   have WD2:WD w2 (wr.heap.size+1) wr.heap.size (.slice ac cells.length cc) cells.length (G1 (0,λ_=>G0)):=⟨V2,JI _,X,X2,HXE.out.1,λi hi=>.inl ⟨rfl,HXE.out.2 i hi⟩⟩;have c4:=tq (e.kids.size+1) e ao cap (wr.heap.size+1) wr.heap.size (.slice ac cells.length cc) cells 0 0 (0,λ_=>G0) w2 (by omega) hf (by omega) (by omega) (by omega) WD2 (I0.mono (λi _ hl=>b2.block i hl) b2.size (λi _ hl=>⟨by omega,by omega⟩)) (S0.mono (λi _ hl=>b2.block i hl) b2.size (λi _ hl=>⟨by omega,by omega⟩));rw[dR] at c4;have E2:=(b2.block _ hn4).trans E0;have hs2:=Ha V2;have hnw:Hid (n0<wr.heap.size):=hn4;clear E0 S0 I0 X2 V2 WD2;go_wp2_with fail;go_region_held3 (λwx=>wx.cell? ⟨n0,4,G0⟩=G1 (.slice ac cells.length cc)) (go_keep) (fail);rw[<-hw2];clear hw2 mk hmk p0 p1 p2 p3 p4 pf HXE;obtain⟨p0,p1,p2,p3,p4,pf⟩:=dS E2;generalize fP cells e 0 0 (0,λ_=>G0)=rr at *;go_wp2_with fail;refine c4.mono ?_;rintro z w3 ⟨⟨k',rfl,hk'⟩,W3,K3⟩;have B3:Hf n0 w w3:=(B0.trans (b2.mono (IM hnw.out))).trans (K3.below (by have:=hnw.out;omega) (IM hnw.out) (by have:=hnw.out;omega));clear c4 p0 p1 p2 p3 p4 pf E2 K3 b2;cases rr with
   | none =>
    have HZ:Hid (W=0):=HW2.out;obtain⟨-,p,kv,V3⟩:=W3;obtain⟨q0,q1,q2,q3,qf⟩:=ep V3;clear HW2 hk' V3;go_wp2;go_ret;rw[HZ.out];exact⟨rfl,by rw[<-HN.out];exact B3⟩
   | some zz =>
    obtain⟨s2,k2⟩:=zz;obtain rfl:=hk' s2 k2 rfl;have HZ:Hid (W=k'):=HW2.out;obtain⟨V3,-,-⟩:=W3;obtain⟨q0,q1,q2,q3,qf⟩:=ep V3;clear HW2 hk' V3;go_wp2;go_ret;rw[HZ.out];exact⟨rfl,by rw[<-HN.out];exact B3⟩
theorem yD (e:Ex)(ao:Option Hw)(cap:Nat)(cv:He)(cells:List Int)(w:G9)(hf:fA e)(hc:InA w cv cells)(hcl:cells.length<=1000000000)(S:SnA w e.kids ao) :
  Hn G5 33 #[plV e ao cap cv] w λx w'=>x=.returned (.bool (decide (fh cells e≠0)))/\Hf w.heap.size w w':=by
 obtain⟨ac,cc,hcv,hcx⟩:=hc;have hc:InA w cv cells:=⟨ac,cc,hcv,hcx⟩;subst hcv;clear hcx;have B0:Hf w.heap.size w (w.alloc (.cells #[.int .i64 e.k,.int .i64 e.n,stv e.nm,.slice ao e.kids.len cap,.slice ac cells.length cc] 37)):=(Hi _ w).alloc (G4 _) _;have c1:=BF e ao cap _ cells _ hf (hc.below B0) hcl (SnA.below S B0);generalize fh cells e=W at *;rw[fu] at c1 ⊢;go_enter Tryz.func33,Tryz.ntmps33;go_wp2_with fail;refine c1.mono ?_;rintro z w1 ⟨rfl,b1⟩;have B1:Hf w.heap.size w w1:=B0.trans (b1.mono B0.size);clear c1 b1;by_cases h0:W=0
 ·have hb:(W != 0)=false:=by simpa using h0
  have hd:decide (W≠0)=false:=by simp[h0]
  have HD:Hid (decide (W≠0)=_):=hd;clear hd h0;go_wp2;go_ret;exact⟨by rw[HD.out];simp[hb],B1⟩
 ·have hb:(W != 0)=true:=by simpa using h0
  have hd:decide (W≠0)=true:=by simp[h0]
  have HD:Hid (decide (W≠0)=_):=hd;clear hd h0;go_wp2;go_ret;exact⟨by rw[HD.out];simp[hb],B1⟩
theorem uw (o a b:Int)(w:G9)(h1:0<=o)(h2:o<=255)(f:0<=a)(d:a<=268435455)(h5:0<=b)(c:b<=268435455) :
  Hn G5 36 #[.int .i64 o,.int .i64 a,.int .i64 b] w λe w' =>
   e=.returned (.tuple #[.int .u64 ((o*268435456+a)*268435456+b),.int .i64 0])/\w'=w:=by
 go_enter Tryz.func36,Tryz.ntmps36;go_wp2;go_ret2;exact⟨rfl,rfl⟩
theorem xH (o a b:Int)(w:G9)(h:¬(0<=o/\o<=255/\0<=a/\a<=268435455/\0<=b/\b<=268435455)) :
  Hn G5 36 #[.int .i64 o,.int .i64 a,.int .i64 b] w λe w'=>e=.returned (.tuple #[.int .u64 0,.int .i64 12])/\w'=w:=by
 have H:Hid (¬(0<=o/\o<=255/\0<=a/\a<=268435455/\0<=b/\b<=268435455)):=h;clear h;go_enter Tryz.func36,Tryz.ntmps36;go_wp2
 all_goals first|(exfalso;have:=H.out;omega)|(go_ret2;exact⟨rfl,rfl⟩)
def wdI (x:Wo):Int:=if x.op<=255/\x.a<=268435455/\x.b<=268435455 then i9 x else 0
def wdW (l:List Wo):List He:=l.map λx=>.int .u64 (wdI x)
theorem FD {l:List Wo}(h:∀ x ∈ l,x.ok):wdW l=woV l:=List.map_congr_left λx c=>by show Hp .u64 (wdI x)=_;unfold wdI;rw[if_pos (show x.op<=255/\x.a<=268435455/\x.b<=268435455 from h x c)]
def wdE (x:Wo):Int:=if x.op<=255/\x.a<=268435455/\x.b<=268435455 then 0 else 12
theorem yP (x:Wo)(w:G9):Hn G5 36 #[.int .i64 (x.op:Nat),.int .i64 (x.a:Nat),.int .i64 (x.b:Nat)] w λe w'=>e=.returned (.tuple #[.int .u64 (wdI x),.int .i64 (wdE x)])/\w'=w:=by
 unfold wdI wdE;by_cases h:x.op<=255/\x.a<=268435455/\x.b<=268435455
 ·rw[if_pos h,if_pos h];exact uw (x.op:Int) (x.a:Int) (x.b:Int) w (by omega) (by omega) (by omega) (by omega) (by omega) (by omega)
 ·rw[if_neg h,if_neg h];exact xH (x.op:Int) (x.a:Int) (x.b:Int) w (by omega)
structure EmD (w:G9)(o:Nat->Nat)(s:Em)(vw vc vn vk:He):Prop where
 ws:Row w o 2 54 1 vw s.ws.length (wdW s.ws)
 cs:Row w o 3 3 1 vc s.cs.length (eiV s.cs)
 ns:Row w o 4 9 1 vn s.ns.length (esV s.ns)
 ks:Row w o 5 3 1 vk s.ks.length (eiV s.ks)
def Cz (w:G9)(e:Ex)(cells:List Int)(z:Ja)(w':G9):Prop :=
 Hf w.heap.size w w'/\((fh cells e=0/\z=.returned (.tuple #[.agg iR,.int .i64 140])) \/
  (fh cells e≠0/\(32768<(emA cells e).ws.length\/1024<(emA cells e).dp)/\z=.returned (.tuple #[.agg iR,.int .i64 190])) \/
  (fh cells e≠0/\(emA cells e).ws.length<=32768/\(emA cells e).dp<=1024/\∃vw vc vn vk o',z=.returned (.tuple #[.agg #[vw,vc,vn,vk],.int .i64 0])/\(∀ k,k<w.heap.size->o' k=0)/\EmD w' o' (emA cells e) vw vc vn vk))
theorem newD {w2:G9}{gk:Nat}(n:Nat)(q:n<=1000)(p0 p1 p2 p3 p4:He)(w3:G9)(lv:List Int)(c:lv.length=n)
  (f:w3=(w2.alloc (.cells (Jb (Hp .i64 0).cells (n*1)) 3)).alloc (.cells #[p0,p1,p2,p3,p4,.slice G0 0 0,.slice G0 0 0,.slice (G1 ⟨gk,0,G0⟩) n n,.slice G0 0 0,.int .i64 0,.int .i64 0,.bool false] 74)) (d:gk=w2.heap.size) :
  ∃h,DW w3 h (gk+1) p0 p1 p2 p3 p4 (de0 lv)/\Hf w2.heap.size w2 w3/\∀ k,k<w2.heap.size->h k=0:=by
 obtain⟨e,z2,z3,z4⟩:=al2 w2 (.cells (Jb (Hp .i64 0).cells (n*1)) 3) (.cells #[p0,p1,p2,p3,p4,.slice G0 0 0,.slice G0 0 0,.slice (G1 ⟨gk,0,G0⟩) n n,.slice G0 0 0,.int .i64 0,.int .i64 0,.bool false] 74);rw[<-f,<-d] at e z2 z3 z4;obtain⟨o',a⟩:∃o':Nat->Nat,o'=λk=>if k=gk+1 then 1 else if k=gk then 5 else 0:=⟨_,rfl⟩;have l:o' (gk+1)=1:=by rw[a];simp
 have j:o' gk=5:=by rw[a];show (if gk=gk+1 then 1 else if gk=gk then 5 else 0)=5;rw[if_neg (by omega),if_pos rfl]
 refine⟨o',⟨by simp[de0],_,_,_,_,⟨z2,l⟩,Row.nil _ _ _ _ _,Row.nil _ _ _ _ _,Row.nil _ _ _ _ _,?_⟩,by rw[<-d];exact z4,λk g=>?_⟩
 ·have p:(de0 lv).ks.length=n:=by simp[de0,c]
  have o:eiV (de0 lv).ks=Ik n (Hp .i64 0):=by simp[eiV,de0,c]
  have m:Jb (Hp .i64 0).cells (n*1)=(Ik n (Hp .i64 0)).toArray:=by
   apply Array.ext';simp only[Jb,Value.cells];rw[List.eq_replicate_iff];refine⟨by simp,λb i=>?_⟩;simp[Nat.mod_one] at i;exact i.2.symm
  rw[m] at e;rw[p,o];refine⟨⟨by simp,.inr ⟨gk,n,_,rfl,JI _,e,G4 _,by unfold Hu;omega,by simp,by simp⟩⟩,λk g=>?_⟩;simp[JQ] at g;rw[<-g];exact j
 ·rw[a];show (if k=gk+1 then 1 else if k=gk then 5 else 0)=0;rw[if_neg (by omega),if_neg (by omega)]
theorem Row.labq {w:G9}{o o':Nat->Nat}{i j:Nat}{e:Il}{Kb:Nat}{v:He}{n:Nat}{xs:List He}(h:Row w o i e Kb v n xs)(a:∀ k,o k=i->o' k=j):Row w o' j e Kb v n xs:=⟨h.1,λk b=>a k (h.2 k b)⟩
abbrev I68:Nat->Prop:=λk=>6<=k/\k<=8
def nH (l:List Int):List Int:=l.map λy=>max y 1
theorem Cq (e:Ex)(ao:Option Hw)(cap:Nat)(cv:He)(cells:List Int)(w:G9)(hf:fA e)(hn:-9223372036854775808<=e.n/\e.n<=9223372036854775807)(hr:e.kids.rng)(hc:InA w cv cells)(bi:cells.length<=1000000000)(S:SnA w e.kids ao) :
  Hn G5 14 #[plV e ao cap cv] w (Cz w e cells):=by
 obtain⟨g,hg⟩:=exq w.heap.size;obtain⟨w1,E⟩:=exq ((w.alloc (.cells #[.int .i64 e.k,.int .i64 e.n,stv e.nm,.slice ao e.kids.len cap,cv] 37)).alloc (.cells iR 42));obtain⟨z1,z2,z3,z4⟩:=al2 w (.cells #[.int .i64 e.k,.int .i64 e.n,stv e.nm,.slice ao e.kids.len cap,cv] 37) (.cells iR 42);rw[<-E,<-hg] at z1 z2 z3 z4;have B1:Hf w.heap.size w w1:=by rw[<-hg];exact z4
 have HC:=yD e ao cap cv cells w1 hf (hc.below B1) bi (SnA.below S B1);have bh:=hc;obtain⟨ac,cc,rfl,-⟩:=bh;rw[fu] at HC ⊢;have N:=Hg hg;clear hg;obtain⟨c0,c1,c2,c3,c4⟩:=gp z1;by_cases c:fh cells e=0
 ·rw[decide_eq_false (by simp[c])] at HC;have HK:=Hg c;clear c;go_enter Tryz.func14,Tryz.ntmps14;go_upto_region 1 with fail;rw[<-E,<-N.out];clear E;go_upto_region 2 with (first|(go_at_call 33;refine HC.mono ?_;rintro z w2 ⟨rfl,B2⟩))
  have GZ:=(B2.block (g+1) (by omega)).trans z2;obtain⟨⟨d0,d1,d2,d3⟩,s⟩:=dW GZ;have aD:=s 0;have aC:=s 1;have aB:=s 2;have aA:=s 3;have BZ:Hf g w w2:=z4.trans (B2.mono (by omega));have ZE:=oI (.slice G0 0 0) (.slice G0 0 0) (.slice G0 0 0) (.slice G0 0 0) GZ;have f:g<=g+1:=by omega
  have BE:=(((BZ.setCell (p:=⟨g+1,0,G0⟩) f (.slice G0 0 0)).setCell (p:=⟨g+1,1,G0⟩) f (.slice G0 0 0)).setCell (p:=⟨g+1,2,G0⟩) f (.slice G0 0 0)).setCell (p:=⟨g+1,3,G0⟩) f (.slice G0 0 0);obtain⟨⟨m0,m1,m2,m3⟩,-⟩:=dW ZE;have O:=Hg BE;clear ZE BE GZ BZ HC z1 z2 z3 z4 B1 B2 c0 c1 c2 c3 c4;go_wp2;exact Hb (v:=.tuple #[.agg iR,.int .i64 140]) (by simp[Hk,Tryz.results14,go_sem,m0,m1,m2,m3]) rfl ⟨by rw[<-N.out];exact O.out,.inl ⟨HK.out,rfl⟩⟩
 ·rw[decide_eq_true c] at HC;obtain⟨aa,br,ba,bu⟩:=sV c hn hr;obtain⟨K,aS,aq⟩:=Gu c aa;have HK:=Hg c;clear c;obtain⟨ii,aO,ai,ah,ag⟩:=eo pA;have mk:∀ w:G9,(Instr.makeSlice 35 (.int .i64 (cells.length:Nat)) (.int .i64 (cells.length:Nat))).run G5 w=.ok (.slice (G1 ⟨w.heap.size,0,G0⟩) cells.length cells.length) (w.alloc (.cells (Jb (Hp .i64 0).cells (cells.length*1)) 3)):=λw=>by
   have:=run_make (P:=G5) w 35 3 ii _ Iu aO ai .i64 .i64 cells.length cells.length (by omega) (Int.le_refl _) (by rw[ag];omega) (by omega)
   rw[ah] at this;simpa only[IE] using this
  clear aO ai ah ag;go_enter Tryz.func14,Tryz.ntmps14;go_upto_region 1 with fail;rw[<-E,<-N.out];clear E;go_upto_region 4 with (first|(go_at_call 33;refine HC.mono ?_;rintro z w2 ⟨rfl,B2⟩))
  have Q:Hf w.heap.size w w2:=B1.trans (B2.mono B1.size);have y1:=(B2.block g (by omega)).trans z1;have y2:=(B2.block (g+1) (by omega)).trans z2;have L2:g+2<=w2.heap.size:=by rw[<-z3];exact B2.size
  clear c0 c1 c2 c3 c4 HC;obtain⟨c0,c1,c2,c3,c4⟩:=gp y1;have a7:=mk w2;have a6:=mk w2.drew;have aG:=λX:Obj=>(IO w2 X (by omega)).trans y1;have hX:=newD (w2:=w2) (gk:=w2.heap.size) cells.length (by omega) (.int .i64 e.k) (.int .i64 e.n) (stv e.nm) (.slice ao e.kids.len cap) (.slice ac cells.length cc) _ cells rfl rfl rfl;generalize Jb (Hp .i64 0).cells (cells.length*1)=X at *;obtain⟨d0,d1,d2,d3,d4⟩:=gp (aG (.cells X 3));obtain⟨gk,ay⟩:=exq w2.heap.size;rw[<-ay] at hX;obtain⟨wx,am⟩:=exq ((w2.alloc (.cells X 3)).alloc (.cells #[.int .i64 e.k,.int .i64 e.n,stv e.nm,.slice ao e.kids.len cap,.slice ac cells.length cc,.slice G0 0 0,.slice G0 0 0,.slice (G1 ⟨gk,0,G0⟩) cells.length cells.length,.slice G0 0 0,.int .i64 0,.int .i64 0,.bool false] 74));rw[<-am] at hX;have HX:=Hg hX;have aF:=Hg ay;have aY:=Hg am;clear aG hX ay am mk;go_region;go_upto_region 5 with fail;rw[<-aF.out,<-aY.out];obtain⟨o3,aZ,a4,t⟩:=HX.out;have E3:=aZ.step ((as.refl (λ_=>False) wx o3).drew) noF;have W:Hf gk w2 wx.drew:=a4.drew;generalize wx.drew=w3 at *;obtain⟨rb,aJ⟩:=exq (gk+1);rw[<-aJ] at E3 ⊢;clear aJ HX aY aZ a4 d0 d1 d2 d3 d4 a7 a6 c0 c1 c2 c3 c4;rw[<-aF.out] at L2;have aK:w2.heap.size=gk:=aF.out.symm;have X3:DX w3 o3 (.slice ac cells.length cc) cells:=by
   obtain⟨ao,cap,hv,hx⟩:=hc.below Q;injection hv with h1 h2 h3
   subst h1 h3;refine⟨_,_,rfl,?_⟩;rcases hx with hx|⟨b,off,h1,h2,h3,h4⟩
   ·exact .inl hx
   ·rw[aK] at h3;exact .inr ⟨b,off,h1,t b h3,Hh h3 (by rw[<-aK];exact W.size),λj x hj=>(W.cell (p:=⟨b,off+j,G0⟩) h3).trans (h4 j x hj)⟩
  have aV:SnO w3 o3 e.kids ao:=(SnA.below S Q).mono (λk _ hl=>W.block k (by omega)) W.size (λk _ hl=>t k (by omega));have aU:Blk w3 o3 0 g (zPl e ao cap ac cells.length cc):=⟨(W.block g (by omega)).trans y1,t g (by omega)⟩;have aT:Blk w3 o3 0 (g+1) (.cells iR 42):=⟨(W.block (g+1) (by omega)).trans y2,t (g+1) (by omega)⟩;have z0:(de0 cells).sz 0:=⟨by simp[de0],by simp[de0],by simp[de0],by simp[de0],by simp[de0],by simp[de0]⟩;have HP:=qn K cells.length (e.kids.size+1) e ao cap 0 w3 o3 rb _ _ _ _ _ cells (de0 cells) 0 (by omega) aa aq rfl ba (by omega) (by omega) aV (by simp[de0]) z0 (by omega) X3 E3;rw[dR] at HP;have dA:=fj cells e 0 (de0 cells);have zA:=(dV _ 0 0 0).sz _ (dA.sz 0 z0);have BW:Hf g w w3:=(by rw[<-N.out] at Q;exact Q.trans (W.mono (by omega)));have hR:=ry_A K cells cells.length e aq aa;have aM:(deA cells e).ks.length=cells.length:=((dV _ 0 0 0).ks.trans dA.ks).trans (by simp[de0]);obtain⟨c0,c1,c2,c3,c4⟩:=gp aU.1;rw[show ((0:Nat):Int)=0 from rfl] at HP;go_upto_region 6 with (first|(go_at_call 34;refine HP.mono ?_;rintro z w4 ⟨rfl,o4,E4,S4⟩))
  have HL:=eE w4 o4 rb _ _ _ _ _ (deE cells e 0 (de0 cells)) 0 0 0 E4;go_upto_region 7 with (first|(go_at_call 35;refine HL.mono ?_;rintro z u ⟨rfl,o5,E5,S5⟩))
  have aQ:(deE cells e 0 (de0 cells)).puts 0 0 0=deA cells e:=rfl;rw[aQ] at E5 zA;have o:=S4.trans S5;have L:=aT.step o dZ;have ax:∀ k,k<w.heap.size->o5 k=0:=λk ad=>by
   have hg:=N.out;rw[o.lab k (by have:=W.size;omega)];exact t k (by omega)
  have B5:Hf g w u:=BW.trans ⟨o.os,o.tape,o.output,o.size,λk ad=>o.block k (by have:=W.size;omega) (by rw[t k (by omega)];exact dZ)⟩;clear HP HL E4 S4 S5 o aU aT X3 aV E3 BW aq aa dA z0 c0 c1 c2 c3 c4 W t Q y1 y2 B1 B2 z1 z2 z4 S hc hf hr;obtain⟨⟨d0,d1,d2,d3⟩,s⟩:=dW L.1;have aD:=s 0;have aC:=s 1;have aB:=s 2;have aA:=s 3;have f:g<=g+1:=by omega
  obtain⟨al,-⟩:=E5.cl;by_cases hq:okQ (emA cells e)
  ·have r:=hR.1 hq;rw[r.lg] at al;obtain⟨wl,vc,vn,vk,vw,q0,q1,q2,q3,q4⟩:=E5;obtain⟨aw,cw,rfl⟩:=q1.form;obtain⟨l,h,rfl⟩:=q2.form;obtain⟨an,cn,rfl⟩:=q3.form;obtain⟨ak,ck,rfl⟩:=q4.form;obtain⟨⟨t4,t5,t6,B,U,t9,aI,aH⟩,-⟩:=fq q0.1;have qa:=λX:Obj=>(IO u X q0.lt).trans q0.1;obtain⟨⟨-,u5,u6,-,-,-,-,-⟩,-⟩:=fq (qa (.cells iR 42));obtain⟨⟨-,v5,v6,-,-,-,-,-⟩,-⟩:=fq (show u.drew.heap[rb]?=_ from q0.1);clear qa;obtain⟨F,az⟩:=exq u.heap.size;have B6:Hf g w (u.alloc (.cells #[.slice G0 0 0,.slice l (deA cells e).cs.length h,.slice an (deA cells e).ns.length cn,.slice G0 0 0] 42)).drew:=(B5.alloc (by have:=B5.size;have:=N.out;omega) _).drew;have S6:∀ {I:Nat->Prop},as I u o5 (u.alloc (.cells #[.slice G0 0 0,.slice l (deA cells e).cs.length h,.slice an (deA cells e).ns.length cn,.slice G0 0 0] 42)).drew (dQ u o5 6):=λ{I}=>(((as.refl I u o5).labelled 6).alloc _).drew;have G6:Blk (u.alloc (.cells #[.slice G0 0 0,.slice l (deA cells e).cs.length h,.slice an (deA cells e).ns.length cn,.slice G0 0 0] 42)).drew (dQ u o5 6) 6 F (.cells #[.slice G0 0 0,.slice l (deA cells e).cs.length h,.slice an (deA cells e).ns.length cn,.slice G0 0 0] 42):=by rw[az];exact⟨Hc _ _,dY (G4 _)⟩
   have bl:=Hg az;clear az;go_upto_region 9 with fail;go_region;go_upto_region 10 with fail;rw[<-bl.out];generalize (u.alloc (.cells #[.slice G0 0 0,.slice l (deA cells e).cs.length h,.slice an (deA cells e).ns.length cn,.slice G0 0 0] 42)).drew=w6 at *;have Q0:=q0.step (S6 (I:=λ_=>False)) id;have Q1:=q1.step (S6 (I:=λ_=>False)) id;have Q2:=q2.step (S6 (I:=λ_=>False)) id;have Q3:=q3.step (S6 (I:=λ_=>False)) id;have Q4:=q4.step (S6 (I:=λ_=>False)) id;have aE:=L.step (S6 (I:=λ_=>False)) id;have av:∀ k,k<w.heap.size->dQ u o5 6 k=0:=λk ad=>by
    rw[ed (by have:=B5.size;omega)];exact ax k ad
   generalize dQ u o5 6=o6 at *;generalize deA cells e=D at *;have a5:D.ks.length<=256:=by omega
   clear aM aQ q0 q1 q2 q3 q4 L B5 S6 ax hR zA t4 t5 t6 B U t9 aI aH u5 u6 v5 v6 d0 d1 d2 d3 aD aC aB aA s al;have KW:Hid (∀ w' o',as I68 w6 o6 w' o'->w'.cell? ⟨rb,7,G0⟩=G1 (.slice ak D.ks.length ck)/\w'.cell? ⟨rb,8,G0⟩=G1 (.slice aw D.ws.length cw)):=λw' o' S=>by
    obtain⟨⟨t4,t5,t6,B,U,t9,aI,aH⟩,-⟩:=fq (Q0.step S (by decide)).1;exact⟨B,U⟩
   obtain⟨j1,j2,j3,j4,j5⟩:=eo qW;obtain⟨B,U⟩:=KW.out _ _ (as.refl I68 w6 o6);go_wp2_with fail;go_loopw [7] (λv wr=>∃(i:Nat) (o':Nat->Nat) (va:Option Hw) (H:Nat),v=.int .i64 i/\i<=D.ks.length/\Blk wr o' 6 F (.cells #[.slice G0 0 0,.slice l D.cs.length h,.slice an D.ns.length cn,.slice va i H] 42)/\Row wr o' 7 3 1 (.slice va i H) i (eiV (nH (D.ks.take i)))/\as I68 w6 o6 wr o') (λv _=>D.ks.length-(Ih v).toNat)
   case atStart=>exact⟨0,o6,G0,0,by go_num,by omega,G6,Row.nil _ _ _ _ _,as.refl _ _ _⟩
   case round =>
    clear G6 B U;obtain⟨i,o',va,H,rfl,hi,G,R,S⟩:=hrel;obtain⟨B,U⟩:=KW.out _ _ S;obtain⟨⟨g0,g1,g2,g3⟩,gf⟩:=dW G.1;by_cases ab:i<D.ks.length
    ·have bc:(i:Int)<(D.ks.length:Int):=by omega
     obtain⟨bj,bo,ap,bq,-,-,bd,aR,bf⟩:=(Q4.step S (by decide)).pos (by omega);injection ap with au a9 ar
     subst au ar;have rz:wr.cell? ⟨bj,i,G0⟩=G1 (.int .i64 (D.ks.getD i 0)):=by
      rw[aR i (by omega)];simp[eiV,ab,Ib]
     obtain⟨M,hM⟩:=exq (max (D.ks.getD i 0) 1);have hY:Hid (eiV (nH (D.ks.take (i+1)))=eiV (nH (D.ks.take i))++[.int .i64 M]):=by
      have e1:nH (D.ks.take (i+1))=nH (D.ks.take i)++[M]:=by
       unfold nH;rw[Jj ab,Kn,hM];simp[ab,Ib]
      show _=_;rw[e1,eiV,Kn];rfl
     have bA:i+1<=Hu:=by unfold Hu;omega
     have bB:(i+1)*8<=140737488355328:=by omega
     have Z:∀ {I:Nat->Prop} (wz:G9),as I wz o' wz.drew o':=λwz=>(as.refl _ wz o').drew;have C:∀ {I:Nat->Prop},as I wr o' (wr.alloc (.cells #[.int .i64 M] 3)) o':=λ{I}=>as.ofBelow (I:=I) o' (b1 _ _);have Ra:=(R.step (C (I:=λ_=>False)) id).step (Z (I:=λ_=>False) _) id;have Ga:=(G.step (C (I:=λ_=>False)) id).step (Z (I:=λ_=>False) _) id;obtain⟨⟨a0,a1,a2,a3⟩,af⟩:=dW (G.step (C (I:=λ_=>False)) id).1;subst hM;generalize D.ks.getD i 0=y at *;clear aR bf;go_wp2_with fail;go_region_law ((refine fZ rfl (.tmp 53) (.tmp 62) 35 rfl 3 j1 (.int .i64 0) 1 8 Iu j2 j3 j4 j5 rfl (by decide) o' 7 (.slice va i H) i (eiV (nH (D.ks.take i))) (by simp[Ks,IQ]) Ra ⟨wr.heap.size,0,G0⟩ 1 1 [.int .i64 (max y 1)] (by simp[Ks,IQ]) rfl (fM wr _ _) (ku _ rfl) (by decide) bA bB ?_;intro g5 c5 Y V R7 S7;have G7:=Ga.step S7 (by decide);obtain⟨⟨h0,h1,h2,h3⟩,hf⟩:=dW G7.1;have bg:=hf 3))
     all_goals
      have T8:as (λk=>k=6) Y V (Y.setCell ⟨F,3,G0⟩ (.slice (G1 ⟨g5,0,G0⟩) (i+1) c5)) V:=fo _ Y V ⟨F,3,G0⟩ _ G7.2;have G8:=G7.set 3 (.slice (G1 ⟨g5,0,G0⟩) (i+1) c5);have R8:=R7.step T8 (by decide);have S8:as I68 w6 o6 (Y.setCell ⟨F,3,G0⟩ (.slice (G1 ⟨g5,0,G0⟩) (i+1) c5)) V:=(((S.trans C).trans (Z _)).trans (S7.mono (λk c=>by rw[c];decide))).trans (T8.mono (λk c=>by rw[c];decide));rw[<-hY.out] at R8;clear G7 R7 T8 S7 G R S Ra Ga Z C hY a0 a1 a2 a3 h0 h1 h2 h3 hf bg g0 g1 g2 g3 gf B U rz af;generalize Y.setCell ⟨F,3,G0⟩ (.slice (G1 ⟨g5,0,G0⟩) (i+1) c5)=w8 at *;go_wp2;go_roundw
      case rel=>(try ((repeat apply Hv);refine⟨?_,rfl⟩));exact⟨i+1,V,G1 ⟨g5,0,G0⟩,c5,by go_num,by omega,G8,R8,S8⟩
      case measure=>simp[Ih];omega
    ·have bc:¬(i:Int)<(D.ks.length:Int):=by omega
     obtain rfl:i=D.ks.length:=by omega
     rw[Ke] at R;clear ab;have a8:∃wv,wv=wr:=⟨_,rfl⟩;obtain⟨wv,rfl⟩:=a8;go_wp2_with fail;go_loopw [8] (λv wq=>∃(j:Nat) (m:Nat->Nat) (T:Option Hw) (cb:Nat),v=.int .i64 j/\j<=D.ws.length/\Blk wq m 6 F (.cells #[.slice T j cb,.slice l D.cs.length h,.slice an D.ns.length cn,.slice va D.ks.length H] 42)/\Row wq m 8 54 1 (.slice T j cb) j (wdW (D.ws.take j))/\as (λk=>k=6\/k=8) wv o' wq m) (λv _=>D.ws.length-(Ih v).toNat)
     case atStart=>exact⟨0,o',G0,0,by go_num,by omega,G,Row.nil _ _ _ _ _,as.refl _ _ _⟩
     case round =>
      clear G g0 g1 g2 g3 gf B U;obtain⟨j,m,T,cb,rfl,hj,G2,R2,S2⟩:=hrel;have d:as I68 w6 o6 wr m:=S.trans (S2.mono (λk c=>by rcases c with c|c<;>(rw[c];decide)));obtain⟨B,U⟩:=KW.out _ _ d;obtain⟨⟨g0,g1,g2,g3⟩,gf⟩:=dW G2.1;by_cases aN:j<D.ws.length
      ·have bb:(j:Int)<(D.ws.length:Int):=by omega
       obtain⟨gl,bn,ap,bp,-,-,bd,aj,be⟩:=(Q1.step d (by decide)).pos (by omega);injection ap with au a9 ar
       subst au ar;have ae:∀ i,i<3->wr.cell? ⟨gl,j*3+i,G0⟩=(j7 D.ws[j])[i]?:=λi hi=>by
        rw[aj (j*3+i) (by omega),rQ D.ws j i D.ws[j] (Hd aN) hi]
       have hW:Hid (wdW (D.ws.take (j+1))=wdW (D.ws.take j)++[.int .u64 (wdI D.ws[j])]):=by
        show _=_;rw[Jj aN,wdW,Kn];rfl
       generalize D.ws[j]=x at *;have x0:wr.cell? ⟨gl,j*3,G0⟩=G1 (.int .i64 (x.op:Nat)):=ae 0 (by omega);have x1:wr.cell? ⟨gl,j*3+1,G0⟩=G1 (.int .i64 (x.a:Nat)):=ae 1 (by omega);have x2:wr.cell? ⟨gl,j*3+2,G0⟩=G1 (.int .i64 (x.b:Nat)):=ae 2 (by omega);have aX:=λwy=>yP x wy;have KQ:∀ q,as (λ_=>False) wr m (wr.drewN q) m:=λq=>(as.refl _ wr m).drewN q;clear ae aj be;go_wp2_with fail
       go_quiet ((go_at_call 36;exact Calls.quiet_of_same (aX _)))
       have KQ:=KQ nq;have G3:=G2.step KQ id;have R3:=R2.step KQ id;have S3:as I68 w6 o6 (wr.drewN nq) m:=d.trans (KQ.mono (λk c=>c.elim));have aW:as (λk=>k=6\/k=8) wv o' (wr.drewN nq) m:=S2.trans (KQ.mono (λk c=>c.elim));generalize wr.drewN nq=w9 at *;clear g0 g1 g2 g3 gf B U x0 x1 x2 G2 R2 S2 aX KQ;obtain⟨⟨g0,g1,g2,g3⟩,gf⟩:=dW G3.1;obtain⟨u1,u2,u3,u4,u5⟩:=eo vB;have bA:j+1<=Hu:=by unfold Hu;omega
       have bB:(j+1)*8<=140737488355328:=by omega
       obtain⟨ev,aP⟩:=exq (wdI x);rw[<-aP] at hW ⊢;generalize wdE x=er at *;have pr:=R3.step (as.ofBelow (I:=λ_=>False) m (b1 w9 (.cells #[.int .u64 ev] 54))) id;clear aP;go_wp2_with (first|(at_builtin;refine eb rfl _ _ 39 rfl 54 u1 (.int .u64 0) 1 8 Tryz.underlying39 u2 u3 u4 u5 rfl (by decide) m 8 (.slice T j cb) j (wdW (D.ws.take j)) rfl pr ⟨w9.heap.size,0,G0⟩ 1 1 [.int .u64 ev] rfl rfl (fM _ _ _) (ku _ rfl) (by decide) bA bB ?_)|go_in);intro g5 c5 Y V R7 S7;have sa:∀ {I:Nat->Prop},as I w9 m (w9.alloc (.cells #[.int .u64 ev] 54)) m:=λ{I}=>as.ofBelow (I:=I) m (b1 _ _);have G7:=(G3.step (sa (I:=λ_=>False)) id).step S7 (by decide);obtain⟨⟨h0,h1,h2,h3⟩,hf⟩:=dW G7.1;have bt:=hf 0;have T8:as (λk=>k=6) Y V (Y.setCell ⟨F,0,G0⟩ (.slice (G1 ⟨g5,0,G0⟩) (j+1) c5)) V:=fo _ Y V ⟨F,0,G0⟩ _ G7.2;have G8:=G7.set 0 (.slice (G1 ⟨g5,0,G0⟩) (j+1) c5);have R8:=R7.step T8 (by decide);have S8:=((aW.trans sa).trans (S7.mono (J:=λk=>k=6\/k=8) (λk c=>.inr c))).trans (T8.mono (J:=λk=>k=6\/k=8) (λk c=>.inl c));rw[<-hW.out] at R8;clear G7 R7 T8 S7 G3 R3 S3 aW pr sa g0 g1 g2 g3 gf hW;go_wp2;go_roundw
       case rel=>(try ((repeat apply Hv);refine⟨?_,rfl⟩));exact⟨j+1,V,G1 ⟨g5,0,G0⟩,c5,by go_num,by omega,G8,R8,S8⟩
       case measure=>simp[Ih];omega
      ·have bb:¬(j:Int)<(D.ws.length:Int):=by omega
       obtain rfl:j=D.ws.length:=by omega
       rw[Ke] at R2;obtain⟨⟨d0,d1,d2,d3⟩,s⟩:=dW (aE.step d (by decide)).1;have aD:=s 0;have aC:=s 1;have aB:=s 2;have aA:=s 3;have BR:Hf g w wr:=B6.trans ⟨d.os,d.tape,d.output,d.size,λk ad=>d.block k (by have:=B6.size;have:=N.out;omega) (by rw[av k (by have:=N.out;omega)];decide)⟩;have b9:=aE.step d (by decide);have ZE:=oI (.slice T D.ws.length cb) (.slice l D.cs.length h) (.slice an D.ns.length cn) (.slice va D.ks.length H) b9.1;have BE:=(((BR.setCell (p:=⟨g+1,0,G0⟩) f (.slice T D.ws.length cb)).setCell (p:=⟨g+1,1,G0⟩) f (.slice l D.cs.length h)).setCell (p:=⟨g+1,2,G0⟩) f (.slice an D.ns.length cn)).setCell (p:=⟨g+1,3,G0⟩) f (.slice va D.ks.length H);have SE:as (λk=>k=0) wr m ((((wr.setCell ⟨g+1,0,G0⟩ (.slice T D.ws.length cb)).setCell ⟨g+1,1,G0⟩ (.slice l D.cs.length h)).setCell ⟨g+1,2,G0⟩ (.slice an D.ns.length cn)).setCell ⟨g+1,3,G0⟩ (.slice va D.ks.length H)) m:=((((as.refl _ wr m).setCell ⟨g+1,0,G0⟩ _ b9.2).setCell ⟨g+1,1,G0⟩ _ b9.2).setCell ⟨g+1,2,G0⟩ _ b9.2).setCell ⟨g+1,3,G0⟩ _ b9.2;obtain⟨⟨m0,m1,m2,m3⟩,-⟩:=dW ZE;have aL:(emA cells e).ks=nH D.ks:=by
        apply JK;intro i;have bs:=r.kl;by_cases hi:i<D.ks.length
        ·have h1:=r.ks i (by omega);have hp:=aS i;unfold nH;rw[ID,Hd hi,Hd (by omega)];simp only[Ib,Hd hi,Hd (show i<(emA cells e).ks.length by omega),Option.getD_some,Option.map_some] at h1 ⊢
         congr 1
         omega
        ·unfold nH;rw[Ie (by omega),Ie (by simp;omega)]
       obtain⟨oz,A⟩:∃oz:Nat->Nat,oz=λk=>if m k=8 then 2 else if m k=7 then 5 else if m k=2\/m k=5\/m k=6 then 9 else m k:=⟨_,rfl⟩;have bm:Hid (EmD ((((wr.setCell ⟨g+1,0,G0⟩ (.slice T D.ws.length cb)).setCell ⟨g+1,1,G0⟩ (.slice l D.cs.length h)).setCell ⟨g+1,2,G0⟩ (.slice an D.ns.length cn)).setCell ⟨g+1,3,G0⟩ (.slice va D.ks.length H)) oz (emA cells e) (.slice T D.ws.length cb) (.slice l D.cs.length h) (.slice an D.ns.length cn) (.slice va D.ks.length H)):=by
        refine⟨?_,?_,?_,?_⟩
        ·rw[<-r.ws];exact(R2.step SE (by decide)).labq (λk c=>by rw[A];simp only;rw[if_pos c])
        ·rw[<-r.cs];exact((Q2.step d (by decide)).step SE (by decide)).labq (λk c=>by rw[A];simp only;rw[if_neg (by omega),if_neg (by omega),if_neg (by omega)];exact c)
        ·rw[<-r.ns];exact((Q3.step d (by decide)).step SE (by decide)).labq (λk c=>by rw[A];simp only;rw[if_neg (by omega),if_neg (by omega),if_neg (by omega)];exact c)
        ·rw[aL,show (nH D.ks).length=D.ks.length by simp[nH]];exact((R.step S2 (by decide)).step SE (by decide)).labq (λk c=>by rw[A];simp only;rw[if_neg (by omega),if_pos c])
       have bk:Hid (∀ k,k<w.heap.size->oz k=0):=λk c=>by
        have hz:m k=0:=by rw[d.lab k (by have:=B6.size;have:=N.out;omega)];exact av k c
        rw[A];simp only;rw[if_neg (by omega),if_neg (by omega),if_neg (by omega)];exact hz
       have O:=Hg BE;have HQ:=Hg hq;clear ZE BE SE BR b9 aE Q0 Q1 Q2 Q3 Q4 R R2 S S2 d G2 KW aL A hq r aS av B6 B;go_wp2;exact Hb (v:=.tuple #[.agg #[.slice T D.ws.length cb,.slice l D.cs.length h,.slice an D.ns.length cn,.slice va D.ks.length H],.int .i64 0]) (by simp[Hk,Tryz.results14,go_sem,m0,m1,m2,m3]) rfl ⟨by rw[<-N.out];exact O.out,.inr (.inr ⟨HK.out,HQ.out.1,HQ.out.2,_,_,_,_,oz,rfl,bk.out,bm.out⟩)⟩
  ·rw[hR.2 hq] at al;have HQ:Hid (32768<(emA cells e).ws.length\/1024<(emA cells e).dp):=by show _\/_;unfold okQ at hq;omega
   have ZE:=oI (.slice G0 0 0) (.slice G0 0 0) (.slice G0 0 0) (.slice G0 0 0) L.1;have BE:=(((B5.setCell (p:=⟨g+1,0,G0⟩) f (.slice G0 0 0)).setCell (p:=⟨g+1,1,G0⟩) f (.slice G0 0 0)).setCell (p:=⟨g+1,2,G0⟩) f (.slice G0 0 0)).setCell (p:=⟨g+1,3,G0⟩) f (.slice G0 0 0);obtain⟨⟨m0,m1,m2,m3⟩,-⟩:=dW ZE;have O:=Hg BE;clear ZE BE B5 L E5 hR aM zA hq s ax;go_wp2;exact Hb (v:=.tuple #[.agg iR,.int .i64 190]) (by simp[Hk,Tryz.results14,go_sem,m0,m1,m2,m3]) rfl ⟨by rw[<-N.out];exact O.out,.inr (.inl ⟨HK.out,HQ.out,rfl⟩)⟩
abbrev lW (w:G9)(f:Fs)(b cap:Nat):Prop:=Spn w (λ_=>True) f b cap
theorem lW.below {w w':G9}{f:Fs}{b cap:Nat}(h:lW w f b cap)(bb:Hf w.heap.size w w'):lW w' f b cap:=h.mono (λi _ hl=>bb.block i hl) bb.size (λ_ h _=>h)
theorem Spn.last {w:G9}{P:Nat->Prop}{f:Fs}{b cap:Nat}(h:Spn w P f b cap):f.len+1<=cap/\cap<=Hu/\w.cell? ⟨b,f.len*4,G0⟩=G1 (.int .i64 (-7)):=by
 obtain⟨zs,hp,hlt,h1,h2,hc,h7,h3⟩:=h;exact⟨h1,h2,h7⟩
theorem Spn.lt {w:G9}{P:Nat->Prop}{f:Fs}{b cap:Nat}(h:Spn w P f b cap):b<w.heap.size:=by
 obtain⟨zs,hp,hlt,_⟩:=h;exact hlt
theorem LFn.split {w:G9}{P:Nat->Prop}:∀ {x y:Fs}{zs:List He},LFn w P (x.app y) zs->∃zx zy,zs=zx++zy/\LFn w P x zx/\LFn w P y zy
 | ⟨G0⟩,y,zs,h=>⟨[],zs,rfl,rfl,h⟩
 | ⟨G1 ⟨k,n,nm,a,ks,r⟩⟩,y,zs,h=>by
  obtain⟨b,cap,us,ys,rfl,h1,h2⟩:=h;obtain⟨zx,zy,rfl,h3,h4⟩:=LFn.split (x:=r) h2;exact⟨_,zy,rfl,⟨b,cap,us,zx,rfl,h1,h3⟩,h4⟩
theorem Spn.kid {w:G9}{P:Nat->Prop}{x r:Fs}{k n:Int}{nm:List UInt8}{a:Int}{ks:Fs}{b cap:Nat}(h:Spn w P (x.app (.cons k n nm a ks r)) b cap) :
  ∃bk ck,w.cell? ⟨b,x.len*4,G0⟩=G1 (.int .i64 k)/\w.cell? ⟨b,x.len*4+1,G0⟩=G1 (.int .i64 n)/\w.cell? ⟨b,x.len*4+2,G0⟩=G1 (stv nm)/\w.cell? ⟨b,x.len*4+3,G0⟩=G1 (.slice (G1 ⟨bk,0,G0⟩) ks.len ck)/\Spn w P ks bk ck:=by
 obtain⟨zs,hp,hlt,h1,h2,hc,h7,h3⟩:=h;obtain⟨zx,zy,rfl,h4,h5⟩:=LFn.split h3;have hl:=h4.len;obtain⟨bk,ck,us,ys,rfl,h6,-⟩:=h5;have hc':∀ j u,(.int .i64 k::.int .i64 n::stv nm::.slice (G1 ⟨bk,0,G0⟩) ks.len ck::ys:List He)[j]?=G1 u->w.cell? ⟨b,x.len*4+j,G0⟩=G1 u:=λj u hu=>by
  have:=hc (x.len*4+j) u (by rw[IF (by omega),hl,JR];exact hu)
  rw[Ix] at this;exact this
 exact⟨bk,ck,hc' 0 _ rfl,hc' 1 _ rfl,hc' 2 _ rfl,hc' 3 _ rfl,us,h6⟩
def qV (N:Nat):Prop:=∀ (e:Ex) (b0 cap:Nat) (ao2:Option Hw) (cap2:Nat) (w:G9),e.kids.size<N->e.kids.len<=1000000000->e.kids.short->lW w e.kids b0 cap->SnA w e.kids ao2 ->
 Hn G5 43 #[exN e (G1 ⟨b0,0,G0⟩) cap,exN e ao2 cap2] w λx w'=>x=.returned (.bool true)/\Hf w.heap.size w w'
theorem vl {N:Nat}(IH:qV N):qV (N+1):=by
 intro e b0 cap ao2 cap2 w hN hlen hsh S S2;have B0:Hf w.heap.size w ((w.alloc (.cells #[.int .i64 e.k,.int .i64 e.n,stv e.nm,.slice (G1 ⟨b0,0,G0⟩) e.kids.len cap] 34)).alloc (.cells #[.int .i64 e.k,.int .i64 e.n,stv e.nm,.slice ao2 e.kids.len cap2] 34)):=((Hi _ w).alloc (G4 _) _).alloc (by simp) _;have E0:((w.alloc (.cells #[.int .i64 e.k,.int .i64 e.n,stv e.nm,.slice (G1 ⟨b0,0,G0⟩) e.kids.len cap] 34)).alloc (.cells #[.int .i64 e.k,.int .i64 e.n,stv e.nm,.slice ao2 e.kids.len cap2] 34)).heap[w.heap.size]?=G1 (.cells #[.int .i64 e.k,.int .i64 e.n,stv e.nm,.slice (G1 ⟨b0,0,G0⟩) e.kids.len cap] 34):=(Hj _ _ _ (by simp)).trans (Hc w _);have Y0:((w.alloc (.cells #[.int .i64 e.k,.int .i64 e.n,stv e.nm,.slice (G1 ⟨b0,0,G0⟩) e.kids.len cap] 34)).alloc (.cells #[.int .i64 e.k,.int .i64 e.n,stv e.nm,.slice ao2 e.kids.len cap2] 34)).heap[w.heap.size+1]?=G1 (.cells #[.int .i64 e.k,.int .i64 e.n,stv e.nm,.slice ao2 e.kids.len cap2] 34):=by
  have:=Hc (w.alloc (.cells #[.int .i64 e.k,.int .i64 e.n,stv e.nm,.slice (G1 ⟨b0,0,G0⟩) e.kids.len cap] 34)) (.cells #[.int .i64 e.k,.int .i64 e.n,stv e.nm,.slice ao2 e.kids.len cap2] 34)
  simpa using this
 have S0:=lW.below S B0;have T0:=SnA.below S2 B0;rw[dR,dR];go_enter Tryz.func43,Tryz.ntmps43;go_upto_region 1 with fail;generalize (w.alloc (.cells #[.int .i64 e.k,.int .i64 e.n,stv e.nm,.slice (G1 ⟨b0,0,G0⟩) e.kids.len cap] 34)).alloc (.cells #[.int .i64 e.k,.int .i64 e.n,stv e.nm,.slice ao2 e.kids.len cap2] 34)=w0 at *;obtain⟨bx,hbx⟩:∃bx,bx=w.heap.size:=⟨_,rfl⟩;rw[<-hbx] at E0 Y0 B0 ⊢;have HB:Hid (bx=w.heap.size):=hbx;clear hbx S S2;obtain⟨p0,p1,p2,p3,pf⟩:=ep E0;obtain⟨q0,q1,q2,q3,qf⟩:=ep Y0;obtain⟨hc1,hc2,h7⟩:=S0.last;have hc1I:(e.kids.len:Int)+1<=(cap:Int):=by omega
 have hcm:cap<=9223372036854775807:=hc2;have hw1:IntKind.i64.wrap ((e.kids.len:Int)+1)=(e.kids.len:Int)+1:=by rw[II];omega
 have hlt1:(e.kids.len:Int)<(e.kids.len:Int)+1:=by omega
 go_upto_region 3 with fail
 go_quiet (fail)
 have bq:Hf w0.heap.size w0 (w0.drewN nq):=bdr (Hi _ _) nq;have E0:=(bq.block _ (Ha E0)).trans E0;have Y0:=(bq.block _ (Ha Y0)).trans Y0;have S0:=S0.below bq;have T0:=SnA.below T0 bq;have B0:=B0.trans (bq.mono (by have:=HB.out;have:=B0.size;omega));generalize w0.drewN nq=w0 at *;clear hc1 hc2 h7 hc1I hcm hw1 hlt1 bq p0 p1 p2 p3 pf q0 q1 q2 q3 qf;go_wp2_with fail;go_loopw [5] (λv wr=>∃(done r:Fs),Hid (e.kids=done.app r)/\v=.int .i64 (done.len:Nat)/\wr.heap[bx]?=G1 (.cells #[.int .i64 e.k,.int .i64 e.n,stv e.nm,.slice (G1 ⟨b0,0,G0⟩) e.kids.len cap] 34)/\wr.heap[bx+1]?=G1 (.cells #[.int .i64 e.k,.int .i64 e.n,stv e.nm,.slice ao2 e.kids.len cap2] 34)/\lW wr e.kids b0 cap/\SnA wr e.kids ao2/\Hf bx w wr) (λv _=>e.kids.len-(Ih v).toNat)
 case atStart=>exact⟨.nil,e.kids,rfl,by show _=Hp .i64 ((0:Nat):Int);rfl,E0,Y0,S0,T0,B0⟩
 case round =>
  clear E0 Y0 S0 T0 B0;obtain⟨done,r,hk,rfl,E1,Y1,S1,T1,B1⟩:=hrel;have hlk:e.kids.len=done.len+r.len:=by rw[hk.out,Fs.len_app]
  obtain⟨p0,p1,p2,p3,pf⟩:=ep E1;obtain⟨q0,q1,q2,q3,qf⟩:=ep Y1;cases r using Fs.on with
  | nil =>
   have hl0:¬(done.len:Int)<(e.kids.len:Int):=by simp only[Fs.len] at hlk;omega
   clear hlk;go_wp2;go_ret;exact⟨rfl,by rw[<-HB.out];exact B1⟩
  | Js kk kn km ka kks kr =>
   have hl0:(done.len:Int)<(e.kids.len:Int):=by simp only[Fs.len] at hlk;omega
   have hl1:done.len<e.kids.len:=by omega
   have hsz:e.kids.size=done.size+(kks.size+kr.size+1):=by rw[hk.out,Fs.size_app];rfl
   have hsk:(Fs.cons kk kn km ka kks kr).short:=Fs.app_short (by rw[<-hk.out];exact hsh);obtain⟨bk,ck,x0,x1,x2,x3,SK⟩:=Spn.kid (x:=done) (by rw[<-hk.out];exact S1);obtain⟨b',off',ak',ck',hao',lb2,-,y0,y1,y2,y3,TK⟩:=SlN.kidQ (by rw[<-hk.out];exact T1);subst hao';have lb1:b0<wr.heap.size:=S1.lt;have hc:=IH ⟨kk,kn,km,ka,kks⟩ bk ck ak' ck' wr.drew (by show kks.size<N;omega) hsk.2.1 hsk.2.2.1 (lW.below SK (Hi _ wr).drew) (SnA.below TK (Hi _ wr).drew);rw[dR,dR] at hc;simp only at hc;clear hlk hsz hsk SK TK;go_wp2;have k0:wr.cell? ⟨bx,3,G0⟩=G1 (.slice (G1 ⟨b0,0,G0⟩) e.kids.len cap)/\wr.cell? ⟨bx+1,3,G0⟩=G1 (.slice (G1 ⟨b',off',G0⟩) e.kids.len cap2)/\wr.cell? ⟨b0,done.len*4,G0⟩=G1 (.int .i64 kk)/\wr.cell? ⟨b0,done.len*4+1,G0⟩=G1 (.int .i64 kn)/\wr.cell? ⟨b0,done.len*4+2,G0⟩=G1 (stv km)/\wr.cell? ⟨b0,done.len*4+3,G0⟩=G1 (.slice (G1 ⟨bk,0,G0⟩) kks.len ck)/\wr.cell? ⟨b',off'+done.len*4,G0⟩=G1 (.int .i64 kk)/\wr.cell? ⟨b',off'+done.len*4+1,G0⟩=G1 (.int .i64 kn)/\wr.cell? ⟨b',off'+done.len*4+2,G0⟩=G1 (stv km)/\wr.cell? ⟨b',off'+done.len*4+3,G0⟩=G1 (.slice ak' kks.len ck'):=⟨p3,q3,x0,x1,x2,x3,y0,y1,y2,y3⟩;have k1:wr.drew.cell? ⟨bx,3,G0⟩=G1 (.slice (G1 ⟨b0,0,G0⟩) e.kids.len cap)/\wr.drew.cell? ⟨bx+1,3,G0⟩=G1 (.slice (G1 ⟨b',off',G0⟩) e.kids.len cap2)/\wr.drew.cell? ⟨b0,done.len*4,G0⟩=G1 (.int .i64 kk)/\wr.drew.cell? ⟨b0,done.len*4+1,G0⟩=G1 (.int .i64 kn)/\wr.drew.cell? ⟨b0,done.len*4+2,G0⟩=G1 (stv km)/\wr.drew.cell? ⟨b0,done.len*4+3,G0⟩=G1 (.slice (G1 ⟨bk,0,G0⟩) kks.len ck)/\wr.drew.cell? ⟨b',off'+done.len*4,G0⟩=G1 (.int .i64 kk)/\wr.drew.cell? ⟨b',off'+done.len*4+1,G0⟩=G1 (.int .i64 kn)/\wr.drew.cell? ⟨b',off'+done.len*4+2,G0⟩=G1 (stv km)/\wr.drew.cell? ⟨b',off'+done.len*4+3,G0⟩=G1 (.slice ak' kks.len ck'):=k0;have lb:bx+1<wr.drew.heap.size:=Ha Y1;go_region_held (λwx=>wx.cell? ⟨bx,3,G0⟩=G1 (.slice (G1 ⟨b0,0,G0⟩) e.kids.len cap)/\wx.cell? ⟨bx+1,3,G0⟩=G1 (.slice (G1 ⟨b',off',G0⟩) e.kids.len cap2)/\wx.cell? ⟨b0,done.len*4,G0⟩=G1 (.int .i64 kk)/\wx.cell? ⟨b0,done.len*4+1,G0⟩=G1 (.int .i64 kn)/\wx.cell? ⟨b0,done.len*4+2,G0⟩=G1 (stv km)/\wx.cell? ⟨b0,done.len*4+3,G0⟩=G1 (.slice (G1 ⟨bk,0,G0⟩) kks.len ck)/\wx.cell? ⟨b',off'+done.len*4,G0⟩=G1 (.int .i64 kk)/\wx.cell? ⟨b',off'+done.len*4+1,G0⟩=G1 (.int .i64 kn)/\wx.cell? ⟨b',off'+done.len*4+2,G0⟩=G1 (stv km)/\wx.cell? ⟨b',off'+done.len*4+3,G0⟩=G1 (.slice ak' kks.len ck')) (first|(with_reducible exact k2)|(with_reducible exact k1)|(with_reducible exact k0)) ((go_at_call 43;refine hc.mono ?_;rintro x w2 ⟨rfl,b2⟩;have k2:w2.cell? ⟨bx,3,G0⟩=G1 (.slice (G1 ⟨b0,0,G0⟩) e.kids.len cap)/\w2.cell? ⟨bx+1,3,G0⟩=G1 (.slice (G1 ⟨b',off',G0⟩) e.kids.len cap2)/\w2.cell? ⟨b0,done.len*4,G0⟩=G1 (.int .i64 kk)/\w2.cell? ⟨b0,done.len*4+1,G0⟩=G1 (.int .i64 kn)/\w2.cell? ⟨b0,done.len*4+2,G0⟩=G1 (stv km)/\w2.cell? ⟨b0,done.len*4+3,G0⟩=G1 (.slice (G1 ⟨bk,0,G0⟩) kks.len ck)/\w2.cell? ⟨b',off'+done.len*4,G0⟩=G1 (.int .i64 kk)/\w2.cell? ⟨b',off'+done.len*4+1,G0⟩=G1 (.int .i64 kn)/\w2.cell? ⟨b',off'+done.len*4+2,G0⟩=G1 (stv km)/\w2.cell? ⟨b',off'+done.len*4+3,G0⟩=G1 (.slice ak' kks.len ck'):=⟨(b2.cell (p:=⟨bx,3,G0⟩) (Ky lb)).trans p3,(b2.cell (p:=⟨bx+1,3,G0⟩) lb).trans q3,(b2.cell (p:=⟨b0,done.len*4,G0⟩) lb1).trans x0,(b2.cell (p:=⟨b0,done.len*4+1,G0⟩) lb1).trans x1,(b2.cell (p:=⟨b0,done.len*4+2,G0⟩) lb1).trans x2,(b2.cell (p:=⟨b0,done.len*4+3,G0⟩) lb1).trans x3,(b2.cell (p:=⟨b',off'+done.len*4,G0⟩) lb2).trans y0,(b2.cell (p:=⟨b',off'+done.len*4+1,G0⟩) lb2).trans y1,(b2.cell (p:=⟨b',off'+done.len*4+2,G0⟩) lb2).trans y2,(b2.cell (p:=⟨b',off'+done.len*4+3,G0⟩) lb2).trans y3⟩));have B2:Hf bx w w2:=(B1.drew).trans (b2.mono (by have:=HB.out;have:=B1.size;show bx<=wr.heap.size;omega));have E2:=(b2.block bx (Ky lb)).trans E1;have Y2:=(b2.block (bx+1) lb).trans Y1;have S2:=lW.below (lW.below S1 (Hi _ wr).drew) b2;have T2:=SnA.below (SnA.below T1 (Hi _ wr).drew) b2;have hk2:Hid (e.kids=(done.snoc ⟨kk,kn,km,ka,kks⟩).app kr):=by show e.kids=_;rw[hk.out];unfold Fs.snoc;rw[Fs.app_assoc];rfl
   have hl2:(done.len:Int)+1=((done.snoc ⟨kk,kn,km,ka,kks⟩).len:Nat):=by rw[Fs.len_snoc];rfl
   have hl3:e.kids.len-(done.len+1)<e.kids.len-done.len:=by omega
   clear k0 k1 k2 p0 p1 p2 p3 pf q0 q1 q2 q3 qf x0 x1 x2 x3 y0 y1 y2 y3 hc b2 E1 Y1 S1 T1 B1 hk;go_wp2;go_roundw
   case rel=>exact⟨_,kr,hk2,by rw[<-hl2],E2,Y2,S2,T2,B2⟩
   case measure=>simp[Ih];omega
theorem sY:∀ N,qV N -- 43
 | 0=>λe b0 cap ao2 cap2 w h=>absurd h (Ir _)
 | N+1=>vl (sY N)
def LnI (w:G9)(P:Nat->Prop)(v:He)(cells:List Int):Prop :=
 ∃g c,v=.slice (G1 ⟨g,0,G0⟩) cells.length c/\P g/\g<w.heap.size/\cells.length+1<=c/\c<=Hu/\(∀ j x,cells[j]?=G1 x->w.cell? ⟨g,j,G0⟩=G1 (.int .i64 x))/\w.cell? ⟨g,cells.length,G0⟩=G1 (.int .i64 (-7))
theorem LnI.mono {w w':G9}{P Q:Nat->Prop}{v:He}{xs:List Int}(hb:∀ k,P k->k<w.heap.size->w'.heap[k]?=w.heap[k]?)(hs:w.heap.size<=w'.heap.size)(hq:∀ k,P k->k<w.heap.size->Q k)(h:LnI w P v xs):LnI w' Q v xs:=by
 obtain⟨g,c,rfl,hp,hlt,h1,h2,h3,h4⟩:=h;exact⟨g,c,rfl,hq g hp hlt,Hh hlt hs,h1,h2,λj u hu=>(Ho (a:=⟨g,j,G0⟩) (hb g hp hlt)).trans (h3 j u hu),(Ho (a:=⟨g,xs.length,G0⟩) (hb g hp hlt)).trans h4⟩
theorem LnI.below {P:Nat->Prop}{w w':G9}{v:He}{xs:List Int}(h:LnI w P v xs)(b:Hf w.heap.size w w'):LnI w' P v xs:=h.mono (λi _ hl=>b.block i hl) b.size (λ_ h _=>h)
theorem LnI.inA {w:G9}{P:Nat->Prop}{v:He}{xs:List Int}(h:LnI w P v xs):InA w v xs:=by
 obtain⟨g,c,rfl,hp,hlt,h1,h2,h3,h4⟩:=h;exact⟨_,c,rfl,.inr ⟨g,0,rfl,trivial,hlt,λj x hj=>by rw[Ix];exact h3 j x hj⟩⟩
theorem InA.news {w:G9}{ao:Option Hw}{cap:Nat}{xs:List Int}(h:xs=[]\/∃b off,ao=G1 ⟨b,off,G0⟩/\True/\b<w.heap.size/\∀ j x,xs[j]?=G1 x->w.cell? ⟨b,off+j,G0⟩=G1 (.int .i64 x)):0<xs.length->∃ad,ao=G1 ad/\∀ j u,(xs.map (Hp .i64))[j]?=G1 u->w.cell? (ad.add j)=G1 u:=by
 intro h0;rcases h with h|⟨b,off,rfl,-,hlt,hcell⟩
 ·rw[h] at h0;simp at h0
 ·refine⟨_,rfl,λj u hj=>?_⟩;rw[ID] at hj;cases hb:xs[j]? with
  | none=>rw[hb] at hj;cases hj
  | some t =>
   rw[hb] at hj;injection hj with hj
   subst hj;have h3:((⟨b,off,G0⟩:Hw).add j)=⟨b,off+j,G0⟩:=by simp only[JA];split<;>simp_all
   rw[h3];exact hcell j t hb
theorem As (xs:List Int):∀ u ∈ xs.map (Hp .i64),u.oneCell'=true:=λu hu=>by
 obtain⟨x,_,rfl⟩:=List.mem_map.1 hu;rfl
theorem ue {w w':G9}{x:He}{t:Il}(b:Hf (w.alloc (.cells #[x] t)).drew.heap.size (w.alloc (.cells #[x] t)).drew w'):∀ j u,[x][j]?=G1 u->w'.cell? ((⟨w.heap.size,0,G0⟩:Hw).add j)=G1 u:=λj u hu=>by
 have h1:=gj w [x] t j u hu;have h3:((⟨w.heap.size,0,G0⟩:Hw).add j)=⟨w.heap.size,j,G0⟩:=by simp only[JA];split<;>simp_all
 rw[h3] at h1 ⊢;exact(b.cell (p:=⟨w.heap.size,j,G0⟩) (by show w.heap.size<(w.alloc _).heap.size;simp)).trans h1
theorem zH {n b5 c5:Nat}{w w1 W w9:G9}{o1 o9:Nat->Nat}{f:Fs}(B1:Hf n w w1)(hn:n<=w.heap.size)(L1:∀ k,k<n->o1 k=0)(BW:Hf w1.heap.size w1 W)(S5:Spn W (Nw w1.heap.size) f b5 c5)(s9:as (λk=>k=5) W (dQ w1 o1 0) w9 o9) :
  Hf n w w9/\Spn w9 (Nw w1.heap.size) f b5 c5/\∀ k,k<w1.heap.size->o1 k≠5->w9.heap[k]?=w1.heap[k]?:=by
 have h1:=B1.size;refine⟨eq (B1.trans (BW.mono (by omega))) s9 (λk hk=>by rw[ed (by omega),L1 k hk];decide) hn,S5.mono (λk hp hl=>s9.block k hl (by rw[dY hp];decide)) s9.size (λk hp _=>hp),λk hk ho=>(s9.block k (Hh hk BW.size) (by rw[ed hk];exact ho)).trans (BW.block k hk)⟩
theorem AU {P:Nat->Prop}{w:G9}{o:Nat->Nat}{g c:Nat}{cells:List Int}(r:Row w o 5 3 1 (.slice (G1 ⟨g,0,G0⟩) (cells.length+1) c) (cells.length+1) (cells.map (Hp .i64)++[.int .i64 (-7)]))(hg:P g):LnI w P (.slice (G1 ⟨g,0,G0⟩) cells.length c) cells/\cells.length<=c:=by
 obtain⟨g',cap',hv,hl,hc1,hc2,hlt,hc,_⟩:=r.pos (by omega);simp only[IS,Ji,Addr.mk.injEq,JM,and_true] at hv;obtain⟨rfl,rfl⟩:=hv;refine⟨⟨g,c,rfl,hg,hlt,hc1,hc2,λj x hj=>?_,?_⟩,by omega⟩
 ·have hjl:j<cells.length:=(List.getElem?_eq_some_iff.1 hj).1;rw[hc j (by omega),IV (by simpa using hjl),ID,hj];rfl
 ·rw[hc cells.length (by omega),IF (by simp)];simp
theorem Eg {z g c m:Nat}{w1 W w9:G9}{o1 o9:Nat->Nat}{xs:List He}(hz:o1 z=0)(hzl:z<w1.heap.size)(r:Row w9 o9 5 3 1 (.slice (G1 ⟨g,0,G0⟩) m c) m xs)(s:as (λk=>k=5) W (dQ w1 o1 0) w9 o9)(hW:w1.heap.size<=W.heap.size):g≠z:=by
 intro h;have h1:o9 g=5:=r.2 g rfl;rw[h,s.lab z (by omega),ed hzl,hz] at h1;cases h1
theorem BP {n g c m:Nat}{w1 W w9:G9}{o1 o9:Nat->Nat}{xs:List He}(L:∀ k,k<n->o1 k=0)(r:Row w9 o9 5 3 1 (.slice (G1 ⟨g,0,G0⟩) m c) m xs)(s:as (λk=>k=5) W (dQ w1 o1 0) w9 o9)(hW:n<=W.heap.size)(hn:n<=w1.heap.size):n<=g:=by
 rcases Kc g n with h|h
 ·have h1:o9 g=5:=r.2 g rfl;rw[s.lab g (by omega),ed (by omega),L g h] at h1;cases h1
 ·exact h
theorem xQ {w:G9}{n0:Nat}{a0 a1 a2 a3 a4 c0 c1 c2 c3 c4:He}(h:w.cell? ⟨n0,0,G0⟩=G1 c0/\w.cell? ⟨n0,1,G0⟩=G1 c1/\w.cell? ⟨n0,2,G0⟩=G1 c2/\w.cell? ⟨n0,3,G0⟩=G1 c3/\w.cell? ⟨n0,4,G0⟩=G1 c4):(((((w.setCell ⟨n0+1,0,G0⟩ a0).setCell ⟨n0+1,1,G0⟩ a1).setCell ⟨n0+1,2,G0⟩ a2).setCell ⟨n0+1,3,G0⟩ a3).setCell ⟨n0+1,4,G0⟩ a4).cell? ⟨n0,0,G0⟩=G1 c0/\(((((w.setCell ⟨n0+1,0,G0⟩ a0).setCell ⟨n0+1,1,G0⟩ a1).setCell ⟨n0+1,2,G0⟩ a2).setCell ⟨n0+1,3,G0⟩ a3).setCell ⟨n0+1,4,G0⟩ a4).cell? ⟨n0,1,G0⟩=G1 c1/\(((((w.setCell ⟨n0+1,0,G0⟩ a0).setCell ⟨n0+1,1,G0⟩ a1).setCell ⟨n0+1,2,G0⟩ a2).setCell ⟨n0+1,3,G0⟩ a3).setCell ⟨n0+1,4,G0⟩ a4).cell? ⟨n0,2,G0⟩=G1 c2/\(((((w.setCell ⟨n0+1,0,G0⟩ a0).setCell ⟨n0+1,1,G0⟩ a1).setCell ⟨n0+1,2,G0⟩ a2).setCell ⟨n0+1,3,G0⟩ a3).setCell ⟨n0+1,4,G0⟩ a4).cell? ⟨n0,3,G0⟩=G1 c3/\(((((w.setCell ⟨n0+1,0,G0⟩ a0).setCell ⟨n0+1,1,G0⟩ a1).setCell ⟨n0+1,2,G0⟩ a2).setCell ⟨n0+1,3,G0⟩ a3).setCell ⟨n0+1,4,G0⟩ a4).cell? ⟨n0,4,G0⟩=G1 c4:=by
 have hb:=ir w (n0+1) n0 a0 a1 a2 a3 a4 (by omega);obtain⟨h0,h1,h2,h3,h4⟩:=h;exact⟨(Ho (a:=⟨n0,0,G0⟩) hb).trans h0,(Ho (a:=⟨n0,1,G0⟩) hb).trans h1,(Ho (a:=⟨n0,2,G0⟩) hb).trans h2,(Ho (a:=⟨n0,3,G0⟩) hb).trans h3,(Ho (a:=⟨n0,4,G0⟩) hb).trans h4⟩
def BT (w:G9)(e:Ex)(cells:List Int)(x:Ja)(w':G9):Prop:=∃b cp v,x=.returned (plV e (G1 ⟨b,0,G0⟩) cp v)/\Spn w' (Nw w.heap.size) e.kids b cp/\LnI w' (Nw w.heap.size) v cells/\Hf w.heap.size w w'
theorem ub (e:Ex)(ao:Option Hw)(cap:Nat)(cv:He)(cells:List Int)(w:G9)(hlen:e.kids.len<=1000000000)(hsh:e.kids.short)(hc:InA w cv cells)(hcl:cells.length<=100000)(S:SnA w e.kids ao) :
  Hn G5 15 #[plV e ao cap cv] w (BT w e cells):=by
 obtain⟨ii,hii,hzi0,hzi1,hzi2⟩:=eo vH;obtain⟨ac,cc,rfl,hx⟩:=hc;obtain⟨w0,hw0⟩:∃w0,w0=(w.alloc (.cells #[.int .i64 e.k,.int .i64 e.n,stv e.nm,.slice ao e.kids.len cap,.slice ac cells.length cc] 37)).alloc (.cells #[.int .i64 0,.int .i64 0,.string ⟨#[]⟩,.slice G0 0 0,.slice G0 0 0] 37):=⟨_,rfl⟩;have B0:Hf w.heap.size w w0:=by rw[hw0];exact((Hi _ w).alloc (G4 _) _).alloc (by simp) _
 have P0:w0.heap[w.heap.size]?=G1 (.cells #[.int .i64 e.k,.int .i64 e.n,stv e.nm,.slice ao e.kids.len cap,.slice ac cells.length cc] 37 (0,0)):=by
  rw[hw0];exact(Hj _ _ _ (by simp)).trans (Hc w _)
 have Z0:w0.heap[w.heap.size+1]?=G1 (.cells #[.int .i64 0,.int .i64 0,.string ⟨#[]⟩,.slice G0 0 0,.slice G0 0 0] 37 (0,0)):=by
  rw[hw0]
  have:=Hc (w.alloc (.cells #[.int .i64 e.k,.int .i64 e.n,stv e.nm,.slice ao e.kids.len cap,.slice ac cells.length cc] 37)) (.cells #[.int .i64 0,.int .i64 0,.string ⟨#[]⟩,.slice G0 0 0,.slice G0 0 0] 37)
  simpa using this
 have S0:=SnA.below S B0;obtain⟨_,_,hx1,hx0⟩:=Inw.below (P:=λ_=>True) ⟨ac,cc,rfl,hx⟩ B0;injection hx1 with hx1 hx2 hx3
 subst hx1;subst hx3;have hnews:=InA.news (cap:=cc) hx0;have hone:=As cells;clear hx hx0 hx2;rw[fu];go_enter Tryz.func15,Tryz.ntmps15;go_upto_region 1 with fail;rw[<-hw0];clear hw0;obtain⟨n0,hn0⟩:∃n0,n0=w.heap.size:=⟨_,rfl⟩;unfold BT;rw[<-hn0] at P0 Z0 B0 ⊢;have HB:Hid (n0=w.heap.size):=hn0;clear hn0;obtain⟨p0,p1,p2,p3,p4,pf⟩:=dS P0;go_wp2_with (first|(at_builtin;refine jg rfl (.tmp 4) (.tmp 6) 35 rfl 3 ii (.int .i64 0) 1 8 Iu hii hzi0 hzi1 hzi2 rfl (by decide) (λ_=>0) 5 _ 0 [] rfl (Row.nil _ _ _ _ _) ac cells.length cc (cells.map (Hp .i64)) rfl ?c1 hnews hone ?c3 ?c4 ?_)|go_in)
 case c1=>simp
 case c3=>unfold Hu;omega
 case c4=>omega
 intro a1 c1 w1 o1 R1 s1;try simp only[Ix,I1] at R1
 try simp only[Ix,I1]
 have b1:Hf w0.heap.size w0 w1:=s1.below (λk hk=>by decide);have hs1:=b1.size;have P1:=(b1.block _ (Ha P0)).trans P0;have Z1:=(b1.block _ (Ha Z0)).trans Z0;have hzl:=Ha Z1;have oP:o1 n0=0:=s1.lab n0 (Ha P0);have oZ:o1 (n0+1)=0:=s1.lab (n0+1) (Ha Z0);have B1:Hf n0 w w1:=B0.trans (b1.mono (by have:=Ha P0;omega));have L1:Hid (∀ k,k<n0->o1 k=0):=λk hk=>s1.lab k (by have:=Ha P0;omega);have S1:=SnA.below S0 b1;clear p0 p1 p2 p3 p4 pf P0 Z0 B0 S0 s1 b1 hnews hone S hs1;go_upto_region 3 with fail;obtain⟨p0,p1,p2,p3,p4,pf⟩:=dS P1;have Bd:Hf w1.heap.size w1 w1.drew:=⟨rfl,rfl,rfl,G4 _,λ_ _=>rfl⟩;have Bda:=Bd.alloc (G4 _) (.cells #[.int .i64 (-7)] 3);have hcL:=λ(wx:G9) (hx:SnA wx e.kids ao)=>tI (e.kids.size+1) e ao cap wx (by omega) hlen hsh hx;simp only[dR] at hcL;have hone:∀ u ∈ [Hp .i64 (-7)],u.oneCell'=true:=by intro u hu;simp at hu;subst hu;rfl
 have q1:cells.length+1<=Hu:=by unfold Hu;omega
 have q2:(cells.length+1)*8<=140737488355328:=by omega
 have hgo:Hid (∀ k,k<n0->o1 k≠5):=λk hk=>by rw[L1.out k hk];decide
 have hpl:n0<w1.heap.size:=Ha P1;have k0:w1.cell? ⟨n0,0,G0⟩=G1 (.int .i64 e.k)/\w1.cell? ⟨n0,1,G0⟩=G1 (.int .i64 e.n)/\w1.cell? ⟨n0,2,G0⟩=G1 (stv e.nm)/\w1.cell? ⟨n0,3,G0⟩=G1 (.slice ao e.kids.len cap)/\w1.cell? ⟨n0,4,G0⟩=G1 (.slice ac cells.length cc):=⟨p0,p1,p2,p3,p4⟩;have k1:w1.drew.cell? ⟨n0,0,G0⟩=G1 (.int .i64 e.k)/\w1.drew.cell? ⟨n0,1,G0⟩=G1 (.int .i64 e.n)/\w1.drew.cell? ⟨n0,2,G0⟩=G1 (stv e.nm)/\w1.drew.cell? ⟨n0,3,G0⟩=G1 (.slice ao e.kids.len cap)/\w1.drew.cell? ⟨n0,4,G0⟩=G1 (.slice ac cells.length cc):=k0;have kA:(w1.alloc (.cells #[.int .i64 (-7)] 3)).drew.cell? ⟨n0,0,G0⟩=G1 (.int .i64 e.k)/\(w1.alloc (.cells #[.int .i64 (-7)] 3)).drew.cell? ⟨n0,1,G0⟩=G1 (.int .i64 e.n)/\(w1.alloc (.cells #[.int .i64 (-7)] 3)).drew.cell? ⟨n0,2,G0⟩=G1 (stv e.nm)/\(w1.alloc (.cells #[.int .i64 (-7)] 3)).drew.cell? ⟨n0,3,G0⟩=G1 (.slice ao e.kids.len cap)/\(w1.alloc (.cells #[.int .i64 (-7)] 3)).drew.cell? ⟨n0,4,G0⟩=G1 (.slice ac cells.length cc):=⟨(Bda.cell (p:=⟨n0,0,G0⟩) hpl).trans p0,(Bda.cell (p:=⟨n0,1,G0⟩) hpl).trans p1,(Bda.cell (p:=⟨n0,2,G0⟩) hpl).trans p2,(Bda.cell (p:=⟨n0,3,G0⟩) hpl).trans p3,(Bda.cell (p:=⟨n0,4,G0⟩) hpl).trans p4⟩;go_region_held3 (λwx=>wx.cell? ⟨n0,0,G0⟩=G1 (.int .i64 e.k)/\wx.cell? ⟨n0,1,G0⟩=G1 (.int .i64 e.n)/\wx.cell? ⟨n0,2,G0⟩=G1 (stv e.nm)/\wx.cell? ⟨n0,3,G0⟩=G1 (.slice ao e.kids.len cap)/\wx.cell? ⟨n0,4,G0⟩=G1 (.slice ac cells.length cc)) (first|(with_reducible exact k9)|(with_reducible exact xQ k9)|(with_reducible exact k3)|(with_reducible exact k2)|(with_reducible exact kA)|(with_reducible exact k1)|(with_reducible exact k0)) ((first|(go_at_call 37;refine(hcL _ (S1.belowP (by first|exact Bd|exact Bda))).mono ?_;rintro x w5 ⟨b5,c5,rfl,S5',B5⟩;have Bw:Hf w1.heap.size w1 w5:=(by first|exact Bd.trans (B5.mono (by simp))|exact Bda.trans (B5.mono (by simp)));have S5:Spn w5 (Nw w1.heap.size) e.kids b5 c5:=S5'.mono (λ_ _ _=>rfl) (G4 _) (λk hp _=>In (by simp) hp);have k2:w5.cell? ⟨n0,0,G0⟩=G1 (.int .i64 e.k)/\w5.cell? ⟨n0,1,G0⟩=G1 (.int .i64 e.n)/\w5.cell? ⟨n0,2,G0⟩=G1 (stv e.nm)/\w5.cell? ⟨n0,3,G0⟩=G1 (.slice ao e.kids.len cap)/\w5.cell? ⟨n0,4,G0⟩=G1 (.slice ac cells.length cc):=⟨(Bw.cell (p:=⟨n0,0,G0⟩) hpl).trans p0,(Bw.cell (p:=⟨n0,1,G0⟩) hpl).trans p1,(Bw.cell (p:=⟨n0,2,G0⟩) hpl).trans p2,(Bw.cell (p:=⟨n0,3,G0⟩) hpl).trans p3,(Bw.cell (p:=⟨n0,4,G0⟩) hpl).trans p4⟩;have Bw5:=Bw.alloc Bw.size (.cells #[.int .i64 (-7)] 3);have k3:(w5.alloc (.cells #[.int .i64 (-7)] 3)).cell? ⟨n0,0,G0⟩=G1 (.int .i64 e.k)/\(w5.alloc (.cells #[.int .i64 (-7)] 3)).cell? ⟨n0,1,G0⟩=G1 (.int .i64 e.n)/\(w5.alloc (.cells #[.int .i64 (-7)] 3)).cell? ⟨n0,2,G0⟩=G1 (stv e.nm)/\(w5.alloc (.cells #[.int .i64 (-7)] 3)).cell? ⟨n0,3,G0⟩=G1 (.slice ao e.kids.len cap)/\(w5.alloc (.cells #[.int .i64 (-7)] 3)).cell? ⟨n0,4,G0⟩=G1 (.slice ac cells.length cc):=⟨(Bw5.cell (p:=⟨n0,0,G0⟩) hpl).trans p0,(Bw5.cell (p:=⟨n0,1,G0⟩) hpl).trans p1,(Bw5.cell (p:=⟨n0,2,G0⟩) hpl).trans p2,(Bw5.cell (p:=⟨n0,3,G0⟩) hpl).trans p3,(Bw5.cell (p:=⟨n0,4,G0⟩) hpl).trans p4⟩;rw[dR])|(refine fZ rfl (.tmp 11) (.tmp 12) 35 rfl 3 ii (.int .i64 0) 1 8 Iu hii hzi0 hzi1 hzi2 rfl (by decide) (dQ w1 o1 0) 5 _ cells.length (cells.map (Hp .i64)) (by simp[Ks,IQ]) ((R1.step (Below.toStepC (I:=λ_=>False) Bw) id).step (((as.refl (λ_=>False) w5 (dQ w1 o1 0))).alloc _) id) ⟨w5.heap.size,0,G0⟩ 1 1 [.int .i64 (-7)] (by simp[Ks,IQ]) rfl (uP (by simp) _ _) hone (by decide) q1 q2 ?_;intro g9 c9 w9 o9 r9 s9;have FZ:=zH B1 (by rw[HB.out];exact G4 _) L1.out (Bw.alloc Bw.size (.cells #[.int .i64 (-7)] 3)) (S5.mono (λi _ hl=>Hj w5 _ i hl) (by simp) (λ_ h _=>h)) s9;have P9:=(FZ.2.2 n0 hpl (by rw[oP];decide)).trans P1;have k9:w9.cell? ⟨n0,0,G0⟩=G1 (.int .i64 e.k)/\w9.cell? ⟨n0,1,G0⟩=G1 (.int .i64 e.n)/\w9.cell? ⟨n0,2,G0⟩=G1 (stv e.nm)/\w9.cell? ⟨n0,3,G0⟩=G1 (.slice ao e.kids.len cap)/\w9.cell? ⟨n0,4,G0⟩=G1 (.slice ac cells.length cc):=⟨(dS P9).1,(dS P9).2.1,(dS P9).2.2.1,(dS P9).2.2.2.1,(dS P9).2.2.2.2.1⟩;have hg9:n0<=g9:=BP L1.out r9 s9 (by have:=Bw.size;simp;omega) (by have:=hpl;omega);have hgz:g9≠n0+1:=Eg oZ hzl r9 s9 (by have:=Bw.size;simp;omega);have RZ:=AU (P:=λk=>n0<=k/\k≠n0+1) r9 ⟨hg9,hgz⟩;have hc9:=RZ.2;have Z9:=(FZ.2.2 (n0+1) hzl (by rw[oZ];decide)).trans Z1;obtain⟨z0,z1,z2,z3,z4,zf⟩:=dS Z9)|(refine fZ rfl (.tmp 11) (.tmp 12) 35 rfl 3 ii (.int .i64 0) 1 8 Iu hii hzi0 hzi1 hzi2 rfl (by decide) (dQ w1 o1 0) 5 _ cells.length (cells.map (Hp .i64)) (by simp[Ks,IQ]) (R1.step (Below.toStepC (I:=λ_=>False) Bw) id) ⟨w1.heap.size,0,G0⟩ 1 1 [.int .i64 (-7)] (by simp[Ks,IQ]) rfl (ue B5) hone (by decide) q1 q2 ?_;intro g9 c9 w9 o9 r9 s9;have FZ:=zH B1 (by rw[HB.out];exact G4 _) L1.out Bw S5 s9;have P9:=(FZ.2.2 n0 hpl (by rw[oP];decide)).trans P1;have k9:w9.cell? ⟨n0,0,G0⟩=G1 (.int .i64 e.k)/\w9.cell? ⟨n0,1,G0⟩=G1 (.int .i64 e.n)/\w9.cell? ⟨n0,2,G0⟩=G1 (stv e.nm)/\w9.cell? ⟨n0,3,G0⟩=G1 (.slice ao e.kids.len cap)/\w9.cell? ⟨n0,4,G0⟩=G1 (.slice ac cells.length cc):=⟨(dS P9).1,(dS P9).2.1,(dS P9).2.2.1,(dS P9).2.2.2.1,(dS P9).2.2.2.2.1⟩;have hg9:n0<=g9:=BP L1.out r9 s9 (by have:=Bw.size;omega) (by have:=hpl;omega);have hgz:g9≠n0+1:=Eg oZ hzl r9 s9 (by have:=Bw.size;omega);have RZ:=AU (P:=λk=>n0<=k/\k≠n0+1) r9 ⟨hg9,hgz⟩;have hc9:=RZ.2;have Z9:=(FZ.2.2 (n0+1) hzl (by rw[oZ];decide)).trans Z1;obtain⟨z0,z1,z2,z3,z4,zf⟩:=dS Z9)))
 all_goals (
  have HU:Hid (∃wz,wz=(((((w9.setCell ⟨n0+1,0,G0⟩ (.int .i64 e.k)).setCell ⟨n0+1,1,G0⟩ (.int .i64 e.n)).setCell ⟨n0+1,2,G0⟩ (stv e.nm)).setCell ⟨n0+1,3,G0⟩ (.slice (G1 ⟨b5,0,G0⟩) e.kids.len c5)).setCell ⟨n0+1,4,G0⟩ (.slice (G1 ⟨g9,0,G0⟩) cells.length c9))/\wz.cell? ⟨n0+1,0,G0⟩=G1 (.int .i64 e.k)/\wz.cell? ⟨n0+1,1,G0⟩=G1 (.int .i64 e.n)/\wz.cell? ⟨n0+1,2,G0⟩=G1 (stv e.nm)/\wz.cell? ⟨n0+1,3,G0⟩=G1 (.slice (G1 ⟨b5,0,G0⟩) e.kids.len c5)/\wz.cell? ⟨n0+1,4,G0⟩=G1 (.slice (G1 ⟨g9,0,G0⟩) cells.length c9)/\Spn wz (Nw n0) e.kids b5 c5/\LnI wz (Nw n0) (.slice (G1 ⟨g9,0,G0⟩) cells.length c9) cells/\Hf n0 w wz):=by
   obtain⟨u0,u1,u2,u3,u4,-⟩:=dS (eX (.int .i64 e.k) (.int .i64 e.n) (stv e.nm) (.slice (G1 ⟨b5,0,G0⟩) e.kids.len c5) (.slice (G1 ⟨g9,0,G0⟩) cells.length c9) Z9);refine⟨_,rfl,u0,u1,u2,u3,u4,FZ.2.1.mono (λk hp _=>ir w9 (n0+1) k _ _ _ _ _ (by have hp:w1.heap.size<=k:=hp;omega)) (by simp) (λk hp _=>by have hp:w1.heap.size<=k:=hp;show n0<=k;omega),RZ.1.mono (λk hp _=>ir w9 (n0+1) k _ _ _ _ _ hp.2) (by simp) (λk hp _=>hp.1),?_⟩;exact((((FZ.1.setCell (p:=⟨n0+1,0,G0⟩) (Iv _) _).setCell (p:=⟨n0+1,1,G0⟩) (Iv _) _).setCell (p:=⟨n0+1,2,G0⟩) (Iv _) _).setCell (p:=⟨n0+1,3,G0⟩) (Iv _) _).setCell (p:=⟨n0+1,4,G0⟩) (Iv _) _
  clear FZ RZ;go_wp2;obtain⟨wz,hwz,v0,v1,v2,v3,v4,SZ,LZ,BZ⟩:=HU.out;rw[<-hwz];exact Hb (v:=plV e (G1 ⟨b5,0,G0⟩) c5 (.slice (G1 ⟨g9,0,G0⟩) cells.length c9)) (by simp[Hk,Tryz.results15,go_sem,v0,v1,v2,v3,v4,plV]) rfl ⟨b5,c5,_,rfl,by rw[<-HB.out];exact SZ,by rw[<-HB.out];exact LZ,by rw[<-HB.out];exact BZ⟩)
theorem uZ (e:Ex)(b0 cap:Nat)(cv:He)(ao2:Option Hw)(cap2:Nat)(cv2:He)(cells:List Int)(w:G9)(hlen:e.kids.len<=1000000000)(hsh:e.kids.short)(hcl:cells.length<=1000000000)(S:lW w e.kids b0 cap)(S2:SnA w e.kids ao2)(hL:LnI w (λ_=>True) cv cells)(hc2:InA w cv2 cells) :
  Hn G5 18 #[plV e (G1 ⟨b0,0,G0⟩) cap cv,plV e ao2 cap2 cv2] w λx w'=>x=.returned (.bool true)/\Hf w.heap.size w w':=by
 obtain⟨g,c,hcv,hL2⟩:=hL;have hL:LnI w (λ_=>True) cv cells:=⟨g,c,hcv,hL2⟩;subst hcv;obtain⟨ac2,cc2,hcv2,hx2⟩:=hc2;have hc2:InA w cv2 cells:=⟨ac2,cc2,hcv2,hx2⟩;subst hcv2;clear hL2 hx2;obtain⟨w0,hw0⟩:∃w0,w0=(w.alloc (.cells #[.int .i64 e.k,.int .i64 e.n,stv e.nm,.slice (G1 ⟨b0,0,G0⟩) e.kids.len cap,.slice (G1 ⟨g,0,G0⟩) cells.length c] 37)).alloc (.cells #[.int .i64 e.k,.int .i64 e.n,stv e.nm,.slice ao2 e.kids.len cap2,.slice ac2 cells.length cc2] 37):=⟨_,rfl⟩;have B0:Hf w.heap.size w w0:=by rw[hw0];exact((Hi _ w).alloc (G4 _) _).alloc (by simp) _
 have E0:w0.heap[w.heap.size]?=G1 (.cells #[.int .i64 e.k,.int .i64 e.n,stv e.nm,.slice (G1 ⟨b0,0,G0⟩) e.kids.len cap,.slice (G1 ⟨g,0,G0⟩) cells.length c] 37 (0,0)):=by
  rw[hw0];exact(Hj _ _ _ (by simp)).trans (Hc w _)
 have Y0:w0.heap[w.heap.size+1]?=G1 (.cells #[.int .i64 e.k,.int .i64 e.n,stv e.nm,.slice ao2 e.kids.len cap2,.slice ac2 cells.length cc2] 37 (0,0)):=by
  rw[hw0]
  have:=Hc (w.alloc (.cells #[.int .i64 e.k,.int .i64 e.n,stv e.nm,.slice (G1 ⟨b0,0,G0⟩) e.kids.len cap,.slice (G1 ⟨g,0,G0⟩) cells.length c] 37)) (.cells #[.int .i64 e.k,.int .i64 e.n,stv e.nm,.slice ao2 e.kids.len cap2,.slice ac2 cells.length cc2] 37)
  simpa using this
 have S0:=lW.below S B0;have T0:=SnA.below S2 B0;have L0:=hL.below B0;have I0:=hc2.below B0;have c1:=yS w0 _ _ cells cells L0.inA I0 hcl;rw[decide_eq_true rfl] at c1;rw[fu,fu];go_enter Tryz.func18,Tryz.ntmps18;go_upto_region 1 with fail;rw[<-hw0];clear hw0;obtain⟨bx,hbx⟩:∃bx,bx=w.heap.size:=⟨_,rfl⟩;rw[<-hbx] at E0 Y0 B0 ⊢;have HB:Hid (bx=w.heap.size):=hbx;clear hbx S S2 hL hc2 I0;obtain⟨p0,p1,p2,p3,p4,pf⟩:=dS E0;obtain⟨q0,q1,q2,q3,q4,qf⟩:=dS Y0;go_wp2_with fail;refine c1.mono ?_;rintro x w1 ⟨rfl,b1⟩;have E1:=(b1.block _ (Ha E0)).trans E0;have Y1:=(b1.block _ (Ha Y0)).trans Y0;have S1:=lW.below S0 b1;have T1:=SnA.below T0 b1;have L1:=L0.below b1;have B1:Hf bx w w1:=B0.trans (b1.mono (by have:=Ha E0;omega));clear c1 b1 E0 Y0 S0 T0 L0 B0 p0 p1 p2 p3 p4 pf q0 q1 q2 q3 q4 qf;obtain⟨p0,p1,p2,p3,p4,pf⟩:=dS E1;obtain⟨q0,q1,q2,q3,q4,qf⟩:=dS Y1;have c2:=sY (e.kids.size+1) e b0 cap ao2 cap2 w1 (by omega) hlen hsh S1 T1;rw[dR,dR] at c2;go_wp2_with fail;refine c2.mono ?_;rintro x w2 ⟨rfl,b2⟩;have E2:=(b2.block _ (Ha E1)).trans E1;have L2:=L1.below b2;have B2:Hf bx w w2:=B1.trans (b2.mono (by have:=Ha E1;omega));clear c2 b2 E1 Y1 S1 T1 L1 B1 p0 p1 p2 p3 p4 pf q0 q1 q2 q3 q4 qf;obtain⟨p0,p1,p2,p3,p4,pf⟩:=dS E2;obtain⟨g',c',hv,-,hlt,h1,h2,-,h7⟩:=L2;injection hv with hv1 hv2 hv3
 injection hv1 with hv1
 injection hv1 with hv1
 subst hv1;subst hv3;have h1I:(cells.length:Int)+1<=(c:Int):=by omega
 have hcm:c<=9223372036854775807:=h2;have hw1:IntKind.i64.wrap ((cells.length:Int)+1)=(cells.length:Int)+1:=by rw[II];omega
 have hlt1:(cells.length:Int)<(cells.length:Int)+1:=by omega
 clear hv2;go_upto_region 3 with fail
 go_quiet (fail)
 go_wp2;go_ret;exact⟨rfl,by rw[<-HB.out];exact bdr B2 nq⟩
structure CdQ where
 ws:List Int
 cs:List Int
 ns:List ByteArray
 ks:List Int
def pQ (w:G9)(ao:Option Hw)(xs:List He):Prop :=
 xs=[]\/∃b off,ao=G1 ⟨b,off,G0⟩/\b<w.heap.size/\∀ j x,xs[j]?=G1 x->w.cell? ⟨b,off+j,G0⟩=G1 x
theorem pQ.below {w w':G9}{ao:Option Hw}{xs:List He}(h:pQ w ao xs)(B:Hf w.heap.size w w'):pQ w' ao xs:=by
 rcases h with h|⟨b,off,rfl,hlt,hc⟩
 ·exact .inl h
 ·exact .inr ⟨b,off,rfl,Hh hlt B.size,λj x hx=>(B.cell (p:=⟨b,off+j,G0⟩) hlt).trans (hc j x hx)⟩
theorem pQ.at {w:G9}{ao:Option Hw}{xs:List He}(h:pQ w ao xs){j:Nat}{x:He}(hx:xs[j]?=G1 x):∃b off,ao=G1 ⟨b,off,G0⟩/\b<w.heap.size/\w.cell? ⟨b,off+j,G0⟩=G1 x:=by
 rcases h with rfl|⟨b,off,rfl,hlt,hc⟩
 ·simp at hx
 ·exact⟨b,off,rfl,hlt,hc j x hx⟩
def sC (l:List Int):List He:=l.map (.int .u64 ·)
def xp (l:List Int):List He:=l.map (.int .i64 ·)
def tO (l:List ByteArray):List He:=l.map (.string ·)
theorem wH {l:List Int}{k:Nat}(h:k<l.length):(sC l)[k]?=G1 (.int .u64 l[k]):=by
 simp[sC,Hd h]
theorem mM {l:List Int}{k:Nat}(h:k<l.length):(xp l)[k]?=G1 (.int .i64 l[k]):=by
 simp[xp,Hd h]
theorem vK {l:List ByteArray}{k:Nat}(h:k<l.length):(tO l)[k]?=G1 (.string l[k]):=by
 simp[tO,Hd h]
structure PlQ where
 aw:Option Hw
 cw:Nat
 ac:Option Hw
 cc:Nat
 an:Option Hw
 cn:Nat
 ak:Option Hw
 ck:Nat
abbrev ki (p:PlQ)(c:CdQ):Array He:=#[.slice p.aw c.ws.length p.cw,.slice p.ac c.cs.length p.cc,.slice p.an c.ns.length p.cn,.slice p.ak c.ks.length p.ck]
abbrev yd (p:PlQ)(c:CdQ):He:=.agg (ki p c)
structure mN (w:G9)(p:PlQ)(c:CdQ):Prop where
 ws:pQ w p.aw (sC c.ws)
 cs:pQ w p.ac (xp c.cs)
 ns:pQ w p.an (tO c.ns)
 ks:pQ w p.ak (xp c.ks)
 lw:c.ws.length<=9223372036854775807
 lc:c.cs.length<=9223372036854775807
 ln:c.ns.length<=9223372036854775807
 lk:c.ks.length<=9223372036854775807
theorem mN.below {w w':G9}{p:PlQ}{c:CdQ}(h:mN w p c)(B:Hf w.heap.size w w'):mN w' p c :=
 ⟨h.ws.below B,h.cs.below B,h.ns.below B,h.ks.below B,h.lw,h.lc,h.ln,h.lk⟩
theorem Gw (w:G9)(a b c d:He)(t:Il):(w.alloc (.cells #[a,b,c,d] t)).heap[w.heap.size]?=G1 (.cells #[a,b,c,d] t (0,0)):=Hc _ _
theorem rW {w:G9}{g:Nat}{a b c d:He}{t:Il}(h:w.heap[g]?=G1 (.cells #[a,b,c,d] t (0,0))):w.cell? ⟨g,0,G0⟩=G1 a/\w.cell? ⟨g,1,G0⟩=G1 b/\w.cell? ⟨g,2,G0⟩=G1 c/\w.cell? ⟨g,3,G0⟩=G1 d:=by
 refine⟨?_,?_,?_,?_⟩<;>simp[J7,h]
abbrev sF (p:PlQ)(c:CdQ)(w:G9)(b:Nat):Prop:=w.cell? ⟨b,0,G0⟩=G1 (.slice p.aw c.ws.length p.cw)/\w.cell? ⟨b,1,G0⟩=G1 (.slice p.ac c.cs.length p.cc)/\w.cell? ⟨b,2,G0⟩=G1 (.slice p.an c.ns.length p.cn)/\w.cell? ⟨b,3,G0⟩=G1 (.slice p.ak c.ks.length p.ck)
theorem lO {p:PlQ}{c:CdQ}{w w':G9}{b:Nat}(h:sF p c w b)(hb:b<w.heap.size)(B:Hf w.heap.size w w'):sF p c w' b :=
 ⟨(B.cell (p:=⟨b,0,G0⟩) hb).trans h.1,(B.cell (p:=⟨b,1,G0⟩) hb).trans h.2.1,(B.cell (p:=⟨b,2,G0⟩) hb).trans h.2.2.1,(B.cell (p:=⟨b,3,G0⟩) hb).trans h.2.2.2⟩
theorem rY (p:PlQ)(c:CdQ)(w:G9):sF p c (w.alloc (.cells (ki p c) 42)) w.heap.size:=rW (Gw _ _ _ _ _ _)
theorem as.newQ {I:Nat->Prop}{w w':G9}(o:Nat->Nat)(i:Nat)(B:Hf w.heap.size w w'):as I w o w' (dQ w o i):=⟨B.os,B.tape,B.output,B.size,λk hk=>ed hk,λk hk _=>B.block k hk⟩
theorem Row.lsvQ {w:G9}{o:Nat->Nat}{i:Nat}{e:Il}{ao:Option Hw}{n cap:Nat}{xs:List He}(h:Row w o i e 1 (.slice ao n cap) n xs):pQ w ao xs:=by
 by_cases hn:0<n
 ·obtain⟨g,c,hv,-,-,-,hlt,hc,-⟩:=h.pos hn;simp only[IS,JM] at hv;refine .inr ⟨g,0,hv.1,hlt,λj x hx=>?_⟩;have hl:=h.len;have hj:j<n*1:=by have:=(List.getElem?_eq_some_iff.1 hx).1;omega
  rw[Ix,hc j hj];exact hx
 ·have hl:=h.len;exact .inl (Jt (by omega))
theorem lm {g:Nat}{w w':G9}(h:Hf g w w')(n:Nat):Hf g w (w'.drewN n):=by
 induction n with
 | zero=>exact h
 | succ n ih=>exact ih.drew
theorem xN (p q:PlQ)(c:CdQ)(w:G9)(hp:mN w p c)(hq:mN w q c) :
  Hn G5 17 #[yd p c,yd q c] w λe w'=>e=.returned (.bool true)/\Hf w.heap.size w w':=by
 obtain⟨g,hg⟩:∃g,g=w.heap.size:=⟨_,rfl⟩;obtain⟨w2,hw2⟩:∃w2,w2=(w.alloc (.cells (ki p c) 42)).alloc (.cells (ki q c) 42):=⟨_,rfl⟩;have B1:Hf g w w2:=by rw[hw2,hg];exact((Hi _ w).alloc (G4 _) _).alloc (by simp) _
 have z2:w2.heap.size=g+2:=by rw[hw2,hg];simp
 have KP:sF p c w2 g:=by
  rw[hw2,hg];exact lO (rY p c w) (by simp) (b1 _ _)
 have KQ:sF q c w2 (g+1):=by
  have:=rY q c (w.alloc (.cells (ki p c) 42))
  rw[hw2,hg];simpa using this
 have P2:mN w2 p c:=hp.below (by rw[<-hg];exact B1);have Q2:mN w2 q c:=hq.below (by rw[<-hg];exact B1);have HG:=Hg hg;have l1:=P2.lw;have l2:=P2.lc;have l3:=P2.ln;have l4:=P2.lk;clear hp hq hg;have K:∀ {wr:G9},Hf w2.heap.size w2 wr->sF p c wr g/\sF q c wr (g+1)/\mN wr p c/\mN wr q c:=λ{wr} B=>⟨lO KP (by omega) B,lO KQ (by omega) B,P2.below B,Q2.below B⟩;have Bz:Hf w2.heap.size w2 w2:=Hi _ _;obtain⟨a0,a1,a2,a3⟩:=KP;obtain⟨e0,e1,e2,e3⟩:=KQ;clear P2 Q2;go_enter Tryz.func17,Tryz.ntmps17;go_wp2_with fail;rw[<-hw2,<-HG.out];clear hw2;go_wp2_with fail;go_loopw [5] (λv wr=>∃k:Nat,v=.int .i64 (k:Nat)/\k<=c.ws.length/\Hf w2.heap.size w2 wr) (λv _=>c.ws.length-(Ih v).toNat)
 case atStart=>exact⟨0,by go_num,by omega,Bz⟩
 case round =>
  obtain⟨k,rfl,hk,BR0⟩:=hrel;clear a0 a1 a2 a3 e0 e1 e2 e3;obtain⟨⟨a0,a1,a2,a3⟩,⟨e0,e1,e2,e3⟩,PR,QR⟩:=K BR0;by_cases hlt:k<c.ws.length
  ·have hkI:(k:Int)<(c.ws.length:Int):=by omega
   obtain⟨b1,o1,h1,l1,x1⟩:=PR.ws.at (wH hlt);obtain⟨b2,o2,h2,l2,x2⟩:=QR.ws.at (wH hlt);generalize c.ws[k]=u at x1 x2;rw[h1] at a0;rw[h2] at e0;go_wp2_with fail
   go_quiet (fail)
   go_wp2;go_roundw
   case rel=>(try ((repeat apply Hv);refine⟨?_,rfl⟩));exact⟨k+1,by go_num,by omega,lm BR0 _⟩
   case measure=>simp[Ih];omega
  ·have hkI:¬(k:Int)<(c.ws.length:Int):=by omega
   clear PR QR;go_wp2_with fail;go_loopw [6] (λv wr=>∃k:Nat,v=.int .i64 (k:Nat)/\k<=c.cs.length/\Hf w2.heap.size w2 wr) (λv _=>c.cs.length-(Ih v).toNat)
   case atStart=>exact⟨0,by go_num,by omega,BR0⟩
   case round =>
    obtain⟨k,rfl,hk,BR1⟩:=hrel;clear a0 a1 a2 a3 e0 e1 e2 e3;obtain⟨⟨a0,a1,a2,a3⟩,⟨e0,e1,e2,e3⟩,PR,QR⟩:=K BR1;by_cases hlt:k<c.cs.length
    ·have hkI:(k:Int)<(c.cs.length:Int):=by omega
     obtain⟨b1,o1,h1,l1,x1⟩:=PR.cs.at (mM hlt);obtain⟨b2,o2,h2,l2,x2⟩:=QR.cs.at (mM hlt);generalize c.cs[k]=u at x1 x2;rw[h1] at a1;rw[h2] at e1;go_wp2_with fail
     go_quiet (fail)
     go_wp2;go_roundw
     case rel=>(try ((repeat apply Hv);refine⟨?_,rfl⟩));exact⟨k+1,by go_num,by omega,lm BR1 _⟩
     case measure=>simp[Ih];omega
    ·have hkI:¬(k:Int)<(c.cs.length:Int):=by omega
     clear PR QR;go_wp2_with fail;go_loopw [7] (λv wr=>∃k:Nat,v=.int .i64 (k:Nat)/\k<=c.ns.length/\Hf w2.heap.size w2 wr) (λv _=>c.ns.length-(Ih v).toNat)
     case atStart=>exact⟨0,by go_num,by omega,BR1⟩
     case round =>
      obtain⟨k,rfl,hk,BR2⟩:=hrel;clear a0 a1 a2 a3 e0 e1 e2 e3;obtain⟨⟨a0,a1,a2,a3⟩,⟨e0,e1,e2,e3⟩,PR,QR⟩:=K BR2;by_cases hlt:k<c.ns.length
      ·have hkI:(k:Int)<(c.ns.length:Int):=by omega
       obtain⟨b1,o1,h1,l1,x1⟩:=PR.ns.at (vK hlt);obtain⟨b2,o2,h2,l2,x2⟩:=QR.ns.at (vK hlt);generalize c.ns[k]=u at x1 x2;rw[h1] at a2;rw[h2] at e2;go_wp2_with fail
       go_quiet (fail)
       go_wp2;go_roundw
       case rel=>(try ((repeat apply Hv);refine⟨?_,rfl⟩));exact⟨k+1,by go_num,by omega,lm BR2 _⟩
       case measure=>simp[Ih];omega
      ·have hkI:¬(k:Int)<(c.ns.length:Int):=by omega
       clear PR QR;go_wp2_with fail;go_loopw [8] (λv wr=>∃k:Nat,v=.int .i64 (k:Nat)/\k<=c.ks.length/\Hf w2.heap.size w2 wr) (λv _=>c.ks.length-(Ih v).toNat)
       case atStart=>exact⟨0,by go_num,by omega,BR2⟩
       case round =>
        obtain⟨k,rfl,hk,BR3⟩:=hrel;clear a0 a1 a2 a3 e0 e1 e2 e3;obtain⟨⟨a0,a1,a2,a3⟩,⟨e0,e1,e2,e3⟩,PR,QR⟩:=K BR3;by_cases hlt:k<c.ks.length
        ·have hkI:(k:Int)<(c.ks.length:Int):=by omega
         obtain⟨b1,o1,h1,l1,x1⟩:=PR.ks.at (mM hlt);obtain⟨b2,o2,h2,l2,x2⟩:=QR.ks.at (mM hlt);generalize c.ks[k]=u at x1 x2;rw[h1] at a3;rw[h2] at e3;go_wp2_with fail
         go_quiet (fail)
         go_wp2;go_roundw
         case rel=>(try ((repeat apply Hv);refine⟨?_,rfl⟩));exact⟨k+1,by go_num,by omega,lm BR3 _⟩
         case measure=>simp[Ih];omega
        ·have hkI:¬(k:Int)<(c.ks.length:Int):=by omega
         go_wp2;go_ret;exact⟨rfl,by rw[<-HG.out];exact B1.trans (BR3.mono (by omega))⟩
structure tc (w:G9)(o:Nat->Nat)(p:PlQ)(c:CdQ):Prop where
 ws:Row w o 3 54 1 (.slice p.aw c.ws.length p.cw) c.ws.length (sC c.ws)
 cs:Row w o 4 3 1 (.slice p.ac c.cs.length p.cc) c.cs.length (xp c.cs)
 ns:Row w o 5 9 1 (.slice p.an c.ns.length p.cn) c.ns.length (tO c.ns)
 ks:Row w o 6 3 1 (.slice p.ak c.ks.length p.ck) c.ks.length (xp c.ks)
 lw:c.ws.length<=32768
 lc:c.cs.length<=100000000
 ln:c.ns.length<=100000000
 lk:c.ks.length<=256
theorem tc.step {I:Nat->Prop}{w w':G9}{o o':Nat->Nat}{p:PlQ}{c:CdQ}(h:tc w o p c)(s:as I w o w' o')(h3:¬I 3)(h4:¬I 4)(h5:¬I 5)(h6:¬I 6):tc w' o' p c :=
 ⟨h.ws.step s h3,h.cs.step s h4,h.ns.step s h5,h.ks.step s h6,h.lw,h.lc,h.ln,h.lk⟩
abbrev nZ:Nat->Prop:=λk=>3<=k/\k<=6
theorem Row.put1Q {w:G9}{o:Nat->Nat}{i:Nat}{e:Il}{ao:Option Hw}{n cap:Nat}{xs:List He}(h:Row w o i e 1 (.slice ao n cap) n xs){j:Nat}(hj:j<n) :
  ∃b x,ao=G1 ⟨b,0,G0⟩/\o b=i/\w.cell? ⟨b,j,G0⟩=G1 x/\w.frozen? ⟨b,j,G0⟩=false/\∀ u,Row (w.setCell ⟨b,j,G0⟩ u) o i e 1 (.slice ao n cap) n (xs.set j u):=by
 obtain⟨g,c,hv,ho,-,-,-,hc,hf⟩:=h.pos (by omega);simp only[IS,JM] at hv;obtain⟨rfl,rfl⟩:=hv;have hl:=h.len;have hjx:j<xs.length:=by omega
 exact⟨g,xs[j],rfl,ho,by rw[hc j (by omega)];exact Hd hjx,hf j,λu=>h.store j u⟩
structure kP (w0:G9)(o0:Nat->Nat)(g:Nat)(p:PlQ)(c:CdQ)(w:G9)(o:Nat->Nat):Prop where
 bx:Blk w o 9 g (.cells (ki p c) 42)
 ws:∃xs,Row w o 3 54 1 (.slice p.aw c.ws.length p.cw) c.ws.length xs
 cs:∃xs,Row w o 4 3 1 (.slice p.ac c.cs.length p.cc) c.cs.length xs
 ns:∃xs,Row w o 5 9 1 (.slice p.an c.ns.length p.cn) c.ns.length xs
 ks:∃xs,Row w o 6 3 1 (.slice p.ak c.ks.length p.ck) c.ks.length xs
 sp:as nZ w0 o0 w o
theorem kP.ws1 {w0 w:G9}{o0 o:Nat->Nat}{g:Nat}{p:PlQ}{c:CdQ}(h:kP w0 o0 g p c w o){j:Nat}(hj:j<c.ws.length):∃b x,p.aw=G1 ⟨b,0,G0⟩/\w.cell? ⟨b,j,G0⟩=G1 x/\w.frozen? ⟨b,j,G0⟩=false/\∀ u,kP w0 o0 g p c (w.setCell ⟨b,j,G0⟩ u) o:=by
 obtain⟨xs,hx⟩:=h.ws;obtain⟨b,x,e1,e2,e3,e4,hr⟩:=hx.put1Q hj;have S:∀ u,as (λk=>k=3) w o (w.setCell ⟨b,j,G0⟩ u) o:=λu=>(as.refl _ w o).setCell ⟨b,j,G0⟩ u e2;exact⟨b,x,e1,e3,e4,λu=>⟨h.bx.step (S u) (by decide),⟨_,hr u⟩,(by obtain⟨ys,hy⟩:=h.cs;exact⟨ys,hy.step (S u) (by decide)⟩),(by obtain⟨ys,hy⟩:=h.ns;exact⟨ys,hy.step (S u) (by decide)⟩),(by obtain⟨ys,hy⟩:=h.ks;exact⟨ys,hy.step (S u) (by decide)⟩),h.sp.trans ((S u).mono (λk hk=>by subst hk;decide))⟩⟩
theorem kP.cs1 {w0 w:G9}{o0 o:Nat->Nat}{g:Nat}{p:PlQ}{c:CdQ}(h:kP w0 o0 g p c w o){j:Nat}(hj:j<c.cs.length):∃b x,p.ac=G1 ⟨b,0,G0⟩/\w.cell? ⟨b,j,G0⟩=G1 x/\w.frozen? ⟨b,j,G0⟩=false/\∀ u,kP w0 o0 g p c (w.setCell ⟨b,j,G0⟩ u) o:=by
 obtain⟨xs,hx⟩:=h.cs;obtain⟨b,x,e1,e2,e3,e4,hr⟩:=hx.put1Q hj;have S:∀ u,as (λk=>k=4) w o (w.setCell ⟨b,j,G0⟩ u) o:=λu=>(as.refl _ w o).setCell ⟨b,j,G0⟩ u e2;exact⟨b,x,e1,e3,e4,λu=>⟨h.bx.step (S u) (by decide),(by obtain⟨ys,hy⟩:=h.ws;exact⟨ys,hy.step (S u) (by decide)⟩),⟨_,hr u⟩,(by obtain⟨ys,hy⟩:=h.ns;exact⟨ys,hy.step (S u) (by decide)⟩),(by obtain⟨ys,hy⟩:=h.ks;exact⟨ys,hy.step (S u) (by decide)⟩),h.sp.trans ((S u).mono (λk hk=>by subst hk;decide))⟩⟩
theorem kP.ns1 {w0 w:G9}{o0 o:Nat->Nat}{g:Nat}{p:PlQ}{c:CdQ}(h:kP w0 o0 g p c w o){j:Nat}(hj:j<c.ns.length):∃b x,p.an=G1 ⟨b,0,G0⟩/\w.cell? ⟨b,j,G0⟩=G1 x/\w.frozen? ⟨b,j,G0⟩=false/\∀ u,kP w0 o0 g p c (w.setCell ⟨b,j,G0⟩ u) o:=by
 obtain⟨xs,hx⟩:=h.ns;obtain⟨b,x,e1,e2,e3,e4,hr⟩:=hx.put1Q hj;have S:∀ u,as (λk=>k=5) w o (w.setCell ⟨b,j,G0⟩ u) o:=λu=>(as.refl _ w o).setCell ⟨b,j,G0⟩ u e2;exact⟨b,x,e1,e3,e4,λu=>⟨h.bx.step (S u) (by decide),(by obtain⟨ys,hy⟩:=h.ws;exact⟨ys,hy.step (S u) (by decide)⟩),(by obtain⟨ys,hy⟩:=h.cs;exact⟨ys,hy.step (S u) (by decide)⟩),⟨_,hr u⟩,(by obtain⟨ys,hy⟩:=h.ks;exact⟨ys,hy.step (S u) (by decide)⟩),h.sp.trans ((S u).mono (λk hk=>by subst hk;decide))⟩⟩
theorem kP.ks1 {w0 w:G9}{o0 o:Nat->Nat}{g:Nat}{p:PlQ}{c:CdQ}(h:kP w0 o0 g p c w o){j:Nat}(hj:j<c.ks.length):∃b x,p.ak=G1 ⟨b,0,G0⟩/\w.cell? ⟨b,j,G0⟩=G1 x/\w.frozen? ⟨b,j,G0⟩=false/\∀ u,kP w0 o0 g p c (w.setCell ⟨b,j,G0⟩ u) o:=by
 obtain⟨xs,hx⟩:=h.ks;obtain⟨b,x,e1,e2,e3,e4,hr⟩:=hx.put1Q hj;have S:∀ u,as (λk=>k=6) w o (w.setCell ⟨b,j,G0⟩ u) o:=λu=>(as.refl _ w o).setCell ⟨b,j,G0⟩ u e2;exact⟨b,x,e1,e3,e4,λu=>⟨h.bx.step (S u) (by decide),(by obtain⟨ys,hy⟩:=h.ws;exact⟨ys,hy.step (S u) (by decide)⟩),(by obtain⟨ys,hy⟩:=h.cs;exact⟨ys,hy.step (S u) (by decide)⟩),(by obtain⟨ys,hy⟩:=h.ns;exact⟨ys,hy.step (S u) (by decide)⟩),⟨_,hr u⟩,h.sp.trans ((S u).mono (λk hk=>by subst hk;decide))⟩⟩
theorem Dc (p:PlQ)(c:CdQ)(w:G9)(o:Nat->Nat)(h:tc w o p c) :
  Hn G5 19 #[yd p c] w λe w'=>e=.returned (.tuple #[])/\∃o',as nZ w o w' o':=by
 obtain⟨iw,iw1,iw2,iw3,iw4⟩:=eo vB;obtain⟨ii,ii1,ii2,ii3,ii4⟩:=eo qW;obtain⟨is,is1,is2,is3,is4⟩:=eo uD;obtain⟨g,hg⟩:∃g,g=w.heap.size:=⟨_,rfl⟩;obtain⟨w2,hw2⟩:∃w2,w2=w.alloc (.cells (ki p c) 42):=⟨_,rfl⟩;have SN:∀ {I:Nat->Prop},as I w o w2 (dQ w o 9):=λ{I}=>as.newQ o 9 (by rw[hw2];exact b1 _ _);have G2:Blk w2 (dQ w o 9) 9 g (.cells (ki p c) 42):=by rw[hw2,hg];exact⟨Hc _ _,dY (G4 _)⟩
 have h2:=h.step (SN (I:=λ_=>False)) id id id id;have Z0:kP w2 (dQ w o 9) g p c w2 (dQ w o 9):=⟨G2,⟨_,h2.ws⟩,⟨_,h2.cs⟩,⟨_,h2.ns⟩,⟨_,h2.ks⟩,as.refl _ _ _⟩;have SO:as nZ w o w2 (dQ w o 9):=SN;have l1:=h.lw;have l2:=h.lc;have l3:=h.ln;have l4:=h.lk;generalize dQ w o 9=o2 at *;have HG:=Hg hg;have HSO:=Hg SO;clear SN SO G2 h h2 hg;obtain⟨⟨a0,a1,a2,a3⟩,-⟩:=dW Z0.bx.1;go_enter Tryz.func19,Tryz.ntmps19;go_wp2_with fail;rw[<-hw2,<-HG.out];clear hw2;go_wp2_with fail;go_loopw [2] (λv wr=>∃k:Nat,v=.int .i64 (k:Nat)/\k<=c.ws.length/\kP w2 o2 g p c wr o2) (λv _=>c.ws.length-(Ih v).toNat)
 case atStart=>exact⟨0,by go_num,by omega,Z0⟩
 case round =>
  obtain⟨k,rfl,hk,Z1⟩:=hrel;clear a0 a1 a2 a3;obtain⟨⟨a0,a1,a2,a3⟩,-⟩:=dW Z1.bx.1;by_cases hlt:k<c.ws.length
  ·have hkI:(k:Int)<(c.ws.length:Int):=by omega
   obtain⟨b,x,e1,e2,e3,HZ⟩:=Z1.ws1 hlt;have HZ2:=Hg (HZ (.int .u64 9));rw[e1] at a0;clear HZ e1;go_wp2;go_roundw
   case rel=>(try ((repeat apply Hv);refine⟨?_,rfl⟩));exact⟨k+1,by go_num,by omega,HZ2.out⟩
   case measure=>simp[Ih];omega
  ·have hkI:¬(k:Int)<(c.ws.length:Int):=by omega
   clear hlt hk;go_wp2_with fail;go_loopw [3] (λv wr=>∃k:Nat,v=.int .i64 (k:Nat)/\k<=c.cs.length/\kP w2 o2 g p c wr o2) (λv _=>c.cs.length-(Ih v).toNat)
   case atStart=>exact⟨0,by go_num,by omega,Z1⟩
   case round =>
    obtain⟨k,rfl,hk,Z2⟩:=hrel;clear a0 a1 a2 a3;obtain⟨⟨a0,a1,a2,a3⟩,-⟩:=dW Z2.bx.1;by_cases hlt:k<c.cs.length
    ·have hkI:(k:Int)<(c.cs.length:Int):=by omega
     obtain⟨b,x,e1,e2,e3,HZ⟩:=Z2.cs1 hlt;have HZ2:=Hg (HZ (.int .i64 (-9)));rw[e1] at a1;clear HZ e1;go_wp2;go_roundw
     case rel=>(try ((repeat apply Hv);refine⟨?_,rfl⟩));exact⟨k+1,by go_num,by omega,HZ2.out⟩
     case measure=>simp[Ih];omega
    ·have hkI:¬(k:Int)<(c.cs.length:Int):=by omega
     clear hlt hk;go_wp2_with fail;go_loopw [4] (λv wr=>∃k:Nat,v=.int .i64 (k:Nat)/\k<=c.ns.length/\kP w2 o2 g p c wr o2) (λv _=>c.ns.length-(Ih v).toNat)
     case atStart=>exact⟨0,by go_num,by omega,Z2⟩
     case round =>
      obtain⟨k,rfl,hk,Z3⟩:=hrel;clear a0 a1 a2 a3;obtain⟨⟨a0,a1,a2,a3⟩,-⟩:=dW Z3.bx.1;by_cases hlt:k<c.ns.length
      ·have hkI:(k:Int)<(c.ns.length:Int):=by omega
       obtain⟨b,x,e1,e2,e3,HZ⟩:=Z3.ns1 hlt;have HZ2:=Hg (HZ (.string ⟨#[111,118,101,114]⟩));rw[e1] at a2;clear HZ e1;go_wp2;go_roundw
       case rel=>(try ((repeat apply Hv);refine⟨?_,rfl⟩));exact⟨k+1,by go_num,by omega,HZ2.out⟩
       case measure=>simp[Ih];omega
      ·have hkI:¬(k:Int)<(c.ns.length:Int):=by omega
       clear hlt hk;go_wp2_with fail;go_loopw [5] (λv wr=>∃k:Nat,v=.int .i64 (k:Nat)/\k<=c.ks.length/\kP w2 o2 g p c wr o2) (λv _=>c.ks.length-(Ih v).toNat)
       case atStart=>exact⟨0,by go_num,by omega,Z3⟩
       case round =>
        obtain⟨k,rfl,hk,Z4⟩:=hrel;clear a0 a1 a2 a3;obtain⟨⟨a0,a1,a2,a3⟩,-⟩:=dW Z4.bx.1;by_cases hlt:k<c.ks.length
        ·have hkI:(k:Int)<(c.ks.length:Int):=by omega
         obtain⟨b,x,e1,e2,e3,HZ⟩:=Z4.ks1 hlt;have HZ2:=Hg (HZ (.int .i64 (-9)));rw[e1] at a3;clear HZ e1;go_wp2;go_roundw
         case rel=>(try ((repeat apply Hv);refine⟨?_,rfl⟩));exact⟨k+1,by go_num,by omega,HZ2.out⟩
         case measure=>simp[Ih];omega
        ·have hkI:¬(k:Int)<(c.ks.length:Int):=by omega
         clear hlt hk;obtain⟨x1,P1⟩:=Z4.ws;obtain⟨x2,P2⟩:=Z4.cs;obtain⟨x3,P3⟩:=Z4.ns;obtain⟨x4,P4⟩:=Z4.ks;have SX:=Z4.sp;have BX:=Z4.bx;clear Z4;go_wp2_with (first|(at_builtin;refine eb rfl _ _ 39 rfl 54 iw (.int .u64 0) 1 8 Tryz.underlying39 iw1 iw2 iw3 iw4 rfl (by decide) o2 3 _ c.ws.length x1 (by first|rfl|(simp;done)) (P1.step (as.ofBelow (I:=λ_=>False) o2 (b1 _ _)) id) ⟨wr.heap.size,0,G0⟩ 1 1 [.int .u64 8] rfl rfl ?c1 ?d1 (by decide) ?e1 ?f1 ?_)|go_in);try case c1=>exact fM _ _ _
         try case d1=>first|rfl|exact ku _ rfl
         case e1=>unfold Hu;omega
         case f1=>omega
         intro g1 q1 w1a o1a P1 S1;have S1n:as (λk=>k=3) wr o2 w1a o1a:=(as.ofBelow o2 (b1 wr (.cells #[.int .u64 8] 54))).trans S1;have SX:=SX.trans (S1n.mono (J:=nZ) (λk hk=>by subst hk;decide));have BX:=BX.step S1n (by decide)
         replace P2:=P2.step S1n (by decide)
         replace P3:=P3.step S1n (by decide)
         replace P4:=P4.step S1n (by decide)
         clear S1 S1n a0 a1 a2 a3;obtain⟨⟨a0,a1,a2,a3⟩,-⟩:=dW BX.1;go_wp2_with (first|(at_builtin;refine eb rfl _ _ 35 rfl 3 ii (.int .i64 0) 1 8 Iu ii1 ii2 ii3 ii4 rfl (by decide) o1a 4 _ c.cs.length x2 (by first|rfl|(simp;done)) (P2.step (as.ofBelow (I:=λ_=>False) o1a (b1 _ _)) id) ⟨w1a.heap.size,0,G0⟩ 1 1 [.int .i64 8] rfl rfl ?c2 ?d2 (by decide) ?e2 ?f2 ?_)|go_in);try case c2=>exact fM _ _ _
         try case d2=>first|rfl|exact ku _ rfl
         case e2=>unfold Hu;omega
         case f2=>omega
         intro g2 q2 w2a o2a P2 S2;have S2n:as (λk=>k=4) w1a o1a w2a o2a:=(as.ofBelow o1a (b1 w1a (.cells #[.int .i64 8] 3))).trans S2;have SX:=SX.trans (S2n.mono (J:=nZ) (λk hk=>by subst hk;decide));have BX:=BX.step S2n (by decide)
         replace P1:=P1.step S2n (by decide)
         replace P3:=P3.step S2n (by decide)
         replace P4:=P4.step S2n (by decide)
         clear S2 S2n a0 a1 a2 a3;obtain⟨⟨a0,a1,a2,a3⟩,-⟩:=dW BX.1;go_wp2_with (first|(at_builtin;refine eb rfl _ _ 40 rfl 9 is (.string ⟨#[]⟩) 1 16 Ju is1 is2 is3 is4 rfl (by decide) o2a 5 _ c.ns.length x3 (by first|rfl|(simp;done)) (P3.step (as.ofBelow (I:=λ_=>False) o2a (b1 _ _)) id) ⟨w2a.heap.size,0,G0⟩ 1 1 [.string ⟨#[109,111,114,101]⟩] rfl rfl ?c3 ?d3 (by decide) ?e3 ?f3 ?_)|go_in);try case c3=>exact fM _ _ _
         try case d3=>first|rfl|exact ku _ rfl
         case e3=>unfold Hu;omega
         case f3=>omega
         intro g3 q3 w3a o3a P3 S3;have S3n:as (λk=>k=5) w2a o2a w3a o3a:=(as.ofBelow o2a (b1 w2a (.cells #[.string ⟨#[109,111,114,101]⟩] 9))).trans S3;have SX:=SX.trans (S3n.mono (J:=nZ) (λk hk=>by subst hk;decide));have BX:=BX.step S3n (by decide)
         replace P1:=P1.step S3n (by decide)
         replace P2:=P2.step S3n (by decide)
         replace P4:=P4.step S3n (by decide)
         clear S3 S3n a0 a1 a2 a3;obtain⟨⟨a0,a1,a2,a3⟩,-⟩:=dW BX.1;go_wp2_with (first|(at_builtin;refine eb rfl _ _ 35 rfl 3 ii (.int .i64 0) 1 8 Iu ii1 ii2 ii3 ii4 rfl (by decide) o3a 6 _ c.ks.length x4 (by first|rfl|(simp;done)) (P4.step (as.ofBelow (I:=λ_=>False) o3a (b1 _ _)) id) ⟨w3a.heap.size,0,G0⟩ 1 1 [.int .i64 8] rfl rfl ?c4 ?d4 (by decide) ?e4 ?f4 ?_)|go_in);try case c4=>exact fM _ _ _
         try case d4=>first|rfl|exact ku _ rfl
         case e4=>unfold Hu;omega
         case f4=>omega
         intro g4 q4 w4a o4a P4 S4;have S4n:as (λk=>k=6) w3a o3a w4a o4a:=(as.ofBelow o3a (b1 w3a (.cells #[.int .i64 8] 3))).trans S4;have SX:=SX.trans (S4n.mono (J:=nZ) (λk hk=>by subst hk;decide));have BX:=BX.step S4n (by decide)
         replace P1:=P1.step S4n (by decide)
         replace P2:=P2.step S4n (by decide)
         replace P3:=P3.step S4n (by decide)
         clear S4 S4n a0 a1 a2 a3;obtain⟨⟨a0,a1,a2,a3⟩,-⟩:=dW BX.1;obtain⟨b1,y1,r1,ob1,c1,f1,R1⟩:=P1.put1Q (j:=c.ws.length) (by omega);cases r1;have S1:as (λk=>k=3) w4a o4a (w4a.setCell ⟨g1,c.ws.length,G0⟩ (.int .u64 1)) o4a:=(as.refl _ _ _).setCell ⟨g1,c.ws.length,G0⟩ (.int .u64 1) ob1
         replace P2:=P2.step S1 (by decide)
         replace P3:=P3.step S1 (by decide)
         replace P4:=P4.step S1 (by decide)
         have SX:=SX.trans (S1.mono (J:=nZ) (λk hk=>by subst hk;decide));clear S1 R1;obtain⟨v1,hv1⟩:∃v1,v1=w4a.setCell ⟨g1,c.ws.length,G0⟩ (.int .u64 1):=⟨_,rfl⟩;have hI1:((c.ws.length:Int)+1)-1=(c.ws.length:Int):=by omega
         try rw[<-hv1] at SX
         try rw[<-hv1] at P2
         try rw[<-hv1] at P3
         try rw[<-hv1] at P4
         have HV1:=Hg hv1;clear hv1;go_upto_region 22 with fail;rw[<-HV1.out];clear HV1;obtain⟨b2,y2,r2,ob2,c2,f2,R2⟩:=P2.put1Q (j:=c.cs.length) (by omega);cases r2;have S2:as (λk=>k=4) v1 o4a (v1.setCell ⟨g2,c.cs.length,G0⟩ (.int .i64 1)) o4a:=(as.refl _ _ _).setCell ⟨g2,c.cs.length,G0⟩ (.int .i64 1) ob2
         replace P3:=P3.step S2 (by decide)
         replace P4:=P4.step S2 (by decide)
         have SX:=SX.trans (S2.mono (J:=nZ) (λk hk=>by subst hk;decide));clear S2 R2;obtain⟨v2,hv2⟩:∃v2,v2=v1.setCell ⟨g2,c.cs.length,G0⟩ (.int .i64 1):=⟨_,rfl⟩;have hI2:((c.cs.length:Int)+1)-1=(c.cs.length:Int):=by omega
         try rw[<-hv2] at SX
         try rw[<-hv2] at P3
         try rw[<-hv2] at P4
         have HV2:=Hg hv2;clear hv2;go_upto_region 23 with fail;rw[<-HV2.out];clear HV2;obtain⟨b3,y3,r3,ob3,c3,f3,R3⟩:=P3.put1Q (j:=c.ns.length) (by omega);cases r3;have S3:as (λk=>k=5) v2 o4a (v2.setCell ⟨g3,c.ns.length,G0⟩ (.string ⟨#[103,114,111,119,110]⟩)) o4a:=(as.refl _ _ _).setCell ⟨g3,c.ns.length,G0⟩ (.string ⟨#[103,114,111,119,110]⟩) ob3
         replace P4:=P4.step S3 (by decide)
         have SX:=SX.trans (S3.mono (J:=nZ) (λk hk=>by subst hk;decide));clear S3 R3;obtain⟨v3,hv3⟩:∃v3,v3=v2.setCell ⟨g3,c.ns.length,G0⟩ (.string ⟨#[103,114,111,119,110]⟩):=⟨_,rfl⟩;have hI3:((c.ns.length:Int)+1)-1=(c.ns.length:Int):=by omega
         try rw[<-hv3] at SX
         try rw[<-hv3] at P4
         have HV3:=Hg hv3;clear hv3;go_upto_region 24 with fail;rw[<-HV3.out];clear HV3;obtain⟨b4,y4,r4,ob4,c4,f4,R4⟩:=P4.put1Q (j:=c.ks.length) (by omega);cases r4;have S4:as (λk=>k=6) v3 o4a (v3.setCell ⟨g4,c.ks.length,G0⟩ (.int .i64 1)) o4a:=(as.refl _ _ _).setCell ⟨g4,c.ks.length,G0⟩ (.int .i64 1) ob4;have SX:=SX.trans (S4.mono (J:=nZ) (λk hk=>by subst hk;decide));clear S4 R4;obtain⟨v4,hv4⟩:∃v4,v4=v3.setCell ⟨g4,c.ks.length,G0⟩ (.int .i64 1):=⟨_,rfl⟩;have hI4:((c.ks.length:Int)+1)-1=(c.ks.length:Int):=by omega
         try rw[<-hv4] at SX
         have HV4:=Hg hv4;clear hv4;go_wp2
         go_end0
         exact⟨rfl,_,HSO.out.trans (by rw[<-HV4.out];exact SX)⟩
def Ydq (e:Ex)(cells:List Int):CdQ:=if fh cells e≠0/\(emA cells e).ws.length<=32768/\(emA cells e).dp<=1024 then ⟨(emA cells e).ws.map wdI,(emA cells e).cs,(emA cells e).ns.map (λl=>⟨l.toArray⟩),(emA cells e).ks⟩ else ⟨[],[],[],[]⟩
def Rdq (e:Ex)(cells:List Int):Int:=if fh cells e=0 then 140 else if (emA cells e).ws.length<=32768/\(emA cells e).dp<=1024 then 0 else 190
def OutQ (w:G9)(Y:CdQ)(R:Int)(z:Ja)(w':G9):Prop :=
 Hf w.heap.size w w'/\∃p,z=.returned (.tuple #[yd p Y,.int .i64 R])/\mN w' p Y
def OutR (w:G9)(Y:CdQ)(R:Int)(z:Ja)(w':G9):Prop :=
 Hf w.heap.size w w'/\∃p o',z=.returned (.tuple #[yd p Y,.int .i64 R])/\(∀ k,k<w.heap.size->o' k=0)/\tc w' o' p Y
def Bq:PlQ:=⟨G0,0,G0,0,G0,0,G0,0⟩
theorem my (w:G9)(o:Nat->Nat):tc w o Bq ⟨[],[],[],[]⟩:=⟨Row.nil _ _ _ _ _,Row.nil _ _ _ _ _,Row.nil _ _ _ _ _,Row.nil _ _ _ _ _,by decide,by decide,by decide,by decide⟩
theorem Row.lenq {w:G9}{o:Nat->Nat}{i:Nat}{e:Il}{Kb:Nat}{v:He}{n:Nat}{xs:List He}(h:Row w o i e Kb v n xs):n<=9223372036854775807:=by
 by_cases hn:0<n
 ·obtain⟨g,cap,-,-,h1,h2,-⟩:=h.pos hn;unfold Hu at h2;omega
 ·omega
theorem EmD.outW {w:G9}{o:Nat->Nat}{s:Em}{vw vc vn vk:He}(h:EmD w o s vw vc vn vk):∃p,(#[vw,vc,vn,vk]:Array He)=ki p ⟨s.ws.map wdI,s.cs,s.ns.map (λl=>⟨l.toArray⟩),s.ks⟩/\mN w p ⟨s.ws.map wdI,s.cs,s.ns.map (λl=>⟨l.toArray⟩),s.ks⟩:=by
 obtain⟨h1,h2,h3,h4⟩:=h;obtain⟨aw,cw,rfl⟩:=h1.form;obtain⟨ac,cc,rfl⟩:=h2.form;obtain⟨an,cn,rfl⟩:=h3.form;obtain⟨ak,ck,rfl⟩:=h4.form;have e1:sC (s.ws.map wdI)=wdW s.ws:=by simp[sC,wdW]
 have e3:tO (s.ns.map (λl=>(⟨l.toArray⟩:ByteArray)))=esV s.ns:=by simp[tO,esV]
 refine⟨⟨aw,cw,ac,cc,an,cn,ak,ck⟩,by simp[ki],⟨?_,h2.lsvQ,?_,h4.lsvQ,?_,h2.lenq,?_,h4.lenq⟩⟩
 ·rw[e1];exact h1.lsvQ
 ·rw[e3];exact h3.lsvQ
 ·simp;exact h1.lenq
 ·simp;exact h3.lenq
theorem Cz.q {w w':G9}{e:Ex}{cells:List Int}{z:Ja}(h:Cz w e cells z w'):OutQ w (Ydq e cells) (Rdq e cells) z w':=by
 obtain⟨B,h⟩:=h;refine⟨B,?_⟩;unfold Ydq Rdq;rcases h with ⟨hk,rfl⟩|⟨hk,ho,rfl⟩|⟨hk,h1,h2,vw,vc,vn,vk,o',rfl,-,C⟩
 ·rw[if_neg (λh=>h.1 hk),if_pos hk];obtain⟨a,b,c,d,-,-,-,-⟩:=my w' (λ_=>0);exact⟨Bq,rfl,⟨a.lsvQ,b.lsvQ,c.lsvQ,d.lsvQ,by decide,by decide,by decide,by decide⟩⟩
 ·rw[if_neg (λh=>by have:=h.2;omega),if_neg hk,if_neg (by omega)];obtain⟨a,b,c,d,-,-,-,-⟩:=my w' (λ_=>0);exact⟨Bq,rfl,⟨a.lsvQ,b.lsvQ,c.lsvQ,d.lsvQ,by decide,by decide,by decide,by decide⟩⟩
 ·rw[if_pos ⟨hk,h1,h2⟩,if_neg hk,if_pos ⟨h1,h2⟩];obtain⟨p,e1,hp⟩:=C.outW;exact⟨p,by rw[e1],hp⟩
theorem qz.q {w w':G9}{e:Ex}{cells:List Int}{z:Ja}(h:qz w e cells z w'):OutR w (Ydq e cells) (Rdq e cells) z w':=by
 obtain⟨B,h⟩:=h;refine⟨B,?_⟩;unfold Ydq Rdq;rcases h with ⟨hk,rfl⟩|⟨hk,ho,rfl⟩|⟨hk,h1,h2,hm,vw,vc,vn,vk,o',rfl,ho,C⟩
 ·rw[if_neg (λh=>h.1 hk),if_pos hk];exact⟨Bq,λ_=>0,rfl,λ_ _=>rfl,my w' _⟩
 ·rw[if_neg (λh=>by have:=h.2;omega),if_neg hk,if_neg (by omega)];exact⟨Bq,λ_=>0,rfl,λ_ _=>rfl,my w' _⟩
 ·rw[if_pos ⟨hk,h1,h2⟩,if_neg hk,if_pos ⟨h1,h2⟩];have hkl:=(D5 cells e).2;obtain⟨hnc,-,-⟩:=mY hk;obtain⟨c1,-,-,r1,r2,r3,r4⟩:=C;generalize emA cells e=s at *;obtain⟨aw,cw,rfl⟩:=r1.form;obtain⟨ac,cc,rfl⟩:=r2.form;obtain⟨an,cn,rfl⟩:=r3.form;obtain⟨ak,ck,rfl⟩:=r4.form;have e1:sC (s.ws.map wdI)=woV s.ws:=by rw[<-FD c1];simp[sC,wdW]
  have e3:tO (s.ns.map (λl=>(⟨l.toArray⟩:ByteArray)))=esV s.ns:=by simp[tO,esV]
  unfold Em.mes at hm;obtain⟨oz,hoz⟩:∃oz:Nat->Nat,oz=λk=>if 2<=o' k/\o' k<=5 then o' k+1 else if o' k=0 then 0 else 9:=⟨_,rfl⟩;have hz:∀ k i,2<=i->i<=5->o' k=i->oz k=i+1:=λk i a b c=>by rw[hoz];simp only;rw[if_pos (by omega)];omega
  refine⟨⟨aw,cw,ac,cc,an,cn,ak,ck⟩,oz,by simp[yd,ki],λk hk=>by rw[hoz];simp only;rw[ho k hk];rfl,⟨?_,?_,?_,?_,by simp;exact h1,by simp only;omega,by simp;omega,by simp only;omega⟩⟩
  ·rw[e1];simpa using r1.labq (λk hk=>hz k 2 (by omega) (by omega) hk)
  ·exact r2.labq (λk hk=>hz k 3 (by omega) (by omega) hk)
  ·rw[e3];simpa using r3.labq (λk hk=>hz k 4 (by omega) (by omega) hk)
  ·exact r4.labq (λk hk=>hz k 5 (by omega) (by omega) hk)
structure EpI (g:Nat)(w:G9)(nw no:Nat)(e:Ex)(ao:Option Hw)(cap:Nat)(ac:Option Hw)(cc:Nat)(cells:List Int)(p:PlQ)(Y:CdQ)(bo co go cgo:Nat)(wr:G9):Prop where
 P:wr.heap[g]?=G1 (.cells #[.int .i64 e.k,.int .i64 e.n,stv e.nm,.slice ao e.kids.len cap,.slice ac cells.length cc] 37)
 V:wr.heap[nw]?=G1 (.cells (ki p Y) 42)
 O:wr.heap[no]?=G1 (.cells #[.int .i64 e.k,.int .i64 e.n,stv e.nm,.slice (G1 ⟨bo,0,G0⟩) e.kids.len co,.slice (G1 ⟨go,0,G0⟩) cells.length cgo] 37)
 S:SnA wr e.kids ao
 I:InA wr (.slice ac cells.length cc) cells
 W:Wd wr
 T:lC wr
 C:mN wr p Y
 So:lW wr e.kids bo co
 Lo:LnI wr (λ_=>True) (.slice (G1 ⟨go,0,G0⟩) cells.length cgo) cells
 B:Hf g w wr
theorem EpI.below {g nw no:Nat}{w:G9}{e:Ex}{ao:Option Hw}{cap:Nat}{ac:Option Hw}{cc:Nat}{cells:List Int}{p:PlQ}{Y:CdQ}{bo co go cgo:Nat}{wr w':G9}(h:EpI g w nw no e ao cap ac cc cells p Y bo co go cgo wr)(b:Hf wr.heap.size wr w'):EpI g w nw no e ao cap ac cc cells p Y bo co go cgo w' :=
 ⟨(b.block _ (Ha h.P)).trans h.P,(b.block _ (Ha h.V)).trans h.V,(b.block _ (Ha h.O)).trans h.O,SnA.below h.S b,h.I.below b,h.W.below b,h.T.below b,h.C.below b,lW.below h.So b,h.Lo.below b,h.B.trans (b.mono (IM (Ha h.P)))⟩
theorem tc.w {w:G9}{o:Nat->Nat}{p:PlQ}{c:CdQ}(h:tc w o p c):mN w p c:=⟨h.ws.lsvQ,h.cs.lsvQ,h.ns.lsvQ,h.ks.lsvQ,h.ws.lenq,h.cs.lenq,h.ns.lenq,h.ks.lenq⟩
theorem Be {w:G9}{b:Nat}{p:PlQ}{c:CdQ}(h:w.heap[b]?=G1 (.cells (ki p c) 42)):sF p c w b:=(dW h).1
theorem pz (e:Ex)(ao:Option Hw)(cap:Nat)(cv:He)(cells:List Int)(w:G9)(hlen:e.kids.len<=Hu)(hwd:e.kids.wide)(hfit:e.kids.size<=100000000->fA e/\(-9223372036854775808<=e.n/\e.n<=9223372036854775807)/\e.kids.rng)(S:SnA w e.kids ao)(hc:InA w cv cells)(hcl:cells.length<=Hu)(hW:Wd w)(hT:lC w) :
  Hn G5 4 #[plV e ao cap cv] w λx w'=>x=.returned (.bool true)/\Hf w.heap.size w w':=by
 obtain⟨ac,cc,hcv,hx⟩:=hc;have hc:InA w cv cells:=⟨ac,cc,hcv,hx⟩;subst hcv;clear hx;obtain⟨g,hg⟩:∃g,g=w.heap.size:=⟨_,rfl⟩;obtain⟨w0,hw0⟩:∃w0,w0=w.alloc (.cells #[.int .i64 e.k,.int .i64 e.n,stv e.nm,.slice ao e.kids.len cap,.slice ac cells.length cc] 37):=⟨_,rfl⟩;have b0:Hf w.heap.size w w0:=by rw[hw0];exact b1 _ _
 have P0:w0.heap[g]?=G1 (.cells #[.int .i64 e.k,.int .i64 e.n,stv e.nm,.slice ao e.kids.len cap,.slice ac cells.length cc] 37):=by rw[hw0,hg];exact Hc _ _
 have L0:g<w0.heap.size:=Ha P0;have B0:Hf g w w0:=by rw[hg];exact b0
 have c1:=xY e ao cap 0 _ cells w0 (hc.below b0) hcl hlen hwd (SnA.below S b0);rw[fu] at c1 ⊢;have HG:=Hg hg;clear hg;obtain⟨p0,p1,p2,p3,p4⟩:=gp P0;go_enter Tryz.func4,Tryz.ntmps4;go_upto_region 1 with fail;rw[<-hw0,<-HG.out];clear hw0;go_wp2_with fail;refine c1.mono ?_;rintro x w1 ⟨rfl,b1'⟩;have P1:=(b1'.block g L0).trans P0;have bb1:=b0.trans (b1'.mono b0.size);have B1:Hf g w w1:=B0.trans (b1'.mono (IM L0));have L1:=Ha P1;clear c1 p0 p1 p2 p3 p4;cases hh:hvP e cells with
 | true =>
  clear hh;go_wp2;go_ret;exact⟨rfl,by rw[<-HG.out];exact B1⟩
 | false =>
 obtain⟨hcl2,hsz⟩:=Ch hh;obtain⟨hf,hn,hr⟩:=hfit (by omega);clear hh hfit hcl hlen hwd;have c2:=zh w1 (hW.below bb1) (hT.below bb1);go_upto_region 4 with (first|(go_at_call 13;refine c2.mono ?_;rintro x w2 ⟨rfl,b2⟩))
 have P2:=(b2.block g L1).trans P1;have bb2:=bb1.trans (b2.mono bb1.size);have B2:Hf g w w2:=B1.trans (b2.mono (IM L1));have L2:=Ha P2;have HP:Hid (∀ (ao:Option Hw) (cap:Nat) (cv:He) (w:G9),InA w cv cells->SnA w e.kids ao->Wd w->lC w->Hn G5 16 #[plV e ao cap cv] w (OutR w (Ydq e cells) (Rdq e cells))):=λao cap cv w h1 h2 h3 h4=>(Ad e ao cap cv cells w hf hn hr h3 h4 h1 (by omega) h2).mono λx w' h=>qz.q h;have c3:=(Cq e ao cap _ cells w2 hf hn hr (hc.below bb2) (by omega) (SnA.below S bb2)).mono λx w' h=>Cz.q h;rw[fu] at c3;generalize Ydq e cells=Y at *;generalize Rdq e cells=R at *;obtain⟨p0,p1,p2,p3,p4⟩:=gp P2;clear c2 P0 P1 b0 b1' bb1 B0 B1 L0 L1 b2
 -- what the document wants
 go_wp2_with fail;refine c3.mono ?_;rintro x w3 ⟨b3,pw,rfl,C3⟩;have P3:=(b3.block g L2).trans P2;have bb3:=bb2.trans (b3.mono bb2.size);have B3:Hf g w w3:=B2.trans (b3.mono (IM L2));have L3:=Ha P3;obtain⟨nw,hnw⟩:∃nw,nw=w3.heap.size:=⟨_,rfl⟩;obtain⟨w4,hw4⟩:∃w4,w4=w3.alloc (.cells (ki pw Y) 42):=⟨_,rfl⟩;have b4:Hf w3.heap.size w3 w4:=by rw[hw4];exact b1 _ _
 have V4:w4.heap[nw]?=G1 (.cells (ki pw Y) 42):=by rw[hw4,hnw];exact Hc _ _
 have P4:=(b4.block g L3).trans P3;have bb4:=bb3.trans (b4.mono bb3.size);have B4:Hf g w w4:=B3.trans (b4.mono (IM L3));have L4:=Ha P4;have C4:=C3.below b4;have HNW:=Hg hnw;clear c3 P2 B2 L2 P3 B3 L3 b3 p0 p1 p2 p3 p4 hnw;go_upto_region 5 with fail;rw[<-hw4,<-HNW.out];clear hw4
 -- the plan,lent
 obtain⟨p0,p1,p2,p3,p4⟩:=gp P4;have c5:=ub e ao cap _ cells w4 hf.len hf.sh (hc.below bb4) (by omega) (SnA.below S bb4);rw[fu] at c5;go_wp2_with fail;refine c5.mono ?_;rintro x w5 ⟨bo,co,vo,rfl,S5o,L5o,b5⟩;obtain⟨go,cgo,hvo,hx5⟩:=L5o;have L5o:LnI w5 (Nw w4.heap.size) vo cells:=⟨go,cgo,hvo,hx5⟩;subst hvo;clear hx5;obtain⟨no,hno⟩:∃no,no=w5.heap.size:=⟨_,rfl⟩;obtain⟨w6,hw6⟩:∃w6,w6=w5.alloc (.cells #[.int .i64 e.k,.int .i64 e.n,stv e.nm,.slice (G1 ⟨bo,0,G0⟩) e.kids.len co,.slice (G1 ⟨go,0,G0⟩) cells.length cgo] 37):=⟨_,rfl⟩;have b6:Hf w5.heap.size w5 w6:=by rw[hw6];exact b1 _ _
 have O6:w6.heap[no]?=G1 (.cells #[.int .i64 e.k,.int .i64 e.n,stv e.nm,.slice (G1 ⟨bo,0,G0⟩) e.kids.len co,.slice (G1 ⟨go,0,G0⟩) cells.length cgo] 37):=by rw[hw6,hno];exact Hc _ _
 have b46:Hf w4.heap.size w4 w6:=b5.trans (b6.mono b5.size);have bb6:=bb4.trans (b46.mono bb4.size);have E6:EpI g w nw no e ao cap ac cc cells pw Y bo co go cgo w6:=⟨(b46.block _ L4).trans P4,(b46.block _ (Ha V4)).trans V4,O6,SnA.below S bb6,hc.below bb6,hW.below bb6,hT.below bb6,C4.below b46,lW.below (S5o.mono (λ_ _ _=>rfl) (G4 _) (λ_ _ _=>trivial)) b6,(L5o.mono (λ_ _ _=>rfl) (G4 _) (λ_ _ _=>trivial)).below b6,B4.trans (b46.mono (IM L4))⟩;have HNO:=Hg hno;clear c5 hno p0 p1 p2 p3 p4 P4 V4 B4 L4 C4 C3 S5o L5o b5 b6 b46 bb6 bb4 bb3 bb2 b4 O6 hW hT hc S;rw[fu];go_upto_region 6 with fail;rw[<-hw6,<-HNO.out];clear hw6;go_wp2;go_loopw [7] (λv wr=>∃(i:Nat),v=.int .i64 (i:Nat)/\i<=2/\EpI g w nw no e ao cap ac cc cells pw Y bo co go cgo wr) (λv _=>2-(Ih v).toNat)
 case atStart=>exact⟨0,by show _=Hp .i64 ((0:Nat):Int);rfl,by omega,E6⟩
 case round =>
  clear E6;obtain⟨i,rfl,hi,E1⟩:=hrel;by_cases hlt:i<2
  ·have hltI:(i:Int)<2:=by omega
   obtain⟨q0,q1,q2,q3,q4⟩:=gp E1.O;have c1:=HP.out (G1 ⟨bo,0,G0⟩) co _ wr E1.Lo.inA (Spn.sl E1.So) E1.W E1.T;rw[fu] at c1;go_wp2_with fail;refine c1.mono ?_;rintro x w2 ⟨b2,pq,o2,rfl,ho2,C2⟩;obtain⟨nq,hnq⟩:∃nq,nq=w2.heap.size:=⟨_,rfl⟩;obtain⟨w3,hw3⟩:∃w3,w3=w2.alloc (.cells (ki pq Y) 42):=⟨_,rfl⟩;have b3:Hf w2.heap.size w2 w3:=by rw[hw3];exact b1 _ _
   have Q3:w3.heap[nq]?=G1 (.cells (ki pq Y) 42):=by rw[hw3,hnq];exact Hc _ _
   have bb:Hf wr.heap.size wr w3:=b2.trans (b3.mono b2.size);have E3:=E1.below bb;have C3:=C2.step (as.ofBelow (I:=λ_=>False) o2 b3) id id id id;have HNQ:=Hg hnq;have HE1:=Hg E1;clear c1 b2 b3 C2 q0 q1 q2 q3 q4 hnq E1;go_upto_region 10 with fail;rw[<-hw3,<-HNQ.out];clear hw3
   -- the same?
   obtain⟨q0,q1,q2,q3⟩:=Be Q3;obtain⟨v0,v1,v2,v3⟩:=Be E3.V;have c4:=xN pq pw Y w3 C3.w E3.C;go_wp2_with fail;refine c4.mono ?_;rintro x w4 ⟨rfl,b4⟩;have E4:=E3.below b4;have bb4:=bb.trans (b4.mono bb.size);have C4:=C3.step (as.ofBelow (I:=λ_=>False) o2 b4) id id id id;have Q4:=(b4.block _ (Ha Q3)).trans Q3;clear c4 b4 bb q0 q1 q2 q3 v0 v1 v2 v3 E3 C3 Q3
   -- kept?
   obtain⟨p0,p1,p2,p3,p4⟩:=gp E4.P;obtain⟨t0,t1,t2,t3,t4⟩:=gp E4.O;have c5:=uZ e bo co _ ao cap _ cells w4 hf.len hf.sh (by omega) E4.So E4.S E4.Lo E4.I;rw[fu,fu] at c5;go_wp2_with fail;refine c5.mono ?_;rintro x w5 ⟨rfl,b5⟩;have bb5:=bb4.trans (b5.mono bb4.size);have C5:=C4.step (as.ofBelow (I:=λ_=>False) o2 b5) id id id id;have Q5:=(b5.block _ (Ha Q4)).trans Q4;clear c5 b5 bb4 p0 p1 p2 p3 p4 t0 t1 t2 t3 t4 E4 C4 Q4;have hRR:((R:Int) != (R:Int))=false:=by simp
   obtain⟨q0,q1,q2,q3⟩:=Be Q5;have c6:=Dc pq Y w5 o2 C5;go_wp2_with fail;refine c6.mono ?_;rintro x w6 ⟨rfl,o6,S6⟩;have b6:Hf wr.heap.size wr w6:=bb5.trans ⟨S6.os,S6.tape,S6.output,S6.size,λk hk=>S6.block k (by have:=bb5.size;omega) (by rw[ho2 k hk];decide)⟩;have E6:=HE1.out.below b6;clear c6 bb5 C5 Q5 q0 q1 q2 q3 S6 b6 HE1 hRR;go_wp2;go_roundw
   case rel=>(try ((repeat apply Hv);refine⟨?_,rfl⟩));exact⟨i+1,by go_num,by omega,E6⟩
   case measure=>simp[Ih];omega
  ·have hltI:¬(i:Int)<2:=by omega
   have HB:=Hg E1.B;clear E1;go_wp2;go_ret;exact⟨rfl,by rw[<-HG.out];exact HB.out⟩
theorem ownK:ownKnob Tryz.prog.godebug=G0:=by kernel_rfl
theorem DT:laidOutB G5=true:=by kernel_rfl
theorem oD:Tryz.prog.cellsOf 3=1:=by kernel_rfl
theorem yZ {a:Int}(h:(Lit.int .i64 a).wf=true):-9223372036854775808<=a/\a<=9223372036854775807:=by
 simpa [Lit.wf,IntKind.min,IntKind.max,IntKind.signed,IntKind.bits] using h
theorem gWd : Tryz.prog.globalNamed "isthmus/lex.words" = G1 3 := by kernel_rfl
theorem DS:(Tryz.prog.globals[3]?).map (·.type)=G1 229:=by kernel_rfl
theorem Cn:Tryz.prog.cellsOf 229=27:=by kernel_rfl
theorem tC:Tryz.prog.cellsOf 9=1:=by kernel_rfl
def tZ:List (JO Unit):=(List.range 27).map λj=>.lit (.string (wd j).data.toList)
theorem xz:(J5:JO Unit)=.agg tZ:=by rfl
theorem sw:eL.toList=(List.range 27).map λj=>Value.string (wd j):=by rfl
theorem oY {W:G9}{fuel:Nat}{cs:List He}{p:List JD}(h:DataW.trod (λ_=>()) G5 W 0 (λ_=>true) false fuel 229 cs=G1 (.agg tZ,p)):cs=eL.toList:=by
 obtain⟨xs,m,_,hx,hl,hlen,hf⟩:=DataW.trod_array Tryz.underlying229 h;rw[Cn] at hl;simp only[tC,Nat.mul_one] at hf;simp only[Jf,DataW.agg.injEq] at hx;rw[sw];apply JK;intro i;by_cases hi:i<27
 ·have hfi:=hf i hi;have hxi:xs[i]?=G1 xs[i]:=Hd (by omega);rw[hxi] at hfi;obtain⟨s,h1,h2⟩:=DataW.trod_string Je hfi;have hc:cs[i]?=G1 (.string s):=by
   have:=congrArg (·[0]?) h1
   simpa [List.getElem?_take,List.getElem?_drop] using this
  have hd:(xs.map (·.1))[i]?=G1 (.lit (.string s.data.toList)):=by rw[ID,hxi,h2.1];rfl
  rw[<-hx.1] at hd;unfold tZ at hd;rw[ID,List.getElem?_range hi] at hd;simp only[Option.map_some,Ji,DataW.lit.injEq,Lit.string.injEq] at hd;have hs:=oF.1 hd;rw[hc,ID,List.getElem?_range hi,<-hs];rfl
 ·rw[Ie (by omega),Ie (by simp;omega)]
theorem ux {W : G9} {r : List (String × JO Unit)} (h : laidMet G5 (("isthmus/lex.words", J5) :: r) W) : Wd W := by
 rw[xz] at h;obtain⟨ps,⟨g',t',cs,fuel,p,q,hg',ht',hvar,hd,_,_⟩,_⟩:=h;obtain rfl:=J0 (gWd.symm.trans hg');obtain rfl:=J0 (DS.symm.trans ht');have hcs:=oY hd;have hcs':cs=eL:=Array.toList_inj.1 hcs;subst hcs';simp only[World.var?,gWd,Option.bind_some] at hvar;split at hvar
 ·rename_i c t fr hh
  cases hvar;exact⟨t,fr,hh⟩
 ·cases hvar
def pv (cs:Array He):Obj->Obj
 | .cells _ t frozen=>.cells cs t frozen
 | o=>o
def lowB (P:JT):Nat:=(World.holding P default ⟨#[],#[],[]⟩).heap.size
theorem jJ {W:G9}{m:Nat}{l:List He}{a b:Int}{p:List JD}
  (h:DataW.trod (λ_=>()) G5 W 0 (λ_=>true) false m 222 l=G1 (.agg [.lit (.int .u64 a),.lit (.int .u64 b)],p)):l=[.int .u64 a,.int .u64 b]:=by
 obtain⟨y0,y1,n,hx,hl,h0,h1⟩:=trod_struct2 Tryz.underlying222 h;simp only[Jf,DataW.agg.injEq,Ko,and_true] at hx;obtain⟨⟨e0,e1⟩,_⟩:=hx;obtain⟨z0,c0,r0,_⟩:=DataW.trod_int Tryz.underlying175 h0;obtain⟨z1,c1,r1,_⟩:=DataW.trod_int Tryz.underlying54 h1;subst r0 r1;simp only[DataW.lit.injEq,Lit.int.injEq,JM] at e0 e1;subst e0 e1;rw[pi] at hl;simp only[yV,tJ] at c0 c1
 match l,hl with
 | [v0,v1],_ =>
  simp at c0 c1;rw[c0,c1]
theorem qR {W : G9} {r : List (String × JO Unit)} (h : laidMet G5 (("isthmus/pack.fields", JS) :: r) W) : Tab W := by
 obtain⟨ps,⟨g',t',cs,fuel,p,q,hg',ht',hvar,hd,_,_⟩,_⟩:=h;obtain rfl:=J0 (gTab.symm.trans hg');obtain rfl:=J0 (Al.symm.trans ht');obtain⟨xs,m,_,hx,hl,hlen,hf⟩:=DataW.trod_array Tryz.underlying223 hd;rw[Af] at hl;simp only[pi] at hf
 match xs,hlen with
 | [x0,x1,x2],_ =>
  have f0:=hf 0 (by omega);have f1:=hf 1 (by omega);have f2:=hf 2 (by omega);simp only[JS,List.map_cons,List.map_nil,Jf,DataW.agg.injEq,Ko,and_true] at hx;obtain⟨⟨e0,e1,e2⟩,_⟩:=hx;obtain⟨d0,p0⟩:=x0;obtain⟨d1,p1⟩:=x1;obtain⟨d2,p2⟩:=x2;simp only at e0 e1 e2;subst e0 e1 e2;have g0:=jJ f0;have g1:=jJ f1;have g2:=jJ f2;obtain⟨l⟩:=cs
  match l,hl with
  | [v0,v1,v2,v3,v4,v5],_ =>
   simp at g0 g1 g2;obtain⟨rfl,rfl⟩:=g0;obtain⟨rfl,rfl⟩:=g1;obtain⟨rfl,rfl⟩:=g2;have hc:=λi=>World.var?_cell gTab hvar i;have c0:=hc 0;have c1:=hc 1;have c2:=hc 2;have c3:=hc 3;have c4:=hc 4;have c5:=hc 5;simp at c0 c1 c2 c3 c4 c5;refine⟨c0,c1,c2,c3,c4,c5,?_⟩;by_cases hs:2<W.heap.size
   ·exact hs
   ·exfalso
    have:W.heap[2]?=G0:=Array.getElem?_eq_none (by omega)
    simp[J7,this] at c0
theorem gBar : Tryz.prog.globalNamed "isthmus/emit.bare" = G1 0 := by kernel_rfl
theorem BK:(Tryz.prog.globals[0]?).map (·.type)=G1 181:=by kernel_rfl
theorem BG:Tryz.prog.cellsOf 181=25:=by kernel_rfl
def Ca:List Int:=[0,0,0,0,0,0,4,5,6,7,8,9,10,0,0,0,0,0,0,0,0,0,20,0,22]
def barD:List (JO Unit):=(List.range 25).map λj=>.lit (.int .i64 (Ca.getD j 0))
theorem D6:(J6:JO Unit)=.agg barD:=by rfl
theorem nt {W : G9} {r : List (String × JO Unit)} (h : laidMet G5 (("isthmus/emit.bare", J6) :: r) W) : (∀ k : Nat, k < 25 → W.cell? ⟨0, k, G0⟩ = G1 (.int .i64 (Ca.getD k 0))) ∧ 0 < W.heap.size := by
 rw[D6] at h;obtain⟨ps,⟨g',t',cs,fuel,p,q,hg',ht',hvar,hd,_,_⟩,_⟩:=h;obtain rfl:=J0 (gBar.symm.trans hg');obtain rfl:=J0 (BK.symm.trans ht');obtain⟨xs,m,_,hx,hl,hlen,hf⟩:=DataW.trod_array Tryz.underlying181 hd;rw[BG] at hl;simp only[oD,Nat.mul_one] at hf;simp only[Jf,DataW.agg.injEq] at hx;have hc:=λi=>World.var?_cell gBar hvar i;have key:∀ o,o<25->cs[o]?=G1 (.int .i64 (Ca.getD o 0)):=λo ho=>by
  have hfi:=hf o ho;have hxi:xs[o]?=G1 xs[o]:=Hd (by omega);rw[hxi] at hfi;obtain⟨z,c0,r0,_⟩:=DataW.trod_int Jk hfi;have hd:(xs.map (·.1))[o]?=G1 (.lit (.int .i64 z)):=by rw[ID,hxi,r0];rfl
  rw[<-hx.1] at hd;unfold barD at hd;rw[ID,List.getElem?_range ho] at hd;simp only[Option.map_some,Ji,DataW.lit.injEq,Lit.int.injEq,JM] at hd;have h0:((cs.toList.drop o).take 1)[0]?=G1 (.int .i64 z):=by rw[c0];rfl
  simp only[List.getElem?_take,List.getElem?_drop] at h0;rw[hd];simpa using h0
 refine⟨λo ho=>(hc o).trans (key o ho),?_⟩;by_cases hs:0<W.heap.size
 ·exact hs
 ·exfalso;have h0:=(hc 0).trans (key 0 (by omega))
  have:W.heap[0]?=G0:=Array.getElem?_eq_none (by omega)
  simp[J7,this] at h0
theorem pI {W : G9} (h : laidMet G5 [("isthmus/pack.fields", JS), ("isthmus/lex.words", J5), ("isthmus/emit.bare", J6)] W) : lC W := ⟨qR h, (nt h.tail.tail).1, (nt h.tail.tail).2⟩
def GR:Array He:=((List.range 25).map λj=>Hp .i64 (Ca.getD j 0)).toArray
def lH (P:JT)(os:Os):G9 :=
 let w0:=World.holding P os ⟨#[],#[],[]⟩
 { w0 with heap:=((w0.heap.modify 2 (pv #[.int .u64 56,.int .u64 255,.int .u64 28,.int .u64 268435455,.int .u64 0,.int .u64 268435455])).modify 3 (pv eL)).modify 0 (pv GR) }
theorem vZ {s:ByteArray}{a:List UInt8}(h:s.data.toList=a):Value.string s=stv a:=by
 subst h;rfl
def rawP (n:Int)(nm:List UInt8)(a:Int)(len:Nat):Prop:=-9223372036854775808<=n/\n<=9223372036854775807/\nm.length<=Hu/\-9223372036854775808<=a/\a<=9223372036854775807/\len<=Hu
def Fs.raw:Fs->Prop
 | ⟨G0⟩=>True
 | ⟨G1 ⟨_,n,nm,a,ks,r⟩⟩=>rawP n nm a ks.len/\ks.raw/\r.raw
def Ex.raw (e:Ex):Prop:=rawP e.n e.nm e.a e.kids.len/\e.kids.raw
theorem Fs.raw_wide:∀ {f:Fs},f.raw->f.wide
 | ⟨G0⟩,h=>trivial
 | ⟨G1 ⟨k,n,nm,a,ks,r⟩⟩,h=>⟨h.1.2.2.2.2.2,Fs.raw_wide (f:=ks) h.2.1,Fs.raw_wide (f:=r) h.2.2⟩
theorem Fs.len_size':∀ (x:Fs),x.len<=x.size
 | ⟨G0⟩=>G4 _
 | ⟨G1 ⟨k,n,nm,a,ks,r⟩⟩=>by have:=Fs.len_size' r;show r.len+1<=ks.size+r.size+1;omega
theorem Fs.raw_fit:∀ {f:Fs},f.raw->f.size<=100000000->f.short/\f.rng
 | ⟨G0⟩,h,hs=>⟨trivial,trivial⟩
 | ⟨G1 ⟨k,n,nm,a,ks,r⟩⟩,h,hs=>by
  have hs:ks.size+r.size+1<=100000000:=hs;have h1:=Fs.raw_fit (f:=ks) h.2.1 (by omega);have h2:=Fs.raw_fit (f:=r) h.2.2 (by omega)
  have:=Fs.len_size' ks
  exact⟨⟨h.1.2.2.1,by omega,h1.1,h2.1⟩,⟨h.1.1,h.1.2.1,h1.2,h2.2⟩⟩
theorem Ex.raw_fit {e:Ex}(h:e.raw)(hs:e.kids.size<=100000000):e.fit:=by
 obtain⟨h1,h2⟩:=Fs.raw_fit h.2 hs
 have:=Fs.len_size' e.kids
 exact⟨h.1.2.2.1,h1,by omega,h.1.1,h.1.2.1,h2⟩
theorem lT (b off j:Nat):(⟨b,off,G0⟩:Hw).add j=⟨b,off+j,G0⟩:=by
 unfold JA;split
 ·subst j;simp_all
 ·rfl
theorem mm:Tryz.prog.cellsOf 34=4:=by kernel_rfl
theorem Cp:Tryz.prog.cellsOf 32=1:=by kernel_rfl
theorem Cv:Tryz.prog.cellsOf 35=1:=by kernel_rfl
theorem Dq:Tryz.prog.cellsOf 37=5:=by kernel_rfl
theorem xM {H:Type}{enc:Il × He->H}{W:G9}{sp:Nat->Bool}{held:Bool}:∀ (fuel:Nat) (cs:List He) (x:JO H × List JD),DataW.trod enc G5 W 0 sp held fuel 34 cs=G1 x->(∀ q ∈ x.2,q.block<W.heap.size) ->
  ∃(e:Ex) (ao:Option Hw) (cap:Nat),cs=[.int .i64 e.k,.int .i64 e.n,stv e.nm,.slice ao e.kids.len cap]/\SnA W e.kids ao/\e.raw:=by
 intro fuel
 induction fuel using Nat.strongRecOn with
 | _ fuel IH =>
 intro cs x h hlt;obtain⟨xs,k,hk,hxy,hl,hxl,hff⟩:=DataW.trod_struct Tryz.underlying34 h;rw[mm] at hl
 match xs,hxl,cs,hl with
 | [y0,y1,y2,y3],_,[u0,u1,u2,u3],_ =>
  have g0:=hff 0 _ rfl;have g1:=hff 1 _ rfl;have g2:=hff 2 _ rfl;have g3:=hff 3 _ rfl;simp[oD,tC,Cp] at g0 g1 g2 g3;obtain⟨z0,e0,x0,w0⟩:=DataW.trod_int Jk g0;obtain⟨z1,e1,x1,w1⟩:=DataW.trod_int Jk g1;obtain⟨z2,e2,x2,w2⟩:=DataW.trod_string Je g2;simp at e0 e1 e2;have b1:=yZ w1;have hz2:(z2.data.toList).length<=Hu:=by rw[fk];exact w2
  have hlt3:∀ q ∈ y3.2,q.block<W.heap.size:=λq hq=>hlt q (by rw[hxy];simp[hq]);rcases DataW.trod_slice Tryz.underlying32 g3 with ⟨hs,_⟩|⟨a,len,cap,elems,rest,n,hn,hs,hx3,_,hlc,hcm,hel,hE,_,_⟩
  ·simp at hs;refine⟨⟨z0,z1,z2.data.toList,0,.nil⟩,G0,0,?_,.inl rfl,⟨b1.1,b1.2,hz2,by show -9223372036854775808<=(0:Int);decide,by show (0:Int)<=9223372036854775807;decide,by show 0<=_;omega⟩,trivial⟩;rw[e0,e1,e2,hs,vZ rfl];rfl
  ·simp at hs;obtain⟨b,off,spot⟩:=a;have each:∀ i,i<len->∃(e:Ex) (ak:Option Hw) (ck:Nat),spot=G0/\b<W.heap.size/\(∀ j u,([.int .i64 e.k,.int .i64 e.n,stv e.nm,.slice ak e.kids.len ck]:List He)[j]?=G1 u->W.cell? ⟨b,off+i*4+j,G0⟩=G1 u)/\SnA W e.kids ak/\e.raw:=by
    intro i hi;have hEi:=hE i hi;rw[Hd (by omega),mm] at hEi;obtain⟨cs',h1,h2⟩:=Option.bind_eq_some_iff.1 hEi;obtain⟨_,hlen,hcell⟩:=World.cells?_some h1;have hsub:∀ q ∈ (elems[i]'(by omega)).2,q.block<W.heap.size:=λq hq=>hlt3 q (by
     rw[hx3];simp only[List.mem_append,List.mem_flatMap];exact .inr ⟨_,.inl (IU _),hq⟩)
    obtain⟨e,ak,ck,hcs,SK,hr⟩:=IH n (by omega) cs' _ h2 hsub;have hspot:spot=G0:=by
     have hE0:=hE 0 (by omega);rw[Hd (by omega),mm] at hE0;obtain⟨cs0,k1,k2⟩:=Option.bind_eq_some_iff.1 hE0;obtain⟨_,klen,kcell⟩:=World.cells?_some k1;have k3:=kcell 0 (by omega);rw[Hd (by omega)] at k3;simpa [JA] using World.cell?_spot k3
    subst hspot;have hbl:b<W.heap.size:=hlt3 (.cell b off) (by
     rw[hx3];exact Jo _ (MemPlace.mem_row.2 ⟨0,by rw[mm];omega,by simp⟩))
    refine⟨e,ak,ck,rfl,hbl,λj u hu=>?_,SK,hr⟩;rw[<-hcs] at hu;have hj:j<4:=by
     by_cases hj:j<4
     ·exact hj
     ·rw[Ie (by omega)] at hu;cases hu
    have:=hcell j hj
    rw[lT,lT,hu] at this;exact this
   have build:∀ m,m<=len->∃f:Fs,f.len=m/\f.raw/\(m=0\/spot=G0/\b<W.heap.size)/\∃zs,(∀ j u,zs[j]?=G1 u->W.cell? ⟨b,off+(len-m)*4+j,G0⟩=G1 u)/\FcN W (λ_=>True) f zs:=by
    intro m
    induction m with
    | zero=>intro _;exact⟨.nil,rfl,trivial,.inl rfl,[],λj u hu=>by simp at hu,rfl⟩
    | succ m ih =>
     intro hm;obtain⟨f,f1,f2,_,zs,f3,f4⟩:=ih (by omega);obtain⟨e,ak,ck,s1,s2,s3,s4,s5⟩:=each (len-(m+1)) (by omega);refine⟨.cons e.k e.n e.nm e.a e.kids f,by show f.len+1=_;rw[f1],⟨s5.1,s5.2,f2⟩,.inr ⟨s1,s2⟩,.int .i64 e.k::.int .i64 e.n::stv e.nm::.slice ak e.kids.len ck::zs,λj u hu=>?_,ak,ck,zs,rfl,s4,f4⟩;by_cases hj:j<4
     ·refine s3 j u ?_;rw[<-hu]
      match j,hj with
      | 0,_=>rfl
      | 1,_=>rfl
      | 2,_=>rfl
      | 3,_=>rfl
     ·obtain⟨i,rfl⟩:∃i,j=i+4:=⟨j-4,by omega⟩
      have:=f3 i u (by simpa using hu)
      rw[show off+(len-(m+1))*4+(i+4)=off+(len-m)*4+i by
       have:len-m=len-(m+1)+1:=by omega
       rw[this];omega]
      exact this
   obtain⟨f,f1,f2,f5,zs,f3,f4⟩:=build len (G4 _);have hcm':len<=Hu:=In hlc hcm;refine⟨⟨z0,z1,z2.data.toList,0,f⟩,G1 ⟨b,off,spot⟩,cap,?_,?_,⟨b1.1,b1.2,hz2,by show -9223372036854775808<=(0:Int);decide,by show (0:Int)<=9223372036854775807;decide,by show f.len<=_;rw[f1];exact hcm'⟩,f2⟩
   ·show _=[Hp .i64 z0,.int .i64 z1,stv z2.data.toList,.slice (G1 ⟨b,off,spot⟩) f.len cap];rw[e0,e1,e2,hs,vZ rfl,f1]
   ·rcases f5 with h0|⟨rfl,hb⟩
    ·refine .inl ?_;rw[h0] at f1;cases f using Fs.on with
     | nil=>rfl
     | Js k n nm a ks r=>cases f1
    ·refine .inr ⟨b,off,zs,rfl,trivial,hb,λj u hu=>?_,f4⟩
     have:=f3 j u hu
     rw[Kk,I4,Is] at this;exact this
def DO (cells:List Int):Prop:=cells.length<=Hu/\∀ c,c ∈ cells->-9223372036854775808<=c/\c<=9223372036854775807
theorem yO {H:Type}{enc:Il × He->H}{W:G9}{v:He}{d:JO H}{ps:List JD}(h:DataW.Trod enc G5 W 0 (λ_=>true) true 37 v d ps)(hlt:∀ q ∈ ps,q.block<W.heap.size) :
  ∃(e:Ex) (ao:Option Hw) (cap:Nat) (cv:He) (cells:List Int),v=plV e ao cap cv/\SnA W e.kids ao/\e.raw/\InA W cv cells/\DO cells:=by
 obtain⟨fuel,hf⟩:=h;obtain⟨xs,k,hk,hxy,hl,hxl,hff⟩:=DataW.trod_struct Tryz.underlying37 hf;rw[Dq] at hl;obtain⟨cs,hcs⟩:∃cs,cs=v.cells.toList:=⟨_,rfl⟩;rw[<-hcs] at hl hff
 match xs,hxl,cs,hl with
 | [y0,y1],_,[u0,u1,u2,u3,u4],_ =>
  have g0:=hff 0 _ rfl;have g1:=hff 1 _ rfl;simp[mm,Cv] at g0 g1;have hp0:∀ q ∈ y0.2,q.block<W.heap.size:=λq hq=>hlt q (by
   have h2:ps=[y0,y1].flatMap (·.2):=congrArg Prod.snd hxy;rw[h2];simp[hq])
  have hp1:∀ q ∈ y1.2,q.block<W.heap.size:=λq hq=>hlt q (by
   have h2:ps=[y0,y1].flatMap (·.2):=congrArg Prod.snd hxy;rw[h2];simp[hq])
  obtain⟨e,ao,cap,hc4,S,R⟩:=xM _ _ _ g0 hp0;obtain⟨cv,cells,hcv,IN,RI⟩:∃(cv:He) (cells:List Int),u4=cv/\InA W cv cells/\DO cells:=by
   rcases open_ints Iu Jk oD g1 with ⟨hcs,hx⟩|⟨a,len',cap',zs,hcs,_,hl,hm,hz,hx,hcell,hwz⟩
   ·simp at hcs;exact⟨_,[],hcs,⟨G0,0,rfl,.inl rfl⟩,by simp[DO]⟩
   ·simp at hcs;simp only[if_true] at hz;refine⟨_,zs.take len',hcs,?_,by simp[DO];exact⟨by omega,λc hc=>by have:=yZ (hwz c (List.mem_of_mem_take hc));omega⟩⟩;obtain⟨b,off,spot⟩:=a;refine⟨G1 ⟨b,off,spot⟩,cap',by simp;omega,?_⟩;by_cases h0:len'=0
    ·exact .inl (by simp[h0])
    ·refine .inr ?_;have hspot:spot=G0:=by simpa [JA] using World.cell?_spot (hcell 0 (by omega))
     subst hspot;have hbW:b<W.heap.size:=hp1 (.cell b off) (by
      rw[hx];exact MemPlace.mem_row.2 ⟨0,by omega,by simp⟩)
     refine⟨b,off,rfl,trivial,hbW,λj x hj=>?_⟩;rw[List.getElem?_take] at hj;split at hj
     ·rename_i hjl
      have h3:=hcell j (by omega);rw[lT,Ib,hj] at h3;exact h3
     ·cases hj
  refine⟨e,ao,cap,cv,cells,?_,S,R,IN,RI⟩;subst hcv;have hcs':v.cells=#[.int .i64 e.k,.int .i64 e.n,stv e.nm,.slice ao e.kids.len cap,u4]:=by
   apply Array.toList_inj.1;rw[<-hcs];simp at hc4;obtain⟨rfl,rfl,rfl,rfl⟩:=hc4;rfl
  cases v with
  | agg cs=>rw[show (Value.agg cs).cells=cs from rfl] at hcs';rw[hcs'];rfl
  | _=>have h5:=congrArg Array.size hcs';simp[Value.cells] at h5
end Go.Proofs.YtkhgahljbpmfaaaGreatDoor
namespace Go.Proofs.YtkhgahljbpmfaaaGreatDoor.emitPlans
open Go.ChangeShapes Go.WideShapes Go.ChangeAt Go.RowKit
open Go.ChangeMaps (open_string shut_string)
set_option linter.unusedVariables false
theorem contract (H:Type)(enc:Il × He->H)(W:G9)(base:Nat)(args:Array He)(ds gs:List (JO H))(before:List JD)
  (hval:∀ (j:Nat) t v,Tryz.f4.params[j]?=G1 t->args[j]?=G1 v->Value.okWide G5 W .any base t v)
  (hW:DataW.Whole enc G5 Tryz.f4.params.toList Rows.emitPlansSpec.vars false W args.toList ds gs before)
  (hsz:(DataW.weightsEach G5 (Tryz.f4.params.toList++(J4 Rows.emitPlansSpec).bare.plain.varTypes G5) (ds++gs)).all (·<=reachBytes)=true) (hL:laidMetH G5 Rows.emitPlansRow.laid W) :
  Hn G5 4 args W λe W'=>∃v,e=.returned v/\Rows.emitPlansSpec.post enc G5 Tryz.f4 false true false false W args v W':=by
 have hW':=hW;obtain⟨p,q,hA0,hV,rfl,hfz,hnd⟩:=hW;have hA:DataW.TrodAll enc G5 W 0 (λ_=>true) true Tryz.f4.params.toList args.toList ds p:=hA0;rw[Tryz.params4] at hA hval hsz;obtain⟨v0,vs0,d0,ds0,p0,q0,hargs,rfl,rfl,h0,r0⟩:=trodAll_cons hA;obtain⟨rfl,rfl,rfl⟩:=trodAll_nil r0;obtain rfl:args=#[v0]:=by cases args;simp_all
 obtain⟨rfl,rfl⟩:=trodVars_none hV;clear hA0;simp only[J1] at hW';have hlt0:∀ x ∈ p0,x.block<W.heap.size:=λx hx=>by simpa using hW'.lt x (by simp[hx])
 obtain⟨e0,ao0,cap0,cv0,cells0,rfl,SX0,RX0,IC0,RI0⟩:=yO h0 hlt0;refine(pz e0 ao0 cap0 cv0 cells0   W RX0.1.2.2.2.2.2 (Fs.raw_wide RX0.2) (λh=>⟨⟨(Ex.raw_fit RX0 h).nm,(Ex.raw_fit RX0 h).len,(Ex.raw_fit RX0 h).sh⟩,⟨(Ex.raw_fit RX0 h).n1,(Ex.raw_fit RX0 h).n2⟩,(Ex.raw_fit RX0 h).rng⟩) SX0 IC0 RI0.1  (ux hL.tail) (pI hL)).mono λe W' ⟨he,hnx⟩=>?_;subst he;exact⟨_,rfl,_,_,_,[],(p0++[]),[],hW',trodAll_cons_mk (shut_bool Tryz.underlying4 _) trodAll_mk0,(trodAll_cons_mk (Below.trod DT (by kernel_rfl) (of_decide_eq_true (by kernel_rfl)) h0 hnx hlt0) trodAll_mk0),rfl,hnx.frame _,λh=>by cases h⟩
theorem laid_met (os:Os):laidMet G5 Rows.emitPlansRow.laid ((lH G5 os).forCall (λ_ _=>0) ⟨#[],#[.agg #[.int .i64 0,.int .i64 0,.string ByteArray.empty,.slice G0 0 0,.slice G0 0 0]],[]⟩).memory :=
 laidMet_of_run' 8 (by kernel_rfl) (by kernel_rfl)
theorem reads (os:Os){H:Type}(enc:Il × He->H):∃places,DataW.whole enc G5 ((lH G5 os).forCall (λ_ _=>0) ⟨#[],#[.agg #[.int .i64 0,.int .i64 0,.string ByteArray.empty,.slice G0 0 0,.slice G0 0 0]],[]⟩).memory Tryz.f4.params.toList Rows.emitPlansSpec.vars false (#[.agg #[.int .i64 0,.int .i64 0,.string ByteArray.empty,.slice G0 0 0,.slice G0 0 0]]:Array He).toList 8=G1 ([.agg [.agg [.lit (.int .i64 0),.lit (.int .i64 0),.lit (.string []),.nil],.nil]],[],places) :=
 ⟨[],by kernel_rfl⟩
theorem lifted (os:Os)(started:os.Started)(H:Type)(enc:Il × He->H)(F:Stop.Interp) :
  ReturnsInHanded {} Tryz.checked os 4 .any ((J4 Rows.emitPlansSpec).preRow enc G5 Tryz.f4 Rows.emitPlansRow.domain false Rows.emitPlansRow.laid) (((J4 Rows.emitPlansSpec).at F).post enc G5 Tryz.f4 false true false false):=by
 obtain⟨places,hx⟩:=reads os enc;refine returnsInHanded_of_row (C:=Tryz.checked) (s:=J4 Rows.emitPlansSpec) ownK started (by kernel_rfl) Tryz.func4
  (witness_row_at (enc:=enc) (C:=Tryz.checked) false (lH G5 os) #[.agg #[.int .i64 0,.int .i64 0,.string ByteArray.empty,.slice G0 0 0,.slice G0 0 0]] rfl (by kernel_rfl) (by kernel_rfl) (by kernel_rfl)
   (OpenSpec.preRow_of_cond 8 hx (by kernel_rfl) (λk hk=>by cases hk) (by kernel_rfl) (laid_met os))) ?_
 intro W base args ds gs before hval hW _ _ hsz hL _ _;exact contract H enc W base args ds gs before hval hW hsz hL
theorem facts:joinedFacts Tryz.pinned.checked.prog 4 Tryz.f4 (J4 Rows.emitPlansSpec).bare Rows.emitPlansRow=true:=by
 unfold joinedFacts;simp only[Ia]
 repeat' apply And.intro
 all_goals (as_aux_lemma=>kernel_rfl)
end Go.Proofs.YtkhgahljbpmfaaaGreatDoor.emitPlans

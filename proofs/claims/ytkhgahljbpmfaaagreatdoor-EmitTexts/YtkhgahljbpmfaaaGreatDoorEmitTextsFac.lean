import Derived.Test.YtkhgahljbpmfaaaGreatDoorDocF
import Derived.SizedLaws
import Derived.Stop.LaidErr
import Derived.ShutString
import Derived.Deep.DeepHandedRow
import Derived.Test.YtkhgahljbpmfaaaGreatDoorCards
import Derived.Test.YtkhgahljbpmfaaaGreatDoorTie
set_option maxRecDepth 100000
set_option maxHeartbeats 8000000
open Option renaming none->GA,some->GB
open Nat renaming le_refl->GC,lt_of_lt_of_le->GM,le_trans->Hn,not_lt_zero->Hr,add_zero->Hs,le_succ->Hv,zero_add->Hx,le_of_lt->Im,zero_mul->IB,zero_le->Jh,add_sub_cancel_left->Jp,one_mul->JF,lt_or_ge->JJ,lt_of_succ_lt->J5
open Go.Proofs.Tryz renaming prog->GD,results112->Hg,underlying35->Hu,underlying9->IL,underlying3->IS,underlying40->I2
open Go renaming World->GE,lt_of_block->GF,bodyPost_ret->GG,heap_alloc_new->GH,Value->GJ,heap_setCell_other->GP,Calls->GR,maxLen->GY,Addr->G1,TypeId->Hl,heap_alloc_old->In,Ending->IG,madeCells->II,MemPlace->Jc,DataW->Jm,Program->Jr
open List renaming getElem?_eq_getElem->GI,getD_eq_getElem?_getD->Hb,getElem?_eq_none->He,replicate->Hk,getElem?_map->Ie,getElem?_append_right->Ig,mem_of_getElem?->Is,getElem?_append_left->Iu,nil_append->Iy,take_succ_eq_append_getElem->IR,eq_nil_of_length_eq_zero->I1,ext_getElem?->Jj,append_nil->Jz,take_length->JK,map_append->JU
open Go.RowKit renaming Below->GK,intOf->Hh
open Go.Lib renaming hid->GL
open Go.RowKit.Below renaming refl->GN,heap_alloc->GO
open Bool renaming and_eq_true->Ha
open Go.World renaming cell?_of_block->GS,cell?->JE
open Go.Value renaming int->GT,ownBlock->Jo
open Exists renaming intro->G0
open Int renaming toNat_natCast->If
open Go.IntKind renaming wrap_i64->Ii
open Go.Act renaming put->Ip,eval->JY
open Go.Value.slice renaming injEq->Ir
open Prod.mk renaming injEq->IM
open Option.some renaming injEq->IQ,inj->Jy
open Go.Addr renaming add->I8
open Go.Proofs.YtkhgahljbpmfaaaGreatDoor.Rows renaming laid_isthmus_pack_fields->Jq,laid_isthmus_lex_words->JC,laid_isthmus_emit_bare->JD
open Go.OpenSpec renaming ofChange->JB
open List.cons renaming injEq->JV
namespace Go.Proofs.YtkhgahljbpmfaaaGreatDoor
open Go.ChangeShapes Go.WideShapes Go.ChangeAt Go.RowKit
set_option linter.unusedVariables false
set_option linter.unusedSimpArgs false
theorem fF {cells:List Int}{k n:Int}{nm:List UInt8}{a:Int}{f:Fs}{ar c:Nat}{s:Rg}(m g:Int)(o:eg k n nm f.len=true)(j:s.1+1<=4096)(i:c<=4)(h5:k=5->n<(ar:Int))(d:k≠21)(b:k≠26)(l:∀ kd:List Int,kd.length=f.len->eG k n kd=(Hk f.len m,g))(q:g≠0)(p:g≠4) :
  fJ cells ⟨k,n,nm,a,f⟩ ar c s=anD (fy cells f (GB (s.1+1,s.2)) m ar c) g :=
 vV (Bh (e:=⟨k,n,nm,a,f⟩) m g (ld (e:=⟨k,n,nm,a,f⟩) o j i h5 (λh=>absurd h b)) d b l q) p
theorem CH {cells:List Int}{n:Int}{nm:List UInt8}{a:Int}{f:Fs}{ar b:Nat}{s:Rg}(h:(ar:Int)<=n):fJ cells ⟨5,n,nm,a,f⟩ ar b s=GA :=
 lm (jR (λc=>c (.inr (.inr (.inr (by simp[nuP];omega))))))
theorem nK {cells:List Int}{k n:Int}{nm:List UInt8}{a:Int}{f:Fs}{ar b:Nat}{s:Rg}(h:22<=k/\k<=25):fJ cells ⟨k,n,nm,a,f⟩ ar b s=GA:=by
 unfold fJ;cases c:rgE cells ⟨k,n,nm,a,f⟩ ar b s with
 | none=>rfl
 | some z =>
  obtain⟨s',g⟩:=z;obtain⟨-,e,kd,-,-,-,-,h5,-⟩:=gK c;simp only at h5 ⊢;rw[if_pos];rw[h5];have d:k=22\/k=23\/k=24\/k=25:=by omega
  rcases d with rfl|rfl|rfl|rfl<;>rfl
theorem qD {cells:List Int}{k n:Int}{nm:List UInt8}{a:Int}{x y:Ex}{ar b:Nat}{s:Rg}(j:k=13\/k=14)(m:eg k n nm 2=true)(i:s.1+1<=4096)(g:b<=4) :
  fJ cells ⟨k,n,nm,a,Fs.ex x (Fs.ex y .nil)⟩ ar b s=(match fJ cells x ar b (s.1+1,s.2) with|none=>GA|some (d,k0)=>anD (eS cells (GB d) k0 y ar b) 2):=by
 have l:=ld (cells:=cells) (ar:=ar) (e:=⟨k,n,nm,a,Fs.ex x (Fs.ex y .nil)⟩) (s:=s) m i g (λh=>absurd h (by simp only;omega)) (λh=>absurd h (by simp only;omega));unfold fJ;rw[zc j l];cases rgE cells x ar b (s.1+1,s.2) with
 | none=>rfl
 | some z =>
  obtain⟨d,f⟩:=z;simp only;by_cases c:f=4
  ·rw[if_pos c,if_pos c]
  ·rw[if_neg c,if_neg c];simp only;cases eS cells (GB d) f y ar b with
   | none=>rfl
   | some s2=>rfl
theorem tI {cells:List Int}{n:Int}{nm:List UInt8}{a:Int}{x y z:Ex}{ar b:Nat}{s:Rg}(k:eg 19 n nm 3=true)(i:s.1+1<=4096)(g:b<=4) :
  fJ cells ⟨19,n,nm,a,Fs.ex x (Fs.ex y (Fs.ex z .nil))⟩ ar b s=(match eS cells (GB (s.1+1,s.2)) 2 x ar b with|none=>GA|some s0=>match fJ cells y ar b s0 with|none=>GA|some (d,k0)=>anD (eS cells (GB d) k0 z ar b) k0):=by
 have j:=ld (cells:=cells) (ar:=ar) (e:=⟨19,n,nm,a,Fs.ex x (Fs.ex y (Fs.ex z .nil))⟩) (s:=s) k i g (λh=>absurd h (by simp only;omega)) (λh=>absurd h (by simp only;omega));unfold fJ;rw[xZ j];cases eS cells (GB (s.1+1,s.2)) 2 x ar b with
 | none=>rfl
 | some s0 =>
  simp only;cases rgE cells y ar b s0 with
  | none=>rfl
  | some u =>
   obtain⟨d,f⟩:=u;simp only;by_cases c:f=4
   ·rw[if_pos c,if_pos c]
   ·rw[if_neg c,if_neg c];simp only;cases eS cells (GB d) f z ar b with
    | none=>rfl
    | some s2=>simp only[anD];rw[if_neg c]
theorem yE {cells:List Int}{n:Int}{nm:List UInt8}{a:Int}{t x:Ex}{ar b:Nat}{s:Rg}(c:eg 21 n nm 2=true)(f:s.1+1<=4096)(d:b<=4) :
  fJ cells ⟨21,n,nm,a,Fs.ex t (Fs.ex x .nil)⟩ ar b s=anD (eS cells (eS cells (GB (s.1+1,s.2)) 4 t ar (b+1)) (fC n) x (ar+1) (b+1)) (fq n):=by
 have i:=ld (cells:=cells) (ar:=ar) (e:=⟨21,n,nm,a,Fs.ex t (Fs.ex x .nil)⟩) (s:=s) c f d (λh=>absurd h (by simp only;omega)) (λh=>absurd h (by simp only;omega));have g:1<=n/\n<=6:=by simp[eg] at c;omega
 exact vV (zJ i g) (by unfold fq;split<;>omega)
theorem Ao {cells:List Int}{n:Int}{nm:List UInt8}{a:Int}{x:Ex}{ar c:Nat}{s:Rg}(l:eg 26 n nm 1=true)(k:s.1+1<=4096)(j:c<=4) :
  fJ cells ⟨26,n,nm,a,Fs.ex x .nil⟩ ar c s=lr cells n x ar c (s.1+1,s.2):=by
 unfold lr;by_cases f:0<=n/\n<(cells.length:Int)
 ·have d:=ld (cells:=cells) (ar:=ar) (e:=⟨26,n,nm,a,Fs.ex x .nil⟩) (s:=s) l k j (λh=>absurd h (by simp only;omega)) (λ_=>f);rw[if_pos f];unfold fJ;rw[DG d];cases rgE cells x ar c (s.1+1,s.2) with
  | none=>rfl
  | some z =>
   obtain⟨g,i⟩:=z;simp only;by_cases b:i=4
   ·rw[if_pos b,if_pos b]
   ·rw[if_neg b,if_neg b];simp only;cases fO cells n (Fs.ex x .nil) ar g with
    | none=>rfl
    | some s2=>simp only[anD];rw[if_neg b]
 ·rw[if_neg f];exact lm (jR (λd=>d (.inr (.inr (.inr (by simp[nuP];omega))))))
def jm (cells:List Int)(st:Dg)(e:Ex)(ar a:Nat):Option (Rg × Int):=match st with|none=>GA|some s=>fJ cells e ar a s
theorem pc {N:Nat}(k:ms N)(e:Ex)(ao:Option G1)(cap wb a:Nat)(bv:GJ)(cells:List Int)(ar b:Nat)(st:Dg)(w:GE)(j:e.kids.size<N)(i:fs e)(c:b<=4)(f:ar<=b)(d:wb≠a)(h:WD w wb a bv cells.length st)(g:Inw w (Nf2 wb a) bv cells)(S:SlN w (Nf2 wb a) e.kids ao) :
  GR GD 112 #[.pointer (GB ⟨wb,0,GA⟩),exN e ao cap,.int .i64 ar,.int .i64 b] w (eA w wb a bv cells.length (jm cells st e ar b)):=by
 cases st with
 | none=>exact sW e ao cap wb a bv cells.length ar b w h
 | some s=>exact k e ao cap wb a bv cells ar b s w j i c f d h g S
theorem pC {cells:List Int}{st:Dg}{e:Ex}{ar a:Nat}{s:Rg}{k:Int}(h:jm cells st e ar a=GB (s,k)):k≠4:=by
 unfold jm at h;cases st with
 | none=>cases h
 | some s0 =>
  simp only[fJ] at h;cases b:rgE cells e ar a s0 with
  | none=>rw[b] at h;cases h
  | some z =>
   obtain⟨s',c⟩:=z;rw[b] at h;simp only at h;split at h
   ·cases h
   ·injection h with h
    injection h with h1 h2
    omega
theorem uw {N:Nat}(V:ms N):ms (N+1):=by
 intro e ao cap wb B bv cells ar q s w hN o j J I h hn S;obtain⟨k0,n,nm,a,f⟩:=e;simp only at hN S;obtain⟨Z,hZ⟩:=exq (fJ cells ⟨k0,n,nm,a,f⟩ ar q s);rw[<-hZ];have t:Hid (Z=fJ cells ⟨k0,n,nm,a,f⟩ ar q s):=hZ;clear hZ;have az:=o.len;simp only at az;have B0:GK w.heap.size w (w.alloc (zNv k0 n nm ao f.len cap)):=(GN _ w).alloc (GC _) _;have E0:(w.alloc (zNv k0 n nm ao f.len cap)).heap[w.heap.size]?=GB (zNv k0 n nm ao f.len cap):=GH w _;have W0:=h.below B0;have S0:=S.belowP B0;have N0:=hn.below B0;have aH:=h.lt;have aK:=h.ltk;clear h S hn;rw[dS];go_enter Tryz.func112,Tryz.ntmps112;go_upto_region 1 with fail;generalize w.alloc (zNv k0 n nm ao f.len cap)=w0 at *;have KK:Kp wb B w w0:=Kp.ofBelow B0;obtain⟨bx,aC⟩:=exq w.heap.size;rw[<-aC] at E0 ⊢;have aa:bx≠wb:=by omega
 have ab:bx≠B:=by omega
 have aq:=W0.ltk;obtain⟨W0,hs,aF⟩:=W0;obtain⟨T,R,q2,Q,P⟩:=el W0;have F1:=(ke W0 (.int .i64 ((s.1:Int)+1))).1;have K1:=KK.set ⟨wb,1,GA⟩ (.int .i64 ((s.1:Int)+1)) (.inr (.inl rfl));have E1:=(GP w0 ⟨wb,1,GA⟩ bx (.int .i64 ((s.1:Int)+1)) aa).trans E0;have N1:=N0.set ⟨wb,1,GA⟩ (.int .i64 ((s.1:Int)+1)) rfl;have S1:=S0.set ⟨wb,1,GA⟩ (.int .i64 ((s.1:Int)+1)) rfl;have aj:=aF.set ⟨wb,1,GA⟩ (.int .i64 ((s.1:Int)+1)) rfl I;have aA:B<(w0.setCell ⟨wb,1,GA⟩ (.int .i64 ((s.1:Int)+1))).heap.size:=by simpa using aq
 clear aC aH aK B0 E0 KK N0 S0 aF W0;go_upto_region 2 with fail;generalize w0.setCell ⟨wb,1,GA⟩ (.int .i64 ((s.1:Int)+1))=w1 at *;clear T R q2 Q P aq;obtain⟨T,R,q2,Q,P⟩:=el F1;obtain⟨p0,p1,p2,p3,O⟩:=el E1;have c1:=BB ⟨k0,n,nm,a,f⟩ ao cap w1 o.nm;rw[dS] at c1;simp only at c1;have ag:∀ {w2:GE}{g:Int},Z=GA->GK w1.heap.size w1 w2->Hid (eA w wb B bv cells.length Z (.returned (.int .i64 g)) (w2.setCell ⟨wb,3,GA⟩ (.bool false))):=by
  intro w2 g hz b2;rw[hz];exact⟨⟨g,rfl,λs k h=>by cases h⟩,⟨by simpa using GM aA b2.size,_,_,(ke ((b2.block _ (GF F1)).trans F1) (.bool false)).2⟩,(K1.trans (Kp.ofBelow b2)).set _ _ (.inr (.inl rfl))⟩
 by_cases ax:4096<s.1+1
 ·have A:=ag (g:=0) (by rw[t.out];exact lm (jR (λhg=>hg (.inl ax)))) (GN _ w1);have hI:(4096:Int)<(s.1:Int)+1:=by omega
  clear ag t c1 p0 p1 p2 p3 N1 S1 E1 aj K1;go_wp2;exact GG (v:=.int .i64 0) (by simp[results,Hg,go_sem]) rfl A.out
 have hI:¬(4096:Int)<(s.1:Int)+1:=by omega
 go_wp2_with fail;refine c1.mono ?_;rintro x w2 ⟨rfl,b2⟩;have F2:=(b2.block _ (GF F1)).trans F1;have L:=(b2.block _ (GF E1)).trans E1;have G:=N1.below b2;have F:=S1.belowP b2;have aI:=aj;obtain⟨aO,av,-⟩:=aI;have aw:=aj.mono (b2.block _ (GF av)) (λi _ m=>b2.block i m) b2.size;have D:=K1.trans (Kp.ofBelow b2);cases l:eg k0 n nm f.len with
 | false =>
  have A:=ag (g:=0) (by rw[t.out];exact lm (sR (e:=⟨k0,n,nm,a,f⟩) l)) b2;clear c1 ag t T R q2 Q P p0 p1 p2 p3 O av;obtain⟨T,R,q2,Q,P⟩:=el F2;obtain⟨p0,p1,p2,p3,O⟩:=el L;clear F1 E1 N1 S1 aj K1 D aw G F F2 L;go_wp2;exact GG (v:=.int .i64 0) (by simp[results,Hg,go_sem]) rfl A.out
 | true =>
 have H:s.1+1<=4096:=by omega
 have E:WD w2 wb B bv cells.length (GB (s.1+1,s.2)):=⟨F2,H,aw⟩;have c:=λ(g:Int) (hz:Z=GA)=>ag (g:=g) hz b2;clear c1 ag T R q2 Q P p0 p1 p2 p3 O av F1 E1 N1 S1 aj K1 aw b2 hs aA ax hI;have aJ:=gQ l;obtain⟨p0,p1,p2,p3,O⟩:=el L;obtain⟨T,R,q2,Q,P⟩:=el F2;clear F2;go_upto_region 5 with fail;rcases aJ with rfl|rfl|rfl|rfl|rfl|rfl|rfl|rfl|rfl|rfl|rfl|rfl|rfl|rfl|rfl|rfl|rfl|rfl|rfl|rfl|rfl|rfl|rfl|rfl|rfl
 ·have m:f.len=0:=by simp[eg] at l;omega
  have A:Hid (eA w wb B bv cells.length Z (.returned (.int .i64 1)) w2):=by
   show eA w wb B bv cells.length Z (.returned (.int .i64 1)) w2;rw[t.out,fF 1 1 l H j (λh=>absurd h (by decide)) (by decide) (by decide) (λkd hk=>by rw[m];rfl) (by decide) (by decide)];exact fK (st:=GB (s.1+1,s.2)) (by rw[tj m];rfl) E D
  clear t c E G F D L l;go_wp2;exact GG (v:=.int .i64 1) (by simp[results,Hg,go_sem]) rfl A.out
 ·have m:f.len=0:=by simp[eg] at l;omega
  have A:Hid (eA w wb B bv cells.length Z (.returned (.int .i64 2)) w2):=by
   show eA w wb B bv cells.length Z (.returned (.int .i64 2)) w2;rw[t.out,fF 1 2 l H j (λh=>absurd h (by decide)) (by decide) (by decide) (λkd hk=>by rw[m];rfl) (by decide) (by decide)];exact fK (st:=GB (s.1+1,s.2)) (by rw[tj m];rfl) E D
  clear t c E G F D L l;go_wp2;exact GG (v:=.int .i64 2) (by simp[results,Hg,go_sem]) rfl A.out
 ·have m:f.len=0:=by simp[eg] at l;omega
  have A:Hid (eA w wb B bv cells.length Z (.returned (.int .i64 3)) w2):=by
   show eA w wb B bv cells.length Z (.returned (.int .i64 3)) w2;rw[t.out,fF 1 3 l H j (λh=>absurd h (by decide)) (by decide) (by decide) (λkd hk=>by rw[m];rfl) (by decide) (by decide)];exact fK (st:=GB (s.1+1,s.2)) (by rw[tj m];rfl) E D
  clear t c E G F D L l;go_wp2;exact GG (v:=.int .i64 3) (by simp[results,Hg,go_sem]) rfl A.out
 ·by_cases hv:(ar:Int)<=n
  ·have A:=c 3 (by rw[t.out];exact CH hv);clear t c E G F D L l;go_wp2;exact GG (v:=.int .i64 3) (by simp[results,Hg,go_sem]) rfl A.out
  have m:f.len=0:=by simp[eg] at l;omega
  have A:Hid (eA w wb B bv cells.length Z (.returned (.int .i64 3)) w2):=by
   show eA w wb B bv cells.length Z (.returned (.int .i64 3)) w2;rw[t.out,fF 1 3 l H j (λ_=>by omega) (by decide) (by decide) (λkd hk=>by rw[m];rfl) (by decide) (by decide)];exact fK (st:=GB (s.1+1,s.2)) (by rw[tj m];rfl) E D
  clear t c E G F D L l;go_wp2;exact GG (v:=.int .i64 3) (by simp[results,Hg,go_sem]) rfl A.out
 ·have m:f.len=1:=by simp[eg] at l;omega
  have b:Hid (Z=anD (fy cells f (GB (s.1+1,s.2)) 1 ar q) 1):=t.out.trans (fF 1 1 l H j (λh=>absurd h (by decide)) (by decide) (by decide) (λkd hk=>by rw[m];rfl) (by decide) (by decide));have c1:=λk=>jT V ⟨k,n,nm,a,f⟩ ao cap wb B bv cells ar q 1 1 (GB (s.1+1,s.2)) w2 (by simp only;omega) ⟨o.nm,o.len,o.sh⟩ j J I (by decide) E G F;simp only[dS] at c1;clear t c l m;go_wp2_with fail;refine(c1 _).mono ?_;rintro z w3 ⟨rfl,C,p⟩;have A:Hid (eA w wb B bv cells.length Z (.returned (.int .i64 1)) w3):=fK b.out C (D.trans p);clear c1 C p b p0 p1 p2 p3 O T R q2 Q P E G F D L;go_wp2;exact GG (v:=.int .i64 1) (by simp[results,Hg,go_sem]) rfl A.out
 ·have m:f.len=1:=by simp[eg] at l;omega
  have b:Hid (Z=anD (fy cells f (GB (s.1+1,s.2)) 2 ar q) 2):=t.out.trans (fF 2 2 l H j (λh=>absurd h (by decide)) (by decide) (by decide) (λkd hk=>by rw[m];rfl) (by decide) (by decide));have c1:=λk=>jT V ⟨k,n,nm,a,f⟩ ao cap wb B bv cells ar q 2 2 (GB (s.1+1,s.2)) w2 (by simp only;omega) ⟨o.nm,o.len,o.sh⟩ j J I (by decide) E G F;simp only[dS] at c1;clear t c l m;go_wp2_with fail;refine(c1 _).mono ?_;rintro z w3 ⟨rfl,C,p⟩;have A:Hid (eA w wb B bv cells.length Z (.returned (.int .i64 2)) w3):=fK b.out C (D.trans p);clear c1 C p b p0 p1 p2 p3 O T R q2 Q P E G F D L;go_wp2;exact GG (v:=.int .i64 2) (by simp[results,Hg,go_sem]) rfl A.out
 ·have m:f.len=2:=by simp[eg] at l;omega
  have b:Hid (Z=anD (fy cells f (GB (s.1+1,s.2)) 1 ar q) 1):=t.out.trans (fF 1 1 l H j (λh=>absurd h (by decide)) (by decide) (by decide) (λkd hk=>by rw[m];rfl) (by decide) (by decide));have c1:=λk=>jT V ⟨k,n,nm,a,f⟩ ao cap wb B bv cells ar q 1 1 (GB (s.1+1,s.2)) w2 (by simp only;omega) ⟨o.nm,o.len,o.sh⟩ j J I (by decide) E G F;simp only[dS] at c1;clear t c l m;go_wp2_with fail;refine(c1 _).mono ?_;rintro z w3 ⟨rfl,C,p⟩;have A:Hid (eA w wb B bv cells.length Z (.returned (.int .i64 1)) w3):=fK b.out C (D.trans p);clear c1 C p b p0 p1 p2 p3 O T R q2 Q P E G F D L;go_wp2;exact GG (v:=.int .i64 1) (by simp[results,Hg,go_sem]) rfl A.out
 ·have m:f.len=2:=by simp[eg] at l;omega
  have b:Hid (Z=anD (fy cells f (GB (s.1+1,s.2)) 1 ar q) 1):=t.out.trans (fF 1 1 l H j (λh=>absurd h (by decide)) (by decide) (by decide) (λkd hk=>by rw[m];rfl) (by decide) (by decide));have c1:=λk=>jT V ⟨k,n,nm,a,f⟩ ao cap wb B bv cells ar q 1 1 (GB (s.1+1,s.2)) w2 (by simp only;omega) ⟨o.nm,o.len,o.sh⟩ j J I (by decide) E G F;simp only[dS] at c1;clear t c l m;go_wp2_with fail;refine(c1 _).mono ?_;rintro z w3 ⟨rfl,C,p⟩;have A:Hid (eA w wb B bv cells.length Z (.returned (.int .i64 1)) w3):=fK b.out C (D.trans p);clear c1 C p b p0 p1 p2 p3 O T R q2 Q P E G F D L;go_wp2;exact GG (v:=.int .i64 1) (by simp[results,Hg,go_sem]) rfl A.out
 ·have m:f.len=2:=by simp[eg] at l;omega
  have b:Hid (Z=anD (fy cells f (GB (s.1+1,s.2)) 1 ar q) 1):=t.out.trans (fF 1 1 l H j (λh=>absurd h (by decide)) (by decide) (by decide) (λkd hk=>by rw[m];rfl) (by decide) (by decide));have c1:=λk=>jT V ⟨k,n,nm,a,f⟩ ao cap wb B bv cells ar q 1 1 (GB (s.1+1,s.2)) w2 (by simp only;omega) ⟨o.nm,o.len,o.sh⟩ j J I (by decide) E G F;simp only[dS] at c1;clear t c l m;go_wp2_with fail;refine(c1 _).mono ?_;rintro z w3 ⟨rfl,C,p⟩;have A:Hid (eA w wb B bv cells.length Z (.returned (.int .i64 1)) w3):=fK b.out C (D.trans p);clear c1 C p b p0 p1 p2 p3 O T R q2 Q P E G F D L;go_wp2;exact GG (v:=.int .i64 1) (by simp[results,Hg,go_sem]) rfl A.out
 ·have m:f.len=2:=by simp[eg] at l;omega
  have b:Hid (Z=anD (fy cells f (GB (s.1+1,s.2)) 1 ar q) 1):=t.out.trans (fF 1 1 l H j (λh=>absurd h (by decide)) (by decide) (by decide) (λkd hk=>by rw[m];rfl) (by decide) (by decide));have c1:=λk=>jT V ⟨k,n,nm,a,f⟩ ao cap wb B bv cells ar q 1 1 (GB (s.1+1,s.2)) w2 (by simp only;omega) ⟨o.nm,o.len,o.sh⟩ j J I (by decide) E G F;simp only[dS] at c1;clear t c l m;go_wp2_with fail;refine(c1 _).mono ?_;rintro z w3 ⟨rfl,C,p⟩;have A:Hid (eA w wb B bv cells.length Z (.returned (.int .i64 1)) w3):=fK b.out C (D.trans p);clear c1 C p b p0 p1 p2 p3 O T R q2 Q P E G F D L;go_wp2;exact GG (v:=.int .i64 1) (by simp[results,Hg,go_sem]) rfl A.out
 ·have m:f.len=2:=by simp[eg] at l;omega
  have b:Hid (Z=anD (fy cells f (GB (s.1+1,s.2)) 1 ar q) 1):=t.out.trans (fF 1 1 l H j (λh=>absurd h (by decide)) (by decide) (by decide) (λkd hk=>by rw[m];rfl) (by decide) (by decide));have c1:=λk=>jT V ⟨k,n,nm,a,f⟩ ao cap wb B bv cells ar q 1 1 (GB (s.1+1,s.2)) w2 (by simp only;omega) ⟨o.nm,o.len,o.sh⟩ j J I (by decide) E G F;simp only[dS] at c1;clear t c l m;go_wp2_with fail;refine(c1 _).mono ?_;rintro z w3 ⟨rfl,C,p⟩;have A:Hid (eA w wb B bv cells.length Z (.returned (.int .i64 1)) w3):=fK b.out C (D.trans p);clear c1 C p b p0 p1 p2 p3 O T R q2 Q P E G F D L;go_wp2;exact GG (v:=.int .i64 1) (by simp[results,Hg,go_sem]) rfl A.out
 ·have m:f.len=2:=by simp[eg] at l;omega
  obtain⟨x,y,rfl⟩:=jP m;have b:Hid (Z=(match fJ cells x ar q (s.1+1,s.2) with|none=>GA|some (s1,k0)=>anD (eS cells (GB s1) k0 y ar q) 2)):=t.out.trans (qD (by decide) l H j);have ae:fs x:=fs.kid (e:=⟨13,n,nm,a,Fs.ex x (Fs.ex y .nil)⟩) (d:=.nil) ⟨o.nm,o.len,o.sh⟩ rfl;have ai:fs y:=fs.kid (e:=⟨13,n,nm,a,Fs.ex x (Fs.ex y .nil)⟩) (d:=Fs.ex x .nil) ⟨o.nm,o.len,o.sh⟩ rfl;have au:x.kids.size+(y.kids.size+0+1)+1<N+1:=hN;rw[m] at p3 L;obtain⟨aE,ap,ak,ck,K,x0,x1,Y,X,W⟩:=SlN.kidP (x:=.nil) (r:=Fs.ex y .nil) (y:=x) F 0 rfl;subst K;simp only[IB,Hs] at x0 x1 Y X;have c1:=pc V x ak ck wb B bv cells ar q (GB (s.1+1,s.2)) w2 (by omega) ae j J I E G W;rw[dS] at c1;simp only[m];clear t c l;go_wp2_with fail;refine c1.mono ?_;rintro z w3 ⟨⟨U,rfl,M⟩,C,p⟩;have E3:=(p.block _ (GF L) aa ab).trans L;have S3:=F.kp p;have N3:=G.kp p;have ac:=D.trans p;clear c1 p0 p1 p2 p3 O T R q2 Q P x0 x1 Y X W F E G L D p;obtain⟨p0,p1,p2,p3,O⟩:=el E3;have ad:Hid (Z=anD (eS cells ((jm cells (GB (s.1+1,s.2)) x ar q).map (·.1)) U y ar q) 2):=by
   show Z=_;rw[b.out];simp only[jm];cases hc:fJ cells x ar q (s.1+1,s.2) with
   | none=>rfl
   | some u=>obtain⟨s1,k1⟩:=u;rw[M s1 k1 (by simp only[jm];exact hc)];rfl
  have hm:(jm cells (GB (s.1+1,s.2)) x ar q).map (·.1)≠GA->U≠4:=by
   intro h;cases hc:jm cells (GB (s.1+1,s.2)) x ar q with
   | none=>rw[hc] at h;exact absurd rfl h
   | some u=>obtain⟨s1,k1⟩:=u;rw[M s1 k1 hc];exact pC hc
  clear b M;generalize (jm cells (GB (s.1+1,s.2)) x ar q).map (·.1)=ah at *;obtain⟨aD,an,ak,ck,K,x0,x1,Y,X,W⟩:=SlN.kidP (x:=Fs.ex x .nil) (r:=.nil) (y:=y) S3 1 rfl;injection K with K
  injection K with h1 h2
  subst h1;subst h2;simp only[JF] at x0 x1 Y X;have c2:=lJ V y ak ck wb B bv cells ar q U ah w3 (λ_=>by omega) ai j J I hm C N3 W;rw[dS] at c2;go_wp2_with fail;refine c2.mono ?_;rintro z w4 ⟨rfl,W4,K4⟩;have A:Hid (eA w wb B bv cells.length Z (.returned (.int .i64 2)) w4):=fK ad.out W4 (ac.trans K4);clear c2 W4 K4 ad p0 p1 p2 p3 O x0 x1 Y X W S3 C N3 E3 ac;go_wp2;exact GG (v:=.int .i64 2) (by simp[results,Hg,go_sem]) rfl A.out
 ·have m:f.len=2:=by simp[eg] at l;omega
  obtain⟨x,y,rfl⟩:=jP m;have b:Hid (Z=(match fJ cells x ar q (s.1+1,s.2) with|none=>GA|some (s1,k0)=>anD (eS cells (GB s1) k0 y ar q) 2)):=t.out.trans (qD (by decide) l H j);have ae:fs x:=fs.kid (e:=⟨13,n,nm,a,Fs.ex x (Fs.ex y .nil)⟩) (d:=.nil) ⟨o.nm,o.len,o.sh⟩ rfl;have ai:fs y:=fs.kid (e:=⟨13,n,nm,a,Fs.ex x (Fs.ex y .nil)⟩) (d:=Fs.ex x .nil) ⟨o.nm,o.len,o.sh⟩ rfl;have au:x.kids.size+(y.kids.size+0+1)+1<N+1:=hN;rw[m] at p3 L;obtain⟨aE,ap,ak,ck,K,x0,x1,Y,X,W⟩:=SlN.kidP (x:=.nil) (r:=Fs.ex y .nil) (y:=x) F 0 rfl;subst K;simp only[IB,Hs] at x0 x1 Y X;have c1:=pc V x ak ck wb B bv cells ar q (GB (s.1+1,s.2)) w2 (by omega) ae j J I E G W;rw[dS] at c1;simp only[m];clear t c l;go_wp2_with fail;refine c1.mono ?_;rintro z w3 ⟨⟨U,rfl,M⟩,C,p⟩;have E3:=(p.block _ (GF L) aa ab).trans L;have S3:=F.kp p;have N3:=G.kp p;have ac:=D.trans p;clear c1 p0 p1 p2 p3 O T R q2 Q P x0 x1 Y X W F E G L D p;obtain⟨p0,p1,p2,p3,O⟩:=el E3;have ad:Hid (Z=anD (eS cells ((jm cells (GB (s.1+1,s.2)) x ar q).map (·.1)) U y ar q) 2):=by
   show Z=_;rw[b.out];simp only[jm];cases hc:fJ cells x ar q (s.1+1,s.2) with
   | none=>rfl
   | some u=>obtain⟨s1,k1⟩:=u;rw[M s1 k1 (by simp only[jm];exact hc)];rfl
  have hm:(jm cells (GB (s.1+1,s.2)) x ar q).map (·.1)≠GA->U≠4:=by
   intro h;cases hc:jm cells (GB (s.1+1,s.2)) x ar q with
   | none=>rw[hc] at h;exact absurd rfl h
   | some u=>obtain⟨s1,k1⟩:=u;rw[M s1 k1 hc];exact pC hc
  clear b M;generalize (jm cells (GB (s.1+1,s.2)) x ar q).map (·.1)=ah at *;obtain⟨aD,an,ak,ck,K,x0,x1,Y,X,W⟩:=SlN.kidP (x:=Fs.ex x .nil) (r:=.nil) (y:=y) S3 1 rfl;injection K with K
  injection K with h1 h2
  subst h1;subst h2;simp only[JF] at x0 x1 Y X;have c2:=lJ V y ak ck wb B bv cells ar q U ah w3 (λ_=>by omega) ai j J I hm C N3 W;rw[dS] at c2;go_wp2_with fail;refine c2.mono ?_;rintro z w4 ⟨rfl,W4,K4⟩;have A:Hid (eA w wb B bv cells.length Z (.returned (.int .i64 2)) w4):=fK ad.out W4 (ac.trans K4);clear c2 W4 K4 ad p0 p1 p2 p3 O x0 x1 Y X W S3 C N3 E3 ac;go_wp2;exact GG (v:=.int .i64 2) (by simp[results,Hg,go_sem]) rfl A.out
 ·have m:f.len=2:=by simp[eg] at l;omega
  have b:Hid (Z=anD (fy cells f (GB (s.1+1,s.2)) 1 ar q) 2):=t.out.trans (fF 1 2 l H j (λh=>absurd h (by decide)) (by decide) (by decide) (λkd hk=>by rw[m];rfl) (by decide) (by decide));have c1:=λk=>jT V ⟨k,n,nm,a,f⟩ ao cap wb B bv cells ar q 1 2 (GB (s.1+1,s.2)) w2 (by simp only;omega) ⟨o.nm,o.len,o.sh⟩ j J I (by decide) E G F;simp only[dS] at c1;clear t c l m;go_wp2_with fail;refine(c1 _).mono ?_;rintro z w3 ⟨rfl,C,p⟩;have A:Hid (eA w wb B bv cells.length Z (.returned (.int .i64 2)) w3):=fK b.out C (D.trans p);clear c1 C p b p0 p1 p2 p3 O T R q2 Q P E G F D L;go_wp2;exact GG (v:=.int .i64 2) (by simp[results,Hg,go_sem]) rfl A.out
 ·have m:f.len=2:=by simp[eg] at l;omega
  have b:Hid (Z=anD (fy cells f (GB (s.1+1,s.2)) 1 ar q) 2):=t.out.trans (fF 1 2 l H j (λh=>absurd h (by decide)) (by decide) (by decide) (λkd hk=>by rw[m];rfl) (by decide) (by decide));have c1:=λk=>jT V ⟨k,n,nm,a,f⟩ ao cap wb B bv cells ar q 1 2 (GB (s.1+1,s.2)) w2 (by simp only;omega) ⟨o.nm,o.len,o.sh⟩ j J I (by decide) E G F;simp only[dS] at c1;clear t c l m;go_wp2_with fail;refine(c1 _).mono ?_;rintro z w3 ⟨rfl,C,p⟩;have A:Hid (eA w wb B bv cells.length Z (.returned (.int .i64 2)) w3):=fK b.out C (D.trans p);clear c1 C p b p0 p1 p2 p3 O T R q2 Q P E G F D L;go_wp2;exact GG (v:=.int .i64 2) (by simp[results,Hg,go_sem]) rfl A.out
 ·have m:f.len=2:=by simp[eg] at l;omega
  have b:Hid (Z=anD (fy cells f (GB (s.1+1,s.2)) 2 ar q) 2):=t.out.trans (fF 2 2 l H j (λh=>absurd h (by decide)) (by decide) (by decide) (λkd hk=>by rw[m];rfl) (by decide) (by decide));have c1:=λk=>jT V ⟨k,n,nm,a,f⟩ ao cap wb B bv cells ar q 2 2 (GB (s.1+1,s.2)) w2 (by simp only;omega) ⟨o.nm,o.len,o.sh⟩ j J I (by decide) E G F;simp only[dS] at c1;clear t c l m;go_wp2_with fail;refine(c1 _).mono ?_;rintro z w3 ⟨rfl,C,p⟩;have A:Hid (eA w wb B bv cells.length Z (.returned (.int .i64 2)) w3):=fK b.out C (D.trans p);clear c1 C p b p0 p1 p2 p3 O T R q2 Q P E G F D L;go_wp2;exact GG (v:=.int .i64 2) (by simp[results,Hg,go_sem]) rfl A.out
 ·have m:f.len=2:=by simp[eg] at l;omega
  have b:Hid (Z=anD (fy cells f (GB (s.1+1,s.2)) 2 ar q) 2):=t.out.trans (fF 2 2 l H j (λh=>absurd h (by decide)) (by decide) (by decide) (λkd hk=>by rw[m];rfl) (by decide) (by decide));have c1:=λk=>jT V ⟨k,n,nm,a,f⟩ ao cap wb B bv cells ar q 2 2 (GB (s.1+1,s.2)) w2 (by simp only;omega) ⟨o.nm,o.len,o.sh⟩ j J I (by decide) E G F;simp only[dS] at c1;clear t c l m;go_wp2_with fail;refine(c1 _).mono ?_;rintro z w3 ⟨rfl,C,p⟩;have A:Hid (eA w wb B bv cells.length Z (.returned (.int .i64 2)) w3):=fK b.out C (D.trans p);clear c1 C p b p0 p1 p2 p3 O T R q2 Q P E G F D L;go_wp2;exact GG (v:=.int .i64 2) (by simp[results,Hg,go_sem]) rfl A.out
 ·have m:f.len=3:=by simp[eg] at l;omega
  obtain⟨x,y,u,rfl⟩:=Db m;have b:Hid (Z=(match eS cells (GB (s.1+1,s.2)) 2 x ar q with|none=>GA|some s0=>match fJ cells y ar q s0 with|none=>GA|some (s1,k0)=>anD (eS cells (GB s1) k0 u ar q) k0)):=t.out.trans (tI l H j);have ae:fs x:=fs.kid (e:=⟨13,n,nm,a,Fs.ex x (Fs.ex y (Fs.ex u .nil))⟩) (d:=.nil) ⟨o.nm,o.len,o.sh⟩ rfl;have ai:fs y:=fs.kid (e:=⟨13,n,nm,a,Fs.ex x (Fs.ex y (Fs.ex u .nil))⟩) (d:=Fs.ex x .nil) ⟨o.nm,o.len,o.sh⟩ rfl;have aL:fs u:=fs.kid (e:=⟨13,n,nm,a,Fs.ex x (Fs.ex y (Fs.ex u .nil))⟩) (d:=Fs.ex x (Fs.ex y .nil)) ⟨o.nm,o.len,o.sh⟩ rfl;have au:x.kids.size+(y.kids.size+(u.kids.size+0+1)+1)+1<N+1:=hN;rw[m] at p3 L;obtain⟨aE,ap,ak,ck,K,x0,x1,Y,X,W⟩:=SlN.kidP (x:=.nil) (r:=Fs.ex y (Fs.ex u .nil)) (y:=x) F 0 rfl;subst K;simp only[IB,Hs] at x0 x1 Y X;have c1:=lJ V x ak ck wb B bv cells ar q 2 (GB (s.1+1,s.2)) w2 (λ_=>by omega) ae j J I (λ_=>by decide) E G W;rw[dS] at c1;simp only[m];clear t c l;go_wp2_with fail;refine c1.mono ?_;rintro z w3 ⟨rfl,C,p⟩;have E3:=(p.block _ (GF L) aa ab).trans L;have S3:=F.kp p;have N3:=G.kp p;have ac:=D.trans p;clear c1 p0 p1 p2 p3 O T R q2 Q P x0 x1 Y X W F E G L D p;obtain⟨p0,p1,p2,p3,O⟩:=el E3;generalize eS cells (GB (s.1+1,s.2)) 2 x ar q=af at *;obtain⟨aD,an,ak,ck,K,x0,x1,Y,X,W⟩:=SlN.kidP (x:=Fs.ex x .nil) (r:=Fs.ex u .nil) (y:=y) S3 1 rfl;injection K with K
  injection K with h1 h2
  subst h1;subst h2;simp only[JF] at x0 x1 Y X;have c2:=pc V y ak ck wb B bv cells ar q af w3 (by omega) ai j J I C N3 W;rw[dS] at c2;go_wp2_with fail;refine c2.mono ?_;rintro z w4 ⟨⟨U,rfl,M⟩,W4,K4⟩;have E4:=(K4.block _ (GF E3) aa ab).trans E3;have S4:=S3.kp K4;have N4:=N3.kp K4;have aG:=ac.trans K4;clear c2 p0 p1 p2 p3 O x0 x1 Y X W S3 C N3 E3 ac K4;obtain⟨p0,p1,p2,p3,O⟩:=el E4;have ad:Hid (Z=anD (eS cells ((jm cells af y ar q).map (·.1)) U u ar q) U):=by
   show Z=_;rw[b.out];cases af with
   | none=>rfl
   | some s0 =>
    simp only[jm];cases hc:fJ cells y ar q s0 with
    | none=>rfl
    | some v=>obtain⟨s1,k1⟩:=v;rw[M s1 k1 (by simp only[jm];exact hc)];rfl
  have hm:(jm cells af y ar q).map (·.1)≠GA->U≠4:=by
   intro h;cases hc:jm cells af y ar q with
   | none=>rw[hc] at h;exact absurd rfl h
   | some v=>obtain⟨s1,k1⟩:=v;rw[M s1 k1 hc];exact pC hc
  clear b M;generalize (jm cells af y ar q).map (·.1)=ah at *;obtain⟨aN,aM,ak,ck,K,x0,x1,Y,X,W⟩:=SlN.kidP (x:=Fs.ex x (Fs.ex y .nil)) (r:=.nil) (y:=u) S4 2 rfl;injection K with K
  injection K with h1 h2
  subst h1;subst h2;have c3:=lJ V u ak ck wb B bv cells ar q U ah w4 (λ_=>by omega) aL j J I hm W4 N4 W;rw[dS] at c3;go_wp2_with fail;refine c3.mono ?_;rintro z w5 ⟨rfl,W5,K5⟩;have A:Hid (eA w wb B bv cells.length Z (.returned (.int .i64 U)) w5):=fK ad.out W5 (aG.trans K5);clear c3 W5 K5 ad p0 p1 p2 p3 O x0 x1 Y X W S4 W4 N4 E4 aG;go_wp2;exact GG (v:=.int .i64 U) (by simp[results,Hg,go_sem]) rfl A.out
 ·have m:f.len=1\/f.len=2:=by simp[eg] at l;omega
  have b:Hid (Z=anD (fy cells f (GB (s.1+1,s.2)) 3 ar q) (jV n)):=t.out.trans (fF 3 (jV n) l H j (λh=>absurd h (by decide)) (by decide) (by decide) (λkd hk=>by
   have ay:(1<=n/\n<=3/\f.len=2)\/(4<=n/\n<=10/\f.len=1):=by simp[eg] at l;omega
   rcases ay with ⟨h1,h2,h3⟩|⟨h1,h2,h3⟩
   ·rw[h3]
    have:n=1\/n=2\/n=3:=by omega
    rcases this with rfl|rfl|rfl<;>rfl
   ·rw[h3]
    have:n=4\/n=5\/n=6\/n=7\/n=8\/n=9\/n=10:=by omega
    rcases this with rfl|rfl|rfl|rfl|rfl|rfl|rfl<;>rfl) (by unfold jV;split;decide;split<;>decide) (by unfold jV;split;decide;split<;>decide))
  have am:GK w2.heap.size w2 w2.drew:=⟨rfl,rfl,rfl,GC _,λ_ _=>rfl⟩;have c1:=jT V ⟨20,n,nm,a,f⟩ ao cap wb B bv cells ar q 3 (jV n) (GB (s.1+1,s.2)) w2.drew (by simp only;omega) ⟨o.nm,o.len,o.sh⟩ j J I (by decide) (E.below am) (G.below am) (F.belowP am);rw[dS] at c1;simp only at c1;have aB:=λwy=>qZ n wy;generalize jV n=gv at *;have al:=GF L;clear t c l E G F m;go_wp2_with fail;go_region_held3 (λwx=>wx.cell? ⟨bx,0,GA⟩=GB (.int .i64 20)/\wx.cell? ⟨bx,1,GA⟩=GB (.int .i64 n)/\wx.cell? ⟨bx,2,GA⟩=GB (stv nm)/\wx.cell? ⟨bx,3,GA⟩=GB (.slice ao f.len cap))
   (first|exact KA|go_keep)
   (first
    | (go_at_call 140;refine(aB _).mono ?_;rintro z w3 ⟨rfl,rfl⟩)
    | (go_at_call 173;refine c1.mono ?_;rintro z w3 ⟨rfl,C,p⟩;have KA:w3.cell? ⟨bx,0,GA⟩=GB (.int .i64 20)/\w3.cell? ⟨bx,1,GA⟩=GB (.int .i64 n)/\w3.cell? ⟨bx,2,GA⟩=GB (stv nm)/\w3.cell? ⟨bx,3,GA⟩=GB (.slice ao f.len cap):=⟨(p.cell al aa ab _).trans p0,(p.cell al aa ab _).trans p1,(p.cell al aa ab _).trans p2,(p.cell al aa ab _).trans p3⟩))
  all_goals (
   have A:Hid (eA w wb B bv cells.length Z (.returned (.int .i64 gv)) w3):=fK b.out C (D.trans (Kp.bel am p));clear KA C p c1 aB p0 p1 p2 p3 O T R q2 Q P L D b;go_wp2;exact GG (v:=.int .i64 gv) (by simp[results,Hg,go_sem]) rfl A.out)
 ·have m:f.len=2:=by simp[eg] at l;omega
  obtain⟨x,y,rfl⟩:=jP m;have b:Hid (Z=_):=t.out.trans (yE l H j);have c1:=λk=>Cp V ⟨k,n,nm,a,Fs.ex x (Fs.ex y .nil)⟩ x y ao cap wb B bv cells ar q (s.1+1,s.2) w2 rfl (by simp only;omega) ⟨o.nm,o.len,o.sh⟩ j J I E G F;simp only[dS] at c1;clear t c l m;simp only[<-b.out] at c1;go_wp2_with fail;refine(c1 _).mono ?_;rintro z w3 ⟨⟨U,rfl,M⟩,C,p⟩;have A:Hid (eA w wb B bv cells.length Z (.returned (.int .i64 U)) w3):=⟨⟨U,rfl,M⟩,C,D.trans p⟩;clear c1 C p M b p0 p1 p2 p3 O T R q2 Q P E G F D L;go_wp2;exact GG (v:=.int .i64 U) (by simp[results,Hg,go_sem]) rfl A.out
 ·have A:=c 0 (by rw[t.out];exact nK (by decide));clear t c E G F D L l;go_wp2;exact GG (v:=.int .i64 0) (by simp[results,Hg,go_sem]) rfl A.out
 ·have A:=c 0 (by rw[t.out];exact nK (by decide));clear t c E G F D L l;go_wp2;exact GG (v:=.int .i64 0) (by simp[results,Hg,go_sem]) rfl A.out
 ·have A:=c 0 (by rw[t.out];exact nK (by decide));clear t c E G F D L l;go_wp2;exact GG (v:=.int .i64 0) (by simp[results,Hg,go_sem]) rfl A.out
 ·have A:=c 0 (by rw[t.out];exact nK (by decide));clear t c E G F D L l;go_wp2;exact GG (v:=.int .i64 0) (by simp[results,Hg,go_sem]) rfl A.out
 ·have m:f.len=1:=by simp[eg] at l;omega
  obtain⟨x,rfl⟩:=ub m;have b:Hid (Z=lr cells n x ar q (s.1+1,s.2)):=t.out.trans (Ao l H j);have ae:fs x:=fs.kid (e:=⟨26,n,nm,a,Fs.ex x .nil⟩) (d:=.nil) ⟨o.nm,o.len,o.sh⟩ rfl;have au:x.kids.size+0+1<N+1:=hN;have c1:=ET V 26 n nm a x ao cap wb B bv cells ar q (s.1+1,s.2) w2 (by omega) ae j J I E G F;rw[<-b.out] at c1;simp only[m] at p3 L ⊢;clear t c l;go_wp2_with fail;refine c1.mono ?_;rintro z w3 ⟨⟨U,rfl,M⟩,C,p⟩;have A:Hid (eA w wb B bv cells.length Z (.returned (.int .i64 U)) w3):=⟨⟨U,rfl,M⟩,C,D.trans p⟩;clear c1 C p M b p0 p1 p2 p3 O T R q2 Q P E G F D L;go_wp2;exact GG (v:=.int .i64 U) (by simp[results,Hg,go_sem]) rfl A.out
theorem sX:∀ N,ms N -- 112
 | 0=>λe ao cap wb b bv cells ar a s w h=>absurd h (Hr _)
 | N+1=>uw (sX N)
theorem yg:(Tryz.prog.info? 32).map (λi=>(i.zero,i.size,i.bytes))=GB (GB (.slice GA 0 0),1,24):=by kernel_rfl
theorem xK (n:Nat):(II (Value.slice GA 0 0).cells (n*1)).size=n/\∀ i,i<n->(II (Value.slice GA 0 0).cells (n*1))[i]?=GB (.slice GA 0 0):=by
 constructor
 ·simp[II,Value.cells]
 ·intro i a;simp[II,Value.cells,a,Nat.mod_one]
theorem zV (e:Ex)(ao:Option G1)(cap:Nat)(cv:GJ)(cells:List Int)(w:GE)(hf:fs e)(f:InA w cv cells)(ai:cells.length<=1000000000)(S:SnA w e.kids ao) :
  GR GD 62 #[plV e ao cap cv] w λx w'=>x=.returned (.int .i64 (fa cells e))/\GK w.heap.size w w':=by
 obtain⟨W,hZ⟩:=exq (fa cells e);rw[<-hZ];have r:Hid (W=fa cells e):=hZ;clear hZ;obtain⟨ii,Z,D,C,B⟩:=ek yg;obtain⟨ac,cc,J,I⟩:=f;have f:InA w cv cells:=⟨ac,cc,J,I⟩;subst J;clear I;have y:GK w.heap.size w (w.alloc (zPl e ao cap ac cells.length cc)):=(GN _ w).alloc (GC _) _;have o:(w.alloc (zPl e ao cap ac cells.length cc)).heap[w.heap.size]?=GB (zPl e ao cap ac cells.length cc):=GH w _;have A:=SnA.below S y;have q:=f.below y;clear S f;rw[fe];go_enter Tryz.func62,Tryz.ntmps62;go_upto_region 1 with fail;generalize w.alloc (zPl e ao cap ac cells.length cc)=w0 at *;obtain⟨n0,s⟩:=exq w.heap.size;rw[<-s] at o y ⊢;have T:Hid (n0=w.heap.size):=s;clear s;obtain⟨p0,p1,p2,p3,p4,U⟩:=dT o;by_cases N:256<cells.length
 ·have hI:(256:Int)<(cells.length:Int):=by omega
  have m:Hid (W=0):=by show W=_;rw[r.out,qv N]
  clear r A q o;go_wp2;go_ret;rw[m.out];exact⟨rfl,by rw[<-T.out];exact y⟩
 have hI:¬(256:Int)<(cells.length:Int):=by omega
 obtain⟨af,ae,he,b⟩:=q;have q:InA w0 (.slice ac cells.length cc) cells:=⟨af,ae,he,b⟩;injection he with ad ab aa
 subst ad;subst aa;clear ab;go_wp2;go_loopw [3] (λv wr=>∃k:Nat,k<=cells.length/\v=.int .i64 k/\Hid (∀ j c,j<k->cells[j]?=GB c->nlB c=false)/\wr=w0) (λv _=>cells.length-(Hh v).toNat)
 case atStart=>exact⟨0,by omega,by go_num,λj c H=>absurd H (Hr _),rfl⟩
 case round =>
  obtain⟨k,hk,rfl,d,rfl⟩:=hrel;by_cases F:k<cells.length
  ·have h:cells[k]?=GB cells[k]:=GI F;rcases b with rfl|⟨g1,o1,rfl,-,ah,K⟩
   ·simp at F
   have x1:=K k _ h;generalize cells[k]=x at x1 h;have Y:(k:Int)<(cells.length:Int):=by omega
   have R:Hid (cells[k]?=GB x):=h;clear h K;have a:nlB x=true->Hid (W=0):=by
    intro hb;show W=0;rw[r.out,sS (List.any_eq_true.2 ⟨x,Is R.out,hb⟩)]
   by_cases h0:x<0
   ·have m:=a (by simp[nlB];omega);clear r d R a q A o;go_wp2;go_ret;rw[m.out];exact⟨rfl,by rw[<-T.out];exact y⟩
   by_cases h4:4<x
   ·have m:=a (by simp[nlB];omega);clear r d R a q A o;go_wp2;go_ret;rw[m.out];exact⟨rfl,by rw[<-T.out];exact y⟩
   have hn2:Hid (∀ j c,j<k+1->cells[j]?=GB c->nlB c=false):=by
    intro j c H f;rcases Nat.lt_succ_iff_lt_or_eq.1 H with h3|rfl
    ·exact d.out j c h3 f
    ·rw[R.out] at f;injection f with f
     rw[<-f];simp[nlB];omega
   clear r d R a q A o;go_wp2;go_roundw
   case rel=>exact⟨k+1,by omega,by go_num,hn2,trivial⟩
   case measure=>simp[Hh];omega
  ·have Y:¬(k:Int)<(cells.length:Int):=by omega
   have E:cells.any nlB=false:=by
    rw[List.any_eq_false];intro c f;obtain⟨j,H,h2⟩:=List.mem_iff_getElem.1 f
    have:=d.out j c (by omega) (by rw[GI H,h2])
    simp[this]
   have n:Hid (W=(match fJ cells e 0 0 (0,λ_=>GA) with|none=>0|some (_,k)=>k)):=by show W=_;rw[r.out,qe (by omega) (sK E)];rfl
   clear r d b E;have mk:∀ w:GE,(Instr.makeSlice 160 (.int .i64 (cells.length:Nat)) (.int .i64 (cells.length:Nat))).run GD w=.ok (.slice (GB ⟨w.heap.size,0,GA⟩) cells.length cells.length) (w.alloc (.cells (II (Value.slice GA 0 0).cells (cells.length*1)) 32)):=λw=>by
    have:=run_make (P:=GD) w 160 32 ii _ Tryz.underlying160 Z D .i64 .i64 cells.length cells.length (by omega) (Int.le_refl _) (by rw[B];omega) (by omega)
    rw[C] at this;simpa only[If] using this
   obtain⟨L,M⟩:=xK cells.length;generalize II (Value.slice GA 0 0).cells (cells.length*1)=X at *;have u:Hid (X.size=cells.length/\∀ i,i<cells.length->X[i]?=GB (.slice GA 0 0)):=⟨L,M⟩;clear L M;have hn4:=GF o;have V:=mk wr.drew;obtain⟨w2,g⟩:=exq (((wr.alloc (.cells X 32)).alloc (.cells #[.slice ac cells.length cc,.int .i64 0,.slice (GB ⟨wr.heap.size,0,GA⟩) cells.length cells.length,.bool true] 162)).drew);have b2:GK wr.heap.size wr w2:=by rw[g];exact(((GN _ wr).alloc (GC _) _).alloc (by simp) _).trans ⟨rfl,rfl,rfl,GC _,λ_ _=>rfl⟩
   have X2:w2.heap[wr.heap.size]?=GB (.cells X 32 (0,0)):=by
    rw[g];exact(GO _ _ _ (by simp)).trans (GH wr _)
   have V2:w2.heap[wr.heap.size+1]?=GB (.cells #[.slice ac cells.length cc,.int .i64 0,.slice (GB ⟨wr.heap.size,0,GA⟩) cells.length cells.length,.bool true] 162 (0,0)):=by
    rw[g]
    have:=GH (wr.alloc (.cells X 32)) (.cells #[.slice ac cells.length cc,.int .i64 0,.slice (GB ⟨wr.heap.size,0,GA⟩) cells.length cells.length,.bool true] 162)
    have h2:(wr.alloc (.cells X 32)).heap.size=wr.heap.size+1:=by simp
    rw[h2] at this;exact this
   have O:WD w2 (wr.heap.size+1) wr.heap.size (.slice ac cells.length cc) cells.length (GB (0,λ_=>GA)):=⟨V2,Jh _,X,X2,u.out.1,λi hi=>.inl ⟨rfl,u.out.2 i hi⟩⟩;have c4:=sX (e.kids.size+1) e ao cap (wr.heap.size+1) wr.heap.size (.slice ac cells.length cc) cells 0 0 (0,λ_=>GA) w2 (by omega) hf (by omega) (by omega) (by omega) O (q.mono (λi _ G=>b2.block i G) b2.size (λi _ G=>⟨by omega,by omega⟩)) (A.mono (λi _ G=>b2.block i G) b2.size (λi _ G=>⟨by omega,by omega⟩));rw[dS] at c4;have E2:=(b2.block _ hn4).trans o;have ag:=GF V2;have l:Hid (n0<wr.heap.size):=hn4;clear o A q X2 V2 O;go_wp2_with fail;go_region_held3 (λwx=>wx.cell? ⟨n0,4,GA⟩=GB (.slice ac cells.length cc)) (go_keep) (fail);rw[<-g];clear g mk V p0 p1 p2 p3 p4 U u;obtain⟨p0,p1,p2,p3,p4,U⟩:=dT E2;generalize fJ cells e 0 0 (0,λ_=>GA)=rr at *;go_wp2_with fail;refine c4.mono ?_;rintro z w3 ⟨⟨k',rfl,t⟩,W3,K3⟩;have B3:GK n0 w w3:=(y.trans (b2.mono (Im l.out))).trans (K3.below (by have:=l.out;omega) (Im l.out) (by have:=l.out;omega));clear c4 p0 p1 p2 p3 p4 U E2 K3 b2;cases rr with
   | none =>
    have m:Hid (W=0):=n.out;obtain⟨-,p,kv,Q⟩:=W3;obtain⟨q0,q1,q2,q3,qf⟩:=el Q;clear n t Q;go_wp2;go_ret;rw[m.out];exact⟨rfl,by rw[<-T.out];exact B3⟩
   | some zz =>
    obtain⟨s2,k2⟩:=zz;obtain rfl:=t s2 k2 rfl;have m:Hid (W=k'):=n.out;obtain⟨Q,-,-⟩:=W3;obtain⟨q0,q1,q2,q3,qf⟩:=el Q;clear n t Q;go_wp2;go_ret;rw[m.out];exact⟨rfl,by rw[<-T.out];exact B3⟩
theorem yF (e:Ex)(ao:Option G1)(cap:Nat)(j:GJ)(cells:List Int)(w:GE)(m:fs e)(h:InA w j cells)(g:cells.length<=1000000000)(S:SnA w e.kids ao) :
  GR GD 33 #[plV e ao cap j] w λx w'=>x=.returned (.bool (decide (fa cells e≠0)))/\GK w.heap.size w w':=by
 obtain⟨ac,cc,d,c⟩:=h;have h:InA w j cells:=⟨ac,cc,d,c⟩;subst d;clear c;have f:GK w.heap.size w (w.alloc (zPl e ao cap ac cells.length cc)):=(GN _ w).alloc (GC _) _;have c1:=zV e ao cap _ cells _ m (h.below f) g (SnA.below S f);generalize fa cells e=W at *;rw[fe] at c1 ⊢;go_enter Tryz.func33,Tryz.ntmps33;go_wp2_with fail;refine c1.mono ?_;rintro z w1 ⟨rfl,b1⟩;have l:=f.trans (b1.mono f.size);clear c1 b1;by_cases a:W=0
 ·have i:(W != 0)=false:=by simpa using a
  have b:decide (W≠0)=false:=by simp[a]
  have k:Hid (decide (W≠0)=_):=b;clear b a;go_wp2;go_ret;exact⟨by rw[k.out];simp[i],l⟩
 ·have i:(W != 0)=true:=by simpa using a
  have b:decide (W≠0)=true:=by simp[a]
  have k:Hid (decide (W≠0)=_):=b;clear b a;go_wp2;go_ret;exact⟨by rw[k.out];simp[i],l⟩
theorem uF (o a b:Int)(w:GE)(h1:0<=o)(h2:o<=255)(f:0<=a)(d:a<=268435455)(h5:0<=b)(c:b<=268435455) :
  GR GD 36 #[.int .i64 o,.int .i64 a,.int .i64 b] w λe w' =>
   e=.returned (.tuple #[.int .u64 ((o*268435456+a)*268435456+b),.int .i64 0])/\w'=w:=by
 go_enter Tryz.func36,Tryz.ntmps36;go_wp2;go_ret2;exact⟨rfl,rfl⟩
theorem xl (o a b:Int)(w:GE)(h:¬(0<=o/\o<=255/\0<=a/\a<=268435455/\0<=b/\b<=268435455)) :
  GR GD 36 #[.int .i64 o,.int .i64 a,.int .i64 b] w λe w'=>e=.returned (.tuple #[.int .u64 0,.int .i64 12])/\w'=w:=by
 have H:Hid (¬(0<=o/\o<=255/\0<=a/\a<=268435455/\0<=b/\b<=268435455)):=h;clear h;go_enter Tryz.func36,Tryz.ntmps36;go_wp2
 all_goals first|(exfalso;have:=H.out;omega)|(go_ret2;exact⟨rfl,rfl⟩)
def wdI (x:Wo):Int:=if x.op<=255/\x.a<=268435455/\x.b<=268435455 then iW x else 0
def wdW (l:List Wo):List GJ:=l.map λx=>.int .u64 (wdI x)
theorem Fh {l:List Wo}(h:∀ x ∈ l,x.ok):wdW l=woV l:=List.map_congr_left λx c=>by show GT .u64 (wdI x)=_;unfold wdI;rw[if_pos (show x.op<=255/\x.a<=268435455/\x.b<=268435455 from h x c)]
def wdE (x:Wo):Int:=if x.op<=255/\x.a<=268435455/\x.b<=268435455 then 0 else 12
theorem yq (x:Wo)(w:GE):GR GD 36 #[.int .i64 (x.op:Nat),.int .i64 (x.a:Nat),.int .i64 (x.b:Nat)] w λe w'=>e=.returned (.tuple #[.int .u64 (wdI x),.int .i64 (wdE x)])/\w'=w:=by
 unfold wdI wdE;by_cases h:x.op<=255/\x.a<=268435455/\x.b<=268435455
 ·rw[if_pos h,if_pos h];exact uF (x.op:Int) (x.a:Int) (x.b:Int) w (by omega) (by omega) (by omega) (by omega) (by omega) (by omega)
 ·rw[if_neg h,if_neg h];exact xl (x.op:Int) (x.a:Int) (x.b:Int) w (by omega)
structure EmD (w:GE)(o:Nat->Nat)(s:Em)(vw vc vn vk:GJ):Prop where
 ws:Row w o 2 54 1 vw s.ws.length (wdW s.ws)
 cs:Row w o 3 3 1 vc s.cs.length (eiV s.cs)
 ns:Row w o 4 9 1 vn s.ns.length (esV s.ns)
 ks:Row w o 5 3 1 vk s.ks.length (eiV s.ks)
def CJ (w:GE)(e:Ex)(cells:List Int)(z:IG)(w':GE):Prop :=
 GK w.heap.size w w'/\((fa cells e=0/\z=.returned (.tuple #[.agg iM,.int .i64 140])) \/
  (fa cells e≠0/\(32768<(emA cells e).ws.length\/1024<(emA cells e).dp)/\z=.returned (.tuple #[.agg iM,.int .i64 190])) \/
  (fa cells e≠0/\(emA cells e).ws.length<=32768/\(emA cells e).dp<=1024/\∃vw vc vn vk o',z=.returned (.tuple #[.agg #[vw,vc,vn,vk],.int .i64 0])/\(∀ k,k<w.heap.size->o' k=0)/\EmD w' o' (emA cells e) vw vc vn vk))
theorem newD {w2:GE}{gk:Nat}(n:Nat)(q:n<=1000)(p0 p1 p2 p3 p4:GJ)(w3:GE)(lv:List Int)(c:lv.length=n)
  (f:w3=(w2.alloc (.cells (II (GT .i64 0).cells (n*1)) 3)).alloc (.cells #[p0,p1,p2,p3,p4,.slice GA 0 0,.slice GA 0 0,.slice (GB ⟨gk,0,GA⟩) n n,.slice GA 0 0,.int .i64 0,.int .i64 0,.bool false] 74)) (d:gk=w2.heap.size) :
  ∃h,DW w3 h (gk+1) p0 p1 p2 p3 p4 (de0 lv)/\GK w2.heap.size w2 w3/\∀ k,k<w2.heap.size->h k=0:=by
 obtain⟨e,z2,z3,z4⟩:=al2 w2 (.cells (II (GT .i64 0).cells (n*1)) 3) (.cells #[p0,p1,p2,p3,p4,.slice GA 0 0,.slice GA 0 0,.slice (GB ⟨gk,0,GA⟩) n n,.slice GA 0 0,.int .i64 0,.int .i64 0,.bool false] 74);rw[<-f,<-d] at e z2 z3 z4;obtain⟨o',a⟩:∃o':Nat->Nat,o'=λk=>if k=gk+1 then 1 else if k=gk then 5 else 0:=⟨_,rfl⟩;have l:o' (gk+1)=1:=by rw[a];simp
 have j:o' gk=5:=by rw[a];show (if gk=gk+1 then 1 else if gk=gk then 5 else 0)=5;rw[if_neg (by omega),if_pos rfl]
 refine⟨o',⟨by simp[de0],_,_,_,_,⟨z2,l⟩,Row.nil _ _ _ _ _,Row.nil _ _ _ _ _,Row.nil _ _ _ _ _,?_⟩,by rw[<-d];exact z4,λk g=>?_⟩
 ·have p:(de0 lv).ks.length=n:=by simp[de0,c]
  have o:eiV (de0 lv).ks=Hk n (GT .i64 0):=by simp[eiV,de0,c]
  have m:II (GT .i64 0).cells (n*1)=(Hk n (GT .i64 0)).toArray:=by
   apply Array.ext';simp only[II,Value.cells];rw[List.eq_replicate_iff];refine⟨by simp,λb i=>?_⟩;simp[Nat.mod_one] at i;exact i.2.symm
  rw[m] at e;rw[p,o];refine⟨⟨by simp,.inr ⟨gk,n,_,rfl,Jh _,e,GC _,by unfold GY;omega,by simp,by simp⟩⟩,λk g=>?_⟩;simp[Jo] at g;rw[<-g];exact j
 ·rw[a];show (if k=gk+1 then 1 else if k=gk then 5 else 0)=0;rw[if_neg (by omega),if_neg (by omega)]
theorem Row.labq {w:GE}{o o':Nat->Nat}{i j:Nat}{e:Hl}{size:Nat}{v:GJ}{n:Nat}{xs:List GJ}(h:Row w o i e size v n xs)(a:∀ k,o k=i->o' k=j):Row w o' j e size v n xs:=⟨h.1,λk b=>a k (h.2 k b)⟩
abbrev I68:Nat->Prop:=λk=>6<=k/\k<=8
def nF (l:List Int):List Int:=l.map λy=>max y 1
theorem Cl (e:Ex)(ao:Option G1)(cap:Nat)(cv:GJ)(cells:List Int)(w:GE)(hf:fs e)(hn:-9223372036854775808<=e.n/\e.n<=9223372036854775807)(hr:e.kids.rng)(hc:InA w cv cells)(bi:cells.length<=1000000000)(S:SnA w e.kids ao) :
  GR GD 14 #[plV e ao cap cv] w (CJ w e cells):=by
 obtain⟨g,hg⟩:=exq w.heap.size;obtain⟨w1,E⟩:=exq ((w.alloc (.cells #[.int .i64 e.k,.int .i64 e.n,stv e.nm,.slice ao e.kids.len cap,cv] 37)).alloc (.cells iM 42));obtain⟨z1,z2,z3,z4⟩:=al2 w (.cells #[.int .i64 e.k,.int .i64 e.n,stv e.nm,.slice ao e.kids.len cap,cv] 37) (.cells iM 42);rw[<-E,<-hg] at z1 z2 z3 z4;have B1:GK w.heap.size w w1:=by rw[<-hg];exact z4
 have HC:=yF e ao cap cv cells w1 hf (hc.below B1) bi (SnA.below S B1);have bh:=hc;obtain⟨ac,cc,rfl,-⟩:=bh;rw[fe] at HC ⊢;have N:=GL hg;clear hg;obtain⟨c0,c1,c2,c3,c4⟩:=gh z1;by_cases c:fa cells e=0
 ·rw[decide_eq_false (by simp[c])] at HC;have HK:=GL c;clear c;go_enter Tryz.func14,Tryz.ntmps14;go_upto_region 1 with fail;rw[<-E,<-N.out];clear E;go_upto_region 2 with (first|(go_at_call 33;refine HC.mono ?_;rintro z w2 ⟨rfl,B2⟩))
  have GZ:=(B2.block (g+1) (by omega)).trans z2;obtain⟨⟨d0,d1,d2,d3⟩,s⟩:=dW GZ;have aD:=s 0;have aC:=s 1;have aB:=s 2;have aA:=s 3;have BZ:GK g w w2:=z4.trans (B2.mono (by omega));have ZE:=px (.slice GA 0 0) (.slice GA 0 0) (.slice GA 0 0) (.slice GA 0 0) GZ;have f:g<=g+1:=by omega
  have BE:=(((BZ.setCell (p:=⟨g+1,0,GA⟩) f (.slice GA 0 0)).setCell (p:=⟨g+1,1,GA⟩) f (.slice GA 0 0)).setCell (p:=⟨g+1,2,GA⟩) f (.slice GA 0 0)).setCell (p:=⟨g+1,3,GA⟩) f (.slice GA 0 0);obtain⟨⟨m0,m1,m2,m3⟩,-⟩:=dW ZE;have O:=GL BE;clear ZE BE GZ BZ HC z1 z2 z3 z4 B1 B2 c0 c1 c2 c3 c4;go_wp2;exact GG (v:=.tuple #[.agg iM,.int .i64 140]) (by simp[results,Tryz.results14,go_sem,m0,m1,m2,m3]) rfl ⟨by rw[<-N.out];exact O.out,.inl ⟨HK.out,rfl⟩⟩
 ·rw[decide_eq_true c] at HC;obtain⟨aa,br,ba,bu⟩:=sg c hn hr;obtain⟨K,aS,aq⟩:=FB c aa;have HK:=GL c;clear c;obtain⟨ii,aO,ai,ah,ag⟩:=ek pu;have mk:∀ w:GE,(Instr.makeSlice 35 (.int .i64 (cells.length:Nat)) (.int .i64 (cells.length:Nat))).run GD w=.ok (.slice (GB ⟨w.heap.size,0,GA⟩) cells.length cells.length) (w.alloc (.cells (II (GT .i64 0).cells (cells.length*1)) 3)):=λw=>by
   have:=run_make (P:=GD) w 35 3 ii _ Hu aO ai .i64 .i64 cells.length cells.length (by omega) (Int.le_refl _) (by rw[ag];omega) (by omega)
   rw[ah] at this;simpa only[If] using this
  clear aO ai ah ag;go_enter Tryz.func14,Tryz.ntmps14;go_upto_region 1 with fail;rw[<-E,<-N.out];clear E;go_upto_region 4 with (first|(go_at_call 33;refine HC.mono ?_;rintro z w2 ⟨rfl,B2⟩))
  have Q:GK w.heap.size w w2:=B1.trans (B2.mono B1.size);have y1:=(B2.block g (by omega)).trans z1;have y2:=(B2.block (g+1) (by omega)).trans z2;have L2:g+2<=w2.heap.size:=by rw[<-z3];exact B2.size
  clear c0 c1 c2 c3 c4 HC;obtain⟨c0,c1,c2,c3,c4⟩:=gh y1;have a7:=mk w2;have a6:=mk w2.drew;have aG:=λX:Obj=>(In w2 X (by omega)).trans y1;have hX:=newD (w2:=w2) (gk:=w2.heap.size) cells.length (by omega) (.int .i64 e.k) (.int .i64 e.n) (stv e.nm) (.slice ao e.kids.len cap) (.slice ac cells.length cc) _ cells rfl rfl rfl;generalize II (GT .i64 0).cells (cells.length*1)=X at *;obtain⟨d0,d1,d2,d3,d4⟩:=gh (aG (.cells X 3));obtain⟨gk,ay⟩:=exq w2.heap.size;rw[<-ay] at hX;obtain⟨wx,am⟩:=exq ((w2.alloc (.cells X 3)).alloc (.cells #[.int .i64 e.k,.int .i64 e.n,stv e.nm,.slice ao e.kids.len cap,.slice ac cells.length cc,.slice GA 0 0,.slice GA 0 0,.slice (GB ⟨gk,0,GA⟩) cells.length cells.length,.slice GA 0 0,.int .i64 0,.int .i64 0,.bool false] 74));rw[<-am] at hX;have HX:=GL hX;have aF:=GL ay;have aY:=GL am;clear aG hX ay am mk;go_region;go_upto_region 5 with fail;rw[<-aF.out,<-aY.out];obtain⟨o3,aZ,a4,t⟩:=HX.out;have E3:=aZ.step ((dQ.refl (λ_=>False) wx o3).drew) noF;have W:GK gk w2 wx.drew:=a4.drew;generalize wx.drew=w3 at *;obtain⟨rb,aJ⟩:=exq (gk+1);rw[<-aJ] at E3 ⊢;clear aJ HX aY aZ a4 d0 d1 d2 d3 d4 a7 a6 c0 c1 c2 c3 c4;rw[<-aF.out] at L2;have aK:w2.heap.size=gk:=aF.out.symm;have X3:DX w3 o3 (.slice ac cells.length cc) cells:=by
   obtain⟨ao,cap,hv,hx⟩:=hc.below Q;injection hv with h1 h2 h3
   subst h1 h3;refine⟨_,_,rfl,?_⟩;rcases hx with hx|⟨b,off,h1,h2,h3,h4⟩
   ·exact .inl hx
   ·rw[aK] at h3;exact .inr ⟨b,off,h1,t b h3,GM h3 (by rw[<-aK];exact W.size),λj x hj=>(W.cell (p:=⟨b,off+j,GA⟩) h3).trans (h4 j x hj)⟩
  have aV:SnO w3 o3 e.kids ao:=(SnA.below S Q).mono (λk _ hl=>W.block k (by omega)) W.size (λk _ hl=>t k (by omega));have aU:Blk w3 o3 0 g (zPl e ao cap ac cells.length cc):=⟨(W.block g (by omega)).trans y1,t g (by omega)⟩;have aT:Blk w3 o3 0 (g+1) (.cells iM 42):=⟨(W.block (g+1) (by omega)).trans y2,t (g+1) (by omega)⟩;have z0:(de0 cells).sz 0:=⟨by simp[de0],by simp[de0],by simp[de0],by simp[de0],by simp[de0],by simp[de0]⟩;have HP:=qH K cells.length (e.kids.size+1) e ao cap 0 w3 o3 rb _ _ _ _ _ cells (de0 cells) 0 (by omega) aa aq rfl ba (by omega) (by omega) aV (by simp[de0]) z0 (by omega) X3 E3;rw[dS] at HP;have dA:=fg cells e 0 (de0 cells);have zA:=(dV _ 0 0 0).sz _ (dA.sz 0 z0);have BW:GK g w w3:=(by rw[<-N.out] at Q;exact Q.trans (W.mono (by omega)));have hR:=ry_A K cells cells.length e aq aa;have aM:(deA cells e).ks.length=cells.length:=((dV _ 0 0 0).ks.trans dA.ks).trans (by simp[de0]);obtain⟨c0,c1,c2,c3,c4⟩:=gh aU.1;rw[show ((0:Nat):Int)=0 from rfl] at HP;go_upto_region 6 with (first|(go_at_call 34;refine HP.mono ?_;rintro z w4 ⟨rfl,o4,E4,S4⟩))
  have HL:=ez w4 o4 rb _ _ _ _ _ (deE cells e 0 (de0 cells)) 0 0 0 E4;go_upto_region 7 with (first|(go_at_call 35;refine HL.mono ?_;rintro z u ⟨rfl,o5,E5,S5⟩))
  have aQ:(deE cells e 0 (de0 cells)).puts 0 0 0=deA cells e:=rfl;rw[aQ] at E5 zA;have o:=S4.trans S5;have L:=aT.step o dZ;have ax:∀ k,k<w.heap.size->o5 k=0:=λk ad=>by
   have hg:=N.out;rw[o.lab k (by have:=W.size;omega)];exact t k (by omega)
  have B5:GK g w u:=BW.trans ⟨o.os,o.tape,o.output,o.size,λk ad=>o.block k (by have:=W.size;omega) (by rw[t k (by omega)];exact dZ)⟩;clear HP HL E4 S4 S5 o aU aT X3 aV E3 BW aq aa dA z0 c0 c1 c2 c3 c4 W t Q y1 y2 B1 B2 z1 z2 z4 S hc hf hr;obtain⟨⟨d0,d1,d2,d3⟩,s⟩:=dW L.1;have aD:=s 0;have aC:=s 1;have aB:=s 2;have aA:=s 3;have f:g<=g+1:=by omega
  obtain⟨al,-⟩:=E5.cl;by_cases hq:okQ (emA cells e)
  ·have r:=hR.1 hq;rw[r.lg] at al;obtain⟨wl,vc,vn,vk,vw,q0,q1,q2,q3,q4⟩:=E5;obtain⟨aw,cw,rfl⟩:=q1.form;obtain⟨l,h,rfl⟩:=q2.form;obtain⟨an,cn,rfl⟩:=q3.form;obtain⟨ak,ck,rfl⟩:=q4.form;obtain⟨⟨t4,t5,t6,B,U,t9,aI,aH⟩,-⟩:=fk q0.1;have qa:=λX:Obj=>(In u X q0.lt).trans q0.1;obtain⟨⟨-,u5,u6,-,-,-,-,-⟩,-⟩:=fk (qa (.cells iM 42));obtain⟨⟨-,v5,v6,-,-,-,-,-⟩,-⟩:=fk (show u.drew.heap[rb]?=_ from q0.1);clear qa;obtain⟨F,az⟩:=exq u.heap.size;have B6:GK g w (u.alloc (.cells #[.slice GA 0 0,.slice l (deA cells e).cs.length h,.slice an (deA cells e).ns.length cn,.slice GA 0 0] 42)).drew:=(B5.alloc (by have:=B5.size;have:=N.out;omega) _).drew;have S6:∀ {I:Nat->Prop},dQ I u o5 (u.alloc (.cells #[.slice GA 0 0,.slice l (deA cells e).cs.length h,.slice an (deA cells e).ns.length cn,.slice GA 0 0] 42)).drew (dR u o5 6):=λ{I}=>(((dQ.refl I u o5).labelled 6).alloc _).drew;have G6:Blk (u.alloc (.cells #[.slice GA 0 0,.slice l (deA cells e).cs.length h,.slice an (deA cells e).ns.length cn,.slice GA 0 0] 42)).drew (dR u o5 6) 6 F (.cells #[.slice GA 0 0,.slice l (deA cells e).cs.length h,.slice an (deA cells e).ns.length cn,.slice GA 0 0] 42):=by rw[az];exact⟨GH _ _,dY (GC _)⟩
   have bl:=GL az;clear az;go_upto_region 9 with fail;go_region;go_upto_region 10 with fail;rw[<-bl.out];generalize (u.alloc (.cells #[.slice GA 0 0,.slice l (deA cells e).cs.length h,.slice an (deA cells e).ns.length cn,.slice GA 0 0] 42)).drew=w6 at *;have Q0:=q0.step (S6 (I:=λ_=>False)) id;have Q1:=q1.step (S6 (I:=λ_=>False)) id;have Q2:=q2.step (S6 (I:=λ_=>False)) id;have Q3:=q3.step (S6 (I:=λ_=>False)) id;have Q4:=q4.step (S6 (I:=λ_=>False)) id;have aE:=L.step (S6 (I:=λ_=>False)) id;have av:∀ k,k<w.heap.size->dR u o5 6 k=0:=λk ad=>by
    rw[ed (by have:=B5.size;omega)];exact ax k ad
   generalize dR u o5 6=o6 at *;generalize deA cells e=D at *;have a5:D.ks.length<=256:=by omega
   clear aM aQ q0 q1 q2 q3 q4 L B5 S6 ax hR zA t4 t5 t6 B U t9 aI aH u5 u6 v5 v6 d0 d1 d2 d3 aD aC aB aA s al;have KW:Hid (∀ w' o',dQ I68 w6 o6 w' o'->w'.cell? ⟨rb,7,GA⟩=GB (.slice ak D.ks.length ck)/\w'.cell? ⟨rb,8,GA⟩=GB (.slice aw D.ws.length cw)):=λw' o' S=>by
    obtain⟨⟨t4,t5,t6,B,U,t9,aI,aH⟩,-⟩:=fk (Q0.step S (by decide)).1;exact⟨B,U⟩
   obtain⟨j1,j2,j3,j4,j5⟩:=ek rn;obtain⟨B,U⟩:=KW.out _ _ (dQ.refl I68 w6 o6);go_wp2_with fail;go_loopw [7] (λv wr=>∃(i:Nat) (o':Nat->Nat) (va:Option G1) (H:Nat),v=.int .i64 i/\i<=D.ks.length/\Blk wr o' 6 F (.cells #[.slice GA 0 0,.slice l D.cs.length h,.slice an D.ns.length cn,.slice va i H] 42)/\Row wr o' 7 3 1 (.slice va i H) i (eiV (nF (D.ks.take i)))/\dQ I68 w6 o6 wr o') (λv _=>D.ks.length-(Hh v).toNat)
   case atStart=>exact⟨0,o6,GA,0,by go_num,by omega,G6,Row.nil _ _ _ _ _,dQ.refl _ _ _⟩
   case round =>
    clear G6 B U;obtain⟨i,o',va,H,rfl,hi,G,R,S⟩:=hrel;obtain⟨B,U⟩:=KW.out _ _ S;obtain⟨⟨g0,g1,g2,g3⟩,gf⟩:=dW G.1;by_cases ab:i<D.ks.length
    ·have bc:(i:Int)<(D.ks.length:Int):=by omega
     obtain⟨bj,bo,ap,bq,-,-,bd,aR,bf⟩:=(Q4.step S (by decide)).pos (by omega);injection ap with au a9 ar
     subst au ar;have rz:wr.cell? ⟨bj,i,GA⟩=GB (.int .i64 (D.ks.getD i 0)):=by
      rw[aR i (by omega)];simp[eiV,ab,Hb]
     obtain⟨M,hM⟩:=exq (max (D.ks.getD i 0) 1);have hY:Hid (eiV (nF (D.ks.take (i+1)))=eiV (nF (D.ks.take i))++[.int .i64 M]):=by
      have e1:nF (D.ks.take (i+1))=nF (D.ks.take i)++[M]:=by
       unfold nF;rw[IR ab,JU,hM];simp[ab,Hb]
      show _=_;rw[e1,eiV,JU];rfl
     have bA:i+1<=GY:=by unfold GY;omega
     have bB:(i+1)*8<=140737488355328:=by omega
     have Z:∀ {I:Nat->Prop} (wz:GE),dQ I wz o' wz.drew o':=λwz=>(dQ.refl _ wz o').drew;have C:∀ {I:Nat->Prop},dQ I wr o' (wr.alloc (.cells #[.int .i64 M] 3)) o':=λ{I}=>dQ.ofBelow (I:=I) o' (b1 _ _);have Ra:=(R.step (C (I:=λ_=>False)) id).step (Z (I:=λ_=>False) _) id;have Ga:=(G.step (C (I:=λ_=>False)) id).step (Z (I:=λ_=>False) _) id;obtain⟨⟨a0,a1,a2,a3⟩,af⟩:=dW (G.step (C (I:=λ_=>False)) id).1;subst hM;generalize D.ks.getD i 0=y at *;clear aR bf;go_wp2_with fail;go_region_law ((refine fT rfl (.tmp 53) (.tmp 62) 35 rfl 3 j1 (.int .i64 0) 1 8 Hu j2 j3 j4 j5 rfl (by decide) o' 7 (.slice va i H) i (eiV (nF (D.ks.take i))) (by simp[JY,Ip]) Ra ⟨wr.heap.size,0,GA⟩ 1 1 [.int .i64 (max y 1)] (by simp[JY,Ip]) rfl (fG wr _ _) (ku _ rfl) (by decide) bA bB ?_;intro g5 c5 Y V R7 S7;have G7:=Ga.step S7 (by decide);obtain⟨⟨h0,h1,h2,h3⟩,hf⟩:=dW G7.1;have bg:=hf 3))
     all_goals
      have T8:dQ (λk=>k=6) Y V (Y.setCell ⟨F,3,GA⟩ (.slice (GB ⟨g5,0,GA⟩) (i+1) c5)) V:=fj _ Y V ⟨F,3,GA⟩ _ G7.2;have G8:=G7.set 3 (.slice (GB ⟨g5,0,GA⟩) (i+1) c5);have R8:=R7.step T8 (by decide);have S8:dQ I68 w6 o6 (Y.setCell ⟨F,3,GA⟩ (.slice (GB ⟨g5,0,GA⟩) (i+1) c5)) V:=(((S.trans C).trans (Z _)).trans (S7.mono (λk c=>by rw[c];decide))).trans (T8.mono (λk c=>by rw[c];decide));rw[<-hY.out] at R8;clear G7 R7 T8 S7 G R S Ra Ga Z C hY a0 a1 a2 a3 h0 h1 h2 h3 hf bg g0 g1 g2 g3 gf B U rz af;generalize Y.setCell ⟨F,3,GA⟩ (.slice (GB ⟨g5,0,GA⟩) (i+1) c5)=w8 at *;go_wp2;go_roundw
      case rel=>(try ((repeat apply G0);refine⟨?_,rfl⟩));exact⟨i+1,V,GB ⟨g5,0,GA⟩,c5,by go_num,by omega,G8,R8,S8⟩
      case measure=>simp[Hh];omega
    ·have bc:¬(i:Int)<(D.ks.length:Int):=by omega
     obtain rfl:i=D.ks.length:=by omega
     rw[JK] at R;clear ab;have a8:∃wv,wv=wr:=⟨_,rfl⟩;obtain⟨wv,rfl⟩:=a8;go_wp2_with fail;go_loopw [8] (λv wq=>∃(j:Nat) (m:Nat->Nat) (T:Option G1) (cb:Nat),v=.int .i64 j/\j<=D.ws.length/\Blk wq m 6 F (.cells #[.slice T j cb,.slice l D.cs.length h,.slice an D.ns.length cn,.slice va D.ks.length H] 42)/\Row wq m 8 54 1 (.slice T j cb) j (wdW (D.ws.take j))/\dQ (λk=>k=6\/k=8) wv o' wq m) (λv _=>D.ws.length-(Hh v).toNat)
     case atStart=>exact⟨0,o',GA,0,by go_num,by omega,G,Row.nil _ _ _ _ _,dQ.refl _ _ _⟩
     case round =>
      clear G g0 g1 g2 g3 gf B U;obtain⟨j,m,T,cb,rfl,hj,G2,R2,S2⟩:=hrel;have d:dQ I68 w6 o6 wr m:=S.trans (S2.mono (λk c=>by rcases c with c|c<;>(rw[c];decide)));obtain⟨B,U⟩:=KW.out _ _ d;obtain⟨⟨g0,g1,g2,g3⟩,gf⟩:=dW G2.1;by_cases aN:j<D.ws.length
      ·have bb:(j:Int)<(D.ws.length:Int):=by omega
       obtain⟨gl,bn,ap,bp,-,-,bd,aj,be⟩:=(Q1.step d (by decide)).pos (by omega);injection ap with au a9 ar
       subst au ar;have ae:∀ i,i<3->wr.cell? ⟨gl,j*3+i,GA⟩=(jZ D.ws[j])[i]?:=λi hi=>by
        rw[aj (j*3+i) (by omega),ro D.ws j i D.ws[j] (GI aN) hi]
       have hW:Hid (wdW (D.ws.take (j+1))=wdW (D.ws.take j)++[.int .u64 (wdI D.ws[j])]):=by
        show _=_;rw[IR aN,wdW,JU];rfl
       generalize D.ws[j]=x at *;have x0:wr.cell? ⟨gl,j*3,GA⟩=GB (.int .i64 (x.op:Nat)):=ae 0 (by omega);have x1:wr.cell? ⟨gl,j*3+1,GA⟩=GB (.int .i64 (x.a:Nat)):=ae 1 (by omega);have x2:wr.cell? ⟨gl,j*3+2,GA⟩=GB (.int .i64 (x.b:Nat)):=ae 2 (by omega);have aX:=λwy=>yq x wy;have KQ:∀ q,dQ (λ_=>False) wr m (wr.drewN q) m:=λq=>(dQ.refl _ wr m).drewN q;clear ae aj be;go_wp2_with fail
       go_quiet ((go_at_call 36;exact Calls.quiet_of_same (aX _)))
       have KQ:=KQ nq;have G3:=G2.step KQ id;have R3:=R2.step KQ id;have S3:dQ I68 w6 o6 (wr.drewN nq) m:=d.trans (KQ.mono (λk c=>c.elim));have aW:dQ (λk=>k=6\/k=8) wv o' (wr.drewN nq) m:=S2.trans (KQ.mono (λk c=>c.elim));generalize wr.drewN nq=w9 at *;clear g0 g1 g2 g3 gf B U x0 x1 x2 G2 R2 S2 aX KQ;obtain⟨⟨g0,g1,g2,g3⟩,gf⟩:=dW G3.1;obtain⟨u1,u2,u3,u4,u5⟩:=ek uU;have bA:j+1<=GY:=by unfold GY;omega
       have bB:(j+1)*8<=140737488355328:=by omega
       obtain⟨ev,aP⟩:=exq (wdI x);rw[<-aP] at hW ⊢;generalize wdE x=er at *;have pr:=R3.step (dQ.ofBelow (I:=λ_=>False) m (b1 w9 (.cells #[.int .u64 ev] 54))) id;clear aP;go_wp2_with (first|(at_builtin;refine eb rfl _ _ 39 rfl 54 u1 (.int .u64 0) 1 8 Tryz.underlying39 u2 u3 u4 u5 rfl (by decide) m 8 (.slice T j cb) j (wdW (D.ws.take j)) rfl pr ⟨w9.heap.size,0,GA⟩ 1 1 [.int .u64 ev] rfl rfl (fG _ _ _) (ku _ rfl) (by decide) bA bB ?_)|go_in);intro g5 c5 Y V R7 S7;have sa:∀ {I:Nat->Prop},dQ I w9 m (w9.alloc (.cells #[.int .u64 ev] 54)) m:=λ{I}=>dQ.ofBelow (I:=I) m (b1 _ _);have G7:=(G3.step (sa (I:=λ_=>False)) id).step S7 (by decide);obtain⟨⟨h0,h1,h2,h3⟩,hf⟩:=dW G7.1;have bt:=hf 0;have T8:dQ (λk=>k=6) Y V (Y.setCell ⟨F,0,GA⟩ (.slice (GB ⟨g5,0,GA⟩) (j+1) c5)) V:=fj _ Y V ⟨F,0,GA⟩ _ G7.2;have G8:=G7.set 0 (.slice (GB ⟨g5,0,GA⟩) (j+1) c5);have R8:=R7.step T8 (by decide);have S8:=((aW.trans sa).trans (S7.mono (J:=λk=>k=6\/k=8) (λk c=>.inr c))).trans (T8.mono (J:=λk=>k=6\/k=8) (λk c=>.inl c));rw[<-hW.out] at R8;clear G7 R7 T8 S7 G3 R3 S3 aW pr sa g0 g1 g2 g3 gf hW;go_wp2;go_roundw
       case rel=>(try ((repeat apply G0);refine⟨?_,rfl⟩));exact⟨j+1,V,GB ⟨g5,0,GA⟩,c5,by go_num,by omega,G8,R8,S8⟩
       case measure=>simp[Hh];omega
      ·have bb:¬(j:Int)<(D.ws.length:Int):=by omega
       obtain rfl:j=D.ws.length:=by omega
       rw[JK] at R2;obtain⟨⟨d0,d1,d2,d3⟩,s⟩:=dW (aE.step d (by decide)).1;have aD:=s 0;have aC:=s 1;have aB:=s 2;have aA:=s 3;have BR:GK g w wr:=B6.trans ⟨d.os,d.tape,d.output,d.size,λk ad=>d.block k (by have:=B6.size;have:=N.out;omega) (by rw[av k (by have:=N.out;omega)];decide)⟩;have b9:=aE.step d (by decide);have ZE:=px (.slice T D.ws.length cb) (.slice l D.cs.length h) (.slice an D.ns.length cn) (.slice va D.ks.length H) b9.1;have BE:=(((BR.setCell (p:=⟨g+1,0,GA⟩) f (.slice T D.ws.length cb)).setCell (p:=⟨g+1,1,GA⟩) f (.slice l D.cs.length h)).setCell (p:=⟨g+1,2,GA⟩) f (.slice an D.ns.length cn)).setCell (p:=⟨g+1,3,GA⟩) f (.slice va D.ks.length H);have SE:dQ (λk=>k=0) wr m ((((wr.setCell ⟨g+1,0,GA⟩ (.slice T D.ws.length cb)).setCell ⟨g+1,1,GA⟩ (.slice l D.cs.length h)).setCell ⟨g+1,2,GA⟩ (.slice an D.ns.length cn)).setCell ⟨g+1,3,GA⟩ (.slice va D.ks.length H)) m:=((((dQ.refl _ wr m).setCell ⟨g+1,0,GA⟩ _ b9.2).setCell ⟨g+1,1,GA⟩ _ b9.2).setCell ⟨g+1,2,GA⟩ _ b9.2).setCell ⟨g+1,3,GA⟩ _ b9.2;obtain⟨⟨m0,m1,m2,m3⟩,-⟩:=dW ZE;have aL:(emA cells e).ks=nF D.ks:=by
        apply Jj;intro i;have bs:=r.kl;by_cases hi:i<D.ks.length
        ·have h1:=r.ks i (by omega);have hp:=aS i;unfold nF;rw[Ie,GI hi,GI (by omega)];simp only[Hb,GI hi,GI (show i<(emA cells e).ks.length by omega),Option.getD_some,Option.map_some] at h1 ⊢
         congr 1
         omega
        ·unfold nF;rw[He (by omega),He (by simp;omega)]
       obtain⟨oz,A⟩:∃oz:Nat->Nat,oz=λk=>if m k=8 then 2 else if m k=7 then 5 else if m k=2\/m k=5\/m k=6 then 9 else m k:=⟨_,rfl⟩;have bm:Hid (EmD ((((wr.setCell ⟨g+1,0,GA⟩ (.slice T D.ws.length cb)).setCell ⟨g+1,1,GA⟩ (.slice l D.cs.length h)).setCell ⟨g+1,2,GA⟩ (.slice an D.ns.length cn)).setCell ⟨g+1,3,GA⟩ (.slice va D.ks.length H)) oz (emA cells e) (.slice T D.ws.length cb) (.slice l D.cs.length h) (.slice an D.ns.length cn) (.slice va D.ks.length H)):=by
        refine⟨?_,?_,?_,?_⟩
        ·rw[<-r.ws];exact(R2.step SE (by decide)).labq (λk c=>by rw[A];simp only;rw[if_pos c])
        ·rw[<-r.cs];exact((Q2.step d (by decide)).step SE (by decide)).labq (λk c=>by rw[A];simp only;rw[if_neg (by omega),if_neg (by omega),if_neg (by omega)];exact c)
        ·rw[<-r.ns];exact((Q3.step d (by decide)).step SE (by decide)).labq (λk c=>by rw[A];simp only;rw[if_neg (by omega),if_neg (by omega),if_neg (by omega)];exact c)
        ·rw[aL,show (nF D.ks).length=D.ks.length by simp[nF]];exact((R.step S2 (by decide)).step SE (by decide)).labq (λk c=>by rw[A];simp only;rw[if_neg (by omega),if_pos c])
       have bk:Hid (∀ k,k<w.heap.size->oz k=0):=λk c=>by
        have hz:m k=0:=by rw[d.lab k (by have:=B6.size;have:=N.out;omega)];exact av k c
        rw[A];simp only;rw[if_neg (by omega),if_neg (by omega),if_neg (by omega)];exact hz
       have O:=GL BE;have HQ:=GL hq;clear ZE BE SE BR b9 aE Q0 Q1 Q2 Q3 Q4 R R2 S S2 d G2 KW aL A hq r aS av B6 B;go_wp2;exact GG (v:=.tuple #[.agg #[.slice T D.ws.length cb,.slice l D.cs.length h,.slice an D.ns.length cn,.slice va D.ks.length H],.int .i64 0]) (by simp[results,Tryz.results14,go_sem,m0,m1,m2,m3]) rfl ⟨by rw[<-N.out];exact O.out,.inr (.inr ⟨HK.out,HQ.out.1,HQ.out.2,_,_,_,_,oz,rfl,bk.out,bm.out⟩)⟩
  ·rw[hR.2 hq] at al;have HQ:Hid (32768<(emA cells e).ws.length\/1024<(emA cells e).dp):=by show _\/_;unfold okQ at hq;omega
   have ZE:=px (.slice GA 0 0) (.slice GA 0 0) (.slice GA 0 0) (.slice GA 0 0) L.1;have BE:=(((B5.setCell (p:=⟨g+1,0,GA⟩) f (.slice GA 0 0)).setCell (p:=⟨g+1,1,GA⟩) f (.slice GA 0 0)).setCell (p:=⟨g+1,2,GA⟩) f (.slice GA 0 0)).setCell (p:=⟨g+1,3,GA⟩) f (.slice GA 0 0);obtain⟨⟨m0,m1,m2,m3⟩,-⟩:=dW ZE;have O:=GL BE;clear ZE BE B5 L E5 hR aM zA hq s ax;go_wp2;exact GG (v:=.tuple #[.agg iM,.int .i64 190]) (by simp[results,Tryz.results14,go_sem,m0,m1,m2,m3]) rfl ⟨by rw[<-N.out];exact O.out,.inr (.inl ⟨HK.out,HQ.out,rfl⟩)⟩
abbrev lB (w:GE)(f:Fs)(b cap:Nat):Prop:=Spn w (λ_=>True) f b cap
theorem lB.below {w w':GE}{f:Fs}{b cap:Nat}(h:lB w f b cap)(bb:GK w.heap.size w w'):lB w' f b cap:=h.mono (λi _ a=>bb.block i a) bb.size (λ_ h _=>h)
theorem Spn.last {w:GE}{P:Nat->Prop}{f:Fs}{b cap:Nat}(h:Spn w P f b cap):f.len+1<=cap/\cap<=GY/\w.cell? ⟨b,f.len*4,GA⟩=GB (.int .i64 (-7)):=by
 obtain⟨d,e,a,h1,h2,g,c,i⟩:=h;exact⟨h1,h2,c⟩
theorem Spn.lt {w:GE}{P:Nat->Prop}{f:Fs}{b cap:Nat}(h:Spn w P f b cap):b<w.heap.size:=by
 obtain⟨c,d,a,_⟩:=h;exact a
theorem LFn.split {w:GE}{P:Nat->Prop}:∀ {x y:Fs}{c:List GJ},LFn w P (x.app y) c->∃e d,c=e++d/\LFn w P x e/\LFn w P y d
 | ⟨GA⟩,y,c,h=>⟨[],c,rfl,rfl,h⟩
 | ⟨GB ⟨k,n,nm,a,ks,r⟩⟩,y,c,h=>by
  obtain⟨b,cap,f,j,rfl,h1,h2⟩:=h;obtain⟨e,d,rfl,i,g⟩:=LFn.split (x:=r) h2;exact⟨_,d,rfl,⟨b,cap,f,e,rfl,h1,i⟩,g⟩
theorem Spn.kid {w:GE}{P:Nat->Prop}{x r:Fs}{k n:Int}{nm:List UInt8}{a:Int}{ks:Fs}{b cap:Nat}(h:Spn w P (x.app (.cons k n nm a ks r)) b cap) :
  ∃d ck,w.cell? ⟨b,x.len*4,GA⟩=GB (.int .i64 k)/\w.cell? ⟨b,x.len*4+1,GA⟩=GB (.int .i64 n)/\w.cell? ⟨b,x.len*4+2,GA⟩=GB (stv nm)/\w.cell? ⟨b,x.len*4+3,GA⟩=GB (.slice (GB ⟨d,0,GA⟩) ks.len ck)/\Spn w P ks d ck:=by
 obtain⟨v,y,i,h1,h2,m,z,q⟩:=h;obtain⟨t,s,rfl,p,h5⟩:=LFn.split q;have l:=p.len;obtain⟨d,ck,f,e,rfl,o,-⟩:=h5;have c:∀ j u,(.int .i64 k::.int .i64 n::stv nm::.slice (GB ⟨d,0,GA⟩) ks.len ck::e:List GJ)[j]?=GB u->w.cell? ⟨b,x.len*4+j,GA⟩=GB u:=λj u g=>by
  have:=m (x.len*4+j) u (by rw[Ig (by omega),l,Jp];exact g)
  rw[Hx] at this;exact this
 exact⟨d,ck,c 0 _ rfl,c 1 _ rfl,c 2 _ rfl,c 3 _ rfl,f,o⟩
def rd (N:Nat):Prop:=∀ (e:Ex) (b0 cap:Nat) (b:Option G1) (a:Nat) (w:GE),e.kids.size<N->e.kids.len<=1000000000->e.kids.short->lB w e.kids b0 cap->SnA w e.kids b ->
 GR GD 43 #[exN e (GB ⟨b0,0,GA⟩) cap,exN e b a] w λx w'=>x=.returned (.bool true)/\GK w.heap.size w w'
theorem tT {N:Nat}(IH:rd N):rd (N+1):=by
 intro e b0 cap f b w hN ai ac S L;have n:GK w.heap.size w ((w.alloc (zNd e (GB ⟨b0,0,GA⟩) cap)).alloc (zNd e f b)):=((GN _ w).alloc (GC _) _).alloc (by simp) _;have u:((w.alloc (zNd e (GB ⟨b0,0,GA⟩) cap)).alloc (zNd e f b)).heap[w.heap.size]?=GB (zNd e (GB ⟨b0,0,GA⟩) cap):=(GO _ _ _ (by simp)).trans (GH w _);have t:((w.alloc (zNd e (GB ⟨b0,0,GA⟩) cap)).alloc (zNd e f b)).heap[w.heap.size+1]?=GB (zNd e f b):=by
  have:=GH (w.alloc (zNd e (GB ⟨b0,0,GA⟩) cap)) (zNd e f b)
  simpa using this
 have E:=lB.below S n;have K:=SnA.below L n;rw[dS,dS];go_enter Tryz.func43,Tryz.ntmps43;go_upto_region 1 with fail;generalize (w.alloc (zNd e (GB ⟨b0,0,GA⟩) cap)).alloc (zNd e f b)=w0 at *;obtain⟨bx,s⟩:=exq w.heap.size;rw[<-s] at u t n ⊢;have HB:Hid (bx=w.heap.size):=s;clear s S L;obtain⟨p0,p1,p2,p3,pf⟩:=el u;obtain⟨q0,Z,q2,y,Y⟩:=el t;obtain⟨ah,A,h7⟩:=E.last;have B:(e.kids.len:Int)+1<=(cap:Int):=by omega
 have ag:cap<=9223372036854775807:=A;have aa:IntKind.i64.wrap ((e.kids.len:Int)+1)=(e.kids.len:Int)+1:=by rw[Ii];omega
 have z:(e.kids.len:Int)<(e.kids.len:Int)+1:=by omega
 go_upto_region 3 with fail
 go_quiet (fail)
 have bq:GK w0.heap.size w0 (w0.drewN nq):=bdr (GN _ _) nq;have u:=(bq.block _ (GF u)).trans u;have t:=(bq.block _ (GF t)).trans t;have E:=E.below bq;have K:=SnA.below K bq;have n:=n.trans (bq.mono (by have:=HB.out;have:=n.size;omega));generalize w0.drewN nq=w0 at *;clear ah A h7 B ag aa z bq p0 p1 p2 p3 pf q0 Z q2 y Y;go_wp2_with fail;go_loopw [5] (λv wr=>∃(done r:Fs),Hid (e.kids=done.app r)/\v=.int .i64 (done.len:Nat)/\wr.heap[bx]?=GB (zNd e (GB ⟨b0,0,GA⟩) cap)/\wr.heap[bx+1]?=GB (zNd e f b)/\lB wr e.kids b0 cap/\SnA wr e.kids f/\GK bx w wr) (λv _=>e.kids.len-(Hh v).toNat)
 case atStart=>exact⟨.nil,e.kids,rfl,by show _=GT .i64 ((0:Nat):Int);rfl,u,t,E,K,n⟩
 case round =>
  clear u t E K n;obtain⟨done,r,q,rfl,E1,J,M,T1,O⟩:=hrel;have m:e.kids.len=done.len+r.len:=by rw[q.out,Fs.len_app]
  obtain⟨p0,p1,p2,p3,pf⟩:=el E1;obtain⟨q0,Z,q2,y,Y⟩:=el J;cases r using Fs.on with
  | nil =>
   have ae:¬(done.len:Int)<(e.kids.len:Int):=by simp only[Fs.len] at m;omega
   clear m;go_wp2;go_ret;exact⟨rfl,by rw[<-HB.out];exact O⟩
  | cons h kn g H c G =>
   have ae:(done.len:Int)<(e.kids.len:Int):=by simp only[Fs.len] at m;omega
   have ak:done.len<e.kids.len:=by omega
   have ab:e.kids.size=done.size+(c.size+G.size+1):=by rw[q.out,Fs.size_app];rfl
   have o:(Fs.cons h kn g H c G).short:=Fs.app_short (by rw[<-q.out];exact ac);obtain⟨D,ck,X,W,V,U,SK⟩:=Spn.kid (x:=done) (by rw[<-q.out];exact M);obtain⟨d,a,j,i,C,k,-,T,R,Q,P,TK⟩:=SlN.kidQ (by rw[<-q.out];exact T1);subst C;have l:b0<wr.heap.size:=M.lt;have I:=IH ⟨h,kn,g,H,c⟩ D ck j i wr.drew (by show c.size<N;omega) o.2.1 o.2.2.1 (lB.below SK (GN _ wr).drew) (SnA.below TK (GN _ wr).drew);rw[dS,dS] at I;simp only at I;clear m ab o SK TK;go_wp2;have k0:wr.cell? ⟨bx,3,GA⟩=GB (.slice (GB ⟨b0,0,GA⟩) e.kids.len cap)/\wr.cell? ⟨bx+1,3,GA⟩=GB (.slice (GB ⟨d,a,GA⟩) e.kids.len b)/\wr.cell? ⟨b0,done.len*4,GA⟩=GB (.int .i64 h)/\wr.cell? ⟨b0,done.len*4+1,GA⟩=GB (.int .i64 kn)/\wr.cell? ⟨b0,done.len*4+2,GA⟩=GB (stv g)/\wr.cell? ⟨b0,done.len*4+3,GA⟩=GB (.slice (GB ⟨D,0,GA⟩) c.len ck)/\wr.cell? ⟨d,a+done.len*4,GA⟩=GB (.int .i64 h)/\wr.cell? ⟨d,a+done.len*4+1,GA⟩=GB (.int .i64 kn)/\wr.cell? ⟨d,a+done.len*4+2,GA⟩=GB (stv g)/\wr.cell? ⟨d,a+done.len*4+3,GA⟩=GB (.slice j c.len i):=⟨p3,y,X,W,V,U,T,R,Q,P⟩;have k1:wr.drew.cell? ⟨bx,3,GA⟩=GB (.slice (GB ⟨b0,0,GA⟩) e.kids.len cap)/\wr.drew.cell? ⟨bx+1,3,GA⟩=GB (.slice (GB ⟨d,a,GA⟩) e.kids.len b)/\wr.drew.cell? ⟨b0,done.len*4,GA⟩=GB (.int .i64 h)/\wr.drew.cell? ⟨b0,done.len*4+1,GA⟩=GB (.int .i64 kn)/\wr.drew.cell? ⟨b0,done.len*4+2,GA⟩=GB (stv g)/\wr.drew.cell? ⟨b0,done.len*4+3,GA⟩=GB (.slice (GB ⟨D,0,GA⟩) c.len ck)/\wr.drew.cell? ⟨d,a+done.len*4,GA⟩=GB (.int .i64 h)/\wr.drew.cell? ⟨d,a+done.len*4+1,GA⟩=GB (.int .i64 kn)/\wr.drew.cell? ⟨d,a+done.len*4+2,GA⟩=GB (stv g)/\wr.drew.cell? ⟨d,a+done.len*4+3,GA⟩=GB (.slice j c.len i):=k0;have F:bx+1<wr.drew.heap.size:=GF J;go_region_held (λwx=>wx.cell? ⟨bx,3,GA⟩=GB (.slice (GB ⟨b0,0,GA⟩) e.kids.len cap)/\wx.cell? ⟨bx+1,3,GA⟩=GB (.slice (GB ⟨d,a,GA⟩) e.kids.len b)/\wx.cell? ⟨b0,done.len*4,GA⟩=GB (.int .i64 h)/\wx.cell? ⟨b0,done.len*4+1,GA⟩=GB (.int .i64 kn)/\wx.cell? ⟨b0,done.len*4+2,GA⟩=GB (stv g)/\wx.cell? ⟨b0,done.len*4+3,GA⟩=GB (.slice (GB ⟨D,0,GA⟩) c.len ck)/\wx.cell? ⟨d,a+done.len*4,GA⟩=GB (.int .i64 h)/\wx.cell? ⟨d,a+done.len*4+1,GA⟩=GB (.int .i64 kn)/\wx.cell? ⟨d,a+done.len*4+2,GA⟩=GB (stv g)/\wx.cell? ⟨d,a+done.len*4+3,GA⟩=GB (.slice j c.len i)) (first|(with_reducible exact k2)|(with_reducible exact k1)|(with_reducible exact k0)) ((go_at_call 43;refine I.mono ?_;rintro x w2 ⟨rfl,b2⟩;have k2:w2.cell? ⟨bx,3,GA⟩=GB (.slice (GB ⟨b0,0,GA⟩) e.kids.len cap)/\w2.cell? ⟨bx+1,3,GA⟩=GB (.slice (GB ⟨d,a,GA⟩) e.kids.len b)/\w2.cell? ⟨b0,done.len*4,GA⟩=GB (.int .i64 h)/\w2.cell? ⟨b0,done.len*4+1,GA⟩=GB (.int .i64 kn)/\w2.cell? ⟨b0,done.len*4+2,GA⟩=GB (stv g)/\w2.cell? ⟨b0,done.len*4+3,GA⟩=GB (.slice (GB ⟨D,0,GA⟩) c.len ck)/\w2.cell? ⟨d,a+done.len*4,GA⟩=GB (.int .i64 h)/\w2.cell? ⟨d,a+done.len*4+1,GA⟩=GB (.int .i64 kn)/\w2.cell? ⟨d,a+done.len*4+2,GA⟩=GB (stv g)/\w2.cell? ⟨d,a+done.len*4+3,GA⟩=GB (.slice j c.len i):=⟨(b2.cell (p:=⟨bx,3,GA⟩) (J5 F)).trans p3,(b2.cell (p:=⟨bx+1,3,GA⟩) F).trans y,(b2.cell (p:=⟨b0,done.len*4,GA⟩) l).trans X,(b2.cell (p:=⟨b0,done.len*4+1,GA⟩) l).trans W,(b2.cell (p:=⟨b0,done.len*4+2,GA⟩) l).trans V,(b2.cell (p:=⟨b0,done.len*4+3,GA⟩) l).trans U,(b2.cell (p:=⟨d,a+done.len*4,GA⟩) k).trans T,(b2.cell (p:=⟨d,a+done.len*4+1,GA⟩) k).trans R,(b2.cell (p:=⟨d,a+done.len*4+2,GA⟩) k).trans Q,(b2.cell (p:=⟨d,a+done.len*4+3,GA⟩) k).trans P⟩));have B2:GK bx w w2:=(O.drew).trans (b2.mono (by have:=HB.out;have:=O.size;show bx<=wr.heap.size;omega));have E2:=(b2.block bx (J5 F)).trans E1;have Y2:=(b2.block (bx+1) F).trans J;have L:=lB.below (lB.below M (GN _ wr).drew) b2;have T2:=SnA.below (SnA.below T1 (GN _ wr).drew) b2;have af:Hid (e.kids=(done.snoc ⟨h,kn,g,H,c⟩).app G):=by show e.kids=_;rw[q.out];unfold Fs.snoc;rw[Fs.app_assoc];rfl
   have ad:(done.len:Int)+1=((done.snoc ⟨h,kn,g,H,c⟩).len:Nat):=by rw[Fs.len_snoc];rfl
   have aj:e.kids.len-(done.len+1)<e.kids.len-done.len:=by omega
   clear k0 k1 k2 p0 p1 p2 p3 pf q0 Z q2 y Y X W V U T R Q P I b2 E1 J M T1 O q;go_wp2;go_roundw
   case rel=>exact⟨_,G,af,by rw[<-ad],E2,Y2,L,T2,B2⟩
   case measure=>simp[Hh];omega
theorem rU:∀ N,rd N -- 43
 | 0=>λe b0 cap b a w h=>absurd h (Hr _)
 | N+1=>tT (rU N)
def LnI (w:GE)(P:Nat->Prop)(v:GJ)(cells:List Int):Prop :=
 ∃g c,v=.slice (GB ⟨g,0,GA⟩) cells.length c/\P g/\g<w.heap.size/\cells.length+1<=c/\c<=GY/\(∀ j x,cells[j]?=GB x->w.cell? ⟨g,j,GA⟩=GB (.int .i64 x))/\w.cell? ⟨g,cells.length,GA⟩=GB (.int .i64 (-7))
theorem LnI.mono {w w':GE}{P Q:Nat->Prop}{v:GJ}{xs:List Int}(e:∀ k,P k->k<w.heap.size->w'.heap[k]?=w.heap[k]?)(i:w.heap.size<=w'.heap.size)(l:∀ k,P k->k<w.heap.size->Q k)(h:LnI w P v xs):LnI w' Q v xs:=by
 obtain⟨g,c,rfl,d,b,h1,h2,n,m⟩:=h;exact⟨g,c,rfl,l g d b,GM b i,h1,h2,λj u f=>(GS (a:=⟨g,j,GA⟩) (e g d b)).trans (n j u f),(GS (a:=⟨g,xs.length,GA⟩) (e g d b)).trans m⟩
theorem LnI.below {P:Nat->Prop}{w w':GE}{v:GJ}{xs:List Int}(h:LnI w P v xs)(b:GK w.heap.size w w'):LnI w' P v xs:=h.mono (λi _ a=>b.block i a) b.size (λ_ h _=>h)
theorem LnI.inA {w:GE}{P:Nat->Prop}{v:GJ}{xs:List Int}(h:LnI w P v xs):InA w v xs:=by
 obtain⟨g,c,rfl,e,a,h1,h2,d,f⟩:=h;exact⟨_,c,rfl,.inr ⟨g,0,rfl,trivial,a,λj x b=>by rw[Hx];exact d j x b⟩⟩
theorem InA.news {w:GE}{ao:Option G1}{cap:Nat}{xs:List Int}(h:xs=[]\/∃b off,ao=GB ⟨b,off,GA⟩/\True/\b<w.heap.size/\∀ j x,xs[j]?=GB x->w.cell? ⟨b,off+j,GA⟩=GB (.int .i64 x)):0<xs.length->∃f,ao=GB f/\∀ j u,(xs.map (GT .i64))[j]?=GB u->w.cell? (f.add j)=GB u:=by
 intro e;rcases h with h|⟨b,off,rfl,-,g,c⟩
 ·rw[h] at e;simp at e
 ·refine⟨_,rfl,λj u a=>?_⟩;rw[Ie] at a;cases d:xs[j]? with
  | none=>rw[d] at a;cases a
  | some t =>
   rw[d] at a;injection a with a
   subst a;have i:((⟨b,off,GA⟩:G1).add j)=⟨b,off+j,GA⟩:=by simp only[I8];split<;>simp_all
   rw[i];exact c j t d
theorem Ba (xs:List Int):∀ u ∈ xs.map (GT .i64),u.oneCell'=true:=λu a=>by
 obtain⟨x,_,rfl⟩:=List.mem_map.1 a;rfl
theorem um {w w':GE}{x:GJ}{t:Hl}(b:GK (w.alloc (.cells #[x] t)).drew.heap.size (w.alloc (.cells #[x] t)).drew w'):∀ j u,[x][j]?=GB u->w'.cell? ((⟨w.heap.size,0,GA⟩:G1).add j)=GB u:=λj u a=>by
 have h1:=gm w [x] t j u a;have c:((⟨w.heap.size,0,GA⟩:G1).add j)=⟨w.heap.size,j,GA⟩:=by simp only[I8];split<;>simp_all
 rw[c] at h1 ⊢;exact(b.cell (p:=⟨w.heap.size,j,GA⟩) (by show w.heap.size<(w.alloc _).heap.size;simp)).trans h1
theorem AL {n h c5:Nat}{w w1 W b:GE}{d j:Nat->Nat}{f:Fs}(i:GK n w w1)(m:n<=w.heap.size)(q:∀ k,k<n->d k=0)(g:GK w1.heap.size w1 W)(p:Spn W (Nw w1.heap.size) f h c5)(c:dQ (λk=>k=5) W (dR w1 d 0) b j) :
  GK n w b/\Spn b (Nw w1.heap.size) f h c5/\∀ k,k<w1.heap.size->d k≠5->b.heap[k]?=w1.heap[k]?:=by
 have h1:=i.size;refine⟨en (i.trans (g.mono (by omega))) c (λk a=>by rw[ed (by omega),q k a];decide) m,p.mono (λk e o=>c.block k o (by rw[dY e];decide)) c.size (λk e _=>e),λk a l=>(c.block k (GM a g.size) (by rw[ed a];exact l)).trans (g.block k a)⟩
theorem zW {P:Nat->Prop}{w:GE}{o:Nat->Nat}{g c:Nat}{cells:List Int}(r:Row w o 5 3 1 (.slice (GB ⟨g,0,GA⟩) (cells.length+1) c) (cells.length+1) (cells.map (GT .i64)++[.int .i64 (-7)]))(l:P g):LnI w P (.slice (GB ⟨g,0,GA⟩) cells.length c) cells/\cells.length<=c:=by
 obtain⟨n,k,f,m,e,d,a,i,_⟩:=r.pos (by omega);simp only[Ir,IQ,Addr.mk.injEq,true_and,and_true] at f;obtain⟨rfl,rfl⟩:=f;refine⟨⟨g,c,rfl,l,a,e,d,λj x h=>?_,?_⟩,by omega⟩
 ·have b:j<cells.length:=(List.getElem?_eq_some_iff.1 h).1;rw[i j (by omega),Iu (by simpa using b),Ie,h];rfl
 ·rw[i cells.length (by omega),Ig (by simp)];simp
theorem DI {z g c m:Nat}{w1 W d:GE}{e a:Nat->Nat}{xs:List GJ}(f:e z=0)(b:z<w1.heap.size)(r:Row d a 5 3 1 (.slice (GB ⟨g,0,GA⟩) m c) m xs)(s:dQ (λk=>k=5) W (dR w1 e 0) d a)(i:w1.heap.size<=W.heap.size):g≠z:=by
 intro h;have h1:=r.2 g rfl;rw[h,s.lab z (by omega),ed b,f] at h1;cases h1
theorem Av {n g c m:Nat}{w1 W b:GE}{d a:Nat->Nat}{xs:List GJ}(L:∀ k,k<n->d k=0)(r:Row b a 5 3 1 (.slice (GB ⟨g,0,GA⟩) m c) m xs)(s:dQ (λk=>k=5) W (dR w1 d 0) b a)(f:n<=W.heap.size)(e:n<=w1.heap.size):n<=g:=by
 rcases JJ g n with h|h
 ·have h1:a g=5:=r.2 g rfl;rw[s.lab g (by omega),ed (by omega),L g h] at h1;cases h1
 ·exact h
theorem xX {w:GE}{n0:Nat}{a0 a1 a2 a3 a4 c0 c1 c2 c3 c4:GJ}(h:w.cell? ⟨n0,0,GA⟩=GB c0/\w.cell? ⟨n0,1,GA⟩=GB c1/\w.cell? ⟨n0,2,GA⟩=GB c2/\w.cell? ⟨n0,3,GA⟩=GB c3/\w.cell? ⟨n0,4,GA⟩=GB c4):(((((w.setCell ⟨n0+1,0,GA⟩ a0).setCell ⟨n0+1,1,GA⟩ a1).setCell ⟨n0+1,2,GA⟩ a2).setCell ⟨n0+1,3,GA⟩ a3).setCell ⟨n0+1,4,GA⟩ a4).cell? ⟨n0,0,GA⟩=GB c0/\(((((w.setCell ⟨n0+1,0,GA⟩ a0).setCell ⟨n0+1,1,GA⟩ a1).setCell ⟨n0+1,2,GA⟩ a2).setCell ⟨n0+1,3,GA⟩ a3).setCell ⟨n0+1,4,GA⟩ a4).cell? ⟨n0,1,GA⟩=GB c1/\(((((w.setCell ⟨n0+1,0,GA⟩ a0).setCell ⟨n0+1,1,GA⟩ a1).setCell ⟨n0+1,2,GA⟩ a2).setCell ⟨n0+1,3,GA⟩ a3).setCell ⟨n0+1,4,GA⟩ a4).cell? ⟨n0,2,GA⟩=GB c2/\(((((w.setCell ⟨n0+1,0,GA⟩ a0).setCell ⟨n0+1,1,GA⟩ a1).setCell ⟨n0+1,2,GA⟩ a2).setCell ⟨n0+1,3,GA⟩ a3).setCell ⟨n0+1,4,GA⟩ a4).cell? ⟨n0,3,GA⟩=GB c3/\(((((w.setCell ⟨n0+1,0,GA⟩ a0).setCell ⟨n0+1,1,GA⟩ a1).setCell ⟨n0+1,2,GA⟩ a2).setCell ⟨n0+1,3,GA⟩ a3).setCell ⟨n0+1,4,GA⟩ a4).cell? ⟨n0,4,GA⟩=GB c4:=by
 have b:=im w (n0+1) n0 a0 a1 a2 a3 a4 (by omega);obtain⟨e,h1,h2,d,c⟩:=h;exact⟨(GS (a:=⟨n0,0,GA⟩) b).trans e,(GS (a:=⟨n0,1,GA⟩) b).trans h1,(GS (a:=⟨n0,2,GA⟩) b).trans h2,(GS (a:=⟨n0,3,GA⟩) b).trans d,(GS (a:=⟨n0,4,GA⟩) b).trans c⟩
def AY (w:GE)(e:Ex)(cells:List Int)(x:IG)(w':GE):Prop:=∃b a v,x=.returned (plV e (GB ⟨b,0,GA⟩) a v)/\Spn w' (Nw w.heap.size) e.kids b a/\LnI w' (Nw w.heap.size) v cells/\GK w.heap.size w w'
theorem uR (e:Ex)(ao:Option G1)(cap:Nat)(cv:GJ)(cells:List Int)(w:GE)(Q:e.kids.len<=1000000000)(ae:e.kids.short)(hc:InA w cv cells)(aj:cells.length<=100000)(S:SnA w e.kids ao) :
  GR GD 15 #[plV e ao cap cv] w (AY w e cells):=by
 obtain⟨ii,J,m,l,j⟩:=ek wQ;obtain⟨ac,cc,rfl,Z⟩:=hc;obtain⟨w0,o⟩:=exq ((w.alloc (zPl e ao cap ac cells.length cc)).alloc (.cells #[.int .i64 0,.int .i64 0,.string ⟨#[]⟩,.slice GA 0 0,.slice GA 0 0] 37));have X:GK w.heap.size w w0:=by rw[o];exact((GN _ w).alloc (GC _) _).alloc (by simp) _
 have B:w0.heap[w.heap.size]?=GB (zPl e ao cap ac cells.length cc):=by
  rw[o];exact(GO _ _ _ (by simp)).trans (GH w _)
 have T:w0.heap[w.heap.size+1]?=GB (.cells #[.int .i64 0,.int .i64 0,.string ⟨#[]⟩,.slice GA 0 0,.slice GA 0 0] 37 (0,0)):=by
  rw[o]
  have:=GH (w.alloc (zPl e ao cap ac cells.length cc)) (.cells #[.int .i64 0,.int .i64 0,.string ⟨#[]⟩,.slice GA 0 0,.slice GA 0 0] 37)
  simpa using this
 have S0:=SnA.below S X;obtain⟨_,_,G,O⟩:=Inw.below (P:=λ_=>True) ⟨ac,cc,rfl,Z⟩ X;injection G with G ab aa
 subst G;subst aa;have r:=InA.news (cap:=cc) O;have b:=Ba cells;clear Z O ab;rw[fe];go_enter Tryz.func15,Tryz.ntmps15;go_upto_region 1 with fail;rw[<-o];clear o;obtain⟨n0,H⟩:=exq w.heap.size;unfold AY;rw[<-H] at B T X ⊢;have W:Hid (n0=w.heap.size):=H;clear H;obtain⟨p0,p1,p2,p3,p4,pf⟩:=dT B;go_wp2_with (first|(at_builtin;refine je rfl (.tmp 4) (.tmp 6) 35 rfl 3 ii (.int .i64 0) 1 8 Hu J m l j rfl (by decide) (λ_=>0) 5 _ 0 [] rfl (Row.nil _ _ _ _ _) ac cells.length cc (cells.map (GT .i64)) rfl ?c1 r b ?c3 ?c4 ?_)|go_in)
 case c1=>simp
 case c3=>unfold GY;omega
 case c4=>omega
 intro a1 c1 w1 F R1 N;try simp only[Hx,Iy] at R1
 try simp only[Hx,Iy]
 have b1:=N.below (λk hk=>by decide);have af:=b1.size;have P1:=(b1.block _ (GF B)).trans B;have Z1:=(b1.block _ (GF T)).trans T;have A:=GF Z1;have oP:F n0=0:=N.lab n0 (GF B);have Y:F (n0+1)=0:=N.lab (n0+1) (GF T);have B1:GK n0 w w1:=X.trans (b1.mono (by have:=GF B;omega));have V:Hid (∀ k,k<n0->F k=0):=λk hk=>N.lab k (by have:=GF B;omega);have S1:=SnA.below S0 b1;clear p0 p1 p2 p3 p4 pf B T X S0 N b1 r b S af;go_upto_region 3 with fail;obtain⟨p0,p1,p2,p3,p4,pf⟩:=dT P1;have Bd:GK w1.heap.size w1 w1.drew:=⟨rfl,rfl,rfl,GC _,λ_ _=>rfl⟩;have f:=Bd.alloc (GC _) (.cells #[.int .i64 (-7)] 3);have R:=λ(wx:GE) (Z:SnA wx e.kids ao)=>sq (e.kids.size+1) e ao cap wx (by omega) Q ae Z;simp only[dS] at R;have b:∀ u ∈ [GT .i64 (-7)],u.oneCell'=true:=by intro u hu;simp at hu;subst hu;rfl
 have q1:cells.length+1<=GY:=by unfold GY;omega
 have q2:(cells.length+1)*8<=140737488355328:=by omega
 have ai:Hid (∀ k,k<n0->F k≠5):=λk hk=>by rw[V.out k hk];decide
 have a:n0<w1.heap.size:=GF P1;have k0:w1.cell? ⟨n0,0,GA⟩=GB (.int .i64 e.k)/\w1.cell? ⟨n0,1,GA⟩=GB (.int .i64 e.n)/\w1.cell? ⟨n0,2,GA⟩=GB (stv e.nm)/\w1.cell? ⟨n0,3,GA⟩=GB (.slice ao e.kids.len cap)/\w1.cell? ⟨n0,4,GA⟩=GB (.slice ac cells.length cc):=⟨p0,p1,p2,p3,p4⟩;have k1:w1.drew.cell? ⟨n0,0,GA⟩=GB (.int .i64 e.k)/\w1.drew.cell? ⟨n0,1,GA⟩=GB (.int .i64 e.n)/\w1.drew.cell? ⟨n0,2,GA⟩=GB (stv e.nm)/\w1.drew.cell? ⟨n0,3,GA⟩=GB (.slice ao e.kids.len cap)/\w1.drew.cell? ⟨n0,4,GA⟩=GB (.slice ac cells.length cc):=k0;have kA:(w1.alloc (.cells #[.int .i64 (-7)] 3)).drew.cell? ⟨n0,0,GA⟩=GB (.int .i64 e.k)/\(w1.alloc (.cells #[.int .i64 (-7)] 3)).drew.cell? ⟨n0,1,GA⟩=GB (.int .i64 e.n)/\(w1.alloc (.cells #[.int .i64 (-7)] 3)).drew.cell? ⟨n0,2,GA⟩=GB (stv e.nm)/\(w1.alloc (.cells #[.int .i64 (-7)] 3)).drew.cell? ⟨n0,3,GA⟩=GB (.slice ao e.kids.len cap)/\(w1.alloc (.cells #[.int .i64 (-7)] 3)).drew.cell? ⟨n0,4,GA⟩=GB (.slice ac cells.length cc):=⟨(f.cell (p:=⟨n0,0,GA⟩) a).trans p0,(f.cell (p:=⟨n0,1,GA⟩) a).trans p1,(f.cell (p:=⟨n0,2,GA⟩) a).trans p2,(f.cell (p:=⟨n0,3,GA⟩) a).trans p3,(f.cell (p:=⟨n0,4,GA⟩) a).trans p4⟩;go_region_held3 (λwx=>wx.cell? ⟨n0,0,GA⟩=GB (.int .i64 e.k)/\wx.cell? ⟨n0,1,GA⟩=GB (.int .i64 e.n)/\wx.cell? ⟨n0,2,GA⟩=GB (stv e.nm)/\wx.cell? ⟨n0,3,GA⟩=GB (.slice ao e.kids.len cap)/\wx.cell? ⟨n0,4,GA⟩=GB (.slice ac cells.length cc)) (first|(with_reducible exact k9)|(with_reducible exact xX k9)|(with_reducible exact k3)|(with_reducible exact k2)|(with_reducible exact kA)|(with_reducible exact k1)|(with_reducible exact k0)) ((first|(go_at_call 37;refine(R _ (S1.belowP (by first|exact Bd|exact f))).mono ?_;rintro x d ⟨M,c5,rfl,ah,B5⟩;have c:GK w1.heap.size w1 d:=(by first|exact Bd.trans (B5.mono (by simp))|exact f.trans (B5.mono (by simp)));have S5:Spn d (Nw w1.heap.size) e.kids M c5:=ah.mono (λ_ _ _=>rfl) (GC _) (λk q _=>Hn (by simp) q);have k2:d.cell? ⟨n0,0,GA⟩=GB (.int .i64 e.k)/\d.cell? ⟨n0,1,GA⟩=GB (.int .i64 e.n)/\d.cell? ⟨n0,2,GA⟩=GB (stv e.nm)/\d.cell? ⟨n0,3,GA⟩=GB (.slice ao e.kids.len cap)/\d.cell? ⟨n0,4,GA⟩=GB (.slice ac cells.length cc):=⟨(c.cell (p:=⟨n0,0,GA⟩) a).trans p0,(c.cell (p:=⟨n0,1,GA⟩) a).trans p1,(c.cell (p:=⟨n0,2,GA⟩) a).trans p2,(c.cell (p:=⟨n0,3,GA⟩) a).trans p3,(c.cell (p:=⟨n0,4,GA⟩) a).trans p4⟩;have t:=c.alloc c.size (.cells #[.int .i64 (-7)] 3);have k3:(d.alloc (.cells #[.int .i64 (-7)] 3)).cell? ⟨n0,0,GA⟩=GB (.int .i64 e.k)/\(d.alloc (.cells #[.int .i64 (-7)] 3)).cell? ⟨n0,1,GA⟩=GB (.int .i64 e.n)/\(d.alloc (.cells #[.int .i64 (-7)] 3)).cell? ⟨n0,2,GA⟩=GB (stv e.nm)/\(d.alloc (.cells #[.int .i64 (-7)] 3)).cell? ⟨n0,3,GA⟩=GB (.slice ao e.kids.len cap)/\(d.alloc (.cells #[.int .i64 (-7)] 3)).cell? ⟨n0,4,GA⟩=GB (.slice ac cells.length cc):=⟨(t.cell (p:=⟨n0,0,GA⟩) a).trans p0,(t.cell (p:=⟨n0,1,GA⟩) a).trans p1,(t.cell (p:=⟨n0,2,GA⟩) a).trans p2,(t.cell (p:=⟨n0,3,GA⟩) a).trans p3,(t.cell (p:=⟨n0,4,GA⟩) a).trans p4⟩;rw[dS])|(refine fT rfl (.tmp 11) (.tmp 12) 35 rfl 3 ii (.int .i64 0) 1 8 Hu J m l j rfl (by decide) (dR w1 F 0) 5 _ cells.length (cells.map (GT .i64)) (by simp[JY,Ip]) ((R1.step (Below.toStepC (I:=λ_=>False) c) id).step (((dQ.refl (λ_=>False) d (dR w1 F 0))).alloc _) id) ⟨d.heap.size,0,GA⟩ 1 1 [.int .i64 (-7)] (by simp[JY,Ip]) rfl (uV (by simp) _ _) b (by decide) q1 q2 ?_;intro z c9 g o9 E D;have C:=AL B1 (by rw[W.out];exact GC _) V.out (c.alloc c.size (.cells #[.int .i64 (-7)] 3)) (S5.mono (λi _ hl=>GO d _ i hl) (by simp) (λ_ h _=>h)) D;have s:=(C.2.2 n0 a (by rw[oP];decide)).trans P1;have k9:g.cell? ⟨n0,0,GA⟩=GB (.int .i64 e.k)/\g.cell? ⟨n0,1,GA⟩=GB (.int .i64 e.n)/\g.cell? ⟨n0,2,GA⟩=GB (stv e.nm)/\g.cell? ⟨n0,3,GA⟩=GB (.slice ao e.kids.len cap)/\g.cell? ⟨n0,4,GA⟩=GB (.slice ac cells.length cc):=⟨(dT s).1,(dT s).2.1,(dT s).2.2.1,(dT s).2.2.2.1,(dT s).2.2.2.2.1⟩;have L:n0<=z:=Av V.out E D (by have:=c.size;simp;omega) (by have:=a;omega);have K:z≠n0+1:=DI Y A E D (by have:=c.size;simp;omega);have U:=zW (P:=λk=>n0<=k/\k≠n0+1) E ⟨L,K⟩;have ag:=U.2;have Z9:=(C.2.2 (n0+1) A (by rw[Y];decide)).trans Z1;obtain⟨z0,z1,z2,z3,z4,zf⟩:=dT Z9)|(refine fT rfl (.tmp 11) (.tmp 12) 35 rfl 3 ii (.int .i64 0) 1 8 Hu J m l j rfl (by decide) (dR w1 F 0) 5 _ cells.length (cells.map (GT .i64)) (by simp[JY,Ip]) (R1.step (Below.toStepC (I:=λ_=>False) c) id) ⟨w1.heap.size,0,GA⟩ 1 1 [.int .i64 (-7)] (by simp[JY,Ip]) rfl (um B5) b (by decide) q1 q2 ?_;intro z c9 g o9 E D;have C:=AL B1 (by rw[W.out];exact GC _) V.out c S5 D;have s:=(C.2.2 n0 a (by rw[oP];decide)).trans P1;have k9:g.cell? ⟨n0,0,GA⟩=GB (.int .i64 e.k)/\g.cell? ⟨n0,1,GA⟩=GB (.int .i64 e.n)/\g.cell? ⟨n0,2,GA⟩=GB (stv e.nm)/\g.cell? ⟨n0,3,GA⟩=GB (.slice ao e.kids.len cap)/\g.cell? ⟨n0,4,GA⟩=GB (.slice ac cells.length cc):=⟨(dT s).1,(dT s).2.1,(dT s).2.2.1,(dT s).2.2.2.1,(dT s).2.2.2.2.1⟩;have L:n0<=z:=Av V.out E D (by have:=c.size;omega) (by have:=a;omega);have K:z≠n0+1:=DI Y A E D (by have:=c.size;omega);have U:=zW (P:=λk=>n0<=k/\k≠n0+1) E ⟨L,K⟩;have ag:=U.2;have Z9:=(C.2.2 (n0+1) A (by rw[Y];decide)).trans Z1;obtain⟨z0,z1,z2,z3,z4,zf⟩:=dT Z9)))
 all_goals (
  have HU:Hid (∃y,y=(((((g.setCell ⟨n0+1,0,GA⟩ (.int .i64 e.k)).setCell ⟨n0+1,1,GA⟩ (.int .i64 e.n)).setCell ⟨n0+1,2,GA⟩ (stv e.nm)).setCell ⟨n0+1,3,GA⟩ (.slice (GB ⟨M,0,GA⟩) e.kids.len c5)).setCell ⟨n0+1,4,GA⟩ (.slice (GB ⟨z,0,GA⟩) cells.length c9))/\y.cell? ⟨n0+1,0,GA⟩=GB (.int .i64 e.k)/\y.cell? ⟨n0+1,1,GA⟩=GB (.int .i64 e.n)/\y.cell? ⟨n0+1,2,GA⟩=GB (stv e.nm)/\y.cell? ⟨n0+1,3,GA⟩=GB (.slice (GB ⟨M,0,GA⟩) e.kids.len c5)/\y.cell? ⟨n0+1,4,GA⟩=GB (.slice (GB ⟨z,0,GA⟩) cells.length c9)/\Spn y (Nw n0) e.kids M c5/\LnI y (Nw n0) (.slice (GB ⟨z,0,GA⟩) cells.length c9) cells/\GK n0 w y):=by
   obtain⟨u0,u1,u2,u3,u4,-⟩:=dT (eT (.int .i64 e.k) (.int .i64 e.n) (stv e.nm) (.slice (GB ⟨M,0,GA⟩) e.kids.len c5) (.slice (GB ⟨z,0,GA⟩) cells.length c9) Z9);refine⟨_,rfl,u0,u1,u2,u3,u4,C.2.1.mono (λk q _=>im g (n0+1) k _ _ _ _ _ (by have q:w1.heap.size<=k:=q;omega)) (by simp) (λk q _=>by have q:w1.heap.size<=k:=q;show n0<=k;omega),U.1.mono (λk q _=>im g (n0+1) k _ _ _ _ _ q.2) (by simp) (λk q _=>q.1),?_⟩;exact((((C.1.setCell (p:=⟨n0+1,0,GA⟩) (Hv _) _).setCell (p:=⟨n0+1,1,GA⟩) (Hv _) _).setCell (p:=⟨n0+1,2,GA⟩) (Hv _) _).setCell (p:=⟨n0+1,3,GA⟩) (Hv _) _).setCell (p:=⟨n0+1,4,GA⟩) (Hv _) _
  clear C U;go_wp2;obtain⟨y,ad,v0,v1,v2,v3,v4,SZ,LZ,BZ⟩:=HU.out;rw[<-ad];exact GG (v:=plV e (GB ⟨M,0,GA⟩) c5 (.slice (GB ⟨z,0,GA⟩) cells.length c9)) (by simp[results,Tryz.results15,go_sem,v0,v1,v2,v3,v4,plV]) rfl ⟨M,c5,_,rfl,by rw[<-W.out];exact SZ,by rw[<-W.out];exact LZ,by rw[<-W.out];exact BZ⟩)
theorem ug (e:Ex)(b0 cap:Nat)(I:GJ)(b:Option G1)(a:Nat)(m:GJ)(cells:List Int)(w:GE)(q:e.kids.len<=1000000000)(G:e.kids.short)(H:cells.length<=1000000000)(S:lB w e.kids b0 cap)(N:SnA w e.kids b)(y:LnI w (λ_=>True) I cells)(h:InA w m cells) :
  GR GD 18 #[plV e (GB ⟨b0,0,GA⟩) cap I,plV e b a m] w λx w'=>x=.returned (.bool true)/\GK w.heap.size w w':=by
 obtain⟨g,c,r,s⟩:=y;have y:LnI w (λ_=>True) I cells:=⟨g,c,r,s⟩;subst r;obtain⟨j,i,k,p⟩:=h;have h:InA w m cells:=⟨j,i,k,p⟩;subst k;clear s p;obtain⟨w0,d⟩:=exq ((w.alloc (zPl e (GB ⟨b0,0,GA⟩) cap (GB ⟨g,0,GA⟩) cells.length c)).alloc (zPl e b a j cells.length i));have n:GK w.heap.size w w0:=by rw[d];exact((GN _ w).alloc (GC _) _).alloc (by simp) _
 have o:w0.heap[w.heap.size]?=GB (zPl e (GB ⟨b0,0,GA⟩) cap (GB ⟨g,0,GA⟩) cells.length c):=by
  rw[d];exact(GO _ _ _ (by simp)).trans (GH w _)
 have t:w0.heap[w.heap.size+1]?=GB (zPl e b a j cells.length i):=by
  rw[d]
  have:=GH (w.alloc (zPl e (GB ⟨b0,0,GA⟩) cap (GB ⟨g,0,GA⟩) cells.length c)) (zPl e b a j cells.length i)
  simpa using this
 have P:=lB.below S n;have M:=SnA.below N n;have L0:=y.below n;have R:=h.below n;have c1:=xS w0 _ _ cells cells L0.inA R H;rw[decide_eq_true rfl] at c1;rw[fe,fe];go_enter Tryz.func18,Tryz.ntmps18;go_upto_region 1 with fail;rw[<-d];clear d;obtain⟨bx,l⟩:=exq w.heap.size;rw[<-l] at o t n ⊢;have HB:Hid (bx=w.heap.size):=l;clear l S N y h R;obtain⟨p0,p1,p2,p3,p4,v⟩:=dT o;obtain⟨D,C,q2,B,A,z⟩:=dT t;go_wp2_with fail;refine c1.mono ?_;rintro x w1 ⟨rfl,b1⟩;have u:=(b1.block _ (GF o)).trans o;have K:=(b1.block _ (GF t)).trans t;have O:=lB.below P b1;have L:=SnA.below M b1;have Q:=L0.below b1;have T:=n.trans (b1.mono (by have:=GF o;omega));clear c1 b1 o t P M L0 n p0 p1 p2 p3 p4 v D C q2 B A z;obtain⟨p0,p1,p2,p3,p4,v⟩:=dT u;obtain⟨D,C,q2,B,A,z⟩:=dT K;have c2:=rU (e.kids.size+1) e b0 cap b a w1 (by omega) q G O L;rw[dS,dS] at c2;go_wp2_with fail;refine c2.mono ?_;rintro x w2 ⟨rfl,b2⟩;have E2:=(b2.block _ (GF u)).trans u;have Z:=Q.below b2;have B2:=T.trans (b2.mono (by have:=GF u;omega));clear c2 b2 u K O L Q T p0 p1 p2 p3 p4 v D C q2 B A z;obtain⟨p0,p1,p2,p3,p4,v⟩:=dT E2;obtain⟨g',c',V,-,W,h1,h2,-,h7⟩:=Z;injection V with f F E
 injection f with f
 injection f with f
 subst f;subst E;have U:IntKind.i64.wrap ((cells.length:Int)+1)=(cells.length:Int)+1:=by rw[Ii];omega
 clear F;go_upto_region 3 with fail
 go_quiet (fail)
 go_wp2;go_ret;exact⟨rfl,by rw[<-HB.out];exact bdr B2 nq⟩
structure CdQ where
 ws:List Int
 cs:List Int
 ns:List ByteArray
 ks:List Int
def pR (w:GE)(ao:Option G1)(xs:List GJ):Prop :=
 xs=[]\/∃b off,ao=GB ⟨b,off,GA⟩/\b<w.heap.size/\∀ j x,xs[j]?=GB x->w.cell? ⟨b,off+j,GA⟩=GB x
theorem pR.below {w w':GE}{ao:Option G1}{xs:List GJ}(h:pR w ao xs)(B:GK w.heap.size w w'):pR w' ao xs:=by
 rcases h with h|⟨b,off,rfl,a,d⟩
 ·exact .inl h
 ·exact .inr ⟨b,off,rfl,GM a B.size,λj x c=>(B.cell (p:=⟨b,off+j,GA⟩) a).trans (d j x c)⟩
theorem pR.at {w:GE}{ao:Option G1}{xs:List GJ}(h:pR w ao xs){j:Nat}{x:GJ}(c:xs[j]?=GB x):∃b off,ao=GB ⟨b,off,GA⟩/\b<w.heap.size/\w.cell? ⟨b,off+j,GA⟩=GB x:=by
 rcases h with rfl|⟨b,off,rfl,a,d⟩
 ·simp at c
 ·exact⟨b,off,rfl,a,d j x c⟩
def sZ (l:List Int):List GJ:=l.map (.int .u64 ·)
def xJ (l:List Int):List GJ:=l.map (.int .i64 ·)
def tg (l:List ByteArray):List GJ:=l.map (.string ·)
theorem vB {l:List Int}{k:Nat}(h:k<l.length):(sZ l)[k]?=GB (.int .u64 l[k]):=by
 simp[sZ,GI h]
theorem lV {l:List Int}{k:Nat}(h:k<l.length):(xJ l)[k]?=GB (.int .i64 l[k]):=by
 simp[xJ,GI h]
theorem vY {l:List ByteArray}{k:Nat}(h:k<l.length):(tg l)[k]?=GB (.string l[k]):=by
 simp[tg,GI h]
structure PlQ where
 aw:Option G1
 cw:Nat
 ac:Option G1
 cc:Nat
 an:Option G1
 cn:Nat
 ak:Option G1
 ck:Nat
abbrev kj (p:PlQ)(c:CdQ):Array GJ:=#[.slice p.aw c.ws.length p.cw,.slice p.ac c.cs.length p.cc,.slice p.an c.ns.length p.cn,.slice p.ak c.ks.length p.ck]
abbrev wY (p:PlQ)(c:CdQ):GJ:=.agg (kj p c)
structure mZ (w:GE)(p:PlQ)(c:CdQ):Prop where
 ws:pR w p.aw (sZ c.ws)
 cs:pR w p.ac (xJ c.cs)
 ns:pR w p.an (tg c.ns)
 ks:pR w p.ak (xJ c.ks)
 lw:c.ws.length<=9223372036854775807
 lc:c.cs.length<=9223372036854775807
 ln:c.ns.length<=9223372036854775807
 lk:c.ks.length<=9223372036854775807
theorem mZ.below {w w':GE}{p:PlQ}{c:CdQ}(h:mZ w p c)(B:GK w.heap.size w w'):mZ w' p c :=
 ⟨h.ws.below B,h.cs.below B,h.ns.below B,h.ks.below B,h.lw,h.lc,h.ln,h.lk⟩
theorem Gn (w:GE)(a b c d:GJ)(t:Hl):(w.alloc (.cells #[a,b,c,d] t)).heap[w.heap.size]?=GB (.cells #[a,b,c,d] t (0,0)):=GH _ _
theorem rT {w:GE}{g:Nat}{a b c d:GJ}{t:Hl}(h:w.heap[g]?=GB (.cells #[a,b,c,d] t (0,0))):w.cell? ⟨g,0,GA⟩=GB a/\w.cell? ⟨g,1,GA⟩=GB b/\w.cell? ⟨g,2,GA⟩=GB c/\w.cell? ⟨g,3,GA⟩=GB d:=by
 refine⟨?_,?_,?_,?_⟩<;>simp[JE,h]
abbrev sU (p:PlQ)(c:CdQ)(w:GE)(b:Nat):Prop:=w.cell? ⟨b,0,GA⟩=GB (.slice p.aw c.ws.length p.cw)/\w.cell? ⟨b,1,GA⟩=GB (.slice p.ac c.cs.length p.cc)/\w.cell? ⟨b,2,GA⟩=GB (.slice p.an c.ns.length p.cn)/\w.cell? ⟨b,3,GA⟩=GB (.slice p.ak c.ks.length p.ck)
theorem lQ {p:PlQ}{c:CdQ}{w w':GE}{b:Nat}(h:sU p c w b)(a:b<w.heap.size)(B:GK w.heap.size w w'):sU p c w' b :=
 ⟨(B.cell (p:=⟨b,0,GA⟩) a).trans h.1,(B.cell (p:=⟨b,1,GA⟩) a).trans h.2.1,(B.cell (p:=⟨b,2,GA⟩) a).trans h.2.2.1,(B.cell (p:=⟨b,3,GA⟩) a).trans h.2.2.2⟩
theorem rX (p:PlQ)(c:CdQ)(w:GE):sU p c (w.alloc (.cells (kj p c) 42)) w.heap.size:=rT (Gn _ _ _ _ _ _)
theorem dQ.newQ {I:Nat->Prop}{w w':GE}(o:Nat->Nat)(i:Nat)(B:GK w.heap.size w w'):dQ I w o w' (dR w o i):=⟨B.os,B.tape,B.output,B.size,λk a=>ed a,λk a _=>B.block k a⟩
theorem Row.lsvQ {w:GE}{o:Nat->Nat}{i:Nat}{e:Hl}{ao:Option G1}{n cap:Nat}{xs:List GJ}(h:Row w o i e 1 (.slice ao n cap) n xs):pR w ao xs:=by
 by_cases f:0<n
 ·obtain⟨g,c,d,-,-,-,a,m,-⟩:=h.pos f;simp only[Ir,true_and] at d;refine .inr ⟨g,0,d.1,a,λj x b=>?_⟩;have k:=h.len;have l:j<n*1:=by have:=(List.getElem?_eq_some_iff.1 b).1;omega
  rw[Hx,m j l];exact b
 ·have k:=h.len;exact .inl (I1 (by omega))
theorem kT {g:Nat}{w w':GE}(h:GK g w w')(n:Nat):GK g w (w'.drewN n):=by
 induction n with
 | zero=>exact h
 | succ n a=>exact a.drew
theorem yA (p q:PlQ)(c:CdQ)(w:GE)(H:mZ w p c)(G:mZ w q c) :
  GR GD 17 #[wY p c,wY q c] w λe w'=>e=.returned (.bool true)/\GK w.heap.size w w':=by
 obtain⟨g,m⟩:=exq w.heap.size;obtain⟨w2,d⟩:=exq ((w.alloc (.cells (kj p c) 42)).alloc (.cells (kj q c) 42));have F:GK g w w2:=by rw[d,m];exact((GN _ w).alloc (GC _) _).alloc (by simp) _
 have z2:w2.heap.size=g+2:=by rw[d,m];simp
 have L:sU p c w2 g:=by
  rw[d,m];exact lQ (rX p c w) (by simp) (b1 _ _)
 have J:sU q c w2 (g+1):=by
  have:=rX q c (w.alloc (.cells (kj p c) 42))
  rw[d,m];simpa using this
 have y:mZ w2 p c:=H.below (by rw[<-m];exact F);have I:mZ w2 q c:=G.below (by rw[<-m];exact F);have M:=GL m;have A:=y.lw;have z:=y.lc;have P:=y.ln;have O:=y.lk;clear H G m;have K:∀ {wr:GE},GK w2.heap.size w2 wr->sU p c wr g/\sU q c wr (g+1)/\mZ wr p c/\mZ wr q c:=λ{wr} B=>⟨lQ L (by omega) B,lQ J (by omega) B,y.below B,I.below B⟩;have N:GK w2.heap.size w2 w2:=GN _ _;obtain⟨a0,a1,a2,a3⟩:=L;obtain⟨e0,l,j,i⟩:=J;clear y I;go_enter Tryz.func17,Tryz.ntmps17;go_wp2_with fail;rw[<-d,<-M.out];clear d;go_wp2_with fail;go_loopw [5] (λv wr=>∃k:Nat,v=.int .i64 k/\k<=c.ws.length/\GK w2.heap.size w2 wr) (λv _=>c.ws.length-(Hh v).toNat)
 case atStart=>exact⟨0,by go_num,by omega,N⟩
 case round =>
  obtain⟨k,rfl,E,x⟩:=hrel;clear a0 a1 a2 a3 e0 l j i;obtain⟨⟨a0,a1,a2,a3⟩,⟨e0,l,j,i⟩,h,f⟩:=K x;by_cases a:k<c.ws.length
  ·have b:(k:Int)<(c.ws.length:Int):=by omega
   obtain⟨b1,D,h1,A,o⟩:=h.ws.at (vB a);obtain⟨b2,C,h2,z,n⟩:=f.ws.at (vB a);generalize c.ws[k]=u at o n;rw[h1] at a0;rw[h2] at e0;go_wp2_with fail
   go_quiet (fail)
   go_wp2;go_roundw
   case rel=>(try ((repeat apply G0);refine⟨?_,rfl⟩));exact⟨k+1,by go_num,by omega,kT x _⟩
   case measure=>simp[Hh];omega
  ·have b:¬(k:Int)<(c.ws.length:Int):=by omega
   clear h f;go_wp2_with fail;go_loopw [6] (λv wr=>∃k:Nat,v=.int .i64 k/\k<=c.cs.length/\GK w2.heap.size w2 wr) (λv _=>c.cs.length-(Hh v).toNat)
   case atStart=>exact⟨0,by go_num,by omega,x⟩
   case round =>
    obtain⟨k,rfl,E,t⟩:=hrel;clear a0 a1 a2 a3 e0 l j i;obtain⟨⟨a0,a1,a2,a3⟩,⟨e0,l,j,i⟩,h,f⟩:=K t;by_cases a:k<c.cs.length
    ·have b:(k:Int)<(c.cs.length:Int):=by omega
     obtain⟨b1,D,h1,A,o⟩:=h.cs.at (lV a);obtain⟨b2,C,h2,z,n⟩:=f.cs.at (lV a);generalize c.cs[k]=u at o n;rw[h1] at a1;rw[h2] at l;go_wp2_with fail
     go_quiet (fail)
     go_wp2;go_roundw
     case rel=>(try ((repeat apply G0);refine⟨?_,rfl⟩));exact⟨k+1,by go_num,by omega,kT t _⟩
     case measure=>simp[Hh];omega
    ·have b:¬(k:Int)<(c.cs.length:Int):=by omega
     clear h f;go_wp2_with fail;go_loopw [7] (λv wr=>∃k:Nat,v=.int .i64 k/\k<=c.ns.length/\GK w2.heap.size w2 wr) (λv _=>c.ns.length-(Hh v).toNat)
     case atStart=>exact⟨0,by go_num,by omega,t⟩
     case round =>
      obtain⟨k,rfl,E,s⟩:=hrel;clear a0 a1 a2 a3 e0 l j i;obtain⟨⟨a0,a1,a2,a3⟩,⟨e0,l,j,i⟩,h,f⟩:=K s;by_cases a:k<c.ns.length
      ·have b:(k:Int)<(c.ns.length:Int):=by omega
       obtain⟨b1,D,h1,A,o⟩:=h.ns.at (vY a);obtain⟨b2,C,h2,z,n⟩:=f.ns.at (vY a);generalize c.ns[k]=u at o n;rw[h1] at a2;rw[h2] at j;go_wp2_with fail
       go_quiet (fail)
       go_wp2;go_roundw
       case rel=>(try ((repeat apply G0);refine⟨?_,rfl⟩));exact⟨k+1,by go_num,by omega,kT s _⟩
       case measure=>simp[Hh];omega
      ·have b:¬(k:Int)<(c.ns.length:Int):=by omega
       clear h f;go_wp2_with fail;go_loopw [8] (λv wr=>∃k:Nat,v=.int .i64 k/\k<=c.ks.length/\GK w2.heap.size w2 wr) (λv _=>c.ks.length-(Hh v).toNat)
       case atStart=>exact⟨0,by go_num,by omega,s⟩
       case round =>
        obtain⟨k,rfl,E,r⟩:=hrel;clear a0 a1 a2 a3 e0 l j i;obtain⟨⟨a0,a1,a2,a3⟩,⟨e0,l,j,i⟩,h,f⟩:=K r;by_cases a:k<c.ks.length
        ·have b:(k:Int)<(c.ks.length:Int):=by omega
         obtain⟨b1,D,h1,A,o⟩:=h.ks.at (lV a);obtain⟨b2,C,h2,z,n⟩:=f.ks.at (lV a);generalize c.ks[k]=u at o n;rw[h1] at a3;rw[h2] at i;go_wp2_with fail
         go_quiet (fail)
         go_wp2;go_roundw
         case rel=>(try ((repeat apply G0);refine⟨?_,rfl⟩));exact⟨k+1,by go_num,by omega,kT r _⟩
         case measure=>simp[Hh];omega
        ·have b:¬(k:Int)<(c.ks.length:Int):=by omega
         go_wp2;go_ret;exact⟨rfl,by rw[<-M.out];exact F.trans (r.mono (by omega))⟩
structure ti (w:GE)(o:Nat->Nat)(p:PlQ)(c:CdQ):Prop where
 ws:Row w o 3 54 1 (.slice p.aw c.ws.length p.cw) c.ws.length (sZ c.ws)
 cs:Row w o 4 3 1 (.slice p.ac c.cs.length p.cc) c.cs.length (xJ c.cs)
 ns:Row w o 5 9 1 (.slice p.an c.ns.length p.cn) c.ns.length (tg c.ns)
 ks:Row w o 6 3 1 (.slice p.ak c.ks.length p.ck) c.ks.length (xJ c.ks)
 lw:c.ws.length<=32768
 lc:c.cs.length<=100000000
 ln:c.ns.length<=100000000
 lk:c.ks.length<=256
theorem ti.step {I:Nat->Prop}{w w':GE}{o o':Nat->Nat}{p:PlQ}{c:CdQ}(h:ti w o p c)(s:dQ I w o w' o')(d:¬I 3)(b:¬I 4)(h5:¬I 5)(a:¬I 6):ti w' o' p c :=
 ⟨h.ws.step s d,h.cs.step s b,h.ns.step s h5,h.ks.step s a,h.lw,h.lc,h.ln,h.lk⟩
abbrev oa:Nat->Prop:=λk=>3<=k/\k<=6
theorem Row.put1Q {w:GE}{o:Nat->Nat}{i:Nat}{e:Hl}{ao:Option G1}{n cap:Nat}{xs:List GJ}(h:Row w o i e 1 (.slice ao n cap) n xs){j:Nat}(q:j<n) :
  ∃b x,ao=GB ⟨b,0,GA⟩/\o b=i/\w.cell? ⟨b,j,GA⟩=GB x/\w.frozen? ⟨b,j,GA⟩=false/\∀ u,Row (w.setCell ⟨b,j,GA⟩ u) o i e 1 (.slice ao n cap) n (xs.set j u):=by
 obtain⟨g,c,f,k,-,-,-,m,l⟩:=h.pos (by omega);simp only[Ir,true_and] at f;obtain⟨rfl,rfl⟩:=f;have p:=h.len;have d:j<xs.length:=by omega
 exact⟨g,xs[j],rfl,k,by rw[m j (by omega)];exact GI d,l j,λu=>h.store j u⟩
structure kx (w0:GE)(o0:Nat->Nat)(g:Nat)(p:PlQ)(c:CdQ)(w:GE)(o:Nat->Nat):Prop where
 bx:Blk w o 9 g (.cells (kj p c) 42)
 ws:∃xs,Row w o 3 54 1 (.slice p.aw c.ws.length p.cw) c.ws.length xs
 cs:∃xs,Row w o 4 3 1 (.slice p.ac c.cs.length p.cc) c.cs.length xs
 ns:∃xs,Row w o 5 9 1 (.slice p.an c.ns.length p.cn) c.ns.length xs
 ks:∃xs,Row w o 6 3 1 (.slice p.ak c.ks.length p.ck) c.ks.length xs
 sp:dQ oa w0 o0 w o
theorem kx.ws1 {w0 w:GE}{o0 o:Nat->Nat}{g:Nat}{p:PlQ}{c:CdQ}(h:kx w0 o0 g p c w o){j:Nat}(l:j<c.ws.length):∃b x,p.aw=GB ⟨b,0,GA⟩/\w.cell? ⟨b,j,GA⟩=GB x/\w.frozen? ⟨b,j,GA⟩=false/\∀ u,kx w0 o0 g p c (w.setCell ⟨b,j,GA⟩ u) o:=by
 obtain⟨xs,e⟩:=h.ws;obtain⟨b,x,q,n,m,e4,f⟩:=e.put1Q l;have S:∀ u,dQ (λk=>k=3) w o (w.setCell ⟨b,j,GA⟩ u) o:=λu=>(dQ.refl _ w o).setCell ⟨b,j,GA⟩ u n;exact⟨b,x,q,m,e4,λu=>⟨h.bx.step (S u) (by decide),⟨_,f u⟩,(by obtain⟨a,d⟩:=h.cs;exact⟨a,d.step (S u) (by decide)⟩),(by obtain⟨a,d⟩:=h.ns;exact⟨a,d.step (S u) (by decide)⟩),(by obtain⟨a,d⟩:=h.ks;exact⟨a,d.step (S u) (by decide)⟩),h.sp.trans ((S u).mono (λk i=>by subst i;decide))⟩⟩
theorem kx.cs1 {w0 w:GE}{o0 o:Nat->Nat}{g:Nat}{p:PlQ}{c:CdQ}(h:kx w0 o0 g p c w o){j:Nat}(l:j<c.cs.length):∃b x,p.ac=GB ⟨b,0,GA⟩/\w.cell? ⟨b,j,GA⟩=GB x/\w.frozen? ⟨b,j,GA⟩=false/\∀ u,kx w0 o0 g p c (w.setCell ⟨b,j,GA⟩ u) o:=by
 obtain⟨xs,e⟩:=h.cs;obtain⟨b,x,q,n,m,e4,f⟩:=e.put1Q l;have S:∀ u,dQ (λk=>k=4) w o (w.setCell ⟨b,j,GA⟩ u) o:=λu=>(dQ.refl _ w o).setCell ⟨b,j,GA⟩ u n;exact⟨b,x,q,m,e4,λu=>⟨h.bx.step (S u) (by decide),(by obtain⟨a,d⟩:=h.ws;exact⟨a,d.step (S u) (by decide)⟩),⟨_,f u⟩,(by obtain⟨a,d⟩:=h.ns;exact⟨a,d.step (S u) (by decide)⟩),(by obtain⟨a,d⟩:=h.ks;exact⟨a,d.step (S u) (by decide)⟩),h.sp.trans ((S u).mono (λk i=>by subst i;decide))⟩⟩
theorem kx.ns1 {w0 w:GE}{o0 o:Nat->Nat}{g:Nat}{p:PlQ}{c:CdQ}(h:kx w0 o0 g p c w o){j:Nat}(l:j<c.ns.length):∃b x,p.an=GB ⟨b,0,GA⟩/\w.cell? ⟨b,j,GA⟩=GB x/\w.frozen? ⟨b,j,GA⟩=false/\∀ u,kx w0 o0 g p c (w.setCell ⟨b,j,GA⟩ u) o:=by
 obtain⟨xs,e⟩:=h.ns;obtain⟨b,x,q,n,m,e4,f⟩:=e.put1Q l;have S:∀ u,dQ (λk=>k=5) w o (w.setCell ⟨b,j,GA⟩ u) o:=λu=>(dQ.refl _ w o).setCell ⟨b,j,GA⟩ u n;exact⟨b,x,q,m,e4,λu=>⟨h.bx.step (S u) (by decide),(by obtain⟨a,d⟩:=h.ws;exact⟨a,d.step (S u) (by decide)⟩),(by obtain⟨a,d⟩:=h.cs;exact⟨a,d.step (S u) (by decide)⟩),⟨_,f u⟩,(by obtain⟨a,d⟩:=h.ks;exact⟨a,d.step (S u) (by decide)⟩),h.sp.trans ((S u).mono (λk i=>by subst i;decide))⟩⟩
theorem kx.ks1 {w0 w:GE}{o0 o:Nat->Nat}{g:Nat}{p:PlQ}{c:CdQ}(h:kx w0 o0 g p c w o){j:Nat}(l:j<c.ks.length):∃b x,p.ak=GB ⟨b,0,GA⟩/\w.cell? ⟨b,j,GA⟩=GB x/\w.frozen? ⟨b,j,GA⟩=false/\∀ u,kx w0 o0 g p c (w.setCell ⟨b,j,GA⟩ u) o:=by
 obtain⟨xs,e⟩:=h.ks;obtain⟨b,x,q,n,m,e4,f⟩:=e.put1Q l;have S:∀ u,dQ (λk=>k=6) w o (w.setCell ⟨b,j,GA⟩ u) o:=λu=>(dQ.refl _ w o).setCell ⟨b,j,GA⟩ u n;exact⟨b,x,q,m,e4,λu=>⟨h.bx.step (S u) (by decide),(by obtain⟨a,d⟩:=h.ws;exact⟨a,d.step (S u) (by decide)⟩),(by obtain⟨a,d⟩:=h.cs;exact⟨a,d.step (S u) (by decide)⟩),(by obtain⟨a,d⟩:=h.ns;exact⟨a,d.step (S u) (by decide)⟩),⟨_,f u⟩,h.sp.trans ((S u).mono (λk i=>by subst i;decide))⟩⟩
theorem Cg (p:PlQ)(c:CdQ)(w:GE)(o:Nat->Nat)(h:ti w o p c) :
  GR GD 19 #[wY p c] w λe w'=>e=.returned (.tuple #[])/\∃o',dQ oa w o w' o':=by
 obtain⟨iw,iw1,iw2,iw3,iw4⟩:=ek uU;obtain⟨ii,ii1,ii2,ii3,ii4⟩:=ek rn;obtain⟨is,is1,is2,is3,is4⟩:=ek uY;obtain⟨g,hg⟩:∃g,g=w.heap.size:=⟨_,rfl⟩;obtain⟨w2,hw2⟩:∃w2,w2=w.alloc (.cells (kj p c) 42):=⟨_,rfl⟩;have SN:∀ {I:Nat->Prop},dQ I w o w2 (dR w o 9):=λ{I}=>dQ.newQ o 9 (by rw[hw2];exact b1 _ _);have G2:Blk w2 (dR w o 9) 9 g (.cells (kj p c) 42):=by rw[hw2,hg];exact⟨GH _ _,dY (GC _)⟩
 have h2:=h.step (SN (I:=λ_=>False)) id id id id;have Z0:kx w2 (dR w o 9) g p c w2 (dR w o 9):=⟨G2,⟨_,h2.ws⟩,⟨_,h2.cs⟩,⟨_,h2.ns⟩,⟨_,h2.ks⟩,dQ.refl _ _ _⟩;have SO:dQ oa w o w2 (dR w o 9):=SN;have l1:=h.lw;have l2:=h.lc;have l3:=h.ln;have l4:=h.lk;generalize dR w o 9=o2 at *;have HG:=GL hg;have HSO:=GL SO;clear SN SO G2 h h2 hg;obtain⟨⟨a0,a1,a2,a3⟩,-⟩:=dW Z0.bx.1;go_enter Tryz.func19,Tryz.ntmps19;go_wp2_with fail;rw[<-hw2,<-HG.out];clear hw2;go_wp2_with fail;go_loopw [2] (λv wr=>∃k:Nat,v=.int .i64 (k:Nat)/\k<=c.ws.length/\kx w2 o2 g p c wr o2) (λv _=>c.ws.length-(Hh v).toNat)
 case atStart=>exact⟨0,by go_num,by omega,Z0⟩
 case round =>
  obtain⟨k,rfl,hk,Z1⟩:=hrel;clear a0 a1 a2 a3;obtain⟨⟨a0,a1,a2,a3⟩,-⟩:=dW Z1.bx.1;by_cases hlt:k<c.ws.length
  ·have hkI:(k:Int)<(c.ws.length:Int):=by omega
   obtain⟨b,x,e1,e2,e3,HZ⟩:=Z1.ws1 hlt;have HZ2:=GL (HZ (.int .u64 9));rw[e1] at a0;clear HZ e1;go_wp2;go_roundw
   case rel=>(try ((repeat apply G0);refine⟨?_,rfl⟩));exact⟨k+1,by go_num,by omega,HZ2.out⟩
   case measure=>simp[Hh];omega
  ·have hkI:¬(k:Int)<(c.ws.length:Int):=by omega
   clear hlt hk;go_wp2_with fail;go_loopw [3] (λv wr=>∃k:Nat,v=.int .i64 (k:Nat)/\k<=c.cs.length/\kx w2 o2 g p c wr o2) (λv _=>c.cs.length-(Hh v).toNat)
   case atStart=>exact⟨0,by go_num,by omega,Z1⟩
   case round =>
    obtain⟨k,rfl,hk,Z2⟩:=hrel;clear a0 a1 a2 a3;obtain⟨⟨a0,a1,a2,a3⟩,-⟩:=dW Z2.bx.1;by_cases hlt:k<c.cs.length
    ·have hkI:(k:Int)<(c.cs.length:Int):=by omega
     obtain⟨b,x,e1,e2,e3,HZ⟩:=Z2.cs1 hlt;have HZ2:=GL (HZ (.int .i64 (-9)));rw[e1] at a1;clear HZ e1;go_wp2;go_roundw
     case rel=>(try ((repeat apply G0);refine⟨?_,rfl⟩));exact⟨k+1,by go_num,by omega,HZ2.out⟩
     case measure=>simp[Hh];omega
    ·have hkI:¬(k:Int)<(c.cs.length:Int):=by omega
     clear hlt hk;go_wp2_with fail;go_loopw [4] (λv wr=>∃k:Nat,v=.int .i64 (k:Nat)/\k<=c.ns.length/\kx w2 o2 g p c wr o2) (λv _=>c.ns.length-(Hh v).toNat)
     case atStart=>exact⟨0,by go_num,by omega,Z2⟩
     case round =>
      obtain⟨k,rfl,hk,Z3⟩:=hrel;clear a0 a1 a2 a3;obtain⟨⟨a0,a1,a2,a3⟩,-⟩:=dW Z3.bx.1;by_cases hlt:k<c.ns.length
      ·have hkI:(k:Int)<(c.ns.length:Int):=by omega
       obtain⟨b,x,e1,e2,e3,HZ⟩:=Z3.ns1 hlt;have HZ2:=GL (HZ (.string ⟨#[111,118,101,114]⟩));rw[e1] at a2;clear HZ e1;go_wp2;go_roundw
       case rel=>(try ((repeat apply G0);refine⟨?_,rfl⟩));exact⟨k+1,by go_num,by omega,HZ2.out⟩
       case measure=>simp[Hh];omega
      ·have hkI:¬(k:Int)<(c.ns.length:Int):=by omega
       clear hlt hk;go_wp2_with fail;go_loopw [5] (λv wr=>∃k:Nat,v=.int .i64 (k:Nat)/\k<=c.ks.length/\kx w2 o2 g p c wr o2) (λv _=>c.ks.length-(Hh v).toNat)
       case atStart=>exact⟨0,by go_num,by omega,Z3⟩
       case round =>
        obtain⟨k,rfl,hk,Z4⟩:=hrel;clear a0 a1 a2 a3;obtain⟨⟨a0,a1,a2,a3⟩,-⟩:=dW Z4.bx.1;by_cases hlt:k<c.ks.length
        ·have hkI:(k:Int)<(c.ks.length:Int):=by omega
         obtain⟨b,x,e1,e2,e3,HZ⟩:=Z4.ks1 hlt;have HZ2:=GL (HZ (.int .i64 (-9)));rw[e1] at a3;clear HZ e1;go_wp2;go_roundw
         case rel=>(try ((repeat apply G0);refine⟨?_,rfl⟩));exact⟨k+1,by go_num,by omega,HZ2.out⟩
         case measure=>simp[Hh];omega
        ·have hkI:¬(k:Int)<(c.ks.length:Int):=by omega
         clear hlt hk;obtain⟨x1,P1⟩:=Z4.ws;obtain⟨x2,P2⟩:=Z4.cs;obtain⟨x3,P3⟩:=Z4.ns;obtain⟨x4,P4⟩:=Z4.ks;have SX:=Z4.sp;have BX:=Z4.bx;clear Z4;go_wp2_with (first|(at_builtin;refine eb rfl _ _ 39 rfl 54 iw (.int .u64 0) 1 8 Tryz.underlying39 iw1 iw2 iw3 iw4 rfl (by decide) o2 3 _ c.ws.length x1 (by first|rfl|(simp;done)) (P1.step (dQ.ofBelow (I:=λ_=>False) o2 (b1 _ _)) id) ⟨wr.heap.size,0,GA⟩ 1 1 [.int .u64 8] rfl rfl ?c1 ?d1 (by decide) ?e1 ?f1 ?_)|go_in);try case c1=>exact fG _ _ _
         try case d1=>first|rfl|exact ku _ rfl
         case e1=>unfold GY;omega
         case f1=>omega
         intro g1 q1 w1a o1a P1 S1;have S1n:dQ (λk=>k=3) wr o2 w1a o1a:=(dQ.ofBelow o2 (b1 wr (.cells #[.int .u64 8] 54))).trans S1;have SX:=SX.trans (S1n.mono (J:=oa) (λk hk=>by subst hk;decide));have BX:=BX.step S1n (by decide)
         replace P2:=P2.step S1n (by decide)
         replace P3:=P3.step S1n (by decide)
         replace P4:=P4.step S1n (by decide)
         clear S1 S1n a0 a1 a2 a3;obtain⟨⟨a0,a1,a2,a3⟩,-⟩:=dW BX.1;go_wp2_with (first|(at_builtin;refine eb rfl _ _ 35 rfl 3 ii (.int .i64 0) 1 8 Hu ii1 ii2 ii3 ii4 rfl (by decide) o1a 4 _ c.cs.length x2 (by first|rfl|(simp;done)) (P2.step (dQ.ofBelow (I:=λ_=>False) o1a (b1 _ _)) id) ⟨w1a.heap.size,0,GA⟩ 1 1 [.int .i64 8] rfl rfl ?c2 ?d2 (by decide) ?e2 ?f2 ?_)|go_in);try case c2=>exact fG _ _ _
         try case d2=>first|rfl|exact ku _ rfl
         case e2=>unfold GY;omega
         case f2=>omega
         intro g2 q2 w2a o2a P2 S2;have S2n:dQ (λk=>k=4) w1a o1a w2a o2a:=(dQ.ofBelow o1a (b1 w1a (.cells #[.int .i64 8] 3))).trans S2;have SX:=SX.trans (S2n.mono (J:=oa) (λk hk=>by subst hk;decide));have BX:=BX.step S2n (by decide)
         replace P1:=P1.step S2n (by decide)
         replace P3:=P3.step S2n (by decide)
         replace P4:=P4.step S2n (by decide)
         clear S2 S2n a0 a1 a2 a3;obtain⟨⟨a0,a1,a2,a3⟩,-⟩:=dW BX.1;go_wp2_with (first|(at_builtin;refine eb rfl _ _ 40 rfl 9 is (.string ⟨#[]⟩) 1 16 I2 is1 is2 is3 is4 rfl (by decide) o2a 5 _ c.ns.length x3 (by first|rfl|(simp;done)) (P3.step (dQ.ofBelow (I:=λ_=>False) o2a (b1 _ _)) id) ⟨w2a.heap.size,0,GA⟩ 1 1 [.string ⟨#[109,111,114,101]⟩] rfl rfl ?c3 ?d3 (by decide) ?e3 ?f3 ?_)|go_in);try case c3=>exact fG _ _ _
         try case d3=>first|rfl|exact ku _ rfl
         case e3=>unfold GY;omega
         case f3=>omega
         intro g3 q3 w3a o3a P3 S3;have S3n:dQ (λk=>k=5) w2a o2a w3a o3a:=(dQ.ofBelow o2a (b1 w2a (.cells #[.string ⟨#[109,111,114,101]⟩] 9))).trans S3;have SX:=SX.trans (S3n.mono (J:=oa) (λk hk=>by subst hk;decide));have BX:=BX.step S3n (by decide)
         replace P1:=P1.step S3n (by decide)
         replace P2:=P2.step S3n (by decide)
         replace P4:=P4.step S3n (by decide)
         clear S3 S3n a0 a1 a2 a3;obtain⟨⟨a0,a1,a2,a3⟩,-⟩:=dW BX.1;go_wp2_with (first|(at_builtin;refine eb rfl _ _ 35 rfl 3 ii (.int .i64 0) 1 8 Hu ii1 ii2 ii3 ii4 rfl (by decide) o3a 6 _ c.ks.length x4 (by first|rfl|(simp;done)) (P4.step (dQ.ofBelow (I:=λ_=>False) o3a (b1 _ _)) id) ⟨w3a.heap.size,0,GA⟩ 1 1 [.int .i64 8] rfl rfl ?c4 ?d4 (by decide) ?e4 ?f4 ?_)|go_in);try case c4=>exact fG _ _ _
         try case d4=>first|rfl|exact ku _ rfl
         case e4=>unfold GY;omega
         case f4=>omega
         intro g4 q4 w4a o4a P4 S4;have S4n:dQ (λk=>k=6) w3a o3a w4a o4a:=(dQ.ofBelow o3a (b1 w3a (.cells #[.int .i64 8] 3))).trans S4;have SX:=SX.trans (S4n.mono (J:=oa) (λk hk=>by subst hk;decide));have BX:=BX.step S4n (by decide)
         replace P1:=P1.step S4n (by decide)
         replace P2:=P2.step S4n (by decide)
         replace P3:=P3.step S4n (by decide)
         clear S4 S4n a0 a1 a2 a3;obtain⟨⟨a0,a1,a2,a3⟩,-⟩:=dW BX.1;obtain⟨b1,y1,r1,ob1,c1,f1,R1⟩:=P1.put1Q (j:=c.ws.length) (by omega);cases r1;have S1:dQ (λk=>k=3) w4a o4a (w4a.setCell ⟨g1,c.ws.length,GA⟩ (.int .u64 1)) o4a:=(dQ.refl _ _ _).setCell ⟨g1,c.ws.length,GA⟩ (.int .u64 1) ob1
         replace P2:=P2.step S1 (by decide)
         replace P3:=P3.step S1 (by decide)
         replace P4:=P4.step S1 (by decide)
         have SX:=SX.trans (S1.mono (J:=oa) (λk hk=>by subst hk;decide));clear S1 R1;obtain⟨v1,hv1⟩:∃v1,v1=w4a.setCell ⟨g1,c.ws.length,GA⟩ (.int .u64 1):=⟨_,rfl⟩;have hI1:((c.ws.length:Int)+1)-1=(c.ws.length:Int):=by omega
         try rw[<-hv1] at SX
         try rw[<-hv1] at P2
         try rw[<-hv1] at P3
         try rw[<-hv1] at P4
         have HV1:=GL hv1;clear hv1;go_upto_region 22 with fail;rw[<-HV1.out];clear HV1;obtain⟨b2,y2,r2,ob2,c2,f2,R2⟩:=P2.put1Q (j:=c.cs.length) (by omega);cases r2;have S2:dQ (λk=>k=4) v1 o4a (v1.setCell ⟨g2,c.cs.length,GA⟩ (.int .i64 1)) o4a:=(dQ.refl _ _ _).setCell ⟨g2,c.cs.length,GA⟩ (.int .i64 1) ob2
         replace P3:=P3.step S2 (by decide)
         replace P4:=P4.step S2 (by decide)
         have SX:=SX.trans (S2.mono (J:=oa) (λk hk=>by subst hk;decide));clear S2 R2;obtain⟨v2,hv2⟩:∃v2,v2=v1.setCell ⟨g2,c.cs.length,GA⟩ (.int .i64 1):=⟨_,rfl⟩;have hI2:((c.cs.length:Int)+1)-1=(c.cs.length:Int):=by omega
         try rw[<-hv2] at SX
         try rw[<-hv2] at P3
         try rw[<-hv2] at P4
         have HV2:=GL hv2;clear hv2;go_upto_region 23 with fail;rw[<-HV2.out];clear HV2;obtain⟨b3,y3,r3,ob3,c3,f3,R3⟩:=P3.put1Q (j:=c.ns.length) (by omega);cases r3;have S3:dQ (λk=>k=5) v2 o4a (v2.setCell ⟨g3,c.ns.length,GA⟩ (.string ⟨#[103,114,111,119,110]⟩)) o4a:=(dQ.refl _ _ _).setCell ⟨g3,c.ns.length,GA⟩ (.string ⟨#[103,114,111,119,110]⟩) ob3
         replace P4:=P4.step S3 (by decide)
         have SX:=SX.trans (S3.mono (J:=oa) (λk hk=>by subst hk;decide));clear S3 R3;obtain⟨v3,hv3⟩:∃v3,v3=v2.setCell ⟨g3,c.ns.length,GA⟩ (.string ⟨#[103,114,111,119,110]⟩):=⟨_,rfl⟩;have hI3:((c.ns.length:Int)+1)-1=(c.ns.length:Int):=by omega
         try rw[<-hv3] at SX
         try rw[<-hv3] at P4
         have HV3:=GL hv3;clear hv3;go_upto_region 24 with fail;rw[<-HV3.out];clear HV3;obtain⟨b4,y4,r4,ob4,c4,f4,R4⟩:=P4.put1Q (j:=c.ks.length) (by omega);cases r4;have S4:dQ (λk=>k=6) v3 o4a (v3.setCell ⟨g4,c.ks.length,GA⟩ (.int .i64 1)) o4a:=(dQ.refl _ _ _).setCell ⟨g4,c.ks.length,GA⟩ (.int .i64 1) ob4;have SX:=SX.trans (S4.mono (J:=oa) (λk hk=>by subst hk;decide));clear S4 R4;obtain⟨v4,hv4⟩:∃v4,v4=v3.setCell ⟨g4,c.ks.length,GA⟩ (.int .i64 1):=⟨_,rfl⟩;have hI4:((c.ks.length:Int)+1)-1=(c.ks.length:Int):=by omega
         try rw[<-hv4] at SX
         have HV4:=GL hv4;clear hv4;go_wp2
         go_end0
         exact⟨rfl,_,HSO.out.trans (by rw[<-HV4.out];exact SX)⟩
def Ydq (e:Ex)(cells:List Int):CdQ:=if fa cells e≠0/\(emA cells e).ws.length<=32768/\(emA cells e).dp<=1024 then ⟨(emA cells e).ws.map wdI,(emA cells e).cs,(emA cells e).ns.map (λl=>⟨l.toArray⟩),(emA cells e).ks⟩ else ⟨[],[],[],[]⟩
def Rdq (e:Ex)(cells:List Int):Int:=if fa cells e=0 then 140 else if (emA cells e).ws.length<=32768/\(emA cells e).dp<=1024 then 0 else 190
def OutQ (w:GE)(Y:CdQ)(R:Int)(z:IG)(w':GE):Prop :=
 GK w.heap.size w w'/\∃p,z=.returned (.tuple #[wY p Y,.int .i64 R])/\mZ w' p Y
def OutR (w:GE)(Y:CdQ)(R:Int)(z:IG)(w':GE):Prop :=
 GK w.heap.size w w'/\∃p o',z=.returned (.tuple #[wY p Y,.int .i64 R])/\(∀ k,k<w.heap.size->o' k=0)/\ti w' o' p Y
def AX:PlQ:=⟨GA,0,GA,0,GA,0,GA,0⟩
theorem mi (w:GE)(o:Nat->Nat):ti w o AX ⟨[],[],[],[]⟩:=⟨Row.nil _ _ _ _ _,Row.nil _ _ _ _ _,Row.nil _ _ _ _ _,Row.nil _ _ _ _ _,by decide,by decide,by decide,by decide⟩
theorem Row.lenq {w:GE}{o:Nat->Nat}{i:Nat}{e:Hl}{size:Nat}{v:GJ}{n:Nat}{xs:List GJ}(h:Row w o i e size v n xs):n<=9223372036854775807:=by
 by_cases a:0<n
 ·obtain⟨g,cap,-,-,h1,h2,-⟩:=h.pos a;unfold GY at h2;omega
 ·omega
theorem EmD.outW {w:GE}{o:Nat->Nat}{s:Em}{vw vc vn vk:GJ}(h:EmD w o s vw vc vn vk):∃p,(#[vw,vc,vn,vk]:Array GJ)=kj p ⟨s.ws.map wdI,s.cs,s.ns.map (λl=>⟨l.toArray⟩),s.ks⟩/\mZ w p ⟨s.ws.map wdI,s.cs,s.ns.map (λl=>⟨l.toArray⟩),s.ks⟩:=by
 obtain⟨h1,h2,b,a⟩:=h;obtain⟨aw,cw,rfl⟩:=h1.form;obtain⟨ac,cc,rfl⟩:=h2.form;obtain⟨an,cn,rfl⟩:=b.form;obtain⟨ak,ck,rfl⟩:=a.form;have d:sZ (s.ws.map wdI)=wdW s.ws:=by simp[sZ,wdW]
 have c:tg (s.ns.map (λl=>(⟨l.toArray⟩:ByteArray)))=esV s.ns:=by simp[tg,esV]
 refine⟨⟨aw,cw,ac,cc,an,cn,ak,ck⟩,by simp[kj],⟨?_,h2.lsvQ,?_,a.lsvQ,?_,h2.lenq,?_,a.lenq⟩⟩
 ·rw[d];exact h1.lsvQ
 ·rw[c];exact b.lsvQ
 ·simp;exact h1.lenq
 ·simp;exact b.lenq
theorem CJ.q {w w':GE}{e:Ex}{cells:List Int}{z:IG}(h:CJ w e cells z w'):OutQ w (Ydq e cells) (Rdq e cells) z w':=by
 obtain⟨B,h⟩:=h;refine⟨B,?_⟩;unfold Ydq Rdq;rcases h with ⟨f,rfl⟩|⟨f,j,rfl⟩|⟨f,h1,h2,vw,vc,vn,vk,o',rfl,-,C⟩
 ·rw[if_neg (λh=>h.1 f),if_pos f];obtain⟨a,b,c,d,-,-,-,-⟩:=mi w' (λ_=>0);exact⟨AX,rfl,⟨a.lsvQ,b.lsvQ,c.lsvQ,d.lsvQ,by decide,by decide,by decide,by decide⟩⟩
 ·rw[if_neg (λh=>by have:=h.2;omega),if_neg f,if_neg (by omega)];obtain⟨a,b,c,d,-,-,-,-⟩:=mi w' (λ_=>0);exact⟨AX,rfl,⟨a.lsvQ,b.lsvQ,c.lsvQ,d.lsvQ,by decide,by decide,by decide,by decide⟩⟩
 ·rw[if_pos ⟨f,h1,h2⟩,if_neg f,if_pos ⟨h1,h2⟩];obtain⟨p,i,g⟩:=C.outW;exact⟨p,by rw[i],g⟩
theorem qI.q {w w':GE}{e:Ex}{cells:List Int}{z:IG}(h:qI w e cells z w'):OutR w (Ydq e cells) (Rdq e cells) z w':=by
 obtain⟨B,h⟩:=h;refine⟨B,?_⟩;unfold Ydq Rdq;rcases h with ⟨d,rfl⟩|⟨d,r,rfl⟩|⟨d,h1,h2,u,vw,vc,vn,vk,o',rfl,r,C⟩
 ·rw[if_neg (λh=>h.1 d),if_pos d];exact⟨AX,λ_=>0,rfl,λ_ _=>rfl,mi w' _⟩
 ·rw[if_neg (λh=>by have:=h.2;omega),if_neg d,if_neg (by omega)];exact⟨AX,λ_=>0,rfl,λ_ _=>rfl,mi w' _⟩
 ·rw[if_pos ⟨d,h1,h2⟩,if_neg d,if_pos ⟨h1,h2⟩];have v:=(BG cells e).2;obtain⟨t,-,-⟩:=nd d;obtain⟨c1,-,-,p,o,n,m⟩:=C;generalize emA cells e=s at *;obtain⟨aw,cw,rfl⟩:=p.form;obtain⟨ac,cc,rfl⟩:=o.form;obtain⟨an,cn,rfl⟩:=n.form;obtain⟨ak,ck,rfl⟩:=m.form;have y:sZ (s.ws.map wdI)=woV s.ws:=by rw[<-Fh c1];simp[sZ,wdW]
  have x:tg (s.ns.map (λl=>(⟨l.toArray⟩:ByteArray)))=esV s.ns:=by simp[tg,esV]
  unfold Em.mes at u;obtain⟨g,f⟩:∃g:Nat->Nat,g=λk=>if 2<=o' k/\o' k<=5 then o' k+1 else if o' k=0 then 0 else 9:=⟨_,rfl⟩;have j:∀ k i,2<=i->i<=5->o' k=i->g k=i+1:=λk i a b c=>by rw[f];simp only;rw[if_pos (by omega)];omega
  refine⟨⟨aw,cw,ac,cc,an,cn,ak,ck⟩,g,by simp[wY,kj],λk d=>by rw[f];simp only;rw[r k d];rfl,⟨?_,?_,?_,?_,by simp;exact h1,by simp only;omega,by simp;omega,by simp only;omega⟩⟩
  ·rw[y];simpa using p.labq (λk d=>j k 2 (by omega) (by omega) d)
  ·exact o.labq (λk d=>j k 3 (by omega) (by omega) d)
  ·rw[x];simpa using n.labq (λk d=>j k 4 (by omega) (by omega) d)
  ·exact m.labq (λk d=>j k 5 (by omega) (by omega) d)
structure EpI (g:Nat)(w:GE)(nw no:Nat)(e:Ex)(ao:Option G1)(cap:Nat)(ac:Option G1)(cc:Nat)(cells:List Int)(p:PlQ)(Y:CdQ)(bo co go cgo:Nat)(wr:GE):Prop where
 P:wr.heap[g]?=GB (zPl e ao cap ac cells.length cc)
 V:wr.heap[nw]?=GB (.cells (kj p Y) 42)
 O:wr.heap[no]?=GB (zPl e (GB ⟨bo,0,GA⟩) co (GB ⟨go,0,GA⟩) cells.length cgo)
 S:SnA wr e.kids ao
 I:InA wr (.slice ac cells.length cc) cells
 W:Wd wr
 T:kM wr
 C:mZ wr p Y
 So:lB wr e.kids bo co
 Lo:LnI wr (λ_=>True) (.slice (GB ⟨go,0,GA⟩) cells.length cgo) cells
 B:GK g w wr
theorem EpI.below {g nw no:Nat}{w:GE}{e:Ex}{ao:Option G1}{cap:Nat}{ac:Option G1}{cc:Nat}{cells:List Int}{p:PlQ}{Y:CdQ}{bo co go cgo:Nat}{wr w':GE}(h:EpI g w nw no e ao cap ac cc cells p Y bo co go cgo wr)(b:GK wr.heap.size wr w'):EpI g w nw no e ao cap ac cc cells p Y bo co go cgo w' :=
 ⟨(b.block _ (GF h.P)).trans h.P,(b.block _ (GF h.V)).trans h.V,(b.block _ (GF h.O)).trans h.O,SnA.below h.S b,h.I.below b,h.W.below b,h.T.below b,h.C.below b,lB.below h.So b,h.Lo.below b,h.B.trans (b.mono (Im (GF h.P)))⟩
theorem ti.w {w:GE}{o:Nat->Nat}{p:PlQ}{c:CdQ}(h:ti w o p c):mZ w p c:=⟨h.ws.lsvQ,h.cs.lsvQ,h.ns.lsvQ,h.ks.lsvQ,h.ws.lenq,h.cs.lenq,h.ns.lenq,h.ks.lenq⟩
theorem AD {w:GE}{b:Nat}{p:PlQ}{c:CdQ}(h:w.heap[b]?=GB (.cells (kj p c) 42)):sU p c w b:=(dW h).1
theorem oC (e:Ex)(ao:Option G1)(cap:Nat)(A:GJ)(cells:List Int)(w:GE)(y:e.kids.len<=GY)(ab:e.kids.wide)(z:e.kids.size<=100000000->fs e/\(-9223372036854775808<=e.n/\e.n<=9223372036854775807)/\e.kids.rng)(S:SnA w e.kids ao)(J:InA w A cells)(ag:cells.length<=GY)(hW:Wd w)(hT:kM w) :
  GR GD 4 #[plV e ao cap A] w λx w'=>x=.returned (.bool true)/\GK w.heap.size w w':=by
 obtain⟨ac,cc,af,hx⟩:=J;have J:InA w A cells:=⟨ac,cc,af,hx⟩;subst af;clear hx;obtain⟨g,hg⟩:=exq w.heap.size;obtain⟨w0,r⟩:=exq (w.alloc (zPl e ao cap ac cells.length cc));have b0:GK w.heap.size w w0:=by rw[r];exact b1 _ _
 have P0:w0.heap[g]?=GB (zPl e ao cap ac cells.length cc):=by rw[r,hg];exact GH _ _
 have L0:=GF P0;have B0:GK g w w0:=by rw[hg];exact b0
 have c1:=yd e ao cap 0 _ cells w0 (J.below b0) ag y ab (SnA.below S b0);rw[fe] at c1 ⊢;have HG:=GL hg;clear hg;obtain⟨p0,p1,p2,p3,p4⟩:=gh P0;go_enter Tryz.func4,Tryz.ntmps4;go_upto_region 1 with fail;rw[<-r,<-HG.out];clear r;go_wp2_with fail;refine c1.mono ?_;rintro x w1 ⟨rfl,s⟩;have P1:=(s.block g L0).trans P0;have f:=b0.trans (s.mono b0.size);have B1:=B0.trans (s.mono (Im L0));have L1:=GF P1;clear c1 p0 p1 p2 p3 p4;cases hh:hvP e cells with
 | true =>
  clear hh;go_wp2;go_ret;exact⟨rfl,by rw[<-HG.out];exact B1⟩
 | false =>
 obtain⟨ap,aq⟩:=Ds hh;obtain⟨Q,hn,hr⟩:=z (by omega);clear hh z ag y ab;have c2:=rQ w1 (hW.below f) (hT.below f);go_upto_region 4 with (first|(go_at_call 13;refine c2.mono ?_;rintro x w2 ⟨rfl,b2⟩))
 have P2:=(b2.block g L1).trans P1;have d:=f.trans (b2.mono f.size);have B2:=B1.trans (b2.mono (Im L1));have L2:=GF P2;have HP:Hid (∀ (ao:Option G1) (cap:Nat) (A:GJ) (w:GE),InA w A cells->SnA w e.kids ao->Wd w->kM w->GR GD 16 #[plV e ao cap A] w (OutR w (Ydq e cells) (Rdq e cells))):=λao cap A w h1 h2 h3 h4=>(Bw e ao cap A cells w Q hn hr h3 h4 h1 (by omega) h2).mono λx w' h=>qI.q h;have c3:=(Cl e ao cap _ cells w2 Q hn hr (J.below d) (by omega) (SnA.below S d)).mono λx w' h=>CJ.q h;rw[fe] at c3;generalize Ydq e cells=Y at *;generalize Rdq e cells=R at *;obtain⟨p0,p1,p2,p3,p4⟩:=gh P2;clear c2 P0 P1 b0 s f B0 B1 L0 L1 b2
 -- what the document wants
 go_wp2_with fail;refine c3.mono ?_;rintro x w3 ⟨b3,pw,rfl,X⟩;have P3:=(b3.block g L2).trans P2;have L:=d.trans (b3.mono d.size);have B3:=B2.trans (b3.mono (Im L2));have L3:=GF P3;obtain⟨nw,F⟩:=exq w3.heap.size;obtain⟨w4,o⟩:=exq (w3.alloc (.cells (kj pw Y) 42));have j:GK w3.heap.size w3 w4:=by rw[o];exact b1 _ _
 have V4:w4.heap[nw]?=GB (.cells (kj pw Y) 42):=by rw[o,F];exact GH _ _
 have P4:=(j.block g L3).trans P3;have a:=L.trans (j.mono L.size);have B4:=B3.trans (j.mono (Im L3));have L4:=GF P4;have C4:=X.below j;have al:=GL F;clear c3 P2 B2 L2 P3 B3 L3 b3 p0 p1 p2 p3 p4 F;go_upto_region 5 with fail;rw[<-o,<-al.out];clear o
 -- the plan,lent
 obtain⟨p0,p1,p2,p3,p4⟩:=gh P4;have c5:=uR e ao cap _ cells w4 Q.len Q.sh (J.below a) (by omega) (SnA.below S a);rw[fe] at c5;go_wp2_with fail;refine c5.mono ?_;rintro x E ⟨bo,co,vo,rfl,ah,t,D⟩;obtain⟨go,cgo,ad,aa⟩:=t;have t:LnI E (Nw w4.heap.size) vo cells:=⟨go,cgo,ad,aa⟩;subst ad;clear aa;obtain⟨no,H⟩:=exq E.heap.size;obtain⟨u,m⟩:=exq (E.alloc (zPl e (GB ⟨bo,0,GA⟩) co (GB ⟨go,0,GA⟩) cells.length cgo));have M:GK E.heap.size E u:=by rw[m];exact b1 _ _
 have O6:u.heap[no]?=GB (zPl e (GB ⟨bo,0,GA⟩) co (GB ⟨go,0,GA⟩) cells.length cgo):=by rw[m,H];exact GH _ _
 have b:=D.trans (M.mono D.size);have c:=a.trans (b.mono a.size);have E6:EpI g w nw no e ao cap ac cc cells pw Y bo co go cgo u:=⟨(b.block _ L4).trans P4,(b.block _ (GF V4)).trans V4,O6,SnA.below S c,J.below c,hW.below c,hT.below c,C4.below b,lB.below (ah.mono (λ_ _ _=>rfl) (GC _) (λ_ _ _=>trivial)) M,(t.mono (λ_ _ _=>rfl) (GC _) (λ_ _ _=>trivial)).below M,B4.trans (b.mono (Im L4))⟩;have an:=GL H;clear c5 H p0 p1 p2 p3 p4 P4 V4 B4 L4 C4 X ah t D M b c a L d j O6 hW hT J S;rw[fe];go_upto_region 6 with fail;rw[<-m,<-an.out];clear m;go_wp2;go_loopw [7] (λv wr=>∃(i:Nat),v=.int .i64 i/\i<=2/\EpI g w nw no e ao cap ac cc cells pw Y bo co go cgo wr) (λv _=>2-(Hh v).toNat)
 case atStart=>exact⟨0,by show _=GT .i64 ((0:Nat):Int);rfl,by omega,E6⟩
 case round =>
  clear E6;obtain⟨i,rfl,hi,l⟩:=hrel;by_cases ar:i<2
  ·have ae:(i:Int)<2:=by omega
   obtain⟨q0,q1,q2,Z,q4⟩:=gh l.O;have c1:=HP.out (GB ⟨bo,0,GA⟩) co _ wr l.Lo.inA (Spn.sl l.So) l.W l.T;rw[fe] at c1;go_wp2_with fail;refine c1.mono ?_;rintro x w2 ⟨b2,pq,o2,rfl,aj,C2⟩;obtain⟨nq,G⟩:=exq w2.heap.size;obtain⟨w3,p⟩:=exq (w2.alloc (.cells (kj pq Y) 42));have b3:GK w2.heap.size w2 w3:=by rw[p];exact b1 _ _
   have Q3:w3.heap[nq]?=GB (.cells (kj pq Y) 42):=by rw[p,G];exact GH _ _
   have bb:=b2.trans (b3.mono b2.size);have E3:=l.below bb;have X:=C2.step (dQ.ofBelow (I:=λ_=>False) o2 b3) id id id id;have am:=GL G;have ai:=GL l;clear c1 b2 b3 C2 q0 q1 q2 Z q4 G l;go_upto_region 10 with fail;rw[<-p,<-am.out];clear p
   -- the same?
   obtain⟨q0,q1,q2,Z⟩:=AD Q3;obtain⟨v0,v1,v2,v3⟩:=AD E3.V;have c4:=yA pq pw Y w3 X.w E3.C;go_wp2_with fail;refine c4.mono ?_;rintro x w4 ⟨rfl,j⟩;have N:=E3.below j;have a:=bb.trans (j.mono bb.size);have C4:=X.step (dQ.ofBelow (I:=λ_=>False) o2 j) id id id id;have Q4:=(j.block _ (GF Q3)).trans Q3;clear c4 j bb q0 q1 q2 Z v0 v1 v2 v3 E3 X Q3
   -- kept?
   obtain⟨p0,p1,p2,p3,p4⟩:=gh N.P;obtain⟨t0,t1,t2,t3,t4⟩:=gh N.O;have c5:=ug e bo co _ ao cap _ cells w4 Q.len Q.sh (by omega) N.So N.S N.Lo N.I;rw[fe,fe] at c5;go_wp2_with fail;refine c5.mono ?_;rintro x E ⟨rfl,D⟩;have K:=a.trans (D.mono a.size);have C5:=C4.step (dQ.ofBelow (I:=λ_=>False) o2 D) id id id id;have Q5:=(D.block _ (GF Q4)).trans Q4;clear c5 D a p0 p1 p2 p3 p4 t0 t1 t2 t3 t4 N C4 Q4;have ak:((R:Int) != (R:Int))=false:=by simp
   obtain⟨q0,q1,q2,Z⟩:=AD Q5;have c6:=Cg pq Y E o2 C5;go_wp2_with fail;refine c6.mono ?_;rintro x u ⟨rfl,o6,U⟩;have M:=K.trans ⟨U.os,U.tape,U.output,U.size,λk hk=>U.block k (by have:=K.size;omega) (by rw[aj k hk];decide)⟩;have E6:=ai.out.below M;clear c6 K C5 Q5 q0 q1 q2 Z U M ai ak;go_wp2;go_roundw
   case rel=>(try ((repeat apply G0);refine⟨?_,rfl⟩));exact⟨i+1,by go_num,by omega,E6⟩
   case measure=>simp[Hh];omega
  ·have ae:¬(i:Int)<2:=by omega
   have HB:=GL l.B;clear l;go_wp2;go_ret;exact⟨rfl,by rw[<-HG.out];exact HB.out⟩
def Bd {α:Type}(R:Rs α):Prop:=∀ e a,R=.bad e a->e=120\/e=121
section
variable {rec:Rdr}
end
theorem Fs.short_wide:∀ {f:Fs},f.short->f.wide
 | ⟨GA⟩,h=>trivial
 | ⟨GB ⟨k,n,nm,a,ks,r⟩⟩,h=>⟨by have:=h.2.1;unfold GY;omega,Fs.short_wide (f:=ks) h.2.2.1,Fs.short_wide (f:=r) h.2.2.2⟩
theorem iT.not {w w':GE}{e:Ex}{x:IG}(h:iT w e x w')(a:¬(lA e).2.1=0):x=.returned (.tuple #[.agg #[.int .i64 0,.int .i64 0,.string ⟨#[]⟩,.slice GA 0 0,.slice GA 0 0],.int .i64 140])/\GK w.heap.size w w':=by
 unfold iT at h;rw[if_neg a] at h;exact h
theorem zy:¬(lA fN).2.1=0:=by decide
abbrev sM (n:Int):Prop:=-9223372036854775808<=n/\n<=9223372036854775807
theorem mM:∀ (l:List (List UInt8)) (nm:List UInt8) (i:Nat) (d:Int),sM d->i+l.length<=9000000000->sM (ik l nm i d)
 | [],nm,i,d,h,_=>h
 | b::r,nm,i,d,h,a=>by
  have a:i+(r.length+1)<=9000000000:=a;refine mM r nm (i+1) _ ?_ (by omega);split
  ·unfold sM;omega
  ·exact h
theorem xB (pk:Int)(b:List UInt8)(i:Nat)(a:List (List UInt8)):(js pk b i a).length<=a.length+1:=by
 unfold js;split
 ·simp
 ·omega
theorem pz:∀ (f:Fs) (pk:Int) (c:List UInt8) (i:Nat) (b:List (List UInt8)),f.rng->b.length+f.size<=8000000000->(ofF f pk c i b).rng
 | ⟨GA⟩,pk,c,i,b,h,_=>trivial
 | ⟨GB ⟨k,n,nm,a,ks,r⟩⟩,pk,c,i,b,h,d=>by
  have d:b.length+(ks.size+r.size+1)<=8000000000:=d;have g:=xB pk c i b;have h2:=pz r pk c (i+1) b h.2.2.2 (by omega);have h1:=pz ks k nm 0 (js pk c i b) h.2.2.1 (by omega);unfold ofF;split
  ·have e:=mM (js pk c i b) nm 0 n ⟨h.1,h.2.1⟩ (by omega);exact⟨e.1,e.2,trivial,h2⟩
  ·exact⟨h.1,h.2.1,h1,h2⟩
theorem AE {e:Ex}(a:List (List UInt8))(b:sM e.n)(h:e.kids.rng)(c:a.length+e.kids.size<=8000000000):sM (ofE e a).n/\(ofE e a).kids.rng:=by
 unfold ofE;split
 ·exact⟨mM a e.nm 0 e.n b (by omega),trivial⟩
 ·exact⟨b,pz _ _ _ _ _ h c⟩
theorem ou (s:ByteArray)(w:GE)(Q:s.size<=140737488351232)(I:Wd w)(J:kM w) :
  GR GD 5 #[.string s] w λx w'=>x=.returned (.bool true)/\GK w.heap.size w w':=by
 have c1:=vX s w (by unfold GY;omega)
 -- what the reader gives: a tree that fits,and an error or GA
 have M:∀ (e:IG) (w1:GE),DL w (fZ s.data.toList) e w1->∃(x:Ex) (d:Option G1) (c er pl:Nat),e=.returned (.tuple #[exV x d c,.int .i64 er,.int .i64 pl])/\x.fit/\x.kids.size<=2000/\(er≠0->¬(lA x).2.1=0)/\SlT w1 x.kids d/\GK w.heap.size w w1:=by
  intro e w1 h;cases z:fZ s.data.toList using Rs.on with
  | out=>rw[z] at h;exact h.elim
  | bad er a =>
   rw[z] at h;obtain⟨rfl,b⟩:=h;exact⟨fN,GA,0,er,a,rfl,⟨by simp[fN],trivial,by show 0<=_;omega,by show _<=(0:Int);decide,by show (0:Int)<=_;decide,trivial⟩,by show 0<=_;omega,λ_=>zy,.inl rfl,b⟩
  | ok x t =>
   rw[z] at h;obtain⟨ao,cap,rfl,S,b⟩:=h;have n:=qn z;exact⟨x,ao,cap,0,0,rfl,n.fit,n.size,λh=>absurd rfl h,Sl.all S,b⟩
 generalize fZ s.data.toList=R at *;go_enter Tryz.func5,Tryz.ntmps5;go_wp2_with fail;refine c1.mono ?_;intro e w1 h1;obtain⟨x,d,c,er,pl,rfl,f,H,j,F,b1⟩:=M e w1 h1;clear c1 h1 M;have b2:GK w1.heap.size w1 (w1.alloc (zEx x d c)):=(GN _ w1).alloc (GC _) _;have D:(w1.alloc (zEx x d c)).heap[w1.heap.size]?=GB (zEx x d c):=GH w1 _;have k:=b1.trans (b2.mono b1.size);have E:SlT (w1.alloc (zEx x d c)) x.kids d:=SlT.below F b2;rw[dU];go_upto_region 2 with fail;generalize w1.alloc (zEx x d c)=w2 at *;generalize w1.heap.size=bx at *;have c3:=zb x d c w2 f (by omega) E;rw[dU] at c3;obtain⟨p0,p1,p2,p3,p4,y⟩:=dT D;have i:fs (ofE x []):=⟨Ap x [] f.nm,Hn (vU x []) f.len,qx x [] f.sh⟩;have m:=AE (e:=x) [] ⟨f.n1,f.n2⟩ f.rng (by simp;omega);by_cases l:(lA x).2.1=0
 ·have o:er=0:=by
   by_cases A:er=0
   ·exact A
   ·exact absurd l (j A)
  subst o;go_wp2_with fail;refine c3.mono ?_;intro e w3 q;have q:=q.okE l;clear c3;generalize ofE x []=p at *;obtain⟨ap,r,rfl,P,b3⟩:=q;have v:=k.trans (b3.mono k.size);clear p0 p1 p2 p3 p4 y b1 b2 b3 k E D F f l j;have B:GK w3.heap.size w3 (w3.alloc (zPl p ap r GA 0 0)):=(GN _ w3).alloc (GC _) _;have K:(w3.alloc (zPl p ap r GA 0 0)).heap[w3.heap.size]?=GB (zPl p ap r GA 0 0):=GH w3 _;have g:=v.trans (B.mono v.size);have L:=SnA.below P.all B;rw[fe];go_upto_region 3 with fail;generalize w3.alloc (zPl p ap r GA 0 0)=w4 at *;generalize w3.heap.size=O at *;obtain⟨p0,p1,p2,p3,p4,y⟩:=dT K;have c5:=oC p ap r (.slice GA 0 0) [] w4 (by have:=i.len;unfold GY;omega) (Fs.short_wide i.sh) (λ_=>⟨i,m.1,m.2⟩) L ⟨GA,0,rfl,.inl rfl⟩ (by simp) (I.below g) (J.below g);rw[fe] at c5;go_wp2_with fail;refine c5.mono ?_;rintro e N ⟨rfl,u⟩;have G:=g.trans (u.mono g.size);clear c5 p0 p1 p2 p3 p4 y K L g u;go_wp2;go_ret;exact⟨rfl,G⟩
 ·go_wp2_with fail;refine c3.mono ?_;intro e w3 q;obtain⟨rfl,b3⟩:=q.not l;have v:=k.trans (b3.mono k.size);clear c3 p0 p1 p2 p3 p4 y b1 b2 b3 k E D F f l j i;have B:GK w3.heap.size w3 (w3.alloc (.cells #[.int .i64 0,.int .i64 0,.string ⟨#[]⟩,.slice GA 0 0,.slice GA 0 0] 37)):=(GN _ w3).alloc (GC _) _;have g:=v.trans (B.mono v.size);go_upto_region 3 with fail;generalize w3.alloc (.cells #[.int .i64 0,.int .i64 0,.string ⟨#[]⟩,.slice GA 0 0,.slice GA 0 0] 37)=w4 at *;generalize w3.heap.size=O at *;have c5:=rQ w4 (I.below g) (J.below g);have C:((er:Int) != 0)=true\/((er:Int) != 0)=false:=by cases h:((er:Int) != 0);exact .inr rfl;exact .inl rfl
  rcases C with A|A
  all_goals (
   go_wp2_with fail;refine c5.mono ?_;rintro e N ⟨rfl,u⟩;have G:=g.trans (u.mono g.size);clear c5 g u;go_wp2;go_ret;exact⟨rfl,G⟩)
theorem ownK:ownKnob Tryz.prog.godebug=GA:=by kernel_rfl
theorem yT:Tryz.prog.cellsOf 3=1:=by kernel_rfl
theorem gWd : Tryz.prog.globalNamed "isthmus/lex.words" = GB 3 := by kernel_rfl
theorem BI:(Tryz.prog.globals[3]?).map (·.type)=GB 229:=by kernel_rfl
theorem Co:Tryz.prog.cellsOf 229=27:=by kernel_rfl
theorem zq:Tryz.prog.cellsOf 9=1:=by kernel_rfl
def uu:List (Jm Unit):=(List.range 27).map λj=>.lit (.string (wd j).data.toList)
theorem xj:(JC:Jm Unit)=.agg uu:=by rfl
theorem si:eH.toList=(List.range 27).map λj=>Value.string (wd j):=by rfl
theorem oe {W:GE}{d:Nat}{cs:List GJ}{p:List Jc}(h:DataW.trod (λ_=>()) GD W 0 (λ_=>true) false d 229 cs=GB (.agg uu,p)):cs=eH.toList:=by
 obtain⟨xs,m,_,f,l,g,j⟩:=DataW.trod_array Tryz.underlying229 h;rw[Co] at l;simp only[zq,Nat.mul_one] at j;simp only[IM,DataW.agg.injEq] at f;rw[si];apply Jj;intro i;by_cases e:i<27
 ·have b:=j i e;have a:xs[i]?=GB xs[i]:=GI (by omega);rw[a] at b;obtain⟨s,h1,h2⟩:=DataW.trod_string IL b;have n:cs[i]?=GB (.string s):=by
   have:=congrArg (·[0]?) h1
   simpa [List.getElem?_take,List.getElem?_drop] using this
  have c:(xs.map (·.1))[i]?=GB (.lit (.string s.data.toList)):=by rw[Ie,a,h2.1];rfl
  rw[<-f.1] at c;unfold uu at c;rw[Ie,List.getElem?_range e] at c;simp only[Option.map_some,IQ,DataW.lit.injEq,Lit.string.injEq] at c;have k:=oi.1 c;rw[n,Ie,List.getElem?_range e,<-k];rfl
 ·rw[He (by omega),He (by simp;omega)]
theorem uH {W : GE} {r : List (String × Jm Unit)} (h : laidMet GD (("isthmus/lex.words", JC) :: r) W) : Wd W := by
 rw[xj] at h;obtain⟨ps,⟨m,l,cs,g,p,q,e,d,a,j,_,_⟩,_⟩:=h;obtain rfl:=Jy (gWd.symm.trans e);obtain rfl:=Jy (BI.symm.trans d);have f:=oe j;have b:cs=eH:=Array.toList_inj.1 f;subst b;simp only[World.var?,gWd,Option.bind_some] at a;split at a
 ·rename_i c t k i
  cases a;exact⟨t,k,i⟩
 ·cases a
def od (cs:Array GJ):Obj->Obj
 | .cells _ t frozen=>.cells cs t frozen
 | o=>o
def lowB (P:Jr):Nat:=(World.holding P default ⟨#[],#[],[]⟩).heap.size
theorem jQ {W:GE}{m:Nat}{l:List GJ}{a b:Int}{p:List Jc}
  (h:DataW.trod (λ_=>()) GD W 0 (λ_=>true) false m 222 l=GB (.agg [.lit (.int .u64 a),.lit (.int .u64 b)],p)):l=[.int .u64 a,.int .u64 b]:=by
 obtain⟨o,k,n,c,d,i,h1⟩:=trod_struct2 Tryz.underlying222 h;simp only[IM,DataW.agg.injEq,JV,and_true] at c;obtain⟨⟨e0,e⟩,_⟩:=c;obtain⟨z0,c0,g,_⟩:=DataW.trod_int Tryz.underlying175 i;obtain⟨j,c1,f,_⟩:=DataW.trod_int Tryz.underlying54 h1;subst g f;simp only[DataW.lit.injEq,Lit.int.injEq,true_and] at e0 e;subst e0 e;rw[oj] at d;simp only[wX,sG] at c0 c1
 match l,d with
 | [v0,v1],_ =>
  simp at c0 c1;rw[c0,c1]
theorem qN {W : GE} {r : List (String × Jm Unit)} (h : laidMet GD (("isthmus/pack.fields", Jq) :: r) W) : Tab W := by
 obtain⟨ps,⟨C,B,cs,n,p,q,f,e,b,x,_,_⟩,_⟩:=h;obtain rfl:=Jy (gTab.symm.trans f);obtain rfl:=Jy (Ac.symm.trans e);obtain⟨xs,m,_,g,j,c,d⟩:=DataW.trod_array Tryz.underlying223 x;rw[zH] at j;simp only[oj] at d
 match xs,c with
 | [v,u,t],_ =>
  have A:=d 0 (by omega);have z:=d 1 (by omega);have y:=d 2 (by omega);simp only[Jq,List.map_cons,List.map_nil,IM,DataW.agg.injEq,JV,and_true] at g;obtain⟨⟨e0,s,o⟩,_⟩:=g;obtain⟨D,p0⟩:=v;obtain⟨d1,p1⟩:=u;obtain⟨d2,p2⟩:=t;simp only at e0 s o;subst e0 s o;have k:=jQ A;have g1:=jQ z;have g2:=jQ y;obtain⟨l⟩:=cs
  match l,j with
  | [v0,v1,v2,v3,v4,v5],_ =>
   simp at k g1 g2;obtain⟨rfl,rfl⟩:=k;obtain⟨rfl,rfl⟩:=g1;obtain⟨rfl,rfl⟩:=g2;have a:=λi=>World.var?_cell gTab b i;have c0:=a 0;have c1:=a 1;have c2:=a 2;have c3:=a 3;have c4:=a 4;have c5:=a 5;simp at c0 c1 c2 c3 c4 c5;refine⟨c0,c1,c2,c3,c4,c5,?_⟩;by_cases w:2<W.heap.size
   ·exact w
   ·exfalso
    have:W.heap[2]?=GA:=Array.getElem?_eq_none (by omega)
    simp[JE,this] at c0
theorem gBar : Tryz.prog.globalNamed "isthmus/emit.bare" = GB 0 := by kernel_rfl
theorem At:(Tryz.prog.globals[0]?).map (·.type)=GB 181:=by kernel_rfl
theorem zZ:Tryz.prog.cellsOf 181=25:=by kernel_rfl
def BJ:List Int:=[0,0,0,0,0,0,4,5,6,7,8,9,10,0,0,0,0,0,0,0,0,0,20,0,22]
def barD:List (Jm Unit):=(List.range 25).map λj=>.lit (.int .i64 (BJ.getD j 0))
theorem Dx:(JD:Jm Unit)=.agg barD:=by rfl
theorem nB {W : GE} {r : List (String × Jm Unit)} (h : laidMet GD (("isthmus/emit.bare", JD) :: r) W) : (∀ k : Nat, k < 25 → W.cell? ⟨0, k, GA⟩ = GB (.int .i64 (BJ.getD k 0))) ∧ 0 < W.heap.size := by
 rw[Dx] at h;obtain⟨ps,⟨B,A,cs,v,p,q,l,j,d,a,_,_⟩,_⟩:=h;obtain rfl:=Jy (gBar.symm.trans l);obtain rfl:=Jy (At.symm.trans j);obtain⟨xs,m,_,n,y,s,t⟩:=DataW.trod_array Tryz.underlying181 a;rw[zZ] at y;simp only[yT,Nat.mul_one] at t;simp only[IM,DataW.agg.injEq] at n;have u:=λi=>World.var?_cell gBar d i;have b:∀ o,o<25->cs[o]?=GB (.int .i64 (BJ.getD o 0)):=λo f=>by
  have e:=t o f;have c:xs[o]?=GB xs[o]:=GI (by omega);rw[c] at e;obtain⟨z,c0,w,_⟩:=DataW.trod_int IS e;have a:(xs.map (·.1))[o]?=GB (.lit (.int .i64 z)):=by rw[Ie,c,w];rfl
  rw[<-n.1] at a;unfold barD at a;rw[Ie,List.getElem?_range f] at a;simp only[Option.map_some,IQ,DataW.lit.injEq,Lit.int.injEq,true_and] at a;have g:((cs.toList.drop o).take 1)[0]?=GB (.int .i64 z):=by rw[c0];rfl
  simp only[List.getElem?_take,List.getElem?_drop] at g;rw[a];simpa using g
 refine⟨λo f=>(u o).trans (b o f),?_⟩;by_cases x:0<W.heap.size
 ·exact x
 ·exfalso;have g:=(u 0).trans (b 0 (by omega))
  have:W.heap[0]?=GA:=Array.getElem?_eq_none (by omega)
  simp[JE,this] at g
theorem pQ {W : GE} (h : laidMet GD [("isthmus/pack.fields", Jq), ("isthmus/lex.words", JC), ("isthmus/emit.bare", JD)] W) : kM W := ⟨qN h, (nB h.tail.tail).1, (nB h.tail.tail).2⟩
def F7:Array GJ:=((List.range 25).map λj=>GT .i64 (BJ.getD j 0)).toArray
def lS (P:Jr)(os:Os):GE :=
 let w0:=World.holding P os ⟨#[],#[],[]⟩
 { w0 with heap:=((w0.heap.modify 2 (od #[.int .u64 56,.int .u64 255,.int .u64 28,.int .u64 268435455,.int .u64 0,.int .u64 268435455])).modify 3 (od eH)).modify 0 (od F7) }
end Go.Proofs.YtkhgahljbpmfaaaGreatDoor
namespace Go.Proofs.YtkhgahljbpmfaaaGreatDoor.emitTexts
open Go.ChangeShapes Go.WideShapes Go.ChangeAt Go.RowKit
open Go.ChangeMaps (open_string shut_string)
set_option linter.unusedVariables false
theorem contract (H:Type)(enc:Hl × GJ->H)(W:GE)(base:Nat)(args:Array GJ)(ds gs:List (Jm H))(before:List Jc)
  (hval:∀ (j:Nat) t v,Tryz.f5.params[j]?=GB t->args[j]?=GB v->Value.okWide GD W .any base t v)
  (hW:DataW.Whole enc GD Tryz.f5.params.toList Rows.emitTextsSpec.vars false W args.toList ds gs before)
  (hsz:(DataW.weightsEach GD (Tryz.f5.params.toList++(JB Rows.emitTextsSpec).bare.plain.varTypes GD) (ds++gs)).all (·<=reachBytes)=true) (hL:laidMetH GD Rows.emitTextsRow.laid W) :
  GR GD 5 args W λe W'=>∃v,e=.returned v/\Rows.emitTextsSpec.post enc GD Tryz.f5 false true false false W args v W':=by
 have hW':=hW;obtain⟨p,q,hA0,hV,rfl,hfz,hnd⟩:=hW;have hA:DataW.TrodAll enc GD W 0 (λ_=>true) true Tryz.f5.params.toList args.toList ds p:=hA0;rw[Tryz.params5] at hA hval hsz;obtain⟨v0,vs0,d0,ds0,p0,q0,hargs,rfl,rfl,h0,r0⟩:=trodAll_cons hA;obtain⟨rfl,rfl,rfl⟩:=trodAll_nil r0;obtain rfl:args=#[v0]:=by cases args;simp_all
 obtain⟨rfl,rfl⟩:=trodVars_none hV;obtain⟨c0,rfl,rfl,rfl,wc0⟩:=open_string IL (hval 0 9 v0 rfl rfl) h0;have hz0:c0.size<=140737488351232:=by
  have h:=sized_string hsz (j:=0) (t:=9) rfl rfl;rw[fh] at h;exact h
 clear hA0;simp only[Jz] at hW';refine(ou  c0  W  hz0 (uH hL.tail) (pQ hL)).mono λe W' ⟨he,hnx⟩=>?_;subst he;exact⟨_,rfl,_,_,_,[],([]++[]),[],hW',trodAll_cons_mk (shut_bool Tryz.underlying4 _) trodAll_mk0,(trodAll_cons_mk (shut_string IL wc0) trodAll_mk0),rfl,hnx.frame _,λh=>by cases h⟩
theorem laid_met (os:Os):laidMet GD Rows.emitTextsRow.laid ((lS GD os).forCall (λ_ _=>0) ⟨#[],#[.string ByteArray.empty],[]⟩).memory :=
 laidMet_of_run' 8 (by kernel_rfl) (by kernel_rfl)
theorem reads (os:Os){H:Type}(enc:Hl × GJ->H):∃places,DataW.whole enc GD ((lS GD os).forCall (λ_ _=>0) ⟨#[],#[.string ByteArray.empty],[]⟩).memory Tryz.f5.params.toList Rows.emitTextsSpec.vars false (#[.string ByteArray.empty]:Array GJ).toList 8=GB ([.lit (.string [])],[],places) :=
 ⟨[],by kernel_rfl⟩
theorem lifted (os:Os)(started:os.Started)(H:Type)(enc:Hl × GJ->H)(F:Stop.Interp) :
  ReturnsInHanded {} Tryz.checked os 5 .any ((JB Rows.emitTextsSpec).preRow enc GD Tryz.f5 Rows.emitTextsRow.domain false Rows.emitTextsRow.laid) (((JB Rows.emitTextsSpec).at F).post enc GD Tryz.f5 false true false false):=by
 obtain⟨places,hx⟩:=reads os enc;refine returnsInHanded_of_row (C:=Tryz.checked) (s:=JB Rows.emitTextsSpec) ownK started (by kernel_rfl) Tryz.func5
  (witness_row_at (enc:=enc) (C:=Tryz.checked) false (lS GD os) #[.string ByteArray.empty] rfl (by kernel_rfl) (by kernel_rfl) (by kernel_rfl)
   (OpenSpec.preRow_of_cond 8 hx (by kernel_rfl) (λk hk=>by cases hk) (by kernel_rfl) (laid_met os))) ?_
 intro W base args ds gs before hval hW _ _ hsz hL _ _;exact contract H enc W base args ds gs before hval hW hsz hL
theorem facts:joinedFacts Tryz.pinned.checked.prog 5 Tryz.f5 (JB Rows.emitTextsSpec).bare Rows.emitTextsRow=true:=by
 unfold joinedFacts;simp only[Ha]
 repeat' apply And.intro
 all_goals (as_aux_lemma=>kernel_rfl)
end Go.Proofs.YtkhgahljbpmfaaaGreatDoor.emitTexts

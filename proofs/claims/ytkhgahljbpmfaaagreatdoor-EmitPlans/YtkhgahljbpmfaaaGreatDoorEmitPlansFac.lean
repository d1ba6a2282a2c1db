import Derived.Test.YtkhgahljbpmfaaaGreatDoorDocG
import Derived.SizedLaws
import Derived.Stop.LaidErr
import Derived.ShutString
import Derived.Deep.DeepHandedRow
import Derived.Test.YtkhgahljbpmfaaaGreatDoorCards
import Derived.Test.YtkhgahljbpmfaaaGreatDoorTie
set_option maxRecDepth 100000
set_option maxHeartbeats 8000000
namespace Go.Proofs.YtkhgahljbpmfaaaGreatDoor
open Option renaming none->FI,some->FJ
open Nat renaming le_refl->FL,lt_of_lt_of_le->FV,le_trans->GA,not_lt_zero->GE,add_zero->GF,le_succ->GI,zero_add->GK,le_of_lt->GY,zero_mul->Hj,zero_le->Ix,add_sub_cancel_left->IF,lt_or_ge->I2,sub_self->Jb,lt_of_succ_lt->Jo
open Go.Proofs.Tryz renaming prog->FM,underlying35->GH,underlying9->Hs,underlying3->Hy,underlying40->Ij
open Go renaming World->FN,lt_of_block->FO,bodyPost_ret->FP,heap_alloc_new->FQ,Value->FS,Calls->F5,maxLen->Gg,Addr->Gi,TypeId->Gy,heap_alloc_old->G0,Ending->Ho,madeCells->Hp,MemPlace->Is,DataW->IC,Program->II
open List renaming getElem?_eq_getElem->FR,getD_eq_getElem?_getD->Gn,getElem?_eq_none->Gr,replicate->Gx,getElem?_map->GQ,getElem?_append_right->GS,mem_of_getElem?->Ha,getElem_mem->Hb,getElem?_append_left->Hc,nil_append->Hg,take_succ_eq_append_getElem->Hx,mem_append_left->Ic,eq_nil_of_length_eq_zero->Ii,ext_getElem?->Iz,append_nil->IS,take_length->I4,map_append->Je
open Go.RowKit renaming Below->FT,intOf->Gu
open Go.Lib renaming hid->FU
open Go.RowKit.Below renaming refl->FW,heap_alloc->FY
open Bool renaming and_eq_true->Gm
open Go.World renaming cell?_of_block->F6,cell?->IX
open Go.Value renaming int->F7,ownBlock->IE
open Exists renaming intro->Gh
open Int renaming toNat_natCast->GR
open Go.IntKind renaming wrap_i64->GU
open Go.Act renaming put->G4,eval->Ji
open Go.Value.slice renaming injEq->G9
open Prod.mk renaming injEq->Ht
open Option.some renaming injEq->Hw,inj->IR
open Go.Addr renaming add->Ip
open Go.Proofs.YtkhgahljbpmfaaaGreatDoor.Rows renaming laid_isthmus_pack_fields->IG,laid_isthmus_lex_words->IV,laid_isthmus_emit_bare->IW
open Go.OpenSpec renaming ofChange->IU
open List.cons renaming injEq->Jf
open Go.ChangeShapes Go.WideShapes Go.ChangeAt Go.RowKit
set_option linter.unusedVariables false
set_option linter.unusedSimpArgs false
theorem wJ:(Tryz.prog.info? 32).map (λi=>(i.zero,i.size,i.bytes))=FJ (FJ (.slice FI 0 0),1,24):=by kernel_rfl
theorem xJ (n:Nat):(Hp (Value.slice FI 0 0).cells (n*1)).size=n/\∀ i,i<n->(Hp (Value.slice FI 0 0).cells (n*1))[i]?=FJ (.slice FI 0 0):=by
 constructor
 ·simp[Hp,Value.cells]
 ·intro i a;simp[Hp,Value.cells,a,Nat.mod_one]
theorem yL (e:Ex)(ao:Option Gi)(cap:Nat)(cv:FS)(cells:List Int)(w:FN)(hf:fo e)(f:InA w cv cells)(ai:cells.length<=1000000000)(S:SnA w e.kids ao) :
  F5 FM 62 #[plV e ao cap cv] w λx w'=>x=.returned (.int .i64 (e5 cells e))/\FT w.heap.size w w':=by
 obtain⟨W,hZ⟩:=exq (e5 cells e);rw[<-hZ];have r:Hid (W=e5 cells e):=hZ;clear hZ;obtain⟨ii,Z,D,C,B⟩:=ek wJ;obtain⟨ac,cc,J,I⟩:=f;have f:InA w cv cells:=⟨ac,cc,J,I⟩;subst J;clear I;have y:FT w.heap.size w (w.alloc (zPl e ao cap ac cells.length cc)):=(FW _ w).alloc (FL _) _;have o:(w.alloc (zPl e ao cap ac cells.length cc)).heap[w.heap.size]?=FJ (zPl e ao cap ac cells.length cc):=FQ w _;have A:=SnA.below S y;have q:=f.below y;clear S f;rw[fk];go_enter Tryz.func62,Tryz.ntmps62;go_upto_region 1 with fail;generalize w.alloc (zPl e ao cap ac cells.length cc)=w0 at *;obtain⟨n0,s⟩:=exq w.heap.size;rw[<-s] at o y ⊢;have T:Hid (n0=w.heap.size):=s;clear s;obtain⟨p0,p1,p2,p3,p4,U⟩:=dT o;by_cases N:256<cells.length
 ·have hI:(256:Int)<(cells.length:Int):=by omega
  have m:Hid (W=0):=by show W=_;rw[r.out,pD N]
  clear r A q o;go_wp2;go_ret;rw[m.out];exact⟨rfl,by rw[<-T.out];exact y⟩
 have hI:¬(256:Int)<(cells.length:Int):=by omega
 obtain⟨af,ae,he,b⟩:=q;have q:InA w0 (.slice ac cells.length cc) cells:=⟨af,ae,he,b⟩;injection he with ad ab aa
 subst ad;subst aa;clear ab;go_wp2;go_loopw [3] (λv wr=>∃k:Nat,k<=cells.length/\v=.int .i64 k/\Hid (∀ j c,j<k->cells[j]?=FJ c->nlB c=false)/\wr=w0) (λv _=>cells.length-(Gu v).toNat)
 case atStart=>exact⟨0,by omega,by go_num,λj c H=>absurd H (GE _),rfl⟩
 case round =>
  obtain⟨k,hk,rfl,d,rfl⟩:=hrel;by_cases F:k<cells.length
  ·have h:cells[k]?=FJ cells[k]:=FR F;rcases b with rfl|⟨g1,o1,rfl,-,ah,K⟩
   ·simp at F
   have x1:=K k _ h;generalize cells[k]=x at x1 h;have Y:(k:Int)<(cells.length:Int):=by omega
   have R:Hid (cells[k]?=FJ x):=h;clear h K;have a:nlB x=true->Hid (W=0):=by
    intro hb;show W=0;rw[r.out,rY (List.any_eq_true.2 ⟨x,Ha R.out,hb⟩)]
   by_cases h0:x<0
   ·have m:=a (by simp[nlB];omega);clear r d R a q A o;go_wp2;go_ret;rw[m.out];exact⟨rfl,by rw[<-T.out];exact y⟩
   by_cases h4:4<x
   ·have m:=a (by simp[nlB];omega);clear r d R a q A o;go_wp2;go_ret;rw[m.out];exact⟨rfl,by rw[<-T.out];exact y⟩
   have hn2:Hid (∀ j c,j<k+1->cells[j]?=FJ c->nlB c=false):=by
    intro j c H f;rcases Nat.lt_succ_iff_lt_or_eq.1 H with h3|rfl
    ·exact d.out j c h3 f
    ·rw[R.out] at f;injection f with f
     rw[<-f];simp[nlB];omega
   clear r d R a q A o;go_wp2;go_roundw
   case rel=>exact⟨k+1,by omega,by go_num,hn2,trivial⟩
   case measure=>simp[Gu];omega
  ·have Y:¬(k:Int)<(cells.length:Int):=by omega
   have E:cells.any nlB=false:=by
    rw[List.any_eq_false];intro c f;obtain⟨j,H,h2⟩:=List.mem_iff_getElem.1 f
    have:=d.out j c (by omega) (by rw[FR H,h2])
    simp[this]
   have n:Hid (W=(match fG cells e 0 0 (0,λ_=>FI) with|none=>0|some (_,k)=>k)):=by show W=_;rw[r.out,pP (by omega) (sC E)];rfl
   clear r d b E;have mk:∀ w:FN,(Instr.makeSlice 160 (.int .i64 (cells.length:Nat)) (.int .i64 (cells.length:Nat))).run FM w=.ok (.slice (FJ ⟨w.heap.size,0,FI⟩) cells.length cells.length) (w.alloc (.cells (Hp (Value.slice FI 0 0).cells (cells.length*1)) 32)):=λw=>by
    have:=run_make (P:=FM) w 160 32 ii _ Tryz.underlying160 Z D .i64 .i64 cells.length cells.length (by omega) (Int.le_refl _) (by rw[B];omega) (by omega)
    rw[C] at this;simpa only[GR] using this
   obtain⟨L,M⟩:=xJ cells.length;generalize Hp (Value.slice FI 0 0).cells (cells.length*1)=X at *;have u:Hid (X.size=cells.length/\∀ i,i<cells.length->X[i]?=FJ (.slice FI 0 0)):=⟨L,M⟩;clear L M;have hn4:=FO o;have V:=mk wr.drew;obtain⟨w2,g⟩:=exq (((wr.alloc (.cells X 32)).alloc (.cells #[.slice ac cells.length cc,.int .i64 0,.slice (FJ ⟨wr.heap.size,0,FI⟩) cells.length cells.length,.bool true] 162)).drew);have b2:FT wr.heap.size wr w2:=by rw[g];exact(((FW _ wr).alloc (FL _) _).alloc (by simp) _).trans ⟨rfl,rfl,rfl,FL _,λ_ _=>rfl⟩
   have X2:w2.heap[wr.heap.size]?=FJ (.cells X 32 (0,0)):=by
    rw[g];exact(FY _ _ _ (by simp)).trans (FQ wr _)
   have V2:w2.heap[wr.heap.size+1]?=FJ (.cells #[.slice ac cells.length cc,.int .i64 0,.slice (FJ ⟨wr.heap.size,0,FI⟩) cells.length cells.length,.bool true] 162 (0,0)):=by
    rw[g]
    have:=FQ (wr.alloc (.cells X 32)) (.cells #[.slice ac cells.length cc,.int .i64 0,.slice (FJ ⟨wr.heap.size,0,FI⟩) cells.length cells.length,.bool true] 162)
    have h2:(wr.alloc (.cells X 32)).heap.size=wr.heap.size+1:=by simp
    rw[h2] at this;exact this
   have O:WD w2 (wr.heap.size+1) wr.heap.size (.slice ac cells.length cc) cells.length (FJ (0,λ_=>FI)):=⟨V2,Ix _,X,X2,u.out.1,λi hi=>.inl ⟨rfl,u.out.2 i hi⟩⟩;have c4:=rV (e.kids.size+1) e ao cap (wr.heap.size+1) wr.heap.size (.slice ac cells.length cc) cells 0 0 (0,λ_=>FI) w2 (by omega) hf (by omega) (by omega) (by omega) O (q.mono (λi _ G=>b2.block i G) b2.size (λi _ G=>⟨by omega,by omega⟩)) (A.mono (λi _ G=>b2.block i G) b2.size (λi _ G=>⟨by omega,by omega⟩));rw[dS] at c4;have E2:=(b2.block _ hn4).trans o;have ag:=FO V2;have l:Hid (n0<wr.heap.size):=hn4;clear o A q X2 V2 O;go_wp2_with fail;go_region_held3 (λwx=>wx.cell? ⟨n0,4,FI⟩=FJ (.slice ac cells.length cc)) (go_keep) (fail);rw[<-g];clear g mk V p0 p1 p2 p3 p4 U u;obtain⟨p0,p1,p2,p3,p4,U⟩:=dT E2;generalize fG cells e 0 0 (0,λ_=>FI)=rr at *;go_wp2_with fail;refine c4.mono ?_;rintro z w3 ⟨⟨k',rfl,t⟩,W3,K3⟩;have B3:FT n0 w w3:=(y.trans (b2.mono (GY l.out))).trans (K3.below (by have:=l.out;omega) (GY l.out) (by have:=l.out;omega));clear c4 p0 p1 p2 p3 p4 U E2 K3 b2;cases rr with
   | none =>
    have m:Hid (W=0):=n.out;obtain⟨-,p,kv,Q⟩:=W3;obtain⟨q0,q1,q2,q3,qf⟩:=el Q;clear n t Q;go_wp2;go_ret;rw[m.out];exact⟨rfl,by rw[<-T.out];exact B3⟩
   | some zz =>
    obtain⟨s2,k2⟩:=zz;obtain rfl:=t s2 k2 rfl;have m:Hid (W=k'):=n.out;obtain⟨Q,-,-⟩:=W3;obtain⟨q0,q1,q2,q3,qf⟩:=el Q;clear n t Q;go_wp2;go_ret;rw[m.out];exact⟨rfl,by rw[<-T.out];exact B3⟩
theorem xh (e:Ex)(ao:Option Gi)(cap:Nat)(j:FS)(cells:List Int)(w:FN)(m:fo e)(h:InA w j cells)(g:cells.length<=1000000000)(S:SnA w e.kids ao) :
  F5 FM 33 #[plV e ao cap j] w λx w'=>x=.returned (.bool (decide (e5 cells e≠0)))/\FT w.heap.size w w':=by
 obtain⟨ac,cc,d,c⟩:=h;have h:InA w j cells:=⟨ac,cc,d,c⟩;subst d;clear c;have f:FT w.heap.size w (w.alloc (zPl e ao cap ac cells.length cc)):=(FW _ w).alloc (FL _) _;have c1:=yL e ao cap _ cells _ m (h.below f) g (SnA.below S f);generalize e5 cells e=W at *;rw[fk] at c1 ⊢;go_enter Tryz.func33,Tryz.ntmps33;go_wp2_with fail;refine c1.mono ?_;rintro z w1 ⟨rfl,b1⟩;have l:=f.trans (b1.mono f.size);clear c1 b1;by_cases a:W=0
 ·have i:(W != 0)=false:=by simpa using a
  have b:decide (W≠0)=false:=by simp[a]
  have k:Hid (decide (W≠0)=_):=b;clear b a;go_wp2;go_ret;exact⟨by rw[k.out];simp[i],l⟩
 ·have i:(W != 0)=true:=by simpa using a
  have b:decide (W≠0)=true:=by simp[a]
  have k:Hid (decide (W≠0)=_):=b;clear b a;go_wp2;go_ret;exact⟨by rw[k.out];simp[i],l⟩
theorem sP (o a b:Int)(w:FN)(h1:0<=o)(h2:o<=255)(f:0<=a)(d:a<=268435455)(h5:0<=b)(c:b<=268435455) :
  F5 FM 36 #[.int .i64 o,.int .i64 a,.int .i64 b] w λe w' =>
   e=.returned (.tuple #[.int .u64 ((o*268435456+a)*268435456+b),.int .i64 0])/\w'=w:=by
 go_enter Tryz.func36,Tryz.ntmps36;go_wp2;go_ret2;exact⟨rfl,rfl⟩
theorem xr (o a b:Int)(w:FN)(h:¬(0<=o/\o<=255/\0<=a/\a<=268435455/\0<=b/\b<=268435455)) :
  F5 FM 36 #[.int .i64 o,.int .i64 a,.int .i64 b] w λe w'=>e=.returned (.tuple #[.int .u64 0,.int .i64 12])/\w'=w:=by
 have H:Hid (¬(0<=o/\o<=255/\0<=a/\a<=268435455/\0<=b/\b<=268435455)):=h;clear h;go_enter Tryz.func36,Tryz.ntmps36;go_wp2
 all_goals first|(exfalso;have:=H.out;omega)|(go_ret2;exact⟨rfl,rfl⟩)
def wdI (x:Wo):Int:=if x.op<=255/\x.a<=268435455/\x.b<=268435455 then iP x else 0
def wdW (l:List Wo):List FS:=l.map λx=>.int .u64 (wdI x)
theorem D3 {l:List Wo}(h:∀ x ∈ l,x.ok):wdW l=woV l:=List.map_congr_left λx c=>by show F7 .u64 (wdI x)=_;unfold wdI;rw[if_pos (show x.op<=255/\x.a<=268435455/\x.b<=268435455 from h x c)]
def wdE (x:Wo):Int:=if x.op<=255/\x.a<=268435455/\x.b<=268435455 then 0 else 12
theorem vY (x:Wo)(w:FN):F5 FM 36 #[.int .i64 (x.op:Nat),.int .i64 (x.a:Nat),.int .i64 (x.b:Nat)] w λe w'=>e=.returned (.tuple #[.int .u64 (wdI x),.int .i64 (wdE x)])/\w'=w:=by
 unfold wdI wdE;by_cases h:x.op<=255/\x.a<=268435455/\x.b<=268435455
 ·rw[if_pos h,if_pos h];exact sP (x.op:Int) (x.a:Int) (x.b:Int) w (by omega) (by omega) (by omega) (by omega) (by omega) (by omega)
 ·rw[if_neg h,if_neg h];exact xr (x.op:Int) (x.a:Int) (x.b:Int) w (by omega)
structure EmD (w:FN)(o:Nat->Nat)(s:Em)(vw vc vn vk:FS):Prop where
 ws:Row w o 2 54 1 vw s.ws.length (wdW s.ws)
 cs:Row w o 3 3 1 vc s.cs.length (eiV s.cs)
 ns:Row w o 4 9 1 vn s.ns.length (esV s.ns)
 ks:Row w o 5 3 1 vk s.ks.length (eiV s.ks)
def Cu (w:FN)(e:Ex)(cells:List Int)(z:Ho)(w':FN):Prop :=
 FT w.heap.size w w'/\((e5 cells e=0/\z=.returned (.tuple #[.agg iD,.int .i64 140])) \/
  (e5 cells e≠0/\(32768<(emA cells e).ws.length\/1024<(emA cells e).dp)/\z=.returned (.tuple #[.agg iD,.int .i64 190])) \/
  (e5 cells e≠0/\(emA cells e).ws.length<=32768/\(emA cells e).dp<=1024/\∃vw vc vn vk o',z=.returned (.tuple #[.agg #[vw,vc,vn,vk],.int .i64 0])/\(∀ k,k<w.heap.size->o' k=0)/\EmD w' o' (emA cells e) vw vc vn vk))
theorem newD {w2:FN}{gk:Nat}(n:Nat)(q:n<=1000)(p0 p1 p2 p3 p4:FS)(w3:FN)(lv:List Int)(c:lv.length=n)
  (f:w3=(w2.alloc (.cells (Hp (F7 .i64 0).cells (n*1)) 3)).alloc (.cells #[p0,p1,p2,p3,p4,.slice FI 0 0,.slice FI 0 0,.slice (FJ ⟨gk,0,FI⟩) n n,.slice FI 0 0,.int .i64 0,.int .i64 0,.bool false] 74)) (d:gk=w2.heap.size) :
  ∃h,DW w3 h (gk+1) p0 p1 p2 p3 p4 (de0 lv)/\FT w2.heap.size w2 w3/\∀ k,k<w2.heap.size->h k=0:=by
 obtain⟨e,z2,z3,z4⟩:=al2 w2 (.cells (Hp (F7 .i64 0).cells (n*1)) 3) (.cells #[p0,p1,p2,p3,p4,.slice FI 0 0,.slice FI 0 0,.slice (FJ ⟨gk,0,FI⟩) n n,.slice FI 0 0,.int .i64 0,.int .i64 0,.bool false] 74);rw[<-f,<-d] at e z2 z3 z4;obtain⟨o',a⟩:∃o':Nat->Nat,o'=λk=>if k=gk+1 then 1 else if k=gk then 5 else 0:=⟨_,rfl⟩;have l:o' (gk+1)=1:=by rw[a];simp
 have j:o' gk=5:=by rw[a];show (if gk=gk+1 then 1 else if gk=gk then 5 else 0)=5;rw[if_neg (by omega),if_pos rfl]
 refine⟨o',⟨by simp[de0],_,_,_,_,⟨z2,l⟩,Row.nil _ _ _ _ _,Row.nil _ _ _ _ _,Row.nil _ _ _ _ _,?_⟩,by rw[<-d];exact z4,λk g=>?_⟩
 ·have p:(de0 lv).ks.length=n:=by simp[de0,c]
  have o:eiV (de0 lv).ks=Gx n (F7 .i64 0):=by simp[eiV,de0,c]
  have m:Hp (F7 .i64 0).cells (n*1)=(Gx n (F7 .i64 0)).toArray:=by
   apply Array.ext';simp only[Hp,Value.cells];rw[List.eq_replicate_iff];refine⟨by simp,λb i=>?_⟩;simp[Nat.mod_one] at i;exact i.2.symm
  rw[m] at e;rw[p,o];refine⟨⟨by simp,.inr ⟨gk,n,_,rfl,Ix _,e,FL _,by unfold Gg;omega,by simp,by simp⟩⟩,λk g=>?_⟩;simp[IE] at g;rw[<-g];exact j
 ·rw[a];show (if k=gk+1 then 1 else if k=gk then 5 else 0)=0;rw[if_neg (by omega),if_neg (by omega)]
theorem Row.labq {w:FN}{o o':Nat->Nat}{i j:Nat}{e:Gy}{size:Nat}{v:FS}{n:Nat}{xs:List FS}(h:Row w o i e size v n xs)(a:∀ k,o k=i->o' k=j):Row w o' j e size v n xs:=⟨h.1,λk b=>a k (h.2 k b)⟩
abbrev I68:Nat->Prop:=λk=>6<=k/\k<=8
def m8 (l:List Int):List Int:=l.map λy=>max y 1
theorem Ck (e:Ex)(ao:Option Gi)(cap:Nat)(cv:FS)(cells:List Int)(w:FN)(hf:fo e)(hn:-9223372036854775808<=e.n/\e.n<=9223372036854775807)(hr:e.kids.rng)(hc:InA w cv cells)(bi:cells.length<=1000000000)(S:SnA w e.kids ao) :
  F5 FM 14 #[plV e ao cap cv] w (Cu w e cells):=by
 obtain⟨g,hg⟩:=exq w.heap.size;obtain⟨w1,E⟩:=exq ((w.alloc (.cells #[.int .i64 e.k,.int .i64 e.n,stv e.nm,.slice ao e.kids.len cap,cv] 37)).alloc (.cells iD 42));obtain⟨z1,z2,z3,z4⟩:=al2 w (.cells #[.int .i64 e.k,.int .i64 e.n,stv e.nm,.slice ao e.kids.len cap,cv] 37) (.cells iD 42);rw[<-E,<-hg] at z1 z2 z3 z4;have B1:FT w.heap.size w w1:=by rw[<-hg];exact z4
 have HC:=xh e ao cap cv cells w1 hf (hc.below B1) bi (SnA.below S B1);have bh:=hc;obtain⟨ac,cc,rfl,-⟩:=bh;rw[fk] at HC ⊢;have N:=FU hg;clear hg;obtain⟨c0,c1,c2,c3,c4⟩:=fX z1;by_cases c:e5 cells e=0
 ·rw[decide_eq_false (by simp[c])] at HC;have HK:=FU c;clear c;go_enter Tryz.func14,Tryz.ntmps14;go_upto_region 1 with fail;rw[<-E,<-N.out];clear E;go_upto_region 2 with (first|(go_at_call 33;refine HC.mono ?_;rintro z w2 ⟨rfl,B2⟩))
  have GZ:=(B2.block (g+1) (by omega)).trans z2;obtain⟨⟨d0,d1,d2,d3⟩,s⟩:=dW GZ;have aD:=s 0;have aC:=s 1;have aB:=s 2;have aA:=s 3;have BZ:FT g w w2:=z4.trans (B2.mono (by omega));have ZE:=oO (.slice FI 0 0) (.slice FI 0 0) (.slice FI 0 0) (.slice FI 0 0) GZ;have f:g<=g+1:=by omega
  have BE:=(((BZ.setCell (p:=⟨g+1,0,FI⟩) f (.slice FI 0 0)).setCell (p:=⟨g+1,1,FI⟩) f (.slice FI 0 0)).setCell (p:=⟨g+1,2,FI⟩) f (.slice FI 0 0)).setCell (p:=⟨g+1,3,FI⟩) f (.slice FI 0 0);obtain⟨⟨m0,m1,m2,m3⟩,-⟩:=dW ZE;have O:=FU BE;clear ZE BE GZ BZ HC z1 z2 z3 z4 B1 B2 c0 c1 c2 c3 c4;go_wp2;exact FP (v:=.tuple #[.agg iD,.int .i64 140]) (by simp[results,Tryz.results14,go_sem,m0,m1,m2,m3]) rfl ⟨by rw[<-N.out];exact O.out,.inl ⟨HK.out,rfl⟩⟩
 ·rw[decide_eq_true c] at HC;obtain⟨aa,br,ba,bu⟩:=q7 c hn hr;obtain⟨K,aS,aq⟩:=Fx c aa;have HK:=FU c;clear c;obtain⟨ii,aO,ai,ah,ag⟩:=ek n7;have mk:∀ w:FN,(Instr.makeSlice 35 (.int .i64 (cells.length:Nat)) (.int .i64 (cells.length:Nat))).run FM w=.ok (.slice (FJ ⟨w.heap.size,0,FI⟩) cells.length cells.length) (w.alloc (.cells (Hp (F7 .i64 0).cells (cells.length*1)) 3)):=λw=>by
   have:=run_make (P:=FM) w 35 3 ii _ GH aO ai .i64 .i64 cells.length cells.length (by omega) (Int.le_refl _) (by rw[ag];omega) (by omega)
   rw[ah] at this;simpa only[GR] using this
  clear aO ai ah ag;go_enter Tryz.func14,Tryz.ntmps14;go_upto_region 1 with fail;rw[<-E,<-N.out];clear E;go_upto_region 4 with (first|(go_at_call 33;refine HC.mono ?_;rintro z w2 ⟨rfl,B2⟩))
  have Q:FT w.heap.size w w2:=B1.trans (B2.mono B1.size);have y1:=(B2.block g (by omega)).trans z1;have y2:=(B2.block (g+1) (by omega)).trans z2;have L2:g+2<=w2.heap.size:=by rw[<-z3];exact B2.size
  clear c0 c1 c2 c3 c4 HC;obtain⟨c0,c1,c2,c3,c4⟩:=fX y1;have a7:=mk w2;have a6:=mk w2.drew;have aG:=λX:Obj=>(G0 w2 X (by omega)).trans y1;have hX:=newD (w2:=w2) (gk:=w2.heap.size) cells.length (by omega) (.int .i64 e.k) (.int .i64 e.n) (stv e.nm) (.slice ao e.kids.len cap) (.slice ac cells.length cc) _ cells rfl rfl rfl;generalize Hp (F7 .i64 0).cells (cells.length*1)=X at *;obtain⟨d0,d1,d2,d3,d4⟩:=fX (aG (.cells X 3));obtain⟨gk,ay⟩:=exq w2.heap.size;rw[<-ay] at hX;obtain⟨wx,am⟩:=exq ((w2.alloc (.cells X 3)).alloc (.cells #[.int .i64 e.k,.int .i64 e.n,stv e.nm,.slice ao e.kids.len cap,.slice ac cells.length cc,.slice FI 0 0,.slice FI 0 0,.slice (FJ ⟨gk,0,FI⟩) cells.length cells.length,.slice FI 0 0,.int .i64 0,.int .i64 0,.bool false] 74));rw[<-am] at hX;have HX:=FU hX;have aF:=FU ay;have aY:=FU am;clear aG hX ay am mk;go_region;go_upto_region 5 with fail;rw[<-aF.out,<-aY.out];obtain⟨o3,aZ,a4,t⟩:=HX.out;have E3:=aZ.step ((dQ.refl (λ_=>False) wx o3).drew) noF;have W:FT gk w2 wx.drew:=a4.drew;generalize wx.drew=w3 at *;obtain⟨rb,aJ⟩:=exq (gk+1);rw[<-aJ] at E3 ⊢;clear aJ HX aY aZ a4 d0 d1 d2 d3 d4 a7 a6 c0 c1 c2 c3 c4;rw[<-aF.out] at L2;have aK:w2.heap.size=gk:=aF.out.symm;have X3:DX w3 o3 (.slice ac cells.length cc) cells:=by
   obtain⟨ao,cap,hv,hx⟩:=hc.below Q;injection hv with h1 h2 h3
   subst h1 h3;refine⟨_,_,rfl,?_⟩;rcases hx with hx|⟨b,off,h1,h2,h3,h4⟩
   ·exact .inl hx
   ·rw[aK] at h3;exact .inr ⟨b,off,h1,t b h3,FV h3 (by rw[<-aK];exact W.size),λj x hj=>(W.cell (p:=⟨b,off+j,FI⟩) h3).trans (h4 j x hj)⟩
  have aV:SnO w3 o3 e.kids ao:=(SnA.below S Q).mono (λk _ hl=>W.block k (by omega)) W.size (λk _ hl=>t k (by omega));have aU:Blk w3 o3 0 g (zPl e ao cap ac cells.length cc):=⟨(W.block g (by omega)).trans y1,t g (by omega)⟩;have aT:Blk w3 o3 0 (g+1) (.cells iD 42):=⟨(W.block (g+1) (by omega)).trans y2,t (g+1) (by omega)⟩;have z0:(de0 cells).sz 0:=⟨by simp[de0],by simp[de0],by simp[de0],by simp[de0],by simp[de0],by simp[de0]⟩;have HP:=pN K cells.length (e.kids.size+1) e ao cap 0 w3 o3 rb _ _ _ _ _ cells (de0 cells) 0 (by omega) aa aq rfl ba (by omega) (by omega) aV (by simp[de0]) z0 (by omega) X3 E3;rw[dS] at HP;have dA:=e7 cells e 0 (de0 cells);have zA:=(dV _ 0 0 0).sz _ (dA.sz 0 z0);have BW:FT g w w3:=(by rw[<-N.out] at Q;exact Q.trans (W.mono (by omega)));have hR:=ry_A K cells cells.length e aq aa;have aM:(deA cells e).ks.length=cells.length:=((dV _ 0 0 0).ks.trans dA.ks).trans (by simp[de0]);obtain⟨c0,c1,c2,c3,c4⟩:=fX aU.1;rw[show ((0:Nat):Int)=0 from rfl] at HP;go_upto_region 6 with (first|(go_at_call 34;refine HP.mono ?_;rintro z w4 ⟨rfl,o4,E4,S4⟩))
  have HL:=eA w4 o4 rb _ _ _ _ _ (deE cells e 0 (de0 cells)) 0 0 0 E4;go_upto_region 7 with (first|(go_at_call 35;refine HL.mono ?_;rintro z u ⟨rfl,o5,E5,S5⟩))
  have aQ:(deE cells e 0 (de0 cells)).puts 0 0 0=deA cells e:=rfl;rw[aQ] at E5 zA;have o:=S4.trans S5;have L:=aT.step o dZ;have ax:∀ k,k<w.heap.size->o5 k=0:=λk ad=>by
   have hg:=N.out;rw[o.lab k (by have:=W.size;omega)];exact t k (by omega)
  have B5:FT g w u:=BW.trans ⟨o.os,o.tape,o.output,o.size,λk ad=>o.block k (by have:=W.size;omega) (by rw[t k (by omega)];exact dZ)⟩;clear HP HL E4 S4 S5 o aU aT X3 aV E3 BW aq aa dA z0 c0 c1 c2 c3 c4 W t Q y1 y2 B1 B2 z1 z2 z4 S hc hf hr;obtain⟨⟨d0,d1,d2,d3⟩,s⟩:=dW L.1;have aD:=s 0;have aC:=s 1;have aB:=s 2;have aA:=s 3;have f:g<=g+1:=by omega
  obtain⟨al,-⟩:=E5.cl;by_cases hq:okQ (emA cells e)
  ·have r:=hR.1 hq;rw[r.lg] at al;obtain⟨wl,vc,vn,vk,vw,q0,q1,q2,q3,q4⟩:=E5;obtain⟨aw,cw,rfl⟩:=q1.form;obtain⟨l,h,rfl⟩:=q2.form;obtain⟨an,cn,rfl⟩:=q3.form;obtain⟨ak,ck,rfl⟩:=q4.form;obtain⟨⟨t4,t5,t6,B,U,t9,aI,aH⟩,-⟩:=fg q0.1;have qa:=λX:Obj=>(G0 u X q0.lt).trans q0.1;obtain⟨⟨-,u5,u6,-,-,-,-,-⟩,-⟩:=fg (qa (.cells iD 42));obtain⟨⟨-,v5,v6,-,-,-,-,-⟩,-⟩:=fg (show u.drew.heap[rb]?=_ from q0.1);clear qa;obtain⟨F,az⟩:=exq u.heap.size;have B6:FT g w (u.alloc (.cells #[.slice FI 0 0,.slice l (deA cells e).cs.length h,.slice an (deA cells e).ns.length cn,.slice FI 0 0] 42)).drew:=(B5.alloc (by have:=B5.size;have:=N.out;omega) _).drew;have S6:∀ {I:Nat->Prop},dQ I u o5 (u.alloc (.cells #[.slice FI 0 0,.slice l (deA cells e).cs.length h,.slice an (deA cells e).ns.length cn,.slice FI 0 0] 42)).drew (dR u o5 6):=λ{I}=>(((dQ.refl I u o5).labelled 6).alloc _).drew;have G6:Blk (u.alloc (.cells #[.slice FI 0 0,.slice l (deA cells e).cs.length h,.slice an (deA cells e).ns.length cn,.slice FI 0 0] 42)).drew (dR u o5 6) 6 F (.cells #[.slice FI 0 0,.slice l (deA cells e).cs.length h,.slice an (deA cells e).ns.length cn,.slice FI 0 0] 42):=by rw[az];exact⟨FQ _ _,dY (FL _)⟩
   have bl:=FU az;clear az;go_upto_region 9 with fail;go_region;go_upto_region 10 with fail;rw[<-bl.out];generalize (u.alloc (.cells #[.slice FI 0 0,.slice l (deA cells e).cs.length h,.slice an (deA cells e).ns.length cn,.slice FI 0 0] 42)).drew=w6 at *;have Q0:=q0.step (S6 (I:=λ_=>False)) id;have Q1:=q1.step (S6 (I:=λ_=>False)) id;have Q2:=q2.step (S6 (I:=λ_=>False)) id;have Q3:=q3.step (S6 (I:=λ_=>False)) id;have Q4:=q4.step (S6 (I:=λ_=>False)) id;have aE:=L.step (S6 (I:=λ_=>False)) id;have av:∀ k,k<w.heap.size->dR u o5 6 k=0:=λk ad=>by
    rw[ed (by have:=B5.size;omega)];exact ax k ad
   generalize dR u o5 6=o6 at *;generalize deA cells e=D at *;have a5:D.ks.length<=256:=by omega
   clear aM aQ q0 q1 q2 q3 q4 L B5 S6 ax hR zA t4 t5 t6 B U t9 aI aH u5 u6 v5 v6 d0 d1 d2 d3 aD aC aB aA s al;have KW:Hid (∀ w' o',dQ I68 w6 o6 w' o'->w'.cell? ⟨rb,7,FI⟩=FJ (.slice ak D.ks.length ck)/\w'.cell? ⟨rb,8,FI⟩=FJ (.slice aw D.ws.length cw)):=λw' o' S=>by
    obtain⟨⟨t4,t5,t6,B,U,t9,aI,aH⟩,-⟩:=fg (Q0.step S (by decide)).1;exact⟨B,U⟩
   obtain⟨j1,j2,j3,j4,j5⟩:=ek qL;obtain⟨B,U⟩:=KW.out _ _ (dQ.refl I68 w6 o6);go_wp2_with fail;go_loopw [7] (λv wr=>∃(i:Nat) (o':Nat->Nat) (va:Option Gi) (H:Nat),v=.int .i64 i/\i<=D.ks.length/\Blk wr o' 6 F (.cells #[.slice FI 0 0,.slice l D.cs.length h,.slice an D.ns.length cn,.slice va i H] 42)/\Row wr o' 7 3 1 (.slice va i H) i (eiV (m8 (D.ks.take i)))/\dQ I68 w6 o6 wr o') (λv _=>D.ks.length-(Gu v).toNat)
   case atStart=>exact⟨0,o6,FI,0,by go_num,by omega,G6,Row.nil _ _ _ _ _,dQ.refl _ _ _⟩
   case round =>
    clear G6 B U;obtain⟨i,o',va,H,rfl,hi,G,R,S⟩:=hrel;obtain⟨B,U⟩:=KW.out _ _ S;obtain⟨⟨g0,g1,g2,g3⟩,gf⟩:=dW G.1;by_cases ab:i<D.ks.length
    ·have bc:(i:Int)<(D.ks.length:Int):=by omega
     obtain⟨bj,bo,ap,bq,-,-,bd,aR,bf⟩:=(Q4.step S (by decide)).pos (by omega);injection ap with au a9 ar
     subst au ar;have rz:wr.cell? ⟨bj,i,FI⟩=FJ (.int .i64 (D.ks.getD i 0)):=by
      rw[aR i (by omega)];simp[eiV,ab,Gn]
     obtain⟨M,hM⟩:=exq (max (D.ks.getD i 0) 1);have hY:Hid (eiV (m8 (D.ks.take (i+1)))=eiV (m8 (D.ks.take i))++[.int .i64 M]):=by
      have e1:m8 (D.ks.take (i+1))=m8 (D.ks.take i)++[M]:=by
       unfold m8;rw[Hx ab,Je,hM];simp[ab,Gn]
      show _=_;rw[e1,eiV,Je];rfl
     have bA:i+1<=Gg:=by unfold Gg;omega
     have bB:(i+1)*8<=140737488355328:=by omega
     have Z:∀ {I:Nat->Prop} (wz:FN),dQ I wz o' wz.drew o':=λwz=>(dQ.refl _ wz o').drew;have C:∀ {I:Nat->Prop},dQ I wr o' (wr.alloc (.cells #[.int .i64 M] 3)) o':=λ{I}=>dQ.ofBelow (I:=I) o' (b1 _ _);have Ra:=(R.step (C (I:=λ_=>False)) id).step (Z (I:=λ_=>False) _) id;have Ga:=(G.step (C (I:=λ_=>False)) id).step (Z (I:=λ_=>False) _) id;obtain⟨⟨a0,a1,a2,a3⟩,af⟩:=dW (G.step (C (I:=λ_=>False)) id).1;subst hM;generalize D.ks.getD i 0=y at *;clear aR bf;go_wp2_with fail;go_region_law ((refine fP rfl (.tmp 53) (.tmp 62) 35 rfl 3 j1 (.int .i64 0) 1 8 GH j2 j3 j4 j5 rfl (by decide) o' 7 (.slice va i H) i (eiV (m8 (D.ks.take i))) (by simp[Ji,G4]) Ra ⟨wr.heap.size,0,FI⟩ 1 1 [.int .i64 (max y 1)] (by simp[Ji,G4]) rfl (fC wr _ _) (jN _ rfl) (by decide) bA bB ?_;intro g5 c5 Y V R7 S7;have G7:=Ga.step S7 (by decide);obtain⟨⟨h0,h1,h2,h3⟩,hf⟩:=dW G7.1;have bg:=hf 3))
     all_goals
      have T8:dQ (λk=>k=6) Y V (Y.setCell ⟨F,3,FI⟩ (.slice (FJ ⟨g5,0,FI⟩) (i+1) c5)) V:=fd _ Y V ⟨F,3,FI⟩ _ G7.2;have G8:=G7.set 3 (.slice (FJ ⟨g5,0,FI⟩) (i+1) c5);have R8:=R7.step T8 (by decide);have S8:dQ I68 w6 o6 (Y.setCell ⟨F,3,FI⟩ (.slice (FJ ⟨g5,0,FI⟩) (i+1) c5)) V:=(((S.trans C).trans (Z _)).trans (S7.mono (λk c=>by rw[c];decide))).trans (T8.mono (λk c=>by rw[c];decide));rw[<-hY.out] at R8;clear G7 R7 T8 S7 G R S Ra Ga Z C hY a0 a1 a2 a3 h0 h1 h2 h3 hf bg g0 g1 g2 g3 gf B U rz af;generalize Y.setCell ⟨F,3,FI⟩ (.slice (FJ ⟨g5,0,FI⟩) (i+1) c5)=w8 at *;go_wp2;go_roundw
      case rel=>(try ((repeat apply Gh);refine⟨?_,rfl⟩));exact⟨i+1,V,FJ ⟨g5,0,FI⟩,c5,by go_num,by omega,G8,R8,S8⟩
      case measure=>simp[Gu];omega
    ·have bc:¬(i:Int)<(D.ks.length:Int):=by omega
     obtain rfl:i=D.ks.length:=by omega
     rw[I4] at R;clear ab;have a8:∃wv,wv=wr:=⟨_,rfl⟩;obtain⟨wv,rfl⟩:=a8;go_wp2_with fail;go_loopw [8] (λv wq=>∃(j:Nat) (m:Nat->Nat) (T:Option Gi) (cb:Nat),v=.int .i64 j/\j<=D.ws.length/\Blk wq m 6 F (.cells #[.slice T j cb,.slice l D.cs.length h,.slice an D.ns.length cn,.slice va D.ks.length H] 42)/\Row wq m 8 54 1 (.slice T j cb) j (wdW (D.ws.take j))/\dQ (λk=>k=6\/k=8) wv o' wq m) (λv _=>D.ws.length-(Gu v).toNat)
     case atStart=>exact⟨0,o',FI,0,by go_num,by omega,G,Row.nil _ _ _ _ _,dQ.refl _ _ _⟩
     case round =>
      clear G g0 g1 g2 g3 gf B U;obtain⟨j,m,T,cb,rfl,hj,G2,R2,S2⟩:=hrel;have d:dQ I68 w6 o6 wr m:=S.trans (S2.mono (λk c=>by rcases c with c|c<;>(rw[c];decide)));obtain⟨B,U⟩:=KW.out _ _ d;obtain⟨⟨g0,g1,g2,g3⟩,gf⟩:=dW G2.1;by_cases aN:j<D.ws.length
      ·have bb:(j:Int)<(D.ws.length:Int):=by omega
       obtain⟨gl,bn,ap,bp,-,-,bd,aj,be⟩:=(Q1.step d (by decide)).pos (by omega);injection ap with au a9 ar
       subst au ar;have ae:∀ i,i<3->wr.cell? ⟨gl,j*3+i,FI⟩=(jM D.ws[j])[i]?:=λi hi=>by
        rw[aj (j*3+i) (by omega),qk D.ws j i D.ws[j] (FR aN) hi]
       have hW:Hid (wdW (D.ws.take (j+1))=wdW (D.ws.take j)++[.int .u64 (wdI D.ws[j])]):=by
        show _=_;rw[Hx aN,wdW,Je];rfl
       generalize D.ws[j]=x at *;have x0:wr.cell? ⟨gl,j*3,FI⟩=FJ (.int .i64 (x.op:Nat)):=ae 0 (by omega);have x1:wr.cell? ⟨gl,j*3+1,FI⟩=FJ (.int .i64 (x.a:Nat)):=ae 1 (by omega);have x2:wr.cell? ⟨gl,j*3+2,FI⟩=FJ (.int .i64 (x.b:Nat)):=ae 2 (by omega);have aX:=λwy=>vY x wy;have KQ:∀ q,dQ (λ_=>False) wr m (wr.drewN q) m:=λq=>(dQ.refl _ wr m).drewN q;clear ae aj be;go_wp2_with fail
       go_quiet ((go_at_call 36;exact Calls.quiet_of_same (aX _)))
       have KQ:=KQ nq;have G3:=G2.step KQ id;have R3:=R2.step KQ id;have S3:dQ I68 w6 o6 (wr.drewN nq) m:=d.trans (KQ.mono (λk c=>c.elim));have aW:dQ (λk=>k=6\/k=8) wv o' (wr.drewN nq) m:=S2.trans (KQ.mono (λk c=>c.elim));generalize wr.drewN nq=w9 at *;clear g0 g1 g2 g3 gf B U x0 x1 x2 G2 R2 S2 aX KQ;obtain⟨⟨g0,g1,g2,g3⟩,gf⟩:=dW G3.1;obtain⟨u1,u2,u3,u4,u5⟩:=ek tm;have bA:j+1<=Gg:=by unfold Gg;omega
       have bB:(j+1)*8<=140737488355328:=by omega
       obtain⟨ev,aP⟩:=exq (wdI x);rw[<-aP] at hW ⊢;generalize wdE x=er at *;have pr:=R3.step (dQ.ofBelow (I:=λ_=>False) m (b1 w9 (.cells #[.int .u64 ev] 54))) id;clear aP;go_wp2_with (first|(at_builtin;refine eb rfl _ _ 39 rfl 54 u1 (.int .u64 0) 1 8 Tryz.underlying39 u2 u3 u4 u5 rfl (by decide) m 8 (.slice T j cb) j (wdW (D.ws.take j)) rfl pr ⟨w9.heap.size,0,FI⟩ 1 1 [.int .u64 ev] rfl rfl (fC _ _ _) (jN _ rfl) (by decide) bA bB ?_)|go_in);intro g5 c5 Y V R7 S7;have sa:∀ {I:Nat->Prop},dQ I w9 m (w9.alloc (.cells #[.int .u64 ev] 54)) m:=λ{I}=>dQ.ofBelow (I:=I) m (b1 _ _);have G7:=(G3.step (sa (I:=λ_=>False)) id).step S7 (by decide);obtain⟨⟨h0,h1,h2,h3⟩,hf⟩:=dW G7.1;have bt:=hf 0;have T8:dQ (λk=>k=6) Y V (Y.setCell ⟨F,0,FI⟩ (.slice (FJ ⟨g5,0,FI⟩) (j+1) c5)) V:=fd _ Y V ⟨F,0,FI⟩ _ G7.2;have G8:=G7.set 0 (.slice (FJ ⟨g5,0,FI⟩) (j+1) c5);have R8:=R7.step T8 (by decide);have S8:=((aW.trans sa).trans (S7.mono (J:=λk=>k=6\/k=8) (λk c=>.inr c))).trans (T8.mono (J:=λk=>k=6\/k=8) (λk c=>.inl c));rw[<-hW.out] at R8;clear G7 R7 T8 S7 G3 R3 S3 aW pr sa g0 g1 g2 g3 gf hW;go_wp2;go_roundw
       case rel=>(try ((repeat apply Gh);refine⟨?_,rfl⟩));exact⟨j+1,V,FJ ⟨g5,0,FI⟩,c5,by go_num,by omega,G8,R8,S8⟩
       case measure=>simp[Gu];omega
      ·have bb:¬(j:Int)<(D.ws.length:Int):=by omega
       obtain rfl:j=D.ws.length:=by omega
       rw[I4] at R2;obtain⟨⟨d0,d1,d2,d3⟩,s⟩:=dW (aE.step d (by decide)).1;have aD:=s 0;have aC:=s 1;have aB:=s 2;have aA:=s 3;have BR:FT g w wr:=B6.trans ⟨d.os,d.tape,d.output,d.size,λk ad=>d.block k (by have:=B6.size;have:=N.out;omega) (by rw[av k (by have:=N.out;omega)];decide)⟩;have b9:=aE.step d (by decide);have ZE:=oO (.slice T D.ws.length cb) (.slice l D.cs.length h) (.slice an D.ns.length cn) (.slice va D.ks.length H) b9.1;have BE:=(((BR.setCell (p:=⟨g+1,0,FI⟩) f (.slice T D.ws.length cb)).setCell (p:=⟨g+1,1,FI⟩) f (.slice l D.cs.length h)).setCell (p:=⟨g+1,2,FI⟩) f (.slice an D.ns.length cn)).setCell (p:=⟨g+1,3,FI⟩) f (.slice va D.ks.length H);have SE:dQ (λk=>k=0) wr m ((((wr.setCell ⟨g+1,0,FI⟩ (.slice T D.ws.length cb)).setCell ⟨g+1,1,FI⟩ (.slice l D.cs.length h)).setCell ⟨g+1,2,FI⟩ (.slice an D.ns.length cn)).setCell ⟨g+1,3,FI⟩ (.slice va D.ks.length H)) m:=((((dQ.refl _ wr m).setCell ⟨g+1,0,FI⟩ _ b9.2).setCell ⟨g+1,1,FI⟩ _ b9.2).setCell ⟨g+1,2,FI⟩ _ b9.2).setCell ⟨g+1,3,FI⟩ _ b9.2;obtain⟨⟨m0,m1,m2,m3⟩,-⟩:=dW ZE;have aL:(emA cells e).ks=m8 D.ks:=by
        apply Iz;intro i;have bs:=r.kl;by_cases hi:i<D.ks.length
        ·have h1:=r.ks i (by omega);have hp:=aS i;unfold m8;rw[GQ,FR hi,FR (by omega)];simp only[Gn,FR hi,FR (show i<(emA cells e).ks.length by omega),Option.getD_some,Option.map_some] at h1 ⊢
         congr 1
         omega
        ·unfold m8;rw[Gr (by omega),Gr (by simp;omega)]
       obtain⟨oz,A⟩:∃oz:Nat->Nat,oz=λk=>if m k=8 then 2 else if m k=7 then 5 else if m k=2\/m k=5\/m k=6 then 9 else m k:=⟨_,rfl⟩;have bm:Hid (EmD ((((wr.setCell ⟨g+1,0,FI⟩ (.slice T D.ws.length cb)).setCell ⟨g+1,1,FI⟩ (.slice l D.cs.length h)).setCell ⟨g+1,2,FI⟩ (.slice an D.ns.length cn)).setCell ⟨g+1,3,FI⟩ (.slice va D.ks.length H)) oz (emA cells e) (.slice T D.ws.length cb) (.slice l D.cs.length h) (.slice an D.ns.length cn) (.slice va D.ks.length H)):=by
        refine⟨?_,?_,?_,?_⟩
        ·rw[<-r.ws];exact(R2.step SE (by decide)).labq (λk c=>by rw[A];simp only;rw[if_pos c])
        ·rw[<-r.cs];exact((Q2.step d (by decide)).step SE (by decide)).labq (λk c=>by rw[A];simp only;rw[if_neg (by omega),if_neg (by omega),if_neg (by omega)];exact c)
        ·rw[<-r.ns];exact((Q3.step d (by decide)).step SE (by decide)).labq (λk c=>by rw[A];simp only;rw[if_neg (by omega),if_neg (by omega),if_neg (by omega)];exact c)
        ·rw[aL,show (m8 D.ks).length=D.ks.length by simp[m8]];exact((R.step S2 (by decide)).step SE (by decide)).labq (λk c=>by rw[A];simp only;rw[if_neg (by omega),if_pos c])
       have bk:Hid (∀ k,k<w.heap.size->oz k=0):=λk c=>by
        have hz:m k=0:=by rw[d.lab k (by have:=B6.size;have:=N.out;omega)];exact av k c
        rw[A];simp only;rw[if_neg (by omega),if_neg (by omega),if_neg (by omega)];exact hz
       have O:=FU BE;have HQ:=FU hq;clear ZE BE SE BR b9 aE Q0 Q1 Q2 Q3 Q4 R R2 S S2 d G2 KW aL A hq r aS av B6 B;go_wp2;exact FP (v:=.tuple #[.agg #[.slice T D.ws.length cb,.slice l D.cs.length h,.slice an D.ns.length cn,.slice va D.ks.length H],.int .i64 0]) (by simp[results,Tryz.results14,go_sem,m0,m1,m2,m3]) rfl ⟨by rw[<-N.out];exact O.out,.inr (.inr ⟨HK.out,HQ.out.1,HQ.out.2,_,_,_,_,oz,rfl,bk.out,bm.out⟩)⟩
  ·rw[hR.2 hq] at al;have HQ:Hid (32768<(emA cells e).ws.length\/1024<(emA cells e).dp):=by show _\/_;unfold okQ at hq;omega
   have ZE:=oO (.slice FI 0 0) (.slice FI 0 0) (.slice FI 0 0) (.slice FI 0 0) L.1;have BE:=(((B5.setCell (p:=⟨g+1,0,FI⟩) f (.slice FI 0 0)).setCell (p:=⟨g+1,1,FI⟩) f (.slice FI 0 0)).setCell (p:=⟨g+1,2,FI⟩) f (.slice FI 0 0)).setCell (p:=⟨g+1,3,FI⟩) f (.slice FI 0 0);obtain⟨⟨m0,m1,m2,m3⟩,-⟩:=dW ZE;have O:=FU BE;clear ZE BE B5 L E5 hR aM zA hq s ax;go_wp2;exact FP (v:=.tuple #[.agg iD,.int .i64 190]) (by simp[results,Tryz.results14,go_sem,m0,m1,m2,m3]) rfl ⟨by rw[<-N.out];exact O.out,.inr (.inl ⟨HK.out,HQ.out,rfl⟩)⟩
abbrev lh (w:FN)(f:Fs)(b cap:Nat):Prop:=Spn w (λ_=>True) f b cap
theorem lh.below {w w':FN}{f:Fs}{b cap:Nat}(h:lh w f b cap)(bb:FT w.heap.size w w'):lh w' f b cap:=h.mono (λi _ a=>bb.block i a) bb.size (λ_ h _=>h)
theorem Spn.last {w:FN}{P:Nat->Prop}{f:Fs}{b cap:Nat}(h:Spn w P f b cap):f.len+1<=cap/\cap<=Gg/\w.cell? ⟨b,f.len*4,FI⟩=FJ (.int .i64 (-7)):=by
 obtain⟨d,e,a,h1,h2,g,c,i⟩:=h;exact⟨h1,h2,c⟩
theorem Spn.lt {w:FN}{P:Nat->Prop}{f:Fs}{b cap:Nat}(h:Spn w P f b cap):b<w.heap.size:=by
 obtain⟨c,d,a,_⟩:=h;exact a
theorem LFn.split {w:FN}{P:Nat->Prop}:∀ {x y:Fs}{c:List FS},LFn w P (x.app y) c->∃e d,c=e++d/\LFn w P x e/\LFn w P y d
 | ⟨FI⟩,y,c,h=>⟨[],c,rfl,rfl,h⟩
 | ⟨FJ ⟨k,n,nm,a,ks,r⟩⟩,y,c,h=>by
  obtain⟨b,cap,f,j,rfl,h1,h2⟩:=h;obtain⟨e,d,rfl,i,g⟩:=LFn.split (x:=r) h2;exact⟨_,d,rfl,⟨b,cap,f,e,rfl,h1,i⟩,g⟩
theorem Spn.kid {w:FN}{P:Nat->Prop}{x r:Fs}{k n:Int}{nm:List UInt8}{a:Int}{ks:Fs}{b cap:Nat}(h:Spn w P (x.app (.cons k n nm a ks r)) b cap) :
  ∃d ck,w.cell? ⟨b,x.len*4,FI⟩=FJ (.int .i64 k)/\w.cell? ⟨b,x.len*4+1,FI⟩=FJ (.int .i64 n)/\w.cell? ⟨b,x.len*4+2,FI⟩=FJ (stv nm)/\w.cell? ⟨b,x.len*4+3,FI⟩=FJ (.slice (FJ ⟨d,0,FI⟩) ks.len ck)/\Spn w P ks d ck:=by
 obtain⟨v,y,i,h1,h2,m,z,q⟩:=h;obtain⟨t,s,rfl,p,h5⟩:=LFn.split q;have l:=p.len;obtain⟨d,ck,f,e,rfl,o,-⟩:=h5;have c:∀ j u,(.int .i64 k::.int .i64 n::stv nm::.slice (FJ ⟨d,0,FI⟩) ks.len ck::e:List FS)[j]?=FJ u->w.cell? ⟨b,x.len*4+j,FI⟩=FJ u:=λj u g=>by
  have:=m (x.len*4+j) u (by rw[GS (by omega),l,IF];exact g)
  rw[GK] at this;exact this
 exact⟨d,ck,c 0 _ rfl,c 1 _ rfl,c 2 _ rfl,c 3 _ rfl,f,o⟩
def qd (N:Nat):Prop:=∀ (e:Ex) (b0 cap:Nat) (b:Option Gi) (a:Nat) (w:FN),e.kids.size<N->e.kids.len<=1000000000->e.kids.short->lh w e.kids b0 cap->SnA w e.kids b ->
 F5 FM 43 #[exN e (FJ ⟨b0,0,FI⟩) cap,exN e b a] w λx w'=>x=.returned (.bool true)/\FT w.heap.size w w'
theorem sY {N:Nat}(IH:qd N):qd (N+1):=by
 intro e b0 cap f b w hN ai ac S L;have n:FT w.heap.size w ((w.alloc (zNd e (FJ ⟨b0,0,FI⟩) cap)).alloc (zNd e f b)):=((FW _ w).alloc (FL _) _).alloc (by simp) _;have u:((w.alloc (zNd e (FJ ⟨b0,0,FI⟩) cap)).alloc (zNd e f b)).heap[w.heap.size]?=FJ (zNd e (FJ ⟨b0,0,FI⟩) cap):=(FY _ _ _ (by simp)).trans (FQ w _);have t:((w.alloc (zNd e (FJ ⟨b0,0,FI⟩) cap)).alloc (zNd e f b)).heap[w.heap.size+1]?=FJ (zNd e f b):=by
  have:=FQ (w.alloc (zNd e (FJ ⟨b0,0,FI⟩) cap)) (zNd e f b)
  simpa using this
 have E:=lh.below S n;have K:=SnA.below L n;rw[dS,dS];go_enter Tryz.func43,Tryz.ntmps43;go_upto_region 1 with fail;generalize (w.alloc (zNd e (FJ ⟨b0,0,FI⟩) cap)).alloc (zNd e f b)=w0 at *;obtain⟨bx,s⟩:=exq w.heap.size;rw[<-s] at u t n ⊢;have HB:Hid (bx=w.heap.size):=s;clear s S L;obtain⟨p0,p1,p2,p3,pf⟩:=el u;obtain⟨q0,Z,q2,y,Y⟩:=el t;obtain⟨ah,A,h7⟩:=E.last;have B:(e.kids.len:Int)+1<=(cap:Int):=by omega
 have ag:cap<=9223372036854775807:=A;have aa:IntKind.i64.wrap ((e.kids.len:Int)+1)=(e.kids.len:Int)+1:=by rw[GU];omega
 have z:(e.kids.len:Int)<(e.kids.len:Int)+1:=by omega
 go_upto_region 3 with fail
 go_quiet (fail)
 have bq:FT w0.heap.size w0 (w0.drewN nq):=bdr (FW _ _) nq;have u:=(bq.block _ (FO u)).trans u;have t:=(bq.block _ (FO t)).trans t;have E:=E.below bq;have K:=SnA.below K bq;have n:=n.trans (bq.mono (by have:=HB.out;have:=n.size;omega));generalize w0.drewN nq=w0 at *;clear ah A h7 B ag aa z bq p0 p1 p2 p3 pf q0 Z q2 y Y;go_wp2_with fail;go_loopw [5] (λv wr=>∃(done r:Fs),Hid (e.kids=done.app r)/\v=.int .i64 (done.len:Nat)/\wr.heap[bx]?=FJ (zNd e (FJ ⟨b0,0,FI⟩) cap)/\wr.heap[bx+1]?=FJ (zNd e f b)/\lh wr e.kids b0 cap/\SnA wr e.kids f/\FT bx w wr) (λv _=>e.kids.len-(Gu v).toNat)
 case atStart=>exact⟨.nil,e.kids,rfl,by show _=F7 .i64 ((0:Nat):Int);rfl,u,t,E,K,n⟩
 case round =>
  clear u t E K n;obtain⟨done,r,q,rfl,E1,J,M,T1,O⟩:=hrel;have m:e.kids.len=done.len+r.len:=by rw[q.out,Fs.len_app]
  obtain⟨p0,p1,p2,p3,pf⟩:=el E1;obtain⟨q0,Z,q2,y,Y⟩:=el J;cases r using Fs.on with
  | nil =>
   have ae:¬(done.len:Int)<(e.kids.len:Int):=by simp only[Fs.len] at m;omega
   clear m;go_wp2;go_ret;exact⟨rfl,by rw[<-HB.out];exact O⟩
  | cons h kn g H c G =>
   have ae:(done.len:Int)<(e.kids.len:Int):=by simp only[Fs.len] at m;omega
   have ak:done.len<e.kids.len:=by omega
   have ab:e.kids.size=done.size+(c.size+G.size+1):=by rw[q.out,Fs.size_app];rfl
   have o:(Fs.cons h kn g H c G).short:=Fs.app_short (by rw[<-q.out];exact ac);obtain⟨D,ck,X,W,V,U,SK⟩:=Spn.kid (x:=done) (by rw[<-q.out];exact M);obtain⟨d,a,j,i,C,k,-,T,R,Q,P,TK⟩:=SlN.kidQ (by rw[<-q.out];exact T1);subst C;have l:b0<wr.heap.size:=M.lt;have I:=IH ⟨h,kn,g,H,c⟩ D ck j i wr.drew (by show c.size<N;omega) o.2.1 o.2.2.1 (lh.below SK (FW _ wr).drew) (SnA.below TK (FW _ wr).drew);rw[dS,dS] at I;simp only at I;clear m ab o SK TK;go_wp2;have k0:wr.cell? ⟨bx,3,FI⟩=FJ (.slice (FJ ⟨b0,0,FI⟩) e.kids.len cap)/\wr.cell? ⟨bx+1,3,FI⟩=FJ (.slice (FJ ⟨d,a,FI⟩) e.kids.len b)/\wr.cell? ⟨b0,done.len*4,FI⟩=FJ (.int .i64 h)/\wr.cell? ⟨b0,done.len*4+1,FI⟩=FJ (.int .i64 kn)/\wr.cell? ⟨b0,done.len*4+2,FI⟩=FJ (stv g)/\wr.cell? ⟨b0,done.len*4+3,FI⟩=FJ (.slice (FJ ⟨D,0,FI⟩) c.len ck)/\wr.cell? ⟨d,a+done.len*4,FI⟩=FJ (.int .i64 h)/\wr.cell? ⟨d,a+done.len*4+1,FI⟩=FJ (.int .i64 kn)/\wr.cell? ⟨d,a+done.len*4+2,FI⟩=FJ (stv g)/\wr.cell? ⟨d,a+done.len*4+3,FI⟩=FJ (.slice j c.len i):=⟨p3,y,X,W,V,U,T,R,Q,P⟩;have k1:wr.drew.cell? ⟨bx,3,FI⟩=FJ (.slice (FJ ⟨b0,0,FI⟩) e.kids.len cap)/\wr.drew.cell? ⟨bx+1,3,FI⟩=FJ (.slice (FJ ⟨d,a,FI⟩) e.kids.len b)/\wr.drew.cell? ⟨b0,done.len*4,FI⟩=FJ (.int .i64 h)/\wr.drew.cell? ⟨b0,done.len*4+1,FI⟩=FJ (.int .i64 kn)/\wr.drew.cell? ⟨b0,done.len*4+2,FI⟩=FJ (stv g)/\wr.drew.cell? ⟨b0,done.len*4+3,FI⟩=FJ (.slice (FJ ⟨D,0,FI⟩) c.len ck)/\wr.drew.cell? ⟨d,a+done.len*4,FI⟩=FJ (.int .i64 h)/\wr.drew.cell? ⟨d,a+done.len*4+1,FI⟩=FJ (.int .i64 kn)/\wr.drew.cell? ⟨d,a+done.len*4+2,FI⟩=FJ (stv g)/\wr.drew.cell? ⟨d,a+done.len*4+3,FI⟩=FJ (.slice j c.len i):=k0;have F:bx+1<wr.drew.heap.size:=FO J;go_region_held (λwx=>wx.cell? ⟨bx,3,FI⟩=FJ (.slice (FJ ⟨b0,0,FI⟩) e.kids.len cap)/\wx.cell? ⟨bx+1,3,FI⟩=FJ (.slice (FJ ⟨d,a,FI⟩) e.kids.len b)/\wx.cell? ⟨b0,done.len*4,FI⟩=FJ (.int .i64 h)/\wx.cell? ⟨b0,done.len*4+1,FI⟩=FJ (.int .i64 kn)/\wx.cell? ⟨b0,done.len*4+2,FI⟩=FJ (stv g)/\wx.cell? ⟨b0,done.len*4+3,FI⟩=FJ (.slice (FJ ⟨D,0,FI⟩) c.len ck)/\wx.cell? ⟨d,a+done.len*4,FI⟩=FJ (.int .i64 h)/\wx.cell? ⟨d,a+done.len*4+1,FI⟩=FJ (.int .i64 kn)/\wx.cell? ⟨d,a+done.len*4+2,FI⟩=FJ (stv g)/\wx.cell? ⟨d,a+done.len*4+3,FI⟩=FJ (.slice j c.len i)) (first|(with_reducible exact k2)|(with_reducible exact k1)|(with_reducible exact k0)) ((go_at_call 43;refine I.mono ?_;rintro x w2 ⟨rfl,b2⟩;have k2:w2.cell? ⟨bx,3,FI⟩=FJ (.slice (FJ ⟨b0,0,FI⟩) e.kids.len cap)/\w2.cell? ⟨bx+1,3,FI⟩=FJ (.slice (FJ ⟨d,a,FI⟩) e.kids.len b)/\w2.cell? ⟨b0,done.len*4,FI⟩=FJ (.int .i64 h)/\w2.cell? ⟨b0,done.len*4+1,FI⟩=FJ (.int .i64 kn)/\w2.cell? ⟨b0,done.len*4+2,FI⟩=FJ (stv g)/\w2.cell? ⟨b0,done.len*4+3,FI⟩=FJ (.slice (FJ ⟨D,0,FI⟩) c.len ck)/\w2.cell? ⟨d,a+done.len*4,FI⟩=FJ (.int .i64 h)/\w2.cell? ⟨d,a+done.len*4+1,FI⟩=FJ (.int .i64 kn)/\w2.cell? ⟨d,a+done.len*4+2,FI⟩=FJ (stv g)/\w2.cell? ⟨d,a+done.len*4+3,FI⟩=FJ (.slice j c.len i):=⟨(b2.cell (p:=⟨bx,3,FI⟩) (Jo F)).trans p3,(b2.cell (p:=⟨bx+1,3,FI⟩) F).trans y,(b2.cell (p:=⟨b0,done.len*4,FI⟩) l).trans X,(b2.cell (p:=⟨b0,done.len*4+1,FI⟩) l).trans W,(b2.cell (p:=⟨b0,done.len*4+2,FI⟩) l).trans V,(b2.cell (p:=⟨b0,done.len*4+3,FI⟩) l).trans U,(b2.cell (p:=⟨d,a+done.len*4,FI⟩) k).trans T,(b2.cell (p:=⟨d,a+done.len*4+1,FI⟩) k).trans R,(b2.cell (p:=⟨d,a+done.len*4+2,FI⟩) k).trans Q,(b2.cell (p:=⟨d,a+done.len*4+3,FI⟩) k).trans P⟩));have B2:FT bx w w2:=(O.drew).trans (b2.mono (by have:=HB.out;have:=O.size;show bx<=wr.heap.size;omega));have E2:=(b2.block bx (Jo F)).trans E1;have Y2:=(b2.block (bx+1) F).trans J;have L:=lh.below (lh.below M (FW _ wr).drew) b2;have T2:=SnA.below (SnA.below T1 (FW _ wr).drew) b2;have af:Hid (e.kids=(done.snoc ⟨h,kn,g,H,c⟩).app G):=by show e.kids=_;rw[q.out];unfold Fs.snoc;rw[Fs.app_assoc];rfl
   have ad:(done.len:Int)+1=((done.snoc ⟨h,kn,g,H,c⟩).len:Nat):=by rw[Fs.len_snoc];rfl
   have aj:e.kids.len-(done.len+1)<e.kids.len-done.len:=by omega
   clear k0 k1 k2 p0 p1 p2 p3 pf q0 Z q2 y Y X W V U T R Q P I b2 E1 J M T1 O q;go_wp2;go_roundw
   case rel=>exact⟨_,G,af,by rw[<-ad],E2,Y2,L,T2,B2⟩
   case measure=>simp[Gu];omega
theorem sF:∀ N,qd N -- 43
 | 0=>λe b0 cap b a w h=>absurd h (GE _)
 | N+1=>sY (sF N)
def LnI (w:FN)(P:Nat->Prop)(v:FS)(cells:List Int):Prop :=
 ∃g c,v=.slice (FJ ⟨g,0,FI⟩) cells.length c/\P g/\g<w.heap.size/\cells.length+1<=c/\c<=Gg/\(∀ j x,cells[j]?=FJ x->w.cell? ⟨g,j,FI⟩=FJ (.int .i64 x))/\w.cell? ⟨g,cells.length,FI⟩=FJ (.int .i64 (-7))
theorem LnI.mono {w w':FN}{P Q:Nat->Prop}{v:FS}{xs:List Int}(e:∀ k,P k->k<w.heap.size->w'.heap[k]?=w.heap[k]?)(i:w.heap.size<=w'.heap.size)(l:∀ k,P k->k<w.heap.size->Q k)(h:LnI w P v xs):LnI w' Q v xs:=by
 obtain⟨g,c,rfl,d,b,h1,h2,n,m⟩:=h;exact⟨g,c,rfl,l g d b,FV b i,h1,h2,λj u f=>(F6 (a:=⟨g,j,FI⟩) (e g d b)).trans (n j u f),(F6 (a:=⟨g,xs.length,FI⟩) (e g d b)).trans m⟩
theorem LnI.below {P:Nat->Prop}{w w':FN}{v:FS}{xs:List Int}(h:LnI w P v xs)(b:FT w.heap.size w w'):LnI w' P v xs:=h.mono (λi _ a=>b.block i a) b.size (λ_ h _=>h)
theorem LnI.inA {w:FN}{P:Nat->Prop}{v:FS}{xs:List Int}(h:LnI w P v xs):InA w v xs:=by
 obtain⟨g,c,rfl,e,a,h1,h2,d,f⟩:=h;exact⟨_,c,rfl,.inr ⟨g,0,rfl,trivial,a,λj x b=>by rw[GK];exact d j x b⟩⟩
theorem InA.news {w:FN}{ao:Option Gi}{cap:Nat}{xs:List Int}(h:xs=[]\/∃b off,ao=FJ ⟨b,off,FI⟩/\True/\b<w.heap.size/\∀ j x,xs[j]?=FJ x->w.cell? ⟨b,off+j,FI⟩=FJ (.int .i64 x)):0<xs.length->∃f,ao=FJ f/\∀ j u,(xs.map (F7 .i64))[j]?=FJ u->w.cell? (f.add j)=FJ u:=by
 intro e;rcases h with h|⟨b,off,rfl,-,g,c⟩
 ·rw[h] at e;simp at e
 ·refine⟨_,rfl,λj u a=>?_⟩;rw[GQ] at a;cases d:xs[j]? with
  | none=>rw[d] at a;cases a
  | some t =>
   rw[d] at a;injection a with a
   subst a;have i:((⟨b,off,FI⟩:Gi).add j)=⟨b,off+j,FI⟩:=by simp only[Ip];split<;>simp_all
   rw[i];exact c j t d
theorem zq (xs:List Int):∀ u ∈ xs.map (F7 .i64),u.oneCell'=true:=λu a=>by
 obtain⟨x,_,rfl⟩:=List.mem_map.1 a;rfl
theorem tv {w w':FN}{x:FS}{t:Gy}(b:FT (w.alloc (.cells #[x] t)).drew.heap.size (w.alloc (.cells #[x] t)).drew w'):∀ j u,[x][j]?=FJ u->w'.cell? ((⟨w.heap.size,0,FI⟩:Gi).add j)=FJ u:=λj u a=>by
 have h1:=fY w [x] t j u a;have c:((⟨w.heap.size,0,FI⟩:Gi).add j)=⟨w.heap.size,j,FI⟩:=by simp only[Ip];split<;>simp_all
 rw[c] at h1 ⊢;exact(b.cell (p:=⟨w.heap.size,j,FI⟩) (by show w.heap.size<(w.alloc _).heap.size;simp)).trans h1
theorem ya {n h c5:Nat}{w w1 W b:FN}{d j:Nat->Nat}{f:Fs}(i:FT n w w1)(m:n<=w.heap.size)(q:∀ k,k<n->d k=0)(g:FT w1.heap.size w1 W)(p:Spn W (Nw w1.heap.size) f h c5)(c:dQ (λk=>k=5) W (dR w1 d 0) b j) :
  FT n w b/\Spn b (Nw w1.heap.size) f h c5/\∀ k,k<w1.heap.size->d k≠5->b.heap[k]?=w1.heap[k]?:=by
 have h1:=i.size;refine⟨en (i.trans (g.mono (by omega))) c (λk a=>by rw[ed (by omega),q k a];decide) m,p.mono (λk e o=>c.block k o (by rw[dY e];decide)) c.size (λk e _=>e),λk a l=>(c.block k (FV a g.size) (by rw[ed a];exact l)).trans (g.block k a)⟩
theorem yr {P:Nat->Prop}{w:FN}{o:Nat->Nat}{g c:Nat}{cells:List Int}(r:Row w o 5 3 1 (.slice (FJ ⟨g,0,FI⟩) (cells.length+1) c) (cells.length+1) (cells.map (F7 .i64)++[.int .i64 (-7)]))(l:P g):LnI w P (.slice (FJ ⟨g,0,FI⟩) cells.length c) cells/\cells.length<=c:=by
 obtain⟨n,k,f,m,e,d,a,i,_⟩:=r.pos (by omega);simp only[G9,Hw,Addr.mk.injEq,true_and,and_true] at f;obtain⟨rfl,rfl⟩:=f;refine⟨⟨g,c,rfl,l,a,e,d,λj x h=>?_,?_⟩,by omega⟩
 ·have b:j<cells.length:=(List.getElem?_eq_some_iff.1 h).1;rw[i j (by omega),Hc (by simpa using b),GQ,h];rfl
 ·rw[i cells.length (by omega),GS (by simp)];simp
theorem CV {z g c m:Nat}{w1 W d:FN}{e a:Nat->Nat}{xs:List FS}(f:e z=0)(b:z<w1.heap.size)(r:Row d a 5 3 1 (.slice (FJ ⟨g,0,FI⟩) m c) m xs)(s:dQ (λk=>k=5) W (dR w1 e 0) d a)(i:w1.heap.size<=W.heap.size):g≠z:=by
 intro h;have h1:=r.2 g rfl;rw[h,s.lab z (by omega),ed b,f] at h1;cases h1
theorem zY {n g c m:Nat}{w1 W b:FN}{d a:Nat->Nat}{xs:List FS}(L:∀ k,k<n->d k=0)(r:Row b a 5 3 1 (.slice (FJ ⟨g,0,FI⟩) m c) m xs)(s:dQ (λk=>k=5) W (dR w1 d 0) b a)(f:n<=W.heap.size)(e:n<=w1.heap.size):n<=g:=by
 rcases I2 g n with h|h
 ·have h1:a g=5:=r.2 g rfl;rw[s.lab g (by omega),ed (by omega),L g h] at h1;cases h1
 ·exact h
theorem xe {w:FN}{n0:Nat}{a0 a1 a2 a3 a4 c0 c1 c2 c3 c4:FS}(h:w.cell? ⟨n0,0,FI⟩=FJ c0/\w.cell? ⟨n0,1,FI⟩=FJ c1/\w.cell? ⟨n0,2,FI⟩=FJ c2/\w.cell? ⟨n0,3,FI⟩=FJ c3/\w.cell? ⟨n0,4,FI⟩=FJ c4):(((((w.setCell ⟨n0+1,0,FI⟩ a0).setCell ⟨n0+1,1,FI⟩ a1).setCell ⟨n0+1,2,FI⟩ a2).setCell ⟨n0+1,3,FI⟩ a3).setCell ⟨n0+1,4,FI⟩ a4).cell? ⟨n0,0,FI⟩=FJ c0/\(((((w.setCell ⟨n0+1,0,FI⟩ a0).setCell ⟨n0+1,1,FI⟩ a1).setCell ⟨n0+1,2,FI⟩ a2).setCell ⟨n0+1,3,FI⟩ a3).setCell ⟨n0+1,4,FI⟩ a4).cell? ⟨n0,1,FI⟩=FJ c1/\(((((w.setCell ⟨n0+1,0,FI⟩ a0).setCell ⟨n0+1,1,FI⟩ a1).setCell ⟨n0+1,2,FI⟩ a2).setCell ⟨n0+1,3,FI⟩ a3).setCell ⟨n0+1,4,FI⟩ a4).cell? ⟨n0,2,FI⟩=FJ c2/\(((((w.setCell ⟨n0+1,0,FI⟩ a0).setCell ⟨n0+1,1,FI⟩ a1).setCell ⟨n0+1,2,FI⟩ a2).setCell ⟨n0+1,3,FI⟩ a3).setCell ⟨n0+1,4,FI⟩ a4).cell? ⟨n0,3,FI⟩=FJ c3/\(((((w.setCell ⟨n0+1,0,FI⟩ a0).setCell ⟨n0+1,1,FI⟩ a1).setCell ⟨n0+1,2,FI⟩ a2).setCell ⟨n0+1,3,FI⟩ a3).setCell ⟨n0+1,4,FI⟩ a4).cell? ⟨n0,4,FI⟩=FJ c4:=by
 have b:=ia w (n0+1) n0 a0 a1 a2 a3 a4 (by omega);obtain⟨e,h1,h2,d,c⟩:=h;exact⟨(F6 (a:=⟨n0,0,FI⟩) b).trans e,(F6 (a:=⟨n0,1,FI⟩) b).trans h1,(F6 (a:=⟨n0,2,FI⟩) b).trans h2,(F6 (a:=⟨n0,3,FI⟩) b).trans d,(F6 (a:=⟨n0,4,FI⟩) b).trans c⟩
def zG (w:FN)(e:Ex)(cells:List Int)(x:Ho)(w':FN):Prop:=∃b a v,x=.returned (plV e (FJ ⟨b,0,FI⟩) a v)/\Spn w' (Nw w.heap.size) e.kids b a/\LnI w' (Nw w.heap.size) v cells/\FT w.heap.size w w'
theorem ui (e:Ex)(ao:Option Gi)(cap:Nat)(cv:FS)(cells:List Int)(w:FN)(Q:e.kids.len<=1000000000)(ae:e.kids.short)(hc:InA w cv cells)(aj:cells.length<=100000)(S:SnA w e.kids ao) :
  F5 FM 15 #[plV e ao cap cv] w (zG w e cells):=by
 obtain⟨ii,J,m,l,j⟩:=ek uK;obtain⟨ac,cc,rfl,Z⟩:=hc;obtain⟨w0,o⟩:=exq ((w.alloc (zPl e ao cap ac cells.length cc)).alloc (.cells #[.int .i64 0,.int .i64 0,.string ⟨#[]⟩,.slice FI 0 0,.slice FI 0 0] 37));have X:FT w.heap.size w w0:=by rw[o];exact((FW _ w).alloc (FL _) _).alloc (by simp) _
 have B:w0.heap[w.heap.size]?=FJ (zPl e ao cap ac cells.length cc):=by
  rw[o];exact(FY _ _ _ (by simp)).trans (FQ w _)
 have T:w0.heap[w.heap.size+1]?=FJ (.cells #[.int .i64 0,.int .i64 0,.string ⟨#[]⟩,.slice FI 0 0,.slice FI 0 0] 37 (0,0)):=by
  rw[o]
  have:=FQ (w.alloc (zPl e ao cap ac cells.length cc)) (.cells #[.int .i64 0,.int .i64 0,.string ⟨#[]⟩,.slice FI 0 0,.slice FI 0 0] 37)
  simpa using this
 have S0:=SnA.below S X;obtain⟨_,_,G,O⟩:=Inw.below (P:=λ_=>True) ⟨ac,cc,rfl,Z⟩ X;injection G with G ab aa
 subst G;subst aa;have r:=InA.news (cap:=cc) O;have b:=zq cells;clear Z O ab;rw[fk];go_enter Tryz.func15,Tryz.ntmps15;go_upto_region 1 with fail;rw[<-o];clear o;obtain⟨n0,H⟩:=exq w.heap.size;unfold zG;rw[<-H] at B T X ⊢;have W:Hid (n0=w.heap.size):=H;clear H;obtain⟨p0,p1,p2,p3,p4,pf⟩:=dT B;go_wp2_with (first|(at_builtin;refine i8 rfl (.tmp 4) (.tmp 6) 35 rfl 3 ii (.int .i64 0) 1 8 GH J m l j rfl (by decide) (λ_=>0) 5 _ 0 [] rfl (Row.nil _ _ _ _ _) ac cells.length cc (cells.map (F7 .i64)) rfl ?c1 r b ?c3 ?c4 ?_)|go_in)
 case c1=>simp
 case c3=>unfold Gg;omega
 case c4=>omega
 intro a1 c1 w1 F R1 N;try simp only[GK,Hg] at R1
 try simp only[GK,Hg]
 have b1:=N.below (λk hk=>by decide);have af:=b1.size;have P1:=(b1.block _ (FO B)).trans B;have Z1:=(b1.block _ (FO T)).trans T;have A:=FO Z1;have oP:F n0=0:=N.lab n0 (FO B);have Y:F (n0+1)=0:=N.lab (n0+1) (FO T);have B1:FT n0 w w1:=X.trans (b1.mono (by have:=FO B;omega));have V:Hid (∀ k,k<n0->F k=0):=λk hk=>N.lab k (by have:=FO B;omega);have S1:=SnA.below S0 b1;clear p0 p1 p2 p3 p4 pf B T X S0 N b1 r b S af;go_upto_region 3 with fail;obtain⟨p0,p1,p2,p3,p4,pf⟩:=dT P1;have Bd:FT w1.heap.size w1 w1.drew:=⟨rfl,rfl,rfl,FL _,λ_ _=>rfl⟩;have f:=Bd.alloc (FL _) (.cells #[.int .i64 (-7)] 3);have R:=λ(wx:FN) (Z:SnA wx e.kids ao)=>ss (e.kids.size+1) e ao cap wx (by omega) Q ae Z;simp only[dS] at R;have b:∀ u ∈ [F7 .i64 (-7)],u.oneCell'=true:=by intro u hu;simp at hu;subst hu;rfl
 have q1:cells.length+1<=Gg:=by unfold Gg;omega
 have q2:(cells.length+1)*8<=140737488355328:=by omega
 have ai:Hid (∀ k,k<n0->F k≠5):=λk hk=>by rw[V.out k hk];decide
 have a:n0<w1.heap.size:=FO P1;have k0:w1.cell? ⟨n0,0,FI⟩=FJ (.int .i64 e.k)/\w1.cell? ⟨n0,1,FI⟩=FJ (.int .i64 e.n)/\w1.cell? ⟨n0,2,FI⟩=FJ (stv e.nm)/\w1.cell? ⟨n0,3,FI⟩=FJ (.slice ao e.kids.len cap)/\w1.cell? ⟨n0,4,FI⟩=FJ (.slice ac cells.length cc):=⟨p0,p1,p2,p3,p4⟩;have k1:w1.drew.cell? ⟨n0,0,FI⟩=FJ (.int .i64 e.k)/\w1.drew.cell? ⟨n0,1,FI⟩=FJ (.int .i64 e.n)/\w1.drew.cell? ⟨n0,2,FI⟩=FJ (stv e.nm)/\w1.drew.cell? ⟨n0,3,FI⟩=FJ (.slice ao e.kids.len cap)/\w1.drew.cell? ⟨n0,4,FI⟩=FJ (.slice ac cells.length cc):=k0;have kA:(w1.alloc (.cells #[.int .i64 (-7)] 3)).drew.cell? ⟨n0,0,FI⟩=FJ (.int .i64 e.k)/\(w1.alloc (.cells #[.int .i64 (-7)] 3)).drew.cell? ⟨n0,1,FI⟩=FJ (.int .i64 e.n)/\(w1.alloc (.cells #[.int .i64 (-7)] 3)).drew.cell? ⟨n0,2,FI⟩=FJ (stv e.nm)/\(w1.alloc (.cells #[.int .i64 (-7)] 3)).drew.cell? ⟨n0,3,FI⟩=FJ (.slice ao e.kids.len cap)/\(w1.alloc (.cells #[.int .i64 (-7)] 3)).drew.cell? ⟨n0,4,FI⟩=FJ (.slice ac cells.length cc):=⟨(f.cell (p:=⟨n0,0,FI⟩) a).trans p0,(f.cell (p:=⟨n0,1,FI⟩) a).trans p1,(f.cell (p:=⟨n0,2,FI⟩) a).trans p2,(f.cell (p:=⟨n0,3,FI⟩) a).trans p3,(f.cell (p:=⟨n0,4,FI⟩) a).trans p4⟩;go_region_held3 (λwx=>wx.cell? ⟨n0,0,FI⟩=FJ (.int .i64 e.k)/\wx.cell? ⟨n0,1,FI⟩=FJ (.int .i64 e.n)/\wx.cell? ⟨n0,2,FI⟩=FJ (stv e.nm)/\wx.cell? ⟨n0,3,FI⟩=FJ (.slice ao e.kids.len cap)/\wx.cell? ⟨n0,4,FI⟩=FJ (.slice ac cells.length cc)) (first|(with_reducible exact k9)|(with_reducible exact xe k9)|(with_reducible exact k3)|(with_reducible exact k2)|(with_reducible exact kA)|(with_reducible exact k1)|(with_reducible exact k0)) ((first|(go_at_call 37;refine(R _ (S1.belowP (by first|exact Bd|exact f))).mono ?_;rintro x d ⟨M,c5,rfl,ah,B5⟩;have c:FT w1.heap.size w1 d:=(by first|exact Bd.trans (B5.mono (by simp))|exact f.trans (B5.mono (by simp)));have S5:Spn d (Nw w1.heap.size) e.kids M c5:=ah.mono (λ_ _ _=>rfl) (FL _) (λk q _=>GA (by simp) q);have k2:d.cell? ⟨n0,0,FI⟩=FJ (.int .i64 e.k)/\d.cell? ⟨n0,1,FI⟩=FJ (.int .i64 e.n)/\d.cell? ⟨n0,2,FI⟩=FJ (stv e.nm)/\d.cell? ⟨n0,3,FI⟩=FJ (.slice ao e.kids.len cap)/\d.cell? ⟨n0,4,FI⟩=FJ (.slice ac cells.length cc):=⟨(c.cell (p:=⟨n0,0,FI⟩) a).trans p0,(c.cell (p:=⟨n0,1,FI⟩) a).trans p1,(c.cell (p:=⟨n0,2,FI⟩) a).trans p2,(c.cell (p:=⟨n0,3,FI⟩) a).trans p3,(c.cell (p:=⟨n0,4,FI⟩) a).trans p4⟩;have t:=c.alloc c.size (.cells #[.int .i64 (-7)] 3);have k3:(d.alloc (.cells #[.int .i64 (-7)] 3)).cell? ⟨n0,0,FI⟩=FJ (.int .i64 e.k)/\(d.alloc (.cells #[.int .i64 (-7)] 3)).cell? ⟨n0,1,FI⟩=FJ (.int .i64 e.n)/\(d.alloc (.cells #[.int .i64 (-7)] 3)).cell? ⟨n0,2,FI⟩=FJ (stv e.nm)/\(d.alloc (.cells #[.int .i64 (-7)] 3)).cell? ⟨n0,3,FI⟩=FJ (.slice ao e.kids.len cap)/\(d.alloc (.cells #[.int .i64 (-7)] 3)).cell? ⟨n0,4,FI⟩=FJ (.slice ac cells.length cc):=⟨(t.cell (p:=⟨n0,0,FI⟩) a).trans p0,(t.cell (p:=⟨n0,1,FI⟩) a).trans p1,(t.cell (p:=⟨n0,2,FI⟩) a).trans p2,(t.cell (p:=⟨n0,3,FI⟩) a).trans p3,(t.cell (p:=⟨n0,4,FI⟩) a).trans p4⟩;rw[dS])|(refine fP rfl (.tmp 11) (.tmp 12) 35 rfl 3 ii (.int .i64 0) 1 8 GH J m l j rfl (by decide) (dR w1 F 0) 5 _ cells.length (cells.map (F7 .i64)) (by simp[Ji,G4]) ((R1.step (Below.toStepC (I:=λ_=>False) c) id).step (((dQ.refl (λ_=>False) d (dR w1 F 0))).alloc _) id) ⟨d.heap.size,0,FI⟩ 1 1 [.int .i64 (-7)] (by simp[Ji,G4]) rfl (tj (by simp) _ _) b (by decide) q1 q2 ?_;intro z c9 g o9 E D;have C:=ya B1 (by rw[W.out];exact FL _) V.out (c.alloc c.size (.cells #[.int .i64 (-7)] 3)) (S5.mono (λi _ hl=>FY d _ i hl) (by simp) (λ_ h _=>h)) D;have s:=(C.2.2 n0 a (by rw[oP];decide)).trans P1;have k9:g.cell? ⟨n0,0,FI⟩=FJ (.int .i64 e.k)/\g.cell? ⟨n0,1,FI⟩=FJ (.int .i64 e.n)/\g.cell? ⟨n0,2,FI⟩=FJ (stv e.nm)/\g.cell? ⟨n0,3,FI⟩=FJ (.slice ao e.kids.len cap)/\g.cell? ⟨n0,4,FI⟩=FJ (.slice ac cells.length cc):=⟨(dT s).1,(dT s).2.1,(dT s).2.2.1,(dT s).2.2.2.1,(dT s).2.2.2.2.1⟩;have L:n0<=z:=zY V.out E D (by have:=c.size;simp;omega) (by have:=a;omega);have K:z≠n0+1:=CV Y A E D (by have:=c.size;simp;omega);have U:=yr (P:=λk=>n0<=k/\k≠n0+1) E ⟨L,K⟩;have ag:=U.2;have Z9:=(C.2.2 (n0+1) A (by rw[Y];decide)).trans Z1;obtain⟨z0,z1,z2,z3,z4,zf⟩:=dT Z9)|(refine fP rfl (.tmp 11) (.tmp 12) 35 rfl 3 ii (.int .i64 0) 1 8 GH J m l j rfl (by decide) (dR w1 F 0) 5 _ cells.length (cells.map (F7 .i64)) (by simp[Ji,G4]) (R1.step (Below.toStepC (I:=λ_=>False) c) id) ⟨w1.heap.size,0,FI⟩ 1 1 [.int .i64 (-7)] (by simp[Ji,G4]) rfl (tv B5) b (by decide) q1 q2 ?_;intro z c9 g o9 E D;have C:=ya B1 (by rw[W.out];exact FL _) V.out c S5 D;have s:=(C.2.2 n0 a (by rw[oP];decide)).trans P1;have k9:g.cell? ⟨n0,0,FI⟩=FJ (.int .i64 e.k)/\g.cell? ⟨n0,1,FI⟩=FJ (.int .i64 e.n)/\g.cell? ⟨n0,2,FI⟩=FJ (stv e.nm)/\g.cell? ⟨n0,3,FI⟩=FJ (.slice ao e.kids.len cap)/\g.cell? ⟨n0,4,FI⟩=FJ (.slice ac cells.length cc):=⟨(dT s).1,(dT s).2.1,(dT s).2.2.1,(dT s).2.2.2.1,(dT s).2.2.2.2.1⟩;have L:n0<=z:=zY V.out E D (by have:=c.size;omega) (by have:=a;omega);have K:z≠n0+1:=CV Y A E D (by have:=c.size;omega);have U:=yr (P:=λk=>n0<=k/\k≠n0+1) E ⟨L,K⟩;have ag:=U.2;have Z9:=(C.2.2 (n0+1) A (by rw[Y];decide)).trans Z1;obtain⟨z0,z1,z2,z3,z4,zf⟩:=dT Z9)))
 all_goals (
  have HU:Hid (∃y,y=(((((g.setCell ⟨n0+1,0,FI⟩ (.int .i64 e.k)).setCell ⟨n0+1,1,FI⟩ (.int .i64 e.n)).setCell ⟨n0+1,2,FI⟩ (stv e.nm)).setCell ⟨n0+1,3,FI⟩ (.slice (FJ ⟨M,0,FI⟩) e.kids.len c5)).setCell ⟨n0+1,4,FI⟩ (.slice (FJ ⟨z,0,FI⟩) cells.length c9))/\y.cell? ⟨n0+1,0,FI⟩=FJ (.int .i64 e.k)/\y.cell? ⟨n0+1,1,FI⟩=FJ (.int .i64 e.n)/\y.cell? ⟨n0+1,2,FI⟩=FJ (stv e.nm)/\y.cell? ⟨n0+1,3,FI⟩=FJ (.slice (FJ ⟨M,0,FI⟩) e.kids.len c5)/\y.cell? ⟨n0+1,4,FI⟩=FJ (.slice (FJ ⟨z,0,FI⟩) cells.length c9)/\Spn y (Nw n0) e.kids M c5/\LnI y (Nw n0) (.slice (FJ ⟨z,0,FI⟩) cells.length c9) cells/\FT n0 w y):=by
   obtain⟨u0,u1,u2,u3,u4,-⟩:=dT (eS (.int .i64 e.k) (.int .i64 e.n) (stv e.nm) (.slice (FJ ⟨M,0,FI⟩) e.kids.len c5) (.slice (FJ ⟨z,0,FI⟩) cells.length c9) Z9);refine⟨_,rfl,u0,u1,u2,u3,u4,C.2.1.mono (λk q _=>ia g (n0+1) k _ _ _ _ _ (by have q:w1.heap.size<=k:=q;omega)) (by simp) (λk q _=>by have q:w1.heap.size<=k:=q;show n0<=k;omega),U.1.mono (λk q _=>ia g (n0+1) k _ _ _ _ _ q.2) (by simp) (λk q _=>q.1),?_⟩;exact((((C.1.setCell (p:=⟨n0+1,0,FI⟩) (GI _) _).setCell (p:=⟨n0+1,1,FI⟩) (GI _) _).setCell (p:=⟨n0+1,2,FI⟩) (GI _) _).setCell (p:=⟨n0+1,3,FI⟩) (GI _) _).setCell (p:=⟨n0+1,4,FI⟩) (GI _) _
  clear C U;go_wp2;obtain⟨y,ad,v0,v1,v2,v3,v4,SZ,LZ,BZ⟩:=HU.out;rw[<-ad];exact FP (v:=plV e (FJ ⟨M,0,FI⟩) c5 (.slice (FJ ⟨z,0,FI⟩) cells.length c9)) (by simp[results,Tryz.results15,go_sem,v0,v1,v2,v3,v4,plV]) rfl ⟨M,c5,_,rfl,by rw[<-W.out];exact SZ,by rw[<-W.out];exact LZ,by rw[<-W.out];exact BZ⟩)
theorem tM (e:Ex)(b0 cap:Nat)(I:FS)(b:Option Gi)(a:Nat)(m:FS)(cells:List Int)(w:FN)(q:e.kids.len<=1000000000)(G:e.kids.short)(H:cells.length<=1000000000)(S:lh w e.kids b0 cap)(N:SnA w e.kids b)(y:LnI w (λ_=>True) I cells)(h:InA w m cells) :
  F5 FM 18 #[plV e (FJ ⟨b0,0,FI⟩) cap I,plV e b a m] w λx w'=>x=.returned (.bool true)/\FT w.heap.size w w':=by
 obtain⟨g,c,r,s⟩:=y;have y:LnI w (λ_=>True) I cells:=⟨g,c,r,s⟩;subst r;obtain⟨j,i,k,p⟩:=h;have h:InA w m cells:=⟨j,i,k,p⟩;subst k;clear s p;obtain⟨w0,d⟩:=exq ((w.alloc (zPl e (FJ ⟨b0,0,FI⟩) cap (FJ ⟨g,0,FI⟩) cells.length c)).alloc (zPl e b a j cells.length i));have n:FT w.heap.size w w0:=by rw[d];exact((FW _ w).alloc (FL _) _).alloc (by simp) _
 have o:w0.heap[w.heap.size]?=FJ (zPl e (FJ ⟨b0,0,FI⟩) cap (FJ ⟨g,0,FI⟩) cells.length c):=by
  rw[d];exact(FY _ _ _ (by simp)).trans (FQ w _)
 have t:w0.heap[w.heap.size+1]?=FJ (zPl e b a j cells.length i):=by
  rw[d]
  have:=FQ (w.alloc (zPl e (FJ ⟨b0,0,FI⟩) cap (FJ ⟨g,0,FI⟩) cells.length c)) (zPl e b a j cells.length i)
  simpa using this
 have P:=lh.below S n;have M:=SnA.below N n;have L0:=y.below n;have R:=h.below n;have c1:=vQ w0 _ _ cells cells L0.inA R H;rw[decide_eq_true rfl] at c1;rw[fk,fk];go_enter Tryz.func18,Tryz.ntmps18;go_upto_region 1 with fail;rw[<-d];clear d;obtain⟨bx,l⟩:=exq w.heap.size;rw[<-l] at o t n ⊢;have HB:Hid (bx=w.heap.size):=l;clear l S N y h R;obtain⟨p0,p1,p2,p3,p4,v⟩:=dT o;obtain⟨D,C,q2,B,A,z⟩:=dT t;go_wp2_with fail;refine c1.mono ?_;rintro x w1 ⟨rfl,b1⟩;have u:=(b1.block _ (FO o)).trans o;have K:=(b1.block _ (FO t)).trans t;have O:=lh.below P b1;have L:=SnA.below M b1;have Q:=L0.below b1;have T:=n.trans (b1.mono (by have:=FO o;omega));clear c1 b1 o t P M L0 n p0 p1 p2 p3 p4 v D C q2 B A z;obtain⟨p0,p1,p2,p3,p4,v⟩:=dT u;obtain⟨D,C,q2,B,A,z⟩:=dT K;have c2:=sF (e.kids.size+1) e b0 cap b a w1 (by omega) q G O L;rw[dS,dS] at c2;go_wp2_with fail;refine c2.mono ?_;rintro x w2 ⟨rfl,b2⟩;have E2:=(b2.block _ (FO u)).trans u;have Z:=Q.below b2;have B2:=T.trans (b2.mono (by have:=FO u;omega));clear c2 b2 u K O L Q T p0 p1 p2 p3 p4 v D C q2 B A z;obtain⟨p0,p1,p2,p3,p4,v⟩:=dT E2;obtain⟨g',c',V,-,W,h1,h2,-,h7⟩:=Z;injection V with f F E
 injection f with f
 injection f with f
 subst f;subst E;have U:IntKind.i64.wrap ((cells.length:Int)+1)=(cells.length:Int)+1:=by rw[GU];omega
 clear F;go_upto_region 3 with fail
 go_quiet (fail)
 go_wp2;go_ret;exact⟨rfl,by rw[<-HB.out];exact bdr B2 nq⟩
structure CdQ where
 ws:List Int
 cs:List Int
 ns:List ByteArray
 ks:List Int
def oW (w:FN)(ao:Option Gi)(xs:List FS):Prop :=
 xs=[]\/∃b off,ao=FJ ⟨b,off,FI⟩/\b<w.heap.size/\∀ j x,xs[j]?=FJ x->w.cell? ⟨b,off+j,FI⟩=FJ x
theorem oW.below {w w':FN}{ao:Option Gi}{xs:List FS}(h:oW w ao xs)(B:FT w.heap.size w w'):oW w' ao xs:=by
 rcases h with h|⟨b,off,rfl,a,d⟩
 ·exact .inl h
 ·exact .inr ⟨b,off,rfl,FV a B.size,λj x c=>(B.cell (p:=⟨b,off+j,FI⟩) a).trans (d j x c)⟩
theorem oW.at {w:FN}{ao:Option Gi}{xs:List FS}(h:oW w ao xs){j:Nat}{x:FS}(c:xs[j]?=FJ x):∃b off,ao=FJ ⟨b,off,FI⟩/\b<w.heap.size/\w.cell? ⟨b,off+j,FI⟩=FJ x:=by
 rcases h with rfl|⟨b,off,rfl,a,d⟩
 ·simp at c
 ·exact⟨b,off,rfl,a,d j x c⟩
def rO (l:List Int):List FS:=l.map (.int .u64 ·)
def wV (l:List Int):List FS:=l.map (.int .i64 ·)
def rK (l:List ByteArray):List FS:=l.map (.string ·)
theorem uO {l:List Int}{k:Nat}(h:k<l.length):(rO l)[k]?=FJ (.int .u64 l[k]):=by
 simp[rO,FR h]
theorem me {l:List Int}{k:Nat}(h:k<l.length):(wV l)[k]?=FJ (.int .i64 l[k]):=by
 simp[wV,FR h]
theorem us {l:List ByteArray}{k:Nat}(h:k<l.length):(rK l)[k]?=FJ (.string l[k]):=by
 simp[rK,FR h]
structure PlQ where
 aw:Option Gi
 cw:Nat
 ac:Option Gi
 cc:Nat
 an:Option Gi
 cn:Nat
 ak:Option Gi
 ck:Nat
abbrev jY (p:PlQ)(c:CdQ):Array FS:=#[.slice p.aw c.ws.length p.cw,.slice p.ac c.cs.length p.cc,.slice p.an c.ns.length p.cn,.slice p.ak c.ks.length p.ck]
abbrev xc (p:PlQ)(c:CdQ):FS:=.agg (jY p c)
structure mL (w:FN)(p:PlQ)(c:CdQ):Prop where
 ws:oW w p.aw (rO c.ws)
 cs:oW w p.ac (wV c.cs)
 ns:oW w p.an (rK c.ns)
 ks:oW w p.ak (wV c.ks)
 lw:c.ws.length<=9223372036854775807
 lc:c.cs.length<=9223372036854775807
 ln:c.ns.length<=9223372036854775807
 lk:c.ks.length<=9223372036854775807
theorem mL.below {w w':FN}{p:PlQ}{c:CdQ}(h:mL w p c)(B:FT w.heap.size w w'):mL w' p c :=
 ⟨h.ws.below B,h.cs.below B,h.ns.below B,h.ks.below B,h.lw,h.lc,h.ln,h.lk⟩
theorem EK (w:FN)(a b c d:FS)(t:Gy):(w.alloc (.cells #[a,b,c,d] t)).heap[w.heap.size]?=FJ (.cells #[a,b,c,d] t (0,0)):=FQ _ _
theorem rq {w:FN}{g:Nat}{a b c d:FS}{t:Gy}(h:w.heap[g]?=FJ (.cells #[a,b,c,d] t (0,0))):w.cell? ⟨g,0,FI⟩=FJ a/\w.cell? ⟨g,1,FI⟩=FJ b/\w.cell? ⟨g,2,FI⟩=FJ c/\w.cell? ⟨g,3,FI⟩=FJ d:=by
 refine⟨?_,?_,?_,?_⟩<;>simp[IX,h]
abbrev rG (p:PlQ)(c:CdQ)(w:FN)(b:Nat):Prop:=w.cell? ⟨b,0,FI⟩=FJ (.slice p.aw c.ws.length p.cw)/\w.cell? ⟨b,1,FI⟩=FJ (.slice p.ac c.cs.length p.cc)/\w.cell? ⟨b,2,FI⟩=FJ (.slice p.an c.ns.length p.cn)/\w.cell? ⟨b,3,FI⟩=FJ (.slice p.ak c.ks.length p.ck)
theorem ly {p:PlQ}{c:CdQ}{w w':FN}{b:Nat}(h:rG p c w b)(a:b<w.heap.size)(B:FT w.heap.size w w'):rG p c w' b :=
 ⟨(B.cell (p:=⟨b,0,FI⟩) a).trans h.1,(B.cell (p:=⟨b,1,FI⟩) a).trans h.2.1,(B.cell (p:=⟨b,2,FI⟩) a).trans h.2.2.1,(B.cell (p:=⟨b,3,FI⟩) a).trans h.2.2.2⟩
theorem rd (p:PlQ)(c:CdQ)(w:FN):rG p c (w.alloc (.cells (jY p c) 42)) w.heap.size:=rq (EK _ _ _ _ _ _)
theorem dQ.newQ {I:Nat->Prop}{w w':FN}(o:Nat->Nat)(i:Nat)(B:FT w.heap.size w w'):dQ I w o w' (dR w o i):=⟨B.os,B.tape,B.output,B.size,λk a=>ed a,λk a _=>B.block k a⟩
theorem Row.lsvQ {w:FN}{o:Nat->Nat}{i:Nat}{e:Gy}{ao:Option Gi}{n cap:Nat}{xs:List FS}(h:Row w o i e 1 (.slice ao n cap) n xs):oW w ao xs:=by
 by_cases f:0<n
 ·obtain⟨g,c,d,-,-,-,a,m,-⟩:=h.pos f;simp only[G9,true_and] at d;refine .inr ⟨g,0,d.1,a,λj x b=>?_⟩;have k:=h.len;have l:j<n*1:=by have:=(List.getElem?_eq_some_iff.1 b).1;omega
  rw[GK,m j l];exact b
 ·have k:=h.len;exact .inl (Ii (by omega))
theorem kK {g:Nat}{w w':FN}(h:FT g w w')(n:Nat):FT g w (w'.drewN n):=by
 induction n with
 | zero=>exact h
 | succ n a=>exact a.drew
theorem wN (p q:PlQ)(c:CdQ)(w:FN)(H:mL w p c)(G:mL w q c) :
  F5 FM 17 #[xc p c,xc q c] w λe w'=>e=.returned (.bool true)/\FT w.heap.size w w':=by
 obtain⟨g,m⟩:=exq w.heap.size;obtain⟨w2,d⟩:=exq ((w.alloc (.cells (jY p c) 42)).alloc (.cells (jY q c) 42));have F:FT g w w2:=by rw[d,m];exact((FW _ w).alloc (FL _) _).alloc (by simp) _
 have z2:w2.heap.size=g+2:=by rw[d,m];simp
 have L:rG p c w2 g:=by
  rw[d,m];exact ly (rd p c w) (by simp) (b1 _ _)
 have J:rG q c w2 (g+1):=by
  have:=rd q c (w.alloc (.cells (jY p c) 42))
  rw[d,m];simpa using this
 have y:mL w2 p c:=H.below (by rw[<-m];exact F);have I:mL w2 q c:=G.below (by rw[<-m];exact F);have M:=FU m;have A:=y.lw;have z:=y.lc;have P:=y.ln;have O:=y.lk;clear H G m;have K:∀ {wr:FN},FT w2.heap.size w2 wr->rG p c wr g/\rG q c wr (g+1)/\mL wr p c/\mL wr q c:=λ{wr} B=>⟨ly L (by omega) B,ly J (by omega) B,y.below B,I.below B⟩;have N:FT w2.heap.size w2 w2:=FW _ _;obtain⟨a0,a1,a2,a3⟩:=L;obtain⟨e0,l,j,i⟩:=J;clear y I;go_enter Tryz.func17,Tryz.ntmps17;go_wp2_with fail;rw[<-d,<-M.out];clear d;go_wp2_with fail;go_loopw [5] (λv wr=>∃k:Nat,v=.int .i64 k/\k<=c.ws.length/\FT w2.heap.size w2 wr) (λv _=>c.ws.length-(Gu v).toNat)
 case atStart=>exact⟨0,by go_num,by omega,N⟩
 case round =>
  obtain⟨k,rfl,E,x⟩:=hrel;clear a0 a1 a2 a3 e0 l j i;obtain⟨⟨a0,a1,a2,a3⟩,⟨e0,l,j,i⟩,h,f⟩:=K x;by_cases a:k<c.ws.length
  ·have b:(k:Int)<(c.ws.length:Int):=by omega
   obtain⟨b1,D,h1,A,o⟩:=h.ws.at (uO a);obtain⟨b2,C,h2,z,n⟩:=f.ws.at (uO a);generalize c.ws[k]=u at o n;rw[h1] at a0;rw[h2] at e0;go_wp2_with fail
   go_quiet (fail)
   go_wp2;go_roundw
   case rel=>(try ((repeat apply Gh);refine⟨?_,rfl⟩));exact⟨k+1,by go_num,by omega,kK x _⟩
   case measure=>simp[Gu];omega
  ·have b:¬(k:Int)<(c.ws.length:Int):=by omega
   clear h f;go_wp2_with fail;go_loopw [6] (λv wr=>∃k:Nat,v=.int .i64 k/\k<=c.cs.length/\FT w2.heap.size w2 wr) (λv _=>c.cs.length-(Gu v).toNat)
   case atStart=>exact⟨0,by go_num,by omega,x⟩
   case round =>
    obtain⟨k,rfl,E,t⟩:=hrel;clear a0 a1 a2 a3 e0 l j i;obtain⟨⟨a0,a1,a2,a3⟩,⟨e0,l,j,i⟩,h,f⟩:=K t;by_cases a:k<c.cs.length
    ·have b:(k:Int)<(c.cs.length:Int):=by omega
     obtain⟨b1,D,h1,A,o⟩:=h.cs.at (me a);obtain⟨b2,C,h2,z,n⟩:=f.cs.at (me a);generalize c.cs[k]=u at o n;rw[h1] at a1;rw[h2] at l;go_wp2_with fail
     go_quiet (fail)
     go_wp2;go_roundw
     case rel=>(try ((repeat apply Gh);refine⟨?_,rfl⟩));exact⟨k+1,by go_num,by omega,kK t _⟩
     case measure=>simp[Gu];omega
    ·have b:¬(k:Int)<(c.cs.length:Int):=by omega
     clear h f;go_wp2_with fail;go_loopw [7] (λv wr=>∃k:Nat,v=.int .i64 k/\k<=c.ns.length/\FT w2.heap.size w2 wr) (λv _=>c.ns.length-(Gu v).toNat)
     case atStart=>exact⟨0,by go_num,by omega,t⟩
     case round =>
      obtain⟨k,rfl,E,s⟩:=hrel;clear a0 a1 a2 a3 e0 l j i;obtain⟨⟨a0,a1,a2,a3⟩,⟨e0,l,j,i⟩,h,f⟩:=K s;by_cases a:k<c.ns.length
      ·have b:(k:Int)<(c.ns.length:Int):=by omega
       obtain⟨b1,D,h1,A,o⟩:=h.ns.at (us a);obtain⟨b2,C,h2,z,n⟩:=f.ns.at (us a);generalize c.ns[k]=u at o n;rw[h1] at a2;rw[h2] at j;go_wp2_with fail
       go_quiet (fail)
       go_wp2;go_roundw
       case rel=>(try ((repeat apply Gh);refine⟨?_,rfl⟩));exact⟨k+1,by go_num,by omega,kK s _⟩
       case measure=>simp[Gu];omega
      ·have b:¬(k:Int)<(c.ns.length:Int):=by omega
       clear h f;go_wp2_with fail;go_loopw [8] (λv wr=>∃k:Nat,v=.int .i64 k/\k<=c.ks.length/\FT w2.heap.size w2 wr) (λv _=>c.ks.length-(Gu v).toNat)
       case atStart=>exact⟨0,by go_num,by omega,s⟩
       case round =>
        obtain⟨k,rfl,E,r⟩:=hrel;clear a0 a1 a2 a3 e0 l j i;obtain⟨⟨a0,a1,a2,a3⟩,⟨e0,l,j,i⟩,h,f⟩:=K r;by_cases a:k<c.ks.length
        ·have b:(k:Int)<(c.ks.length:Int):=by omega
         obtain⟨b1,D,h1,A,o⟩:=h.ks.at (me a);obtain⟨b2,C,h2,z,n⟩:=f.ks.at (me a);generalize c.ks[k]=u at o n;rw[h1] at a3;rw[h2] at i;go_wp2_with fail
         go_quiet (fail)
         go_wp2;go_roundw
         case rel=>(try ((repeat apply Gh);refine⟨?_,rfl⟩));exact⟨k+1,by go_num,by omega,kK r _⟩
         case measure=>simp[Gu];omega
        ·have b:¬(k:Int)<(c.ks.length:Int):=by omega
         go_wp2;go_ret;exact⟨rfl,by rw[<-M.out];exact F.trans (r.mono (by omega))⟩
structure rl (w:FN)(o:Nat->Nat)(p:PlQ)(c:CdQ):Prop where
 ws:Row w o 3 54 1 (.slice p.aw c.ws.length p.cw) c.ws.length (rO c.ws)
 cs:Row w o 4 3 1 (.slice p.ac c.cs.length p.cc) c.cs.length (wV c.cs)
 ns:Row w o 5 9 1 (.slice p.an c.ns.length p.cn) c.ns.length (rK c.ns)
 ks:Row w o 6 3 1 (.slice p.ak c.ks.length p.ck) c.ks.length (wV c.ks)
 lw:c.ws.length<=32768
 lc:c.cs.length<=100000000
 ln:c.ns.length<=100000000
 lk:c.ks.length<=256
theorem rl.step {I:Nat->Prop}{w w':FN}{o o':Nat->Nat}{p:PlQ}{c:CdQ}(h:rl w o p c)(s:dQ I w o w' o')(d:¬I 3)(b:¬I 4)(h5:¬I 5)(a:¬I 6):rl w' o' p c :=
 ⟨h.ws.step s d,h.cs.step s b,h.ns.step s h5,h.ks.step s a,h.lw,h.lc,h.ln,h.lk⟩
abbrev nZ:Nat->Prop:=λk=>3<=k/\k<=6
theorem Row.put1Q {w:FN}{o:Nat->Nat}{i:Nat}{e:Gy}{ao:Option Gi}{n cap:Nat}{xs:List FS}(h:Row w o i e 1 (.slice ao n cap) n xs){j:Nat}(q:j<n) :
  ∃b x,ao=FJ ⟨b,0,FI⟩/\o b=i/\w.cell? ⟨b,j,FI⟩=FJ x/\w.frozen? ⟨b,j,FI⟩=false/\∀ u,Row (w.setCell ⟨b,j,FI⟩ u) o i e 1 (.slice ao n cap) n (xs.set j u):=by
 obtain⟨g,c,f,k,-,-,-,m,l⟩:=h.pos (by omega);simp only[G9,true_and] at f;obtain⟨rfl,rfl⟩:=f;have p:=h.len;have d:j<xs.length:=by omega
 exact⟨g,xs[j],rfl,k,by rw[m j (by omega)];exact FR d,l j,λu=>h.store j u⟩
structure jQ (w0:FN)(o0:Nat->Nat)(g:Nat)(p:PlQ)(c:CdQ)(w:FN)(o:Nat->Nat):Prop where
 bx:Blk w o 9 g (.cells (jY p c) 42)
 ws:∃xs,Row w o 3 54 1 (.slice p.aw c.ws.length p.cw) c.ws.length xs
 cs:∃xs,Row w o 4 3 1 (.slice p.ac c.cs.length p.cc) c.cs.length xs
 ns:∃xs,Row w o 5 9 1 (.slice p.an c.ns.length p.cn) c.ns.length xs
 ks:∃xs,Row w o 6 3 1 (.slice p.ak c.ks.length p.ck) c.ks.length xs
 sp:dQ nZ w0 o0 w o
theorem jQ.ws1 {w0 w:FN}{o0 o:Nat->Nat}{g:Nat}{p:PlQ}{c:CdQ}(h:jQ w0 o0 g p c w o){j:Nat}(l:j<c.ws.length):∃b x,p.aw=FJ ⟨b,0,FI⟩/\w.cell? ⟨b,j,FI⟩=FJ x/\w.frozen? ⟨b,j,FI⟩=false/\∀ u,jQ w0 o0 g p c (w.setCell ⟨b,j,FI⟩ u) o:=by
 obtain⟨xs,e⟩:=h.ws;obtain⟨b,x,q,n,m,e4,f⟩:=e.put1Q l;have S:∀ u,dQ (λk=>k=3) w o (w.setCell ⟨b,j,FI⟩ u) o:=λu=>(dQ.refl _ w o).setCell ⟨b,j,FI⟩ u n;exact⟨b,x,q,m,e4,λu=>⟨h.bx.step (S u) (by decide),⟨_,f u⟩,(by obtain⟨a,d⟩:=h.cs;exact⟨a,d.step (S u) (by decide)⟩),(by obtain⟨a,d⟩:=h.ns;exact⟨a,d.step (S u) (by decide)⟩),(by obtain⟨a,d⟩:=h.ks;exact⟨a,d.step (S u) (by decide)⟩),h.sp.trans ((S u).mono (λk i=>by subst i;decide))⟩⟩
theorem jQ.cs1 {w0 w:FN}{o0 o:Nat->Nat}{g:Nat}{p:PlQ}{c:CdQ}(h:jQ w0 o0 g p c w o){j:Nat}(l:j<c.cs.length):∃b x,p.ac=FJ ⟨b,0,FI⟩/\w.cell? ⟨b,j,FI⟩=FJ x/\w.frozen? ⟨b,j,FI⟩=false/\∀ u,jQ w0 o0 g p c (w.setCell ⟨b,j,FI⟩ u) o:=by
 obtain⟨xs,e⟩:=h.cs;obtain⟨b,x,q,n,m,e4,f⟩:=e.put1Q l;have S:∀ u,dQ (λk=>k=4) w o (w.setCell ⟨b,j,FI⟩ u) o:=λu=>(dQ.refl _ w o).setCell ⟨b,j,FI⟩ u n;exact⟨b,x,q,m,e4,λu=>⟨h.bx.step (S u) (by decide),(by obtain⟨a,d⟩:=h.ws;exact⟨a,d.step (S u) (by decide)⟩),⟨_,f u⟩,(by obtain⟨a,d⟩:=h.ns;exact⟨a,d.step (S u) (by decide)⟩),(by obtain⟨a,d⟩:=h.ks;exact⟨a,d.step (S u) (by decide)⟩),h.sp.trans ((S u).mono (λk i=>by subst i;decide))⟩⟩
theorem jQ.ns1 {w0 w:FN}{o0 o:Nat->Nat}{g:Nat}{p:PlQ}{c:CdQ}(h:jQ w0 o0 g p c w o){j:Nat}(l:j<c.ns.length):∃b x,p.an=FJ ⟨b,0,FI⟩/\w.cell? ⟨b,j,FI⟩=FJ x/\w.frozen? ⟨b,j,FI⟩=false/\∀ u,jQ w0 o0 g p c (w.setCell ⟨b,j,FI⟩ u) o:=by
 obtain⟨xs,e⟩:=h.ns;obtain⟨b,x,q,n,m,e4,f⟩:=e.put1Q l;have S:∀ u,dQ (λk=>k=5) w o (w.setCell ⟨b,j,FI⟩ u) o:=λu=>(dQ.refl _ w o).setCell ⟨b,j,FI⟩ u n;exact⟨b,x,q,m,e4,λu=>⟨h.bx.step (S u) (by decide),(by obtain⟨a,d⟩:=h.ws;exact⟨a,d.step (S u) (by decide)⟩),(by obtain⟨a,d⟩:=h.cs;exact⟨a,d.step (S u) (by decide)⟩),⟨_,f u⟩,(by obtain⟨a,d⟩:=h.ks;exact⟨a,d.step (S u) (by decide)⟩),h.sp.trans ((S u).mono (λk i=>by subst i;decide))⟩⟩
theorem jQ.ks1 {w0 w:FN}{o0 o:Nat->Nat}{g:Nat}{p:PlQ}{c:CdQ}(h:jQ w0 o0 g p c w o){j:Nat}(l:j<c.ks.length):∃b x,p.ak=FJ ⟨b,0,FI⟩/\w.cell? ⟨b,j,FI⟩=FJ x/\w.frozen? ⟨b,j,FI⟩=false/\∀ u,jQ w0 o0 g p c (w.setCell ⟨b,j,FI⟩ u) o:=by
 obtain⟨xs,e⟩:=h.ks;obtain⟨b,x,q,n,m,e4,f⟩:=e.put1Q l;have S:∀ u,dQ (λk=>k=6) w o (w.setCell ⟨b,j,FI⟩ u) o:=λu=>(dQ.refl _ w o).setCell ⟨b,j,FI⟩ u n;exact⟨b,x,q,m,e4,λu=>⟨h.bx.step (S u) (by decide),(by obtain⟨a,d⟩:=h.ws;exact⟨a,d.step (S u) (by decide)⟩),(by obtain⟨a,d⟩:=h.cs;exact⟨a,d.step (S u) (by decide)⟩),(by obtain⟨a,d⟩:=h.ns;exact⟨a,d.step (S u) (by decide)⟩),⟨_,f u⟩,h.sp.trans ((S u).mono (λk i=>by subst i;decide))⟩⟩
theorem CK (p:PlQ)(c:CdQ)(w:FN)(o:Nat->Nat)(h:rl w o p c) :
  F5 FM 19 #[xc p c] w λe w'=>e=.returned (.tuple #[])/\∃o',dQ nZ w o w' o':=by
 obtain⟨iw,iw1,iw2,iw3,iw4⟩:=ek tm;obtain⟨ii,ii1,ii2,ii3,ii4⟩:=ek qL;obtain⟨is,is1,is2,is3,is4⟩:=ek ta;obtain⟨g,hg⟩:∃g,g=w.heap.size:=⟨_,rfl⟩;obtain⟨w2,hw2⟩:∃w2,w2=w.alloc (.cells (jY p c) 42):=⟨_,rfl⟩;have SN:∀ {I:Nat->Prop},dQ I w o w2 (dR w o 9):=λ{I}=>dQ.newQ o 9 (by rw[hw2];exact b1 _ _);have G2:Blk w2 (dR w o 9) 9 g (.cells (jY p c) 42):=by rw[hw2,hg];exact⟨FQ _ _,dY (FL _)⟩
 have h2:=h.step (SN (I:=λ_=>False)) id id id id;have Z0:jQ w2 (dR w o 9) g p c w2 (dR w o 9):=⟨G2,⟨_,h2.ws⟩,⟨_,h2.cs⟩,⟨_,h2.ns⟩,⟨_,h2.ks⟩,dQ.refl _ _ _⟩;have SO:dQ nZ w o w2 (dR w o 9):=SN;have l1:=h.lw;have l2:=h.lc;have l3:=h.ln;have l4:=h.lk;generalize dR w o 9=o2 at *;have HG:=FU hg;have HSO:=FU SO;clear SN SO G2 h h2 hg;obtain⟨⟨a0,a1,a2,a3⟩,-⟩:=dW Z0.bx.1;go_enter Tryz.func19,Tryz.ntmps19;go_wp2_with fail;rw[<-hw2,<-HG.out];clear hw2;go_wp2_with fail;go_loopw [2] (λv wr=>∃k:Nat,v=.int .i64 (k:Nat)/\k<=c.ws.length/\jQ w2 o2 g p c wr o2) (λv _=>c.ws.length-(Gu v).toNat)
 case atStart=>exact⟨0,by go_num,by omega,Z0⟩
 case round =>
  obtain⟨k,rfl,hk,Z1⟩:=hrel;clear a0 a1 a2 a3;obtain⟨⟨a0,a1,a2,a3⟩,-⟩:=dW Z1.bx.1;by_cases hlt:k<c.ws.length
  ·have hkI:(k:Int)<(c.ws.length:Int):=by omega
   obtain⟨b,x,e1,e2,e3,HZ⟩:=Z1.ws1 hlt;have HZ2:=FU (HZ (.int .u64 9));rw[e1] at a0;clear HZ e1;go_wp2;go_roundw
   case rel=>(try ((repeat apply Gh);refine⟨?_,rfl⟩));exact⟨k+1,by go_num,by omega,HZ2.out⟩
   case measure=>simp[Gu];omega
  ·have hkI:¬(k:Int)<(c.ws.length:Int):=by omega
   clear hlt hk;go_wp2_with fail;go_loopw [3] (λv wr=>∃k:Nat,v=.int .i64 (k:Nat)/\k<=c.cs.length/\jQ w2 o2 g p c wr o2) (λv _=>c.cs.length-(Gu v).toNat)
   case atStart=>exact⟨0,by go_num,by omega,Z1⟩
   case round =>
    obtain⟨k,rfl,hk,Z2⟩:=hrel;clear a0 a1 a2 a3;obtain⟨⟨a0,a1,a2,a3⟩,-⟩:=dW Z2.bx.1;by_cases hlt:k<c.cs.length
    ·have hkI:(k:Int)<(c.cs.length:Int):=by omega
     obtain⟨b,x,e1,e2,e3,HZ⟩:=Z2.cs1 hlt;have HZ2:=FU (HZ (.int .i64 (-9)));rw[e1] at a1;clear HZ e1;go_wp2;go_roundw
     case rel=>(try ((repeat apply Gh);refine⟨?_,rfl⟩));exact⟨k+1,by go_num,by omega,HZ2.out⟩
     case measure=>simp[Gu];omega
    ·have hkI:¬(k:Int)<(c.cs.length:Int):=by omega
     clear hlt hk;go_wp2_with fail;go_loopw [4] (λv wr=>∃k:Nat,v=.int .i64 (k:Nat)/\k<=c.ns.length/\jQ w2 o2 g p c wr o2) (λv _=>c.ns.length-(Gu v).toNat)
     case atStart=>exact⟨0,by go_num,by omega,Z2⟩
     case round =>
      obtain⟨k,rfl,hk,Z3⟩:=hrel;clear a0 a1 a2 a3;obtain⟨⟨a0,a1,a2,a3⟩,-⟩:=dW Z3.bx.1;by_cases hlt:k<c.ns.length
      ·have hkI:(k:Int)<(c.ns.length:Int):=by omega
       obtain⟨b,x,e1,e2,e3,HZ⟩:=Z3.ns1 hlt;have HZ2:=FU (HZ (.string ⟨#[111,118,101,114]⟩));rw[e1] at a2;clear HZ e1;go_wp2;go_roundw
       case rel=>(try ((repeat apply Gh);refine⟨?_,rfl⟩));exact⟨k+1,by go_num,by omega,HZ2.out⟩
       case measure=>simp[Gu];omega
      ·have hkI:¬(k:Int)<(c.ns.length:Int):=by omega
       clear hlt hk;go_wp2_with fail;go_loopw [5] (λv wr=>∃k:Nat,v=.int .i64 (k:Nat)/\k<=c.ks.length/\jQ w2 o2 g p c wr o2) (λv _=>c.ks.length-(Gu v).toNat)
       case atStart=>exact⟨0,by go_num,by omega,Z3⟩
       case round =>
        obtain⟨k,rfl,hk,Z4⟩:=hrel;clear a0 a1 a2 a3;obtain⟨⟨a0,a1,a2,a3⟩,-⟩:=dW Z4.bx.1;by_cases hlt:k<c.ks.length
        ·have hkI:(k:Int)<(c.ks.length:Int):=by omega
         obtain⟨b,x,e1,e2,e3,HZ⟩:=Z4.ks1 hlt;have HZ2:=FU (HZ (.int .i64 (-9)));rw[e1] at a3;clear HZ e1;go_wp2;go_roundw
         case rel=>(try ((repeat apply Gh);refine⟨?_,rfl⟩));exact⟨k+1,by go_num,by omega,HZ2.out⟩
         case measure=>simp[Gu];omega
        ·have hkI:¬(k:Int)<(c.ks.length:Int):=by omega
         clear hlt hk;obtain⟨x1,P1⟩:=Z4.ws;obtain⟨x2,P2⟩:=Z4.cs;obtain⟨x3,P3⟩:=Z4.ns;obtain⟨x4,P4⟩:=Z4.ks;have SX:=Z4.sp;have BX:=Z4.bx;clear Z4;go_wp2_with (first|(at_builtin;refine eb rfl _ _ 39 rfl 54 iw (.int .u64 0) 1 8 Tryz.underlying39 iw1 iw2 iw3 iw4 rfl (by decide) o2 3 _ c.ws.length x1 (by first|rfl|(simp;done)) (P1.step (dQ.ofBelow (I:=λ_=>False) o2 (b1 _ _)) id) ⟨wr.heap.size,0,FI⟩ 1 1 [.int .u64 8] rfl rfl ?c1 ?d1 (by decide) ?e1 ?f1 ?_)|go_in);try case c1=>exact fC _ _ _
         try case d1=>first|rfl|exact jN _ rfl
         case e1=>unfold Gg;omega
         case f1=>omega
         intro g1 q1 w1a o1a P1 S1;have S1n:dQ (λk=>k=3) wr o2 w1a o1a:=(dQ.ofBelow o2 (b1 wr (.cells #[.int .u64 8] 54))).trans S1;have SX:=SX.trans (S1n.mono (J:=nZ) (λk hk=>by subst hk;decide));have BX:=BX.step S1n (by decide)
         replace P2:=P2.step S1n (by decide)
         replace P3:=P3.step S1n (by decide)
         replace P4:=P4.step S1n (by decide)
         clear S1 S1n a0 a1 a2 a3;obtain⟨⟨a0,a1,a2,a3⟩,-⟩:=dW BX.1;go_wp2_with (first|(at_builtin;refine eb rfl _ _ 35 rfl 3 ii (.int .i64 0) 1 8 GH ii1 ii2 ii3 ii4 rfl (by decide) o1a 4 _ c.cs.length x2 (by first|rfl|(simp;done)) (P2.step (dQ.ofBelow (I:=λ_=>False) o1a (b1 _ _)) id) ⟨w1a.heap.size,0,FI⟩ 1 1 [.int .i64 8] rfl rfl ?c2 ?d2 (by decide) ?e2 ?f2 ?_)|go_in);try case c2=>exact fC _ _ _
         try case d2=>first|rfl|exact jN _ rfl
         case e2=>unfold Gg;omega
         case f2=>omega
         intro g2 q2 w2a o2a P2 S2;have S2n:dQ (λk=>k=4) w1a o1a w2a o2a:=(dQ.ofBelow o1a (b1 w1a (.cells #[.int .i64 8] 3))).trans S2;have SX:=SX.trans (S2n.mono (J:=nZ) (λk hk=>by subst hk;decide));have BX:=BX.step S2n (by decide)
         replace P1:=P1.step S2n (by decide)
         replace P3:=P3.step S2n (by decide)
         replace P4:=P4.step S2n (by decide)
         clear S2 S2n a0 a1 a2 a3;obtain⟨⟨a0,a1,a2,a3⟩,-⟩:=dW BX.1;go_wp2_with (first|(at_builtin;refine eb rfl _ _ 40 rfl 9 is (.string ⟨#[]⟩) 1 16 Ij is1 is2 is3 is4 rfl (by decide) o2a 5 _ c.ns.length x3 (by first|rfl|(simp;done)) (P3.step (dQ.ofBelow (I:=λ_=>False) o2a (b1 _ _)) id) ⟨w2a.heap.size,0,FI⟩ 1 1 [.string ⟨#[109,111,114,101]⟩] rfl rfl ?c3 ?d3 (by decide) ?e3 ?f3 ?_)|go_in);try case c3=>exact fC _ _ _
         try case d3=>first|rfl|exact jN _ rfl
         case e3=>unfold Gg;omega
         case f3=>omega
         intro g3 q3 w3a o3a P3 S3;have S3n:dQ (λk=>k=5) w2a o2a w3a o3a:=(dQ.ofBelow o2a (b1 w2a (.cells #[.string ⟨#[109,111,114,101]⟩] 9))).trans S3;have SX:=SX.trans (S3n.mono (J:=nZ) (λk hk=>by subst hk;decide));have BX:=BX.step S3n (by decide)
         replace P1:=P1.step S3n (by decide)
         replace P2:=P2.step S3n (by decide)
         replace P4:=P4.step S3n (by decide)
         clear S3 S3n a0 a1 a2 a3;obtain⟨⟨a0,a1,a2,a3⟩,-⟩:=dW BX.1;go_wp2_with (first|(at_builtin;refine eb rfl _ _ 35 rfl 3 ii (.int .i64 0) 1 8 GH ii1 ii2 ii3 ii4 rfl (by decide) o3a 6 _ c.ks.length x4 (by first|rfl|(simp;done)) (P4.step (dQ.ofBelow (I:=λ_=>False) o3a (b1 _ _)) id) ⟨w3a.heap.size,0,FI⟩ 1 1 [.int .i64 8] rfl rfl ?c4 ?d4 (by decide) ?e4 ?f4 ?_)|go_in);try case c4=>exact fC _ _ _
         try case d4=>first|rfl|exact jN _ rfl
         case e4=>unfold Gg;omega
         case f4=>omega
         intro g4 q4 w4a o4a P4 S4;have S4n:dQ (λk=>k=6) w3a o3a w4a o4a:=(dQ.ofBelow o3a (b1 w3a (.cells #[.int .i64 8] 3))).trans S4;have SX:=SX.trans (S4n.mono (J:=nZ) (λk hk=>by subst hk;decide));have BX:=BX.step S4n (by decide)
         replace P1:=P1.step S4n (by decide)
         replace P2:=P2.step S4n (by decide)
         replace P3:=P3.step S4n (by decide)
         clear S4 S4n a0 a1 a2 a3;obtain⟨⟨a0,a1,a2,a3⟩,-⟩:=dW BX.1;obtain⟨b1,y1,r1,ob1,c1,f1,R1⟩:=P1.put1Q (j:=c.ws.length) (by omega);cases r1;have S1:dQ (λk=>k=3) w4a o4a (w4a.setCell ⟨g1,c.ws.length,FI⟩ (.int .u64 1)) o4a:=(dQ.refl _ _ _).setCell ⟨g1,c.ws.length,FI⟩ (.int .u64 1) ob1
         replace P2:=P2.step S1 (by decide)
         replace P3:=P3.step S1 (by decide)
         replace P4:=P4.step S1 (by decide)
         have SX:=SX.trans (S1.mono (J:=nZ) (λk hk=>by subst hk;decide));clear S1 R1;obtain⟨v1,hv1⟩:∃v1,v1=w4a.setCell ⟨g1,c.ws.length,FI⟩ (.int .u64 1):=⟨_,rfl⟩;have hI1:((c.ws.length:Int)+1)-1=(c.ws.length:Int):=by omega
         try rw[<-hv1] at SX
         try rw[<-hv1] at P2
         try rw[<-hv1] at P3
         try rw[<-hv1] at P4
         have HV1:=FU hv1;clear hv1;go_upto_region 22 with fail;rw[<-HV1.out];clear HV1;obtain⟨b2,y2,r2,ob2,c2,f2,R2⟩:=P2.put1Q (j:=c.cs.length) (by omega);cases r2;have S2:dQ (λk=>k=4) v1 o4a (v1.setCell ⟨g2,c.cs.length,FI⟩ (.int .i64 1)) o4a:=(dQ.refl _ _ _).setCell ⟨g2,c.cs.length,FI⟩ (.int .i64 1) ob2
         replace P3:=P3.step S2 (by decide)
         replace P4:=P4.step S2 (by decide)
         have SX:=SX.trans (S2.mono (J:=nZ) (λk hk=>by subst hk;decide));clear S2 R2;obtain⟨v2,hv2⟩:∃v2,v2=v1.setCell ⟨g2,c.cs.length,FI⟩ (.int .i64 1):=⟨_,rfl⟩;have hI2:((c.cs.length:Int)+1)-1=(c.cs.length:Int):=by omega
         try rw[<-hv2] at SX
         try rw[<-hv2] at P3
         try rw[<-hv2] at P4
         have HV2:=FU hv2;clear hv2;go_upto_region 23 with fail;rw[<-HV2.out];clear HV2;obtain⟨b3,y3,r3,ob3,c3,f3,R3⟩:=P3.put1Q (j:=c.ns.length) (by omega);cases r3;have S3:dQ (λk=>k=5) v2 o4a (v2.setCell ⟨g3,c.ns.length,FI⟩ (.string ⟨#[103,114,111,119,110]⟩)) o4a:=(dQ.refl _ _ _).setCell ⟨g3,c.ns.length,FI⟩ (.string ⟨#[103,114,111,119,110]⟩) ob3
         replace P4:=P4.step S3 (by decide)
         have SX:=SX.trans (S3.mono (J:=nZ) (λk hk=>by subst hk;decide));clear S3 R3;obtain⟨v3,hv3⟩:∃v3,v3=v2.setCell ⟨g3,c.ns.length,FI⟩ (.string ⟨#[103,114,111,119,110]⟩):=⟨_,rfl⟩;have hI3:((c.ns.length:Int)+1)-1=(c.ns.length:Int):=by omega
         try rw[<-hv3] at SX
         try rw[<-hv3] at P4
         have HV3:=FU hv3;clear hv3;go_upto_region 24 with fail;rw[<-HV3.out];clear HV3;obtain⟨b4,y4,r4,ob4,c4,f4,R4⟩:=P4.put1Q (j:=c.ks.length) (by omega);cases r4;have S4:dQ (λk=>k=6) v3 o4a (v3.setCell ⟨g4,c.ks.length,FI⟩ (.int .i64 1)) o4a:=(dQ.refl _ _ _).setCell ⟨g4,c.ks.length,FI⟩ (.int .i64 1) ob4;have SX:=SX.trans (S4.mono (J:=nZ) (λk hk=>by subst hk;decide));clear S4 R4;obtain⟨v4,hv4⟩:∃v4,v4=v3.setCell ⟨g4,c.ks.length,FI⟩ (.int .i64 1):=⟨_,rfl⟩;have hI4:((c.ks.length:Int)+1)-1=(c.ks.length:Int):=by omega
         try rw[<-hv4] at SX
         have HV4:=FU hv4;clear hv4;go_wp2
         go_end0
         exact⟨rfl,_,HSO.out.trans (by rw[<-HV4.out];exact SX)⟩
def Ydq (e:Ex)(cells:List Int):CdQ:=if e5 cells e≠0/\(emA cells e).ws.length<=32768/\(emA cells e).dp<=1024 then ⟨(emA cells e).ws.map wdI,(emA cells e).cs,(emA cells e).ns.map (λl=>⟨l.toArray⟩),(emA cells e).ks⟩ else ⟨[],[],[],[]⟩
def Rdq (e:Ex)(cells:List Int):Int:=if e5 cells e=0 then 140 else if (emA cells e).ws.length<=32768/\(emA cells e).dp<=1024 then 0 else 190
def OutQ (w:FN)(Y:CdQ)(R:Int)(z:Ho)(w':FN):Prop :=
 FT w.heap.size w w'/\∃p,z=.returned (.tuple #[xc p Y,.int .i64 R])/\mL w' p Y
def OutR (w:FN)(Y:CdQ)(R:Int)(z:Ho)(w':FN):Prop :=
 FT w.heap.size w w'/\∃p o',z=.returned (.tuple #[xc p Y,.int .i64 R])/\(∀ k,k<w.heap.size->o' k=0)/\rl w' o' p Y
def zk:PlQ:=⟨FI,0,FI,0,FI,0,FI,0⟩
theorem md (w:FN)(o:Nat->Nat):rl w o zk ⟨[],[],[],[]⟩:=⟨Row.nil _ _ _ _ _,Row.nil _ _ _ _ _,Row.nil _ _ _ _ _,Row.nil _ _ _ _ _,by decide,by decide,by decide,by decide⟩
theorem Row.lenq {w:FN}{o:Nat->Nat}{i:Nat}{e:Gy}{size:Nat}{v:FS}{n:Nat}{xs:List FS}(h:Row w o i e size v n xs):n<=9223372036854775807:=by
 by_cases a:0<n
 ·obtain⟨g,cap,-,-,h1,h2,-⟩:=h.pos a;unfold Gg at h2;omega
 ·omega
theorem EmD.outW {w:FN}{o:Nat->Nat}{s:Em}{vw vc vn vk:FS}(h:EmD w o s vw vc vn vk):∃p,(#[vw,vc,vn,vk]:Array FS)=jY p ⟨s.ws.map wdI,s.cs,s.ns.map (λl=>⟨l.toArray⟩),s.ks⟩/\mL w p ⟨s.ws.map wdI,s.cs,s.ns.map (λl=>⟨l.toArray⟩),s.ks⟩:=by
 obtain⟨h1,h2,b,a⟩:=h;obtain⟨aw,cw,rfl⟩:=h1.form;obtain⟨ac,cc,rfl⟩:=h2.form;obtain⟨an,cn,rfl⟩:=b.form;obtain⟨ak,ck,rfl⟩:=a.form;have d:rO (s.ws.map wdI)=wdW s.ws:=by simp[rO,wdW]
 have c:rK (s.ns.map (λl=>(⟨l.toArray⟩:ByteArray)))=esV s.ns:=by simp[rK,esV]
 refine⟨⟨aw,cw,ac,cc,an,cn,ak,ck⟩,by simp[jY],⟨?_,h2.lsvQ,?_,a.lsvQ,?_,h2.lenq,?_,a.lenq⟩⟩
 ·rw[d];exact h1.lsvQ
 ·rw[c];exact b.lsvQ
 ·simp;exact h1.lenq
 ·simp;exact b.lenq
theorem Cu.q {w w':FN}{e:Ex}{cells:List Int}{z:Ho}(h:Cu w e cells z w'):OutQ w (Ydq e cells) (Rdq e cells) z w':=by
 obtain⟨B,h⟩:=h;refine⟨B,?_⟩;unfold Ydq Rdq;rcases h with ⟨f,rfl⟩|⟨f,j,rfl⟩|⟨f,h1,h2,vw,vc,vn,vk,o',rfl,-,C⟩
 ·rw[if_neg (λh=>h.1 f),if_pos f];obtain⟨a,b,c,d,-,-,-,-⟩:=md w' (λ_=>0);exact⟨zk,rfl,⟨a.lsvQ,b.lsvQ,c.lsvQ,d.lsvQ,by decide,by decide,by decide,by decide⟩⟩
 ·rw[if_neg (λh=>by have:=h.2;omega),if_neg f,if_neg (by omega)];obtain⟨a,b,c,d,-,-,-,-⟩:=md w' (λ_=>0);exact⟨zk,rfl,⟨a.lsvQ,b.lsvQ,c.lsvQ,d.lsvQ,by decide,by decide,by decide,by decide⟩⟩
 ·rw[if_pos ⟨f,h1,h2⟩,if_neg f,if_pos ⟨h1,h2⟩];obtain⟨p,i,g⟩:=C.outW;exact⟨p,by rw[i],g⟩
theorem pA.q {w w':FN}{e:Ex}{cells:List Int}{z:Ho}(h:pA w e cells z w'):OutR w (Ydq e cells) (Rdq e cells) z w':=by
 obtain⟨B,h⟩:=h;refine⟨B,?_⟩;unfold Ydq Rdq;rcases h with ⟨d,rfl⟩|⟨d,r,rfl⟩|⟨d,h1,h2,u,vw,vc,vn,vk,o',rfl,r,C⟩
 ·rw[if_neg (λh=>h.1 d),if_pos d];exact⟨zk,λ_=>0,rfl,λ_ _=>rfl,md w' _⟩
 ·rw[if_neg (λh=>by have:=h.2;omega),if_neg d,if_neg (by omega)];exact⟨zk,λ_=>0,rfl,λ_ _=>rfl,md w' _⟩
 ·rw[if_pos ⟨d,h1,h2⟩,if_neg d,if_pos ⟨h1,h2⟩];have v:=(AI cells e).2;obtain⟨t,-,-⟩:=mB d;obtain⟨c1,-,-,p,o,n,m⟩:=C;generalize emA cells e=s at *;obtain⟨aw,cw,rfl⟩:=p.form;obtain⟨ac,cc,rfl⟩:=o.form;obtain⟨an,cn,rfl⟩:=n.form;obtain⟨ak,ck,rfl⟩:=m.form;have y:rO (s.ws.map wdI)=woV s.ws:=by rw[<-D3 c1];simp[rO,wdW]
  have x:rK (s.ns.map (λl=>(⟨l.toArray⟩:ByteArray)))=esV s.ns:=by simp[rK,esV]
  unfold Em.mes at u;obtain⟨g,f⟩:∃g:Nat->Nat,g=λk=>if 2<=o' k/\o' k<=5 then o' k+1 else if o' k=0 then 0 else 9:=⟨_,rfl⟩;have j:∀ k i,2<=i->i<=5->o' k=i->g k=i+1:=λk i a b c=>by rw[f];simp only;rw[if_pos (by omega)];omega
  refine⟨⟨aw,cw,ac,cc,an,cn,ak,ck⟩,g,by simp[xc,jY],λk d=>by rw[f];simp only;rw[r k d];rfl,⟨?_,?_,?_,?_,by simp;exact h1,by simp only;omega,by simp;omega,by simp only;omega⟩⟩
  ·rw[y];simpa using p.labq (λk d=>j k 2 (by omega) (by omega) d)
  ·exact o.labq (λk d=>j k 3 (by omega) (by omega) d)
  ·rw[x];simpa using n.labq (λk d=>j k 4 (by omega) (by omega) d)
  ·exact m.labq (λk d=>j k 5 (by omega) (by omega) d)
structure EpI (g:Nat)(w:FN)(nw no:Nat)(e:Ex)(ao:Option Gi)(cap:Nat)(ac:Option Gi)(cc:Nat)(cells:List Int)(p:PlQ)(Y:CdQ)(bo co go cgo:Nat)(wr:FN):Prop where
 P:wr.heap[g]?=FJ (zPl e ao cap ac cells.length cc)
 V:wr.heap[nw]?=FJ (.cells (jY p Y) 42)
 O:wr.heap[no]?=FJ (zPl e (FJ ⟨bo,0,FI⟩) co (FJ ⟨go,0,FI⟩) cells.length cgo)
 S:SnA wr e.kids ao
 I:InA wr (.slice ac cells.length cc) cells
 W:Wd wr
 T:kW wr
 C:mL wr p Y
 So:lh wr e.kids bo co
 Lo:LnI wr (λ_=>True) (.slice (FJ ⟨go,0,FI⟩) cells.length cgo) cells
 B:FT g w wr
theorem EpI.below {g nw no:Nat}{w:FN}{e:Ex}{ao:Option Gi}{cap:Nat}{ac:Option Gi}{cc:Nat}{cells:List Int}{p:PlQ}{Y:CdQ}{bo co go cgo:Nat}{wr w':FN}(h:EpI g w nw no e ao cap ac cc cells p Y bo co go cgo wr)(b:FT wr.heap.size wr w'):EpI g w nw no e ao cap ac cc cells p Y bo co go cgo w' :=
 ⟨(b.block _ (FO h.P)).trans h.P,(b.block _ (FO h.V)).trans h.V,(b.block _ (FO h.O)).trans h.O,SnA.below h.S b,h.I.below b,h.W.below b,h.T.below b,h.C.below b,lh.below h.So b,h.Lo.below b,h.B.trans (b.mono (GY (FO h.P)))⟩
theorem rl.w {w:FN}{o:Nat->Nat}{p:PlQ}{c:CdQ}(h:rl w o p c):mL w p c:=⟨h.ws.lsvQ,h.cs.lsvQ,h.ns.lsvQ,h.ks.lsvQ,h.ws.lenq,h.cs.lenq,h.ns.lenq,h.ks.lenq⟩
theorem An {w:FN}{b:Nat}{p:PlQ}{c:CdQ}(h:w.heap[b]?=FJ (.cells (jY p c) 42)):rG p c w b:=(dW h).1
theorem nW (e:Ex)(ao:Option Gi)(cap:Nat)(A:FS)(cells:List Int)(w:FN)(y:e.kids.len<=Gg)(ab:e.kids.wide)(z:e.kids.size<=100000000->fo e/\(-9223372036854775808<=e.n/\e.n<=9223372036854775807)/\e.kids.rng)(S:SnA w e.kids ao)(J:InA w A cells)(ag:cells.length<=Gg)(hW:Wd w)(hT:kW w) :
  F5 FM 4 #[plV e ao cap A] w λx w'=>x=.returned (.bool true)/\FT w.heap.size w w':=by
 obtain⟨ac,cc,af,hx⟩:=J;have J:InA w A cells:=⟨ac,cc,af,hx⟩;subst af;clear hx;obtain⟨g,hg⟩:=exq w.heap.size;obtain⟨w0,r⟩:=exq (w.alloc (zPl e ao cap ac cells.length cc));have b0:FT w.heap.size w w0:=by rw[r];exact b1 _ _
 have P0:w0.heap[g]?=FJ (zPl e ao cap ac cells.length cc):=by rw[r,hg];exact FQ _ _
 have L0:=FO P0;have B0:FT g w w0:=by rw[hg];exact b0
 have c1:=wZ e ao cap 0 _ cells w0 (J.below b0) ag y ab (SnA.below S b0);rw[fk] at c1 ⊢;have HG:=FU hg;clear hg;obtain⟨p0,p1,p2,p3,p4⟩:=fX P0;go_enter Tryz.func4,Tryz.ntmps4;go_upto_region 1 with fail;rw[<-r,<-HG.out];clear r;go_wp2_with fail;refine c1.mono ?_;rintro x w1 ⟨rfl,s⟩;have P1:=(s.block g L0).trans P0;have f:=b0.trans (s.mono b0.size);have B1:=B0.trans (s.mono (GY L0));have L1:=FO P1;clear c1 p0 p1 p2 p3 p4;cases hh:hvP e cells with
 | true =>
  clear hh;go_wp2;go_ret;exact⟨rfl,by rw[<-HG.out];exact B1⟩
 | false =>
 obtain⟨ap,aq⟩:=BT hh;obtain⟨Q,hn,hr⟩:=z (by omega);clear hh z ag y ab;have c2:=y7 w1 (hW.below f) (hT.below f);go_upto_region 4 with (first|(go_at_call 13;refine c2.mono ?_;rintro x w2 ⟨rfl,b2⟩))
 have P2:=(b2.block g L1).trans P1;have d:=f.trans (b2.mono f.size);have B2:=B1.trans (b2.mono (GY L1));have L2:=FO P2;have HP:Hid (∀ (ao:Option Gi) (cap:Nat) (A:FS) (w:FN),InA w A cells->SnA w e.kids ao->Wd w->kW w->F5 FM 16 #[plV e ao cap A] w (OutR w (Ydq e cells) (Rdq e cells))):=λao cap A w h1 h2 h3 h4=>(xV e ao cap A cells w Q hn hr h3 h4 h1 (by omega) h2).mono λx w' h=>pA.q h;have c3:=(Ck e ao cap _ cells w2 Q hn hr (J.below d) (by omega) (SnA.below S d)).mono λx w' h=>Cu.q h;rw[fk] at c3;generalize Ydq e cells=Y at *;generalize Rdq e cells=R at *;obtain⟨p0,p1,p2,p3,p4⟩:=fX P2;clear c2 P0 P1 b0 s f B0 B1 L0 L1 b2
 -- what the document wants
 go_wp2_with fail;refine c3.mono ?_;rintro x w3 ⟨b3,pw,rfl,X⟩;have P3:=(b3.block g L2).trans P2;have L:=d.trans (b3.mono d.size);have B3:=B2.trans (b3.mono (GY L2));have L3:=FO P3;obtain⟨nw,F⟩:=exq w3.heap.size;obtain⟨w4,o⟩:=exq (w3.alloc (.cells (jY pw Y) 42));have j:FT w3.heap.size w3 w4:=by rw[o];exact b1 _ _
 have V4:w4.heap[nw]?=FJ (.cells (jY pw Y) 42):=by rw[o,F];exact FQ _ _
 have P4:=(j.block g L3).trans P3;have a:=L.trans (j.mono L.size);have B4:=B3.trans (j.mono (GY L3));have L4:=FO P4;have C4:=X.below j;have al:=FU F;clear c3 P2 B2 L2 P3 B3 L3 b3 p0 p1 p2 p3 p4 F;go_upto_region 5 with fail;rw[<-o,<-al.out];clear o
 -- the plan,lent
 obtain⟨p0,p1,p2,p3,p4⟩:=fX P4;have c5:=ui e ao cap _ cells w4 Q.len Q.sh (J.below a) (by omega) (SnA.below S a);rw[fk] at c5;go_wp2_with fail;refine c5.mono ?_;rintro x E ⟨bo,co,vo,rfl,ah,t,D⟩;obtain⟨go,cgo,ad,aa⟩:=t;have t:LnI E (Nw w4.heap.size) vo cells:=⟨go,cgo,ad,aa⟩;subst ad;clear aa;obtain⟨no,H⟩:=exq E.heap.size;obtain⟨u,m⟩:=exq (E.alloc (zPl e (FJ ⟨bo,0,FI⟩) co (FJ ⟨go,0,FI⟩) cells.length cgo));have M:FT E.heap.size E u:=by rw[m];exact b1 _ _
 have O6:u.heap[no]?=FJ (zPl e (FJ ⟨bo,0,FI⟩) co (FJ ⟨go,0,FI⟩) cells.length cgo):=by rw[m,H];exact FQ _ _
 have b:=D.trans (M.mono D.size);have c:=a.trans (b.mono a.size);have E6:EpI g w nw no e ao cap ac cc cells pw Y bo co go cgo u:=⟨(b.block _ L4).trans P4,(b.block _ (FO V4)).trans V4,O6,SnA.below S c,J.below c,hW.below c,hT.below c,C4.below b,lh.below (ah.mono (λ_ _ _=>rfl) (FL _) (λ_ _ _=>trivial)) M,(t.mono (λ_ _ _=>rfl) (FL _) (λ_ _ _=>trivial)).below M,B4.trans (b.mono (GY L4))⟩;have an:=FU H;clear c5 H p0 p1 p2 p3 p4 P4 V4 B4 L4 C4 X ah t D M b c a L d j O6 hW hT J S;rw[fk];go_upto_region 6 with fail;rw[<-m,<-an.out];clear m;go_wp2;go_loopw [7] (λv wr=>∃(i:Nat),v=.int .i64 i/\i<=2/\EpI g w nw no e ao cap ac cc cells pw Y bo co go cgo wr) (λv _=>2-(Gu v).toNat)
 case atStart=>exact⟨0,by show _=F7 .i64 ((0:Nat):Int);rfl,by omega,E6⟩
 case round =>
  clear E6;obtain⟨i,rfl,hi,l⟩:=hrel;by_cases ar:i<2
  ·have ae:(i:Int)<2:=by omega
   obtain⟨q0,q1,q2,Z,q4⟩:=fX l.O;have c1:=HP.out (FJ ⟨bo,0,FI⟩) co _ wr l.Lo.inA (Spn.sl l.So) l.W l.T;rw[fk] at c1;go_wp2_with fail;refine c1.mono ?_;rintro x w2 ⟨b2,pq,o2,rfl,aj,C2⟩;obtain⟨nq,G⟩:=exq w2.heap.size;obtain⟨w3,p⟩:=exq (w2.alloc (.cells (jY pq Y) 42));have b3:FT w2.heap.size w2 w3:=by rw[p];exact b1 _ _
   have Q3:w3.heap[nq]?=FJ (.cells (jY pq Y) 42):=by rw[p,G];exact FQ _ _
   have bb:=b2.trans (b3.mono b2.size);have E3:=l.below bb;have X:=C2.step (dQ.ofBelow (I:=λ_=>False) o2 b3) id id id id;have am:=FU G;have ai:=FU l;clear c1 b2 b3 C2 q0 q1 q2 Z q4 G l;go_upto_region 10 with fail;rw[<-p,<-am.out];clear p
   -- the same?
   obtain⟨q0,q1,q2,Z⟩:=An Q3;obtain⟨v0,v1,v2,v3⟩:=An E3.V;have c4:=wN pq pw Y w3 X.w E3.C;go_wp2_with fail;refine c4.mono ?_;rintro x w4 ⟨rfl,j⟩;have N:=E3.below j;have a:=bb.trans (j.mono bb.size);have C4:=X.step (dQ.ofBelow (I:=λ_=>False) o2 j) id id id id;have Q4:=(j.block _ (FO Q3)).trans Q3;clear c4 j bb q0 q1 q2 Z v0 v1 v2 v3 E3 X Q3
   -- kept?
   obtain⟨p0,p1,p2,p3,p4⟩:=fX N.P;obtain⟨t0,t1,t2,t3,t4⟩:=fX N.O;have c5:=tM e bo co _ ao cap _ cells w4 Q.len Q.sh (by omega) N.So N.S N.Lo N.I;rw[fk,fk] at c5;go_wp2_with fail;refine c5.mono ?_;rintro x E ⟨rfl,D⟩;have K:=a.trans (D.mono a.size);have C5:=C4.step (dQ.ofBelow (I:=λ_=>False) o2 D) id id id id;have Q5:=(D.block _ (FO Q4)).trans Q4;clear c5 D a p0 p1 p2 p3 p4 t0 t1 t2 t3 t4 N C4 Q4;have ak:((R:Int) != (R:Int))=false:=by simp
   obtain⟨q0,q1,q2,Z⟩:=An Q5;have c6:=CK pq Y E o2 C5;go_wp2_with fail;refine c6.mono ?_;rintro x u ⟨rfl,o6,U⟩;have M:=K.trans ⟨U.os,U.tape,U.output,U.size,λk hk=>U.block k (by have:=K.size;omega) (by rw[aj k hk];decide)⟩;have E6:=ai.out.below M;clear c6 K C5 Q5 q0 q1 q2 Z U M ai ak;go_wp2;go_roundw
   case rel=>(try ((repeat apply Gh);refine⟨?_,rfl⟩));exact⟨i+1,by go_num,by omega,E6⟩
   case measure=>simp[Gu];omega
  ·have ae:¬(i:Int)<2:=by omega
   have HB:=FU l.B;clear l;go_wp2;go_ret;exact⟨rfl,by rw[<-HG.out];exact HB.out⟩
theorem ownK:ownKnob Tryz.prog.godebug=FI:=by kernel_rfl
theorem AX:laidOutB FM=true:=by kernel_rfl
theorem nX:Tryz.prog.cellsOf 3=1:=by kernel_rfl
theorem xS {a:Int}(h:(Lit.int .i64 a).wf=true):-9223372036854775808<=a/\a<=9223372036854775807:=by
 simpa [Lit.wf,IntKind.min,IntKind.max,IntKind.signed,IntKind.bits] using h
theorem gWd : Tryz.prog.globalNamed "isthmus/lex.words" = FJ 3 := by kernel_rfl
theorem CF:(Tryz.prog.globals[3]?).map (·.type)=FJ 229:=by kernel_rfl
theorem AN:Tryz.prog.cellsOf 229=27:=by kernel_rfl
theorem rX:Tryz.prog.cellsOf 9=1:=by kernel_rfl
def sN:List (IC Unit):=(List.range 27).map λj=>.lit (.string (wd j).data.toList)
theorem xB:(IV:IC Unit)=.agg sN:=by rfl
theorem rH:eH.toList=(List.range 27).map λj=>Value.string (wd j):=by rfl
theorem oF {W:FN}{d:Nat}{cs:List FS}{p:List Is}(h:DataW.trod (λ_=>()) FM W 0 (λ_=>true) false d 229 cs=FJ (.agg sN,p)):cs=eH.toList:=by
 obtain⟨xs,m,_,f,l,g,j⟩:=DataW.trod_array Tryz.underlying229 h;rw[AN] at l;simp only[rX,Nat.mul_one] at j;simp only[Ht,DataW.agg.injEq] at f;rw[rH];apply Iz;intro i;by_cases e:i<27
 ·have b:=j i e;have a:xs[i]?=FJ xs[i]:=FR (by omega);rw[a] at b;obtain⟨s,h1,h2⟩:=DataW.trod_string Hs b;have n:cs[i]?=FJ (.string s):=by
   have:=congrArg (·[0]?) h1
   simpa [List.getElem?_take,List.getElem?_drop] using this
  have c:(xs.map (·.1))[i]?=FJ (.lit (.string s.data.toList)):=by rw[GQ,a,h2.1];rfl
  rw[<-f.1] at c;unfold sN at c;rw[GQ,List.getElem?_range e] at c;simp only[Option.map_some,Hw,DataW.lit.injEq,Lit.string.injEq] at c;have k:=oe.1 c;rw[n,GQ,List.getElem?_range e,<-k];rfl
 ·rw[Gr (by omega),Gr (by simp;omega)]
theorem sW {W : FN} {r : List (String × IC Unit)} (h : laidMet FM (("isthmus/lex.words", IV) :: r) W) : Wd W := by
 rw[xB] at h;obtain⟨ps,⟨m,l,cs,g,p,q,e,d,a,j,_,_⟩,_⟩:=h;obtain rfl:=IR (gWd.symm.trans e);obtain rfl:=IR (CF.symm.trans d);have f:=oF j;have b:cs=eH:=Array.toList_inj.1 f;subst b;simp only[World.var?,gWd,Option.bind_some] at a;split at a
 ·rename_i c t k i
  cases a;exact⟨t,k,i⟩
 ·cases a
def oa (cs:Array FS):Obj->Obj
 | .cells _ t frozen=>.cells cs t frozen
 | o=>o
def lowB (P:II):Nat:=(World.holding P default ⟨#[],#[],[]⟩).heap.size
theorem jx {W:FN}{m:Nat}{l:List FS}{a b:Int}{p:List Is}
  (h:DataW.trod (λ_=>()) FM W 0 (λ_=>true) false m 222 l=FJ (.agg [.lit (.int .u64 a),.lit (.int .u64 b)],p)):l=[.int .u64 a,.int .u64 b]:=by
 obtain⟨o,k,n,c,d,i,h1⟩:=trod_struct2 Tryz.underlying222 h;simp only[Ht,DataW.agg.injEq,Jf,and_true] at c;obtain⟨⟨e0,e⟩,_⟩:=c;obtain⟨z0,c0,g,_⟩:=DataW.trod_int Tryz.underlying175 i;obtain⟨j,c1,f,_⟩:=DataW.trod_int Tryz.underlying54 h1;subst g f;simp only[DataW.lit.injEq,Lit.int.injEq,true_and] at e0 e;subst e0 e;rw[n9] at d;simp only[vK,sH] at c0 c1
 match l,d with
 | [v0,v1],_ =>
  simp at c0 c1;rw[c0,c1]
theorem qC {W : FN} {r : List (String × IC Unit)} (h : laidMet FM (("isthmus/pack.fields", IG) :: r) W) : Tab W := by
 obtain⟨ps,⟨C,B,cs,n,p,q,f,e,b,x,_,_⟩,_⟩:=h;obtain rfl:=IR (gTab.symm.trans f);obtain rfl:=IR (zU.symm.trans e);obtain⟨xs,m,_,g,j,c,d⟩:=DataW.trod_array Tryz.underlying223 x;rw[zh] at j;simp only[n9] at d
 match xs,c with
 | [v,u,t],_ =>
  have A:=d 0 (by omega);have z:=d 1 (by omega);have y:=d 2 (by omega);simp only[IG,List.map_cons,List.map_nil,Ht,DataW.agg.injEq,Jf,and_true] at g;obtain⟨⟨e0,s,o⟩,_⟩:=g;obtain⟨D,p0⟩:=v;obtain⟨d1,p1⟩:=u;obtain⟨d2,p2⟩:=t;simp only at e0 s o;subst e0 s o;have k:=jx A;have g1:=jx z;have g2:=jx y;obtain⟨l⟩:=cs
  match l,j with
  | [v0,v1,v2,v3,v4,v5],_ =>
   simp at k g1 g2;obtain⟨rfl,rfl⟩:=k;obtain⟨rfl,rfl⟩:=g1;obtain⟨rfl,rfl⟩:=g2;have a:=λi=>World.var?_cell gTab b i;have c0:=a 0;have c1:=a 1;have c2:=a 2;have c3:=a 3;have c4:=a 4;have c5:=a 5;simp at c0 c1 c2 c3 c4 c5;refine⟨c0,c1,c2,c3,c4,c5,?_⟩;by_cases w:2<W.heap.size
   ·exact w
   ·exfalso
    have:W.heap[2]?=FI:=Array.getElem?_eq_none (by omega)
    simp[IX,this] at c0
theorem gBar : Tryz.prog.globalNamed "isthmus/emit.bare" = FJ 0 := by kernel_rfl
theorem yp:(Tryz.prog.globals[0]?).map (·.type)=FJ 181:=by kernel_rfl
theorem Am:Tryz.prog.cellsOf 181=25:=by kernel_rfl
def Bs:List Int:=[0,0,0,0,0,0,4,5,6,7,8,9,10,0,0,0,0,0,0,0,0,0,20,0,22]
def barD:List (IC Unit):=(List.range 25).map λj=>.lit (.int .i64 (Bs.getD j 0))
theorem AY:(IW:IC Unit)=.agg barD:=by rfl
theorem mP {W : FN} {r : List (String × IC Unit)} (h : laidMet FM (("isthmus/emit.bare", IW) :: r) W) : (∀ k : Nat, k < 25 → W.cell? ⟨0, k, FI⟩ = FJ (.int .i64 (Bs.getD k 0))) ∧ 0 < W.heap.size := by
 rw[AY] at h;obtain⟨ps,⟨B,A,cs,v,p,q,l,j,d,a,_,_⟩,_⟩:=h;obtain rfl:=IR (gBar.symm.trans l);obtain rfl:=IR (yp.symm.trans j);obtain⟨xs,m,_,n,y,s,t⟩:=DataW.trod_array Tryz.underlying181 a;rw[Am] at y;simp only[nX,Nat.mul_one] at t;simp only[Ht,DataW.agg.injEq] at n;have u:=λi=>World.var?_cell gBar d i;have b:∀ o,o<25->cs[o]?=FJ (.int .i64 (Bs.getD o 0)):=λo f=>by
  have e:=t o f;have c:xs[o]?=FJ xs[o]:=FR (by omega);rw[c] at e;obtain⟨z,c0,w,_⟩:=DataW.trod_int Hy e;have a:(xs.map (·.1))[o]?=FJ (.lit (.int .i64 z)):=by rw[GQ,c,w];rfl
  rw[<-n.1] at a;unfold barD at a;rw[GQ,List.getElem?_range f] at a;simp only[Option.map_some,Hw,DataW.lit.injEq,Lit.int.injEq,true_and] at a;have g:((cs.toList.drop o).take 1)[0]?=FJ (.int .i64 z):=by rw[c0];rfl
  simp only[List.getElem?_take,List.getElem?_drop] at g;rw[a];simpa using g
 refine⟨λo f=>(u o).trans (b o f),?_⟩;by_cases x:0<W.heap.size
 ·exact x
 ·exfalso;have g:=(u 0).trans (b 0 (by omega))
  have:W.heap[0]?=FI:=Array.getElem?_eq_none (by omega)
  simp[IX,this] at g
theorem ph {W : FN} (h : laidMet FM [("isthmus/pack.fields", IG), ("isthmus/lex.words", IV), ("isthmus/emit.bare", IW)] W) : kW W := ⟨qC h, (mP h.tail.tail).1, (mP h.tail.tail).2⟩
def EG:Array FS:=((List.range 25).map λj=>F7 .i64 (Bs.getD j 0)).toArray
def la (P:II)(os:Os):FN :=
 let w0:=World.holding P os ⟨#[],#[],[]⟩
 { w0 with heap:=((w0.heap.modify 2 (oa #[.int .u64 56,.int .u64 255,.int .u64 28,.int .u64 268435455,.int .u64 0,.int .u64 268435455])).modify 3 (oa eH)).modify 0 (oa EG) }
theorem uZ {s:ByteArray}{a:List UInt8}(h:s.data.toList=a):Value.string s=stv a:=by
 subst h;rfl
def rawP (n:Int)(nm:List UInt8)(a:Int)(len:Nat):Prop:=-9223372036854775808<=n/\n<=9223372036854775807/\nm.length<=Gg/\-9223372036854775808<=a/\a<=9223372036854775807/\len<=Gg
def Fs.raw:Fs->Prop
 | ⟨FI⟩=>True
 | ⟨FJ ⟨_,n,nm,a,ks,r⟩⟩=>rawP n nm a ks.len/\ks.raw/\r.raw
def Ex.raw (e:Ex):Prop:=rawP e.n e.nm e.a e.kids.len/\e.kids.raw
theorem Fs.raw_wide:∀ {f:Fs},f.raw->f.wide
 | ⟨FI⟩,h=>trivial
 | ⟨FJ ⟨k,n,nm,a,ks,r⟩⟩,h=>⟨h.1.2.2.2.2.2,Fs.raw_wide (f:=ks) h.2.1,Fs.raw_wide (f:=r) h.2.2⟩
theorem Fs.len_size':∀ (x:Fs),x.len<=x.size
 | ⟨FI⟩=>FL _
 | ⟨FJ ⟨k,n,nm,a,ks,r⟩⟩=>by have:=Fs.len_size' r;show r.len+1<=ks.size+r.size+1;omega
theorem Fs.raw_fit:∀ {f:Fs},f.raw->f.size<=100000000->f.short/\f.rng
 | ⟨FI⟩,h,b=>⟨trivial,trivial⟩
 | ⟨FJ ⟨k,n,nm,a,ks,r⟩⟩,h,b=>by
  have b:ks.size+r.size+1<=100000000:=b;have h1:=Fs.raw_fit (f:=ks) h.2.1 (by omega);have h2:=Fs.raw_fit (f:=r) h.2.2 (by omega)
  have:=Fs.len_size' ks
  exact⟨⟨h.1.2.2.1,by omega,h1.1,h2.1⟩,⟨h.1.1,h.1.2.1,h1.2,h2.2⟩⟩
theorem Ex.raw_fit {e:Ex}(h:e.raw)(a:e.kids.size<=100000000):e.fit:=by
 obtain⟨h1,h2⟩:=Fs.raw_fit h.2 a
 have:=Fs.len_size' e.kids
 exact⟨h.1.2.2.1,h1,by omega,h.1.1,h.1.2.1,h2⟩
theorem ld (b off j:Nat):(⟨b,off,FI⟩:Gi).add j=⟨b,off+j,FI⟩:=by
 unfold Ip;split
 ·subst j;simp_all
 ·rfl
theorem lC:Tryz.prog.cellsOf 34=4:=by kernel_rfl
theorem AT:Tryz.prog.cellsOf 32=1:=by kernel_rfl
theorem Cb:Tryz.prog.cellsOf 35=1:=by kernel_rfl
theorem CG:Tryz.prog.cellsOf 37=5:=by kernel_rfl
theorem wU {H:Type}{Y:Gy × FS->H}{W:FN}{sp:Nat->Bool}{F:Bool}:∀ (d:Nat) (cs:List FS) (x:IC H × List Is),DataW.trod Y FM W 0 sp F d 34 cs=FJ x->(∀ q ∈ x.2,q.block<W.heap.size) ->
  ∃(e:Ex) (ao:Option Gi) (cap:Nat),cs=[.int .i64 e.k,.int .i64 e.n,stv e.nm,.slice ao e.kids.len cap]/\SnA W e.kids ao/\e.raw:=by
 intro d
 induction d using Nat.strongRecOn with
 | _ d IH =>
 intro cs x h P;obtain⟨xs,k,hk,M,hl,N,l⟩:=DataW.trod_struct Tryz.underlying34 h;rw[lC] at hl
 match xs,N,cs,hl with
 | [y0,y1,y2,y3],_,[u0,u1,u2,u3],_ =>
  have g0:=l 0 _ rfl;have g1:=l 1 _ rfl;have g2:=l 2 _ rfl;have g3:=l 3 _ rfl;simp[nX,rX,AT] at g0 g1 g2 g3;obtain⟨z0,e0,x0,w0⟩:=DataW.trod_int Hy g0;obtain⟨L,e1,x1,w1⟩:=DataW.trod_int Hy g1;obtain⟨z2,Z,x2,w2⟩:=DataW.trod_string Hs g2;simp at e0 e1 Z;have b1:=xS w1;have A:(z2.data.toList).length<=Gg:=by rw[e8];exact w2
  have o:∀ q ∈ y3.2,q.block<W.heap.size:=λq O=>P q (by rw[M];simp[O]);rcases DataW.trod_slice Tryz.underlying32 g3 with ⟨D,_⟩|⟨a,len,cap,w,rest,n,hn,D,B,_,Q,S,ad,hE,_,_⟩
  ·simp at D;refine⟨⟨z0,L,z2.data.toList,0,.nil⟩,FI,0,?_,.inl rfl,⟨b1.1,b1.2,A,by show -9223372036854775808<=(0:Int);decide,by show (0:Int)<=9223372036854775807;decide,by show 0<=_;omega⟩,trivial⟩;rw[e0,e1,Z,D,uZ rfl];rfl
  ·simp at D;obtain⟨b,off,c⟩:=a;have K:∀ i,i<len->∃(e:Ex) (ak:Option Gi) (ck:Nat),c=FI/\b<W.heap.size/\(∀ j u,([.int .i64 e.k,.int .i64 e.n,stv e.nm,.slice ak e.kids.len ck]:List FS)[j]?=FJ u->W.cell? ⟨b,off+i*4+j,FI⟩=FJ u)/\SnA W e.kids ak/\e.raw:=by
    intro i hi;have I:=hE i hi;rw[FR (by omega),lC] at I;obtain⟨aa,h1,h2⟩:=Option.bind_eq_some_iff.1 I;obtain⟨_,ac,v⟩:=World.cells?_some h1;have C:∀ q ∈ (w[i]'(by omega)).2,q.block<W.heap.size:=λq O=>o q (by
     rw[B];simp only[List.mem_append,List.mem_flatMap];exact .inr ⟨_,.inl (Hb _),O⟩)
    obtain⟨e,ak,ck,R,SK,hr⟩:=IH n (by omega) aa _ h2 C;have t:c=FI:=by
     have J:=hE 0 (by omega);rw[FR (by omega),lC] at J;obtain⟨ae,k1,k2⟩:=Option.bind_eq_some_iff.1 J;obtain⟨_,ab,s⟩:=World.cells?_some k1;have k3:=s 0 (by omega);rw[FR (by omega)] at k3;simpa [Ip] using World.cell?_spot k3
    subst t;have T:b<W.heap.size:=o (.cell b off) (by
     rw[B];exact Ic _ (MemPlace.mem_row.2 ⟨0,by rw[lC];omega,by simp⟩))
    refine⟨e,ak,ck,rfl,T,λj u g=>?_,SK,hr⟩;rw[<-R] at g;have E:j<4:=by
     by_cases E:j<4
     ·exact E
     ·rw[Gr (by omega)] at g;cases g
    have:=v j E
    rw[ld,ld,g] at this;exact this
   have y:∀ m,m<=len->∃f:Fs,f.len=m/\f.raw/\(m=0\/c=FI/\b<W.heap.size)/\∃p,(∀ j u,p[j]?=FJ u->W.cell? ⟨b,off+(len-m)*4+j,FI⟩=FJ u)/\FcN W (λ_=>True) f p:=by
    intro m
    induction m with
    | zero=>intro _;exact⟨.nil,rfl,trivial,.inl rfl,[],λj u g=>by simp at g,rfl⟩
    | succ m ih =>
     intro hm;obtain⟨f,z,X,_,p,V,U⟩:=ih (by omega);obtain⟨e,ak,ck,s1,s2,s3,s4,s5⟩:=K (len-(m+1)) (by omega);refine⟨.cons e.k e.n e.nm e.a e.kids f,by show f.len+1=_;rw[z],⟨s5.1,s5.2,X⟩,.inr ⟨s1,s2⟩,.int .i64 e.k::.int .i64 e.n::stv e.nm::.slice ak e.kids.len ck::p,λj u g=>?_,ak,ck,p,rfl,s4,U⟩;by_cases E:j<4
     ·refine s3 j u ?_;rw[<-g]
      match j,E with
      | 0,_=>rfl
      | 1,_=>rfl
      | 2,_=>rfl
      | 3,_=>rfl
     ·obtain⟨i,rfl⟩:∃i,j=i+4:=⟨j-4,by omega⟩
      have:=V i u (by simpa using g)
      rw[show off+(len-(m+1))*4+(i+4)=off+(len-m)*4+i by
       have:len-m=len-(m+1)+1:=by omega
       rw[this];omega]
      exact this
   obtain⟨f,z,X,f5,p,V,U⟩:=y len (FL _);have G:=GA Q S;refine⟨⟨z0,L,z2.data.toList,0,f⟩,FJ ⟨b,off,c⟩,cap,?_,?_,⟨b1.1,b1.2,A,by show -9223372036854775808<=(0:Int);decide,by show (0:Int)<=9223372036854775807;decide,by show f.len<=_;rw[z];exact G⟩,X⟩
   ·show _=[F7 .i64 z0,.int .i64 L,stv z2.data.toList,.slice (FJ ⟨b,off,c⟩) f.len cap];rw[e0,e1,Z,D,uZ rfl,z]
   ·rcases f5 with h0|⟨rfl,hb⟩
    ·refine .inl ?_;rw[h0] at z;cases f using Fs.on with
     | nil=>rfl
     | cons k n nm a ks r=>cases z
    ·refine .inr ⟨b,off,p,rfl,trivial,hb,λj u g=>?_,U⟩
     have:=V j u g
     rw[Jb,Hj,GF] at this;exact this
def Bp (cells:List Int):Prop:=cells.length<=Gg/\∀ c,c ∈ cells->-9223372036854775808<=c/\c<=9223372036854775807
theorem xu {H:Type}{enc:Gy × FS->H}{W:FN}{v:FS}{d:IC H}{ps:List Is}(h:DataW.Trod enc FM W 0 (λ_=>true) true 37 v d ps)(hlt:∀ q ∈ ps,q.block<W.heap.size) :
  ∃(e:Ex) (ao:Option Gi) (cap:Nat) (cv:FS) (cells:List Int),v=plV e ao cap cv/\SnA W e.kids ao/\e.raw/\InA W cv cells/\Bp cells:=by
 obtain⟨fuel,hf⟩:=h;obtain⟨xs,k,hk,hxy,hl,hxl,hff⟩:=DataW.trod_struct Tryz.underlying37 hf;rw[CG] at hl;obtain⟨cs,hcs⟩:∃cs,cs=v.cells.toList:=⟨_,rfl⟩;rw[<-hcs] at hl hff
 match xs,hxl,cs,hl with
 | [y0,y1],_,[u0,u1,u2,u3,u4],_ =>
  have g0:=hff 0 _ rfl;have g1:=hff 1 _ rfl;simp[lC,Cb] at g0 g1;have hp0:∀ q ∈ y0.2,q.block<W.heap.size:=λq hq=>hlt q (by
   have h2:ps=[y0,y1].flatMap (·.2):=congrArg Prod.snd hxy;rw[h2];simp[hq])
  have hp1:∀ q ∈ y1.2,q.block<W.heap.size:=λq hq=>hlt q (by
   have h2:ps=[y0,y1].flatMap (·.2):=congrArg Prod.snd hxy;rw[h2];simp[hq])
  obtain⟨e,ao,cap,hc4,S,R⟩:=wU _ _ _ g0 hp0;obtain⟨cv,cells,hcv,IN,RI⟩:∃(cv:FS) (cells:List Int),u4=cv/\InA W cv cells/\Bp cells:=by
   rcases open_ints GH Hy nX g1 with ⟨hcs,hx⟩|⟨a,len',cap',zs,hcs,_,hl,hm,hz,hx,hcell,hwz⟩
   ·simp at hcs;exact⟨_,[],hcs,⟨FI,0,rfl,.inl rfl⟩,by simp[Bp]⟩
   ·simp at hcs;simp only[if_true] at hz;refine⟨_,zs.take len',hcs,?_,by simp[Bp];exact⟨by omega,λc hc=>by have:=xS (hwz c (List.mem_of_mem_take hc));omega⟩⟩;obtain⟨b,off,spot⟩:=a;refine⟨FJ ⟨b,off,spot⟩,cap',by simp;omega,?_⟩;by_cases h0:len'=0
    ·exact .inl (by simp[h0])
    ·refine .inr ?_;have hspot:spot=FI:=by simpa [Ip] using World.cell?_spot (hcell 0 (by omega))
     subst hspot;have hbW:b<W.heap.size:=hp1 (.cell b off) (by
      rw[hx];exact MemPlace.mem_row.2 ⟨0,by omega,by simp⟩)
     refine⟨b,off,rfl,trivial,hbW,λj x hj=>?_⟩;rw[List.getElem?_take] at hj;split at hj
     ·rename_i hjl
      have h3:=hcell j (by omega);rw[ld,Gn,hj] at h3;exact h3
     ·cases hj
  refine⟨e,ao,cap,cv,cells,?_,S,R,IN,RI⟩;subst hcv;have hcs':v.cells=#[.int .i64 e.k,.int .i64 e.n,stv e.nm,.slice ao e.kids.len cap,u4]:=by
   apply Array.toList_inj.1;rw[<-hcs];simp at hc4;obtain⟨rfl,rfl,rfl,rfl⟩:=hc4;rfl
  cases v with
  | agg cs=>rw[show (Value.agg cs).cells=cs from rfl] at hcs';rw[hcs'];rfl
  | _=>have h5:=congrArg Array.size hcs';simp[Value.cells] at h5
end Go.Proofs.YtkhgahljbpmfaaaGreatDoor
namespace Go.Proofs.YtkhgahljbpmfaaaGreatDoor.emitPlans
open Go.ChangeShapes Go.WideShapes Go.ChangeAt Go.RowKit
open Go.ChangeMaps (open_string shut_string)
set_option linter.unusedVariables false
theorem contract (H:Type)(enc:Gy × FS->H)(W:FN)(base:Nat)(args:Array FS)(ds gs:List (IC H))(before:List Is)
  (hval:∀ (j:Nat) t v,Tryz.f4.params[j]?=FJ t->args[j]?=FJ v->Value.okWide FM W .any base t v)
  (hW:DataW.Whole enc FM Tryz.f4.params.toList Rows.emitPlansSpec.vars false W args.toList ds gs before)
  (hsz:(DataW.weightsEach FM (Tryz.f4.params.toList++(IU Rows.emitPlansSpec).bare.plain.varTypes FM) (ds++gs)).all (·<=reachBytes)=true) (hL:laidMetH FM Rows.emitPlansRow.laid W) :
  F5 FM 4 args W λe W'=>∃v,e=.returned v/\Rows.emitPlansSpec.post enc FM Tryz.f4 false true false false W args v W':=by
 have hW':=hW;obtain⟨p,q,hA0,hV,rfl,hfz,hnd⟩:=hW;have hA:DataW.TrodAll enc FM W 0 (λ_=>true) true Tryz.f4.params.toList args.toList ds p:=hA0;rw[Tryz.params4] at hA hval hsz;obtain⟨v0,vs0,d0,ds0,p0,q0,hargs,rfl,rfl,h0,r0⟩:=trodAll_cons hA;obtain⟨rfl,rfl,rfl⟩:=trodAll_nil r0;obtain rfl:args=#[v0]:=by cases args;simp_all
 obtain⟨rfl,rfl⟩:=trodVars_none hV;clear hA0;simp only[IS] at hW';have hlt0:∀ x ∈ p0,x.block<W.heap.size:=λx hx=>by simpa using hW'.lt x (by simp[hx])
 obtain⟨e0,ao0,cap0,cv0,cells0,rfl,SX0,RX0,IC0,RI0⟩:=xu h0 hlt0;refine(nW e0 ao0 cap0 cv0 cells0   W RX0.1.2.2.2.2.2 (Fs.raw_wide RX0.2) (λh=>⟨⟨(Ex.raw_fit RX0 h).nm,(Ex.raw_fit RX0 h).len,(Ex.raw_fit RX0 h).sh⟩,⟨(Ex.raw_fit RX0 h).n1,(Ex.raw_fit RX0 h).n2⟩,(Ex.raw_fit RX0 h).rng⟩) SX0 IC0 RI0.1  (sW hL.tail) (ph hL)).mono λe W' ⟨he,hnx⟩=>?_;subst he;exact⟨_,rfl,_,_,_,[],(p0++[]),[],hW',trodAll_cons_mk (shut_bool Tryz.underlying4 _) trodAll_mk0,(trodAll_cons_mk (Below.trod AX (by kernel_rfl) (of_decide_eq_true (by kernel_rfl)) h0 hnx hlt0) trodAll_mk0),rfl,hnx.frame _,λh=>by cases h⟩
theorem laid_met (os:Os):laidMet FM Rows.emitPlansRow.laid ((la FM os).forCall (λ_ _=>0) ⟨#[],#[.agg #[.int .i64 0,.int .i64 0,.string ByteArray.empty,.slice FI 0 0,.slice FI 0 0]],[]⟩).memory :=
 laidMet_of_run' 8 (by kernel_rfl) (by kernel_rfl)
theorem reads (os:Os){H:Type}(enc:Gy × FS->H):∃places,DataW.whole enc FM ((la FM os).forCall (λ_ _=>0) ⟨#[],#[.agg #[.int .i64 0,.int .i64 0,.string ByteArray.empty,.slice FI 0 0,.slice FI 0 0]],[]⟩).memory Tryz.f4.params.toList Rows.emitPlansSpec.vars false (#[.agg #[.int .i64 0,.int .i64 0,.string ByteArray.empty,.slice FI 0 0,.slice FI 0 0]]:Array FS).toList 8=FJ ([.agg [.agg [.lit (.int .i64 0),.lit (.int .i64 0),.lit (.string []),.nil],.nil]],[],places) :=
 ⟨[],by kernel_rfl⟩
theorem lifted (os:Os)(started:os.Started)(H:Type)(enc:Gy × FS->H)(F:Stop.Interp) :
  ReturnsInHanded {} Tryz.checked os 4 .any ((IU Rows.emitPlansSpec).preRow enc FM Tryz.f4 Rows.emitPlansRow.domain false Rows.emitPlansRow.laid) (((IU Rows.emitPlansSpec).at F).post enc FM Tryz.f4 false true false false):=by
 obtain⟨places,hx⟩:=reads os enc;refine returnsInHanded_of_row (C:=Tryz.checked) (s:=IU Rows.emitPlansSpec) ownK started (by kernel_rfl) Tryz.func4
  (witness_row_at (enc:=enc) (C:=Tryz.checked) false (la FM os) #[.agg #[.int .i64 0,.int .i64 0,.string ByteArray.empty,.slice FI 0 0,.slice FI 0 0]] rfl (by kernel_rfl) (by kernel_rfl) (by kernel_rfl)
   (OpenSpec.preRow_of_cond 8 hx (by kernel_rfl) (λk hk=>by cases hk) (by kernel_rfl) (laid_met os))) ?_
 intro W base args ds gs before hval hW _ _ hsz hL _ _;exact contract H enc W base args ds gs before hval hW hsz hL
theorem facts:joinedFacts Tryz.pinned.checked.prog 4 Tryz.f4 (IU Rows.emitPlansSpec).bare Rows.emitPlansRow=true:=by
 unfold joinedFacts;simp only[Gm]
 repeat' apply And.intro
 all_goals (as_aux_lemma=>kernel_rfl)
end Go.Proofs.YtkhgahljbpmfaaaGreatDoor.emitPlans

import Derived.Test.YtkhgahljbpmfaaaGreatDoorDocG
import Derived.SizedLaws
import Derived.Stop.LaidErr
import Derived.ShutString
import Derived.Deep.DeepHandedRow
import Derived.Test.YtkhgahljbpmfaaaGreatDoorCards
import Derived.Test.YtkhgahljbpmfaaaGreatDoorTie
set_option maxRecDepth 100000
set_option maxHeartbeats 8000000
open Option renaming none->GE,some->GF
open Nat renaming le_refl->GG,lt_of_lt_of_le->GQ,le_trans->Hr,not_lt_zero->Hv,add_zero->Hw,le_succ->Hz,zero_add->Ib,le_of_lt->Iq,zero_mul->IF,zero_le->Jm,add_sub_cancel_left->Ju,lt_or_ge->JP,sub_self->JW,lt_of_succ_lt->Ka
open Go.Proofs.Tryz renaming prog->GH,underlying35->Hy,underlying9->IR,underlying3->IX,underlying40->I7
open Go renaming World->GI,lt_of_block->GJ,bodyPost_ret->GK,heap_alloc_new->GL,Value->GN,Calls->GV,maxLen->G5,Addr->Ha,TypeId->Hp,heap_alloc_old->Ir,Ending->IL,madeCells->IM,MemPlace->Jh,DataW->Jr,Program->Jw
open List renaming getElem?_eq_getElem->GM,getD_eq_getElem?_getD->Hf,getElem?_eq_none->Hi,replicate->Ho,getElem?_map->Ii,getElem?_append_right->Ik,mem_of_getElem?->Iw,getElem_mem->Ix,getElem?_append_left->Iy,nil_append->IC,take_succ_eq_append_getElem->IW,mem_append_left->I1,eq_nil_of_length_eq_zero->I6,ext_getElem?->Jo,append_nil->JE,take_length->JQ,map_append->JZ
open Go.RowKit renaming Below->GO,intOf->Hl
open Go.Lib renaming hid->GP
open Go.RowKit.Below renaming refl->GR,heap_alloc->GS
open Bool renaming and_eq_true->He
open Go.World renaming cell?_of_block->GW,cell?->JJ
open Go.Value renaming int->GX,ownBlock->Jt
open Exists renaming intro->G9
open Int renaming toNat_natCast->Ij
open Go.IntKind renaming wrap_i64->Im
open Go.Act renaming put->It,eval->J4
open Go.Value.slice renaming injEq->Iv
open Prod.mk renaming injEq->IS
open Option.some renaming injEq->IV,inj->JD
open Go.Addr renaming add->Je
open Go.Proofs.YtkhgahljbpmfaaaGreatDoor.Rows renaming laid_isthmus_pack_fields->Jv,laid_isthmus_lex_words->JH,laid_isthmus_emit_bare->JI
open Go.OpenSpec renaming ofChange->JG
open List.cons renaming injEq->J0
namespace Go.Proofs.YtkhgahljbpmfaaaGreatDoor
open Go.ChangeShapes Go.WideShapes Go.ChangeAt Go.RowKit
set_option linter.unusedVariables false
set_option linter.unusedSimpArgs false
theorem xh:(Tryz.prog.info? 32).map (λi=>(i.zero,i.size,i.bytes))=GF (GF (.slice GE 0 0),1,24):=by kernel_rfl
theorem xF (n:Nat):(IM (Value.slice GE 0 0).cells (n*1)).size=n/\∀ i,i<n->(IM (Value.slice GE 0 0).cells (n*1))[i]?=GF (.slice GE 0 0):=by
 constructor
 ·simp[IM,Value.cells]
 ·intro i a;simp[IM,Value.cells,a,Nat.mod_one]
theorem AZ (e:Ex)(ao:Option Ha)(cap:Nat)(cv:GN)(cells:List Int)(w:GI)(hf:fs e)(f:InA w cv cells)(ai:cells.length<=1000000000)(S:SnA w e.kids ao) :
  GV GH 62 #[plV e ao cap cv] w λx w'=>x=.returned (.int .i64 (fa cells e))/\GO w.heap.size w w':=by
 obtain⟨W,hZ⟩:=exq (fa cells e);rw[<-hZ];have r:Hid (W=fa cells e):=hZ;clear hZ;obtain⟨ii,Z,D,C,B⟩:=ek xh;obtain⟨ac,cc,J,I⟩:=f;have f:InA w cv cells:=⟨ac,cc,J,I⟩;subst J;clear I;have y:GO w.heap.size w (w.alloc (zPl e ao cap ac cells.length cc)):=(GR _ w).alloc (GG _) _;have o:(w.alloc (zPl e ao cap ac cells.length cc)).heap[w.heap.size]?=GF (zPl e ao cap ac cells.length cc):=GL w _;have A:=SnA.below S y;have q:=f.below y;clear S f;rw[fp];go_enter Tryz.func62,Tryz.ntmps62;go_upto_region 1 with fail;generalize w.alloc (zPl e ao cap ac cells.length cc)=w0 at *;obtain⟨n0,s⟩:=exq w.heap.size;rw[<-s] at o y ⊢;have T:Hid (n0=w.heap.size):=s;clear s;obtain⟨p0,p1,p2,p3,p4,U⟩:=dT o;by_cases N:256<cells.length
 ·have hI:(256:Int)<(cells.length:Int):=by omega
  have m:Hid (W=0):=by show W=_;rw[r.out,qd N]
  clear r A q o;go_wp2;go_ret;rw[m.out];exact⟨rfl,by rw[<-T.out];exact y⟩
 have hI:¬(256:Int)<(cells.length:Int):=by omega
 obtain⟨af,ae,he,b⟩:=q;have q:InA w0 (.slice ac cells.length cc) cells:=⟨af,ae,he,b⟩;injection he with ad ab aa
 subst ad;subst aa;clear ab;go_wp2;go_loopw [3] (λv wr=>∃k:Nat,k<=cells.length/\v=.int .i64 k/\Hid (∀ j c,j<k->cells[j]?=GF c->nlB c=false)/\wr=w0) (λv _=>cells.length-(Hl v).toNat)
 case atStart=>exact⟨0,by omega,by go_num,λj c H=>absurd H (Hv _),rfl⟩
 case round =>
  obtain⟨k,hk,rfl,d,rfl⟩:=hrel;by_cases F:k<cells.length
  ·have h:cells[k]?=GF cells[k]:=GM F;rcases b with rfl|⟨g1,o1,rfl,-,ah,K⟩
   ·simp at F
   have x1:=K k _ h;generalize cells[k]=x at x1 h;have Y:(k:Int)<(cells.length:Int):=by omega
   have R:Hid (cells[k]?=GF x):=h;clear h K;have a:nlB x=true->Hid (W=0):=by
    intro hb;show W=0;rw[r.out,so (List.any_eq_true.2 ⟨x,Iw R.out,hb⟩)]
   by_cases h0:x<0
   ·have m:=a (by simp[nlB];omega);clear r d R a q A o;go_wp2;go_ret;rw[m.out];exact⟨rfl,by rw[<-T.out];exact y⟩
   by_cases h4:4<x
   ·have m:=a (by simp[nlB];omega);clear r d R a q A o;go_wp2;go_ret;rw[m.out];exact⟨rfl,by rw[<-T.out];exact y⟩
   have hn2:Hid (∀ j c,j<k+1->cells[j]?=GF c->nlB c=false):=by
    intro j c H f;rcases Nat.lt_succ_iff_lt_or_eq.1 H with h3|rfl
    ·exact d.out j c h3 f
    ·rw[R.out] at f;injection f with f
     rw[<-f];simp[nlB];omega
   clear r d R a q A o;go_wp2;go_roundw
   case rel=>exact⟨k+1,by omega,by go_num,hn2,trivial⟩
   case measure=>simp[Hl];omega
  ·have Y:¬(k:Int)<(cells.length:Int):=by omega
   have E:cells.any nlB=false:=by
    rw[List.any_eq_false];intro c f;obtain⟨j,H,h2⟩:=List.mem_iff_getElem.1 f
    have:=d.out j c (by omega) (by rw[GM H,h2])
    simp[this]
   have n:Hid (W=(match fJ cells e 0 0 (0,λ_=>GE) with|none=>0|some (_,k)=>k)):=by show W=_;rw[r.out,pV (by omega) (td E)];rfl
   clear r d b E;have mk:∀ w:GI,(Instr.makeSlice 160 (.int .i64 (cells.length:Nat)) (.int .i64 (cells.length:Nat))).run GH w=.ok (.slice (GF ⟨w.heap.size,0,GE⟩) cells.length cells.length) (w.alloc (.cells (IM (Value.slice GE 0 0).cells (cells.length*1)) 32)):=λw=>by
    have:=run_make (P:=GH) w 160 32 ii _ Tryz.underlying160 Z D .i64 .i64 cells.length cells.length (by omega) (Int.le_refl _) (by rw[B];omega) (by omega)
    rw[C] at this;simpa only[Ij] using this
   obtain⟨L,M⟩:=xF cells.length;generalize IM (Value.slice GE 0 0).cells (cells.length*1)=X at *;have u:Hid (X.size=cells.length/\∀ i,i<cells.length->X[i]?=GF (.slice GE 0 0)):=⟨L,M⟩;clear L M;have hn4:=GJ o;have V:=mk wr.drew;obtain⟨w2,g⟩:=exq (((wr.alloc (.cells X 32)).alloc (.cells #[.slice ac cells.length cc,.int .i64 0,.slice (GF ⟨wr.heap.size,0,GE⟩) cells.length cells.length,.bool true] 162)).drew);have b2:GO wr.heap.size wr w2:=by rw[g];exact(((GR _ wr).alloc (GG _) _).alloc (by simp) _).trans ⟨rfl,rfl,rfl,GG _,λ_ _=>rfl⟩
   have X2:w2.heap[wr.heap.size]?=GF (.cells X 32 (0,0)):=by
    rw[g];exact(GS _ _ _ (by simp)).trans (GL wr _)
   have V2:w2.heap[wr.heap.size+1]?=GF (.cells #[.slice ac cells.length cc,.int .i64 0,.slice (GF ⟨wr.heap.size,0,GE⟩) cells.length cells.length,.bool true] 162 (0,0)):=by
    rw[g]
    have:=GL (wr.alloc (.cells X 32)) (.cells #[.slice ac cells.length cc,.int .i64 0,.slice (GF ⟨wr.heap.size,0,GE⟩) cells.length cells.length,.bool true] 162)
    have h2:(wr.alloc (.cells X 32)).heap.size=wr.heap.size+1:=by simp
    rw[h2] at this;exact this
   have O:WD w2 (wr.heap.size+1) wr.heap.size (.slice ac cells.length cc) cells.length (GF (0,λ_=>GE)):=⟨V2,Jm _,X,X2,u.out.1,λi hi=>.inl ⟨rfl,u.out.2 i hi⟩⟩;have c4:=rR (e.kids.size+1) e ao cap (wr.heap.size+1) wr.heap.size (.slice ac cells.length cc) cells 0 0 (0,λ_=>GE) w2 (by omega) hf (by omega) (by omega) (by omega) O (q.mono (λi _ G=>b2.block i G) b2.size (λi _ G=>⟨by omega,by omega⟩)) (A.mono (λi _ G=>b2.block i G) b2.size (λi _ G=>⟨by omega,by omega⟩));rw[dS] at c4;have E2:=(b2.block _ hn4).trans o;have ag:=GJ V2;have l:Hid (n0<wr.heap.size):=hn4;clear o A q X2 V2 O;go_wp2_with fail;go_region_held3 (λwx=>wx.cell? ⟨n0,4,GE⟩=GF (.slice ac cells.length cc)) (go_keep) (fail);rw[<-g];clear g mk V p0 p1 p2 p3 p4 U u;obtain⟨p0,p1,p2,p3,p4,U⟩:=dT E2;generalize fJ cells e 0 0 (0,λ_=>GE)=rr at *;go_wp2_with fail;refine c4.mono ?_;rintro z w3 ⟨⟨k',rfl,t⟩,W3,K3⟩;have B3:GO n0 w w3:=(y.trans (b2.mono (Iq l.out))).trans (K3.below (by have:=l.out;omega) (Iq l.out) (by have:=l.out;omega));clear c4 p0 p1 p2 p3 p4 U E2 K3 b2;cases rr with
   | none =>
    have m:Hid (W=0):=n.out;obtain⟨-,p,kv,Q⟩:=W3;obtain⟨q0,q1,q2,q3,qf⟩:=el Q;clear n t Q;go_wp2;go_ret;rw[m.out];exact⟨rfl,by rw[<-T.out];exact B3⟩
   | some zz =>
    obtain⟨s2,k2⟩:=zz;obtain rfl:=t s2 k2 rfl;have m:Hid (W=k'):=n.out;obtain⟨Q,-,-⟩:=W3;obtain⟨q0,q1,q2,q3,qf⟩:=el Q;clear n t Q;go_wp2;go_ret;rw[m.out];exact⟨rfl,by rw[<-T.out];exact B3⟩
theorem xx (e:Ex)(ao:Option Ha)(cap:Nat)(j:GN)(cells:List Int)(w:GI)(m:fs e)(h:InA w j cells)(g:cells.length<=1000000000)(S:SnA w e.kids ao) :
  GV GH 33 #[plV e ao cap j] w λx w'=>x=.returned (.bool (decide (fa cells e≠0)))/\GO w.heap.size w w':=by
 obtain⟨ac,cc,d,c⟩:=h;have h:InA w j cells:=⟨ac,cc,d,c⟩;subst d;clear c;have f:GO w.heap.size w (w.alloc (zPl e ao cap ac cells.length cc)):=(GR _ w).alloc (GG _) _;have c1:=AZ e ao cap _ cells _ m (h.below f) g (SnA.below S f);generalize fa cells e=W at *;rw[fp] at c1 ⊢;go_enter Tryz.func33,Tryz.ntmps33;go_wp2_with fail;refine c1.mono ?_;rintro z w1 ⟨rfl,b1⟩;have l:=f.trans (b1.mono f.size);clear c1 b1;by_cases a:W=0
 ·have i:(W != 0)=false:=by simpa using a
  have b:decide (W≠0)=false:=by simp[a]
  have k:Hid (decide (W≠0)=_):=b;clear b a;go_wp2;go_ret;exact⟨by rw[k.out];simp[i],l⟩
 ·have i:(W != 0)=true:=by simpa using a
  have b:decide (W≠0)=true:=by simp[a]
  have k:Hid (decide (W≠0)=_):=b;clear b a;go_wp2;go_ret;exact⟨by rw[k.out];simp[i],l⟩
theorem tI (o a b:Int)(w:GI)(h1:0<=o)(h2:o<=255)(f:0<=a)(d:a<=268435455)(h5:0<=b)(c:b<=268435455) :
  GV GH 36 #[.int .i64 o,.int .i64 a,.int .i64 b] w λe w' =>
   e=.returned (.tuple #[.int .u64 ((o*268435456+a)*268435456+b),.int .i64 0])/\w'=w:=by
 go_enter Tryz.func36,Tryz.ntmps36;go_wp2;go_ret2;exact⟨rfl,rfl⟩
theorem xI (o a b:Int)(w:GI)(h:¬(0<=o/\o<=255/\0<=a/\a<=268435455/\0<=b/\b<=268435455)) :
  GV GH 36 #[.int .i64 o,.int .i64 a,.int .i64 b] w λe w'=>e=.returned (.tuple #[.int .u64 0,.int .i64 12])/\w'=w:=by
 have H:Hid (¬(0<=o/\o<=255/\0<=a/\a<=268435455/\0<=b/\b<=268435455)):=h;clear h;go_enter Tryz.func36,Tryz.ntmps36;go_wp2
 all_goals first|(exfalso;have:=H.out;omega)|(go_ret2;exact⟨rfl,rfl⟩)
def wdI (x:Wo):Int:=if x.op<=255/\x.a<=268435455/\x.b<=268435455 then iU x else 0
def wdW (l:List Wo):List GN:=l.map λx=>.int .u64 (wdI x)
theorem Ff {l:List Wo}(h:∀ x ∈ l,x.ok):wdW l=woV l:=List.map_congr_left λx c=>by show GX .u64 (wdI x)=_;unfold wdI;rw[if_pos (show x.op<=255/\x.a<=268435455/\x.b<=268435455 from h x c)]
def wdE (x:Wo):Int:=if x.op<=255/\x.a<=268435455/\x.b<=268435455 then 0 else 12
theorem xz (x:Wo)(w:GI):GV GH 36 #[.int .i64 (x.op:Nat),.int .i64 (x.a:Nat),.int .i64 (x.b:Nat)] w λe w'=>e=.returned (.tuple #[.int .u64 (wdI x),.int .i64 (wdE x)])/\w'=w:=by
 unfold wdI wdE;by_cases h:x.op<=255/\x.a<=268435455/\x.b<=268435455
 ·rw[if_pos h,if_pos h];exact tI (x.op:Int) (x.a:Int) (x.b:Int) w (by omega) (by omega) (by omega) (by omega) (by omega) (by omega)
 ·rw[if_neg h,if_neg h];exact xI (x.op:Int) (x.a:Int) (x.b:Int) w (by omega)
structure EmD (w:GI)(o:Nat->Nat)(s:Em)(vw vc vn vk:GN):Prop where
 ws:Row w o 2 54 1 vw s.ws.length (wdW s.ws)
 cs:Row w o 3 3 1 vc s.cs.length (eiV s.cs)
 ns:Row w o 4 9 1 vn s.ns.length (esV s.ns)
 ks:Row w o 5 3 1 vk s.ks.length (eiV s.ks)
def Cd (w:GI)(e:Ex)(cells:List Int)(z:IL)(w':GI):Prop :=
 GO w.heap.size w w'/\((fa cells e=0/\z=.returned (.tuple #[.agg iL,.int .i64 140])) \/
  (fa cells e≠0/\(32768<(emA cells e).ws.length\/1024<(emA cells e).dp)/\z=.returned (.tuple #[.agg iL,.int .i64 190])) \/
  (fa cells e≠0/\(emA cells e).ws.length<=32768/\(emA cells e).dp<=1024/\∃vw vc vn vk o',z=.returned (.tuple #[.agg #[vw,vc,vn,vk],.int .i64 0])/\(∀ k,k<w.heap.size->o' k=0)/\EmD w' o' (emA cells e) vw vc vn vk))
theorem newD {w2:GI}{gk:Nat}(n:Nat)(q:n<=1000)(p0 p1 p2 p3 p4:GN)(w3:GI)(lv:List Int)(c:lv.length=n)
  (f:w3=(w2.alloc (.cells (IM (GX .i64 0).cells (n*1)) 3)).alloc (.cells #[p0,p1,p2,p3,p4,.slice GE 0 0,.slice GE 0 0,.slice (GF ⟨gk,0,GE⟩) n n,.slice GE 0 0,.int .i64 0,.int .i64 0,.bool false] 74)) (d:gk=w2.heap.size) :
  ∃h,DW w3 h (gk+1) p0 p1 p2 p3 p4 (de0 lv)/\GO w2.heap.size w2 w3/\∀ k,k<w2.heap.size->h k=0:=by
 obtain⟨e,z2,z3,z4⟩:=al2 w2 (.cells (IM (GX .i64 0).cells (n*1)) 3) (.cells #[p0,p1,p2,p3,p4,.slice GE 0 0,.slice GE 0 0,.slice (GF ⟨gk,0,GE⟩) n n,.slice GE 0 0,.int .i64 0,.int .i64 0,.bool false] 74);rw[<-f,<-d] at e z2 z3 z4;obtain⟨o',a⟩:∃o':Nat->Nat,o'=λk=>if k=gk+1 then 1 else if k=gk then 5 else 0:=⟨_,rfl⟩;have l:o' (gk+1)=1:=by rw[a];simp
 have j:o' gk=5:=by rw[a];show (if gk=gk+1 then 1 else if gk=gk then 5 else 0)=5;rw[if_neg (by omega),if_pos rfl]
 refine⟨o',⟨by simp[de0],_,_,_,_,⟨z2,l⟩,Row.nil _ _ _ _ _,Row.nil _ _ _ _ _,Row.nil _ _ _ _ _,?_⟩,by rw[<-d];exact z4,λk g=>?_⟩
 ·have p:(de0 lv).ks.length=n:=by simp[de0,c]
  have o:eiV (de0 lv).ks=Ho n (GX .i64 0):=by simp[eiV,de0,c]
  have m:IM (GX .i64 0).cells (n*1)=(Ho n (GX .i64 0)).toArray:=by
   apply Array.ext';simp only[IM,Value.cells];rw[List.eq_replicate_iff];refine⟨by simp,λb i=>?_⟩;simp[Nat.mod_one] at i;exact i.2.symm
  rw[m] at e;rw[p,o];refine⟨⟨by simp,.inr ⟨gk,n,_,rfl,Jm _,e,GG _,by unfold G5;omega,by simp,by simp⟩⟩,λk g=>?_⟩;simp[Jt] at g;rw[<-g];exact j
 ·rw[a];show (if k=gk+1 then 1 else if k=gk then 5 else 0)=0;rw[if_neg (by omega),if_neg (by omega)]
theorem Row.labq {w:GI}{o o':Nat->Nat}{i j:Nat}{e:Hp}{size:Nat}{v:GN}{n:Nat}{xs:List GN}(h:Row w o i e size v n xs)(a:∀ k,o k=i->o' k=j):Row w o' j e size v n xs:=⟨h.1,λk b=>a k (h.2 k b)⟩
abbrev I68:Nat->Prop:=λk=>6<=k/\k<=8
def nG (l:List Int):List Int:=l.map λy=>max y 1
theorem De (e:Ex)(ao:Option Ha)(cap:Nat)(cv:GN)(cells:List Int)(w:GI)(hf:fs e)(hn:-9223372036854775808<=e.n/\e.n<=9223372036854775807)(hr:e.kids.rng)(hc:InA w cv cells)(bi:cells.length<=1000000000)(S:SnA w e.kids ao) :
  GV GH 14 #[plV e ao cap cv] w (Cd w e cells):=by
 obtain⟨g,hg⟩:=exq w.heap.size;obtain⟨w1,E⟩:=exq ((w.alloc (.cells #[.int .i64 e.k,.int .i64 e.n,stv e.nm,.slice ao e.kids.len cap,cv] 37)).alloc (.cells iL 42));obtain⟨z1,z2,z3,z4⟩:=al2 w (.cells #[.int .i64 e.k,.int .i64 e.n,stv e.nm,.slice ao e.kids.len cap,cv] 37) (.cells iL 42);rw[<-E,<-hg] at z1 z2 z3 z4;have B1:GO w.heap.size w w1:=by rw[<-hg];exact z4
 have HC:=xx e ao cap cv cells w1 hf (hc.below B1) bi (SnA.below S B1);have bh:=hc;obtain⟨ac,cc,rfl,-⟩:=bh;rw[fp] at HC ⊢;have N:=GP hg;clear hg;obtain⟨c0,c1,c2,c3,c4⟩:=gi z1;by_cases c:fa cells e=0
 ·rw[decide_eq_false (by simp[c])] at HC;have HK:=GP c;clear c;go_enter Tryz.func14,Tryz.ntmps14;go_upto_region 1 with fail;rw[<-E,<-N.out];clear E;go_upto_region 2 with (first|(go_at_call 33;refine HC.mono ?_;rintro z w2 ⟨rfl,B2⟩))
  have GZ:=(B2.block (g+1) (by omega)).trans z2;obtain⟨⟨d0,d1,d2,d3⟩,s⟩:=dW GZ;have aD:=s 0;have aC:=s 1;have aB:=s 2;have aA:=s 3;have BZ:GO g w w2:=z4.trans (B2.mono (by omega));have ZE:=oU (.slice GE 0 0) (.slice GE 0 0) (.slice GE 0 0) (.slice GE 0 0) GZ;have f:g<=g+1:=by omega
  have BE:=(((BZ.setCell (p:=⟨g+1,0,GE⟩) f (.slice GE 0 0)).setCell (p:=⟨g+1,1,GE⟩) f (.slice GE 0 0)).setCell (p:=⟨g+1,2,GE⟩) f (.slice GE 0 0)).setCell (p:=⟨g+1,3,GE⟩) f (.slice GE 0 0);obtain⟨⟨m0,m1,m2,m3⟩,-⟩:=dW ZE;have O:=GP BE;clear ZE BE GZ BZ HC z1 z2 z3 z4 B1 B2 c0 c1 c2 c3 c4;go_wp2;exact GK (v:=.tuple #[.agg iL,.int .i64 140]) (by simp[results,Tryz.results14,go_sem,m0,m1,m2,m3]) rfl ⟨by rw[<-N.out];exact O.out,.inl ⟨HK.out,rfl⟩⟩
 ·rw[decide_eq_true c] at HC;obtain⟨aa,br,ba,bu⟩:=sY c hn hr;obtain⟨K,aS,aq⟩:=Gg c aa;have HK:=GP c;clear c;obtain⟨ii,aO,ai,ah,ag⟩:=ek pE;have mk:∀ w:GI,(Instr.makeSlice 35 (.int .i64 (cells.length:Nat)) (.int .i64 (cells.length:Nat))).run GH w=.ok (.slice (GF ⟨w.heap.size,0,GE⟩) cells.length cells.length) (w.alloc (.cells (IM (GX .i64 0).cells (cells.length*1)) 3)):=λw=>by
   have:=run_make (P:=GH) w 35 3 ii _ Hy aO ai .i64 .i64 cells.length cells.length (by omega) (Int.le_refl _) (by rw[ag];omega) (by omega)
   rw[ah] at this;simpa only[Ij] using this
  clear aO ai ah ag;go_enter Tryz.func14,Tryz.ntmps14;go_upto_region 1 with fail;rw[<-E,<-N.out];clear E;go_upto_region 4 with (first|(go_at_call 33;refine HC.mono ?_;rintro z w2 ⟨rfl,B2⟩))
  have Q:GO w.heap.size w w2:=B1.trans (B2.mono B1.size);have y1:=(B2.block g (by omega)).trans z1;have y2:=(B2.block (g+1) (by omega)).trans z2;have L2:g+2<=w2.heap.size:=by rw[<-z3];exact B2.size
  clear c0 c1 c2 c3 c4 HC;obtain⟨c0,c1,c2,c3,c4⟩:=gi y1;have a7:=mk w2;have a6:=mk w2.drew;have aG:=λX:Obj=>(Ir w2 X (by omega)).trans y1;have hX:=newD (w2:=w2) (gk:=w2.heap.size) cells.length (by omega) (.int .i64 e.k) (.int .i64 e.n) (stv e.nm) (.slice ao e.kids.len cap) (.slice ac cells.length cc) _ cells rfl rfl rfl;generalize IM (GX .i64 0).cells (cells.length*1)=X at *;obtain⟨d0,d1,d2,d3,d4⟩:=gi (aG (.cells X 3));obtain⟨gk,ay⟩:=exq w2.heap.size;rw[<-ay] at hX;obtain⟨wx,am⟩:=exq ((w2.alloc (.cells X 3)).alloc (.cells #[.int .i64 e.k,.int .i64 e.n,stv e.nm,.slice ao e.kids.len cap,.slice ac cells.length cc,.slice GE 0 0,.slice GE 0 0,.slice (GF ⟨gk,0,GE⟩) cells.length cells.length,.slice GE 0 0,.int .i64 0,.int .i64 0,.bool false] 74));rw[<-am] at hX;have HX:=GP hX;have aF:=GP ay;have aY:=GP am;clear aG hX ay am mk;go_region;go_upto_region 5 with fail;rw[<-aF.out,<-aY.out];obtain⟨o3,aZ,a4,t⟩:=HX.out;have E3:=aZ.step ((dQ.refl (λ_=>False) wx o3).drew) noF;have W:GO gk w2 wx.drew:=a4.drew;generalize wx.drew=w3 at *;obtain⟨rb,aJ⟩:=exq (gk+1);rw[<-aJ] at E3 ⊢;clear aJ HX aY aZ a4 d0 d1 d2 d3 d4 a7 a6 c0 c1 c2 c3 c4;rw[<-aF.out] at L2;have aK:w2.heap.size=gk:=aF.out.symm;have X3:DX w3 o3 (.slice ac cells.length cc) cells:=by
   obtain⟨ao,cap,hv,hx⟩:=hc.below Q;injection hv with h1 h2 h3
   subst h1 h3;refine⟨_,_,rfl,?_⟩;rcases hx with hx|⟨b,off,h1,h2,h3,h4⟩
   ·exact .inl hx
   ·rw[aK] at h3;exact .inr ⟨b,off,h1,t b h3,GQ h3 (by rw[<-aK];exact W.size),λj x hj=>(W.cell (p:=⟨b,off+j,GE⟩) h3).trans (h4 j x hj)⟩
  have aV:SnO w3 o3 e.kids ao:=(SnA.below S Q).mono (λk _ hl=>W.block k (by omega)) W.size (λk _ hl=>t k (by omega));have aU:Blk w3 o3 0 g (zPl e ao cap ac cells.length cc):=⟨(W.block g (by omega)).trans y1,t g (by omega)⟩;have aT:Blk w3 o3 0 (g+1) (.cells iL 42):=⟨(W.block (g+1) (by omega)).trans y2,t (g+1) (by omega)⟩;have z0:(de0 cells).sz 0:=⟨by simp[de0],by simp[de0],by simp[de0],by simp[de0],by simp[de0],by simp[de0]⟩;have HP:=qo K cells.length (e.kids.size+1) e ao cap 0 w3 o3 rb _ _ _ _ _ cells (de0 cells) 0 (by omega) aa aq rfl ba (by omega) (by omega) aV (by simp[de0]) z0 (by omega) X3 E3;rw[dS] at HP;have dA:=fe cells e 0 (de0 cells);have zA:=(dV _ 0 0 0).sz _ (dA.sz 0 z0);have BW:GO g w w3:=(by rw[<-N.out] at Q;exact Q.trans (W.mono (by omega)));have hR:=ry_A K cells cells.length e aq aa;have aM:(deA cells e).ks.length=cells.length:=((dV _ 0 0 0).ks.trans dA.ks).trans (by simp[de0]);obtain⟨c0,c1,c2,c3,c4⟩:=gi aU.1;rw[show ((0:Nat):Int)=0 from rfl] at HP;go_upto_region 6 with (first|(go_at_call 34;refine HP.mono ?_;rintro z w4 ⟨rfl,o4,E4,S4⟩))
  have HL:=ez w4 o4 rb _ _ _ _ _ (deE cells e 0 (de0 cells)) 0 0 0 E4;go_upto_region 7 with (first|(go_at_call 35;refine HL.mono ?_;rintro z u ⟨rfl,o5,E5,S5⟩))
  have aQ:(deE cells e 0 (de0 cells)).puts 0 0 0=deA cells e:=rfl;rw[aQ] at E5 zA;have o:=S4.trans S5;have L:=aT.step o dZ;have ax:∀ k,k<w.heap.size->o5 k=0:=λk ad=>by
   have hg:=N.out;rw[o.lab k (by have:=W.size;omega)];exact t k (by omega)
  have B5:GO g w u:=BW.trans ⟨o.os,o.tape,o.output,o.size,λk ad=>o.block k (by have:=W.size;omega) (by rw[t k (by omega)];exact dZ)⟩;clear HP HL E4 S4 S5 o aU aT X3 aV E3 BW aq aa dA z0 c0 c1 c2 c3 c4 W t Q y1 y2 B1 B2 z1 z2 z4 S hc hf hr;obtain⟨⟨d0,d1,d2,d3⟩,s⟩:=dW L.1;have aD:=s 0;have aC:=s 1;have aB:=s 2;have aA:=s 3;have f:g<=g+1:=by omega
  obtain⟨al,-⟩:=E5.cl;by_cases hq:okQ (emA cells e)
  ·have r:=hR.1 hq;rw[r.lg] at al;obtain⟨wl,vc,vn,vk,vw,q0,q1,q2,q3,q4⟩:=E5;obtain⟨aw,cw,rfl⟩:=q1.form;obtain⟨l,h,rfl⟩:=q2.form;obtain⟨an,cn,rfl⟩:=q3.form;obtain⟨ak,ck,rfl⟩:=q4.form;obtain⟨⟨t4,t5,t6,B,U,t9,aI,aH⟩,-⟩:=fl q0.1;have qa:=λX:Obj=>(Ir u X q0.lt).trans q0.1;obtain⟨⟨-,u5,u6,-,-,-,-,-⟩,-⟩:=fl (qa (.cells iL 42));obtain⟨⟨-,v5,v6,-,-,-,-,-⟩,-⟩:=fl (show u.drew.heap[rb]?=_ from q0.1);clear qa;obtain⟨F,az⟩:=exq u.heap.size;have B6:GO g w (u.alloc (.cells #[.slice GE 0 0,.slice l (deA cells e).cs.length h,.slice an (deA cells e).ns.length cn,.slice GE 0 0] 42)).drew:=(B5.alloc (by have:=B5.size;have:=N.out;omega) _).drew;have S6:∀ {I:Nat->Prop},dQ I u o5 (u.alloc (.cells #[.slice GE 0 0,.slice l (deA cells e).cs.length h,.slice an (deA cells e).ns.length cn,.slice GE 0 0] 42)).drew (dR u o5 6):=λ{I}=>(((dQ.refl I u o5).labelled 6).alloc _).drew;have G6:Blk (u.alloc (.cells #[.slice GE 0 0,.slice l (deA cells e).cs.length h,.slice an (deA cells e).ns.length cn,.slice GE 0 0] 42)).drew (dR u o5 6) 6 F (.cells #[.slice GE 0 0,.slice l (deA cells e).cs.length h,.slice an (deA cells e).ns.length cn,.slice GE 0 0] 42):=by rw[az];exact⟨GL _ _,dY (GG _)⟩
   have bl:=GP az;clear az;go_upto_region 9 with fail;go_region;go_upto_region 10 with fail;rw[<-bl.out];generalize (u.alloc (.cells #[.slice GE 0 0,.slice l (deA cells e).cs.length h,.slice an (deA cells e).ns.length cn,.slice GE 0 0] 42)).drew=w6 at *;have Q0:=q0.step (S6 (I:=λ_=>False)) id;have Q1:=q1.step (S6 (I:=λ_=>False)) id;have Q2:=q2.step (S6 (I:=λ_=>False)) id;have Q3:=q3.step (S6 (I:=λ_=>False)) id;have Q4:=q4.step (S6 (I:=λ_=>False)) id;have aE:=L.step (S6 (I:=λ_=>False)) id;have av:∀ k,k<w.heap.size->dR u o5 6 k=0:=λk ad=>by
    rw[ed (by have:=B5.size;omega)];exact ax k ad
   generalize dR u o5 6=o6 at *;generalize deA cells e=D at *;have a5:D.ks.length<=256:=by omega
   clear aM aQ q0 q1 q2 q3 q4 L B5 S6 ax hR zA t4 t5 t6 B U t9 aI aH u5 u6 v5 v6 d0 d1 d2 d3 aD aC aB aA s al;have KW:Hid (∀ w' o',dQ I68 w6 o6 w' o'->w'.cell? ⟨rb,7,GE⟩=GF (.slice ak D.ks.length ck)/\w'.cell? ⟨rb,8,GE⟩=GF (.slice aw D.ws.length cw)):=λw' o' S=>by
    obtain⟨⟨t4,t5,t6,B,U,t9,aI,aH⟩,-⟩:=fl (Q0.step S (by decide)).1;exact⟨B,U⟩
   obtain⟨j1,j2,j3,j4,j5⟩:=ek rH;obtain⟨B,U⟩:=KW.out _ _ (dQ.refl I68 w6 o6);go_wp2_with fail;go_loopw [7] (λv wr=>∃(i:Nat) (o':Nat->Nat) (va:Option Ha) (H:Nat),v=.int .i64 i/\i<=D.ks.length/\Blk wr o' 6 F (.cells #[.slice GE 0 0,.slice l D.cs.length h,.slice an D.ns.length cn,.slice va i H] 42)/\Row wr o' 7 3 1 (.slice va i H) i (eiV (nG (D.ks.take i)))/\dQ I68 w6 o6 wr o') (λv _=>D.ks.length-(Hl v).toNat)
   case atStart=>exact⟨0,o6,GE,0,by go_num,by omega,G6,Row.nil _ _ _ _ _,dQ.refl _ _ _⟩
   case round =>
    clear G6 B U;obtain⟨i,o',va,H,rfl,hi,G,R,S⟩:=hrel;obtain⟨B,U⟩:=KW.out _ _ S;obtain⟨⟨g0,g1,g2,g3⟩,gf⟩:=dW G.1;by_cases ab:i<D.ks.length
    ·have bc:(i:Int)<(D.ks.length:Int):=by omega
     obtain⟨bj,bo,ap,bq,-,-,bd,aR,bf⟩:=(Q4.step S (by decide)).pos (by omega);injection ap with au a9 ar
     subst au ar;have rz:wr.cell? ⟨bj,i,GE⟩=GF (.int .i64 (D.ks.getD i 0)):=by
      rw[aR i (by omega)];simp[eiV,ab,Hf]
     obtain⟨M,hM⟩:=exq (max (D.ks.getD i 0) 1);have hY:Hid (eiV (nG (D.ks.take (i+1)))=eiV (nG (D.ks.take i))++[.int .i64 M]):=by
      have e1:nG (D.ks.take (i+1))=nG (D.ks.take i)++[M]:=by
       unfold nG;rw[IW ab,JZ,hM];simp[ab,Hf]
      show _=_;rw[e1,eiV,JZ];rfl
     have bA:i+1<=G5:=by unfold G5;omega
     have bB:(i+1)*8<=140737488355328:=by omega
     have Z:∀ {I:Nat->Prop} (wz:GI),dQ I wz o' wz.drew o':=λwz=>(dQ.refl _ wz o').drew;have C:∀ {I:Nat->Prop},dQ I wr o' (wr.alloc (.cells #[.int .i64 M] 3)) o':=λ{I}=>dQ.ofBelow (I:=I) o' (b1 _ _);have Ra:=(R.step (C (I:=λ_=>False)) id).step (Z (I:=λ_=>False) _) id;have Ga:=(G.step (C (I:=λ_=>False)) id).step (Z (I:=λ_=>False) _) id;obtain⟨⟨a0,a1,a2,a3⟩,af⟩:=dW (G.step (C (I:=λ_=>False)) id).1;subst hM;generalize D.ks.getD i 0=y at *;clear aR bf;go_wp2_with fail;go_region_law ((refine fU rfl (.tmp 53) (.tmp 62) 35 rfl 3 j1 (.int .i64 0) 1 8 Hy j2 j3 j4 j5 rfl (by decide) o' 7 (.slice va i H) i (eiV (nG (D.ks.take i))) (by simp[J4,It]) Ra ⟨wr.heap.size,0,GE⟩ 1 1 [.int .i64 (max y 1)] (by simp[J4,It]) rfl (fF wr _ _) (kf _ rfl) (by decide) bA bB ?_;intro g5 c5 Y V R7 S7;have G7:=Ga.step S7 (by decide);obtain⟨⟨h0,h1,h2,h3⟩,hf⟩:=dW G7.1;have bg:=hf 3))
     all_goals
      have T8:dQ (λk=>k=6) Y V (Y.setCell ⟨F,3,GE⟩ (.slice (GF ⟨g5,0,GE⟩) (i+1) c5)) V:=fj _ Y V ⟨F,3,GE⟩ _ G7.2;have G8:=G7.set 3 (.slice (GF ⟨g5,0,GE⟩) (i+1) c5);have R8:=R7.step T8 (by decide);have S8:dQ I68 w6 o6 (Y.setCell ⟨F,3,GE⟩ (.slice (GF ⟨g5,0,GE⟩) (i+1) c5)) V:=(((S.trans C).trans (Z _)).trans (S7.mono (λk c=>by rw[c];decide))).trans (T8.mono (λk c=>by rw[c];decide));rw[<-hY.out] at R8;clear G7 R7 T8 S7 G R S Ra Ga Z C hY a0 a1 a2 a3 h0 h1 h2 h3 hf bg g0 g1 g2 g3 gf B U rz af;generalize Y.setCell ⟨F,3,GE⟩ (.slice (GF ⟨g5,0,GE⟩) (i+1) c5)=w8 at *;go_wp2;go_roundw
      case rel=>(try ((repeat apply G9);refine⟨?_,rfl⟩));exact⟨i+1,V,GF ⟨g5,0,GE⟩,c5,by go_num,by omega,G8,R8,S8⟩
      case measure=>simp[Hl];omega
    ·have bc:¬(i:Int)<(D.ks.length:Int):=by omega
     obtain rfl:i=D.ks.length:=by omega
     rw[JQ] at R;clear ab;have a8:∃wv,wv=wr:=⟨_,rfl⟩;obtain⟨wv,rfl⟩:=a8;go_wp2_with fail;go_loopw [8] (λv wq=>∃(j:Nat) (m:Nat->Nat) (T:Option Ha) (cb:Nat),v=.int .i64 j/\j<=D.ws.length/\Blk wq m 6 F (.cells #[.slice T j cb,.slice l D.cs.length h,.slice an D.ns.length cn,.slice va D.ks.length H] 42)/\Row wq m 8 54 1 (.slice T j cb) j (wdW (D.ws.take j))/\dQ (λk=>k=6\/k=8) wv o' wq m) (λv _=>D.ws.length-(Hl v).toNat)
     case atStart=>exact⟨0,o',GE,0,by go_num,by omega,G,Row.nil _ _ _ _ _,dQ.refl _ _ _⟩
     case round =>
      clear G g0 g1 g2 g3 gf B U;obtain⟨j,m,T,cb,rfl,hj,G2,R2,S2⟩:=hrel;have d:dQ I68 w6 o6 wr m:=S.trans (S2.mono (λk c=>by rcases c with c|c<;>(rw[c];decide)));obtain⟨B,U⟩:=KW.out _ _ d;obtain⟨⟨g0,g1,g2,g3⟩,gf⟩:=dW G2.1;by_cases aN:j<D.ws.length
      ·have bb:(j:Int)<(D.ws.length:Int):=by omega
       obtain⟨gl,bn,ap,bp,-,-,bd,aj,be⟩:=(Q1.step d (by decide)).pos (by omega);injection ap with au a9 ar
       subst au ar;have ae:∀ i,i<3->wr.cell? ⟨gl,j*3+i,GE⟩=(jX D.ws[j])[i]?:=λi hi=>by
        rw[aj (j*3+i) (by omega),qV D.ws j i D.ws[j] (GM aN) hi]
       have hW:Hid (wdW (D.ws.take (j+1))=wdW (D.ws.take j)++[.int .u64 (wdI D.ws[j])]):=by
        show _=_;rw[IW aN,wdW,JZ];rfl
       generalize D.ws[j]=x at *;have x0:wr.cell? ⟨gl,j*3,GE⟩=GF (.int .i64 (x.op:Nat)):=ae 0 (by omega);have x1:wr.cell? ⟨gl,j*3+1,GE⟩=GF (.int .i64 (x.a:Nat)):=ae 1 (by omega);have x2:wr.cell? ⟨gl,j*3+2,GE⟩=GF (.int .i64 (x.b:Nat)):=ae 2 (by omega);have aX:=λwy=>xz x wy;have KQ:∀ q,dQ (λ_=>False) wr m (wr.drewN q) m:=λq=>(dQ.refl _ wr m).drewN q;clear ae aj be;go_wp2_with fail
       go_quiet ((go_at_call 36;exact Calls.quiet_of_same (aX _)))
       have KQ:=KQ nq;have G3:=G2.step KQ id;have R3:=R2.step KQ id;have S3:dQ I68 w6 o6 (wr.drewN nq) m:=d.trans (KQ.mono (λk c=>c.elim));have aW:dQ (λk=>k=6\/k=8) wv o' (wr.drewN nq) m:=S2.trans (KQ.mono (λk c=>c.elim));generalize wr.drewN nq=w9 at *;clear g0 g1 g2 g3 gf B U x0 x1 x2 G2 R2 S2 aX KQ;obtain⟨⟨g0,g1,g2,g3⟩,gf⟩:=dW G3.1;obtain⟨u1,u2,u3,u4,u5⟩:=ek uq;have bA:j+1<=G5:=by unfold G5;omega
       have bB:(j+1)*8<=140737488355328:=by omega
       obtain⟨ev,aP⟩:=exq (wdI x);rw[<-aP] at hW ⊢;generalize wdE x=er at *;have pr:=R3.step (dQ.ofBelow (I:=λ_=>False) m (b1 w9 (.cells #[.int .u64 ev] 54))) id;clear aP;go_wp2_with (first|(at_builtin;refine eb rfl _ _ 39 rfl 54 u1 (.int .u64 0) 1 8 Tryz.underlying39 u2 u3 u4 u5 rfl (by decide) m 8 (.slice T j cb) j (wdW (D.ws.take j)) rfl pr ⟨w9.heap.size,0,GE⟩ 1 1 [.int .u64 ev] rfl rfl (fF _ _ _) (kf _ rfl) (by decide) bA bB ?_)|go_in);intro g5 c5 Y V R7 S7;have sa:∀ {I:Nat->Prop},dQ I w9 m (w9.alloc (.cells #[.int .u64 ev] 54)) m:=λ{I}=>dQ.ofBelow (I:=I) m (b1 _ _);have G7:=(G3.step (sa (I:=λ_=>False)) id).step S7 (by decide);obtain⟨⟨h0,h1,h2,h3⟩,hf⟩:=dW G7.1;have bt:=hf 0;have T8:dQ (λk=>k=6) Y V (Y.setCell ⟨F,0,GE⟩ (.slice (GF ⟨g5,0,GE⟩) (j+1) c5)) V:=fj _ Y V ⟨F,0,GE⟩ _ G7.2;have G8:=G7.set 0 (.slice (GF ⟨g5,0,GE⟩) (j+1) c5);have R8:=R7.step T8 (by decide);have S8:=((aW.trans sa).trans (S7.mono (J:=λk=>k=6\/k=8) (λk c=>.inr c))).trans (T8.mono (J:=λk=>k=6\/k=8) (λk c=>.inl c));rw[<-hW.out] at R8;clear G7 R7 T8 S7 G3 R3 S3 aW pr sa g0 g1 g2 g3 gf hW;go_wp2;go_roundw
       case rel=>(try ((repeat apply G9);refine⟨?_,rfl⟩));exact⟨j+1,V,GF ⟨g5,0,GE⟩,c5,by go_num,by omega,G8,R8,S8⟩
       case measure=>simp[Hl];omega
      ·have bb:¬(j:Int)<(D.ws.length:Int):=by omega
       obtain rfl:j=D.ws.length:=by omega
       rw[JQ] at R2;obtain⟨⟨d0,d1,d2,d3⟩,s⟩:=dW (aE.step d (by decide)).1;have aD:=s 0;have aC:=s 1;have aB:=s 2;have aA:=s 3;have BR:GO g w wr:=B6.trans ⟨d.os,d.tape,d.output,d.size,λk ad=>d.block k (by have:=B6.size;have:=N.out;omega) (by rw[av k (by have:=N.out;omega)];decide)⟩;have b9:=aE.step d (by decide);have ZE:=oU (.slice T D.ws.length cb) (.slice l D.cs.length h) (.slice an D.ns.length cn) (.slice va D.ks.length H) b9.1;have BE:=(((BR.setCell (p:=⟨g+1,0,GE⟩) f (.slice T D.ws.length cb)).setCell (p:=⟨g+1,1,GE⟩) f (.slice l D.cs.length h)).setCell (p:=⟨g+1,2,GE⟩) f (.slice an D.ns.length cn)).setCell (p:=⟨g+1,3,GE⟩) f (.slice va D.ks.length H);have SE:dQ (λk=>k=0) wr m ((((wr.setCell ⟨g+1,0,GE⟩ (.slice T D.ws.length cb)).setCell ⟨g+1,1,GE⟩ (.slice l D.cs.length h)).setCell ⟨g+1,2,GE⟩ (.slice an D.ns.length cn)).setCell ⟨g+1,3,GE⟩ (.slice va D.ks.length H)) m:=((((dQ.refl _ wr m).setCell ⟨g+1,0,GE⟩ _ b9.2).setCell ⟨g+1,1,GE⟩ _ b9.2).setCell ⟨g+1,2,GE⟩ _ b9.2).setCell ⟨g+1,3,GE⟩ _ b9.2;obtain⟨⟨m0,m1,m2,m3⟩,-⟩:=dW ZE;have aL:(emA cells e).ks=nG D.ks:=by
        apply Jo;intro i;have bs:=r.kl;by_cases hi:i<D.ks.length
        ·have h1:=r.ks i (by omega);have hp:=aS i;unfold nG;rw[Ii,GM hi,GM (by omega)];simp only[Hf,GM hi,GM (show i<(emA cells e).ks.length by omega),Option.getD_some,Option.map_some] at h1 ⊢
         congr 1
         omega
        ·unfold nG;rw[Hi (by omega),Hi (by simp;omega)]
       obtain⟨oz,A⟩:∃oz:Nat->Nat,oz=λk=>if m k=8 then 2 else if m k=7 then 5 else if m k=2\/m k=5\/m k=6 then 9 else m k:=⟨_,rfl⟩;have bm:Hid (EmD ((((wr.setCell ⟨g+1,0,GE⟩ (.slice T D.ws.length cb)).setCell ⟨g+1,1,GE⟩ (.slice l D.cs.length h)).setCell ⟨g+1,2,GE⟩ (.slice an D.ns.length cn)).setCell ⟨g+1,3,GE⟩ (.slice va D.ks.length H)) oz (emA cells e) (.slice T D.ws.length cb) (.slice l D.cs.length h) (.slice an D.ns.length cn) (.slice va D.ks.length H)):=by
        refine⟨?_,?_,?_,?_⟩
        ·rw[<-r.ws];exact(R2.step SE (by decide)).labq (λk c=>by rw[A];simp only;rw[if_pos c])
        ·rw[<-r.cs];exact((Q2.step d (by decide)).step SE (by decide)).labq (λk c=>by rw[A];simp only;rw[if_neg (by omega),if_neg (by omega),if_neg (by omega)];exact c)
        ·rw[<-r.ns];exact((Q3.step d (by decide)).step SE (by decide)).labq (λk c=>by rw[A];simp only;rw[if_neg (by omega),if_neg (by omega),if_neg (by omega)];exact c)
        ·rw[aL,show (nG D.ks).length=D.ks.length by simp[nG]];exact((R.step S2 (by decide)).step SE (by decide)).labq (λk c=>by rw[A];simp only;rw[if_neg (by omega),if_pos c])
       have bk:Hid (∀ k,k<w.heap.size->oz k=0):=λk c=>by
        have hz:m k=0:=by rw[d.lab k (by have:=B6.size;have:=N.out;omega)];exact av k c
        rw[A];simp only;rw[if_neg (by omega),if_neg (by omega),if_neg (by omega)];exact hz
       have O:=GP BE;have HQ:=GP hq;clear ZE BE SE BR b9 aE Q0 Q1 Q2 Q3 Q4 R R2 S S2 d G2 KW aL A hq r aS av B6 B;go_wp2;exact GK (v:=.tuple #[.agg #[.slice T D.ws.length cb,.slice l D.cs.length h,.slice an D.ns.length cn,.slice va D.ks.length H],.int .i64 0]) (by simp[results,Tryz.results14,go_sem,m0,m1,m2,m3]) rfl ⟨by rw[<-N.out];exact O.out,.inr (.inr ⟨HK.out,HQ.out.1,HQ.out.2,_,_,_,_,oz,rfl,bk.out,bm.out⟩)⟩
  ·rw[hR.2 hq] at al;have HQ:Hid (32768<(emA cells e).ws.length\/1024<(emA cells e).dp):=by show _\/_;unfold okQ at hq;omega
   have ZE:=oU (.slice GE 0 0) (.slice GE 0 0) (.slice GE 0 0) (.slice GE 0 0) L.1;have BE:=(((B5.setCell (p:=⟨g+1,0,GE⟩) f (.slice GE 0 0)).setCell (p:=⟨g+1,1,GE⟩) f (.slice GE 0 0)).setCell (p:=⟨g+1,2,GE⟩) f (.slice GE 0 0)).setCell (p:=⟨g+1,3,GE⟩) f (.slice GE 0 0);obtain⟨⟨m0,m1,m2,m3⟩,-⟩:=dW ZE;have O:=GP BE;clear ZE BE B5 L E5 hR aM zA hq s ax;go_wp2;exact GK (v:=.tuple #[.agg iL,.int .i64 190]) (by simp[results,Tryz.results14,go_sem,m0,m1,m2,m3]) rfl ⟨by rw[<-N.out];exact O.out,.inr (.inl ⟨HK.out,HQ.out,rfl⟩)⟩
abbrev lH (w:GI)(f:Fs)(b cap:Nat):Prop:=Spn w (λ_=>True) f b cap
theorem lH.below {w w':GI}{f:Fs}{b cap:Nat}(h:lH w f b cap)(bb:GO w.heap.size w w'):lH w' f b cap:=h.mono (λi _ a=>bb.block i a) bb.size (λ_ h _=>h)
theorem Spn.last {w:GI}{P:Nat->Prop}{f:Fs}{b cap:Nat}(h:Spn w P f b cap):f.len+1<=cap/\cap<=G5/\w.cell? ⟨b,f.len*4,GE⟩=GF (.int .i64 (-7)):=by
 obtain⟨d,e,a,h1,h2,g,c,i⟩:=h;exact⟨h1,h2,c⟩
theorem Spn.lt {w:GI}{P:Nat->Prop}{f:Fs}{b cap:Nat}(h:Spn w P f b cap):b<w.heap.size:=by
 obtain⟨c,d,a,_⟩:=h;exact a
theorem LFn.split {w:GI}{P:Nat->Prop}:∀ {x y:Fs}{c:List GN},LFn w P (x.app y) c->∃e d,c=e++d/\LFn w P x e/\LFn w P y d
 | ⟨GE⟩,y,c,h=>⟨[],c,rfl,rfl,h⟩
 | ⟨GF ⟨k,n,nm,a,ks,r⟩⟩,y,c,h=>by
  obtain⟨b,cap,f,j,rfl,h1,h2⟩:=h;obtain⟨e,d,rfl,i,g⟩:=LFn.split (x:=r) h2;exact⟨_,d,rfl,⟨b,cap,f,e,rfl,h1,i⟩,g⟩
theorem Spn.kid {w:GI}{P:Nat->Prop}{x r:Fs}{k n:Int}{nm:List UInt8}{a:Int}{ks:Fs}{b cap:Nat}(h:Spn w P (x.app (.cons k n nm a ks r)) b cap) :
  ∃d ck,w.cell? ⟨b,x.len*4,GE⟩=GF (.int .i64 k)/\w.cell? ⟨b,x.len*4+1,GE⟩=GF (.int .i64 n)/\w.cell? ⟨b,x.len*4+2,GE⟩=GF (stv nm)/\w.cell? ⟨b,x.len*4+3,GE⟩=GF (.slice (GF ⟨d,0,GE⟩) ks.len ck)/\Spn w P ks d ck:=by
 obtain⟨v,y,i,h1,h2,m,z,q⟩:=h;obtain⟨t,s,rfl,p,h5⟩:=LFn.split q;have l:=p.len;obtain⟨d,ck,f,e,rfl,o,-⟩:=h5;have c:∀ j u,(.int .i64 k::.int .i64 n::stv nm::.slice (GF ⟨d,0,GE⟩) ks.len ck::e:List GN)[j]?=GF u->w.cell? ⟨b,x.len*4+j,GE⟩=GF u:=λj u g=>by
  have:=m (x.len*4+j) u (by rw[Ik (by omega),l,Ju];exact g)
  rw[Ib] at this;exact this
 exact⟨d,ck,c 0 _ rfl,c 1 _ rfl,c 2 _ rfl,c 3 _ rfl,f,o⟩
def rv (N:Nat):Prop:=∀ (e:Ex) (b0 cap:Nat) (b:Option Ha) (a:Nat) (w:GI),e.kids.size<N->e.kids.len<=1000000000->e.kids.short->lH w e.kids b0 cap->SnA w e.kids b ->
 GV GH 43 #[exN e (GF ⟨b0,0,GE⟩) cap,exN e b a] w λx w'=>x=.returned (.bool true)/\GO w.heap.size w w'
theorem tL {N:Nat}(IH:rv N):rv (N+1):=by
 intro e b0 cap f b w hN ai ac S L;have n:GO w.heap.size w ((w.alloc (zNd e (GF ⟨b0,0,GE⟩) cap)).alloc (zNd e f b)):=((GR _ w).alloc (GG _) _).alloc (by simp) _;have u:((w.alloc (zNd e (GF ⟨b0,0,GE⟩) cap)).alloc (zNd e f b)).heap[w.heap.size]?=GF (zNd e (GF ⟨b0,0,GE⟩) cap):=(GS _ _ _ (by simp)).trans (GL w _);have t:((w.alloc (zNd e (GF ⟨b0,0,GE⟩) cap)).alloc (zNd e f b)).heap[w.heap.size+1]?=GF (zNd e f b):=by
  have:=GL (w.alloc (zNd e (GF ⟨b0,0,GE⟩) cap)) (zNd e f b)
  simpa using this
 have E:=lH.below S n;have K:=SnA.below L n;rw[dS,dS];go_enter Tryz.func43,Tryz.ntmps43;go_upto_region 1 with fail;generalize (w.alloc (zNd e (GF ⟨b0,0,GE⟩) cap)).alloc (zNd e f b)=w0 at *;obtain⟨bx,s⟩:=exq w.heap.size;rw[<-s] at u t n ⊢;have HB:Hid (bx=w.heap.size):=s;clear s S L;obtain⟨p0,p1,p2,p3,pf⟩:=el u;obtain⟨q0,Z,q2,y,Y⟩:=el t;obtain⟨ah,A,h7⟩:=E.last;have B:(e.kids.len:Int)+1<=(cap:Int):=by omega
 have ag:cap<=9223372036854775807:=A;have aa:IntKind.i64.wrap ((e.kids.len:Int)+1)=(e.kids.len:Int)+1:=by rw[Im];omega
 have z:(e.kids.len:Int)<(e.kids.len:Int)+1:=by omega
 go_upto_region 3 with fail
 go_quiet (fail)
 have bq:GO w0.heap.size w0 (w0.drewN nq):=bdr (GR _ _) nq;have u:=(bq.block _ (GJ u)).trans u;have t:=(bq.block _ (GJ t)).trans t;have E:=E.below bq;have K:=SnA.below K bq;have n:=n.trans (bq.mono (by have:=HB.out;have:=n.size;omega));generalize w0.drewN nq=w0 at *;clear ah A h7 B ag aa z bq p0 p1 p2 p3 pf q0 Z q2 y Y;go_wp2_with fail;go_loopw [5] (λv wr=>∃(done r:Fs),Hid (e.kids=done.app r)/\v=.int .i64 (done.len:Nat)/\wr.heap[bx]?=GF (zNd e (GF ⟨b0,0,GE⟩) cap)/\wr.heap[bx+1]?=GF (zNd e f b)/\lH wr e.kids b0 cap/\SnA wr e.kids f/\GO bx w wr) (λv _=>e.kids.len-(Hl v).toNat)
 case atStart=>exact⟨.nil,e.kids,rfl,by show _=GX .i64 ((0:Nat):Int);rfl,u,t,E,K,n⟩
 case round =>
  clear u t E K n;obtain⟨done,r,q,rfl,E1,J,M,T1,O⟩:=hrel;have m:e.kids.len=done.len+r.len:=by rw[q.out,Fs.len_app]
  obtain⟨p0,p1,p2,p3,pf⟩:=el E1;obtain⟨q0,Z,q2,y,Y⟩:=el J;cases r using Fs.on with
  | nil =>
   have ae:¬(done.len:Int)<(e.kids.len:Int):=by simp only[Fs.len] at m;omega
   clear m;go_wp2;go_ret;exact⟨rfl,by rw[<-HB.out];exact O⟩
  | cons h kn g H c G =>
   have ae:(done.len:Int)<(e.kids.len:Int):=by simp only[Fs.len] at m;omega
   have ak:done.len<e.kids.len:=by omega
   have ab:e.kids.size=done.size+(c.size+G.size+1):=by rw[q.out,Fs.size_app];rfl
   have o:(Fs.cons h kn g H c G).short:=Fs.app_short (by rw[<-q.out];exact ac);obtain⟨D,ck,X,W,V,U,SK⟩:=Spn.kid (x:=done) (by rw[<-q.out];exact M);obtain⟨d,a,j,i,C,k,-,T,R,Q,P,TK⟩:=SlN.kidQ (by rw[<-q.out];exact T1);subst C;have l:b0<wr.heap.size:=M.lt;have I:=IH ⟨h,kn,g,H,c⟩ D ck j i wr.drew (by show c.size<N;omega) o.2.1 o.2.2.1 (lH.below SK (GR _ wr).drew) (SnA.below TK (GR _ wr).drew);rw[dS,dS] at I;simp only at I;clear m ab o SK TK;go_wp2;have k0:wr.cell? ⟨bx,3,GE⟩=GF (.slice (GF ⟨b0,0,GE⟩) e.kids.len cap)/\wr.cell? ⟨bx+1,3,GE⟩=GF (.slice (GF ⟨d,a,GE⟩) e.kids.len b)/\wr.cell? ⟨b0,done.len*4,GE⟩=GF (.int .i64 h)/\wr.cell? ⟨b0,done.len*4+1,GE⟩=GF (.int .i64 kn)/\wr.cell? ⟨b0,done.len*4+2,GE⟩=GF (stv g)/\wr.cell? ⟨b0,done.len*4+3,GE⟩=GF (.slice (GF ⟨D,0,GE⟩) c.len ck)/\wr.cell? ⟨d,a+done.len*4,GE⟩=GF (.int .i64 h)/\wr.cell? ⟨d,a+done.len*4+1,GE⟩=GF (.int .i64 kn)/\wr.cell? ⟨d,a+done.len*4+2,GE⟩=GF (stv g)/\wr.cell? ⟨d,a+done.len*4+3,GE⟩=GF (.slice j c.len i):=⟨p3,y,X,W,V,U,T,R,Q,P⟩;have k1:wr.drew.cell? ⟨bx,3,GE⟩=GF (.slice (GF ⟨b0,0,GE⟩) e.kids.len cap)/\wr.drew.cell? ⟨bx+1,3,GE⟩=GF (.slice (GF ⟨d,a,GE⟩) e.kids.len b)/\wr.drew.cell? ⟨b0,done.len*4,GE⟩=GF (.int .i64 h)/\wr.drew.cell? ⟨b0,done.len*4+1,GE⟩=GF (.int .i64 kn)/\wr.drew.cell? ⟨b0,done.len*4+2,GE⟩=GF (stv g)/\wr.drew.cell? ⟨b0,done.len*4+3,GE⟩=GF (.slice (GF ⟨D,0,GE⟩) c.len ck)/\wr.drew.cell? ⟨d,a+done.len*4,GE⟩=GF (.int .i64 h)/\wr.drew.cell? ⟨d,a+done.len*4+1,GE⟩=GF (.int .i64 kn)/\wr.drew.cell? ⟨d,a+done.len*4+2,GE⟩=GF (stv g)/\wr.drew.cell? ⟨d,a+done.len*4+3,GE⟩=GF (.slice j c.len i):=k0;have F:bx+1<wr.drew.heap.size:=GJ J;go_region_held (λwx=>wx.cell? ⟨bx,3,GE⟩=GF (.slice (GF ⟨b0,0,GE⟩) e.kids.len cap)/\wx.cell? ⟨bx+1,3,GE⟩=GF (.slice (GF ⟨d,a,GE⟩) e.kids.len b)/\wx.cell? ⟨b0,done.len*4,GE⟩=GF (.int .i64 h)/\wx.cell? ⟨b0,done.len*4+1,GE⟩=GF (.int .i64 kn)/\wx.cell? ⟨b0,done.len*4+2,GE⟩=GF (stv g)/\wx.cell? ⟨b0,done.len*4+3,GE⟩=GF (.slice (GF ⟨D,0,GE⟩) c.len ck)/\wx.cell? ⟨d,a+done.len*4,GE⟩=GF (.int .i64 h)/\wx.cell? ⟨d,a+done.len*4+1,GE⟩=GF (.int .i64 kn)/\wx.cell? ⟨d,a+done.len*4+2,GE⟩=GF (stv g)/\wx.cell? ⟨d,a+done.len*4+3,GE⟩=GF (.slice j c.len i)) (first|(with_reducible exact k2)|(with_reducible exact k1)|(with_reducible exact k0)) ((go_at_call 43;refine I.mono ?_;rintro x w2 ⟨rfl,b2⟩;have k2:w2.cell? ⟨bx,3,GE⟩=GF (.slice (GF ⟨b0,0,GE⟩) e.kids.len cap)/\w2.cell? ⟨bx+1,3,GE⟩=GF (.slice (GF ⟨d,a,GE⟩) e.kids.len b)/\w2.cell? ⟨b0,done.len*4,GE⟩=GF (.int .i64 h)/\w2.cell? ⟨b0,done.len*4+1,GE⟩=GF (.int .i64 kn)/\w2.cell? ⟨b0,done.len*4+2,GE⟩=GF (stv g)/\w2.cell? ⟨b0,done.len*4+3,GE⟩=GF (.slice (GF ⟨D,0,GE⟩) c.len ck)/\w2.cell? ⟨d,a+done.len*4,GE⟩=GF (.int .i64 h)/\w2.cell? ⟨d,a+done.len*4+1,GE⟩=GF (.int .i64 kn)/\w2.cell? ⟨d,a+done.len*4+2,GE⟩=GF (stv g)/\w2.cell? ⟨d,a+done.len*4+3,GE⟩=GF (.slice j c.len i):=⟨(b2.cell (p:=⟨bx,3,GE⟩) (Ka F)).trans p3,(b2.cell (p:=⟨bx+1,3,GE⟩) F).trans y,(b2.cell (p:=⟨b0,done.len*4,GE⟩) l).trans X,(b2.cell (p:=⟨b0,done.len*4+1,GE⟩) l).trans W,(b2.cell (p:=⟨b0,done.len*4+2,GE⟩) l).trans V,(b2.cell (p:=⟨b0,done.len*4+3,GE⟩) l).trans U,(b2.cell (p:=⟨d,a+done.len*4,GE⟩) k).trans T,(b2.cell (p:=⟨d,a+done.len*4+1,GE⟩) k).trans R,(b2.cell (p:=⟨d,a+done.len*4+2,GE⟩) k).trans Q,(b2.cell (p:=⟨d,a+done.len*4+3,GE⟩) k).trans P⟩));have B2:GO bx w w2:=(O.drew).trans (b2.mono (by have:=HB.out;have:=O.size;show bx<=wr.heap.size;omega));have E2:=(b2.block bx (Ka F)).trans E1;have Y2:=(b2.block (bx+1) F).trans J;have L:=lH.below (lH.below M (GR _ wr).drew) b2;have T2:=SnA.below (SnA.below T1 (GR _ wr).drew) b2;have af:Hid (e.kids=(done.snoc ⟨h,kn,g,H,c⟩).app G):=by show e.kids=_;rw[q.out];unfold Fs.snoc;rw[Fs.app_assoc];rfl
   have ad:(done.len:Int)+1=((done.snoc ⟨h,kn,g,H,c⟩).len:Nat):=by rw[Fs.len_snoc];rfl
   have aj:e.kids.len-(done.len+1)<e.kids.len-done.len:=by omega
   clear k0 k1 k2 p0 p1 p2 p3 pf q0 Z q2 y Y X W V U T R Q P I b2 E1 J M T1 O q;go_wp2;go_roundw
   case rel=>exact⟨_,G,af,by rw[<-ad],E2,Y2,L,T2,B2⟩
   case measure=>simp[Hl];omega
theorem tj:∀ N,rv N -- 43
 | 0=>λe b0 cap b a w h=>absurd h (Hv _)
 | N+1=>tL (tj N)
def LnI (w:GI)(P:Nat->Prop)(v:GN)(cells:List Int):Prop :=
 ∃g c,v=.slice (GF ⟨g,0,GE⟩) cells.length c/\P g/\g<w.heap.size/\cells.length+1<=c/\c<=G5/\(∀ j x,cells[j]?=GF x->w.cell? ⟨g,j,GE⟩=GF (.int .i64 x))/\w.cell? ⟨g,cells.length,GE⟩=GF (.int .i64 (-7))
theorem LnI.mono {w w':GI}{P Q:Nat->Prop}{v:GN}{xs:List Int}(e:∀ k,P k->k<w.heap.size->w'.heap[k]?=w.heap[k]?)(i:w.heap.size<=w'.heap.size)(l:∀ k,P k->k<w.heap.size->Q k)(h:LnI w P v xs):LnI w' Q v xs:=by
 obtain⟨g,c,rfl,d,b,h1,h2,n,m⟩:=h;exact⟨g,c,rfl,l g d b,GQ b i,h1,h2,λj u f=>(GW (a:=⟨g,j,GE⟩) (e g d b)).trans (n j u f),(GW (a:=⟨g,xs.length,GE⟩) (e g d b)).trans m⟩
theorem LnI.below {P:Nat->Prop}{w w':GI}{v:GN}{xs:List Int}(h:LnI w P v xs)(b:GO w.heap.size w w'):LnI w' P v xs:=h.mono (λi _ a=>b.block i a) b.size (λ_ h _=>h)
theorem LnI.inA {w:GI}{P:Nat->Prop}{v:GN}{xs:List Int}(h:LnI w P v xs):InA w v xs:=by
 obtain⟨g,c,rfl,e,a,h1,h2,d,f⟩:=h;exact⟨_,c,rfl,.inr ⟨g,0,rfl,trivial,a,λj x b=>by rw[Ib];exact d j x b⟩⟩
theorem InA.news {w:GI}{ao:Option Ha}{cap:Nat}{xs:List Int}(h:xs=[]\/∃b off,ao=GF ⟨b,off,GE⟩/\True/\b<w.heap.size/\∀ j x,xs[j]?=GF x->w.cell? ⟨b,off+j,GE⟩=GF (.int .i64 x)):0<xs.length->∃f,ao=GF f/\∀ j u,(xs.map (GX .i64))[j]?=GF u->w.cell? (f.add j)=GF u:=by
 intro e;rcases h with h|⟨b,off,rfl,-,g,c⟩
 ·rw[h] at e;simp at e
 ·refine⟨_,rfl,λj u a=>?_⟩;rw[Ii] at a;cases d:xs[j]? with
  | none=>rw[d] at a;cases a
  | some t =>
   rw[d] at a;injection a with a
   subst a;have i:((⟨b,off,GE⟩:Ha).add j)=⟨b,off+j,GE⟩:=by simp only[Je];split<;>simp_all
   rw[i];exact c j t d
theorem zh (xs:List Int):∀ u ∈ xs.map (GX .i64),u.oneCell'=true:=λu a=>by
 obtain⟨x,_,rfl⟩:=List.mem_map.1 a;rfl
theorem uQ {w w':GI}{x:GN}{t:Hp}(b:GO (w.alloc (.cells #[x] t)).drew.heap.size (w.alloc (.cells #[x] t)).drew w'):∀ j u,[x][j]?=GF u->w'.cell? ((⟨w.heap.size,0,GE⟩:Ha).add j)=GF u:=λj u a=>by
 have h1:=ge w [x] t j u a;have c:((⟨w.heap.size,0,GE⟩:Ha).add j)=⟨w.heap.size,j,GE⟩:=by simp only[Je];split<;>simp_all
 rw[c] at h1 ⊢;exact(b.cell (p:=⟨w.heap.size,j,GE⟩) (by show w.heap.size<(w.alloc _).heap.size;simp)).trans h1
theorem yN {n h c5:Nat}{w w1 W b:GI}{d j:Nat->Nat}{f:Fs}(i:GO n w w1)(m:n<=w.heap.size)(q:∀ k,k<n->d k=0)(g:GO w1.heap.size w1 W)(p:Spn W (Nw w1.heap.size) f h c5)(c:dQ (λk=>k=5) W (dR w1 d 0) b j) :
  GO n w b/\Spn b (Nw w1.heap.size) f h c5/\∀ k,k<w1.heap.size->d k≠5->b.heap[k]?=w1.heap[k]?:=by
 have h1:=i.size;refine⟨eo (i.trans (g.mono (by omega))) c (λk a=>by rw[ed (by omega),q k a];decide) m,p.mono (λk e o=>c.block k o (by rw[dY e];decide)) c.size (λk e _=>e),λk a l=>(c.block k (GQ a g.size) (by rw[ed a];exact l)).trans (g.block k a)⟩
theorem yH {P:Nat->Prop}{w:GI}{o:Nat->Nat}{g c:Nat}{cells:List Int}(r:Row w o 5 3 1 (.slice (GF ⟨g,0,GE⟩) (cells.length+1) c) (cells.length+1) (cells.map (GX .i64)++[.int .i64 (-7)]))(l:P g):LnI w P (.slice (GF ⟨g,0,GE⟩) cells.length c) cells/\cells.length<=c:=by
 obtain⟨n,k,f,m,e,d,a,i,_⟩:=r.pos (by omega);simp only[Iv,IV,Addr.mk.injEq,true_and,and_true] at f;obtain⟨rfl,rfl⟩:=f;refine⟨⟨g,c,rfl,l,a,e,d,λj x h=>?_,?_⟩,by omega⟩
 ·have b:j<cells.length:=(List.getElem?_eq_some_iff.1 h).1;rw[i j (by omega),Iy (by simpa using b),Ii,h];rfl
 ·rw[i cells.length (by omega),Ik (by simp)];simp
theorem DN {z g c m:Nat}{w1 W d:GI}{e a:Nat->Nat}{xs:List GN}(f:e z=0)(b:z<w1.heap.size)(r:Row d a 5 3 1 (.slice (GF ⟨g,0,GE⟩) m c) m xs)(s:dQ (λk=>k=5) W (dR w1 e 0) d a)(i:w1.heap.size<=W.heap.size):g≠z:=by
 intro h;have h1:=r.2 g rfl;rw[h,s.lab z (by omega),ed b,f] at h1;cases h1
theorem AW {n g c m:Nat}{w1 W b:GI}{d a:Nat->Nat}{xs:List GN}(L:∀ k,k<n->d k=0)(r:Row b a 5 3 1 (.slice (GF ⟨g,0,GE⟩) m c) m xs)(s:dQ (λk=>k=5) W (dR w1 d 0) b a)(f:n<=W.heap.size)(e:n<=w1.heap.size):n<=g:=by
 rcases JP g n with h|h
 ·have h1:a g=5:=r.2 g rfl;rw[s.lab g (by omega),ed (by omega),L g h] at h1;cases h1
 ·exact h
theorem wT {w:GI}{n0:Nat}{a0 a1 a2 a3 a4 c0 c1 c2 c3 c4:GN}(h:w.cell? ⟨n0,0,GE⟩=GF c0/\w.cell? ⟨n0,1,GE⟩=GF c1/\w.cell? ⟨n0,2,GE⟩=GF c2/\w.cell? ⟨n0,3,GE⟩=GF c3/\w.cell? ⟨n0,4,GE⟩=GF c4):(((((w.setCell ⟨n0+1,0,GE⟩ a0).setCell ⟨n0+1,1,GE⟩ a1).setCell ⟨n0+1,2,GE⟩ a2).setCell ⟨n0+1,3,GE⟩ a3).setCell ⟨n0+1,4,GE⟩ a4).cell? ⟨n0,0,GE⟩=GF c0/\(((((w.setCell ⟨n0+1,0,GE⟩ a0).setCell ⟨n0+1,1,GE⟩ a1).setCell ⟨n0+1,2,GE⟩ a2).setCell ⟨n0+1,3,GE⟩ a3).setCell ⟨n0+1,4,GE⟩ a4).cell? ⟨n0,1,GE⟩=GF c1/\(((((w.setCell ⟨n0+1,0,GE⟩ a0).setCell ⟨n0+1,1,GE⟩ a1).setCell ⟨n0+1,2,GE⟩ a2).setCell ⟨n0+1,3,GE⟩ a3).setCell ⟨n0+1,4,GE⟩ a4).cell? ⟨n0,2,GE⟩=GF c2/\(((((w.setCell ⟨n0+1,0,GE⟩ a0).setCell ⟨n0+1,1,GE⟩ a1).setCell ⟨n0+1,2,GE⟩ a2).setCell ⟨n0+1,3,GE⟩ a3).setCell ⟨n0+1,4,GE⟩ a4).cell? ⟨n0,3,GE⟩=GF c3/\(((((w.setCell ⟨n0+1,0,GE⟩ a0).setCell ⟨n0+1,1,GE⟩ a1).setCell ⟨n0+1,2,GE⟩ a2).setCell ⟨n0+1,3,GE⟩ a3).setCell ⟨n0+1,4,GE⟩ a4).cell? ⟨n0,4,GE⟩=GF c4:=by
 have b:=ir w (n0+1) n0 a0 a1 a2 a3 a4 (by omega);obtain⟨e,h1,h2,d,c⟩:=h;exact⟨(GW (a:=⟨n0,0,GE⟩) b).trans e,(GW (a:=⟨n0,1,GE⟩) b).trans h1,(GW (a:=⟨n0,2,GE⟩) b).trans h2,(GW (a:=⟨n0,3,GE⟩) b).trans d,(GW (a:=⟨n0,4,GE⟩) b).trans c⟩
def An (w:GI)(e:Ex)(cells:List Int)(x:IL)(w':GI):Prop:=∃b a v,x=.returned (plV e (GF ⟨b,0,GE⟩) a v)/\Spn w' (Nw w.heap.size) e.kids b a/\LnI w' (Nw w.heap.size) v cells/\GO w.heap.size w w'
theorem tN (e:Ex)(ao:Option Ha)(cap:Nat)(cv:GN)(cells:List Int)(w:GI)(Q:e.kids.len<=1000000000)(ae:e.kids.short)(hc:InA w cv cells)(aj:cells.length<=100000)(S:SnA w e.kids ao) :
  GV GH 15 #[plV e ao cap cv] w (An w e cells):=by
 obtain⟨ii,J,m,l,j⟩:=ek wH;obtain⟨ac,cc,rfl,Z⟩:=hc;obtain⟨w0,o⟩:=exq ((w.alloc (zPl e ao cap ac cells.length cc)).alloc (.cells #[.int .i64 0,.int .i64 0,.string ⟨#[]⟩,.slice GE 0 0,.slice GE 0 0] 37));have X:GO w.heap.size w w0:=by rw[o];exact((GR _ w).alloc (GG _) _).alloc (by simp) _
 have B:w0.heap[w.heap.size]?=GF (zPl e ao cap ac cells.length cc):=by
  rw[o];exact(GS _ _ _ (by simp)).trans (GL w _)
 have T:w0.heap[w.heap.size+1]?=GF (.cells #[.int .i64 0,.int .i64 0,.string ⟨#[]⟩,.slice GE 0 0,.slice GE 0 0] 37 (0,0)):=by
  rw[o]
  have:=GL (w.alloc (zPl e ao cap ac cells.length cc)) (.cells #[.int .i64 0,.int .i64 0,.string ⟨#[]⟩,.slice GE 0 0,.slice GE 0 0] 37)
  simpa using this
 have S0:=SnA.below S X;obtain⟨_,_,G,O⟩:=Inw.below (P:=λ_=>True) ⟨ac,cc,rfl,Z⟩ X;injection G with G ab aa
 subst G;subst aa;have r:=InA.news (cap:=cc) O;have b:=zh cells;clear Z O ab;rw[fp];go_enter Tryz.func15,Tryz.ntmps15;go_upto_region 1 with fail;rw[<-o];clear o;obtain⟨n0,H⟩:=exq w.heap.size;unfold An;rw[<-H] at B T X ⊢;have W:Hid (n0=w.heap.size):=H;clear H;obtain⟨p0,p1,p2,p3,p4,pf⟩:=dT B;go_wp2_with (first|(at_builtin;refine jh rfl (.tmp 4) (.tmp 6) 35 rfl 3 ii (.int .i64 0) 1 8 Hy J m l j rfl (by decide) (λ_=>0) 5 _ 0 [] rfl (Row.nil _ _ _ _ _) ac cells.length cc (cells.map (GX .i64)) rfl ?c1 r b ?c3 ?c4 ?_)|go_in)
 case c1=>simp
 case c3=>unfold G5;omega
 case c4=>omega
 intro a1 c1 w1 F R1 N;try simp only[Ib,IC] at R1
 try simp only[Ib,IC]
 have b1:=N.below (λk hk=>by decide);have af:=b1.size;have P1:=(b1.block _ (GJ B)).trans B;have Z1:=(b1.block _ (GJ T)).trans T;have A:=GJ Z1;have oP:F n0=0:=N.lab n0 (GJ B);have Y:F (n0+1)=0:=N.lab (n0+1) (GJ T);have B1:GO n0 w w1:=X.trans (b1.mono (by have:=GJ B;omega));have V:Hid (∀ k,k<n0->F k=0):=λk hk=>N.lab k (by have:=GJ B;omega);have S1:=SnA.below S0 b1;clear p0 p1 p2 p3 p4 pf B T X S0 N b1 r b S af;go_upto_region 3 with fail;obtain⟨p0,p1,p2,p3,p4,pf⟩:=dT P1;have Bd:GO w1.heap.size w1 w1.drew:=⟨rfl,rfl,rfl,GG _,λ_ _=>rfl⟩;have f:=Bd.alloc (GG _) (.cells #[.int .i64 (-7)] 3);have R:=λ(wx:GI) (Z:SnA wx e.kids ao)=>te (e.kids.size+1) e ao cap wx (by omega) Q ae Z;simp only[dS] at R;have b:∀ u ∈ [GX .i64 (-7)],u.oneCell'=true:=by intro u hu;simp at hu;subst hu;rfl
 have q1:cells.length+1<=G5:=by unfold G5;omega
 have q2:(cells.length+1)*8<=140737488355328:=by omega
 have ai:Hid (∀ k,k<n0->F k≠5):=λk hk=>by rw[V.out k hk];decide
 have a:n0<w1.heap.size:=GJ P1;have k0:w1.cell? ⟨n0,0,GE⟩=GF (.int .i64 e.k)/\w1.cell? ⟨n0,1,GE⟩=GF (.int .i64 e.n)/\w1.cell? ⟨n0,2,GE⟩=GF (stv e.nm)/\w1.cell? ⟨n0,3,GE⟩=GF (.slice ao e.kids.len cap)/\w1.cell? ⟨n0,4,GE⟩=GF (.slice ac cells.length cc):=⟨p0,p1,p2,p3,p4⟩;have k1:w1.drew.cell? ⟨n0,0,GE⟩=GF (.int .i64 e.k)/\w1.drew.cell? ⟨n0,1,GE⟩=GF (.int .i64 e.n)/\w1.drew.cell? ⟨n0,2,GE⟩=GF (stv e.nm)/\w1.drew.cell? ⟨n0,3,GE⟩=GF (.slice ao e.kids.len cap)/\w1.drew.cell? ⟨n0,4,GE⟩=GF (.slice ac cells.length cc):=k0;have kA:(w1.alloc (.cells #[.int .i64 (-7)] 3)).drew.cell? ⟨n0,0,GE⟩=GF (.int .i64 e.k)/\(w1.alloc (.cells #[.int .i64 (-7)] 3)).drew.cell? ⟨n0,1,GE⟩=GF (.int .i64 e.n)/\(w1.alloc (.cells #[.int .i64 (-7)] 3)).drew.cell? ⟨n0,2,GE⟩=GF (stv e.nm)/\(w1.alloc (.cells #[.int .i64 (-7)] 3)).drew.cell? ⟨n0,3,GE⟩=GF (.slice ao e.kids.len cap)/\(w1.alloc (.cells #[.int .i64 (-7)] 3)).drew.cell? ⟨n0,4,GE⟩=GF (.slice ac cells.length cc):=⟨(f.cell (p:=⟨n0,0,GE⟩) a).trans p0,(f.cell (p:=⟨n0,1,GE⟩) a).trans p1,(f.cell (p:=⟨n0,2,GE⟩) a).trans p2,(f.cell (p:=⟨n0,3,GE⟩) a).trans p3,(f.cell (p:=⟨n0,4,GE⟩) a).trans p4⟩;go_region_held3 (λwx=>wx.cell? ⟨n0,0,GE⟩=GF (.int .i64 e.k)/\wx.cell? ⟨n0,1,GE⟩=GF (.int .i64 e.n)/\wx.cell? ⟨n0,2,GE⟩=GF (stv e.nm)/\wx.cell? ⟨n0,3,GE⟩=GF (.slice ao e.kids.len cap)/\wx.cell? ⟨n0,4,GE⟩=GF (.slice ac cells.length cc)) (first|(with_reducible exact k9)|(with_reducible exact wT k9)|(with_reducible exact k3)|(with_reducible exact k2)|(with_reducible exact kA)|(with_reducible exact k1)|(with_reducible exact k0)) ((first|(go_at_call 37;refine(R _ (S1.belowP (by first|exact Bd|exact f))).mono ?_;rintro x d ⟨M,c5,rfl,ah,B5⟩;have c:GO w1.heap.size w1 d:=(by first|exact Bd.trans (B5.mono (by simp))|exact f.trans (B5.mono (by simp)));have S5:Spn d (Nw w1.heap.size) e.kids M c5:=ah.mono (λ_ _ _=>rfl) (GG _) (λk q _=>Hr (by simp) q);have k2:d.cell? ⟨n0,0,GE⟩=GF (.int .i64 e.k)/\d.cell? ⟨n0,1,GE⟩=GF (.int .i64 e.n)/\d.cell? ⟨n0,2,GE⟩=GF (stv e.nm)/\d.cell? ⟨n0,3,GE⟩=GF (.slice ao e.kids.len cap)/\d.cell? ⟨n0,4,GE⟩=GF (.slice ac cells.length cc):=⟨(c.cell (p:=⟨n0,0,GE⟩) a).trans p0,(c.cell (p:=⟨n0,1,GE⟩) a).trans p1,(c.cell (p:=⟨n0,2,GE⟩) a).trans p2,(c.cell (p:=⟨n0,3,GE⟩) a).trans p3,(c.cell (p:=⟨n0,4,GE⟩) a).trans p4⟩;have t:=c.alloc c.size (.cells #[.int .i64 (-7)] 3);have k3:(d.alloc (.cells #[.int .i64 (-7)] 3)).cell? ⟨n0,0,GE⟩=GF (.int .i64 e.k)/\(d.alloc (.cells #[.int .i64 (-7)] 3)).cell? ⟨n0,1,GE⟩=GF (.int .i64 e.n)/\(d.alloc (.cells #[.int .i64 (-7)] 3)).cell? ⟨n0,2,GE⟩=GF (stv e.nm)/\(d.alloc (.cells #[.int .i64 (-7)] 3)).cell? ⟨n0,3,GE⟩=GF (.slice ao e.kids.len cap)/\(d.alloc (.cells #[.int .i64 (-7)] 3)).cell? ⟨n0,4,GE⟩=GF (.slice ac cells.length cc):=⟨(t.cell (p:=⟨n0,0,GE⟩) a).trans p0,(t.cell (p:=⟨n0,1,GE⟩) a).trans p1,(t.cell (p:=⟨n0,2,GE⟩) a).trans p2,(t.cell (p:=⟨n0,3,GE⟩) a).trans p3,(t.cell (p:=⟨n0,4,GE⟩) a).trans p4⟩;rw[dS])|(refine fU rfl (.tmp 11) (.tmp 12) 35 rfl 3 ii (.int .i64 0) 1 8 Hy J m l j rfl (by decide) (dR w1 F 0) 5 _ cells.length (cells.map (GX .i64)) (by simp[J4,It]) ((R1.step (Below.toStepC (I:=λ_=>False) c) id).step (((dQ.refl (λ_=>False) d (dR w1 F 0))).alloc _) id) ⟨d.heap.size,0,GE⟩ 1 1 [.int .i64 (-7)] (by simp[J4,It]) rfl (tT (by simp) _ _) b (by decide) q1 q2 ?_;intro z c9 g o9 E D;have C:=yN B1 (by rw[W.out];exact GG _) V.out (c.alloc c.size (.cells #[.int .i64 (-7)] 3)) (S5.mono (λi _ hl=>GS d _ i hl) (by simp) (λ_ h _=>h)) D;have s:=(C.2.2 n0 a (by rw[oP];decide)).trans P1;have k9:g.cell? ⟨n0,0,GE⟩=GF (.int .i64 e.k)/\g.cell? ⟨n0,1,GE⟩=GF (.int .i64 e.n)/\g.cell? ⟨n0,2,GE⟩=GF (stv e.nm)/\g.cell? ⟨n0,3,GE⟩=GF (.slice ao e.kids.len cap)/\g.cell? ⟨n0,4,GE⟩=GF (.slice ac cells.length cc):=⟨(dT s).1,(dT s).2.1,(dT s).2.2.1,(dT s).2.2.2.1,(dT s).2.2.2.2.1⟩;have L:n0<=z:=AW V.out E D (by have:=c.size;simp;omega) (by have:=a;omega);have K:z≠n0+1:=DN Y A E D (by have:=c.size;simp;omega);have U:=yH (P:=λk=>n0<=k/\k≠n0+1) E ⟨L,K⟩;have ag:=U.2;have Z9:=(C.2.2 (n0+1) A (by rw[Y];decide)).trans Z1;obtain⟨z0,z1,z2,z3,z4,zf⟩:=dT Z9)|(refine fU rfl (.tmp 11) (.tmp 12) 35 rfl 3 ii (.int .i64 0) 1 8 Hy J m l j rfl (by decide) (dR w1 F 0) 5 _ cells.length (cells.map (GX .i64)) (by simp[J4,It]) (R1.step (Below.toStepC (I:=λ_=>False) c) id) ⟨w1.heap.size,0,GE⟩ 1 1 [.int .i64 (-7)] (by simp[J4,It]) rfl (uQ B5) b (by decide) q1 q2 ?_;intro z c9 g o9 E D;have C:=yN B1 (by rw[W.out];exact GG _) V.out c S5 D;have s:=(C.2.2 n0 a (by rw[oP];decide)).trans P1;have k9:g.cell? ⟨n0,0,GE⟩=GF (.int .i64 e.k)/\g.cell? ⟨n0,1,GE⟩=GF (.int .i64 e.n)/\g.cell? ⟨n0,2,GE⟩=GF (stv e.nm)/\g.cell? ⟨n0,3,GE⟩=GF (.slice ao e.kids.len cap)/\g.cell? ⟨n0,4,GE⟩=GF (.slice ac cells.length cc):=⟨(dT s).1,(dT s).2.1,(dT s).2.2.1,(dT s).2.2.2.1,(dT s).2.2.2.2.1⟩;have L:n0<=z:=AW V.out E D (by have:=c.size;omega) (by have:=a;omega);have K:z≠n0+1:=DN Y A E D (by have:=c.size;omega);have U:=yH (P:=λk=>n0<=k/\k≠n0+1) E ⟨L,K⟩;have ag:=U.2;have Z9:=(C.2.2 (n0+1) A (by rw[Y];decide)).trans Z1;obtain⟨z0,z1,z2,z3,z4,zf⟩:=dT Z9)))
 all_goals (
  have HU:Hid (∃y,y=(((((g.setCell ⟨n0+1,0,GE⟩ (.int .i64 e.k)).setCell ⟨n0+1,1,GE⟩ (.int .i64 e.n)).setCell ⟨n0+1,2,GE⟩ (stv e.nm)).setCell ⟨n0+1,3,GE⟩ (.slice (GF ⟨M,0,GE⟩) e.kids.len c5)).setCell ⟨n0+1,4,GE⟩ (.slice (GF ⟨z,0,GE⟩) cells.length c9))/\y.cell? ⟨n0+1,0,GE⟩=GF (.int .i64 e.k)/\y.cell? ⟨n0+1,1,GE⟩=GF (.int .i64 e.n)/\y.cell? ⟨n0+1,2,GE⟩=GF (stv e.nm)/\y.cell? ⟨n0+1,3,GE⟩=GF (.slice (GF ⟨M,0,GE⟩) e.kids.len c5)/\y.cell? ⟨n0+1,4,GE⟩=GF (.slice (GF ⟨z,0,GE⟩) cells.length c9)/\Spn y (Nw n0) e.kids M c5/\LnI y (Nw n0) (.slice (GF ⟨z,0,GE⟩) cells.length c9) cells/\GO n0 w y):=by
   obtain⟨u0,u1,u2,u3,u4,-⟩:=dT (eS (.int .i64 e.k) (.int .i64 e.n) (stv e.nm) (.slice (GF ⟨M,0,GE⟩) e.kids.len c5) (.slice (GF ⟨z,0,GE⟩) cells.length c9) Z9);refine⟨_,rfl,u0,u1,u2,u3,u4,C.2.1.mono (λk q _=>ir g (n0+1) k _ _ _ _ _ (by have q:w1.heap.size<=k:=q;omega)) (by simp) (λk q _=>by have q:w1.heap.size<=k:=q;show n0<=k;omega),U.1.mono (λk q _=>ir g (n0+1) k _ _ _ _ _ q.2) (by simp) (λk q _=>q.1),?_⟩;exact((((C.1.setCell (p:=⟨n0+1,0,GE⟩) (Hz _) _).setCell (p:=⟨n0+1,1,GE⟩) (Hz _) _).setCell (p:=⟨n0+1,2,GE⟩) (Hz _) _).setCell (p:=⟨n0+1,3,GE⟩) (Hz _) _).setCell (p:=⟨n0+1,4,GE⟩) (Hz _) _
  clear C U;go_wp2;obtain⟨y,ad,v0,v1,v2,v3,v4,SZ,LZ,BZ⟩:=HU.out;rw[<-ad];exact GK (v:=plV e (GF ⟨M,0,GE⟩) c5 (.slice (GF ⟨z,0,GE⟩) cells.length c9)) (by simp[results,Tryz.results15,go_sem,v0,v1,v2,v3,v4,plV]) rfl ⟨M,c5,_,rfl,by rw[<-W.out];exact SZ,by rw[<-W.out];exact LZ,by rw[<-W.out];exact BZ⟩)
theorem uW (e:Ex)(b0 cap:Nat)(I:GN)(b:Option Ha)(a:Nat)(m:GN)(cells:List Int)(w:GI)(q:e.kids.len<=1000000000)(G:e.kids.short)(H:cells.length<=1000000000)(S:lH w e.kids b0 cap)(N:SnA w e.kids b)(y:LnI w (λ_=>True) I cells)(h:InA w m cells) :
  GV GH 18 #[plV e (GF ⟨b0,0,GE⟩) cap I,plV e b a m] w λx w'=>x=.returned (.bool true)/\GO w.heap.size w w':=by
 obtain⟨g,c,r,s⟩:=y;have y:LnI w (λ_=>True) I cells:=⟨g,c,r,s⟩;subst r;obtain⟨j,i,k,p⟩:=h;have h:InA w m cells:=⟨j,i,k,p⟩;subst k;clear s p;obtain⟨w0,d⟩:=exq ((w.alloc (zPl e (GF ⟨b0,0,GE⟩) cap (GF ⟨g,0,GE⟩) cells.length c)).alloc (zPl e b a j cells.length i));have n:GO w.heap.size w w0:=by rw[d];exact((GR _ w).alloc (GG _) _).alloc (by simp) _
 have o:w0.heap[w.heap.size]?=GF (zPl e (GF ⟨b0,0,GE⟩) cap (GF ⟨g,0,GE⟩) cells.length c):=by
  rw[d];exact(GS _ _ _ (by simp)).trans (GL w _)
 have t:w0.heap[w.heap.size+1]?=GF (zPl e b a j cells.length i):=by
  rw[d]
  have:=GL (w.alloc (zPl e (GF ⟨b0,0,GE⟩) cap (GF ⟨g,0,GE⟩) cells.length c)) (zPl e b a j cells.length i)
  simpa using this
 have P:=lH.below S n;have M:=SnA.below N n;have L0:=y.below n;have R:=h.below n;have c1:=yz w0 _ _ cells cells L0.inA R H;rw[decide_eq_true rfl] at c1;rw[fp,fp];go_enter Tryz.func18,Tryz.ntmps18;go_upto_region 1 with fail;rw[<-d];clear d;obtain⟨bx,l⟩:=exq w.heap.size;rw[<-l] at o t n ⊢;have HB:Hid (bx=w.heap.size):=l;clear l S N y h R;obtain⟨p0,p1,p2,p3,p4,v⟩:=dT o;obtain⟨D,C,q2,B,A,z⟩:=dT t;go_wp2_with fail;refine c1.mono ?_;rintro x w1 ⟨rfl,b1⟩;have u:=(b1.block _ (GJ o)).trans o;have K:=(b1.block _ (GJ t)).trans t;have O:=lH.below P b1;have L:=SnA.below M b1;have Q:=L0.below b1;have T:=n.trans (b1.mono (by have:=GJ o;omega));clear c1 b1 o t P M L0 n p0 p1 p2 p3 p4 v D C q2 B A z;obtain⟨p0,p1,p2,p3,p4,v⟩:=dT u;obtain⟨D,C,q2,B,A,z⟩:=dT K;have c2:=tj (e.kids.size+1) e b0 cap b a w1 (by omega) q G O L;rw[dS,dS] at c2;go_wp2_with fail;refine c2.mono ?_;rintro x w2 ⟨rfl,b2⟩;have E2:=(b2.block _ (GJ u)).trans u;have Z:=Q.below b2;have B2:=T.trans (b2.mono (by have:=GJ u;omega));clear c2 b2 u K O L Q T p0 p1 p2 p3 p4 v D C q2 B A z;obtain⟨p0,p1,p2,p3,p4,v⟩:=dT E2;obtain⟨g',c',V,-,W,h1,h2,-,h7⟩:=Z;injection V with f F E
 injection f with f
 injection f with f
 subst f;subst E;have U:IntKind.i64.wrap ((cells.length:Int)+1)=(cells.length:Int)+1:=by rw[Im];omega
 clear F;go_upto_region 3 with fail
 go_quiet (fail)
 go_wp2;go_ret;exact⟨rfl,by rw[<-HB.out];exact bdr B2 nq⟩
structure CdQ where
 ws:List Int
 cs:List Int
 ns:List ByteArray
 ks:List Int
def pQ (w:GI)(ao:Option Ha)(xs:List GN):Prop :=
 xs=[]\/∃b off,ao=GF ⟨b,off,GE⟩/\b<w.heap.size/\∀ j x,xs[j]?=GF x->w.cell? ⟨b,off+j,GE⟩=GF x
theorem pQ.below {w w':GI}{ao:Option Ha}{xs:List GN}(h:pQ w ao xs)(B:GO w.heap.size w w'):pQ w' ao xs:=by
 rcases h with h|⟨b,off,rfl,a,d⟩
 ·exact .inl h
 ·exact .inr ⟨b,off,rfl,GQ a B.size,λj x c=>(B.cell (p:=⟨b,off+j,GE⟩) a).trans (d j x c)⟩
theorem pQ.at {w:GI}{ao:Option Ha}{xs:List GN}(h:pQ w ao xs){j:Nat}{x:GN}(c:xs[j]?=GF x):∃b off,ao=GF ⟨b,off,GE⟩/\b<w.heap.size/\w.cell? ⟨b,off+j,GE⟩=GF x:=by
 rcases h with rfl|⟨b,off,rfl,a,d⟩
 ·simp at c
 ·exact⟨b,off,rfl,a,d j x c⟩
def sK (l:List Int):List GN:=l.map (.int .u64 ·)
def xK (l:List Int):List GN:=l.map (.int .i64 ·)
def tq (l:List ByteArray):List GN:=l.map (.string ·)
theorem vX {l:List Int}{k:Nat}(h:k<l.length):(sK l)[k]?=GF (.int .u64 l[k]):=by
 simp[sK,GM h]
theorem mB {l:List Int}{k:Nat}(h:k<l.length):(xK l)[k]?=GF (.int .i64 l[k]):=by
 simp[xK,GM h]
theorem vh {l:List ByteArray}{k:Nat}(h:k<l.length):(tq l)[k]?=GF (.string l[k]):=by
 simp[tq,GM h]
structure PlQ where
 aw:Option Ha
 cw:Nat
 ac:Option Ha
 cc:Nat
 an:Option Ha
 cn:Nat
 ak:Option Ha
 ck:Nat
abbrev kq (p:PlQ)(c:CdQ):Array GN:=#[.slice p.aw c.ws.length p.cw,.slice p.ac c.cs.length p.cc,.slice p.an c.ns.length p.cn,.slice p.ak c.ks.length p.ck]
abbrev xw (p:PlQ)(c:CdQ):GN:=.agg (kq p c)
structure mS (w:GI)(p:PlQ)(c:CdQ):Prop where
 ws:pQ w p.aw (sK c.ws)
 cs:pQ w p.ac (xK c.cs)
 ns:pQ w p.an (tq c.ns)
 ks:pQ w p.ak (xK c.ks)
 lw:c.ws.length<=9223372036854775807
 lc:c.cs.length<=9223372036854775807
 ln:c.ns.length<=9223372036854775807
 lk:c.ks.length<=9223372036854775807
theorem mS.below {w w':GI}{p:PlQ}{c:CdQ}(h:mS w p c)(B:GO w.heap.size w w'):mS w' p c :=
 ⟨h.ws.below B,h.cs.below B,h.ns.below B,h.ks.below B,h.lw,h.lc,h.ln,h.lk⟩
theorem FR (w:GI)(a b c d:GN)(t:Hp):(w.alloc (.cells #[a,b,c,d] t)).heap[w.heap.size]?=GF (.cells #[a,b,c,d] t (0,0)):=GL _ _
theorem sC {w:GI}{g:Nat}{a b c d:GN}{t:Hp}(h:w.heap[g]?=GF (.cells #[a,b,c,d] t (0,0))):w.cell? ⟨g,0,GE⟩=GF a/\w.cell? ⟨g,1,GE⟩=GF b/\w.cell? ⟨g,2,GE⟩=GF c/\w.cell? ⟨g,3,GE⟩=GF d:=by
 refine⟨?_,?_,?_,?_⟩<;>simp[JJ,h]
abbrev sU (p:PlQ)(c:CdQ)(w:GI)(b:Nat):Prop:=w.cell? ⟨b,0,GE⟩=GF (.slice p.aw c.ws.length p.cw)/\w.cell? ⟨b,1,GE⟩=GF (.slice p.ac c.cs.length p.cc)/\w.cell? ⟨b,2,GE⟩=GF (.slice p.an c.ns.length p.cn)/\w.cell? ⟨b,3,GE⟩=GF (.slice p.ak c.ks.length p.ck)
theorem lJ {p:PlQ}{c:CdQ}{w w':GI}{b:Nat}(h:sU p c w b)(a:b<w.heap.size)(B:GO w.heap.size w w'):sU p c w' b :=
 ⟨(B.cell (p:=⟨b,0,GE⟩) a).trans h.1,(B.cell (p:=⟨b,1,GE⟩) a).trans h.2.1,(B.cell (p:=⟨b,2,GE⟩) a).trans h.2.2.1,(B.cell (p:=⟨b,3,GE⟩) a).trans h.2.2.2⟩
theorem sw (p:PlQ)(c:CdQ)(w:GI):sU p c (w.alloc (.cells (kq p c) 42)) w.heap.size:=sC (FR _ _ _ _ _ _)
theorem dQ.newQ {I:Nat->Prop}{w w':GI}(o:Nat->Nat)(i:Nat)(B:GO w.heap.size w w'):dQ I w o w' (dR w o i):=⟨B.os,B.tape,B.output,B.size,λk a=>ed a,λk a _=>B.block k a⟩
theorem Row.lsvQ {w:GI}{o:Nat->Nat}{i:Nat}{e:Hp}{ao:Option Ha}{n cap:Nat}{xs:List GN}(h:Row w o i e 1 (.slice ao n cap) n xs):pQ w ao xs:=by
 by_cases f:0<n
 ·obtain⟨g,c,d,-,-,-,a,m,-⟩:=h.pos f;simp only[Iv,true_and] at d;refine .inr ⟨g,0,d.1,a,λj x b=>?_⟩;have k:=h.len;have l:j<n*1:=by have:=(List.getElem?_eq_some_iff.1 b).1;omega
  rw[Ib,m j l];exact b
 ·have k:=h.len;exact .inl (I6 (by omega))
theorem lf {g:Nat}{w w':GI}(h:GO g w w')(n:Nat):GO g w (w'.drewN n):=by
 induction n with
 | zero=>exact h
 | succ n a=>exact a.drew
theorem ye (p q:PlQ)(c:CdQ)(w:GI)(H:mS w p c)(G:mS w q c) :
  GV GH 17 #[xw p c,xw q c] w λe w'=>e=.returned (.bool true)/\GO w.heap.size w w':=by
 obtain⟨g,m⟩:=exq w.heap.size;obtain⟨w2,d⟩:=exq ((w.alloc (.cells (kq p c) 42)).alloc (.cells (kq q c) 42));have F:GO g w w2:=by rw[d,m];exact((GR _ w).alloc (GG _) _).alloc (by simp) _
 have z2:w2.heap.size=g+2:=by rw[d,m];simp
 have L:sU p c w2 g:=by
  rw[d,m];exact lJ (sw p c w) (by simp) (b1 _ _)
 have J:sU q c w2 (g+1):=by
  have:=sw q c (w.alloc (.cells (kq p c) 42))
  rw[d,m];simpa using this
 have y:mS w2 p c:=H.below (by rw[<-m];exact F);have I:mS w2 q c:=G.below (by rw[<-m];exact F);have M:=GP m;have A:=y.lw;have z:=y.lc;have P:=y.ln;have O:=y.lk;clear H G m;have K:∀ {wr:GI},GO w2.heap.size w2 wr->sU p c wr g/\sU q c wr (g+1)/\mS wr p c/\mS wr q c:=λ{wr} B=>⟨lJ L (by omega) B,lJ J (by omega) B,y.below B,I.below B⟩;have N:GO w2.heap.size w2 w2:=GR _ _;obtain⟨a0,a1,a2,a3⟩:=L;obtain⟨e0,l,j,i⟩:=J;clear y I;go_enter Tryz.func17,Tryz.ntmps17;go_wp2_with fail;rw[<-d,<-M.out];clear d;go_wp2_with fail;go_loopw [5] (λv wr=>∃k:Nat,v=.int .i64 k/\k<=c.ws.length/\GO w2.heap.size w2 wr) (λv _=>c.ws.length-(Hl v).toNat)
 case atStart=>exact⟨0,by go_num,by omega,N⟩
 case round =>
  obtain⟨k,rfl,E,x⟩:=hrel;clear a0 a1 a2 a3 e0 l j i;obtain⟨⟨a0,a1,a2,a3⟩,⟨e0,l,j,i⟩,h,f⟩:=K x;by_cases a:k<c.ws.length
  ·have b:(k:Int)<(c.ws.length:Int):=by omega
   obtain⟨b1,D,h1,A,o⟩:=h.ws.at (vX a);obtain⟨b2,C,h2,z,n⟩:=f.ws.at (vX a);generalize c.ws[k]=u at o n;rw[h1] at a0;rw[h2] at e0;go_wp2_with fail
   go_quiet (fail)
   go_wp2;go_roundw
   case rel=>(try ((repeat apply G9);refine⟨?_,rfl⟩));exact⟨k+1,by go_num,by omega,lf x _⟩
   case measure=>simp[Hl];omega
  ·have b:¬(k:Int)<(c.ws.length:Int):=by omega
   clear h f;go_wp2_with fail;go_loopw [6] (λv wr=>∃k:Nat,v=.int .i64 k/\k<=c.cs.length/\GO w2.heap.size w2 wr) (λv _=>c.cs.length-(Hl v).toNat)
   case atStart=>exact⟨0,by go_num,by omega,x⟩
   case round =>
    obtain⟨k,rfl,E,t⟩:=hrel;clear a0 a1 a2 a3 e0 l j i;obtain⟨⟨a0,a1,a2,a3⟩,⟨e0,l,j,i⟩,h,f⟩:=K t;by_cases a:k<c.cs.length
    ·have b:(k:Int)<(c.cs.length:Int):=by omega
     obtain⟨b1,D,h1,A,o⟩:=h.cs.at (mB a);obtain⟨b2,C,h2,z,n⟩:=f.cs.at (mB a);generalize c.cs[k]=u at o n;rw[h1] at a1;rw[h2] at l;go_wp2_with fail
     go_quiet (fail)
     go_wp2;go_roundw
     case rel=>(try ((repeat apply G9);refine⟨?_,rfl⟩));exact⟨k+1,by go_num,by omega,lf t _⟩
     case measure=>simp[Hl];omega
    ·have b:¬(k:Int)<(c.cs.length:Int):=by omega
     clear h f;go_wp2_with fail;go_loopw [7] (λv wr=>∃k:Nat,v=.int .i64 k/\k<=c.ns.length/\GO w2.heap.size w2 wr) (λv _=>c.ns.length-(Hl v).toNat)
     case atStart=>exact⟨0,by go_num,by omega,t⟩
     case round =>
      obtain⟨k,rfl,E,s⟩:=hrel;clear a0 a1 a2 a3 e0 l j i;obtain⟨⟨a0,a1,a2,a3⟩,⟨e0,l,j,i⟩,h,f⟩:=K s;by_cases a:k<c.ns.length
      ·have b:(k:Int)<(c.ns.length:Int):=by omega
       obtain⟨b1,D,h1,A,o⟩:=h.ns.at (vh a);obtain⟨b2,C,h2,z,n⟩:=f.ns.at (vh a);generalize c.ns[k]=u at o n;rw[h1] at a2;rw[h2] at j;go_wp2_with fail
       go_quiet (fail)
       go_wp2;go_roundw
       case rel=>(try ((repeat apply G9);refine⟨?_,rfl⟩));exact⟨k+1,by go_num,by omega,lf s _⟩
       case measure=>simp[Hl];omega
      ·have b:¬(k:Int)<(c.ns.length:Int):=by omega
       clear h f;go_wp2_with fail;go_loopw [8] (λv wr=>∃k:Nat,v=.int .i64 k/\k<=c.ks.length/\GO w2.heap.size w2 wr) (λv _=>c.ks.length-(Hl v).toNat)
       case atStart=>exact⟨0,by go_num,by omega,s⟩
       case round =>
        obtain⟨k,rfl,E,r⟩:=hrel;clear a0 a1 a2 a3 e0 l j i;obtain⟨⟨a0,a1,a2,a3⟩,⟨e0,l,j,i⟩,h,f⟩:=K r;by_cases a:k<c.ks.length
        ·have b:(k:Int)<(c.ks.length:Int):=by omega
         obtain⟨b1,D,h1,A,o⟩:=h.ks.at (mB a);obtain⟨b2,C,h2,z,n⟩:=f.ks.at (mB a);generalize c.ks[k]=u at o n;rw[h1] at a3;rw[h2] at i;go_wp2_with fail
         go_quiet (fail)
         go_wp2;go_roundw
         case rel=>(try ((repeat apply G9);refine⟨?_,rfl⟩));exact⟨k+1,by go_num,by omega,lf r _⟩
         case measure=>simp[Hl];omega
        ·have b:¬(k:Int)<(c.ks.length:Int):=by omega
         go_wp2;go_ret;exact⟨rfl,by rw[<-M.out];exact F.trans (r.mono (by omega))⟩
structure tv (w:GI)(o:Nat->Nat)(p:PlQ)(c:CdQ):Prop where
 ws:Row w o 3 54 1 (.slice p.aw c.ws.length p.cw) c.ws.length (sK c.ws)
 cs:Row w o 4 3 1 (.slice p.ac c.cs.length p.cc) c.cs.length (xK c.cs)
 ns:Row w o 5 9 1 (.slice p.an c.ns.length p.cn) c.ns.length (tq c.ns)
 ks:Row w o 6 3 1 (.slice p.ak c.ks.length p.ck) c.ks.length (xK c.ks)
 lw:c.ws.length<=32768
 lc:c.cs.length<=100000000
 ln:c.ns.length<=100000000
 lk:c.ks.length<=256
theorem tv.step {I:Nat->Prop}{w w':GI}{o o':Nat->Nat}{p:PlQ}{c:CdQ}(h:tv w o p c)(s:dQ I w o w' o')(d:¬I 3)(b:¬I 4)(h5:¬I 5)(a:¬I 6):tv w' o' p c :=
 ⟨h.ws.step s d,h.cs.step s b,h.ns.step s h5,h.ks.step s a,h.lw,h.lc,h.ln,h.lk⟩
abbrev ph:Nat->Prop:=λk=>3<=k/\k<=6
theorem Row.put1Q {w:GI}{o:Nat->Nat}{i:Nat}{e:Hp}{ao:Option Ha}{n cap:Nat}{xs:List GN}(h:Row w o i e 1 (.slice ao n cap) n xs){j:Nat}(q:j<n) :
  ∃b x,ao=GF ⟨b,0,GE⟩/\o b=i/\w.cell? ⟨b,j,GE⟩=GF x/\w.frozen? ⟨b,j,GE⟩=false/\∀ u,Row (w.setCell ⟨b,j,GE⟩ u) o i e 1 (.slice ao n cap) n (xs.set j u):=by
 obtain⟨g,c,f,k,-,-,-,m,l⟩:=h.pos (by omega);simp only[Iv,true_and] at f;obtain⟨rfl,rfl⟩:=f;have p:=h.len;have d:j<xs.length:=by omega
 exact⟨g,xs[j],rfl,k,by rw[m j (by omega)];exact GM d,l j,λu=>h.store j u⟩
structure ki (w0:GI)(o0:Nat->Nat)(g:Nat)(p:PlQ)(c:CdQ)(w:GI)(o:Nat->Nat):Prop where
 bx:Blk w o 9 g (.cells (kq p c) 42)
 ws:∃xs,Row w o 3 54 1 (.slice p.aw c.ws.length p.cw) c.ws.length xs
 cs:∃xs,Row w o 4 3 1 (.slice p.ac c.cs.length p.cc) c.cs.length xs
 ns:∃xs,Row w o 5 9 1 (.slice p.an c.ns.length p.cn) c.ns.length xs
 ks:∃xs,Row w o 6 3 1 (.slice p.ak c.ks.length p.ck) c.ks.length xs
 sp:dQ ph w0 o0 w o
theorem ki.ws1 {w0 w:GI}{o0 o:Nat->Nat}{g:Nat}{p:PlQ}{c:CdQ}(h:ki w0 o0 g p c w o){j:Nat}(l:j<c.ws.length):∃b x,p.aw=GF ⟨b,0,GE⟩/\w.cell? ⟨b,j,GE⟩=GF x/\w.frozen? ⟨b,j,GE⟩=false/\∀ u,ki w0 o0 g p c (w.setCell ⟨b,j,GE⟩ u) o:=by
 obtain⟨xs,e⟩:=h.ws;obtain⟨b,x,q,n,m,e4,f⟩:=e.put1Q l;have S:∀ u,dQ (λk=>k=3) w o (w.setCell ⟨b,j,GE⟩ u) o:=λu=>(dQ.refl _ w o).setCell ⟨b,j,GE⟩ u n;exact⟨b,x,q,m,e4,λu=>⟨h.bx.step (S u) (by decide),⟨_,f u⟩,(by obtain⟨a,d⟩:=h.cs;exact⟨a,d.step (S u) (by decide)⟩),(by obtain⟨a,d⟩:=h.ns;exact⟨a,d.step (S u) (by decide)⟩),(by obtain⟨a,d⟩:=h.ks;exact⟨a,d.step (S u) (by decide)⟩),h.sp.trans ((S u).mono (λk i=>by subst i;decide))⟩⟩
theorem ki.cs1 {w0 w:GI}{o0 o:Nat->Nat}{g:Nat}{p:PlQ}{c:CdQ}(h:ki w0 o0 g p c w o){j:Nat}(l:j<c.cs.length):∃b x,p.ac=GF ⟨b,0,GE⟩/\w.cell? ⟨b,j,GE⟩=GF x/\w.frozen? ⟨b,j,GE⟩=false/\∀ u,ki w0 o0 g p c (w.setCell ⟨b,j,GE⟩ u) o:=by
 obtain⟨xs,e⟩:=h.cs;obtain⟨b,x,q,n,m,e4,f⟩:=e.put1Q l;have S:∀ u,dQ (λk=>k=4) w o (w.setCell ⟨b,j,GE⟩ u) o:=λu=>(dQ.refl _ w o).setCell ⟨b,j,GE⟩ u n;exact⟨b,x,q,m,e4,λu=>⟨h.bx.step (S u) (by decide),(by obtain⟨a,d⟩:=h.ws;exact⟨a,d.step (S u) (by decide)⟩),⟨_,f u⟩,(by obtain⟨a,d⟩:=h.ns;exact⟨a,d.step (S u) (by decide)⟩),(by obtain⟨a,d⟩:=h.ks;exact⟨a,d.step (S u) (by decide)⟩),h.sp.trans ((S u).mono (λk i=>by subst i;decide))⟩⟩
theorem ki.ns1 {w0 w:GI}{o0 o:Nat->Nat}{g:Nat}{p:PlQ}{c:CdQ}(h:ki w0 o0 g p c w o){j:Nat}(l:j<c.ns.length):∃b x,p.an=GF ⟨b,0,GE⟩/\w.cell? ⟨b,j,GE⟩=GF x/\w.frozen? ⟨b,j,GE⟩=false/\∀ u,ki w0 o0 g p c (w.setCell ⟨b,j,GE⟩ u) o:=by
 obtain⟨xs,e⟩:=h.ns;obtain⟨b,x,q,n,m,e4,f⟩:=e.put1Q l;have S:∀ u,dQ (λk=>k=5) w o (w.setCell ⟨b,j,GE⟩ u) o:=λu=>(dQ.refl _ w o).setCell ⟨b,j,GE⟩ u n;exact⟨b,x,q,m,e4,λu=>⟨h.bx.step (S u) (by decide),(by obtain⟨a,d⟩:=h.ws;exact⟨a,d.step (S u) (by decide)⟩),(by obtain⟨a,d⟩:=h.cs;exact⟨a,d.step (S u) (by decide)⟩),⟨_,f u⟩,(by obtain⟨a,d⟩:=h.ks;exact⟨a,d.step (S u) (by decide)⟩),h.sp.trans ((S u).mono (λk i=>by subst i;decide))⟩⟩
theorem ki.ks1 {w0 w:GI}{o0 o:Nat->Nat}{g:Nat}{p:PlQ}{c:CdQ}(h:ki w0 o0 g p c w o){j:Nat}(l:j<c.ks.length):∃b x,p.ak=GF ⟨b,0,GE⟩/\w.cell? ⟨b,j,GE⟩=GF x/\w.frozen? ⟨b,j,GE⟩=false/\∀ u,ki w0 o0 g p c (w.setCell ⟨b,j,GE⟩ u) o:=by
 obtain⟨xs,e⟩:=h.ks;obtain⟨b,x,q,n,m,e4,f⟩:=e.put1Q l;have S:∀ u,dQ (λk=>k=6) w o (w.setCell ⟨b,j,GE⟩ u) o:=λu=>(dQ.refl _ w o).setCell ⟨b,j,GE⟩ u n;exact⟨b,x,q,m,e4,λu=>⟨h.bx.step (S u) (by decide),(by obtain⟨a,d⟩:=h.ws;exact⟨a,d.step (S u) (by decide)⟩),(by obtain⟨a,d⟩:=h.cs;exact⟨a,d.step (S u) (by decide)⟩),(by obtain⟨a,d⟩:=h.ns;exact⟨a,d.step (S u) (by decide)⟩),⟨_,f u⟩,h.sp.trans ((S u).mono (λk i=>by subst i;decide))⟩⟩
theorem Dx (p:PlQ)(c:CdQ)(w:GI)(o:Nat->Nat)(h:tv w o p c) :
  GV GH 19 #[xw p c] w λe w'=>e=.returned (.tuple #[])/\∃o',dQ ph w o w' o':=by
 obtain⟨iw,iw1,iw2,iw3,iw4⟩:=ek uq;obtain⟨ii,ii1,ii2,ii3,ii4⟩:=ek rH;obtain⟨is,is1,is2,is3,is4⟩:=ek tR;obtain⟨g,hg⟩:∃g,g=w.heap.size:=⟨_,rfl⟩;obtain⟨w2,hw2⟩:∃w2,w2=w.alloc (.cells (kq p c) 42):=⟨_,rfl⟩;have SN:∀ {I:Nat->Prop},dQ I w o w2 (dR w o 9):=λ{I}=>dQ.newQ o 9 (by rw[hw2];exact b1 _ _);have G2:Blk w2 (dR w o 9) 9 g (.cells (kq p c) 42):=by rw[hw2,hg];exact⟨GL _ _,dY (GG _)⟩
 have h2:=h.step (SN (I:=λ_=>False)) id id id id;have Z0:ki w2 (dR w o 9) g p c w2 (dR w o 9):=⟨G2,⟨_,h2.ws⟩,⟨_,h2.cs⟩,⟨_,h2.ns⟩,⟨_,h2.ks⟩,dQ.refl _ _ _⟩;have SO:dQ ph w o w2 (dR w o 9):=SN;have l1:=h.lw;have l2:=h.lc;have l3:=h.ln;have l4:=h.lk;generalize dR w o 9=o2 at *;have HG:=GP hg;have HSO:=GP SO;clear SN SO G2 h h2 hg;obtain⟨⟨a0,a1,a2,a3⟩,-⟩:=dW Z0.bx.1;go_enter Tryz.func19,Tryz.ntmps19;go_wp2_with fail;rw[<-hw2,<-HG.out];clear hw2;go_wp2_with fail;go_loopw [2] (λv wr=>∃k:Nat,v=.int .i64 (k:Nat)/\k<=c.ws.length/\ki w2 o2 g p c wr o2) (λv _=>c.ws.length-(Hl v).toNat)
 case atStart=>exact⟨0,by go_num,by omega,Z0⟩
 case round =>
  obtain⟨k,rfl,hk,Z1⟩:=hrel;clear a0 a1 a2 a3;obtain⟨⟨a0,a1,a2,a3⟩,-⟩:=dW Z1.bx.1;by_cases hlt:k<c.ws.length
  ·have hkI:(k:Int)<(c.ws.length:Int):=by omega
   obtain⟨b,x,e1,e2,e3,HZ⟩:=Z1.ws1 hlt;have HZ2:=GP (HZ (.int .u64 9));rw[e1] at a0;clear HZ e1;go_wp2;go_roundw
   case rel=>(try ((repeat apply G9);refine⟨?_,rfl⟩));exact⟨k+1,by go_num,by omega,HZ2.out⟩
   case measure=>simp[Hl];omega
  ·have hkI:¬(k:Int)<(c.ws.length:Int):=by omega
   clear hlt hk;go_wp2_with fail;go_loopw [3] (λv wr=>∃k:Nat,v=.int .i64 (k:Nat)/\k<=c.cs.length/\ki w2 o2 g p c wr o2) (λv _=>c.cs.length-(Hl v).toNat)
   case atStart=>exact⟨0,by go_num,by omega,Z1⟩
   case round =>
    obtain⟨k,rfl,hk,Z2⟩:=hrel;clear a0 a1 a2 a3;obtain⟨⟨a0,a1,a2,a3⟩,-⟩:=dW Z2.bx.1;by_cases hlt:k<c.cs.length
    ·have hkI:(k:Int)<(c.cs.length:Int):=by omega
     obtain⟨b,x,e1,e2,e3,HZ⟩:=Z2.cs1 hlt;have HZ2:=GP (HZ (.int .i64 (-9)));rw[e1] at a1;clear HZ e1;go_wp2;go_roundw
     case rel=>(try ((repeat apply G9);refine⟨?_,rfl⟩));exact⟨k+1,by go_num,by omega,HZ2.out⟩
     case measure=>simp[Hl];omega
    ·have hkI:¬(k:Int)<(c.cs.length:Int):=by omega
     clear hlt hk;go_wp2_with fail;go_loopw [4] (λv wr=>∃k:Nat,v=.int .i64 (k:Nat)/\k<=c.ns.length/\ki w2 o2 g p c wr o2) (λv _=>c.ns.length-(Hl v).toNat)
     case atStart=>exact⟨0,by go_num,by omega,Z2⟩
     case round =>
      obtain⟨k,rfl,hk,Z3⟩:=hrel;clear a0 a1 a2 a3;obtain⟨⟨a0,a1,a2,a3⟩,-⟩:=dW Z3.bx.1;by_cases hlt:k<c.ns.length
      ·have hkI:(k:Int)<(c.ns.length:Int):=by omega
       obtain⟨b,x,e1,e2,e3,HZ⟩:=Z3.ns1 hlt;have HZ2:=GP (HZ (.string ⟨#[111,118,101,114]⟩));rw[e1] at a2;clear HZ e1;go_wp2;go_roundw
       case rel=>(try ((repeat apply G9);refine⟨?_,rfl⟩));exact⟨k+1,by go_num,by omega,HZ2.out⟩
       case measure=>simp[Hl];omega
      ·have hkI:¬(k:Int)<(c.ns.length:Int):=by omega
       clear hlt hk;go_wp2_with fail;go_loopw [5] (λv wr=>∃k:Nat,v=.int .i64 (k:Nat)/\k<=c.ks.length/\ki w2 o2 g p c wr o2) (λv _=>c.ks.length-(Hl v).toNat)
       case atStart=>exact⟨0,by go_num,by omega,Z3⟩
       case round =>
        obtain⟨k,rfl,hk,Z4⟩:=hrel;clear a0 a1 a2 a3;obtain⟨⟨a0,a1,a2,a3⟩,-⟩:=dW Z4.bx.1;by_cases hlt:k<c.ks.length
        ·have hkI:(k:Int)<(c.ks.length:Int):=by omega
         obtain⟨b,x,e1,e2,e3,HZ⟩:=Z4.ks1 hlt;have HZ2:=GP (HZ (.int .i64 (-9)));rw[e1] at a3;clear HZ e1;go_wp2;go_roundw
         case rel=>(try ((repeat apply G9);refine⟨?_,rfl⟩));exact⟨k+1,by go_num,by omega,HZ2.out⟩
         case measure=>simp[Hl];omega
        ·have hkI:¬(k:Int)<(c.ks.length:Int):=by omega
         clear hlt hk;obtain⟨x1,P1⟩:=Z4.ws;obtain⟨x2,P2⟩:=Z4.cs;obtain⟨x3,P3⟩:=Z4.ns;obtain⟨x4,P4⟩:=Z4.ks;have SX:=Z4.sp;have BX:=Z4.bx;clear Z4;go_wp2_with (first|(at_builtin;refine eb rfl _ _ 39 rfl 54 iw (.int .u64 0) 1 8 Tryz.underlying39 iw1 iw2 iw3 iw4 rfl (by decide) o2 3 _ c.ws.length x1 (by first|rfl|(simp;done)) (P1.step (dQ.ofBelow (I:=λ_=>False) o2 (b1 _ _)) id) ⟨wr.heap.size,0,GE⟩ 1 1 [.int .u64 8] rfl rfl ?c1 ?d1 (by decide) ?e1 ?f1 ?_)|go_in);try case c1=>exact fF _ _ _
         try case d1=>first|rfl|exact kf _ rfl
         case e1=>unfold G5;omega
         case f1=>omega
         intro g1 q1 w1a o1a P1 S1;have S1n:dQ (λk=>k=3) wr o2 w1a o1a:=(dQ.ofBelow o2 (b1 wr (.cells #[.int .u64 8] 54))).trans S1;have SX:=SX.trans (S1n.mono (J:=ph) (λk hk=>by subst hk;decide));have BX:=BX.step S1n (by decide)
         replace P2:=P2.step S1n (by decide)
         replace P3:=P3.step S1n (by decide)
         replace P4:=P4.step S1n (by decide)
         clear S1 S1n a0 a1 a2 a3;obtain⟨⟨a0,a1,a2,a3⟩,-⟩:=dW BX.1;go_wp2_with (first|(at_builtin;refine eb rfl _ _ 35 rfl 3 ii (.int .i64 0) 1 8 Hy ii1 ii2 ii3 ii4 rfl (by decide) o1a 4 _ c.cs.length x2 (by first|rfl|(simp;done)) (P2.step (dQ.ofBelow (I:=λ_=>False) o1a (b1 _ _)) id) ⟨w1a.heap.size,0,GE⟩ 1 1 [.int .i64 8] rfl rfl ?c2 ?d2 (by decide) ?e2 ?f2 ?_)|go_in);try case c2=>exact fF _ _ _
         try case d2=>first|rfl|exact kf _ rfl
         case e2=>unfold G5;omega
         case f2=>omega
         intro g2 q2 w2a o2a P2 S2;have S2n:dQ (λk=>k=4) w1a o1a w2a o2a:=(dQ.ofBelow o1a (b1 w1a (.cells #[.int .i64 8] 3))).trans S2;have SX:=SX.trans (S2n.mono (J:=ph) (λk hk=>by subst hk;decide));have BX:=BX.step S2n (by decide)
         replace P1:=P1.step S2n (by decide)
         replace P3:=P3.step S2n (by decide)
         replace P4:=P4.step S2n (by decide)
         clear S2 S2n a0 a1 a2 a3;obtain⟨⟨a0,a1,a2,a3⟩,-⟩:=dW BX.1;go_wp2_with (first|(at_builtin;refine eb rfl _ _ 40 rfl 9 is (.string ⟨#[]⟩) 1 16 I7 is1 is2 is3 is4 rfl (by decide) o2a 5 _ c.ns.length x3 (by first|rfl|(simp;done)) (P3.step (dQ.ofBelow (I:=λ_=>False) o2a (b1 _ _)) id) ⟨w2a.heap.size,0,GE⟩ 1 1 [.string ⟨#[109,111,114,101]⟩] rfl rfl ?c3 ?d3 (by decide) ?e3 ?f3 ?_)|go_in);try case c3=>exact fF _ _ _
         try case d3=>first|rfl|exact kf _ rfl
         case e3=>unfold G5;omega
         case f3=>omega
         intro g3 q3 w3a o3a P3 S3;have S3n:dQ (λk=>k=5) w2a o2a w3a o3a:=(dQ.ofBelow o2a (b1 w2a (.cells #[.string ⟨#[109,111,114,101]⟩] 9))).trans S3;have SX:=SX.trans (S3n.mono (J:=ph) (λk hk=>by subst hk;decide));have BX:=BX.step S3n (by decide)
         replace P1:=P1.step S3n (by decide)
         replace P2:=P2.step S3n (by decide)
         replace P4:=P4.step S3n (by decide)
         clear S3 S3n a0 a1 a2 a3;obtain⟨⟨a0,a1,a2,a3⟩,-⟩:=dW BX.1;go_wp2_with (first|(at_builtin;refine eb rfl _ _ 35 rfl 3 ii (.int .i64 0) 1 8 Hy ii1 ii2 ii3 ii4 rfl (by decide) o3a 6 _ c.ks.length x4 (by first|rfl|(simp;done)) (P4.step (dQ.ofBelow (I:=λ_=>False) o3a (b1 _ _)) id) ⟨w3a.heap.size,0,GE⟩ 1 1 [.int .i64 8] rfl rfl ?c4 ?d4 (by decide) ?e4 ?f4 ?_)|go_in);try case c4=>exact fF _ _ _
         try case d4=>first|rfl|exact kf _ rfl
         case e4=>unfold G5;omega
         case f4=>omega
         intro g4 q4 w4a o4a P4 S4;have S4n:dQ (λk=>k=6) w3a o3a w4a o4a:=(dQ.ofBelow o3a (b1 w3a (.cells #[.int .i64 8] 3))).trans S4;have SX:=SX.trans (S4n.mono (J:=ph) (λk hk=>by subst hk;decide));have BX:=BX.step S4n (by decide)
         replace P1:=P1.step S4n (by decide)
         replace P2:=P2.step S4n (by decide)
         replace P3:=P3.step S4n (by decide)
         clear S4 S4n a0 a1 a2 a3;obtain⟨⟨a0,a1,a2,a3⟩,-⟩:=dW BX.1;obtain⟨b1,y1,r1,ob1,c1,f1,R1⟩:=P1.put1Q (j:=c.ws.length) (by omega);cases r1;have S1:dQ (λk=>k=3) w4a o4a (w4a.setCell ⟨g1,c.ws.length,GE⟩ (.int .u64 1)) o4a:=(dQ.refl _ _ _).setCell ⟨g1,c.ws.length,GE⟩ (.int .u64 1) ob1
         replace P2:=P2.step S1 (by decide)
         replace P3:=P3.step S1 (by decide)
         replace P4:=P4.step S1 (by decide)
         have SX:=SX.trans (S1.mono (J:=ph) (λk hk=>by subst hk;decide));clear S1 R1;obtain⟨v1,hv1⟩:∃v1,v1=w4a.setCell ⟨g1,c.ws.length,GE⟩ (.int .u64 1):=⟨_,rfl⟩;have hI1:((c.ws.length:Int)+1)-1=(c.ws.length:Int):=by omega
         try rw[<-hv1] at SX
         try rw[<-hv1] at P2
         try rw[<-hv1] at P3
         try rw[<-hv1] at P4
         have HV1:=GP hv1;clear hv1;go_upto_region 22 with fail;rw[<-HV1.out];clear HV1;obtain⟨b2,y2,r2,ob2,c2,f2,R2⟩:=P2.put1Q (j:=c.cs.length) (by omega);cases r2;have S2:dQ (λk=>k=4) v1 o4a (v1.setCell ⟨g2,c.cs.length,GE⟩ (.int .i64 1)) o4a:=(dQ.refl _ _ _).setCell ⟨g2,c.cs.length,GE⟩ (.int .i64 1) ob2
         replace P3:=P3.step S2 (by decide)
         replace P4:=P4.step S2 (by decide)
         have SX:=SX.trans (S2.mono (J:=ph) (λk hk=>by subst hk;decide));clear S2 R2;obtain⟨v2,hv2⟩:∃v2,v2=v1.setCell ⟨g2,c.cs.length,GE⟩ (.int .i64 1):=⟨_,rfl⟩;have hI2:((c.cs.length:Int)+1)-1=(c.cs.length:Int):=by omega
         try rw[<-hv2] at SX
         try rw[<-hv2] at P3
         try rw[<-hv2] at P4
         have HV2:=GP hv2;clear hv2;go_upto_region 23 with fail;rw[<-HV2.out];clear HV2;obtain⟨b3,y3,r3,ob3,c3,f3,R3⟩:=P3.put1Q (j:=c.ns.length) (by omega);cases r3;have S3:dQ (λk=>k=5) v2 o4a (v2.setCell ⟨g3,c.ns.length,GE⟩ (.string ⟨#[103,114,111,119,110]⟩)) o4a:=(dQ.refl _ _ _).setCell ⟨g3,c.ns.length,GE⟩ (.string ⟨#[103,114,111,119,110]⟩) ob3
         replace P4:=P4.step S3 (by decide)
         have SX:=SX.trans (S3.mono (J:=ph) (λk hk=>by subst hk;decide));clear S3 R3;obtain⟨v3,hv3⟩:∃v3,v3=v2.setCell ⟨g3,c.ns.length,GE⟩ (.string ⟨#[103,114,111,119,110]⟩):=⟨_,rfl⟩;have hI3:((c.ns.length:Int)+1)-1=(c.ns.length:Int):=by omega
         try rw[<-hv3] at SX
         try rw[<-hv3] at P4
         have HV3:=GP hv3;clear hv3;go_upto_region 24 with fail;rw[<-HV3.out];clear HV3;obtain⟨b4,y4,r4,ob4,c4,f4,R4⟩:=P4.put1Q (j:=c.ks.length) (by omega);cases r4;have S4:dQ (λk=>k=6) v3 o4a (v3.setCell ⟨g4,c.ks.length,GE⟩ (.int .i64 1)) o4a:=(dQ.refl _ _ _).setCell ⟨g4,c.ks.length,GE⟩ (.int .i64 1) ob4;have SX:=SX.trans (S4.mono (J:=ph) (λk hk=>by subst hk;decide));clear S4 R4;obtain⟨v4,hv4⟩:∃v4,v4=v3.setCell ⟨g4,c.ks.length,GE⟩ (.int .i64 1):=⟨_,rfl⟩;have hI4:((c.ks.length:Int)+1)-1=(c.ks.length:Int):=by omega
         try rw[<-hv4] at SX
         have HV4:=GP hv4;clear hv4;go_wp2
         go_end0
         exact⟨rfl,_,HSO.out.trans (by rw[<-HV4.out];exact SX)⟩
def Ydq (e:Ex)(cells:List Int):CdQ:=if fa cells e≠0/\(emA cells e).ws.length<=32768/\(emA cells e).dp<=1024 then ⟨(emA cells e).ws.map wdI,(emA cells e).cs,(emA cells e).ns.map (λl=>⟨l.toArray⟩),(emA cells e).ks⟩ else ⟨[],[],[],[]⟩
def Rdq (e:Ex)(cells:List Int):Int:=if fa cells e=0 then 140 else if (emA cells e).ws.length<=32768/\(emA cells e).dp<=1024 then 0 else 190
def OutQ (w:GI)(Y:CdQ)(R:Int)(z:IL)(w':GI):Prop :=
 GO w.heap.size w w'/\∃p,z=.returned (.tuple #[xw p Y,.int .i64 R])/\mS w' p Y
def OutR (w:GI)(Y:CdQ)(R:Int)(z:IL)(w':GI):Prop :=
 GO w.heap.size w w'/\∃p o',z=.returned (.tuple #[xw p Y,.int .i64 R])/\(∀ k,k<w.heap.size->o' k=0)/\tv w' o' p Y
def Bi:PlQ:=⟨GE,0,GE,0,GE,0,GE,0⟩
theorem lU (w:GI)(o:Nat->Nat):tv w o Bi ⟨[],[],[],[]⟩:=⟨Row.nil _ _ _ _ _,Row.nil _ _ _ _ _,Row.nil _ _ _ _ _,Row.nil _ _ _ _ _,by decide,by decide,by decide,by decide⟩
theorem Row.lenq {w:GI}{o:Nat->Nat}{i:Nat}{e:Hp}{size:Nat}{v:GN}{n:Nat}{xs:List GN}(h:Row w o i e size v n xs):n<=9223372036854775807:=by
 by_cases a:0<n
 ·obtain⟨g,cap,-,-,h1,h2,-⟩:=h.pos a;unfold G5 at h2;omega
 ·omega
theorem EmD.outW {w:GI}{o:Nat->Nat}{s:Em}{vw vc vn vk:GN}(h:EmD w o s vw vc vn vk):∃p,(#[vw,vc,vn,vk]:Array GN)=kq p ⟨s.ws.map wdI,s.cs,s.ns.map (λl=>⟨l.toArray⟩),s.ks⟩/\mS w p ⟨s.ws.map wdI,s.cs,s.ns.map (λl=>⟨l.toArray⟩),s.ks⟩:=by
 obtain⟨h1,h2,b,a⟩:=h;obtain⟨aw,cw,rfl⟩:=h1.form;obtain⟨ac,cc,rfl⟩:=h2.form;obtain⟨an,cn,rfl⟩:=b.form;obtain⟨ak,ck,rfl⟩:=a.form;have d:sK (s.ws.map wdI)=wdW s.ws:=by simp[sK,wdW]
 have c:tq (s.ns.map (λl=>(⟨l.toArray⟩:ByteArray)))=esV s.ns:=by simp[tq,esV]
 refine⟨⟨aw,cw,ac,cc,an,cn,ak,ck⟩,by simp[kq],⟨?_,h2.lsvQ,?_,a.lsvQ,?_,h2.lenq,?_,a.lenq⟩⟩
 ·rw[d];exact h1.lsvQ
 ·rw[c];exact b.lsvQ
 ·simp;exact h1.lenq
 ·simp;exact b.lenq
theorem Cd.q {w w':GI}{e:Ex}{cells:List Int}{z:IL}(h:Cd w e cells z w'):OutQ w (Ydq e cells) (Rdq e cells) z w':=by
 obtain⟨B,h⟩:=h;refine⟨B,?_⟩;unfold Ydq Rdq;rcases h with ⟨f,rfl⟩|⟨f,j,rfl⟩|⟨f,h1,h2,vw,vc,vn,vk,o',rfl,-,C⟩
 ·rw[if_neg (λh=>h.1 f),if_pos f];obtain⟨a,b,c,d,-,-,-,-⟩:=lU w' (λ_=>0);exact⟨Bi,rfl,⟨a.lsvQ,b.lsvQ,c.lsvQ,d.lsvQ,by decide,by decide,by decide,by decide⟩⟩
 ·rw[if_neg (λh=>by have:=h.2;omega),if_neg f,if_neg (by omega)];obtain⟨a,b,c,d,-,-,-,-⟩:=lU w' (λ_=>0);exact⟨Bi,rfl,⟨a.lsvQ,b.lsvQ,c.lsvQ,d.lsvQ,by decide,by decide,by decide,by decide⟩⟩
 ·rw[if_pos ⟨f,h1,h2⟩,if_neg f,if_pos ⟨h1,h2⟩];obtain⟨p,i,g⟩:=C.outW;exact⟨p,by rw[i],g⟩
theorem qB.q {w w':GI}{e:Ex}{cells:List Int}{z:IL}(h:qB w e cells z w'):OutR w (Ydq e cells) (Rdq e cells) z w':=by
 obtain⟨B,h⟩:=h;refine⟨B,?_⟩;unfold Ydq Rdq;rcases h with ⟨d,rfl⟩|⟨d,r,rfl⟩|⟨d,h1,h2,u,vw,vc,vn,vk,o',rfl,r,C⟩
 ·rw[if_neg (λh=>h.1 d),if_pos d];exact⟨Bi,λ_=>0,rfl,λ_ _=>rfl,lU w' _⟩
 ·rw[if_neg (λh=>by have:=h.2;omega),if_neg d,if_neg (by omega)];exact⟨Bi,λ_=>0,rfl,λ_ _=>rfl,lU w' _⟩
 ·rw[if_pos ⟨d,h1,h2⟩,if_neg d,if_pos ⟨h1,h2⟩];have v:=(Dz cells e).2;obtain⟨t,-,-⟩:=mM d;obtain⟨c1,-,-,p,o,n,m⟩:=C;generalize emA cells e=s at *;obtain⟨aw,cw,rfl⟩:=p.form;obtain⟨ac,cc,rfl⟩:=o.form;obtain⟨an,cn,rfl⟩:=n.form;obtain⟨ak,ck,rfl⟩:=m.form;have y:sK (s.ws.map wdI)=woV s.ws:=by rw[<-Ff c1];simp[sK,wdW]
  have x:tq (s.ns.map (λl=>(⟨l.toArray⟩:ByteArray)))=esV s.ns:=by simp[tq,esV]
  unfold Em.mes at u;obtain⟨g,f⟩:∃g:Nat->Nat,g=λk=>if 2<=o' k/\o' k<=5 then o' k+1 else if o' k=0 then 0 else 9:=⟨_,rfl⟩;have j:∀ k i,2<=i->i<=5->o' k=i->g k=i+1:=λk i a b c=>by rw[f];simp only;rw[if_pos (by omega)];omega
  refine⟨⟨aw,cw,ac,cc,an,cn,ak,ck⟩,g,by simp[xw,kq],λk d=>by rw[f];simp only;rw[r k d];rfl,⟨?_,?_,?_,?_,by simp;exact h1,by simp only;omega,by simp;omega,by simp only;omega⟩⟩
  ·rw[y];simpa using p.labq (λk d=>j k 2 (by omega) (by omega) d)
  ·exact o.labq (λk d=>j k 3 (by omega) (by omega) d)
  ·rw[x];simpa using n.labq (λk d=>j k 4 (by omega) (by omega) d)
  ·exact m.labq (λk d=>j k 5 (by omega) (by omega) d)
structure EpI (g:Nat)(w:GI)(nw no:Nat)(e:Ex)(ao:Option Ha)(cap:Nat)(ac:Option Ha)(cc:Nat)(cells:List Int)(p:PlQ)(Y:CdQ)(bo co go cgo:Nat)(wr:GI):Prop where
 P:wr.heap[g]?=GF (zPl e ao cap ac cells.length cc)
 V:wr.heap[nw]?=GF (.cells (kq p Y) 42)
 O:wr.heap[no]?=GF (zPl e (GF ⟨bo,0,GE⟩) co (GF ⟨go,0,GE⟩) cells.length cgo)
 S:SnA wr e.kids ao
 I:InA wr (.slice ac cells.length cc) cells
 W:Wd wr
 T:ly wr
 C:mS wr p Y
 So:lH wr e.kids bo co
 Lo:LnI wr (λ_=>True) (.slice (GF ⟨go,0,GE⟩) cells.length cgo) cells
 B:GO g w wr
theorem EpI.below {g nw no:Nat}{w:GI}{e:Ex}{ao:Option Ha}{cap:Nat}{ac:Option Ha}{cc:Nat}{cells:List Int}{p:PlQ}{Y:CdQ}{bo co go cgo:Nat}{wr w':GI}(h:EpI g w nw no e ao cap ac cc cells p Y bo co go cgo wr)(b:GO wr.heap.size wr w'):EpI g w nw no e ao cap ac cc cells p Y bo co go cgo w' :=
 ⟨(b.block _ (GJ h.P)).trans h.P,(b.block _ (GJ h.V)).trans h.V,(b.block _ (GJ h.O)).trans h.O,SnA.below h.S b,h.I.below b,h.W.below b,h.T.below b,h.C.below b,lH.below h.So b,h.Lo.below b,h.B.trans (b.mono (Iq (GJ h.P)))⟩
theorem tv.w {w:GI}{o:Nat->Nat}{p:PlQ}{c:CdQ}(h:tv w o p c):mS w p c:=⟨h.ws.lsvQ,h.cs.lsvQ,h.ns.lsvQ,h.ks.lsvQ,h.ws.lenq,h.cs.lenq,h.ns.lenq,h.ks.lenq⟩
theorem zi {w:GI}{b:Nat}{p:PlQ}{c:CdQ}(h:w.heap[b]?=GF (.cells (kq p c) 42)):sU p c w b:=(dW h).1
theorem oM (e:Ex)(ao:Option Ha)(cap:Nat)(A:GN)(cells:List Int)(w:GI)(y:e.kids.len<=G5)(ab:e.kids.wide)(z:e.kids.size<=100000000->fs e/\(-9223372036854775808<=e.n/\e.n<=9223372036854775807)/\e.kids.rng)(S:SnA w e.kids ao)(J:InA w A cells)(ag:cells.length<=G5)(hW:Wd w)(hT:ly w) :
  GV GH 4 #[plV e ao cap A] w λx w'=>x=.returned (.bool true)/\GO w.heap.size w w':=by
 obtain⟨ac,cc,af,hx⟩:=J;have J:InA w A cells:=⟨ac,cc,af,hx⟩;subst af;clear hx;obtain⟨g,hg⟩:=exq w.heap.size;obtain⟨w0,r⟩:=exq (w.alloc (zPl e ao cap ac cells.length cc));have b0:GO w.heap.size w w0:=by rw[r];exact b1 _ _
 have P0:w0.heap[g]?=GF (zPl e ao cap ac cells.length cc):=by rw[r,hg];exact GL _ _
 have L0:=GJ P0;have B0:GO g w w0:=by rw[hg];exact b0
 have c1:=yB e ao cap 0 _ cells w0 (J.below b0) ag y ab (SnA.below S b0);rw[fp] at c1 ⊢;have HG:=GP hg;clear hg;obtain⟨p0,p1,p2,p3,p4⟩:=gi P0;go_enter Tryz.func4,Tryz.ntmps4;go_upto_region 1 with fail;rw[<-r,<-HG.out];clear r;go_wp2_with fail;refine c1.mono ?_;rintro x w1 ⟨rfl,s⟩;have P1:=(s.block g L0).trans P0;have f:=b0.trans (s.mono b0.size);have B1:=B0.trans (s.mono (Iq L0));have L1:=GJ P1;clear c1 p0 p1 p2 p3 p4;cases hh:hvP e cells with
 | true =>
  clear hh;go_wp2;go_ret;exact⟨rfl,by rw[<-HG.out];exact B1⟩
 | false =>
 obtain⟨ap,aq⟩:=Db hh;obtain⟨Q,hn,hr⟩:=z (by omega);clear hh z ag y ab;have c2:=zH w1 (hW.below f) (hT.below f);go_upto_region 4 with (first|(go_at_call 13;refine c2.mono ?_;rintro x w2 ⟨rfl,b2⟩))
 have P2:=(b2.block g L1).trans P1;have d:=f.trans (b2.mono f.size);have B2:=B1.trans (b2.mono (Iq L1));have L2:=GJ P2;have HP:Hid (∀ (ao:Option Ha) (cap:Nat) (A:GN) (w:GI),InA w A cells->SnA w e.kids ao->Wd w->ly w->GV GH 16 #[plV e ao cap A] w (OutR w (Ydq e cells) (Rdq e cells))):=λao cap A w h1 h2 h3 h4=>(yS e ao cap A cells w Q hn hr h3 h4 h1 (by omega) h2).mono λx w' h=>qB.q h;have c3:=(De e ao cap _ cells w2 Q hn hr (J.below d) (by omega) (SnA.below S d)).mono λx w' h=>Cd.q h;rw[fp] at c3;generalize Ydq e cells=Y at *;generalize Rdq e cells=R at *;obtain⟨p0,p1,p2,p3,p4⟩:=gi P2;clear c2 P0 P1 b0 s f B0 B1 L0 L1 b2
 -- what the document wants
 go_wp2_with fail;refine c3.mono ?_;rintro x w3 ⟨b3,pw,rfl,X⟩;have P3:=(b3.block g L2).trans P2;have L:=d.trans (b3.mono d.size);have B3:=B2.trans (b3.mono (Iq L2));have L3:=GJ P3;obtain⟨nw,F⟩:=exq w3.heap.size;obtain⟨w4,o⟩:=exq (w3.alloc (.cells (kq pw Y) 42));have j:GO w3.heap.size w3 w4:=by rw[o];exact b1 _ _
 have V4:w4.heap[nw]?=GF (.cells (kq pw Y) 42):=by rw[o,F];exact GL _ _
 have P4:=(j.block g L3).trans P3;have a:=L.trans (j.mono L.size);have B4:=B3.trans (j.mono (Iq L3));have L4:=GJ P4;have C4:=X.below j;have al:=GP F;clear c3 P2 B2 L2 P3 B3 L3 b3 p0 p1 p2 p3 p4 F;go_upto_region 5 with fail;rw[<-o,<-al.out];clear o
 -- the plan,lent
 obtain⟨p0,p1,p2,p3,p4⟩:=gi P4;have c5:=tN e ao cap _ cells w4 Q.len Q.sh (J.below a) (by omega) (SnA.below S a);rw[fp] at c5;go_wp2_with fail;refine c5.mono ?_;rintro x E ⟨bo,co,vo,rfl,ah,t,D⟩;obtain⟨go,cgo,ad,aa⟩:=t;have t:LnI E (Nw w4.heap.size) vo cells:=⟨go,cgo,ad,aa⟩;subst ad;clear aa;obtain⟨no,H⟩:=exq E.heap.size;obtain⟨u,m⟩:=exq (E.alloc (zPl e (GF ⟨bo,0,GE⟩) co (GF ⟨go,0,GE⟩) cells.length cgo));have M:GO E.heap.size E u:=by rw[m];exact b1 _ _
 have O6:u.heap[no]?=GF (zPl e (GF ⟨bo,0,GE⟩) co (GF ⟨go,0,GE⟩) cells.length cgo):=by rw[m,H];exact GL _ _
 have b:=D.trans (M.mono D.size);have c:=a.trans (b.mono a.size);have E6:EpI g w nw no e ao cap ac cc cells pw Y bo co go cgo u:=⟨(b.block _ L4).trans P4,(b.block _ (GJ V4)).trans V4,O6,SnA.below S c,J.below c,hW.below c,hT.below c,C4.below b,lH.below (ah.mono (λ_ _ _=>rfl) (GG _) (λ_ _ _=>trivial)) M,(t.mono (λ_ _ _=>rfl) (GG _) (λ_ _ _=>trivial)).below M,B4.trans (b.mono (Iq L4))⟩;have an:=GP H;clear c5 H p0 p1 p2 p3 p4 P4 V4 B4 L4 C4 X ah t D M b c a L d j O6 hW hT J S;rw[fp];go_upto_region 6 with fail;rw[<-m,<-an.out];clear m;go_wp2;go_loopw [7] (λv wr=>∃(i:Nat),v=.int .i64 i/\i<=2/\EpI g w nw no e ao cap ac cc cells pw Y bo co go cgo wr) (λv _=>2-(Hl v).toNat)
 case atStart=>exact⟨0,by show _=GX .i64 ((0:Nat):Int);rfl,by omega,E6⟩
 case round =>
  clear E6;obtain⟨i,rfl,hi,l⟩:=hrel;by_cases ar:i<2
  ·have ae:(i:Int)<2:=by omega
   obtain⟨q0,q1,q2,Z,q4⟩:=gi l.O;have c1:=HP.out (GF ⟨bo,0,GE⟩) co _ wr l.Lo.inA (Spn.sl l.So) l.W l.T;rw[fp] at c1;go_wp2_with fail;refine c1.mono ?_;rintro x w2 ⟨b2,pq,o2,rfl,aj,C2⟩;obtain⟨nq,G⟩:=exq w2.heap.size;obtain⟨w3,p⟩:=exq (w2.alloc (.cells (kq pq Y) 42));have b3:GO w2.heap.size w2 w3:=by rw[p];exact b1 _ _
   have Q3:w3.heap[nq]?=GF (.cells (kq pq Y) 42):=by rw[p,G];exact GL _ _
   have bb:=b2.trans (b3.mono b2.size);have E3:=l.below bb;have X:=C2.step (dQ.ofBelow (I:=λ_=>False) o2 b3) id id id id;have am:=GP G;have ai:=GP l;clear c1 b2 b3 C2 q0 q1 q2 Z q4 G l;go_upto_region 10 with fail;rw[<-p,<-am.out];clear p
   -- the same?
   obtain⟨q0,q1,q2,Z⟩:=zi Q3;obtain⟨v0,v1,v2,v3⟩:=zi E3.V;have c4:=ye pq pw Y w3 X.w E3.C;go_wp2_with fail;refine c4.mono ?_;rintro x w4 ⟨rfl,j⟩;have N:=E3.below j;have a:=bb.trans (j.mono bb.size);have C4:=X.step (dQ.ofBelow (I:=λ_=>False) o2 j) id id id id;have Q4:=(j.block _ (GJ Q3)).trans Q3;clear c4 j bb q0 q1 q2 Z v0 v1 v2 v3 E3 X Q3
   -- kept?
   obtain⟨p0,p1,p2,p3,p4⟩:=gi N.P;obtain⟨t0,t1,t2,t3,t4⟩:=gi N.O;have c5:=uW e bo co _ ao cap _ cells w4 Q.len Q.sh (by omega) N.So N.S N.Lo N.I;rw[fp,fp] at c5;go_wp2_with fail;refine c5.mono ?_;rintro x E ⟨rfl,D⟩;have K:=a.trans (D.mono a.size);have C5:=C4.step (dQ.ofBelow (I:=λ_=>False) o2 D) id id id id;have Q5:=(D.block _ (GJ Q4)).trans Q4;clear c5 D a p0 p1 p2 p3 p4 t0 t1 t2 t3 t4 N C4 Q4;have ak:((R:Int) != (R:Int))=false:=by simp
   obtain⟨q0,q1,q2,Z⟩:=zi Q5;have c6:=Dx pq Y E o2 C5;go_wp2_with fail;refine c6.mono ?_;rintro x u ⟨rfl,o6,U⟩;have M:=K.trans ⟨U.os,U.tape,U.output,U.size,λk hk=>U.block k (by have:=K.size;omega) (by rw[aj k hk];decide)⟩;have E6:=ai.out.below M;clear c6 K C5 Q5 q0 q1 q2 Z U M ai ak;go_wp2;go_roundw
   case rel=>(try ((repeat apply G9);refine⟨?_,rfl⟩));exact⟨i+1,by go_num,by omega,E6⟩
   case measure=>simp[Hl];omega
  ·have ae:¬(i:Int)<2:=by omega
   have HB:=GP l.B;clear l;go_wp2;go_ret;exact⟨rfl,by rw[<-HG.out];exact HB.out⟩
theorem ownK:ownKnob Tryz.prog.godebug=GE:=by kernel_rfl
theorem DA:laidOutB GH=true:=by kernel_rfl
theorem pA:Tryz.prog.cellsOf 3=1:=by kernel_rfl
theorem Br {a:Int}(h:(Lit.int .i64 a).wf=true):-9223372036854775808<=a/\a<=9223372036854775807:=by
 simpa [Lit.wf,IntKind.min,IntKind.max,IntKind.signed,IntKind.bits] using h
theorem gWd : Tryz.prog.globalNamed "isthmus/lex.words" = GF 3 := by kernel_rfl
theorem Ds:(Tryz.prog.globals[3]?).map (·.type)=GF 229:=by kernel_rfl
theorem CH:Tryz.prog.cellsOf 229=27:=by kernel_rfl
theorem rZ:Tryz.prog.cellsOf 9=1:=by kernel_rfl
def uA:List (Jr Unit):=(List.range 27).map λj=>.lit (.string (wd j).data.toList)
theorem yl:(JH:Jr Unit)=.agg uA:=by rfl
theorem th:eH.toList=(List.range 27).map λj=>Value.string (wd j):=by rfl
theorem oI {W:GI}{d:Nat}{cs:List GN}{p:List Jh}(h:DataW.trod (λ_=>()) GH W 0 (λ_=>true) false d 229 cs=GF (.agg uA,p)):cs=eH.toList:=by
 obtain⟨xs,m,_,f,l,g,j⟩:=DataW.trod_array Tryz.underlying229 h;rw[CH] at l;simp only[rZ,Nat.mul_one] at j;simp only[IS,DataW.agg.injEq] at f;rw[th];apply Jo;intro i;by_cases e:i<27
 ·have b:=j i e;have a:xs[i]?=GF xs[i]:=GM (by omega);rw[a] at b;obtain⟨s,h1,h2⟩:=DataW.trod_string IR b;have n:cs[i]?=GF (.string s):=by
   have:=congrArg (·[0]?) h1
   simpa [List.getElem?_take,List.getElem?_drop] using this
  have c:(xs.map (·.1))[i]?=GF (.lit (.string s.data.toList)):=by rw[Ii,a,h2.1];rfl
  rw[<-f.1] at c;unfold uA at c;rw[Ii,List.getElem?_range e] at c;simp only[Option.map_some,IV,DataW.lit.injEq,Lit.string.injEq] at c;have k:=px.1 c;rw[n,Ii,List.getElem?_range e,<-k];rfl
 ·rw[Hi (by omega),Hi (by simp;omega)]
theorem tP {W : GI} {r : List (String × Jr Unit)} (h : laidMet GH (("isthmus/lex.words", JH) :: r) W) : Wd W := by
 rw[yl] at h;obtain⟨ps,⟨m,l,cs,g,p,q,e,d,a,j,_,_⟩,_⟩:=h;obtain rfl:=JD (gWd.symm.trans e);obtain rfl:=JD (Ds.symm.trans d);have f:=oI j;have b:cs=eH:=Array.toList_inj.1 f;subst b;simp only[World.var?,gWd,Option.bind_some] at a;split at a
 ·rename_i c t k i
  cases a;exact⟨t,k,i⟩
 ·cases a
def nZ (cs:Array GN):Obj->Obj
 | .cells _ t frozen=>.cells cs t frozen
 | o=>o
def lowB (P:Jw):Nat:=(World.holding P default ⟨#[],#[],[]⟩).heap.size
theorem jO {W:GI}{m:Nat}{l:List GN}{a b:Int}{p:List Jh}
  (h:DataW.trod (λ_=>()) GH W 0 (λ_=>true) false m 222 l=GF (.agg [.lit (.int .u64 a),.lit (.int .u64 b)],p)):l=[.int .u64 a,.int .u64 b]:=by
 obtain⟨o,k,n,c,d,i,h1⟩:=trod_struct2 Tryz.underlying222 h;simp only[IS,DataW.agg.injEq,J0,and_true] at c;obtain⟨⟨e0,e⟩,_⟩:=c;obtain⟨z0,c0,g,_⟩:=DataW.trod_int Tryz.underlying175 i;obtain⟨j,c1,f,_⟩:=DataW.trod_int Tryz.underlying54 h1;subst g f;simp only[DataW.lit.injEq,Lit.int.injEq,true_and] at e0 e;subst e0 e;rw[oY] at d;simp only[yv,rO] at c0 c1
 match l,d with
 | [v0,v1],_ =>
  simp at c0 c1;rw[c0,c1]
theorem qJ {W : GI} {r : List (String × Jr Unit)} (h : laidMet GH (("isthmus/pack.fields", Jv) :: r) W) : Tab W := by
 obtain⟨ps,⟨C,B,cs,n,p,q,f,e,b,x,_,_⟩,_⟩:=h;obtain rfl:=JD (gTab.symm.trans f);obtain rfl:=JD (zG.symm.trans e);obtain⟨xs,m,_,g,j,c,d⟩:=DataW.trod_array Tryz.underlying223 x;rw[Ac] at j;simp only[oY] at d
 match xs,c with
 | [v,u,t],_ =>
  have A:=d 0 (by omega);have z:=d 1 (by omega);have y:=d 2 (by omega);simp only[Jv,List.map_cons,List.map_nil,IS,DataW.agg.injEq,J0,and_true] at g;obtain⟨⟨e0,s,o⟩,_⟩:=g;obtain⟨D,p0⟩:=v;obtain⟨d1,p1⟩:=u;obtain⟨d2,p2⟩:=t;simp only at e0 s o;subst e0 s o;have k:=jO A;have g1:=jO z;have g2:=jO y;obtain⟨l⟩:=cs
  match l,j with
  | [v0,v1,v2,v3,v4,v5],_ =>
   simp at k g1 g2;obtain⟨rfl,rfl⟩:=k;obtain⟨rfl,rfl⟩:=g1;obtain⟨rfl,rfl⟩:=g2;have a:=λi=>World.var?_cell gTab b i;have c0:=a 0;have c1:=a 1;have c2:=a 2;have c3:=a 3;have c4:=a 4;have c5:=a 5;simp at c0 c1 c2 c3 c4 c5;refine⟨c0,c1,c2,c3,c4,c5,?_⟩;by_cases w:2<W.heap.size
   ·exact w
   ·exfalso
    have:W.heap[2]?=GE:=Array.getElem?_eq_none (by omega)
    simp[JJ,this] at c0
theorem gBar : Tryz.prog.globalNamed "isthmus/emit.bare" = GF 0 := by kernel_rfl
theorem yY:(Tryz.prog.globals[0]?).map (·.type)=GF 181:=by kernel_rfl
theorem zJ:Tryz.prog.cellsOf 181=25:=by kernel_rfl
def BS:List Int:=[0,0,0,0,0,0,4,5,6,7,8,9,10,0,0,0,0,0,0,0,0,0,20,0,22]
def barD:List (Jr Unit):=(List.range 25).map λj=>.lit (.int .i64 (BS.getD j 0))
theorem BO:(JI:Jr Unit)=.agg barD:=by rfl
theorem nk {W : GI} {r : List (String × Jr Unit)} (h : laidMet GH (("isthmus/emit.bare", JI) :: r) W) : (∀ k : Nat, k < 25 → W.cell? ⟨0, k, GE⟩ = GF (.int .i64 (BS.getD k 0))) ∧ 0 < W.heap.size := by
 rw[BO] at h;obtain⟨ps,⟨B,A,cs,v,p,q,l,j,d,a,_,_⟩,_⟩:=h;obtain rfl:=JD (gBar.symm.trans l);obtain rfl:=JD (yY.symm.trans j);obtain⟨xs,m,_,n,y,s,t⟩:=DataW.trod_array Tryz.underlying181 a;rw[zJ] at y;simp only[pA,Nat.mul_one] at t;simp only[IS,DataW.agg.injEq] at n;have u:=λi=>World.var?_cell gBar d i;have b:∀ o,o<25->cs[o]?=GF (.int .i64 (BS.getD o 0)):=λo f=>by
  have e:=t o f;have c:xs[o]?=GF xs[o]:=GM (by omega);rw[c] at e;obtain⟨z,c0,w,_⟩:=DataW.trod_int IX e;have a:(xs.map (·.1))[o]?=GF (.lit (.int .i64 z)):=by rw[Ii,c,w];rfl
  rw[<-n.1] at a;unfold barD at a;rw[Ii,List.getElem?_range f] at a;simp only[Option.map_some,IV,DataW.lit.injEq,Lit.int.injEq,true_and] at a;have g:((cs.toList.drop o).take 1)[0]?=GF (.int .i64 z):=by rw[c0];rfl
  simp only[List.getElem?_take,List.getElem?_drop] at g;rw[a];simpa using g
 refine⟨λo f=>(u o).trans (b o f),?_⟩;by_cases x:0<W.heap.size
 ·exact x
 ·exfalso;have g:=(u 0).trans (b 0 (by omega))
  have:W.heap[0]?=GE:=Array.getElem?_eq_none (by omega)
  simp[JJ,this] at g
theorem pL {W : GI} (h : laidMet GH [("isthmus/pack.fields", Jv), ("isthmus/lex.words", JH), ("isthmus/emit.bare", JI)] W) : ly W := ⟨qJ h, (nk h.tail.tail).1, (nk h.tail.tail).2⟩
def FN:Array GN:=((List.range 25).map λj=>GX .i64 (BS.getD j 0)).toArray
def lK (P:Jw)(os:Os):GI :=
 let w0:=World.holding P os ⟨#[],#[],[]⟩
 { w0 with heap:=((w0.heap.modify 2 (nZ #[.int .u64 56,.int .u64 255,.int .u64 28,.int .u64 268435455,.int .u64 0,.int .u64 268435455])).modify 3 (nZ eH)).modify 0 (nZ FN) }
theorem vF {s:ByteArray}{a:List UInt8}(h:s.data.toList=a):Value.string s=stv a:=by
 subst h;rfl
def rawP (n:Int)(nm:List UInt8)(a:Int)(len:Nat):Prop:=-9223372036854775808<=n/\n<=9223372036854775807/\nm.length<=G5/\-9223372036854775808<=a/\a<=9223372036854775807/\len<=G5
def Fs.raw:Fs->Prop
 | ⟨GE⟩=>True
 | ⟨GF ⟨_,n,nm,a,ks,r⟩⟩=>rawP n nm a ks.len/\ks.raw/\r.raw
def Ex.raw (e:Ex):Prop:=rawP e.n e.nm e.a e.kids.len/\e.kids.raw
theorem Fs.raw_wide:∀ {f:Fs},f.raw->f.wide
 | ⟨GE⟩,h=>trivial
 | ⟨GF ⟨k,n,nm,a,ks,r⟩⟩,h=>⟨h.1.2.2.2.2.2,Fs.raw_wide (f:=ks) h.2.1,Fs.raw_wide (f:=r) h.2.2⟩
theorem Fs.len_size':∀ (x:Fs),x.len<=x.size
 | ⟨GE⟩=>GG _
 | ⟨GF ⟨k,n,nm,a,ks,r⟩⟩=>by have:=Fs.len_size' r;show r.len+1<=ks.size+r.size+1;omega
theorem Fs.raw_fit:∀ {f:Fs},f.raw->f.size<=100000000->f.short/\f.rng
 | ⟨GE⟩,h,b=>⟨trivial,trivial⟩
 | ⟨GF ⟨k,n,nm,a,ks,r⟩⟩,h,b=>by
  have b:ks.size+r.size+1<=100000000:=b;have h1:=Fs.raw_fit (f:=ks) h.2.1 (by omega);have h2:=Fs.raw_fit (f:=r) h.2.2 (by omega)
  have:=Fs.len_size' ks
  exact⟨⟨h.1.2.2.1,by omega,h1.1,h2.1⟩,⟨h.1.1,h.1.2.1,h1.2,h2.2⟩⟩
theorem Ex.raw_fit {e:Ex}(h:e.raw)(a:e.kids.size<=100000000):e.fit:=by
 obtain⟨h1,h2⟩:=Fs.raw_fit h.2 a
 have:=Fs.len_size' e.kids
 exact⟨h.1.2.2.1,h1,by omega,h.1.1,h.1.2.1,h2⟩
theorem lO (b off j:Nat):(⟨b,off,GE⟩:Ha).add j=⟨b,off+j,GE⟩:=by
 unfold Je;split
 ·subst j;simp_all
 ·rfl
theorem mh:Tryz.prog.cellsOf 34=4:=by kernel_rfl
theorem CZ:Tryz.prog.cellsOf 32=1:=by kernel_rfl
theorem By:Tryz.prog.cellsOf 35=1:=by kernel_rfl
theorem Dq:Tryz.prog.cellsOf 37=5:=by kernel_rfl
theorem xG {H:Type}{Y:Hp × GN->H}{W:GI}{sp:Nat->Bool}{F:Bool}:∀ (d:Nat) (cs:List GN) (x:Jr H × List Jh),DataW.trod Y GH W 0 sp F d 34 cs=GF x->(∀ q ∈ x.2,q.block<W.heap.size) ->
  ∃(e:Ex) (ao:Option Ha) (cap:Nat),cs=[.int .i64 e.k,.int .i64 e.n,stv e.nm,.slice ao e.kids.len cap]/\SnA W e.kids ao/\e.raw:=by
 intro d
 induction d using Nat.strongRecOn with
 | _ d IH =>
 intro cs x h P;obtain⟨xs,k,hk,M,hl,N,l⟩:=DataW.trod_struct Tryz.underlying34 h;rw[mh] at hl
 match xs,N,cs,hl with
 | [y0,y1,y2,y3],_,[u0,u1,u2,u3],_ =>
  have g0:=l 0 _ rfl;have g1:=l 1 _ rfl;have g2:=l 2 _ rfl;have g3:=l 3 _ rfl;simp[pA,rZ,CZ] at g0 g1 g2 g3;obtain⟨z0,e0,x0,w0⟩:=DataW.trod_int IX g0;obtain⟨L,e1,x1,w1⟩:=DataW.trod_int IX g1;obtain⟨z2,Z,x2,w2⟩:=DataW.trod_string IR g2;simp at e0 e1 Z;have b1:=Br w1;have A:(z2.data.toList).length<=G5:=by rw[fg];exact w2
  have o:∀ q ∈ y3.2,q.block<W.heap.size:=λq O=>P q (by rw[M];simp[O]);rcases DataW.trod_slice Tryz.underlying32 g3 with ⟨D,_⟩|⟨a,len,cap,w,rest,n,hn,D,B,_,Q,S,ad,hE,_,_⟩
  ·simp at D;refine⟨⟨z0,L,z2.data.toList,0,.nil⟩,GE,0,?_,.inl rfl,⟨b1.1,b1.2,A,by show -9223372036854775808<=(0:Int);decide,by show (0:Int)<=9223372036854775807;decide,by show 0<=_;omega⟩,trivial⟩;rw[e0,e1,Z,D,vF rfl];rfl
  ·simp at D;obtain⟨b,off,c⟩:=a;have K:∀ i,i<len->∃(e:Ex) (ak:Option Ha) (ck:Nat),c=GE/\b<W.heap.size/\(∀ j u,([.int .i64 e.k,.int .i64 e.n,stv e.nm,.slice ak e.kids.len ck]:List GN)[j]?=GF u->W.cell? ⟨b,off+i*4+j,GE⟩=GF u)/\SnA W e.kids ak/\e.raw:=by
    intro i hi;have I:=hE i hi;rw[GM (by omega),mh] at I;obtain⟨aa,h1,h2⟩:=Option.bind_eq_some_iff.1 I;obtain⟨_,ac,v⟩:=World.cells?_some h1;have C:∀ q ∈ (w[i]'(by omega)).2,q.block<W.heap.size:=λq O=>o q (by
     rw[B];simp only[List.mem_append,List.mem_flatMap];exact .inr ⟨_,.inl (Ix _),O⟩)
    obtain⟨e,ak,ck,R,SK,hr⟩:=IH n (by omega) aa _ h2 C;have t:c=GE:=by
     have J:=hE 0 (by omega);rw[GM (by omega),mh] at J;obtain⟨ae,k1,k2⟩:=Option.bind_eq_some_iff.1 J;obtain⟨_,ab,s⟩:=World.cells?_some k1;have k3:=s 0 (by omega);rw[GM (by omega)] at k3;simpa [Je] using World.cell?_spot k3
    subst t;have T:b<W.heap.size:=o (.cell b off) (by
     rw[B];exact I1 _ (MemPlace.mem_row.2 ⟨0,by rw[mh];omega,by simp⟩))
    refine⟨e,ak,ck,rfl,T,λj u g=>?_,SK,hr⟩;rw[<-R] at g;have E:j<4:=by
     by_cases E:j<4
     ·exact E
     ·rw[Hi (by omega)] at g;cases g
    have:=v j E
    rw[lO,lO,g] at this;exact this
   have y:∀ m,m<=len->∃f:Fs,f.len=m/\f.raw/\(m=0\/c=GE/\b<W.heap.size)/\∃p,(∀ j u,p[j]?=GF u->W.cell? ⟨b,off+(len-m)*4+j,GE⟩=GF u)/\FcN W (λ_=>True) f p:=by
    intro m
    induction m with
    | zero=>intro _;exact⟨.nil,rfl,trivial,.inl rfl,[],λj u g=>by simp at g,rfl⟩
    | succ m ih =>
     intro hm;obtain⟨f,z,X,_,p,V,U⟩:=ih (by omega);obtain⟨e,ak,ck,s1,s2,s3,s4,s5⟩:=K (len-(m+1)) (by omega);refine⟨.cons e.k e.n e.nm e.a e.kids f,by show f.len+1=_;rw[z],⟨s5.1,s5.2,X⟩,.inr ⟨s1,s2⟩,.int .i64 e.k::.int .i64 e.n::stv e.nm::.slice ak e.kids.len ck::p,λj u g=>?_,ak,ck,p,rfl,s4,U⟩;by_cases E:j<4
     ·refine s3 j u ?_;rw[<-g]
      match j,E with
      | 0,_=>rfl
      | 1,_=>rfl
      | 2,_=>rfl
      | 3,_=>rfl
     ·obtain⟨i,rfl⟩:∃i,j=i+4:=⟨j-4,by omega⟩
      have:=V i u (by simpa using g)
      rw[show off+(len-(m+1))*4+(i+4)=off+(len-m)*4+i by
       have:len-m=len-(m+1)+1:=by omega
       rw[this];omega]
      exact this
   obtain⟨f,z,X,f5,p,V,U⟩:=y len (GG _);have G:=Hr Q S;refine⟨⟨z0,L,z2.data.toList,0,f⟩,GF ⟨b,off,c⟩,cap,?_,?_,⟨b1.1,b1.2,A,by show -9223372036854775808<=(0:Int);decide,by show (0:Int)<=9223372036854775807;decide,by show f.len<=_;rw[z];exact G⟩,X⟩
   ·show _=[GX .i64 z0,.int .i64 L,stv z2.data.toList,.slice (GF ⟨b,off,c⟩) f.len cap];rw[e0,e1,Z,D,vF rfl,z]
   ·rcases f5 with h0|⟨rfl,hb⟩
    ·refine .inl ?_;rw[h0] at z;cases f using Fs.on with
     | nil=>rfl
     | cons k n nm a ks r=>cases z
    ·refine .inr ⟨b,off,p,rfl,trivial,hb,λj u g=>?_,U⟩
     have:=V j u g
     rw[JW,IF,Hw] at this;exact this
def DJ (cells:List Int):Prop:=cells.length<=G5/\∀ c,c ∈ cells->-9223372036854775808<=c/\c<=9223372036854775807
theorem xr {H:Type}{enc:Hp × GN->H}{W:GI}{v:GN}{d:Jr H}{ps:List Jh}(h:DataW.Trod enc GH W 0 (λ_=>true) true 37 v d ps)(hlt:∀ q ∈ ps,q.block<W.heap.size) :
  ∃(e:Ex) (ao:Option Ha) (cap:Nat) (cv:GN) (cells:List Int),v=plV e ao cap cv/\SnA W e.kids ao/\e.raw/\InA W cv cells/\DJ cells:=by
 obtain⟨fuel,hf⟩:=h;obtain⟨xs,k,hk,hxy,hl,hxl,hff⟩:=DataW.trod_struct Tryz.underlying37 hf;rw[Dq] at hl;obtain⟨cs,hcs⟩:∃cs,cs=v.cells.toList:=⟨_,rfl⟩;rw[<-hcs] at hl hff
 match xs,hxl,cs,hl with
 | [y0,y1],_,[u0,u1,u2,u3,u4],_ =>
  have g0:=hff 0 _ rfl;have g1:=hff 1 _ rfl;simp[mh,By] at g0 g1;have hp0:∀ q ∈ y0.2,q.block<W.heap.size:=λq hq=>hlt q (by
   have h2:ps=[y0,y1].flatMap (·.2):=congrArg Prod.snd hxy;rw[h2];simp[hq])
  have hp1:∀ q ∈ y1.2,q.block<W.heap.size:=λq hq=>hlt q (by
   have h2:ps=[y0,y1].flatMap (·.2):=congrArg Prod.snd hxy;rw[h2];simp[hq])
  obtain⟨e,ao,cap,hc4,S,R⟩:=xG _ _ _ g0 hp0;obtain⟨cv,cells,hcv,IN,RI⟩:∃(cv:GN) (cells:List Int),u4=cv/\InA W cv cells/\DJ cells:=by
   rcases open_ints Hy IX pA g1 with ⟨hcs,hx⟩|⟨a,len',cap',zs,hcs,_,hl,hm,hz,hx,hcell,hwz⟩
   ·simp at hcs;exact⟨_,[],hcs,⟨GE,0,rfl,.inl rfl⟩,by simp[DJ]⟩
   ·simp at hcs;simp only[if_true] at hz;refine⟨_,zs.take len',hcs,?_,by simp[DJ];exact⟨by omega,λc hc=>by have:=Br (hwz c (List.mem_of_mem_take hc));omega⟩⟩;obtain⟨b,off,spot⟩:=a;refine⟨GF ⟨b,off,spot⟩,cap',by simp;omega,?_⟩;by_cases h0:len'=0
    ·exact .inl (by simp[h0])
    ·refine .inr ?_;have hspot:spot=GE:=by simpa [Je] using World.cell?_spot (hcell 0 (by omega))
     subst hspot;have hbW:b<W.heap.size:=hp1 (.cell b off) (by
      rw[hx];exact MemPlace.mem_row.2 ⟨0,by omega,by simp⟩)
     refine⟨b,off,rfl,trivial,hbW,λj x hj=>?_⟩;rw[List.getElem?_take] at hj;split at hj
     ·rename_i hjl
      have h3:=hcell j (by omega);rw[lO,Hf,hj] at h3;exact h3
     ·cases hj
  refine⟨e,ao,cap,cv,cells,?_,S,R,IN,RI⟩;subst hcv;have hcs':v.cells=#[.int .i64 e.k,.int .i64 e.n,stv e.nm,.slice ao e.kids.len cap,u4]:=by
   apply Array.toList_inj.1;rw[<-hcs];simp at hc4;obtain⟨rfl,rfl,rfl,rfl⟩:=hc4;rfl
  cases v with
  | agg cs=>rw[show (Value.agg cs).cells=cs from rfl] at hcs';rw[hcs'];rfl
  | _=>have h5:=congrArg Array.size hcs';simp[Value.cells] at h5
end Go.Proofs.YtkhgahljbpmfaaaGreatDoor
namespace Go.Proofs.YtkhgahljbpmfaaaGreatDoor.emitPlans
open Go.ChangeShapes Go.WideShapes Go.ChangeAt Go.RowKit
open Go.ChangeMaps (open_string shut_string)
set_option linter.unusedVariables false
theorem contract (H:Type)(enc:Hp × GN->H)(W:GI)(base:Nat)(args:Array GN)(ds gs:List (Jr H))(before:List Jh)
  (hval:∀ (j:Nat) t v,Tryz.f4.params[j]?=GF t->args[j]?=GF v->Value.okWide GH W .any base t v)
  (hW:DataW.Whole enc GH Tryz.f4.params.toList Rows.emitPlansSpec.vars false W args.toList ds gs before)
  (hsz:(DataW.weightsEach GH (Tryz.f4.params.toList++(JG Rows.emitPlansSpec).bare.plain.varTypes GH) (ds++gs)).all (·<=reachBytes)=true) (hL:laidMetH GH Rows.emitPlansRow.laid W) :
  GV GH 4 args W λe W'=>∃v,e=.returned v/\Rows.emitPlansSpec.post enc GH Tryz.f4 false true false false W args v W':=by
 have hW':=hW;obtain⟨p,q,hA0,hV,rfl,hfz,hnd⟩:=hW;have hA:DataW.TrodAll enc GH W 0 (λ_=>true) true Tryz.f4.params.toList args.toList ds p:=hA0;rw[Tryz.params4] at hA hval hsz;obtain⟨v0,vs0,d0,ds0,p0,q0,hargs,rfl,rfl,h0,r0⟩:=trodAll_cons hA;obtain⟨rfl,rfl,rfl⟩:=trodAll_nil r0;obtain rfl:args=#[v0]:=by cases args;simp_all
 obtain⟨rfl,rfl⟩:=trodVars_none hV;clear hA0;simp only[JE] at hW';have hlt0:∀ x ∈ p0,x.block<W.heap.size:=λx hx=>by simpa using hW'.lt x (by simp[hx])
 obtain⟨e0,ao0,cap0,cv0,cells0,rfl,SX0,RX0,IC0,RI0⟩:=xr h0 hlt0;refine(oM e0 ao0 cap0 cv0 cells0   W RX0.1.2.2.2.2.2 (Fs.raw_wide RX0.2) (λh=>⟨⟨(Ex.raw_fit RX0 h).nm,(Ex.raw_fit RX0 h).len,(Ex.raw_fit RX0 h).sh⟩,⟨(Ex.raw_fit RX0 h).n1,(Ex.raw_fit RX0 h).n2⟩,(Ex.raw_fit RX0 h).rng⟩) SX0 IC0 RI0.1  (tP hL.tail) (pL hL)).mono λe W' ⟨he,hnx⟩=>?_;subst he;exact⟨_,rfl,_,_,_,[],(p0++[]),[],hW',trodAll_cons_mk (shut_bool Tryz.underlying4 _) trodAll_mk0,(trodAll_cons_mk (Below.trod DA (by kernel_rfl) (of_decide_eq_true (by kernel_rfl)) h0 hnx hlt0) trodAll_mk0),rfl,hnx.frame _,λh=>by cases h⟩
theorem laid_met (os:Os):laidMet GH Rows.emitPlansRow.laid ((lK GH os).forCall (λ_ _=>0) ⟨#[],#[.agg #[.int .i64 0,.int .i64 0,.string ByteArray.empty,.slice GE 0 0,.slice GE 0 0]],[]⟩).memory :=
 laidMet_of_run' 8 (by kernel_rfl) (by kernel_rfl)
theorem reads (os:Os){H:Type}(enc:Hp × GN->H):∃places,DataW.whole enc GH ((lK GH os).forCall (λ_ _=>0) ⟨#[],#[.agg #[.int .i64 0,.int .i64 0,.string ByteArray.empty,.slice GE 0 0,.slice GE 0 0]],[]⟩).memory Tryz.f4.params.toList Rows.emitPlansSpec.vars false (#[.agg #[.int .i64 0,.int .i64 0,.string ByteArray.empty,.slice GE 0 0,.slice GE 0 0]]:Array GN).toList 8=GF ([.agg [.agg [.lit (.int .i64 0),.lit (.int .i64 0),.lit (.string []),.nil],.nil]],[],places) :=
 ⟨[],by kernel_rfl⟩
theorem lifted (os:Os)(started:os.Started)(H:Type)(enc:Hp × GN->H)(F:Stop.Interp) :
  ReturnsInHanded {} Tryz.checked os 4 .any ((JG Rows.emitPlansSpec).preRow enc GH Tryz.f4 Rows.emitPlansRow.domain false Rows.emitPlansRow.laid) (((JG Rows.emitPlansSpec).at F).post enc GH Tryz.f4 false true false false):=by
 obtain⟨places,hx⟩:=reads os enc;refine returnsInHanded_of_row (C:=Tryz.checked) (s:=JG Rows.emitPlansSpec) ownK started (by kernel_rfl) Tryz.func4
  (witness_row_at (enc:=enc) (C:=Tryz.checked) false (lK GH os) #[.agg #[.int .i64 0,.int .i64 0,.string ByteArray.empty,.slice GE 0 0,.slice GE 0 0]] rfl (by kernel_rfl) (by kernel_rfl) (by kernel_rfl)
   (OpenSpec.preRow_of_cond 8 hx (by kernel_rfl) (λk hk=>by cases hk) (by kernel_rfl) (laid_met os))) ?_
 intro W base args ds gs before hval hW _ _ hsz hL _ _;exact contract H enc W base args ds gs before hval hW hsz hL
theorem facts:joinedFacts Tryz.pinned.checked.prog 4 Tryz.f4 (JG Rows.emitPlansSpec).bare Rows.emitPlansRow=true:=by
 unfold joinedFacts;simp only[He]
 repeat' apply And.intro
 all_goals (as_aux_lemma=>kernel_rfl)
end Go.Proofs.YtkhgahljbpmfaaaGreatDoor.emitPlans

import Derived.Test.YtkhgahljbpmfaaaGreatDoorWrqD
import Derived.Deep.RegionWith
import Derived.Deep.LoopGhost
set_option maxRecDepth 100000
set_option maxHeartbeats 8000000
namespace Go.Proofs.YtkhgahljbpmfaaaGreatDoor
open Option renaming none->GA,some->GB,isSome_some->Ju,isSome_none->Jv,isSome_eq_false_iff->JH,isNone_iff_eq_none->JM
open Nat renaming le_refl->GC,lt_of_lt_of_le->GM,le_trans->Hn,not_lt_zero->Hr,zero_add->Hx,le_of_lt->Im,zero_le->Jh
open Go.Proofs.Tryz renaming prog->GD,underlying9->IL,underlying147->Jt,underlying5->Kb
open Go renaming World->GE,lt_of_block->GF,bodyPost_ret->GG,heap_alloc_new->GH,Value->GJ,heap_setCell_other->GP,Calls->GR,maxLen->GY,Addr->G1,cell_of_row->Hf,TypeId->Hl,wpAnyH_take->Hy,frozen_of_row->Ik,results_none->IY,wpAnyH_ready->Ji
open List renaming getElem?_eq_getElem->GI,setIfInBounds_toArray->GU,getElem_cons_zero->GV,getElem_cons_succ->GW,length_append->G4,length_cons->G5,getElem_toArray->G9,set_cons_zero->Hc,set_cons_succ->Hd,getElem?_eq_none->He,mem_of_find?_eq_some->Hi,replicate->Hk,not_mem_nil->Io,mem_cons->Iq,mem_of_getElem?->Is,length_nil->IF,find?_some->IU,append_nil->Jz
open Go.RowKit renaming Below->GK,intOf->Hh,wrap64->Ho
open Go.Lib renaming hid->GL,itoa->ID,decDigits->JL,formatBool->J7,itoa_length_le->Ka
open Go.RowKit.Below renaming refl->GN,heap_alloc->GO
open Bool renaming eq_iff_iff->GQ,and_eq_true->Ha,true_and->Jl
open Go.World renaming cell?_of_block->GS
open Go.Value renaming int->GT
open Exists renaming intro->G0
open Int renaming toNat_natCast->If
open Go.IntKind renaming wrap_i64->Ii
open Go.Act renaming put->Ip
open Or renaming inl->IX
open Go.AllReadyH renaming cons->I0,nil->Jb
open Classical renaming byContradiction->Jd
open Go.Exit renaming inBlock->Js
open List.cons renaming injEq->JV
open Go.ChangeShapes Go.WideShapes Go.ChangeAt Go.RowKit
set_option linter.unusedVariables false
set_option linter.unusedSimpArgs false
def Rq (w:GE)(rb i:Nat)(o q:Int)(er pl:Nat)(all:List Tk):Prop :=
 ∃g cap,w.heap[rb]?=GB (.cells #[.slice (GB ⟨g,0,GA⟩) all.length cap,.int .i64 i,.int .i64 o,.int .i64 q,.int .i64 er,.int .i64 pl] 64 (0,0))/\g<rb/\(∀ j u,(fw all)[j]?=GB u->w.cell? ⟨g,j,GA⟩=GB u)/\all.length<=3000/\all.length<=cap/\cap<=GY
theorem Rq.lt {w:GE}{rb i:Nat}{o q:Int}{er pl:Nat}{all:List Tk}(h:Rq w rb i o q er pl all):rb<w.heap.size:=by
 obtain⟨g,cap,h1,_⟩:=h;exact GF h1
theorem Rq.below {w w':GE}{rb i:Nat}{o q:Int}{er pl:Nat}{all:List Tk}(h:Rq w rb i o q er pl all)(b:GK w.heap.size w w'):Rq w' rb i o q er pl all:=by
 have a:=h.lt;obtain⟨g,cap,h1,h2,e,d⟩:=h;exact⟨g,cap,(b.block rb a).trans h1,h2,λj u c=>(b.cell (p:=⟨g,j,GA⟩) (show g<w.heap.size by omega)).trans (e j u c),d⟩
theorem Rq.next {w:GE}{rb i:Nat}{o q:Int}{er pl:Nat}{all:List Tk}{x:Tk}(h:Rq w rb i o q er pl all)(c:all[i]?=GB x):∃g cap L,g<rb/\i<L/\L<=cap/\cap<=GY/\L<=3000/\(w.cell? ⟨rb,0,GA⟩=GB (.slice (GB ⟨g,0,GA⟩) L cap)/\w.cell? ⟨rb,1,GA⟩=GB (.int .i64 i)/\w.cell? ⟨g,i*4,GA⟩=GB (.int .i64 (x.k:Nat))/\w.cell? ⟨g,i*4+1,GA⟩=GB (.int .i64 x.n)/\w.cell? ⟨g,i*4+2,GA⟩=GB (stv x.t)/\w.cell? ⟨g,i*4+3,GA⟩=GB (.int .i64 (x.a:Nat)))/\w.cell? ⟨rb,2,GA⟩=GB (.int .i64 o)/\w.cell? ⟨rb,3,GA⟩=GB (.int .i64 q)/\w.cell? ⟨rb,4,GA⟩=GB (.int .i64 er)/\w.cell? ⟨rb,5,GA⟩=GB (.int .i64 pl)/\(∀ j,w.frozen? ⟨rb,j,GA⟩=false):=by
 obtain⟨g,cap,h1,h2,b,f,h5,e⟩:=h;have d:i<all.length:=by
  by_cases d:i<all.length
  ·exact d
  ·rw[He (by omega)] at c;cases c
 obtain⟨t0,t1,t2,t3⟩:=oQ all i x c;refine⟨g,cap,all.length,h2,d,h5,e,f,⟨?_,?_,b _ _ t0,b _ _ t1,b _ _ t2,b _ _ t3⟩,?_,?_,?_,?_,λj=>Ik w rb j _ _ h1⟩
 all_goals simp[Hf w rb _ _ _ (0,0) h1]
theorem Rq.set {w:GE}{rb i:Nat}{o q:Int}{er pl:Nat}{all:List Tk}(h:Rq w rb i o q er pl all) :
  (∀ m:Nat,Rq (w.setCell ⟨rb,1,GA⟩ (.int .i64 m)) rb m o q er pl all)/\(∀ o':Int,Rq (w.setCell ⟨rb,2,GA⟩ (.int .i64 o')) rb i o' q er pl all)/\(∀ l:Int,Rq (w.setCell ⟨rb,3,GA⟩ (.int .i64 l)) rb i o l er pl all)/\(∀ c:Nat,Rq (w.setCell ⟨rb,4,GA⟩ (.int .i64 c)) rb i o q c pl all)/\(∀ b:Nat,Rq (w.setCell ⟨rb,5,GA⟩ (.int .i64 b)) rb i o q er b all):=by
 obtain⟨g,cap,h1,h2,p,f⟩:=h;have e:Blk w (λ_=>0) 0 rb (.cells #[.slice (GB ⟨g,0,GA⟩) all.length cap,.int .i64 i,.int .i64 o,.int .i64 q,.int .i64 er,.int .i64 pl] 64 (0,0)):=⟨h1,rfl⟩;have d:∀ (k:Nat) (v:GJ) j u,(fw all)[j]?=GB u->(w.setCell ⟨rb,k,GA⟩ v).cell? ⟨g,j,GA⟩=GB u:=λk v j u n=>(GS (a:=⟨g,j,GA⟩) (GP w ⟨rb,k,GA⟩ g v (show g≠rb by omega))).trans (p j u n);exact⟨λm=>⟨g,cap,(e.set 1 _).1,h2,d 1 _,f⟩,λo'=>⟨g,cap,(e.set 2 _).1,h2,d 2 _,f⟩,λl=>⟨g,cap,(e.set 3 _).1,h2,d 3 _,f⟩,λc=>⟨g,cap,(e.set 4 _).1,h2,d 4 _,f⟩,λb=>⟨g,cap,(e.set 5 _).1,h2,d 5 _,f⟩⟩
theorem dX.at {rb:Nat}(w:GE)(k:Nat)(v:GJ):dX rb w (w.setCell ⟨rb,k,GA⟩ v):=(dX.refl rb w).set ⟨rb,k,GA⟩ v (.inr rfl)
theorem jx (w:GE)(a:Obj):(w.alloc a).drew.heap[w.heap.size]?=GB a/\GK w.heap.size w (w.alloc a).drew:=⟨GH w _,((GN _ w).alloc (GC _) _).drew⟩
theorem is_q {w:GE}{rb i:Nat}{o q:Int}{er pl:Nat}{all:List Tk}{x:Tk}(s:List UInt8)(h:Rq w rb i o q er pl all)(I:all[i]?=GB x) :
  GR GD 103 #[.pointer (GB ⟨rb,0,GA⟩),stv s] w λe w'=>e=.returned (.bool ((er==0)&&((x.k==3||x.k==4)&&x.t==s)))/\GK w.heap.size w w':=by
 obtain⟨B,u⟩:=exq (((er==0)&&((x.k==3||x.k==4)&&x.t==s)));rw[<-u];have d:Hid (B=((er==0)&&((x.k==3||x.k==4)&&x.t==s))):=u;clear u;obtain⟨g,cap,L,O,N,Q,C,R,⟨c0,c1,t0,t1,t2,t3⟩,c2,c3,c4,c5,P⟩:=h.next I;have f:=h.lt;have j:GK w.heap.size w (w.alloc (.cells #[.int .i64 0,.int .i64 0,.string ⟨#[]⟩,.int .i64 0] 67)):=(GN _ w).alloc (GC _) _;have M:=(j.cell (p:=⟨rb,0,GA⟩) f).trans c0;have d1:=(j.cell (p:=⟨rb,1,GA⟩) f).trans c1;have c:g<w.heap.size:=by omega
 have H:=(j.cell (p:=⟨g,i*4,GA⟩) c).trans t0;have G:=(j.cell (p:=⟨g,i*4+1,GA⟩) c).trans t1;have F:=(j.cell (p:=⟨g,i*4+2,GA⟩) c).trans t2;have u3:=(j.cell (p:=⟨g,i*4+3,GA⟩) c).trans t3;have E:Hid (∀ wx,GK w.heap.size w wx->wx.cell? ⟨rb,4,GA⟩=GB (.int .i64 er)):=λwx b=>(b.cell (p:=⟨rb,4,GA⟩) f).trans c4;clear h j C;go_enter Tryz.func103,Tryz.ntmps103;go_upto_region 1 with fail;go_cut [5] (λv wx=>∃bt,v=.pointer (GB ⟨bt,0,GA⟩)/\wx.heap[bt]?=GB (.cells #[.int .i64 (x.k:Nat),.int .i64 x.n,stv x.t,.int .i64 (x.a:Nat)] 67)/\GK w.heap.size w wx)
 case first =>
  have h2:=jx w (.cells #[.int .i64 (x.k:Nat),.int .i64 x.n,stv x.t,.int .i64 (x.a:Nat)] 67);go_region
  all_goals
   go_wp2;go_meet;exact⟨_,rfl,h2.1,h2.2⟩
 case rest =>
 obtain⟨bt,rfl,D,r⟩:=hcut;obtain⟨p0,p1,p2,p3,-⟩:=Blk.cells4 (o:=λ_=>0) (i:=0) ⟨D,rfl⟩;have e4:=E.out _ r;clear c0 c1 t0 t1 t2 t3 M d1 H G F u3 c2 c3 c4 c5 D E;by_cases y:er=0
 ·subst y;by_cases l:x.k=3
  ·have b3:((x.k:Int)==3)=true:=by simp[l]
   have A:Hid (B=(x.t==s)):=by show B=_;rw[d.out];simp[l]
   clear l d;go_wp2;go_ret;exact⟨by rw[A.out];simp,r⟩
  ·have b3:((x.k:Int)==3)=false:=by simp;omega
   by_cases m:x.k=4
   ·have A:((x.k:Int)==4)=true:=by simp[m]
    have z:Hid (B=(x.t==s)):=by show B=_;rw[d.out];simp[m]
    clear l m d;go_wp2;go_ret;exact⟨by rw[z.out];simp,r⟩
   ·have A:((x.k:Int)==4)=false:=by simp;omega
    have z:Hid (B=false):=by show B=_;rw[d.out];simp[l,m]
    clear l m d;go_wp2;go_ret;exact⟨by rw[z.out];rfl,r⟩
 ·have b0:((er:Int)==0)=false:=by simp;omega
  have b1:Hid (B=false):=by show B=_;rw[d.out];simp[y]
  clear y d;go_wp2;go_ret;exact⟨by rw[b1.out];rfl,r⟩
def iE (x:Tk):Prop:=∀ s:List UInt8,s≠[]->eE s=false->((x.k==3||x.k==4)&&x.t==s)=(x.t==s)
abbrev Sq:=Sum (Nat × Nat) (List Tk)
def QS (w:GE)(rb:Nat)(all:List Tk)(o q:Nat):Sq->Prop
 | .inl (er,a)=>∃(i:Nat) (o' b:Int),Rq w rb i o' b er a all/\i<all.length/\er≠0
 | .inr ts=>∃(i pl:Nat),Rq w rb i (o:Nat) (q:Nat) 0 pl all/\all.drop i=ts/\WFT ts/\o<=64/\q<=4
def stp {α:Type}:Rs α->Sq
 | ⟨GA⟩=>.inl (0,0)
 | ⟨GB (.inl (e,a))⟩=>.inl (e,a)
 | ⟨GB (.inr (_,t))⟩=>.inr t
def onw {α:Type}(f:List Tk->Rs α):Sq->Sq
 | .inl a=>.inl a
 | .inr ts=>stp (f ts)
def isS (s:List UInt8):Sq->Bool
 | .inl _=>false
 | .inr []=>false
 | .inr (x::_)=>x.t==s
def nt (e:Nat):Sq->Sq
 | .inl b=>.inl b
 | .inr []=>.inl (0,0)
 | .inr (x::_)=>.inl (e,x.a)
theorem QS.below {w w':GE}{rb o q:Nat}{all:List Tk}{st:Sq}(h:QS w rb all o q st)(b:GK w.heap.size w w'):QS w' rb all o q st:=by
 match st,h with
 | .inl (er,a),⟨i,o',c,h1,h2⟩=>exact⟨i,o',c,h1.below b,h2⟩
 | .inr ts,⟨i,pl,h1,h2⟩=>exact⟨i,pl,h1.below b,h2⟩
theorem QS.lt {w:GE}{rb o q:Nat}{all:List Tk}{st:Sq}(h:QS w rb all o q st):rb<w.heap.size:=by
 match st,h with
 | .inl (er,a),⟨i,o',b,h1,h2⟩=>exact h1.lt
 | .inr ts,⟨i,pl,h1,h2⟩=>exact h1.lt
theorem qd {all:List Tk}{i:Nat}{x:Tk}{r:List Tk}(h:all.drop i=x::r):all[i]?=GB x/\all.drop (i+1)=r/\x ∈ all:=by
 have h1:(all.drop i)[0]?=GB x:=by rw[h];rfl
 rw[List.getElem?_drop] at h1;have h2:(all.drop i).tail=r:=by rw[h];rfl
 rw[List.tail_drop] at h2;exact⟨by simpa using h1,h2,List.mem_of_mem_drop (i:=i) (by rw[h];exact List.mem_cons_self)⟩
theorem Cy {w:GE}{rb i:Nat}{o q:Int}{pl:Nat}{all:List Tk}{x:Tk}(e:Nat)(h:Rq w rb i o q 0 pl all)(b:all[i]?=GB x) :
  GR GD 29 #[.pointer (GB ⟨rb,0,GA⟩),.int .i64 e] w λr w'=>r=.returned (.tuple #[])/\Rq w' rb i o q e x.a all/\dX rb w w':=by
 obtain⟨_,_,_,_,_,_,_,_,_,_,_,c4,_,j⟩:=h.next b;have h1:=h.set.2.2.2.1 e;have h2:=h1.set.2.2.2.2 x.a;have K:=(dX.at (rb:=rb) w 4 (.int .i64 e)).trans (dX.at _ 5 (.int .i64 (x.a:Nat)));obtain⟨g,cap,L,l,k,n,c,p,⟨c0,c1,t0,t1,t2,t3⟩,-,-,-,c5,m⟩:=h1.next b;clear h h1 t0 t1 t2 c;go_enter Tryz.func29,Tryz.ntmps29;go_upto_region 2 with fail;generalize w.setCell ⟨rb,4,GA⟩ (.int .i64 e)=w3 at *;go_region
 all_goals
  go_wp2
  go_end0
  exact⟨rfl,h2.below (GN _ _).drew,K.drew⟩
theorem Ae {w:GE}{rb i:Nat}{o q:Int}{er pl:Nat}{all:List Tk}{x:Tk}(e:Nat)(h:Rq w rb i o q er pl all)(a:all[i]?=GB x)(c:er≠0) :
  GR GD 29 #[.pointer (GB ⟨rb,0,GA⟩),.int .i64 e] w λr w'=>r=.returned (.tuple #[])/\Rq w' rb i o q er pl all/\dX rb w w':=by
 have b0:((er:Int)==0)=false:=by simp;omega
 obtain⟨_,_,_,_,_,_,_,_,_,_,_,c4,_,b⟩:=h.next a;have K:=dX.refl rb w;clear c;go_enter Tryz.func29,Tryz.ntmps29;go_wp2
 go_end0
 exact⟨rfl,h,K⟩
theorem tY {w:GE}{rb o q:Nat}{all:List Tk}{st:Sq}(k:∀ x,x ∈ all->iE x)(s:List UInt8)(f:s≠[])(g:eE s=false)(h:QS w rb all o q st) :
  GR GD 103 #[.pointer (GB ⟨rb,0,GA⟩),stv s] w λe w'=>e=.returned (.bool (isS s st))/\GK w.heap.size w w':=by
 match st,h with
 | .inl (er,a),⟨i,o',l,h1,h2,c⟩ =>
  refine(is_q s h1 (GI h2)).mono ?_;rintro e w' ⟨rfl,b⟩;exact⟨by simp[c,isS],b⟩
 | .inr [],⟨i,pl,h1,h2,c⟩=>exact absurd rfl c.1.ne
 | .inr (x::r),⟨i,pl,h1,h2,c⟩ =>
  obtain⟨d,_,j⟩:=qd h2;refine(is_q s h1 d).mono ?_;rintro e w' ⟨rfl,b⟩;exact⟨by rw[k x j s f g];simp[isS],b⟩
theorem jN {w:GE}{rb o q:Nat}{all:List Tk}{st:Sq}(e:Nat)(g:e≠0)(h:QS w rb all o q st) :
  GR GD 29 #[.pointer (GB ⟨rb,0,GA⟩),.int .i64 e] w λr w'=>r=.returned (.tuple #[])/\QS w' rb all o q (nt e st)/\dX rb w w':=by
 match st,h with
 | .inl (er,a),⟨i,o',f,h1,h2,c⟩ =>
  refine(Ae e h1 (GI h2) c).mono ?_;rintro r w' ⟨rfl,b,k⟩;exact⟨rfl,⟨i,o',f,b,h2,c⟩,k⟩
 | .inr [],⟨i,pl,h1,h2,c⟩=>exact absurd rfl c.1.ne
 | .inr (x::r),⟨i,pl,h1,h2,c⟩ =>
  obtain⟨d,_,l⟩:=qd h2;refine(Cy e h1 d).mono ?_;rintro j w' ⟨rfl,b,k⟩;exact⟨rfl,⟨i,_,_,b,by have:=List.getElem?_eq_some_iff.1 d;exact this.1,g⟩,k⟩
theorem QS.ok {w:GE}{rb o q:Nat}{all:List Tk}{x:Tk}{r:List Tk}(h:QS w rb all o q (.inr (x::r))) :
  ∃i g cap L:Nat,g<rb/\i<L/\L<=cap/\cap<=9223372036854775807/\L<=3000/\x ∈ all/\w.cell? ⟨rb,0,GA⟩=GB (.slice (GB ⟨g,0,GA⟩) L cap)/\w.cell? ⟨rb,1,GA⟩=GB (.int .i64 i)/\w.cell? ⟨rb,2,GA⟩=GB (.int .i64 o)/\w.cell? ⟨rb,3,GA⟩=GB (.int .i64 q)/\w.cell? ⟨rb,4,GA⟩=GB (.int .i64 0)/\(w.cell? ⟨g,i*4,GA⟩=GB (.int .i64 (x.k:Nat))/\w.cell? ⟨g,i*4+1,GA⟩=GB (.int .i64 x.n)/\w.cell? ⟨g,i*4+2,GA⟩=GB (stv x.t)/\w.cell? ⟨g,i*4+3,GA⟩=GB (.int .i64 (x.a:Nat)))/\(∀ j,w.frozen? ⟨rb,j,GA⟩=false):=by
 obtain⟨i,pl,h1,h2,u⟩:=h;obtain⟨c,s,d⟩:=qd h2;obtain⟨g,cap,L,f,e,m,b,p,⟨c0,c1,t0,t1,t2,t3⟩,c2,c3,c4,c5,l⟩:=h1.next c;exact⟨i,g,cap,L,f,e,m,b,p,d,c0,c1,c2,c3,c4,⟨t0,t1,t2,t3⟩,l⟩
theorem QS.over {w:GE}{rb o q:Nat}{all:List Tk}{x:Tk}{r:List Tk}(h:QS w rb all o q (.inr (x::r)))(c:x.t≠[]\/x.k≠0){i:Nat}(d:w.cell? ⟨rb,1,GA⟩=GB (.int .i64 i)) :
  QS (w.setCell ⟨rb,1,GA⟩ (.int .i64 ((i:Int)+1))) rb all o q (.inr r):=by
 obtain⟨i2,pl,h1,h2,b⟩:=h;obtain⟨a,f,g⟩:=qd h2;obtain⟨_,_,_,_,_,_,_,_,⟨_,c1,_⟩,_⟩:=h1.next a;rw[d] at c1;have e:i=i2:=by
  have j:(i:Int)=(i2:Int):=by simpa using c1
  omega
 subst e;exact⟨i+1,pl,h1.set.1 (i+1),f,b.1.tail c,b.2⟩
theorem QS.open {w:GE}{rb o q:Nat}{all:List Tk}{ts:List Tk}(h:QS w rb all o q (.inr ts))(o':Nat)(a:o'<=64) :
  QS (w.setCell ⟨rb,2,GA⟩ (.int .i64 o')) rb all o' q (.inr ts):=by
 obtain⟨i,pl,h1,h2⟩:=h;exact⟨i,pl,h1.set.2.1 (o':Nat),h2.1,h2.2.1,a,h2.2.2.2⟩
theorem QS.quants {w:GE}{rb o q:Nat}{all:List Tk}{ts:List Tk}(h:QS w rb all o q (.inr ts))(a:Nat)(b:a<=4) :
  QS (w.setCell ⟨rb,3,GA⟩ (.int .i64 a)) rb all o a (.inr ts):=by
 obtain⟨i,pl,h1,h2⟩:=h;exact⟨i,pl,h1.set.2.2.1 (a:Nat),h2.1,h2.2.1,h2.2.2.1,b⟩
theorem QS.down {w:GE}{rb o q:Nat}{all:List Tk}{st:Sq}(h:QS w rb all (o+1) q st) :
  ∃o':Int,w.cell? ⟨rb,2,GA⟩=GB (.int .i64 o')/\(∀ j,w.frozen? ⟨rb,j,GA⟩=false)/\QS (w.setCell ⟨rb,2,GA⟩ (.int .i64 (Ho (o' - 1)))) rb all o q st:=by
 match st,h with
 | .inl (er,a),⟨i,o',d,h1,h2,b⟩ =>
  obtain⟨_,_,_,_,_,_,_,_,_,c2,_,_,_,c⟩:=h1.next (GI h2);exact⟨o',c2,c,i,_,d,h1.set.2.1 _,h2,b⟩
 | .inr [],⟨i,pl,h1,h2,b⟩=>exact absurd rfl b.1.ne
 | .inr (x::r),⟨i,pl,h1,h2,b⟩ =>
  obtain⟨f,_,g⟩:=qd h2;obtain⟨_,_,_,_,_,_,_,_,_,c2,_,_,_,c⟩:=h1.next f;refine⟨_,c2,c,i,pl,?_,h2,b.1,by have:=b.2.1;omega,b.2.2⟩;have e:Ho ((((o+1:Nat):Int))-1)=((o:Nat):Int):=by have:=b.2.1;unfold Ho;omega
  rw[e];exact h1.set.2.1 _
theorem QS.le {w:GE}{rb o q:Nat}{all:List Tk}{ts:List Tk}(h:QS w rb all o q (.inr ts)):o<=64/\q<=4/\WFT ts:=by
 obtain⟨i,pl,h1,h2,b,a⟩:=h;exact⟨a.1,a.2,b⟩
theorem oF {s:List UInt8}{st:Sq}(h:isS s st=true):∃x r,st=.inr (x::r)/\x.t=s:=by
 match st,h with
 | .inr (x::r),h=>exact⟨x,r,rfl,by simpa [isS] using h⟩
theorem pW {s:List UInt8}{st:Sq}(h:isS s st=false){all:List Tk}{w:GE}{rb o q:Nat}(b:QS w rb all o q st):nt 120 st=onw (eD s) st/\∀ d,nt 120 st=onw (ej s d) st:=by
 match st,h,b with
 | .inl (er,a),h,b=>exact⟨rfl,λ_=>rfl⟩
 | .inr [],h,⟨i,pl,h1,h2,e⟩=>exact absurd rfl e.1.ne
 | .inr (x::r),h,b =>
  have c:¬x.t=s:=by simpa [isS] using h
  exact⟨by simp[nt,onw,eD,c,stp],λ_=>by simp[nt,onw,ej,c,stp]⟩
theorem tH {w:GE}{rb o q:Nat}{all:List Tk}{st:Sq}(z:∀ x,x ∈ all->iE x)(s:List UInt8)(l:s≠[])(v:eE s=false)(h:QS w rb all o q st) :
  GR GD 203 #[.pointer (GB ⟨rb,0,GA⟩),stv s] w λe w'=>e=.returned (.tuple #[])/\QS w' rb all o q (onw (eD s) st)/\dX rb w w':=by
 have c:=tY z s l v h;cases a:isS s st with
 | true =>
  obtain⟨x,r,rfl,f⟩:=oF a;have n:onw (eD s) (.inr (x::r))=.inr r:=by simp[onw,eD,f,stp]
  rw[n];rw[a] at c;have d:x.t≠[]\/x.k≠0:=.inl (by rw[f];exact l);clear n a f;go_enter Tryz.func203,Tryz.ntmps203;go_wp2_with fail;refine c.mono ?_;rintro e w2 ⟨rfl,b⟩;have h2:=h.below b;obtain⟨i,g,cap,L,C,B,y,m,E,A,c0,c1,c2,c3,c4,-,D⟩:=h2.ok;have j:=h2.over d c1;have K:=(dX.ofBelow (rb:=rb) b).trans (dX.at w2 1 (.int .i64 ((i:Int)+1)));clear h2 h c b c0 c2 c3 c4;go_wp2
  go_end0
  exact⟨rfl,j,K⟩
 | false =>
  rw[<-(pW a h).1];rw[a] at c;have p:∀ w2,QS w2 rb all o q st->GR GD 29 #[.pointer (GB ⟨rb,0,GA⟩),.int .i64 120] w2 λr w'=>r=.returned (.tuple #[])/\QS w' rb all o q (nt 120 st)/\dX rb w2 w':=λw2 h2=>jN 120 (by decide) h2;clear a;go_enter Tryz.func203,Tryz.ntmps203;go_wp2_with fail;refine c.mono ?_;rintro e w2 ⟨rfl,b⟩;go_wp2_with fail;refine(p w2 (h.below b)).mono ?_;rintro e w3 ⟨rfl,j,u⟩;have K:=(dX.ofBelow (rb:=rb) b).trans u;clear h c b p;go_wp2
  (try simp only[Js,Exit.then])
  refine GG (IY rfl _ _ _) rfl ?_;exact⟨rfl,j,K⟩
theorem wP {w:GE}{rb q:Nat}{all:List Tk}{x:Tk}{r:List Tk}(h:QS w rb all 64 q (.inr (x::r))) :
  GR GD 104 #[.pointer (GB ⟨rb,0,GA⟩)] w λe w'=>e=.returned (.tuple #[])/\QS w' rb all 65 q (.inl (121,x.a))/\dX rb w w':=by
 have c:GR GD 29 #[.pointer (GB ⟨rb,0,GA⟩),.int .i64 121] w λf w'=>f=.returned (.tuple #[])/\QS w' rb all 65 q (.inl (121,x.a))/\dX rb w w':=(jN 121 (by decide) h).mono λe w' b=>⟨b.1,b.2.1,b.2.2⟩;obtain⟨i,g,cap,L,o,n,k,d,s,m,c0,c1,c2,c3,c4,-,p⟩:=h.ok;clear h c0 c1 c3 c4;go_enter Tryz.func104,Tryz.ntmps104;go_wp2_with fail;refine c.mono ?_;rintro e w3 ⟨rfl,l,j⟩;clear c;go_wp2
 (try simp only[Js,Exit.then])
 refine GG (IY rfl _ _ _) rfl ?_;exact⟨rfl,l,j⟩
theorem rE {w:GE}{rb o q:Nat}{all:List Tk}{x:Tk}{r:List Tk}(u:o<64)(f:x.t≠[])(h:QS w rb all o q (.inr (x::r))) :
  GR GD 104 #[.pointer (GB ⟨rb,0,GA⟩)] w λe w'=>e=.returned (.tuple #[])/\QS w' rb all (o+1) q (.inr r)/\dX rb w w':=by
 have h1:=h.open (o+1) (by omega);rw[show ((o+1:Nat):Int)=(o:Int)+1 by omega] at h1;obtain⟨i,g,cap,L,z,y,n,b,C,v,c0,c1,c2,c3,c4,-,A⟩:=h.ok;obtain⟨i2,g2,d,D,l,k,c,a,p,j,s,d1,d2,d3,d4,-,m⟩:=h1.ok;have h2:=h1.over (.inl f) d1;have K:=(dX.at (rb:=rb) w 2 (.int .i64 ((o:Int)+1))).trans (dX.at _ 1 (.int .i64 ((i2:Int)+1)));have B:((o:Int)==64)=false:=by simp;omega
 clear h h1 c0 c1 c3 c4 s d2 d3 d4;go_enter Tryz.func104,Tryz.ntmps104;go_upto_region 3 with fail;generalize w.setCell ⟨rb,2,GA⟩ (.int .i64 ((o:Int)+1))=w3 at *;go_wp2
 go_end0
 exact⟨rfl,h2,K⟩
theorem qG {w:GE}{rb o q:Nat}{all:List Tk}{st:Sq}(u:∀ x,x ∈ all->iE x)(s:List UInt8)(n:s≠[])(t:eE s=false)(h:QS w rb all o q st) :
  GR GD 160 #[.pointer (GB ⟨rb,0,GA⟩),stv s] w λe w'=>e=.returned (.tuple #[])/\QS w' rb all (o+1) q (onw (ej s o) st)/\dX rb w w':=by
 have c:=tY u s n t h;cases d:isS s st with
 | true =>
  obtain⟨x,r,rfl,k⟩:=oF d;rw[d] at c;have j:∀ w2,QS w2 rb all o q (.inr (x::r))->GR GD 104 #[.pointer (GB ⟨rb,0,GA⟩)] w2 λe w'=>e=.returned (.tuple #[])/\QS w' rb all (o+1) q (onw (ej s o) (.inr (x::r)))/\dX rb w2 w':=λw2 h2=>by
   by_cases g:o=64
   ·subst g;have i:onw (ej s 64) (.inr (x::r))=.inl (121,x.a):=by simp[onw,ej,k,stp]
    rw[i];exact wP h2
   ·have i:onw (ej s o) (.inr (x::r))=.inr r:=by simp[onw,ej,k,stp,g]
    rw[i];exact rE (by have:=h2.le.1;omega) (by rw[k];exact n) h2
  clear d k;generalize onw (ej s o) (.inr (x::r))=p at *;go_enter Tryz.func160,Tryz.ntmps160;go_wp2_with fail;refine c.mono ?_;rintro e w2 ⟨rfl,b⟩;go_wp2_with fail;refine(j w2 (h.below b)).mono ?_;rintro e w3 ⟨rfl,f,l⟩;have K:=(dX.ofBelow (rb:=rb) b).trans l;clear h c b j;go_wp2
  go_end0
  exact⟨rfl,f,K⟩
 | false =>
  rw[<-(pW d h).2 o];rw[d] at c;have j:∀ w2,QS w2 rb all o q st->GR GD 29 #[.pointer (GB ⟨rb,0,GA⟩),.int .i64 120] w2 λr w'=>r=.returned (.tuple #[])/\QS w' rb all (o+1) q (nt 120 st)/\dX rb w2 w':=λw2 h2=>(jN 120 (by decide) h2).mono λe w' m=>⟨m.1,by
   obtain⟨er,a,i⟩:∃er a,nt 120 st=.inl (er,a):=by
    match st with
    | .inl (er,a)=>exact⟨er,a,rfl⟩
    | .inr []=>exact⟨0,0,rfl⟩
    | .inr (x::r)=>exact⟨120,x.a,rfl⟩
   have f:=m.2.1;rw[i] at f ⊢;exact f,m.2.2⟩
  clear d;go_enter Tryz.func160,Tryz.ntmps160;go_wp2_with fail;refine c.mono ?_;rintro e w2 ⟨rfl,b⟩;go_wp2_with fail;refine(j w2 (h.below b)).mono ?_;rintro e w3 ⟨rfl,f,l⟩;have K:=(dX.ofBelow (rb:=rb) b).trans l;clear h c b j;go_wp2
  (try simp only[Js,Exit.then])
  refine GG (IY rfl _ _ _) rfl ?_;exact⟨rfl,f,K⟩
theorem Ch {w:GE}{rb o q:Nat}{all:List Tk}{st:Sq}(i:∀ x,x ∈ all->iE x)(s:List UInt8)(d:s≠[])(f:eE s=false)(h:QS w rb all (o+1) q st) :
  GR GD 161 #[.pointer (GB ⟨rb,0,GA⟩),stv s] w λe w'=>e=.returned (.tuple #[])/\QS w' rb all o q (onw (eD s) st)/\dX rb w w':=by
 have c:=tH i s d f h;generalize onw (eD s) st=b at *;go_enter Tryz.func161,Tryz.ntmps161;go_wp2_with fail;refine c.mono ?_;rintro e w2 ⟨rfl,h2,a⟩;obtain⟨o',c2,j,g⟩:=h2.down;have K:=a.trans (dX.at w2 2 (.int .i64 (Ho (o' - 1))));clear h c a h2;go_wp2
 go_end0
 exact⟨rfl,g,K⟩
def iQ (L:List (List UInt8))(st:Sq):Int :=
 match L.findIdx? (λs=>isS s st) with
 | some i=>(i:Nat)
 | none=>-1
theorem rt {L:List (List UInt8)}{st:Sq}{k:Nat}{s:List UInt8}(d:L[k]?=GB s)(a:isS s st=true)(b:∀ j t,j<k->L[j]?=GB t->isS t st=false):iQ L st=(k:Nat):=by
 have:L.findIdx? (λs=>isS s st)=GB k:=by
  obtain⟨c,f⟩:=List.getElem?_eq_some_iff.1 d;rw[List.findIdx?_eq_some_iff_getElem];refine⟨c,by rw[f];exact a,λj e=>?_⟩
  have:=b j (L[j]'(by omega)) e (GI _)
  simp[this]
 unfold iQ;rw[this]
theorem rl {L:List (List UInt8)}{st:Sq}(b:∀ j t,j<L.length->L[j]?=GB t->isS t st=false):iQ L st=-1:=by
 have:L.findIdx? (λs=>isS s st)=GA:=by
  rw[List.findIdx?_eq_none_iff];intro t a;obtain⟨j,c,d⟩:=List.getElem_of_mem a;exact b j t c (by rw[<-d];exact GI _)
 unfold iQ;rw[this]
theorem jJ {w:GE}{rb o q:Nat}{all:List Tk}{st:Sq}(K:∀ x,x ∈ all->iE x)(L:List (List UInt8))(C:∀ s,s ∈ L->s≠[]/\eE s=false)(h:QS w rb all o q st){g n cap:Nat}(H:n=L.length)(P:g<w.heap.size)(J:∀ j s,L[j]?=GB s->w.cell? ⟨g,j,GA⟩=GB (stv s))(R:n<=cap)(I:cap<=GY) :
  GR GD 54 #[.pointer (GB ⟨rb,0,GA⟩),.slice (GB ⟨g,0,GA⟩) n cap] w λe w'=>e=.returned (.int .i64 (iQ L st))/\GK w.heap.size w w':=by
 have M:cap<=9223372036854775807:=I;obtain⟨V,B⟩:=exq (iQ L st);rw[<-B];have m:Hid (V=iQ L st):=B;have D:Hid (n=L.length):=H;have r:Hid (∀ j s wx,L[j]?=GB s->GK w.heap.size w wx->wx.cell? ⟨g,j,GA⟩=GB (stv s)):=λj s wx A b=>(b.cell (p:=⟨g,j,GA⟩) P).trans (J j s A);have u:Hid (∀ s wx,s ∈ L->GK w.heap.size w wx->GR GD 103 #[.pointer (GB ⟨rb,0,GA⟩),stv s] wx λe w'=>e=.returned (.bool (isS s st))/\GK wx.heap.size wx w'):=λs wx d b=>tY K s (C s d).1 (C s d).2 (h.below b);clear B H J h C K I;go_enter Tryz.func54,Tryz.ntmps54;go_wp2_with fail;go_loopw [5] (λv wr=>∃k:Nat,v=.int .i64 k/\k<=n/\(∀ j t,j<k->L[j]?=GB t->isS t st=false)/\GK w.heap.size w wr) (λv _=>n-(Hh v).toNat)
 case atStart=>exact⟨0,by go_num,by omega,λj t A=>by omega,GN _ w⟩
 case round =>
  obtain⟨k,rfl,Q,a,i⟩:=hrel;by_cases z:k<n
  ·have N:(k:Int)<(n:Int):=by omega
   obtain⟨s,d⟩:∃s,L[k]?=GB s:=⟨_,GI (by rw[<-D.out];exact z)⟩;have G:=r.out k s wr d i;have c:=u.out s wr (Is d) i;have O:k<9223372036854775807:=by omega
   cases l:isS s st with
   | true =>
    rw[l] at c;have fin:Hid (V=(k:Nat)):=by show V=_;rw[m.out];exact rt d l a
    clear a u r m d l;go_wp2_with fail;refine c.mono ?_;rintro e w2 ⟨rfl,b2⟩;have F:=i.trans (b2.mono i.size);clear c G;go_wp2;go_ret;exact⟨by rw[fin.out];rfl,F⟩
   | false =>
    rw[l] at c;have f:∀ j t,j<k+1->L[j]?=GB t->isS t st=false:=λj t A y=>by
     by_cases e:j=k
     ·subst e;rw[d] at y;cases y;exact l
     ·exact a j t (by omega) y
    have E:=GL f;clear a u r m d l f;go_wp2_with fail;refine c.mono ?_;rintro e w2 ⟨rfl,b2⟩;have F:=i.trans (b2.mono i.size);clear c G i b2;go_wp2;go_roundw
    case rel=>(try ((repeat apply G0);refine⟨?_,rfl⟩));exact⟨k+1,by go_num,by omega,E.out,F⟩
    case measure=>simp[Hh];omega
  ·obtain rfl:k=n:=by omega
   have fin:Hid (V=-1):=by show V=_;rw[m.out];exact rl (by rw[<-D.out];exact a)
   clear a u r m D;go_wp2;go_ret;exact⟨by rw[fin.out];rfl,i⟩
abbrev Nb (n bl:Nat):Nat->Prop:=λb=>n<=b/\b≠bl
theorem Sl.toB {n n1 bl:Nat}{w:GE}{f:Fs}{ao:Option G1}(h:Sl w (Nw n1) f ao)(b:n<=n1)(c:bl<n1):Sl w (Nb n bl) f ao:=h.mono (λ_ _ _=>rfl) (GC _) (λk a _=>⟨Hn b a,by have a:n1<=k:=a;omega⟩)
theorem Sl.toB' {n bl:Nat}{w:GE}{f:Fs}{ao:Option G1}(h:Sl w (Nw n) f ao)(c:w.heap.size<=bl):Sl w (Nb n bl) f ao:=h.mono (λ_ _ _=>rfl) (GC _) (λk a b=>⟨a,by omega⟩)
theorem Sl.keepB {rb n bl:Nat}{w w':GE}{f:Fs}{ao:Option G1}(h:Sl w (Nb n bl) f ao)(k:dX rb w w')(c:rb<n):Sl w' (Nb n bl) f ao:=h.mono (λi a b=>k.block i b (by have:=a.1;omega)) k.size (λ_ h _=>h)
theorem Sl.allocB {P:Nat->Prop}{w:GE}{f:Fs}{ao:Option G1}(h:Sl w P f ao)(a:Obj):Sl (w.alloc a) P f ao:=h.mono (λi c b=>GO w a i b) (by simp) (λ_ h _=>h)
theorem Sl.setB {n bl:Nat}{w:GE}{f:Fs}{ao:Option G1}(h:Sl w (Nb n bl) f ao)(p:G1)(v:GJ)(a:p.block=bl\/p.block<n):Sl (w.setCell p v) (Nb n bl) f ao:=h.mono (λi b c=>GP w p i v (by have h1:=b.1;have h2:=b.2;rcases a with a|a<;>omega)) (by simp) (λ_ h _=>h)
theorem Sl.set5B {n bl:Nat}{w:GE}{f:Fs}{ao:Option G1}(h:Sl w (Nb n bl) f ao){b:Nat}(a:b=bl\/b<n)(b0 b1 b2 b3 c:GJ):Sl (((((w.setCell ⟨b,0,GA⟩ b0).setCell ⟨b,1,GA⟩ b1).setCell ⟨b,2,GA⟩ b2).setCell ⟨b,3,GA⟩ b3).setCell ⟨b,4,GA⟩ c) (Nb n bl) f ao:=((((h.setB ⟨b,0,GA⟩ b0 a).setB ⟨b,1,GA⟩ b1 a).setB ⟨b,2,GA⟩ b2 a).setB ⟨b,3,GA⟩ b3 a).setB ⟨b,4,GA⟩ c a
theorem Sl.lowB {n bl m:Nat}{w:GE}{f:Fs}{ao:Option G1}(h:Sl w (Nb n bl) f ao)(a:m<=n):Sl w (Nw m) f ao:=h.mono (λ_ _ _=>rfl) (GC _) (λk b _=>Hn a b.1)
def cwL:List (List UInt8):=gX.map (·.1)
def qwL:List (List UInt8):=gL.map (·.1)
def Wl (w:GE)(L:List (List UInt8))(w':GE)(g:Nat):Prop:=GK w.heap.size w w'/\w.heap.size<=g/\g<w'.heap.size/\∀ j s,L[j]?=GB s->w'.cell? ⟨g,j,GA⟩=GB (stv s)
theorem lR (w:GE)(L:List (List UInt8))(t:Hl):Wl w L (w.alloc (.cells (L.map stv).toArray t)) w.heap.size:=by
 refine⟨(GN _ w).alloc (GC _) _,GC _,by simp,λj s a=>?_⟩;have b:(w.alloc (.cells (L.map stv).toArray t)).heap[w.heap.size]?=GB (.cells (L.map stv).toArray t (0,0)):=GH w _;rw[Hf _ _ _ _ _ (0,0) b];simp[a]
theorem wN (w:GE):GR GD 158 #[] w λe w'=>∃g,e=.returned (.slice (GB ⟨g,0,GA⟩) 10 10)/\Wl w cwL w' g:=by
 have H:=lR w cwL 9;go_enter Tryz.func158,Tryz.ntmps158;go_wp2;go_ret;exact⟨_,rfl,H⟩
theorem oZ (w:GE):GR GD 159 #[] w λe w'=>∃g,e=.returned (.slice (GB ⟨g,0,GA⟩) 6 6)/\Wl w qwL w' g:=by
 have H:=lR w qwL 9;go_enter Tryz.func159,Tryz.ntmps159;go_wp2;go_ret;exact⟨_,rfl,H⟩
abbrev bxE (e:Ex)(ao:Option G1)(cap:Nat):Obj:=zEx e ao cap
theorem Fc.allocP {P:Nat->Prop}{w:GE}{f:Fs}{xs:List GJ}(h:Fc w P f xs)(a:Obj):Fc (w.alloc a) P f xs:=h.mono (λi c b=>GO w a i b) (by simp) (λ_ h _=>h)
theorem Sl.freshP {w:GE}{P:Nat->Prop}{f:Fs}(xs:List GJ)(t:Hl)(h:Fc w P f xs)(b:P w.heap.size):Sl (w.alloc (.cells xs.toArray t)) P f (GB ⟨w.heap.size,0,GA⟩):=by
 refine Sl.of b (by simp) (λj u a=>?_) (h.allocP _);rw[Hx];rw[Hf _ w.heap.size j _ t (0,0) (GH w _)];simpa using a
theorem FS {w:GE}{P:Nat->Prop}(k:Nat)(c:Int){a b:Ex}{aoa aob:Option G1}{ca cb:Nat}(q:Sl w P a.kids aoa)(p:Sl w P b.kids aob)(u:P (w.heap.size+1+1+1)) :
  GR GD 55 #[.int .i64 k,.int .i64 c,exV a aoa ca,exV b aob cb] w λe w'=>∃ao cap,e=.returned (exV ⟨(k:Nat),0,[],c,(one a).snoc b⟩ ao cap)/\Sl w' P ((one a).snoc b) ao/\GK w.heap.size w w':=by
 have s:(w.alloc (bxE a aoa ca)).heap.size=w.heap.size+1:=by simp
 have s2:((w.alloc (bxE a aoa ca)).alloc (bxE b aob cb)).heap.size=w.heap.size+1+1:=by simp
 have j:(((w.alloc (bxE a aoa ca)).alloc (bxE b aob cb)).alloc (bxE ⟨(k:Nat),0,[],c,(one a).snoc b⟩ (GB ⟨w.heap.size+1+1+1,0,GA⟩) 2)).heap.size=w.heap.size+1+1+1:=by simp
 have m:=Sl.freshP _ 25 (Fc.app (Fc.one (e:=a) ca (((q.allocB (bxE a aoa ca)).allocB (bxE b aob cb)).allocB (bxE ⟨(k:Nat),0,[],c,(one a).snoc b⟩ (GB ⟨w.heap.size+1+1+1,0,GA⟩) 2))) (Fc.one (e:=b) cb (((p.allocB (bxE a aoa ca)).allocB (bxE b aob cb)).allocB (bxE ⟨(k:Nat),0,[],c,(one a).snoc b⟩ (GB ⟨w.heap.size+1+1+1,0,GA⟩) 2)))) (by rw[j];exact u);have l:(((w.alloc (bxE a aoa ca)).alloc (bxE b aob cb)).alloc (bxE ⟨(k:Nat),0,[],c,(one a).snoc b⟩ (GB ⟨w.heap.size+1+1+1,0,GA⟩) 2)).heap[w.heap.size+1+1]?=GB (bxE ⟨(k:Nat),0,[],c,(one a).snoc b⟩ (GB ⟨w.heap.size+1+1+1,0,GA⟩) 2):=by
  have:=GH ((w.alloc (bxE a aoa ca)).alloc (bxE b aob cb)) (bxE ⟨(k:Nat),0,[],c,(one a).snoc b⟩ (GB ⟨w.heap.size+1+1+1,0,GA⟩) 2)
  rw[s2] at this;exact this
 have d:=(GO _ (.cells ([.int .i64 a.k,.int .i64 a.n,stv a.nm,.slice aoa a.kids.len ca,.int .i64 a.a]++[.int .i64 b.k,.int .i64 b.n,stv b.nm,.slice aob b.kids.len cb,.int .i64 b.a]).toArray 25) _ (GF l)).trans l;have r:GK w.heap.size w ((((w.alloc (bxE a aoa ca)).alloc (bxE b aob cb)).alloc (bxE ⟨(k:Nat),0,[],c,(one a).snoc b⟩ (GB ⟨w.heap.size+1+1+1,0,GA⟩) 2)).alloc (.cells ([.int .i64 a.k,.int .i64 a.n,stv a.nm,.slice aoa a.kids.len ca,.int .i64 a.a]++[.int .i64 b.k,.int .i64 b.n,stv b.nm,.slice aob b.kids.len cb,.int .i64 b.a]).toArray 25)):=((((GN _ w).alloc (by omega) _).alloc (by omega) _).alloc (by omega) _).alloc (by omega) _;rw[j] at m;have t:((one a).snoc b).len=2:=rfl;obtain⟨i,h,g,u3,f,-⟩:=dT d;have o:Hid (∀ wx,wx=((((w.alloc (bxE a aoa ca)).alloc (bxE b aob cb)).alloc (bxE ⟨(k:Nat),0,[],c,(one a).snoc b⟩ (GB ⟨w.heap.size+1+1+1,0,GA⟩) 2)).alloc (.cells ([.int .i64 a.k,.int .i64 a.n,stv a.nm,.slice aoa a.kids.len ca,.int .i64 a.a]++[.int .i64 b.k,.int .i64 b.n,stv b.nm,.slice aob b.kids.len cb,.int .i64 b.a]).toArray 25))->Sl wx P ((one a).snoc b) (GB ⟨w.heap.size+1+1+1,0,GA⟩)/\GK w.heap.size w wx/\wx.cell? ⟨w.heap.size+1+1,0,GA⟩=GB (.int .i64 k)/\wx.cell? ⟨w.heap.size+1+1,1,GA⟩=GB (.int .i64 0)/\wx.cell? ⟨w.heap.size+1+1,2,GA⟩=GB (stv [])/\wx.cell? ⟨w.heap.size+1+1,3,GA⟩=GB (.slice (GB ⟨w.heap.size+1+1+1,0,GA⟩) 2 2)/\wx.cell? ⟨w.heap.size+1+1,4,GA⟩=GB (.int .i64 c)):=λwx e=>by
  subst e;exact⟨m,r,i,h,g,u3,f⟩
 clear m r l d i h g u3 f s s2 j t q p;unfold exV;go_enter Tryz.func55,Tryz.ntmps55;go_wp2;obtain⟨y,x,i,h,g,u3,f⟩:=o.out _ rfl;exact GG (v:=exV ⟨(k:Nat),0,[],c,(one a).snoc b⟩ (GB ⟨w.heap.size+1+1+1,0,GA⟩) 2) (by simp[results,Tryz.results55,go_sem,exV];rfl) rfl ⟨_,_,rfl,y,x⟩
def sgW:Nat->List (List UInt8)
 | 1=>[[111,114]]
 | 2=>[[97,110,100]]
 | 4=>[[61],[33,61],[60,61],[60]]
 | 5=>[[43],[45]]
 | _=>[[42],[47],[37]]
def sgK:Nat->List Nat
 | 1=>[18]
 | 2=>[17]
 | 4=>[13,14,16,15]
 | 5=>[8,9]
 | _=>[10,11,12]
def Sg (w:GE)(row:Nat)(w':GE)(g1 g2:Nat):Prop:=Wl w (sgW row) w' g1/\w.heap.size<=g2/\g2<w'.heap.size/\∀ j k,(sgK row)[j]?=GB k->w'.cell? ⟨g2,j,GA⟩=GB (.int .i64 (k:Nat))
theorem Gm (w:GE)(row:Nat)(t1 t2:Hl):Sg w row ((w.alloc (.cells ((sgW row).map stv).toArray t1)).alloc (.cells ((sgK row).map (λk=>GT .i64 (k:Nat))).toArray t2)) w.heap.size (w.heap.size+1):=by
 obtain⟨h1,h2,f,e⟩:=lR w (sgW row) t1;have d:(w.alloc (.cells ((sgW row).map stv).toArray t1)).heap.size=w.heap.size+1:=by simp
 refine⟨⟨h1.alloc (by omega) _,h2,by simp;omega,λj s b=>?_⟩,by omega,by simp,λj k b=>?_⟩
 ·exact(GS (a:=⟨w.heap.size,j,GA⟩) (GO _ _ _ f)).trans (e j s b)
 ·have c:=GH (w.alloc (.cells ((sgW row).map stv).toArray t1)) (.cells ((sgK row).map (λk=>GT .i64 (k:Nat))).toArray t2);rw[d] at c;rw[Hf _ _ _ _ _ (0,0) c];simp[b]
theorem Gg (w:GE)(row:Nat)(t1 t2:Hl):Sg w row ((w.alloc (.cells ((sgK row).map (λk=>GT .i64 (k:Nat))).toArray t2)).alloc (.cells ((sgW row).map stv).toArray t1)) (w.heap.size+1) w.heap.size:=by
 have e:(w.alloc (.cells ((sgK row).map (λk=>GT .i64 (k:Nat))).toArray t2)).heap.size=w.heap.size+1:=by simp
 obtain⟨h1,h2,d,c⟩:=lR (w.alloc (.cells ((sgK row).map (λk=>GT .i64 (k:Nat))).toArray t2)) (sgW row) t1;rw[e] at h2 d c;have b1:GK w.heap.size w (w.alloc (.cells ((sgK row).map (λk=>GT .i64 (k:Nat))).toArray t2)):=(GN _ w).alloc (GC _) _;refine⟨⟨b1.trans (h1.mono (by omega)),by omega,d,c⟩,by omega,by omega,λj k f=>?_⟩;have b:=GH w (.cells ((sgK row).map (λk=>GT .i64 (k:Nat))).toArray t2);have a:=(GO (w.alloc (.cells ((sgK row).map (λk=>GT .i64 (k:Nat))).toArray t2)) (.cells ((sgW row).map stv).toArray t1) _ (GF b)).trans b;rw[Hf _ _ _ _ _ (0,0) a];simp[f]
theorem vJ (w:GE)(row n:Nat)(a:row=1\/row=2\/row=4\/row=5\/row=6)(b:n=(sgW row).length) :
  GR GD 53 #[.int .i64 row] w λe w'=>∃g1 g2,e=.returned (.tuple #[.slice (GB ⟨g1,0,GA⟩) n n,.slice (GB ⟨g2,0,GA⟩) n n])/\Sg w row w' g1 g2:=by
 have c:=GL (λw2:GE=>Gm w2 row 9 3);have d:=GL (λw2:GE=>Gg w2 row 9 3);rcases a with rfl|rfl|rfl|rfl|rfl
 all_goals
  subst b;go_enter Tryz.func53,Tryz.ntmps53;go_wp2;go_ret2;exact⟨_,_,rfl,c.out w⟩
theorem zj (k:Nat)(a:k<10):((UInt8.ofNat (48+k)).toNat:Int)=48+(k:Int):=by
 rw[UInt8.toNat_ofNat'];omega
theorem so (w:GE)(b k:Nat)(a:k<10)(d:w.heap[b]?=GB (.cells #[.int .u8 (48+(k:Int))] 5 (0,0))) :
  (convert 147 9 (.slice (GB ⟨b,0,GA⟩) 1 1)).run GD w=.ok (.string ⟨#[UInt8.ofNat (48+k)]⟩) w :=
 run_convert_bytes_back _ 147 9 5 ⟨b,0,GA⟩ 1 [UInt8.ofNat (48+k)] Jt Kb IL
  (λj c=>by
   have e:j=0:=by simp at c;omega
   subst e
   have:=zj k a
   simp only[GV];rw[this];show w.cell? ⟨b,0+0,GA⟩=_;rw[Hf w b _ _ _ (0,0) d];rfl)
theorem CW (l:List UInt8)(c:UInt8):(⟨l.toArray⟩:ByteArray)++⟨#[c]⟩=⟨(l++[c]).toArray⟩:=by
 apply ByteArray.ext;simp
def vC (n:Nat):Prop:=∀ w:GE,GR GD 230 #[.int .i64 n] w λe w'=>e=.returned (stv (JL n))/\GK w.heap.size w w'
theorem qz (n:Nat)(h:n<10):vC n:=by
 intro w;rw[JL,dif_pos h];have d:GK w.heap.size w (w.alloc (.cells #[.int .u8 (48+(n:Int))] 5)):=(GN _ w).alloc (GC _) _;have b:=so (w.alloc (.cells #[.int .u8 (48+(n:Int))] 5)) w.heap.size n h (GH w _);obtain⟨c,a⟩:=exq (UInt8.ofNat (48+n));rw[<-a] at b ⊢;clear a;have e:IntKind.u8.wrap (48+(n:Int))=48+(n:Int):=by show (48+(n:Int)) % 256=_;omega
 go_enter Tryz.func230,Tryz.ntmps230;go_wp2;go_ret;exact⟨rfl,d⟩
theorem Dc (n:Nat)(h:¬n<10)(B:n<=9223372036854775807)(a:vC (n / 10)):vC n:=by
 intro w;rw[JL,dif_neg h];have o:n % 10<10:=Nat.mod_lt _ (by omega);have f:Hid (∀ (wx:GE) (b:Nat),wx.heap[b]?=GB (.cells #[.int .u8 (48+((n % 10:Nat):Int))] 5 (0,0))->(convert 147 9 (.slice (GB ⟨b,0,GA⟩) 1 1)).run GD wx=.ok (.string ⟨#[UInt8.ofNat (48+n % 10)]⟩) wx):=λwx b D=>so wx b (n % 10) o D;have a:=λwx=>a wx;have t:IntKind.i64.wrap (Int.tdiv (n:Int) 10)=((n / 10:Nat):Int):=by rw[Ii,show Int.tdiv (n:Int) 10=((n / 10:Nat):Int) from rfl];omega
 have s:IntKind.i64.wrap (Int.tmod (n:Int) 10)=((n % 10:Nat):Int):=by rw[Ii,show Int.tmod (n:Int) 10=((n % 10:Nat):Int) from rfl];omega
 have E:Int.tdiv (n:Int) 10=((n / 10:Nat):Int):=rfl;have e4:Int.tmod (n:Int) 10=((n % 10:Nat):Int):=rfl;obtain⟨q,m⟩:=exq (n / 10);obtain⟨r,l⟩:=exq (n % 10);rw[<-m] at a t E ⊢;rw[<-l] at f s e4 o ⊢;obtain⟨c,p⟩:=exq (UInt8.ofNat (48+r));rw[<-p] at f ⊢;obtain⟨L,i⟩:=exq (JL q);have C:L.length<=21:=by
  have j:=Ka (q:Nat) (by omega) (by omega);unfold ID at j;rw[if_neg (by omega),If,<-i] at j;exact j
 have y:=jF L;rw[<-i] at a ⊢;have J:Hid (n<=9223372036854775807):=B;have A:IntKind.i64.wrap (q:Int)=(q:Int):=by rw[Ii];omega
 have z:IntKind.i64.wrap (48+(r:Int))=48+(r:Int):=by rw[Ii];omega
 clear m l p i t s;have I:¬(n:Int)<10:=by omega
 have H:IntKind.u8.wrap (48+(r:Int))=48+(r:Int):=by show (48+(r:Int)) % 256=_;omega
 have K:=f.out ((w.alloc (.cells #[.int .u8 (48+(r:Int))] 5)).drew) w.heap.size (GH w _);have x:GK w.heap.size w (w.alloc (.cells #[.int .u8 (48+(r:Int))] 5)).drew:=((GN _ w).alloc (GC _) _).drew;have g:w.heap.size<(w.alloc (.cells #[.int .u8 (48+(r:Int))] 5)).drew.heap.size:=by show w.heap.size<(w.alloc _).heap.size;simp
 have d:((w.alloc (.cells #[.int .u8 (48+(r:Int))] 5)).drew).heap[w.heap.size]?=GB (.cells #[.int .u8 (48+(r:Int))] 5 (0,0)):=GH w _;have k:=GL d;clear d;have F:Hid (((⟨L.toArray⟩:ByteArray)++⟨#[c]⟩)=⟨(L++[c]).toArray⟩):=CW L c;go_enter Tryz.func230,Tryz.ntmps230;go_upto_region 3 with fail;go_region_with ((first|(go_at_call 230;refine(a w.drew).mono ?_;rintro e w1 ⟨rfl,b1⟩;have v:GK w.heap.size w w1:=(GN _ w).drew.trans b1;have u:GK w.heap.size w (w1.alloc (.cells #[.int .u8 (48+(r:Int))] 5)):=v.alloc v.size _;have G:=f.out (w1.alloc (.cells #[.int .u8 (48+(r:Int))] 5)) w1.heap.size (GH w1 _))|(go_at_call 230;refine(a ((w.alloc (.cells #[.int .u8 (48+(r:Int))] 5)).drew)).mono ?_;rintro e w1 ⟨rfl,b1⟩;have u:GK w.heap.size w w1:=x.trans (b1.mono x.size);have G:=f.out w1 w.heap.size ((b1.block _ g).trans k.out))))
 all_goals
  rw[F.out];go_wp2;go_ret;exact⟨rfl,u⟩
theorem vK:∀ (m n:Nat),n<=m->n<=9223372036854775807->vC n
 | 0,n,b,a=>qz n (by omega)
 | m+1,n,b,a=>by
  by_cases h:n<10
  ·exact qz n h
  ·exact Dc n h a (vK m (n / 10) (by omega) (by omega))
theorem tx (n:Int)(a:0<=n)(h1:n<=9223372036854775807)(w:GE):GR GD 230 #[.int .i64 n] w λe w'=>e=.returned (stv (ID n))/\GK w.heap.size w w':=by
 have h:=vK n.toNat n.toNat (GC _) (by omega) w;rw[show ((n.toNat:Nat):Int)=n by omega] at h;have e:ID n=JL n.toNat:=by unfold ID;rw[if_neg (by omega)]
 rw[e];exact h
theorem Cz (x:List UInt8 × Nat × Nat × Nat × Nat)(a:x ∈ iJ):(x.2.2.1=1\/x.2.2.1=2\/x.2.2.1=4\/x.2.2.1=5\/x.2.2.1=6)/\∃i,i<4/\(sgW x.2.2.1)[i]?=GB x.1/\(sgK x.2.2.1)[i]?=GB x.2.1/\(∀ j,j<i->(sgK x.2.2.1)[j]?≠GB x.2.1)/\∀ r,r<x.2.2.1->r≠3->r≠0->∀ j,j<4->(sgK r)[j]?≠GB x.2.1:=by
 simp only[iJ,Iq,Io,or_false] at a;rcases a with rfl|rfl|rfl|rfl|rfl|rfl|rfl|rfl|rfl|rfl|rfl
 ·exact⟨by decide,0,by decide,rfl,rfl,by decide,by decide⟩
 ·exact⟨by decide,0,by decide,rfl,rfl,by decide,by decide⟩
 ·exact⟨by decide,0,by decide,rfl,rfl,by decide,by decide⟩
 ·exact⟨by decide,1,by decide,rfl,rfl,by decide,by decide⟩
 ·exact⟨by decide,3,by decide,rfl,rfl,by decide,by decide⟩
 ·exact⟨by decide,2,by decide,rfl,rfl,by decide,by decide⟩
 ·exact⟨by decide,0,by decide,rfl,rfl,by decide,by decide⟩
 ·exact⟨by decide,1,by decide,rfl,rfl,by decide,by decide⟩
 ·exact⟨by decide,0,by decide,rfl,rfl,by decide,by decide⟩
 ·exact⟨by decide,1,by decide,rfl,rfl,by decide,by decide⟩
 ·exact⟨by decide,2,by decide,rfl,rfl,by decide,by decide⟩
theorem Ai (r:Nat):(sgK r).length=(sgW r).length/\(sgW r).length<=4:=by
 unfold sgK sgW;split<;>exact⟨rfl,by decide⟩
theorem EJ {k:Int}{x:List UInt8 × Nat × Nat × Nat × Nat}(h:ig k=GB x)(w:GE):GR GD 234 #[.int .i64 k] w λe w'=>e=.returned (stv x.1)/\GK w.heap.size w w':=by
 have M:=Hi h;have O:((x.2.1:Nat):Int)=k:=by have:=IU h;simpa using this
 obtain⟨L,d,X,A,a,D,b⟩:=Cz x M;obtain⟨K,m,r,x4,x5⟩:=x;simp only at O L A a D b ⊢;subst O;have R:Hid ((sgW r)[d]?=GB K):=A;have HK:Hid ((sgK r)[d]?=GB m):=a;have HJ:Hid (∀ j,j<d->(sgK r)[j]?≠GB m):=D;have HR:Hid (∀ t,t<r->t≠3->t≠0->∀ j,j<4->(sgK t)[j]?≠GB m):=b;have V:r<7:=by omega
 have H:Hid (r≠3):=by show r≠3;omega
 have T:=GN w.heap.size w;clear A a D b M h;go_enter Tryz.func234,Tryz.ntmps234;go_wp2_with fail;go_loopw [3] (λv wr=>∃row:Nat,v=.int .i64 (row:Nat)/\1<=row/\row<=r/\GK w.heap.size w wr) (λv _=>8-(Hh v).toNat)
 case atStart=>exact⟨1,by go_num,by omega,by omega,T⟩
 case round =>
  clear T;obtain⟨row,rfl,h1,W,z⟩:=hrel;have U:(row:Int)<7:=by omega
  by_cases F:row=3
  ·subst F;have l:3<r:=by have:=H.out;omega
   go_wp2;go_roundw
   case rel=>(try ((repeat apply G0);refine⟨?_,rfl⟩));exact⟨4,by go_num,by omega,by omega,z⟩
   case measure=>simp[Hh]
  ·have b3:((row:Int)==3)=false:=by simp;omega
   obtain⟨n,y⟩:∃n,n=(sgW row).length:=⟨_,rfl⟩;have c:=vJ wr row n (by omega) y;have I:Hid (n=(sgW row).length):=y;have hn4:n<=4:=by rw[y];exact(Ai row).2
   have H3:Hid (row≠3):=F;clear y F L;go_wp2_with fail;refine c.mono ?_;rintro e w2 ⟨g1,g2,rfl,o⟩;have S:GK w.heap.size w w2:=z.trans (o.1.1.mono z.size);have Q:Hid (g1<w2.heap.size/\g2<w2.heap.size/\(∀ j s,(sgW row)[j]?=GB s->w2.cell? ⟨g1,j,GA⟩=GB (stv s))/\∀ j k,(sgK row)[j]?=GB k->w2.cell? ⟨g2,j,GA⟩=GB (.int .i64 (k:Nat))):=⟨o.1.2.2.1,o.2.2.1,o.1.2.2.2,o.2.2.2⟩;clear c o z;go_wp2_with fail;go_loopw [6] (λv wr=>∃i:Nat,v=.int .i64 (i:Nat)/\i<=n/\Hid (row=r->i<=d)/\wr=w2) (λv _=>n-(Hh v).toNat)
   case atStart=>exact⟨0,by go_num,by omega,λ_=>Jh _,rfl⟩
   case round =>
    obtain⟨i,rfl,Y,q,rfl⟩:=hrel;by_cases l:i<n
    ·have Z:(i:Int)<(n:Int):=by omega
     have C:=Ai row;obtain⟨p,a⟩:∃p,(sgK row)[i]?=GB p:=⟨_,GI (by rw[C.1,<-I.out];exact l)⟩;obtain⟨s,u⟩:∃s,(sgW row)[i]?=GB s:=⟨_,GI (by rw[<-I.out];exact l)⟩;have ck:=Q.out.2.2.2 i p a;have cs:=Q.out.2.2.1 i s u;by_cases f:row=r/\i=d
     ·have e1:p=m:=by
       have:=HK.out
       rw[<-f.1,<-f.2,a] at this;injection this
      have G:s=K:=by
       have:=R.out
       rw[<-f.1,<-f.2,u] at this;injection this
      subst e1 G;clear f a u C;go_wp2;go_ret;exact⟨rfl,S⟩
     ·have B:p≠m:=λe=>by
       rw[e] at a;by_cases g:row=r
       ·have E:i<d:=by
         have:=q.out g
         have:i≠d:=λe=>f ⟨g,e⟩
         omega
        exact HJ.out i E (by rw[<-g];exact a)
       ·exact HR.out row (by omega) H3.out (by omega) i (by omega) a
      have P:((p:Int)==(m:Int))=false:=by simp;omega
      have J:Hid (row=r->i+1<=d):=λe=>by
       have:=q.out e
       have:i≠d:=λG=>f ⟨e,G⟩
       omega
      clear f a u C B q;go_wp2;go_roundw
      case rel=>(try ((repeat apply G0);refine⟨?_,rfl⟩));exact⟨i+1,by go_num,by omega,J,by trivial⟩
      case measure=>simp[Hh];omega
    ·obtain rfl:i=n:=by omega
     have N:row<r:=by
      by_cases e:row=r
      ·have h5:=q.out e;have h6:d<(sgW r).length:=(List.getElem?_eq_some_iff.1 R.out).1;have h7:=I.out;rw[e] at h7;omega
      ·omega
     clear q;go_wp2;go_roundw
     case rel=>(try ((repeat apply G0);refine⟨?_,rfl⟩));exact⟨row+1,by go_num,by omega,by omega,S⟩
     case measure=>simp[Hh];omega
abbrev bxX (e:Ex)(ao:Option G1)(cap:Nat):Obj:=zEx e ao cap
def ko (N:Nat):Prop:=∀ (e:Ex) (ao:Option G1) (cap:Nat) (set:Bool) (wb:Nat) (st:Ow) (w:GE) (o:Nat->Nat),e.kids.size<N->e.fit->Sl w (L0 o) e.kids ao->WQ w o wb st ->
 GR GD 193 #[.pointer (GB ⟨wb,0,GA⟩),exV e ao cap,.bool set] w (ja w o wb (oEx e set st))
theorem WQ.stp0 {w w':GE}{o o':Nat->Nat}{wb:Nat}{st:Ow}(h:WQ w o wb st)(s:dQ (λ_=>False) w o w' o'):WQ w' o' wb st:=h.step s id id
theorem Sl.stp0 {w w':GE}{o o':Nat->Nat}{f:Fs}{ao:Option G1}(h:Sl w (L0 o) f ao)(s:dQ (λ_=>False) w o w' o'):Sl w' (L0 o') f ao:=h.mono (λi b a=>s.block i a id) s.size (λi b a=>(s.lab i a).trans b)
theorem Au (w:GE)(o:Nat->Nat)(n:Nat):dQ (λ_=>False) w o (w.drewN n) o:=(dQ.refl _ w o).drewN n
theorem dQ.i12 {w w':GE}{o o':Nat->Nat}(s:dQ (λ_=>False) w o w' o'):dQ I12 w o w' o':=s.mono λ_ h=>h.elim
theorem iP {st s:Ow}(h:Bal (eB st) s):∀ x,s=GB x->1<=x.o:=λx b=>by
 obtain⟨y,a,h1,_⟩:=h x b
 match st,a with
 | some z,a =>
  simp only[eB] at a;split at a
  ·cases a
  ·injection a with a
   subst a;show 1<=x.o;rw[h1];show 1<=z.o+1;omega
theorem Bal.refl (st:Ow):Bal st st:=λs h=>⟨s,h,rfl,rfl⟩
theorem Bal.trans {a b c:Ow}(h:Bal a b)(k:Bal b c):Bal a c:=λs f=>by
 obtain⟨y,e,h1,h2⟩:=k s f;obtain⟨z,d,i,g⟩:=h y e;exact⟨z,d,h1.trans i,h2.trans g⟩
theorem Bal.put {a b:Ow}(h:Bal a b)(x:List UInt8):Bal a (eq x b):=h.trans λs c=>by
 match b,c with
 | some z,c =>
  simp only[eq] at c;split at c
  ·cases c
  ·injection c with c
   subst c;exact⟨z,rfl,rfl,rfl⟩
theorem Bal.lea {a b:Ow}(h:Bal (eB a) b):Bal a (gW b):=λs d=>by
 match b,h,d with
 | some z,h,d =>
  injection d with d
  subst d;obtain⟨y,c,h1,h2⟩:=h z rfl
  match a,c with
  | some u,c =>
   simp only[eB] at c;split at c
   ·cases c
   ·injection c with c
    subst c;exact⟨u,rfl,by show z.o-1=u.o;rw[h1];show u.o+1-1=_;omega,h2⟩
theorem Bal.qle {a b:Ow}(h:Bal (jY a) b):Bal a (sc b):=λs d=>by
 match b,h,d with
 | some z,h,d =>
  injection d with d
  subst d;obtain⟨y,c,h1,h2⟩:=h z rfl
  match a,c with
  | some u,c =>
   simp only[jY] at c;split at c
   ·cases c
   ·injection c with c
    subst c;exact⟨u,rfl,h1,by show z.q-1=u.q;rw[h2];show u.q+1-1=_;omega⟩
theorem BC {st s:Ow}(h:Bal (jY st) s):∀ x,s=GB x->1<=x.q:=λx b=>by
 obtain⟨y,a,_,h1⟩:=h x b
 match st,a with
 | some z,a =>
  simp only[jY] at a;split at a
  ·cases a
  ·injection a with a
   subst a;show 1<=x.q;rw[h1];show 1<=z.q+1;omega
theorem Bo {k n:Int}{nm:List UInt8}{K:Sep->Ow->Ow}(b:∀ g s,Bal s (K g s))(s:Ow):Bal s (eL k n nm K s):=by
 have a:∀ (x y:List UInt8) (s:Ow),Bal s (ki x y K s):=λx y s=>(Bal.lea (((Bal.refl (eB s)).put x).trans (b _ _))).put y;unfold eL;split
 ·exact Bal.lea (b _ _)
 ·split
  ·exact Bal.lea (b _ _)
  ·split
   ·exact Bal.lea (b _ _)
   ·split
    ·exact Bal.qle (Bal.lea (b _ _))
    ·split
     ·exact((Bal.refl s).put _).trans (a _ _ _)
     ·split
      ·exact((Bal.refl s).put _).trans (a _ _ _)
      ·split
       ·exact a _ _ _
       ·unfold iI;split
        ·exact(Bal.refl s).put _
        ·split
         ·exact(Bal.refl s).put _
         ·split
          ·exact(Bal.refl s).put _
          ·split
           ·exact(Bal.refl s).put _
           ·split
            ·exact(Bal.refl s).put _
            ·exact b _ _
theorem ow {k n:Int}{nm:List UInt8}{len:Nat}{set:Bool}{K:Sep->Ow->Ow}(b:∀ g s,Bal s (K g s))(s:Ow):Bal s (lu k n nm len set K s):=by
 unfold lu;split
 ·exact Bo b s
 ·intro x a;cases a
theorem DS {k n:Int}{nm:List UInt8}{len asked:Nat}{set:Bool}{K:Sep->Ow->Ow}(a:∀ g s,Bal s (K g s))(s:Ow):Bal s (oE k n nm len set asked K s):=by
 unfold oE;split
 ·exact(Bal.lea (((Bal.refl (eB s)).put _).trans (ow a _))).put _
 ·exact ow a s
theorem lH:∀ (f:Fs) (b:Bool) (g:Sep) (i:Nat) (s:Ow),Bal s (oFs f b g i s)
 | ⟨GA⟩,b,g,i,s=>Bal.refl s
 | ⟨GB ⟨k,n,nm,a,ks,r⟩⟩,b,g,i,s=>(((Bal.refl s).put _).trans (DS (λg s=>lH ks (k==21) g 0 s) _)).trans (lH r false g (i+1) _)
def gZ (e y:Ex)(i:Nat)(st:Ow):Ow:=oE y.k y.n y.nm y.kids.len (e.k==21&&decide (i=0)) (mE e.k i) (λg s=>oFs y.kids (y.k==21) g 0 s) st
theorem CL (y:Ex)(b:Bool)(s:Ow):Bal s (oEx y b s):=ow (λg s=>lH _ _ _ _ _) s
theorem D7 (k:Int)(i:Nat):(mE k i:Nat)<=8+i:=by
 unfold mE
 have:=uB k
 split
 ·omega
 ·split
  ·omega
  ·split<;>omega
theorem jB {N:Nat}(V:ko N)(e y:Ex)(x r:Fs)(T:e.kids=x.app (Fs.ex y r))(i:Nat)(hi:x.len=i)(Y:i<=1000000000)(U:y.kids.size<N)(R:y.fit)(ao:Option G1)(cap wb:Nat)(st:Ow)(w:GE)(o:Nat->Nat)(S:Sl w (L0 o) e.kids ao)(H:WQ w o wb st) :
  GR GD 232 #[.pointer (GB ⟨wb,0,GA⟩),exV e ao cap,.int .i64 i] w (ja w o wb (gZ e y i st)):=by
 have ac:i<e.kids.len:=by rw[T,Fs.len_app,Fq];omega
 obtain⟨b,off,ak,ck,rfl,x0,x1,x2,x3,x4,SK⟩:=Sl.kidP (x:=x) (y:=y) (r:=r) (by rw[T] at S;exact S) i hi;have ag:b<w.heap.size:=by
  rcases S with h|⟨b',ab,zs,K,hp,X,hc,hf⟩
  ·rw[T] at h;cases x using Fs.on with
   | nil=>cases h
   | cons _ _ _ _ _ _=>cases h
  ·injection K with K;injection K with K;subst K;exact X
 obtain⟨w0,j⟩:=exq ((w.alloc (bxX e (GB ⟨b,off,GA⟩) cap)).alloc (bxX y ak ck));obtain⟨o0,m⟩:=exq (dR (w.alloc (bxX e (GB ⟨b,off,GA⟩) cap)) (dR w o 0) 0);have s0:dQ (λ_=>False) w o w0 o0:=by rw[j,m];exact(et _ w o _).trans (et _ _ _ _)
 have E0:w0.heap[w.heap.size]?=GB (bxX e (GB ⟨b,off,GA⟩) cap):=by
  rw[j];exact(GO _ _ _ (by simp)).trans (GH w _)
 have Y0:w0.heap[w.heap.size+1]?=GB (bxX y ak ck):=by
  rw[j]
  have:=GH (w.alloc (bxX e (GB ⟨b,off,GA⟩) cap)) (bxX y ak ck)
  simpa using this
 have l0:o0 w.heap.size=0:=by rw[m,ed (by simp),dY (GC _)]
 have l1:o0 (w.heap.size+1)=0:=by rw[m,dY (by simp)]
 have P:=SK.stp0 s0;have H0:=H.stp0 s0;have ah:=D7 e.k i;clear m S SK H T;rw[dU];go_enter Tryz.func232,Tryz.ntmps232;go_upto_region 2 with fail;rw[<-j];clear j x0 x1 x2 x3 x4;generalize w.heap.size=be at *;obtain⟨p0,p1,p2,p3,p4,J⟩:=dT E0;obtain⟨C,B,A,z,v,u⟩:=dT Y0;have ae:IntKind.i64.wrap ((fY y.k:Nat):Int)=((fY y.k:Nat):Int):=by have:=uB y.k;rw[Ii];omega
 go_quiet ((first|(go_at_call 245;exact Calls.quiet_of_same (DN _ _))|(go_at_call 246;exact Calls.quiet_of_same (BV _ _ Y _))))
 have d1:=Au w0 o0 nq;have t:=H0.stp0 d1;have d:=P.stp0 d1;have n:=(s0.trans d1).i12;have Q:Blk (w0.drewN nq) o0 0 be (bxX e (GB ⟨b,off,GA⟩) cap):=⟨E0,l0⟩;have E:Blk (w0.drewN nq) o0 0 (be+1) (bxX y ak ck):=⟨Y0,l1⟩;clear H0 P s0 d1 E0 Y0 l0 l1 p0 p1 p2 p3 p4 J C B A z v u;generalize w0.drewN nq=w1 at *;by_cases g:fY y.k<mE e.k i
 ·have Z:¬((mE e.k i:Nat):Int)<=((fY y.k:Nat):Int):=by omega
  have c2:=jh [40] t (by simp);have q:Hid (gZ e y i st=eq [41] (gW (oEx y false (eq [40] (eB st))))):=by show oE _ _ _ _ _ _ _ _=_;unfold oE;rw[if_pos g];rfl
  have p:∀ x,oEx y false (eq [40] (eB st))=GB x->1<=x.o:=iP (((Bal.refl (eB st)).put [40]).trans (CL y false _));generalize eq [40] (eB st)=F at *;clear t g;go_wp2_with fail;refine c2.mono ?_;rintro M w2 ⟨rfl,D,s,s2⟩;have O:=d.stp s2;have Y2:=E.stp s2;have c:=n.trans s2;clear c2 n s2 Q E d;obtain⟨C,B,A,z,v,u⟩:=dT Y2.1;have c3:=V y ak ck false wb F w2 D U R O s;rw[dU] at c3;generalize oEx y false F=l at *;go_wp2_with fail;refine c3.mono ?_;rintro M w3 ⟨rfl,o3,H3,s3⟩;have I:=c.trans s3;obtain⟨oo,d1,df,s4,H4⟩:=H3.lea p;have G:=I.trans s4;generalize gW l=ad at *;clear c3 s3 I c s4 H3 s O Y2 C B A z v u p;go_upto_region 7 with fail;generalize w3.setCell ⟨wb,1,GA⟩ (.int .i64 (Ho (oo-1)))=w4 at *;clear d1 df;have c5:=fB [41] H4 (by simp);go_wp2_with fail;refine c5.mono ?_;rintro M w5 ⟨rfl,o5,H5,s5⟩;have W:=G.trans s5;clear c5 s5 G H4;go_wp2
  go_end0
  exact⟨rfl,o5,by rw[q.out];exact H5,W⟩
 ·have Z:((mE e.k i:Nat):Int)<=((fY y.k:Nat):Int):=by omega
  have q:Hid (gZ e y i st=oEx y (e.k==21&&decide (i=0)) st):=by show oE _ _ _ _ _ _ _ _=_;unfold oE;rw[if_neg g];rfl
  clear g;obtain⟨p0,p1,p2,p3,p4,J⟩:=dT Q.1;obtain⟨C,B,A,z,v,u⟩:=dT E.1;by_cases f:e.k=21
  ·have aa:(e.k==21)=true:=by simp[f]
   by_cases L:i=0
   ·have b0:((i:Int)==0)=true:=by simp[L]
    have a:(e.k==21&&decide (i=0))=true:=by simp[f,L]
    rw[a] at q;have c2:=V y ak ck true wb st w1 o0 U R d t;rw[dU] at c2;generalize oEx y true st=l at *;clear f L a;go_wp2_with fail;refine c2.mono ?_;rintro M w2 ⟨rfl,D,s,s2⟩;have c:=n.trans s2;clear c2 n s2 t d Q E p0 p1 p2 p3 p4 J C B A z v u;go_wp2
    (try simp only[Js,Exit.then])
    refine GG (IY rfl _ _ _) rfl ?_;exact⟨rfl,D,by rw[q.out];exact s,c⟩
   ·have b0:((i:Int)==0)=false:=by simp;omega
    have a:(e.k==21&&decide (i=0))=false:=by simp[L]
    rw[a] at q;have c2:=V y ak ck false wb st w1 o0 U R d t;rw[dU] at c2;generalize oEx y false st=l at *;clear f L a;go_wp2_with fail;refine c2.mono ?_;rintro M w2 ⟨rfl,D,s,s2⟩;have c:=n.trans s2;clear c2 n s2 t d Q E p0 p1 p2 p3 p4 J C B A z v u;go_wp2
    (try simp only[Js,Exit.then])
    refine GG (IY rfl _ _ _) rfl ?_;exact⟨rfl,D,by rw[q.out];exact s,c⟩
  ·have aa:(e.k==21)=false:=bne f;have a:(e.k==21&&decide (i=0))=false:=by simp[f]
   rw[a] at q;have c2:=V y ak ck false wb st w1 o0 U R d t;rw[dU] at c2;generalize oEx y false st=l at *;clear f a;go_wp2_with fail;refine c2.mono ?_;rintro M w2 ⟨rfl,D,s,s2⟩;have c:=n.trans s2;clear c2 n s2 t d Q E p0 p1 p2 p3 p4 J C B A z v u;go_wp2
   (try simp only[Js,Exit.then])
   refine GG (IY rfl _ _ _) rfl ?_;exact⟨rfl,D,by rw[q.out];exact s,c⟩
theorem vP {w:GE}{o:Nat->Nat}{wb:Nat}{st:Ow}(h:WQ w o wb st):eq [] st=st:=by
 match st,h with
 | none,h=>rfl
 | some s,h =>
  have:=h.2.1
  simp only[eq,IF,Jz];rw[if_neg (by omega)]
theorem oU (x:Ex)(r:Fs)(b:Bool)(g:Sep)(i:Nat)(s:Ow):oFs (Fs.ex x r) b g i s=oFs r false g (i+1) (oE x.k x.n x.nm x.kids.len b (g i).2 (λg s=>oFs x.kids (x.k==21) g 0 s) (eq (g i).1 s)):=rfl
theorem iu (e y:Ex)(i:Nat)(s:Ow){flag:Bool}{asked:Nat}(h1:flag=(e.k==21&&decide (i=0)))(h2:asked=mE e.k i):oE y.k y.n y.nm y.kids.len flag asked (λg s=>oFs y.kids (y.k==21) g 0 s) s=gZ e y i s:=by subst h1 h2;rfl
theorem iO (e y:Ex)(i:Nat)(s:Ow):Bal s (gZ e y i s):=DS (λg s=>lH _ _ _ _ _) s
theorem Fs.app_rng:∀ {x y:Fs},(x.app y).rng->y.rng
 | ⟨GA⟩,y,h=>h
 | ⟨GB ⟨k,n,nm,a,ks,r⟩⟩,y,h=>Fs.app_rng h.2.2.2
theorem Ex.kidfit {e:Ex}(h:e.fit){x:Fs}{y:Ex}{r:Fs}(a:e.kids=x.app (Fs.ex y r)):y.fit:=by
 have h1:=Fs.app_short (by rw[<-a];exact h.sh);have h2:=Fs.app_rng (by rw[<-a];exact h.rng);exact⟨h1.1,h1.2.2.1,h1.2.1,h2.1,h2.2.1,h2.2.2.1⟩
theorem rV:∀ (x:Fs) (y:Ex) (r:Fs),x.app (Fs.ex y r)=(x.snoc y).app r
 | ⟨GA⟩,y,r=>by simp only[Fs.snoc,Fs.app,one];rfl
 | ⟨GB ⟨k,n,nm,a,ks,b⟩⟩,y,r=>by
  have:=rV b y r
  simp only[Fs.snoc] at this ⊢;simp only[Fs.app];rw[this]
theorem qS {N:Nat}(IH:ko N)(e:Ex)(s:e.k=20\/e.k=24\/e.k=25)(hN:e.kids.size<=N)(he:e.fit)(ao:Option G1)(cap wb:Nat)(st:Ow)(w:GE)(o:Nat->Nat)(S:Sl w (L0 o) e.kids ao)(H:WQ w o wb st) :
  GR GD 247 #[.pointer (GB ⟨wb,0,GA⟩),exV e ao cap] w (ja w o wb (oFs e.kids (e.k==21) iX 0 st)):=by
 have n:(e.k==21)=false:=bne (by omega);have l:∀ i,mE e.k i=0:=λi=>by rcases s with h|h|h<;>rw[h]<;>rfl
 rw[n];obtain⟨W,Q⟩:=exq (oFs e.kids false iX 0 st);rw[<-Q];have HW:Hid (oFs e.kids false iX 0 st=W):=Q.symm;have Y:Hid ((e.k==21)=false):=n;have HA:Hid (∀ i,mE e.k i=0):=l;have aa:=he.len;have s0:=et (λ_=>False) w o (bxX e ao cap);have E0:Blk (w.alloc (bxX e ao cap)) (dR w o 0) 0 w.heap.size (bxX e ao cap):=jE w o _ _;have S0:=S.stp0 s0;have H0:=H.stp0 s0;have T0:=s0.i12;clear Q n l S H s0 s;rw[dU];go_enter Tryz.func247,Tryz.ntmps247;go_upto_region 1 with fail;generalize w.alloc (bxX e ao cap)=w0 at *;generalize dR w o 0=o0 at *;generalize w.heap.size=be at *;go_wp2_with fail;go_loopw [4] (λv wr=>∃(done r:Fs) (u:Ow) (o':Nat->Nat),Hid (e.kids=done.app r)/\v=.int .i64 (done.len:Nat)/\Hid (oFs r false iX done.len u=W)/\WQ wr o' wb u/\Blk wr o' 0 be (zEx e ao cap)/\Sl wr (L0 o') e.kids ao/\dQ I12 w o wr o') (λv _=>e.kids.len-(Hh v).toNat)
 case atStart=>exact⟨.nil,e.kids,st,o0,rfl,by show _=GT .i64 ((0:Nat):Int);rfl,HW,H0,E0,S0,T0⟩
 case round =>
  clear HW H0 E0 S0 T0;obtain⟨done,r,u,I,hk,rfl,q,m,B,x,p⟩:=hrel;have a:e.kids.len=done.len+r.len:=by rw[hk.out,Fs.len_app]
  obtain⟨p0,p1,p2,p3,p4,E⟩:=dT B.1;cases r using Fs.on with
  | nil =>
   have O:¬(done.len:Int)<(e.kids.len:Int):=by simp only[Fs.len] at a;omega
   have L:u=W:=q.out;subst L;clear q a;go_wp2
   go_end0
   exact⟨rfl,I,m,p⟩
  | cons kk kn km ka J d =>
   have O:(done.len:Int)<(e.kids.len:Int):=by simp only[Fs.len] at a;omega
   obtain⟨c3,cf,-,-⟩:=m.end;cases u with
   | none =>
    have L:W=GA:=by rw[<-q.out];exact mD _ _ _ _
    have c3:wr.cell? ⟨wb,3,GA⟩=GB (.bool false):=c3;subst L;clear q a;go_wp2
    go_end0
    exact⟨rfl,I,m,p⟩
   | some C =>
    have c3:wr.cell? ⟨wb,3,GA⟩=GB (.bool true):=c3;obtain⟨y,K⟩:∃y:Ex,y=⟨kk,kn,km,ka,J⟩:=⟨_,rfl⟩;have b:e.kids=done.app (Fs.ex y d):=by rw[hk.out,K];rfl
    have f:y.fit:=Ex.kidfit he b;have g:y.kids.size<N:=by
     have:e.kids.size=done.size+(y.kids.size+d.size+1):=by rw[b,Fs.size_app];rfl
     omega
    have j:Hid (oFs d false iX (done.len+1) (gZ e y done.len (eq (iX done.len).1 (GB C)))=W):=by
     show _=W;rw[<-q.out,<-iu e y done.len _ (flag:=false) (asked:=0) (by rw[Y.out];rfl) (HA.out _).symm,K];rfl
    have z:Hid (e.kids=(done.snoc y).app d):=by show _=_;rw[b,rV]
    have M:done.len+1<=1000000000:=by simp only[Fs.len] at a;omega
    have A:=GL b;clear q K a b;by_cases F:done.len=0
    ·have P:¬(0:Int)<(done.len:Int):=by omega
     have V:Hid (oFs d false iX (done.len+1) (gZ e y done.len (GB C))=W):=by
      show _=W;rw[<-j.out]
      have:(iX done.len).1=[]:=by unfold iX;simp[F]
      rw[this,vP m]
     have c5:=jB IH e y done d A.out done.len rfl (by omega) g f ao cap wb _ wr I x m;rw[dU] at c5;clear j F f g;generalize gZ e y done.len (GB C)=u5 at *;go_wp2_with fail;refine c5.mono ?_;rintro e2 w5 ⟨rfl,G,X,c⟩;have R:=p.trans c;have T:=x.stp c;have Z:=B.stp c;clear c5 m p x B c p0 p1 p2 p3 p4 E c3 cf;go_wp2;go_roundw
     case rel=>(try ((repeat apply G0);refine⟨?_,rfl⟩));exact⟨done.snoc y,d,u5,G,z,by rw[Fs.len_snoc];go_num,by rw[Fs.len_snoc];exact V,X,Z,T,R⟩
     case measure=>simp[Hh];omega
    ·have P:(0:Int)<(done.len:Int):=by omega
     have t:(iX done.len).1=[44,32]:=by unfold iX;simp[F]
     rw[t] at j;have c4:=fB [44,32] m (by simp);generalize eq [44,32] (GB C)=u4 at *;clear F t;go_wp2_with fail;refine c4.mono ?_;rintro e2 w4 ⟨rfl,o4,H4,D⟩;have T4:=p.trans D;have U:=x.stp D;have E4:=B.stp D;clear c4 m p x B D p0 p1 p2 p3 p4 E c3 cf;obtain⟨p0,p1,p2,p3,p4,E⟩:=dT E4.1;have c5:=jB IH e y done d A.out done.len rfl (by omega) g f ao cap wb _ w4 o4 U H4;rw[dU] at c5;clear f g;generalize gZ e y done.len u4=u5 at *;go_wp2_with fail;refine c5.mono ?_;rintro e2 w5 ⟨rfl,G,X,c⟩;have R:=T4.trans c;have T:=U.stp c;have Z:=E4.stp c;clear c5 H4 T4 U E4 c p0 p1 p2 p3 p4 E;go_wp2;go_roundw
     case rel=>(try ((repeat apply G0);refine⟨?_,rfl⟩));exact⟨done.snoc y,d,u5,G,z,by rw[Fs.len_snoc];go_num,by rw[Fs.len_snoc];exact j,X,Z,T,R⟩
     case measure=>simp[Hh];omega
theorem ys (l m:List UInt8):(⟨l.toArray⟩:ByteArray)++⟨m.toArray⟩=⟨(l++m).toArray⟩:=by
 apply ByteArray.ext;simp
theorem AP {N:Nat}(IH:ko N)(e:Ex)(ab:e.kids.size<=N)(R:e.fit)(ao:Option G1)(cap wb:Nat)(st:Ow)(w:GE)(o:Nat->Nat)(S:Sl w (L0 o) e.kids ao)(H:WQ w o wb st)(c:e.k=19)(hl:e.kids.len=3) :
  GR GD 233 #[.pointer (GB ⟨wb,0,GA⟩),exV e ao cap] w (ja w o wb (eL e.k e.n e.nm (λg s=>oFs e.kids (e.k==21) g 0 s) st)):=by
 obtain⟨x,y,z,b⟩:=Db hl;have m:Hid (e.kids=Fs.app .nil (Fs.ex x (Fs.ex y (Fs.ex z .nil)))):=b;have l:Hid (e.kids=Fs.app (one x) (Fs.ex y (Fs.ex z .nil))):=by show _=_;rw[b];rfl
 have j:Hid (e.kids=Fs.app ((one x).snoc y) (Fs.ex z .nil)):=by show _=_;rw[b];rfl
 have M:e.kids.size=x.kids.size+(y.kids.size+(z.kids.size+0+1)+1)+1:=by rw[b];rfl
 have V:x.kids.size<N:=by omega
 have U:y.kids.size<N:=by omega
 have T:z.kids.size<N:=by omega
 have Q:=Ex.kidfit R m.out;have P:=Ex.kidfit R l.out;have O:=Ex.kidfit R j.out;have HF:Hid (eL e.k e.n e.nm (λg s=>oFs e.kids (e.k==21) g 0 s) st=gW (gZ e z 2 (eq [32,101,108,115,101,32] (gZ e y 1 (eq [32,116,104,101,110,32] (gZ e x 0 (eq [105,102,32] (eB st)))))))):=by
  show _=_;unfold eL;rw[if_neg (by omega),if_neg (by omega),if_pos c];simp only[b,oU];rw[iu e x 0 _ (by rw[c];rfl) (by rw[c];rfl),iu e y 1 _ (by rw[c];rfl) (by rw[c];rfl),iu e z 2 _ (by rw[c];rfl) (by rw[c];rfl)];rfl
 have ac:(e.k==19)=true:=by simp[c]
 clear b c hl M;have s0:=et (λ_=>False) w o (bxX e ao cap);have E0:Blk (w.alloc (bxX e ao cap)) (dR w o 0) 0 w.heap.size (bxX e ao cap):=jE w o _ _;have S0:=S.stp0 s0;have H0:=H.stp0 s0;have T0:=s0.i12;clear S H s0;rw[dU];go_enter Tryz.func233,Tryz.ntmps233;go_upto_region 1 with fail;generalize w.alloc (bxX e ao cap)=w0 at *;generalize dR w o 0=o0 at *;generalize w.heap.size=be at *;obtain⟨p0,p1,p2,p3,p4,a⟩:=dT E0.1;have c1:=jh [105,102,32] H0 (by simp);have v:Bal (eB st) (eq [105,102,32] (eB st)):=(Bal.refl _).put [105,102,32];have hp:Hid (∀ s,Bal (eB st) s->∀ x,s=GB x->1<=x.o):=λs h=>iP h;generalize eq [105,102,32] (eB st)=i at *;generalize eB st=se at *;go_wp2_with fail;refine c1.mono ?_;rintro A w1 ⟨rfl,o1,H1,G⟩;have T1:=T0.trans G;have S1:=S0.stp G;have E1:=E0.stp G;clear c1 H0 T0 S0 E0 G p0 p1 p2 p3 p4 a;obtain⟨p0,p1,p2,p3,p4,a⟩:=dT E1.1;have c2:=jB IH e x .nil (Fs.ex y (Fs.ex z .nil)) m.out 0 rfl (by omega) (V) (Q) ao cap wb i w1 o1 S1 H1;rw[dU] at c2;have u:=v.trans (iO e x 0 i);generalize gZ e x 0 i=K at *;go_wp2_with fail;refine c2.mono ?_;rintro A w2 ⟨rfl,o2,H2,s2⟩;have T2:=T1.trans s2;have S2:=S1.stp s2;have E2:=E1.stp s2;clear c2 H1 T1 S1 E1 s2 p0 p1 p2 p3 p4 a v;obtain⟨p0,p1,p2,p3,p4,a⟩:=dT E2.1;have c3:=fB [32,116,104,101,110,32] H2 (by simp);have t:=u.put [32,116,104,101,110,32];generalize eq [32,116,104,101,110,32] K=f at *;go_wp2_with fail;refine c3.mono ?_;rintro A w3 ⟨rfl,o3,H3,F⟩;have T3:=T2.trans F;have S3:=S2.stp F;have E3:=E2.stp F;clear c3 H2 T2 S2 E2 F p0 p1 p2 p3 p4 a u;obtain⟨p0,p1,p2,p3,p4,a⟩:=dT E3.1;have c4:=jB IH e y (one x) (Fs.ex z .nil) l.out 1 rfl (by omega) (U) (P) ao cap wb f w3 o3 S3 H3;rw[dU] at c4;have r:=t.trans (iO e y 1 f);generalize gZ e y 1 f=J at *;go_wp2_with fail;refine c4.mono ?_;rintro A w4 ⟨rfl,o4,H4,E⟩;have T4:=T3.trans E;have S4:=S3.stp E;have E4:=E3.stp E;clear c4 H3 T3 S3 E3 E p0 p1 p2 p3 p4 a t;obtain⟨p0,p1,p2,p3,p4,a⟩:=dT E4.1;have c5:=fB [32,101,108,115,101,32] H4 (by simp);have q:=r.put [32,101,108,115,101,32];generalize eq [32,101,108,115,101,32] J=d at *;go_wp2_with fail;refine c5.mono ?_;rintro A w5 ⟨rfl,o5,H5,D⟩;have T5:=T4.trans D;have Z:=S4.stp D;have E5:=E4.stp D;clear c5 H4 T4 S4 E4 D p0 p1 p2 p3 p4 a r;obtain⟨p0,p1,p2,p3,p4,a⟩:=dT E5.1;have Y:=jB IH e z ((one x).snoc y) .nil j.out 2 rfl (by omega) (T) (O) ao cap wb d w5 o5 Z H5;rw[dU] at Y;have p:=q.trans (iO e z 2 d);generalize gZ e z 2 d=I at *;go_wp2_with fail;refine Y.mono ?_;rintro A w6 ⟨rfl,o6,H6,C⟩;have T6:=T5.trans C;have S6:=Z.stp C;have E6:=E5.stp C;clear Y H5 T5 Z E5 C p0 p1 p2 p3 p4 a q;obtain⟨p0,p1,p2,p3,p4,a⟩:=dT E6.1;obtain⟨L,X,W,B,H7⟩:=H6.lea (hp.out _ p);generalize gW I=aa at *;have T7:=T6.trans B;have S7:=S6.stp B;have E7:=E6.stp B;go_wp2;generalize w6.setCell ⟨wb,1,GA⟩ (.int .i64 (Ho (L-1)))=w7 at *;clear X W H6 T6 S6 E6 B p0 p1 p2 p3 p4 a hp p;generalize o6=o7 at *;obtain⟨p0,p1,p2,p3,p4,a⟩:=dT E7.1
 go_end0
 exact⟨rfl,o7,by rw[HF.out];exact H7,T7⟩
theorem rc {N:Nat}(IH:ko N)(e:Ex)(v:e.kids.size<=N)(he:e.fit)(ao:Option G1)(cap wb:Nat)(st:Ow)(w:GE)(o:Nat->Nat)(S:Sl w (L0 o) e.kids ao)(H:WQ w o wb st)(u:e.k=24) :
  GR GD 233 #[.pointer (GB ⟨wb,0,GA⟩),exV e ao cap] w (ja w o wb (eL e.k e.n e.nm (λg s=>oFs e.kids (e.k==21) g 0 s) st)):=by
 have b:e.k=20\/e.k=24\/e.k=25:=by omega
 have HF:Hid (eL e.k e.n e.nm (λg s=>oFs e.kids (e.k==21) g 0 s) st=eq [41] (gW (oFs e.kids (e.k==21) iX 0 (eq [40] (eB (eq [97,114,111,117,110,100] st)))))):=by
  show _=_;unfold eL;rw[if_neg (by omega),if_neg (by omega),if_neg (by omega),if_neg (by omega),if_neg (by omega),if_pos u];rfl
 have ae:(e.k==19)=false:=bne (by omega);have ac:(e.k==21)=false:=bne (by omega);have ad:(e.k==20)=false:=bne (by omega);have ab:(e.k==24)=true:=by simp[u]
 have C:=GL b;clear u b;have s0:=et (λ_=>False) w o (bxX e ao cap);have I:Blk (w.alloc (bxX e ao cap)) (dR w o 0) 0 w.heap.size (bxX e ao cap):=jE w o _ _;have U:=S.stp0 s0;have Z:=H.stp0 s0;have P:=s0.i12;clear S H s0;rw[dU];go_enter Tryz.func233,Tryz.ntmps233;go_upto_region 1 with fail;generalize w.alloc (bxX e ao cap)=w0 at *;generalize dR w o 0=o0 at *;generalize w.heap.size=be at *;obtain⟨p0,p1,p2,p3,p4,c⟩:=dT I.1;have c1:=fB [97,114,111,117,110,100] Z (by simp);generalize eq [97,114,111,117,110,100] st=a at *;go_wp2_with fail;refine c1.mono ?_;rintro y w1 ⟨rfl,o1,Y,p⟩;have O:=P.trans p;have T:=U.stp p;have G:=I.stp p;clear c1 Z P U I p p0 p1 p2 p3 p4 c;obtain⟨p0,p1,p2,p3,p4,c⟩:=dT G.1;have c2:=jh [40] Y (by simp);have i:Bal (eB a) (eq [40] (eB a)):=(Bal.refl _).put [40];have J:Hid (∀ s,Bal (eB a) s->∀ x,s=GB x->1<=x.o):=λs h=>iP h;generalize eq [40] (eB a)=d at *;generalize eB a=se at *;go_wp2_with fail;refine c2.mono ?_;rintro y w2 ⟨rfl,o2,X,s2⟩;have M:=O.trans s2;have B:=T.stp s2;have F:=G.stp s2;clear c2 Y O T G s2 p0 p1 p2 p3 p4 c;obtain⟨p0,p1,p2,p3,p4,c⟩:=dT F.1;have b:=C.out;have c3:=qS IH e b v he ao cap wb d w2 o2 B X;rw[dU] at c3;have f:=i.trans (lH e.kids (e.k==21) iX 0 d);generalize oFs e.kids (e.k==21) iX 0 d=r at *;go_wp2_with fail;refine c3.mono ?_;rintro y w3 ⟨rfl,o3,W,m⟩;have L:=M.trans m;have R:=B.stp m;have E:=F.stp m;clear c3 X M B F m p0 p1 p2 p3 p4 c i;obtain⟨p0,p1,p2,p3,p4,c⟩:=dT E.1;clear b;obtain⟨t,A,z,l,V⟩:=W.lea (J.out _ f);generalize gW r=q at *;have K:=L.trans l;have Q:=R.stp l;have D:=E.stp l;go_upto_region 35 with fail;generalize w3.setCell ⟨wb,1,GA⟩ (.int .i64 (Ho (t-1)))=w4 at *;clear A z W L R E l p0 p1 p2 p3 p4 c J f;generalize o3=o4 at *;obtain⟨p0,p1,p2,p3,p4,c⟩:=dT D.1;have c5:=fB [41] V (by simp);generalize eq [41] q=aa at *;go_wp2_with fail;refine c5.mono ?_;rintro y w5 ⟨rfl,o5,H5,j⟩;have T5:=K.trans j;have S5:=Q.stp j;have E5:=D.stp j;clear c5 V K Q D j p0 p1 p2 p3 p4 c;obtain⟨p0,p1,p2,p3,p4,c⟩:=dT E5.1;go_wp2
 go_end0
 exact⟨rfl,o5,by rw[HF.out];exact H5,T5⟩
theorem uv {N:Nat}(IH:ko N)(e:Ex)(r:e.kids.size<=N)(Y:e.fit)(ao:Option G1)(cap wb:Nat)(st:Ow)(w:GE)(o:Nat->Nat)(S:Sl w (L0 o) e.kids ao)(H:WQ w o wb st)(E:e.k=25) :
  GR GD 233 #[.pointer (GB ⟨wb,0,GA⟩),exV e ao cap] w (ja w o wb (eL e.k e.n e.nm (λg s=>oFs e.kids (e.k==21) g 0 s) st)):=by
 have a:e.k=20\/e.k=24\/e.k=25:=by omega
 have HF:Hid (eL e.k e.n e.nm (λg s=>oFs e.kids (e.k==21) g 0 s) st=eq [125] (gW (oFs e.kids (e.k==21) iX 0 (eq [123] (eB st))))):=by
  show _=_;unfold eL;rw[if_neg (by omega),if_neg (by omega),if_neg (by omega),if_neg (by omega),if_neg (by omega),if_neg (by omega),if_pos E];rfl
 have ac:(e.k==19)=false:=bne (by omega);have aa:(e.k==21)=false:=bne (by omega);have ab:(e.k==20)=false:=bne (by omega);have Z:(e.k==24)=false:=bne (by omega);have y:=GL a;clear E a;have s0:=et (λ_=>False) w o (bxX e ao cap);have C:Blk (w.alloc (bxX e ao cap)) (dR w o 0) 0 w.heap.size (bxX e ao cap):=jE w o _ _;have O:=S.stp0 s0;have T:=H.stp0 s0;have K:=s0.i12;clear S H s0;rw[dU];go_enter Tryz.func233,Tryz.ntmps233;go_upto_region 1 with fail;generalize w.alloc (bxX e ao cap)=w0 at *;generalize dR w o 0=o0 at *;generalize w.heap.size=be at *;obtain⟨p0,p1,p2,p3,p4,b⟩:=dT C.1;have c1:=jh [123] T (by simp);have f:Bal (eB st) (eq [123] (eB st)):=(Bal.refl _).put [123];have D:Hid (∀ s,Bal (eB st) s->∀ x,s=GB x->1<=x.o):=λs h=>iP h;generalize eq [123] (eB st)=c at *;generalize eB st=se at *;go_wp2_with fail;refine c1.mono ?_;rintro F w1 ⟨rfl,X,R,l⟩;have J:=K.trans l;have v:=O.stp l;have B:=C.stp l;clear c1 T K O C l p0 p1 p2 p3 p4 b;obtain⟨p0,p1,p2,p3,p4,b⟩:=dT B.1;have a:=y.out;have c2:=qS IH e a r Y ao cap wb c w1 X v R;rw[dU] at c2;have d:=f.trans (lH e.kids (e.k==21) iX 0 c);generalize oFs e.kids (e.k==21) iX 0 c=p at *;go_wp2_with fail;refine c2.mono ?_;rintro F w2 ⟨rfl,W,Q,s2⟩;have I:=J.trans s2;have M:=v.stp s2;have A:=B.stp s2;clear c2 R J v B s2 p0 p1 p2 p3 p4 b f;obtain⟨p0,p1,p2,p3,p4,b⟩:=dT A.1;clear a;obtain⟨q,u,t,j,P⟩:=Q.lea (D.out _ d);generalize gW p=m at *;have G:=I.trans j;have L:=M.stp j;have z:=A.stp j;go_upto_region 5 with fail;generalize w2.setCell ⟨wb,1,GA⟩ (.int .i64 (Ho (q-1)))=w3 at *;clear u t Q I M A j p0 p1 p2 p3 p4 b D d;generalize W=o3 at *;obtain⟨p0,p1,p2,p3,p4,b⟩:=dT z.1;have c4:=fB [125] P (by simp);generalize eq [125] m=U at *;go_wp2_with fail;refine c4.mono ?_;rintro F w4 ⟨rfl,V,H4,i⟩;have T4:=G.trans i;have S4:=L.stp i;have E4:=z.stp i;clear c4 P G L z i p0 p1 p2 p3 p4 b;obtain⟨p0,p1,p2,p3,p4,b⟩:=dT E4.1;go_wp2
 go_end0
 exact⟨rfl,V,by rw[HF.out];exact H4,T4⟩
theorem Gh {n:Int}(h:1<=n/\n<=10):cwL[(n-1).toNat]?=GB (kw n):=by
 have:n=1\/n=2\/n=3\/n=4\/n=5\/n=6\/n=7\/n=8\/n=9\/n=10:=by omega
 rcases this with rfl|rfl|rfl|rfl|rfl|rfl|rfl|rfl|rfl|rfl<;>rfl
theorem FT {n:Int}(h:1<=n/\n<=6):qwL[(n-1).toNat]?=GB (jS n):=by
 have:n=1\/n=2\/n=3\/n=4\/n=5\/n=6:=by omega
 rcases this with rfl|rfl|rfl|rfl|rfl|rfl<;>rfl
theorem uJ {N:Nat}(IH:ko N)(e:Ex)(U:e.kids.size<=N)(he:e.fit)(ao:Option G1)(cap wb:Nat)(st:Ow)(w:GE)(o:Nat->Nat)(S:Sl w (L0 o) e.kids ao)(H:WQ w o wb st)(T:e.k=20)(hn:1<=e.n/\e.n<=10) :
  GR GD 233 #[.pointer (GB ⟨wb,0,GA⟩),exV e ao cap] w (ja w o wb (eL e.k e.n e.nm (λg s=>oFs e.kids (e.k==21) g 0 s) st)):=by
 have d:e.k=20\/e.k=24\/e.k=25:=by omega
 have HF:Hid (eL e.k e.n e.nm (λg s=>oFs e.kids (e.k==21) g 0 s) st=eq [41] (gW (oFs e.kids (e.k==21) iX 0 (eq [40] (eB (eq (kw e.n) st)))))):=by
  show _=_;unfold eL;rw[if_neg (by omega),if_neg (by omega),if_neg (by omega),if_neg (by omega),if_pos T];rfl
 have ag:(e.k==19)=false:=bne (by omega);have ae:(e.k==21)=false:=bne (by omega);have af:(e.k==20)=true:=by simp[T]
 have Y:=GL d;have r:=Gh hn;obtain⟨j,hj⟩:=exq ((e.n-1).toNat);rw[<-hj] at r;have ab:IntKind.i64.wrap (e.n-1)=(j:Int):=by rw[Ii];omega
 have ad:j<10:=by omega
 have ac:(j:Int)<10:=by omega
 have HP:Hid (∀ wx t,WQ wx t wb st->GR GD 229 #[.pointer (GB ⟨wb,0,GA⟩),stv (kw e.n)] wx (ja wx t wb (eq (kw e.n) st))):=λwx t h=>fB _ h (by have:=yi e.n;omega);generalize eq (kw e.n) st=c at *;generalize kw e.n=cw at *;have Z:=GL r;clear T d hn hj r;have s0:=et (λ_=>False) w o (bxX e ao cap);have O:Blk (w.alloc (bxX e ao cap)) (dR w o 0) 0 w.heap.size (bxX e ao cap):=jE w o _ _;have S0:=S.stp0 s0;have H0:=H.stp0 s0;have T0:=s0.i12;clear S H s0;rw[dU];go_enter Tryz.func233,Tryz.ntmps233;go_upto_region 1 with fail;generalize w.alloc (bxX e ao cap)=w0 at *;generalize dR w o 0=o0 at *;generalize w.heap.size=u at *;have f:Hid (∀ wx t,Blk wx t 0 u (bxX e ao cap)->wx.cell? ⟨u,1,GA⟩=GB (.int .i64 e.n)):=λwx t h=>(dT h.1).2.1;have B:Blk w0.drew o0 0 u (bxX e ao cap):=O;obtain⟨p0,p1,p2,p3,p4,l⟩:=dT O.1;go_upto_region 25 with fail;go_cut [105] (λv wx=>∃q,WQ wx q wb c/\Blk wx q 0 u (bxX e ao cap)/\Sl wx (L0 q) e.kids ao/\dQ I12 w o wx q)
 case first =>
  refine wp_region_held_drew (S:=λwx=>wx.cell? ⟨u,1,GA⟩=GB (.int .i64 e.n)) (by kernel_rfl) (f.out _ _ B) (λb=>?_);refine Hy (i:=0) (v:=?v1) rfl (by kernel_rfl) (by kernel_rfl) (by kernel_rfl) (λ_ _ _ h=>h) (IX ⟨by rfl,?hy1⟩) (by assumption) ?rest1
  case hy1=>(intro w a;(try dsimp only at a);go_simp;all_goals (with_reducible rfl))
  simp only[Ip,G9,GV,GW,GU,Hc,Hd];refine Hy (i:=2) (v:=?v2) rfl (by kernel_rfl) (by kernel_rfl) (by kernel_rfl) (λ_ _ _ h=>h) (IX ⟨by rfl,?hy2⟩) (by assumption) ?rest2
  case hy2=>(intro w a;(try dsimp only at a);go_simp;all_goals (with_reducible rfl))
  simp only[Ip,G9,GV,GW,GU,Hc,Hd];refine Hy (i:=3) (v:=?v3) rfl (by kernel_rfl) (by kernel_rfl) (by kernel_rfl) (λ_ _ _ h=>h) (IX ⟨by rfl,?hy3⟩) (by assumption) ?rest3
  case hy3=>(intro w a;(try dsimp only at a);go_simp;all_goals (with_reducible rfl))
  simp only[Ip,G9,GV,GW,GU,Hc,Hd];refine Hy (i:=4) (v:=?v4) rfl (by kernel_rfl) (by kernel_rfl) (by kernel_rfl) (λ_ _ _ h=>h) (IX ⟨by rfl,?hy4⟩) (by assumption) ?rest4
  case hy4=>(intro w a;(try dsimp only at a);go_simp;all_goals (with_reducible rfl))
  simp only[Ip,G9,GV,GW,GU,Hc,Hd];refine Ji (rs:=[1]) (by kernel_rfl) (by simp) ?_;refine I0 rfl (λK m=>?_) Jb
  go_simp
  go_wp2_with ((go_at_call 158;refine(wN _).mono ?_;rintro I w1 ⟨g1,rfl,WL⟩;have C:dQ (λ_=>False) w0 o0 w1 o0:=(dQ.refl _ w0 o0).drew.trans (dQ.ofB o0 WL.1);have E1:Blk w1 o0 0 u (bxX e ao cap):=O.step C id;have H1:=H0.stp0 C;have S1:=S0.stp0 C;have T1:=T0.trans C.i12;have ix:=WL.2.2.2 j _ Z.out));refine m.out _ _ (f.out _ _ E1) (λb=>?_);clear m K;refine Hy (i:=5) (v:=?v5) rfl (by kernel_rfl) (by kernel_rfl) (by kernel_rfl) (λ_ _ _ h=>h) (IX ⟨by rfl,?hy5⟩) (by assumption) ?rest5
  case hy5=>(intro w a;(try dsimp only at a);go_simp;all_goals (with_reducible rfl))
  simp only[Ip,G9,GV,GW,GU,Hc,Hd];refine Ji (rs:=[6]) (by kernel_rfl) (by simp) ?_;refine I0 rfl (λK m=>?_) Jb
  go_simp
  refine m.out _ _ (f.out _ _ E1) (λb=>?_);clear m K;refine Ji (rs:=[7]) (by kernel_rfl) (by simp) ?_;refine I0 rfl (λK m=>?_) Jb
  go_simp
  go_wp2_with ((go_at_call 229;refine(HP.out _ _ H1).mono ?_;rintro I w2 ⟨rfl,q,M,s2⟩;have y:=E1.stp s2;have L:=S1.stp s2;have J:=T1.trans s2));refine m.out _ _ (f.out _ _ y) (λb=>?_);clear m K;refine wpAnyH_done (by kernel_rfl) ?_ _;go_wp2;go_meet;exact⟨q,M,y,L,J⟩
 case rest =>
 obtain⟨q,M,y,L,J⟩:=hcut;obtain⟨w2,rfl⟩:=exq wc;clear H0 S0 T0 O B HP f p0 p1 p2 p3 p4 l;obtain⟨p0,p1,p2,p3,p4,l⟩:=dT y.1;have c3:=jh [40] M (by simp);have A:Bal (eB c) (eq [40] (eB c)):=(Bal.refl _).put [40];have hp:Hid (∀ s,Bal (eB c) s->∀ x,s=GB x->1<=x.o):=λs h=>iP h;generalize eq [40] (eB c)=p at *;generalize eB c=se at *;go_wp2_with fail;refine c3.mono ?_;rintro I w3 ⟨rfl,o3,H3,G⟩;have T3:=J.trans G;have X:=L.stp G;have E3:=y.stp G;clear c3 M J L y G p0 p1 p2 p3 p4 l;obtain⟨p0,p1,p2,p3,p4,l⟩:=dT E3.1;have d:=Y.out;have c4:=qS IH e d U he ao cap wb p w3 o3 X H3;rw[dU] at c4;have z:=A.trans (lH e.kids (e.k==21) iX 0 p);generalize oFs e.kids (e.k==21) iX 0 p=Q at *;go_wp2_with fail;refine c4.mono ?_;rintro I w4 ⟨rfl,o4,H4,F⟩;have T4:=T3.trans F;have S4:=X.stp F;have E4:=E3.stp F;clear c4 H3 T3 X E3 F p0 p1 p2 p3 p4 l A;obtain⟨p0,p1,p2,p3,p4,l⟩:=dT E4.1;clear d;obtain⟨R,W,V,E,H5⟩:=H4.lea (hp.out _ z);generalize gW Q=P at *;have T5:=T4.trans E;have S5:=S4.stp E;have E5:=E4.stp E;go_upto_region 29 with fail;generalize w4.setCell ⟨wb,1,GA⟩ (.int .i64 (Ho (R-1)))=w5 at *;clear W V H4 T4 S4 E4 E p0 p1 p2 p3 p4 l hp z;generalize o4=o5 at *;obtain⟨p0,p1,p2,p3,p4,l⟩:=dT E5.1;have c6:=fB [41] H5 (by simp);generalize eq [41] P=aa at *;go_wp2_with fail;refine c6.mono ?_;rintro I w6 ⟨rfl,o6,H6,D⟩;have T6:=T5.trans D;have S6:=S5.stp D;have E6:=E5.stp D;clear c6 H5 T5 S5 E5 D p0 p1 p2 p3 p4 l;obtain⟨p0,p1,p2,p3,p4,l⟩:=dT E6.1;go_wp2
 go_end0
 exact⟨rfl,o6,by rw[HF.out];exact H6,T6⟩
theorem tu {N:Nat}(IH:ko N)(e:Ex)(aO:e.kids.size<=N)(he:e.fit)(ao:Option G1)(cap wb:Nat)(st:Ow)(w:GE)(o:Nat->Nat)(S:Sl w (L0 o) e.kids ao)(H:WQ w o wb st)(hk:e.k=21)(hn:1<=e.n/\e.n<=6)(hl:e.kids.len=2)(aJ:e.nm.length<=12) :
  GR GD 233 #[.pointer (GB ⟨wb,0,GA⟩),exV e ao cap] w (ja w o wb (eL e.k e.n e.nm (λg s=>oFs e.kids (e.k==21) g 0 s) st)):=by
 obtain⟨x,y,R⟩:=jP hl;have am:Hid (e.kids=Fs.app .nil (Fs.ex x (Fs.ex y .nil))):=R;have al:Hid (e.kids=Fs.app (one x) (Fs.ex y .nil)):=by show _=_;rw[R];rfl
 have aE:e.kids.size=x.kids.size+(y.kids.size+0+1)+1:=by rw[R];rfl
 have az:x.kids.size<N:=by omega
 have ay:y.kids.size<N:=by omega
 have aw:=Ex.kidfit he am.out;have av:=Ex.kidfit he al.out;have HF:Hid (eL e.k e.n e.nm (λg s=>oFs e.kids (e.k==21) g 0 s) st=sc (gW (gZ e y 1 (eq [58,32] (gZ e x 0 (eq (jS e.n++[32]++e.nm++[32,105,110,32]) (eB (jY st)))))))):=by
  show _=_;unfold eL;rw[if_neg (by omega),if_neg (by omega),if_neg (by omega),if_pos hk];simp only[R,oU];rw[iu e x 0 _ (by rw[hk];rfl) (by rw[hk];rfl),iu e y 1 _ (by rw[hk];rfl) (by rw[hk];rfl)];rfl
 have aQ:(e.k==19)=false:=bne (by omega);have aP:(e.k==21)=true:=by simp[hk]
 have ak:=FT hn;obtain⟨j,hj⟩:=exq ((e.n-1).toNat);rw[<-hj] at ak;have aH:IntKind.i64.wrap (e.n-1)=(j:Int):=by rw[Ii];omega
 have aN:j<6:=by omega
 have aM:(j:Int)<6:=by omega
 have aI:=xm e.n;have HO:Hid (∀ wx u (su:Ow),WQ wx u wb su->GR GD 231 #[.pointer (GB ⟨wb,0,GA⟩),.string (⟨(jS e.n).toArray⟩++⟨#[32]⟩++⟨e.nm.toArray⟩++⟨#[32,105,110,32]⟩)] wx (ja wx u wb (eq (jS e.n++[32]++e.nm++[32,105,110,32]) (eB su)))):=λwx u su h=>by
  have h9:=jh (jS e.n++[32]++e.nm++[32,105,110,32]) h (by simp only[G4,G5,IF];omega);have e9:(⟨(jS e.n).toArray⟩++⟨#[32]⟩++⟨e.nm.toArray⟩++⟨#[32,105,110,32]⟩:ByteArray)=⟨(jS e.n++[32]++e.nm++[32,105,110,32]).toArray⟩:=by
   rw[<-ys,<-ys,<-ys]
  rw[e9];exact h9
 have aL:=jF (jS e.n);have aK:=jF e.nm;have HQ:=GL ak;generalize jS e.n=qw at *;clear R hk hl aE hj ak hn;have s0:=et (λ_=>False) w o (bxX e ao cap);have E0:Blk (w.alloc (bxX e ao cap)) (dR w o 0) 0 w.heap.size (bxX e ao cap):=jE w o _ _;have S0:=S.stp0 s0;have H0:=H.stp0 s0;have T0:=s0.i12;clear S H s0;rw[dU];go_enter Tryz.func233,Tryz.ntmps233;go_upto_region 1 with fail;generalize w.alloc (bxX e ao cap)=w0 at *;generalize dR w o 0=o0 at *;generalize w.heap.size=B at *;have aC:Hid (∀ s,Bal (jY st) s->∀ x,s=GB x->1<=x.q):=λs h=>BC h;obtain⟨qq,c2,cf,L,hh⟩:=H0.qen;have ax:=H0.end.1;generalize jY st=l at *;obtain⟨p0,p1,p2,p3,p4,c⟩:=dT E0.1;obtain⟨w4,F⟩:=exq (w0.setCell ⟨wb,2,GA⟩ (.int .i64 (Ho (qq+1))));have d2:w4.cell? ⟨wb,2,GA⟩=GB (.int .i64 (Ho (qq+1))):=by rw[F];exact World.cell?_setCell_same _ _ _ c2
 have df:∀ j,w4.frozen? ⟨wb,j,GA⟩=false:=λj=>by rw[F];exact(World.frozen?_setCell ..).trans (cf j)
 have d3:w4.cell? ⟨wb,3,GA⟩=GB (.bool st.isSome):=by rw[F];exact(World.cell?_setCell_other _ _ _ _ (by simp)).trans ax
 go_upto_region 16 with fail;rw[<-F];rw[<-F] at hh L;have E4:=E0.stp L;have S4:=S0.stp L;have T4:=T0.trans L;clear F c2 cf ax E0 S0 T0 H0 L p0 p1 p2 p3 p4 c;rcases hh with ⟨hl,H5⟩|⟨hl,H5⟩
 ·have s5:dQ I12 w4 o0 (w4.setCell ⟨wb,3,GA⟩ (.bool false)) o0:=by
   obtain⟨t,aG,aF,ok,hr,_⟩:=H5.raw;obtain⟨v,hb,_⟩:=hr;exact fj _ w4 o0 ⟨wb,3,GA⟩ _ (.inl hb.2)
  have E5:=E4.stp s5;have S5:=S4.stp s5;have T5:=T4.trans s5;go_upto_region 18 with fail;generalize w4.setCell ⟨wb,3,GA⟩ (.bool false)=w5 at *;clear d2 df d3 s5 E4 S4 T4;have f:Hid (∀ wx u,Blk wx u 0 B (bxX e ao cap)->wx.cell? ⟨B,1,GA⟩=GB (.int .i64 e.n)/\wx.cell? ⟨B,2,GA⟩=GB (stv e.nm)):=λwx u h=>⟨(dT h.1).2.1,(dT h.1).2.2.1⟩;have ae:Blk w5.drew o0 0 B (bxX e ao cap):=E5;obtain⟨p0,p1,p2,p3,p4,c⟩:=dT E5.1;have ab:Hid (∀ wx u,WQ wx u wb l->GR GD 231 #[.pointer (GB ⟨wb,0,GA⟩),.string (⟨qw.toArray⟩++⟨#[32]⟩++⟨e.nm.toArray⟩++⟨#[32,105,110,32]⟩)] wx (ja wx u wb (eq (qw++[32]++e.nm++[32,105,110,32]) (eB l)))):=λwx u h=>HO.out wx u l h;have V:Bal (eB l) (eq (qw++[32]++e.nm++[32,105,110,32]) (eB l)):=(Bal.refl _).put _;have hp:Hid (∀ s,Bal (eB l) s->∀ x,s=GB x->1<=x.o):=λs h=>iP h;have Q:Hid (∀ s,Bal (eB l) s->Bal l (gW s)):=λs h=>Bal.lea h;generalize eq (qw++[32]++e.nm++[32,105,110,32]) (eB l)=m at *;clear HO;go_upto_region 18 with fail;go_cut [73] (λv wx=>∃z,WQ wx z wb m/\Blk wx z 0 B (bxX e ao cap)/\Sl wx (L0 z) e.kids ao/\dQ I12 w o wx z)
  case first =>
   refine wp_region_held_drew (S:=λwx=>wx.cell? ⟨B,1,GA⟩=GB (.int .i64 e.n)/\wx.cell? ⟨B,2,GA⟩=GB (stv e.nm)) (by kernel_rfl) (f.out _ _ ae) (λb=>?_);refine Hy (i:=0) (v:=?v6) rfl (by kernel_rfl) (by kernel_rfl) (by kernel_rfl) (λ_ _ _ h=>h) (IX ⟨by rfl,?hy6⟩) (by assumption) ?rest6
   case hy6=>(intro w a;(try dsimp only at a);go_simp;all_goals (with_reducible rfl))
   simp only[Ip,G9,GV,GW,GU,Hc,Hd];refine Hy (i:=2) (v:=?v7) rfl (by kernel_rfl) (by kernel_rfl) (by kernel_rfl) (λ_ _ _ h=>h) (IX ⟨by rfl,?hy7⟩) (by assumption) ?rest7
   case hy7=>(intro w a;(try dsimp only at a);go_simp;all_goals (with_reducible rfl))
   simp only[Ip,G9,GV,GW,GU,Hc,Hd];refine Hy (i:=3) (v:=?v8) rfl (by kernel_rfl) (by kernel_rfl) (by kernel_rfl) (λ_ _ _ h=>h) (IX ⟨by rfl,?hy8⟩) (by assumption) ?rest8
   case hy8=>(intro w a;(try dsimp only at a);go_simp;all_goals (with_reducible rfl))
   simp only[Ip,G9,GV,GW,GU,Hc,Hd];refine Hy (i:=4) (v:=?v9) rfl (by kernel_rfl) (by kernel_rfl) (by kernel_rfl) (λ_ _ _ h=>h) (IX ⟨by rfl,?hy9⟩) (by assumption) ?rest9
   case hy9=>(intro w a;(try dsimp only at a);go_simp;all_goals (with_reducible rfl))
   simp only[Ip,G9,GV,GW,GU,Hc,Hd];refine Hy (i:=8) (v:=?v10) rfl (by kernel_rfl) (by kernel_rfl) (by kernel_rfl) (λ_ _ _ h=>h) (IX ⟨by rfl,?hy10⟩) (by assumption) ?rest10
   case hy10=>(intro w a;(try dsimp only at a);go_simp;all_goals (with_reducible rfl))
   simp only[Ip,G9,GV,GW,GU,Hc,Hd];refine Hy (i:=9) (v:=?v11) rfl (by kernel_rfl) (by kernel_rfl) (by kernel_rfl) (λ_ _ _ h=>h) (IX ⟨by rfl,?hy11⟩) (by assumption) ?rest11
   case hy11=>(intro w a;(try dsimp only at a);go_simp;all_goals (with_reducible rfl))
   simp only[Ip,G9,GV,GW,GU,Hc,Hd];refine Ji (rs:=[1]) (by kernel_rfl) (by simp) ?_;refine I0 rfl (λK A=>?_) Jb
   go_simp
   go_wp2_with ((go_at_call 159;refine(oZ _).mono ?_;rintro e2 w6 ⟨g1,rfl,WL⟩;have sA:dQ (λ_=>False) w5 o0 w6 o0:=(dQ.refl _ w5 o0).drew.trans (dQ.ofB o0 WL.1);have E6:Blk w6 o0 0 B (bxX e ao cap):=E5.step sA id;have H6:=H5.stp0 sA;have S6:=S5.stp0 sA;have T6:=T5.trans sA.i12;have ix:=WL.2.2.2 j _ HQ.out));refine A.out _ _ (f.out _ _ E6) (λb=>?_);clear A K;refine Hy (i:=5) (v:=?v12) rfl (by kernel_rfl) (by kernel_rfl) (by kernel_rfl) (λ_ _ _ h=>h) (IX ⟨by rfl,?hy12⟩) (by assumption) ?rest12
   case hy12=>(intro w a;(try dsimp only at a);go_simp;all_goals (with_reducible rfl))
   simp only[Ip,G9,GV,GW,GU,Hc,Hd];refine Ji (rs:=[6]) (by kernel_rfl) (by simp) ?_;refine I0 rfl (λK A=>?_) Jb
   go_simp
   refine A.out _ _ (f.out _ _ E6) (λb=>?_);clear A K;refine Hy (i:=7) (v:=?v13) rfl (by kernel_rfl) (by kernel_rfl) (by kernel_rfl) (λ_ _ _ h=>h) (IX ⟨by rfl,?hy13⟩) (by assumption) ?rest13
   case hy13=>(intro w a;(try dsimp only at a);go_simp;rw[if_neg (by omega)])
   simp only[Ip,G9,GV,GW,GU,Hc,Hd];refine Hy (i:=10) (v:=?v14) rfl (by kernel_rfl) (by kernel_rfl) (by kernel_rfl) (λ_ _ _ h=>h) (IX ⟨by rfl,?hy14⟩) (by assumption) ?rest14
   case hy14=>(intro w a;(try dsimp only at a);go_simp;rw[if_neg (by omega)])
   simp only[Ip,G9,GV,GW,GU,Hc,Hd];refine Hy (i:=11) (v:=?v15) rfl (by kernel_rfl) (by kernel_rfl) (by kernel_rfl) (λ_ _ _ h=>h) (IX ⟨by rfl,?hy15⟩) (by assumption) ?rest15
   case hy15=>(intro w a;(try dsimp only at a);go_simp;rw[if_neg (by omega)])
   simp only[Ip,G9,GV,GW,GU,Hc,Hd];refine Ji (rs:=[12]) (by kernel_rfl) (by simp) ?_;refine I0 rfl (λK A=>?_) Jb
   go_simp
   go_wp2_with ((go_at_call 231;refine(ab.out _ _ H6).mono ?_;rintro e2 w7 ⟨rfl,z,H7,s7⟩;have G:=E6.stp s7;have S7:=S6.stp s7;have T7:=T6.trans s7));refine A.out _ _ (f.out _ _ G) (λb=>?_);clear A K;refine wpAnyH_done (by kernel_rfl) ?_ _;go_wp2;go_meet;exact⟨z,H7,G,S7,T7⟩
  case rest =>
  obtain⟨z,H7,G,S7,T7⟩:=hcut;obtain⟨w7,rfl⟩:=exq wc;clear H5 S5 T5 E5 ae ab f p0 p1 p2 p3 p4 c;generalize eB l=se at *;obtain⟨p0,p1,p2,p3,p4,c⟩:=dT G.1;have c8:=jB IH e x .nil (Fs.ex y .nil) am.out 0 rfl (by omega) (az) (aw) ao cap wb m w7 z S7 H7;rw[dU] at c8;have U:=V.trans (iO e x 0 m);generalize gZ e x 0 m=ah at *;go_wp2_with fail;refine c8.mono ?_;rintro e2 w8 ⟨rfl,o8,H8,s8⟩;have T8:=T7.trans s8;have S8:=S7.stp s8;have E8:=G.stp s8;clear c8 H7 T7 S7 G s8 p0 p1 p2 p3 p4 c V;obtain⟨p0,p1,p2,p3,p4,c⟩:=dT E8.1;have c9:=fB [58,32] H8 (by simp);have T:=U.put [58,32];generalize eq [58,32] ah=C at *;go_wp2_with fail;refine c9.mono ?_;rintro e2 w9 ⟨rfl,o9,H9,s9⟩;have T9:=T8.trans s9;have S9:=S8.stp s9;have E9:=E8.stp s9;clear c9 H8 T8 S8 E8 s9 p0 p1 p2 p3 p4 c U;obtain⟨p0,p1,p2,p3,p4,c⟩:=dT E9.1;have D:=jB IH e y (one x) .nil al.out 1 rfl (by omega) (ay) (av) ao cap wb C w9 o9 S9 H9;rw[dU] at D;have d:=T.trans (iO e y 1 C);generalize gZ e y 1 C=J at *;go_wp2_with fail;refine D.mono ?_;rintro e2 ag ⟨rfl,aj,ad,r⟩;have Z:=T9.trans r;have aa:=S9.stp r;have E:=E9.stp r;clear D H9 T9 S9 E9 r p0 p1 p2 p3 p4 c T;obtain⟨p0,p1,p2,p3,p4,c⟩:=dT E.1;have P:=Q.out _ d;obtain⟨O,X,W,p,ac⟩:=ad.lea (hp.out _ d);generalize gW J=I at *;have Y:=Z.trans p;have ap:=aa.stp p;have af:=E.stp p;go_upto_region 23 with fail;generalize ag.setCell ⟨wb,1,GA⟩ (.int .i64 (Ho (O-1)))=aD at *;clear X W ad Z aa E p p0 p1 p2 p3 p4 c hp d;generalize aj=ai at *;obtain⟨p0,p1,p2,p3,p4,c⟩:=dT af.1;obtain⟨au,aB,aA,M,aq⟩:=ac.qle (aC.out _ P);generalize sc I=ar at *;have an:=Y.trans M;clear ac Y ap af M p0 p1 p2 p3 p4 c P Q;go_wp2
  go_end0
  exact⟨rfl,ai,by rw[HF.out];exact aq,an⟩
 ·obtain⟨w5,rfl⟩:=exq w4;have E5:=E4;have S5:=S4;have T5:=T4;clear E4 S4 T4;have f:Hid (∀ wx u,Blk wx u 0 B (bxX e ao cap)->wx.cell? ⟨B,1,GA⟩=GB (.int .i64 e.n)/\wx.cell? ⟨B,2,GA⟩=GB (stv e.nm)):=λwx u h=>⟨(dT h.1).2.1,(dT h.1).2.2.1⟩;have ae:Blk w5.drew o0 0 B (bxX e ao cap):=E5;obtain⟨p0,p1,p2,p3,p4,c⟩:=dT E5.1;have ab:Hid (∀ wx u,WQ wx u wb l->GR GD 231 #[.pointer (GB ⟨wb,0,GA⟩),.string (⟨qw.toArray⟩++⟨#[32]⟩++⟨e.nm.toArray⟩++⟨#[32,105,110,32]⟩)] wx (ja wx u wb (eq (qw++[32]++e.nm++[32,105,110,32]) (eB l)))):=λwx u h=>HO.out wx u l h;have V:Bal (eB l) (eq (qw++[32]++e.nm++[32,105,110,32]) (eB l)):=(Bal.refl _).put _;have hp:Hid (∀ s,Bal (eB l) s->∀ x,s=GB x->1<=x.o):=λs h=>iP h;have Q:Hid (∀ s,Bal (eB l) s->Bal l (gW s)):=λs h=>Bal.lea h;generalize eq (qw++[32]++e.nm++[32,105,110,32]) (eB l)=m at *;clear HO;go_upto_region 18 with fail;clear d2 df d3;go_cut [73] (λv wx=>∃z,WQ wx z wb m/\Blk wx z 0 B (bxX e ao cap)/\Sl wx (L0 z) e.kids ao/\dQ I12 w o wx z)
  case first =>
   refine wp_region_held_drew (S:=λwx=>wx.cell? ⟨B,1,GA⟩=GB (.int .i64 e.n)/\wx.cell? ⟨B,2,GA⟩=GB (stv e.nm)) (by kernel_rfl) (f.out _ _ ae) (λb=>?_);refine Hy (i:=0) (v:=?v16) rfl (by kernel_rfl) (by kernel_rfl) (by kernel_rfl) (λ_ _ _ h=>h) (IX ⟨by rfl,?hy16⟩) (by assumption) ?rest16
   case hy16=>(intro w a;(try dsimp only at a);go_simp;all_goals (with_reducible rfl))
   simp only[Ip,G9,GV,GW,GU,Hc,Hd];refine Hy (i:=2) (v:=?v17) rfl (by kernel_rfl) (by kernel_rfl) (by kernel_rfl) (λ_ _ _ h=>h) (IX ⟨by rfl,?hy17⟩) (by assumption) ?rest17
   case hy17=>(intro w a;(try dsimp only at a);go_simp;all_goals (with_reducible rfl))
   simp only[Ip,G9,GV,GW,GU,Hc,Hd];refine Hy (i:=3) (v:=?v18) rfl (by kernel_rfl) (by kernel_rfl) (by kernel_rfl) (λ_ _ _ h=>h) (IX ⟨by rfl,?hy18⟩) (by assumption) ?rest18
   case hy18=>(intro w a;(try dsimp only at a);go_simp;all_goals (with_reducible rfl))
   simp only[Ip,G9,GV,GW,GU,Hc,Hd];refine Hy (i:=4) (v:=?v19) rfl (by kernel_rfl) (by kernel_rfl) (by kernel_rfl) (λ_ _ _ h=>h) (IX ⟨by rfl,?hy19⟩) (by assumption) ?rest19
   case hy19=>(intro w a;(try dsimp only at a);go_simp;all_goals (with_reducible rfl))
   simp only[Ip,G9,GV,GW,GU,Hc,Hd];refine Hy (i:=8) (v:=?v20) rfl (by kernel_rfl) (by kernel_rfl) (by kernel_rfl) (λ_ _ _ h=>h) (IX ⟨by rfl,?hy20⟩) (by assumption) ?rest20
   case hy20=>(intro w a;(try dsimp only at a);go_simp;all_goals (with_reducible rfl))
   simp only[Ip,G9,GV,GW,GU,Hc,Hd];refine Hy (i:=9) (v:=?v21) rfl (by kernel_rfl) (by kernel_rfl) (by kernel_rfl) (λ_ _ _ h=>h) (IX ⟨by rfl,?hy21⟩) (by assumption) ?rest21
   case hy21=>(intro w a;(try dsimp only at a);go_simp;all_goals (with_reducible rfl))
   simp only[Ip,G9,GV,GW,GU,Hc,Hd];refine Ji (rs:=[1]) (by kernel_rfl) (by simp) ?_;refine I0 rfl (λK A=>?_) Jb
   go_simp
   go_wp2_with ((go_at_call 159;refine(oZ _).mono ?_;rintro e2 w6 ⟨g1,rfl,WL⟩;have sA:dQ (λ_=>False) w5 o0 w6 o0:=(dQ.refl _ w5 o0).drew.trans (dQ.ofB o0 WL.1);have E6:Blk w6 o0 0 B (bxX e ao cap):=E5.step sA id;have H6:=H5.stp0 sA;have S6:=S5.stp0 sA;have T6:=T5.trans sA.i12;have ix:=WL.2.2.2 j _ HQ.out));refine A.out _ _ (f.out _ _ E6) (λb=>?_);clear A K;refine Hy (i:=5) (v:=?v22) rfl (by kernel_rfl) (by kernel_rfl) (by kernel_rfl) (λ_ _ _ h=>h) (IX ⟨by rfl,?hy22⟩) (by assumption) ?rest22
   case hy22=>(intro w a;(try dsimp only at a);go_simp;all_goals (with_reducible rfl))
   simp only[Ip,G9,GV,GW,GU,Hc,Hd];refine Ji (rs:=[6]) (by kernel_rfl) (by simp) ?_;refine I0 rfl (λK A=>?_) Jb
   go_simp
   refine A.out _ _ (f.out _ _ E6) (λb=>?_);clear A K;refine Hy (i:=7) (v:=?v23) rfl (by kernel_rfl) (by kernel_rfl) (by kernel_rfl) (λ_ _ _ h=>h) (IX ⟨by rfl,?hy23⟩) (by assumption) ?rest23
   case hy23=>(intro w a;(try dsimp only at a);go_simp;rw[if_neg (by omega)])
   simp only[Ip,G9,GV,GW,GU,Hc,Hd];refine Hy (i:=10) (v:=?v24) rfl (by kernel_rfl) (by kernel_rfl) (by kernel_rfl) (λ_ _ _ h=>h) (IX ⟨by rfl,?hy24⟩) (by assumption) ?rest24
   case hy24=>(intro w a;(try dsimp only at a);go_simp;rw[if_neg (by omega)])
   simp only[Ip,G9,GV,GW,GU,Hc,Hd];refine Hy (i:=11) (v:=?v25) rfl (by kernel_rfl) (by kernel_rfl) (by kernel_rfl) (λ_ _ _ h=>h) (IX ⟨by rfl,?hy25⟩) (by assumption) ?rest25
   case hy25=>(intro w a;(try dsimp only at a);go_simp;rw[if_neg (by omega)])
   simp only[Ip,G9,GV,GW,GU,Hc,Hd];refine Ji (rs:=[12]) (by kernel_rfl) (by simp) ?_;refine I0 rfl (λK A=>?_) Jb
   go_simp
   go_wp2_with ((go_at_call 231;refine(ab.out _ _ H6).mono ?_;rintro e2 w7 ⟨rfl,z,H7,s7⟩;have G:=E6.stp s7;have S7:=S6.stp s7;have T7:=T6.trans s7));refine A.out _ _ (f.out _ _ G) (λb=>?_);clear A K;refine wpAnyH_done (by kernel_rfl) ?_ _;go_wp2;go_meet;exact⟨z,H7,G,S7,T7⟩
  case rest =>
  obtain⟨z,H7,G,S7,T7⟩:=hcut;obtain⟨w7,rfl⟩:=exq wc;clear H5 S5 T5 E5 ae ab f p0 p1 p2 p3 p4 c;generalize eB l=se at *;obtain⟨p0,p1,p2,p3,p4,c⟩:=dT G.1;have c8:=jB IH e x .nil (Fs.ex y .nil) am.out 0 rfl (by omega) (az) (aw) ao cap wb m w7 z S7 H7;rw[dU] at c8;have U:=V.trans (iO e x 0 m);generalize gZ e x 0 m=ah at *;go_wp2_with fail;refine c8.mono ?_;rintro e2 w8 ⟨rfl,o8,H8,s8⟩;have T8:=T7.trans s8;have S8:=S7.stp s8;have E8:=G.stp s8;clear c8 H7 T7 S7 G s8 p0 p1 p2 p3 p4 c V;obtain⟨p0,p1,p2,p3,p4,c⟩:=dT E8.1;have c9:=fB [58,32] H8 (by simp);have T:=U.put [58,32];generalize eq [58,32] ah=C at *;go_wp2_with fail;refine c9.mono ?_;rintro e2 w9 ⟨rfl,o9,H9,s9⟩;have T9:=T8.trans s9;have S9:=S8.stp s9;have E9:=E8.stp s9;clear c9 H8 T8 S8 E8 s9 p0 p1 p2 p3 p4 c U;obtain⟨p0,p1,p2,p3,p4,c⟩:=dT E9.1;have D:=jB IH e y (one x) .nil al.out 1 rfl (by omega) (ay) (av) ao cap wb C w9 o9 S9 H9;rw[dU] at D;have d:=T.trans (iO e y 1 C);generalize gZ e y 1 C=J at *;go_wp2_with fail;refine D.mono ?_;rintro e2 ag ⟨rfl,aj,ad,r⟩;have Z:=T9.trans r;have aa:=S9.stp r;have E:=E9.stp r;clear D H9 T9 S9 E9 r p0 p1 p2 p3 p4 c T;obtain⟨p0,p1,p2,p3,p4,c⟩:=dT E.1;have P:=Q.out _ d;obtain⟨O,X,W,p,ac⟩:=ad.lea (hp.out _ d);generalize gW J=I at *;have Y:=Z.trans p;have ap:=aa.stp p;have af:=E.stp p;go_upto_region 23 with fail;generalize ag.setCell ⟨wb,1,GA⟩ (.int .i64 (Ho (O-1)))=aD at *;clear X W ad Z aa E p p0 p1 p2 p3 p4 c hp d;generalize aj=ai at *;obtain⟨p0,p1,p2,p3,p4,c⟩:=dT af.1;obtain⟨au,aB,aA,M,aq⟩:=ac.qle (aC.out _ P);generalize sc I=ar at *;have an:=Y.trans M;clear ac Y ap af M p0 p1 p2 p3 p4 c P Q;go_wp2
  go_end0
  exact⟨rfl,ai,by rw[HF.out];exact aq,an⟩
theorem F0 (k:Int):(ig k).isSome=decide (8<=k/\k<=18):=by
 by_cases h:8<=k/\k<=18
 ·rw[show decide (8<=k/\k<=18)=true by simpa using h]
  have:k=8\/k=9\/k=10\/k=11\/k=12\/k=13\/k=14\/k=15\/k=16\/k=17\/k=18:=by omega
  rcases this with rfl|rfl|rfl|rfl|rfl|rfl|rfl|rfl|rfl|rfl|rfl<;>rfl
 ·rw[show decide (8<=k/\k<=18)=false by simpa using h,JH,JM];unfold ig;rw[List.find?_eq_none];intro x a
  have:∀ x ∈ iJ,8<=x.2.1/\x.2.1<=18:=by decide
  have:=this x a
  simp only[beq_iff_eq];omega
theorem xy {n:Int}(h:1<=n/\n<=10):∃x,jo n=GB x/\(x.2.2:Int)=if 1<=n/\n<=3 then 2 else 1:=by
 have:n=1\/n=2\/n=3\/n=4\/n=5\/n=6\/n=7\/n=8\/n=9\/n=10:=by omega
 rcases this with rfl|rfl|rfl|rfl|rfl|rfl|rfl|rfl|rfl|rfl<;>exact⟨_,rfl,rfl⟩
theorem Fa {k n:Int}(h:fi k n=true)(m:Nat):ew k n m=(!decide (fM k n < -1)&&(decide (fM k n<0)||decide ((m:Int)=fM k n))):=by
 have e0:∀ c:Int,decide ((m:Int)=c)=((m:Int)==c):=λc=>rfl;by_cases h1:k=1
 ·subst h1
  first|(simp[ew,fM,e0];done)|(simp[ew,fM,e0];rw[GQ];simp)
 by_cases h2:k=2
 ·subst h2
  first|(simp[ew,fM,e0];done)|(simp[ew,fM,e0];rw[GQ];simp)
 by_cases b:k=3
 ·subst b
  first|(simp[ew,fM,e0];done)|(simp[ew,fM,e0];rw[GQ];simp)
 by_cases t:k=4
 ·subst t
  first|(simp[ew,fM,e0];done)|(simp[ew,fM,e0];rw[GQ];simp)
 by_cases g:k=22
 ·subst g
  first|(simp[ew,fM,e0];done)|(simp[ew,fM,e0];rw[GQ];simp)
 by_cases f:k=23
 ·subst f
  first|(simp[ew,fM,e0];done)|(simp[ew,fM,e0];rw[GQ];simp)
 by_cases s:k=6
 ·subst s
  first|(simp[ew,fM,e0];done)|(simp[ew,fM,e0];rw[GQ];simp)
 by_cases r:k=7
 ·subst r
  first|(simp[ew,fM,e0];done)|(simp[ew,fM,e0];rw[GQ];simp)
 by_cases e:k=24
 ·subst e
  first|(simp[ew,fM,e0];done)|(simp[ew,fM,e0];rw[GQ];simp)
 by_cases i:k=21
 ·subst i
  first|(simp[ew,fM,e0];done)|(simp[ew,fM,e0];rw[GQ];simp)
 by_cases l:k=19
 ·subst l
  first|(simp[ew,fM,e0];done)|(simp[ew,fM,e0];rw[GQ];simp)
 by_cases d:k=25
 ·subst d
  first|(simp[ew,fM,e0];done)|(simp[ew,fM,e0];rw[GQ];simp)
 by_cases j:k=20
 ·subst j;have u:1<=n/\n<=10:=by simpa [fi,eQ] using h
  obtain⟨x,q,o⟩:=xy u;by_cases b:1<=n/\n<=3
  ·rw[if_pos b] at o;simp[ew,fM,q,o,b,e0]
  ·rw[if_neg b] at o;simp[ew,fM,q,o,b,e0]
 have p:ew k n m=((ig k).isSome&&(m:Int)==2):=by simp[ew,h1,h2,b,t,g,f,s,r,e,i,l,d,j]
 rw[p,F0];by_cases v:8<=k/\k<=18
 ·have a:fM k n=2:=by
   unfold fM;rw[if_neg (by omega),if_neg (by omega),if_pos (by omega)]
  rw[a];simp[v,e0]
 ·have a:fM k n=-2:=by
   unfold fM;rw[if_neg (by omega),if_neg (by omega),if_neg (by omega),if_neg (by omega),if_neg (by omega),if_neg (by omega)]
  rw[a];simp;omega
theorem Ek {k:Int}{z:List UInt8 × Nat × Nat × Nat × Nat}(h:ig k=GB z):mE k 0=z.2.2.2.1/\mE k 1=z.2.2.2.2/\z.1.length<=3/\(k==21)=false:=by
 have a:=Hi h;have b:((z.2.1:Nat):Int)=k:=by have:=IU h;simpa using this
 subst b;simp only[iJ,Iq,Io,or_false] at a;rcases a with rfl|rfl|rfl|rfl|rfl|rfl|rfl|rfl|rfl|rfl|rfl<;>exact⟨rfl,rfl,by decide,rfl⟩
theorem mh {N:Nat}(h:ko N)(e:Ex)(b:e.kids.size<=N)(f:e.fit)(ao:Option G1)(cap wb:Nat)(st:Ow)(w:GE)(o:Nat->Nat)(S:Sl w (L0 o) e.kids ao)(H:WQ w o wb st)(a:e.k=19\/e.k=20\/e.k=21\/e.k=24\/e.k=25)(d:(fi e.k e.n&&ft e.k e.nm&&ew e.k e.n e.kids.len)=true) :
  GR GD 233 #[.pointer (GB ⟨wb,0,GA⟩),exV e ao cap] w (ja w o wb (eL e.k e.n e.nm (λg s=>oFs e.kids (e.k==21) g 0 s) st)):=by
 simp only[Ha] at d;rcases a with a|a|a|a|a
 ·exact AP h e b f ao cap wb st w o S H a (by have c:=d.2;rw[a] at c;simp[ew] at c;omega)
 ·exact uJ h e b f ao cap wb st w o S H a (by have c:=d.1.1;rw[a] at c;simpa [fi,eQ] using c)
 ·exact tu h e b f ao cap wb st w o S H a (by have c:=d.1.1;rw[a] at c;simpa [fi,eI] using c) (by have c:=d.2;rw[a] at c;simp[ew] at c;omega) (mz d.1.2)
 ·exact rc h e b f ao cap wb st w o S H a
 ·exact uv h e b f ao cap wb st w o S H a
theorem uq {N:Nat}(IH:ko N):ko (N+1):=by
 intro e ao cap set wb st w o aU Q S H;have ag:e.kids.size<=N:=by omega
 obtain⟨V,hV⟩:=exq ((fi e.k e.n&&ft e.k e.nm&&ew e.k e.n e.kids.len&&(eM e.k==set)));have HX:Hid (oEx e set st=if V=true then eL e.k e.n e.nm (λg s=>oFs e.kids (e.k==21) g 0 s) st else GA):=by show _=_;rw[hV];rfl
 have HV:Hid (V=(fi e.k e.n&&ft e.k e.nm&&ew e.k e.n e.kids.len&&(eM e.k==set))):=hV;clear aU hV;have s0:=et (λ_=>False) w o (bxX e ao cap);have E0:Blk (w.alloc (bxX e ao cap)) (dR w o 0) 0 w.heap.size (bxX e ao cap):=jE w o _ _;have S0:=S.stp0 s0;have H0:=H.stp0 s0;have T0:=s0.i12;clear S H s0;rw[dU];go_enter Tryz.func193,Tryz.ntmps193;go_upto_region 1 with fail;generalize w.alloc (bxX e ao cap)=w0 at *;generalize dR w o 0=o0 at *;generalize w.heap.size=be at *;obtain⟨p0,p1,p2,p3,p4,d⟩:=dT E0.1;have c1:=Ft e.k e.n e.nm ao e.kids.len cap e.a w0;generalize aM:fM e.k e.n=kN at *;have aw:=GL aM;clear aM;go_wp2_with fail;refine c1.mono ?_;rintro G w1 ⟨rfl,b1⟩;have s1:dQ (λ_=>False) w0 o0 w1 o0:=dQ.ofB o0 b1;have E1:=E0.step s1 id;have S1:=S0.stp0 s1;have H1:=H0.stp0 s1;have T1:=T0.trans s1.i12;clear c1 b1 s1 E0 S0 H0 T0 p0 p1 p2 p3 p4 d;obtain⟨p0,p1,p2,p3,p4,d⟩:=dT E1.1;have c2:=AC e.k e.n e.nm ao e.kids.len cap e.a w1 Q.nm;generalize hF:(fi e.k e.n&&ft e.k e.nm)=Fd at *;have ak:=GL hF;clear hF;go_wp2_with fail;refine c2.mono ?_;rintro G w2 ⟨rfl,b2⟩;have s2:dQ (λ_=>False) w1 o0 w2 o0:=dQ.ofB o0 b2;have r:=E1.step s2 id;have m:=S1.stp0 s2;have u:=H1.stp0 s2;have t:=T1.trans s2.i12;clear c2 b2 s2 E1 S1 H1 T1 p0 p1 p2 p3 p4 d;obtain⟨p0,p1,p2,p3,p4,d⟩:=dT r.1;obtain⟨c3,cf,sE,HE⟩:=u.end;go_upto_region 3 with fail;go_cut [42] (λv wx=>v=.bool (!(st.isSome&&V))/\wx=w2)
 case first =>
  clear HX m t HE sE;cases I:st.isSome with
  | false =>
   rw[I] at c3;go_wp2;go_meet;exact⟨by simp[I],rfl⟩
  | true =>
   rw[I] at c3;cases Fd with
   | false =>
    have L:V=false:=by rw[HV.out];rfl
    subst L;go_wp2;go_meet;exact⟨by simp[I],rfl⟩
   | true =>
    have aL:fi e.k e.n=true:=by have:=ak.out;simp only[Ha] at this;exact this.1
    have Z:Hid (V=(!decide (kN < -1)&&(decide (kN<0)||decide ((e.kids.len:Int)=kN))&&(eM e.k==set))):=by show V=_;rw[HV.out,Jl,Fa aL,aw.out]
    clear HV aL ak aw;by_cases h1:kN < -1
    ·have L:V=false:=by rw[Z.out];simp[h1]
     subst L;go_wp2;go_meet;exact⟨by simp[I],rfl⟩
    ·have cS:=Cf e.k w2;by_cases h2:0<=kN
     ·by_cases U:(e.kids.len:Int)=kN
      ·have aW:((e.kids.len:Int)==kN)=true:=by simpa using U
       have aV:((e.kids.len:Int) != kN)=false:=by simpa using U
       have L:V=(eM e.k==set):=by rw[Z.out];simp[h1,U]
       have aF:=GL L;clear L U Z;cases hs:eM e.k<;>cases set
       all_goals
        rw[hs] at cS;have L:=aF.out;rw[hs] at L;subst L;go_wp2_with fail;refine cS.mono ?_;rintro G w3 ⟨rfl,rfl⟩;go_wp2;go_meet;exact⟨by simp[I],rfl⟩
      ·have aW:((e.kids.len:Int)==kN)=false:=by simpa using U
       have aV:((e.kids.len:Int) != kN)=true:=by simpa using U
       have L:V=false:=by rw[Z.out];simp[U];omega
       subst L;clear U;go_wp2;go_meet;exact⟨by simp[I],rfl⟩
     ·have L:V=(eM e.k==set):=by rw[Z.out];simp[h1];omega
      have aF:=GL L;clear L Z;cases hs:eM e.k<;>cases set
      all_goals
       rw[hs] at cS;have L:=aF.out;rw[hs] at L;subst L;go_wp2_with fail;refine cS.mono ?_;rintro G w3 ⟨rfl,rfl⟩;go_wp2;go_meet;exact⟨by simp[I],rfl⟩
 case rest =>
 obtain⟨rfl,aI⟩:=hcut;rw[aI];clear aI;by_cases hB:(st.isSome&&V)=true
 case neg =>
  have ah:(st.isSome&&V)=false:=by simpa using hB
  have aZ:Hid (oEx e set st=GA):=by
   show _=_;rw[HX.out];cases I:st with
   | none =>
    cases V with
    | true=>rw[if_pos rfl];exact qA (λg=>mD _ _ _ _)
    | false=>rw[if_neg (by simp)]
   | some s1 =>
    rw[I] at ah;rw[if_neg (by intro hv;rw[hv] at ah;cases ah)]
  have l:=t.trans sE;rw[ah];clear HX HV ak aw hB ah r m u t sE;go_wp2
  (try simp only[Js,Exit.then])
  refine GG (IY rfl _ _ _) rfl ?_;exact⟨rfl,o0,by rw[aZ.out];exact HE,l⟩
 case pos =>
 rw[hB];have az:V=true:=by simp only[Ha] at hB;exact hB.2
 have c:Hid (oEx e set st=eL e.k e.n e.nm (λg s=>oFs e.kids (e.k==21) g 0 s) st):=by show _=_;rw[HX.out,if_pos az]
 have f:Hid ((fi e.k e.n&&ft e.k e.nm&&ew e.k e.n e.kids.len)=true):=by
  show _=true;have j:=HV.out;rw[az,<-ak.out] at j;have j:=j.symm;rw[Ha] at j;exact j.1
 clear HX HV ak aw hB az HE sE c3 cf;by_cases h1:e.k=1
 ·have A:Hid (oEx e set st=eq (ID e.n) st):=by
   show _=_;rw[c.out];unfold eL;rw[if_neg (by omega),if_neg (by omega),if_neg (by omega),if_neg (by omega),if_neg (by omega),if_neg (by omega),if_neg (by omega)];unfold iI;rw[if_pos h1]
  have b1:(e.k==1)=true:=by simp[h1]
  have aB:0<=e.n:=by have j:=f.out;rw[h1] at j;simp[fi] at j;exact j.1.1
  clear h1 c f;have cd:=tx e.n aB Q.n2 w2;have aQ:=Ka e.n Q.n1 Q.n2;go_wp2_with fail;refine cd.mono ?_;rintro G w3 ⟨rfl,b3⟩;clear cd;have b:dQ (λ_=>False) w2 o0 w3 o0:=dQ.ofB o0 b3;have i:=r.step b id;have E:=m.stp0 b;have p:=u.stp0 b;have l:=t.trans b.i12;clear r m u t b p0 p1 p2 p3 p4 d;obtain⟨p0,p1,p2,p3,p4,d⟩:=dT i.1;clear b3;obtain⟨D,ab⟩:=exq o0;rw[<-ab] at i E p l;clear ab;have c4:=fB (ID e.n) p (by omega);generalize eq (ID e.n) st=T at *;go_wp2_with fail;refine c4.mono ?_;rintro G w4 ⟨rfl,X,P,B⟩;have O:=l.trans B;have S4:=E.stp B;have R:=i.stp B;clear c4 p l E i B p0 p1 p2 p3 p4 d;obtain⟨p0,p1,p2,p3,p4,d⟩:=dT R.1;go_wp2
  go_end0
  exact⟨rfl,X,by rw[A.out];exact P,O⟩
 by_cases h2:e.k=2
 ·have A:Hid (oEx e set st=eq (J7 (e.n==1)) st):=by
   show _=_;rw[c.out];unfold eL;rw[if_neg (by omega),if_neg (by omega),if_neg (by omega),if_neg (by omega),if_neg (by omega),if_neg (by omega),if_neg (by omega)];unfold iI;rw[if_neg (by omega),if_pos h2]
  have b1:(e.k==1)=false:=bne (by omega);have b2:(e.k==2)=true:=by simp[h2]
  have hn2:e.n=0\/e.n=1:=by have j:=f.out;rw[h2] at j;simp[fi] at j;exact j.1.1
  clear h2 c f;rcases hn2 with hn2|hn2
  ·rw[hn2] at p1;have A:Hid (oEx e set st=eq [102,97,108,115,101] st):=by show _=_;rw[A.out,hn2];rfl
   clear hn2;have b:=gU (λ_=>False) w2 o0 (.cells #[.string ⟨#[102,97,108,115,101]⟩,.string ⟨#[116,114,117,101]⟩] 9);have i:=r.step b id;have E:=m.stp0 b;have p:=u.stp0 b;have l:=t.trans b.i12;have aS:be<w2.heap.size:=r.lt;have c4:=fB [102,97,108,115,101] p (by simp);generalize eq [102,97,108,115,101] st=T at *;go_wp2_with fail;refine c4.mono ?_;rintro G w4 ⟨rfl,X,P,B⟩;have O:=l.trans B;clear c4 u t m r p l E i b B p0 p1 p2 p3 p4 d;go_wp2
   go_end0
   exact⟨rfl,X,by rw[A.out];exact P,O⟩
  ·rw[hn2] at p1;have A:Hid (oEx e set st=eq [116,114,117,101] st):=by show _=_;rw[A.out,hn2];rfl
   clear hn2;have b:=gU (λ_=>False) w2 o0 (.cells #[.string ⟨#[102,97,108,115,101]⟩,.string ⟨#[116,114,117,101]⟩] 9);have i:=r.step b id;have E:=m.stp0 b;have p:=u.stp0 b;have l:=t.trans b.i12;have aS:be<w2.heap.size:=r.lt;have c4:=fB [116,114,117,101] p (by simp);generalize eq [116,114,117,101] st=T at *;go_wp2_with fail;refine c4.mono ?_;rintro G w4 ⟨rfl,X,P,B⟩;have O:=l.trans B;clear c4 u t m r p l E i b B p0 p1 p2 p3 p4 d;go_wp2
   go_end0
   exact⟨rfl,X,by rw[A.out];exact P,O⟩
 by_cases U:e.k=3
 ·have A:Hid (oEx e set st=eq ([64]++ID e.n) st):=by
   show _=_;rw[c.out];unfold eL;rw[if_neg (by omega),if_neg (by omega),if_neg (by omega),if_neg (by omega),if_neg (by omega),if_neg (by omega),if_neg (by omega)];unfold iI;rw[if_neg (by omega),if_neg (by omega),if_pos U]
  have b1:(e.k==1)=false:=bne (by omega);have b2:(e.k==2)=false:=bne (by omega);have b3:(e.k==3)=true:=by simp[U]
  have aB:0<=e.n:=by have j:=f.out;rw[U] at j;simp[fi] at j;exact j.1.1
  clear U c f;have cd:=tx e.n aB Q.n2 w2;have aQ:=Ka e.n Q.n1 Q.n2;have a2:=jF (ID e.n);generalize ID e.n=dg at *;go_wp2_with fail;refine cd.mono ?_;rintro G w3 ⟨rfl,b3⟩;clear cd;have b:dQ (λ_=>False) w2 o0 w3 o0:=dQ.ofB o0 b3;have i:=r.step b id;have E:=m.stp0 b;have p:=u.stp0 b;have l:=t.trans b.i12;clear r m u t b p0 p1 p2 p3 p4 d;obtain⟨p0,p1,p2,p3,p4,d⟩:=dT i.1;clear b3;obtain⟨D,ab⟩:=exq o0;rw[<-ab] at i E p l;clear ab;have c4:=fB ([64]++dg) p (by simp;omega);have ec:(⟨([64]++dg).toArray⟩:ByteArray)=⟨#[64]⟩++⟨dg.toArray⟩:=(ys [64] dg).symm;rw[show stv ([64]++dg)=.string (⟨#[64]⟩++⟨dg.toArray⟩) by rw[<-ec]] at c4;generalize eq ([64]++dg) st=T at *;clear ec;go_wp2_with fail;refine c4.mono ?_;rintro G w4 ⟨rfl,X,P,B⟩;have O:=l.trans B;have S4:=E.stp B;have R:=i.stp B;clear c4 p l E i B p0 p1 p2 p3 p4 d;obtain⟨p0,p1,p2,p3,p4,d⟩:=dT R.1;go_wp2
  go_end0
  exact⟨rfl,X,by rw[A.out];exact P,O⟩
 by_cases h4:e.k=4
 ·have A:Hid (oEx e set st=eq e.nm st):=by
   show _=_;rw[c.out];unfold eL;rw[if_neg (by omega),if_neg (by omega),if_neg (by omega),if_neg (by omega),if_neg (by omega),if_neg (by omega),if_neg (by omega)];unfold iI;rw[if_neg (by omega),if_neg (by omega),if_neg (by omega),if_pos (by omega)]
  have b1:(e.k==1)=false:=bne (by omega);have b2:(e.k==2)=false:=bne (by omega);have b3:(e.k==3)=false:=bne (by omega);have Y:(e.k==4)=true:=by simp[h4]
  have aP:e.nm.length<=12:=by have j:=f.out;simp only[Ha] at j;exact mz j.1.2
  clear h4 c f;have c3:=fB e.nm u (by omega);generalize eq e.nm st=q at *;go_wp2_with fail;refine c3.mono ?_;rintro G w3 ⟨rfl,D,p,b⟩;have l:=t.trans b;have E:=m.stp b;have i:=r.stp b;clear c3 u t m r b p0 p1 p2 p3 p4 d;obtain⟨p0,p1,p2,p3,p4,d⟩:=dT i.1;go_wp2
  go_end0
  exact⟨rfl,D,by rw[A.out];exact p,l⟩
 by_cases ap:e.k=23
 ·have A:Hid (oEx e set st=eq e.nm st):=by
   show _=_;rw[c.out];unfold eL;rw[if_neg (by omega),if_neg (by omega),if_neg (by omega),if_neg (by omega),if_neg (by omega),if_neg (by omega),if_neg (by omega)];unfold iI;rw[if_neg (by omega),if_neg (by omega),if_neg (by omega),if_pos (by omega)]
  have b1:(e.k==1)=false:=bne (by omega);have b2:(e.k==2)=false:=bne (by omega);have b3:(e.k==3)=false:=bne (by omega);have Y:(e.k==4)=false:=bne (by omega);have J:(e.k==23)=true:=by simp[ap]
  have aP:e.nm.length<=12:=by have j:=f.out;simp only[Ha] at j;exact mz j.1.2
  clear ap c f;have c3:=fB e.nm u (by omega);generalize eq e.nm st=q at *;go_wp2_with fail;refine c3.mono ?_;rintro G w3 ⟨rfl,D,p,b⟩;have l:=t.trans b;have E:=m.stp b;have i:=r.stp b;clear c3 u t m r b p0 p1 p2 p3 p4 d;obtain⟨p0,p1,p2,p3,p4,d⟩:=dT i.1;go_wp2
  go_end0
  exact⟨rfl,D,by rw[A.out];exact p,l⟩
 by_cases ai:e.k=22
 ·have A:Hid (oEx e set st=eq [118,101,114,116,105,99,101,115] st):=by
   show _=_;rw[c.out];unfold eL;rw[if_neg (by omega),if_neg (by omega),if_neg (by omega),if_neg (by omega),if_neg (by omega),if_neg (by omega),if_neg (by omega)];unfold iI;rw[if_neg (by omega),if_neg (by omega),if_neg (by omega),if_neg (by omega),if_pos ai]
  have b1:(e.k==1)=false:=bne (by omega);have b2:(e.k==2)=false:=bne (by omega);have b3:(e.k==3)=false:=bne (by omega);have Y:(e.k==4)=false:=bne (by omega);have J:(e.k==23)=false:=bne (by omega);have M:(e.k==22)=true:=by simp[ai]
  clear ai c f;have c3:=fB [118,101,114,116,105,99,101,115] u (by simp);generalize eq [118,101,114,116,105,99,101,115] st=q at *;go_wp2_with fail;refine c3.mono ?_;rintro G w3 ⟨rfl,D,p,b⟩;have l:=t.trans b;have E:=m.stp b;have i:=r.stp b;clear c3 u t m r b p0 p1 p2 p3 p4 d;obtain⟨p0,p1,p2,p3,p4,d⟩:=dT i.1;go_wp2
  go_end0
  exact⟨rfl,D,by rw[A.out];exact p,l⟩
 by_cases h6:e.k=6
 ·have hl:e.kids.len=1:=by have j:=f.out;simp only[Ha] at j;have j:=j.2;rw[h6] at j;simp[ew] at j;omega
  obtain⟨x,C⟩:=ub hl;have K:Hid (e.kids=Fs.app .nil (Fs.ex x .nil)):=C;have aa:e.kids.size=x.kids.size+0+1:=by rw[C];rfl
  have af:x.kids.size<N:=by omega
  have ac:=Ex.kidfit Q K.out;clear aa;have A:Hid (oEx e set st=gW (gZ e x 0 (eq [45] (eB st)))):=by
   show _=_;rw[c.out];unfold eL;rw[if_neg (by omega),if_pos h6];simp only[C,oU];rw[iu e x 0 _ (by rw[h6];rfl) (by rw[h6];rfl)];rfl
  have b1:(e.k==1)=false:=bne (by omega);have b2:(e.k==2)=false:=bne (by omega);have b3:(e.k==3)=false:=bne (by omega);have Y:(e.k==4)=false:=bne (by omega);have J:(e.k==23)=false:=bne (by omega);have M:(e.k==22)=false:=bne (by omega);have b6:(e.k==6)=true:=by simp[h6]
  clear h6 C hl c f;have c3:=jh [45] u (by simp);have ae:Bal (eB st) (eq [45] (eB st)):=(Bal.refl _).put [45];have hp:Hid (∀ s,Bal (eB st) s->∀ x,s=GB x->1<=x.o):=λs h=>iP h;generalize eq [45] (eB st)=q at *;generalize eB st=se at *;go_wp2_with fail;refine c3.mono ?_;rintro G w3 ⟨rfl,D,p,b⟩;have l:=t.trans b;have E:=m.stp b;have i:=r.stp b;clear c3 u t m r b p0 p1 p2 p3 p4 d;obtain⟨p0,p1,p2,p3,p4,d⟩:=dT i.1;have c4:=jB IH e x .nil .nil K.out 0 rfl (by omega) (af) (ac) ao cap wb q w3 D E p;rw[dU] at c4;have ad:=ae.trans (iO e x 0 q);generalize gZ e x 0 q=T at *;go_wp2_with fail;refine c4.mono ?_;rintro G w4 ⟨rfl,X,P,B⟩;have O:=l.trans B;have S4:=E.stp B;have R:=i.stp B;clear c4 p l E i B p0 p1 p2 p3 p4 d ae;obtain⟨p0,p1,p2,p3,p4,d⟩:=dT R.1;obtain⟨ax,aD,aC,W,H5⟩:=P.lea (hp.out _ ad);generalize gW T=al at *;have T5:=O.trans W;have S5:=S4.stp W;have E5:=R.stp W;go_wp2;generalize w4.setCell ⟨wb,1,GA⟩ (.int .i64 (Ho (ax-1)))=w5 at *;clear aD aC P O S4 R W p0 p1 p2 p3 p4 d hp ad;generalize X=o5 at *;obtain⟨p0,p1,p2,p3,p4,d⟩:=dT E5.1
  go_end0
  exact⟨rfl,o5,by rw[A.out];exact H5,T5⟩
 by_cases h7:e.k=7
 ·have hl:e.kids.len=1:=by have j:=f.out;simp only[Ha] at j;have j:=j.2;rw[h7] at j;simp[ew] at j;omega
  obtain⟨x,C⟩:=ub hl;have K:Hid (e.kids=Fs.app .nil (Fs.ex x .nil)):=C;have aa:e.kids.size=x.kids.size+0+1:=by rw[C];rfl
  have af:x.kids.size<N:=by omega
  have ac:=Ex.kidfit Q K.out;clear aa;have A:Hid (oEx e set st=gW (gZ e x 0 (eq [110,111,116,32] (eB st)))):=by
   show _=_;rw[c.out];unfold eL;rw[if_pos h7];simp only[C,oU];rw[iu e x 0 _ (by rw[h7];rfl) (by rw[h7];rfl)];rfl
  have b1:(e.k==1)=false:=bne (by omega);have b2:(e.k==2)=false:=bne (by omega);have b3:(e.k==3)=false:=bne (by omega);have Y:(e.k==4)=false:=bne (by omega);have J:(e.k==23)=false:=bne (by omega);have M:(e.k==22)=false:=bne (by omega);have b6:(e.k==6)=false:=bne (by omega);have b7:(e.k==7)=true:=by simp[h7]
  clear h7 C hl c f;have c3:=jh [110,111,116,32] u (by simp);have ae:Bal (eB st) (eq [110,111,116,32] (eB st)):=(Bal.refl _).put [110,111,116,32];have hp:Hid (∀ s,Bal (eB st) s->∀ x,s=GB x->1<=x.o):=λs h=>iP h;generalize eq [110,111,116,32] (eB st)=q at *;generalize eB st=se at *;go_wp2_with fail;refine c3.mono ?_;rintro G w3 ⟨rfl,D,p,b⟩;have l:=t.trans b;have E:=m.stp b;have i:=r.stp b;clear c3 u t m r b p0 p1 p2 p3 p4 d;obtain⟨p0,p1,p2,p3,p4,d⟩:=dT i.1;have c4:=jB IH e x .nil .nil K.out 0 rfl (by omega) (af) (ac) ao cap wb q w3 D E p;rw[dU] at c4;have ad:=ae.trans (iO e x 0 q);generalize gZ e x 0 q=T at *;go_wp2_with fail;refine c4.mono ?_;rintro G w4 ⟨rfl,X,P,B⟩;have O:=l.trans B;have S4:=E.stp B;have R:=i.stp B;clear c4 p l E i B p0 p1 p2 p3 p4 d ae;obtain⟨p0,p1,p2,p3,p4,d⟩:=dT R.1;obtain⟨ax,aD,aC,W,H5⟩:=P.lea (hp.out _ ad);generalize gW T=al at *;have T5:=O.trans W;have S5:=S4.stp W;have E5:=R.stp W;go_wp2;generalize w4.setCell ⟨wb,1,GA⟩ (.int .i64 (Ho (ax-1)))=w5 at *;clear aD aC P O S4 R W p0 p1 p2 p3 p4 d hp ad;generalize X=o5 at *;obtain⟨p0,p1,p2,p3,p4,d⟩:=dT E5.1
  go_end0
  exact⟨rfl,o5,by rw[A.out];exact H5,T5⟩
 by_cases au:e.k=19
 ·have A:Hid (oEx e set st=eL e.k e.n e.nm (λg s=>oFs e.kids (e.k==21) g 0 s) st):=c.out;have F:e.k=19\/e.k=20\/e.k=21\/e.k=24\/e.k=25:=by omega
  have b1:(e.k==1)=false:=bne (by omega);have b2:(e.k==2)=false:=bne (by omega);have b3:(e.k==3)=false:=bne (by omega);have Y:(e.k==4)=false:=bne (by omega);have J:(e.k==23)=false:=bne (by omega);have M:(e.k==22)=false:=bne (by omega);have b6:(e.k==6)=false:=bne (by omega);have b7:(e.k==7)=false:=bne (by omega);have aj:(e.k==19)=true:=by simp[au]
  clear au c;have c3:=mh IH e ag Q ao cap wb st w2 o0 m u F f.out;rw[dU] at c3;generalize eL e.k e.n e.nm (λg s=>oFs e.kids (e.k==21) g 0 s) st=q at *;clear F;go_wp2_with fail;refine c3.mono ?_;rintro G w3 ⟨rfl,D,p,b⟩;have l:=t.trans b;have E:=m.stp b;have i:=r.stp b;clear c3 u t m r b p0 p1 p2 p3 p4 d;obtain⟨p0,p1,p2,p3,p4,d⟩:=dT i.1;go_wp2
  go_end0
  exact⟨rfl,D,by rw[A.out];exact p,l⟩
 by_cases aq:e.k=21
 ·have A:Hid (oEx e set st=eL e.k e.n e.nm (λg s=>oFs e.kids (e.k==21) g 0 s) st):=c.out;have F:e.k=19\/e.k=20\/e.k=21\/e.k=24\/e.k=25:=by omega
  have b1:(e.k==1)=false:=bne (by omega);have b2:(e.k==2)=false:=bne (by omega);have b3:(e.k==3)=false:=bne (by omega);have Y:(e.k==4)=false:=bne (by omega);have J:(e.k==23)=false:=bne (by omega);have M:(e.k==22)=false:=bne (by omega);have b6:(e.k==6)=false:=bne (by omega);have b7:(e.k==7)=false:=bne (by omega);have aj:(e.k==19)=false:=bne (by omega);have av:(e.k==21)=true:=by simp[aq]
  clear aq c;have c3:=mh IH e ag Q ao cap wb st w2 o0 m u F f.out;rw[dU] at c3;generalize eL e.k e.n e.nm (λg s=>oFs e.kids (e.k==21) g 0 s) st=q at *;clear F;go_wp2_with fail;refine c3.mono ?_;rintro G w3 ⟨rfl,D,p,b⟩;have l:=t.trans b;have E:=m.stp b;have i:=r.stp b;clear c3 u t m r b p0 p1 p2 p3 p4 d;obtain⟨p0,p1,p2,p3,p4,d⟩:=dT i.1;go_wp2
  go_end0
  exact⟨rfl,D,by rw[A.out];exact p,l⟩
 by_cases ar:e.k=20
 ·have A:Hid (oEx e set st=eL e.k e.n e.nm (λg s=>oFs e.kids (e.k==21) g 0 s) st):=c.out;have F:e.k=19\/e.k=20\/e.k=21\/e.k=24\/e.k=25:=by omega
  have b1:(e.k==1)=false:=bne (by omega);have b2:(e.k==2)=false:=bne (by omega);have b3:(e.k==3)=false:=bne (by omega);have Y:(e.k==4)=false:=bne (by omega);have J:(e.k==23)=false:=bne (by omega);have M:(e.k==22)=false:=bne (by omega);have b6:(e.k==6)=false:=bne (by omega);have b7:(e.k==7)=false:=bne (by omega);have aj:(e.k==19)=false:=bne (by omega);have av:(e.k==21)=false:=bne (by omega);have aE:(e.k==20)=true:=by simp[ar]
  clear ar c;have c3:=mh IH e ag Q ao cap wb st w2 o0 m u F f.out;rw[dU] at c3;generalize eL e.k e.n e.nm (λg s=>oFs e.kids (e.k==21) g 0 s) st=q at *;clear F;go_wp2_with fail;refine c3.mono ?_;rintro G w3 ⟨rfl,D,p,b⟩;have l:=t.trans b;have E:=m.stp b;have i:=r.stp b;clear c3 u t m r b p0 p1 p2 p3 p4 d;obtain⟨p0,p1,p2,p3,p4,d⟩:=dT i.1;go_wp2
  go_end0
  exact⟨rfl,D,by rw[A.out];exact p,l⟩
 by_cases an:e.k=24
 ·have A:Hid (oEx e set st=eL e.k e.n e.nm (λg s=>oFs e.kids (e.k==21) g 0 s) st):=c.out;have F:e.k=19\/e.k=20\/e.k=21\/e.k=24\/e.k=25:=by omega
  have b1:(e.k==1)=false:=bne (by omega);have b2:(e.k==2)=false:=bne (by omega);have b3:(e.k==3)=false:=bne (by omega);have Y:(e.k==4)=false:=bne (by omega);have J:(e.k==23)=false:=bne (by omega);have M:(e.k==22)=false:=bne (by omega);have b6:(e.k==6)=false:=bne (by omega);have b7:(e.k==7)=false:=bne (by omega);have aj:(e.k==19)=false:=bne (by omega);have av:(e.k==21)=false:=bne (by omega);have aE:(e.k==20)=false:=bne (by omega);have aO:(e.k==24)=true:=by simp[an]
  clear an c;have c3:=mh IH e ag Q ao cap wb st w2 o0 m u F f.out;rw[dU] at c3;generalize eL e.k e.n e.nm (λg s=>oFs e.kids (e.k==21) g 0 s) st=q at *;clear F;go_wp2_with fail;refine c3.mono ?_;rintro G w3 ⟨rfl,D,p,b⟩;have l:=t.trans b;have E:=m.stp b;have i:=r.stp b;clear c3 u t m r b p0 p1 p2 p3 p4 d;obtain⟨p0,p1,p2,p3,p4,d⟩:=dT i.1;go_wp2
  go_end0
  exact⟨rfl,D,by rw[A.out];exact p,l⟩
 by_cases am:e.k=25
 ·have A:Hid (oEx e set st=eL e.k e.n e.nm (λg s=>oFs e.kids (e.k==21) g 0 s) st):=c.out;have F:e.k=19\/e.k=20\/e.k=21\/e.k=24\/e.k=25:=by omega
  have b1:(e.k==1)=false:=bne (by omega);have b2:(e.k==2)=false:=bne (by omega);have b3:(e.k==3)=false:=bne (by omega);have Y:(e.k==4)=false:=bne (by omega);have J:(e.k==23)=false:=bne (by omega);have M:(e.k==22)=false:=bne (by omega);have b6:(e.k==6)=false:=bne (by omega);have b7:(e.k==7)=false:=bne (by omega);have aj:(e.k==19)=false:=bne (by omega);have av:(e.k==21)=false:=bne (by omega);have aE:(e.k==20)=false:=bne (by omega);have aO:(e.k==24)=false:=bne (by omega);have aY:(e.k==25)=true:=by simp[am]
  clear am c;have c3:=mh IH e ag Q ao cap wb st w2 o0 m u F f.out;rw[dU] at c3;generalize eL e.k e.n e.nm (λg s=>oFs e.kids (e.k==21) g 0 s) st=q at *;clear F;go_wp2_with fail;refine c3.mono ?_;rintro G w3 ⟨rfl,D,p,b⟩;have l:=t.trans b;have E:=m.stp b;have i:=r.stp b;clear c3 u t m r b p0 p1 p2 p3 p4 d;obtain⟨p0,p1,p2,p3,p4,d⟩:=dT i.1;go_wp2
  go_end0
  exact⟨rfl,D,by rw[A.out];exact p,l⟩
 have aA:(ig e.k).isSome=true/\e.kids.len=2:=by
  have j:=f.out;simp only[Ha] at j;have j:=j.2;have aX:(ig e.k).isSome=true/\(e.kids.len:Int)=2:=by simpa [ew,h1,h2,U,h4,ap,ai,h6,h7,au,aq,ar,an,am] using j
  exact⟨aX.1,by omega⟩
 obtain⟨x,y,C⟩:=jP aA.2;obtain⟨z,hz⟩:=Option.isSome_iff_exists.1 aA.1;have K:Hid (e.kids=Fs.app .nil (Fs.ex x (Fs.ex y .nil))):=C;have aN:Hid (e.kids=Fs.app (one x) (Fs.ex y .nil)):=by show _=_;rw[C];rfl
 have aa:e.kids.size=x.kids.size+(y.kids.size+0+1)+1:=by rw[C];rfl
 have af:x.kids.size<N:=by omega
 have aT:y.kids.size<N:=by omega
 have ac:=Ex.kidfit Q K.out;have aR:=Ex.kidfit Q aN.out;obtain⟨aH,aG,a1,ay⟩:=Ek hz;have A:Hid (oEx e set st=gZ e y 1 (eq ([32]++z.1++[32]) (gZ e x 0 st))):=by
  show _=_;rw[c.out];unfold eL;rw[if_neg (by omega),if_neg (by omega),if_neg (by omega),if_neg (by omega),if_neg (by omega),if_neg (by omega),if_neg (by omega)];unfold iI;rw[if_neg (by omega),if_neg (by omega),if_neg (by omega),if_neg (by omega),if_neg (by omega)];simp only[C,oU];have e0:opS e.k 0=([],z.2.2.2.1):=by unfold opS;rw[hz];rfl
  have e1:opS e.k (0+1)=([32]++z.1++[32],z.2.2.2.2):=by unfold opS;rw[hz];rfl
  rw[e0,e1];simp only;rw[vP u,iu e x 0 _ (by rw[ay];rfl) aH.symm,iu e y 1 _ (by rw[ay];rfl) aG.symm];rfl
 have aJ:=EJ hz;have a3:=jF z.1;generalize z.1=zx at *;have b1:(e.k==1)=false:=bne (by omega);have b2:(e.k==2)=false:=bne (by omega);have b3:(e.k==3)=false:=bne (by omega);have Y:(e.k==4)=false:=bne (by omega);have J:(e.k==23)=false:=bne (by omega);have M:(e.k==22)=false:=bne (by omega);have b6:(e.k==6)=false:=bne (by omega);have b7:(e.k==7)=false:=bne (by omega);have aj:(e.k==19)=false:=bne (by omega);have av:(e.k==21)=false:=bne (by omega);have aE:(e.k==20)=false:=bne (by omega);have aO:(e.k==24)=false:=bne (by omega);have aY:(e.k==25)=false:=bne (by omega);clear h1 h2 U h4 ap ai h6 h7 au aq ar an am aA C hz aa c f aH aG ay;have c3:=jB IH e x .nil (Fs.ex y .nil) K.out 0 rfl (by omega) af ac ao cap wb st w2 o0 m u;rw[dU] at c3;generalize gZ e x 0 st=q at *;go_wp2_with fail;refine c3.mono ?_;rintro G w3 ⟨rfl,D,p,b⟩;have l:=t.trans b;have E:=m.stp b;have i:=r.stp b;clear c3 u t m r b p0 p1 p2 p3 p4 d;obtain⟨p0,p1,p2,p3,p4,d⟩:=dT i.1;have cd:=aJ w3;clear aJ;go_wp2_with fail;refine cd.mono ?_;rintro G w4 ⟨rfl,Y⟩;clear cd;have B:dQ (λ_=>False) w3 D w4 D:=dQ.ofB D Y;have R:=i.step B id;have S4:=E.stp0 B;have P:=p.stp0 B;have O:=l.trans B.i12;clear i E p l B Y p0 p1 p2 p3 p4 d;obtain⟨X,aK⟩:=exq D;rw[<-aK] at R S4 P O;clear aK;obtain⟨p0,p1,p2,p3,p4,d⟩:=dT R.1;have c5:=fB ([32]++zx++[32]) P (by simp;omega);have ec:(⟨([32]++zx++[32]).toArray⟩:ByteArray)=⟨#[32]⟩++⟨zx.toArray⟩++⟨#[32]⟩:=by rw[<-ys,<-ys]
 rw[show stv ([32]++zx++[32])=.string (⟨#[32]⟩++⟨zx.toArray⟩++⟨#[32]⟩) by rw[<-ec]] at c5;generalize eq ([32]++zx++[32]) q=al at *;clear ec;go_wp2_with fail;refine c5.mono ?_;rintro G w5 ⟨rfl,o5,H5,W⟩;have T5:=O.trans W;have S5:=S4.stp W;have E5:=R.stp W;clear c5 P O S4 R W p0 p1 p2 p3 p4 d;obtain⟨p0,p1,p2,p3,p4,d⟩:=dT E5.1;have c6:=jB IH e y (one x) .nil aN.out 1 rfl (by omega) (aT) (aR) ao cap wb al w5 o5 S5 H5;rw[dU] at c6;generalize gZ e y 1 al=a0 at *;go_wp2_with fail;refine c6.mono ?_;rintro G w6 ⟨rfl,o6,H6,s6⟩;have T6:=T5.trans s6;have S6:=S5.stp s6;have E6:=E5.stp s6;clear c6 H5 T5 S5 E5 s6 p0 p1 p2 p3 p4 d;obtain⟨p0,p1,p2,p3,p4,d⟩:=dT E6.1;go_wp2
 go_end0
 exact⟨rfl,o6,by rw[A.out];exact H6,T6⟩
theorem qK:∀ N,ko N
 | 0=>λe ao cap set wb st w o h=>absurd h (Hr _)
 | N+1=>uq (qK N)
theorem BT (e:Ex)(ao:Option G1)(cap:Nat)(w:GE)(K:e.fit)(S:SlT w e.kids ao) :
  GR GD 136 #[exV e ao cap] w (F6 w (jw e)):=by
 obtain⟨w1,c⟩:=exq ((w.alloc (bxX e ao cap)).alloc (.cells #[.slice GA 0 0,.int .i64 0,.int .i64 0,.bool true] 226));obtain⟨a,b⟩:=exq w.heap.size;obtain⟨d,f⟩:∃d:Nat->Nat,d=λk=>if k=a+1 then 1 else 0:=⟨_,rfl⟩;have m:GK a w w1:=by rw[c,b];exact((GN _ w).alloc (GC _) _).alloc (by simp) _
 have E:w1.heap[a]?=GB (bxX e ao cap):=by
  rw[c,b];exact(GO _ _ _ (by simp)).trans (GH w _)
 have A:w1.heap[a+1]?=GB (.cells #[.slice GA 0 0,.int .i64 0,.int .i64 0,.bool true] 226 (0,0)):=by
  rw[c,b]
  have:=GH (w.alloc (bxX e ao cap)) (.cells #[.slice GA 0 0,.int .i64 0,.int .i64 0,.bool true] 226)
  simpa using this
 have p:∀ k,k<=a->d k=0:=λk J=>by rw[f];show (if k=a+1 then 1 else 0)=0;rw[if_neg (by omega)]
 have D:d (a+1)=1:=by rw[f];show (if a+1=a+1 then 1 else 0)=1;rw[if_pos rfl]
 have C:WQ w1 d (a+1) (GB ⟨[],0,0⟩):=⟨⟨.slice GA 0 0,⟨A,D⟩,Row.nil _ _ _ _ _⟩,by simp,by simp,by simp⟩;have B:=S.mono (λi _ r=>m.block i (by rw[b];exact r)) m.size (λi _ r=>p i (by omega));have c2:=qK (e.kids.size+1) e ao cap false (a+1) _ w1 d (Nat.lt_succ_self _) K B C;obtain⟨R,o⟩:=exq (oEx e false (GB ⟨[],0,0⟩));rw[<-o] at c2;have j:Hid (jw e=R.map (·.t)):=by show _=_;rw[<-CO,o];rfl
 obtain⟨W,y⟩:=exq (jw e);rw[<-y] at j ⊢;obtain⟨p0,p1,p2,p3,p4,I⟩:=dT E;rw[dU] at c2 ⊢;clear S f C B o y;go_enter Tryz.func136,Tryz.ntmps136;go_upto_region 2 with fail;rw[<-c,<-b];have q:Hid (a=w.heap.size):=b;clear c b A;go_wp2_with fail;refine c2.mono ?_;rintro O w2 ⟨rfl,N,l,s2⟩;have H:=en m s2 (λk J u=>by rw[p k (by omega)] at u;rcases u with h|h<;>omega) (by rw[q.out];exact GC _);have G:Hid (GK w.heap.size w w2):=by show GK w.heap.size w w2;rw[<-q.out];exact H
 clear c2 s2 m H p D p0 p1 p2 p3 p4 I E q;cases R with
 | none =>
  obtain⟨c3,L,-,-⟩:=l.end;have c3:=c3;have g:Hid (W=GA):=j.out;clear j l;go_wp2;go_ret2;exact⟨by rw[g.out];rfl,G.out⟩
 | some s =>
  obtain⟨c3,L,-,-⟩:=l.end;have c3:=c3;obtain⟨⟨v,x,n⟩,-⟩:=l;obtain⟨Q,d1,d2,d3,P⟩:=Blk.cells4 x;have F:=Bu n;obtain⟨M,z,rfl⟩:=n.form;have g:Hid (W=GB s.t):=j.out;clear j x n d1 d2 d3;go_wp2;go_ret2;exact⟨by rw[g.out];rfl,G.out⟩
theorem Cq (e:Ex)(ao:Option G1)(cap:Nat)(w:GE)(f:e.fit)(S:SlT w e.kids ao) :
  GR GD 87 #[exV e ao cap] w λx w'=>x=.returned (.bool (jw e).isSome)/\GK w.heap.size w w':=by
 have a:GK w.heap.size w (w.alloc (bxX e ao cap)):=(GN _ w).alloc (GC _) _;have b:(w.alloc (bxX e ao cap)).heap[w.heap.size]?=GB (bxX e ao cap):=GH w _;have c1:=BT e ao cap (w.alloc (bxX e ao cap)) f (SlT.below S a);obtain⟨p0,p1,p2,p3,p4,d⟩:=dT b;rw[dU] at c1 ⊢;generalize jw e=W at *;go_enter Tryz.func87,Tryz.ntmps87;go_wp2_with fail;refine c1.mono ?_;rintro g w1 ⟨rfl,b1⟩;have c:=a.trans (b1.mono a.size);clear c1 p0 p1 p2 p3 p4 d b;cases W with
 | none =>
  go_wp2;go_ret;exact⟨rfl,c⟩
 | some t =>
  go_wp2;go_ret;exact⟨rfl,c⟩
abbrev AN (t:Int × Nat × Int):GJ:=.tuple #[.int .i64 t.1,.int .i64 (t.2.1:Nat),.int .i64 t.2.2]
theorem Aj {e:Ex}(d:e.fit){t:List UInt8}(h:jw e=GB t):e.okA/\e.kids.size<=2000/\eM e.k=false:=by
 unfold jw at h;by_cases a:eM e.k=true
 ·rw[if_pos a] at h;cases h
 ·rw[if_neg a] at h;cases b:hE e 0 with
  | none=>rw[b] at h;cases h
  | some c =>
   obtain⟨h1,h2,f⟩:=FO d b;exact⟨h1,by omega,by simpa using a⟩
theorem xR {e:Ex}{t:List UInt8}(h:jw e=GB t):e.kids.stk (e.k==21):=by
 unfold jw at h;split at h
 ·cases h
 ·cases a:hE e 0 with
  | none=>rw[a] at h;cases h
  | some c=>exact D8 a
theorem zX (e:Ex)(ao:Option G1)(cap:Nat)(w:GE)(y:e.fit)(S:SlT w e.kids ao) :
  GR GD 44 #[exV e ao cap] w λx w'=>x=.returned (AN (lA e))/\GK w.heap.size w w':=by
 obtain⟨T,H⟩:=exq (lA e);rw[<-H];have A:Hid (T=lA e):=H;clear H;have B:GK w.heap.size w (w.alloc (zEx e ao cap)):=(GN _ w).alloc (GC _) _;have s:(w.alloc (zEx e ao cap)).heap[w.heap.size]?=GB (zEx e ao cap):=GH w _;have K:=SlT.below S B;rw[dU];go_enter Tryz.func44,Tryz.ntmps44;go_upto_region 1 with fail;generalize w.alloc (zEx e ao cap)=w0 at *;obtain⟨bx,m⟩:=exq w.heap.size;rw[<-m] at s B ⊢;have L:Hid (bx=w.heap.size):=m;clear m;obtain⟨p0,p1,p2,p3,p4,C⟩:=dT s;have j:=GF s;have c1:=Cq e ao cap w0 y K;rw[dU] at c1;go_wp2_with fail;refine c1.mono ?_;rintro x w1 ⟨rfl,b1⟩;have r:=(b1.block _ j).trans s;have M:GK bx w w1:=B.trans (b1.mono (Im j));have Q:=SlT.below K b1;clear c1 b1 p0 p1 p2 p3 p4 C s B K S;cases o:jw e with
 | none =>
  have b:Hid (T=(0,122,0)):=by show T=_;rw[A.out];unfold lA;rw[o]
  simp only[Jv];clear A o;go_wp2;refine GG (v:=AN (0,122,0)) (by simp[results,Tryz.results44,go_sem]) rfl ⟨by rw[b.out],?_⟩;rw[<-L.out];exact M
 | some t =>
  obtain⟨F,V,q⟩:=Aj y o;have E:=xR o;simp only[Ju];have d:Hid (T=(match eW e [] with | .inl (er,a)=>(0,er,a) | .inr k=>(k,0,0))):=by
   show T=_;rw[A.out];unfold lA;rw[o];simp only;cases eW e [] with
   | inl z=>obtain⟨er,a⟩:=z;rfl
   | inr k=>rfl
  clear A o;have b2:GK w1.heap.size w1 (w1.alloc (.cells #[.slice GA 0 0,.int .i64 0,.int .i64 0] 139)):=(GN _ w1).alloc (GC _) _;have J:Wk (w1.alloc (.cells #[.slice GA 0 0,.int .i64 0,.int .i64 0] 139)) w1.heap.size (.slice GA 0 0) GA:=⟨GH w1 _,yj.none⟩;have X:=(b2.block _ (GF r)).trans r;have Y:=M.trans (b2.mono (Im (GF r)));have P:Sl (w1.alloc (.cells #[.slice GA 0 0,.int .i64 0,.int .i64 0] 139)) (Nf w1.heap.size) e.kids ao:=Q.mono (λi _ O=>b2.block i O) b2.size (λi _ O=>by show i≠_;omega);have D:bx<w1.heap.size:=GF r;go_upto_region 5 with fail;generalize w1.alloc (.cells #[.slice GA 0 0,.int .i64 0,.int .i64 0] 139)=w2 at *;generalize w1.heap.size=wb at *;obtain⟨p0,p1,p2,p3,p4,C⟩:=dT X;have c4:=wF (e.kids.size+1) e ao cap wb (.slice GA 0 0) [] w2 ⟨by omega,F,q,E,y.len,y.sh,by simp;omega⟩ J ⟨Nms.nil w2,λg off n c h=>by cases h⟩ P;rw[dU] at c4;have p:=GF J.blk;clear b2 r M Q P J;go_wp2_with fail;refine c4.mono ?_;rintro x w4 ⟨⟨N,rfl,l⟩,I,R⟩;have U:Hid (GK bx w w4):=Y.trans (R.below (Im D) p);clear c4 R p0 p1 p2 p3 p4 C;obtain⟨q0,u,q2,Z⟩:=lq I.blk;cases f:eW e [] with
  | inl z =>
   obtain⟨er,a⟩:=z;have G:=vA f;rw[f] at u q2;simp only[stS,erO,plO] at u q2;have W:((er:Int) != 0)=true:=by simp;omega
   have b:Hid (T=(0,er,a)):=by show T=_;rw[d.out,f]
   clear d f G l I;go_wp2_with fail
   go_quiet (fail)
   go_wp2;refine GG (v:=AN (0,er,a)) (by simp[results,Tryz.results44,go_sem]) rfl ⟨by rw[b.out],?_⟩;rw[<-L.out];exact U.out.trans ⟨rfl,rfl,rfl,GC _,λ_ _=>rfl⟩
  | inr k =>
   obtain rfl:=l k f;rw[f] at u q2;simp only[stS,erO,plO] at u q2;have b:Hid (T=(N,0,0)):=by show T=_;rw[d.out,f]
   clear d f l I;go_wp2;refine GG (v:=AN (N,0,0)) (by simp[results,Tryz.results44,go_sem]) rfl ⟨by rw[b.out],?_⟩;rw[<-L.out];exact U.out
def fU:Fs->Fs->Bool
 | ⟨GA⟩,⟨GA⟩=>true
 | ⟨GB ⟨k,n,nm,_,ks,r⟩⟩,⟨GB ⟨d,n',a,_,b,c⟩⟩=>k==d&&n==n'&&nm==a&&fU ks b&&fU r c
 | _,_=>false
def eN (a b:Ex):Bool:=a.k==b.k&&a.n==b.n&&a.nm==b.nm&&fU a.kids b.kids
theorem mR:∀ (x y:Fs),x.len≠y.len->fU x y=false
 | ⟨GA⟩,⟨GA⟩,h=>absurd rfl h
 | ⟨GA⟩,⟨GB ⟨f,n',c,g,d,b⟩⟩,h=>rfl
 | ⟨GB ⟨k,n,nm,a,ks,r⟩⟩,⟨GA⟩,h=>rfl
 | ⟨GB ⟨k,n,nm,a,ks,r⟩⟩,⟨GB ⟨f,n',c,g,d,b⟩⟩,h=>by
  have h2:r.len≠b.len:=λe=>h (by simp only[Fs.len,e]);simp only[fU,mR r b h2,Bool.and_false]
theorem lO:∀ (x:Fs),fU x x=true
 | ⟨GA⟩=>rfl
 | ⟨GB ⟨k,n,nm,a,ks,r⟩⟩=>by simp[fU,lO ks,lO r]
def nmP (k:Int)(nm:List UInt8):Bool:=if k==23 then eE nm else nm==[]
def nuP (nc:Nat)(k n:Int)(ar:Nat):Bool :=
 if k==1 then true else if k==2 then n==0||n==1 else if k==3 then decide (0<=n) else if k==5 then decide (0<=n)&&decide (n<(ar:Int))
 else if k==20 then decide (1<=n)&&decide (n<=10) else if k==21 then decide (1<=n)&&decide (n<=6) else if k==26 then decide (0<=n)&&decide (n<(nc:Int)) else n==0
def wkP (ks:List Int)(i:Nat):Int :=
 match ks[i]? with
 | some k=>if k=4 then 0 else k
 | none=>0
def eG (k n:Int)(ks:List Int):List Int × Int :=
 if k=1 then ([],1) else if k=2 then ([],2) else if k=3\/k=5 then ([],3) else if k=6 then ([1],1) else if k=7 then ([2],2)
 else if 8<=k/\k<=12 then ([1,1],1) else if k=15\/k=16 then ([1,1],2) else if k=17\/k=18 then ([2,2],2)
 else if k=13\/k=14 then ([wkP ks 0,wkP ks 0],2) else if k=19 then ([2,wkP ks 1,wkP ks 1],wkP ks 1)
 else if k=20 then (if n=1\/n=2 then ([3,3],2) else if n=3 then ([3,3],1) else if n=10 then ([3],3) else ([3],1))
 else if k=21 then (if n=1\/n=2 then ([4,2],2) else if n=3 then ([4,2],1) else ([4,1],1))
 else if k=26 then ([wkP ks 0],wkP ks 0) else if k=22\/k=23 then ([],4) else if k=24 then ([3],4) else if k=25 then (Hk ks.length 3,4) else ([],0)
def hgF:Fs->Int->Int
 | ⟨GA⟩,_=>0
 | ⟨GB ⟨k,n,_,_,ks,r⟩⟩,ar=>max (max (if k=5/\n<ar then n+1 else 0) (hgF ks ar)) (hgF r ar)
def hgE (e:Ex)(ar:Int):Int:=max (if e.k=5/\e.n<ar then e.n+1 else 0) (hgF e.kids ar)
abbrev Rg:=Nat × (Nat->Option Ex)
def ep (pk:Int)(i ar b:Nat):Nat × Nat:=if pk=21 then (if i=0 then ar else ar+1,b+1) else (ar,b)
def fO (cells:List Int)(n:Int)(ks:Fs)(ar:Nat)(s:Rg):Option Rg :=
 match cells[n.toNat]? with
 | none=>GA
 | some lv =>
  if (ar:Int)<lv\/lv<hgE ks.head ar then GA else
  match s.2 n.toNat with
  | none=>GB (s.1,λi=>if i=n.toNat then GB ks.head else s.2 i)
  | some x=>if eN x ks.head then GB s else GA
def rgF (cells:List Int):Fs->Int->Nat->Nat->Nat->Rg->Option (Rg × List Int)
 | ⟨GA⟩,_,_,_,_,s=>GB (s,[])
 | ⟨GB ⟨k,n,nm,a,ks,r⟩⟩,pk,i,ar,b,s =>
  if 4096<s.1+1\/4<(ep pk i ar b).2\/nmP k nm=false\/nuP cells.length k n (ep pk i ar b).1=false then GA else
  match rgF cells ks k 0 (ep pk i ar b).1 (ep pk i ar b).2 (s.1+1,s.2) with
  | none=>GA
  | some (c,kd) =>
   if (eG k n kd).2=0\/(eG k n kd).1≠kd then GA else
   match (if k=26 then fO cells n ks (ep pk i ar b).1 c else GB c) with
   | none=>GA
   | some s2 =>
    match rgF cells r pk (i+1) ar b s2 with
    | none=>GA
    | some (d,rest)=>GB (d,(eG k n kd).2::rest)
def fa (cells:List Int)(e:Ex):Int :=
 if 256<cells.length\/cells.any (λc=>decide (c<0)||decide (4<c))=true then 0 else
 match rgF cells (one e) 0 0 0 0 (0,λ_=>GA) with
 | some (_,[k])=>if k=4 then 0 else k
 | _=>0
theorem rk (cells:List Int):∀ (f:Fs) (pk:Int) (i ar b:Nat) (s s':Rg) (kd:List Int),rgF cells f pk i ar b s=GB (s',kd)->kd.length=f.len
 | ⟨GA⟩,pk,i,ar,b,s,s',kd,h=>by
  simp only[rgF] at h;injection h with h
  injection h with h1 h2
  subst h2;rfl
 | ⟨GB ⟨k,n,nm,a,ks,r⟩⟩,pk,i,ar,b,s,s',kd,h=>by
  unfold rgF at h;split at h
  ·cases h
  ·split at h
   ·cases h
   ·split at h
    ·cases h
    ·split at h
     ·cases h
     ·split at h
      ·cases h
      ·rename_i c rest h5
       injection h with h
       injection h with h1 h2
       subst h2
       have:=rk cells r pk (i+1) ar b _ _ _ h5
       simp only[G5,Fs.len];omega
def rgE (cells:List Int)(e:Ex)(ar a:Nat)(s:Rg):Option (Rg × Int) :=
 if 4096<s.1+1\/4<a\/nmP e.k e.nm=false\/nuP cells.length e.k e.n ar=false then GA else
 match rgF cells e.kids e.k 0 ar a (s.1+1,s.2) with
 | none=>GA
 | some (b,kd) =>
  if (eG e.k e.n kd).2=0\/(eG e.k e.n kd).1≠kd then GA else
  match (if e.k=26 then fO cells e.n e.kids ar b else GB b) with
  | none=>GA
  | some s2=>GB (s2,(eG e.k e.n kd).2)
theorem iL (cells:List Int)(x:Ex)(r:Fs)(pk:Int)(i ar b:Nat)(s:Rg) :
  rgF cells (Fs.ex x r) pk i ar b s=(match rgE cells x (ep pk i ar b).1 (ep pk i ar b).2 s with
   | none=>GA
   | some (s2,k)=>match rgF cells r pk (i+1) ar b s2 with
    | none=>GA
    | some (d,rest)=>GB (d,k::rest)):=by
 obtain⟨k,n,nm,a,ks⟩:=x;unfold Fs.ex
 conv=>lhs;unfold rgF
 unfold rgE;simp only;by_cases h1:4096<s.1+1\/4<(ep pk i ar b).2\/nmP k nm=false\/nuP cells.length k n (ep pk i ar b).1=false
 ·rw[if_pos h1,if_pos h1]
 ·rw[if_neg h1,if_neg h1];cases rgF cells ks k 0 (ep pk i ar b).1 (ep pk i ar b).2 (s.1+1,s.2) with
  | none=>rfl
  | some z =>
   obtain⟨c,kd⟩:=z;simp only;by_cases h2:(eG k n kd).2=0\/(eG k n kd).1≠kd
   ·rw[if_pos h2,if_pos h2]
   ·rw[if_neg h2,if_neg h2];cases (if k=26 then fO cells n ks (ep pk i ar b).1 c else GB c) with
    | none=>rfl
    | some s2=>rfl
theorem ma {cells:List Int}{e:Ex}{ar a:Nat}{s s':Rg}{k:Int}(h:rgE cells e ar a s=GB (s',k)):k≠0:=by
 unfold rgE at h;split at h
 ·cases h
 ·split at h
  ·cases h
  ·split at h
   ·cases h
   ·rename_i h2
    split at h
    ·cases h
    ·injection h with h
     injection h with _ h
     intro b;exact h2 (.inl (h.trans b))
abbrev Dg:=Option Rg
def eS (cells:List Int)(st:Dg)(m:Int)(e:Ex)(ar b:Nat):Dg :=
 match st with
 | none=>GA
 | some s=>match rgE cells e ar b s with
  | none=>GA
  | some (s',k)=>if k=m then GB s' else GA
def fy (cells:List Int):Fs->Dg->Int->Nat->Nat->Dg
 | ⟨GA⟩,st,_,_,_=>st
 | ⟨GB ⟨k,n,nm,a,ks,r⟩⟩,st,m,ar,b=>fy cells r (eS cells st m ⟨k,n,nm,a,ks⟩ ar b) m ar b
theorem jH (cells:List Int):∀ (f:Fs) (m:Int) (ar b:Nat),fy cells f GA m ar b=GA
 | ⟨GA⟩,m,ar,b=>rfl
 | ⟨GB ⟨k,n,nm,a,ks,r⟩⟩,m,ar,b=>jH cells r m ar b
def anD (r:Dg)(g:Int):Option (Rg × Int):=match r with|none=>GA|some s=>GB (s,g)
theorem vt (cells:List Int)(pk m:Int)(ar b:Nat)(g:pk≠21):∀ (f:Fs) (i:Nat) (s:Rg),
  fy cells f (GB s) m ar b=(match rgF cells f pk i ar b s with|none=>GA|some (s',kd)=>if kd=Hk f.len m then GB s' else GA)
 | ⟨GA⟩,i,s=>by simp[fy,rgF,Fs.len]
 | ⟨GB ⟨k,n,nm,a,ks,r⟩⟩,i,s=>by
  have c:ep pk i ar b=(ar,b):=by unfold ep;rw[if_neg g]
  have h1:=iL cells ⟨k,n,nm,a,ks⟩ r pk i ar b s;rw[c] at h1;have h2:rgF cells ⟨GB ⟨k,n,nm,a,ks,r⟩⟩ pk i ar b s=_:=h1;rw[h2];unfold fy;unfold eS;simp only;cases rgE cells ⟨k,n,nm,a,ks⟩ ar b s with
  | none=>simp only;exact jH cells r m ar b
  | some z =>
   obtain⟨s2,e⟩:=z;simp only;by_cases d:e=m
   ·subst d;rw[if_pos rfl,vt cells pk e ar b g r (i+1) s2];cases rgF cells r pk (i+1) ar b s2 with
    | none=>rfl
    | some z =>
     obtain⟨h,rest⟩:=z;simp only[Fs.len,List.replicate_succ,JV,true_and]
   ·rw[if_neg d,jH];cases rgF cells r pk (i+1) ar b s2 with
    | none=>rfl
    | some z =>
     obtain⟨h,rest⟩:=z;simp only[Fs.len,List.replicate_succ,JV,d,false_and,if_false]
def gdE (cells:List Int)(e:Ex)(ar a:Nat)(s:Rg):Prop:=¬(4096<s.1+1\/4<a\/nmP e.k e.nm=false\/nuP cells.length e.k e.n ar=false)
theorem Bh {cells:List Int}{e:Ex}{ar a:Nat}{s:Rg}(m g:Int)(i:gdE cells e ar a s)(d:e.k≠21)(c:e.k≠26)(j:∀ kd:List Int,kd.length=e.kids.len->eG e.k e.n kd=(Hk e.kids.len m,g))(l:g≠0) :
  rgE cells e ar a s=anD (fy cells e.kids (GB (s.1+1,s.2)) m ar a) g:=by
 unfold rgE;rw[if_neg i,vt cells e.k m ar a d e.kids 0];cases f:rgF cells e.kids e.k 0 ar a (s.1+1,s.2) with
 | none=>rfl
 | some z =>
  obtain⟨o,kd⟩:=z;simp only;rw[j kd (rk _ _ _ _ _ _ _ _ _ f)];simp only;by_cases b:kd=Hk e.kids.len m
  ·rw[if_pos b,if_neg (by rintro (h|h);exact l h;exact h b.symm),if_neg c];rfl
  ·rw[if_neg b,if_pos (.inr (λh=>b h.symm))];rfl
theorem jR {cells:List Int}{e:Ex}{ar a:Nat}{s:Rg}(h:¬gdE cells e ar a s):rgE cells e ar a s=GA:=by
 unfold rgE;unfold gdE at h;rw[if_pos (Classical.not_not.1 h)]
theorem zc {cells:List Int}{k n:Int}{nm:List UInt8}{a:Int}{x y:Ex}{ar b:Nat}{s:Rg}(m:k=13\/k=14)(o:gdE cells ⟨k,n,nm,a,Fs.ex x (Fs.ex y .nil)⟩ ar b s) :
  rgE cells ⟨k,n,nm,a,Fs.ex x (Fs.ex y .nil)⟩ ar b s=(match rgE cells x ar b (s.1+1,s.2) with
   | none=>GA
   | some (f,k0)=>if k0=4 then GA else anD (eS cells (GB f) k0 y ar b) 2):=by
 have d:∀ i,ep k i ar b=(ar,b):=λi=>by unfold ep;rw[if_neg (by omega)]
 conv=>lhs;unfold rgE
 rw[if_neg o];simp only;rw[iL,d];simp only;cases j:rgE cells x ar b (s.1+1,s.2) with
 | none=>rfl
 | some z =>
  obtain⟨f,k0⟩:=z;have q:=ma j;simp only;rw[iL,d];simp only[eS];cases g:rgE cells y ar b f with
  | none=>simp only[anD];split<;>rfl
  | some z =>
   obtain⟨s2,c⟩:=z;have h1:=ma g;simp only[rgF];have p:eG k n [k0,c]=([wkP [k0,c] 0,wkP [k0,c] 0],2):=by
    unfold eG;rcases m with rfl|rfl<;>simp
   rw[p];have l:wkP [k0,c] 0=if k0=4 then 0 else k0:=rfl;rw[l];by_cases e:k0=4
   ·rw[if_pos e,if_pos e,if_pos (.inr (by intro h;injection h with h;exact q h.symm))]
   ·rw[if_neg e,if_neg e];by_cases h5:c=k0
    ·subst h5;rw[if_neg (by rintro (h|h);cases h;exact h rfl),if_neg (by omega),if_pos rfl];rfl
    ·rw[if_pos (.inr (by intro h;injection h with _ h;injection h with h;exact h5 h.symm)),if_neg h5];rfl
theorem xZ {cells:List Int}{n:Int}{nm:List UInt8}{a:Int}{x y z:Ex}{ar b:Nat}{s:Rg}(m:gdE cells ⟨19,n,nm,a,Fs.ex x (Fs.ex y (Fs.ex z .nil))⟩ ar b s) :
  rgE cells ⟨19,n,nm,a,Fs.ex x (Fs.ex y (Fs.ex z .nil))⟩ ar b s=(match eS cells (GB (s.1+1,s.2)) 2 x ar b with
   | none=>GA
   | some s0=>match rgE cells y ar b s0 with
    | none=>GA
    | some (e,k0)=>if k0=4 then GA else anD (eS cells (GB e) k0 z ar b) k0):=by
 have c:∀ i,ep 19 i ar b=(ar,b):=λi=>by unfold ep;rw[if_neg (by omega)]
 conv=>lhs;unfold rgE
 rw[if_neg m];simp only;rw[iL,c];simp only[eS];cases p:rgE cells x ar b (s.1+1,s.2) with
 | none=>rfl
 | some u =>
  obtain⟨s0,f⟩:=u;simp only;rw[iL,c];simp only;cases g:rgE cells y ar b s0 with
  | none =>
   simp only;by_cases h2:f=2
   ·rw[if_pos h2];simp only[g]
   ·rw[if_neg h2]
  | some u =>
   obtain⟨e,k0⟩:=u;have o:=ma g;simp only;rw[iL,c];simp only;have j:∀ d,eG 19 n [f,k0,d]=([2,if k0=4 then 0 else k0,if k0=4 then 0 else k0],if k0=4 then 0 else k0):=λd=>by
    unfold eG;simp[wkP]
   by_cases h2:f=2
   ·subst h2;rw[if_pos rfl];simp only[g];cases l:rgE cells z ar b e with
    | none=>simp only[anD];split<;>rfl
    | some u =>
     obtain⟨s2,d⟩:=u;simp only[rgF];rw[j];by_cases k:k0=4
     ·simp only[k,if_true];rw[if_pos (.inl trivial)]
     ·simp only[k,if_false];by_cases h5:d=k0
      ·subst h5;rw[if_neg (by rintro (h|h);exact o h;exact h rfl),if_neg (by omega),if_pos rfl];rfl
      ·rw[if_pos (.inr (by intro h;injection h with _ h;injection h with _ h;injection h with h;exact h5 h.symm)),if_neg h5];rfl
   ·rw[if_neg h2];cases l:rgE cells z ar b e with
    | none=>rfl
    | some u =>
     obtain⟨s2,d⟩:=u;simp only[rgF];rw[j];simp only;rw[if_pos (.inr (by intro h;injection h with h;exact h2 h.symm))]
theorem zJ {cells:List Int}{n:Int}{nm:List UInt8}{a:Int}{t x:Ex}{ar b:Nat}{s:Rg}(l:gdE cells ⟨21,n,nm,a,Fs.ex t (Fs.ex x .nil)⟩ ar b s)(p:1<=n/\n<=6) :
  rgE cells ⟨21,n,nm,a,Fs.ex t (Fs.ex x .nil)⟩ ar b s=anD (eS cells (eS cells (GB (s.1+1,s.2)) 4 t ar (b+1)) (fC n) x (ar+1) (b+1)) (fq n):=by
 have e:ep 21 0 ar b=(ar,b+1):=rfl;have d:ep 21 1 ar b=(ar+1,b+1):=rfl
 conv=>lhs;unfold rgE
 rw[if_neg l];simp only;rw[iL,e];simp only[eS];have g:∀ k0 c,eG 21 n [k0,c]=([4,fC n],fq n):=λk0 c=>by
  have m:n=1\/n=2\/n=3\/n=4\/n=5\/n=6:=by omega
  rcases m with rfl|rfl|rfl|rfl|rfl|rfl<;>rfl
 have k:fq n≠0:=by unfold fq;split<;>omega
 cases o:rgE cells t ar (b+1) (s.1+1,s.2) with
 | none=>rfl
 | some u =>
  obtain⟨s0,k0⟩:=u;simp only;rw[iL,d];simp only;by_cases f:k0=4
  ·subst f;rw[if_pos rfl];simp only;cases j:rgE cells x (ar+1) (b+1) s0 with
   | none=>rfl
   | some u =>
    obtain⟨i,c⟩:=u;simp only[rgF];rw[g];simp only;by_cases h5:c=fC n
    ·rw[if_neg (by rintro (h|h);exact k h;exact h (by rw[h5])),if_neg (by omega),if_pos h5];rfl
    ·rw[if_pos (.inr (by intro h;injection h with _ h;injection h with h;exact h5 h.symm)),if_neg h5];rfl
  ·rw[if_neg f];simp only[anD];cases j:rgE cells x (ar+1) (b+1) s0 with
   | none=>rfl
   | some u =>
    obtain⟨i,c⟩:=u;simp only[rgF];rw[g];simp only;rw[if_pos (.inr (by intro h;injection h with h;exact f h.symm))]
theorem BQ {cells:List Int}{e:Ex}{ar a:Nat}{s:Rg}(h:4<a):rgE cells e ar a s=GA:=jR (λb=>b (.inr (.inl h)))
theorem xC {cells:List Int}{st:Dg}{m:Int}{e:Ex}{ar a:Nat}(h:4<a):eS cells st m e ar a=GA:=by
 unfold eS;cases st with
 | none=>rfl
 | some s=>simp only[BQ h]
theorem DG {cells:List Int}{n:Int}{nm:List UInt8}{a:Int}{x:Ex}{ar b:Nat}{s:Rg}(g:gdE cells ⟨26,n,nm,a,Fs.ex x .nil⟩ ar b s) :
  rgE cells ⟨26,n,nm,a,Fs.ex x .nil⟩ ar b s=(match rgE cells x ar b (s.1+1,s.2) with
   | none=>GA
   | some (c,k0)=>if k0=4 then GA else anD (fO cells n (Fs.ex x .nil) ar c) k0):=by
 have d:∀ i,ep 26 i ar b=(ar,b):=λi=>by unfold ep;rw[if_neg (by omega)]
 conv=>lhs;unfold rgE
 rw[if_neg g];simp only;rw[iL,d];simp only;cases f:rgE cells x ar b (s.1+1,s.2) with
 | none=>rfl
 | some u =>
  obtain⟨c,k0⟩:=u;have k:=ma f;simp only[rgF];have j:eG 26 n [k0]=([if k0=4 then 0 else k0],if k0=4 then 0 else k0):=by
   unfold eG;simp[wkP]
  rw[j];simp only;by_cases e:k0=4
  ·simp only[e,if_true];rw[if_pos (.inl trivial)]
  ·simp only[e,if_false,if_true];rw[if_neg (by rintro (h|h);exact k h;exact h rfl)];cases fO cells n (Fs.ex x .nil) ar c with
   | none=>rfl
   | some s2=>rfl
def eg (k n:Int)(nm:List UInt8)(len:Nat):Bool :=
 if k=1 then nm==[]&&len==0
 else if k=2 then (n==0||n==1)&&(nm==[]&&len==0)
 else if k=3\/k=5 then decide (0<=n)&&(nm==[]&&len==0)
 else if k=6\/k=7\/k=24 then n==0&&(nm==[]&&len==1)
 else if 8<=k/\k<=18 then n==0&&(nm==[]&&len==2)
 else if k=19 then n==0&&(nm==[]&&len==3)
 else if k=20 then nm==[]&&((decide (1<=n)&&decide (n<=3)&&len==2)||(decide (4<=n)&&decide (n<=10)&&len==1))
 else if k=21 then decide (1<=n)&&(decide (n<=6)&&(nm==[]&&len==2))
 else if k=22 then n==0&&(nm==[]&&len==0)
 else if k=23 then n==0&&(len==0&&eE nm)
 else if k=25 then n==0&&nm==[]
 else if k=26 then nm==[]&&len==1
 else false
theorem gK {cells:List Int}{e:Ex}{ar b:Nat}{s s':Rg}{k:Int}(h:rgE cells e ar b s=GB (s',k)) :
  gdE cells e ar b s/\∃a kd,rgF cells e.kids e.k 0 ar b (s.1+1,s.2)=GB (a,kd)/\kd.length=e.kids.len/\(eG e.k e.n kd).2≠0/\(eG e.k e.n kd).1=kd/\k=(eG e.k e.n kd).2/\(if e.k=26 then fO cells e.n e.kids ar a else GB a)=GB s':=by
 unfold rgE at h;split at h
 ·cases h
 ·rename_i d
  split at h
  ·cases h
  ·rename_i a kd c
   split at h
   ·cases h
   ·rename_i h2
    split at h
    ·cases h
    ·rename_i s2 g
     injection h with h
     injection h with f h5
     subst f;exact⟨d,a,kd,c,rk _ _ _ _ _ _ _ _ _ c,λh=>h2 (.inl h),Classical.not_not.1 (λh=>h2 (.inr h)),h5.symm,g⟩
theorem oc {k n:Int}{kd:List Int}(h:(eG k n kd).2≠0):(1<=k/\k<=3)\/(5<=k/\k<=26):=by
 apply Jd;intro a;apply h;unfold eG
 repeat rw[if_neg (by omega)]
theorem nU {cells:List Int}{e:Ex}{ar j:Nat}{s s':Rg}{k:Int}(h:rgE cells e ar j s=GB (s',k)):eg e.k e.n e.nm e.kids.len=true:=by
 obtain⟨d,p,kd,-,g,i,h1,-,-⟩:=gK h;obtain⟨k0,n,nm,a,f⟩:=e;unfold gdE at d;simp only at d g i h1 ⊢;clear h;have l:=oc i;have b:(eG k0 n kd).1.length=f.len:=by rw[h1,g]
 have o:k0=1\/k0=2\/k0=3\/k0=5\/k0=6\/k0=7\/k0=8\/k0=9\/k0=10\/k0=11\/k0=12\/k0=13\/k0=14\/k0=15\/k0=16\/k0=17\/k0=18\/k0=19\/k0=20\/k0=21\/k0=22\/k0=23\/k0=24\/k0=25\/k0=26:=by omega
 clear i h1 g l;generalize f.len=m at b ⊢;rcases o with rfl|rfl|rfl|rfl|rfl|rfl|rfl|rfl|rfl|rfl|rfl|rfl|rfl|rfl|rfl|rfl|rfl|rfl|rfl|rfl|rfl|rfl|rfl|rfl|rfl <;>
  simp[nmP,nuP] at d<;>simp[eG] at b<;>simp[eg,d,<-b]
 ·omega
 ·have c:n=1\/n=2\/n=3\/n=4\/n=5\/n=6\/n=7\/n=8\/n=9\/n=10:=by omega
  rcases c with rfl|rfl|rfl|rfl|rfl|rfl|rfl|rfl|rfl|rfl<;>simp
 ·have c:n=1\/n=2\/n=3\/n=4\/n=5\/n=6:=by omega
  rcases c with rfl|rfl|rfl|rfl|rfl|rfl<;>simp
theorem sR {cells:List Int}{e:Ex}{ar a:Nat}{s:Rg}(h:eg e.k e.n e.nm e.kids.len=false):rgE cells e ar a s=GA:=by
 cases b:rgE cells e ar a s with
 | none=>rfl
 | some z =>
  obtain⟨s',k⟩:=z;rw[nU b] at h;cases h
theorem gQ {k n:Int}{nm:List UInt8}{len:Nat}(h:eg k n nm len=true):k=1\/k=2\/k=3\/k=5\/k=6\/k=7\/k=8\/k=9\/k=10\/k=11\/k=12\/k=13\/k=14\/k=15\/k=16\/k=17\/k=18\/k=19\/k=20\/k=21\/k=22\/k=23\/k=24\/k=25\/k=26:=by
 apply Jd;intro a;unfold eg at h
 repeat rw[if_neg (by omega)] at h
 cases h
theorem ld {cells:List Int}{e:Ex}{ar c:Nat}{s:Rg}(h:eg e.k e.n e.nm e.kids.len=true)(i:s.1+1<=4096)(g:c<=4)(h5:e.k=5->e.n<(ar:Int))(b:e.k=26->0<=e.n/\e.n<(cells.length:Int)):gdE cells e ar c s:=by
 obtain⟨k0,n,nm,a,f⟩:=e;have d:=gQ h;simp only at h h5 b d;unfold gdE;simp only;generalize f.len=m at h;have h1:nmP k0 nm=true/\nuP cells.length k0 n ar=true:=by
  rcases d with rfl|rfl|rfl|rfl|rfl|rfl|rfl|rfl|rfl|rfl|rfl|rfl|rfl|rfl|rfl|rfl|rfl|rfl|rfl|rfl|rfl|rfl|rfl|rfl|rfl <;>
   simp[eg] at h<;>simp[nmP,nuP,h]<;>first|exact h5 rfl|exact b rfl|omega
 rw[h1.1,h1.2];simp;omega
def fJ (cells:List Int)(e:Ex)(ar b:Nat)(s:Rg):Option (Rg × Int) :=
 match rgE cells e ar b s with
 | none=>GA
 | some (s',k)=>if k=4 then GA else GB (s',k)
theorem lm {cells:List Int}{e:Ex}{ar a:Nat}{s:Rg}(h:rgE cells e ar a s=GA):fJ cells e ar a s=GA:=by unfold fJ;rw[h]
theorem vV {cells:List Int}{e:Ex}{ar a:Nat}{s:Rg}{r:Dg}{g:Int}(h:rgE cells e ar a s=anD r g)(b:g≠4):fJ cells e ar a s=anD r g:=by
 unfold fJ;rw[h];cases r with
 | none=>rfl
 | some s'=>simp only[anD];rw[if_neg b]
theorem Ar {cells:List Int}{e:Ex}{ar a:Nat}{s:Rg}{m:Int}(c:m≠4):eS cells (GB s) m e ar a=(match fJ cells e ar a s with|none=>GA|some (s',k)=>if k=m then GB s' else GA):=by
 simp only[eS,fJ];cases rgE cells e ar a s with
 | none=>rfl
 | some z =>
  obtain⟨s',k⟩:=z;simp only;by_cases b:k=4
  ·rw[if_pos b,if_neg (by omega)]
  ·rw[if_neg b]
theorem oI:∀ {x y:Fs} (z:Fs),fU x y=true->fU y z=fU x z
 | ⟨GA⟩,⟨GA⟩,z,h=>rfl
 | ⟨GA⟩,⟨GB ⟨f,n',b,g,c,e⟩⟩,z,h=>by cases h
 | ⟨GB ⟨k,n,nm,a,ks,r⟩⟩,⟨GA⟩,z,h=>by cases h
 | ⟨GB ⟨k,n,nm,a,ks,r⟩⟩,⟨GB ⟨f,n',b,g,c,e⟩⟩,⟨GA⟩,h=>rfl
 | ⟨GB ⟨k,n,nm,a,ks,r⟩⟩,⟨GB ⟨f,n',b,g,c,e⟩⟩,⟨GB ⟨o,n2,j,a2,d,i⟩⟩,h=>by
  simp only[fU,Ha,beq_iff_eq] at h;obtain⟨⟨⟨⟨h1,h2⟩,m⟩,l⟩,h5⟩:=h;subst h1;subst h2;subst m;simp only[fU,oI d l,oI i h5]
theorem Ab {x y:Ex}(z:Ex)(h:eN x y=true):eN y z=eN x z:=by
 unfold eN at h ⊢;simp only[Ha,beq_iff_eq] at h;obtain⟨⟨⟨h1,h2⟩,b⟩,a⟩:=h;rw[h1,h2,b,oI z.kids a]
theorem vv (ar:Int):∀ (f:Fs),0<=hgF f ar
 | ⟨GA⟩=>by simp[hgF]
 | ⟨GB ⟨k,n,nm,a,ks,r⟩⟩=>by
  have:=vv ar r
  simp only[hgF];exact Int.le_trans this (Int.le_max_right _ _)
theorem tF (ar:Int)(b:0<=ar):∀ (f:Fs),hgF f ar<=ar
 | ⟨GA⟩=>by simpa [hgF] using b
 | ⟨GB ⟨k,n,nm,a,ks,r⟩⟩=>by
  have h1:=tF ar b ks;have h2:=tF ar b r;have c:(if k=5/\n<ar then n+1 else 0)<=ar:=by split<;>omega
  simp only[hgF];generalize (if k=5/\n<ar then n+1 else 0)=z at c ⊢;omega
theorem mK (ar:Int)(b:0<=ar)(e:Ex):hgE e ar<=ar:=by
 have h1:=tF ar b e.kids;have a:(if e.k=5/\e.n<ar then e.n+1 else 0)<=ar:=by split<;>omega
 unfold hgE;generalize (if e.k=5/\e.n<ar then e.n+1 else 0)=z at a ⊢;omega
theorem la (ar:Int)(e:Ex):0<=hgE e ar:=by
 have:=vv ar e.kids
 unfold hgE;omega
structure Kp (a b:Nat)(w w':GE):Prop where
 os:w'.os=w.os
 tape:w'.tape=w.tape
 output:w'.output=w.output
 size:w.heap.size<=w'.heap.size
 block:∀ k,k<w.heap.size->k≠a->k≠b->w'.heap[k]?=w.heap[k]?
theorem Kp.refl (a b:Nat)(w:GE):Kp a b w w:=⟨rfl,rfl,rfl,GC _,λ_ _ _ _=>rfl⟩
theorem Kp.trans {p q:Nat}{a b c:GE}(h:Kp p q a b)(k:Kp p q b c):Kp p q a c :=
 ⟨k.os.trans h.os,k.tape.trans h.tape,k.output.trans h.output,Hn h.size k.size,λi f d e=>(k.block i (GM f h.size) d e).trans (h.block i f d e)⟩
theorem Kp.ofBelow {a b:Nat}{w w':GE}(h:GK w.heap.size w w'):Kp a b w w':=⟨h.os,h.tape,h.output,h.size,λk c _ _=>h.block k c⟩
theorem Kp.set {p q:Nat}{a w:GE}(h:Kp p q a w)(r:G1)(u:GJ)(b:a.heap.size<=r.block\/r.block=p\/r.block=q):Kp p q a (w.setCell r u) :=
 ⟨h.os,h.tape,h.output,by simpa using h.size,λk f c d=>(GP w r k u (λe=>by
  rcases b with b|b|b
  ·omega
  ·exact c (e.trans b)
  ·exact d (e.trans b))).trans (h.block k f c d)⟩
theorem Kp.alloc {p q:Nat}{a w:GE}(h:Kp p q a w)(b:Obj):Kp p q a (w.alloc b):=h.trans ⟨rfl,rfl,rfl,by simp,λk c _ _=>GO w b k c⟩
theorem Kp.below {a b n:Nat}{w w':GE}(h:Kp a b w w')(f:n<=a)(e:n<=b)(c:n<=w.heap.size):GK n w w':=⟨h.os,h.tape,h.output,h.size,λk d=>h.block k (by omega) (by omega) (by omega)⟩
theorem Kp.bel {p q:Nat}{w a b:GE}(B:GK w.heap.size w a)(K:Kp p q a b):Kp p q w b:=(Kp.ofBelow B).trans K
abbrev Nf2 (a b:Nat):Nat->Prop:=λi=>i≠a/\i≠b
theorem SlN.kp {a b:Nat}{w w':GE}{f:Fs}{ao:Option G1}(h:SlN w (Nf2 a b) f ao)(k:Kp a b w w'):SlN w' (Nf2 a b) f ao:=h.mono (λi c d=>k.block i d c.1 c.2) k.size (λ_ h _=>h)
theorem SlN.belowP {P:Nat->Prop}{w w':GE}{f:Fs}{ao:Option G1}(h:SlN w P f ao)(b:GK w.heap.size w w'):SlN w' P f ao:=h.mono (λi _ a=>b.block i a) b.size (λ_ h _=>h)
def Inw (w:GE)(P:Nat->Prop)(v:GJ)(xs:List Int):Prop :=
 ∃ao cap,v=.slice ao xs.length cap/\(xs=[]\/∃b off,ao=GB ⟨b,off,GA⟩/\P b/\b<w.heap.size/\∀ j x,xs[j]?=GB x->w.cell? ⟨b,off+j,GA⟩=GB (.int .i64 x))
theorem Inw.mono {w w':GE}{P Q:Nat->Prop}{v:GJ}{xs:List Int}(l:∀ k,P k->k<w.heap.size->w'.heap[k]?=w.heap[k]?)(f:w.heap.size<=w'.heap.size)(g:∀ k,P k->k<w.heap.size->Q k)(h:Inw w P v xs):Inw w' Q v xs:=by
 obtain⟨ao,cap,rfl,h⟩:=h;refine⟨ao,cap,rfl,?_⟩;rcases h with h|⟨b,off,rfl,d,c,i⟩
 ·exact .inl h
 ·exact .inr ⟨b,off,rfl,g b d c,GM c f,λj u e=>(GS (a:=⟨b,off+j,GA⟩) (l b d c)).trans (i j u e)⟩
theorem Inw.kp {a b:Nat}{w w':GE}{v:GJ}{xs:List Int}(h:Inw w (Nf2 a b) v xs)(k:Kp a b w w'):Inw w' (Nf2 a b) v xs:=h.mono (λi c d=>k.block i d c.1 c.2) k.size (λ_ h _=>h)
theorem Inw.below {P:Nat->Prop}{w w':GE}{v:GJ}{xs:List Int}(h:Inw w P v xs)(b:GK w.heap.size w w'):Inw w' P v xs:=h.mono (λi _ a=>b.block i a) b.size (λ_ h _=>h)
theorem SlN.kidP {P:Nat->Prop}{w:GE}{x r:Fs}{y:Ex}{ao:Option G1}(h:SlN w P (x.app (Fs.ex y r)) ao)(i:Nat)(g:x.len=i):∃b off ak ck,ao=GB ⟨b,off,GA⟩/\w.cell? ⟨b,off+i*4,GA⟩=GB (.int .i64 y.k)/\w.cell? ⟨b,off+i*4+1,GA⟩=GB (.int .i64 y.n)/\w.cell? ⟨b,off+i*4+2,GA⟩=GB (stv y.nm)/\w.cell? ⟨b,off+i*4+3,GA⟩=GB (.slice ak y.kids.len ck)/\SlN w P y.kids ak:=by
 subst g;obtain⟨b,off,ak,ck,rfl,-,-,f,e,d,c,S⟩:=SlN.kidQ h;exact⟨b,off,ak,ck,rfl,f,e,d,c,S⟩
end Go.Proofs.YtkhgahljbpmfaaaGreatDoor

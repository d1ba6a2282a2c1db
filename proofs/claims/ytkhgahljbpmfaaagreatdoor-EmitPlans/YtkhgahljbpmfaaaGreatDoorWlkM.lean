import Derived.Test.YtkhgahljbpmfaaaGreatDoorWrqD
import Derived.Deep.RegionWith
import Derived.Deep.LoopGhost
set_option maxRecDepth 100000
set_option maxHeartbeats 8000000
namespace Go.Proofs.YtkhgahljbpmfaaaGreatDoor
open Option renaming none->GE,some->GF,isSome_some->Jz,isSome_none->JA,isSome_eq_false_iff->JM,isNone_iff_eq_none->JS
open Nat renaming le_refl->GG,lt_of_lt_of_le->GQ,le_trans->Hr,not_lt_zero->Hv,zero_add->Ib,le_of_lt->Iq,zero_le->Jm
open Go.Proofs.Tryz renaming prog->GH,underlying9->IR,underlying147->Jy,underlying5->Kg
open Go renaming World->GI,lt_of_block->GJ,bodyPost_ret->GK,heap_alloc_new->GL,Value->GN,heap_setCell_other->GT,Calls->GV,maxLen->G5,Addr->Ha,cell_of_row->Hj,TypeId->Hp,wpAnyH_take->Ic,frozen_of_row->Io,results_none->I3,wpAnyH_ready->Jn
open List renaming getElem?_eq_getElem->GM,setIfInBounds_toArray->GY,getElem_cons_zero->G0,getElem_cons_succ->G1,length_append->Hb,length_cons->Hc,getElem_toArray->Hd,set_cons_zero->Hg,set_cons_succ->Hh,getElem?_eq_none->Hi,mem_of_find?_eq_some->Hm,replicate->Ho,not_mem_nil->Is,mem_cons->Iu,mem_of_getElem?->Iw,length_nil->IK,find?_some->IZ,append_nil->JE
open Go.RowKit renaming Below->GO,intOf->Hl,wrap64->Hs
open Go.Lib renaming hid->GP,itoa->II,decDigits->JR,formatBool->Kc,itoa_length_le->Kf
open Go.RowKit.Below renaming refl->GR,heap_alloc->GS
open Bool renaming eq_iff_iff->GU,and_eq_true->He,true_and->Jq
open Go.World renaming cell?_of_block->GW
open Go.Value renaming int->GX
open Exists renaming intro->G9
open Int renaming toNat_natCast->Ij
open Go.IntKind renaming wrap_i64->Im
open Go.Act renaming put->It
open Or renaming inl->I2
open Go.AllReadyH renaming cons->I5,nil->Jg
open Classical renaming byContradiction->Ji
open Go.Exit renaming inBlock->Jx
open List.cons renaming injEq->J0
open Go.ChangeShapes Go.WideShapes Go.ChangeAt Go.RowKit
set_option linter.unusedVariables false
set_option linter.unusedSimpArgs false
def Rq (w:GI)(rb i:Nat)(o q:Int)(er pl:Nat)(all:List Tk):Prop :=
 ∃g cap,w.heap[rb]?=GF (.cells #[.slice (GF ⟨g,0,GE⟩) all.length cap,.int .i64 i,.int .i64 o,.int .i64 q,.int .i64 er,.int .i64 pl] 64 (0,0))/\g<rb/\(∀ j u,(fx all)[j]?=GF u->w.cell? ⟨g,j,GE⟩=GF u)/\all.length<=3000/\all.length<=cap/\cap<=G5
theorem Rq.lt {w:GI}{rb i:Nat}{o q:Int}{er pl:Nat}{all:List Tk}(h:Rq w rb i o q er pl all):rb<w.heap.size:=by
 obtain⟨g,cap,h1,_⟩:=h;exact GJ h1
theorem Rq.below {w w':GI}{rb i:Nat}{o q:Int}{er pl:Nat}{all:List Tk}(h:Rq w rb i o q er pl all)(b:GO w.heap.size w w'):Rq w' rb i o q er pl all:=by
 have a:=h.lt;obtain⟨g,cap,h1,h2,e,d⟩:=h;exact⟨g,cap,(b.block rb a).trans h1,h2,λj u c=>(b.cell (p:=⟨g,j,GE⟩) (show g<w.heap.size by omega)).trans (e j u c),d⟩
theorem Rq.next {w:GI}{rb i:Nat}{o q:Int}{er pl:Nat}{all:List Tk}{x:Tk}(h:Rq w rb i o q er pl all)(c:all[i]?=GF x):∃g cap L,g<rb/\i<L/\L<=cap/\cap<=G5/\L<=3000/\(w.cell? ⟨rb,0,GE⟩=GF (.slice (GF ⟨g,0,GE⟩) L cap)/\w.cell? ⟨rb,1,GE⟩=GF (.int .i64 i)/\w.cell? ⟨g,i*4,GE⟩=GF (.int .i64 (x.k:Nat))/\w.cell? ⟨g,i*4+1,GE⟩=GF (.int .i64 x.n)/\w.cell? ⟨g,i*4+2,GE⟩=GF (stv x.t)/\w.cell? ⟨g,i*4+3,GE⟩=GF (.int .i64 (x.a:Nat)))/\w.cell? ⟨rb,2,GE⟩=GF (.int .i64 o)/\w.cell? ⟨rb,3,GE⟩=GF (.int .i64 q)/\w.cell? ⟨rb,4,GE⟩=GF (.int .i64 er)/\w.cell? ⟨rb,5,GE⟩=GF (.int .i64 pl)/\(∀ j,w.frozen? ⟨rb,j,GE⟩=false):=by
 obtain⟨g,cap,h1,h2,b,f,h5,e⟩:=h;have d:i<all.length:=by
  by_cases d:i<all.length
  ·exact d
  ·rw[Hi (by omega)] at c;cases c
 obtain⟨t0,t1,t2,t3⟩:=ow all i x c;refine⟨g,cap,all.length,h2,d,h5,e,f,⟨?_,?_,b _ _ t0,b _ _ t1,b _ _ t2,b _ _ t3⟩,?_,?_,?_,?_,λj=>Io w rb j _ _ h1⟩
 all_goals simp[Hj w rb _ _ _ (0,0) h1]
theorem Rq.set {w:GI}{rb i:Nat}{o q:Int}{er pl:Nat}{all:List Tk}(h:Rq w rb i o q er pl all) :
  (∀ m:Nat,Rq (w.setCell ⟨rb,1,GE⟩ (.int .i64 m)) rb m o q er pl all)/\(∀ o':Int,Rq (w.setCell ⟨rb,2,GE⟩ (.int .i64 o')) rb i o' q er pl all)/\(∀ l:Int,Rq (w.setCell ⟨rb,3,GE⟩ (.int .i64 l)) rb i o l er pl all)/\(∀ c:Nat,Rq (w.setCell ⟨rb,4,GE⟩ (.int .i64 c)) rb i o q c pl all)/\(∀ b:Nat,Rq (w.setCell ⟨rb,5,GE⟩ (.int .i64 b)) rb i o q er b all):=by
 obtain⟨g,cap,h1,h2,p,f⟩:=h;have e:Blk w (λ_=>0) 0 rb (.cells #[.slice (GF ⟨g,0,GE⟩) all.length cap,.int .i64 i,.int .i64 o,.int .i64 q,.int .i64 er,.int .i64 pl] 64 (0,0)):=⟨h1,rfl⟩;have d:∀ (k:Nat) (v:GN) j u,(fx all)[j]?=GF u->(w.setCell ⟨rb,k,GE⟩ v).cell? ⟨g,j,GE⟩=GF u:=λk v j u n=>(GW (a:=⟨g,j,GE⟩) (GT w ⟨rb,k,GE⟩ g v (show g≠rb by omega))).trans (p j u n);exact⟨λm=>⟨g,cap,(e.set 1 _).1,h2,d 1 _,f⟩,λo'=>⟨g,cap,(e.set 2 _).1,h2,d 2 _,f⟩,λl=>⟨g,cap,(e.set 3 _).1,h2,d 3 _,f⟩,λc=>⟨g,cap,(e.set 4 _).1,h2,d 4 _,f⟩,λb=>⟨g,cap,(e.set 5 _).1,h2,d 5 _,f⟩⟩
theorem dX.at {rb:Nat}(w:GI)(k:Nat)(v:GN):dX rb w (w.setCell ⟨rb,k,GE⟩ v):=(dX.refl rb w).set ⟨rb,k,GE⟩ v (.inr rfl)
theorem jq (w:GI)(a:Obj):(w.alloc a).drew.heap[w.heap.size]?=GF a/\GO w.heap.size w (w.alloc a).drew:=⟨GL w _,((GR _ w).alloc (GG _) _).drew⟩
theorem is_q {w:GI}{rb i:Nat}{o q:Int}{er pl:Nat}{all:List Tk}{x:Tk}(s:List UInt8)(h:Rq w rb i o q er pl all)(I:all[i]?=GF x) :
  GV GH 103 #[.pointer (GF ⟨rb,0,GE⟩),stv s] w λe w'=>e=.returned (.bool ((er==0)&&((x.k==3||x.k==4)&&x.t==s)))/\GO w.heap.size w w':=by
 obtain⟨B,u⟩:=exq (((er==0)&&((x.k==3||x.k==4)&&x.t==s)));rw[<-u];have d:Hid (B=((er==0)&&((x.k==3||x.k==4)&&x.t==s))):=u;clear u;obtain⟨g,cap,L,O,N,Q,C,R,⟨c0,c1,t0,t1,t2,t3⟩,c2,c3,c4,c5,P⟩:=h.next I;have f:=h.lt;have j:GO w.heap.size w (w.alloc (.cells #[.int .i64 0,.int .i64 0,.string ⟨#[]⟩,.int .i64 0] 67)):=(GR _ w).alloc (GG _) _;have M:=(j.cell (p:=⟨rb,0,GE⟩) f).trans c0;have d1:=(j.cell (p:=⟨rb,1,GE⟩) f).trans c1;have c:g<w.heap.size:=by omega
 have H:=(j.cell (p:=⟨g,i*4,GE⟩) c).trans t0;have G:=(j.cell (p:=⟨g,i*4+1,GE⟩) c).trans t1;have F:=(j.cell (p:=⟨g,i*4+2,GE⟩) c).trans t2;have u3:=(j.cell (p:=⟨g,i*4+3,GE⟩) c).trans t3;have E:Hid (∀ wx,GO w.heap.size w wx->wx.cell? ⟨rb,4,GE⟩=GF (.int .i64 er)):=λwx b=>(b.cell (p:=⟨rb,4,GE⟩) f).trans c4;clear h j C;go_enter Tryz.func103,Tryz.ntmps103;go_upto_region 1 with fail;go_cut [5] (λv wx=>∃bt,v=.pointer (GF ⟨bt,0,GE⟩)/\wx.heap[bt]?=GF (.cells #[.int .i64 (x.k:Nat),.int .i64 x.n,stv x.t,.int .i64 (x.a:Nat)] 67)/\GO w.heap.size w wx)
 case first =>
  have h2:=jq w (.cells #[.int .i64 (x.k:Nat),.int .i64 x.n,stv x.t,.int .i64 (x.a:Nat)] 67);go_region
  all_goals
   go_wp2;go_meet;exact⟨_,rfl,h2.1,h2.2⟩
 case rest =>
 obtain⟨bt,rfl,D,r⟩:=hcut;obtain⟨p0,p1,p2,p3,-⟩:=Blk.cells4 (o:=λ_=>0) (i:=0) ⟨D,rfl⟩;have e4:=E.out _ r;clear c0 c1 t0 t1 t2 t3 M d1 H G F u3 c2 c3 c4 c5 D E;by_cases y:er=0
 ·subst y;by_cases l:x.k=3
  ·have b3:((x.k:Int)==3)=true:=by simp[l]
   have A:Hid (B=(x.t==s)):=by show B=_;rw[d.out];simp[l]
   clear l d;go_wp2;go_ret;exact⟨by rw[A.out];simp,r⟩
  ·have b3:((x.k:Int)==3)=false:=by simp;omega
   by_cases m:x.k=4
   ·have A:((x.k:Int)==4)=true:=by simp[m]
    have z:Hid (B=(x.t==s)):=by show B=_;rw[d.out];simp[m]
    clear l m d;go_wp2;go_ret;exact⟨by rw[z.out];simp,r⟩
   ·have A:((x.k:Int)==4)=false:=by simp;omega
    have z:Hid (B=false):=by show B=_;rw[d.out];simp[l,m]
    clear l m d;go_wp2;go_ret;exact⟨by rw[z.out];rfl,r⟩
 ·have b0:((er:Int)==0)=false:=by simp;omega
  have b1:Hid (B=false):=by show B=_;rw[d.out];simp[y]
  clear y d;go_wp2;go_ret;exact⟨by rw[b1.out];rfl,r⟩
def iE (x:Tk):Prop:=∀ s:List UInt8,s≠[]->eE s=false->((x.k==3||x.k==4)&&x.t==s)=(x.t==s)
abbrev Sq:=Sum (Nat × Nat) (List Tk)
def QS (w:GI)(rb:Nat)(all:List Tk)(o q:Nat):Sq->Prop
 | .inl (er,a)=>∃(i:Nat) (o' b:Int),Rq w rb i o' b er a all/\i<all.length/\er≠0
 | .inr ts=>∃(i pl:Nat),Rq w rb i (o:Nat) (q:Nat) 0 pl all/\all.drop i=ts/\WFT ts/\o<=64/\q<=4
def stp {α:Type}:Rs α->Sq
 | ⟨GE⟩=>.inl (0,0)
 | ⟨GF (.inl (e,a))⟩=>.inl (e,a)
 | ⟨GF (.inr (_,t))⟩=>.inr t
def onw {α:Type}(f:List Tk->Rs α):Sq->Sq
 | .inl a=>.inl a
 | .inr ts=>stp (f ts)
def isS (s:List UInt8):Sq->Bool
 | .inl _=>false
 | .inr []=>false
 | .inr (x::_)=>x.t==s
def nB (e:Nat):Sq->Sq
 | .inl b=>.inl b
 | .inr []=>.inl (0,0)
 | .inr (x::_)=>.inl (e,x.a)
theorem QS.below {w w':GI}{rb o q:Nat}{all:List Tk}{st:Sq}(h:QS w rb all o q st)(b:GO w.heap.size w w'):QS w' rb all o q st:=by
 match st,h with
 | .inl (er,a),⟨i,o',c,h1,h2⟩=>exact⟨i,o',c,h1.below b,h2⟩
 | .inr ts,⟨i,pl,h1,h2⟩=>exact⟨i,pl,h1.below b,h2⟩
theorem QS.lt {w:GI}{rb o q:Nat}{all:List Tk}{st:Sq}(h:QS w rb all o q st):rb<w.heap.size:=by
 match st,h with
 | .inl (er,a),⟨i,o',b,h1,h2⟩=>exact h1.lt
 | .inr ts,⟨i,pl,h1,h2⟩=>exact h1.lt
theorem pX {all:List Tk}{i:Nat}{x:Tk}{r:List Tk}(h:all.drop i=x::r):all[i]?=GF x/\all.drop (i+1)=r/\x ∈ all:=by
 have h1:(all.drop i)[0]?=GF x:=by rw[h];rfl
 rw[List.getElem?_drop] at h1;have h2:(all.drop i).tail=r:=by rw[h];rfl
 rw[List.tail_drop] at h2;exact⟨by simpa using h1,h2,List.mem_of_mem_drop (i:=i) (by rw[h];exact List.mem_cons_self)⟩
theorem Cp {w:GI}{rb i:Nat}{o q:Int}{pl:Nat}{all:List Tk}{x:Tk}(e:Nat)(h:Rq w rb i o q 0 pl all)(b:all[i]?=GF x) :
  GV GH 29 #[.pointer (GF ⟨rb,0,GE⟩),.int .i64 e] w λr w'=>r=.returned (.tuple #[])/\Rq w' rb i o q e x.a all/\dX rb w w':=by
 obtain⟨_,_,_,_,_,_,_,_,_,_,_,c4,_,j⟩:=h.next b;have h1:=h.set.2.2.2.1 e;have h2:=h1.set.2.2.2.2 x.a;have K:=(dX.at (rb:=rb) w 4 (.int .i64 e)).trans (dX.at _ 5 (.int .i64 (x.a:Nat)));obtain⟨g,cap,L,l,k,n,c,p,⟨c0,c1,t0,t1,t2,t3⟩,-,-,-,c5,m⟩:=h1.next b;clear h h1 t0 t1 t2 c;go_enter Tryz.func29,Tryz.ntmps29;go_upto_region 2 with fail;generalize w.setCell ⟨rb,4,GE⟩ (.int .i64 e)=w3 at *;go_region
 all_goals
  go_wp2
  go_end0
  exact⟨rfl,h2.below (GR _ _).drew,K.drew⟩
theorem zZ {w:GI}{rb i:Nat}{o q:Int}{er pl:Nat}{all:List Tk}{x:Tk}(e:Nat)(h:Rq w rb i o q er pl all)(a:all[i]?=GF x)(c:er≠0) :
  GV GH 29 #[.pointer (GF ⟨rb,0,GE⟩),.int .i64 e] w λr w'=>r=.returned (.tuple #[])/\Rq w' rb i o q er pl all/\dX rb w w':=by
 have b0:((er:Int)==0)=false:=by simp;omega
 obtain⟨_,_,_,_,_,_,_,_,_,_,_,c4,_,b⟩:=h.next a;have K:=dX.refl rb w;clear c;go_enter Tryz.func29,Tryz.ntmps29;go_wp2
 go_end0
 exact⟨rfl,h,K⟩
theorem tV {w:GI}{rb o q:Nat}{all:List Tk}{st:Sq}(k:∀ x,x ∈ all->iE x)(s:List UInt8)(f:s≠[])(g:eE s=false)(h:QS w rb all o q st) :
  GV GH 103 #[.pointer (GF ⟨rb,0,GE⟩),stv s] w λe w'=>e=.returned (.bool (isS s st))/\GO w.heap.size w w':=by
 match st,h with
 | .inl (er,a),⟨i,o',l,h1,h2,c⟩ =>
  refine(is_q s h1 (GM h2)).mono ?_;rintro e w' ⟨rfl,b⟩;exact⟨by simp[c,isS],b⟩
 | .inr [],⟨i,pl,h1,h2,c⟩=>exact absurd rfl c.1.ne
 | .inr (x::r),⟨i,pl,h1,h2,c⟩ =>
  obtain⟨d,_,j⟩:=pX h2;refine(is_q s h1 d).mono ?_;rintro e w' ⟨rfl,b⟩;exact⟨by rw[k x j s f g];simp[isS],b⟩
theorem jP {w:GI}{rb o q:Nat}{all:List Tk}{st:Sq}(e:Nat)(g:e≠0)(h:QS w rb all o q st) :
  GV GH 29 #[.pointer (GF ⟨rb,0,GE⟩),.int .i64 e] w λr w'=>r=.returned (.tuple #[])/\QS w' rb all o q (nB e st)/\dX rb w w':=by
 match st,h with
 | .inl (er,a),⟨i,o',f,h1,h2,c⟩ =>
  refine(zZ e h1 (GM h2) c).mono ?_;rintro r w' ⟨rfl,b,k⟩;exact⟨rfl,⟨i,o',f,b,h2,c⟩,k⟩
 | .inr [],⟨i,pl,h1,h2,c⟩=>exact absurd rfl c.1.ne
 | .inr (x::r),⟨i,pl,h1,h2,c⟩ =>
  obtain⟨d,_,l⟩:=pX h2;refine(Cp e h1 d).mono ?_;rintro j w' ⟨rfl,b,k⟩;exact⟨rfl,⟨i,_,_,b,by have:=List.getElem?_eq_some_iff.1 d;exact this.1,g⟩,k⟩
theorem QS.ok {w:GI}{rb o q:Nat}{all:List Tk}{x:Tk}{r:List Tk}(h:QS w rb all o q (.inr (x::r))) :
  ∃i g cap L:Nat,g<rb/\i<L/\L<=cap/\cap<=9223372036854775807/\L<=3000/\x ∈ all/\w.cell? ⟨rb,0,GE⟩=GF (.slice (GF ⟨g,0,GE⟩) L cap)/\w.cell? ⟨rb,1,GE⟩=GF (.int .i64 i)/\w.cell? ⟨rb,2,GE⟩=GF (.int .i64 o)/\w.cell? ⟨rb,3,GE⟩=GF (.int .i64 q)/\w.cell? ⟨rb,4,GE⟩=GF (.int .i64 0)/\(w.cell? ⟨g,i*4,GE⟩=GF (.int .i64 (x.k:Nat))/\w.cell? ⟨g,i*4+1,GE⟩=GF (.int .i64 x.n)/\w.cell? ⟨g,i*4+2,GE⟩=GF (stv x.t)/\w.cell? ⟨g,i*4+3,GE⟩=GF (.int .i64 (x.a:Nat)))/\(∀ j,w.frozen? ⟨rb,j,GE⟩=false):=by
 obtain⟨i,pl,h1,h2,u⟩:=h;obtain⟨c,s,d⟩:=pX h2;obtain⟨g,cap,L,f,e,m,b,p,⟨c0,c1,t0,t1,t2,t3⟩,c2,c3,c4,c5,l⟩:=h1.next c;exact⟨i,g,cap,L,f,e,m,b,p,d,c0,c1,c2,c3,c4,⟨t0,t1,t2,t3⟩,l⟩
theorem QS.over {w:GI}{rb o q:Nat}{all:List Tk}{x:Tk}{r:List Tk}(h:QS w rb all o q (.inr (x::r)))(c:x.t≠[]\/x.k≠0){i:Nat}(d:w.cell? ⟨rb,1,GE⟩=GF (.int .i64 i)) :
  QS (w.setCell ⟨rb,1,GE⟩ (.int .i64 ((i:Int)+1))) rb all o q (.inr r):=by
 obtain⟨i2,pl,h1,h2,b⟩:=h;obtain⟨a,f,g⟩:=pX h2;obtain⟨_,_,_,_,_,_,_,_,⟨_,c1,_⟩,_⟩:=h1.next a;rw[d] at c1;have e:i=i2:=by
  have j:(i:Int)=(i2:Int):=by simpa using c1
  omega
 subst e;exact⟨i+1,pl,h1.set.1 (i+1),f,b.1.tail c,b.2⟩
theorem QS.open {w:GI}{rb o q:Nat}{all:List Tk}{ts:List Tk}(h:QS w rb all o q (.inr ts))(o':Nat)(a:o'<=64) :
  QS (w.setCell ⟨rb,2,GE⟩ (.int .i64 o')) rb all o' q (.inr ts):=by
 obtain⟨i,pl,h1,h2⟩:=h;exact⟨i,pl,h1.set.2.1 (o':Nat),h2.1,h2.2.1,a,h2.2.2.2⟩
theorem QS.quants {w:GI}{rb o q:Nat}{all:List Tk}{ts:List Tk}(h:QS w rb all o q (.inr ts))(a:Nat)(b:a<=4) :
  QS (w.setCell ⟨rb,3,GE⟩ (.int .i64 a)) rb all o a (.inr ts):=by
 obtain⟨i,pl,h1,h2⟩:=h;exact⟨i,pl,h1.set.2.2.1 (a:Nat),h2.1,h2.2.1,h2.2.2.1,b⟩
theorem QS.down {w:GI}{rb o q:Nat}{all:List Tk}{st:Sq}(h:QS w rb all (o+1) q st) :
  ∃o':Int,w.cell? ⟨rb,2,GE⟩=GF (.int .i64 o')/\(∀ j,w.frozen? ⟨rb,j,GE⟩=false)/\QS (w.setCell ⟨rb,2,GE⟩ (.int .i64 (Hs (o' - 1)))) rb all o q st:=by
 match st,h with
 | .inl (er,a),⟨i,o',d,h1,h2,b⟩ =>
  obtain⟨_,_,_,_,_,_,_,_,_,c2,_,_,_,c⟩:=h1.next (GM h2);exact⟨o',c2,c,i,_,d,h1.set.2.1 _,h2,b⟩
 | .inr [],⟨i,pl,h1,h2,b⟩=>exact absurd rfl b.1.ne
 | .inr (x::r),⟨i,pl,h1,h2,b⟩ =>
  obtain⟨f,_,g⟩:=pX h2;obtain⟨_,_,_,_,_,_,_,_,_,c2,_,_,_,c⟩:=h1.next f;refine⟨_,c2,c,i,pl,?_,h2,b.1,by have:=b.2.1;omega,b.2.2⟩;have e:Hs ((((o+1:Nat):Int))-1)=((o:Nat):Int):=by have:=b.2.1;unfold Hs;omega
  rw[e];exact h1.set.2.1 _
theorem QS.le {w:GI}{rb o q:Nat}{all:List Tk}{ts:List Tk}(h:QS w rb all o q (.inr ts)):o<=64/\q<=4/\WFT ts:=by
 obtain⟨i,pl,h1,h2,b,a⟩:=h;exact⟨a.1,a.2,b⟩
theorem pu {s:List UInt8}{st:Sq}(h:isS s st=true):∃x r,st=.inr (x::r)/\x.t=s:=by
 match st,h with
 | .inr (x::r),h=>exact⟨x,r,rfl,by simpa [isS] using h⟩
theorem qI {s:List UInt8}{st:Sq}(h:isS s st=false){all:List Tk}{w:GI}{rb o q:Nat}(b:QS w rb all o q st):nB 120 st=onw (eD s) st/\∀ d,nB 120 st=onw (ej s d) st:=by
 match st,h,b with
 | .inl (er,a),h,b=>exact⟨rfl,λ_=>rfl⟩
 | .inr [],h,⟨i,pl,h1,h2,e⟩=>exact absurd rfl e.1.ne
 | .inr (x::r),h,b =>
  have c:¬x.t=s:=by simpa [isS] using h
  exact⟨by simp[nB,onw,eD,c,stp],λ_=>by simp[nB,onw,ej,c,stp]⟩
theorem vd {w:GI}{rb o q:Nat}{all:List Tk}{st:Sq}(z:∀ x,x ∈ all->iE x)(s:List UInt8)(l:s≠[])(v:eE s=false)(h:QS w rb all o q st) :
  GV GH 203 #[.pointer (GF ⟨rb,0,GE⟩),stv s] w λe w'=>e=.returned (.tuple #[])/\QS w' rb all o q (onw (eD s) st)/\dX rb w w':=by
 have c:=tV z s l v h;cases a:isS s st with
 | true =>
  obtain⟨x,r,rfl,f⟩:=pu a;have n:onw (eD s) (.inr (x::r))=.inr r:=by simp[onw,eD,f,stp]
  rw[n];rw[a] at c;have d:x.t≠[]\/x.k≠0:=.inl (by rw[f];exact l);clear n a f;go_enter Tryz.func203,Tryz.ntmps203;go_wp2_with fail;refine c.mono ?_;rintro e w2 ⟨rfl,b⟩;have h2:=h.below b;obtain⟨i,g,cap,L,C,B,y,m,E,A,c0,c1,c2,c3,c4,-,D⟩:=h2.ok;have j:=h2.over d c1;have K:=(dX.ofBelow (rb:=rb) b).trans (dX.at w2 1 (.int .i64 ((i:Int)+1)));clear h2 h c b c0 c2 c3 c4;go_wp2
  go_end0
  exact⟨rfl,j,K⟩
 | false =>
  rw[<-(qI a h).1];rw[a] at c;have p:∀ w2,QS w2 rb all o q st->GV GH 29 #[.pointer (GF ⟨rb,0,GE⟩),.int .i64 120] w2 λr w'=>r=.returned (.tuple #[])/\QS w' rb all o q (nB 120 st)/\dX rb w2 w':=λw2 h2=>jP 120 (by decide) h2;clear a;go_enter Tryz.func203,Tryz.ntmps203;go_wp2_with fail;refine c.mono ?_;rintro e w2 ⟨rfl,b⟩;go_wp2_with fail;refine(p w2 (h.below b)).mono ?_;rintro e w3 ⟨rfl,j,u⟩;have K:=(dX.ofBelow (rb:=rb) b).trans u;clear h c b p;go_wp2
  (try simp only[Jx,Exit.then])
  refine GK (I3 rfl _ _ _) rfl ?_;exact⟨rfl,j,K⟩
theorem vt {w:GI}{rb q:Nat}{all:List Tk}{x:Tk}{r:List Tk}(h:QS w rb all 64 q (.inr (x::r))) :
  GV GH 104 #[.pointer (GF ⟨rb,0,GE⟩)] w λe w'=>e=.returned (.tuple #[])/\QS w' rb all 65 q (.inl (121,x.a))/\dX rb w w':=by
 have c:GV GH 29 #[.pointer (GF ⟨rb,0,GE⟩),.int .i64 121] w λf w'=>f=.returned (.tuple #[])/\QS w' rb all 65 q (.inl (121,x.a))/\dX rb w w':=(jP 121 (by decide) h).mono λe w' b=>⟨b.1,b.2.1,b.2.2⟩;obtain⟨i,g,cap,L,o,n,k,d,s,m,c0,c1,c2,c3,c4,-,p⟩:=h.ok;clear h c0 c1 c3 c4;go_enter Tryz.func104,Tryz.ntmps104;go_wp2_with fail;refine c.mono ?_;rintro e w3 ⟨rfl,l,j⟩;clear c;go_wp2
 (try simp only[Jx,Exit.then])
 refine GK (I3 rfl _ _ _) rfl ?_;exact⟨rfl,l,j⟩
theorem qP {w:GI}{rb o q:Nat}{all:List Tk}{x:Tk}{r:List Tk}(u:o<64)(f:x.t≠[])(h:QS w rb all o q (.inr (x::r))) :
  GV GH 104 #[.pointer (GF ⟨rb,0,GE⟩)] w λe w'=>e=.returned (.tuple #[])/\QS w' rb all (o+1) q (.inr r)/\dX rb w w':=by
 have h1:=h.open (o+1) (by omega);rw[show ((o+1:Nat):Int)=(o:Int)+1 by omega] at h1;obtain⟨i,g,cap,L,z,y,n,b,C,v,c0,c1,c2,c3,c4,-,A⟩:=h.ok;obtain⟨i2,g2,d,D,l,k,c,a,p,j,s,d1,d2,d3,d4,-,m⟩:=h1.ok;have h2:=h1.over (.inl f) d1;have K:=(dX.at (rb:=rb) w 2 (.int .i64 ((o:Int)+1))).trans (dX.at _ 1 (.int .i64 ((i2:Int)+1)));have B:((o:Int)==64)=false:=by simp;omega
 clear h h1 c0 c1 c3 c4 s d2 d3 d4;go_enter Tryz.func104,Tryz.ntmps104;go_upto_region 3 with fail;generalize w.setCell ⟨rb,2,GE⟩ (.int .i64 ((o:Int)+1))=w3 at *;go_wp2
 go_end0
 exact⟨rfl,h2,K⟩
theorem qh {w:GI}{rb o q:Nat}{all:List Tk}{st:Sq}(u:∀ x,x ∈ all->iE x)(s:List UInt8)(n:s≠[])(t:eE s=false)(h:QS w rb all o q st) :
  GV GH 160 #[.pointer (GF ⟨rb,0,GE⟩),stv s] w λe w'=>e=.returned (.tuple #[])/\QS w' rb all (o+1) q (onw (ej s o) st)/\dX rb w w':=by
 have c:=tV u s n t h;cases d:isS s st with
 | true =>
  obtain⟨x,r,rfl,k⟩:=pu d;rw[d] at c;have j:∀ w2,QS w2 rb all o q (.inr (x::r))->GV GH 104 #[.pointer (GF ⟨rb,0,GE⟩)] w2 λe w'=>e=.returned (.tuple #[])/\QS w' rb all (o+1) q (onw (ej s o) (.inr (x::r)))/\dX rb w2 w':=λw2 h2=>by
   by_cases g:o=64
   ·subst g;have i:onw (ej s 64) (.inr (x::r))=.inl (121,x.a):=by simp[onw,ej,k,stp]
    rw[i];exact vt h2
   ·have i:onw (ej s o) (.inr (x::r))=.inr r:=by simp[onw,ej,k,stp,g]
    rw[i];exact qP (by have:=h2.le.1;omega) (by rw[k];exact n) h2
  clear d k;generalize onw (ej s o) (.inr (x::r))=p at *;go_enter Tryz.func160,Tryz.ntmps160;go_wp2_with fail;refine c.mono ?_;rintro e w2 ⟨rfl,b⟩;go_wp2_with fail;refine(j w2 (h.below b)).mono ?_;rintro e w3 ⟨rfl,f,l⟩;have K:=(dX.ofBelow (rb:=rb) b).trans l;clear h c b j;go_wp2
  go_end0
  exact⟨rfl,f,K⟩
 | false =>
  rw[<-(qI d h).2 o];rw[d] at c;have j:∀ w2,QS w2 rb all o q st->GV GH 29 #[.pointer (GF ⟨rb,0,GE⟩),.int .i64 120] w2 λr w'=>r=.returned (.tuple #[])/\QS w' rb all (o+1) q (nB 120 st)/\dX rb w2 w':=λw2 h2=>(jP 120 (by decide) h2).mono λe w' m=>⟨m.1,by
   obtain⟨er,a,i⟩:∃er a,nB 120 st=.inl (er,a):=by
    match st with
    | .inl (er,a)=>exact⟨er,a,rfl⟩
    | .inr []=>exact⟨0,0,rfl⟩
    | .inr (x::r)=>exact⟨120,x.a,rfl⟩
   have f:=m.2.1;rw[i] at f ⊢;exact f,m.2.2⟩
  clear d;go_enter Tryz.func160,Tryz.ntmps160;go_wp2_with fail;refine c.mono ?_;rintro e w2 ⟨rfl,b⟩;go_wp2_with fail;refine(j w2 (h.below b)).mono ?_;rintro e w3 ⟨rfl,f,l⟩;have K:=(dX.ofBelow (rb:=rb) b).trans l;clear h c b j;go_wp2
  (try simp only[Jx,Exit.then])
  refine GK (I3 rfl _ _ _) rfl ?_;exact⟨rfl,f,K⟩
theorem BY {w:GI}{rb o q:Nat}{all:List Tk}{st:Sq}(i:∀ x,x ∈ all->iE x)(s:List UInt8)(d:s≠[])(f:eE s=false)(h:QS w rb all (o+1) q st) :
  GV GH 161 #[.pointer (GF ⟨rb,0,GE⟩),stv s] w λe w'=>e=.returned (.tuple #[])/\QS w' rb all o q (onw (eD s) st)/\dX rb w w':=by
 have c:=vd i s d f h;generalize onw (eD s) st=b at *;go_enter Tryz.func161,Tryz.ntmps161;go_wp2_with fail;refine c.mono ?_;rintro e w2 ⟨rfl,h2,a⟩;obtain⟨o',c2,j,g⟩:=h2.down;have K:=a.trans (dX.at w2 2 (.int .i64 (Hs (o' - 1))));clear h c a h2;go_wp2
 go_end0
 exact⟨rfl,g,K⟩
def iP (L:List (List UInt8))(st:Sq):Int :=
 match L.findIdx? (λs=>isS s st) with
 | some i=>(i:Nat)
 | none=>-1
theorem ru {L:List (List UInt8)}{st:Sq}{k:Nat}{s:List UInt8}(d:L[k]?=GF s)(a:isS s st=true)(b:∀ j t,j<k->L[j]?=GF t->isS t st=false):iP L st=(k:Nat):=by
 have:L.findIdx? (λs=>isS s st)=GF k:=by
  obtain⟨c,f⟩:=List.getElem?_eq_some_iff.1 d;rw[List.findIdx?_eq_some_iff_getElem];refine⟨c,by rw[f];exact a,λj e=>?_⟩
  have:=b j (L[j]'(by omega)) e (GM _)
  simp[this]
 unfold iP;rw[this]
theorem rp {L:List (List UInt8)}{st:Sq}(b:∀ j t,j<L.length->L[j]?=GF t->isS t st=false):iP L st=-1:=by
 have:L.findIdx? (λs=>isS s st)=GE:=by
  rw[List.findIdx?_eq_none_iff];intro t a;obtain⟨j,c,d⟩:=List.getElem_of_mem a;exact b j t c (by rw[<-d];exact GM _)
 unfold iP;rw[this]
theorem jN {w:GI}{rb o q:Nat}{all:List Tk}{st:Sq}(K:∀ x,x ∈ all->iE x)(L:List (List UInt8))(C:∀ s,s ∈ L->s≠[]/\eE s=false)(h:QS w rb all o q st){g n cap:Nat}(H:n=L.length)(P:g<w.heap.size)(J:∀ j s,L[j]?=GF s->w.cell? ⟨g,j,GE⟩=GF (stv s))(R:n<=cap)(I:cap<=G5) :
  GV GH 54 #[.pointer (GF ⟨rb,0,GE⟩),.slice (GF ⟨g,0,GE⟩) n cap] w λe w'=>e=.returned (.int .i64 (iP L st))/\GO w.heap.size w w':=by
 have M:cap<=9223372036854775807:=I;obtain⟨V,B⟩:=exq (iP L st);rw[<-B];have m:Hid (V=iP L st):=B;have D:Hid (n=L.length):=H;have r:Hid (∀ j s wx,L[j]?=GF s->GO w.heap.size w wx->wx.cell? ⟨g,j,GE⟩=GF (stv s)):=λj s wx A b=>(b.cell (p:=⟨g,j,GE⟩) P).trans (J j s A);have u:Hid (∀ s wx,s ∈ L->GO w.heap.size w wx->GV GH 103 #[.pointer (GF ⟨rb,0,GE⟩),stv s] wx λe w'=>e=.returned (.bool (isS s st))/\GO wx.heap.size wx w'):=λs wx d b=>tV K s (C s d).1 (C s d).2 (h.below b);clear B H J h C K I;go_enter Tryz.func54,Tryz.ntmps54;go_wp2_with fail;go_loopw [5] (λv wr=>∃k:Nat,v=.int .i64 k/\k<=n/\(∀ j t,j<k->L[j]?=GF t->isS t st=false)/\GO w.heap.size w wr) (λv _=>n-(Hl v).toNat)
 case atStart=>exact⟨0,by go_num,by omega,λj t A=>by omega,GR _ w⟩
 case round =>
  obtain⟨k,rfl,Q,a,i⟩:=hrel;by_cases z:k<n
  ·have N:(k:Int)<(n:Int):=by omega
   obtain⟨s,d⟩:∃s,L[k]?=GF s:=⟨_,GM (by rw[<-D.out];exact z)⟩;have G:=r.out k s wr d i;have c:=u.out s wr (Iw d) i;have O:k<9223372036854775807:=by omega
   cases l:isS s st with
   | true =>
    rw[l] at c;have fin:Hid (V=(k:Nat)):=by show V=_;rw[m.out];exact ru d l a
    clear a u r m d l;go_wp2_with fail;refine c.mono ?_;rintro e w2 ⟨rfl,b2⟩;have F:=i.trans (b2.mono i.size);clear c G;go_wp2;go_ret;exact⟨by rw[fin.out];rfl,F⟩
   | false =>
    rw[l] at c;have f:∀ j t,j<k+1->L[j]?=GF t->isS t st=false:=λj t A y=>by
     by_cases e:j=k
     ·subst e;rw[d] at y;cases y;exact l
     ·exact a j t (by omega) y
    have E:=GP f;clear a u r m d l f;go_wp2_with fail;refine c.mono ?_;rintro e w2 ⟨rfl,b2⟩;have F:=i.trans (b2.mono i.size);clear c G i b2;go_wp2;go_roundw
    case rel=>(try ((repeat apply G9);refine⟨?_,rfl⟩));exact⟨k+1,by go_num,by omega,E.out,F⟩
    case measure=>simp[Hl];omega
  ·obtain rfl:k=n:=by omega
   have fin:Hid (V=-1):=by show V=_;rw[m.out];exact rp (by rw[<-D.out];exact a)
   clear a u r m D;go_wp2;go_ret;exact⟨by rw[fin.out];rfl,i⟩
abbrev Nb (n bl:Nat):Nat->Prop:=λb=>n<=b/\b≠bl
theorem Sl.toB {n n1 bl:Nat}{w:GI}{f:Fs}{ao:Option Ha}(h:Sl w (Nw n1) f ao)(b:n<=n1)(c:bl<n1):Sl w (Nb n bl) f ao:=h.mono (λ_ _ _=>rfl) (GG _) (λk a _=>⟨Hr b a,by have a:n1<=k:=a;omega⟩)
theorem Sl.toB' {n bl:Nat}{w:GI}{f:Fs}{ao:Option Ha}(h:Sl w (Nw n) f ao)(c:w.heap.size<=bl):Sl w (Nb n bl) f ao:=h.mono (λ_ _ _=>rfl) (GG _) (λk a b=>⟨a,by omega⟩)
theorem Sl.keepB {rb n bl:Nat}{w w':GI}{f:Fs}{ao:Option Ha}(h:Sl w (Nb n bl) f ao)(k:dX rb w w')(c:rb<n):Sl w' (Nb n bl) f ao:=h.mono (λi a b=>k.block i b (by have:=a.1;omega)) k.size (λ_ h _=>h)
theorem Sl.allocB {P:Nat->Prop}{w:GI}{f:Fs}{ao:Option Ha}(h:Sl w P f ao)(a:Obj):Sl (w.alloc a) P f ao:=h.mono (λi c b=>GS w a i b) (by simp) (λ_ h _=>h)
theorem Sl.setB {n bl:Nat}{w:GI}{f:Fs}{ao:Option Ha}(h:Sl w (Nb n bl) f ao)(p:Ha)(v:GN)(a:p.block=bl\/p.block<n):Sl (w.setCell p v) (Nb n bl) f ao:=h.mono (λi b c=>GT w p i v (by have h1:=b.1;have h2:=b.2;rcases a with a|a<;>omega)) (by simp) (λ_ h _=>h)
theorem Sl.set5B {n bl:Nat}{w:GI}{f:Fs}{ao:Option Ha}(h:Sl w (Nb n bl) f ao){b:Nat}(a:b=bl\/b<n)(b0 b1 b2 b3 c:GN):Sl (((((w.setCell ⟨b,0,GE⟩ b0).setCell ⟨b,1,GE⟩ b1).setCell ⟨b,2,GE⟩ b2).setCell ⟨b,3,GE⟩ b3).setCell ⟨b,4,GE⟩ c) (Nb n bl) f ao:=((((h.setB ⟨b,0,GE⟩ b0 a).setB ⟨b,1,GE⟩ b1 a).setB ⟨b,2,GE⟩ b2 a).setB ⟨b,3,GE⟩ b3 a).setB ⟨b,4,GE⟩ c a
theorem Sl.lowB {n bl m:Nat}{w:GI}{f:Fs}{ao:Option Ha}(h:Sl w (Nb n bl) f ao)(a:m<=n):Sl w (Nw m) f ao:=h.mono (λ_ _ _=>rfl) (GG _) (λk b _=>Hr a b.1)
def cwL:List (List UInt8):=gY.map (·.1)
def qwL:List (List UInt8):=gM.map (·.1)
def Wl (w:GI)(L:List (List UInt8))(w':GI)(g:Nat):Prop:=GO w.heap.size w w'/\w.heap.size<=g/\g<w'.heap.size/\∀ j s,L[j]?=GF s->w'.cell? ⟨g,j,GE⟩=GF (stv s)
theorem lC (w:GI)(L:List (List UInt8))(t:Hp):Wl w L (w.alloc (.cells (L.map stv).toArray t)) w.heap.size:=by
 refine⟨(GR _ w).alloc (GG _) _,GG _,by simp,λj s a=>?_⟩;have b:(w.alloc (.cells (L.map stv).toArray t)).heap[w.heap.size]?=GF (.cells (L.map stv).toArray t (0,0)):=GL w _;rw[Hj _ _ _ _ _ (0,0) b];simp[a]
theorem vu (w:GI):GV GH 158 #[] w λe w'=>∃g,e=.returned (.slice (GF ⟨g,0,GE⟩) 10 10)/\Wl w cwL w' g:=by
 have H:=lC w cwL 9;go_enter Tryz.func158,Tryz.ntmps158;go_wp2;go_ret;exact⟨_,rfl,H⟩
theorem oJ (w:GI):GV GH 159 #[] w λe w'=>∃g,e=.returned (.slice (GF ⟨g,0,GE⟩) 6 6)/\Wl w qwL w' g:=by
 have H:=lC w qwL 9;go_enter Tryz.func159,Tryz.ntmps159;go_wp2;go_ret;exact⟨_,rfl,H⟩
abbrev bxE (e:Ex)(ao:Option Ha)(cap:Nat):Obj:=zEx e ao cap
theorem Fc.allocP {P:Nat->Prop}{w:GI}{f:Fs}{xs:List GN}(h:Fc w P f xs)(a:Obj):Fc (w.alloc a) P f xs:=h.mono (λi c b=>GS w a i b) (by simp) (λ_ h _=>h)
theorem Sl.freshP {w:GI}{P:Nat->Prop}{f:Fs}(xs:List GN)(t:Hp)(h:Fc w P f xs)(b:P w.heap.size):Sl (w.alloc (.cells xs.toArray t)) P f (GF ⟨w.heap.size,0,GE⟩):=by
 refine Sl.of b (by simp) (λj u a=>?_) (h.allocP _);rw[Ib];rw[Hj _ w.heap.size j _ t (0,0) (GL w _)];simpa using a
theorem Gt {w:GI}{P:Nat->Prop}(k:Nat)(c:Int){a b:Ex}{aoa aob:Option Ha}{ca cb:Nat}(q:Sl w P a.kids aoa)(p:Sl w P b.kids aob)(u:P (w.heap.size+1+1+1)) :
  GV GH 55 #[.int .i64 k,.int .i64 c,exV a aoa ca,exV b aob cb] w λe w'=>∃ao cap,e=.returned (exV ⟨(k:Nat),0,[],c,(one a).snoc b⟩ ao cap)/\Sl w' P ((one a).snoc b) ao/\GO w.heap.size w w':=by
 have s:(w.alloc (bxE a aoa ca)).heap.size=w.heap.size+1:=by simp
 have s2:((w.alloc (bxE a aoa ca)).alloc (bxE b aob cb)).heap.size=w.heap.size+1+1:=by simp
 have j:(((w.alloc (bxE a aoa ca)).alloc (bxE b aob cb)).alloc (bxE ⟨(k:Nat),0,[],c,(one a).snoc b⟩ (GF ⟨w.heap.size+1+1+1,0,GE⟩) 2)).heap.size=w.heap.size+1+1+1:=by simp
 have m:=Sl.freshP _ 25 (Fc.app (Fc.one (e:=a) ca (((q.allocB (bxE a aoa ca)).allocB (bxE b aob cb)).allocB (bxE ⟨(k:Nat),0,[],c,(one a).snoc b⟩ (GF ⟨w.heap.size+1+1+1,0,GE⟩) 2))) (Fc.one (e:=b) cb (((p.allocB (bxE a aoa ca)).allocB (bxE b aob cb)).allocB (bxE ⟨(k:Nat),0,[],c,(one a).snoc b⟩ (GF ⟨w.heap.size+1+1+1,0,GE⟩) 2)))) (by rw[j];exact u);have l:(((w.alloc (bxE a aoa ca)).alloc (bxE b aob cb)).alloc (bxE ⟨(k:Nat),0,[],c,(one a).snoc b⟩ (GF ⟨w.heap.size+1+1+1,0,GE⟩) 2)).heap[w.heap.size+1+1]?=GF (bxE ⟨(k:Nat),0,[],c,(one a).snoc b⟩ (GF ⟨w.heap.size+1+1+1,0,GE⟩) 2):=by
  have:=GL ((w.alloc (bxE a aoa ca)).alloc (bxE b aob cb)) (bxE ⟨(k:Nat),0,[],c,(one a).snoc b⟩ (GF ⟨w.heap.size+1+1+1,0,GE⟩) 2)
  rw[s2] at this;exact this
 have d:=(GS _ (.cells ([.int .i64 a.k,.int .i64 a.n,stv a.nm,.slice aoa a.kids.len ca,.int .i64 a.a]++[.int .i64 b.k,.int .i64 b.n,stv b.nm,.slice aob b.kids.len cb,.int .i64 b.a]).toArray 25) _ (GJ l)).trans l;have r:GO w.heap.size w ((((w.alloc (bxE a aoa ca)).alloc (bxE b aob cb)).alloc (bxE ⟨(k:Nat),0,[],c,(one a).snoc b⟩ (GF ⟨w.heap.size+1+1+1,0,GE⟩) 2)).alloc (.cells ([.int .i64 a.k,.int .i64 a.n,stv a.nm,.slice aoa a.kids.len ca,.int .i64 a.a]++[.int .i64 b.k,.int .i64 b.n,stv b.nm,.slice aob b.kids.len cb,.int .i64 b.a]).toArray 25)):=((((GR _ w).alloc (by omega) _).alloc (by omega) _).alloc (by omega) _).alloc (by omega) _;rw[j] at m;have t:((one a).snoc b).len=2:=rfl;obtain⟨i,h,g,u3,f,-⟩:=dT d;have o:Hid (∀ wx,wx=((((w.alloc (bxE a aoa ca)).alloc (bxE b aob cb)).alloc (bxE ⟨(k:Nat),0,[],c,(one a).snoc b⟩ (GF ⟨w.heap.size+1+1+1,0,GE⟩) 2)).alloc (.cells ([.int .i64 a.k,.int .i64 a.n,stv a.nm,.slice aoa a.kids.len ca,.int .i64 a.a]++[.int .i64 b.k,.int .i64 b.n,stv b.nm,.slice aob b.kids.len cb,.int .i64 b.a]).toArray 25))->Sl wx P ((one a).snoc b) (GF ⟨w.heap.size+1+1+1,0,GE⟩)/\GO w.heap.size w wx/\wx.cell? ⟨w.heap.size+1+1,0,GE⟩=GF (.int .i64 k)/\wx.cell? ⟨w.heap.size+1+1,1,GE⟩=GF (.int .i64 0)/\wx.cell? ⟨w.heap.size+1+1,2,GE⟩=GF (stv [])/\wx.cell? ⟨w.heap.size+1+1,3,GE⟩=GF (.slice (GF ⟨w.heap.size+1+1+1,0,GE⟩) 2 2)/\wx.cell? ⟨w.heap.size+1+1,4,GE⟩=GF (.int .i64 c)):=λwx e=>by
  subst e;exact⟨m,r,i,h,g,u3,f⟩
 clear m r l d i h g u3 f s s2 j t q p;unfold exV;go_enter Tryz.func55,Tryz.ntmps55;go_wp2;obtain⟨y,x,i,h,g,u3,f⟩:=o.out _ rfl;exact GK (v:=exV ⟨(k:Nat),0,[],c,(one a).snoc b⟩ (GF ⟨w.heap.size+1+1+1,0,GE⟩) 2) (by simp[results,Tryz.results55,go_sem,exV];rfl) rfl ⟨_,_,rfl,y,x⟩
def sgW:Nat->List (List UInt8)
 | 1=>[[111,114]]
 | 2=>[[97,110,100]]
 | 4=>[[61],[33,61],[60,61],[60]]
 | 5=>[[43],[45]]
 | _=>[[42],[47],[37]]
def sgK:Nat->List Nat
 | 1=>[18]
 | 2=>[17]
 | 4=>[13,14,16,15]
 | 5=>[8,9]
 | _=>[10,11,12]
def Sg (w:GI)(row:Nat)(w':GI)(g1 g2:Nat):Prop:=Wl w (sgW row) w' g1/\w.heap.size<=g2/\g2<w'.heap.size/\∀ j k,(sgK row)[j]?=GF k->w'.cell? ⟨g2,j,GE⟩=GF (.int .i64 (k:Nat))
theorem F5 (w:GI)(row:Nat)(t1 t2:Hp):Sg w row ((w.alloc (.cells ((sgW row).map stv).toArray t1)).alloc (.cells ((sgK row).map (λk=>GX .i64 (k:Nat))).toArray t2)) w.heap.size (w.heap.size+1):=by
 obtain⟨h1,h2,f,e⟩:=lC w (sgW row) t1;have d:(w.alloc (.cells ((sgW row).map stv).toArray t1)).heap.size=w.heap.size+1:=by simp
 refine⟨⟨h1.alloc (by omega) _,h2,by simp;omega,λj s b=>?_⟩,by omega,by simp,λj k b=>?_⟩
 ·exact(GW (a:=⟨w.heap.size,j,GE⟩) (GS _ _ _ f)).trans (e j s b)
 ·have c:=GL (w.alloc (.cells ((sgW row).map stv).toArray t1)) (.cells ((sgK row).map (λk=>GX .i64 (k:Nat))).toArray t2);rw[d] at c;rw[Hj _ _ _ _ _ (0,0) c];simp[b]
theorem FU (w:GI)(row:Nat)(t1 t2:Hp):Sg w row ((w.alloc (.cells ((sgK row).map (λk=>GX .i64 (k:Nat))).toArray t2)).alloc (.cells ((sgW row).map stv).toArray t1)) (w.heap.size+1) w.heap.size:=by
 have e:(w.alloc (.cells ((sgK row).map (λk=>GX .i64 (k:Nat))).toArray t2)).heap.size=w.heap.size+1:=by simp
 obtain⟨h1,h2,d,c⟩:=lC (w.alloc (.cells ((sgK row).map (λk=>GX .i64 (k:Nat))).toArray t2)) (sgW row) t1;rw[e] at h2 d c;have b1:GO w.heap.size w (w.alloc (.cells ((sgK row).map (λk=>GX .i64 (k:Nat))).toArray t2)):=(GR _ w).alloc (GG _) _;refine⟨⟨b1.trans (h1.mono (by omega)),by omega,d,c⟩,by omega,by omega,λj k f=>?_⟩;have b:=GL w (.cells ((sgK row).map (λk=>GX .i64 (k:Nat))).toArray t2);have a:=(GS (w.alloc (.cells ((sgK row).map (λk=>GX .i64 (k:Nat))).toArray t2)) (.cells ((sgW row).map stv).toArray t1) _ (GJ b)).trans b;rw[Hj _ _ _ _ _ (0,0) a];simp[f]
theorem vs (w:GI)(row n:Nat)(a:row=1\/row=2\/row=4\/row=5\/row=6)(b:n=(sgW row).length) :
  GV GH 53 #[.int .i64 row] w λe w'=>∃g1 g2,e=.returned (.tuple #[.slice (GF ⟨g1,0,GE⟩) n n,.slice (GF ⟨g2,0,GE⟩) n n])/\Sg w row w' g1 g2:=by
 have c:=GP (λw2:GI=>F5 w2 row 9 3);have d:=GP (λw2:GI=>FU w2 row 9 3);rcases a with rfl|rfl|rfl|rfl|rfl
 all_goals
  subst b;go_enter Tryz.func53,Tryz.ntmps53;go_wp2;go_ret2;exact⟨_,_,rfl,c.out w⟩
theorem zb (k:Nat)(a:k<10):((UInt8.ofNat (48+k)).toNat:Int)=48+(k:Int):=by
 rw[UInt8.toNat_ofNat'];omega
theorem sN (w:GI)(b k:Nat)(a:k<10)(d:w.heap[b]?=GF (.cells #[.int .u8 (48+(k:Int))] 5 (0,0))) :
  (convert 147 9 (.slice (GF ⟨b,0,GE⟩) 1 1)).run GH w=.ok (.string ⟨#[UInt8.ofNat (48+k)]⟩) w :=
 run_convert_bytes_back _ 147 9 5 ⟨b,0,GE⟩ 1 [UInt8.ofNat (48+k)] Jy Kg IR
  (λj c=>by
   have e:j=0:=by simp at c;omega
   subst e
   have:=zb k a
   simp only[G0];rw[this];show w.cell? ⟨b,0+0,GE⟩=_;rw[Hj w b _ _ _ (0,0) d];rfl)
theorem BH (l:List UInt8)(c:UInt8):(⟨l.toArray⟩:ByteArray)++⟨#[c]⟩=⟨(l++[c]).toArray⟩:=by
 apply ByteArray.ext;simp
def vY (n:Nat):Prop:=∀ w:GI,GV GH 230 #[.int .i64 n] w λe w'=>e=.returned (stv (JR n))/\GO w.heap.size w w'
theorem ql (n:Nat)(h:n<10):vY n:=by
 intro w;rw[JR,dif_pos h];have d:GO w.heap.size w (w.alloc (.cells #[.int .u8 (48+(n:Int))] 5)):=(GR _ w).alloc (GG _) _;have b:=sN (w.alloc (.cells #[.int .u8 (48+(n:Int))] 5)) w.heap.size n h (GL w _);obtain⟨c,a⟩:=exq (UInt8.ofNat (48+n));rw[<-a] at b ⊢;clear a;have e:IntKind.u8.wrap (48+(n:Int))=48+(n:Int):=by show (48+(n:Int)) % 256=_;omega
 go_enter Tryz.func230,Tryz.ntmps230;go_wp2;go_ret;exact⟨rfl,d⟩
theorem DB (n:Nat)(h:¬n<10)(B:n<=9223372036854775807)(a:vY (n / 10)):vY n:=by
 intro w;rw[JR,dif_neg h];have o:n % 10<10:=Nat.mod_lt _ (by omega);have f:Hid (∀ (wx:GI) (b:Nat),wx.heap[b]?=GF (.cells #[.int .u8 (48+((n % 10:Nat):Int))] 5 (0,0))->(convert 147 9 (.slice (GF ⟨b,0,GE⟩) 1 1)).run GH wx=.ok (.string ⟨#[UInt8.ofNat (48+n % 10)]⟩) wx):=λwx b D=>sN wx b (n % 10) o D;have a:=λwx=>a wx;have t:IntKind.i64.wrap (Int.tdiv (n:Int) 10)=((n / 10:Nat):Int):=by rw[Im,show Int.tdiv (n:Int) 10=((n / 10:Nat):Int) from rfl];omega
 have s:IntKind.i64.wrap (Int.tmod (n:Int) 10)=((n % 10:Nat):Int):=by rw[Im,show Int.tmod (n:Int) 10=((n % 10:Nat):Int) from rfl];omega
 have E:Int.tdiv (n:Int) 10=((n / 10:Nat):Int):=rfl;have e4:Int.tmod (n:Int) 10=((n % 10:Nat):Int):=rfl;obtain⟨q,m⟩:=exq (n / 10);obtain⟨r,l⟩:=exq (n % 10);rw[<-m] at a t E ⊢;rw[<-l] at f s e4 o ⊢;obtain⟨c,p⟩:=exq (UInt8.ofNat (48+r));rw[<-p] at f ⊢;obtain⟨L,i⟩:=exq (JR q);have C:L.length<=21:=by
  have j:=Kf (q:Nat) (by omega) (by omega);unfold II at j;rw[if_neg (by omega),Ij,<-i] at j;exact j
 have y:=jB L;rw[<-i] at a ⊢;have J:Hid (n<=9223372036854775807):=B;have A:IntKind.i64.wrap (q:Int)=(q:Int):=by rw[Im];omega
 have z:IntKind.i64.wrap (48+(r:Int))=48+(r:Int):=by rw[Im];omega
 clear m l p i t s;have I:¬(n:Int)<10:=by omega
 have H:IntKind.u8.wrap (48+(r:Int))=48+(r:Int):=by show (48+(r:Int)) % 256=_;omega
 have K:=f.out ((w.alloc (.cells #[.int .u8 (48+(r:Int))] 5)).drew) w.heap.size (GL w _);have x:GO w.heap.size w (w.alloc (.cells #[.int .u8 (48+(r:Int))] 5)).drew:=((GR _ w).alloc (GG _) _).drew;have g:w.heap.size<(w.alloc (.cells #[.int .u8 (48+(r:Int))] 5)).drew.heap.size:=by show w.heap.size<(w.alloc _).heap.size;simp
 have d:((w.alloc (.cells #[.int .u8 (48+(r:Int))] 5)).drew).heap[w.heap.size]?=GF (.cells #[.int .u8 (48+(r:Int))] 5 (0,0)):=GL w _;have k:=GP d;clear d;have F:Hid (((⟨L.toArray⟩:ByteArray)++⟨#[c]⟩)=⟨(L++[c]).toArray⟩):=BH L c;go_enter Tryz.func230,Tryz.ntmps230;go_upto_region 3 with fail;go_region_with ((first|(go_at_call 230;refine(a w.drew).mono ?_;rintro e w1 ⟨rfl,b1⟩;have v:GO w.heap.size w w1:=(GR _ w).drew.trans b1;have u:GO w.heap.size w (w1.alloc (.cells #[.int .u8 (48+(r:Int))] 5)):=v.alloc v.size _;have G:=f.out (w1.alloc (.cells #[.int .u8 (48+(r:Int))] 5)) w1.heap.size (GL w1 _))|(go_at_call 230;refine(a ((w.alloc (.cells #[.int .u8 (48+(r:Int))] 5)).drew)).mono ?_;rintro e w1 ⟨rfl,b1⟩;have u:GO w.heap.size w w1:=x.trans (b1.mono x.size);have G:=f.out w1 w.heap.size ((b1.block _ g).trans k.out))))
 all_goals
  rw[F.out];go_wp2;go_ret;exact⟨rfl,u⟩
theorem wM:∀ (m n:Nat),n<=m->n<=9223372036854775807->vY n
 | 0,n,b,a=>ql n (by omega)
 | m+1,n,b,a=>by
  by_cases h:n<10
  ·exact ql n h
  ·exact DB n h a (wM m (n / 10) (by omega) (by omega))
theorem si (n:Int)(a:0<=n)(h1:n<=9223372036854775807)(w:GI):GV GH 230 #[.int .i64 n] w λe w'=>e=.returned (stv (II n))/\GO w.heap.size w w':=by
 have h:=wM n.toNat n.toNat (GG _) (by omega) w;rw[show ((n.toNat:Nat):Int)=n by omega] at h;have e:II n=JR n.toNat:=by unfold II;rw[if_neg (by omega)]
 rw[e];exact h
theorem Do (x:List UInt8 × Nat × Nat × Nat × Nat)(a:x ∈ iI):(x.2.2.1=1\/x.2.2.1=2\/x.2.2.1=4\/x.2.2.1=5\/x.2.2.1=6)/\∃i,i<4/\(sgW x.2.2.1)[i]?=GF x.1/\(sgK x.2.2.1)[i]?=GF x.2.1/\(∀ j,j<i->(sgK x.2.2.1)[j]?≠GF x.2.1)/\∀ r,r<x.2.2.1->r≠3->r≠0->∀ j,j<4->(sgK r)[j]?≠GF x.2.1:=by
 simp only[iI,Iu,Is,or_false] at a;rcases a with rfl|rfl|rfl|rfl|rfl|rfl|rfl|rfl|rfl|rfl|rfl
 ·exact⟨by decide,0,by decide,rfl,rfl,by decide,by decide⟩
 ·exact⟨by decide,0,by decide,rfl,rfl,by decide,by decide⟩
 ·exact⟨by decide,0,by decide,rfl,rfl,by decide,by decide⟩
 ·exact⟨by decide,1,by decide,rfl,rfl,by decide,by decide⟩
 ·exact⟨by decide,3,by decide,rfl,rfl,by decide,by decide⟩
 ·exact⟨by decide,2,by decide,rfl,rfl,by decide,by decide⟩
 ·exact⟨by decide,0,by decide,rfl,rfl,by decide,by decide⟩
 ·exact⟨by decide,1,by decide,rfl,rfl,by decide,by decide⟩
 ·exact⟨by decide,0,by decide,rfl,rfl,by decide,by decide⟩
 ·exact⟨by decide,1,by decide,rfl,rfl,by decide,by decide⟩
 ·exact⟨by decide,2,by decide,rfl,rfl,by decide,by decide⟩
theorem Bt (r:Nat):(sgK r).length=(sgW r).length/\(sgW r).length<=4:=by
 unfold sgK sgW;split<;>exact⟨rfl,by decide⟩
theorem Ei {k:Int}{x:List UInt8 × Nat × Nat × Nat × Nat}(h:gZ k=GF x)(w:GI):GV GH 234 #[.int .i64 k] w λe w'=>e=.returned (stv x.1)/\GO w.heap.size w w':=by
 have M:=Hm h;have O:((x.2.1:Nat):Int)=k:=by have:=IZ h;simpa using this
 obtain⟨L,d,X,A,a,D,b⟩:=Do x M;obtain⟨K,m,r,x4,x5⟩:=x;simp only at O L A a D b ⊢;subst O;have R:Hid ((sgW r)[d]?=GF K):=A;have HK:Hid ((sgK r)[d]?=GF m):=a;have HJ:Hid (∀ j,j<d->(sgK r)[j]?≠GF m):=D;have HR:Hid (∀ t,t<r->t≠3->t≠0->∀ j,j<4->(sgK t)[j]?≠GF m):=b;have V:r<7:=by omega
 have H:Hid (r≠3):=by show r≠3;omega
 have T:=GR w.heap.size w;clear A a D b M h;go_enter Tryz.func234,Tryz.ntmps234;go_wp2_with fail;go_loopw [3] (λv wr=>∃row:Nat,v=.int .i64 (row:Nat)/\1<=row/\row<=r/\GO w.heap.size w wr) (λv _=>8-(Hl v).toNat)
 case atStart=>exact⟨1,by go_num,by omega,by omega,T⟩
 case round =>
  clear T;obtain⟨row,rfl,h1,W,z⟩:=hrel;have U:(row:Int)<7:=by omega
  by_cases F:row=3
  ·subst F;have l:3<r:=by have:=H.out;omega
   go_wp2;go_roundw
   case rel=>(try ((repeat apply G9);refine⟨?_,rfl⟩));exact⟨4,by go_num,by omega,by omega,z⟩
   case measure=>simp[Hl]
  ·have b3:((row:Int)==3)=false:=by simp;omega
   obtain⟨n,y⟩:∃n,n=(sgW row).length:=⟨_,rfl⟩;have c:=vs wr row n (by omega) y;have I:Hid (n=(sgW row).length):=y;have hn4:n<=4:=by rw[y];exact(Bt row).2
   have H3:Hid (row≠3):=F;clear y F L;go_wp2_with fail;refine c.mono ?_;rintro e w2 ⟨g1,g2,rfl,o⟩;have S:GO w.heap.size w w2:=z.trans (o.1.1.mono z.size);have Q:Hid (g1<w2.heap.size/\g2<w2.heap.size/\(∀ j s,(sgW row)[j]?=GF s->w2.cell? ⟨g1,j,GE⟩=GF (stv s))/\∀ j k,(sgK row)[j]?=GF k->w2.cell? ⟨g2,j,GE⟩=GF (.int .i64 (k:Nat))):=⟨o.1.2.2.1,o.2.2.1,o.1.2.2.2,o.2.2.2⟩;clear c o z;go_wp2_with fail;go_loopw [6] (λv wr=>∃i:Nat,v=.int .i64 (i:Nat)/\i<=n/\Hid (row=r->i<=d)/\wr=w2) (λv _=>n-(Hl v).toNat)
   case atStart=>exact⟨0,by go_num,by omega,λ_=>Jm _,rfl⟩
   case round =>
    obtain⟨i,rfl,Y,q,rfl⟩:=hrel;by_cases l:i<n
    ·have Z:(i:Int)<(n:Int):=by omega
     have C:=Bt row;obtain⟨p,a⟩:∃p,(sgK row)[i]?=GF p:=⟨_,GM (by rw[C.1,<-I.out];exact l)⟩;obtain⟨s,u⟩:∃s,(sgW row)[i]?=GF s:=⟨_,GM (by rw[<-I.out];exact l)⟩;have ck:=Q.out.2.2.2 i p a;have cs:=Q.out.2.2.1 i s u;by_cases f:row=r/\i=d
     ·have e1:p=m:=by
       have:=HK.out
       rw[<-f.1,<-f.2,a] at this;injection this
      have G:s=K:=by
       have:=R.out
       rw[<-f.1,<-f.2,u] at this;injection this
      subst e1 G;clear f a u C;go_wp2;go_ret;exact⟨rfl,S⟩
     ·have B:p≠m:=λe=>by
       rw[e] at a;by_cases g:row=r
       ·have E:i<d:=by
         have:=q.out g
         have:i≠d:=λe=>f ⟨g,e⟩
         omega
        exact HJ.out i E (by rw[<-g];exact a)
       ·exact HR.out row (by omega) H3.out (by omega) i (by omega) a
      have P:((p:Int)==(m:Int))=false:=by simp;omega
      have J:Hid (row=r->i+1<=d):=λe=>by
       have:=q.out e
       have:i≠d:=λG=>f ⟨e,G⟩
       omega
      clear f a u C B q;go_wp2;go_roundw
      case rel=>(try ((repeat apply G9);refine⟨?_,rfl⟩));exact⟨i+1,by go_num,by omega,J,by trivial⟩
      case measure=>simp[Hl];omega
    ·obtain rfl:i=n:=by omega
     have N:row<r:=by
      by_cases e:row=r
      ·have h5:=q.out e;have h6:d<(sgW r).length:=(List.getElem?_eq_some_iff.1 R.out).1;have h7:=I.out;rw[e] at h7;omega
      ·omega
     clear q;go_wp2;go_roundw
     case rel=>(try ((repeat apply G9);refine⟨?_,rfl⟩));exact⟨row+1,by go_num,by omega,by omega,S⟩
     case measure=>simp[Hl];omega
abbrev bxX (e:Ex)(ao:Option Ha)(cap:Nat):Obj:=zEx e ao cap
def kF (N:Nat):Prop:=∀ (e:Ex) (ao:Option Ha) (cap:Nat) (set:Bool) (wb:Nat) (st:Ow) (w:GI) (o:Nat->Nat),e.kids.size<N->e.fit->Sl w (L0 o) e.kids ao->WQ w o wb st ->
 GV GH 193 #[.pointer (GF ⟨wb,0,GE⟩),exV e ao cap,.bool set] w (iV w o wb (oEx e set st))
theorem WQ.stp0 {w w':GI}{o o':Nat->Nat}{wb:Nat}{st:Ow}(h:WQ w o wb st)(s:dQ (λ_=>False) w o w' o'):WQ w' o' wb st:=h.step s id id
theorem Sl.stp0 {w w':GI}{o o':Nat->Nat}{f:Fs}{ao:Option Ha}(h:Sl w (L0 o) f ao)(s:dQ (λ_=>False) w o w' o'):Sl w' (L0 o') f ao:=h.mono (λi b a=>s.block i a id) s.size (λi b a=>(s.lab i a).trans b)
theorem zV (w:GI)(o:Nat->Nat)(n:Nat):dQ (λ_=>False) w o (w.drewN n) o:=(dQ.refl _ w o).drewN n
theorem dQ.i12 {w w':GI}{o o':Nat->Nat}(s:dQ (λ_=>False) w o w' o'):dQ I12 w o w' o':=s.mono λ_ h=>h.elim
theorem iR {st s:Ow}(h:Bal (eB st) s):∀ x,s=GF x->1<=x.o:=λx b=>by
 obtain⟨y,a,h1,_⟩:=h x b
 match st,a with
 | some z,a =>
  simp only[eB] at a;split at a
  ·cases a
  ·injection a with a
   subst a;show 1<=x.o;rw[h1];show 1<=z.o+1;omega
theorem Bal.refl (st:Ow):Bal st st:=λs h=>⟨s,h,rfl,rfl⟩
theorem Bal.trans {a b c:Ow}(h:Bal a b)(k:Bal b c):Bal a c:=λs f=>by
 obtain⟨y,e,h1,h2⟩:=k s f;obtain⟨z,d,i,g⟩:=h y e;exact⟨z,d,h1.trans i,h2.trans g⟩
theorem Bal.put {a b:Ow}(h:Bal a b)(x:List UInt8):Bal a (eq x b):=h.trans λs c=>by
 match b,c with
 | some z,c =>
  simp only[eq] at c;split at c
  ·cases c
  ·injection c with c
   subst c;exact⟨z,rfl,rfl,rfl⟩
theorem Bal.lea {a b:Ow}(h:Bal (eB a) b):Bal a (gV b):=λs d=>by
 match b,h,d with
 | some z,h,d =>
  injection d with d
  subst d;obtain⟨y,c,h1,h2⟩:=h z rfl
  match a,c with
  | some u,c =>
   simp only[eB] at c;split at c
   ·cases c
   ·injection c with c
    subst c;exact⟨u,rfl,by show z.o-1=u.o;rw[h1];show u.o+1-1=_;omega,h2⟩
theorem Bal.qle {a b:Ow}(h:Bal (jV a) b):Bal a (sf b):=λs d=>by
 match b,h,d with
 | some z,h,d =>
  injection d with d
  subst d;obtain⟨y,c,h1,h2⟩:=h z rfl
  match a,c with
  | some u,c =>
   simp only[jV] at c;split at c
   ·cases c
   ·injection c with c
    subst c;exact⟨u,rfl,h1,by show z.q-1=u.q;rw[h2];show u.q+1-1=_;omega⟩
theorem BV {st s:Ow}(h:Bal (jV st) s):∀ x,s=GF x->1<=x.q:=λx b=>by
 obtain⟨y,a,_,h1⟩:=h x b
 match st,a with
 | some z,a =>
  simp only[jV] at a;split at a
  ·cases a
  ·injection a with a
   subst a;show 1<=x.q;rw[h1];show 1<=z.q+1;omega
theorem yZ {k n:Int}{nm:List UInt8}{K:Sep->Ow->Ow}(b:∀ g s,Bal s (K g s))(s:Ow):Bal s (eL k n nm K s):=by
 have a:∀ (x y:List UInt8) (s:Ow),Bal s (kw x y K s):=λx y s=>(Bal.lea (((Bal.refl (eB s)).put x).trans (b _ _))).put y;unfold eL;split
 ·exact Bal.lea (b _ _)
 ·split
  ·exact Bal.lea (b _ _)
  ·split
   ·exact Bal.lea (b _ _)
   ·split
    ·exact Bal.qle (Bal.lea (b _ _))
    ·split
     ·exact((Bal.refl s).put _).trans (a _ _ _)
     ·split
      ·exact((Bal.refl s).put _).trans (a _ _ _)
      ·split
       ·exact a _ _ _
       ·unfold iF;split
        ·exact(Bal.refl s).put _
        ·split
         ·exact(Bal.refl s).put _
         ·split
          ·exact(Bal.refl s).put _
          ·split
           ·exact(Bal.refl s).put _
           ·split
            ·exact(Bal.refl s).put _
            ·exact b _ _
theorem oF {k n:Int}{nm:List UInt8}{len:Nat}{set:Bool}{K:Sep->Ow->Ow}(b:∀ g s,Bal s (K g s))(s:Ow):Bal s (lr k n nm len set K s):=by
 unfold lr;split
 ·exact yZ b s
 ·intro x a;cases a
theorem DK {k n:Int}{nm:List UInt8}{len asked:Nat}{set:Bool}{K:Sep->Ow->Ow}(a:∀ g s,Bal s (K g s))(s:Ow):Bal s (oE k n nm len set asked K s):=by
 unfold oE;split
 ·exact(Bal.lea (((Bal.refl (eB s)).put _).trans (oF a _))).put _
 ·exact oF a s
theorem lE:∀ (f:Fs) (b:Bool) (g:Sep) (i:Nat) (s:Ow),Bal s (oFs f b g i s)
 | ⟨GE⟩,b,g,i,s=>Bal.refl s
 | ⟨GF ⟨k,n,nm,a,ks,r⟩⟩,b,g,i,s=>(((Bal.refl s).put _).trans (DK (λg s=>lE ks (k==21) g 0 s) _)).trans (lE r false g (i+1) _)
def ic (e y:Ex)(i:Nat)(st:Ow):Ow:=oE y.k y.n y.nm y.kids.len (e.k==21&&decide (i=0)) (mA e.k i) (λg s=>oFs y.kids (y.k==21) g 0 s) st
theorem Dj (y:Ex)(b:Bool)(s:Ow):Bal s (oEx y b s):=oF (λg s=>lE _ _ _ _ _) s
theorem Eu (k:Int)(i:Nat):(mA k i:Nat)<=8+i:=by
 unfold mA
 have:=us k
 split
 ·omega
 ·split
  ·omega
  ·split<;>omega
theorem jw {N:Nat}(V:kF N)(e y:Ex)(x r:Fs)(T:e.kids=x.app (Fs.ex y r))(i:Nat)(hi:x.len=i)(Y:i<=1000000000)(U:y.kids.size<N)(R:y.fit)(ao:Option Ha)(cap wb:Nat)(st:Ow)(w:GI)(o:Nat->Nat)(S:Sl w (L0 o) e.kids ao)(H:WQ w o wb st) :
  GV GH 232 #[.pointer (GF ⟨wb,0,GE⟩),exV e ao cap,.int .i64 i] w (iV w o wb (ic e y i st)):=by
 have ac:i<e.kids.len:=by rw[T,Fs.len_app,D1];omega
 obtain⟨b,off,ak,ck,rfl,x0,x1,x2,x3,x4,SK⟩:=Sl.kidP (x:=x) (y:=y) (r:=r) (by rw[T] at S;exact S) i hi;have ag:b<w.heap.size:=by
  rcases S with h|⟨b',ab,zs,K,hp,X,hc,hf⟩
  ·rw[T] at h;cases x using Fs.on with
   | nil=>cases h
   | cons _ _ _ _ _ _=>cases h
  ·injection K with K;injection K with K;subst K;exact X
 obtain⟨w0,j⟩:=exq ((w.alloc (bxX e (GF ⟨b,off,GE⟩) cap)).alloc (bxX y ak ck));obtain⟨o0,m⟩:=exq (dR (w.alloc (bxX e (GF ⟨b,off,GE⟩) cap)) (dR w o 0) 0);have s0:dQ (λ_=>False) w o w0 o0:=by rw[j,m];exact(et _ w o _).trans (et _ _ _ _)
 have E0:w0.heap[w.heap.size]?=GF (bxX e (GF ⟨b,off,GE⟩) cap):=by
  rw[j];exact(GS _ _ _ (by simp)).trans (GL w _)
 have Y0:w0.heap[w.heap.size+1]?=GF (bxX y ak ck):=by
  rw[j]
  have:=GL (w.alloc (bxX e (GF ⟨b,off,GE⟩) cap)) (bxX y ak ck)
  simpa using this
 have l0:o0 w.heap.size=0:=by rw[m,ed (by simp),dY (GG _)]
 have l1:o0 (w.heap.size+1)=0:=by rw[m,dY (by simp)]
 have P:=SK.stp0 s0;have H0:=H.stp0 s0;have ah:=Eu e.k i;clear m S SK H T;rw[dU];go_enter Tryz.func232,Tryz.ntmps232;go_upto_region 2 with fail;rw[<-j];clear j x0 x1 x2 x3 x4;generalize w.heap.size=be at *;obtain⟨p0,p1,p2,p3,p4,J⟩:=dT E0;obtain⟨C,B,A,z,v,u⟩:=dT Y0;have ae:IntKind.i64.wrap ((fZ y.k:Nat):Int)=((fZ y.k:Nat):Int):=by have:=us y.k;rw[Im];omega
 go_quiet ((first|(go_at_call 245;exact Calls.quiet_of_same (DU _ _))|(go_at_call 246;exact Calls.quiet_of_same (BP _ _ Y _))))
 have d1:=zV w0 o0 nq;have t:=H0.stp0 d1;have d:=P.stp0 d1;have n:=(s0.trans d1).i12;have Q:Blk (w0.drewN nq) o0 0 be (bxX e (GF ⟨b,off,GE⟩) cap):=⟨E0,l0⟩;have E:Blk (w0.drewN nq) o0 0 (be+1) (bxX y ak ck):=⟨Y0,l1⟩;clear H0 P s0 d1 E0 Y0 l0 l1 p0 p1 p2 p3 p4 J C B A z v u;generalize w0.drewN nq=w1 at *;by_cases g:fZ y.k<mA e.k i
 ·have Z:¬((mA e.k i:Nat):Int)<=((fZ y.k:Nat):Int):=by omega
  have c2:=jd [40] t (by simp);have q:Hid (ic e y i st=eq [41] (gV (oEx y false (eq [40] (eB st))))):=by show oE _ _ _ _ _ _ _ _=_;unfold oE;rw[if_pos g];rfl
  have p:∀ x,oEx y false (eq [40] (eB st))=GF x->1<=x.o:=iR (((Bal.refl (eB st)).put [40]).trans (Dj y false _));generalize eq [40] (eB st)=F at *;clear t g;go_wp2_with fail;refine c2.mono ?_;rintro M w2 ⟨rfl,D,s,s2⟩;have O:=d.stp s2;have Y2:=E.stp s2;have c:=n.trans s2;clear c2 n s2 Q E d;obtain⟨C,B,A,z,v,u⟩:=dT Y2.1;have c3:=V y ak ck false wb F w2 D U R O s;rw[dU] at c3;generalize oEx y false F=l at *;go_wp2_with fail;refine c3.mono ?_;rintro M w3 ⟨rfl,o3,H3,s3⟩;have I:=c.trans s3;obtain⟨oo,d1,df,s4,H4⟩:=H3.lea p;have G:=I.trans s4;generalize gV l=ad at *;clear c3 s3 I c s4 H3 s O Y2 C B A z v u p;go_upto_region 7 with fail;generalize w3.setCell ⟨wb,1,GE⟩ (.int .i64 (Hs (oo-1)))=w4 at *;clear d1 df;have c5:=fB [41] H4 (by simp);go_wp2_with fail;refine c5.mono ?_;rintro M w5 ⟨rfl,o5,H5,s5⟩;have W:=G.trans s5;clear c5 s5 G H4;go_wp2
  go_end0
  exact⟨rfl,o5,by rw[q.out];exact H5,W⟩
 ·have Z:((mA e.k i:Nat):Int)<=((fZ y.k:Nat):Int):=by omega
  have q:Hid (ic e y i st=oEx y (e.k==21&&decide (i=0)) st):=by show oE _ _ _ _ _ _ _ _=_;unfold oE;rw[if_neg g];rfl
  clear g;obtain⟨p0,p1,p2,p3,p4,J⟩:=dT Q.1;obtain⟨C,B,A,z,v,u⟩:=dT E.1;by_cases f:e.k=21
  ·have aa:(e.k==21)=true:=by simp[f]
   by_cases L:i=0
   ·have b0:((i:Int)==0)=true:=by simp[L]
    have a:(e.k==21&&decide (i=0))=true:=by simp[f,L]
    rw[a] at q;have c2:=V y ak ck true wb st w1 o0 U R d t;rw[dU] at c2;generalize oEx y true st=l at *;clear f L a;go_wp2_with fail;refine c2.mono ?_;rintro M w2 ⟨rfl,D,s,s2⟩;have c:=n.trans s2;clear c2 n s2 t d Q E p0 p1 p2 p3 p4 J C B A z v u;go_wp2
    (try simp only[Jx,Exit.then])
    refine GK (I3 rfl _ _ _) rfl ?_;exact⟨rfl,D,by rw[q.out];exact s,c⟩
   ·have b0:((i:Int)==0)=false:=by simp;omega
    have a:(e.k==21&&decide (i=0))=false:=by simp[L]
    rw[a] at q;have c2:=V y ak ck false wb st w1 o0 U R d t;rw[dU] at c2;generalize oEx y false st=l at *;clear f L a;go_wp2_with fail;refine c2.mono ?_;rintro M w2 ⟨rfl,D,s,s2⟩;have c:=n.trans s2;clear c2 n s2 t d Q E p0 p1 p2 p3 p4 J C B A z v u;go_wp2
    (try simp only[Jx,Exit.then])
    refine GK (I3 rfl _ _ _) rfl ?_;exact⟨rfl,D,by rw[q.out];exact s,c⟩
  ·have aa:(e.k==21)=false:=bne f;have a:(e.k==21&&decide (i=0))=false:=by simp[f]
   rw[a] at q;have c2:=V y ak ck false wb st w1 o0 U R d t;rw[dU] at c2;generalize oEx y false st=l at *;clear f a;go_wp2_with fail;refine c2.mono ?_;rintro M w2 ⟨rfl,D,s,s2⟩;have c:=n.trans s2;clear c2 n s2 t d Q E p0 p1 p2 p3 p4 J C B A z v u;go_wp2
   (try simp only[Jx,Exit.then])
   refine GK (I3 rfl _ _ _) rfl ?_;exact⟨rfl,D,by rw[q.out];exact s,c⟩
theorem vj {w:GI}{o:Nat->Nat}{wb:Nat}{st:Ow}(h:WQ w o wb st):eq [] st=st:=by
 match st,h with
 | none,h=>rfl
 | some s,h =>
  have:=h.2.1
  simp only[eq,IK,JE];rw[if_neg (by omega)]
theorem oD (x:Ex)(r:Fs)(b:Bool)(g:Sep)(i:Nat)(s:Ow):oFs (Fs.ex x r) b g i s=oFs r false g (i+1) (oE x.k x.n x.nm x.kids.len b (g i).2 (λg s=>oFs x.kids (x.k==21) g 0 s) (eq (g i).1 s)):=rfl
theorem it (e y:Ex)(i:Nat)(s:Ow){flag:Bool}{asked:Nat}(h1:flag=(e.k==21&&decide (i=0)))(h2:asked=mA e.k i):oE y.k y.n y.nm y.kids.len flag asked (λg s=>oFs y.kids (y.k==21) g 0 s) s=ic e y i s:=by subst h1 h2;rfl
theorem iO (e y:Ex)(i:Nat)(s:Ow):Bal s (ic e y i s):=DK (λg s=>lE _ _ _ _ _) s
theorem Fs.app_rng:∀ {x y:Fs},(x.app y).rng->y.rng
 | ⟨GE⟩,y,h=>h
 | ⟨GF ⟨k,n,nm,a,ks,r⟩⟩,y,h=>Fs.app_rng h.2.2.2
theorem Ex.kidfit {e:Ex}(h:e.fit){x:Fs}{y:Ex}{r:Fs}(a:e.kids=x.app (Fs.ex y r)):y.fit:=by
 have h1:=Fs.app_short (by rw[<-a];exact h.sh);have h2:=Fs.app_rng (by rw[<-a];exact h.rng);exact⟨h1.1,h1.2.2.1,h1.2.1,h2.1,h2.2.1,h2.2.2.1⟩
theorem rS:∀ (x:Fs) (y:Ex) (r:Fs),x.app (Fs.ex y r)=(x.snoc y).app r
 | ⟨GE⟩,y,r=>by simp only[Fs.snoc,Fs.app,one];rfl
 | ⟨GF ⟨k,n,nm,a,ks,b⟩⟩,y,r=>by
  have:=rS b y r
  simp only[Fs.snoc] at this ⊢;simp only[Fs.app];rw[this]
theorem qO {N:Nat}(IH:kF N)(e:Ex)(s:e.k=20\/e.k=24\/e.k=25)(hN:e.kids.size<=N)(he:e.fit)(ao:Option Ha)(cap wb:Nat)(st:Ow)(w:GI)(o:Nat->Nat)(S:Sl w (L0 o) e.kids ao)(H:WQ w o wb st) :
  GV GH 247 #[.pointer (GF ⟨wb,0,GE⟩),exV e ao cap] w (iV w o wb (oFs e.kids (e.k==21) iY 0 st)):=by
 have n:(e.k==21)=false:=bne (by omega);have l:∀ i,mA e.k i=0:=λi=>by rcases s with h|h|h<;>rw[h]<;>rfl
 rw[n];obtain⟨W,Q⟩:=exq (oFs e.kids false iY 0 st);rw[<-Q];have HW:Hid (oFs e.kids false iY 0 st=W):=Q.symm;have Y:Hid ((e.k==21)=false):=n;have HA:Hid (∀ i,mA e.k i=0):=l;have aa:=he.len;have s0:=et (λ_=>False) w o (bxX e ao cap);have E0:Blk (w.alloc (bxX e ao cap)) (dR w o 0) 0 w.heap.size (bxX e ao cap):=jG w o _ _;have S0:=S.stp0 s0;have H0:=H.stp0 s0;have T0:=s0.i12;clear Q n l S H s0 s;rw[dU];go_enter Tryz.func247,Tryz.ntmps247;go_upto_region 1 with fail;generalize w.alloc (bxX e ao cap)=w0 at *;generalize dR w o 0=o0 at *;generalize w.heap.size=be at *;go_wp2_with fail;go_loopw [4] (λv wr=>∃(done r:Fs) (u:Ow) (o':Nat->Nat),Hid (e.kids=done.app r)/\v=.int .i64 (done.len:Nat)/\Hid (oFs r false iY done.len u=W)/\WQ wr o' wb u/\Blk wr o' 0 be (zEx e ao cap)/\Sl wr (L0 o') e.kids ao/\dQ I12 w o wr o') (λv _=>e.kids.len-(Hl v).toNat)
 case atStart=>exact⟨.nil,e.kids,st,o0,rfl,by show _=GX .i64 ((0:Nat):Int);rfl,HW,H0,E0,S0,T0⟩
 case round =>
  clear HW H0 E0 S0 T0;obtain⟨done,r,u,I,hk,rfl,q,m,B,x,p⟩:=hrel;have a:e.kids.len=done.len+r.len:=by rw[hk.out,Fs.len_app]
  obtain⟨p0,p1,p2,p3,p4,E⟩:=dT B.1;cases r using Fs.on with
  | nil =>
   have O:¬(done.len:Int)<(e.kids.len:Int):=by simp only[Fs.len] at a;omega
   have L:u=W:=q.out;subst L;clear q a;go_wp2
   go_end0
   exact⟨rfl,I,m,p⟩
  | cons kk kn km ka J d =>
   have O:(done.len:Int)<(e.kids.len:Int):=by simp only[Fs.len] at a;omega
   obtain⟨c3,cf,-,-⟩:=m.end;cases u with
   | none =>
    have L:W=GE:=by rw[<-q.out];exact mx _ _ _ _
    have c3:wr.cell? ⟨wb,3,GE⟩=GF (.bool false):=c3;subst L;clear q a;go_wp2
    go_end0
    exact⟨rfl,I,m,p⟩
   | some C =>
    have c3:wr.cell? ⟨wb,3,GE⟩=GF (.bool true):=c3;obtain⟨y,K⟩:∃y:Ex,y=⟨kk,kn,km,ka,J⟩:=⟨_,rfl⟩;have b:e.kids=done.app (Fs.ex y d):=by rw[hk.out,K];rfl
    have f:y.fit:=Ex.kidfit he b;have g:y.kids.size<N:=by
     have:e.kids.size=done.size+(y.kids.size+d.size+1):=by rw[b,Fs.size_app];rfl
     omega
    have j:Hid (oFs d false iY (done.len+1) (ic e y done.len (eq (iY done.len).1 (GF C)))=W):=by
     show _=W;rw[<-q.out,<-it e y done.len _ (flag:=false) (asked:=0) (by rw[Y.out];rfl) (HA.out _).symm,K];rfl
    have z:Hid (e.kids=(done.snoc y).app d):=by show _=_;rw[b,rS]
    have M:done.len+1<=1000000000:=by simp only[Fs.len] at a;omega
    have A:=GP b;clear q K a b;by_cases F:done.len=0
    ·have P:¬(0:Int)<(done.len:Int):=by omega
     have V:Hid (oFs d false iY (done.len+1) (ic e y done.len (GF C))=W):=by
      show _=W;rw[<-j.out]
      have:(iY done.len).1=[]:=by unfold iY;simp[F]
      rw[this,vj m]
     have c5:=jw IH e y done d A.out done.len rfl (by omega) g f ao cap wb _ wr I x m;rw[dU] at c5;clear j F f g;generalize ic e y done.len (GF C)=u5 at *;go_wp2_with fail;refine c5.mono ?_;rintro e2 w5 ⟨rfl,G,X,c⟩;have R:=p.trans c;have T:=x.stp c;have Z:=B.stp c;clear c5 m p x B c p0 p1 p2 p3 p4 E c3 cf;go_wp2;go_roundw
     case rel=>(try ((repeat apply G9);refine⟨?_,rfl⟩));exact⟨done.snoc y,d,u5,G,z,by rw[Fs.len_snoc];go_num,by rw[Fs.len_snoc];exact V,X,Z,T,R⟩
     case measure=>simp[Hl];omega
    ·have P:(0:Int)<(done.len:Int):=by omega
     have t:(iY done.len).1=[44,32]:=by unfold iY;simp[F]
     rw[t] at j;have c4:=fB [44,32] m (by simp);generalize eq [44,32] (GF C)=u4 at *;clear F t;go_wp2_with fail;refine c4.mono ?_;rintro e2 w4 ⟨rfl,o4,H4,D⟩;have T4:=p.trans D;have U:=x.stp D;have E4:=B.stp D;clear c4 m p x B D p0 p1 p2 p3 p4 E c3 cf;obtain⟨p0,p1,p2,p3,p4,E⟩:=dT E4.1;have c5:=jw IH e y done d A.out done.len rfl (by omega) g f ao cap wb _ w4 o4 U H4;rw[dU] at c5;clear f g;generalize ic e y done.len u4=u5 at *;go_wp2_with fail;refine c5.mono ?_;rintro e2 w5 ⟨rfl,G,X,c⟩;have R:=T4.trans c;have T:=U.stp c;have Z:=E4.stp c;clear c5 H4 T4 U E4 c p0 p1 p2 p3 p4 E;go_wp2;go_roundw
     case rel=>(try ((repeat apply G9);refine⟨?_,rfl⟩));exact⟨done.snoc y,d,u5,G,z,by rw[Fs.len_snoc];go_num,by rw[Fs.len_snoc];exact j,X,Z,T,R⟩
     case measure=>simp[Hl];omega
theorem yk (l m:List UInt8):(⟨l.toArray⟩:ByteArray)++⟨m.toArray⟩=⟨(l++m).toArray⟩:=by
 apply ByteArray.ext;simp
theorem yK {N:Nat}(IH:kF N)(e:Ex)(ab:e.kids.size<=N)(R:e.fit)(ao:Option Ha)(cap wb:Nat)(st:Ow)(w:GI)(o:Nat->Nat)(S:Sl w (L0 o) e.kids ao)(H:WQ w o wb st)(c:e.k=19)(hl:e.kids.len=3) :
  GV GH 233 #[.pointer (GF ⟨wb,0,GE⟩),exV e ao cap] w (iV w o wb (eL e.k e.n e.nm (λg s=>oFs e.kids (e.k==21) g 0 s) st)):=by
 obtain⟨x,y,z,b⟩:=BI hl;have m:Hid (e.kids=Fs.app .nil (Fs.ex x (Fs.ex y (Fs.ex z .nil)))):=b;have l:Hid (e.kids=Fs.app (one x) (Fs.ex y (Fs.ex z .nil))):=by show _=_;rw[b];rfl
 have j:Hid (e.kids=Fs.app ((one x).snoc y) (Fs.ex z .nil)):=by show _=_;rw[b];rfl
 have M:e.kids.size=x.kids.size+(y.kids.size+(z.kids.size+0+1)+1)+1:=by rw[b];rfl
 have V:x.kids.size<N:=by omega
 have U:y.kids.size<N:=by omega
 have T:z.kids.size<N:=by omega
 have Q:=Ex.kidfit R m.out;have P:=Ex.kidfit R l.out;have O:=Ex.kidfit R j.out;have HF:Hid (eL e.k e.n e.nm (λg s=>oFs e.kids (e.k==21) g 0 s) st=gV (ic e z 2 (eq [32,101,108,115,101,32] (ic e y 1 (eq [32,116,104,101,110,32] (ic e x 0 (eq [105,102,32] (eB st)))))))):=by
  show _=_;unfold eL;rw[if_neg (by omega),if_neg (by omega),if_pos c];simp only[b,oD];rw[it e x 0 _ (by rw[c];rfl) (by rw[c];rfl),it e y 1 _ (by rw[c];rfl) (by rw[c];rfl),it e z 2 _ (by rw[c];rfl) (by rw[c];rfl)];rfl
 have ac:(e.k==19)=true:=by simp[c]
 clear b c hl M;have s0:=et (λ_=>False) w o (bxX e ao cap);have E0:Blk (w.alloc (bxX e ao cap)) (dR w o 0) 0 w.heap.size (bxX e ao cap):=jG w o _ _;have S0:=S.stp0 s0;have H0:=H.stp0 s0;have T0:=s0.i12;clear S H s0;rw[dU];go_enter Tryz.func233,Tryz.ntmps233;go_upto_region 1 with fail;generalize w.alloc (bxX e ao cap)=w0 at *;generalize dR w o 0=o0 at *;generalize w.heap.size=be at *;obtain⟨p0,p1,p2,p3,p4,a⟩:=dT E0.1;have c1:=jd [105,102,32] H0 (by simp);have v:Bal (eB st) (eq [105,102,32] (eB st)):=(Bal.refl _).put [105,102,32];have hp:Hid (∀ s,Bal (eB st) s->∀ x,s=GF x->1<=x.o):=λs h=>iR h;generalize eq [105,102,32] (eB st)=i at *;generalize eB st=se at *;go_wp2_with fail;refine c1.mono ?_;rintro A w1 ⟨rfl,o1,H1,G⟩;have T1:=T0.trans G;have S1:=S0.stp G;have E1:=E0.stp G;clear c1 H0 T0 S0 E0 G p0 p1 p2 p3 p4 a;obtain⟨p0,p1,p2,p3,p4,a⟩:=dT E1.1;have c2:=jw IH e x .nil (Fs.ex y (Fs.ex z .nil)) m.out 0 rfl (by omega) (V) (Q) ao cap wb i w1 o1 S1 H1;rw[dU] at c2;have u:=v.trans (iO e x 0 i);generalize ic e x 0 i=K at *;go_wp2_with fail;refine c2.mono ?_;rintro A w2 ⟨rfl,o2,H2,s2⟩;have T2:=T1.trans s2;have S2:=S1.stp s2;have E2:=E1.stp s2;clear c2 H1 T1 S1 E1 s2 p0 p1 p2 p3 p4 a v;obtain⟨p0,p1,p2,p3,p4,a⟩:=dT E2.1;have c3:=fB [32,116,104,101,110,32] H2 (by simp);have t:=u.put [32,116,104,101,110,32];generalize eq [32,116,104,101,110,32] K=f at *;go_wp2_with fail;refine c3.mono ?_;rintro A w3 ⟨rfl,o3,H3,F⟩;have T3:=T2.trans F;have S3:=S2.stp F;have E3:=E2.stp F;clear c3 H2 T2 S2 E2 F p0 p1 p2 p3 p4 a u;obtain⟨p0,p1,p2,p3,p4,a⟩:=dT E3.1;have c4:=jw IH e y (one x) (Fs.ex z .nil) l.out 1 rfl (by omega) (U) (P) ao cap wb f w3 o3 S3 H3;rw[dU] at c4;have r:=t.trans (iO e y 1 f);generalize ic e y 1 f=J at *;go_wp2_with fail;refine c4.mono ?_;rintro A w4 ⟨rfl,o4,H4,E⟩;have T4:=T3.trans E;have S4:=S3.stp E;have E4:=E3.stp E;clear c4 H3 T3 S3 E3 E p0 p1 p2 p3 p4 a t;obtain⟨p0,p1,p2,p3,p4,a⟩:=dT E4.1;have c5:=fB [32,101,108,115,101,32] H4 (by simp);have q:=r.put [32,101,108,115,101,32];generalize eq [32,101,108,115,101,32] J=d at *;go_wp2_with fail;refine c5.mono ?_;rintro A w5 ⟨rfl,o5,H5,D⟩;have T5:=T4.trans D;have Z:=S4.stp D;have E5:=E4.stp D;clear c5 H4 T4 S4 E4 D p0 p1 p2 p3 p4 a r;obtain⟨p0,p1,p2,p3,p4,a⟩:=dT E5.1;have Y:=jw IH e z ((one x).snoc y) .nil j.out 2 rfl (by omega) (T) (O) ao cap wb d w5 o5 Z H5;rw[dU] at Y;have p:=q.trans (iO e z 2 d);generalize ic e z 2 d=I at *;go_wp2_with fail;refine Y.mono ?_;rintro A w6 ⟨rfl,o6,H6,C⟩;have T6:=T5.trans C;have S6:=Z.stp C;have E6:=E5.stp C;clear Y H5 T5 Z E5 C p0 p1 p2 p3 p4 a q;obtain⟨p0,p1,p2,p3,p4,a⟩:=dT E6.1;obtain⟨L,X,W,B,H7⟩:=H6.lea (hp.out _ p);generalize gV I=aa at *;have T7:=T6.trans B;have S7:=S6.stp B;have E7:=E6.stp B;go_wp2;generalize w6.setCell ⟨wb,1,GE⟩ (.int .i64 (Hs (L-1)))=w7 at *;clear X W H6 T6 S6 E6 B p0 p1 p2 p3 p4 a hp p;generalize o6=o7 at *;obtain⟨p0,p1,p2,p3,p4,a⟩:=dT E7.1
 go_end0
 exact⟨rfl,o7,by rw[HF.out];exact H7,T7⟩
theorem rF {N:Nat}(IH:kF N)(e:Ex)(v:e.kids.size<=N)(he:e.fit)(ao:Option Ha)(cap wb:Nat)(st:Ow)(w:GI)(o:Nat->Nat)(S:Sl w (L0 o) e.kids ao)(H:WQ w o wb st)(u:e.k=24) :
  GV GH 233 #[.pointer (GF ⟨wb,0,GE⟩),exV e ao cap] w (iV w o wb (eL e.k e.n e.nm (λg s=>oFs e.kids (e.k==21) g 0 s) st)):=by
 have b:e.k=20\/e.k=24\/e.k=25:=by omega
 have HF:Hid (eL e.k e.n e.nm (λg s=>oFs e.kids (e.k==21) g 0 s) st=eq [41] (gV (oFs e.kids (e.k==21) iY 0 (eq [40] (eB (eq [97,114,111,117,110,100] st)))))):=by
  show _=_;unfold eL;rw[if_neg (by omega),if_neg (by omega),if_neg (by omega),if_neg (by omega),if_neg (by omega),if_pos u];rfl
 have ae:(e.k==19)=false:=bne (by omega);have ac:(e.k==21)=false:=bne (by omega);have ad:(e.k==20)=false:=bne (by omega);have ab:(e.k==24)=true:=by simp[u]
 have C:=GP b;clear u b;have s0:=et (λ_=>False) w o (bxX e ao cap);have I:Blk (w.alloc (bxX e ao cap)) (dR w o 0) 0 w.heap.size (bxX e ao cap):=jG w o _ _;have U:=S.stp0 s0;have Z:=H.stp0 s0;have P:=s0.i12;clear S H s0;rw[dU];go_enter Tryz.func233,Tryz.ntmps233;go_upto_region 1 with fail;generalize w.alloc (bxX e ao cap)=w0 at *;generalize dR w o 0=o0 at *;generalize w.heap.size=be at *;obtain⟨p0,p1,p2,p3,p4,c⟩:=dT I.1;have c1:=fB [97,114,111,117,110,100] Z (by simp);generalize eq [97,114,111,117,110,100] st=a at *;go_wp2_with fail;refine c1.mono ?_;rintro y w1 ⟨rfl,o1,Y,p⟩;have O:=P.trans p;have T:=U.stp p;have G:=I.stp p;clear c1 Z P U I p p0 p1 p2 p3 p4 c;obtain⟨p0,p1,p2,p3,p4,c⟩:=dT G.1;have c2:=jd [40] Y (by simp);have i:Bal (eB a) (eq [40] (eB a)):=(Bal.refl _).put [40];have J:Hid (∀ s,Bal (eB a) s->∀ x,s=GF x->1<=x.o):=λs h=>iR h;generalize eq [40] (eB a)=d at *;generalize eB a=se at *;go_wp2_with fail;refine c2.mono ?_;rintro y w2 ⟨rfl,o2,X,s2⟩;have M:=O.trans s2;have B:=T.stp s2;have F:=G.stp s2;clear c2 Y O T G s2 p0 p1 p2 p3 p4 c;obtain⟨p0,p1,p2,p3,p4,c⟩:=dT F.1;have b:=C.out;have c3:=qO IH e b v he ao cap wb d w2 o2 B X;rw[dU] at c3;have f:=i.trans (lE e.kids (e.k==21) iY 0 d);generalize oFs e.kids (e.k==21) iY 0 d=r at *;go_wp2_with fail;refine c3.mono ?_;rintro y w3 ⟨rfl,o3,W,m⟩;have L:=M.trans m;have R:=B.stp m;have E:=F.stp m;clear c3 X M B F m p0 p1 p2 p3 p4 c i;obtain⟨p0,p1,p2,p3,p4,c⟩:=dT E.1;clear b;obtain⟨t,A,z,l,V⟩:=W.lea (J.out _ f);generalize gV r=q at *;have K:=L.trans l;have Q:=R.stp l;have D:=E.stp l;go_upto_region 35 with fail;generalize w3.setCell ⟨wb,1,GE⟩ (.int .i64 (Hs (t-1)))=w4 at *;clear A z W L R E l p0 p1 p2 p3 p4 c J f;generalize o3=o4 at *;obtain⟨p0,p1,p2,p3,p4,c⟩:=dT D.1;have c5:=fB [41] V (by simp);generalize eq [41] q=aa at *;go_wp2_with fail;refine c5.mono ?_;rintro y w5 ⟨rfl,o5,H5,j⟩;have T5:=K.trans j;have S5:=Q.stp j;have E5:=D.stp j;clear c5 V K Q D j p0 p1 p2 p3 p4 c;obtain⟨p0,p1,p2,p3,p4,c⟩:=dT E5.1;go_wp2
 go_end0
 exact⟨rfl,o5,by rw[HF.out];exact H5,T5⟩
theorem tH {N:Nat}(IH:kF N)(e:Ex)(r:e.kids.size<=N)(Y:e.fit)(ao:Option Ha)(cap wb:Nat)(st:Ow)(w:GI)(o:Nat->Nat)(S:Sl w (L0 o) e.kids ao)(H:WQ w o wb st)(E:e.k=25) :
  GV GH 233 #[.pointer (GF ⟨wb,0,GE⟩),exV e ao cap] w (iV w o wb (eL e.k e.n e.nm (λg s=>oFs e.kids (e.k==21) g 0 s) st)):=by
 have a:e.k=20\/e.k=24\/e.k=25:=by omega
 have HF:Hid (eL e.k e.n e.nm (λg s=>oFs e.kids (e.k==21) g 0 s) st=eq [125] (gV (oFs e.kids (e.k==21) iY 0 (eq [123] (eB st))))):=by
  show _=_;unfold eL;rw[if_neg (by omega),if_neg (by omega),if_neg (by omega),if_neg (by omega),if_neg (by omega),if_neg (by omega),if_pos E];rfl
 have ac:(e.k==19)=false:=bne (by omega);have aa:(e.k==21)=false:=bne (by omega);have ab:(e.k==20)=false:=bne (by omega);have Z:(e.k==24)=false:=bne (by omega);have y:=GP a;clear E a;have s0:=et (λ_=>False) w o (bxX e ao cap);have C:Blk (w.alloc (bxX e ao cap)) (dR w o 0) 0 w.heap.size (bxX e ao cap):=jG w o _ _;have O:=S.stp0 s0;have T:=H.stp0 s0;have K:=s0.i12;clear S H s0;rw[dU];go_enter Tryz.func233,Tryz.ntmps233;go_upto_region 1 with fail;generalize w.alloc (bxX e ao cap)=w0 at *;generalize dR w o 0=o0 at *;generalize w.heap.size=be at *;obtain⟨p0,p1,p2,p3,p4,b⟩:=dT C.1;have c1:=jd [123] T (by simp);have f:Bal (eB st) (eq [123] (eB st)):=(Bal.refl _).put [123];have D:Hid (∀ s,Bal (eB st) s->∀ x,s=GF x->1<=x.o):=λs h=>iR h;generalize eq [123] (eB st)=c at *;generalize eB st=se at *;go_wp2_with fail;refine c1.mono ?_;rintro F w1 ⟨rfl,X,R,l⟩;have J:=K.trans l;have v:=O.stp l;have B:=C.stp l;clear c1 T K O C l p0 p1 p2 p3 p4 b;obtain⟨p0,p1,p2,p3,p4,b⟩:=dT B.1;have a:=y.out;have c2:=qO IH e a r Y ao cap wb c w1 X v R;rw[dU] at c2;have d:=f.trans (lE e.kids (e.k==21) iY 0 c);generalize oFs e.kids (e.k==21) iY 0 c=p at *;go_wp2_with fail;refine c2.mono ?_;rintro F w2 ⟨rfl,W,Q,s2⟩;have I:=J.trans s2;have M:=v.stp s2;have A:=B.stp s2;clear c2 R J v B s2 p0 p1 p2 p3 p4 b f;obtain⟨p0,p1,p2,p3,p4,b⟩:=dT A.1;clear a;obtain⟨q,u,t,j,P⟩:=Q.lea (D.out _ d);generalize gV p=m at *;have G:=I.trans j;have L:=M.stp j;have z:=A.stp j;go_upto_region 5 with fail;generalize w2.setCell ⟨wb,1,GE⟩ (.int .i64 (Hs (q-1)))=w3 at *;clear u t Q I M A j p0 p1 p2 p3 p4 b D d;generalize W=o3 at *;obtain⟨p0,p1,p2,p3,p4,b⟩:=dT z.1;have c4:=fB [125] P (by simp);generalize eq [125] m=U at *;go_wp2_with fail;refine c4.mono ?_;rintro F w4 ⟨rfl,V,H4,i⟩;have T4:=G.trans i;have S4:=L.stp i;have E4:=z.stp i;clear c4 P G L z i p0 p1 p2 p3 p4 b;obtain⟨p0,p1,p2,p3,p4,b⟩:=dT E4.1;go_wp2
 go_end0
 exact⟨rfl,V,by rw[HF.out];exact H4,T4⟩
theorem Gu {n:Int}(h:1<=n/\n<=10):cwL[(n-1).toNat]?=GF (kt n):=by
 have:n=1\/n=2\/n=3\/n=4\/n=5\/n=6\/n=7\/n=8\/n=9\/n=10:=by omega
 rcases this with rfl|rfl|rfl|rfl|rfl|rfl|rfl|rfl|rfl|rfl<;>rfl
theorem Gi {n:Int}(h:1<=n/\n<=6):qwL[(n-1).toNat]?=GF (jT n):=by
 have:n=1\/n=2\/n=3\/n=4\/n=5\/n=6:=by omega
 rcases this with rfl|rfl|rfl|rfl|rfl|rfl<;>rfl
theorem tC {N:Nat}(IH:kF N)(e:Ex)(U:e.kids.size<=N)(he:e.fit)(ao:Option Ha)(cap wb:Nat)(st:Ow)(w:GI)(o:Nat->Nat)(S:Sl w (L0 o) e.kids ao)(H:WQ w o wb st)(T:e.k=20)(hn:1<=e.n/\e.n<=10) :
  GV GH 233 #[.pointer (GF ⟨wb,0,GE⟩),exV e ao cap] w (iV w o wb (eL e.k e.n e.nm (λg s=>oFs e.kids (e.k==21) g 0 s) st)):=by
 have d:e.k=20\/e.k=24\/e.k=25:=by omega
 have HF:Hid (eL e.k e.n e.nm (λg s=>oFs e.kids (e.k==21) g 0 s) st=eq [41] (gV (oFs e.kids (e.k==21) iY 0 (eq [40] (eB (eq (kt e.n) st)))))):=by
  show _=_;unfold eL;rw[if_neg (by omega),if_neg (by omega),if_neg (by omega),if_neg (by omega),if_pos T];rfl
 have ag:(e.k==19)=false:=bne (by omega);have ae:(e.k==21)=false:=bne (by omega);have af:(e.k==20)=true:=by simp[T]
 have Y:=GP d;have r:=Gu hn;obtain⟨j,hj⟩:=exq ((e.n-1).toNat);rw[<-hj] at r;have ab:IntKind.i64.wrap (e.n-1)=(j:Int):=by rw[Im];omega
 have ad:j<10:=by omega
 have ac:(j:Int)<10:=by omega
 have HP:Hid (∀ wx t,WQ wx t wb st->GV GH 229 #[.pointer (GF ⟨wb,0,GE⟩),stv (kt e.n)] wx (iV wx t wb (eq (kt e.n) st))):=λwx t h=>fB _ h (by have:=yw e.n;omega);generalize eq (kt e.n) st=c at *;generalize kt e.n=cw at *;have Z:=GP r;clear T d hn hj r;have s0:=et (λ_=>False) w o (bxX e ao cap);have O:Blk (w.alloc (bxX e ao cap)) (dR w o 0) 0 w.heap.size (bxX e ao cap):=jG w o _ _;have S0:=S.stp0 s0;have H0:=H.stp0 s0;have T0:=s0.i12;clear S H s0;rw[dU];go_enter Tryz.func233,Tryz.ntmps233;go_upto_region 1 with fail;generalize w.alloc (bxX e ao cap)=w0 at *;generalize dR w o 0=o0 at *;generalize w.heap.size=u at *;have f:Hid (∀ wx t,Blk wx t 0 u (bxX e ao cap)->wx.cell? ⟨u,1,GE⟩=GF (.int .i64 e.n)):=λwx t h=>(dT h.1).2.1;have B:Blk w0.drew o0 0 u (bxX e ao cap):=O;obtain⟨p0,p1,p2,p3,p4,l⟩:=dT O.1;go_upto_region 25 with fail;go_cut [105] (λv wx=>∃q,WQ wx q wb c/\Blk wx q 0 u (bxX e ao cap)/\Sl wx (L0 q) e.kids ao/\dQ I12 w o wx q)
 case first =>
  refine wp_region_held_drew (S:=λwx=>wx.cell? ⟨u,1,GE⟩=GF (.int .i64 e.n)) (by kernel_rfl) (f.out _ _ B) (λb=>?_);refine Ic (i:=0) (v:=?v1) rfl (by kernel_rfl) (by kernel_rfl) (by kernel_rfl) (λ_ _ _ h=>h) (I2 ⟨by rfl,?hy1⟩) (by assumption) ?rest1
  case hy1=>(intro w a;(try dsimp only at a);go_simp;all_goals (with_reducible rfl))
  simp only[It,Hd,G0,G1,GY,Hg,Hh];refine Ic (i:=2) (v:=?v2) rfl (by kernel_rfl) (by kernel_rfl) (by kernel_rfl) (λ_ _ _ h=>h) (I2 ⟨by rfl,?hy2⟩) (by assumption) ?rest2
  case hy2=>(intro w a;(try dsimp only at a);go_simp;all_goals (with_reducible rfl))
  simp only[It,Hd,G0,G1,GY,Hg,Hh];refine Ic (i:=3) (v:=?v3) rfl (by kernel_rfl) (by kernel_rfl) (by kernel_rfl) (λ_ _ _ h=>h) (I2 ⟨by rfl,?hy3⟩) (by assumption) ?rest3
  case hy3=>(intro w a;(try dsimp only at a);go_simp;all_goals (with_reducible rfl))
  simp only[It,Hd,G0,G1,GY,Hg,Hh];refine Ic (i:=4) (v:=?v4) rfl (by kernel_rfl) (by kernel_rfl) (by kernel_rfl) (λ_ _ _ h=>h) (I2 ⟨by rfl,?hy4⟩) (by assumption) ?rest4
  case hy4=>(intro w a;(try dsimp only at a);go_simp;all_goals (with_reducible rfl))
  simp only[It,Hd,G0,G1,GY,Hg,Hh];refine Jn (rs:=[1]) (by kernel_rfl) (by simp) ?_;refine I5 rfl (λK m=>?_) Jg
  go_simp
  go_wp2_with ((go_at_call 158;refine(vu _).mono ?_;rintro I w1 ⟨g1,rfl,WL⟩;have C:dQ (λ_=>False) w0 o0 w1 o0:=(dQ.refl _ w0 o0).drew.trans (dQ.ofB o0 WL.1);have E1:Blk w1 o0 0 u (bxX e ao cap):=O.step C id;have H1:=H0.stp0 C;have S1:=S0.stp0 C;have T1:=T0.trans C.i12;have ix:=WL.2.2.2 j _ Z.out));refine m.out _ _ (f.out _ _ E1) (λb=>?_);clear m K;refine Ic (i:=5) (v:=?v5) rfl (by kernel_rfl) (by kernel_rfl) (by kernel_rfl) (λ_ _ _ h=>h) (I2 ⟨by rfl,?hy5⟩) (by assumption) ?rest5
  case hy5=>(intro w a;(try dsimp only at a);go_simp;all_goals (with_reducible rfl))
  simp only[It,Hd,G0,G1,GY,Hg,Hh];refine Jn (rs:=[6]) (by kernel_rfl) (by simp) ?_;refine I5 rfl (λK m=>?_) Jg
  go_simp
  refine m.out _ _ (f.out _ _ E1) (λb=>?_);clear m K;refine Jn (rs:=[7]) (by kernel_rfl) (by simp) ?_;refine I5 rfl (λK m=>?_) Jg
  go_simp
  go_wp2_with ((go_at_call 229;refine(HP.out _ _ H1).mono ?_;rintro I w2 ⟨rfl,q,M,s2⟩;have y:=E1.stp s2;have L:=S1.stp s2;have J:=T1.trans s2));refine m.out _ _ (f.out _ _ y) (λb=>?_);clear m K;refine wpAnyH_done (by kernel_rfl) ?_ _;go_wp2;go_meet;exact⟨q,M,y,L,J⟩
 case rest =>
 obtain⟨q,M,y,L,J⟩:=hcut;obtain⟨w2,rfl⟩:=exq wc;clear H0 S0 T0 O B HP f p0 p1 p2 p3 p4 l;obtain⟨p0,p1,p2,p3,p4,l⟩:=dT y.1;have c3:=jd [40] M (by simp);have A:Bal (eB c) (eq [40] (eB c)):=(Bal.refl _).put [40];have hp:Hid (∀ s,Bal (eB c) s->∀ x,s=GF x->1<=x.o):=λs h=>iR h;generalize eq [40] (eB c)=p at *;generalize eB c=se at *;go_wp2_with fail;refine c3.mono ?_;rintro I w3 ⟨rfl,o3,H3,G⟩;have T3:=J.trans G;have X:=L.stp G;have E3:=y.stp G;clear c3 M J L y G p0 p1 p2 p3 p4 l;obtain⟨p0,p1,p2,p3,p4,l⟩:=dT E3.1;have d:=Y.out;have c4:=qO IH e d U he ao cap wb p w3 o3 X H3;rw[dU] at c4;have z:=A.trans (lE e.kids (e.k==21) iY 0 p);generalize oFs e.kids (e.k==21) iY 0 p=Q at *;go_wp2_with fail;refine c4.mono ?_;rintro I w4 ⟨rfl,o4,H4,F⟩;have T4:=T3.trans F;have S4:=X.stp F;have E4:=E3.stp F;clear c4 H3 T3 X E3 F p0 p1 p2 p3 p4 l A;obtain⟨p0,p1,p2,p3,p4,l⟩:=dT E4.1;clear d;obtain⟨R,W,V,E,H5⟩:=H4.lea (hp.out _ z);generalize gV Q=P at *;have T5:=T4.trans E;have S5:=S4.stp E;have E5:=E4.stp E;go_upto_region 29 with fail;generalize w4.setCell ⟨wb,1,GE⟩ (.int .i64 (Hs (R-1)))=w5 at *;clear W V H4 T4 S4 E4 E p0 p1 p2 p3 p4 l hp z;generalize o4=o5 at *;obtain⟨p0,p1,p2,p3,p4,l⟩:=dT E5.1;have c6:=fB [41] H5 (by simp);generalize eq [41] P=aa at *;go_wp2_with fail;refine c6.mono ?_;rintro I w6 ⟨rfl,o6,H6,D⟩;have T6:=T5.trans D;have S6:=S5.stp D;have E6:=E5.stp D;clear c6 H5 T5 S5 E5 D p0 p1 p2 p3 p4 l;obtain⟨p0,p1,p2,p3,p4,l⟩:=dT E6.1;go_wp2
 go_end0
 exact⟨rfl,o6,by rw[HF.out];exact H6,T6⟩
theorem rY {N:Nat}(IH:kF N)(e:Ex)(aO:e.kids.size<=N)(he:e.fit)(ao:Option Ha)(cap wb:Nat)(st:Ow)(w:GI)(o:Nat->Nat)(S:Sl w (L0 o) e.kids ao)(H:WQ w o wb st)(hk:e.k=21)(hn:1<=e.n/\e.n<=6)(hl:e.kids.len=2)(aJ:e.nm.length<=12) :
  GV GH 233 #[.pointer (GF ⟨wb,0,GE⟩),exV e ao cap] w (iV w o wb (eL e.k e.n e.nm (λg s=>oFs e.kids (e.k==21) g 0 s) st)):=by
 obtain⟨x,y,R⟩:=jL hl;have am:Hid (e.kids=Fs.app .nil (Fs.ex x (Fs.ex y .nil))):=R;have al:Hid (e.kids=Fs.app (one x) (Fs.ex y .nil)):=by show _=_;rw[R];rfl
 have aE:e.kids.size=x.kids.size+(y.kids.size+0+1)+1:=by rw[R];rfl
 have az:x.kids.size<N:=by omega
 have ay:y.kids.size<N:=by omega
 have aw:=Ex.kidfit he am.out;have av:=Ex.kidfit he al.out;have HF:Hid (eL e.k e.n e.nm (λg s=>oFs e.kids (e.k==21) g 0 s) st=sf (gV (ic e y 1 (eq [58,32] (ic e x 0 (eq (jT e.n++[32]++e.nm++[32,105,110,32]) (eB (jV st)))))))):=by
  show _=_;unfold eL;rw[if_neg (by omega),if_neg (by omega),if_neg (by omega),if_pos hk];simp only[R,oD];rw[it e x 0 _ (by rw[hk];rfl) (by rw[hk];rfl),it e y 1 _ (by rw[hk];rfl) (by rw[hk];rfl)];rfl
 have aQ:(e.k==19)=false:=bne (by omega);have aP:(e.k==21)=true:=by simp[hk]
 have ak:=Gi hn;obtain⟨j,hj⟩:=exq ((e.n-1).toNat);rw[<-hj] at ak;have aH:IntKind.i64.wrap (e.n-1)=(j:Int):=by rw[Im];omega
 have aN:j<6:=by omega
 have aM:(j:Int)<6:=by omega
 have aI:=yi e.n;have HO:Hid (∀ wx u (su:Ow),WQ wx u wb su->GV GH 231 #[.pointer (GF ⟨wb,0,GE⟩),.string (⟨(jT e.n).toArray⟩++⟨#[32]⟩++⟨e.nm.toArray⟩++⟨#[32,105,110,32]⟩)] wx (iV wx u wb (eq (jT e.n++[32]++e.nm++[32,105,110,32]) (eB su)))):=λwx u su h=>by
  have h9:=jd (jT e.n++[32]++e.nm++[32,105,110,32]) h (by simp only[Hb,Hc,IK];omega);have e9:(⟨(jT e.n).toArray⟩++⟨#[32]⟩++⟨e.nm.toArray⟩++⟨#[32,105,110,32]⟩:ByteArray)=⟨(jT e.n++[32]++e.nm++[32,105,110,32]).toArray⟩:=by
   rw[<-yk,<-yk,<-yk]
  rw[e9];exact h9
 have aL:=jB (jT e.n);have aK:=jB e.nm;have HQ:=GP ak;generalize jT e.n=qw at *;clear R hk hl aE hj ak hn;have s0:=et (λ_=>False) w o (bxX e ao cap);have E0:Blk (w.alloc (bxX e ao cap)) (dR w o 0) 0 w.heap.size (bxX e ao cap):=jG w o _ _;have S0:=S.stp0 s0;have H0:=H.stp0 s0;have T0:=s0.i12;clear S H s0;rw[dU];go_enter Tryz.func233,Tryz.ntmps233;go_upto_region 1 with fail;generalize w.alloc (bxX e ao cap)=w0 at *;generalize dR w o 0=o0 at *;generalize w.heap.size=B at *;have aC:Hid (∀ s,Bal (jV st) s->∀ x,s=GF x->1<=x.q):=λs h=>BV h;obtain⟨qq,c2,cf,L,hh⟩:=H0.qen;have ax:=H0.end.1;generalize jV st=l at *;obtain⟨p0,p1,p2,p3,p4,c⟩:=dT E0.1;obtain⟨w4,F⟩:=exq (w0.setCell ⟨wb,2,GE⟩ (.int .i64 (Hs (qq+1))));have d2:w4.cell? ⟨wb,2,GE⟩=GF (.int .i64 (Hs (qq+1))):=by rw[F];exact World.cell?_setCell_same _ _ _ c2
 have df:∀ j,w4.frozen? ⟨wb,j,GE⟩=false:=λj=>by rw[F];exact(World.frozen?_setCell ..).trans (cf j)
 have d3:w4.cell? ⟨wb,3,GE⟩=GF (.bool st.isSome):=by rw[F];exact(World.cell?_setCell_other _ _ _ _ (by simp)).trans ax
 go_upto_region 16 with fail;rw[<-F];rw[<-F] at hh L;have E4:=E0.stp L;have S4:=S0.stp L;have T4:=T0.trans L;clear F c2 cf ax E0 S0 T0 H0 L p0 p1 p2 p3 p4 c;rcases hh with ⟨hl,H5⟩|⟨hl,H5⟩
 ·have s5:dQ I12 w4 o0 (w4.setCell ⟨wb,3,GE⟩ (.bool false)) o0:=by
   obtain⟨t,aG,aF,ok,hr,_⟩:=H5.raw;obtain⟨v,hb,_⟩:=hr;exact fj _ w4 o0 ⟨wb,3,GE⟩ _ (.inl hb.2)
  have E5:=E4.stp s5;have S5:=S4.stp s5;have T5:=T4.trans s5;go_upto_region 18 with fail;generalize w4.setCell ⟨wb,3,GE⟩ (.bool false)=w5 at *;clear d2 df d3 s5 E4 S4 T4;have f:Hid (∀ wx u,Blk wx u 0 B (bxX e ao cap)->wx.cell? ⟨B,1,GE⟩=GF (.int .i64 e.n)/\wx.cell? ⟨B,2,GE⟩=GF (stv e.nm)):=λwx u h=>⟨(dT h.1).2.1,(dT h.1).2.2.1⟩;have ae:Blk w5.drew o0 0 B (bxX e ao cap):=E5;obtain⟨p0,p1,p2,p3,p4,c⟩:=dT E5.1;have ab:Hid (∀ wx u,WQ wx u wb l->GV GH 231 #[.pointer (GF ⟨wb,0,GE⟩),.string (⟨qw.toArray⟩++⟨#[32]⟩++⟨e.nm.toArray⟩++⟨#[32,105,110,32]⟩)] wx (iV wx u wb (eq (qw++[32]++e.nm++[32,105,110,32]) (eB l)))):=λwx u h=>HO.out wx u l h;have V:Bal (eB l) (eq (qw++[32]++e.nm++[32,105,110,32]) (eB l)):=(Bal.refl _).put _;have hp:Hid (∀ s,Bal (eB l) s->∀ x,s=GF x->1<=x.o):=λs h=>iR h;have Q:Hid (∀ s,Bal (eB l) s->Bal l (gV s)):=λs h=>Bal.lea h;generalize eq (qw++[32]++e.nm++[32,105,110,32]) (eB l)=m at *;clear HO;go_upto_region 18 with fail;go_cut [73] (λv wx=>∃z,WQ wx z wb m/\Blk wx z 0 B (bxX e ao cap)/\Sl wx (L0 z) e.kids ao/\dQ I12 w o wx z)
  case first =>
   refine wp_region_held_drew (S:=λwx=>wx.cell? ⟨B,1,GE⟩=GF (.int .i64 e.n)/\wx.cell? ⟨B,2,GE⟩=GF (stv e.nm)) (by kernel_rfl) (f.out _ _ ae) (λb=>?_);refine Ic (i:=0) (v:=?v6) rfl (by kernel_rfl) (by kernel_rfl) (by kernel_rfl) (λ_ _ _ h=>h) (I2 ⟨by rfl,?hy6⟩) (by assumption) ?rest6
   case hy6=>(intro w a;(try dsimp only at a);go_simp;all_goals (with_reducible rfl))
   simp only[It,Hd,G0,G1,GY,Hg,Hh];refine Ic (i:=2) (v:=?v7) rfl (by kernel_rfl) (by kernel_rfl) (by kernel_rfl) (λ_ _ _ h=>h) (I2 ⟨by rfl,?hy7⟩) (by assumption) ?rest7
   case hy7=>(intro w a;(try dsimp only at a);go_simp;all_goals (with_reducible rfl))
   simp only[It,Hd,G0,G1,GY,Hg,Hh];refine Ic (i:=3) (v:=?v8) rfl (by kernel_rfl) (by kernel_rfl) (by kernel_rfl) (λ_ _ _ h=>h) (I2 ⟨by rfl,?hy8⟩) (by assumption) ?rest8
   case hy8=>(intro w a;(try dsimp only at a);go_simp;all_goals (with_reducible rfl))
   simp only[It,Hd,G0,G1,GY,Hg,Hh];refine Ic (i:=4) (v:=?v9) rfl (by kernel_rfl) (by kernel_rfl) (by kernel_rfl) (λ_ _ _ h=>h) (I2 ⟨by rfl,?hy9⟩) (by assumption) ?rest9
   case hy9=>(intro w a;(try dsimp only at a);go_simp;all_goals (with_reducible rfl))
   simp only[It,Hd,G0,G1,GY,Hg,Hh];refine Ic (i:=8) (v:=?v10) rfl (by kernel_rfl) (by kernel_rfl) (by kernel_rfl) (λ_ _ _ h=>h) (I2 ⟨by rfl,?hy10⟩) (by assumption) ?rest10
   case hy10=>(intro w a;(try dsimp only at a);go_simp;all_goals (with_reducible rfl))
   simp only[It,Hd,G0,G1,GY,Hg,Hh];refine Ic (i:=9) (v:=?v11) rfl (by kernel_rfl) (by kernel_rfl) (by kernel_rfl) (λ_ _ _ h=>h) (I2 ⟨by rfl,?hy11⟩) (by assumption) ?rest11
   case hy11=>(intro w a;(try dsimp only at a);go_simp;all_goals (with_reducible rfl))
   simp only[It,Hd,G0,G1,GY,Hg,Hh];refine Jn (rs:=[1]) (by kernel_rfl) (by simp) ?_;refine I5 rfl (λK A=>?_) Jg
   go_simp
   go_wp2_with ((go_at_call 159;refine(oJ _).mono ?_;rintro e2 w6 ⟨g1,rfl,WL⟩;have sA:dQ (λ_=>False) w5 o0 w6 o0:=(dQ.refl _ w5 o0).drew.trans (dQ.ofB o0 WL.1);have E6:Blk w6 o0 0 B (bxX e ao cap):=E5.step sA id;have H6:=H5.stp0 sA;have S6:=S5.stp0 sA;have T6:=T5.trans sA.i12;have ix:=WL.2.2.2 j _ HQ.out));refine A.out _ _ (f.out _ _ E6) (λb=>?_);clear A K;refine Ic (i:=5) (v:=?v12) rfl (by kernel_rfl) (by kernel_rfl) (by kernel_rfl) (λ_ _ _ h=>h) (I2 ⟨by rfl,?hy12⟩) (by assumption) ?rest12
   case hy12=>(intro w a;(try dsimp only at a);go_simp;all_goals (with_reducible rfl))
   simp only[It,Hd,G0,G1,GY,Hg,Hh];refine Jn (rs:=[6]) (by kernel_rfl) (by simp) ?_;refine I5 rfl (λK A=>?_) Jg
   go_simp
   refine A.out _ _ (f.out _ _ E6) (λb=>?_);clear A K;refine Ic (i:=7) (v:=?v13) rfl (by kernel_rfl) (by kernel_rfl) (by kernel_rfl) (λ_ _ _ h=>h) (I2 ⟨by rfl,?hy13⟩) (by assumption) ?rest13
   case hy13=>(intro w a;(try dsimp only at a);go_simp;rw[if_neg (by omega)])
   simp only[It,Hd,G0,G1,GY,Hg,Hh];refine Ic (i:=10) (v:=?v14) rfl (by kernel_rfl) (by kernel_rfl) (by kernel_rfl) (λ_ _ _ h=>h) (I2 ⟨by rfl,?hy14⟩) (by assumption) ?rest14
   case hy14=>(intro w a;(try dsimp only at a);go_simp;rw[if_neg (by omega)])
   simp only[It,Hd,G0,G1,GY,Hg,Hh];refine Ic (i:=11) (v:=?v15) rfl (by kernel_rfl) (by kernel_rfl) (by kernel_rfl) (λ_ _ _ h=>h) (I2 ⟨by rfl,?hy15⟩) (by assumption) ?rest15
   case hy15=>(intro w a;(try dsimp only at a);go_simp;rw[if_neg (by omega)])
   simp only[It,Hd,G0,G1,GY,Hg,Hh];refine Jn (rs:=[12]) (by kernel_rfl) (by simp) ?_;refine I5 rfl (λK A=>?_) Jg
   go_simp
   go_wp2_with ((go_at_call 231;refine(ab.out _ _ H6).mono ?_;rintro e2 w7 ⟨rfl,z,H7,s7⟩;have G:=E6.stp s7;have S7:=S6.stp s7;have T7:=T6.trans s7));refine A.out _ _ (f.out _ _ G) (λb=>?_);clear A K;refine wpAnyH_done (by kernel_rfl) ?_ _;go_wp2;go_meet;exact⟨z,H7,G,S7,T7⟩
  case rest =>
  obtain⟨z,H7,G,S7,T7⟩:=hcut;obtain⟨w7,rfl⟩:=exq wc;clear H5 S5 T5 E5 ae ab f p0 p1 p2 p3 p4 c;generalize eB l=se at *;obtain⟨p0,p1,p2,p3,p4,c⟩:=dT G.1;have c8:=jw IH e x .nil (Fs.ex y .nil) am.out 0 rfl (by omega) (az) (aw) ao cap wb m w7 z S7 H7;rw[dU] at c8;have U:=V.trans (iO e x 0 m);generalize ic e x 0 m=ah at *;go_wp2_with fail;refine c8.mono ?_;rintro e2 w8 ⟨rfl,o8,H8,s8⟩;have T8:=T7.trans s8;have S8:=S7.stp s8;have E8:=G.stp s8;clear c8 H7 T7 S7 G s8 p0 p1 p2 p3 p4 c V;obtain⟨p0,p1,p2,p3,p4,c⟩:=dT E8.1;have c9:=fB [58,32] H8 (by simp);have T:=U.put [58,32];generalize eq [58,32] ah=C at *;go_wp2_with fail;refine c9.mono ?_;rintro e2 w9 ⟨rfl,o9,H9,s9⟩;have T9:=T8.trans s9;have S9:=S8.stp s9;have E9:=E8.stp s9;clear c9 H8 T8 S8 E8 s9 p0 p1 p2 p3 p4 c U;obtain⟨p0,p1,p2,p3,p4,c⟩:=dT E9.1;have D:=jw IH e y (one x) .nil al.out 1 rfl (by omega) (ay) (av) ao cap wb C w9 o9 S9 H9;rw[dU] at D;have d:=T.trans (iO e y 1 C);generalize ic e y 1 C=J at *;go_wp2_with fail;refine D.mono ?_;rintro e2 ag ⟨rfl,aj,ad,r⟩;have Z:=T9.trans r;have aa:=S9.stp r;have E:=E9.stp r;clear D H9 T9 S9 E9 r p0 p1 p2 p3 p4 c T;obtain⟨p0,p1,p2,p3,p4,c⟩:=dT E.1;have P:=Q.out _ d;obtain⟨O,X,W,p,ac⟩:=ad.lea (hp.out _ d);generalize gV J=I at *;have Y:=Z.trans p;have ap:=aa.stp p;have af:=E.stp p;go_upto_region 23 with fail;generalize ag.setCell ⟨wb,1,GE⟩ (.int .i64 (Hs (O-1)))=aD at *;clear X W ad Z aa E p p0 p1 p2 p3 p4 c hp d;generalize aj=ai at *;obtain⟨p0,p1,p2,p3,p4,c⟩:=dT af.1;obtain⟨au,aB,aA,M,aq⟩:=ac.qle (aC.out _ P);generalize sf I=ar at *;have an:=Y.trans M;clear ac Y ap af M p0 p1 p2 p3 p4 c P Q;go_wp2
  go_end0
  exact⟨rfl,ai,by rw[HF.out];exact aq,an⟩
 ·obtain⟨w5,rfl⟩:=exq w4;have E5:=E4;have S5:=S4;have T5:=T4;clear E4 S4 T4;have f:Hid (∀ wx u,Blk wx u 0 B (bxX e ao cap)->wx.cell? ⟨B,1,GE⟩=GF (.int .i64 e.n)/\wx.cell? ⟨B,2,GE⟩=GF (stv e.nm)):=λwx u h=>⟨(dT h.1).2.1,(dT h.1).2.2.1⟩;have ae:Blk w5.drew o0 0 B (bxX e ao cap):=E5;obtain⟨p0,p1,p2,p3,p4,c⟩:=dT E5.1;have ab:Hid (∀ wx u,WQ wx u wb l->GV GH 231 #[.pointer (GF ⟨wb,0,GE⟩),.string (⟨qw.toArray⟩++⟨#[32]⟩++⟨e.nm.toArray⟩++⟨#[32,105,110,32]⟩)] wx (iV wx u wb (eq (qw++[32]++e.nm++[32,105,110,32]) (eB l)))):=λwx u h=>HO.out wx u l h;have V:Bal (eB l) (eq (qw++[32]++e.nm++[32,105,110,32]) (eB l)):=(Bal.refl _).put _;have hp:Hid (∀ s,Bal (eB l) s->∀ x,s=GF x->1<=x.o):=λs h=>iR h;have Q:Hid (∀ s,Bal (eB l) s->Bal l (gV s)):=λs h=>Bal.lea h;generalize eq (qw++[32]++e.nm++[32,105,110,32]) (eB l)=m at *;clear HO;go_upto_region 18 with fail;clear d2 df d3;go_cut [73] (λv wx=>∃z,WQ wx z wb m/\Blk wx z 0 B (bxX e ao cap)/\Sl wx (L0 z) e.kids ao/\dQ I12 w o wx z)
  case first =>
   refine wp_region_held_drew (S:=λwx=>wx.cell? ⟨B,1,GE⟩=GF (.int .i64 e.n)/\wx.cell? ⟨B,2,GE⟩=GF (stv e.nm)) (by kernel_rfl) (f.out _ _ ae) (λb=>?_);refine Ic (i:=0) (v:=?v16) rfl (by kernel_rfl) (by kernel_rfl) (by kernel_rfl) (λ_ _ _ h=>h) (I2 ⟨by rfl,?hy16⟩) (by assumption) ?rest16
   case hy16=>(intro w a;(try dsimp only at a);go_simp;all_goals (with_reducible rfl))
   simp only[It,Hd,G0,G1,GY,Hg,Hh];refine Ic (i:=2) (v:=?v17) rfl (by kernel_rfl) (by kernel_rfl) (by kernel_rfl) (λ_ _ _ h=>h) (I2 ⟨by rfl,?hy17⟩) (by assumption) ?rest17
   case hy17=>(intro w a;(try dsimp only at a);go_simp;all_goals (with_reducible rfl))
   simp only[It,Hd,G0,G1,GY,Hg,Hh];refine Ic (i:=3) (v:=?v18) rfl (by kernel_rfl) (by kernel_rfl) (by kernel_rfl) (λ_ _ _ h=>h) (I2 ⟨by rfl,?hy18⟩) (by assumption) ?rest18
   case hy18=>(intro w a;(try dsimp only at a);go_simp;all_goals (with_reducible rfl))
   simp only[It,Hd,G0,G1,GY,Hg,Hh];refine Ic (i:=4) (v:=?v19) rfl (by kernel_rfl) (by kernel_rfl) (by kernel_rfl) (λ_ _ _ h=>h) (I2 ⟨by rfl,?hy19⟩) (by assumption) ?rest19
   case hy19=>(intro w a;(try dsimp only at a);go_simp;all_goals (with_reducible rfl))
   simp only[It,Hd,G0,G1,GY,Hg,Hh];refine Ic (i:=8) (v:=?v20) rfl (by kernel_rfl) (by kernel_rfl) (by kernel_rfl) (λ_ _ _ h=>h) (I2 ⟨by rfl,?hy20⟩) (by assumption) ?rest20
   case hy20=>(intro w a;(try dsimp only at a);go_simp;all_goals (with_reducible rfl))
   simp only[It,Hd,G0,G1,GY,Hg,Hh];refine Ic (i:=9) (v:=?v21) rfl (by kernel_rfl) (by kernel_rfl) (by kernel_rfl) (λ_ _ _ h=>h) (I2 ⟨by rfl,?hy21⟩) (by assumption) ?rest21
   case hy21=>(intro w a;(try dsimp only at a);go_simp;all_goals (with_reducible rfl))
   simp only[It,Hd,G0,G1,GY,Hg,Hh];refine Jn (rs:=[1]) (by kernel_rfl) (by simp) ?_;refine I5 rfl (λK A=>?_) Jg
   go_simp
   go_wp2_with ((go_at_call 159;refine(oJ _).mono ?_;rintro e2 w6 ⟨g1,rfl,WL⟩;have sA:dQ (λ_=>False) w5 o0 w6 o0:=(dQ.refl _ w5 o0).drew.trans (dQ.ofB o0 WL.1);have E6:Blk w6 o0 0 B (bxX e ao cap):=E5.step sA id;have H6:=H5.stp0 sA;have S6:=S5.stp0 sA;have T6:=T5.trans sA.i12;have ix:=WL.2.2.2 j _ HQ.out));refine A.out _ _ (f.out _ _ E6) (λb=>?_);clear A K;refine Ic (i:=5) (v:=?v22) rfl (by kernel_rfl) (by kernel_rfl) (by kernel_rfl) (λ_ _ _ h=>h) (I2 ⟨by rfl,?hy22⟩) (by assumption) ?rest22
   case hy22=>(intro w a;(try dsimp only at a);go_simp;all_goals (with_reducible rfl))
   simp only[It,Hd,G0,G1,GY,Hg,Hh];refine Jn (rs:=[6]) (by kernel_rfl) (by simp) ?_;refine I5 rfl (λK A=>?_) Jg
   go_simp
   refine A.out _ _ (f.out _ _ E6) (λb=>?_);clear A K;refine Ic (i:=7) (v:=?v23) rfl (by kernel_rfl) (by kernel_rfl) (by kernel_rfl) (λ_ _ _ h=>h) (I2 ⟨by rfl,?hy23⟩) (by assumption) ?rest23
   case hy23=>(intro w a;(try dsimp only at a);go_simp;rw[if_neg (by omega)])
   simp only[It,Hd,G0,G1,GY,Hg,Hh];refine Ic (i:=10) (v:=?v24) rfl (by kernel_rfl) (by kernel_rfl) (by kernel_rfl) (λ_ _ _ h=>h) (I2 ⟨by rfl,?hy24⟩) (by assumption) ?rest24
   case hy24=>(intro w a;(try dsimp only at a);go_simp;rw[if_neg (by omega)])
   simp only[It,Hd,G0,G1,GY,Hg,Hh];refine Ic (i:=11) (v:=?v25) rfl (by kernel_rfl) (by kernel_rfl) (by kernel_rfl) (λ_ _ _ h=>h) (I2 ⟨by rfl,?hy25⟩) (by assumption) ?rest25
   case hy25=>(intro w a;(try dsimp only at a);go_simp;rw[if_neg (by omega)])
   simp only[It,Hd,G0,G1,GY,Hg,Hh];refine Jn (rs:=[12]) (by kernel_rfl) (by simp) ?_;refine I5 rfl (λK A=>?_) Jg
   go_simp
   go_wp2_with ((go_at_call 231;refine(ab.out _ _ H6).mono ?_;rintro e2 w7 ⟨rfl,z,H7,s7⟩;have G:=E6.stp s7;have S7:=S6.stp s7;have T7:=T6.trans s7));refine A.out _ _ (f.out _ _ G) (λb=>?_);clear A K;refine wpAnyH_done (by kernel_rfl) ?_ _;go_wp2;go_meet;exact⟨z,H7,G,S7,T7⟩
  case rest =>
  obtain⟨z,H7,G,S7,T7⟩:=hcut;obtain⟨w7,rfl⟩:=exq wc;clear H5 S5 T5 E5 ae ab f p0 p1 p2 p3 p4 c;generalize eB l=se at *;obtain⟨p0,p1,p2,p3,p4,c⟩:=dT G.1;have c8:=jw IH e x .nil (Fs.ex y .nil) am.out 0 rfl (by omega) (az) (aw) ao cap wb m w7 z S7 H7;rw[dU] at c8;have U:=V.trans (iO e x 0 m);generalize ic e x 0 m=ah at *;go_wp2_with fail;refine c8.mono ?_;rintro e2 w8 ⟨rfl,o8,H8,s8⟩;have T8:=T7.trans s8;have S8:=S7.stp s8;have E8:=G.stp s8;clear c8 H7 T7 S7 G s8 p0 p1 p2 p3 p4 c V;obtain⟨p0,p1,p2,p3,p4,c⟩:=dT E8.1;have c9:=fB [58,32] H8 (by simp);have T:=U.put [58,32];generalize eq [58,32] ah=C at *;go_wp2_with fail;refine c9.mono ?_;rintro e2 w9 ⟨rfl,o9,H9,s9⟩;have T9:=T8.trans s9;have S9:=S8.stp s9;have E9:=E8.stp s9;clear c9 H8 T8 S8 E8 s9 p0 p1 p2 p3 p4 c U;obtain⟨p0,p1,p2,p3,p4,c⟩:=dT E9.1;have D:=jw IH e y (one x) .nil al.out 1 rfl (by omega) (ay) (av) ao cap wb C w9 o9 S9 H9;rw[dU] at D;have d:=T.trans (iO e y 1 C);generalize ic e y 1 C=J at *;go_wp2_with fail;refine D.mono ?_;rintro e2 ag ⟨rfl,aj,ad,r⟩;have Z:=T9.trans r;have aa:=S9.stp r;have E:=E9.stp r;clear D H9 T9 S9 E9 r p0 p1 p2 p3 p4 c T;obtain⟨p0,p1,p2,p3,p4,c⟩:=dT E.1;have P:=Q.out _ d;obtain⟨O,X,W,p,ac⟩:=ad.lea (hp.out _ d);generalize gV J=I at *;have Y:=Z.trans p;have ap:=aa.stp p;have af:=E.stp p;go_upto_region 23 with fail;generalize ag.setCell ⟨wb,1,GE⟩ (.int .i64 (Hs (O-1)))=aD at *;clear X W ad Z aa E p p0 p1 p2 p3 p4 c hp d;generalize aj=ai at *;obtain⟨p0,p1,p2,p3,p4,c⟩:=dT af.1;obtain⟨au,aB,aA,M,aq⟩:=ac.qle (aC.out _ P);generalize sf I=ar at *;have an:=Y.trans M;clear ac Y ap af M p0 p1 p2 p3 p4 c P Q;go_wp2
  go_end0
  exact⟨rfl,ai,by rw[HF.out];exact aq,an⟩
theorem F4 (k:Int):(gZ k).isSome=decide (8<=k/\k<=18):=by
 by_cases h:8<=k/\k<=18
 ·rw[show decide (8<=k/\k<=18)=true by simpa using h]
  have:k=8\/k=9\/k=10\/k=11\/k=12\/k=13\/k=14\/k=15\/k=16\/k=17\/k=18:=by omega
  rcases this with rfl|rfl|rfl|rfl|rfl|rfl|rfl|rfl|rfl|rfl|rfl<;>rfl
 ·rw[show decide (8<=k/\k<=18)=false by simpa using h,JM,JS];unfold gZ;rw[List.find?_eq_none];intro x a
  have:∀ x ∈ iI,8<=x.2.1/\x.2.1<=18:=by decide
  have:=this x a
  simp only[beq_iff_eq];omega
theorem xe {n:Int}(h:1<=n/\n<=10):∃x,jn n=GF x/\(x.2.2:Int)=if 1<=n/\n<=3 then 2 else 1:=by
 have:n=1\/n=2\/n=3\/n=4\/n=5\/n=6\/n=7\/n=8\/n=9\/n=10:=by omega
 rcases this with rfl|rfl|rfl|rfl|rfl|rfl|rfl|rfl|rfl|rfl<;>exact⟨_,rfl,rfl⟩
theorem Fb {k n:Int}(h:fh k n=true)(m:Nat):ew k n m=(!decide (fM k n < -1)&&(decide (fM k n<0)||decide ((m:Int)=fM k n))):=by
 have e0:∀ c:Int,decide ((m:Int)=c)=((m:Int)==c):=λc=>rfl;by_cases h1:k=1
 ·subst h1
  first|(simp[ew,fM,e0];done)|(simp[ew,fM,e0];rw[GU];simp)
 by_cases h2:k=2
 ·subst h2
  first|(simp[ew,fM,e0];done)|(simp[ew,fM,e0];rw[GU];simp)
 by_cases b:k=3
 ·subst b
  first|(simp[ew,fM,e0];done)|(simp[ew,fM,e0];rw[GU];simp)
 by_cases t:k=4
 ·subst t
  first|(simp[ew,fM,e0];done)|(simp[ew,fM,e0];rw[GU];simp)
 by_cases g:k=22
 ·subst g
  first|(simp[ew,fM,e0];done)|(simp[ew,fM,e0];rw[GU];simp)
 by_cases f:k=23
 ·subst f
  first|(simp[ew,fM,e0];done)|(simp[ew,fM,e0];rw[GU];simp)
 by_cases s:k=6
 ·subst s
  first|(simp[ew,fM,e0];done)|(simp[ew,fM,e0];rw[GU];simp)
 by_cases r:k=7
 ·subst r
  first|(simp[ew,fM,e0];done)|(simp[ew,fM,e0];rw[GU];simp)
 by_cases e:k=24
 ·subst e
  first|(simp[ew,fM,e0];done)|(simp[ew,fM,e0];rw[GU];simp)
 by_cases i:k=21
 ·subst i
  first|(simp[ew,fM,e0];done)|(simp[ew,fM,e0];rw[GU];simp)
 by_cases l:k=19
 ·subst l
  first|(simp[ew,fM,e0];done)|(simp[ew,fM,e0];rw[GU];simp)
 by_cases d:k=25
 ·subst d
  first|(simp[ew,fM,e0];done)|(simp[ew,fM,e0];rw[GU];simp)
 by_cases j:k=20
 ·subst j;have u:1<=n/\n<=10:=by simpa [fh,eQ] using h
  obtain⟨x,q,o⟩:=xe u;by_cases b:1<=n/\n<=3
  ·rw[if_pos b] at o;simp[ew,fM,q,o,b,e0]
  ·rw[if_neg b] at o;simp[ew,fM,q,o,b,e0]
 have p:ew k n m=((gZ k).isSome&&(m:Int)==2):=by simp[ew,h1,h2,b,t,g,f,s,r,e,i,l,d,j]
 rw[p,F4];by_cases v:8<=k/\k<=18
 ·have a:fM k n=2:=by
   unfold fM;rw[if_neg (by omega),if_neg (by omega),if_pos (by omega)]
  rw[a];simp[v,e0]
 ·have a:fM k n=-2:=by
   unfold fM;rw[if_neg (by omega),if_neg (by omega),if_neg (by omega),if_neg (by omega),if_neg (by omega),if_neg (by omega)]
  rw[a];simp;omega
theorem Fr {k:Int}{z:List UInt8 × Nat × Nat × Nat × Nat}(h:gZ k=GF z):mA k 0=z.2.2.2.1/\mA k 1=z.2.2.2.2/\z.1.length<=3/\(k==21)=false:=by
 have a:=Hm h;have b:((z.2.1:Nat):Int)=k:=by have:=IZ h;simpa using this
 subst b;simp only[iI,Iu,Is,or_false] at a;rcases a with rfl|rfl|rfl|rfl|rfl|rfl|rfl|rfl|rfl|rfl|rfl<;>exact⟨rfl,rfl,by decide,rfl⟩
theorem mD {N:Nat}(h:kF N)(e:Ex)(b:e.kids.size<=N)(f:e.fit)(ao:Option Ha)(cap wb:Nat)(st:Ow)(w:GI)(o:Nat->Nat)(S:Sl w (L0 o) e.kids ao)(H:WQ w o wb st)(a:e.k=19\/e.k=20\/e.k=21\/e.k=24\/e.k=25)(d:(fh e.k e.n&&ft e.k e.nm&&ew e.k e.n e.kids.len)=true) :
  GV GH 233 #[.pointer (GF ⟨wb,0,GE⟩),exV e ao cap] w (iV w o wb (eL e.k e.n e.nm (λg s=>oFs e.kids (e.k==21) g 0 s) st)):=by
 simp only[He] at d;rcases a with a|a|a|a|a
 ·exact yK h e b f ao cap wb st w o S H a (by have c:=d.2;rw[a] at c;simp[ew] at c;omega)
 ·exact tC h e b f ao cap wb st w o S H a (by have c:=d.1.1;rw[a] at c;simpa [fh,eQ] using c)
 ·exact rY h e b f ao cap wb st w o S H a (by have c:=d.1.1;rw[a] at c;simpa [fh,eI] using c) (by have c:=d.2;rw[a] at c;simp[ew] at c;omega) (lV d.1.2)
 ·exact rF h e b f ao cap wb st w o S H a
 ·exact tH h e b f ao cap wb st w o S H a
theorem tJ {N:Nat}(IH:kF N):kF (N+1):=by
 intro e ao cap set wb st w o aU Q S H;have ag:e.kids.size<=N:=by omega
 obtain⟨V,hV⟩:=exq ((fh e.k e.n&&ft e.k e.nm&&ew e.k e.n e.kids.len&&(eM e.k==set)));have HX:Hid (oEx e set st=if V=true then eL e.k e.n e.nm (λg s=>oFs e.kids (e.k==21) g 0 s) st else GE):=by show _=_;rw[hV];rfl
 have HV:Hid (V=(fh e.k e.n&&ft e.k e.nm&&ew e.k e.n e.kids.len&&(eM e.k==set))):=hV;clear aU hV;have s0:=et (λ_=>False) w o (bxX e ao cap);have E0:Blk (w.alloc (bxX e ao cap)) (dR w o 0) 0 w.heap.size (bxX e ao cap):=jG w o _ _;have S0:=S.stp0 s0;have H0:=H.stp0 s0;have T0:=s0.i12;clear S H s0;rw[dU];go_enter Tryz.func193,Tryz.ntmps193;go_upto_region 1 with fail;generalize w.alloc (bxX e ao cap)=w0 at *;generalize dR w o 0=o0 at *;generalize w.heap.size=be at *;obtain⟨p0,p1,p2,p3,p4,d⟩:=dT E0.1;have c1:=Fl e.k e.n e.nm ao e.kids.len cap e.a w0;generalize aM:fM e.k e.n=kN at *;have aw:=GP aM;clear aM;go_wp2_with fail;refine c1.mono ?_;rintro G w1 ⟨rfl,b1⟩;have s1:dQ (λ_=>False) w0 o0 w1 o0:=dQ.ofB o0 b1;have E1:=E0.step s1 id;have S1:=S0.stp0 s1;have H1:=H0.stp0 s1;have T1:=T0.trans s1.i12;clear c1 b1 s1 E0 S0 H0 T0 p0 p1 p2 p3 p4 d;obtain⟨p0,p1,p2,p3,p4,d⟩:=dT E1.1;have c2:=zt e.k e.n e.nm ao e.kids.len cap e.a w1 Q.nm;generalize hF:(fh e.k e.n&&ft e.k e.nm)=Fd at *;have ak:=GP hF;clear hF;go_wp2_with fail;refine c2.mono ?_;rintro G w2 ⟨rfl,b2⟩;have s2:dQ (λ_=>False) w1 o0 w2 o0:=dQ.ofB o0 b2;have r:=E1.step s2 id;have m:=S1.stp0 s2;have u:=H1.stp0 s2;have t:=T1.trans s2.i12;clear c2 b2 s2 E1 S1 H1 T1 p0 p1 p2 p3 p4 d;obtain⟨p0,p1,p2,p3,p4,d⟩:=dT r.1;obtain⟨c3,cf,sE,HE⟩:=u.end;go_upto_region 3 with fail;go_cut [42] (λv wx=>v=.bool (!(st.isSome&&V))/\wx=w2)
 case first =>
  clear HX m t HE sE;cases I:st.isSome with
  | false =>
   rw[I] at c3;go_wp2;go_meet;exact⟨by simp[I],rfl⟩
  | true =>
   rw[I] at c3;cases Fd with
   | false =>
    have L:V=false:=by rw[HV.out];rfl
    subst L;go_wp2;go_meet;exact⟨by simp[I],rfl⟩
   | true =>
    have aL:fh e.k e.n=true:=by have:=ak.out;simp only[He] at this;exact this.1
    have Z:Hid (V=(!decide (kN < -1)&&(decide (kN<0)||decide ((e.kids.len:Int)=kN))&&(eM e.k==set))):=by show V=_;rw[HV.out,Jq,Fb aL,aw.out]
    clear HV aL ak aw;by_cases h1:kN < -1
    ·have L:V=false:=by rw[Z.out];simp[h1]
     subst L;go_wp2;go_meet;exact⟨by simp[I],rfl⟩
    ·have cS:=Bz e.k w2;by_cases h2:0<=kN
     ·by_cases U:(e.kids.len:Int)=kN
      ·have aW:((e.kids.len:Int)==kN)=true:=by simpa using U
       have aV:((e.kids.len:Int) != kN)=false:=by simpa using U
       have L:V=(eM e.k==set):=by rw[Z.out];simp[h1,U]
       have aF:=GP L;clear L U Z;cases hs:eM e.k<;>cases set
       all_goals
        rw[hs] at cS;have L:=aF.out;rw[hs] at L;subst L;go_wp2_with fail;refine cS.mono ?_;rintro G w3 ⟨rfl,rfl⟩;go_wp2;go_meet;exact⟨by simp[I],rfl⟩
      ·have aW:((e.kids.len:Int)==kN)=false:=by simpa using U
       have aV:((e.kids.len:Int) != kN)=true:=by simpa using U
       have L:V=false:=by rw[Z.out];simp[U];omega
       subst L;clear U;go_wp2;go_meet;exact⟨by simp[I],rfl⟩
     ·have L:V=(eM e.k==set):=by rw[Z.out];simp[h1];omega
      have aF:=GP L;clear L Z;cases hs:eM e.k<;>cases set
      all_goals
       rw[hs] at cS;have L:=aF.out;rw[hs] at L;subst L;go_wp2_with fail;refine cS.mono ?_;rintro G w3 ⟨rfl,rfl⟩;go_wp2;go_meet;exact⟨by simp[I],rfl⟩
 case rest =>
 obtain⟨rfl,aI⟩:=hcut;rw[aI];clear aI;by_cases hB:(st.isSome&&V)=true
 case neg =>
  have ah:(st.isSome&&V)=false:=by simpa using hB
  have aZ:Hid (oEx e set st=GE):=by
   show _=_;rw[HX.out];cases I:st with
   | none =>
    cases V with
    | true=>rw[if_pos rfl];exact qE (λg=>mx _ _ _ _)
    | false=>rw[if_neg (by simp)]
   | some s1 =>
    rw[I] at ah;rw[if_neg (by intro hv;rw[hv] at ah;cases ah)]
  have l:=t.trans sE;rw[ah];clear HX HV ak aw hB ah r m u t sE;go_wp2
  (try simp only[Jx,Exit.then])
  refine GK (I3 rfl _ _ _) rfl ?_;exact⟨rfl,o0,by rw[aZ.out];exact HE,l⟩
 case pos =>
 rw[hB];have az:V=true:=by simp only[He] at hB;exact hB.2
 have c:Hid (oEx e set st=eL e.k e.n e.nm (λg s=>oFs e.kids (e.k==21) g 0 s) st):=by show _=_;rw[HX.out,if_pos az]
 have f:Hid ((fh e.k e.n&&ft e.k e.nm&&ew e.k e.n e.kids.len)=true):=by
  show _=true;have j:=HV.out;rw[az,<-ak.out] at j;have j:=j.symm;rw[He] at j;exact j.1
 clear HX HV ak aw hB az HE sE c3 cf;by_cases h1:e.k=1
 ·have A:Hid (oEx e set st=eq (II e.n) st):=by
   show _=_;rw[c.out];unfold eL;rw[if_neg (by omega),if_neg (by omega),if_neg (by omega),if_neg (by omega),if_neg (by omega),if_neg (by omega),if_neg (by omega)];unfold iF;rw[if_pos h1]
  have b1:(e.k==1)=true:=by simp[h1]
  have aB:0<=e.n:=by have j:=f.out;rw[h1] at j;simp[fh] at j;exact j.1.1
  clear h1 c f;have cd:=si e.n aB Q.n2 w2;have aQ:=Kf e.n Q.n1 Q.n2;go_wp2_with fail;refine cd.mono ?_;rintro G w3 ⟨rfl,b3⟩;clear cd;have b:dQ (λ_=>False) w2 o0 w3 o0:=dQ.ofB o0 b3;have i:=r.step b id;have E:=m.stp0 b;have p:=u.stp0 b;have l:=t.trans b.i12;clear r m u t b p0 p1 p2 p3 p4 d;obtain⟨p0,p1,p2,p3,p4,d⟩:=dT i.1;clear b3;obtain⟨D,ab⟩:=exq o0;rw[<-ab] at i E p l;clear ab;have c4:=fB (II e.n) p (by omega);generalize eq (II e.n) st=T at *;go_wp2_with fail;refine c4.mono ?_;rintro G w4 ⟨rfl,X,P,B⟩;have O:=l.trans B;have S4:=E.stp B;have R:=i.stp B;clear c4 p l E i B p0 p1 p2 p3 p4 d;obtain⟨p0,p1,p2,p3,p4,d⟩:=dT R.1;go_wp2
  go_end0
  exact⟨rfl,X,by rw[A.out];exact P,O⟩
 by_cases h2:e.k=2
 ·have A:Hid (oEx e set st=eq (Kc (e.n==1)) st):=by
   show _=_;rw[c.out];unfold eL;rw[if_neg (by omega),if_neg (by omega),if_neg (by omega),if_neg (by omega),if_neg (by omega),if_neg (by omega),if_neg (by omega)];unfold iF;rw[if_neg (by omega),if_pos h2]
  have b1:(e.k==1)=false:=bne (by omega);have b2:(e.k==2)=true:=by simp[h2]
  have hn2:e.n=0\/e.n=1:=by have j:=f.out;rw[h2] at j;simp[fh] at j;exact j.1.1
  clear h2 c f;rcases hn2 with hn2|hn2
  ·rw[hn2] at p1;have A:Hid (oEx e set st=eq [102,97,108,115,101] st):=by show _=_;rw[A.out,hn2];rfl
   clear hn2;have b:=gQ (λ_=>False) w2 o0 (.cells #[.string ⟨#[102,97,108,115,101]⟩,.string ⟨#[116,114,117,101]⟩] 9);have i:=r.step b id;have E:=m.stp0 b;have p:=u.stp0 b;have l:=t.trans b.i12;have aS:be<w2.heap.size:=r.lt;have c4:=fB [102,97,108,115,101] p (by simp);generalize eq [102,97,108,115,101] st=T at *;go_wp2_with fail;refine c4.mono ?_;rintro G w4 ⟨rfl,X,P,B⟩;have O:=l.trans B;clear c4 u t m r p l E i b B p0 p1 p2 p3 p4 d;go_wp2
   go_end0
   exact⟨rfl,X,by rw[A.out];exact P,O⟩
  ·rw[hn2] at p1;have A:Hid (oEx e set st=eq [116,114,117,101] st):=by show _=_;rw[A.out,hn2];rfl
   clear hn2;have b:=gQ (λ_=>False) w2 o0 (.cells #[.string ⟨#[102,97,108,115,101]⟩,.string ⟨#[116,114,117,101]⟩] 9);have i:=r.step b id;have E:=m.stp0 b;have p:=u.stp0 b;have l:=t.trans b.i12;have aS:be<w2.heap.size:=r.lt;have c4:=fB [116,114,117,101] p (by simp);generalize eq [116,114,117,101] st=T at *;go_wp2_with fail;refine c4.mono ?_;rintro G w4 ⟨rfl,X,P,B⟩;have O:=l.trans B;clear c4 u t m r p l E i b B p0 p1 p2 p3 p4 d;go_wp2
   go_end0
   exact⟨rfl,X,by rw[A.out];exact P,O⟩
 by_cases U:e.k=3
 ·have A:Hid (oEx e set st=eq ([64]++II e.n) st):=by
   show _=_;rw[c.out];unfold eL;rw[if_neg (by omega),if_neg (by omega),if_neg (by omega),if_neg (by omega),if_neg (by omega),if_neg (by omega),if_neg (by omega)];unfold iF;rw[if_neg (by omega),if_neg (by omega),if_pos U]
  have b1:(e.k==1)=false:=bne (by omega);have b2:(e.k==2)=false:=bne (by omega);have b3:(e.k==3)=true:=by simp[U]
  have aB:0<=e.n:=by have j:=f.out;rw[U] at j;simp[fh] at j;exact j.1.1
  clear U c f;have cd:=si e.n aB Q.n2 w2;have aQ:=Kf e.n Q.n1 Q.n2;have a2:=jB (II e.n);generalize II e.n=dg at *;go_wp2_with fail;refine cd.mono ?_;rintro G w3 ⟨rfl,b3⟩;clear cd;have b:dQ (λ_=>False) w2 o0 w3 o0:=dQ.ofB o0 b3;have i:=r.step b id;have E:=m.stp0 b;have p:=u.stp0 b;have l:=t.trans b.i12;clear r m u t b p0 p1 p2 p3 p4 d;obtain⟨p0,p1,p2,p3,p4,d⟩:=dT i.1;clear b3;obtain⟨D,ab⟩:=exq o0;rw[<-ab] at i E p l;clear ab;have c4:=fB ([64]++dg) p (by simp;omega);have ec:(⟨([64]++dg).toArray⟩:ByteArray)=⟨#[64]⟩++⟨dg.toArray⟩:=(yk [64] dg).symm;rw[show stv ([64]++dg)=.string (⟨#[64]⟩++⟨dg.toArray⟩) by rw[<-ec]] at c4;generalize eq ([64]++dg) st=T at *;clear ec;go_wp2_with fail;refine c4.mono ?_;rintro G w4 ⟨rfl,X,P,B⟩;have O:=l.trans B;have S4:=E.stp B;have R:=i.stp B;clear c4 p l E i B p0 p1 p2 p3 p4 d;obtain⟨p0,p1,p2,p3,p4,d⟩:=dT R.1;go_wp2
  go_end0
  exact⟨rfl,X,by rw[A.out];exact P,O⟩
 by_cases h4:e.k=4
 ·have A:Hid (oEx e set st=eq e.nm st):=by
   show _=_;rw[c.out];unfold eL;rw[if_neg (by omega),if_neg (by omega),if_neg (by omega),if_neg (by omega),if_neg (by omega),if_neg (by omega),if_neg (by omega)];unfold iF;rw[if_neg (by omega),if_neg (by omega),if_neg (by omega),if_pos (by omega)]
  have b1:(e.k==1)=false:=bne (by omega);have b2:(e.k==2)=false:=bne (by omega);have b3:(e.k==3)=false:=bne (by omega);have Y:(e.k==4)=true:=by simp[h4]
  have aP:e.nm.length<=12:=by have j:=f.out;simp only[He] at j;exact lV j.1.2
  clear h4 c f;have c3:=fB e.nm u (by omega);generalize eq e.nm st=q at *;go_wp2_with fail;refine c3.mono ?_;rintro G w3 ⟨rfl,D,p,b⟩;have l:=t.trans b;have E:=m.stp b;have i:=r.stp b;clear c3 u t m r b p0 p1 p2 p3 p4 d;obtain⟨p0,p1,p2,p3,p4,d⟩:=dT i.1;go_wp2
  go_end0
  exact⟨rfl,D,by rw[A.out];exact p,l⟩
 by_cases ap:e.k=23
 ·have A:Hid (oEx e set st=eq e.nm st):=by
   show _=_;rw[c.out];unfold eL;rw[if_neg (by omega),if_neg (by omega),if_neg (by omega),if_neg (by omega),if_neg (by omega),if_neg (by omega),if_neg (by omega)];unfold iF;rw[if_neg (by omega),if_neg (by omega),if_neg (by omega),if_pos (by omega)]
  have b1:(e.k==1)=false:=bne (by omega);have b2:(e.k==2)=false:=bne (by omega);have b3:(e.k==3)=false:=bne (by omega);have Y:(e.k==4)=false:=bne (by omega);have J:(e.k==23)=true:=by simp[ap]
  have aP:e.nm.length<=12:=by have j:=f.out;simp only[He] at j;exact lV j.1.2
  clear ap c f;have c3:=fB e.nm u (by omega);generalize eq e.nm st=q at *;go_wp2_with fail;refine c3.mono ?_;rintro G w3 ⟨rfl,D,p,b⟩;have l:=t.trans b;have E:=m.stp b;have i:=r.stp b;clear c3 u t m r b p0 p1 p2 p3 p4 d;obtain⟨p0,p1,p2,p3,p4,d⟩:=dT i.1;go_wp2
  go_end0
  exact⟨rfl,D,by rw[A.out];exact p,l⟩
 by_cases ai:e.k=22
 ·have A:Hid (oEx e set st=eq [118,101,114,116,105,99,101,115] st):=by
   show _=_;rw[c.out];unfold eL;rw[if_neg (by omega),if_neg (by omega),if_neg (by omega),if_neg (by omega),if_neg (by omega),if_neg (by omega),if_neg (by omega)];unfold iF;rw[if_neg (by omega),if_neg (by omega),if_neg (by omega),if_neg (by omega),if_pos ai]
  have b1:(e.k==1)=false:=bne (by omega);have b2:(e.k==2)=false:=bne (by omega);have b3:(e.k==3)=false:=bne (by omega);have Y:(e.k==4)=false:=bne (by omega);have J:(e.k==23)=false:=bne (by omega);have M:(e.k==22)=true:=by simp[ai]
  clear ai c f;have c3:=fB [118,101,114,116,105,99,101,115] u (by simp);generalize eq [118,101,114,116,105,99,101,115] st=q at *;go_wp2_with fail;refine c3.mono ?_;rintro G w3 ⟨rfl,D,p,b⟩;have l:=t.trans b;have E:=m.stp b;have i:=r.stp b;clear c3 u t m r b p0 p1 p2 p3 p4 d;obtain⟨p0,p1,p2,p3,p4,d⟩:=dT i.1;go_wp2
  go_end0
  exact⟨rfl,D,by rw[A.out];exact p,l⟩
 by_cases h6:e.k=6
 ·have hl:e.kids.len=1:=by have j:=f.out;simp only[He] at j;have j:=j.2;rw[h6] at j;simp[ew] at j;omega
  obtain⟨x,C⟩:=ut hl;have K:Hid (e.kids=Fs.app .nil (Fs.ex x .nil)):=C;have aa:e.kids.size=x.kids.size+0+1:=by rw[C];rfl
  have af:x.kids.size<N:=by omega
  have ac:=Ex.kidfit Q K.out;clear aa;have A:Hid (oEx e set st=gV (ic e x 0 (eq [45] (eB st)))):=by
   show _=_;rw[c.out];unfold eL;rw[if_neg (by omega),if_pos h6];simp only[C,oD];rw[it e x 0 _ (by rw[h6];rfl) (by rw[h6];rfl)];rfl
  have b1:(e.k==1)=false:=bne (by omega);have b2:(e.k==2)=false:=bne (by omega);have b3:(e.k==3)=false:=bne (by omega);have Y:(e.k==4)=false:=bne (by omega);have J:(e.k==23)=false:=bne (by omega);have M:(e.k==22)=false:=bne (by omega);have b6:(e.k==6)=true:=by simp[h6]
  clear h6 C hl c f;have c3:=jd [45] u (by simp);have ae:Bal (eB st) (eq [45] (eB st)):=(Bal.refl _).put [45];have hp:Hid (∀ s,Bal (eB st) s->∀ x,s=GF x->1<=x.o):=λs h=>iR h;generalize eq [45] (eB st)=q at *;generalize eB st=se at *;go_wp2_with fail;refine c3.mono ?_;rintro G w3 ⟨rfl,D,p,b⟩;have l:=t.trans b;have E:=m.stp b;have i:=r.stp b;clear c3 u t m r b p0 p1 p2 p3 p4 d;obtain⟨p0,p1,p2,p3,p4,d⟩:=dT i.1;have c4:=jw IH e x .nil .nil K.out 0 rfl (by omega) (af) (ac) ao cap wb q w3 D E p;rw[dU] at c4;have ad:=ae.trans (iO e x 0 q);generalize ic e x 0 q=T at *;go_wp2_with fail;refine c4.mono ?_;rintro G w4 ⟨rfl,X,P,B⟩;have O:=l.trans B;have S4:=E.stp B;have R:=i.stp B;clear c4 p l E i B p0 p1 p2 p3 p4 d ae;obtain⟨p0,p1,p2,p3,p4,d⟩:=dT R.1;obtain⟨ax,aD,aC,W,H5⟩:=P.lea (hp.out _ ad);generalize gV T=al at *;have T5:=O.trans W;have S5:=S4.stp W;have E5:=R.stp W;go_wp2;generalize w4.setCell ⟨wb,1,GE⟩ (.int .i64 (Hs (ax-1)))=w5 at *;clear aD aC P O S4 R W p0 p1 p2 p3 p4 d hp ad;generalize X=o5 at *;obtain⟨p0,p1,p2,p3,p4,d⟩:=dT E5.1
  go_end0
  exact⟨rfl,o5,by rw[A.out];exact H5,T5⟩
 by_cases h7:e.k=7
 ·have hl:e.kids.len=1:=by have j:=f.out;simp only[He] at j;have j:=j.2;rw[h7] at j;simp[ew] at j;omega
  obtain⟨x,C⟩:=ut hl;have K:Hid (e.kids=Fs.app .nil (Fs.ex x .nil)):=C;have aa:e.kids.size=x.kids.size+0+1:=by rw[C];rfl
  have af:x.kids.size<N:=by omega
  have ac:=Ex.kidfit Q K.out;clear aa;have A:Hid (oEx e set st=gV (ic e x 0 (eq [110,111,116,32] (eB st)))):=by
   show _=_;rw[c.out];unfold eL;rw[if_pos h7];simp only[C,oD];rw[it e x 0 _ (by rw[h7];rfl) (by rw[h7];rfl)];rfl
  have b1:(e.k==1)=false:=bne (by omega);have b2:(e.k==2)=false:=bne (by omega);have b3:(e.k==3)=false:=bne (by omega);have Y:(e.k==4)=false:=bne (by omega);have J:(e.k==23)=false:=bne (by omega);have M:(e.k==22)=false:=bne (by omega);have b6:(e.k==6)=false:=bne (by omega);have b7:(e.k==7)=true:=by simp[h7]
  clear h7 C hl c f;have c3:=jd [110,111,116,32] u (by simp);have ae:Bal (eB st) (eq [110,111,116,32] (eB st)):=(Bal.refl _).put [110,111,116,32];have hp:Hid (∀ s,Bal (eB st) s->∀ x,s=GF x->1<=x.o):=λs h=>iR h;generalize eq [110,111,116,32] (eB st)=q at *;generalize eB st=se at *;go_wp2_with fail;refine c3.mono ?_;rintro G w3 ⟨rfl,D,p,b⟩;have l:=t.trans b;have E:=m.stp b;have i:=r.stp b;clear c3 u t m r b p0 p1 p2 p3 p4 d;obtain⟨p0,p1,p2,p3,p4,d⟩:=dT i.1;have c4:=jw IH e x .nil .nil K.out 0 rfl (by omega) (af) (ac) ao cap wb q w3 D E p;rw[dU] at c4;have ad:=ae.trans (iO e x 0 q);generalize ic e x 0 q=T at *;go_wp2_with fail;refine c4.mono ?_;rintro G w4 ⟨rfl,X,P,B⟩;have O:=l.trans B;have S4:=E.stp B;have R:=i.stp B;clear c4 p l E i B p0 p1 p2 p3 p4 d ae;obtain⟨p0,p1,p2,p3,p4,d⟩:=dT R.1;obtain⟨ax,aD,aC,W,H5⟩:=P.lea (hp.out _ ad);generalize gV T=al at *;have T5:=O.trans W;have S5:=S4.stp W;have E5:=R.stp W;go_wp2;generalize w4.setCell ⟨wb,1,GE⟩ (.int .i64 (Hs (ax-1)))=w5 at *;clear aD aC P O S4 R W p0 p1 p2 p3 p4 d hp ad;generalize X=o5 at *;obtain⟨p0,p1,p2,p3,p4,d⟩:=dT E5.1
  go_end0
  exact⟨rfl,o5,by rw[A.out];exact H5,T5⟩
 by_cases au:e.k=19
 ·have A:Hid (oEx e set st=eL e.k e.n e.nm (λg s=>oFs e.kids (e.k==21) g 0 s) st):=c.out;have F:e.k=19\/e.k=20\/e.k=21\/e.k=24\/e.k=25:=by omega
  have b1:(e.k==1)=false:=bne (by omega);have b2:(e.k==2)=false:=bne (by omega);have b3:(e.k==3)=false:=bne (by omega);have Y:(e.k==4)=false:=bne (by omega);have J:(e.k==23)=false:=bne (by omega);have M:(e.k==22)=false:=bne (by omega);have b6:(e.k==6)=false:=bne (by omega);have b7:(e.k==7)=false:=bne (by omega);have aj:(e.k==19)=true:=by simp[au]
  clear au c;have c3:=mD IH e ag Q ao cap wb st w2 o0 m u F f.out;rw[dU] at c3;generalize eL e.k e.n e.nm (λg s=>oFs e.kids (e.k==21) g 0 s) st=q at *;clear F;go_wp2_with fail;refine c3.mono ?_;rintro G w3 ⟨rfl,D,p,b⟩;have l:=t.trans b;have E:=m.stp b;have i:=r.stp b;clear c3 u t m r b p0 p1 p2 p3 p4 d;obtain⟨p0,p1,p2,p3,p4,d⟩:=dT i.1;go_wp2
  go_end0
  exact⟨rfl,D,by rw[A.out];exact p,l⟩
 by_cases aq:e.k=21
 ·have A:Hid (oEx e set st=eL e.k e.n e.nm (λg s=>oFs e.kids (e.k==21) g 0 s) st):=c.out;have F:e.k=19\/e.k=20\/e.k=21\/e.k=24\/e.k=25:=by omega
  have b1:(e.k==1)=false:=bne (by omega);have b2:(e.k==2)=false:=bne (by omega);have b3:(e.k==3)=false:=bne (by omega);have Y:(e.k==4)=false:=bne (by omega);have J:(e.k==23)=false:=bne (by omega);have M:(e.k==22)=false:=bne (by omega);have b6:(e.k==6)=false:=bne (by omega);have b7:(e.k==7)=false:=bne (by omega);have aj:(e.k==19)=false:=bne (by omega);have av:(e.k==21)=true:=by simp[aq]
  clear aq c;have c3:=mD IH e ag Q ao cap wb st w2 o0 m u F f.out;rw[dU] at c3;generalize eL e.k e.n e.nm (λg s=>oFs e.kids (e.k==21) g 0 s) st=q at *;clear F;go_wp2_with fail;refine c3.mono ?_;rintro G w3 ⟨rfl,D,p,b⟩;have l:=t.trans b;have E:=m.stp b;have i:=r.stp b;clear c3 u t m r b p0 p1 p2 p3 p4 d;obtain⟨p0,p1,p2,p3,p4,d⟩:=dT i.1;go_wp2
  go_end0
  exact⟨rfl,D,by rw[A.out];exact p,l⟩
 by_cases ar:e.k=20
 ·have A:Hid (oEx e set st=eL e.k e.n e.nm (λg s=>oFs e.kids (e.k==21) g 0 s) st):=c.out;have F:e.k=19\/e.k=20\/e.k=21\/e.k=24\/e.k=25:=by omega
  have b1:(e.k==1)=false:=bne (by omega);have b2:(e.k==2)=false:=bne (by omega);have b3:(e.k==3)=false:=bne (by omega);have Y:(e.k==4)=false:=bne (by omega);have J:(e.k==23)=false:=bne (by omega);have M:(e.k==22)=false:=bne (by omega);have b6:(e.k==6)=false:=bne (by omega);have b7:(e.k==7)=false:=bne (by omega);have aj:(e.k==19)=false:=bne (by omega);have av:(e.k==21)=false:=bne (by omega);have aE:(e.k==20)=true:=by simp[ar]
  clear ar c;have c3:=mD IH e ag Q ao cap wb st w2 o0 m u F f.out;rw[dU] at c3;generalize eL e.k e.n e.nm (λg s=>oFs e.kids (e.k==21) g 0 s) st=q at *;clear F;go_wp2_with fail;refine c3.mono ?_;rintro G w3 ⟨rfl,D,p,b⟩;have l:=t.trans b;have E:=m.stp b;have i:=r.stp b;clear c3 u t m r b p0 p1 p2 p3 p4 d;obtain⟨p0,p1,p2,p3,p4,d⟩:=dT i.1;go_wp2
  go_end0
  exact⟨rfl,D,by rw[A.out];exact p,l⟩
 by_cases an:e.k=24
 ·have A:Hid (oEx e set st=eL e.k e.n e.nm (λg s=>oFs e.kids (e.k==21) g 0 s) st):=c.out;have F:e.k=19\/e.k=20\/e.k=21\/e.k=24\/e.k=25:=by omega
  have b1:(e.k==1)=false:=bne (by omega);have b2:(e.k==2)=false:=bne (by omega);have b3:(e.k==3)=false:=bne (by omega);have Y:(e.k==4)=false:=bne (by omega);have J:(e.k==23)=false:=bne (by omega);have M:(e.k==22)=false:=bne (by omega);have b6:(e.k==6)=false:=bne (by omega);have b7:(e.k==7)=false:=bne (by omega);have aj:(e.k==19)=false:=bne (by omega);have av:(e.k==21)=false:=bne (by omega);have aE:(e.k==20)=false:=bne (by omega);have aO:(e.k==24)=true:=by simp[an]
  clear an c;have c3:=mD IH e ag Q ao cap wb st w2 o0 m u F f.out;rw[dU] at c3;generalize eL e.k e.n e.nm (λg s=>oFs e.kids (e.k==21) g 0 s) st=q at *;clear F;go_wp2_with fail;refine c3.mono ?_;rintro G w3 ⟨rfl,D,p,b⟩;have l:=t.trans b;have E:=m.stp b;have i:=r.stp b;clear c3 u t m r b p0 p1 p2 p3 p4 d;obtain⟨p0,p1,p2,p3,p4,d⟩:=dT i.1;go_wp2
  go_end0
  exact⟨rfl,D,by rw[A.out];exact p,l⟩
 by_cases am:e.k=25
 ·have A:Hid (oEx e set st=eL e.k e.n e.nm (λg s=>oFs e.kids (e.k==21) g 0 s) st):=c.out;have F:e.k=19\/e.k=20\/e.k=21\/e.k=24\/e.k=25:=by omega
  have b1:(e.k==1)=false:=bne (by omega);have b2:(e.k==2)=false:=bne (by omega);have b3:(e.k==3)=false:=bne (by omega);have Y:(e.k==4)=false:=bne (by omega);have J:(e.k==23)=false:=bne (by omega);have M:(e.k==22)=false:=bne (by omega);have b6:(e.k==6)=false:=bne (by omega);have b7:(e.k==7)=false:=bne (by omega);have aj:(e.k==19)=false:=bne (by omega);have av:(e.k==21)=false:=bne (by omega);have aE:(e.k==20)=false:=bne (by omega);have aO:(e.k==24)=false:=bne (by omega);have aY:(e.k==25)=true:=by simp[am]
  clear am c;have c3:=mD IH e ag Q ao cap wb st w2 o0 m u F f.out;rw[dU] at c3;generalize eL e.k e.n e.nm (λg s=>oFs e.kids (e.k==21) g 0 s) st=q at *;clear F;go_wp2_with fail;refine c3.mono ?_;rintro G w3 ⟨rfl,D,p,b⟩;have l:=t.trans b;have E:=m.stp b;have i:=r.stp b;clear c3 u t m r b p0 p1 p2 p3 p4 d;obtain⟨p0,p1,p2,p3,p4,d⟩:=dT i.1;go_wp2
  go_end0
  exact⟨rfl,D,by rw[A.out];exact p,l⟩
 have aA:(gZ e.k).isSome=true/\e.kids.len=2:=by
  have j:=f.out;simp only[He] at j;have j:=j.2;have aX:(gZ e.k).isSome=true/\(e.kids.len:Int)=2:=by simpa [ew,h1,h2,U,h4,ap,ai,h6,h7,au,aq,ar,an,am] using j
  exact⟨aX.1,by omega⟩
 obtain⟨x,y,C⟩:=jL aA.2;obtain⟨z,hz⟩:=Option.isSome_iff_exists.1 aA.1;have K:Hid (e.kids=Fs.app .nil (Fs.ex x (Fs.ex y .nil))):=C;have aN:Hid (e.kids=Fs.app (one x) (Fs.ex y .nil)):=by show _=_;rw[C];rfl
 have aa:e.kids.size=x.kids.size+(y.kids.size+0+1)+1:=by rw[C];rfl
 have af:x.kids.size<N:=by omega
 have aT:y.kids.size<N:=by omega
 have ac:=Ex.kidfit Q K.out;have aR:=Ex.kidfit Q aN.out;obtain⟨aH,aG,a1,ay⟩:=Fr hz;have A:Hid (oEx e set st=ic e y 1 (eq ([32]++z.1++[32]) (ic e x 0 st))):=by
  show _=_;rw[c.out];unfold eL;rw[if_neg (by omega),if_neg (by omega),if_neg (by omega),if_neg (by omega),if_neg (by omega),if_neg (by omega),if_neg (by omega)];unfold iF;rw[if_neg (by omega),if_neg (by omega),if_neg (by omega),if_neg (by omega),if_neg (by omega)];simp only[C,oD];have e0:opS e.k 0=([],z.2.2.2.1):=by unfold opS;rw[hz];rfl
  have e1:opS e.k (0+1)=([32]++z.1++[32],z.2.2.2.2):=by unfold opS;rw[hz];rfl
  rw[e0,e1];simp only;rw[vj u,it e x 0 _ (by rw[ay];rfl) aH.symm,it e y 1 _ (by rw[ay];rfl) aG.symm];rfl
 have aJ:=Ei hz;have a3:=jB z.1;generalize z.1=zx at *;have b1:(e.k==1)=false:=bne (by omega);have b2:(e.k==2)=false:=bne (by omega);have b3:(e.k==3)=false:=bne (by omega);have Y:(e.k==4)=false:=bne (by omega);have J:(e.k==23)=false:=bne (by omega);have M:(e.k==22)=false:=bne (by omega);have b6:(e.k==6)=false:=bne (by omega);have b7:(e.k==7)=false:=bne (by omega);have aj:(e.k==19)=false:=bne (by omega);have av:(e.k==21)=false:=bne (by omega);have aE:(e.k==20)=false:=bne (by omega);have aO:(e.k==24)=false:=bne (by omega);have aY:(e.k==25)=false:=bne (by omega);clear h1 h2 U h4 ap ai h6 h7 au aq ar an am aA C hz aa c f aH aG ay;have c3:=jw IH e x .nil (Fs.ex y .nil) K.out 0 rfl (by omega) af ac ao cap wb st w2 o0 m u;rw[dU] at c3;generalize ic e x 0 st=q at *;go_wp2_with fail;refine c3.mono ?_;rintro G w3 ⟨rfl,D,p,b⟩;have l:=t.trans b;have E:=m.stp b;have i:=r.stp b;clear c3 u t m r b p0 p1 p2 p3 p4 d;obtain⟨p0,p1,p2,p3,p4,d⟩:=dT i.1;have cd:=aJ w3;clear aJ;go_wp2_with fail;refine cd.mono ?_;rintro G w4 ⟨rfl,Y⟩;clear cd;have B:dQ (λ_=>False) w3 D w4 D:=dQ.ofB D Y;have R:=i.step B id;have S4:=E.stp0 B;have P:=p.stp0 B;have O:=l.trans B.i12;clear i E p l B Y p0 p1 p2 p3 p4 d;obtain⟨X,aK⟩:=exq D;rw[<-aK] at R S4 P O;clear aK;obtain⟨p0,p1,p2,p3,p4,d⟩:=dT R.1;have c5:=fB ([32]++zx++[32]) P (by simp;omega);have ec:(⟨([32]++zx++[32]).toArray⟩:ByteArray)=⟨#[32]⟩++⟨zx.toArray⟩++⟨#[32]⟩:=by rw[<-yk,<-yk]
 rw[show stv ([32]++zx++[32])=.string (⟨#[32]⟩++⟨zx.toArray⟩++⟨#[32]⟩) by rw[<-ec]] at c5;generalize eq ([32]++zx++[32]) q=al at *;clear ec;go_wp2_with fail;refine c5.mono ?_;rintro G w5 ⟨rfl,o5,H5,W⟩;have T5:=O.trans W;have S5:=S4.stp W;have E5:=R.stp W;clear c5 P O S4 R W p0 p1 p2 p3 p4 d;obtain⟨p0,p1,p2,p3,p4,d⟩:=dT E5.1;have c6:=jw IH e y (one x) .nil aN.out 1 rfl (by omega) (aT) (aR) ao cap wb al w5 o5 S5 H5;rw[dU] at c6;generalize ic e y 1 al=a0 at *;go_wp2_with fail;refine c6.mono ?_;rintro G w6 ⟨rfl,o6,H6,s6⟩;have T6:=T5.trans s6;have S6:=S5.stp s6;have E6:=E5.stp s6;clear c6 H5 T5 S5 E5 s6 p0 p1 p2 p3 p4 d;obtain⟨p0,p1,p2,p3,p4,d⟩:=dT E6.1;go_wp2
 go_end0
 exact⟨rfl,o6,by rw[A.out];exact H6,T6⟩
theorem qr:∀ N,kF N
 | 0=>λe ao cap set wb st w o h=>absurd h (Hv _)
 | N+1=>tJ (qr N)
theorem Du (e:Ex)(ao:Option Ha)(cap:Nat)(w:GI)(K:e.fit)(S:SlT w e.kids ao) :
  GV GH 136 #[exV e ao cap] w (FP w (jz e)):=by
 obtain⟨w1,c⟩:=exq ((w.alloc (bxX e ao cap)).alloc (.cells #[.slice GE 0 0,.int .i64 0,.int .i64 0,.bool true] 226));obtain⟨a,b⟩:=exq w.heap.size;obtain⟨d,f⟩:∃d:Nat->Nat,d=λk=>if k=a+1 then 1 else 0:=⟨_,rfl⟩;have m:GO a w w1:=by rw[c,b];exact((GR _ w).alloc (GG _) _).alloc (by simp) _
 have E:w1.heap[a]?=GF (bxX e ao cap):=by
  rw[c,b];exact(GS _ _ _ (by simp)).trans (GL w _)
 have A:w1.heap[a+1]?=GF (.cells #[.slice GE 0 0,.int .i64 0,.int .i64 0,.bool true] 226 (0,0)):=by
  rw[c,b]
  have:=GL (w.alloc (bxX e ao cap)) (.cells #[.slice GE 0 0,.int .i64 0,.int .i64 0,.bool true] 226)
  simpa using this
 have p:∀ k,k<=a->d k=0:=λk J=>by rw[f];show (if k=a+1 then 1 else 0)=0;rw[if_neg (by omega)]
 have D:d (a+1)=1:=by rw[f];show (if a+1=a+1 then 1 else 0)=1;rw[if_pos rfl]
 have C:WQ w1 d (a+1) (GF ⟨[],0,0⟩):=⟨⟨.slice GE 0 0,⟨A,D⟩,Row.nil _ _ _ _ _⟩,by simp,by simp,by simp⟩;have B:=S.mono (λi _ r=>m.block i (by rw[b];exact r)) m.size (λi _ r=>p i (by omega));have c2:=qr (e.kids.size+1) e ao cap false (a+1) _ w1 d (Nat.lt_succ_self _) K B C;obtain⟨R,o⟩:=exq (oEx e false (GF ⟨[],0,0⟩));rw[<-o] at c2;have j:Hid (jz e=R.map (·.t)):=by show _=_;rw[<-CG,o];rfl
 obtain⟨W,y⟩:=exq (jz e);rw[<-y] at j ⊢;obtain⟨p0,p1,p2,p3,p4,I⟩:=dT E;rw[dU] at c2 ⊢;clear S f C B o y;go_enter Tryz.func136,Tryz.ntmps136;go_upto_region 2 with fail;rw[<-c,<-b];have q:Hid (a=w.heap.size):=b;clear c b A;go_wp2_with fail;refine c2.mono ?_;rintro O w2 ⟨rfl,N,l,s2⟩;have H:=eo m s2 (λk J u=>by rw[p k (by omega)] at u;rcases u with h|h<;>omega) (by rw[q.out];exact GG _);have G:Hid (GO w.heap.size w w2):=by show GO w.heap.size w w2;rw[<-q.out];exact H
 clear c2 s2 m H p D p0 p1 p2 p3 p4 I E q;cases R with
 | none =>
  obtain⟨c3,L,-,-⟩:=l.end;have c3:=c3;have g:Hid (W=GE):=j.out;clear j l;go_wp2;go_ret2;exact⟨by rw[g.out];rfl,G.out⟩
 | some s =>
  obtain⟨c3,L,-,-⟩:=l.end;have c3:=c3;obtain⟨⟨v,x,n⟩,-⟩:=l;obtain⟨Q,d1,d2,d3,P⟩:=Blk.cells4 x;have F:=zy n;obtain⟨M,z,rfl⟩:=n.form;have g:Hid (W=GF s.t):=j.out;clear j x n d1 d2 d3;go_wp2;go_ret2;exact⟨by rw[g.out];rfl,G.out⟩
theorem BK (e:Ex)(ao:Option Ha)(cap:Nat)(w:GI)(f:e.fit)(S:SlT w e.kids ao) :
  GV GH 87 #[exV e ao cap] w λx w'=>x=.returned (.bool (jz e).isSome)/\GO w.heap.size w w':=by
 have a:GO w.heap.size w (w.alloc (bxX e ao cap)):=(GR _ w).alloc (GG _) _;have b:(w.alloc (bxX e ao cap)).heap[w.heap.size]?=GF (bxX e ao cap):=GL w _;have c1:=Du e ao cap (w.alloc (bxX e ao cap)) f (SlT.below S a);obtain⟨p0,p1,p2,p3,p4,d⟩:=dT b;rw[dU] at c1 ⊢;generalize jz e=W at *;go_enter Tryz.func87,Tryz.ntmps87;go_wp2_with fail;refine c1.mono ?_;rintro g w1 ⟨rfl,b1⟩;have c:=a.trans (b1.mono a.size);clear c1 p0 p1 p2 p3 p4 d b;cases W with
 | none =>
  go_wp2;go_ret;exact⟨rfl,c⟩
 | some t =>
  go_wp2;go_ret;exact⟨rfl,c⟩
abbrev zL (t:Int × Nat × Int):GN:=.tuple #[.int .i64 t.1,.int .i64 (t.2.1:Nat),.int .i64 t.2.2]
theorem Af {e:Ex}(d:e.fit){t:List UInt8}(h:jz e=GF t):e.okA/\e.kids.size<=2000/\eM e.k=false:=by
 unfold jz at h;by_cases a:eM e.k=true
 ·rw[if_pos a] at h;cases h
 ·rw[if_neg a] at h;cases b:hE e 0 with
  | none=>rw[b] at h;cases h
  | some c =>
   obtain⟨h1,h2,f⟩:=FB d b;exact⟨h1,by omega,by simpa using a⟩
theorem xO {e:Ex}{t:List UInt8}(h:jz e=GF t):e.kids.stk (e.k==21):=by
 unfold jz at h;split at h
 ·cases h
 ·cases a:hE e 0 with
  | none=>rw[a] at h;cases h
  | some c=>exact Es a
theorem AL (e:Ex)(ao:Option Ha)(cap:Nat)(w:GI)(y:e.fit)(S:SlT w e.kids ao) :
  GV GH 44 #[exV e ao cap] w λx w'=>x=.returned (zL (pe e))/\GO w.heap.size w w':=by
 obtain⟨T,H⟩:=exq (pe e);rw[<-H];have A:Hid (T=pe e):=H;clear H;have B:GO w.heap.size w (w.alloc (zEx e ao cap)):=(GR _ w).alloc (GG _) _;have s:(w.alloc (zEx e ao cap)).heap[w.heap.size]?=GF (zEx e ao cap):=GL w _;have K:=SlT.below S B;rw[dU];go_enter Tryz.func44,Tryz.ntmps44;go_upto_region 1 with fail;generalize w.alloc (zEx e ao cap)=w0 at *;obtain⟨bx,m⟩:=exq w.heap.size;rw[<-m] at s B ⊢;have L:Hid (bx=w.heap.size):=m;clear m;obtain⟨p0,p1,p2,p3,p4,C⟩:=dT s;have j:=GJ s;have c1:=BK e ao cap w0 y K;rw[dU] at c1;go_wp2_with fail;refine c1.mono ?_;rintro x w1 ⟨rfl,b1⟩;have r:=(b1.block _ j).trans s;have M:GO bx w w1:=B.trans (b1.mono (Iq j));have Q:=SlT.below K b1;clear c1 b1 p0 p1 p2 p3 p4 C s B K S;cases o:jz e with
 | none =>
  have b:Hid (T=(0,122,0)):=by show T=_;rw[A.out];unfold pe;rw[o]
  simp only[JA];clear A o;go_wp2;refine GK (v:=zL (0,122,0)) (by simp[results,Tryz.results44,go_sem]) rfl ⟨by rw[b.out],?_⟩;rw[<-L.out];exact M
 | some t =>
  obtain⟨F,V,q⟩:=Af y o;have E:=xO o;simp only[Jz];have d:Hid (T=(match eW e [] with | .inl (er,a)=>(0,er,a) | .inr k=>(k,0,0))):=by
   show T=_;rw[A.out];unfold pe;rw[o];simp only;cases eW e [] with
   | inl z=>obtain⟨er,a⟩:=z;rfl
   | inr k=>rfl
  clear A o;have b2:GO w1.heap.size w1 (w1.alloc (.cells #[.slice GE 0 0,.int .i64 0,.int .i64 0] 139)):=(GR _ w1).alloc (GG _) _;have J:Wk (w1.alloc (.cells #[.slice GE 0 0,.int .i64 0,.int .i64 0] 139)) w1.heap.size (.slice GE 0 0) GE:=⟨GL w1 _,xN.none⟩;have X:=(b2.block _ (GJ r)).trans r;have Y:=M.trans (b2.mono (Iq (GJ r)));have P:Sl (w1.alloc (.cells #[.slice GE 0 0,.int .i64 0,.int .i64 0] 139)) (Nf w1.heap.size) e.kids ao:=Q.mono (λi _ O=>b2.block i O) b2.size (λi _ O=>by show i≠_;omega);have D:bx<w1.heap.size:=GJ r;go_upto_region 5 with fail;generalize w1.alloc (.cells #[.slice GE 0 0,.int .i64 0,.int .i64 0] 139)=w2 at *;generalize w1.heap.size=wb at *;obtain⟨p0,p1,p2,p3,p4,C⟩:=dT X;have c4:=wu (e.kids.size+1) e ao cap wb (.slice GE 0 0) [] w2 ⟨by omega,F,q,E,y.len,y.sh,by simp;omega⟩ J ⟨Nms.nil w2,λg off n c h=>by cases h⟩ P;rw[dU] at c4;have p:=GJ J.blk;clear b2 r M Q P J;go_wp2_with fail;refine c4.mono ?_;rintro x w4 ⟨⟨N,rfl,l⟩,I,R⟩;have U:Hid (GO bx w w4):=Y.trans (R.below (Iq D) p);clear c4 R p0 p1 p2 p3 p4 C;obtain⟨q0,u,q2,Z⟩:=lo I.blk;cases f:eW e [] with
  | inl z =>
   obtain⟨er,a⟩:=z;have G:=vm f;rw[f] at u q2;simp only[stS,erO,plO] at u q2;have W:((er:Int) != 0)=true:=by simp;omega
   have b:Hid (T=(0,er,a)):=by show T=_;rw[d.out,f]
   clear d f G l I;go_wp2_with fail
   go_quiet (fail)
   go_wp2;refine GK (v:=zL (0,er,a)) (by simp[results,Tryz.results44,go_sem]) rfl ⟨by rw[b.out],?_⟩;rw[<-L.out];exact U.out.trans ⟨rfl,rfl,rfl,GG _,λ_ _=>rfl⟩
  | inr k =>
   obtain rfl:=l k f;rw[f] at u q2;simp only[stS,erO,plO] at u q2;have b:Hid (T=(N,0,0)):=by show T=_;rw[d.out,f]
   clear d f l I;go_wp2;refine GK (v:=zL (N,0,0)) (by simp[results,Tryz.results44,go_sem]) rfl ⟨by rw[b.out],?_⟩;rw[<-L.out];exact U.out
def fT:Fs->Fs->Bool
 | ⟨GE⟩,⟨GE⟩=>true
 | ⟨GF ⟨k,n,nm,_,ks,r⟩⟩,⟨GF ⟨d,n',a,_,b,c⟩⟩=>k==d&&n==n'&&nm==a&&fT ks b&&fT r c
 | _,_=>false
def eO (a b:Ex):Bool:=a.k==b.k&&a.n==b.n&&a.nm==b.nm&&fT a.kids b.kids
theorem mY:∀ (x y:Fs),x.len≠y.len->fT x y=false
 | ⟨GE⟩,⟨GE⟩,h=>absurd rfl h
 | ⟨GE⟩,⟨GF ⟨f,n',c,g,d,b⟩⟩,h=>rfl
 | ⟨GF ⟨k,n,nm,a,ks,r⟩⟩,⟨GE⟩,h=>rfl
 | ⟨GF ⟨k,n,nm,a,ks,r⟩⟩,⟨GF ⟨f,n',c,g,d,b⟩⟩,h=>by
  have h2:r.len≠b.len:=λe=>h (by simp only[Fs.len,e]);simp only[fT,mY r b h2,Bool.and_false]
theorem lG:∀ (x:Fs),fT x x=true
 | ⟨GE⟩=>rfl
 | ⟨GF ⟨k,n,nm,a,ks,r⟩⟩=>by simp[fT,lG ks,lG r]
def nmP (k:Int)(nm:List UInt8):Bool:=if k==23 then eE nm else nm==[]
def nuP (nc:Nat)(k n:Int)(ar:Nat):Bool :=
 if k==1 then true else if k==2 then n==0||n==1 else if k==3 then decide (0<=n) else if k==5 then decide (0<=n)&&decide (n<(ar:Int))
 else if k==20 then decide (1<=n)&&decide (n<=10) else if k==21 then decide (1<=n)&&decide (n<=6) else if k==26 then decide (0<=n)&&decide (n<(nc:Int)) else n==0
def wkP (ks:List Int)(i:Nat):Int :=
 match ks[i]? with
 | some k=>if k=4 then 0 else k
 | none=>0
def eG (k n:Int)(ks:List Int):List Int × Int :=
 if k=1 then ([],1) else if k=2 then ([],2) else if k=3\/k=5 then ([],3) else if k=6 then ([1],1) else if k=7 then ([2],2)
 else if 8<=k/\k<=12 then ([1,1],1) else if k=15\/k=16 then ([1,1],2) else if k=17\/k=18 then ([2,2],2)
 else if k=13\/k=14 then ([wkP ks 0,wkP ks 0],2) else if k=19 then ([2,wkP ks 1,wkP ks 1],wkP ks 1)
 else if k=20 then (if n=1\/n=2 then ([3,3],2) else if n=3 then ([3,3],1) else if n=10 then ([3],3) else ([3],1))
 else if k=21 then (if n=1\/n=2 then ([4,2],2) else if n=3 then ([4,2],1) else ([4,1],1))
 else if k=26 then ([wkP ks 0],wkP ks 0) else if k=22\/k=23 then ([],4) else if k=24 then ([3],4) else if k=25 then (Ho ks.length 3,4) else ([],0)
def hgF:Fs->Int->Int
 | ⟨GE⟩,_=>0
 | ⟨GF ⟨k,n,_,_,ks,r⟩⟩,ar=>max (max (if k=5/\n<ar then n+1 else 0) (hgF ks ar)) (hgF r ar)
def hgE (e:Ex)(ar:Int):Int:=max (if e.k=5/\e.n<ar then e.n+1 else 0) (hgF e.kids ar)
abbrev Rg:=Nat × (Nat->Option Ex)
def ep (pk:Int)(i ar b:Nat):Nat × Nat:=if pk=21 then (if i=0 then ar else ar+1,b+1) else (ar,b)
def fN (cells:List Int)(n:Int)(ks:Fs)(ar:Nat)(s:Rg):Option Rg :=
 match cells[n.toNat]? with
 | none=>GE
 | some lv =>
  if (ar:Int)<lv\/lv<hgE ks.head ar then GE else
  match s.2 n.toNat with
  | none=>GF (s.1,λi=>if i=n.toNat then GF ks.head else s.2 i)
  | some x=>if eO x ks.head then GF s else GE
def rgF (cells:List Int):Fs->Int->Nat->Nat->Nat->Rg->Option (Rg × List Int)
 | ⟨GE⟩,_,_,_,_,s=>GF (s,[])
 | ⟨GF ⟨k,n,nm,a,ks,r⟩⟩,pk,i,ar,b,s =>
  if 4096<s.1+1\/4<(ep pk i ar b).2\/nmP k nm=false\/nuP cells.length k n (ep pk i ar b).1=false then GE else
  match rgF cells ks k 0 (ep pk i ar b).1 (ep pk i ar b).2 (s.1+1,s.2) with
  | none=>GE
  | some (c,kd) =>
   if (eG k n kd).2=0\/(eG k n kd).1≠kd then GE else
   match (if k=26 then fN cells n ks (ep pk i ar b).1 c else GF c) with
   | none=>GE
   | some s2 =>
    match rgF cells r pk (i+1) ar b s2 with
    | none=>GE
    | some (d,rest)=>GF (d,(eG k n kd).2::rest)
def fa (cells:List Int)(e:Ex):Int :=
 if 256<cells.length\/cells.any (λc=>decide (c<0)||decide (4<c))=true then 0 else
 match rgF cells (one e) 0 0 0 0 (0,λ_=>GE) with
 | some (_,[k])=>if k=4 then 0 else k
 | _=>0
theorem qT (cells:List Int):∀ (f:Fs) (pk:Int) (i ar b:Nat) (s s':Rg) (kd:List Int),rgF cells f pk i ar b s=GF (s',kd)->kd.length=f.len
 | ⟨GE⟩,pk,i,ar,b,s,s',kd,h=>by
  simp only[rgF] at h;injection h with h
  injection h with h1 h2
  subst h2;rfl
 | ⟨GF ⟨k,n,nm,a,ks,r⟩⟩,pk,i,ar,b,s,s',kd,h=>by
  unfold rgF at h;split at h
  ·cases h
  ·split at h
   ·cases h
   ·split at h
    ·cases h
    ·split at h
     ·cases h
     ·split at h
      ·cases h
      ·rename_i c rest h5
       injection h with h
       injection h with h1 h2
       subst h2
       have:=qT cells r pk (i+1) ar b _ _ _ h5
       simp only[Hc,Fs.len];omega
def rgE (cells:List Int)(e:Ex)(ar a:Nat)(s:Rg):Option (Rg × Int) :=
 if 4096<s.1+1\/4<a\/nmP e.k e.nm=false\/nuP cells.length e.k e.n ar=false then GE else
 match rgF cells e.kids e.k 0 ar a (s.1+1,s.2) with
 | none=>GE
 | some (b,kd) =>
  if (eG e.k e.n kd).2=0\/(eG e.k e.n kd).1≠kd then GE else
  match (if e.k=26 then fN cells e.n e.kids ar b else GF b) with
  | none=>GE
  | some s2=>GF (s2,(eG e.k e.n kd).2)
theorem iK (cells:List Int)(x:Ex)(r:Fs)(pk:Int)(i ar b:Nat)(s:Rg) :
  rgF cells (Fs.ex x r) pk i ar b s=(match rgE cells x (ep pk i ar b).1 (ep pk i ar b).2 s with
   | none=>GE
   | some (s2,k)=>match rgF cells r pk (i+1) ar b s2 with
    | none=>GE
    | some (d,rest)=>GF (d,k::rest)):=by
 obtain⟨k,n,nm,a,ks⟩:=x;unfold Fs.ex
 conv=>lhs;unfold rgF
 unfold rgE;simp only;by_cases h1:4096<s.1+1\/4<(ep pk i ar b).2\/nmP k nm=false\/nuP cells.length k n (ep pk i ar b).1=false
 ·rw[if_pos h1,if_pos h1]
 ·rw[if_neg h1,if_neg h1];cases rgF cells ks k 0 (ep pk i ar b).1 (ep pk i ar b).2 (s.1+1,s.2) with
  | none=>rfl
  | some z =>
   obtain⟨c,kd⟩:=z;simp only;by_cases h2:(eG k n kd).2=0\/(eG k n kd).1≠kd
   ·rw[if_pos h2,if_pos h2]
   ·rw[if_neg h2,if_neg h2];cases (if k=26 then fN cells n ks (ep pk i ar b).1 c else GF c) with
    | none=>rfl
    | some s2=>rfl
theorem mF {cells:List Int}{e:Ex}{ar a:Nat}{s s':Rg}{k:Int}(h:rgE cells e ar a s=GF (s',k)):k≠0:=by
 unfold rgE at h;split at h
 ·cases h
 ·split at h
  ·cases h
  ·split at h
   ·cases h
   ·rename_i h2
    split at h
    ·cases h
    ·injection h with h
     injection h with _ h
     intro b;exact h2 (.inl (h.trans b))
abbrev Dg:=Option Rg
def eT (cells:List Int)(st:Dg)(m:Int)(e:Ex)(ar b:Nat):Dg :=
 match st with
 | none=>GE
 | some s=>match rgE cells e ar b s with
  | none=>GE
  | some (s',k)=>if k=m then GF s' else GE
def fy (cells:List Int):Fs->Dg->Int->Nat->Nat->Dg
 | ⟨GE⟩,st,_,_,_=>st
 | ⟨GF ⟨k,n,nm,a,ks,r⟩⟩,st,m,ar,b=>fy cells r (eT cells st m ⟨k,n,nm,a,ks⟩ ar b) m ar b
theorem jD (cells:List Int):∀ (f:Fs) (m:Int) (ar b:Nat),fy cells f GE m ar b=GE
 | ⟨GE⟩,m,ar,b=>rfl
 | ⟨GF ⟨k,n,nm,a,ks,r⟩⟩,m,ar,b=>jD cells r m ar b
def anD (r:Dg)(g:Int):Option (Rg × Int):=match r with|none=>GE|some s=>GF (s,g)
theorem vl (cells:List Int)(pk m:Int)(ar b:Nat)(g:pk≠21):∀ (f:Fs) (i:Nat) (s:Rg),
  fy cells f (GF s) m ar b=(match rgF cells f pk i ar b s with|none=>GE|some (s',kd)=>if kd=Ho f.len m then GF s' else GE)
 | ⟨GE⟩,i,s=>by simp[fy,rgF,Fs.len]
 | ⟨GF ⟨k,n,nm,a,ks,r⟩⟩,i,s=>by
  have c:ep pk i ar b=(ar,b):=by unfold ep;rw[if_neg g]
  have h1:=iK cells ⟨k,n,nm,a,ks⟩ r pk i ar b s;rw[c] at h1;have h2:rgF cells ⟨GF ⟨k,n,nm,a,ks,r⟩⟩ pk i ar b s=_:=h1;rw[h2];unfold fy;unfold eT;simp only;cases rgE cells ⟨k,n,nm,a,ks⟩ ar b s with
  | none=>simp only;exact jD cells r m ar b
  | some z =>
   obtain⟨s2,e⟩:=z;simp only;by_cases d:e=m
   ·subst d;rw[if_pos rfl,vl cells pk e ar b g r (i+1) s2];cases rgF cells r pk (i+1) ar b s2 with
    | none=>rfl
    | some z =>
     obtain⟨h,rest⟩:=z;simp only[Fs.len,List.replicate_succ,J0,true_and]
   ·rw[if_neg d,jD];cases rgF cells r pk (i+1) ar b s2 with
    | none=>rfl
    | some z =>
     obtain⟨h,rest⟩:=z;simp only[Fs.len,List.replicate_succ,J0,d,false_and,if_false]
def gdE (cells:List Int)(e:Ex)(ar a:Nat)(s:Rg):Prop:=¬(4096<s.1+1\/4<a\/nmP e.k e.nm=false\/nuP cells.length e.k e.n ar=false)
theorem zX {cells:List Int}{e:Ex}{ar a:Nat}{s:Rg}(m g:Int)(i:gdE cells e ar a s)(d:e.k≠21)(c:e.k≠26)(j:∀ kd:List Int,kd.length=e.kids.len->eG e.k e.n kd=(Ho e.kids.len m,g))(l:g≠0) :
  rgE cells e ar a s=anD (fy cells e.kids (GF (s.1+1,s.2)) m ar a) g:=by
 unfold rgE;rw[if_neg i,vl cells e.k m ar a d e.kids 0];cases f:rgF cells e.kids e.k 0 ar a (s.1+1,s.2) with
 | none=>rfl
 | some z =>
  obtain⟨o,kd⟩:=z;simp only;rw[j kd (qT _ _ _ _ _ _ _ _ _ f)];simp only;by_cases b:kd=Ho e.kids.len m
  ·rw[if_pos b,if_neg (by rintro (h|h);exact l h;exact h b.symm),if_neg c];rfl
  ·rw[if_neg b,if_pos (.inr (λh=>b h.symm))];rfl
theorem jA {cells:List Int}{e:Ex}{ar a:Nat}{s:Rg}(h:¬gdE cells e ar a s):rgE cells e ar a s=GE:=by
 unfold rgE;unfold gdE at h;rw[if_pos (Classical.not_not.1 h)]
theorem zq {cells:List Int}{k n:Int}{nm:List UInt8}{a:Int}{x y:Ex}{ar b:Nat}{s:Rg}(m:k=13\/k=14)(o:gdE cells ⟨k,n,nm,a,Fs.ex x (Fs.ex y .nil)⟩ ar b s) :
  rgE cells ⟨k,n,nm,a,Fs.ex x (Fs.ex y .nil)⟩ ar b s=(match rgE cells x ar b (s.1+1,s.2) with
   | none=>GE
   | some (f,k0)=>if k0=4 then GE else anD (eT cells (GF f) k0 y ar b) 2):=by
 have d:∀ i,ep k i ar b=(ar,b):=λi=>by unfold ep;rw[if_neg (by omega)]
 conv=>lhs;unfold rgE
 rw[if_neg o];simp only;rw[iK,d];simp only;cases j:rgE cells x ar b (s.1+1,s.2) with
 | none=>rfl
 | some z =>
  obtain⟨f,k0⟩:=z;have q:=mF j;simp only;rw[iK,d];simp only[eT];cases g:rgE cells y ar b f with
  | none=>simp only[anD];split<;>rfl
  | some z =>
   obtain⟨s2,c⟩:=z;have h1:=mF g;simp only[rgF];have p:eG k n [k0,c]=([wkP [k0,c] 0,wkP [k0,c] 0],2):=by
    unfold eG;rcases m with rfl|rfl<;>simp
   rw[p];have l:wkP [k0,c] 0=if k0=4 then 0 else k0:=rfl;rw[l];by_cases e:k0=4
   ·rw[if_pos e,if_pos e,if_pos (.inr (by intro h;injection h with h;exact q h.symm))]
   ·rw[if_neg e,if_neg e];by_cases h5:c=k0
    ·subst h5;rw[if_neg (by rintro (h|h);cases h;exact h rfl),if_neg (by omega),if_pos rfl];rfl
    ·rw[if_pos (.inr (by intro h;injection h with _ h;injection h with h;exact h5 h.symm)),if_neg h5];rfl
theorem yt {cells:List Int}{n:Int}{nm:List UInt8}{a:Int}{x y z:Ex}{ar b:Nat}{s:Rg}(m:gdE cells ⟨19,n,nm,a,Fs.ex x (Fs.ex y (Fs.ex z .nil))⟩ ar b s) :
  rgE cells ⟨19,n,nm,a,Fs.ex x (Fs.ex y (Fs.ex z .nil))⟩ ar b s=(match eT cells (GF (s.1+1,s.2)) 2 x ar b with
   | none=>GE
   | some s0=>match rgE cells y ar b s0 with
    | none=>GE
    | some (e,k0)=>if k0=4 then GE else anD (eT cells (GF e) k0 z ar b) k0):=by
 have c:∀ i,ep 19 i ar b=(ar,b):=λi=>by unfold ep;rw[if_neg (by omega)]
 conv=>lhs;unfold rgE
 rw[if_neg m];simp only;rw[iK,c];simp only[eT];cases p:rgE cells x ar b (s.1+1,s.2) with
 | none=>rfl
 | some u =>
  obtain⟨s0,f⟩:=u;simp only;rw[iK,c];simp only;cases g:rgE cells y ar b s0 with
  | none =>
   simp only;by_cases h2:f=2
   ·rw[if_pos h2];simp only[g]
   ·rw[if_neg h2]
  | some u =>
   obtain⟨e,k0⟩:=u;have o:=mF g;simp only;rw[iK,c];simp only;have j:∀ d,eG 19 n [f,k0,d]=([2,if k0=4 then 0 else k0,if k0=4 then 0 else k0],if k0=4 then 0 else k0):=λd=>by
    unfold eG;simp[wkP]
   by_cases h2:f=2
   ·subst h2;rw[if_pos rfl];simp only[g];cases l:rgE cells z ar b e with
    | none=>simp only[anD];split<;>rfl
    | some u =>
     obtain⟨s2,d⟩:=u;simp only[rgF];rw[j];by_cases k:k0=4
     ·simp only[k,if_true];rw[if_pos (.inl trivial)]
     ·simp only[k,if_false];by_cases h5:d=k0
      ·subst h5;rw[if_neg (by rintro (h|h);exact o h;exact h rfl),if_neg (by omega),if_pos rfl];rfl
      ·rw[if_pos (.inr (by intro h;injection h with _ h;injection h with _ h;injection h with h;exact h5 h.symm)),if_neg h5];rfl
   ·rw[if_neg h2];cases l:rgE cells z ar b e with
    | none=>rfl
    | some u =>
     obtain⟨s2,d⟩:=u;simp only[rgF];rw[j];simp only;rw[if_pos (.inr (by intro h;injection h with h;exact h2 h.symm))]
theorem Ai {cells:List Int}{n:Int}{nm:List UInt8}{a:Int}{t x:Ex}{ar b:Nat}{s:Rg}(l:gdE cells ⟨21,n,nm,a,Fs.ex t (Fs.ex x .nil)⟩ ar b s)(p:1<=n/\n<=6) :
  rgE cells ⟨21,n,nm,a,Fs.ex t (Fs.ex x .nil)⟩ ar b s=anD (eT cells (eT cells (GF (s.1+1,s.2)) 4 t ar (b+1)) (fC n) x (ar+1) (b+1)) (fq n):=by
 have e:ep 21 0 ar b=(ar,b+1):=rfl;have d:ep 21 1 ar b=(ar+1,b+1):=rfl
 conv=>lhs;unfold rgE
 rw[if_neg l];simp only;rw[iK,e];simp only[eT];have g:∀ k0 c,eG 21 n [k0,c]=([4,fC n],fq n):=λk0 c=>by
  have m:n=1\/n=2\/n=3\/n=4\/n=5\/n=6:=by omega
  rcases m with rfl|rfl|rfl|rfl|rfl|rfl<;>rfl
 have k:fq n≠0:=by unfold fq;split<;>omega
 cases o:rgE cells t ar (b+1) (s.1+1,s.2) with
 | none=>rfl
 | some u =>
  obtain⟨s0,k0⟩:=u;simp only;rw[iK,d];simp only;by_cases f:k0=4
  ·subst f;rw[if_pos rfl];simp only;cases j:rgE cells x (ar+1) (b+1) s0 with
   | none=>rfl
   | some u =>
    obtain⟨i,c⟩:=u;simp only[rgF];rw[g];simp only;by_cases h5:c=fC n
    ·rw[if_neg (by rintro (h|h);exact k h;exact h (by rw[h5])),if_neg (by omega),if_pos h5];rfl
    ·rw[if_pos (.inr (by intro h;injection h with _ h;injection h with h;exact h5 h.symm)),if_neg h5];rfl
  ·rw[if_neg f];simp only[anD];cases j:rgE cells x (ar+1) (b+1) s0 with
   | none=>rfl
   | some u =>
    obtain⟨i,c⟩:=u;simp only[rgF];rw[g];simp only;rw[if_pos (.inr (by intro h;injection h with h;exact f h.symm))]
theorem CK {cells:List Int}{e:Ex}{ar a:Nat}{s:Rg}(h:4<a):rgE cells e ar a s=GE:=jA (λb=>b (.inr (.inl h)))
theorem yy {cells:List Int}{st:Dg}{m:Int}{e:Ex}{ar a:Nat}(h:4<a):eT cells st m e ar a=GE:=by
 unfold eT;cases st with
 | none=>rfl
 | some s=>simp only[CK h]
theorem CM {cells:List Int}{n:Int}{nm:List UInt8}{a:Int}{x:Ex}{ar b:Nat}{s:Rg}(g:gdE cells ⟨26,n,nm,a,Fs.ex x .nil⟩ ar b s) :
  rgE cells ⟨26,n,nm,a,Fs.ex x .nil⟩ ar b s=(match rgE cells x ar b (s.1+1,s.2) with
   | none=>GE
   | some (c,k0)=>if k0=4 then GE else anD (fN cells n (Fs.ex x .nil) ar c) k0):=by
 have d:∀ i,ep 26 i ar b=(ar,b):=λi=>by unfold ep;rw[if_neg (by omega)]
 conv=>lhs;unfold rgE
 rw[if_neg g];simp only;rw[iK,d];simp only;cases f:rgE cells x ar b (s.1+1,s.2) with
 | none=>rfl
 | some u =>
  obtain⟨c,k0⟩:=u;have k:=mF f;simp only[rgF];have j:eG 26 n [k0]=([if k0=4 then 0 else k0],if k0=4 then 0 else k0):=by
   unfold eG;simp[wkP]
  rw[j];simp only;by_cases e:k0=4
  ·simp only[e,if_true];rw[if_pos (.inl trivial)]
  ·simp only[e,if_false,if_true];rw[if_neg (by rintro (h|h);exact k h;exact h rfl)];cases fN cells n (Fs.ex x .nil) ar c with
   | none=>rfl
   | some s2=>rfl
def eg (k n:Int)(nm:List UInt8)(len:Nat):Bool :=
 if k=1 then nm==[]&&len==0
 else if k=2 then (n==0||n==1)&&(nm==[]&&len==0)
 else if k=3\/k=5 then decide (0<=n)&&(nm==[]&&len==0)
 else if k=6\/k=7\/k=24 then n==0&&(nm==[]&&len==1)
 else if 8<=k/\k<=18 then n==0&&(nm==[]&&len==2)
 else if k=19 then n==0&&(nm==[]&&len==3)
 else if k=20 then nm==[]&&((decide (1<=n)&&decide (n<=3)&&len==2)||(decide (4<=n)&&decide (n<=10)&&len==1))
 else if k=21 then decide (1<=n)&&(decide (n<=6)&&(nm==[]&&len==2))
 else if k=22 then n==0&&(nm==[]&&len==0)
 else if k=23 then n==0&&(len==0&&eE nm)
 else if k=25 then n==0&&nm==[]
 else if k=26 then nm==[]&&len==1
 else false
theorem gL {cells:List Int}{e:Ex}{ar b:Nat}{s s':Rg}{k:Int}(h:rgE cells e ar b s=GF (s',k)) :
  gdE cells e ar b s/\∃a kd,rgF cells e.kids e.k 0 ar b (s.1+1,s.2)=GF (a,kd)/\kd.length=e.kids.len/\(eG e.k e.n kd).2≠0/\(eG e.k e.n kd).1=kd/\k=(eG e.k e.n kd).2/\(if e.k=26 then fN cells e.n e.kids ar a else GF a)=GF s':=by
 unfold rgE at h;split at h
 ·cases h
 ·rename_i d
  split at h
  ·cases h
  ·rename_i a kd c
   split at h
   ·cases h
   ·rename_i h2
    split at h
    ·cases h
    ·rename_i s2 g
     injection h with h
     injection h with f h5
     subst f;exact⟨d,a,kd,c,qT _ _ _ _ _ _ _ _ _ c,λh=>h2 (.inl h),Classical.not_not.1 (λh=>h2 (.inr h)),h5.symm,g⟩
theorem ol {k n:Int}{kd:List Int}(h:(eG k n kd).2≠0):(1<=k/\k<=3)\/(5<=k/\k<=26):=by
 apply Ji;intro a;apply h;unfold eG
 repeat rw[if_neg (by omega)]
theorem nK {cells:List Int}{e:Ex}{ar j:Nat}{s s':Rg}{k:Int}(h:rgE cells e ar j s=GF (s',k)):eg e.k e.n e.nm e.kids.len=true:=by
 obtain⟨d,p,kd,-,g,i,h1,-,-⟩:=gL h;obtain⟨k0,n,nm,a,f⟩:=e;unfold gdE at d;simp only at d g i h1 ⊢;clear h;have l:=ol i;have b:(eG k0 n kd).1.length=f.len:=by rw[h1,g]
 have o:k0=1\/k0=2\/k0=3\/k0=5\/k0=6\/k0=7\/k0=8\/k0=9\/k0=10\/k0=11\/k0=12\/k0=13\/k0=14\/k0=15\/k0=16\/k0=17\/k0=18\/k0=19\/k0=20\/k0=21\/k0=22\/k0=23\/k0=24\/k0=25\/k0=26:=by omega
 clear i h1 g l;generalize f.len=m at b ⊢;rcases o with rfl|rfl|rfl|rfl|rfl|rfl|rfl|rfl|rfl|rfl|rfl|rfl|rfl|rfl|rfl|rfl|rfl|rfl|rfl|rfl|rfl|rfl|rfl|rfl|rfl <;>
  simp[nmP,nuP] at d<;>simp[eG] at b<;>simp[eg,d,<-b]
 ·omega
 ·have c:n=1\/n=2\/n=3\/n=4\/n=5\/n=6\/n=7\/n=8\/n=9\/n=10:=by omega
  rcases c with rfl|rfl|rfl|rfl|rfl|rfl|rfl|rfl|rfl|rfl<;>simp
 ·have c:n=1\/n=2\/n=3\/n=4\/n=5\/n=6:=by omega
  rcases c with rfl|rfl|rfl|rfl|rfl|rfl<;>simp
theorem rN {cells:List Int}{e:Ex}{ar a:Nat}{s:Rg}(h:eg e.k e.n e.nm e.kids.len=false):rgE cells e ar a s=GE:=by
 cases b:rgE cells e ar a s with
 | none=>rfl
 | some z =>
  obtain⟨s',k⟩:=z;rw[nK b] at h;cases h
theorem gU {k n:Int}{nm:List UInt8}{len:Nat}(h:eg k n nm len=true):k=1\/k=2\/k=3\/k=5\/k=6\/k=7\/k=8\/k=9\/k=10\/k=11\/k=12\/k=13\/k=14\/k=15\/k=16\/k=17\/k=18\/k=19\/k=20\/k=21\/k=22\/k=23\/k=24\/k=25\/k=26:=by
 apply Ji;intro a;unfold eg at h
 repeat rw[if_neg (by omega)] at h
 cases h
theorem kQ {cells:List Int}{e:Ex}{ar c:Nat}{s:Rg}(h:eg e.k e.n e.nm e.kids.len=true)(i:s.1+1<=4096)(g:c<=4)(h5:e.k=5->e.n<(ar:Int))(b:e.k=26->0<=e.n/\e.n<(cells.length:Int)):gdE cells e ar c s:=by
 obtain⟨k0,n,nm,a,f⟩:=e;have d:=gU h;simp only at h h5 b d;unfold gdE;simp only;generalize f.len=m at h;have h1:nmP k0 nm=true/\nuP cells.length k0 n ar=true:=by
  rcases d with rfl|rfl|rfl|rfl|rfl|rfl|rfl|rfl|rfl|rfl|rfl|rfl|rfl|rfl|rfl|rfl|rfl|rfl|rfl|rfl|rfl|rfl|rfl|rfl|rfl <;>
   simp[eg] at h<;>simp[nmP,nuP,h]<;>first|exact h5 rfl|exact b rfl|omega
 rw[h1.1,h1.2];simp;omega
def fJ (cells:List Int)(e:Ex)(ar b:Nat)(s:Rg):Option (Rg × Int) :=
 match rgE cells e ar b s with
 | none=>GE
 | some (s',k)=>if k=4 then GE else GF (s',k)
theorem kW {cells:List Int}{e:Ex}{ar a:Nat}{s:Rg}(h:rgE cells e ar a s=GE):fJ cells e ar a s=GE:=by unfold fJ;rw[h]
theorem vJ {cells:List Int}{e:Ex}{ar a:Nat}{s:Rg}{r:Dg}{g:Int}(h:rgE cells e ar a s=anD r g)(b:g≠4):fJ cells e ar a s=anD r g:=by
 unfold fJ;rw[h];cases r with
 | none=>rfl
 | some s'=>simp only[anD];rw[if_neg b]
theorem Bs {cells:List Int}{e:Ex}{ar a:Nat}{s:Rg}{m:Int}(c:m≠4):eT cells (GF s) m e ar a=(match fJ cells e ar a s with|none=>GE|some (s',k)=>if k=m then GF s' else GE):=by
 simp only[eT,fJ];cases rgE cells e ar a s with
 | none=>rfl
 | some z =>
  obtain⟨s',k⟩:=z;simp only;by_cases b:k=4
  ·rw[if_pos b,if_neg (by omega)]
  ·rw[if_neg b]
theorem oG:∀ {x y:Fs} (z:Fs),fT x y=true->fT y z=fT x z
 | ⟨GE⟩,⟨GE⟩,z,h=>rfl
 | ⟨GE⟩,⟨GF ⟨f,n',b,g,c,e⟩⟩,z,h=>by cases h
 | ⟨GF ⟨k,n,nm,a,ks,r⟩⟩,⟨GE⟩,z,h=>by cases h
 | ⟨GF ⟨k,n,nm,a,ks,r⟩⟩,⟨GF ⟨f,n',b,g,c,e⟩⟩,⟨GE⟩,h=>rfl
 | ⟨GF ⟨k,n,nm,a,ks,r⟩⟩,⟨GF ⟨f,n',b,g,c,e⟩⟩,⟨GF ⟨o,n2,j,a2,d,i⟩⟩,h=>by
  simp only[fT,He,beq_iff_eq] at h;obtain⟨⟨⟨⟨h1,h2⟩,m⟩,l⟩,h5⟩:=h;subst h1;subst h2;subst m;simp only[fT,oG d l,oG i h5]
theorem Ad {x y:Ex}(z:Ex)(h:eO x y=true):eO y z=eO x z:=by
 unfold eO at h ⊢;simp only[He,beq_iff_eq] at h;obtain⟨⟨⟨h1,h2⟩,b⟩,a⟩:=h;rw[h1,h2,b,oG z.kids a]
theorem vS (ar:Int):∀ (f:Fs),0<=hgF f ar
 | ⟨GE⟩=>by simp[hgF]
 | ⟨GF ⟨k,n,nm,a,ks,r⟩⟩=>by
  have:=vS ar r
  simp only[hgF];exact Int.le_trans this (Int.le_max_right _ _)
theorem uT (ar:Int)(b:0<=ar):∀ (f:Fs),hgF f ar<=ar
 | ⟨GE⟩=>by simpa [hgF] using b
 | ⟨GF ⟨k,n,nm,a,ks,r⟩⟩=>by
  have h1:=uT ar b ks;have h2:=uT ar b r;have c:(if k=5/\n<ar then n+1 else 0)<=ar:=by split<;>omega
  simp only[hgF];generalize (if k=5/\n<ar then n+1 else 0)=z at c ⊢;omega
theorem mK (ar:Int)(b:0<=ar)(e:Ex):hgE e ar<=ar:=by
 have h1:=uT ar b e.kids;have a:(if e.k=5/\e.n<ar then e.n+1 else 0)<=ar:=by split<;>omega
 unfold hgE;generalize (if e.k=5/\e.n<ar then e.n+1 else 0)=z at a ⊢;omega
theorem kY (ar:Int)(e:Ex):0<=hgE e ar:=by
 have:=vS ar e.kids
 unfold hgE;omega
structure Kp (a b:Nat)(w w':GI):Prop where
 os:w'.os=w.os
 tape:w'.tape=w.tape
 output:w'.output=w.output
 size:w.heap.size<=w'.heap.size
 block:∀ k,k<w.heap.size->k≠a->k≠b->w'.heap[k]?=w.heap[k]?
theorem Kp.refl (a b:Nat)(w:GI):Kp a b w w:=⟨rfl,rfl,rfl,GG _,λ_ _ _ _=>rfl⟩
theorem Kp.trans {p q:Nat}{a b c:GI}(h:Kp p q a b)(k:Kp p q b c):Kp p q a c :=
 ⟨k.os.trans h.os,k.tape.trans h.tape,k.output.trans h.output,Hr h.size k.size,λi f d e=>(k.block i (GQ f h.size) d e).trans (h.block i f d e)⟩
theorem Kp.ofBelow {a b:Nat}{w w':GI}(h:GO w.heap.size w w'):Kp a b w w':=⟨h.os,h.tape,h.output,h.size,λk c _ _=>h.block k c⟩
theorem Kp.set {p q:Nat}{a w:GI}(h:Kp p q a w)(r:Ha)(u:GN)(b:a.heap.size<=r.block\/r.block=p\/r.block=q):Kp p q a (w.setCell r u) :=
 ⟨h.os,h.tape,h.output,by simpa using h.size,λk f c d=>(GT w r k u (λe=>by
  rcases b with b|b|b
  ·omega
  ·exact c (e.trans b)
  ·exact d (e.trans b))).trans (h.block k f c d)⟩
theorem Kp.alloc {p q:Nat}{a w:GI}(h:Kp p q a w)(b:Obj):Kp p q a (w.alloc b):=h.trans ⟨rfl,rfl,rfl,by simp,λk c _ _=>GS w b k c⟩
theorem Kp.below {a b n:Nat}{w w':GI}(h:Kp a b w w')(f:n<=a)(e:n<=b)(c:n<=w.heap.size):GO n w w':=⟨h.os,h.tape,h.output,h.size,λk d=>h.block k (by omega) (by omega) (by omega)⟩
theorem Kp.bel {p q:Nat}{w a b:GI}(B:GO w.heap.size w a)(K:Kp p q a b):Kp p q w b:=(Kp.ofBelow B).trans K
abbrev Nf2 (a b:Nat):Nat->Prop:=λi=>i≠a/\i≠b
theorem SlN.kp {a b:Nat}{w w':GI}{f:Fs}{ao:Option Ha}(h:SlN w (Nf2 a b) f ao)(k:Kp a b w w'):SlN w' (Nf2 a b) f ao:=h.mono (λi c d=>k.block i d c.1 c.2) k.size (λ_ h _=>h)
theorem SlN.belowP {P:Nat->Prop}{w w':GI}{f:Fs}{ao:Option Ha}(h:SlN w P f ao)(b:GO w.heap.size w w'):SlN w' P f ao:=h.mono (λi _ a=>b.block i a) b.size (λ_ h _=>h)
def Inw (w:GI)(P:Nat->Prop)(v:GN)(xs:List Int):Prop :=
 ∃ao cap,v=.slice ao xs.length cap/\(xs=[]\/∃b off,ao=GF ⟨b,off,GE⟩/\P b/\b<w.heap.size/\∀ j x,xs[j]?=GF x->w.cell? ⟨b,off+j,GE⟩=GF (.int .i64 x))
theorem Inw.mono {w w':GI}{P Q:Nat->Prop}{v:GN}{xs:List Int}(l:∀ k,P k->k<w.heap.size->w'.heap[k]?=w.heap[k]?)(f:w.heap.size<=w'.heap.size)(g:∀ k,P k->k<w.heap.size->Q k)(h:Inw w P v xs):Inw w' Q v xs:=by
 obtain⟨ao,cap,rfl,h⟩:=h;refine⟨ao,cap,rfl,?_⟩;rcases h with h|⟨b,off,rfl,d,c,i⟩
 ·exact .inl h
 ·exact .inr ⟨b,off,rfl,g b d c,GQ c f,λj u e=>(GW (a:=⟨b,off+j,GE⟩) (l b d c)).trans (i j u e)⟩
theorem Inw.kp {a b:Nat}{w w':GI}{v:GN}{xs:List Int}(h:Inw w (Nf2 a b) v xs)(k:Kp a b w w'):Inw w' (Nf2 a b) v xs:=h.mono (λi c d=>k.block i d c.1 c.2) k.size (λ_ h _=>h)
theorem Inw.below {P:Nat->Prop}{w w':GI}{v:GN}{xs:List Int}(h:Inw w P v xs)(b:GO w.heap.size w w'):Inw w' P v xs:=h.mono (λi _ a=>b.block i a) b.size (λ_ h _=>h)
theorem SlN.kidP {P:Nat->Prop}{w:GI}{x r:Fs}{y:Ex}{ao:Option Ha}(h:SlN w P (x.app (Fs.ex y r)) ao)(i:Nat)(g:x.len=i):∃b off ak ck,ao=GF ⟨b,off,GE⟩/\w.cell? ⟨b,off+i*4,GE⟩=GF (.int .i64 y.k)/\w.cell? ⟨b,off+i*4+1,GE⟩=GF (.int .i64 y.n)/\w.cell? ⟨b,off+i*4+2,GE⟩=GF (stv y.nm)/\w.cell? ⟨b,off+i*4+3,GE⟩=GF (.slice ak y.kids.len ck)/\SlN w P y.kids ak:=by
 subst g;obtain⟨b,off,ak,ck,rfl,-,-,f,e,d,c,S⟩:=SlN.kidQ h;exact⟨b,off,ak,ck,rfl,f,e,d,c,S⟩
end Go.Proofs.YtkhgahljbpmfaaaGreatDoor

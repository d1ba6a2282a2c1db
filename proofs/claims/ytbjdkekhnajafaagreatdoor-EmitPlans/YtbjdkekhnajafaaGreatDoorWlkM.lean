import Derived.Test.YtbjdkekhnajafaaGreatDoorWrqD
import Derived.Deep.RegionWith
import Derived.Deep.LoopGhost
set_option maxRecDepth 100000
set_option maxHeartbeats 8000000
namespace Go.Proofs.YtbjdkekhnajafaaGreatDoor
open Go.ChangeShapes Go.WideShapes Go.ChangeAt Go.RowKit
set_option linter.unusedVariables false
set_option linter.unusedSimpArgs false
def Rq (w:World)(rb i:Nat)(o q:Int)(er pl:Nat)(all:List Tk):Prop :=
 ∃g cap,w.heap[rb]?=some(.cells #[.slice(some⟨g,0,none⟩) all.length cap,.int .i64(i:Nat),.int .i64 o,.int .i64 q,.int .i64(er:Nat),.int .i64(pl:Nat)] 70(0,0))/\g<rb/\(∀ j u,(cB all)[j]?=some u->w.cell?⟨g,j,none⟩=some u)/\all.length<=3000/\all.length<=cap/\cap<=maxLen
theorem Rq.lt {w:World}{rb i:Nat}{o q:Int}{er pl:Nat}{all:List Tk}(h:Rq w rb i o q er pl all):rb<w.heap.size:=by
 obtain⟨g,cap,h1,_⟩:=h;exact lt_of_block h1
theorem Rq.below {w w':World}{rb i:Nat}{o q:Int}{er pl:Nat}{all:List Tk}(h:Rq w rb i o q er pl all)(b:Below w.heap.size w w'):Rq w' rb i o q er pl all:=by
 have hlt:=h.lt;obtain⟨g,cap,h1,h2,h3,h4⟩:=h;exact⟨g,cap,(b.block rb hlt).trans h1,h2,fun j u hu=>(b.cell(p:=⟨g,j,none⟩)(show g<w.heap.size by omega)).trans(h3 j u hu),h4⟩
theorem Rq.next {w:World}{rb i:Nat}{o q:Int}{er pl:Nat}{all:List Tk}{x:Tk}(h:Rq w rb i o q er pl all)(hx:all[i]?=some x):∃g cap L,g<rb/\i<L/\L<=cap/\cap<=maxLen/\L<=3000/\(w.cell? ⟨rb,0,none⟩=some (.slice (some ⟨g,0,none⟩) L cap)/\w.cell? ⟨rb,1,none⟩=some (.int .i64 (i:Nat))/\w.cell? ⟨g,i*4,none⟩=some (.int .i64 (x.k:Nat))/\w.cell? ⟨g,i*4+1,none⟩=some (.int .i64 x.n)/\w.cell? ⟨g,i*4+2,none⟩=some (stv x.t)/\w.cell? ⟨g,i*4+3,none⟩=some (.int .i64 (x.a:Nat)))/\w.cell? ⟨rb,2,none⟩=some (.int .i64 o)/\w.cell? ⟨rb,3,none⟩=some (.int .i64 q)/\w.cell? ⟨rb,4,none⟩=some (.int .i64 (er:Nat))/\w.cell? ⟨rb,5,none⟩=some (.int .i64 (pl:Nat))/\(∀ j,w.frozen? ⟨rb,j,none⟩=false):=by
 obtain⟨g,cap,h1,h2,h3,h4,h5,h6⟩:=h;have hi:i<all.length:=by
  by_cases hi:i<all.length
  ·exact hi
  ·rw[List.getElem?_eq_none(by omega)] at hx;cases hx
 obtain⟨t0,t1,t2,t3⟩:=lS all i x hx;refine⟨g,cap,all.length,h2,hi,h5,h6,h4,⟨?_,?_,h3 _ _ t0,h3 _ _ t1,h3 _ _ t2,h3 _ _ t3⟩,?_,?_,?_,?_,fun j=>frozen_of_row w rb j _ _ h1⟩
 all_goals simp[cell_of_row w rb _ _ _(0,0) h1]
theorem Rq.set {w:World}{rb i:Nat}{o q:Int}{er pl:Nat}{all:List Tk}(h:Rq w rb i o q er pl all) :
  (∀ i':Nat,Rq(w.setCell⟨rb,1,none⟩(.int .i64(i':Nat))) rb i' o q er pl all)/\(∀ o':Int,Rq(w.setCell⟨rb,2,none⟩(.int .i64 o')) rb i o' q er pl all)/\(∀ q':Int,Rq(w.setCell⟨rb,3,none⟩(.int .i64 q')) rb i o q' er pl all)/\(∀ er':Nat,Rq(w.setCell⟨rb,4,none⟩(.int .i64(er':Nat))) rb i o q er' pl all)/\(∀ pl':Nat,Rq(w.setCell⟨rb,5,none⟩(.int .i64(pl':Nat))) rb i o q er pl' all):=by
 obtain⟨g,cap,h1,h2,h3,h4⟩:=h;have hB:Blk w(fun _=>0) 0 rb(.cells #[.slice(some⟨g,0,none⟩) all.length cap,.int .i64(i:Nat),.int .i64 o,.int .i64 q,.int .i64(er:Nat),.int .i64(pl:Nat)] 70(0,0)):=⟨h1,rfl⟩
 have hc:∀ (k:Nat)(v:Value) j u,(cB all)[j]?=some u->(w.setCell⟨rb,k,none⟩ v).cell?⟨g,j,none⟩=some u:=fun k v j u hu=>(World.cell?_of_block(a:=⟨g,j,none⟩)(heap_setCell_other w⟨rb,k,none⟩ g v(show g≠rb by omega))).trans(h3 j u hu);exact⟨fun i'=>⟨g,cap,(hB.set 1 _).1,h2,hc 1 _,h4⟩,fun o'=>⟨g,cap,(hB.set 2 _).1,h2,hc 2 _,h4⟩,fun q'=>⟨g,cap,(hB.set 3 _).1,h2,hc 3 _,h4⟩,fun er'=>⟨g,cap,(hB.set 4 _).1,h2,hc 4 _,h4⟩,fun pl'=>⟨g,cap,(hB.set 5 _).1,h2,hc 5 _,h4⟩⟩
theorem au.at {rb:Nat}(w:World)(k:Nat)(v:Value):au rb w (w.setCell ⟨rb,k,none⟩ v):=(au.refl rb w).set ⟨rb,k,none⟩ v (.inr rfl)
theorem fA (w:World)(o1:Obj):(w.alloc o1).drew.heap[w.heap.size]?=some o1/\Below w.heap.size w (w.alloc o1).drew:=⟨heap_alloc_new w _,((Below.refl _ w).alloc (Nat.le_refl _) _).drew⟩
theorem is_q {w:World}{rb i:Nat}{o q:Int}{er pl:Nat}{all:List Tk}{x:Tk}(s:List UInt8)(h:Rq w rb i o q er pl all)(hx:all[i]?=some x) :
  Calls Tryz.prog 128 #[.pointer(some⟨rb,0,none⟩),stv s] w fun e w'=>e=.returned(.bool((er==0)&&((x.k==3||x.k==4)&&x.t==s)))/\Below w.heap.size w w':=by
 obtain⟨B,hB⟩:∃B,B=((er==0)&&((x.k==3||x.k==4)&&x.t==s)):=⟨_,rfl⟩
 rw[<-hB];have HB:Hid(B=((er==0)&&((x.k==3||x.k==4)&&x.t==s))):=hB;clear hB;obtain⟨g,cap,L,hg,hi,hc,hm,hL,⟨c0,c1,t0,t1,t2,t3⟩,c2,c3,c4,c5,hf⟩:=h.next hx;have hrb:=h.lt;have bz:Below w.heap.size w(w.alloc(.cells #[.int .i64 0,.int .i64 0,.string⟨#[]⟩,.int .i64 0] 73)):=(Below.refl _ w).alloc(Nat.le_refl _) _;have d0:=(bz.cell(p:=⟨rb,0,none⟩) hrb).trans c0;have d1:=(bz.cell(p:=⟨rb,1,none⟩) hrb).trans c1;have hgs:g<w.heap.size:=by omega
 have u0:=(bz.cell(p:=⟨g,i*4,none⟩) hgs).trans t0;have u1:=(bz.cell(p:=⟨g,i*4+1,none⟩) hgs).trans t1;have u2:=(bz.cell(p:=⟨g,i*4+2,none⟩) hgs).trans t2;have u3:=(bz.cell(p:=⟨g,i*4+3,none⟩) hgs).trans t3;have hmm:cap<=9223372036854775807:=hm;have hiI:(i:Int)<(L:Int):=by omega
 have HX:Hid(∀ wx,Below w.heap.size w wx->wx.cell?⟨rb,4,none⟩=some(.int .i64(er:Nat))):=fun wx b=>(b.cell(p:=⟨rb,4,none⟩) hrb).trans c4;clear h bz hm;go_enter Tryz.func128,Tryz.ntmps128;go_upto_region 1 with fail;go_cut [5](fun v wx=>∃bt,v=.pointer(some⟨bt,0,none⟩)/\wx.heap[bt]?=some(.cells #[.int .i64(x.k:Nat),.int .i64 x.n,stv x.t,.int .i64(x.a:Nat)] 73)/\Below w.heap.size w wx)
 case first =>
  have h2:=fA w(.cells #[.int .i64(x.k:Nat),.int .i64 x.n,stv x.t,.int .i64(x.a:Nat)] 73);go_region
  all_goals
   go_wp2;go_meet;exact⟨_,rfl,h2.1,h2.2⟩
 case rest =>
 obtain⟨bt,rfl,hT,B1⟩:=hcut;obtain⟨p0,p1,p2,p3,-⟩:=Blk.cells4(o:=fun _=>0)(i:=0)⟨hT,rfl⟩;have e4:=HX.out _ B1;clear c0 c1 t0 t1 t2 t3 d0 d1 u0 u1 u2 u3 c2 c3 c4 c5 hT HX;by_cases h0:er=0
 ·subst h0;by_cases h3:x.k=3
  ·have b3:((x.k:Int)==3)=true:=by simp[h3]
   have b4:Hid(B=(x.t==s)):=by show B=_;rw[HB.out];simp[h3]
   clear h3 HB;go_wp2;go_ret;exact⟨by rw[b4.out];simp,B1⟩
  ·have b3:((x.k:Int)==3)=false:=by simp;omega
   by_cases h4:x.k=4
   ·have b4:((x.k:Int)==4)=true:=by simp[h4]
    have b5:Hid(B=(x.t==s)):=by show B=_;rw[HB.out];simp[h4]
    clear h3 h4 HB;go_wp2;go_ret;exact⟨by rw[b5.out];simp,B1⟩
   ·have b4:((x.k:Int)==4)=false:=by simp;omega
    have b5:Hid(B=false):=by show B=_;rw[HB.out];simp[h3,h4]
    clear h3 h4 HB;go_wp2;go_ret;exact⟨by rw[b5.out];rfl,B1⟩
 ·have b0:((er:Int)==0)=false:=by simp;omega
  have b1:Hid(B=false):=by show B=_;rw[HB.out];simp[h0]
  clear h0 HB;go_wp2;go_ret;exact⟨by rw[b1.out];rfl,B1⟩
def ey (x:Tk):Prop:=∀ s:List UInt8,s≠[]->aX s=false->((x.k==3||x.k==4)&&x.t==s)=(x.t==s)
abbrev Sq:=Sum (Nat × Nat) (List Tk)
def QS (w:World)(rb:Nat)(all:List Tk)(o q:Nat):Sq->Prop
 | .inl(er,a)=>∃(i:Nat)(o' q':Int),Rq w rb i o' q' er a all/\i<all.length/\er≠0
 | .inr ts=>∃(i pl:Nat),Rq w rb i(o:Nat)(q:Nat) 0 pl all/\all.drop i=ts/\WFT ts/\o<=64/\q<=4
def stp {α:Type}:Rs α->Sq
 | ⟨none⟩=>.inl(0,0)
 | ⟨some(.inl(e,a))⟩=>.inl(e,a)
 | ⟨some(.inr(_,t))⟩=>.inr t
def onw {α:Type}(f:List Tk->Rs α):Sq->Sq
 | .inl ea=>.inl ea
 | .inr ts=>stp(f ts)
def isS (s:List UInt8):Sq->Bool
 | .inl _=>false
 | .inr []=>false
 | .inr(x::_)=>x.t==s
def kj (e:Nat):Sq->Sq
 | .inl ea=>.inl ea
 | .inr []=>.inl(0,0)
 | .inr(x::_)=>.inl(e,x.a)
theorem QS.below {w w':World}{rb o q:Nat}{all:List Tk}{st:Sq}(h:QS w rb all o q st)(b:Below w.heap.size w w'):QS w' rb all o q st:=by
 match st,h with
 | .inl(er,a),⟨i,o',q',h1,h2⟩=>exact⟨i,o',q',h1.below b,h2⟩
 | .inr ts,⟨i,pl,h1,h2⟩=>exact⟨i,pl,h1.below b,h2⟩
theorem QS.lt {w:World}{rb o q:Nat}{all:List Tk}{st:Sq}(h:QS w rb all o q st):rb<w.heap.size:=by
 match st,h with
 | .inl(er,a),⟨i,o',q',h1,h2⟩=>exact h1.lt
 | .inr ts,⟨i,pl,h1,h2⟩=>exact h1.lt
theorem nr {all:List Tk}{i:Nat}{x:Tk}{r:List Tk}(h:all.drop i=x::r):all[i]?=some x/\all.drop (i+1)=r/\x ∈ all:=by
 have h1:(all.drop i)[0]?=some x:=by rw[h];rfl
 rw[List.getElem?_drop] at h1;have h2:(all.drop i).tail=r:=by rw[h];rfl
 rw[List.tail_drop] at h2;exact⟨by simpa using h1,h2,List.mem_of_mem_drop(i:=i)(by rw[h];exact List.mem_cons_self)⟩
theorem Ab {w:World}{rb i:Nat}{o q:Int}{pl:Nat}{all:List Tk}{x:Tk}(e:Nat)(h:Rq w rb i o q 0 pl all)(hx:all[i]?=some x) :
  Calls Tryz.prog 35 #[.pointer(some⟨rb,0,none⟩),.int .i64(e:Nat)] w fun r w'=>r=.returned(.tuple #[])/\Rq w' rb i o q e x.a all/\au rb w w':=by
 obtain⟨_,_,_,_,_,_,_,_,_,_,_,c4,_,hf0⟩:=h.next hx;have h1:=h.set.2.2.2.1 e;have h2:=h1.set.2.2.2.2 x.a;have K:=(au.at(rb:=rb) w 4(.int .i64(e:Nat))).trans(au.at _ 5(.int .i64(x.a:Nat)));obtain⟨g,cap,L,hg,hi,hc,hm,hL,⟨c0,c1,t0,t1,t2,t3⟩,-,-,-,c5,hf⟩:=h1.next hx;have hmm:cap<=9223372036854775807:=hm;have hiI:(i:Int)<(L:Int):=by omega
 clear h h1 t0 t1 t2 hm;go_enter Tryz.func35,Tryz.ntmps35;go_upto_region 2 with fail;generalize w.setCell⟨rb,4,none⟩(.int .i64(e:Nat))=w3 at *;go_region
 all_goals
  go_wp2
  go_end0
  exact⟨rfl,h2.below(Below.refl _ _).drew,K.drew⟩
theorem yC {w:World}{rb i:Nat}{o q:Int}{er pl:Nat}{all:List Tk}{x:Tk}(e:Nat)(h:Rq w rb i o q er pl all)(hx:all[i]?=some x)(h0:er≠0) :
  Calls Tryz.prog 35 #[.pointer(some⟨rb,0,none⟩),.int .i64(e:Nat)] w fun r w'=>r=.returned(.tuple #[])/\Rq w' rb i o q er pl all/\au rb w w':=by
 have b0:((er:Int)==0)=false:=by simp;omega
 obtain⟨_,_,_,_,_,_,_,_,_,_,_,c4,_,hf0⟩:=h.next hx;have K:=au.refl rb w;clear h0;go_enter Tryz.func35,Tryz.ntmps35;go_wp2
 go_end0
 exact⟨rfl,h,K⟩
theorem rZ {w:World}{rb o q:Nat}{all:List Tk}{st:Sq}(TI:∀ x,x ∈ all->ey x)(s:List UInt8)(hs:s≠[])(hn:aX s=false)(h:QS w rb all o q st) :
  Calls Tryz.prog 128 #[.pointer(some⟨rb,0,none⟩),stv s] w fun e w'=>e=.returned(.bool(isS s st))/\Below w.heap.size w w':=by
 match st,h with
 | .inl(er,a),⟨i,o',q',h1,h2,h3⟩ =>
  refine(is_q s h1(List.getElem?_eq_getElem h2)).mono ?_;rintro e w'⟨rfl,b⟩;exact⟨by simp[h3,isS],b⟩
 | .inr [],⟨i,pl,h1,h2,h3⟩=>exact absurd rfl h3.1.ne
 | .inr(x::r),⟨i,pl,h1,h2,h3⟩ =>
  obtain⟨hx,_,hm⟩:=nr h2;refine(is_q s h1 hx).mono ?_;rintro e w'⟨rfl,b⟩;exact⟨by rw[TI x hm s hs hn];simp[isS],b⟩
theorem fR {w:World}{rb o q:Nat}{all:List Tk}{st:Sq}(e:Nat)(he:e≠0)(h:QS w rb all o q st) :
  Calls Tryz.prog 35 #[.pointer(some⟨rb,0,none⟩),.int .i64(e:Nat)] w fun r w'=>r=.returned(.tuple #[])/\QS w' rb all o q(kj e st)/\au rb w w':=by
 match st,h with
 | .inl(er,a),⟨i,o',q',h1,h2,h3⟩ =>
  refine(yC e h1(List.getElem?_eq_getElem h2) h3).mono ?_;rintro r w'⟨rfl,b,k⟩;exact⟨rfl,⟨i,o',q',b,h2,h3⟩,k⟩
 | .inr [],⟨i,pl,h1,h2,h3⟩=>exact absurd rfl h3.1.ne
 | .inr(x::r),⟨i,pl,h1,h2,h3⟩ =>
  obtain⟨hx,_,hm⟩:=nr h2;refine(Ab e h1 hx).mono ?_;rintro r' w'⟨rfl,b,k⟩;exact⟨rfl,⟨i,_,_,b,by have:=List.getElem?_eq_some_iff.1 hx;exact this.1,he⟩,k⟩
theorem QS.ok {w:World}{rb o q:Nat}{all:List Tk}{x:Tk}{r:List Tk}(h:QS w rb all o q (.inr (x::r))) :
  ∃i g cap L:Nat,g<rb/\i<L/\L<=cap/\cap<=9223372036854775807/\L<=3000/\x ∈ all/\w.cell?⟨rb,0,none⟩=some(.slice(some⟨g,0,none⟩) L cap)/\w.cell?⟨rb,1,none⟩=some(.int .i64(i:Nat))/\w.cell?⟨rb,2,none⟩=some(.int .i64(o:Nat))/\w.cell?⟨rb,3,none⟩=some(.int .i64(q:Nat))/\w.cell?⟨rb,4,none⟩=some(.int .i64 0)/\(w.cell?⟨g,i*4,none⟩=some(.int .i64(x.k:Nat))/\w.cell?⟨g,i*4+1,none⟩=some(.int .i64 x.n)/\w.cell?⟨g,i*4+2,none⟩=some(stv x.t)/\w.cell?⟨g,i*4+3,none⟩=some(.int .i64(x.a:Nat)))/\(∀ j,w.frozen?⟨rb,j,none⟩=false):=by
 obtain⟨i,pl,h1,h2,h3⟩:=h;obtain⟨hx,h4,hm⟩:=nr h2;obtain⟨g,cap,L,hg,hi,hc,hm2,hL,⟨c0,c1,t0,t1,t2,t3⟩,c2,c3,c4,c5,hf⟩:=h1.next hx;exact⟨i,g,cap,L,hg,hi,hc,hm2,hL,hm,c0,c1,c2,c3,c4,⟨t0,t1,t2,t3⟩,hf⟩
theorem QS.over {w:World}{rb o q:Nat}{all:List Tk}{x:Tk}{r:List Tk}(h:QS w rb all o q (.inr (x::r)))(hx:x.t≠[]\/x.k≠0){i:Nat}(hi:w.cell? ⟨rb,1,none⟩=some (.int .i64 (i:Nat))) :
  QS(w.setCell⟨rb,1,none⟩(.int .i64((i:Int)+1))) rb all o q(.inr r):=by
 obtain⟨i2,pl,h1,h2,h3⟩:=h;obtain⟨hx2,h4,hm⟩:=nr h2;obtain⟨_,_,_,_,_,_,_,_,⟨_,c1,_⟩,_⟩:=h1.next hx2;rw[hi] at c1;have e:i=i2:=by
  have e2:(i:Int)=(i2:Int):=by simpa using c1
  omega
 subst e;exact⟨i+1,pl,h1.set.1(i+1),h4,h3.1.tail hx,h3.2⟩
theorem QS.open {w:World}{rb o q:Nat}{all:List Tk}{ts:List Tk}(h:QS w rb all o q (.inr ts))(o':Nat)(ho:o'<=64) :
  QS(w.setCell⟨rb,2,none⟩(.int .i64(o':Nat))) rb all o' q(.inr ts):=by
 obtain⟨i,pl,h1,h2⟩:=h;exact⟨i,pl,h1.set.2.1(o':Nat),h2.1,h2.2.1,ho,h2.2.2.2⟩
theorem QS.quants {w:World}{rb o q:Nat}{all:List Tk}{ts:List Tk}(h:QS w rb all o q (.inr ts))(q':Nat)(hq:q'<=4) :
  QS(w.setCell⟨rb,3,none⟩(.int .i64(q':Nat))) rb all o q'(.inr ts):=by
 obtain⟨i,pl,h1,h2⟩:=h;exact⟨i,pl,h1.set.2.2.1(q':Nat),h2.1,h2.2.1,h2.2.2.1,hq⟩
theorem QS.down {w:World}{rb o q:Nat}{all:List Tk}{st:Sq}(h:QS w rb all (o+1) q st) :
  ∃o':Int,w.cell?⟨rb,2,none⟩=some(.int .i64 o')/\(∀ j,w.frozen?⟨rb,j,none⟩=false)/\QS(w.setCell⟨rb,2,none⟩(.int .i64(wrap64(o' - 1)))) rb all o q st:=by
 match st,h with
 | .inl(er,a),⟨i,o',q',h1,h2,h3⟩ =>
  obtain⟨_,_,_,_,_,_,_,_,_,c2,_,_,_,hf⟩:=h1.next(List.getElem?_eq_getElem h2);exact⟨o',c2,hf,i,_,q',h1.set.2.1 _,h2,h3⟩
 | .inr [],⟨i,pl,h1,h2,h3⟩=>exact absurd rfl h3.1.ne
 | .inr(x::r),⟨i,pl,h1,h2,h3⟩ =>
  obtain⟨hx,_,hm⟩:=nr h2;obtain⟨_,_,_,_,_,_,_,_,_,c2,_,_,_,hf⟩:=h1.next hx;refine⟨_,c2,hf,i,pl,?_,h2,h3.1,by have:=h3.2.1;omega,h3.2.2⟩;have e:wrap64((((o+1:Nat):Int))-1)=((o:Nat):Int):=by have:=h3.2.1;unfold wrap64;omega
  rw[e];exact h1.set.2.1 _
theorem QS.le {w:World}{rb o q:Nat}{all:List Tk}{ts:List Tk}(h:QS w rb all o q (.inr ts)):o<=64/\q<=4/\WFT ts:=by
 obtain⟨i,pl,h1,h2,h3,h4⟩:=h;exact⟨h4.1,h4.2,h3⟩
theorem mz {s:List UInt8}{st:Sq}(h:isS s st=true):∃x r,st=.inr (x::r)/\x.t=s:=by
 match st,h with
 | .inr(x::r),h=>exact⟨x,r,rfl,by simpa [isS] using h⟩
theorem na {s:List UInt8}{st:Sq}(h:isS s st=false){all:List Tk}{w:World}{rb o q:Nat}(hs:QS w rb all o q st):kj 120 st=onw (aW s) st/\∀ o2,kj 120 st=onw (aG s o2) st:=by
 match st,h,hs with
 | .inl(er,a),h,hs=>exact⟨rfl,fun _=>rfl⟩
 | .inr [],h,⟨i,pl,h1,h2,h3⟩=>exact absurd rfl h3.1.ne
 | .inr(x::r),h,hs =>
  have hx:¬x.t=s:=by simpa [isS] using h
  exact⟨by simp[kj,onw,aW,hx,stp],fun _=>by simp[kj,onw,aG,hx,stp]⟩
theorem qS {w:World}{rb o q:Nat}{all:List Tk}{st:Sq}(TI:∀ x,x ∈ all->ey x)(s:List UInt8)(hs:s≠[])(hn:aX s=false)(h:QS w rb all o q st) :
  Calls Tryz.prog 247 #[.pointer(some⟨rb,0,none⟩),stv s] w fun e w'=>e=.returned(.tuple #[])/\QS w' rb all o q(onw(aW s) st)/\au rb w w':=by
 have c:=rZ TI s hs hn h;cases hb:isS s st with
 | true =>
  obtain⟨x,r,rfl,hx⟩:=mz hb;have e1:onw(aW s)(.inr(x::r))=.inr r:=by simp[onw,aW,hx,stp]
  rw[e1];rw[hb] at c;have hx2:x.t≠[]\/x.k≠0:=.inl(by rw[hx];exact hs);clear e1 hb hx;go_enter Tryz.func247,Tryz.ntmps247;go_wp2_with fail;refine c.mono ?_;rintro e w2⟨rfl,b⟩;have h2:=h.below b;obtain⟨i,g,cap,L,hg,hi,hcL,hcap,hL,hm,c0,c1,c2,c3,c4,-,hf⟩:=h2.ok;have h3:=h2.over hx2 c1;have K:=(au.ofBelow(rb:=rb) b).trans(au.at w2 1(.int .i64((i:Int)+1)));clear h2 h c b c0 c2 c3 c4;go_wp2
  go_end0
  exact⟨rfl,h3,K⟩
 | false =>
  rw[<-(na hb h).1];rw[hb] at c;have HF:∀ w2,QS w2 rb all o q st->Calls Tryz.prog 35 #[.pointer(some⟨rb,0,none⟩),.int .i64 120] w2 fun r w'=>r=.returned(.tuple #[])/\QS w' rb all o q(kj 120 st)/\au rb w2 w':=fun w2 h2=>fR 120(by decide) h2;clear hb;go_enter Tryz.func247,Tryz.ntmps247;go_wp2_with fail;refine c.mono ?_;rintro e w2⟨rfl,b⟩;go_wp2_with fail;refine(HF w2(h.below b)).mono ?_;rintro e w3⟨rfl,h3,k3⟩;have K:=(au.ofBelow(rb:=rb) b).trans k3;clear h c b HF;go_wp2
  (try simp only[Exit.inBlock,Exit.then])
  refine bodyPost_ret(results_none rfl _ _ _) rfl ?_;exact⟨rfl,h3,K⟩
theorem tL {w:World}{rb q:Nat}{all:List Tk}{x:Tk}{r:List Tk}(h:QS w rb all 64 q (.inr (x::r))) :
  Calls Tryz.prog 129 #[.pointer(some⟨rb,0,none⟩)] w fun e w'=>e=.returned(.tuple #[])/\QS w' rb all 65 q(.inl(121,x.a))/\au rb w w':=by
 have c:Calls Tryz.prog 35 #[.pointer(some⟨rb,0,none⟩),.int .i64 121] w fun r' w'=>r'=.returned(.tuple #[])/\QS w' rb all 65 q(.inl(121,x.a))/\au rb w w':=(fR 121(by decide) h).mono fun e w' hh=>⟨hh.1,hh.2.1,hh.2.2⟩;obtain⟨i,g,cap,L,hg,hi,hcL,hcap,hL,hm,c0,c1,c2,c3,c4,-,hf⟩:=h.ok;clear h c0 c1 c3 c4;go_enter Tryz.func129,Tryz.ntmps129;go_wp2_with fail;refine c.mono ?_;rintro e w3⟨rfl,h3,k3⟩;clear c;go_wp2
 (try simp only[Exit.inBlock,Exit.then])
 refine bodyPost_ret(results_none rfl _ _ _) rfl ?_;exact⟨rfl,h3,k3⟩
theorem oF {w:World}{rb o q:Nat}{all:List Tk}{x:Tk}{r:List Tk}(ho:o<64)(hx:x.t≠[])(h:QS w rb all o q (.inr (x::r))) :
  Calls Tryz.prog 129 #[.pointer(some⟨rb,0,none⟩)] w fun e w'=>e=.returned(.tuple #[])/\QS w' rb all(o+1) q(.inr r)/\au rb w w':=by
 have h1:=h.open(o+1)(by omega);rw[show((o+1:Nat):Int)=(o:Int)+1 by omega] at h1;obtain⟨i,g,cap,L,hg,hi,hcL,hcap,hL,hm,c0,c1,c2,c3,c4,-,hf⟩:=h.ok;obtain⟨i2,g2,cap2,L2,hg2,hi2,hcL2,hcap2,hL2,hm2,d0,d1,d2,d3,d4,-,hf2⟩:=h1.ok;have h2:=h1.over(.inl hx) d1;have K:=(au.at(rb:=rb) w 2(.int .i64((o:Int)+1))).trans(au.at _ 1(.int .i64((i2:Int)+1)));have hb:((o:Int)==64)=false:=by simp;omega
 clear h h1 c0 c1 c3 c4 d0 d2 d3 d4;go_enter Tryz.func129,Tryz.ntmps129;go_upto_region 3 with fail;generalize w.setCell⟨rb,2,none⟩(.int .i64((o:Int)+1))=w3 at *;go_wp2
 go_end0
 exact⟨rfl,h2,K⟩
theorem nA {w:World}{rb o q:Nat}{all:List Tk}{st:Sq}(TI:∀ x,x ∈ all->ey x)(s:List UInt8)(hs:s≠[])(hn:aX s=false)(h:QS w rb all o q st) :
  Calls Tryz.prog 200 #[.pointer(some⟨rb,0,none⟩),stv s] w fun e w'=>e=.returned(.tuple #[])/\QS w' rb all(o+1) q(onw(aG s o) st)/\au rb w w':=by
 have c:=rZ TI s hs hn h;cases hb:isS s st with
 | true =>
  obtain⟨x,r,rfl,hx⟩:=mz hb;rw[hb] at c;have HF:∀ w2,QS w2 rb all o q(.inr(x::r))->Calls Tryz.prog 129 #[.pointer(some⟨rb,0,none⟩)] w2 fun e w'=>e=.returned(.tuple #[])/\QS w' rb all(o+1) q(onw(aG s o)(.inr(x::r)))/\au rb w2 w':=fun w2 h2=>by
   by_cases h64:o=64
   ·subst h64;have e1:onw(aG s 64)(.inr(x::r))=.inl(121,x.a):=by simp[onw,aG,hx,stp]
    rw[e1];exact tL h2
   ·have e1:onw(aG s o)(.inr(x::r))=.inr r:=by simp[onw,aG,hx,stp,h64]
    rw[e1];exact oF(by have:=h2.le.1;omega)(by rw[hx];exact hs) h2
  clear hb hx;generalize onw(aG s o)(.inr(x::r))=st2 at *;go_enter Tryz.func200,Tryz.ntmps200;go_wp2_with fail;refine c.mono ?_;rintro e w2⟨rfl,b⟩;go_wp2_with fail;refine(HF w2(h.below b)).mono ?_;rintro e w3⟨rfl,h3,k3⟩;have K:=(au.ofBelow(rb:=rb) b).trans k3;clear h c b HF;go_wp2
  go_end0
  exact⟨rfl,h3,K⟩
 | false =>
  rw[<-(na hb h).2 o];rw[hb] at c;have HF:∀ w2,QS w2 rb all o q st->Calls Tryz.prog 35 #[.pointer(some⟨rb,0,none⟩),.int .i64 120] w2 fun r w'=>r=.returned(.tuple #[])/\QS w' rb all(o+1) q(kj 120 st)/\au rb w2 w':=fun w2 h2=>(fR 120(by decide) h2).mono fun e w' hh=>⟨hh.1,by
   obtain⟨er,a,e1⟩:∃er a,kj 120 st=.inl(er,a):=by
    match st with
    | .inl(er,a)=>exact⟨er,a,rfl⟩
    | .inr []=>exact⟨0,0,rfl⟩
    | .inr(x::r)=>exact⟨120,x.a,rfl⟩
   have h3:=hh.2.1;rw[e1] at h3 ⊢;exact h3,hh.2.2⟩
  clear hb;go_enter Tryz.func200,Tryz.ntmps200;go_wp2_with fail;refine c.mono ?_;rintro e w2⟨rfl,b⟩;go_wp2_with fail;refine(HF w2(h.below b)).mono ?_;rintro e w3⟨rfl,h3,k3⟩;have K:=(au.ofBelow(rb:=rb) b).trans k3;clear h c b HF;go_wp2
  (try simp only[Exit.inBlock,Exit.then])
  refine bodyPost_ret(results_none rfl _ _ _) rfl ?_;exact⟨rfl,h3,K⟩
theorem Ah {w:World}{rb o q:Nat}{all:List Tk}{st:Sq}(TI:∀ x,x ∈ all->ey x)(s:List UInt8)(hs:s≠[])(hn:aX s=false)(h:QS w rb all (o+1) q st) :
  Calls Tryz.prog 201 #[.pointer(some⟨rb,0,none⟩),stv s] w fun e w'=>e=.returned(.tuple #[])/\QS w' rb all o q(onw(aW s) st)/\au rb w w':=by
 have c:=qS TI s hs hn h;generalize onw(aW s) st=st2 at *;go_enter Tryz.func201,Tryz.ntmps201;go_wp2_with fail;refine c.mono ?_;rintro e w2⟨rfl,h2,k2⟩;obtain⟨o',c2,hf,h3⟩:=h2.down;have K:=k2.trans(au.at w2 2(.int .i64(wrap64(o' - 1))));clear h c k2 h2;go_wp2
 go_end0
 exact⟨rfl,h3,K⟩
def eJ (L:List (List UInt8))(st:Sq):Int :=
 match L.findIdx?(fun s=>isS s st) with
 | some i=>(i:Nat)
 | none=>-1
theorem oM {L:List (List UInt8)}{st:Sq}{k:Nat}{s:List UInt8}(hk:L[k]?=some s)(hs:isS s st=true)(hn:∀ j t,j<k->L[j]?=some t->isS t st=false):eJ L st=(k:Nat):=by
 have:L.findIdx?(fun s=>isS s st)=some k:=by
  obtain⟨hl,he⟩:=List.getElem?_eq_some_iff.1 hk;rw[List.findIdx?_eq_some_iff_getElem];refine⟨hl,by rw[he];exact hs,fun j hj=>?_⟩
  have:=hn j(L[j]'(by omega)) hj(List.getElem?_eq_getElem _)
  simp[this]
 unfold eJ;rw[this]
theorem oY {L:List (List UInt8)}{st:Sq}(hn:∀ j t,j<L.length->L[j]?=some t->isS t st=false):eJ L st=-1:=by
 have:L.findIdx?(fun s=>isS s st)=none:=by
  rw[List.findIdx?_eq_none_iff];intro t ht;obtain⟨j,hj,he⟩:=List.getElem_of_mem ht;exact hn j t hj(by rw[<-he];exact List.getElem?_eq_getElem _)
 unfold eJ;rw[this]
theorem fN {w:World}{rb o q:Nat}{all:List Tk}{st:Sq}(TI:∀ x,x ∈ all->ey x)(L:List (List UInt8))(hL:∀ s,s ∈ L->s≠[]/\aX s=false)(h:QS w rb all o q st){g n cap:Nat}(hn:n=L.length)(hg:g<w.heap.size)(hl:∀ j s,L[j]?=some s->w.cell? ⟨g,j,none⟩=some (stv s))(hc:n<=cap)(hm:cap<=maxLen) :
  Calls Tryz.prog 67 #[.pointer(some⟨rb,0,none⟩),.slice(some⟨g,0,none⟩) n cap] w fun e w'=>e=.returned(.int .i64(eJ L st))/\Below w.heap.size w w':=by
 have hmm:cap<=9223372036854775807:=hm;obtain⟨V,hV⟩:∃V,V=eJ L st:=⟨_,rfl⟩
 rw[<-hV];have HV:Hid(V=eJ L st):=hV;have HN:Hid(n=L.length):=hn;have HL:Hid(∀ j s wx,L[j]?=some s->Below w.heap.size w wx->wx.cell?⟨g,j,none⟩=some(stv s)):=fun j s wx hj b=>(b.cell(p:=⟨g,j,none⟩) hg).trans(hl j s hj);have HI:Hid(∀ s wx,s ∈ L->Below w.heap.size w wx->Calls Tryz.prog 128 #[.pointer(some⟨rb,0,none⟩),stv s] wx fun e w'=>e=.returned(.bool(isS s st))/\Below wx.heap.size wx w'):=fun s wx hs b=>rZ TI s(hL s hs).1(hL s hs).2(h.below b);clear hV hn hl h hL TI hm;go_enter Tryz.func67,Tryz.ntmps67;go_wp2_with fail;go_loopw [5](fun v wr=>∃k:Nat,v=.int .i64(k:Nat)/\k<=n/\(∀ j t,j<k->L[j]?=some t->isS t st=false)/\Below w.heap.size w wr)(fun v _=>n-(intOf v).toNat)
 case atStart=>exact⟨0,by go_num,by omega,fun j t hj=>by omega,Below.refl _ w⟩
 case round =>
  obtain⟨k,rfl,hk,hin,hB⟩:=hrel;by_cases hlt:k<n
  ·have hkI:(k:Int)<(n:Int):=by omega
   obtain⟨s,hs⟩:∃s,L[k]?=some s:=⟨_,List.getElem?_eq_getElem(by rw[<-HN.out];exact hlt)⟩
   have ix:=HL.out k s wr hs hB;have c:=HI.out s wr(List.mem_of_getElem? hs) hB;have hk9:k<9223372036854775807:=by omega
   cases hb:isS s st with
   | true =>
    rw[hb] at c;have fin:Hid(V=(k:Nat)):=by show V=_;rw[HV.out];exact oM hs hb hin
    clear hin HI HL HV hs hb;go_wp2_with fail;refine c.mono ?_;rintro e w2⟨rfl,b2⟩;have B2:=hB.trans(b2.mono hB.size);clear c ix;go_wp2;go_ret;exact⟨by rw[fin.out];rfl,B2⟩
   | false =>
    rw[hb] at c;have hin2:∀ j t,j<k+1->L[j]?=some t->isS t st=false:=fun j t hj ht=>by
     by_cases e:j=k
     ·subst e;rw[hs] at ht;cases ht;exact hb
     ·exact hin j t(by omega) ht
    have HI2:=Lib.hid hin2;clear hin HI HL HV hs hb hin2;go_wp2_with fail;refine c.mono ?_;rintro e w2⟨rfl,b2⟩;have B2:=hB.trans(b2.mono hB.size);clear c ix hB b2;go_wp2;go_roundw
    case rel=>(try((repeat apply Exists.intro);refine⟨?_,rfl⟩));exact⟨k+1,by go_num,by omega,HI2.out,B2⟩
    case measure=>simp[intOf];omega
  ·obtain rfl:k=n:=by omega
   have fin:Hid(V=-1):=by show V=_;rw[HV.out];exact oY(by rw[<-HN.out];exact hin)
   clear hin HI HL HV HN;go_wp2;go_ret;exact⟨by rw[fin.out];rfl,hB⟩
abbrev Nb (n bl:Nat):Nat->Prop:=fun b=>n<=b/\b≠bl
theorem Sl.toB {n n1 bl:Nat}{w:World}{f:Fs}{ao:Option Addr}(h:Sl w (Nw n1) f ao)(hn:n<=n1)(hb:bl<n1):Sl w (Nb n bl) f ao:=h.mono (fun _ _ _=>rfl) (Nat.le_refl _) (fun k hk _=>⟨Nat.le_trans hn hk,by have hk:n1<=k:=hk;omega⟩)
theorem Sl.toB' {n bl:Nat}{w:World}{f:Fs}{ao:Option Addr}(h:Sl w (Nw n) f ao)(hb:w.heap.size<=bl):Sl w (Nb n bl) f ao:=h.mono (fun _ _ _=>rfl) (Nat.le_refl _) (fun k hk hl=>⟨hk,by omega⟩)
theorem Sl.keepB {rb n bl:Nat}{w w':World}{f:Fs}{ao:Option Addr}(h:Sl w (Nb n bl) f ao)(k:au rb w w')(hn:rb<n):Sl w' (Nb n bl) f ao:=h.mono (fun i hp hl=>k.block i hl (by have:=hp.1;omega)) k.size (fun _ h _=>h)
theorem Sl.allocB {P:Nat->Prop}{w:World}{f:Fs}{ao:Option Addr}(h:Sl w P f ao)(ob:Obj):Sl (w.alloc ob) P f ao:=h.mono (fun i hp hl=>Below.heap_alloc w ob i hl) (by simp) (fun _ h _=>h)
theorem Sl.setB {n bl:Nat}{w:World}{f:Fs}{ao:Option Addr}(h:Sl w (Nb n bl) f ao)(p:Addr)(v:Value)(hp:p.block=bl\/p.block<n):Sl (w.setCell p v) (Nb n bl) f ao:=h.mono (fun i hi hl=>heap_setCell_other w p i v (by have h1:=hi.1;have h2:=hi.2;rcases hp with hp|hp<;>omega)) (by simp) (fun _ h _=>h)
theorem Sl.set5B {n bl:Nat}{w:World}{f:Fs}{ao:Option Addr}(h:Sl w (Nb n bl) f ao){b:Nat}(hb:b=bl\/b<n)(b0 b1 b2 b3 b4:Value):Sl (((((w.setCell ⟨b,0,none⟩ b0).setCell ⟨b,1,none⟩ b1).setCell ⟨b,2,none⟩ b2).setCell ⟨b,3,none⟩ b3).setCell ⟨b,4,none⟩ b4) (Nb n bl) f ao:=((((h.setB ⟨b,0,none⟩ b0 hb).setB ⟨b,1,none⟩ b1 hb).setB ⟨b,2,none⟩ b2 hb).setB ⟨b,3,none⟩ b3 hb).setB ⟨b,4,none⟩ b4 hb
theorem Sl.lowB {n bl m:Nat}{w:World}{f:Fs}{ao:Option Addr}(h:Sl w (Nb n bl) f ao)(hm:m<=n):Sl w (Nw m) f ao:=h.mono (fun _ _ _=>rfl) (Nat.le_refl _) (fun k hk _=>Nat.le_trans hm hk.1)
def cwL:List (List UInt8):=dy.map (·.1)
def qwL:List (List UInt8):=dx.map (·.1)
def Wl (w:World)(L:List (List UInt8))(w':World)(g:Nat):Prop:=Below w.heap.size w w'/\w.heap.size<=g/\g<w'.heap.size/\∀ j s,L[j]?=some s->w'.cell? ⟨g,j,none⟩=some (stv s)
theorem iN (w:World)(L:List (List UInt8))(t:TypeId):Wl w L (w.alloc (.cells (L.map stv).toArray t)) w.heap.size:=by
 refine⟨(Below.refl _ w).alloc(Nat.le_refl _) _,Nat.le_refl _,by simp,fun j s hj=>?_⟩;have hh:(w.alloc(.cells(L.map stv).toArray t)).heap[w.heap.size]?=some(.cells(L.map stv).toArray t(0,0)):=heap_alloc_new w _;rw[cell_of_row _ _ _ _ _(0,0) hh];simp[hj]
theorem tw (w:World):Calls Tryz.prog 198 #[] w fun e w'=>∃g,e=.returned (.slice (some ⟨g,0,none⟩) 10 10)/\Wl w cwL w' g:=by
 have H:=iN w cwL 9;have e1:(cwL.map stv)=dy.map(fun x=>stv x.1):=rfl;go_enter Tryz.func198,Tryz.ntmps198;go_wp2;go_ret;exact⟨_,rfl,H⟩
theorem lC (w:World):Calls Tryz.prog 199 #[] w fun e w'=>∃g,e=.returned (.slice (some ⟨g,0,none⟩) 6 6)/\Wl w qwL w' g:=by
 have H:=iN w qwL 9;go_enter Tryz.func199,Tryz.ntmps199;go_wp2;go_ret;exact⟨_,rfl,H⟩
abbrev bxE (e:Ex)(ao:Option Addr)(cap:Nat):Obj:=.cells #[.int .i64 e.k,.int .i64 e.n,stv e.nm,.slice ao e.kids.len cap,.int .i64 e.a] 25
theorem Fc.allocP {P:Nat->Prop}{w:World}{f:Fs}{xs:List Value}(h:Fc w P f xs)(ob:Obj):Fc (w.alloc ob) P f xs:=h.mono (fun i hp hl=>Below.heap_alloc w ob i hl) (by simp) (fun _ h _=>h)
theorem Sl.freshP {w:World}{P:Nat->Prop}{f:Fs}(xs:List Value)(t:TypeId)(h:Fc w P f xs)(hp:P w.heap.size):Sl (w.alloc (.cells xs.toArray t)) P f (some ⟨w.heap.size,0,none⟩):=by
 refine Sl.of hp(by simp)(fun j u hu=>?_)(h.allocP _);rw[Nat.zero_add];rw[cell_of_row _ w.heap.size j _ t(0,0)(heap_alloc_new w _)];simpa using hu
theorem DO {w:World}{P:Nat->Prop}(k:Nat)(at0:Int){a b:Ex}{aoa aob:Option Addr}{ca cb:Nat}(ha:Sl w P a.kids aoa)(hb:Sl w P b.kids aob)(hn:P (w.heap.size+1+1+1)) :
  Calls Tryz.prog 68 #[.int .i64(k:Nat),.int .i64 at0,exV a aoa ca,exV b aob cb] w fun e w'=>∃ao cap,e=.returned(exV⟨(k:Nat),0,[],at0,(one a).snoc b⟩ ao cap)/\Sl w' P((one a).snoc b) ao/\Below w.heap.size w w':=by
 have s1:(w.alloc(bxE a aoa ca)).heap.size=w.heap.size+1:=by simp
 have s2:((w.alloc(bxE a aoa ca)).alloc(bxE b aob cb)).heap.size=w.heap.size+1+1:=by simp
 have s3:(((w.alloc(bxE a aoa ca)).alloc(bxE b aob cb)).alloc(bxE⟨(k:Nat),0,[],at0,(one a).snoc b⟩(some⟨w.heap.size+1+1+1,0,none⟩) 2)).heap.size=w.heap.size+1+1+1:=by simp
 have hS:=Sl.freshP _ 25(Fc.app(Fc.one(e:=a) ca(((ha.allocB(bxE a aoa ca)).allocB(bxE b aob cb)).allocB(bxE⟨(k:Nat),0,[],at0,(one a).snoc b⟩(some⟨w.heap.size+1+1+1,0,none⟩) 2)))(Fc.one(e:=b) cb(((hb.allocB(bxE a aoa ca)).allocB(bxE b aob cb)).allocB(bxE⟨(k:Nat),0,[],at0,(one a).snoc b⟩(some⟨w.heap.size+1+1+1,0,none⟩) 2))))(by rw[s3];exact hn);have hZ:(((w.alloc(bxE a aoa ca)).alloc(bxE b aob cb)).alloc(bxE⟨(k:Nat),0,[],at0,(one a).snoc b⟩(some⟨w.heap.size+1+1+1,0,none⟩) 2)).heap[w.heap.size+1+1]?=some(bxE⟨(k:Nat),0,[],at0,(one a).snoc b⟩(some⟨w.heap.size+1+1+1,0,none⟩) 2):=by
  have:=heap_alloc_new((w.alloc(bxE a aoa ca)).alloc(bxE b aob cb))(bxE⟨(k:Nat),0,[],at0,(one a).snoc b⟩(some⟨w.heap.size+1+1+1,0,none⟩) 2)
  rw[s2] at this;exact this
 have hZ2:=(Below.heap_alloc _(.cells([.int .i64 a.k,.int .i64 a.n,stv a.nm,.slice aoa a.kids.len ca,.int .i64 a.a]++[.int .i64 b.k,.int .i64 b.n,stv b.nm,.slice aob b.kids.len cb,.int .i64 b.a]).toArray 25) _(lt_of_block hZ)).trans hZ;have hB:Below w.heap.size w((((w.alloc(bxE a aoa ca)).alloc(bxE b aob cb)).alloc(bxE⟨(k:Nat),0,[],at0,(one a).snoc b⟩(some⟨w.heap.size+1+1+1,0,none⟩) 2)).alloc(.cells([.int .i64 a.k,.int .i64 a.n,stv a.nm,.slice aoa a.kids.len ca,.int .i64 a.a]++[.int .i64 b.k,.int .i64 b.n,stv b.nm,.slice aob b.kids.len cb,.int .i64 b.a]).toArray 25)):=((((Below.refl _ w).alloc(by omega) _).alloc(by omega) _).alloc(by omega) _).alloc(by omega) _;rw[s3] at hS;have l2:((one a).snoc b).len=2:=rfl;obtain⟨u0,u1,u2,u3,u4,-⟩:=am hZ2;have FIN:Hid(∀ wx,wx=((((w.alloc(bxE a aoa ca)).alloc(bxE b aob cb)).alloc(bxE⟨(k:Nat),0,[],at0,(one a).snoc b⟩(some⟨w.heap.size+1+1+1,0,none⟩) 2)).alloc(.cells([.int .i64 a.k,.int .i64 a.n,stv a.nm,.slice aoa a.kids.len ca,.int .i64 a.a]++[.int .i64 b.k,.int .i64 b.n,stv b.nm,.slice aob b.kids.len cb,.int .i64 b.a]).toArray 25))->Sl wx P((one a).snoc b)(some⟨w.heap.size+1+1+1,0,none⟩)/\Below w.heap.size w wx/\wx.cell?⟨w.heap.size+1+1,0,none⟩=some(.int .i64(k:Nat))/\wx.cell?⟨w.heap.size+1+1,1,none⟩=some(.int .i64 0)/\wx.cell?⟨w.heap.size+1+1,2,none⟩=some(stv [])/\wx.cell?⟨w.heap.size+1+1,3,none⟩=some(.slice(some⟨w.heap.size+1+1+1,0,none⟩) 2 2)/\wx.cell?⟨w.heap.size+1+1,4,none⟩=some(.int .i64 at0)):=fun wx e=>by
  subst e;exact⟨hS,hB,u0,u1,u2,u3,u4⟩
 clear hS hB hZ hZ2 u0 u1 u2 u3 u4 s1 s2 s3 l2 ha hb;unfold exV;go_enter Tryz.func68,Tryz.ntmps68;go_wp2;obtain⟨f1,f2,u0,u1,u2,u3,u4⟩:=FIN.out _ rfl;exact bodyPost_ret(v:=exV⟨(k:Nat),0,[],at0,(one a).snoc b⟩(some⟨w.heap.size+1+1+1,0,none⟩) 2)(by simp[results,Tryz.results68,go_sem,exV];rfl) rfl⟨_,_,rfl,f1,f2⟩
def sgW:Nat->List (List UInt8)
 | 1=>[[111,114]]
 | 2=>[[97,110,100]]
 | 4=>[[61],[33,61],[60,61],[60]]
 | 5=>[[43],[45]]
 | _=>[[42],[47],[37]]
def sgK:Nat->List Nat
 | 1=>[18]
 | 2=>[17]
 | 4=>[13,14,16,15]
 | 5=>[8,9]
 | _=>[10,11,12]
def Sg (w:World)(row:Nat)(w':World)(g1 g2:Nat):Prop:=Wl w (sgW row) w' g1/\w.heap.size<=g2/\g2<w'.heap.size/\∀ j k,(sgK row)[j]?=some k->w'.cell? ⟨g2,j,none⟩=some (.int .i64 (k:Nat))
theorem DY (w:World)(row:Nat)(t1 t2:TypeId):Sg w row ((w.alloc (.cells ((sgW row).map stv).toArray t1)).alloc (.cells ((sgK row).map (fun k=>Value.int .i64 (k:Nat))).toArray t2)) w.heap.size (w.heap.size+1):=by
 obtain⟨h1,h2,h3,h4⟩:=iN w(sgW row) t1;have hs:(w.alloc(.cells((sgW row).map stv).toArray t1)).heap.size=w.heap.size+1:=by simp
 refine⟨⟨h1.alloc(by omega) _,h2,by simp;omega,fun j s hj=>?_⟩,by omega,by simp,fun j k hj=>?_⟩
 ·exact(World.cell?_of_block(a:=⟨w.heap.size,j,none⟩)(Below.heap_alloc _ _ _ h3)).trans(h4 j s hj)
 ·have hh:=heap_alloc_new(w.alloc(.cells((sgW row).map stv).toArray t1))(.cells((sgK row).map(fun k=>Value.int .i64(k:Nat))).toArray t2);rw[hs] at hh;rw[cell_of_row _ _ _ _ _(0,0) hh];simp[hj]
theorem Eo (w:World)(row:Nat)(t1 t2:TypeId):Sg w row ((w.alloc (.cells ((sgK row).map (fun k=>Value.int .i64 (k:Nat))).toArray t2)).alloc (.cells ((sgW row).map stv).toArray t1)) (w.heap.size+1) w.heap.size:=by
 have hs:(w.alloc(.cells((sgK row).map(fun k=>Value.int .i64(k:Nat))).toArray t2)).heap.size=w.heap.size+1:=by simp
 obtain⟨h1,h2,h3,h4⟩:=iN(w.alloc(.cells((sgK row).map(fun k=>Value.int .i64(k:Nat))).toArray t2))(sgW row) t1;rw[hs] at h2 h3 h4;have b1:Below w.heap.size w(w.alloc(.cells((sgK row).map(fun k=>Value.int .i64(k:Nat))).toArray t2)):=(Below.refl _ w).alloc(Nat.le_refl _) _;refine⟨⟨b1.trans(h1.mono(by omega)),by omega,h3,h4⟩,by omega,by omega,fun j k hj=>?_⟩;have hh:=heap_alloc_new w(.cells((sgK row).map(fun k=>Value.int .i64(k:Nat))).toArray t2);have hh2:=(Below.heap_alloc(w.alloc(.cells((sgK row).map(fun k=>Value.int .i64(k:Nat))).toArray t2))(.cells((sgW row).map stv).toArray t1) _(lt_of_block hh)).trans hh;rw[cell_of_row _ _ _ _ _(0,0) hh2];simp[hj]
theorem sS (w:World)(row n:Nat)(hr:row=1\/row=2\/row=4\/row=5\/row=6)(hn:n=(sgW row).length) :
  Calls Tryz.prog 66 #[.int .i64(row:Nat)] w fun e w'=>∃g1 g2,e=.returned(.tuple #[.slice(some⟨g1,0,none⟩) n n,.slice(some⟨g2,0,none⟩) n n])/\Sg w row w' g1 g2:=by
 have H1:=Lib.hid(fun w2:World=>DY w2 row 9 3);have H2:=Lib.hid(fun w2:World=>Eo w2 row 9 3);rcases hr with rfl|rfl|rfl|rfl|rfl
 all_goals
  subst hn;go_enter Tryz.func66,Tryz.ntmps66;go_wp2;go_ret2;exact⟨_,_,rfl,H1.out w⟩
theorem ww (k:Nat)(hk:k<10):((UInt8.ofNat (48+k)).toNat:Int)=48+(k:Int):=by
 rw[UInt8.toNat_ofNat'];omega
theorem pH (w:World)(b k:Nat)(hk:k<10)(hb:w.heap[b]?=some (.cells #[.int .u8 (48+(k:Int))] 5 (0,0))) :
  (convert 180 9(.slice(some⟨b,0,none⟩) 1 1)).run Tryz.prog w=.ok(.string⟨#[UInt8.ofNat(48+k)]⟩) w :=
 run_convert_bytes_back _ 180 9 5⟨b,0,none⟩ 1 [UInt8.ofNat(48+k)] Tryz.underlying180 Tryz.underlying5 Tryz.underlying9
  (fun j hj=>by
   have e:j=0:=by simp at hj;omega
   subst e
   have:=ww k hk
   simp only[List.getElem_cons_zero];rw[this];show w.cell?⟨b,0+0,none⟩=_;rw[cell_of_row w b _ _ _(0,0) hb];rfl)
theorem zX (l:List UInt8)(c:UInt8):(⟨l.toArray⟩:ByteArray)++⟨#[c]⟩=⟨(l++[c]).toArray⟩:=by
 apply ByteArray.ext;simp
def tG (n:Nat):Prop:=∀ w:World,Calls Tryz.prog 271 #[.int .i64 (n:Nat)] w fun e w'=>e=.returned (stv (Go.Lib.decDigits n))/\Below w.heap.size w w'
theorem ng (n:Nat)(h:n<10):tG n:=by
 intro w;rw[Go.Lib.decDigits,dif_pos h];have B0:Below w.heap.size w(w.alloc(.cells #[.int .u8(48+(n:Int))] 5)):=(Below.refl _ w).alloc(Nat.le_refl _) _;have F0:=pH(w.alloc(.cells #[.int .u8(48+(n:Int))] 5)) w.heap.size n h(heap_alloc_new w _);obtain⟨c,hc⟩:∃c,c=UInt8.ofNat(48+n):=⟨_,rfl⟩
 rw[<-hc] at F0 ⊢;clear hc;have hI:(n:Int)<10:=by omega
 have hw:IntKind.u8.wrap(48+(n:Int))=48+(n:Int):=by show(48+(n:Int)) % 256=_;omega
 go_enter Tryz.func271,Tryz.ntmps271;go_wp2;go_ret;exact⟨rfl,B0⟩
theorem Ad (n:Nat)(h:¬n<10)(hn:n<=9223372036854775807)(IH:tG (n / 10)):tG n:=by
 intro w;rw[Go.Lib.decDigits,dif_neg h];have hm:n % 10<10:=Nat.mod_lt _(by omega);have HT:Hid(∀ (wx:World)(b:Nat),wx.heap[b]?=some(.cells #[.int .u8(48+((n % 10:Nat):Int))] 5(0,0))->(convert 180 9(.slice(some⟨b,0,none⟩) 1 1)).run Tryz.prog wx=.ok(.string⟨#[UInt8.ofNat(48+n % 10)]⟩) wx):=fun wx b hb=>pH wx b(n % 10) hm hb;have IH:=fun wx=>IH wx;have e1:IntKind.i64.wrap(Int.tdiv(n:Int) 10)=((n / 10:Nat):Int):=by rw[IntKind.wrap_i64,show Int.tdiv(n:Int) 10=((n / 10:Nat):Int) from rfl];omega
 have e2:IntKind.i64.wrap(Int.tmod(n:Int) 10)=((n % 10:Nat):Int):=by rw[IntKind.wrap_i64,show Int.tmod(n:Int) 10=((n % 10:Nat):Int) from rfl];omega
 have e3:Int.tdiv(n:Int) 10=((n / 10:Nat):Int):=rfl;have e4:Int.tmod(n:Int) 10=((n % 10:Nat):Int):=rfl;obtain⟨q,hq⟩:∃q,q=n / 10:=⟨_,rfl⟩
 obtain⟨r,hr⟩:∃r,r=n % 10:=⟨_,rfl⟩
 rw[<-hq] at IH e1 e3 ⊢;rw[<-hr] at HT e2 e4 hm ⊢;obtain⟨c,hc⟩:∃c,c=UInt8.ofNat(48+r):=⟨_,rfl⟩
 rw[<-hc] at HT ⊢;obtain⟨L,hL⟩:∃L,L=Go.Lib.decDigits q:=⟨_,rfl⟩
 have hl9:L.length<=21:=by
  have h9:=Go.Lib.itoa_length_le(q:Nat)(by omega)(by omega);unfold Go.Lib.itoa at h9;rw[if_neg(by omega),Int.toNat_natCast,<-hL] at h9;exact h9
 have hsm:=fF L;rw[<-hL] at IH ⊢;have HN:Hid(n<=9223372036854775807):=hn;have hq1:IntKind.i64.wrap(q:Int)=(q:Int):=by rw[IntKind.wrap_i64];omega
 have hr1:IntKind.i64.wrap(48+(r:Int))=48+(r:Int):=by rw[IntKind.wrap_i64];omega
 clear hq hr hc hL e1 e2;have hI:¬(n:Int)<10:=by omega
 have hw:IntKind.u8.wrap(48+(r:Int))=48+(r:Int):=by show(48+(r:Int)) % 256=_;omega
 have F1:=HT.out((w.alloc(.cells #[.int .u8(48+(r:Int))] 5)).drew) w.heap.size(heap_alloc_new w _);have B0:Below w.heap.size w(w.alloc(.cells #[.int .u8(48+(r:Int))] 5)).drew:=((Below.refl _ w).alloc(Nat.le_refl _) _).drew;have hs0:w.heap.size<(w.alloc(.cells #[.int .u8(48+(r:Int))] 5)).drew.heap.size:=by show w.heap.size<(w.alloc _).heap.size;simp
 have hbl:((w.alloc(.cells #[.int .u8(48+(r:Int))] 5)).drew).heap[w.heap.size]?=some(.cells #[.int .u8(48+(r:Int))] 5(0,0)):=heap_alloc_new w _;have Hbl:=Lib.hid hbl;clear hbl;have HC:Hid(((⟨L.toArray⟩:ByteArray)++⟨#[c]⟩)=⟨(L++[c]).toArray⟩):=zX L c;go_enter Tryz.func271,Tryz.ntmps271;go_upto_region 3 with fail;go_region_with((first|(go_at_call 271;refine(IH w.drew).mono ?_;rintro e w1⟨rfl,b1⟩;have B1:Below w.heap.size w w1:=(Below.refl _ w).drew.trans b1;have B2:Below w.heap.size w(w1.alloc(.cells #[.int .u8(48+(r:Int))] 5)):=B1.alloc B1.size _;have F2:=HT.out(w1.alloc(.cells #[.int .u8(48+(r:Int))] 5)) w1.heap.size(heap_alloc_new w1 _))|(go_at_call 271;refine(IH((w.alloc(.cells #[.int .u8(48+(r:Int))] 5)).drew)).mono ?_;rintro e w1⟨rfl,b1⟩;have B2:Below w.heap.size w w1:=B0.trans(b1.mono B0.size);have F2:=HT.out w1 w.heap.size((b1.block _ hs0).trans Hbl.out))))
 all_goals
  rw[HC.out];go_wp2;go_ret;exact⟨rfl,B2⟩
theorem tP:∀ (m n:Nat),n<=m->n<=9223372036854775807->tG n
 | 0,n,hm,hn=>ng n(by omega)
 | m+1,n,hm,hn=>by
  by_cases h:n<10
  ·exact ng n h
  ·exact Ad n h hn(tP m(n / 10)(by omega)(by omega))
theorem qo (n:Int)(h0:0<=n)(h1:n<=9223372036854775807)(w:World):Calls Tryz.prog 271 #[.int .i64 n] w fun e w'=>e=.returned (stv (Go.Lib.itoa n))/\Below w.heap.size w w':=by
 have h:=tP n.toNat n.toNat(Nat.le_refl _)(by omega) w;rw[show((n.toNat:Nat):Int)=n by omega] at h;have e:Go.Lib.itoa n=Go.Lib.decDigits n.toNat:=by unfold Go.Lib.itoa;rw[if_neg(by omega)]
 rw[e];exact h
theorem zJ (x:List UInt8 × Nat × Nat × Nat × Nat)(hx:x ∈ eB):(x.2.2.1=1\/x.2.2.1=2\/x.2.2.1=4\/x.2.2.1=5\/x.2.2.1=6)/\∃i,i<4/\(sgW x.2.2.1)[i]?=some x.1/\(sgK x.2.2.1)[i]?=some x.2.1/\(∀ j,j<i->(sgK x.2.2.1)[j]?≠some x.2.1)/\∀ r,r<x.2.2.1->r≠3->r≠0->∀ j,j<4->(sgK r)[j]?≠some x.2.1:=by
 simp only[eB,List.mem_cons,List.not_mem_nil,or_false] at hx;rcases hx with rfl|rfl|rfl|rfl|rfl|rfl|rfl|rfl|rfl|rfl|rfl
 ·exact⟨by decide,0,by decide,rfl,rfl,by decide,by decide⟩
 ·exact⟨by decide,0,by decide,rfl,rfl,by decide,by decide⟩
 ·exact⟨by decide,0,by decide,rfl,rfl,by decide,by decide⟩
 ·exact⟨by decide,1,by decide,rfl,rfl,by decide,by decide⟩
 ·exact⟨by decide,3,by decide,rfl,rfl,by decide,by decide⟩
 ·exact⟨by decide,2,by decide,rfl,rfl,by decide,by decide⟩
 ·exact⟨by decide,0,by decide,rfl,rfl,by decide,by decide⟩
 ·exact⟨by decide,1,by decide,rfl,rfl,by decide,by decide⟩
 ·exact⟨by decide,0,by decide,rfl,rfl,by decide,by decide⟩
 ·exact⟨by decide,1,by decide,rfl,rfl,by decide,by decide⟩
 ·exact⟨by decide,2,by decide,rfl,rfl,by decide,by decide⟩
theorem yQ (r:Nat):(sgK r).length=(sgW r).length/\(sgW r).length<=4:=by
 unfold sgK sgW;split<;>exact⟨rfl,by decide⟩
theorem Dv {k:Int}{x:List UInt8 × Nat × Nat × Nat × Nat}(h:dU k=some x)(w:World):Calls Tryz.prog 275 #[.int .i64 k] w fun e w'=>e=.returned (stv x.1)/\Below w.heap.size w w':=by
 have hm:=List.mem_of_find?_eq_some h;have hk:((x.2.1:Nat):Int)=k:=by have:=List.find?_some h;simpa using this
 obtain⟨hr,ix,hix,hw,hkk,hj,hrow⟩:=zJ x hm;obtain⟨x1,x2,r,x4,x5⟩:=x;simp only at hk hr hw hkk hj hrow ⊢;subst hk;have HW:Hid((sgW r)[ix]?=some x1):=hw;have HK:Hid((sgK r)[ix]?=some x2):=hkk;have HJ:Hid(∀ j,j<ix->(sgK r)[j]?≠some x2):=hj;have HR:Hid(∀ r',r'<r->r'≠3->r'≠0->∀ j,j<4->(sgK r')[j]?≠some x2):=hrow;have hr7:r<7:=by omega
 have HR3:Hid(r≠3):=by show r≠3;omega
 have B0:=Below.refl w.heap.size w;clear hw hkk hj hrow hm h;go_enter Tryz.func275,Tryz.ntmps275;go_wp2_with fail;go_loopw [3](fun v wr=>∃row:Nat,v=.int .i64(row:Nat)/\1<=row/\row<=r/\Below w.heap.size w wr)(fun v _=>8-(intOf v).toNat)
 case atStart=>exact⟨1,by go_num,by omega,by omega,B0⟩
 case round =>
  clear B0;obtain⟨row,rfl,h1,hle,B1⟩:=hrel;have hrI:(row:Int)<7:=by omega
  by_cases h3:row=3
  ·subst h3;have hlt:3<r:=by have:=HR3.out;omega
   go_wp2;go_roundw
   case rel=>(try((repeat apply Exists.intro);refine⟨?_,rfl⟩));exact⟨4,by go_num,by omega,by omega,B1⟩
   case measure=>simp[intOf]
  ·have b3:((row:Int)==3)=false:=by simp;omega
   obtain⟨n,hn⟩:∃n,n=(sgW row).length:=⟨_,rfl⟩
   have c:=sS wr row n(by omega) hn;have HN:Hid(n=(sgW row).length):=hn;have hn4:n<=4:=by rw[hn];exact(yQ row).2
   have H3:Hid(row≠3):=h3;clear hn h3 hr;go_wp2_with fail;refine c.mono ?_;rintro e w2⟨g1,g2,rfl,sg⟩;have B2:Below w.heap.size w w2:=B1.trans(sg.1.1.mono B1.size);have SG:Hid(g1<w2.heap.size/\g2<w2.heap.size/\(∀ j s,(sgW row)[j]?=some s->w2.cell?⟨g1,j,none⟩=some(stv s))/\∀ j k,(sgK row)[j]?=some k->w2.cell?⟨g2,j,none⟩=some(.int .i64(k:Nat))):=⟨sg.1.2.2.1,sg.2.2.1,sg.1.2.2.2,sg.2.2.2⟩
   clear c sg B1;go_wp2_with fail;go_loopw [6](fun v wr=>∃i:Nat,v=.int .i64(i:Nat)/\i<=n/\Hid(row=r->i<=ix)/\wr=w2)(fun v _=>n-(intOf v).toNat)
   case atStart=>exact⟨0,by go_num,by omega,fun _=>Nat.zero_le _,rfl⟩
   case round =>
    obtain⟨i,rfl,hin,HI,rfl⟩:=hrel;by_cases hlt:i<n
    ·have hiI:(i:Int)<(n:Int):=by omega
     have hl:=yQ row;obtain⟨kk,hkk⟩:∃kk,(sgK row)[i]?=some kk:=⟨_,List.getElem?_eq_getElem(by rw[hl.1,<-HN.out];exact hlt)⟩
     obtain⟨s,hs⟩:∃s,(sgW row)[i]?=some s:=⟨_,List.getElem?_eq_getElem(by rw[<-HN.out];exact hlt)⟩
     have ck:=SG.out.2.2.2 i kk hkk;have cs:=SG.out.2.2.1 i s hs;by_cases hy:row=r/\i=ix
     ·have e1:kk=x2:=by
       have:=HK.out
       rw[<-hy.1,<-hy.2,hkk] at this;injection this
      have e2:s=x1:=by
       have:=HW.out
       rw[<-hy.1,<-hy.2,hs] at this;injection this
      subst e1 e2;clear hy hkk hs hl;go_wp2;go_ret;exact⟨rfl,B2⟩
     ·have hne:kk≠x2:=fun e=>by
       rw[e] at hkk;by_cases hrr:row=r
       ·have hi2:i<ix:=by
         have:=HI.out hrr
         have:i≠ix:=fun e=>hy⟨hrr,e⟩
         omega
        exact HJ.out i hi2(by rw[<-hrr];exact hkk)
       ·exact HR.out row(by omega) H3.out(by omega) i(by omega) hkk
      have bne2:((kk:Int)==(x2:Int))=false:=by simp;omega
      have HI2:Hid(row=r->i+1<=ix):=fun e=>by
       have:=HI.out e
       have:i≠ix:=fun e2=>hy⟨e,e2⟩
       omega
      clear hy hkk hs hl hne HI;go_wp2;go_roundw
      case rel=>(try((repeat apply Exists.intro);refine⟨?_,rfl⟩));exact⟨i+1,by go_num,by omega,HI2,by trivial⟩
      case measure=>simp[intOf];omega
    ·obtain rfl:i=n:=by omega
     have hlt2:row<r:=by
      by_cases e:row=r
      ·have h5:=HI.out e;have h6:ix<(sgW r).length:=(List.getElem?_eq_some_iff.1 HW.out).1;have h7:=HN.out;rw[e] at h7;omega
      ·omega
     clear HI;go_wp2;go_roundw
     case rel=>(try((repeat apply Exists.intro);refine⟨?_,rfl⟩));exact⟨row+1,by go_num,by omega,by omega,B2⟩
     case measure=>simp[intOf];omega
abbrev bxX (e:Ex)(ao:Option Addr)(cap:Nat):Obj:=.cells #[.int .i64 e.k,.int .i64 e.n,stv e.nm,.slice ao e.kids.len cap,.int .i64 e.a] 25
def gL (N:Nat):Prop:=∀ (e:Ex) (ao:Option Addr) (cap:Nat) (set:Bool) (wb:Nat) (st:Ow) (w:World) (o:Nat->Nat),e.kids.size<N->e.fit->Sl w (L0 o) e.kids ao->WQ w o wb st ->
 Calls Tryz.prog 227 #[.pointer(some⟨wb,0,none⟩),exV e ao cap,.bool set] w(eP w o wb(oEx e set st))
theorem WQ.stp0 {w w':World}{o o':Nat->Nat}{wb:Nat}{st:Ow}(h:WQ w o wb st)(s:aa (fun _=>False) w o w' o'):WQ w' o' wb st:=h.step s id id
theorem Sl.stp0 {w w':World}{o o':Nat->Nat}{f:Fs}{ao:Option Addr}(h:Sl w (L0 o) f ao)(s:aa (fun _=>False) w o w' o'):Sl w' (L0 o') f ao:=h.mono (fun i hp hl=>s.block i hl id) s.size (fun i hp hl=>(s.lab i hl).trans hp)
theorem xr (w:World)(o:Nat->Nat)(n:Nat):aa (fun _=>False) w o (w.drewN n) o:=(aa.refl _ w o).drewN n
theorem aa.i12 {w w':World}{o o':Nat->Nat}(s:aa (fun _=>False) w o w' o'):aa I12 w o w' o':=s.mono fun _ h=>h.elim
theorem eN {st s:Ow}(h:Bal (aU st) s):∀ x,s=some x->1<=x.o:=fun x hx=>by
 obtain⟨y,hy,h1,_⟩:=h x hx
 match st,hy with
 | some z,hy =>
  simp only[aU] at hy;split at hy
  ·cases hy
  ·injection hy with hy
   subst hy;show 1<=x.o;rw[h1];show 1<=z.o+1;omega
theorem Bal.refl (st:Ow):Bal st st:=fun s h=>⟨s,h,rfl,rfl⟩
theorem Bal.trans {a b c:Ow}(h:Bal a b)(k:Bal b c):Bal a c:=fun s hs=>by
 obtain⟨y,hy,h1,h2⟩:=k s hs;obtain⟨z,hz,h3,h4⟩:=h y hy;exact⟨z,hz,h1.trans h3,h2.trans h4⟩
theorem Bal.put {a b:Ow}(h:Bal a b)(x:List UInt8):Bal a (aM x b):=h.trans fun s hs=>by
 match b,hs with
 | some z,hs =>
  simp only[aM] at hs;split at hs
  ·cases hs
  ·injection hs with hs
   subst hs;exact⟨z,rfl,rfl,rfl⟩
theorem Bal.lea {a b:Ow}(h:Bal (aU a) b):Bal a (dN b):=fun s hs=>by
 match b,h,hs with
 | some z,h,hs =>
  injection hs with hs
  subst hs;obtain⟨y,hy,h1,h2⟩:=h z rfl
  match a,hy with
  | some u,hy =>
   simp only[aU] at hy;split at hy
   ·cases hy
   ·injection hy with hy
    subst hy;exact⟨u,rfl,by show z.o-1=u.o;rw[h1];show u.o+1-1=_;omega,h2⟩
theorem Bal.qle {a b:Ow}(h:Bal (fW a) b):Bal a (qu b):=fun s hs=>by
 match b,h,hs with
 | some z,h,hs =>
  injection hs with hs
  subst hs;obtain⟨y,hy,h1,h2⟩:=h z rfl
  match a,hy with
  | some u,hy =>
   simp only[fW] at hy;split at hy
   ·cases hy
   ·injection hy with hy
    subst hy;exact⟨u,rfl,h1,by show z.q-1=u.q;rw[h2];show u.q+1-1=_;omega⟩
theorem AQ {st s:Ow}(h:Bal (fW st) s):∀ x,s=some x->1<=x.q:=fun x hx=>by
 obtain⟨y,hy,_,h1⟩:=h x hx
 match st,hy with
 | some z,hy =>
  simp only[fW] at hy;split at hy
  ·cases hy
  ·injection hy with hy
   subst hy;show 1<=x.q;rw[h1];show 1<=z.q+1;omega
theorem wZ {k n:Int}{nm:List UInt8}{K:Sep->Ow->Ow}(hK:∀ g s,Bal s (K g s))(s:Ow):Bal s (bi k n nm K s):=by
 have lst:∀ (x y:List UInt8)(s:Ow),Bal s(ge x y K s):=fun x y s=>(Bal.lea(((Bal.refl(aU s)).put x).trans(hK _ _))).put y;unfold bi;split
 ·exact Bal.lea(hK _ _)
 ·split
  ·exact Bal.lea(hK _ _)
  ·split
   ·exact Bal.lea(hK _ _)
   ·split
    ·exact Bal.qle(Bal.lea(hK _ _))
    ·split
     ·exact((Bal.refl s).put _).trans(lst _ _ _)
     ·split
      ·exact((Bal.refl s).put _).trans(lst _ _ _)
      ·split
       ·exact lst _ _ _
       ·unfold eE;split
        ·exact(Bal.refl s).put _
        ·split
         ·exact(Bal.refl s).put _
         ·split
          ·exact(Bal.refl s).put _
          ·split
           ·exact(Bal.refl s).put _
           ·split
            ·exact(Bal.refl s).put _
            ·exact hK _ _
theorem lN {k n:Int}{nm:List UInt8}{len:Nat}{set:Bool}{K:Sep->Ow->Ow}(hK:∀ g s,Bal s (K g s))(s:Ow):Bal s (iy k n nm len set K s):=by
 unfold iy;split
 ·exact wZ hK s
 ·intro x hx;cases hx
theorem BF {k n:Int}{nm:List UInt8}{len asked:Nat}{set:Bool}{K:Sep->Ow->Ow}(hK:∀ g s,Bal s (K g s))(s:Ow):Bal s (oE k n nm len set asked K s):=by
 unfold oE;split
 ·exact(Bal.lea(((Bal.refl(aU s)).put _).trans(lN hK _))).put _
 ·exact lN hK s
theorem iD:∀ (f:Fs) (b:Bool) (g:Sep) (i:Nat) (s:Ow),Bal s (oFs f b g i s)
 | ⟨none⟩,b,g,i,s=>Bal.refl s
 | ⟨some⟨k,n,nm,a,ks,r⟩⟩,b,g,i,s=>(((Bal.refl s).put _).trans(BF(fun g s=>iD ks(k==21) g 0 s) _)).trans(iD r false g(i+1) _)
def dR (e y:Ex)(i:Nat)(st:Ow):Ow:=oE y.k y.n y.nm y.kids.len (e.k==21&&decide (i=0)) (jj e.k i) (fun g s=>oFs y.kids (y.k==21) g 0 s) st
theorem zT (y:Ex)(b:Bool)(s:Ow):Bal s (oEx y b s):=lN (fun g s=>iD _ _ _ _ _) s
theorem Cd (k:Int)(i:Nat):(jj k i:Nat)<=8+i:=by
 unfold jj
 have:=rL k
 split
 ·omega
 ·split
  ·omega
  ·split<;>omega
theorem fw {N:Nat}(IH:gL N)(e y:Ex)(x r:Fs)(hk:e.kids=x.app (Fs.ex y r))(i:Nat)(hi:x.len=i)(hi9:i<=1000000000)(hN:y.kids.size<N)(hy:y.fit)(ao:Option Addr)(cap wb:Nat)(st:Ow)(w:World)(o:Nat->Nat)(S:Sl w (L0 o) e.kids ao)(H:WQ w o wb st) :
  Calls Tryz.prog 273 #[.pointer(some⟨wb,0,none⟩),exV e ao cap,.int .i64(i:Nat)] w(eP w o wb(dR e y i st)):=by
 have hlen:i<e.kids.len:=by rw[hk,Fs.len_app,CP];omega
 obtain⟨b,off,ak,ck,rfl,x0,x1,x2,x3,x4,SK⟩:=Sl.kidP(x:=x)(y:=y)(r:=r)(by rw[hk] at S;exact S) i hi;have hbl:b<w.heap.size:=by
  rcases S with h|⟨b',off',zs,he,hp,hlt,hc,hf⟩
  ·rw[hk] at h;cases x using Fs.on with
   | nil=>cases h
   | cons _ _ _ _ _ _=>cases h
  ·injection he with he;injection he with he;subst he;exact hlt
 obtain⟨w0,hw0⟩:∃w0,w0=(w.alloc(bxX e(some⟨b,off,none⟩) cap)).alloc(bxX y ak ck):=⟨_,rfl⟩
 obtain⟨o0,ho0⟩:∃o0,o0=ae(w.alloc(bxX e(some⟨b,off,none⟩) cap))(ae w o 0) 0:=⟨_,rfl⟩
 have s0:aa(fun _=>False) w o w0 o0:=by rw[hw0,ho0];exact(aO _ w o _).trans(aO _ _ _ _)
 have E0:w0.heap[w.heap.size]?=some(bxX e(some⟨b,off,none⟩) cap):=by
  rw[hw0];exact(Below.heap_alloc _ _ _(by simp)).trans(heap_alloc_new w _)
 have Y0:w0.heap[w.heap.size+1]?=some(bxX y ak ck):=by
  rw[hw0]
  have:=heap_alloc_new(w.alloc(bxX e(some⟨b,off,none⟩) cap))(bxX y ak ck)
  simpa using this
 have l0:o0 w.heap.size=0:=by rw[ho0,aC(by simp),ax(Nat.le_refl _)]
 have l1:o0(w.heap.size+1)=0:=by rw[ho0,ax(by simp)]
 have SK0:=SK.stp0 s0;have H0:=H.stp0 s0;have hiI:(i:Int)<(e.kids.len:Int):=by omega
 have hal:=Cd e.k i;clear ho0 S SK H hk;rw[aq];go_enter Tryz.func273,Tryz.ntmps273;go_upto_region 2 with fail;rw[<-hw0];clear hw0 x0 x1 x2 x3 x4;generalize w.heap.size=be at *;obtain⟨p0,p1,p2,p3,p4,pf⟩:=am E0;obtain⟨y0,y1,y2,y3,y4,yf⟩:=am Y0;have hrw:IntKind.i64.wrap((dd y.k:Nat):Int)=((dd y.k:Nat):Int):=by have:=rL y.k;rw[IntKind.wrap_i64];omega
 go_quiet((first|(go_at_call 290;exact Calls.quiet_of_same(BH _ _))|(go_at_call 291;exact Calls.quiet_of_same(AS _ _ hi9 _))))
 have d1:=xr w0 o0 nq;have H1:=H0.stp0 d1;have SK1:=SK0.stp0 d1;have s1:=(s0.trans d1).i12;have E1:Blk(w0.drewN nq) o0 0 be(bxX e(some⟨b,off,none⟩) cap):=⟨E0,l0⟩
 have Y1:Blk(w0.drewN nq) o0 0(be+1)(bxX y ak ck):=⟨Y0,l1⟩
 clear H0 SK0 s0 d1 E0 Y0 l0 l1 p0 p1 p2 p3 p4 pf y0 y1 y2 y3 y4 yf;generalize w0.drewN nq=w1 at *;by_cases hrow:dd y.k<jj e.k i
 ·have hge:¬((jj e.k i:Nat):Int)<=((dd y.k:Nat):Int):=by omega
  have c2:=fh [40] H1(by simp);have HF:Hid(dR e y i st=aM [41](dN(oEx y false(aM [40](aU st))))):=by show oE _ _ _ _ _ _ _ _=_;unfold oE;rw[if_pos hrow];rfl
  have hpos:∀ x,oEx y false(aM [40](aU st))=some x->1<=x.o:=eN(((Bal.refl(aU st)).put [40]).trans(zT y false _));generalize aM [40](aU st)=st2 at *;clear H1 hrow;go_wp2_with fail;refine c2.mono ?_;rintro e2 w2⟨rfl,o2,H2,s2⟩;have SK2:=SK1.stp s2;have Y2:=Y1.stp s2;have s2':=s1.trans s2;clear c2 s1 s2 E1 Y1 SK1;obtain⟨y0,y1,y2,y3,y4,yf⟩:=am Y2.1;have c3:=IH y ak ck false wb st2 w2 o2 hN hy SK2 H2;rw[aq] at c3;generalize oEx y false st2=st3 at *;go_wp2_with fail;refine c3.mono ?_;rintro e2 w3⟨rfl,o3,H3,s3⟩;have s3':=s2'.trans s3;obtain⟨oo,d1,df,s4,H4⟩:=H3.lea hpos;have s4':=s3'.trans s4;generalize dN st3=st4 at *;clear c3 s3 s3' s2' s4 H3 H2 SK2 Y2 y0 y1 y2 y3 y4 yf hpos;go_upto_region 7 with fail;generalize w3.setCell⟨wb,1,none⟩(.int .i64(wrap64(oo-1)))=w4 at *;clear d1 df;have c5:=cF [41] H4(by simp);go_wp2_with fail;refine c5.mono ?_;rintro e2 w5⟨rfl,o5,H5,s5⟩;have s5':=s4'.trans s5;clear c5 s5 s4' H4;go_wp2
  go_end0
  exact⟨rfl,o5,by rw[HF.out];exact H5,s5'⟩
 ·have hge:((jj e.k i:Nat):Int)<=((dd y.k:Nat):Int):=by omega
  have HF:Hid(dR e y i st=oEx y(e.k==21&&decide(i=0)) st):=by show oE _ _ _ _ _ _ _ _=_;unfold oE;rw[if_neg hrow];rfl
  clear hrow;obtain⟨p0,p1,p2,p3,p4,pf⟩:=am E1.1;obtain⟨y0,y1,y2,y3,y4,yf⟩:=am Y1.1;by_cases h21:e.k=21
  ·have b21:(e.k==21)=true:=by simp[h21]
   by_cases h0:i=0
   ·have b0:((i:Int)==0)=true:=by simp[h0]
    have hset:(e.k==21&&decide(i=0))=true:=by simp[h21,h0]
    rw[hset] at HF;have c2:=IH y ak ck true wb st w1 o0 hN hy SK1 H1;rw[aq] at c2;generalize oEx y true st=st3 at *;clear h21 h0 hset;go_wp2_with fail;refine c2.mono ?_;rintro e2 w2⟨rfl,o2,H2,s2⟩;have s2':=s1.trans s2;clear c2 s1 s2 H1 SK1 E1 Y1 p0 p1 p2 p3 p4 pf y0 y1 y2 y3 y4 yf;go_wp2
    (try simp only[Exit.inBlock,Exit.then])
    refine bodyPost_ret(results_none rfl _ _ _) rfl ?_;exact⟨rfl,o2,by rw[HF.out];exact H2,s2'⟩
   ·have b0:((i:Int)==0)=false:=by simp;omega
    have hset:(e.k==21&&decide(i=0))=false:=by simp[h0]
    rw[hset] at HF;have c2:=IH y ak ck false wb st w1 o0 hN hy SK1 H1;rw[aq] at c2;generalize oEx y false st=st3 at *;clear h21 h0 hset;go_wp2_with fail;refine c2.mono ?_;rintro e2 w2⟨rfl,o2,H2,s2⟩;have s2':=s1.trans s2;clear c2 s1 s2 H1 SK1 E1 Y1 p0 p1 p2 p3 p4 pf y0 y1 y2 y3 y4 yf;go_wp2
    (try simp only[Exit.inBlock,Exit.then])
    refine bodyPost_ret(results_none rfl _ _ _) rfl ?_;exact⟨rfl,o2,by rw[HF.out];exact H2,s2'⟩
  ·have b21:(e.k==21)=false:=bne h21;have hset:(e.k==21&&decide(i=0))=false:=by simp[h21]
   rw[hset] at HF;have c2:=IH y ak ck false wb st w1 o0 hN hy SK1 H1;rw[aq] at c2;generalize oEx y false st=st3 at *;clear h21 hset;go_wp2_with fail;refine c2.mono ?_;rintro e2 w2⟨rfl,o2,H2,s2⟩;have s2':=s1.trans s2;clear c2 s1 s2 H1 SK1 E1 Y1 p0 p1 p2 p3 p4 pf y0 y1 y2 y3 y4 yf;go_wp2
   (try simp only[Exit.inBlock,Exit.then])
   refine bodyPost_ret(results_none rfl _ _ _) rfl ?_;exact⟨rfl,o2,by rw[HF.out];exact H2,s2'⟩
theorem th {w:World}{o:Nat->Nat}{wb:Nat}{st:Ow}(h:WQ w o wb st):aM [] st=st:=by
 match st,h with
 | none,h=>rfl
 | some s,h =>
  have:=h.2.1
  simp only[aM,List.length_nil,List.append_nil];rw[if_neg(by omega)]
theorem mv (x:Ex)(r:Fs)(b:Bool)(g:Sep)(i:Nat)(s:Ow):oFs (Fs.ex x r) b g i s=oFs r false g (i+1) (oE x.k x.n x.nm x.kids.len b (g i).2 (fun g s=>oFs x.kids (x.k==21) g 0 s) (aM (g i).1 s)):=rfl
theorem eq (e y:Ex)(i:Nat)(s:Ow){flag:Bool}{asked:Nat}(h1:flag=(e.k==21&&decide (i=0)))(h2:asked=jj e.k i):oE y.k y.n y.nm y.kids.len flag asked (fun g s=>oFs y.kids (y.k==21) g 0 s) s=dR e y i s:=by subst h1 h2;rfl
theorem eK (e y:Ex)(i:Nat)(s:Ow):Bal s (dR e y i s):=BF (fun g s=>iD _ _ _ _ _) s
theorem Fs.app_rng:∀ {x y:Fs},(x.app y).rng->y.rng
 | ⟨none⟩,y,h=>h
 | ⟨some⟨k,n,nm,a,ks,r⟩⟩,y,h=>Fs.app_rng h.2.2.2
theorem Ex.kidfit {e:Ex}(h:e.fit){x:Fs}{y:Ex}{r:Fs}(hk:e.kids=x.app (Fs.ex y r)):y.fit:=by
 have h1:(Fs.ex y r).short:=Fs.app_short(by rw[<-hk];exact h.sh);have h2:(Fs.ex y r).rng:=Fs.app_rng(by rw[<-hk];exact h.rng);exact⟨h1.1,h1.2.2.1,h1.2.1,h2.1,h2.2.1,h2.2.2.1⟩
theorem qv:∀ (x:Fs) (y:Ex) (r:Fs),x.app (Fs.ex y r)=(x.snoc y).app r
 | ⟨none⟩,y,r=>by simp only[Fs.snoc,Fs.app,one];rfl
 | ⟨some⟨k,n,nm,a,ks,rr⟩⟩,y,r=>by
  have:=qv rr y r
  simp only[Fs.snoc] at this ⊢;simp only[Fs.app];rw[this]
theorem oV {N:Nat}(IH:gL N)(e:Ex)(hek:e.k=20\/e.k=24\/e.k=25)(hN:e.kids.size<=N)(he:e.fit)(ao:Option Addr)(cap wb:Nat)(st:Ow)(w:World)(o:Nat->Nat)(S:Sl w (L0 o) e.kids ao)(H:WQ w o wb st) :
  Calls Tryz.prog 292 #[.pointer(some⟨wb,0,none⟩),exV e ao cap] w(eP w o wb(oFs e.kids(e.k==21) eT 0 st)):=by
 have h21:(e.k==21)=false:=bne(by omega);have hask:∀ i,jj e.k i=0:=fun i=>by rcases hek with h|h|h<;>rw[h]<;>rfl
 rw[h21];obtain⟨W,hW⟩:∃W,W=oFs e.kids false eT 0 st:=⟨_,rfl⟩
 rw[<-hW];have HW:Hid(oFs e.kids false eT 0 st=W):=hW.symm;have H21:Hid((e.k==21)=false):=h21;have HA:Hid(∀ i,jj e.k i=0):=hask;have hlen:=he.len;have s0:=aO(fun _=>False) w o(bxX e ao cap);have E0:Blk(w.alloc(bxX e ao cap))(ae w o 0) 0 w.heap.size(bxX e ao cap):=fE w o _ _;have S0:=S.stp0 s0;have H0:=H.stp0 s0;have T0:=s0.i12;clear hW h21 hask S H s0 hek;rw[aq];go_enter Tryz.func292,Tryz.ntmps292;go_upto_region 1 with fail;generalize w.alloc(bxX e ao cap)=w0 at *;generalize ae w o 0=o0 at *;generalize w.heap.size=be at *;go_wp2_with fail;go_loopw [4](fun v wr=>∃(done r:Fs)(u:Ow)(o':Nat->Nat),Hid(e.kids=done.app r)/\v=.int .i64(done.len:Nat)/\Hid(oFs r false eT done.len u=W)/\WQ wr o' wb u/\Blk wr o' 0 be(.cells #[.int .i64 e.k,.int .i64 e.n,stv e.nm,.slice ao e.kids.len cap,.int .i64 e.a] 25(0,0))/\Sl wr(L0 o') e.kids ao/\aa I12 w o wr o')(fun v _=>e.kids.len-(intOf v).toNat)
 case atStart=>exact⟨.nil,e.kids,st,o0,rfl,by show _=Value.int .i64((0:Nat):Int);rfl,HW,H0,E0,S0,T0⟩
 case round =>
  clear HW H0 E0 S0 T0;obtain⟨done,r,u,o3,hk,rfl,HU,H3,E3,S3,T3⟩:=hrel;have hlk:e.kids.len=done.len+r.len:=by rw[hk.out,Fs.len_app]
  obtain⟨p0,p1,p2,p3,p4,pf⟩:=am E3.1;cases r using Fs.on with
  | nil =>
   have hl0:¬(done.len:Int)<(e.kids.len:Int):=by simp only[Fs.len] at hlk;omega
   have hu:u=W:=HU.out;subst hu;clear HU hlk;go_wp2
   go_end0
   exact⟨rfl,o3,H3,T3⟩
  | cons kk kn km ka kks kr =>
   have hl0:(done.len:Int)<(e.kids.len:Int):=by simp only[Fs.len] at hlk;omega
   obtain⟨c3,cf,-,-⟩:=H3.end;cases u with
   | none =>
    have hu:W=none:=by rw[<-HU.out];exact jb _ _ _ _
    have c3:wr.cell?⟨wb,3,none⟩=some(.bool false):=c3;subst hu;clear HU hlk;go_wp2
    go_end0
    exact⟨rfl,o3,H3,T3⟩
   | some u0 =>
    have c3:wr.cell?⟨wb,3,none⟩=some(.bool true):=c3;obtain⟨y,hy⟩:∃y:Ex,y=⟨kk,kn,km,ka,kks⟩:=⟨_,rfl⟩
    have hk2:e.kids=done.app(Fs.ex y kr):=by rw[hk.out,hy];rfl
    have hyf:y.fit:=Ex.kidfit he hk2;have hyN:y.kids.size<N:=by
     have:e.kids.size=done.size+(y.kids.size+kr.size+1):=by rw[hk2,Fs.size_app];rfl
     omega
    have HU2:Hid(oFs kr false eT(done.len+1)(dR e y done.len(aM(eT done.len).1(some u0)))=W):=by
     show _=W;rw[<-HU.out,<-eq e y done.len _(flag:=false)(asked:=0)(by rw[H21.out];rfl)(HA.out _).symm,hy];rfl
    have HK9:Hid(e.kids=(done.snoc y).app kr):=by show _=_;rw[hk2,qv]
    have hlen1:done.len+1<=1000000000:=by simp only[Fs.len] at hlk;omega
    have HK2:=Lib.hid hk2;clear HU hy hlk hk2;by_cases hd:done.len=0
    ·have hd0:¬(0:Int)<(done.len:Int):=by omega
     have HU3:Hid(oFs kr false eT(done.len+1)(dR e y done.len(some u0))=W):=by
      show _=W;rw[<-HU2.out]
      have:(eT done.len).1=[]:=by unfold eT;simp[hd]
      rw[this,th H3]
     have c5:=fw IH e y done kr HK2.out done.len rfl(by omega) hyN hyf ao cap wb _ wr o3 S3 H3;rw[aq] at c5;clear HU2 hd hyf hyN;generalize dR e y done.len(some u0)=u5 at *;go_wp2_with fail;refine c5.mono ?_;rintro e2 w5⟨rfl,o5,H5,s5⟩;have T5:=T3.trans s5;have S5:=S3.stp s5;have E5:=E3.stp s5;clear c5 H3 T3 S3 E3 s5 p0 p1 p2 p3 p4 pf c3 cf;go_wp2;go_roundw
     case rel=>(try((repeat apply Exists.intro);refine⟨?_,rfl⟩));exact⟨done.snoc y,kr,u5,o5,HK9,by rw[Fs.len_snoc];go_num,by rw[Fs.len_snoc];exact HU3,H5,E5,S5,T5⟩
     case measure=>simp[intOf];omega
    ·have hd0:(0:Int)<(done.len:Int):=by omega
     have hcs:(eT done.len).1=[44,32]:=by unfold eT;simp[hd]
     rw[hcs] at HU2;have c4:=cF [44,32] H3(by simp);generalize aM [44,32](some u0)=u4 at *;clear hd hcs;go_wp2_with fail;refine c4.mono ?_;rintro e2 w4⟨rfl,o4,H4,s4⟩;have T4:=T3.trans s4;have S4:=S3.stp s4;have E4:=E3.stp s4;clear c4 H3 T3 S3 E3 s4 p0 p1 p2 p3 p4 pf c3 cf;obtain⟨p0,p1,p2,p3,p4,pf⟩:=am E4.1;have c5:=fw IH e y done kr HK2.out done.len rfl(by omega) hyN hyf ao cap wb _ w4 o4 S4 H4;rw[aq] at c5;clear hyf hyN;generalize dR e y done.len u4=u5 at *;go_wp2_with fail;refine c5.mono ?_;rintro e2 w5⟨rfl,o5,H5,s5⟩;have T5:=T4.trans s5;have S5:=S4.stp s5;have E5:=E4.stp s5;clear c5 H4 T4 S4 E4 s5 p0 p1 p2 p3 p4 pf;go_wp2;go_roundw
     case rel=>(try((repeat apply Exists.intro);refine⟨?_,rfl⟩));exact⟨done.snoc y,kr,u5,o5,HK9,by rw[Fs.len_snoc];go_num,by rw[Fs.len_snoc];exact HU2,H5,E5,S5,T5⟩
     case measure=>simp[intOf];omega
theorem vS (l m:List UInt8):(⟨l.toArray⟩:ByteArray)++⟨m.toArray⟩=⟨(l++m).toArray⟩:=by
 apply ByteArray.ext;simp
theorem xU {N:Nat}(IH:gL N)(e:Ex)(hNk:e.kids.size<=N)(he:e.fit)(ao:Option Addr)(cap wb:Nat)(st:Ow)(w:World)(o:Nat->Nat)(S:Sl w (L0 o) e.kids ao)(H:WQ w o wb st)(hk:e.k=19)(hl:e.kids.len=3) :
  Calls Tryz.prog 274 #[.pointer(some⟨wb,0,none⟩),exV e ao cap] w(eP w o wb(bi e.k e.n e.nm(fun g s=>oFs e.kids(e.k==21) g 0 s) st)):=by
 obtain⟨x,y,z,hks⟩:=Bg hl;have hk0:Hid(e.kids=Fs.app .nil(Fs.ex x(Fs.ex y(Fs.ex z .nil)))):=hks;have hk1:Hid(e.kids=Fs.app(one x)(Fs.ex y(Fs.ex z .nil))):=by show _=_;rw[hks];rfl
 have hk2:Hid(e.kids=Fs.app((one x).snoc y)(Fs.ex z .nil)):=by show _=_;rw[hks];rfl
 have hsz:e.kids.size=x.kids.size+(y.kids.size+(z.kids.size+0+1)+1)+1:=by rw[hks];rfl
 have hNx:x.kids.size<N:=by omega
 have hNy:y.kids.size<N:=by omega
 have hNz:z.kids.size<N:=by omega
 have hfx:=Ex.kidfit he hk0.out;have hfy:=Ex.kidfit he hk1.out;have hfz:=Ex.kidfit he hk2.out;have HF:Hid(bi e.k e.n e.nm(fun g s=>oFs e.kids(e.k==21) g 0 s) st=dN(dR e z 2(aM [32,101,108,115,101,32](dR e y 1(aM [32,116,104,101,110,32](dR e x 0(aM [105,102,32](aU st)))))))):=by
  show _=_;unfold bi;rw[if_neg(by omega),if_neg(by omega),if_pos hk];simp only[hks,mv];rw[eq e x 0 _(by rw[hk];rfl)(by rw[hk];rfl),eq e y 1 _(by rw[hk];rfl)(by rw[hk];rfl),eq e z 2 _(by rw[hk];rfl)(by rw[hk];rfl)];rfl
 have b19:(e.k==19)=true:=by simp[hk]
 clear hks hk hl hsz;have s0:=aO(fun _=>False) w o(bxX e ao cap);have E0:Blk(w.alloc(bxX e ao cap))(ae w o 0) 0 w.heap.size(bxX e ao cap):=fE w o _ _;have S0:=S.stp0 s0;have H0:=H.stp0 s0;have T0:=s0.i12;clear S H s0;rw[aq];go_enter Tryz.func274,Tryz.ntmps274;go_upto_region 1 with fail;generalize w.alloc(bxX e ao cap)=w0 at *;generalize ae w o 0=o0 at *;generalize w.heap.size=be at *;obtain⟨p0,p1,p2,p3,p4,pf⟩:=am E0.1;have c1:=fh [105,102,32] H0(by simp);have hb1:Bal(aU st)(aM [105,102,32](aU st)):=(Bal.refl _).put [105,102,32];have hp:Hid(∀ s,Bal(aU st) s->∀ x,s=some x->1<=x.o):=fun s h=>eN h;generalize aM [105,102,32](aU st)=st1 at *;generalize aU st=se at *;go_wp2_with fail;refine c1.mono ?_;rintro e2 w1⟨rfl,o1,H1,s1⟩;have T1:=T0.trans s1;have S1:=S0.stp s1;have E1:=E0.stp s1;clear c1 H0 T0 S0 E0 s1 p0 p1 p2 p3 p4 pf;obtain⟨p0,p1,p2,p3,p4,pf⟩:=am E1.1;have c2:=fw IH e x .nil(Fs.ex y(Fs.ex z .nil)) hk0.out 0 rfl(by omega)(hNx)(hfx) ao cap wb st1 w1 o1 S1 H1;rw[aq] at c2;have hb2:=hb1.trans(eK e x 0 st1);generalize dR e x 0 st1=st2 at *;go_wp2_with fail;refine c2.mono ?_;rintro e2 w2⟨rfl,o2,H2,s2⟩;have T2:=T1.trans s2;have S2:=S1.stp s2;have E2:=E1.stp s2;clear c2 H1 T1 S1 E1 s2 p0 p1 p2 p3 p4 pf hb1;obtain⟨p0,p1,p2,p3,p4,pf⟩:=am E2.1;have c3:=cF [32,116,104,101,110,32] H2(by simp);have hb3:=hb2.put [32,116,104,101,110,32];generalize aM [32,116,104,101,110,32] st2=st3 at *;go_wp2_with fail;refine c3.mono ?_;rintro e2 w3⟨rfl,o3,H3,s3⟩;have T3:=T2.trans s3;have S3:=S2.stp s3;have E3:=E2.stp s3;clear c3 H2 T2 S2 E2 s3 p0 p1 p2 p3 p4 pf hb2;obtain⟨p0,p1,p2,p3,p4,pf⟩:=am E3.1;have c4:=fw IH e y(one x)(Fs.ex z .nil) hk1.out 1 rfl(by omega)(hNy)(hfy) ao cap wb st3 w3 o3 S3 H3;rw[aq] at c4;have hb4:=hb3.trans(eK e y 1 st3);generalize dR e y 1 st3=st4 at *;go_wp2_with fail;refine c4.mono ?_;rintro e2 w4⟨rfl,o4,H4,s4⟩;have T4:=T3.trans s4;have S4:=S3.stp s4;have E4:=E3.stp s4;clear c4 H3 T3 S3 E3 s4 p0 p1 p2 p3 p4 pf hb3;obtain⟨p0,p1,p2,p3,p4,pf⟩:=am E4.1;have c5:=cF [32,101,108,115,101,32] H4(by simp);have hb5:=hb4.put [32,101,108,115,101,32];generalize aM [32,101,108,115,101,32] st4=st5 at *;go_wp2_with fail;refine c5.mono ?_;rintro e2 w5⟨rfl,o5,H5,s5⟩;have T5:=T4.trans s5;have S5:=S4.stp s5;have E5:=E4.stp s5;clear c5 H4 T4 S4 E4 s5 p0 p1 p2 p3 p4 pf hb4;obtain⟨p0,p1,p2,p3,p4,pf⟩:=am E5.1;have c6:=fw IH e z((one x).snoc y) .nil hk2.out 2 rfl(by omega)(hNz)(hfz) ao cap wb st5 w5 o5 S5 H5;rw[aq] at c6;have hb6:=hb5.trans(eK e z 2 st5);generalize dR e z 2 st5=st6 at *;go_wp2_with fail;refine c6.mono ?_;rintro e2 w6⟨rfl,o6,H6,s6⟩;have T6:=T5.trans s6;have S6:=S5.stp s6;have E6:=E5.stp s6;clear c6 H5 T5 S5 E5 s6 p0 p1 p2 p3 p4 pf hb5;obtain⟨p0,p1,p2,p3,p4,pf⟩:=am E6.1;obtain⟨oo7,dd7,df7,s7,H7⟩:=H6.lea(hp.out _ hb6);generalize dN st6=st7 at *;have T7:=T6.trans s7;have S7:=S6.stp s7;have E7:=E6.stp s7;go_wp2;generalize w6.setCell⟨wb,1,none⟩(.int .i64(wrap64(oo7-1)))=w7 at *;clear dd7 df7 H6 T6 S6 E6 s7 p0 p1 p2 p3 p4 pf hp hb6;generalize o6=o7 at *;obtain⟨p0,p1,p2,p3,p4,pf⟩:=am E7.1
 go_end0
 exact⟨rfl,o7,by rw[HF.out];exact H7,T7⟩
theorem oA {N:Nat}(IH:gL N)(e:Ex)(hNk:e.kids.size<=N)(he:e.fit)(ao:Option Addr)(cap wb:Nat)(st:Ow)(w:World)(o:Nat->Nat)(S:Sl w (L0 o) e.kids ao)(H:WQ w o wb st)(hk:e.k=24) :
  Calls Tryz.prog 274 #[.pointer(some⟨wb,0,none⟩),exV e ao cap] w(eP w o wb(bi e.k e.n e.nm(fun g s=>oFs e.kids(e.k==21) g 0 s) st)):=by
 have hek:e.k=20\/e.k=24\/e.k=25:=by omega
 have HF:Hid(bi e.k e.n e.nm(fun g s=>oFs e.kids(e.k==21) g 0 s) st=aM [41](dN(oFs e.kids(e.k==21) eT 0(aM [40](aU(aM [97,114,111,117,110,100] st)))))):=by
  show _=_;unfold bi;rw[if_neg(by omega),if_neg(by omega),if_neg(by omega),if_neg(by omega),if_neg(by omega),if_pos hk];rfl
 have b19:(e.k==19)=false:=bne(by omega);have b21:(e.k==21)=false:=bne(by omega);have b20:(e.k==20)=false:=bne(by omega);have b24:(e.k==24)=true:=by simp[hk]
 have HEK:=Lib.hid hek;clear hk hek;have s0:=aO(fun _=>False) w o(bxX e ao cap);have E0:Blk(w.alloc(bxX e ao cap))(ae w o 0) 0 w.heap.size(bxX e ao cap):=fE w o _ _;have S0:=S.stp0 s0;have H0:=H.stp0 s0;have T0:=s0.i12;clear S H s0;rw[aq];go_enter Tryz.func274,Tryz.ntmps274;go_upto_region 1 with fail;generalize w.alloc(bxX e ao cap)=w0 at *;generalize ae w o 0=o0 at *;generalize w.heap.size=be at *;obtain⟨p0,p1,p2,p3,p4,pf⟩:=am E0.1;have c1:=cF [97,114,111,117,110,100] H0(by simp);generalize aM [97,114,111,117,110,100] st=st1 at *;go_wp2_with fail;refine c1.mono ?_;rintro e2 w1⟨rfl,o1,H1,s1⟩;have T1:=T0.trans s1;have S1:=S0.stp s1;have E1:=E0.stp s1;clear c1 H0 T0 S0 E0 s1 p0 p1 p2 p3 p4 pf;obtain⟨p0,p1,p2,p3,p4,pf⟩:=am E1.1;have c2:=fh [40] H1(by simp);have hb2:Bal(aU st1)(aM [40](aU st1)):=(Bal.refl _).put [40];have hp:Hid(∀ s,Bal(aU st1) s->∀ x,s=some x->1<=x.o):=fun s h=>eN h;generalize aM [40](aU st1)=st2 at *;generalize aU st1=se at *;go_wp2_with fail;refine c2.mono ?_;rintro e2 w2⟨rfl,o2,H2,s2⟩;have T2:=T1.trans s2;have S2:=S1.stp s2;have E2:=E1.stp s2;clear c2 H1 T1 S1 E1 s2 p0 p1 p2 p3 p4 pf;obtain⟨p0,p1,p2,p3,p4,pf⟩:=am E2.1;have hek:=HEK.out;have c3:=oV IH e hek hNk he ao cap wb st2 w2 o2 S2 H2;rw[aq] at c3;have hb3:=hb2.trans(iD e.kids(e.k==21) eT 0 st2);generalize oFs e.kids(e.k==21) eT 0 st2=st3 at *;go_wp2_with fail;refine c3.mono ?_;rintro e2 w3⟨rfl,o3,H3,s3⟩;have T3:=T2.trans s3;have S3:=S2.stp s3;have E3:=E2.stp s3;clear c3 H2 T2 S2 E2 s3 p0 p1 p2 p3 p4 pf hb2;obtain⟨p0,p1,p2,p3,p4,pf⟩:=am E3.1;clear hek;obtain⟨oo4,dd4,df4,s4,H4⟩:=H3.lea(hp.out _ hb3);generalize dN st3=st4 at *;have T4:=T3.trans s4;have S4:=S3.stp s4;have E4:=E3.stp s4;go_upto_region 35 with fail;generalize w3.setCell⟨wb,1,none⟩(.int .i64(wrap64(oo4-1)))=w4 at *;clear dd4 df4 H3 T3 S3 E3 s4 p0 p1 p2 p3 p4 pf hp hb3;generalize o3=o4 at *;obtain⟨p0,p1,p2,p3,p4,pf⟩:=am E4.1;have c5:=cF [41] H4(by simp);generalize aM [41] st4=st5 at *;go_wp2_with fail;refine c5.mono ?_;rintro e2 w5⟨rfl,o5,H5,s5⟩;have T5:=T4.trans s5;have S5:=S4.stp s5;have E5:=E4.stp s5;clear c5 H4 T4 S4 E4 s5 p0 p1 p2 p3 p4 pf;obtain⟨p0,p1,p2,p3,p4,pf⟩:=am E5.1;go_wp2
 go_end0
 exact⟨rfl,o5,by rw[HF.out];exact H5,T5⟩
theorem rV {N:Nat}(IH:gL N)(e:Ex)(hNk:e.kids.size<=N)(he:e.fit)(ao:Option Addr)(cap wb:Nat)(st:Ow)(w:World)(o:Nat->Nat)(S:Sl w (L0 o) e.kids ao)(H:WQ w o wb st)(hk:e.k=25) :
  Calls Tryz.prog 274 #[.pointer(some⟨wb,0,none⟩),exV e ao cap] w(eP w o wb(bi e.k e.n e.nm(fun g s=>oFs e.kids(e.k==21) g 0 s) st)):=by
 have hek:e.k=20\/e.k=24\/e.k=25:=by omega
 have HF:Hid(bi e.k e.n e.nm(fun g s=>oFs e.kids(e.k==21) g 0 s) st=aM [125](dN(oFs e.kids(e.k==21) eT 0(aM [123](aU st))))):=by
  show _=_;unfold bi;rw[if_neg(by omega),if_neg(by omega),if_neg(by omega),if_neg(by omega),if_neg(by omega),if_neg(by omega),if_pos hk];rfl
 have b19:(e.k==19)=false:=bne(by omega);have b21:(e.k==21)=false:=bne(by omega);have b20:(e.k==20)=false:=bne(by omega);have b24:(e.k==24)=false:=bne(by omega);have HEK:=Lib.hid hek;clear hk hek;have s0:=aO(fun _=>False) w o(bxX e ao cap);have E0:Blk(w.alloc(bxX e ao cap))(ae w o 0) 0 w.heap.size(bxX e ao cap):=fE w o _ _;have S0:=S.stp0 s0;have H0:=H.stp0 s0;have T0:=s0.i12;clear S H s0;rw[aq];go_enter Tryz.func274,Tryz.ntmps274;go_upto_region 1 with fail;generalize w.alloc(bxX e ao cap)=w0 at *;generalize ae w o 0=o0 at *;generalize w.heap.size=be at *;obtain⟨p0,p1,p2,p3,p4,pf⟩:=am E0.1;have c1:=fh [123] H0(by simp);have hb1:Bal(aU st)(aM [123](aU st)):=(Bal.refl _).put [123];have hp:Hid(∀ s,Bal(aU st) s->∀ x,s=some x->1<=x.o):=fun s h=>eN h;generalize aM [123](aU st)=st1 at *;generalize aU st=se at *;go_wp2_with fail;refine c1.mono ?_;rintro e2 w1⟨rfl,o1,H1,s1⟩;have T1:=T0.trans s1;have S1:=S0.stp s1;have E1:=E0.stp s1;clear c1 H0 T0 S0 E0 s1 p0 p1 p2 p3 p4 pf;obtain⟨p0,p1,p2,p3,p4,pf⟩:=am E1.1;have hek:=HEK.out;have c2:=oV IH e hek hNk he ao cap wb st1 w1 o1 S1 H1;rw[aq] at c2;have hb2:=hb1.trans(iD e.kids(e.k==21) eT 0 st1);generalize oFs e.kids(e.k==21) eT 0 st1=st2 at *;go_wp2_with fail;refine c2.mono ?_;rintro e2 w2⟨rfl,o2,H2,s2⟩;have T2:=T1.trans s2;have S2:=S1.stp s2;have E2:=E1.stp s2;clear c2 H1 T1 S1 E1 s2 p0 p1 p2 p3 p4 pf hb1;obtain⟨p0,p1,p2,p3,p4,pf⟩:=am E2.1;clear hek;obtain⟨oo3,dd3,df3,s3,H3⟩:=H2.lea(hp.out _ hb2);generalize dN st2=st3 at *;have T3:=T2.trans s3;have S3:=S2.stp s3;have E3:=E2.stp s3;go_upto_region 5 with fail;generalize w2.setCell⟨wb,1,none⟩(.int .i64(wrap64(oo3-1)))=w3 at *;clear dd3 df3 H2 T2 S2 E2 s3 p0 p1 p2 p3 p4 pf hp hb2;generalize o2=o3 at *;obtain⟨p0,p1,p2,p3,p4,pf⟩:=am E3.1;have c4:=cF [125] H3(by simp);generalize aM [125] st3=st4 at *;go_wp2_with fail;refine c4.mono ?_;rintro e2 w4⟨rfl,o4,H4,s4⟩;have T4:=T3.trans s4;have S4:=S3.stp s4;have E4:=E3.stp s4;clear c4 H3 T3 S3 E3 s4 p0 p1 p2 p3 p4 pf;obtain⟨p0,p1,p2,p3,p4,pf⟩:=am E4.1;go_wp2
 go_end0
 exact⟨rfl,o4,by rw[HF.out];exact H4,T4⟩
theorem DE {n:Int}(h:1<=n/\n<=10):cwL[(n-1).toNat]?=some (gq n):=by
 have:n=1\/n=2\/n=3\/n=4\/n=5\/n=6\/n=7\/n=8\/n=9\/n=10:=by omega
 rcases this with rfl|rfl|rfl|rfl|rfl|rfl|rfl|rfl|rfl|rfl<;>rfl
theorem Ek {n:Int}(h:1<=n/\n<=6):qwL[(n-1).toNat]?=some (fU n):=by
 have:n=1\/n=2\/n=3\/n=4\/n=5\/n=6:=by omega
 rcases this with rfl|rfl|rfl|rfl|rfl|rfl<;>rfl
theorem rH {N:Nat}(IH:gL N)(e:Ex)(hNk:e.kids.size<=N)(he:e.fit)(ao:Option Addr)(cap wb:Nat)(st:Ow)(w:World)(o:Nat->Nat)(S:Sl w (L0 o) e.kids ao)(H:WQ w o wb st)(hk:e.k=20)(hn:1<=e.n/\e.n<=10) :
  Calls Tryz.prog 274 #[.pointer(some⟨wb,0,none⟩),exV e ao cap] w(eP w o wb(bi e.k e.n e.nm(fun g s=>oFs e.kids(e.k==21) g 0 s) st)):=by
 have hek:e.k=20\/e.k=24\/e.k=25:=by omega
 have HF:Hid(bi e.k e.n e.nm(fun g s=>oFs e.kids(e.k==21) g 0 s) st=aM [41](dN(oFs e.kids(e.k==21) eT 0(aM [40](aU(aM(gq e.n) st)))))):=by
  show _=_;unfold bi;rw[if_neg(by omega),if_neg(by omega),if_neg(by omega),if_neg(by omega),if_pos hk];rfl
 have b19:(e.k==19)=false:=bne(by omega);have b21:(e.k==21)=false:=bne(by omega);have b20:(e.k==20)=true:=by simp[hk]
 have HEK:=Lib.hid hek;have hcw:=DE hn;obtain⟨j,hj⟩:∃j,j=(e.n-1).toNat:=⟨_,rfl⟩
 rw[<-hj] at hcw;have hw1:IntKind.i64.wrap(e.n-1)=(j:Int):=by rw[IntKind.wrap_i64];omega
 have hj9:j<10:=by omega
 have hjI:(j:Int)<10:=by omega
 have HP:Hid(∀ wx oo,WQ wx oo wb st->Calls Tryz.prog 270 #[.pointer(some⟨wb,0,none⟩),stv(gq e.n)] wx(eP wx oo wb(aM(gq e.n) st))):=fun wx oo h=>cF _ h(by have:=uR e.n;omega);generalize aM(gq e.n) st=st2 at *;generalize gq e.n=cw at *;have HCW:=Lib.hid hcw;clear hk hek hn hj hcw;have s0:=aO(fun _=>False) w o(bxX e ao cap);have E0:Blk(w.alloc(bxX e ao cap))(ae w o 0) 0 w.heap.size(bxX e ao cap):=fE w o _ _;have S0:=S.stp0 s0;have H0:=H.stp0 s0;have T0:=s0.i12;clear S H s0;rw[aq];go_enter Tryz.func274,Tryz.ntmps274;go_upto_region 1 with fail;generalize w.alloc(bxX e ao cap)=w0 at *;generalize ae w o 0=o0 at *;generalize w.heap.size=be at *;have HCk:Hid(∀ wx oo,Blk wx oo 0 be(bxX e ao cap)->wx.cell?⟨be,1,none⟩=some(.int .i64 e.n)):=fun wx oo h=>(am h.1).2.1;have E0d:Blk w0.drew o0 0 be(bxX e ao cap):=E0;obtain⟨p0,p1,p2,p3,p4,pf⟩:=am E0.1;go_upto_region 25 with fail;go_cut [105](fun v wx=>∃o2,WQ wx o2 wb st2/\Blk wx o2 0 be(bxX e ao cap)/\Sl wx(L0 o2) e.kids ao/\aa I12 w o wx o2)
 case first =>
  refine wp_region_held_drew(S:=fun wx=>wx.cell?⟨be,1,none⟩=some(.int .i64 e.n))(by kernel_rfl)(HCk.out _ _ E0d)(fun hHeld=>?_);refine wpAnyH_take(i:=0)(v:=?v1) rfl(by kernel_rfl)(by kernel_rfl)(by kernel_rfl)(fun _ _ _ h=>h)(Or.inl⟨by rfl,?hy1⟩)(by assumption) ?rest1
  case hy1=>(intro w hSw;(try dsimp only at hSw);go_simp;all_goals(with_reducible rfl))
  simp only[Act.put,List.getElem_toArray,List.getElem_cons_zero,List.getElem_cons_succ,List.setIfInBounds_toArray,List.set_cons_zero,List.set_cons_succ];refine wpAnyH_take(i:=2)(v:=?v2) rfl(by kernel_rfl)(by kernel_rfl)(by kernel_rfl)(fun _ _ _ h=>h)(Or.inl⟨by rfl,?hy2⟩)(by assumption) ?rest2
  case hy2=>(intro w hSw;(try dsimp only at hSw);go_simp;all_goals(with_reducible rfl))
  simp only[Act.put,List.getElem_toArray,List.getElem_cons_zero,List.getElem_cons_succ,List.setIfInBounds_toArray,List.set_cons_zero,List.set_cons_succ];refine wpAnyH_take(i:=3)(v:=?v3) rfl(by kernel_rfl)(by kernel_rfl)(by kernel_rfl)(fun _ _ _ h=>h)(Or.inl⟨by rfl,?hy3⟩)(by assumption) ?rest3
  case hy3=>(intro w hSw;(try dsimp only at hSw);go_simp;all_goals(with_reducible rfl))
  simp only[Act.put,List.getElem_toArray,List.getElem_cons_zero,List.getElem_cons_succ,List.setIfInBounds_toArray,List.set_cons_zero,List.set_cons_succ];refine wpAnyH_take(i:=4)(v:=?v4) rfl(by kernel_rfl)(by kernel_rfl)(by kernel_rfl)(fun _ _ _ h=>h)(Or.inl⟨by rfl,?hy4⟩)(by assumption) ?rest4
  case hy4=>(intro w hSw;(try dsimp only at hSw);go_simp;all_goals(with_reducible rfl))
  simp only[Act.put,List.getElem_toArray,List.getElem_cons_zero,List.getElem_cons_succ,List.setIfInBounds_toArray,List.set_cons_zero,List.set_cons_succ];refine wpAnyH_ready(rs:=[1])(by kernel_rfl)(by simp) ?_;refine AllReadyH.cons rfl(fun K hK=>?_) AllReadyH.nil
  go_simp
  go_wp2_with((go_at_call 198;refine(tw _).mono ?_;rintro e2 w1⟨g1,rfl,WL⟩;have sA:aa(fun _=>False) w0 o0 w1 o0:=(aa.refl _ w0 o0).drew.trans(aa.ofB o0 WL.1);have E1:Blk w1 o0 0 be(bxX e ao cap):=E0.step sA id;have H1:=H0.stp0 sA;have S1:=S0.stp0 sA;have T1:=T0.trans sA.i12;have ix:=WL.2.2.2 j _ HCW.out));refine hK.out _ _(HCk.out _ _ E1)(fun hHeld=>?_);clear hK K;refine wpAnyH_take(i:=5)(v:=?v5) rfl(by kernel_rfl)(by kernel_rfl)(by kernel_rfl)(fun _ _ _ h=>h)(Or.inl⟨by rfl,?hy5⟩)(by assumption) ?rest5
  case hy5=>(intro w hSw;(try dsimp only at hSw);go_simp;all_goals(with_reducible rfl))
  simp only[Act.put,List.getElem_toArray,List.getElem_cons_zero,List.getElem_cons_succ,List.setIfInBounds_toArray,List.set_cons_zero,List.set_cons_succ];refine wpAnyH_ready(rs:=[6])(by kernel_rfl)(by simp) ?_;refine AllReadyH.cons rfl(fun K hK=>?_) AllReadyH.nil
  go_simp
  refine hK.out _ _(HCk.out _ _ E1)(fun hHeld=>?_);clear hK K;refine wpAnyH_ready(rs:=[7])(by kernel_rfl)(by simp) ?_;refine AllReadyH.cons rfl(fun K hK=>?_) AllReadyH.nil
  go_simp
  go_wp2_with((go_at_call 270;refine(HP.out _ _ H1).mono ?_;rintro e2 w2⟨rfl,o2,H2,s2⟩;have E2:=E1.stp s2;have S2:=S1.stp s2;have T2:=T1.trans s2));refine hK.out _ _(HCk.out _ _ E2)(fun hHeld=>?_);clear hK K;refine wpAnyH_done(by kernel_rfl) ?_ _;go_wp2;go_meet;exact⟨o2,H2,E2,S2,T2⟩
 case rest =>
 obtain⟨o2,H2,E2,S2,T2⟩:=hcut;obtain⟨w2,rfl⟩:∃w2,w2=wc:=⟨_,rfl⟩
 clear H0 S0 T0 E0 E0d HP HCk p0 p1 p2 p3 p4 pf;obtain⟨p0,p1,p2,p3,p4,pf⟩:=am E2.1;have c3:=fh [40] H2(by simp);have hb3:Bal(aU st2)(aM [40](aU st2)):=(Bal.refl _).put [40];have hp:Hid(∀ s,Bal(aU st2) s->∀ x,s=some x->1<=x.o):=fun s h=>eN h;generalize aM [40](aU st2)=st3 at *;generalize aU st2=se at *;go_wp2_with fail;refine c3.mono ?_;rintro e2 w3⟨rfl,o3,H3,s3⟩;have T3:=T2.trans s3;have S3:=S2.stp s3;have E3:=E2.stp s3;clear c3 H2 T2 S2 E2 s3 p0 p1 p2 p3 p4 pf;obtain⟨p0,p1,p2,p3,p4,pf⟩:=am E3.1;have hek:=HEK.out;have c4:=oV IH e hek hNk he ao cap wb st3 w3 o3 S3 H3;rw[aq] at c4;have hb4:=hb3.trans(iD e.kids(e.k==21) eT 0 st3);generalize oFs e.kids(e.k==21) eT 0 st3=st4 at *;go_wp2_with fail;refine c4.mono ?_;rintro e2 w4⟨rfl,o4,H4,s4⟩;have T4:=T3.trans s4;have S4:=S3.stp s4;have E4:=E3.stp s4;clear c4 H3 T3 S3 E3 s4 p0 p1 p2 p3 p4 pf hb3;obtain⟨p0,p1,p2,p3,p4,pf⟩:=am E4.1;clear hek;obtain⟨oo5,dd5,df5,s5,H5⟩:=H4.lea(hp.out _ hb4);generalize dN st4=st5 at *;have T5:=T4.trans s5;have S5:=S4.stp s5;have E5:=E4.stp s5;go_upto_region 29 with fail;generalize w4.setCell⟨wb,1,none⟩(.int .i64(wrap64(oo5-1)))=w5 at *;clear dd5 df5 H4 T4 S4 E4 s5 p0 p1 p2 p3 p4 pf hp hb4;generalize o4=o5 at *;obtain⟨p0,p1,p2,p3,p4,pf⟩:=am E5.1;have c6:=cF [41] H5(by simp);generalize aM [41] st5=st6 at *;go_wp2_with fail;refine c6.mono ?_;rintro e2 w6⟨rfl,o6,H6,s6⟩;have T6:=T5.trans s6;have S6:=S5.stp s6;have E6:=E5.stp s6;clear c6 H5 T5 S5 E5 s6 p0 p1 p2 p3 p4 pf;obtain⟨p0,p1,p2,p3,p4,pf⟩:=am E6.1;go_wp2
 go_end0
 exact⟨rfl,o6,by rw[HF.out];exact H6,T6⟩
theorem qn {N:Nat}(IH:gL N)(e:Ex)(hNk:e.kids.size<=N)(he:e.fit)(ao:Option Addr)(cap wb:Nat)(st:Ow)(w:World)(o:Nat->Nat)(S:Sl w (L0 o) e.kids ao)(H:WQ w o wb st)(hk:e.k=21)(hn:1<=e.n/\e.n<=6)(hl:e.kids.len=2)(hnm:e.nm.length<=12) :
  Calls Tryz.prog 274 #[.pointer(some⟨wb,0,none⟩),exV e ao cap] w(eP w o wb(bi e.k e.n e.nm(fun g s=>oFs e.kids(e.k==21) g 0 s) st)):=by
 obtain⟨x,y,hks⟩:=fI hl;have hk0:Hid(e.kids=Fs.app .nil(Fs.ex x(Fs.ex y .nil))):=hks;have hk1:Hid(e.kids=Fs.app(one x)(Fs.ex y .nil)):=by show _=_;rw[hks];rfl
 have hsz:e.kids.size=x.kids.size+(y.kids.size+0+1)+1:=by rw[hks];rfl
 have hNx:x.kids.size<N:=by omega
 have hNy:y.kids.size<N:=by omega
 have hfx:=Ex.kidfit he hk0.out;have hfy:=Ex.kidfit he hk1.out;have HF:Hid(bi e.k e.n e.nm(fun g s=>oFs e.kids(e.k==21) g 0 s) st=qu(dN(dR e y 1(aM [58,32](dR e x 0(aM(fU e.n++[32]++e.nm++[32,105,110,32])(aU(fW st)))))))):=by
  show _=_;unfold bi;rw[if_neg(by omega),if_neg(by omega),if_neg(by omega),if_pos hk];simp only[hks,mv];rw[eq e x 0 _(by rw[hk];rfl)(by rw[hk];rfl),eq e y 1 _(by rw[hk];rfl)(by rw[hk];rfl)];rfl
 have b19:(e.k==19)=false:=bne(by omega);have b21:(e.k==21)=true:=by simp[hk]
 have hqw:=Ek hn;obtain⟨j,hj⟩:∃j,j=(e.n-1).toNat:=⟨_,rfl⟩
 rw[<-hj] at hqw;have hw1:IntKind.i64.wrap(e.n-1)=(j:Int):=by rw[IntKind.wrap_i64];omega
 have hj9:j<6:=by omega
 have hjI:(j:Int)<6:=by omega
 have hql:=ux e.n;have HO:Hid(∀ wx oo(su:Ow),WQ wx oo wb su->Calls Tryz.prog 272 #[.pointer(some⟨wb,0,none⟩),.string(⟨(fU e.n).toArray⟩++⟨#[32]⟩++⟨e.nm.toArray⟩++⟨#[32,105,110,32]⟩)] wx(eP wx oo wb(aM(fU e.n++[32]++e.nm++[32,105,110,32])(aU su)))):=fun wx oo su h=>by
  have h9:=fh(fU e.n++[32]++e.nm++[32,105,110,32]) h(by simp only[List.length_append,List.length_cons,List.length_nil];omega);have e9:(⟨(fU e.n).toArray⟩++⟨#[32]⟩++⟨e.nm.toArray⟩++⟨#[32,105,110,32]⟩:ByteArray)=⟨(fU e.n++[32]++e.nm++[32,105,110,32]).toArray⟩:=by
   rw[<-vS,<-vS,<-vS]
  rw[e9];exact h9
 have hm1:=fF(fU e.n);have hm2:=fF e.nm;have HQ:=Lib.hid hqw;generalize fU e.n=qw at *;clear hks hk hl hsz hj hqw hn;have s0:=aO(fun _=>False) w o(bxX e ao cap);have E0:Blk(w.alloc(bxX e ao cap))(ae w o 0) 0 w.heap.size(bxX e ao cap):=fE w o _ _;have S0:=S.stp0 s0;have H0:=H.stp0 s0;have T0:=s0.i12;clear S H s0;rw[aq];go_enter Tryz.func274,Tryz.ntmps274;go_upto_region 1 with fail;generalize w.alloc(bxX e ao cap)=w0 at *;generalize ae w o 0=o0 at *;generalize w.heap.size=be at *;have HQP:Hid(∀ s,Bal(fW st) s->∀ x,s=some x->1<=x.q):=fun s h=>AQ h;obtain⟨qq,c2,cf,sq0,hh⟩:=H0.qen;have hen:=H0.end.1;generalize fW st=sq at *;obtain⟨p0,p1,p2,p3,p4,pf⟩:=am E0.1;obtain⟨w4,hw4⟩:∃w4,w4=w0.setCell⟨wb,2,none⟩(.int .i64(wrap64(qq+1))):=⟨_,rfl⟩
 have d2:w4.cell?⟨wb,2,none⟩=some(.int .i64(wrap64(qq+1))):=by rw[hw4];exact World.cell?_setCell_same _ _ _ c2
 have df:∀ j,w4.frozen?⟨wb,j,none⟩=false:=fun j=>by rw[hw4];exact(World.frozen?_setCell ..).trans(cf j)
 have d3:w4.cell?⟨wb,3,none⟩=some(.bool st.isSome):=by rw[hw4];exact(World.cell?_setCell_other _ _ _ _(by simp)).trans hen
 go_upto_region 16 with fail;rw[<-hw4];rw[<-hw4] at hh sq0;have E4:=E0.stp sq0;have S4:=S0.stp sq0;have T4:=T0.trans sq0;clear hw4 c2 cf hen E0 S0 T0 H0 sq0 p0 p1 p2 p3 p4 pf;rcases hh with⟨hl,H5⟩|⟨hl,H5⟩
 ·have s5:aa I12 w4 o0(w4.setCell⟨wb,3,none⟩(.bool false)) o0:=by
   obtain⟨t,oo2,qq2,ok,hr,_⟩:=H5.raw;obtain⟨v,hb,_⟩:=hr;exact bU _ w4 o0⟨wb,3,none⟩ _(.inl hb.2)
  have E5:=E4.stp s5;have S5:=S4.stp s5;have T5:=T4.trans s5;go_upto_region 18 with fail;generalize w4.setCell⟨wb,3,none⟩(.bool false)=w5 at *;clear d2 df d3 s5 E4 S4 T4;have HCk:Hid(∀ wx oo,Blk wx oo 0 be(bxX e ao cap)->wx.cell?⟨be,1,none⟩=some(.int .i64 e.n)/\wx.cell?⟨be,2,none⟩=some(stv e.nm)):=fun wx oo h=>⟨(am h.1).2.1,(am h.1).2.2.1⟩;have E5d:Blk w5.drew o0 0 be(bxX e ao cap):=E5;obtain⟨p0,p1,p2,p3,p4,pf⟩:=am E5.1;have HO2:Hid(∀ wx oo,WQ wx oo wb sq->Calls Tryz.prog 272 #[.pointer(some⟨wb,0,none⟩),.string(⟨qw.toArray⟩++⟨#[32]⟩++⟨e.nm.toArray⟩++⟨#[32,105,110,32]⟩)] wx(eP wx oo wb(aM(qw++[32]++e.nm++[32,105,110,32])(aU sq)))):=fun wx oo h=>HO.out wx oo sq h;have hb7:Bal(aU sq)(aM(qw++[32]++e.nm++[32,105,110,32])(aU sq)):=(Bal.refl _).put _;have hp:Hid(∀ s,Bal(aU sq) s->∀ x,s=some x->1<=x.o):=fun s h=>eN h;have hl9:Hid(∀ s,Bal(aU sq) s->Bal sq(dN s)):=fun s h=>Bal.lea h;generalize aM(qw++[32]++e.nm++[32,105,110,32])(aU sq)=st7 at *;clear HO;go_upto_region 18 with fail;go_cut [73](fun v wx=>∃o7,WQ wx o7 wb st7/\Blk wx o7 0 be(bxX e ao cap)/\Sl wx(L0 o7) e.kids ao/\aa I12 w o wx o7)
  case first =>
   refine wp_region_held_drew(S:=fun wx=>wx.cell?⟨be,1,none⟩=some(.int .i64 e.n)/\wx.cell?⟨be,2,none⟩=some(stv e.nm))(by kernel_rfl)(HCk.out _ _ E5d)(fun hHeld=>?_);refine wpAnyH_take(i:=0)(v:=?v6) rfl(by kernel_rfl)(by kernel_rfl)(by kernel_rfl)(fun _ _ _ h=>h)(Or.inl⟨by rfl,?hy6⟩)(by assumption) ?rest6
   case hy6=>(intro w hSw;(try dsimp only at hSw);go_simp;all_goals(with_reducible rfl))
   simp only[Act.put,List.getElem_toArray,List.getElem_cons_zero,List.getElem_cons_succ,List.setIfInBounds_toArray,List.set_cons_zero,List.set_cons_succ];refine wpAnyH_take(i:=2)(v:=?v7) rfl(by kernel_rfl)(by kernel_rfl)(by kernel_rfl)(fun _ _ _ h=>h)(Or.inl⟨by rfl,?hy7⟩)(by assumption) ?rest7
   case hy7=>(intro w hSw;(try dsimp only at hSw);go_simp;all_goals(with_reducible rfl))
   simp only[Act.put,List.getElem_toArray,List.getElem_cons_zero,List.getElem_cons_succ,List.setIfInBounds_toArray,List.set_cons_zero,List.set_cons_succ];refine wpAnyH_take(i:=3)(v:=?v8) rfl(by kernel_rfl)(by kernel_rfl)(by kernel_rfl)(fun _ _ _ h=>h)(Or.inl⟨by rfl,?hy8⟩)(by assumption) ?rest8
   case hy8=>(intro w hSw;(try dsimp only at hSw);go_simp;all_goals(with_reducible rfl))
   simp only[Act.put,List.getElem_toArray,List.getElem_cons_zero,List.getElem_cons_succ,List.setIfInBounds_toArray,List.set_cons_zero,List.set_cons_succ];refine wpAnyH_take(i:=4)(v:=?v9) rfl(by kernel_rfl)(by kernel_rfl)(by kernel_rfl)(fun _ _ _ h=>h)(Or.inl⟨by rfl,?hy9⟩)(by assumption) ?rest9
   case hy9=>(intro w hSw;(try dsimp only at hSw);go_simp;all_goals(with_reducible rfl))
   simp only[Act.put,List.getElem_toArray,List.getElem_cons_zero,List.getElem_cons_succ,List.setIfInBounds_toArray,List.set_cons_zero,List.set_cons_succ];refine wpAnyH_take(i:=8)(v:=?v10) rfl(by kernel_rfl)(by kernel_rfl)(by kernel_rfl)(fun _ _ _ h=>h)(Or.inl⟨by rfl,?hy10⟩)(by assumption) ?rest10
   case hy10=>(intro w hSw;(try dsimp only at hSw);go_simp;all_goals(with_reducible rfl))
   simp only[Act.put,List.getElem_toArray,List.getElem_cons_zero,List.getElem_cons_succ,List.setIfInBounds_toArray,List.set_cons_zero,List.set_cons_succ];refine wpAnyH_take(i:=9)(v:=?v11) rfl(by kernel_rfl)(by kernel_rfl)(by kernel_rfl)(fun _ _ _ h=>h)(Or.inl⟨by rfl,?hy11⟩)(by assumption) ?rest11
   case hy11=>(intro w hSw;(try dsimp only at hSw);go_simp;all_goals(with_reducible rfl))
   simp only[Act.put,List.getElem_toArray,List.getElem_cons_zero,List.getElem_cons_succ,List.setIfInBounds_toArray,List.set_cons_zero,List.set_cons_succ];refine wpAnyH_ready(rs:=[1])(by kernel_rfl)(by simp) ?_;refine AllReadyH.cons rfl(fun K hK=>?_) AllReadyH.nil
   go_simp
   go_wp2_with((go_at_call 199;refine(lC _).mono ?_;rintro e2 w6⟨g1,rfl,WL⟩;have sA:aa(fun _=>False) w5 o0 w6 o0:=(aa.refl _ w5 o0).drew.trans(aa.ofB o0 WL.1);have E6:Blk w6 o0 0 be(bxX e ao cap):=E5.step sA id;have H6:=H5.stp0 sA;have S6:=S5.stp0 sA;have T6:=T5.trans sA.i12;have ix:=WL.2.2.2 j _ HQ.out));refine hK.out _ _(HCk.out _ _ E6)(fun hHeld=>?_);clear hK K;refine wpAnyH_take(i:=5)(v:=?v12) rfl(by kernel_rfl)(by kernel_rfl)(by kernel_rfl)(fun _ _ _ h=>h)(Or.inl⟨by rfl,?hy12⟩)(by assumption) ?rest12
   case hy12=>(intro w hSw;(try dsimp only at hSw);go_simp;all_goals(with_reducible rfl))
   simp only[Act.put,List.getElem_toArray,List.getElem_cons_zero,List.getElem_cons_succ,List.setIfInBounds_toArray,List.set_cons_zero,List.set_cons_succ];refine wpAnyH_ready(rs:=[6])(by kernel_rfl)(by simp) ?_;refine AllReadyH.cons rfl(fun K hK=>?_) AllReadyH.nil
   go_simp
   refine hK.out _ _(HCk.out _ _ E6)(fun hHeld=>?_);clear hK K;refine wpAnyH_take(i:=7)(v:=?v13) rfl(by kernel_rfl)(by kernel_rfl)(by kernel_rfl)(fun _ _ _ h=>h)(Or.inl⟨by rfl,?hy13⟩)(by assumption) ?rest13
   case hy13=>(intro w hSw;(try dsimp only at hSw);go_simp;rw[if_neg(by omega)])
   simp only[Act.put,List.getElem_toArray,List.getElem_cons_zero,List.getElem_cons_succ,List.setIfInBounds_toArray,List.set_cons_zero,List.set_cons_succ];refine wpAnyH_take(i:=10)(v:=?v14) rfl(by kernel_rfl)(by kernel_rfl)(by kernel_rfl)(fun _ _ _ h=>h)(Or.inl⟨by rfl,?hy14⟩)(by assumption) ?rest14
   case hy14=>(intro w hSw;(try dsimp only at hSw);go_simp;rw[if_neg(by omega)])
   simp only[Act.put,List.getElem_toArray,List.getElem_cons_zero,List.getElem_cons_succ,List.setIfInBounds_toArray,List.set_cons_zero,List.set_cons_succ];refine wpAnyH_take(i:=11)(v:=?v15) rfl(by kernel_rfl)(by kernel_rfl)(by kernel_rfl)(fun _ _ _ h=>h)(Or.inl⟨by rfl,?hy15⟩)(by assumption) ?rest15
   case hy15=>(intro w hSw;(try dsimp only at hSw);go_simp;rw[if_neg(by omega)])
   simp only[Act.put,List.getElem_toArray,List.getElem_cons_zero,List.getElem_cons_succ,List.setIfInBounds_toArray,List.set_cons_zero,List.set_cons_succ];refine wpAnyH_ready(rs:=[12])(by kernel_rfl)(by simp) ?_;refine AllReadyH.cons rfl(fun K hK=>?_) AllReadyH.nil
   go_simp
   go_wp2_with((go_at_call 272;refine(HO2.out _ _ H6).mono ?_;rintro e2 w7⟨rfl,o7,H7,s7⟩;have E7:=E6.stp s7;have S7:=S6.stp s7;have T7:=T6.trans s7));refine hK.out _ _(HCk.out _ _ E7)(fun hHeld=>?_);clear hK K;refine wpAnyH_done(by kernel_rfl) ?_ _;go_wp2;go_meet;exact⟨o7,H7,E7,S7,T7⟩
  case rest =>
  obtain⟨o7,H7,E7,S7,T7⟩:=hcut;obtain⟨w7,rfl⟩:∃w7,w7=wc:=⟨_,rfl⟩
  clear H5 S5 T5 E5 E5d HO2 HCk p0 p1 p2 p3 p4 pf;generalize aU sq=se at *;obtain⟨p0,p1,p2,p3,p4,pf⟩:=am E7.1;have c8:=fw IH e x .nil(Fs.ex y .nil) hk0.out 0 rfl(by omega)(hNx)(hfx) ao cap wb st7 w7 o7 S7 H7;rw[aq] at c8;have hb8:=hb7.trans(eK e x 0 st7);generalize dR e x 0 st7=st8 at *;go_wp2_with fail;refine c8.mono ?_;rintro e2 w8⟨rfl,o8,H8,s8⟩;have T8:=T7.trans s8;have S8:=S7.stp s8;have E8:=E7.stp s8;clear c8 H7 T7 S7 E7 s8 p0 p1 p2 p3 p4 pf hb7;obtain⟨p0,p1,p2,p3,p4,pf⟩:=am E8.1;have c9:=cF [58,32] H8(by simp);have hb9:=hb8.put [58,32];generalize aM [58,32] st8=st9 at *;go_wp2_with fail;refine c9.mono ?_;rintro e2 w9⟨rfl,o9,H9,s9⟩;have T9:=T8.trans s9;have S9:=S8.stp s9;have E9:=E8.stp s9;clear c9 H8 T8 S8 E8 s9 p0 p1 p2 p3 p4 pf hb8;obtain⟨p0,p1,p2,p3,p4,pf⟩:=am E9.1;have c10:=fw IH e y(one x) .nil hk1.out 1 rfl(by omega)(hNy)(hfy) ao cap wb st9 w9 o9 S9 H9;rw[aq] at c10;have hb10:=hb9.trans(eK e y 1 st9);generalize dR e y 1 st9=st10 at *;go_wp2_with fail;refine c10.mono ?_;rintro e2 w10⟨rfl,o10,H10,s10⟩;have T10:=T9.trans s10;have S10:=S9.stp s10;have E10:=E9.stp s10;clear c10 H9 T9 S9 E9 s10 p0 p1 p2 p3 p4 pf hb9;obtain⟨p0,p1,p2,p3,p4,pf⟩:=am E10.1;have hq9:=hl9.out _ hb10;obtain⟨oo11,dd11,df11,s11,H11⟩:=H10.lea(hp.out _ hb10);generalize dN st10=st11 at *;have T11:=T10.trans s11;have S11:=S10.stp s11;have E11:=E10.stp s11;go_upto_region 23 with fail;generalize w10.setCell⟨wb,1,none⟩(.int .i64(wrap64(oo11-1)))=w11 at *;clear dd11 df11 H10 T10 S10 E10 s11 p0 p1 p2 p3 p4 pf hp hb10;generalize o10=o11 at *;obtain⟨p0,p1,p2,p3,p4,pf⟩:=am E11.1;obtain⟨oo12,dd12,df12,s12,H12⟩:=H11.qle(HQP.out _ hq9);generalize qu st11=st12 at *;have T12:=T11.trans s12;clear H11 T11 S11 E11 s12 p0 p1 p2 p3 p4 pf hq9 hl9;go_wp2
  go_end0
  exact⟨rfl,o11,by rw[HF.out];exact H12,T12⟩
 ·obtain⟨w5,rfl⟩:∃w5,w5=w4:=⟨_,rfl⟩
  have E5:=E4;have S5:=S4;have T5:=T4;clear E4 S4 T4;have HCk:Hid(∀ wx oo,Blk wx oo 0 be(bxX e ao cap)->wx.cell?⟨be,1,none⟩=some(.int .i64 e.n)/\wx.cell?⟨be,2,none⟩=some(stv e.nm)):=fun wx oo h=>⟨(am h.1).2.1,(am h.1).2.2.1⟩;have E5d:Blk w5.drew o0 0 be(bxX e ao cap):=E5;obtain⟨p0,p1,p2,p3,p4,pf⟩:=am E5.1;have HO2:Hid(∀ wx oo,WQ wx oo wb sq->Calls Tryz.prog 272 #[.pointer(some⟨wb,0,none⟩),.string(⟨qw.toArray⟩++⟨#[32]⟩++⟨e.nm.toArray⟩++⟨#[32,105,110,32]⟩)] wx(eP wx oo wb(aM(qw++[32]++e.nm++[32,105,110,32])(aU sq)))):=fun wx oo h=>HO.out wx oo sq h;have hb7:Bal(aU sq)(aM(qw++[32]++e.nm++[32,105,110,32])(aU sq)):=(Bal.refl _).put _;have hp:Hid(∀ s,Bal(aU sq) s->∀ x,s=some x->1<=x.o):=fun s h=>eN h;have hl9:Hid(∀ s,Bal(aU sq) s->Bal sq(dN s)):=fun s h=>Bal.lea h;generalize aM(qw++[32]++e.nm++[32,105,110,32])(aU sq)=st7 at *;clear HO;go_upto_region 18 with fail;clear d2 df d3;go_cut [73](fun v wx=>∃o7,WQ wx o7 wb st7/\Blk wx o7 0 be(bxX e ao cap)/\Sl wx(L0 o7) e.kids ao/\aa I12 w o wx o7)
  case first =>
   refine wp_region_held_drew(S:=fun wx=>wx.cell?⟨be,1,none⟩=some(.int .i64 e.n)/\wx.cell?⟨be,2,none⟩=some(stv e.nm))(by kernel_rfl)(HCk.out _ _ E5d)(fun hHeld=>?_);refine wpAnyH_take(i:=0)(v:=?v16) rfl(by kernel_rfl)(by kernel_rfl)(by kernel_rfl)(fun _ _ _ h=>h)(Or.inl⟨by rfl,?hy16⟩)(by assumption) ?rest16
   case hy16=>(intro w hSw;(try dsimp only at hSw);go_simp;all_goals(with_reducible rfl))
   simp only[Act.put,List.getElem_toArray,List.getElem_cons_zero,List.getElem_cons_succ,List.setIfInBounds_toArray,List.set_cons_zero,List.set_cons_succ];refine wpAnyH_take(i:=2)(v:=?v17) rfl(by kernel_rfl)(by kernel_rfl)(by kernel_rfl)(fun _ _ _ h=>h)(Or.inl⟨by rfl,?hy17⟩)(by assumption) ?rest17
   case hy17=>(intro w hSw;(try dsimp only at hSw);go_simp;all_goals(with_reducible rfl))
   simp only[Act.put,List.getElem_toArray,List.getElem_cons_zero,List.getElem_cons_succ,List.setIfInBounds_toArray,List.set_cons_zero,List.set_cons_succ];refine wpAnyH_take(i:=3)(v:=?v18) rfl(by kernel_rfl)(by kernel_rfl)(by kernel_rfl)(fun _ _ _ h=>h)(Or.inl⟨by rfl,?hy18⟩)(by assumption) ?rest18
   case hy18=>(intro w hSw;(try dsimp only at hSw);go_simp;all_goals(with_reducible rfl))
   simp only[Act.put,List.getElem_toArray,List.getElem_cons_zero,List.getElem_cons_succ,List.setIfInBounds_toArray,List.set_cons_zero,List.set_cons_succ];refine wpAnyH_take(i:=4)(v:=?v19) rfl(by kernel_rfl)(by kernel_rfl)(by kernel_rfl)(fun _ _ _ h=>h)(Or.inl⟨by rfl,?hy19⟩)(by assumption) ?rest19
   case hy19=>(intro w hSw;(try dsimp only at hSw);go_simp;all_goals(with_reducible rfl))
   simp only[Act.put,List.getElem_toArray,List.getElem_cons_zero,List.getElem_cons_succ,List.setIfInBounds_toArray,List.set_cons_zero,List.set_cons_succ];refine wpAnyH_take(i:=8)(v:=?v20) rfl(by kernel_rfl)(by kernel_rfl)(by kernel_rfl)(fun _ _ _ h=>h)(Or.inl⟨by rfl,?hy20⟩)(by assumption) ?rest20
   case hy20=>(intro w hSw;(try dsimp only at hSw);go_simp;all_goals(with_reducible rfl))
   simp only[Act.put,List.getElem_toArray,List.getElem_cons_zero,List.getElem_cons_succ,List.setIfInBounds_toArray,List.set_cons_zero,List.set_cons_succ];refine wpAnyH_take(i:=9)(v:=?v21) rfl(by kernel_rfl)(by kernel_rfl)(by kernel_rfl)(fun _ _ _ h=>h)(Or.inl⟨by rfl,?hy21⟩)(by assumption) ?rest21
   case hy21=>(intro w hSw;(try dsimp only at hSw);go_simp;all_goals(with_reducible rfl))
   simp only[Act.put,List.getElem_toArray,List.getElem_cons_zero,List.getElem_cons_succ,List.setIfInBounds_toArray,List.set_cons_zero,List.set_cons_succ];refine wpAnyH_ready(rs:=[1])(by kernel_rfl)(by simp) ?_;refine AllReadyH.cons rfl(fun K hK=>?_) AllReadyH.nil
   go_simp
   go_wp2_with((go_at_call 199;refine(lC _).mono ?_;rintro e2 w6⟨g1,rfl,WL⟩;have sA:aa(fun _=>False) w5 o0 w6 o0:=(aa.refl _ w5 o0).drew.trans(aa.ofB o0 WL.1);have E6:Blk w6 o0 0 be(bxX e ao cap):=E5.step sA id;have H6:=H5.stp0 sA;have S6:=S5.stp0 sA;have T6:=T5.trans sA.i12;have ix:=WL.2.2.2 j _ HQ.out));refine hK.out _ _(HCk.out _ _ E6)(fun hHeld=>?_);clear hK K;refine wpAnyH_take(i:=5)(v:=?v22) rfl(by kernel_rfl)(by kernel_rfl)(by kernel_rfl)(fun _ _ _ h=>h)(Or.inl⟨by rfl,?hy22⟩)(by assumption) ?rest22
   case hy22=>(intro w hSw;(try dsimp only at hSw);go_simp;all_goals(with_reducible rfl))
   simp only[Act.put,List.getElem_toArray,List.getElem_cons_zero,List.getElem_cons_succ,List.setIfInBounds_toArray,List.set_cons_zero,List.set_cons_succ];refine wpAnyH_ready(rs:=[6])(by kernel_rfl)(by simp) ?_;refine AllReadyH.cons rfl(fun K hK=>?_) AllReadyH.nil
   go_simp
   refine hK.out _ _(HCk.out _ _ E6)(fun hHeld=>?_);clear hK K;refine wpAnyH_take(i:=7)(v:=?v23) rfl(by kernel_rfl)(by kernel_rfl)(by kernel_rfl)(fun _ _ _ h=>h)(Or.inl⟨by rfl,?hy23⟩)(by assumption) ?rest23
   case hy23=>(intro w hSw;(try dsimp only at hSw);go_simp;rw[if_neg(by omega)])
   simp only[Act.put,List.getElem_toArray,List.getElem_cons_zero,List.getElem_cons_succ,List.setIfInBounds_toArray,List.set_cons_zero,List.set_cons_succ];refine wpAnyH_take(i:=10)(v:=?v24) rfl(by kernel_rfl)(by kernel_rfl)(by kernel_rfl)(fun _ _ _ h=>h)(Or.inl⟨by rfl,?hy24⟩)(by assumption) ?rest24
   case hy24=>(intro w hSw;(try dsimp only at hSw);go_simp;rw[if_neg(by omega)])
   simp only[Act.put,List.getElem_toArray,List.getElem_cons_zero,List.getElem_cons_succ,List.setIfInBounds_toArray,List.set_cons_zero,List.set_cons_succ];refine wpAnyH_take(i:=11)(v:=?v25) rfl(by kernel_rfl)(by kernel_rfl)(by kernel_rfl)(fun _ _ _ h=>h)(Or.inl⟨by rfl,?hy25⟩)(by assumption) ?rest25
   case hy25=>(intro w hSw;(try dsimp only at hSw);go_simp;rw[if_neg(by omega)])
   simp only[Act.put,List.getElem_toArray,List.getElem_cons_zero,List.getElem_cons_succ,List.setIfInBounds_toArray,List.set_cons_zero,List.set_cons_succ];refine wpAnyH_ready(rs:=[12])(by kernel_rfl)(by simp) ?_;refine AllReadyH.cons rfl(fun K hK=>?_) AllReadyH.nil
   go_simp
   go_wp2_with((go_at_call 272;refine(HO2.out _ _ H6).mono ?_;rintro e2 w7⟨rfl,o7,H7,s7⟩;have E7:=E6.stp s7;have S7:=S6.stp s7;have T7:=T6.trans s7));refine hK.out _ _(HCk.out _ _ E7)(fun hHeld=>?_);clear hK K;refine wpAnyH_done(by kernel_rfl) ?_ _;go_wp2;go_meet;exact⟨o7,H7,E7,S7,T7⟩
  case rest =>
  obtain⟨o7,H7,E7,S7,T7⟩:=hcut;obtain⟨w7,rfl⟩:∃w7,w7=wc:=⟨_,rfl⟩
  clear H5 S5 T5 E5 E5d HO2 HCk p0 p1 p2 p3 p4 pf;generalize aU sq=se at *;obtain⟨p0,p1,p2,p3,p4,pf⟩:=am E7.1;have c8:=fw IH e x .nil(Fs.ex y .nil) hk0.out 0 rfl(by omega)(hNx)(hfx) ao cap wb st7 w7 o7 S7 H7;rw[aq] at c8;have hb8:=hb7.trans(eK e x 0 st7);generalize dR e x 0 st7=st8 at *;go_wp2_with fail;refine c8.mono ?_;rintro e2 w8⟨rfl,o8,H8,s8⟩;have T8:=T7.trans s8;have S8:=S7.stp s8;have E8:=E7.stp s8;clear c8 H7 T7 S7 E7 s8 p0 p1 p2 p3 p4 pf hb7;obtain⟨p0,p1,p2,p3,p4,pf⟩:=am E8.1;have c9:=cF [58,32] H8(by simp);have hb9:=hb8.put [58,32];generalize aM [58,32] st8=st9 at *;go_wp2_with fail;refine c9.mono ?_;rintro e2 w9⟨rfl,o9,H9,s9⟩;have T9:=T8.trans s9;have S9:=S8.stp s9;have E9:=E8.stp s9;clear c9 H8 T8 S8 E8 s9 p0 p1 p2 p3 p4 pf hb8;obtain⟨p0,p1,p2,p3,p4,pf⟩:=am E9.1;have c10:=fw IH e y(one x) .nil hk1.out 1 rfl(by omega)(hNy)(hfy) ao cap wb st9 w9 o9 S9 H9;rw[aq] at c10;have hb10:=hb9.trans(eK e y 1 st9);generalize dR e y 1 st9=st10 at *;go_wp2_with fail;refine c10.mono ?_;rintro e2 w10⟨rfl,o10,H10,s10⟩;have T10:=T9.trans s10;have S10:=S9.stp s10;have E10:=E9.stp s10;clear c10 H9 T9 S9 E9 s10 p0 p1 p2 p3 p4 pf hb9;obtain⟨p0,p1,p2,p3,p4,pf⟩:=am E10.1;have hq9:=hl9.out _ hb10;obtain⟨oo11,dd11,df11,s11,H11⟩:=H10.lea(hp.out _ hb10);generalize dN st10=st11 at *;have T11:=T10.trans s11;have S11:=S10.stp s11;have E11:=E10.stp s11;go_upto_region 23 with fail;generalize w10.setCell⟨wb,1,none⟩(.int .i64(wrap64(oo11-1)))=w11 at *;clear dd11 df11 H10 T10 S10 E10 s11 p0 p1 p2 p3 p4 pf hp hb10;generalize o10=o11 at *;obtain⟨p0,p1,p2,p3,p4,pf⟩:=am E11.1;obtain⟨oo12,dd12,df12,s12,H12⟩:=H11.qle(HQP.out _ hq9);generalize qu st11=st12 at *;have T12:=T11.trans s12;clear H11 T11 S11 E11 s12 p0 p1 p2 p3 p4 pf hq9 hl9;go_wp2
  go_end0
  exact⟨rfl,o11,by rw[HF.out];exact H12,T12⟩
theorem Ej (k:Int):(dU k).isSome=decide (8<=k/\k<=18):=by
 by_cases h:8<=k/\k<=18
 ·rw[show decide(8<=k/\k<=18)=true by simpa using h]
  have:k=8\/k=9\/k=10\/k=11\/k=12\/k=13\/k=14\/k=15\/k=16\/k=17\/k=18:=by omega
  rcases this with rfl|rfl|rfl|rfl|rfl|rfl|rfl|rfl|rfl|rfl|rfl<;>rfl
 ·rw[show decide(8<=k/\k<=18)=false by simpa using h,Option.isSome_eq_false_iff,Option.isNone_iff_eq_none];unfold dU;rw[List.find?_eq_none];intro x hx
  have:∀ x ∈ eB,8<=x.2.1/\x.2.1<=18:=by decide
  have:=this x hx
  simp only[beq_iff_eq];omega
theorem vg {n:Int}(h:1<=n/\n<=10):∃x,fm n=some x/\(x.2.2:Int)=if 1<=n/\n<=3 then 2 else 1:=by
 have:n=1\/n=2\/n=3\/n=4\/n=5\/n=6\/n=7\/n=8\/n=9\/n=10:=by omega
 rcases this with rfl|rfl|rfl|rfl|rfl|rfl|rfl|rfl|rfl|rfl<;>exact⟨_,rfl,rfl⟩
theorem CH {k n:Int}(h:bS k n=true)(m:Nat):aR k n m=(!decide (cQ k n < -1)&&(decide (cQ k n<0)||decide ((m:Int)=cQ k n))):=by
 have e0:∀ c:Int,decide((m:Int)=c)=((m:Int)==c):=fun c=>rfl;by_cases h1:k=1
 ·subst h1
  first|(simp[aR,cQ,e0];done)|(simp[aR,cQ,e0];rw[Bool.eq_iff_iff];simp)
 by_cases h2:k=2
 ·subst h2
  first|(simp[aR,cQ,e0];done)|(simp[aR,cQ,e0];rw[Bool.eq_iff_iff];simp)
 by_cases h3:k=3
 ·subst h3
  first|(simp[aR,cQ,e0];done)|(simp[aR,cQ,e0];rw[Bool.eq_iff_iff];simp)
 by_cases h4:k=4
 ·subst h4
  first|(simp[aR,cQ,e0];done)|(simp[aR,cQ,e0];rw[Bool.eq_iff_iff];simp)
 by_cases h22:k=22
 ·subst h22
  first|(simp[aR,cQ,e0];done)|(simp[aR,cQ,e0];rw[Bool.eq_iff_iff];simp)
 by_cases h23:k=23
 ·subst h23
  first|(simp[aR,cQ,e0];done)|(simp[aR,cQ,e0];rw[Bool.eq_iff_iff];simp)
 by_cases h6:k=6
 ·subst h6
  first|(simp[aR,cQ,e0];done)|(simp[aR,cQ,e0];rw[Bool.eq_iff_iff];simp)
 by_cases h7:k=7
 ·subst h7
  first|(simp[aR,cQ,e0];done)|(simp[aR,cQ,e0];rw[Bool.eq_iff_iff];simp)
 by_cases h24:k=24
 ·subst h24
  first|(simp[aR,cQ,e0];done)|(simp[aR,cQ,e0];rw[Bool.eq_iff_iff];simp)
 by_cases h21:k=21
 ·subst h21
  first|(simp[aR,cQ,e0];done)|(simp[aR,cQ,e0];rw[Bool.eq_iff_iff];simp)
 by_cases h19:k=19
 ·subst h19
  first|(simp[aR,cQ,e0];done)|(simp[aR,cQ,e0];rw[Bool.eq_iff_iff];simp)
 by_cases h25:k=25
 ·subst h25
  first|(simp[aR,cQ,e0];done)|(simp[aR,cQ,e0];rw[Bool.eq_iff_iff];simp)
 by_cases h20:k=20
 ·subst h20;have hr:1<=n/\n<=10:=by simpa [bS,bF] using h
  obtain⟨x,hx,hm⟩:=vg hr;by_cases h3:1<=n/\n<=3
  ·rw[if_pos h3] at hm;simp[aR,cQ,hx,hm,h3,e0]
  ·rw[if_neg h3] at hm;simp[aR,cQ,hx,hm,h3,e0]
 have hkb:aR k n m=((dU k).isSome&&(m:Int)==2):=by simp[aR,h1,h2,h3,h4,h22,h23,h6,h7,h24,h21,h19,h25,h20]
 rw[hkb,Ej];by_cases ho:8<=k/\k<=18
 ·have hk2:cQ k n=2:=by
   unfold cQ;rw[if_neg(by omega),if_neg(by omega),if_pos(by omega)]
  rw[hk2];simp[ho,e0]
 ·have hk2:cQ k n=-2:=by
   unfold cQ;rw[if_neg(by omega),if_neg(by omega),if_neg(by omega),if_neg(by omega),if_neg(by omega),if_neg(by omega)]
  rw[hk2];simp;omega
theorem CT {k:Int}{z:List UInt8 × Nat × Nat × Nat × Nat}(h:dU k=some z):jj k 0=z.2.2.2.1/\jj k 1=z.2.2.2.2/\z.1.length<=3/\(k==21)=false:=by
 have hm:=List.mem_of_find?_eq_some h;have hk:((z.2.1:Nat):Int)=k:=by have:=List.find?_some h;simpa using this
 subst hk;simp only[eB,List.mem_cons,List.not_mem_nil,or_false] at hm;rcases hm with rfl|rfl|rfl|rfl|rfl|rfl|rfl|rfl|rfl|rfl|rfl<;>exact⟨rfl,rfl,by decide,rfl⟩
theorem jz {N:Nat}(IH:gL N)(e:Ex)(hNk:e.kids.size<=N)(he:e.fit)(ao:Option Addr)(cap wb:Nat)(st:Ow)(w:World)(o:Nat->Nat)(S:Sl w (L0 o) e.kids ao)(H:WQ w o wb st)(hk:e.k=19\/e.k=20\/e.k=21\/e.k=24\/e.k=25)(hv:(bS e.k e.n&&cu e.k e.nm&&aR e.k e.n e.kids.len)=true) :
  Calls Tryz.prog 274 #[.pointer(some⟨wb,0,none⟩),exV e ao cap] w(eP w o wb(bi e.k e.n e.nm(fun g s=>oFs e.kids(e.k==21) g 0 s) st)):=by
 simp only[Bool.and_eq_true] at hv;rcases hk with hk|hk|hk|hk|hk
 ·exact xU IH e hNk he ao cap wb st w o S H hk(by have h3:=hv.2;rw[hk] at h3;simp[aR] at h3;omega)
 ·exact rH IH e hNk he ao cap wb st w o S H hk(by have h3:=hv.1.1;rw[hk] at h3;simpa [bS,bF] using h3)
 ·exact qn IH e hNk he ao cap wb st w o S H hk(by have h3:=hv.1.1;rw[hk] at h3;simpa [bS,bc] using h3)(by have h3:=hv.2;rw[hk] at h3;simp[aR] at h3;omega)(jx hv.1.2)
 ·exact oA IH e hNk he ao cap wb st w o S H hk
 ·exact rV IH e hNk he ao cap wb st w o S H hk
theorem rW {N:Nat}(IH:gL N):gL (N+1):=by
 intro e ao cap set wb st w o hNN he S H;have hNk:e.kids.size<=N:=by omega
 obtain⟨V,hV⟩:∃V,V=(bS e.k e.n&&cu e.k e.nm&&aR e.k e.n e.kids.len&&(bm e.k==set)):=⟨_,rfl⟩
 have HX:Hid(oEx e set st=if V=true then bi e.k e.n e.nm(fun g s=>oFs e.kids(e.k==21) g 0 s) st else none):=by show _=_;rw[hV];rfl
 have HV:Hid(V=(bS e.k e.n&&cu e.k e.nm&&aR e.k e.n e.kids.len&&(bm e.k==set))):=hV;clear hNN hV;have s0:=aO(fun _=>False) w o(bxX e ao cap);have E0:Blk(w.alloc(bxX e ao cap))(ae w o 0) 0 w.heap.size(bxX e ao cap):=fE w o _ _;have S0:=S.stp0 s0;have H0:=H.stp0 s0;have T0:=s0.i12;clear S H s0;rw[aq];go_enter Tryz.func227,Tryz.ntmps227;go_upto_region 1 with fail;generalize w.alloc(bxX e ao cap)=w0 at *;generalize ae w o 0=o0 at *;generalize w.heap.size=be at *;obtain⟨p0,p1,p2,p3,p4,pf⟩:=am E0.1;have c1:=Ck e.k e.n e.nm ao e.kids.len cap e.a w0;generalize hkN:cQ e.k e.n=kN at *;have HKN:=Lib.hid hkN;clear hkN;go_wp2_with fail;refine c1.mono ?_;rintro e2 w1⟨rfl,b1⟩;have s1:aa(fun _=>False) w0 o0 w1 o0:=aa.ofB o0 b1;have E1:=E0.step s1 id;have S1:=S0.stp0 s1;have H1:=H0.stp0 s1;have T1:=T0.trans s1.i12;clear c1 b1 s1 E0 S0 H0 T0 p0 p1 p2 p3 p4 pf;obtain⟨p0,p1,p2,p3,p4,pf⟩:=am E1.1;have c2:=yi e.k e.n e.nm ao e.kids.len cap e.a w1 he.nm;generalize hF:(bS e.k e.n&&cu e.k e.nm)=Fd at *;have HFD:=Lib.hid hF;clear hF;go_wp2_with fail;refine c2.mono ?_;rintro e2 w2⟨rfl,b2⟩;have s2:aa(fun _=>False) w1 o0 w2 o0:=aa.ofB o0 b2;have E2:=E1.step s2 id;have S2:=S1.stp0 s2;have H2:=H1.stp0 s2;have T2:=T1.trans s2.i12;clear c2 b2 s2 E1 S1 H1 T1 p0 p1 p2 p3 p4 pf;obtain⟨p0,p1,p2,p3,p4,pf⟩:=am E2.1;obtain⟨c3,cf,sE,HE⟩:=H2.end;go_upto_region 3 with fail;go_cut [42](fun v wx=>v=.bool(!(st.isSome&&V))/\wx=w2)
 case first =>
  clear HX S2 T2 HE sE;cases hst:st.isSome with
  | false =>
   rw[hst] at c3;go_wp2;go_meet;exact⟨by simp[hst],rfl⟩
  | true =>
   rw[hst] at c3;cases Fd with
   | false =>
    have fv:V=false:=by rw[HV.out];rfl
    subst fv;go_wp2;go_meet;exact⟨by simp[hst],rfl⟩
   | true =>
    have hnb:bS e.k e.n=true:=by have:=HFD.out;simp only[Bool.and_eq_true] at this;exact this.1
    have HV2:Hid(V=(!decide(kN < -1)&&(decide(kN<0)||decide((e.kids.len:Int)=kN))&&(bm e.k==set))):=by show V=_;rw[HV.out,Bool.true_and,CH hnb,HKN.out]
    clear HV hnb HFD HKN;by_cases h1:kN < -1
    ·have fv:V=false:=by rw[HV2.out];simp[h1]
     subst fv;go_wp2;go_meet;exact⟨by simp[hst],rfl⟩
    ·have cS:=Bk e.k w2;by_cases h2:0<=kN
     ·by_cases h3:(e.kids.len:Int)=kN
      ·have h3b:((e.kids.len:Int)==kN)=true:=by simpa using h3
       have h3c:((e.kids.len:Int) != kN)=false:=by simpa using h3
       have fv:V=(bm e.k==set):=by rw[HV2.out];simp[h1,h3]
       have HFV:=Lib.hid fv;clear fv h3 HV2;cases hs:bm e.k<;>cases set
       all_goals
        rw[hs] at cS;have fv:=HFV.out;rw[hs] at fv;subst fv;go_wp2_with fail;refine cS.mono ?_;rintro e2 w3⟨rfl,rfl⟩;go_wp2;go_meet;exact⟨by simp[hst],rfl⟩
      ·have h3b:((e.kids.len:Int)==kN)=false:=by simpa using h3
       have h3c:((e.kids.len:Int) != kN)=true:=by simpa using h3
       have fv:V=false:=by rw[HV2.out];simp[h3];omega
       subst fv;clear h3;go_wp2;go_meet;exact⟨by simp[hst],rfl⟩
     ·have fv:V=(bm e.k==set):=by rw[HV2.out];simp[h1];omega
      have HFV:=Lib.hid fv;clear fv HV2;cases hs:bm e.k<;>cases set
      all_goals
       rw[hs] at cS;have fv:=HFV.out;rw[hs] at fv;subst fv;go_wp2_with fail;refine cS.mono ?_;rintro e2 w3⟨rfl,rfl⟩;go_wp2;go_meet;exact⟨by simp[hst],rfl⟩
 case rest =>
 obtain⟨rfl,hwc⟩:=hcut;rw[hwc];clear hwc;by_cases hB:(st.isSome&&V)=true
 case neg =>
  have hB2:(st.isSome&&V)=false:=by simpa using hB
  have FIN:Hid(oEx e set st=none):=by
   show _=_;rw[HX.out];cases hst:st with
   | none =>
    cases V with
    | true=>rw[if_pos rfl];exact np(fun g=>jb _ _ _ _)
    | false=>rw[if_neg(by simp)]
   | some s1 =>
    rw[hst] at hB2;rw[if_neg(by intro hv;rw[hv] at hB2;cases hB2)]
  have T3:=T2.trans sE;rw[hB2];clear HX HV HFD HKN hB hB2 E2 S2 H2 T2 sE;go_wp2
  (try simp only[Exit.inBlock,Exit.then])
  refine bodyPost_ret(results_none rfl _ _ _) rfl ?_;exact⟨rfl,o0,by rw[FIN.out];exact HE,T3⟩
 case pos =>
 rw[hB];have hv0:V=true:=by simp only[Bool.and_eq_true] at hB;exact hB.2
 have HF0:Hid(oEx e set st=bi e.k e.n e.nm(fun g s=>oFs e.kids(e.k==21) g 0 s) st):=by show _=_;rw[HX.out,if_pos hv0]
 have HVA:Hid((bS e.k e.n&&cu e.k e.nm&&aR e.k e.n e.kids.len)=true):=by
  show _=true;have h9:=HV.out;rw[hv0,<-HFD.out] at h9;have h9:=h9.symm;rw[Bool.and_eq_true] at h9;exact h9.1
 clear HX HV HFD HKN hB hv0 HE sE c3 cf;by_cases h1:e.k=1
 ·have HF:Hid(oEx e set st=aM(Go.Lib.itoa e.n) st):=by
   show _=_;rw[HF0.out];unfold bi;rw[if_neg(by omega),if_neg(by omega),if_neg(by omega),if_neg(by omega),if_neg(by omega),if_neg(by omega),if_neg(by omega)];unfold eE;rw[if_pos h1]
  have b1:(e.k==1)=true:=by simp[h1]
  have hn0:0<=e.n:=by have h9:=HVA.out;rw[h1] at h9;simp[bS] at h9;exact h9.1.1
  clear h1 HF0 HVA;have cd:=qo e.n hn0 he.n2 w2;have hil:=Go.Lib.itoa_length_le e.n he.n1 he.n2;go_wp2_with fail;refine cd.mono ?_;rintro e2 w3⟨rfl,b3⟩;clear cd;have s3:aa(fun _=>False) w2 o0 w3 o0:=aa.ofB o0 b3;have E3:=E2.step s3 id;have S3:=S2.stp0 s3;have H3:=H2.stp0 s3;have T3:=T2.trans s3.i12;clear E2 S2 H2 T2 s3 p0 p1 p2 p3 p4 pf;obtain⟨p0,p1,p2,p3,p4,pf⟩:=am E3.1;clear b3;obtain⟨o3,ho3⟩:∃o3,o3=o0:=⟨_,rfl⟩
  rw[<-ho3] at E3 S3 H3 T3;clear ho3;have c4:=cF(Go.Lib.itoa e.n) H3(by omega);generalize aM(Go.Lib.itoa e.n) st=st4 at *;go_wp2_with fail;refine c4.mono ?_;rintro e2 w4⟨rfl,o4,H4,s4⟩;have T4:=T3.trans s4;have S4:=S3.stp s4;have E4:=E3.stp s4;clear c4 H3 T3 S3 E3 s4 p0 p1 p2 p3 p4 pf;obtain⟨p0,p1,p2,p3,p4,pf⟩:=am E4.1;go_wp2
  go_end0
  exact⟨rfl,o4,by rw[HF.out];exact H4,T4⟩
 by_cases h2:e.k=2
 ·have HF:Hid(oEx e set st=aM(Go.Lib.formatBool(e.n==1)) st):=by
   show _=_;rw[HF0.out];unfold bi;rw[if_neg(by omega),if_neg(by omega),if_neg(by omega),if_neg(by omega),if_neg(by omega),if_neg(by omega),if_neg(by omega)];unfold eE;rw[if_neg(by omega),if_pos h2]
  have b1:(e.k==1)=false:=bne(by omega);have b2:(e.k==2)=true:=by simp[h2]
  have hn2:e.n=0\/e.n=1:=by have h9:=HVA.out;rw[h2] at h9;simp[bS] at h9;exact h9.1.1
  clear h2 HF0 HVA;rcases hn2 with hn2|hn2
  ·rw[hn2] at p1;have HF:Hid(oEx e set st=aM [102,97,108,115,101] st):=by show _=_;rw[HF.out,hn2];rfl
   clear hn2;have s3:=dL(fun _=>False) w2 o0(.cells #[.string⟨#[102,97,108,115,101]⟩,.string⟨#[116,114,117,101]⟩] 9);have E3:=E2.step s3 id;have S3:=S2.stp0 s3;have H3:=H2.stp0 s3;have T3:=T2.trans s3.i12;have hbe:be<w2.heap.size:=E2.lt;have c4:=cF [102,97,108,115,101] H3(by simp);generalize aM [102,97,108,115,101] st=st4 at *;go_wp2_with fail;refine c4.mono ?_;rintro e2 w4⟨rfl,o4,H4,s4⟩;have T4:=T3.trans s4;clear c4 H2 T2 S2 E2 H3 T3 S3 E3 s3 s4 p0 p1 p2 p3 p4 pf;go_wp2
   go_end0
   exact⟨rfl,o4,by rw[HF.out];exact H4,T4⟩
  ·rw[hn2] at p1;have HF:Hid(oEx e set st=aM [116,114,117,101] st):=by show _=_;rw[HF.out,hn2];rfl
   clear hn2;have s3:=dL(fun _=>False) w2 o0(.cells #[.string⟨#[102,97,108,115,101]⟩,.string⟨#[116,114,117,101]⟩] 9);have E3:=E2.step s3 id;have S3:=S2.stp0 s3;have H3:=H2.stp0 s3;have T3:=T2.trans s3.i12;have hbe:be<w2.heap.size:=E2.lt;have c4:=cF [116,114,117,101] H3(by simp);generalize aM [116,114,117,101] st=st4 at *;go_wp2_with fail;refine c4.mono ?_;rintro e2 w4⟨rfl,o4,H4,s4⟩;have T4:=T3.trans s4;clear c4 H2 T2 S2 E2 H3 T3 S3 E3 s3 s4 p0 p1 p2 p3 p4 pf;go_wp2
   go_end0
   exact⟨rfl,o4,by rw[HF.out];exact H4,T4⟩
 by_cases h3:e.k=3
 ·have HF:Hid(oEx e set st=aM([64]++Go.Lib.itoa e.n) st):=by
   show _=_;rw[HF0.out];unfold bi;rw[if_neg(by omega),if_neg(by omega),if_neg(by omega),if_neg(by omega),if_neg(by omega),if_neg(by omega),if_neg(by omega)];unfold eE;rw[if_neg(by omega),if_neg(by omega),if_pos h3]
  have b1:(e.k==1)=false:=bne(by omega);have b2:(e.k==2)=false:=bne(by omega);have b3:(e.k==3)=true:=by simp[h3]
  have hn0:0<=e.n:=by have h9:=HVA.out;rw[h3] at h9;simp[bS] at h9;exact h9.1.1
  clear h3 HF0 HVA;have cd:=qo e.n hn0 he.n2 w2;have hil:=Go.Lib.itoa_length_le e.n he.n1 he.n2;have hsm:=fF(Go.Lib.itoa e.n);generalize Go.Lib.itoa e.n=dg at *;go_wp2_with fail;refine cd.mono ?_;rintro e2 w3⟨rfl,b3⟩;clear cd;have s3:aa(fun _=>False) w2 o0 w3 o0:=aa.ofB o0 b3;have E3:=E2.step s3 id;have S3:=S2.stp0 s3;have H3:=H2.stp0 s3;have T3:=T2.trans s3.i12;clear E2 S2 H2 T2 s3 p0 p1 p2 p3 p4 pf;obtain⟨p0,p1,p2,p3,p4,pf⟩:=am E3.1;clear b3;obtain⟨o3,ho3⟩:∃o3,o3=o0:=⟨_,rfl⟩
  rw[<-ho3] at E3 S3 H3 T3;clear ho3;have c4:=cF([64]++dg) H3(by simp;omega);have ec:(⟨([64]++dg).toArray⟩:ByteArray)=⟨#[64]⟩++⟨dg.toArray⟩:=(vS [64] dg).symm;rw[show stv([64]++dg)=.string(⟨#[64]⟩++⟨dg.toArray⟩) by rw[<-ec]] at c4;generalize aM([64]++dg) st=st4 at *;clear ec;go_wp2_with fail;refine c4.mono ?_;rintro e2 w4⟨rfl,o4,H4,s4⟩;have T4:=T3.trans s4;have S4:=S3.stp s4;have E4:=E3.stp s4;clear c4 H3 T3 S3 E3 s4 p0 p1 p2 p3 p4 pf;obtain⟨p0,p1,p2,p3,p4,pf⟩:=am E4.1;go_wp2
  go_end0
  exact⟨rfl,o4,by rw[HF.out];exact H4,T4⟩
 by_cases h4:e.k=4
 ·have HF:Hid(oEx e set st=aM e.nm st):=by
   show _=_;rw[HF0.out];unfold bi;rw[if_neg(by omega),if_neg(by omega),if_neg(by omega),if_neg(by omega),if_neg(by omega),if_neg(by omega),if_neg(by omega)];unfold eE;rw[if_neg(by omega),if_neg(by omega),if_neg(by omega),if_pos(by omega)]
  have b1:(e.k==1)=false:=bne(by omega);have b2:(e.k==2)=false:=bne(by omega);have b3:(e.k==3)=false:=bne(by omega);have b4:(e.k==4)=true:=by simp[h4]
  have hnl:e.nm.length<=12:=by have h9:=HVA.out;simp only[Bool.and_eq_true] at h9;exact jx h9.1.2
  clear h4 HF0 HVA;have c3:=cF e.nm H2(by omega);generalize aM e.nm st=st3 at *;go_wp2_with fail;refine c3.mono ?_;rintro e2 w3⟨rfl,o3,H3,s3⟩;have T3:=T2.trans s3;have S3:=S2.stp s3;have E3:=E2.stp s3;clear c3 H2 T2 S2 E2 s3 p0 p1 p2 p3 p4 pf;obtain⟨p0,p1,p2,p3,p4,pf⟩:=am E3.1;go_wp2
  go_end0
  exact⟨rfl,o3,by rw[HF.out];exact H3,T3⟩
 by_cases h23:e.k=23
 ·have HF:Hid(oEx e set st=aM e.nm st):=by
   show _=_;rw[HF0.out];unfold bi;rw[if_neg(by omega),if_neg(by omega),if_neg(by omega),if_neg(by omega),if_neg(by omega),if_neg(by omega),if_neg(by omega)];unfold eE;rw[if_neg(by omega),if_neg(by omega),if_neg(by omega),if_pos(by omega)]
  have b1:(e.k==1)=false:=bne(by omega);have b2:(e.k==2)=false:=bne(by omega);have b3:(e.k==3)=false:=bne(by omega);have b4:(e.k==4)=false:=bne(by omega);have b23:(e.k==23)=true:=by simp[h23]
  have hnl:e.nm.length<=12:=by have h9:=HVA.out;simp only[Bool.and_eq_true] at h9;exact jx h9.1.2
  clear h23 HF0 HVA;have c3:=cF e.nm H2(by omega);generalize aM e.nm st=st3 at *;go_wp2_with fail;refine c3.mono ?_;rintro e2 w3⟨rfl,o3,H3,s3⟩;have T3:=T2.trans s3;have S3:=S2.stp s3;have E3:=E2.stp s3;clear c3 H2 T2 S2 E2 s3 p0 p1 p2 p3 p4 pf;obtain⟨p0,p1,p2,p3,p4,pf⟩:=am E3.1;go_wp2
  go_end0
  exact⟨rfl,o3,by rw[HF.out];exact H3,T3⟩
 by_cases h22:e.k=22
 ·have HF:Hid(oEx e set st=aM [118,101,114,116,105,99,101,115] st):=by
   show _=_;rw[HF0.out];unfold bi;rw[if_neg(by omega),if_neg(by omega),if_neg(by omega),if_neg(by omega),if_neg(by omega),if_neg(by omega),if_neg(by omega)];unfold eE;rw[if_neg(by omega),if_neg(by omega),if_neg(by omega),if_neg(by omega),if_pos h22]
  have b1:(e.k==1)=false:=bne(by omega);have b2:(e.k==2)=false:=bne(by omega);have b3:(e.k==3)=false:=bne(by omega);have b4:(e.k==4)=false:=bne(by omega);have b23:(e.k==23)=false:=bne(by omega);have b22:(e.k==22)=true:=by simp[h22]
  clear h22 HF0 HVA;have c3:=cF [118,101,114,116,105,99,101,115] H2(by simp);generalize aM [118,101,114,116,105,99,101,115] st=st3 at *;go_wp2_with fail;refine c3.mono ?_;rintro e2 w3⟨rfl,o3,H3,s3⟩;have T3:=T2.trans s3;have S3:=S2.stp s3;have E3:=E2.stp s3;clear c3 H2 T2 S2 E2 s3 p0 p1 p2 p3 p4 pf;obtain⟨p0,p1,p2,p3,p4,pf⟩:=am E3.1;go_wp2
  go_end0
  exact⟨rfl,o3,by rw[HF.out];exact H3,T3⟩
 by_cases h6:e.k=6
 ·have hl:e.kids.len=1:=by have h9:=HVA.out;simp only[Bool.and_eq_true] at h9;have h9:=h9.2;rw[h6] at h9;simp[aR] at h9;omega
  obtain⟨x,hks⟩:=qX hl;have hk0:Hid(e.kids=Fs.app .nil(Fs.ex x .nil)):=hks;have hsz:e.kids.size=x.kids.size+0+1:=by rw[hks];rfl
  have hNx:x.kids.size<N:=by omega
  have hfx:=Ex.kidfit he hk0.out;clear hsz;have HF:Hid(oEx e set st=dN(dR e x 0(aM [45](aU st)))):=by
   show _=_;rw[HF0.out];unfold bi;rw[if_neg(by omega),if_pos h6];simp only[hks,mv];rw[eq e x 0 _(by rw[h6];rfl)(by rw[h6];rfl)];rfl
  have b1:(e.k==1)=false:=bne(by omega);have b2:(e.k==2)=false:=bne(by omega);have b3:(e.k==3)=false:=bne(by omega);have b4:(e.k==4)=false:=bne(by omega);have b23:(e.k==23)=false:=bne(by omega);have b22:(e.k==22)=false:=bne(by omega);have b6:(e.k==6)=true:=by simp[h6]
  clear h6 hks hl HF0 HVA;have c3:=fh [45] H2(by simp);have hb3:Bal(aU st)(aM [45](aU st)):=(Bal.refl _).put [45];have hp:Hid(∀ s,Bal(aU st) s->∀ x,s=some x->1<=x.o):=fun s h=>eN h;generalize aM [45](aU st)=st3 at *;generalize aU st=se at *;go_wp2_with fail;refine c3.mono ?_;rintro e2 w3⟨rfl,o3,H3,s3⟩;have T3:=T2.trans s3;have S3:=S2.stp s3;have E3:=E2.stp s3;clear c3 H2 T2 S2 E2 s3 p0 p1 p2 p3 p4 pf;obtain⟨p0,p1,p2,p3,p4,pf⟩:=am E3.1;have c4:=fw IH e x .nil .nil hk0.out 0 rfl(by omega)(hNx)(hfx) ao cap wb st3 w3 o3 S3 H3;rw[aq] at c4;have hb4:=hb3.trans(eK e x 0 st3);generalize dR e x 0 st3=st4 at *;go_wp2_with fail;refine c4.mono ?_;rintro e2 w4⟨rfl,o4,H4,s4⟩;have T4:=T3.trans s4;have S4:=S3.stp s4;have E4:=E3.stp s4;clear c4 H3 T3 S3 E3 s4 p0 p1 p2 p3 p4 pf hb3;obtain⟨p0,p1,p2,p3,p4,pf⟩:=am E4.1;obtain⟨oo5,dd5,df5,s5,H5⟩:=H4.lea(hp.out _ hb4);generalize dN st4=st5 at *;have T5:=T4.trans s5;have S5:=S4.stp s5;have E5:=E4.stp s5;go_wp2;generalize w4.setCell⟨wb,1,none⟩(.int .i64(wrap64(oo5-1)))=w5 at *;clear dd5 df5 H4 T4 S4 E4 s5 p0 p1 p2 p3 p4 pf hp hb4;generalize o4=o5 at *;obtain⟨p0,p1,p2,p3,p4,pf⟩:=am E5.1
  go_end0
  exact⟨rfl,o5,by rw[HF.out];exact H5,T5⟩
 by_cases h7:e.k=7
 ·have hl:e.kids.len=1:=by have h9:=HVA.out;simp only[Bool.and_eq_true] at h9;have h9:=h9.2;rw[h7] at h9;simp[aR] at h9;omega
  obtain⟨x,hks⟩:=qX hl;have hk0:Hid(e.kids=Fs.app .nil(Fs.ex x .nil)):=hks;have hsz:e.kids.size=x.kids.size+0+1:=by rw[hks];rfl
  have hNx:x.kids.size<N:=by omega
  have hfx:=Ex.kidfit he hk0.out;clear hsz;have HF:Hid(oEx e set st=dN(dR e x 0(aM [110,111,116,32](aU st)))):=by
   show _=_;rw[HF0.out];unfold bi;rw[if_pos h7];simp only[hks,mv];rw[eq e x 0 _(by rw[h7];rfl)(by rw[h7];rfl)];rfl
  have b1:(e.k==1)=false:=bne(by omega);have b2:(e.k==2)=false:=bne(by omega);have b3:(e.k==3)=false:=bne(by omega);have b4:(e.k==4)=false:=bne(by omega);have b23:(e.k==23)=false:=bne(by omega);have b22:(e.k==22)=false:=bne(by omega);have b6:(e.k==6)=false:=bne(by omega);have b7:(e.k==7)=true:=by simp[h7]
  clear h7 hks hl HF0 HVA;have c3:=fh [110,111,116,32] H2(by simp);have hb3:Bal(aU st)(aM [110,111,116,32](aU st)):=(Bal.refl _).put [110,111,116,32];have hp:Hid(∀ s,Bal(aU st) s->∀ x,s=some x->1<=x.o):=fun s h=>eN h;generalize aM [110,111,116,32](aU st)=st3 at *;generalize aU st=se at *;go_wp2_with fail;refine c3.mono ?_;rintro e2 w3⟨rfl,o3,H3,s3⟩;have T3:=T2.trans s3;have S3:=S2.stp s3;have E3:=E2.stp s3;clear c3 H2 T2 S2 E2 s3 p0 p1 p2 p3 p4 pf;obtain⟨p0,p1,p2,p3,p4,pf⟩:=am E3.1;have c4:=fw IH e x .nil .nil hk0.out 0 rfl(by omega)(hNx)(hfx) ao cap wb st3 w3 o3 S3 H3;rw[aq] at c4;have hb4:=hb3.trans(eK e x 0 st3);generalize dR e x 0 st3=st4 at *;go_wp2_with fail;refine c4.mono ?_;rintro e2 w4⟨rfl,o4,H4,s4⟩;have T4:=T3.trans s4;have S4:=S3.stp s4;have E4:=E3.stp s4;clear c4 H3 T3 S3 E3 s4 p0 p1 p2 p3 p4 pf hb3;obtain⟨p0,p1,p2,p3,p4,pf⟩:=am E4.1;obtain⟨oo5,dd5,df5,s5,H5⟩:=H4.lea(hp.out _ hb4);generalize dN st4=st5 at *;have T5:=T4.trans s5;have S5:=S4.stp s5;have E5:=E4.stp s5;go_wp2;generalize w4.setCell⟨wb,1,none⟩(.int .i64(wrap64(oo5-1)))=w5 at *;clear dd5 df5 H4 T4 S4 E4 s5 p0 p1 p2 p3 p4 pf hp hb4;generalize o4=o5 at *;obtain⟨p0,p1,p2,p3,p4,pf⟩:=am E5.1
  go_end0
  exact⟨rfl,o5,by rw[HF.out];exact H5,T5⟩
 by_cases h19:e.k=19
 ·have HF:Hid(oEx e set st=bi e.k e.n e.nm(fun g s=>oFs e.kids(e.k==21) g 0 s) st):=HF0.out;have hgr:e.k=19\/e.k=20\/e.k=21\/e.k=24\/e.k=25:=by omega
  have b1:(e.k==1)=false:=bne(by omega);have b2:(e.k==2)=false:=bne(by omega);have b3:(e.k==3)=false:=bne(by omega);have b4:(e.k==4)=false:=bne(by omega);have b23:(e.k==23)=false:=bne(by omega);have b22:(e.k==22)=false:=bne(by omega);have b6:(e.k==6)=false:=bne(by omega);have b7:(e.k==7)=false:=bne(by omega);have b19:(e.k==19)=true:=by simp[h19]
  clear h19 HF0;have c3:=jz IH e hNk he ao cap wb st w2 o0 S2 H2 hgr HVA.out;rw[aq] at c3;generalize bi e.k e.n e.nm(fun g s=>oFs e.kids(e.k==21) g 0 s) st=st3 at *;clear hgr;go_wp2_with fail;refine c3.mono ?_;rintro e2 w3⟨rfl,o3,H3,s3⟩;have T3:=T2.trans s3;have S3:=S2.stp s3;have E3:=E2.stp s3;clear c3 H2 T2 S2 E2 s3 p0 p1 p2 p3 p4 pf;obtain⟨p0,p1,p2,p3,p4,pf⟩:=am E3.1;go_wp2
  go_end0
  exact⟨rfl,o3,by rw[HF.out];exact H3,T3⟩
 by_cases h21:e.k=21
 ·have HF:Hid(oEx e set st=bi e.k e.n e.nm(fun g s=>oFs e.kids(e.k==21) g 0 s) st):=HF0.out;have hgr:e.k=19\/e.k=20\/e.k=21\/e.k=24\/e.k=25:=by omega
  have b1:(e.k==1)=false:=bne(by omega);have b2:(e.k==2)=false:=bne(by omega);have b3:(e.k==3)=false:=bne(by omega);have b4:(e.k==4)=false:=bne(by omega);have b23:(e.k==23)=false:=bne(by omega);have b22:(e.k==22)=false:=bne(by omega);have b6:(e.k==6)=false:=bne(by omega);have b7:(e.k==7)=false:=bne(by omega);have b19:(e.k==19)=false:=bne(by omega);have b21:(e.k==21)=true:=by simp[h21]
  clear h21 HF0;have c3:=jz IH e hNk he ao cap wb st w2 o0 S2 H2 hgr HVA.out;rw[aq] at c3;generalize bi e.k e.n e.nm(fun g s=>oFs e.kids(e.k==21) g 0 s) st=st3 at *;clear hgr;go_wp2_with fail;refine c3.mono ?_;rintro e2 w3⟨rfl,o3,H3,s3⟩;have T3:=T2.trans s3;have S3:=S2.stp s3;have E3:=E2.stp s3;clear c3 H2 T2 S2 E2 s3 p0 p1 p2 p3 p4 pf;obtain⟨p0,p1,p2,p3,p4,pf⟩:=am E3.1;go_wp2
  go_end0
  exact⟨rfl,o3,by rw[HF.out];exact H3,T3⟩
 by_cases h20:e.k=20
 ·have HF:Hid(oEx e set st=bi e.k e.n e.nm(fun g s=>oFs e.kids(e.k==21) g 0 s) st):=HF0.out;have hgr:e.k=19\/e.k=20\/e.k=21\/e.k=24\/e.k=25:=by omega
  have b1:(e.k==1)=false:=bne(by omega);have b2:(e.k==2)=false:=bne(by omega);have b3:(e.k==3)=false:=bne(by omega);have b4:(e.k==4)=false:=bne(by omega);have b23:(e.k==23)=false:=bne(by omega);have b22:(e.k==22)=false:=bne(by omega);have b6:(e.k==6)=false:=bne(by omega);have b7:(e.k==7)=false:=bne(by omega);have b19:(e.k==19)=false:=bne(by omega);have b21:(e.k==21)=false:=bne(by omega);have b20:(e.k==20)=true:=by simp[h20]
  clear h20 HF0;have c3:=jz IH e hNk he ao cap wb st w2 o0 S2 H2 hgr HVA.out;rw[aq] at c3;generalize bi e.k e.n e.nm(fun g s=>oFs e.kids(e.k==21) g 0 s) st=st3 at *;clear hgr;go_wp2_with fail;refine c3.mono ?_;rintro e2 w3⟨rfl,o3,H3,s3⟩;have T3:=T2.trans s3;have S3:=S2.stp s3;have E3:=E2.stp s3;clear c3 H2 T2 S2 E2 s3 p0 p1 p2 p3 p4 pf;obtain⟨p0,p1,p2,p3,p4,pf⟩:=am E3.1;go_wp2
  go_end0
  exact⟨rfl,o3,by rw[HF.out];exact H3,T3⟩
 by_cases h24:e.k=24
 ·have HF:Hid(oEx e set st=bi e.k e.n e.nm(fun g s=>oFs e.kids(e.k==21) g 0 s) st):=HF0.out;have hgr:e.k=19\/e.k=20\/e.k=21\/e.k=24\/e.k=25:=by omega
  have b1:(e.k==1)=false:=bne(by omega);have b2:(e.k==2)=false:=bne(by omega);have b3:(e.k==3)=false:=bne(by omega);have b4:(e.k==4)=false:=bne(by omega);have b23:(e.k==23)=false:=bne(by omega);have b22:(e.k==22)=false:=bne(by omega);have b6:(e.k==6)=false:=bne(by omega);have b7:(e.k==7)=false:=bne(by omega);have b19:(e.k==19)=false:=bne(by omega);have b21:(e.k==21)=false:=bne(by omega);have b20:(e.k==20)=false:=bne(by omega);have b24:(e.k==24)=true:=by simp[h24]
  clear h24 HF0;have c3:=jz IH e hNk he ao cap wb st w2 o0 S2 H2 hgr HVA.out;rw[aq] at c3;generalize bi e.k e.n e.nm(fun g s=>oFs e.kids(e.k==21) g 0 s) st=st3 at *;clear hgr;go_wp2_with fail;refine c3.mono ?_;rintro e2 w3⟨rfl,o3,H3,s3⟩;have T3:=T2.trans s3;have S3:=S2.stp s3;have E3:=E2.stp s3;clear c3 H2 T2 S2 E2 s3 p0 p1 p2 p3 p4 pf;obtain⟨p0,p1,p2,p3,p4,pf⟩:=am E3.1;go_wp2
  go_end0
  exact⟨rfl,o3,by rw[HF.out];exact H3,T3⟩
 by_cases h25:e.k=25
 ·have HF:Hid(oEx e set st=bi e.k e.n e.nm(fun g s=>oFs e.kids(e.k==21) g 0 s) st):=HF0.out;have hgr:e.k=19\/e.k=20\/e.k=21\/e.k=24\/e.k=25:=by omega
  have b1:(e.k==1)=false:=bne(by omega);have b2:(e.k==2)=false:=bne(by omega);have b3:(e.k==3)=false:=bne(by omega);have b4:(e.k==4)=false:=bne(by omega);have b23:(e.k==23)=false:=bne(by omega);have b22:(e.k==22)=false:=bne(by omega);have b6:(e.k==6)=false:=bne(by omega);have b7:(e.k==7)=false:=bne(by omega);have b19:(e.k==19)=false:=bne(by omega);have b21:(e.k==21)=false:=bne(by omega);have b20:(e.k==20)=false:=bne(by omega);have b24:(e.k==24)=false:=bne(by omega);have b25:(e.k==25)=true:=by simp[h25]
  clear h25 HF0;have c3:=jz IH e hNk he ao cap wb st w2 o0 S2 H2 hgr HVA.out;rw[aq] at c3;generalize bi e.k e.n e.nm(fun g s=>oFs e.kids(e.k==21) g 0 s) st=st3 at *;clear hgr;go_wp2_with fail;refine c3.mono ?_;rintro e2 w3⟨rfl,o3,H3,s3⟩;have T3:=T2.trans s3;have S3:=S2.stp s3;have E3:=E2.stp s3;clear c3 H2 T2 S2 E2 s3 p0 p1 p2 p3 p4 pf;obtain⟨p0,p1,p2,p3,p4,pf⟩:=am E3.1;go_wp2
  go_end0
  exact⟨rfl,o3,by rw[HF.out];exact H3,T3⟩
 have hop:(dU e.k).isSome=true/\e.kids.len=2:=by
  have h9:=HVA.out;simp only[Bool.and_eq_true] at h9;have h9:=h9.2;have h10:(dU e.k).isSome=true/\(e.kids.len:Int)=2:=by simpa [aR,h1,h2,h3,h4,h23,h22,h6,h7,h19,h21,h20,h24,h25] using h9
  exact⟨h10.1,by omega⟩
 obtain⟨x,y,hks⟩:=fI hop.2;obtain⟨z,hz⟩:=Option.isSome_iff_exists.1 hop.1;have hk0:Hid(e.kids=Fs.app .nil(Fs.ex x(Fs.ex y .nil))):=hks;have hk1:Hid(e.kids=Fs.app(one x)(Fs.ex y .nil)):=by show _=_;rw[hks];rfl
 have hsz:e.kids.size=x.kids.size+(y.kids.size+0+1)+1:=by rw[hks];rfl
 have hNx:x.kids.size<N:=by omega
 have hNy:y.kids.size<N:=by omega
 have hfx:=Ex.kidfit he hk0.out;have hfy:=Ex.kidfit he hk1.out;obtain⟨oa0,oa1,ol3,o21⟩:=CT hz;have HF:Hid(oEx e set st=dR e y 1(aM([32]++z.1++[32])(dR e x 0 st))):=by
  show _=_;rw[HF0.out];unfold bi;rw[if_neg(by omega),if_neg(by omega),if_neg(by omega),if_neg(by omega),if_neg(by omega),if_neg(by omega),if_neg(by omega)];unfold eE;rw[if_neg(by omega),if_neg(by omega),if_neg(by omega),if_neg(by omega),if_neg(by omega)];simp only[hks,mv];have e0:opS e.k 0=([],z.2.2.2.1):=by unfold opS;rw[hz];rfl
  have e1:opS e.k(0+1)=([32]++z.1++[32],z.2.2.2.2):=by unfold opS;rw[hz];rfl
  rw[e0,e1];simp only;rw[th H2,eq e x 0 _(by rw[o21];rfl) oa0.symm,eq e y 1 _(by rw[o21];rfl) oa1.symm];rfl
 have hsg:=Dv hz;have hm1:=fF z.1;generalize z.1=zx at *;have b1:(e.k==1)=false:=bne(by omega);have b2:(e.k==2)=false:=bne(by omega);have b3:(e.k==3)=false:=bne(by omega);have b4:(e.k==4)=false:=bne(by omega);have b23:(e.k==23)=false:=bne(by omega);have b22:(e.k==22)=false:=bne(by omega);have b6:(e.k==6)=false:=bne(by omega);have b7:(e.k==7)=false:=bne(by omega);have b19:(e.k==19)=false:=bne(by omega);have b21:(e.k==21)=false:=bne(by omega);have b20:(e.k==20)=false:=bne(by omega);have b24:(e.k==24)=false:=bne(by omega);have b25:(e.k==25)=false:=bne(by omega);clear h1 h2 h3 h4 h23 h22 h6 h7 h19 h21 h20 h24 h25 hop hks hz hsz HF0 HVA oa0 oa1 o21;have c3:=fw IH e x .nil(Fs.ex y .nil) hk0.out 0 rfl(by omega) hNx hfx ao cap wb st w2 o0 S2 H2;rw[aq] at c3;generalize dR e x 0 st=st3 at *;go_wp2_with fail;refine c3.mono ?_;rintro e2 w3⟨rfl,o3,H3,s3⟩;have T3:=T2.trans s3;have S3:=S2.stp s3;have E3:=E2.stp s3;clear c3 H2 T2 S2 E2 s3 p0 p1 p2 p3 p4 pf;obtain⟨p0,p1,p2,p3,p4,pf⟩:=am E3.1;have cd:=hsg w3;clear hsg;go_wp2_with fail;refine cd.mono ?_;rintro e2 w4⟨rfl,b4⟩;clear cd;have s4:aa(fun _=>False) w3 o3 w4 o3:=aa.ofB o3 b4;have E4:=E3.step s4 id;have S4:=S3.stp0 s4;have H4:=H3.stp0 s4;have T4:=T3.trans s4.i12;clear E3 S3 H3 T3 s4 b4 p0 p1 p2 p3 p4 pf;obtain⟨o4,ho4⟩:∃o4,o4=o3:=⟨_,rfl⟩
 rw[<-ho4] at E4 S4 H4 T4;clear ho4;obtain⟨p0,p1,p2,p3,p4,pf⟩:=am E4.1;have c5:=cF([32]++zx++[32]) H4(by simp;omega);have ec:(⟨([32]++zx++[32]).toArray⟩:ByteArray)=⟨#[32]⟩++⟨zx.toArray⟩++⟨#[32]⟩:=by rw[<-vS,<-vS]
 rw[show stv([32]++zx++[32])=.string(⟨#[32]⟩++⟨zx.toArray⟩++⟨#[32]⟩) by rw[<-ec]] at c5;generalize aM([32]++zx++[32]) st3=st5 at *;clear ec;go_wp2_with fail;refine c5.mono ?_;rintro e2 w5⟨rfl,o5,H5,s5⟩;have T5:=T4.trans s5;have S5:=S4.stp s5;have E5:=E4.stp s5;clear c5 H4 T4 S4 E4 s5 p0 p1 p2 p3 p4 pf;obtain⟨p0,p1,p2,p3,p4,pf⟩:=am E5.1;have c6:=fw IH e y(one x) .nil hk1.out 1 rfl(by omega)(hNy)(hfy) ao cap wb st5 w5 o5 S5 H5;rw[aq] at c6;generalize dR e y 1 st5=st6 at *;go_wp2_with fail;refine c6.mono ?_;rintro e2 w6⟨rfl,o6,H6,s6⟩;have T6:=T5.trans s6;have S6:=S5.stp s6;have E6:=E5.stp s6;clear c6 H5 T5 S5 E5 s6 p0 p1 p2 p3 p4 pf;obtain⟨p0,p1,p2,p3,p4,pf⟩:=am E6.1;go_wp2
 go_end0
 exact⟨rfl,o6,by rw[HF.out];exact H6,T6⟩
theorem nE:∀ N,gL N
 | 0=>fun e ao cap set wb st w o h=>absurd h(Nat.not_lt_zero _)
 | N+1=>rW(nE N)
theorem Aj (e:Ex)(ao:Option Addr)(cap:Nat)(w:World)(he:e.fit)(S:SlT w e.kids ao) :
  Calls Tryz.prog 160 #[exV e ao cap] w(DI w(fx e)):=by
 obtain⟨w1,hw1⟩:∃w1,w1=(w.alloc(bxX e ao cap)).alloc(.cells #[.slice none 0 0,.int .i64 0,.int .i64 0,.bool true] 267):=⟨_,rfl⟩
 obtain⟨be,hbe⟩:∃be,be=w.heap.size:=⟨_,rfl⟩
 obtain⟨o1,ho1⟩:∃o1:Nat->Nat,o1=fun k=>if k=be+1 then 1 else 0:=⟨_,rfl⟩
 have B1:Below be w w1:=by rw[hw1,hbe];exact((Below.refl _ w).alloc(Nat.le_refl _) _).alloc(by simp) _
 have E1:w1.heap[be]?=some(bxX e ao cap):=by
  rw[hw1,hbe];exact(Below.heap_alloc _ _ _(by simp)).trans(heap_alloc_new w _)
 have W1:w1.heap[be+1]?=some(.cells #[.slice none 0 0,.int .i64 0,.int .i64 0,.bool true] 267(0,0)):=by
  rw[hw1,hbe]
  have:=heap_alloc_new(w.alloc(bxX e ao cap))(.cells #[.slice none 0 0,.int .i64 0,.int .i64 0,.bool true] 267)
  simpa using this
 have L1:∀ k,k<=be->o1 k=0:=fun k hk=>by rw[ho1];show(if k=be+1 then 1 else 0)=0;rw[if_neg(by omega)]
 have L2:o1(be+1)=1:=by rw[ho1];show(if be+1=be+1 then 1 else 0)=1;rw[if_pos rfl]
 have Q1:WQ w1 o1(be+1)(some⟨[],0,0⟩):=⟨⟨.slice none 0 0,⟨W1,L2⟩,Row.nil _ _ _ _ _⟩,by simp,by simp,by simp⟩
 have S1:Sl w1(L0 o1) e.kids ao:=S.mono(fun i _ hl=>B1.block i(by rw[hbe];exact hl)) B1.size(fun i _ hl=>L1 i(by omega));have c2:=nE(e.kids.size+1) e ao cap false(be+1) _ w1 o1(Nat.lt_succ_self _) he S1 Q1;obtain⟨R,hR⟩:∃R,R=oEx e false(some⟨[],0,0⟩):=⟨_,rfl⟩
 rw[<-hR] at c2;have HR:Hid(fx e=R.map(·.t)):=by show _=_;rw[<-ze,hR];rfl
 obtain⟨W,hW⟩:∃W,W=fx e:=⟨_,rfl⟩
 rw[<-hW] at HR ⊢;obtain⟨p0,p1,p2,p3,p4,pf⟩:=am E1;rw[aq] at c2 ⊢;clear S ho1 Q1 S1 hR hW;go_enter Tryz.func160,Tryz.ntmps160;go_upto_region 2 with fail;rw[<-hw1,<-hbe];have HB:Hid(be=w.heap.size):=hbe;clear hw1 hbe W1;go_wp2_with fail;refine c2.mono ?_;rintro e2 w2⟨rfl,o2,Q2,s2⟩;have B2:Below be w w2:=aJ B1 s2(fun k hk hi=>by rw[L1 k(by omega)] at hi;rcases hi with h|h<;>omega)(by rw[HB.out];exact Nat.le_refl _);have B3:Hid(Below w.heap.size w w2):=by show Below w.heap.size w w2;rw[<-HB.out];exact B2
 clear c2 s2 B1 B2 L1 L2 p0 p1 p2 p3 p4 pf E1 HB;cases R with
 | none =>
  obtain⟨c3,cf,-,-⟩:=Q2.end;have c3:w2.cell?⟨be+1,3,none⟩=some(.bool false):=c3;have FIN:Hid(W=none):=HR.out;clear HR Q2;go_wp2;go_ret2;exact⟨by rw[FIN.out];rfl,B3.out⟩
 | some s =>
  obtain⟨c3,cf,-,-⟩:=Q2.end;have c3:w2.cell?⟨be+1,3,none⟩=some(.bool true):=c3;obtain⟨⟨v,hb,hr⟩,-⟩:=Q2;obtain⟨d0,d1,d2,d3,df⟩:=Blk.cells4 hb;have F:=yt hr;obtain⟨aov,capv,rfl⟩:=hr.form;have FIN:Hid(W=some s.t):=HR.out;clear HR hb hr d1 d2 d3;go_wp2;go_ret2;exact⟨by rw[FIN.out];rfl,B3.out⟩
theorem Bj (e:Ex)(ao:Option Addr)(cap:Nat)(w:World)(he:e.fit)(S:SlT w e.kids ao) :
  Calls Tryz.prog 99 #[exV e ao cap] w fun x w'=>x=.returned(.bool(fx e).isSome)/\Below w.heap.size w w':=by
 have B0:Below w.heap.size w(w.alloc(bxX e ao cap)):=(Below.refl _ w).alloc(Nat.le_refl _) _;have E0:(w.alloc(bxX e ao cap)).heap[w.heap.size]?=some(bxX e ao cap):=heap_alloc_new w _;have c1:=Aj e ao cap(w.alloc(bxX e ao cap)) he(SlT.below S B0);obtain⟨p0,p1,p2,p3,p4,pf⟩:=am E0;rw[aq] at c1 ⊢;generalize fx e=W at *;go_enter Tryz.func99,Tryz.ntmps99;go_wp2_with fail;refine c1.mono ?_;rintro e2 w1⟨rfl,b1⟩;have B1:=B0.trans(b1.mono B0.size);clear c1 p0 p1 p2 p3 p4 pf E0;cases W with
 | none =>
  go_wp2;go_ret;exact⟨rfl,B1⟩
 | some t =>
  go_wp2;go_ret;exact⟨rfl,B1⟩
abbrev xN (t:Int × Nat × Int):Value:=.tuple #[.int .i64 t.1,.int .i64 (t.2.1:Nat),.int .i64 t.2.2]
theorem xv {e:Ex}(hf:e.fit){t:List UInt8}(h:fx e=some t):e.okA/\e.kids.size<=2000/\bm e.k=false:=by
 unfold fx at h;by_cases hs:bm e.k=true
 ·rw[if_pos hs] at h;cases h
 ·rw[if_neg hs] at h;cases hh:hE e 0 with
  | none=>rw[hh] at h;cases h
  | some c =>
   obtain⟨h1,h2,h3⟩:=DP hf hh;exact⟨h1,by omega,by simpa using hs⟩
theorem uh {e:Ex}{t:List UInt8}(h:fx e=some t):e.kids.stk (e.k==21):=by
 unfold fx at h;split at h
 ·cases h
 ·cases hh:hE e 0 with
  | none=>rw[hh] at h;cases h
  | some c=>exact CD hh
theorem xD (e:Ex)(ao:Option Addr)(cap:Nat)(w:World)(hf:e.fit)(S:SlT w e.kids ao) :
  Calls Tryz.prog 50 #[exV e ao cap] w fun x w'=>x=.returned(xN(md e))/\Below w.heap.size w w':=by
 obtain⟨T,hT⟩:∃T,T=md e:=⟨_,rfl⟩
 rw[<-hT];have HT:Hid(T=md e):=hT;clear hT;have B0:Below w.heap.size w(w.alloc(.cells #[.int .i64 e.k,.int .i64 e.n,stv e.nm,.slice ao e.kids.len cap,.int .i64 e.a] 25)):=(Below.refl _ w).alloc(Nat.le_refl _) _;have E0:(w.alloc(.cells #[.int .i64 e.k,.int .i64 e.n,stv e.nm,.slice ao e.kids.len cap,.int .i64 e.a] 25)).heap[w.heap.size]?=some(.cells #[.int .i64 e.k,.int .i64 e.n,stv e.nm,.slice ao e.kids.len cap,.int .i64 e.a] 25):=heap_alloc_new w _;have S0:=SlT.below S B0;rw[aq];go_enter Tryz.func50,Tryz.ntmps50;go_upto_region 1 with fail;generalize w.alloc(.cells #[.int .i64 e.k,.int .i64 e.n,stv e.nm,.slice ao e.kids.len cap,.int .i64 e.a] 25)=w0 at *;obtain⟨bx,hbx⟩:∃bx,bx=w.heap.size:=⟨_,rfl⟩
 rw[<-hbx] at E0 B0 ⊢;have HB:Hid(bx=w.heap.size):=hbx;clear hbx;obtain⟨p0,p1,p2,p3,p4,pf⟩:=am E0;have hbx0:=lt_of_block E0;have c1:=Bj e ao cap w0 hf S0;rw[aq] at c1;go_wp2_with fail;refine c1.mono ?_;rintro x w1⟨rfl,b1⟩;have E1:=(b1.block _ hbx0).trans E0;have B1:Below bx w w1:=B0.trans(b1.mono(Nat.le_of_lt hbx0));have S1:=SlT.below S0 b1;clear c1 b1 p0 p1 p2 p3 p4 pf E0 B0 S0 S;cases hw:fx e with
 | none =>
  have FIN:Hid(T=(0,122,0)):=by show T=_;rw[HT.out];unfold md;rw[hw]
  simp only[Option.isSome_none];clear HT hw;go_wp2;refine bodyPost_ret(v:=xN(0,122,0))(by simp[results,Tryz.results50,go_sem]) rfl⟨by rw[FIN.out],?_⟩;rw[<-HB.out];exact B1
 | some t =>
  obtain⟨hok,hsz,hset⟩:=xv hf hw;have hsk:=uh hw;simp only[Option.isSome_some];have HT2:Hid(T=(match bK e [] with | .inl(er,a)=>(0,er,a) | .inr k=>(k,0,0))):=by
   show T=_;rw[HT.out];unfold md;rw[hw];simp only;cases bK e [] with
   | inl z=>obtain⟨er,a⟩:=z;rfl
   | inr k=>rfl
  clear HT hw;have b2:Below w1.heap.size w1(w1.alloc(.cells #[.slice none 0 0,.int .i64 0,.int .i64 0] 154)):=(Below.refl _ w1).alloc(Nat.le_refl _) _;have W2:Wk(w1.alloc(.cells #[.slice none 0 0,.int .i64 0,.int .i64 0] 154)) w1.heap.size(.slice none 0 0) none:=⟨heap_alloc_new w1 _,vt.none⟩
  have E2:=(b2.block _(lt_of_block E1)).trans E1;have B2:=B1.trans(b2.mono(Nat.le_of_lt(lt_of_block E1)));have S2:Sl(w1.alloc(.cells #[.slice none 0 0,.int .i64 0,.int .i64 0] 154))(Nf w1.heap.size) e.kids ao:=S1.mono(fun i _ hl=>b2.block i hl) b2.size(fun i _ hl=>by show i≠_;omega);have hwb:bx<w1.heap.size:=lt_of_block E1;go_upto_region 5 with fail;generalize w1.alloc(.cells #[.slice none 0 0,.int .i64 0,.int .i64 0] 154)=w2 at *;generalize w1.heap.size=wb at *;obtain⟨p0,p1,p2,p3,p4,pf⟩:=am E2;have c4:=tD(e.kids.size+1) e ao cap wb(.slice none 0 0) [] w2⟨by omega,hok,hset,hsk,hf.len,hf.sh,by simp;omega⟩ W2⟨Nms.nil w2,fun g off n c h=>by cases h⟩ S2;rw[aq] at c4;have hwb2:=lt_of_block W2.blk;clear b2 E1 B1 S1 S2 W2;go_wp2_with fail;refine c4.mono ?_;rintro x w4⟨⟨k',rfl,hk'⟩,W4,K4⟩;have HZ:Hid(Below bx w w4):=B2.trans(K4.below(Nat.le_of_lt hwb) hwb2);clear c4 K4 p0 p1 p2 p3 p4 pf;obtain⟨q0,q1,q2,qf⟩:=it W4.blk;cases hc:bK e [] with
  | inl z =>
   obtain⟨er,a⟩:=z;have her:=tN hc;rw[hc] at q1 q2;simp only[stS,erO,plO] at q1 q2;have hne:((er:Int) != 0)=true:=by simp;omega
   have FIN:Hid(T=(0,er,a)):=by show T=_;rw[HT2.out,hc]
   clear HT2 hc her hk' W4;go_wp2_with fail
   go_quiet(fail)
   go_wp2;refine bodyPost_ret(v:=xN(0,er,a))(by simp[results,Tryz.results50,go_sem]) rfl⟨by rw[FIN.out],?_⟩;rw[<-HB.out];exact HZ.out.trans⟨rfl,rfl,rfl,Nat.le_refl _,fun _ _=>rfl⟩
  | inr k =>
   obtain rfl:=hk' k hc;rw[hc] at q1 q2;simp only[stS,erO,plO] at q1 q2;have FIN:Hid(T=(k',0,0)):=by show T=_;rw[HT2.out,hc]
   clear HT2 hc hk' W4;go_wp2;refine bodyPost_ret(v:=xN(k',0,0))(by simp[results,Tryz.results50,go_sem]) rfl⟨by rw[FIN.out],?_⟩;rw[<-HB.out];exact HZ.out
def cX:Fs->Fs->Bool
 | ⟨none⟩,⟨none⟩=>true
 | ⟨some⟨k,n,nm,_,ks,r⟩⟩,⟨some⟨k',n',nm',_,ks',r'⟩⟩=>k==k'&&n==n'&&nm==nm'&&cX ks ks'&&cX r r'
 | _,_=>false
def bC (a b:Ex):Bool:=a.k==b.k&&a.n==b.n&&a.nm==b.nm&&cX a.kids b.kids
theorem jR:∀ (x y:Fs),x.len≠y.len->cX x y=false
 | ⟨none⟩,⟨none⟩,h=>absurd rfl h
 | ⟨none⟩,⟨some⟨k',n',nm',a',ks',r'⟩⟩,h=>rfl
 | ⟨some⟨k,n,nm,a,ks,r⟩⟩,⟨none⟩,h=>rfl
 | ⟨some⟨k,n,nm,a,ks,r⟩⟩,⟨some⟨k',n',nm',a',ks',r'⟩⟩,h=>by
  have h2:r.len≠r'.len:=fun e=>h(by simp only[Fs.len,e]);simp only[cX,jR r r' h2,Bool.and_false]
theorem iT:∀ (x:Fs),cX x x=true
 | ⟨none⟩=>rfl
 | ⟨some⟨k,n,nm,a,ks,r⟩⟩=>by simp[cX,iT ks,iT r]
def nmP (k:Int)(nm:List UInt8):Bool:=if k==23 then aX nm else nm==[]
def nuP (nc:Nat)(k n:Int)(ar:Nat):Bool :=
 if k==1 then true else if k==2 then n==0||n==1 else if k==3 then decide(0<=n) else if k==5 then decide(0<=n)&&decide(n<(ar:Int))
 else if k==20 then decide(1<=n)&&decide(n<=10) else if k==21 then decide(1<=n)&&decide(n<=6) else if k==26 then decide(0<=n)&&decide(n<(nc:Int)) else n==0
def wkP (ks:List Int)(i:Nat):Int :=
 match ks[i]? with
 | some k=>if k=4 then 0 else k
 | none=>0
def aZ (k n:Int)(ks:List Int):List Int × Int :=
 if k=1 then([],1) else if k=2 then([],2) else if k=3\/k=5 then([],3) else if k=6 then([1],1) else if k=7 then([2],2)
 else if 8<=k/\k<=12 then([1,1],1) else if k=15\/k=16 then([1,1],2) else if k=17\/k=18 then([2,2],2)
 else if k=13\/k=14 then([wkP ks 0,wkP ks 0],2) else if k=19 then([2,wkP ks 1,wkP ks 1],wkP ks 1)
 else if k=20 then(if n=1\/n=2 then([3,3],2) else if n=3 then([3,3],1) else if n=10 then([3],3) else([3],1))
 else if k=21 then(if n=1\/n=2 then([4,2],2) else if n=3 then([4,2],1) else([4,1],1))
 else if k=26 then([wkP ks 0],wkP ks 0) else if k=22\/k=23 then([],4) else if k=24 then([3],4) else if k=25 then(List.replicate ks.length 3,4) else([],0)
def hgF:Fs->Int->Int
 | ⟨none⟩,_=>0
 | ⟨some⟨k,n,_,_,ks,r⟩⟩,ar=>max(max(if k=5/\n<ar then n+1 else 0)(hgF ks ar))(hgF r ar)
def hgE (e:Ex)(ar:Int):Int:=max (if e.k=5/\e.n<ar then e.n+1 else 0) (hgF e.kids ar)
abbrev Rg:=Nat × (Nat->Option Ex)
def aL (pk:Int)(i ar wi:Nat):Nat × Nat:=if pk=21 then (if i=0 then ar else ar+1,wi+1) else (ar,wi)
def cT (cells:List Int)(n:Int)(ks:Fs)(ar:Nat)(s:Rg):Option Rg :=
 match cells[n.toNat]? with
 | none=>none
 | some lv =>
  if(ar:Int)<lv\/lv<hgE ks.head ar then none else
  match s.2 n.toNat with
  | none=>some(s.1,fun i=>if i=n.toNat then some ks.head else s.2 i)
  | some x=>if bC x ks.head then some s else none
def rgF (cells:List Int):Fs->Int->Nat->Nat->Nat->Rg->Option (Rg × List Int)
 | ⟨none⟩,_,_,_,_,s=>some(s,[])
 | ⟨some⟨k,n,nm,a,ks,r⟩⟩,pk,i,ar,wi,s =>
  if 4096<s.1+1\/4<(aL pk i ar wi).2\/nmP k nm=false\/nuP cells.length k n(aL pk i ar wi).1=false then none else
  match rgF cells ks k 0(aL pk i ar wi).1(aL pk i ar wi).2(s.1+1,s.2) with
  | none=>none
  | some(s1,kd) =>
   if(aZ k n kd).2=0\/(aZ k n kd).1≠kd then none else
   match(if k=26 then cT cells n ks(aL pk i ar wi).1 s1 else some s1) with
   | none=>none
   | some s2 =>
    match rgF cells r pk(i+1) ar wi s2 with
    | none=>none
    | some(s3,rest)=>some(s3,(aZ k n kd).2::rest)
def bO (cells:List Int)(e:Ex):Int :=
 if 256<cells.length\/cells.any(fun c=>decide(c<0)||decide(4<c))=true then 0 else
 match rgF cells(one e) 0 0 0 0(0,fun _=>none) with
 | some(_,[k])=>if k=4 then 0 else k
 | _=>0
theorem oC (cells:List Int):∀ (f:Fs) (pk:Int) (i ar wi:Nat) (s s':Rg) (kd:List Int),rgF cells f pk i ar wi s=some (s',kd)->kd.length=f.len
 | ⟨none⟩,pk,i,ar,wi,s,s',kd,h=>by
  simp only[rgF] at h;injection h with h
  injection h with h1 h2
  subst h2;rfl
 | ⟨some⟨k,n,nm,a,ks,r⟩⟩,pk,i,ar,wi,s,s',kd,h=>by
  unfold rgF at h;split at h
  ·cases h
  ·split at h
   ·cases h
   ·split at h
    ·cases h
    ·split at h
     ·cases h
     ·split at h
      ·cases h
      ·rename_i s3 rest h5
       injection h with h
       injection h with h1 h2
       subst h2
       have:=oC cells r pk(i+1) ar wi _ _ _ h5
       simp only[List.length_cons,Fs.len];omega
def rgE (cells:List Int)(e:Ex)(ar wi:Nat)(s:Rg):Option (Rg × Int) :=
 if 4096<s.1+1\/4<wi\/nmP e.k e.nm=false\/nuP cells.length e.k e.n ar=false then none else
 match rgF cells e.kids e.k 0 ar wi(s.1+1,s.2) with
 | none=>none
 | some(s1,kd) =>
  if(aZ e.k e.n kd).2=0\/(aZ e.k e.n kd).1≠kd then none else
  match(if e.k=26 then cT cells e.n e.kids ar s1 else some s1) with
  | none=>none
  | some s2=>some(s2,(aZ e.k e.n kd).2)
theorem eI (cells:List Int)(x:Ex)(r:Fs)(pk:Int)(i ar wi:Nat)(s:Rg) :
  rgF cells(Fs.ex x r) pk i ar wi s=(match rgE cells x(aL pk i ar wi).1(aL pk i ar wi).2 s with
   | none=>none
   | some(s2,k)=>match rgF cells r pk(i+1) ar wi s2 with
    | none=>none
    | some(s3,rest)=>some(s3,k::rest)):=by
 obtain⟨k,n,nm,a,ks⟩:=x;unfold Fs.ex
 conv=>lhs;unfold rgF
 unfold rgE;simp only;by_cases h1:4096<s.1+1\/4<(aL pk i ar wi).2\/nmP k nm=false\/nuP cells.length k n(aL pk i ar wi).1=false
 ·rw[if_pos h1,if_pos h1]
 ·rw[if_neg h1,if_neg h1];cases rgF cells ks k 0(aL pk i ar wi).1(aL pk i ar wi).2(s.1+1,s.2) with
  | none=>rfl
  | some z =>
   obtain⟨s1,kd⟩:=z;simp only;by_cases h2:(aZ k n kd).2=0\/(aZ k n kd).1≠kd
   ·rw[if_pos h2,if_pos h2]
   ·rw[if_neg h2,if_neg h2]
    cases(if k=26 then cT cells n ks(aL pk i ar wi).1 s1 else some s1) with
    | none=>rfl
    | some s2=>rfl
theorem jw {cells:List Int}{e:Ex}{ar wi:Nat}{s s':Rg}{k:Int}(h:rgE cells e ar wi s=some (s',k)):k≠0:=by
 unfold rgE at h;split at h
 ·cases h
 ·split at h
  ·cases h
  ·split at h
   ·cases h
   ·rename_i h2
    split at h
    ·cases h
    ·injection h with h
     injection h with _ h
     intro h3;exact h2(.inl(h.trans h3))
abbrev Dg:=Option Rg
def bH (cells:List Int)(st:Dg)(m:Int)(e:Ex)(ar wi:Nat):Dg :=
 match st with
 | none=>none
 | some s=>match rgE cells e ar wi s with
  | none=>none
  | some(s',k)=>if k=m then some s' else none
def cE (cells:List Int):Fs->Dg->Int->Nat->Nat->Dg
 | ⟨none⟩,st,_,_,_=>st
 | ⟨some⟨k,n,nm,a,ks,r⟩⟩,st,m,ar,wi=>cE cells r(bH cells st m⟨k,n,nm,a,ks⟩ ar wi) m ar wi
theorem fH (cells:List Int):∀ (f:Fs) (m:Int) (ar wi:Nat),cE cells f none m ar wi=none
 | ⟨none⟩,m,ar,wi=>rfl
 | ⟨some⟨k,n,nm,a,ks,r⟩⟩,m,ar,wi=>fH cells r m ar wi
def anD (r:Dg)(g:Int):Option (Rg × Int):=match r with|none=>none|some s=>some (s,g)
theorem sK (cells:List Int)(pk m:Int)(ar wi:Nat)(hk:pk≠21):∀ (f:Fs) (i:Nat) (s:Rg),
  cE cells f(some s) m ar wi=(match rgF cells f pk i ar wi s with|none=>none|some(s',kd)=>if kd=List.replicate f.len m then some s' else none)
 | ⟨none⟩,i,s=>by simp[cE,rgF,Fs.len]
 | ⟨some⟨k,n,nm,a,ks,r⟩⟩,i,s=>by
  have hsp:aL pk i ar wi=(ar,wi):=by unfold aL;rw[if_neg hk]
  have h1:=eI cells⟨k,n,nm,a,ks⟩ r pk i ar wi s;rw[hsp] at h1;have h2:rgF cells⟨some⟨k,n,nm,a,ks,r⟩⟩ pk i ar wi s=_:=h1;rw[h2];unfold cE;unfold bH;simp only;cases rgE cells⟨k,n,nm,a,ks⟩ ar wi s with
  | none=>simp only;exact fH cells r m ar wi
  | some z =>
   obtain⟨s2,k2⟩:=z;simp only;by_cases hm:k2=m
   ·subst hm;rw[if_pos rfl,sK cells pk k2 ar wi hk r(i+1) s2];cases rgF cells r pk(i+1) ar wi s2 with
    | none=>rfl
    | some z =>
     obtain⟨s3,rest⟩:=z;simp only[Fs.len,List.replicate_succ,List.cons.injEq,true_and]
   ·rw[if_neg hm,fH];cases rgF cells r pk(i+1) ar wi s2 with
    | none=>rfl
    | some z =>
     obtain⟨s3,rest⟩:=z;simp only[Fs.len,List.replicate_succ,List.cons.injEq,hm,false_and,if_false]
def gdE (cells:List Int)(e:Ex)(ar wi:Nat)(s:Rg):Prop:=¬(4096<s.1+1\/4<wi\/nmP e.k e.nm=false\/nuP cells.length e.k e.n ar=false)
theorem wW {cells:List Int}{e:Ex}{ar wi:Nat}{s:Rg}(m g:Int)(hg:gdE cells e ar wi s)(h21:e.k≠21)(h26:e.k≠26)(hf:∀ kd:List Int,kd.length=e.kids.len->aZ e.k e.n kd=(List.replicate e.kids.len m,g))(h0:g≠0) :
  rgE cells e ar wi s=anD(cE cells e.kids(some(s.1+1,s.2)) m ar wi) g:=by
 unfold rgE;rw[if_neg hg,sK cells e.k m ar wi h21 e.kids 0];cases hr:rgF cells e.kids e.k 0 ar wi(s.1+1,s.2) with
 | none=>rfl
 | some z =>
  obtain⟨s1,kd⟩:=z;simp only;rw[hf kd(oC _ _ _ _ _ _ _ _ _ hr)];simp only;by_cases hk:kd=List.replicate e.kids.len m
  ·rw[if_pos hk,if_neg(by rintro(h|h);exact h0 h;exact h hk.symm),if_neg h26];rfl
  ·rw[if_neg hk,if_pos(.inr(fun h=>hk h.symm))];rfl
theorem fL {cells:List Int}{e:Ex}{ar wi:Nat}{s:Rg}(h:¬gdE cells e ar wi s):rgE cells e ar wi s=none:=by
 unfold rgE;unfold gdE at h;rw[if_pos(Classical.not_not.1 h)]
theorem yR {cells:List Int}{k n:Int}{nm:List UInt8}{a:Int}{x y:Ex}{ar wi:Nat}{s:Rg}(hk:k=13\/k=14)(hg:gdE cells ⟨k,n,nm,a,Fs.ex x (Fs.ex y .nil)⟩ ar wi s) :
  rgE cells⟨k,n,nm,a,Fs.ex x(Fs.ex y .nil)⟩ ar wi s=(match rgE cells x ar wi(s.1+1,s.2) with
   | none=>none
   | some(s1,k0)=>if k0=4 then none else anD(bH cells(some s1) k0 y ar wi) 2):=by
 have hsp:∀ i,aL k i ar wi=(ar,wi):=fun i=>by unfold aL;rw[if_neg(by omega)]
 conv=>lhs;unfold rgE
 rw[if_neg hg];simp only;rw[eI,hsp];simp only;cases hx:rgE cells x ar wi(s.1+1,s.2) with
 | none=>rfl
 | some z =>
  obtain⟨s1,k0⟩:=z;have h0:=jw hx;simp only;rw[eI,hsp];simp only[bH];cases hy:rgE cells y ar wi s1 with
  | none=>simp only[anD];split<;>rfl
  | some z =>
   obtain⟨s2,k1⟩:=z;have h1:=jw hy;simp only[rgF];have hf:aZ k n [k0,k1]=([wkP [k0,k1] 0,wkP [k0,k1] 0],2):=by
    unfold aZ;rcases hk with rfl|rfl<;>simp
   rw[hf];have hw:wkP [k0,k1] 0=if k0=4 then 0 else k0:=rfl;rw[hw];by_cases h4:k0=4
   ·rw[if_pos h4,if_pos h4,if_pos(.inr(by intro h;injection h with h;exact h0 h.symm))]
   ·rw[if_neg h4,if_neg h4];by_cases h5:k1=k0
    ·subst h5;rw[if_neg(by rintro(h|h);cases h;exact h rfl),if_neg(by omega),if_pos rfl];rfl
    ·rw[if_pos(.inr(by intro h;injection h with _ h;injection h with h;exact h5 h.symm)),if_neg h5];rfl
theorem vV {cells:List Int}{n:Int}{nm:List UInt8}{a:Int}{x y z:Ex}{ar wi:Nat}{s:Rg}(hg:gdE cells ⟨19,n,nm,a,Fs.ex x (Fs.ex y (Fs.ex z .nil))⟩ ar wi s) :
  rgE cells⟨19,n,nm,a,Fs.ex x(Fs.ex y(Fs.ex z .nil))⟩ ar wi s=(match bH cells(some(s.1+1,s.2)) 2 x ar wi with
   | none=>none
   | some s0=>match rgE cells y ar wi s0 with
    | none=>none
    | some(s1,k0)=>if k0=4 then none else anD(bH cells(some s1) k0 z ar wi) k0):=by
 have hsp:∀ i,aL 19 i ar wi=(ar,wi):=fun i=>by unfold aL;rw[if_neg(by omega)]
 conv=>lhs;unfold rgE
 rw[if_neg hg];simp only;rw[eI,hsp];simp only[bH];cases hx:rgE cells x ar wi(s.1+1,s.2) with
 | none=>rfl
 | some u =>
  obtain⟨s0,kx⟩:=u;simp only;rw[eI,hsp];simp only;cases hy:rgE cells y ar wi s0 with
  | none =>
   simp only;by_cases h2:kx=2
   ·rw[if_pos h2];simp only[hy]
   ·rw[if_neg h2]
  | some u =>
   obtain⟨s1,k0⟩:=u;have h0:=jw hy;simp only;rw[eI,hsp];simp only;have hf:∀ k1,aZ 19 n [kx,k0,k1]=([2,if k0=4 then 0 else k0,if k0=4 then 0 else k0],if k0=4 then 0 else k0):=fun k1=>by
    unfold aZ;simp[wkP]
   by_cases h2:kx=2
   ·subst h2;rw[if_pos rfl];simp only[hy];cases hz:rgE cells z ar wi s1 with
    | none=>simp only[anD];split<;>rfl
    | some u =>
     obtain⟨s2,k1⟩:=u;simp only[rgF];rw[hf];by_cases h4:k0=4
     ·simp only[h4,if_true];rw[if_pos(.inl trivial)]
     ·simp only[h4,if_false];by_cases h5:k1=k0
      ·subst h5;rw[if_neg(by rintro(h|h);exact h0 h;exact h rfl),if_neg(by omega),if_pos rfl];rfl
      ·rw[if_pos(.inr(by intro h;injection h with _ h;injection h with _ h;injection h with h;exact h5 h.symm)),if_neg h5];rfl
   ·rw[if_neg h2];cases hz:rgE cells z ar wi s1 with
    | none=>rfl
    | some u =>
     obtain⟨s2,k1⟩:=u;simp only[rgF];rw[hf];simp only;rw[if_pos(.inr(by intro h;injection h with h;exact h2 h.symm))]
theorem xz {cells:List Int}{n:Int}{nm:List UInt8}{a:Int}{t x:Ex}{ar wi:Nat}{s:Rg}(hg:gdE cells ⟨21,n,nm,a,Fs.ex t (Fs.ex x .nil)⟩ ar wi s)(hn:1<=n/\n<=6) :
  rgE cells⟨21,n,nm,a,Fs.ex t(Fs.ex x .nil)⟩ ar wi s=anD(bH cells(bH cells(some(s.1+1,s.2)) 4 t ar(wi+1))(cG n) x(ar+1)(wi+1))(cq n):=by
 have hs0:aL 21 0 ar wi=(ar,wi+1):=rfl;have hs1:aL 21 1 ar wi=(ar+1,wi+1):=rfl
 conv=>lhs;unfold rgE
 rw[if_neg hg];simp only;rw[eI,hs0];simp only[bH];have hf:∀ k0 k1,aZ 21 n [k0,k1]=([4,cG n],cq n):=fun k0 k1=>by
  have h6:n=1\/n=2\/n=3\/n=4\/n=5\/n=6:=by omega
  rcases h6 with rfl|rfl|rfl|rfl|rfl|rfl<;>rfl
 have hw:cq n≠0:=by unfold cq;split<;>omega
 cases ht:rgE cells t ar(wi+1)(s.1+1,s.2) with
 | none=>rfl
 | some u =>
  obtain⟨s0,k0⟩:=u;simp only;rw[eI,hs1];simp only;by_cases h4:k0=4
  ·subst h4;rw[if_pos rfl];simp only;cases hx:rgE cells x(ar+1)(wi+1) s0 with
   | none=>rfl
   | some u =>
    obtain⟨s1,k1⟩:=u;simp only[rgF];rw[hf];simp only;by_cases h5:k1=cG n
    ·rw[if_neg(by rintro(h|h);exact hw h;exact h(by rw[h5])),if_neg(by omega),if_pos h5];rfl
    ·rw[if_pos(.inr(by intro h;injection h with _ h;injection h with h;exact h5 h.symm)),if_neg h5];rfl
  ·rw[if_neg h4];simp only[anD];cases hx:rgE cells x(ar+1)(wi+1) s0 with
   | none=>rfl
   | some u =>
    obtain⟨s1,k1⟩:=u;simp only[rgF];rw[hf];simp only;rw[if_pos(.inr(by intro h;injection h with h;exact h4 h.symm))]
theorem Az {cells:List Int}{e:Ex}{ar wi:Nat}{s:Rg}(h:4<wi):rgE cells e ar wi s=none:=fL (fun hg=>hg (.inr (.inl h)))
theorem vd {cells:List Int}{st:Dg}{m:Int}{e:Ex}{ar wi:Nat}(h:4<wi):bH cells st m e ar wi=none:=by
 unfold bH;cases st with
 | none=>rfl
 | some s=>simp only[Az h]
theorem AK {cells:List Int}{n:Int}{nm:List UInt8}{a:Int}{x:Ex}{ar wi:Nat}{s:Rg}(hg:gdE cells ⟨26,n,nm,a,Fs.ex x .nil⟩ ar wi s) :
  rgE cells⟨26,n,nm,a,Fs.ex x .nil⟩ ar wi s=(match rgE cells x ar wi(s.1+1,s.2) with
   | none=>none
   | some(s1,k0)=>if k0=4 then none else anD(cT cells n(Fs.ex x .nil) ar s1) k0):=by
 have hsp:∀ i,aL 26 i ar wi=(ar,wi):=fun i=>by unfold aL;rw[if_neg(by omega)]
 conv=>lhs;unfold rgE
 rw[if_neg hg];simp only;rw[eI,hsp];simp only;cases hx:rgE cells x ar wi(s.1+1,s.2) with
 | none=>rfl
 | some u =>
  obtain⟨s1,k0⟩:=u;have h0:=jw hx;simp only[rgF];have hf:aZ 26 n [k0]=([if k0=4 then 0 else k0],if k0=4 then 0 else k0):=by
   unfold aZ;simp[wkP]
  rw[hf];simp only;by_cases h4:k0=4
  ·simp only[h4,if_true];rw[if_pos(.inl trivial)]
  ·simp only[h4,if_false,if_true];rw[if_neg(by rintro(h|h);exact h0 h;exact h rfl)];cases cT cells n(Fs.ex x .nil) ar s1 with
   | none=>rfl
   | some s2=>rfl
def aD (k n:Int)(nm:List UInt8)(len:Nat):Bool :=
 if k=1 then nm==[]&&len==0
 else if k=2 then(n==0||n==1)&&(nm==[]&&len==0)
 else if k=3\/k=5 then decide(0<=n)&&(nm==[]&&len==0)
 else if k=6\/k=7\/k=24 then n==0&&(nm==[]&&len==1)
 else if 8<=k/\k<=18 then n==0&&(nm==[]&&len==2)
 else if k=19 then n==0&&(nm==[]&&len==3)
 else if k=20 then nm==[]&&((decide(1<=n)&&decide(n<=3)&&len==2)||(decide(4<=n)&&decide(n<=10)&&len==1))
 else if k=21 then decide(1<=n)&&(decide(n<=6)&&(nm==[]&&len==2))
 else if k=22 then n==0&&(nm==[]&&len==0)
 else if k=23 then n==0&&(len==0&&aX nm)
 else if k=25 then n==0&&nm==[]
 else if k=26 then nm==[]&&len==1
 else false
theorem dv {cells:List Int}{e:Ex}{ar wi:Nat}{s s':Rg}{k:Int}(h:rgE cells e ar wi s=some (s',k)) :
  gdE cells e ar wi s/\∃s1 kd,rgF cells e.kids e.k 0 ar wi(s.1+1,s.2)=some(s1,kd)/\kd.length=e.kids.len/\(aZ e.k e.n kd).2≠0/\(aZ e.k e.n kd).1=kd/\k=(aZ e.k e.n kd).2/\(if e.k=26 then cT cells e.n e.kids ar s1 else some s1)=some s':=by
 unfold rgE at h;split at h
 ·cases h
 ·rename_i hg
  split at h
  ·cases h
  ·rename_i s1 kd hr
   split at h
   ·cases h
   ·rename_i h2
    split at h
    ·cases h
    ·rename_i s2 h3
     injection h with h
     injection h with h4 h5
     subst h4;exact⟨hg,s1,kd,hr,oC _ _ _ _ _ _ _ _ _ hr,fun h=>h2(.inl h),Classical.not_not.1(fun h=>h2(.inr h)),h5.symm,h3⟩
theorem mE {k n:Int}{kd:List Int}(h:(aZ k n kd).2≠0):(1<=k/\k<=3)\/(5<=k/\k<=26):=by
 apply Classical.byContradiction;intro hc;apply h;unfold aZ
 repeat rw[if_neg(by omega)]
theorem kS {cells:List Int}{e:Ex}{ar wi:Nat}{s s':Rg}{k:Int}(h:rgE cells e ar wi s=some (s',k)):aD e.k e.n e.nm e.kids.len=true:=by
 obtain⟨hg,s1,kd,-,hl,h0,h1,-,-⟩:=dv h;obtain⟨k0,n,nm,a,f⟩:=e;unfold gdE at hg;simp only at hg hl h0 h1 ⊢;clear h;have hk:=mE h0;have hlen:(aZ k0 n kd).1.length=f.len:=by rw[h1,hl]
 have hc:k0=1\/k0=2\/k0=3\/k0=5\/k0=6\/k0=7\/k0=8\/k0=9\/k0=10\/k0=11\/k0=12\/k0=13\/k0=14\/k0=15\/k0=16\/k0=17\/k0=18\/k0=19\/k0=20\/k0=21\/k0=22\/k0=23\/k0=24\/k0=25\/k0=26:=by omega
 clear h0 h1 hl hk;generalize f.len=m at hlen ⊢;rcases hc with rfl|rfl|rfl|rfl|rfl|rfl|rfl|rfl|rfl|rfl|rfl|rfl|rfl|rfl|rfl|rfl|rfl|rfl|rfl|rfl|rfl|rfl|rfl|rfl|rfl <;>
  simp[nmP,nuP] at hg<;>simp[aZ] at hlen<;>simp[aD,hg,<-hlen]
 ·omega
 ·have h10:n=1\/n=2\/n=3\/n=4\/n=5\/n=6\/n=7\/n=8\/n=9\/n=10:=by omega
  rcases h10 with rfl|rfl|rfl|rfl|rfl|rfl|rfl|rfl|rfl|rfl<;>simp
 ·have h10:n=1\/n=2\/n=3\/n=4\/n=5\/n=6:=by omega
  rcases h10 with rfl|rfl|rfl|rfl|rfl|rfl<;>simp
theorem pA {cells:List Int}{e:Ex}{ar wi:Nat}{s:Rg}(h:aD e.k e.n e.nm e.kids.len=false):rgE cells e ar wi s=none:=by
 cases hr:rgE cells e ar wi s with
 | none=>rfl
 | some z =>
  obtain⟨s',k⟩:=z;rw[kS hr] at h;cases h
theorem dK {k n:Int}{nm:List UInt8}{len:Nat}(h:aD k n nm len=true):k=1\/k=2\/k=3\/k=5\/k=6\/k=7\/k=8\/k=9\/k=10\/k=11\/k=12\/k=13\/k=14\/k=15\/k=16\/k=17\/k=18\/k=19\/k=20\/k=21\/k=22\/k=23\/k=24\/k=25\/k=26:=by
 apply Classical.byContradiction;intro hc;unfold aD at h
 repeat rw[if_neg(by omega)] at h
 cases h
theorem iq {cells:List Int}{e:Ex}{ar wi:Nat}{s:Rg}(h:aD e.k e.n e.nm e.kids.len=true)(hs:s.1+1<=4096)(hw:wi<=4)(h5:e.k=5->e.n<(ar:Int))(h26:e.k=26->0<=e.n/\e.n<(cells.length:Int)):gdE cells e ar wi s:=by
 obtain⟨k0,n,nm,a,f⟩:=e;have hc:=dK h;simp only at h h5 h26 hc;unfold gdE;simp only;generalize f.len=m at h;have h1:nmP k0 nm=true/\nuP cells.length k0 n ar=true:=by
  rcases hc with rfl|rfl|rfl|rfl|rfl|rfl|rfl|rfl|rfl|rfl|rfl|rfl|rfl|rfl|rfl|rfl|rfl|rfl|rfl|rfl|rfl|rfl|rfl|rfl|rfl <;>
   simp[aD] at h<;>simp[nmP,nuP,h]<;>first|exact h5 rfl|exact h26 rfl|omega
 rw[h1.1,h1.2];simp;omega
def cP (cells:List Int)(e:Ex)(ar wi:Nat)(s:Rg):Option (Rg × Int) :=
 match rgE cells e ar wi s with
 | none=>none
 | some(s',k)=>if k=4 then none else some(s',k)
theorem ik {cells:List Int}{e:Ex}{ar wi:Nat}{s:Rg}(h:rgE cells e ar wi s=none):cP cells e ar wi s=none:=by unfold cP;rw[h]
theorem tE {cells:List Int}{e:Ex}{ar wi:Nat}{s:Rg}{r:Dg}{g:Int}(h:rgE cells e ar wi s=anD r g)(hg:g≠4):cP cells e ar wi s=anD r g:=by
 unfold cP;rw[h];cases r with
 | none=>rfl
 | some s'=>simp only[anD];rw[if_neg hg]
theorem yT {cells:List Int}{e:Ex}{ar wi:Nat}{s:Rg}{m:Int}(hm:m≠4):bH cells (some s) m e ar wi=(match cP cells e ar wi s with|none=>none|some (s',k)=>if k=m then some s' else none):=by
 simp only[bH,cP];cases rgE cells e ar wi s with
 | none=>rfl
 | some z =>
  obtain⟨s',k⟩:=z;simp only;by_cases h4:k=4
  ·rw[if_pos h4,if_neg(by omega)]
  ·rw[if_neg h4]
theorem mx:∀ {x y:Fs} (z:Fs),cX x y=true->cX y z=cX x z
 | ⟨none⟩,⟨none⟩,z,h=>rfl
 | ⟨none⟩,⟨some⟨k',n',nm',a',ks',r'⟩⟩,z,h=>by cases h
 | ⟨some⟨k,n,nm,a,ks,r⟩⟩,⟨none⟩,z,h=>by cases h
 | ⟨some⟨k,n,nm,a,ks,r⟩⟩,⟨some⟨k',n',nm',a',ks',r'⟩⟩,⟨none⟩,h=>rfl
 | ⟨some⟨k,n,nm,a,ks,r⟩⟩,⟨some⟨k',n',nm',a',ks',r'⟩⟩,⟨some⟨k2,n2,nm2,a2,ks2,r2⟩⟩,h=>by
  simp only[cX,Bool.and_eq_true,beq_iff_eq] at h;obtain⟨⟨⟨⟨h1,h2⟩,h3⟩,h4⟩,h5⟩:=h;subst h1;subst h2;subst h3;simp only[cX,mx ks2 h4,mx r2 h5]
theorem xl {x y:Ex}(z:Ex)(h:bC x y=true):bC y z=bC x z:=by
 unfold bC at h ⊢;simp only[Bool.and_eq_true,beq_iff_eq] at h;obtain⟨⟨⟨h1,h2⟩,h3⟩,h4⟩:=h;rw[h1,h2,h3,mx z.kids h4]
theorem tv (ar:Int):∀ (f:Fs),0<=hgF f ar
 | ⟨none⟩=>by simp[hgF]
 | ⟨some⟨k,n,nm,a,ks,r⟩⟩=>by
  have:=tv ar r
  simp only[hgF];exact Int.le_trans this(Int.le_max_right _ _)
theorem qZ (ar:Int)(h0:0<=ar):∀ (f:Fs),hgF f ar<=ar
 | ⟨none⟩=>by simpa [hgF] using h0
 | ⟨some⟨k,n,nm,a,ks,r⟩⟩=>by
  have h1:=qZ ar h0 ks;have h2:=qZ ar h0 r;have h3:(if k=5/\n<ar then n+1 else 0)<=ar:=by split<;>omega
  simp only[hgF];generalize(if k=5/\n<ar then n+1 else 0)=z at h3 ⊢;omega
theorem jJ (ar:Int)(h0:0<=ar)(e:Ex):hgE e ar<=ar:=by
 have h1:=qZ ar h0 e.kids;have h3:(if e.k=5/\e.n<ar then e.n+1 else 0)<=ar:=by split<;>omega
 unfold hgE;generalize(if e.k=5/\e.n<ar then e.n+1 else 0)=z at h3 ⊢;omega
theorem gR (ar:Int)(e:Ex):0<=hgE e ar:=by
 have:=tv ar e.kids
 unfold hgE;omega
structure Kp (a b:Nat)(w w':World):Prop where
 os:w'.os=w.os
 tape:w'.tape=w.tape
 output:w'.output=w.output
 size:w.heap.size<=w'.heap.size
 block:∀ k,k<w.heap.size->k≠a->k≠b->w'.heap[k]?=w.heap[k]?
theorem Kp.refl (a b:Nat)(w:World):Kp a b w w:=⟨rfl,rfl,rfl,Nat.le_refl _,fun _ _ _ _=>rfl⟩
theorem Kp.trans {p q:Nat}{a b c:World}(h:Kp p q a b)(k:Kp p q b c):Kp p q a c :=
 ⟨k.os.trans h.os,k.tape.trans h.tape,k.output.trans h.output,Nat.le_trans h.size k.size,fun i hi hn hm=>(k.block i(Nat.lt_of_lt_of_le hi h.size) hn hm).trans(h.block i hi hn hm)⟩
theorem Kp.ofBelow {a b:Nat}{w w':World}(h:Below w.heap.size w w'):Kp a b w w':=⟨h.os,h.tape,h.output,h.size,fun k hk _ _=>h.block k hk⟩
theorem Kp.set {p q:Nat}{a w:World}(h:Kp p q a w)(r:Addr)(u:Value)(hp:a.heap.size<=r.block\/r.block=p\/r.block=q):Kp p q a (w.setCell r u) :=
 ⟨h.os,h.tape,h.output,by simpa using h.size,fun k hk hn hm=>(heap_setCell_other w r k u(fun e=>by
  rcases hp with hp|hp|hp
  ·omega
  ·exact hn(e.trans hp)
  ·exact hm(e.trans hp))).trans(h.block k hk hn hm)⟩
theorem Kp.alloc {p q:Nat}{a w:World}(h:Kp p q a w)(ob:Obj):Kp p q a (w.alloc ob):=h.trans ⟨rfl,rfl,rfl,by simp,fun k hk _ _=>Below.heap_alloc w ob k hk⟩
theorem Kp.below {a b n:Nat}{w w':World}(h:Kp a b w w')(ha:n<=a)(hb:n<=b)(hs:n<=w.heap.size):Below n w w':=⟨h.os,h.tape,h.output,h.size,fun k hk=>h.block k (by omega) (by omega) (by omega)⟩
theorem Kp.bel {p q:Nat}{w a b:World}(B:Below w.heap.size w a)(K:Kp p q a b):Kp p q w b:=(Kp.ofBelow B).trans K
abbrev Nf2 (a b:Nat):Nat->Prop:=fun i=>i≠a/\i≠b
theorem SlN.kp {a b:Nat}{w w':World}{f:Fs}{ao:Option Addr}(h:SlN w (Nf2 a b) f ao)(k:Kp a b w w'):SlN w' (Nf2 a b) f ao:=h.mono (fun i hp hl=>k.block i hl hp.1 hp.2) k.size (fun _ h _=>h)
theorem SlN.belowP {P:Nat->Prop}{w w':World}{f:Fs}{ao:Option Addr}(h:SlN w P f ao)(b:Below w.heap.size w w'):SlN w' P f ao:=h.mono (fun i _ hl=>b.block i hl) b.size (fun _ h _=>h)
def Inw (w:World)(P:Nat->Prop)(v:Value)(xs:List Int):Prop :=
 ∃ao cap,v=.slice ao xs.length cap/\(xs=[]\/∃b off,ao=some⟨b,off,none⟩/\P b/\b<w.heap.size/\∀ j x,xs[j]?=some x->w.cell?⟨b,off+j,none⟩=some(.int .i64 x))
theorem Inw.mono {w w':World}{P Q:Nat->Prop}{v:Value}{xs:List Int}(hb:∀ k,P k->k<w.heap.size->w'.heap[k]?=w.heap[k]?)(hs:w.heap.size<=w'.heap.size)(hq:∀ k,P k->k<w.heap.size->Q k)(h:Inw w P v xs):Inw w' Q v xs:=by
 obtain⟨ao,cap,rfl,h⟩:=h;refine⟨ao,cap,rfl,?_⟩;rcases h with h|⟨b,off,rfl,hp,hlt,hc⟩
 ·exact .inl h
 ·exact .inr⟨b,off,rfl,hq b hp hlt,Nat.lt_of_lt_of_le hlt hs,fun j u hu=>(World.cell?_of_block(a:=⟨b,off+j,none⟩)(hb b hp hlt)).trans(hc j u hu)⟩
theorem Inw.kp {a b:Nat}{w w':World}{v:Value}{xs:List Int}(h:Inw w (Nf2 a b) v xs)(k:Kp a b w w'):Inw w' (Nf2 a b) v xs:=h.mono (fun i hp hl=>k.block i hl hp.1 hp.2) k.size (fun _ h _=>h)
theorem Inw.below {P:Nat->Prop}{w w':World}{v:Value}{xs:List Int}(h:Inw w P v xs)(b:Below w.heap.size w w'):Inw w' P v xs:=h.mono (fun i _ hl=>b.block i hl) b.size (fun _ h _=>h)
theorem SlN.kidP {P:Nat->Prop}{w:World}{x r:Fs}{y:Ex}{ao:Option Addr}(h:SlN w P (x.app (Fs.ex y r)) ao)(i:Nat)(hi:x.len=i):∃b off ak ck,ao=some ⟨b,off,none⟩/\w.cell? ⟨b,off+i*4,none⟩=some (.int .i64 y.k)/\w.cell? ⟨b,off+i*4+1,none⟩=some (.int .i64 y.n)/\w.cell? ⟨b,off+i*4+2,none⟩=some (stv y.nm)/\w.cell? ⟨b,off+i*4+3,none⟩=some (.slice ak y.kids.len ck)/\SlN w P y.kids ak:=by
 subst hi;obtain⟨b,off,ak,ck,rfl,-,-,x0,x1,x2,x3,S⟩:=SlN.kidQ h;exact⟨b,off,ak,ck,rfl,x0,x1,x2,x3,S⟩
end Go.Proofs.YtbjdkekhnajafaaGreatDoor

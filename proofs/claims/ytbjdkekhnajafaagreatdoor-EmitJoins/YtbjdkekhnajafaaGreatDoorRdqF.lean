import Derived.Test.YtbjdkekhnajafaaGreatDoorWrqD
import Derived.Deep.RegionWith
import Derived.Deep.LoopGhost
set_option maxRecDepth 100000
set_option maxHeartbeats 8000000
namespace Go.Proofs.YtbjdkekhnajafaaGreatDoor
open Go.ChangeShapes Go.WideShapes Go.ChangeAt Go.RowKit
set_option linter.unusedVariables false
set_option linter.unusedSimpArgs false
def Rq (w:World)(rb i:Nat)(o q:Int)(er pl:Nat)(all:List Tk):Prop :=
 ∃g cap,w.heap[rb]?=some (.cells #[.slice (some ⟨g,0,none⟩) all.length cap,.int .i64 (i:Nat),.int .i64 o,.int .i64 q,.int .i64 (er:Nat),.int .i64 (pl:Nat)] 70 (0,0))/\g<rb/\(∀ j u,(tcells all)[j]?=some u->w.cell? ⟨g,j,none⟩=some u)/\all.length<=3000/\all.length<=cap/\cap<=maxLen
theorem Rq.lt {w:World}{rb i:Nat}{o q:Int}{er pl:Nat}{all:List Tk}(h:Rq w rb i o q er pl all):rb<w.heap.size:=by
 obtain⟨g,cap,h1,_⟩:=h;exact lt_of_block h1
theorem Rq.below {w w':World}{rb i:Nat}{o q:Int}{er pl:Nat}{all:List Tk}(h:Rq w rb i o q er pl all)(b:Below w.heap.size w w'):Rq w' rb i o q er pl all:=by
 have hlt:=h.lt;obtain⟨g,cap,h1,h2,h3,h4⟩:=h;exact⟨g,cap,(b.block rb hlt).trans h1,h2,fun j u hu=>(b.cell (p:=⟨g,j,none⟩) (show g<w.heap.size by omega)).trans (h3 j u hu),h4⟩
theorem Rq.next {w:World}{rb i:Nat}{o q:Int}{er pl:Nat}{all:List Tk}{x:Tk}(h:Rq w rb i o q er pl all)(hx:all[i]?=some x):∃g cap L,g<rb/\i<L/\L<=cap/\cap<=maxLen/\L<=3000/\(w.cell? ⟨rb,0,none⟩=some (.slice (some ⟨g,0,none⟩) L cap)/\w.cell? ⟨rb,1,none⟩=some (.int .i64 (i:Nat))/\w.cell? ⟨g,i*4,none⟩=some (.int .i64 (x.k:Nat))/\w.cell? ⟨g,i*4+1,none⟩=some (.int .i64 x.n)/\w.cell? ⟨g,i*4+2,none⟩=some (stv x.t)/\w.cell? ⟨g,i*4+3,none⟩=some (.int .i64 (x.a:Nat)))/\w.cell? ⟨rb,2,none⟩=some (.int .i64 o)/\w.cell? ⟨rb,3,none⟩=some (.int .i64 q)/\w.cell? ⟨rb,4,none⟩=some (.int .i64 (er:Nat))/\w.cell? ⟨rb,5,none⟩=some (.int .i64 (pl:Nat))/\(∀ j,w.frozen? ⟨rb,j,none⟩=false):=by
 obtain⟨g,cap,h1,h2,h3,h4,h5,h6⟩:=h;have hi:i<all.length:=by
  by_cases hi:i<all.length
  ·exact hi
  ·rw[List.getElem?_eq_none (by omega)] at hx;cases hx
 obtain⟨t0,t1,t2,t3⟩:=tkcells_at all i x hx;refine⟨g,cap,all.length,h2,hi,h5,h6,h4,⟨?_,?_,h3 _ _ t0,h3 _ _ t1,h3 _ _ t2,h3 _ _ t3⟩,?_,?_,?_,?_,fun j=>frozen_of_row w rb j _ _ h1⟩
 all_goals simp[cell_of_row w rb _ _ _ (0,0) h1]
theorem Rq.set {w:World}{rb i:Nat}{o q:Int}{er pl:Nat}{all:List Tk}(h:Rq w rb i o q er pl all) :
  (∀ i':Nat,Rq (w.setCell ⟨rb,1,none⟩ (.int .i64 (i':Nat))) rb i' o q er pl all)/\(∀ o':Int,Rq (w.setCell ⟨rb,2,none⟩ (.int .i64 o')) rb i o' q er pl all)/\(∀ q':Int,Rq (w.setCell ⟨rb,3,none⟩ (.int .i64 q')) rb i o q' er pl all)/\(∀ er':Nat,Rq (w.setCell ⟨rb,4,none⟩ (.int .i64 (er':Nat))) rb i o q er' pl all)/\(∀ pl':Nat,Rq (w.setCell ⟨rb,5,none⟩ (.int .i64 (pl':Nat))) rb i o q er pl' all):=by
 obtain⟨g,cap,h1,h2,h3,h4⟩:=h;have hB:Blk w (fun _=>0) 0 rb (.cells #[.slice (some ⟨g,0,none⟩) all.length cap,.int .i64 (i:Nat),.int .i64 o,.int .i64 q,.int .i64 (er:Nat),.int .i64 (pl:Nat)] 70 (0,0)):=⟨h1,rfl⟩
 have hc:∀ (k:Nat) (v:Value) j u,(tcells all)[j]?=some u->(w.setCell ⟨rb,k,none⟩ v).cell? ⟨g,j,none⟩=some u:=fun k v j u hu=>(World.cell?_of_block (a:=⟨g,j,none⟩) (heap_setCell_other w ⟨rb,k,none⟩ g v (show g≠rb by omega))).trans (h3 j u hu);exact⟨fun i'=>⟨g,cap,(hB.set 1 _).1,h2,hc 1 _,h4⟩,fun o'=>⟨g,cap,(hB.set 2 _).1,h2,hc 2 _,h4⟩,fun q'=>⟨g,cap,(hB.set 3 _).1,h2,hc 3 _,h4⟩,fun er'=>⟨g,cap,(hB.set 4 _).1,h2,hc 4 _,h4⟩,fun pl'=>⟨g,cap,(hB.set 5 _).1,h2,hc 5 _,h4⟩⟩
theorem Keep.at {rb:Nat}(w:World)(k:Nat)(v:Value):Keep rb w (w.setCell ⟨rb,k,none⟩ v):=(Keep.refl rb w).set ⟨rb,k,none⟩ v (.inr rfl)
theorem two_alloc (w:World)(o1:Obj):(w.alloc o1).drew.heap[w.heap.size]?=some o1/\Below w.heap.size w (w.alloc o1).drew:=⟨heap_alloc_new w _,((Below.refl _ w).alloc (Nat.le_refl _) _).drew⟩
theorem is_q {w:World}{rb i:Nat}{o q:Int}{er pl:Nat}{all:List Tk}{x:Tk}(s:List UInt8)(h:Rq w rb i o q er pl all)(hx:all[i]?=some x) :
  Calls Tryz.prog 128 #[.pointer (some ⟨rb,0,none⟩),stv s] w fun e w'=>e=.returned (.bool ((er==0)&&((x.k==3||x.k==4)&&x.t==s)))/\Below w.heap.size w w':=by
 obtain⟨B,hB⟩:∃B,B=((er==0)&&((x.k==3||x.k==4)&&x.t==s)):=⟨_,rfl⟩
 rw[<-hB];have HB:Hid (B=((er==0)&&((x.k==3||x.k==4)&&x.t==s))):=hB;clear hB;obtain⟨g,cap,L,hg,hi,hc,hm,hL,⟨c0,c1,t0,t1,t2,t3⟩,c2,c3,c4,c5,hf⟩:=h.next hx;have hrb:=h.lt;have bz:Below w.heap.size w (w.alloc (.cells #[.int .i64 0,.int .i64 0,.string ⟨#[]⟩,.int .i64 0] 73)):=(Below.refl _ w).alloc (Nat.le_refl _) _;have d0:=(bz.cell (p:=⟨rb,0,none⟩) hrb).trans c0;have d1:=(bz.cell (p:=⟨rb,1,none⟩) hrb).trans c1;have hgs:g<w.heap.size:=by omega
 have u0:=(bz.cell (p:=⟨g,i*4,none⟩) hgs).trans t0;have u1:=(bz.cell (p:=⟨g,i*4+1,none⟩) hgs).trans t1;have u2:=(bz.cell (p:=⟨g,i*4+2,none⟩) hgs).trans t2;have u3:=(bz.cell (p:=⟨g,i*4+3,none⟩) hgs).trans t3;have hmm:cap<=9223372036854775807:=hm;have hiI:(i:Int)<(L:Int):=by omega
 have HX:Hid (∀ wx,Below w.heap.size w wx->wx.cell? ⟨rb,4,none⟩=some (.int .i64 (er:Nat))):=fun wx b=>(b.cell (p:=⟨rb,4,none⟩) hrb).trans c4;clear h bz hm;go_enter Tryz.func128,Tryz.ntmps128;go_upto_region 1 with fail;go_cut [5] (fun v wx=>∃bt,v=.pointer (some ⟨bt,0,none⟩)/\wx.heap[bt]?=some (.cells #[.int .i64 (x.k:Nat),.int .i64 x.n,stv x.t,.int .i64 (x.a:Nat)] 73)/\Below w.heap.size w wx)
 case first =>
  have h2:=two_alloc w (.cells #[.int .i64 (x.k:Nat),.int .i64 x.n,stv x.t,.int .i64 (x.a:Nat)] 73);go_region
  all_goals
   go_wp2;go_meet;exact⟨_,rfl,h2.1,h2.2⟩
 case rest =>
 obtain⟨bt,rfl,hT,B1⟩:=hcut;obtain⟨p0,p1,p2,p3,-⟩:=Blk.cells4 (o:=fun _=>0) (i:=0) ⟨hT,rfl⟩;have e4:=HX.out _ B1;clear c0 c1 t0 t1 t2 t3 d0 d1 u0 u1 u2 u3 c2 c3 c4 c5 hT HX;by_cases h0:er=0
 ·subst h0;by_cases h3:x.k=3
  ·have b3:((x.k:Int)==3)=true:=by simp[h3]
   have b4:Hid (B=(x.t==s)):=by show B=_;rw[HB.out];simp[h3]
   clear h3 HB;go_wp2;go_ret;exact⟨by rw[b4.out];simp,B1⟩
  ·have b3:((x.k:Int)==3)=false:=by simp;omega
   by_cases h4:x.k=4
   ·have b4:((x.k:Int)==4)=true:=by simp[h4]
    have b5:Hid (B=(x.t==s)):=by show B=_;rw[HB.out];simp[h4]
    clear h3 h4 HB;go_wp2;go_ret;exact⟨by rw[b5.out];simp,B1⟩
   ·have b4:((x.k:Int)==4)=false:=by simp;omega
    have b5:Hid (B=false):=by show B=_;rw[HB.out];simp[h3,h4]
    clear h3 h4 HB;go_wp2;go_ret;exact⟨by rw[b5.out];rfl,B1⟩
 ·have b0:((er:Int)==0)=false:=by simp;omega
  have b1:Hid (B=false):=by show B=_;rw[HB.out];simp[h0]
  clear h0 HB;go_wp2;go_ret;exact⟨by rw[b1.out];rfl,B1⟩
def TokI (x:Tk):Prop:=∀ s:List UInt8,s≠[]->nameB s=false->((x.k==3||x.k==4)&&x.t==s)=(x.t==s)
abbrev Sq:=Sum (Nat × Nat) (List Tk)
def QS (w:World)(rb:Nat)(all:List Tk)(o q:Nat):Sq->Prop
 | .inl (er,a)=>∃(i:Nat) (o' q':Int),Rq w rb i o' q' er a all/\i<all.length/\er≠0
 | .inr ts=>∃(i pl:Nat),Rq w rb i (o:Nat) (q:Nat) 0 pl all/\all.drop i=ts/\WFT ts/\o<=64/\q<=4
def stp {α:Type}:Rs α->Sq
 | ⟨none⟩=>.inl (0,0)
 | ⟨some (.inl (e,a))⟩=>.inl (e,a)
 | ⟨some (.inr (_,t))⟩=>.inr t
def onw {α:Type}(f:List Tk->Rs α):Sq->Sq
 | .inl ea=>.inl ea
 | .inr ts=>stp (f ts)
def isS (s:List UInt8):Sq->Bool
 | .inl _=>false
 | .inr []=>false
 | .inr (x::_)=>x.t==s
def failS (e:Nat):Sq->Sq
 | .inl ea=>.inl ea
 | .inr []=>.inl (0,0)
 | .inr (x::_)=>.inl (e,x.a)
theorem QS.below {w w':World}{rb o q:Nat}{all:List Tk}{st:Sq}(h:QS w rb all o q st)(b:Below w.heap.size w w'):QS w' rb all o q st:=by
 match st,h with
 | .inl (er,a),⟨i,o',q',h1,h2⟩=>exact⟨i,o',q',h1.below b,h2⟩
 | .inr ts,⟨i,pl,h1,h2⟩=>exact⟨i,pl,h1.below b,h2⟩
theorem QS.lt {w:World}{rb o q:Nat}{all:List Tk}{st:Sq}(h:QS w rb all o q st):rb<w.heap.size:=by
 match st,h with
 | .inl (er,a),⟨i,o',q',h1,h2⟩=>exact h1.lt
 | .inr ts,⟨i,pl,h1,h2⟩=>exact h1.lt
theorem dropQ {all:List Tk}{i:Nat}{x:Tk}{r:List Tk}(h:all.drop i=x::r):all[i]?=some x/\all.drop (i+1)=r/\x ∈ all:=by
 have h1:(all.drop i)[0]?=some x:=by rw[h];rfl
 rw[List.getElem?_drop] at h1;have h2:(all.drop i).tail=r:=by rw[h];rfl
 rw[List.tail_drop] at h2;exact⟨by simpa using h1,h2,List.mem_of_mem_drop (i:=i) (by rw[h];exact List.mem_cons_self)⟩
theorem fails_q {w:World}{rb i:Nat}{o q:Int}{pl:Nat}{all:List Tk}{x:Tk}(e:Nat)(h:Rq w rb i o q 0 pl all)(hx:all[i]?=some x) :
  Calls Tryz.prog 35 #[.pointer (some ⟨rb,0,none⟩),.int .i64 (e:Nat)] w fun r w'=>r=.returned (.tuple #[])/\Rq w' rb i o q e x.a all/\Keep rb w w':=by
 obtain⟨_,_,_,_,_,_,_,_,_,_,_,c4,_,hf0⟩:=h.next hx;have h1:=h.set.2.2.2.1 e;have h2:=h1.set.2.2.2.2 x.a;have K:=(Keep.at (rb:=rb) w 4 (.int .i64 (e:Nat))).trans (Keep.at _ 5 (.int .i64 (x.a:Nat)));obtain⟨g,cap,L,hg,hi,hc,hm,hL,⟨c0,c1,t0,t1,t2,t3⟩,-,-,-,c5,hf⟩:=h1.next hx;have hmm:cap<=9223372036854775807:=hm;have hiI:(i:Int)<(L:Int):=by omega
 clear h h1 t0 t1 t2 hm;go_enter Tryz.func35,Tryz.ntmps35;go_upto_region 2 with fail;generalize w.setCell ⟨rb,4,none⟩ (.int .i64 (e:Nat))=w3 at *;go_region
 all_goals
  go_wp2
  go_end0
  exact⟨rfl,h2.below (Below.refl _ _).drew,K.drew⟩
theorem fails_no {w:World}{rb i:Nat}{o q:Int}{er pl:Nat}{all:List Tk}{x:Tk}(e:Nat)(h:Rq w rb i o q er pl all)(hx:all[i]?=some x)(h0:er≠0) :
  Calls Tryz.prog 35 #[.pointer (some ⟨rb,0,none⟩),.int .i64 (e:Nat)] w fun r w'=>r=.returned (.tuple #[])/\Rq w' rb i o q er pl all/\Keep rb w w':=by
 have b0:((er:Int)==0)=false:=by simp;omega
 obtain⟨_,_,_,_,_,_,_,_,_,_,_,c4,_,hf0⟩:=h.next hx;have K:=Keep.refl rb w;clear h0;go_enter Tryz.func35,Tryz.ntmps35;go_wp2
 go_end0
 exact⟨rfl,h,K⟩
theorem is_s {w:World}{rb o q:Nat}{all:List Tk}{st:Sq}(TI:∀ x,x ∈ all->TokI x)(s:List UInt8)(hs:s≠[])(hn:nameB s=false)(h:QS w rb all o q st) :
  Calls Tryz.prog 128 #[.pointer (some ⟨rb,0,none⟩),stv s] w fun e w'=>e=.returned (.bool (isS s st))/\Below w.heap.size w w':=by
 match st,h with
 | .inl (er,a),⟨i,o',q',h1,h2,h3⟩ =>
  refine(is_q s h1 (List.getElem?_eq_getElem h2)).mono ?_;rintro e w' ⟨rfl,b⟩;exact⟨by simp[h3,isS],b⟩
 | .inr [],⟨i,pl,h1,h2,h3⟩=>exact absurd rfl h3.1.ne
 | .inr (x::r),⟨i,pl,h1,h2,h3⟩ =>
  obtain⟨hx,_,hm⟩:=dropQ h2;refine(is_q s h1 hx).mono ?_;rintro e w' ⟨rfl,b⟩;exact⟨by rw[TI x hm s hs hn];simp[isS],b⟩
theorem fail_s {w:World}{rb o q:Nat}{all:List Tk}{st:Sq}(e:Nat)(he:e≠0)(h:QS w rb all o q st) :
  Calls Tryz.prog 35 #[.pointer (some ⟨rb,0,none⟩),.int .i64 (e:Nat)] w fun r w'=>r=.returned (.tuple #[])/\QS w' rb all o q (failS e st)/\Keep rb w w':=by
 match st,h with
 | .inl (er,a),⟨i,o',q',h1,h2,h3⟩ =>
  refine(fails_no e h1 (List.getElem?_eq_getElem h2) h3).mono ?_;rintro r w' ⟨rfl,b,k⟩;exact⟨rfl,⟨i,o',q',b,h2,h3⟩,k⟩
 | .inr [],⟨i,pl,h1,h2,h3⟩=>exact absurd rfl h3.1.ne
 | .inr (x::r),⟨i,pl,h1,h2,h3⟩ =>
  obtain⟨hx,_,hm⟩:=dropQ h2;refine(fails_q e h1 hx).mono ?_;rintro r' w' ⟨rfl,b,k⟩;exact⟨rfl,⟨i,_,_,b,by have:=List.getElem?_eq_some_iff.1 hx;exact this.1,he⟩,k⟩
theorem QS.ok {w:World}{rb o q:Nat}{all:List Tk}{x:Tk}{r:List Tk}(h:QS w rb all o q (.inr (x::r))) :
  ∃i g cap L:Nat,g<rb/\i<L/\L<=cap/\cap<=9223372036854775807/\L<=3000/\x ∈ all/\w.cell? ⟨rb,0,none⟩=some (.slice (some ⟨g,0,none⟩) L cap)/\w.cell? ⟨rb,1,none⟩=some (.int .i64 (i:Nat))/\w.cell? ⟨rb,2,none⟩=some (.int .i64 (o:Nat))/\w.cell? ⟨rb,3,none⟩=some (.int .i64 (q:Nat))/\w.cell? ⟨rb,4,none⟩=some (.int .i64 0)/\(w.cell? ⟨g,i*4,none⟩=some (.int .i64 (x.k:Nat))/\w.cell? ⟨g,i*4+1,none⟩=some (.int .i64 x.n)/\w.cell? ⟨g,i*4+2,none⟩=some (stv x.t)/\w.cell? ⟨g,i*4+3,none⟩=some (.int .i64 (x.a:Nat)))/\(∀ j,w.frozen? ⟨rb,j,none⟩=false):=by
 obtain⟨i,pl,h1,h2,h3⟩:=h;obtain⟨hx,h4,hm⟩:=dropQ h2;obtain⟨g,cap,L,hg,hi,hc,hm2,hL,⟨c0,c1,t0,t1,t2,t3⟩,c2,c3,c4,c5,hf⟩:=h1.next hx;exact⟨i,g,cap,L,hg,hi,hc,hm2,hL,hm,c0,c1,c2,c3,c4,⟨t0,t1,t2,t3⟩,hf⟩
theorem QS.over {w:World}{rb o q:Nat}{all:List Tk}{x:Tk}{r:List Tk}(h:QS w rb all o q (.inr (x::r)))(hx:x.t≠[]\/x.k≠0){i:Nat}(hi:w.cell? ⟨rb,1,none⟩=some (.int .i64 (i:Nat))) :
  QS (w.setCell ⟨rb,1,none⟩ (.int .i64 ((i:Int)+1))) rb all o q (.inr r):=by
 obtain⟨i2,pl,h1,h2,h3⟩:=h;obtain⟨hx2,h4,hm⟩:=dropQ h2;obtain⟨_,_,_,_,_,_,_,_,⟨_,c1,_⟩,_⟩:=h1.next hx2;rw[hi] at c1;have e:i=i2:=by
  have e2:(i:Int)=(i2:Int):=by simpa using c1
  omega
 subst e;exact⟨i+1,pl,h1.set.1 (i+1),h4,h3.1.tail hx,h3.2⟩
theorem QS.open {w:World}{rb o q:Nat}{all:List Tk}{ts:List Tk}(h:QS w rb all o q (.inr ts))(o':Nat)(ho:o'<=64) :
  QS (w.setCell ⟨rb,2,none⟩ (.int .i64 (o':Nat))) rb all o' q (.inr ts):=by
 obtain⟨i,pl,h1,h2⟩:=h;exact⟨i,pl,h1.set.2.1 (o':Nat),h2.1,h2.2.1,ho,h2.2.2.2⟩
theorem QS.quants {w:World}{rb o q:Nat}{all:List Tk}{ts:List Tk}(h:QS w rb all o q (.inr ts))(q':Nat)(hq:q'<=4) :
  QS (w.setCell ⟨rb,3,none⟩ (.int .i64 (q':Nat))) rb all o q' (.inr ts):=by
 obtain⟨i,pl,h1,h2⟩:=h;exact⟨i,pl,h1.set.2.2.1 (q':Nat),h2.1,h2.2.1,h2.2.2.1,hq⟩
theorem QS.down {w:World}{rb o q:Nat}{all:List Tk}{st:Sq}(h:QS w rb all (o+1) q st) :
  ∃o':Int,w.cell? ⟨rb,2,none⟩=some (.int .i64 o')/\(∀ j,w.frozen? ⟨rb,j,none⟩=false)/\QS (w.setCell ⟨rb,2,none⟩ (.int .i64 (wrap64 (o' - 1)))) rb all o q st:=by
 match st,h with
 | .inl (er,a),⟨i,o',q',h1,h2,h3⟩ =>
  obtain⟨_,_,_,_,_,_,_,_,_,c2,_,_,_,hf⟩:=h1.next (List.getElem?_eq_getElem h2);exact⟨o',c2,hf,i,_,q',h1.set.2.1 _,h2,h3⟩
 | .inr [],⟨i,pl,h1,h2,h3⟩=>exact absurd rfl h3.1.ne
 | .inr (x::r),⟨i,pl,h1,h2,h3⟩ =>
  obtain⟨hx,_,hm⟩:=dropQ h2;obtain⟨_,_,_,_,_,_,_,_,_,c2,_,_,_,hf⟩:=h1.next hx;refine⟨_,c2,hf,i,pl,?_,h2,h3.1,by have:=h3.2.1;omega,h3.2.2⟩;have e:wrap64 ((((o+1:Nat):Int))-1)=((o:Nat):Int):=by have:=h3.2.1;unfold wrap64;omega
  rw[e];exact h1.set.2.1 _
theorem QS.le {w:World}{rb o q:Nat}{all:List Tk}{ts:List Tk}(h:QS w rb all o q (.inr ts)):o<=64/\q<=4/\WFT ts:=by
 obtain⟨i,pl,h1,h2,h3,h4⟩:=h;exact⟨h4.1,h4.2,h3⟩
theorem isS_true {s:List UInt8}{st:Sq}(h:isS s st=true):∃x r,st=.inr (x::r)/\x.t=s:=by
 match st,h with
 | .inr (x::r),h=>exact⟨x,r,rfl,by simpa [isS] using h⟩
theorem isS_false {s:List UInt8}{st:Sq}(h:isS s st=false){all:List Tk}{w:World}{rb o q:Nat}(hs:QS w rb all o q st):failS 120 st=onw (passT s) st/\∀ o2,failS 120 st=onw (enterT s o2) st:=by
 match st,h,hs with
 | .inl (er,a),h,hs=>exact⟨rfl,fun _=>rfl⟩
 | .inr [],h,⟨i,pl,h1,h2,h3⟩=>exact absurd rfl h3.1.ne
 | .inr (x::r),h,hs =>
  have hx:¬x.t=s:=by simpa [isS] using h
  exact⟨by simp[failS,onw,passT,hx,stp],fun _=>by simp[failS,onw,enterT,hx,stp]⟩
theorem take_s {w:World}{rb o q:Nat}{all:List Tk}{st:Sq}(TI:∀ x,x ∈ all->TokI x)(s:List UInt8)(hs:s≠[])(hn:nameB s=false)(h:QS w rb all o q st) :
  Calls Tryz.prog 247 #[.pointer (some ⟨rb,0,none⟩),stv s] w fun e w'=>e=.returned (.tuple #[])/\QS w' rb all o q (onw (passT s) st)/\Keep rb w w':=by
 have c:=is_s TI s hs hn h;cases hb:isS s st with
 | true =>
  obtain⟨x,r,rfl,hx⟩:=isS_true hb;have e1:onw (passT s) (.inr (x::r))=.inr r:=by simp[onw,passT,hx,stp]
  rw[e1];rw[hb] at c;have hx2:x.t≠[]\/x.k≠0:=.inl (by rw[hx];exact hs);clear e1 hb hx;go_enter Tryz.func247,Tryz.ntmps247;go_wp2_with fail;refine c.mono ?_;rintro e w2 ⟨rfl,b⟩;have h2:=h.below b;obtain⟨i,g,cap,L,hg,hi,hcL,hcap,hL,hm,c0,c1,c2,c3,c4,-,hf⟩:=h2.ok;have h3:=h2.over hx2 c1;have K:=(Keep.ofBelow (rb:=rb) b).trans (Keep.at w2 1 (.int .i64 ((i:Int)+1)));clear h2 h c b c0 c2 c3 c4;go_wp2
  go_end0
  exact⟨rfl,h3,K⟩
 | false =>
  rw[<-(isS_false hb h).1];rw[hb] at c;have HF:∀ w2,QS w2 rb all o q st->Calls Tryz.prog 35 #[.pointer (some ⟨rb,0,none⟩),.int .i64 120] w2 fun r w'=>r=.returned (.tuple #[])/\QS w' rb all o q (failS 120 st)/\Keep rb w2 w':=fun w2 h2=>fail_s 120 (by decide) h2;clear hb;go_enter Tryz.func247,Tryz.ntmps247;go_wp2_with fail;refine c.mono ?_;rintro e w2 ⟨rfl,b⟩;go_wp2_with fail;refine(HF w2 (h.below b)).mono ?_;rintro e w3 ⟨rfl,h3,k3⟩;have K:=(Keep.ofBelow (rb:=rb) b).trans k3;clear h c b HF;go_wp2
  (try simp only[Exit.inBlock,Exit.then])
  refine bodyPost_ret (results_none rfl _ _ _) rfl ?_;exact⟨rfl,h3,K⟩
theorem open_no {w:World}{rb q:Nat}{all:List Tk}{x:Tk}{r:List Tk}(h:QS w rb all 64 q (.inr (x::r))) :
  Calls Tryz.prog 129 #[.pointer (some ⟨rb,0,none⟩)] w fun e w'=>e=.returned (.tuple #[])/\QS w' rb all 65 q (.inl (121,x.a))/\Keep rb w w':=by
 have c:Calls Tryz.prog 35 #[.pointer (some ⟨rb,0,none⟩),.int .i64 121] w fun r' w'=>r'=.returned (.tuple #[])/\QS w' rb all 65 q (.inl (121,x.a))/\Keep rb w w':=(fail_s 121 (by decide) h).mono fun e w' hh=>⟨hh.1,hh.2.1,hh.2.2⟩;obtain⟨i,g,cap,L,hg,hi,hcL,hcap,hL,hm,c0,c1,c2,c3,c4,-,hf⟩:=h.ok;clear h c0 c1 c3 c4;go_enter Tryz.func129,Tryz.ntmps129;go_wp2_with fail;refine c.mono ?_;rintro e w3 ⟨rfl,h3,k3⟩;clear c;go_wp2
 (try simp only[Exit.inBlock,Exit.then])
 refine bodyPost_ret (results_none rfl _ _ _) rfl ?_;exact⟨rfl,h3,k3⟩
theorem open_ok {w:World}{rb o q:Nat}{all:List Tk}{x:Tk}{r:List Tk}(ho:o<64)(hx:x.t≠[])(h:QS w rb all o q (.inr (x::r))) :
  Calls Tryz.prog 129 #[.pointer (some ⟨rb,0,none⟩)] w fun e w'=>e=.returned (.tuple #[])/\QS w' rb all (o+1) q (.inr r)/\Keep rb w w':=by
 have h1:=h.open (o+1) (by omega);rw[show ((o+1:Nat):Int)=(o:Int)+1 by omega] at h1;obtain⟨i,g,cap,L,hg,hi,hcL,hcap,hL,hm,c0,c1,c2,c3,c4,-,hf⟩:=h.ok;obtain⟨i2,g2,cap2,L2,hg2,hi2,hcL2,hcap2,hL2,hm2,d0,d1,d2,d3,d4,-,hf2⟩:=h1.ok;have h2:=h1.over (.inl hx) d1;have K:=(Keep.at (rb:=rb) w 2 (.int .i64 ((o:Int)+1))).trans (Keep.at _ 1 (.int .i64 ((i2:Int)+1)));have hb:((o:Int)==64)=false:=by simp;omega
 clear h h1 c0 c1 c3 c4 d0 d2 d3 d4;go_enter Tryz.func129,Tryz.ntmps129;go_upto_region 3 with fail;generalize w.setCell ⟨rb,2,none⟩ (.int .i64 ((o:Int)+1))=w3 at *;go_wp2
 go_end0
 exact⟨rfl,h2,K⟩
theorem bracket_s {w:World}{rb o q:Nat}{all:List Tk}{st:Sq}(TI:∀ x,x ∈ all->TokI x)(s:List UInt8)(hs:s≠[])(hn:nameB s=false)(h:QS w rb all o q st) :
  Calls Tryz.prog 200 #[.pointer (some ⟨rb,0,none⟩),stv s] w fun e w'=>e=.returned (.tuple #[])/\QS w' rb all (o+1) q (onw (enterT s o) st)/\Keep rb w w':=by
 have c:=is_s TI s hs hn h;cases hb:isS s st with
 | true =>
  obtain⟨x,r,rfl,hx⟩:=isS_true hb;rw[hb] at c;have HF:∀ w2,QS w2 rb all o q (.inr (x::r))->Calls Tryz.prog 129 #[.pointer (some ⟨rb,0,none⟩)] w2 fun e w'=>e=.returned (.tuple #[])/\QS w' rb all (o+1) q (onw (enterT s o) (.inr (x::r)))/\Keep rb w2 w':=fun w2 h2=>by
   by_cases h64:o=64
   ·subst h64;have e1:onw (enterT s 64) (.inr (x::r))=.inl (121,x.a):=by simp[onw,enterT,hx,stp]
    rw[e1];exact open_no h2
   ·have e1:onw (enterT s o) (.inr (x::r))=.inr r:=by simp[onw,enterT,hx,stp,h64]
    rw[e1];exact open_ok (by have:=h2.le.1;omega) (by rw[hx];exact hs) h2
  clear hb hx;generalize onw (enterT s o) (.inr (x::r))=st2 at *;go_enter Tryz.func200,Tryz.ntmps200;go_wp2_with fail;refine c.mono ?_;rintro e w2 ⟨rfl,b⟩;go_wp2_with fail;refine(HF w2 (h.below b)).mono ?_;rintro e w3 ⟨rfl,h3,k3⟩;have K:=(Keep.ofBelow (rb:=rb) b).trans k3;clear h c b HF;go_wp2
  go_end0
  exact⟨rfl,h3,K⟩
 | false =>
  rw[<-(isS_false hb h).2 o];rw[hb] at c;have HF:∀ w2,QS w2 rb all o q st->Calls Tryz.prog 35 #[.pointer (some ⟨rb,0,none⟩),.int .i64 120] w2 fun r w'=>r=.returned (.tuple #[])/\QS w' rb all (o+1) q (failS 120 st)/\Keep rb w2 w':=fun w2 h2=>(fail_s 120 (by decide) h2).mono fun e w' hh=>⟨hh.1,by
   obtain⟨er,a,e1⟩:∃er a,failS 120 st=.inl (er,a):=by
    match st with
    | .inl (er,a)=>exact⟨er,a,rfl⟩
    | .inr []=>exact⟨0,0,rfl⟩
    | .inr (x::r)=>exact⟨120,x.a,rfl⟩
   have h3:=hh.2.1;rw[e1] at h3 ⊢;exact h3,hh.2.2⟩
  clear hb;go_enter Tryz.func200,Tryz.ntmps200;go_wp2_with fail;refine c.mono ?_;rintro e w2 ⟨rfl,b⟩;go_wp2_with fail;refine(HF w2 (h.below b)).mono ?_;rintro e w3 ⟨rfl,h3,k3⟩;have K:=(Keep.ofBelow (rb:=rb) b).trans k3;clear h c b HF;go_wp2
  (try simp only[Exit.inBlock,Exit.then])
  refine bodyPost_ret (results_none rfl _ _ _) rfl ?_;exact⟨rfl,h3,K⟩
theorem close_s {w:World}{rb o q:Nat}{all:List Tk}{st:Sq}(TI:∀ x,x ∈ all->TokI x)(s:List UInt8)(hs:s≠[])(hn:nameB s=false)(h:QS w rb all (o+1) q st) :
  Calls Tryz.prog 201 #[.pointer (some ⟨rb,0,none⟩),stv s] w fun e w'=>e=.returned (.tuple #[])/\QS w' rb all o q (onw (passT s) st)/\Keep rb w w':=by
 have c:=take_s TI s hs hn h;generalize onw (passT s) st=st2 at *;go_enter Tryz.func201,Tryz.ntmps201;go_wp2_with fail;refine c.mono ?_;rintro e w2 ⟨rfl,h2,k2⟩;obtain⟨o',c2,hf,h3⟩:=h2.down;have K:=k2.trans (Keep.at w2 2 (.int .i64 (wrap64 (o' - 1))));clear h c k2 h2;go_wp2
 go_end0
 exact⟨rfl,h3,K⟩
def amgI (L:List (List UInt8))(st:Sq):Int :=
 match L.findIdx? (fun s=>isS s st) with
 | some i=>(i:Nat)
 | none=>-1
theorem amg_yes {L:List (List UInt8)}{st:Sq}{k:Nat}{s:List UInt8}(hk:L[k]?=some s)(hs:isS s st=true)(hn:∀ j t,j<k->L[j]?=some t->isS t st=false):amgI L st=(k:Nat):=by
 have:L.findIdx? (fun s=>isS s st)=some k:=by
  obtain⟨hl,he⟩:=List.getElem?_eq_some_iff.1 hk;rw[List.findIdx?_eq_some_iff_getElem];refine⟨hl,by rw[he];exact hs,fun j hj=>?_⟩
  have:=hn j (L[j]'(by omega)) hj (List.getElem?_eq_getElem _)
  simp[this]
 unfold amgI;rw[this]
theorem amg_no {L:List (List UInt8)}{st:Sq}(hn:∀ j t,j<L.length->L[j]?=some t->isS t st=false):amgI L st=-1:=by
 have:L.findIdx? (fun s=>isS s st)=none:=by
  rw[List.findIdx?_eq_none_iff];intro t ht;obtain⟨j,hj,he⟩:=List.getElem_of_mem ht;exact hn j t hj (by rw[<-he];exact List.getElem?_eq_getElem _)
 unfold amgI;rw[this]
theorem among_s {w:World}{rb o q:Nat}{all:List Tk}{st:Sq}(TI:∀ x,x ∈ all->TokI x)(L:List (List UInt8))(hL:∀ s,s ∈ L->s≠[]/\nameB s=false)(h:QS w rb all o q st){g n cap:Nat}(hn:n=L.length)(hg:g<w.heap.size)(hl:∀ j s,L[j]?=some s->w.cell? ⟨g,j,none⟩=some (stv s))(hc:n<=cap)(hm:cap<=maxLen) :
  Calls Tryz.prog 67 #[.pointer (some ⟨rb,0,none⟩),.slice (some ⟨g,0,none⟩) n cap] w fun e w'=>e=.returned (.int .i64 (amgI L st))/\Below w.heap.size w w':=by
 have hmm:cap<=9223372036854775807:=hm;obtain⟨V,hV⟩:∃V,V=amgI L st:=⟨_,rfl⟩
 rw[<-hV];have HV:Hid (V=amgI L st):=hV;have HN:Hid (n=L.length):=hn;have HL:Hid (∀ j s wx,L[j]?=some s->Below w.heap.size w wx->wx.cell? ⟨g,j,none⟩=some (stv s)):=fun j s wx hj b=>(b.cell (p:=⟨g,j,none⟩) hg).trans (hl j s hj);have HI:Hid (∀ s wx,s ∈ L->Below w.heap.size w wx->Calls Tryz.prog 128 #[.pointer (some ⟨rb,0,none⟩),stv s] wx fun e w'=>e=.returned (.bool (isS s st))/\Below wx.heap.size wx w'):=fun s wx hs b=>is_s TI s (hL s hs).1 (hL s hs).2 (h.below b);clear hV hn hl h hL TI hm;go_enter Tryz.func67,Tryz.ntmps67;go_wp2_with fail;go_loopw [5] (fun v wr=>∃k:Nat,v=.int .i64 (k:Nat)/\k<=n/\(∀ j t,j<k->L[j]?=some t->isS t st=false)/\Below w.heap.size w wr) (fun v _=>n-(intOf v).toNat)
 case atStart=>exact⟨0,by go_num,by omega,fun j t hj=>by omega,Below.refl _ w⟩
 case round =>
  obtain⟨k,rfl,hk,hin,hB⟩:=hrel;by_cases hlt:k<n
  ·have hkI:(k:Int)<(n:Int):=by omega
   obtain⟨s,hs⟩:∃s,L[k]?=some s:=⟨_,List.getElem?_eq_getElem (by rw[<-HN.out];exact hlt)⟩
   have ix:=HL.out k s wr hs hB;have c:=HI.out s wr (List.mem_of_getElem? hs) hB;have hk9:k<9223372036854775807:=by omega
   cases hb:isS s st with
   | true =>
    rw[hb] at c;have fin:Hid (V=(k:Nat)):=by show V=_;rw[HV.out];exact amg_yes hs hb hin
    clear hin HI HL HV hs hb;go_wp2_with fail;refine c.mono ?_;rintro e w2 ⟨rfl,b2⟩;have B2:=hB.trans (b2.mono hB.size);clear c ix;go_wp2;go_ret;exact⟨by rw[fin.out];rfl,B2⟩
   | false =>
    rw[hb] at c;have hin2:∀ j t,j<k+1->L[j]?=some t->isS t st=false:=fun j t hj ht=>by
     by_cases e:j=k
     ·subst e;rw[hs] at ht;cases ht;exact hb
     ·exact hin j t (by omega) ht
    have HI2:=Lib.hid hin2;clear hin HI HL HV hs hb hin2;go_wp2_with fail;refine c.mono ?_;rintro e w2 ⟨rfl,b2⟩;have B2:=hB.trans (b2.mono hB.size);clear c ix hB b2;go_wp2;go_roundw
    case rel=>(try ((repeat apply Exists.intro);refine⟨?_,rfl⟩));exact⟨k+1,by go_num,by omega,HI2.out,B2⟩
    case measure=>simp[intOf];omega
  ·obtain rfl:k=n:=by omega
   have fin:Hid (V=-1):=by show V=_;rw[HV.out];exact amg_no (by rw[<-HN.out];exact hin)
   clear hin HI HL HV HN;go_wp2;go_ret;exact⟨by rw[fin.out];rfl,hB⟩
abbrev Nb (n bl:Nat):Nat->Prop:=fun b=>n<=b/\b≠bl
theorem Sl.toB {n n1 bl:Nat}{w:World}{f:Fs}{ao:Option Addr}(h:Sl w (Nw n1) f ao)(hn:n<=n1)(hb:bl<n1):Sl w (Nb n bl) f ao:=h.mono (fun _ _ _=>rfl) (Nat.le_refl _) (fun k hk _=>⟨Nat.le_trans hn hk,by have hk:n1<=k:=hk;omega⟩)
theorem Sl.toB' {n bl:Nat}{w:World}{f:Fs}{ao:Option Addr}(h:Sl w (Nw n) f ao)(hb:w.heap.size<=bl):Sl w (Nb n bl) f ao:=h.mono (fun _ _ _=>rfl) (Nat.le_refl _) (fun k hk hl=>⟨hk,by omega⟩)
theorem Sl.keepB {rb n bl:Nat}{w w':World}{f:Fs}{ao:Option Addr}(h:Sl w (Nb n bl) f ao)(k:Keep rb w w')(hn:rb<n):Sl w' (Nb n bl) f ao:=h.mono (fun i hp hl=>k.block i hl (by have:=hp.1;omega)) k.size (fun _ h _=>h)
theorem Sl.allocB {P:Nat->Prop}{w:World}{f:Fs}{ao:Option Addr}(h:Sl w P f ao)(ob:Obj):Sl (w.alloc ob) P f ao:=h.mono (fun i hp hl=>Below.heap_alloc w ob i hl) (by simp) (fun _ h _=>h)
theorem Sl.setB {n bl:Nat}{w:World}{f:Fs}{ao:Option Addr}(h:Sl w (Nb n bl) f ao)(p:Addr)(v:Value)(hp:p.block=bl\/p.block<n):Sl (w.setCell p v) (Nb n bl) f ao:=h.mono (fun i hi hl=>heap_setCell_other w p i v (by have h1:=hi.1;have h2:=hi.2;rcases hp with hp|hp<;>omega)) (by simp) (fun _ h _=>h)
theorem Sl.set5B {n bl:Nat}{w:World}{f:Fs}{ao:Option Addr}(h:Sl w (Nb n bl) f ao){b:Nat}(hb:b=bl\/b<n)(b0 b1 b2 b3 b4:Value):Sl (((((w.setCell ⟨b,0,none⟩ b0).setCell ⟨b,1,none⟩ b1).setCell ⟨b,2,none⟩ b2).setCell ⟨b,3,none⟩ b3).setCell ⟨b,4,none⟩ b4) (Nb n bl) f ao:=((((h.setB ⟨b,0,none⟩ b0 hb).setB ⟨b,1,none⟩ b1 hb).setB ⟨b,2,none⟩ b2 hb).setB ⟨b,3,none⟩ b3 hb).setB ⟨b,4,none⟩ b4 hb
theorem Sl.lowB {n bl m:Nat}{w:World}{f:Fs}{ao:Option Addr}(h:Sl w (Nb n bl) f ao)(hm:m<=n):Sl w (Nw m) f ao:=h.mono (fun _ _ _=>rfl) (Nat.le_refl _) (fun k hk _=>Nat.le_trans hm hk.1)
def cwL:List (List UInt8):=callsL.map (·.1)
def qwL:List (List UInt8):=quantsL.map (·.1)
def Wl (w:World)(L:List (List UInt8))(w':World)(g:Nat):Prop:=Below w.heap.size w w'/\w.heap.size<=g/\g<w'.heap.size/\∀ j s,L[j]?=some s->w'.cell? ⟨g,j,none⟩=some (stv s)
theorem wl_new (w:World)(L:List (List UInt8))(t:TypeId):Wl w L (w.alloc (.cells (L.map stv).toArray t)) w.heap.size:=by
 refine⟨(Below.refl _ w).alloc (Nat.le_refl _) _,Nat.le_refl _,by simp,fun j s hj=>?_⟩;have hh:(w.alloc (.cells (L.map stv).toArray t)).heap[w.heap.size]?=some (.cells (L.map stv).toArray t (0,0)):=heap_alloc_new w _;rw[cell_of_row _ _ _ _ _ (0,0) hh];simp[hj]
theorem calls_s (w:World):Calls Tryz.prog 198 #[] w fun e w'=>∃g,e=.returned (.slice (some ⟨g,0,none⟩) 10 10)/\Wl w cwL w' g:=by
 have H:=wl_new w cwL 9;have e1:(cwL.map stv)=callsL.map (fun x=>stv x.1):=rfl;go_enter Tryz.func198,Tryz.ntmps198;go_wp2;go_ret;exact⟨_,rfl,H⟩
theorem quants_s (w:World):Calls Tryz.prog 199 #[] w fun e w'=>∃g,e=.returned (.slice (some ⟨g,0,none⟩) 6 6)/\Wl w qwL w' g:=by
 have H:=wl_new w qwL 9;go_enter Tryz.func199,Tryz.ntmps199;go_wp2;go_ret;exact⟨_,rfl,H⟩
abbrev bxE (e:Ex)(ao:Option Addr)(cap:Nat):Obj:=.cells #[.int .i64 e.k,.int .i64 e.n,stv e.nm,.slice ao e.kids.len cap,.int .i64 e.a] 25
theorem Fc.allocP {P:Nat->Prop}{w:World}{f:Fs}{xs:List Value}(h:Fc w P f xs)(ob:Obj):Fc (w.alloc ob) P f xs:=h.mono (fun i hp hl=>Below.heap_alloc w ob i hl) (by simp) (fun _ h _=>h)
theorem Sl.freshP {w:World}{P:Nat->Prop}{f:Fs}(xs:List Value)(t:TypeId)(h:Fc w P f xs)(hp:P w.heap.size):Sl (w.alloc (.cells xs.toArray t)) P f (some ⟨w.heap.size,0,none⟩):=by
 refine Sl.of hp (by simp) (fun j u hu=>?_) (h.allocP _);rw[Nat.zero_add];rw[cell_of_row _ w.heap.size j _ t (0,0) (heap_alloc_new w _)];simpa using hu
theorem two_s {w:World}{P:Nat->Prop}(k:Nat)(at0:Int){a b:Ex}{aoa aob:Option Addr}{ca cb:Nat}(ha:Sl w P a.kids aoa)(hb:Sl w P b.kids aob)(hn:P (w.heap.size+1+1+1)) :
  Calls Tryz.prog 68 #[.int .i64 (k:Nat),.int .i64 at0,exV a aoa ca,exV b aob cb] w fun e w'=>∃ao cap,e=.returned (exV ⟨(k:Nat),0,[],at0,(one a).snoc b⟩ ao cap)/\Sl w' P ((one a).snoc b) ao/\Below w.heap.size w w':=by
 have s1:(w.alloc (bxE a aoa ca)).heap.size=w.heap.size+1:=by simp
 have s2:((w.alloc (bxE a aoa ca)).alloc (bxE b aob cb)).heap.size=w.heap.size+1+1:=by simp
 have s3:(((w.alloc (bxE a aoa ca)).alloc (bxE b aob cb)).alloc (bxE ⟨(k:Nat),0,[],at0,(one a).snoc b⟩ (some ⟨w.heap.size+1+1+1,0,none⟩) 2)).heap.size=w.heap.size+1+1+1:=by simp
 have hS:=Sl.freshP _ 25 (Fc.app (Fc.one (e:=a) ca (((ha.allocB (bxE a aoa ca)).allocB (bxE b aob cb)).allocB (bxE ⟨(k:Nat),0,[],at0,(one a).snoc b⟩ (some ⟨w.heap.size+1+1+1,0,none⟩) 2))) (Fc.one (e:=b) cb (((hb.allocB (bxE a aoa ca)).allocB (bxE b aob cb)).allocB (bxE ⟨(k:Nat),0,[],at0,(one a).snoc b⟩ (some ⟨w.heap.size+1+1+1,0,none⟩) 2)))) (by rw[s3];exact hn);have hZ:(((w.alloc (bxE a aoa ca)).alloc (bxE b aob cb)).alloc (bxE ⟨(k:Nat),0,[],at0,(one a).snoc b⟩ (some ⟨w.heap.size+1+1+1,0,none⟩) 2)).heap[w.heap.size+1+1]?=some (bxE ⟨(k:Nat),0,[],at0,(one a).snoc b⟩ (some ⟨w.heap.size+1+1+1,0,none⟩) 2):=by
  have:=heap_alloc_new ((w.alloc (bxE a aoa ca)).alloc (bxE b aob cb)) (bxE ⟨(k:Nat),0,[],at0,(one a).snoc b⟩ (some ⟨w.heap.size+1+1+1,0,none⟩) 2)
  rw[s2] at this;exact this
 have hZ2:=(Below.heap_alloc _ (.cells ([.int .i64 a.k,.int .i64 a.n,stv a.nm,.slice aoa a.kids.len ca,.int .i64 a.a]++[.int .i64 b.k,.int .i64 b.n,stv b.nm,.slice aob b.kids.len cb,.int .i64 b.a]).toArray 25) _ (lt_of_block hZ)).trans hZ;have hB:Below w.heap.size w ((((w.alloc (bxE a aoa ca)).alloc (bxE b aob cb)).alloc (bxE ⟨(k:Nat),0,[],at0,(one a).snoc b⟩ (some ⟨w.heap.size+1+1+1,0,none⟩) 2)).alloc (.cells ([.int .i64 a.k,.int .i64 a.n,stv a.nm,.slice aoa a.kids.len ca,.int .i64 a.a]++[.int .i64 b.k,.int .i64 b.n,stv b.nm,.slice aob b.kids.len cb,.int .i64 b.a]).toArray 25)):=((((Below.refl _ w).alloc (by omega) _).alloc (by omega) _).alloc (by omega) _).alloc (by omega) _;rw[s3] at hS;have l2:((one a).snoc b).len=2:=rfl;obtain⟨u0,u1,u2,u3,u4,-⟩:=box5 hZ2;have FIN:Hid (∀ wx,wx=((((w.alloc (bxE a aoa ca)).alloc (bxE b aob cb)).alloc (bxE ⟨(k:Nat),0,[],at0,(one a).snoc b⟩ (some ⟨w.heap.size+1+1+1,0,none⟩) 2)).alloc (.cells ([.int .i64 a.k,.int .i64 a.n,stv a.nm,.slice aoa a.kids.len ca,.int .i64 a.a]++[.int .i64 b.k,.int .i64 b.n,stv b.nm,.slice aob b.kids.len cb,.int .i64 b.a]).toArray 25))->Sl wx P ((one a).snoc b) (some ⟨w.heap.size+1+1+1,0,none⟩)/\Below w.heap.size w wx/\wx.cell? ⟨w.heap.size+1+1,0,none⟩=some (.int .i64 (k:Nat))/\wx.cell? ⟨w.heap.size+1+1,1,none⟩=some (.int .i64 0)/\wx.cell? ⟨w.heap.size+1+1,2,none⟩=some (stv [])/\wx.cell? ⟨w.heap.size+1+1,3,none⟩=some (.slice (some ⟨w.heap.size+1+1+1,0,none⟩) 2 2)/\wx.cell? ⟨w.heap.size+1+1,4,none⟩=some (.int .i64 at0)):=fun wx e=>by
  subst e;exact⟨hS,hB,u0,u1,u2,u3,u4⟩
 clear hS hB hZ hZ2 u0 u1 u2 u3 u4 s1 s2 s3 l2 ha hb;unfold exV;go_enter Tryz.func68,Tryz.ntmps68;go_wp2;obtain⟨f1,f2,u0,u1,u2,u3,u4⟩:=FIN.out _ rfl;exact bodyPost_ret (v:=exV ⟨(k:Nat),0,[],at0,(one a).snoc b⟩ (some ⟨w.heap.size+1+1+1,0,none⟩) 2) (by simp[results,Tryz.results68,go_sem,exV];rfl) rfl ⟨_,_,rfl,f1,f2⟩
def sgW:Nat->List (List UInt8)
 | 1=>[[111,114]]
 | 2=>[[97,110,100]]
 | 4=>[[61],[33,61],[60,61],[60]]
 | 5=>[[43],[45]]
 | _=>[[42],[47],[37]]
def sgK:Nat->List Nat
 | 1=>[18]
 | 2=>[17]
 | 4=>[13,14,16,15]
 | 5=>[8,9]
 | _=>[10,11,12]
def Sg (w:World)(row:Nat)(w':World)(g1 g2:Nat):Prop:=Wl w (sgW row) w' g1/\w.heap.size<=g2/\g2<w'.heap.size/\∀ j k,(sgK row)[j]?=some k->w'.cell? ⟨g2,j,none⟩=some (.int .i64 (k:Nat))
theorem sg_12 (w:World)(row:Nat)(t1 t2:TypeId):Sg w row ((w.alloc (.cells ((sgW row).map stv).toArray t1)).alloc (.cells ((sgK row).map (fun k=>Value.int .i64 (k:Nat))).toArray t2)) w.heap.size (w.heap.size+1):=by
 obtain⟨h1,h2,h3,h4⟩:=wl_new w (sgW row) t1;have hs:(w.alloc (.cells ((sgW row).map stv).toArray t1)).heap.size=w.heap.size+1:=by simp
 refine⟨⟨h1.alloc (by omega) _,h2,by simp;omega,fun j s hj=>?_⟩,by omega,by simp,fun j k hj=>?_⟩
 ·exact(World.cell?_of_block (a:=⟨w.heap.size,j,none⟩) (Below.heap_alloc _ _ _ h3)).trans (h4 j s hj)
 ·have hh:=heap_alloc_new (w.alloc (.cells ((sgW row).map stv).toArray t1)) (.cells ((sgK row).map (fun k=>Value.int .i64 (k:Nat))).toArray t2);rw[hs] at hh;rw[cell_of_row _ _ _ _ _ (0,0) hh];simp[hj]
theorem sg_21 (w:World)(row:Nat)(t1 t2:TypeId):Sg w row ((w.alloc (.cells ((sgK row).map (fun k=>Value.int .i64 (k:Nat))).toArray t2)).alloc (.cells ((sgW row).map stv).toArray t1)) (w.heap.size+1) w.heap.size:=by
 have hs:(w.alloc (.cells ((sgK row).map (fun k=>Value.int .i64 (k:Nat))).toArray t2)).heap.size=w.heap.size+1:=by simp
 obtain⟨h1,h2,h3,h4⟩:=wl_new (w.alloc (.cells ((sgK row).map (fun k=>Value.int .i64 (k:Nat))).toArray t2)) (sgW row) t1;rw[hs] at h2 h3 h4;have b1:Below w.heap.size w (w.alloc (.cells ((sgK row).map (fun k=>Value.int .i64 (k:Nat))).toArray t2)):=(Below.refl _ w).alloc (Nat.le_refl _) _;refine⟨⟨b1.trans (h1.mono (by omega)),by omega,h3,h4⟩,by omega,by omega,fun j k hj=>?_⟩;have hh:=heap_alloc_new w (.cells ((sgK row).map (fun k=>Value.int .i64 (k:Nat))).toArray t2);have hh2:=(Below.heap_alloc (w.alloc (.cells ((sgK row).map (fun k=>Value.int .i64 (k:Nat))).toArray t2)) (.cells ((sgW row).map stv).toArray t1) _ (lt_of_block hh)).trans hh;rw[cell_of_row _ _ _ _ _ (0,0) hh2];simp[hj]
theorem signs_s (w:World)(row n:Nat)(hr:row=1\/row=2\/row=4\/row=5\/row=6)(hn:n=(sgW row).length) :
  Calls Tryz.prog 66 #[.int .i64 (row:Nat)] w fun e w'=>∃g1 g2,e=.returned (.tuple #[.slice (some ⟨g1,0,none⟩) n n,.slice (some ⟨g2,0,none⟩) n n])/\Sg w row w' g1 g2:=by
 have H1:=Lib.hid (fun w2:World=>sg_12 w2 row 9 3);have H2:=Lib.hid (fun w2:World=>sg_21 w2 row 9 3);rcases hr with rfl|rfl|rfl|rfl|rfl
 all_goals
  subst hn;go_enter Tryz.func66,Tryz.ntmps66;go_wp2;go_ret2;exact⟨_,_,rfl,H1.out w⟩
end Go.Proofs.YtbjdkekhnajafaaGreatDoor

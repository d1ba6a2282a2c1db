import Derived.Test.YtbjdkekhnajafaaGreatDoorPrgD
set_option maxRecDepth 100000
set_option maxHeartbeats 8000000
namespace Go.Proofs.YtbjdkekhnajafaaGreatDoor
open Go.ChangeShapes Go.WideShapes Go.ChangeAt Go.RowKit
set_option linter.unusedVariables false
set_option linter.unusedSimpArgs false
theorem Dq {w:World}{b:Nat}{a0 a1:Value}{t:TypeId}(h:w.heap[b]?=some (.cells #[a0,a1] t (0,0)))(v0 v1:Value):((w.setCell ⟨b,0,none⟩ v0).setCell ⟨b,1,none⟩ v1).heap[b]?=some (.cells #[v0,v1] t (0,0)) :=
 (Blk.set (o:=fun _=>0) (i:=0) (Blk.set (o:=fun _=>0) (i:=0) ⟨h,rfl⟩ 0 v0) 1 v1).1
theorem Inw.nil {w:World}{P:Nat->Prop}:Inw w P (.slice none 0 0) []:=⟨none,0,rfl,.inl rfl⟩
theorem uZ (n:Int)(ks:List Int):aZ 20 n ks=clP n:=rfl
theorem mj (n:Int)(ks:List Int):aZ 21 n ks=qfP n:=rfl
theorem yM (k0 n:Int)(nm:List UInt8)(a:Int)(f:Fs)(ao:Option Addr)(cap:Nat)(w:World)(v:Value)(ks:List Int)(h:InA w v ks)(hl:ks.length<=4096) :
  Calls Tryz.prog 217 #[exN ⟨k0,n,nm,a,f⟩ ao cap,v] w (ry w (aZ k0 n ks)):=by
 have BB2:∀ o1 o2:Obj,Below w.heap.size w ((w.alloc o1).alloc o2):=fun o1 o2=>((Below.refl _ w).alloc (Nat.le_refl _) _).alloc (by simp) _;have BB3:∀ o1 o2 o3:Obj,Below w.heap.size w (((w.alloc o1).alloc o2).alloc o3):=fun o1 o2 o3=>(BB2 o1 o2).alloc (by simp;omega) _;have h0:=fun o1 o2=>h.below (BB2 o1 o2);have wk0:=fun o1 o2=>kF ((w.alloc o1).alloc o2) _ v ks 0 (by omega) (by omega) (h0 o1 o2);have wk1:=fun o1 o2=>kF ((w.alloc o1).alloc o2) _ v ks 1 (by omega) (by omega) (h0 o1 o2);obtain⟨av,cv,rfl,-⟩:=h;clear h0;rw[ah];simp only;obtain⟨p,hp⟩:∃p,p=aZ k0 n ks:=⟨_,rfl⟩
 rw[<-hp];have HPP:Hid (p=aZ k0 n ks):=hp;clear hp;by_cases hkk:(1<=k0/\k0<=3)\/(5<=k0/\k0<=26)
 case neg =>
  have hfm:aZ k0 n ks=([],0):=by
   unfold aZ
   repeat rw[if_neg (by omega)]
  have HP:Hid (p=([],0)):=HPP.out.trans hfm;have b1:∀ c:Int,(1<=c/\c<=3)\/(5<=c/\c<=26)->(k0==c)=false:=fun c hc=>by simp;omega
  have c1:=b1 1 (by omega);have c2:=b1 2 (by omega);have c3:=b1 3 (by omega);have c5:=b1 5 (by omega);have c6:=b1 6 (by omega);have c7:=b1 7 (by omega);have c8:=b1 8 (by omega);have c9:=b1 9 (by omega);have c10:=b1 10 (by omega);have c11:=b1 11 (by omega);have c12:=b1 12 (by omega);have c13:=b1 13 (by omega);have c14:=b1 14 (by omega);have c15:=b1 15 (by omega);have c16:=b1 16 (by omega);have c17:=b1 17 (by omega);have c18:=b1 18 (by omega);have c19:=b1 19 (by omega);have c20:=b1 20 (by omega);have c21:=b1 21 (by omega);have c22:=b1 22 (by omega);have c23:=b1 23 (by omega);have c24:=b1 24 (by omega);have c25:=b1 25 (by omega);have c26:=b1 26 (by omega);clear hkk b1 wk0 wk1 BB3 hfm;go_enter Tryz.func217,Tryz.ntmps217;go_wp2;exact bodyPost_ret (v:=.agg #[.slice none 0 0,.int .i64 0]) (by simp[results,Tryz.results217,go_sem]) rfl (by rw[HP.out];exact⟨_,rfl,Inw.nil,BB2 _ _⟩)
 case pos =>
 have hc:k0=1\/k0=2\/k0=3\/k0=5\/k0=6\/k0=7\/k0=8\/k0=9\/k0=10\/k0=11\/k0=12\/k0=13\/k0=14\/k0=15\/k0=16\/k0=17\/k0=18\/k0=19\/k0=20\/k0=21\/k0=22\/k0=23\/k0=24\/k0=25\/k0=26:=by omega
 clear hkk;go_enter Tryz.func217,Tryz.ntmps217;rcases hc with rfl|rfl|rfl|rfl|rfl|rfl|rfl|rfl|rfl|rfl|rfl|rfl|rfl|rfl|rfl|rfl|rfl|rfl|rfl|rfl|rfl|rfl|rfl|rfl|rfl
 ·clear wk0 wk1 BB3;have HP:Hid (p=([],1)):=HPP.out.trans rfl;clear HPP;go_wp2;exact bodyPost_ret (v:=.agg #[.slice none 0 0,.int .i64 1]) (by simp[results,Tryz.results217,go_sem]) rfl (by rw[HP.out];exact⟨_,rfl,Inw.nil,BB2 _ _⟩)
 ·clear wk0 wk1 BB3;have HP:Hid (p=([],2)):=HPP.out.trans rfl;clear HPP;go_wp2;exact bodyPost_ret (v:=.agg #[.slice none 0 0,.int .i64 2]) (by simp[results,Tryz.results217,go_sem]) rfl (by rw[HP.out];exact⟨_,rfl,Inw.nil,BB2 _ _⟩)
 ·clear wk0 wk1 BB3;have HP:Hid (p=([],3)):=HPP.out.trans rfl;clear HPP;go_wp2;exact bodyPost_ret (v:=.agg #[.slice none 0 0,.int .i64 3]) (by simp[results,Tryz.results217,go_sem]) rfl (by rw[HP.out];exact⟨_,rfl,Inw.nil,BB2 _ _⟩)
 ·clear wk0 wk1 BB3;have HP:Hid (p=([],3)):=HPP.out.trans rfl;clear HPP;go_wp2;exact bodyPost_ret (v:=.agg #[.slice none 0 0,.int .i64 3]) (by simp[results,Tryz.results217,go_sem]) rfl (by rw[HP.out];exact⟨_,rfl,Inw.nil,BB2 _ _⟩)
 ·clear wk0 wk1;have HP:Hid (p=([1],1)):=HPP.out.trans rfl;clear HPP;go_wp2;exact bodyPost_ret (v:=.agg #[.slice (some ⟨w.heap.size+1+1,0,none⟩) 1 1,.int .i64 1]) (by simp[results,Tryz.results217,go_sem]) rfl (by rw[HP.out];exact⟨_,rfl,aQ _ [1] _ _ _ (by simp) _ rfl (by show w.heap.size<=_;omega),BB3 _ _ _⟩)
 ·clear wk0 wk1;have HP:Hid (p=([2],2)):=HPP.out.trans rfl;clear HPP;go_wp2;exact bodyPost_ret (v:=.agg #[.slice (some ⟨w.heap.size+1+1,0,none⟩) 1 1,.int .i64 2]) (by simp[results,Tryz.results217,go_sem]) rfl (by rw[HP.out];exact⟨_,rfl,aQ _ [2] _ _ _ (by simp) _ rfl (by show w.heap.size<=_;omega),BB3 _ _ _⟩)
 ·clear wk0 wk1;have HP:Hid (p=([1,1],1)):=HPP.out.trans rfl;clear HPP;go_wp2;exact bodyPost_ret (v:=.agg #[.slice (some ⟨w.heap.size+1+1,0,none⟩) 2 2,.int .i64 1]) (by simp[results,Tryz.results217,go_sem]) rfl (by rw[HP.out];exact⟨_,rfl,aQ _ [1,1] _ _ _ (by simp) _ rfl (by show w.heap.size<=_;omega),BB3 _ _ _⟩)
 ·clear wk0 wk1;have HP:Hid (p=([1,1],1)):=HPP.out.trans rfl;clear HPP;go_wp2;exact bodyPost_ret (v:=.agg #[.slice (some ⟨w.heap.size+1+1,0,none⟩) 2 2,.int .i64 1]) (by simp[results,Tryz.results217,go_sem]) rfl (by rw[HP.out];exact⟨_,rfl,aQ _ [1,1] _ _ _ (by simp) _ rfl (by show w.heap.size<=_;omega),BB3 _ _ _⟩)
 ·clear wk0 wk1;have HP:Hid (p=([1,1],1)):=HPP.out.trans rfl;clear HPP;go_wp2;exact bodyPost_ret (v:=.agg #[.slice (some ⟨w.heap.size+1+1,0,none⟩) 2 2,.int .i64 1]) (by simp[results,Tryz.results217,go_sem]) rfl (by rw[HP.out];exact⟨_,rfl,aQ _ [1,1] _ _ _ (by simp) _ rfl (by show w.heap.size<=_;omega),BB3 _ _ _⟩)
 ·clear wk0 wk1;have HP:Hid (p=([1,1],1)):=HPP.out.trans rfl;clear HPP;go_wp2;exact bodyPost_ret (v:=.agg #[.slice (some ⟨w.heap.size+1+1,0,none⟩) 2 2,.int .i64 1]) (by simp[results,Tryz.results217,go_sem]) rfl (by rw[HP.out];exact⟨_,rfl,aQ _ [1,1] _ _ _ (by simp) _ rfl (by show w.heap.size<=_;omega),BB3 _ _ _⟩)
 ·clear wk0 wk1;have HP:Hid (p=([1,1],1)):=HPP.out.trans rfl;clear HPP;go_wp2;exact bodyPost_ret (v:=.agg #[.slice (some ⟨w.heap.size+1+1,0,none⟩) 2 2,.int .i64 1]) (by simp[results,Tryz.results217,go_sem]) rfl (by rw[HP.out];exact⟨_,rfl,aQ _ [1,1] _ _ _ (by simp) _ rfl (by show w.heap.size<=_;omega),BB3 _ _ _⟩)
 ·clear wk1;go_wp2_with fail;refine(wk0 _ _).mono ?_;rintro z w1 ⟨rfl,rfl⟩;clear wk0;have HP:Hid (p=([wkP ks 0,wkP ks 0],2)):=HPP.out.trans rfl;clear HPP;generalize wkP ks 0=kk at *;go_wp2;exact bodyPost_ret (v:=.agg #[.slice (some ⟨w.heap.size+1+1,0,none⟩) 2 2,.int .i64 2]) (by simp[results,Tryz.results217,go_sem]) rfl (by rw[HP.out];exact⟨_,rfl,aQ _ [kk,kk] _ _ _ (by simp) _ rfl (by show w.heap.size<=_;omega),BB3 _ _ _⟩)
 ·clear wk1;go_wp2_with fail;refine(wk0 _ _).mono ?_;rintro z w1 ⟨rfl,rfl⟩;clear wk0;have HP:Hid (p=([wkP ks 0,wkP ks 0],2)):=HPP.out.trans rfl;clear HPP;generalize wkP ks 0=kk at *;go_wp2;exact bodyPost_ret (v:=.agg #[.slice (some ⟨w.heap.size+1+1,0,none⟩) 2 2,.int .i64 2]) (by simp[results,Tryz.results217,go_sem]) rfl (by rw[HP.out];exact⟨_,rfl,aQ _ [kk,kk] _ _ _ (by simp) _ rfl (by show w.heap.size<=_;omega),BB3 _ _ _⟩)
 ·clear wk0 wk1;have HP:Hid (p=([1,1],2)):=HPP.out.trans rfl;clear HPP;go_wp2;exact bodyPost_ret (v:=.agg #[.slice (some ⟨w.heap.size+1+1,0,none⟩) 2 2,.int .i64 2]) (by simp[results,Tryz.results217,go_sem]) rfl (by rw[HP.out];exact⟨_,rfl,aQ _ [1,1] _ _ _ (by simp) _ rfl (by show w.heap.size<=_;omega),BB3 _ _ _⟩)
 ·clear wk0 wk1;have HP:Hid (p=([1,1],2)):=HPP.out.trans rfl;clear HPP;go_wp2;exact bodyPost_ret (v:=.agg #[.slice (some ⟨w.heap.size+1+1,0,none⟩) 2 2,.int .i64 2]) (by simp[results,Tryz.results217,go_sem]) rfl (by rw[HP.out];exact⟨_,rfl,aQ _ [1,1] _ _ _ (by simp) _ rfl (by show w.heap.size<=_;omega),BB3 _ _ _⟩)
 ·clear wk0 wk1;have HP:Hid (p=([2,2],2)):=HPP.out.trans rfl;clear HPP;go_wp2;exact bodyPost_ret (v:=.agg #[.slice (some ⟨w.heap.size+1+1,0,none⟩) 2 2,.int .i64 2]) (by simp[results,Tryz.results217,go_sem]) rfl (by rw[HP.out];exact⟨_,rfl,aQ _ [2,2] _ _ _ (by simp) _ rfl (by show w.heap.size<=_;omega),BB3 _ _ _⟩)
 ·clear wk0 wk1;have HP:Hid (p=([2,2],2)):=HPP.out.trans rfl;clear HPP;go_wp2;exact bodyPost_ret (v:=.agg #[.slice (some ⟨w.heap.size+1+1,0,none⟩) 2 2,.int .i64 2]) (by simp[results,Tryz.results217,go_sem]) rfl (by rw[HP.out];exact⟨_,rfl,aQ _ [2,2] _ _ _ (by simp) _ rfl (by show w.heap.size<=_;omega),BB3 _ _ _⟩)
 ·clear wk0;go_wp2_with fail;refine(wk1 _ _).mono ?_;rintro z w1 ⟨rfl,rfl⟩;clear wk1;have HP:Hid (p=([2,wkP ks 1,wkP ks 1],wkP ks 1)):=HPP.out.trans rfl;clear HPP;generalize wkP ks 1=kk at *;go_wp2;exact bodyPost_ret (v:=.agg #[.slice (some ⟨w.heap.size+1+1,0,none⟩) 3 3,.int .i64 kk]) (by simp[results,Tryz.results217,go_sem]) rfl (by rw[HP.out];exact⟨_,rfl,aQ _ [2,kk,kk] _ _ _ (by simp) _ rfl (by show w.heap.size<=_;omega),BB3 _ _ _⟩)
 ·clear wk0 wk1 BB3;have c1:=fun w=>rA n w;have HP0:Hid (p=clP n):=HPP.out.trans (uZ n ks);clear HPP;have hzb:((w.alloc (.cells #[.int .i64 20,.int .i64 n,stv nm,.slice ao f.len cap] 34)).alloc (.cells #[.slice none 0 0,.int .i64 0] 252)).heap[w.heap.size+1]?=some (.cells #[.slice none 0 0,.int .i64 0] 252):=by
   have:=heap_alloc_new (w.alloc (.cells #[.int .i64 20,.int .i64 n,stv nm,.slice ao f.len cap] 34)) (.cells #[.slice none 0 0,.int .i64 0] 252)
   simpa using this
  have B0:=BB2 (.cells #[.int .i64 20,.int .i64 n,stv nm,.slice ao f.len cap] 34) (.cells #[.slice none 0 0,.int .i64 0] 252);go_wp2_with fail;refine(c1 _).mono ?_;rintro z w1 ⟨lv,rfl,L1,B1⟩;have Z1:=(B1.block _ (lt_of_block hzb)).trans hzb;have hs0:((w.alloc (.cells #[.int .i64 20,.int .i64 n,stv nm,.slice ao f.len cap] 34)).alloc (.cells #[.slice none 0 0,.int .i64 0] 252)).heap.size=w.heap.size+2:=by simp
  rw[hs0] at L1 B1;have B2:Below w.heap.size w w1:=B0.trans (B1.mono (by omega));clear c1 B0 B1 hzb hs0 BB2;generalize clP n=pp at *;obtain⟨xs,kp⟩:=pp;simp only at L1 ⊢;obtain⟨al,cl,hlv,hlx⟩:=L1;have L1:Inw w1 (Nw (w.heap.size+2)) lv xs:=⟨al,cl,hlv,hlx⟩
  subst hlv;clear hlx;obtain⟨q0,q1,qf⟩:=eY Z1;have HU:Hid (∃wz,wz=(w1.setCell ⟨w.heap.size+1,0,none⟩ (.slice al xs.length cl)).setCell ⟨w.heap.size+1,1,none⟩ (.int .i64 kp)/\wz.heap[w.heap.size+1]?=some (.cells #[.slice al xs.length cl,.int .i64 kp] 252 (0,0))/\Inw wz (Nw w.heap.size) (.slice al xs.length cl) xs/\Below w.heap.size w wz) :=
   ⟨_,rfl,Dq Z1 _ _,L1.mono (fun k hk hl=>(heap_setCell_other _ _ k _ (by have hk:w.heap.size+2<=k:=hk;show k≠w.heap.size+1;omega)).trans (heap_setCell_other _ _ k _ (by have hk:w.heap.size+2<=k:=hk;show k≠w.heap.size+1;omega))) (by simp) (fun k hk _=>by have hk:w.heap.size+2<=k:=hk;show w.heap.size<=k;omega),(B2.setCell (p:=⟨w.heap.size+1,0,none⟩) (by show w.heap.size<=w.heap.size+1;omega) _).setCell (p:=⟨w.heap.size+1,1,none⟩) (by show w.heap.size<=w.heap.size+1;omega) _⟩
  clear L1 B2 Z1;go_wp2;obtain⟨wz,hwz,EZ,LZ,BZ⟩:=HU.out;rw[<-hwz];obtain⟨v0,v1,-⟩:=eY EZ;exact bodyPost_ret (v:=.agg #[.slice al xs.length cl,.int .i64 kp]) (by simp[results,Tryz.results217,go_sem,v0,v1]) rfl (by rw[HP0.out];exact⟨_,rfl,LZ,BZ⟩)
 ·clear wk0 wk1 BB3;have c1:=fun w=>qE n w;have HP0:Hid (p=qfP n):=HPP.out.trans (mj n ks);clear HPP;have hzb:((w.alloc (.cells #[.int .i64 21,.int .i64 n,stv nm,.slice ao f.len cap] 34)).alloc (.cells #[.slice none 0 0,.int .i64 0] 252)).heap[w.heap.size+1]?=some (.cells #[.slice none 0 0,.int .i64 0] 252):=by
   have:=heap_alloc_new (w.alloc (.cells #[.int .i64 21,.int .i64 n,stv nm,.slice ao f.len cap] 34)) (.cells #[.slice none 0 0,.int .i64 0] 252)
   simpa using this
  have B0:=BB2 (.cells #[.int .i64 21,.int .i64 n,stv nm,.slice ao f.len cap] 34) (.cells #[.slice none 0 0,.int .i64 0] 252);go_wp2_with fail;refine(c1 _).mono ?_;rintro z w1 ⟨lv,rfl,L1,B1⟩;have Z1:=(B1.block _ (lt_of_block hzb)).trans hzb;have hs0:((w.alloc (.cells #[.int .i64 21,.int .i64 n,stv nm,.slice ao f.len cap] 34)).alloc (.cells #[.slice none 0 0,.int .i64 0] 252)).heap.size=w.heap.size+2:=by simp
  rw[hs0] at L1 B1;have B2:Below w.heap.size w w1:=B0.trans (B1.mono (by omega));clear c1 B0 B1 hzb hs0 BB2;generalize qfP n=pp at *;obtain⟨xs,kp⟩:=pp;simp only at L1 ⊢;obtain⟨al,cl,hlv,hlx⟩:=L1;have L1:Inw w1 (Nw (w.heap.size+2)) lv xs:=⟨al,cl,hlv,hlx⟩
  subst hlv;clear hlx;obtain⟨q0,q1,qf⟩:=eY Z1;have HU:Hid (∃wz,wz=(w1.setCell ⟨w.heap.size+1,0,none⟩ (.slice al xs.length cl)).setCell ⟨w.heap.size+1,1,none⟩ (.int .i64 kp)/\wz.heap[w.heap.size+1]?=some (.cells #[.slice al xs.length cl,.int .i64 kp] 252 (0,0))/\Inw wz (Nw w.heap.size) (.slice al xs.length cl) xs/\Below w.heap.size w wz) :=
   ⟨_,rfl,Dq Z1 _ _,L1.mono (fun k hk hl=>(heap_setCell_other _ _ k _ (by have hk:w.heap.size+2<=k:=hk;show k≠w.heap.size+1;omega)).trans (heap_setCell_other _ _ k _ (by have hk:w.heap.size+2<=k:=hk;show k≠w.heap.size+1;omega))) (by simp) (fun k hk _=>by have hk:w.heap.size+2<=k:=hk;show w.heap.size<=k;omega),(B2.setCell (p:=⟨w.heap.size+1,0,none⟩) (by show w.heap.size<=w.heap.size+1;omega) _).setCell (p:=⟨w.heap.size+1,1,none⟩) (by show w.heap.size<=w.heap.size+1;omega) _⟩
  clear L1 B2 Z1;go_wp2;obtain⟨wz,hwz,EZ,LZ,BZ⟩:=HU.out;rw[<-hwz];obtain⟨v0,v1,-⟩:=eY EZ;exact bodyPost_ret (v:=.agg #[.slice al xs.length cl,.int .i64 kp]) (by simp[results,Tryz.results217,go_sem,v0,v1]) rfl (by rw[HP0.out];exact⟨_,rfl,LZ,BZ⟩)
 ·clear wk0 wk1 BB3;have HP:Hid (p=([],4)):=HPP.out.trans rfl;clear HPP;go_wp2;exact bodyPost_ret (v:=.agg #[.slice none 0 0,.int .i64 4]) (by simp[results,Tryz.results217,go_sem]) rfl (by rw[HP.out];exact⟨_,rfl,Inw.nil,BB2 _ _⟩)
 ·clear wk0 wk1 BB3;have HP:Hid (p=([],4)):=HPP.out.trans rfl;clear HPP;go_wp2;exact bodyPost_ret (v:=.agg #[.slice none 0 0,.int .i64 4]) (by simp[results,Tryz.results217,go_sem]) rfl (by rw[HP.out];exact⟨_,rfl,Inw.nil,BB2 _ _⟩)
 ·clear wk0 wk1;have HP:Hid (p=([3],4)):=HPP.out.trans rfl;clear HPP;go_wp2;exact bodyPost_ret (v:=.agg #[.slice (some ⟨w.heap.size+1+1,0,none⟩) 1 1,.int .i64 4]) (by simp[results,Tryz.results217,go_sem]) rfl (by rw[HP.out];exact⟨_,rfl,aQ _ [3] _ _ _ (by simp) _ rfl (by show w.heap.size<=_;omega),BB3 _ _ _⟩)
 ·clear wk0 wk1;have HP0:Hid (p=(List.replicate ks.length 3,4)):=HPP.out.trans rfl;clear HPP;have hzb:(((w.alloc (.cells #[.int .i64 25,.int .i64 n,stv nm,.slice ao f.len cap] 34)).alloc (.cells #[.slice none 0 0,.int .i64 0] 252)).alloc (.cells #[.int .i64 3] 3)).heap[w.heap.size+1]?=some (.cells #[.slice none 0 0,.int .i64 0] 252):=by
   refine(Below.heap_alloc _ _ _ (by simp)).trans ?_
   have:=heap_alloc_new (w.alloc (.cells #[.int .i64 25,.int .i64 n,stv nm,.slice ao f.len cap] 34)) (.cells #[.slice none 0 0,.int .i64 0] 252)
   simpa using this
  have hlc:(((w.alloc (.cells #[.int .i64 25,.int .i64 n,stv nm,.slice ao f.len cap] 34)).alloc (.cells #[.slice none 0 0,.int .i64 0] 252)).alloc (.cells #[.int .i64 3] 3)).heap[w.heap.size+1+1]?=some (.cells #[.int .i64 3] 3):=by
   have:=heap_alloc_new ((w.alloc (.cells #[.int .i64 25,.int .i64 n,stv nm,.slice ao f.len cap] 34)).alloc (.cells #[.slice none 0 0,.int .i64 0] 252)) (.cells #[.int .i64 3] 3)
   simpa using this
  have c1:=yv (((w.alloc (.cells #[.int .i64 25,.int .i64 n,stv nm,.slice ao f.len cap] 34)).alloc (.cells #[.slice none 0 0,.int .i64 0] 252)).alloc (.cells #[.int .i64 3] 3)) (w.heap.size+1+1) 0 1 ks.length (by omega) (lt_of_block hlc) (by rw[cell_of_row _ _ _ _ _ _ hlc];rfl);have B0:=BB3 (.cells #[.int .i64 25,.int .i64 n,stv nm,.slice ao f.len cap] 34) (.cells #[.slice none 0 0,.int .i64 0] 252) (.cells #[.int .i64 3] 3);clear BB3 BB2 hlc;go_wp2_with fail;refine c1.mono ?_;rintro z w1 ⟨lv,rfl,L1,B1⟩;have Z1:=(B1.block _ (lt_of_block hzb)).trans hzb;have hs0:(((w.alloc (.cells #[.int .i64 25,.int .i64 n,stv nm,.slice ao f.len cap] 34)).alloc (.cells #[.slice none 0 0,.int .i64 0] 252)).alloc (.cells #[.int .i64 3] 3)).heap.size=w.heap.size+3:=by simp
  rw[hs0] at L1 B1;have B2:Below w.heap.size w w1:=B0.trans (B1.mono (by omega));clear c1 B0 B1 hzb hs0;generalize List.replicate ks.length (3:Int)=xs at *;obtain⟨al,cl,hlv,hlx⟩:=L1;have L1:Inw w1 (Nw (w.heap.size+3)) lv xs:=⟨al,cl,hlv,hlx⟩
  subst hlv;clear hlx;obtain⟨q0,q1,qf⟩:=eY Z1;have HU:Hid (∃wz,wz=(w1.setCell ⟨w.heap.size+1,0,none⟩ (.slice al xs.length cl)).setCell ⟨w.heap.size+1,1,none⟩ (.int .i64 4)/\wz.heap[w.heap.size+1]?=some (.cells #[.slice al xs.length cl,.int .i64 4] 252 (0,0))/\Inw wz (Nw w.heap.size) (.slice al xs.length cl) xs/\Below w.heap.size w wz) :=
   ⟨_,rfl,Dq Z1 _ _,L1.mono (fun k hk hl=>(heap_setCell_other _ _ k _ (by have hk:w.heap.size+3<=k:=hk;show k≠w.heap.size+1;omega)).trans (heap_setCell_other _ _ k _ (by have hk:w.heap.size+3<=k:=hk;show k≠w.heap.size+1;omega))) (by simp) (fun k hk _=>by have hk:w.heap.size+3<=k:=hk;show w.heap.size<=k;omega),(B2.setCell (p:=⟨w.heap.size+1,0,none⟩) (by show w.heap.size<=w.heap.size+1;omega) _).setCell (p:=⟨w.heap.size+1,1,none⟩) (by show w.heap.size<=w.heap.size+1;omega) _⟩
  clear L1 B2 Z1;go_wp2;obtain⟨wz,hwz,EZ,LZ,BZ⟩:=HU.out;rw[<-hwz];obtain⟨v0,v1,-⟩:=eY EZ;exact bodyPost_ret (v:=.agg #[.slice al xs.length cl,.int .i64 4]) (by simp[results,Tryz.results217,go_sem,v0,v1]) rfl (by rw[HP0.out];exact⟨_,rfl,LZ,BZ⟩)
 ·clear wk1;go_wp2_with fail;refine(wk0 _ _).mono ?_;rintro z w1 ⟨rfl,rfl⟩;clear wk0;have HP:Hid (p=([wkP ks 0],wkP ks 0)):=HPP.out.trans rfl;clear HPP;generalize wkP ks 0=kk at *;go_wp2;exact bodyPost_ret (v:=.agg #[.slice (some ⟨w.heap.size+1+1,0,none⟩) 1 1,.int .i64 kk]) (by simp[results,Tryz.results217,go_sem]) rfl (by rw[HP.out];exact⟨_,rfl,aQ _ [kk] _ _ _ (by simp) _ rfl (by show w.heap.size<=_;omega),BB3 _ _ _⟩)
def gQ (x : Value) (k : Int) : Prop := ∃ ty v, x = .iface ty v ∧ ∀ (d : Nat) (w : World), d = Tryz.prog.types.size + Made.depth → (method d ty v "isthmus/plan.kind").run Tryz.prog w = .ok (325, .agg #[.int .i64 k]) w
theorem px (k:Int)(w:World):Calls Tryz.prog 325 #[.agg #[.int .i64 k]] w fun x w'=>x=.returned (.int .i64 k)/\Below w.heap.size w w':=by
 have B0:∀ o:Obj,Below w.heap.size w (w.alloc o):=fun o=>(Below.refl _ w).alloc (Nat.le_refl _) _;go_enter Tryz.func325,Tryz.ntmps325;go_wp2;go_ret;exact⟨rfl,B0 _⟩
def PKs (w:World)(v:Value)(n:Nat):Prop:=∃ak ck,v=.slice ak n ck/\(n=0\/∃b off,ak=some ⟨b,off,none⟩/\b<w.heap.size/\∀ j,j<n->∃ty u,w.cell? ⟨b,off+j,none⟩=some (.iface ty u))
theorem jG (k:Int)(n:Int):gQ (.iface 303 (.agg #[.int .i64 k,.int .i64 n])) k:=⟨_,_,rfl,fun d w h=>by subst h;kernel_rfl⟩
theorem rn (k:Int)(n:Int):gQ (.iface 305 (.agg #[.int .i64 k,.int .i64 n])) k:=⟨_,_,rfl,fun d w h=>by subst h;kernel_rfl⟩
theorem n8 (k:Int)(n:Int):gQ (.iface 307 (.agg #[.int .i64 k,.int .i64 n])) k:=⟨_,_,rfl,fun d w h=>by subst h;kernel_rfl⟩
theorem mK (k:Int)(n:Int)(a:Option Addr)(l c:Nat):gQ (.iface 326 (.agg #[.int .i64 k,.int .i64 n,.slice a l c])) k:=⟨_,_,rfl,fun d w h=>by subst h;kernel_rfl⟩
theorem gj (k:Int)(n:Int)(t1 t2:TypeId)(u1 u2:Value):gQ (.iface 309 (.agg #[.int .i64 k,.int .i64 n,.iface t1 u1,.iface t2 u2])) k:=⟨_,_,rfl,fun d w h=>by subst h;kernel_rfl⟩
theorem qN (k:Int)(t1 t2 t3:TypeId)(u1 u2 u3:Value):gQ (.iface 311 (.agg #[.int .i64 k,.iface t1 u1,.iface t2 u2,.iface t3 u3])) k:=⟨_,_,rfl,fun d w h=>by subst h;kernel_rfl⟩
theorem yj (k:Int)(n:Int)(a:Option Addr)(l c:Nat):gQ (.iface 313 (.agg #[.int .i64 k,.int .i64 n,.slice a l c])) k:=⟨_,_,rfl,fun d w h=>by subst h;kernel_rfl⟩
theorem mA (k:Int)(n m:Int)(t1 t2:TypeId)(u1 u2:Value):gQ (.iface 315 (.agg #[.int .i64 k,.int .i64 n,.int .i64 m,.iface t1 u1,.iface t2 u2])) k:=⟨_,_,rfl,fun d w h=>by subst h;kernel_rfl⟩
theorem xq (k:Int)(n:Int)(t1:TypeId)(u1:Value):gQ (.iface 317 (.agg #[.int .i64 k,.int .i64 n,.iface t1 u1])) k:=⟨_,_,rfl,fun d w h=>by subst h;kernel_rfl⟩
theorem qV (k:Int) :gQ (.iface 319 (.agg #[.int .i64 k])) k:=⟨_,_,rfl,fun d w h=>by subst h;kernel_rfl⟩
theorem oG (k:Int)(s:ByteArray):gQ (.iface 321 (.agg #[.int .i64 k,.string s])) k:=⟨_,_,rfl,fun d w h=>by subst h;kernel_rfl⟩
theorem mP (k:Int)(t1:TypeId)(u1:Value):gQ (.iface 323 (.agg #[.int .i64 k,.iface t1 u1])) k:=⟨_,_,rfl,fun d w h=>by subst h;kernel_rfl⟩
theorem pz (k:Int)(a:Option Addr)(l c:Nat):gQ (.iface 325 (.agg #[.int .i64 k,.slice a l c])) k:=⟨_,_,rfl,fun d w h=>by subst h;kernel_rfl⟩
theorem Cd (k0 n:Int)(nm:List UInt8)(f:Fs)(ao:Option Addr)(cap:Nat)(t:Int)(kv:Value)(nk:Nat)(ar:Int)(w:World)(hk:PKs w kv nk)(h2:k0=17\/k0=18\/k0=21->nk=2)(h3:k0=19->nk=3)(h1:k0=24\/k0=26->nk=1) :
  Calls Tryz.prog 220 #[.agg #[.int .i64 k0,.int .i64 n,stv nm,.slice ao f.len cap],.agg #[.int .i64 t],kv,.int .i64 ar] w fun x w'=>(∃v,x=.returned v/\gQ v t)/\Below w.heap.size w w':=by
 obtain⟨w0,hw0⟩:∃w0,w0=(w.alloc (.cells #[.int .i64 k0,.int .i64 n,stv nm,.slice ao f.len cap] 34)).alloc (.cells #[.int .i64 t] 256):=⟨_,rfl⟩
 have B0:Below w.heap.size w w0:=by rw[hw0];exact((Below.refl _ w).alloc (Nat.le_refl _) _).alloc (by simp) _
 have E0:w0.heap[w.heap.size]?=some (.cells #[.int .i64 k0,.int .i64 n,stv nm,.slice ao f.len cap] 34):=by
  rw[hw0];exact(Below.heap_alloc _ _ _ (by simp)).trans (heap_alloc_new w _)
 have T0:w0.heap[w.heap.size+1]?=some (.cells #[.int .i64 t] 256):=by
  rw[hw0]
  have:=heap_alloc_new (w.alloc (.cells #[.int .i64 k0,.int .i64 n,stv nm,.slice ao f.len cap] 34)) (.cells #[.int .i64 t] 256)
  simpa using this
 obtain⟨ak,ck,rfl,hk⟩:=hk;go_enter Tryz.func220,Tryz.ntmps220;go_upto_region 1 with fail;rw[<-hw0];obtain⟨bx,hbx⟩:∃bx,bx=w.heap.size:=⟨_,rfl⟩
 rw[<-hbx] at E0 T0 B0 ⊢;have HB:Hid (bx=w.heap.size):=hbx;clear hw0;obtain⟨p0,p1,p2,p3,pf⟩:=aI E0;have t0:w0.cell? ⟨bx+1,0,none⟩=some (.int .i64 t):=by rw[cell_of_row _ _ _ _ _ _ T0];rfl
 have tf:∀ j,w0.frozen? ⟨bx+1,j,none⟩=false:=fun j=>frozen_of_row w0 (bx+1) j _ _ T0;have bdr:∀ m,Below bx w (w0.drewN m):=fun m=>B0.trans ⟨rfl,rfl,rfl,Nat.le_refl _,fun _ _=>rfl⟩;have hkc:Hid (∀ j,j<nk->∃b off ty u,ak=some ⟨b,off,none⟩/\w0.cell? ⟨b,off+j,none⟩=some (.iface ty u)):=by
  intro j hj;rcases hk with hk|⟨b,off,rfl,hb,hc⟩
  ·omega
  ·obtain⟨ty,u,hu⟩:=hc j hj;exact⟨b,off,ty,u,rfl,(B0.cell (p:=⟨b,off+j,none⟩) (by rw[hbx];exact hb)).trans hu⟩
 clear hk hbx E0 T0;by_cases e1:k0=1
 ·subst e1;clear hkc h1 h2 h3;go_wp2;refine bodyPost_ret (v:=.iface 303 (.agg #[.int .i64 t,.int .i64 n])) (by simp[results,Tryz.results220,go_sem]) rfl ⟨⟨_,rfl,jG _ _⟩,?_⟩;rw[<-HB.out];exact B0
 have b1:(k0==1)=false:=by simpa using e1
 by_cases e2:k0=2
 ·subst e2;clear hkc h1 h2 h3;go_wp2;refine bodyPost_ret (v:=.iface 303 (.agg #[.int .i64 t,.int .i64 n])) (by simp[results,Tryz.results220,go_sem]) rfl ⟨⟨_,rfl,jG _ _⟩,?_⟩;rw[<-HB.out];exact B0
 have b2:(k0==2)=false:=by simpa using e2
 by_cases e3:k0=3
 ·subst e3;clear hkc h1 h2 h3;go_wp2;refine bodyPost_ret (v:=.iface 305 (.agg #[.int .i64 t,.int .i64 n])) (by simp[results,Tryz.results220,go_sem]) rfl ⟨⟨_,rfl,rn _ _⟩,?_⟩;rw[<-HB.out];exact B0
 have b3:(k0==3)=false:=by simpa using e3
 by_cases e5:k0=5
 ·subst e5;clear hkc h1 h2 h3;go_wp2;refine bodyPost_ret (v:=.iface 307 (.agg #[.int .i64 t,.int .i64 n])) (by simp[results,Tryz.results220,go_sem]) rfl ⟨⟨_,rfl,n8 _ _⟩,?_⟩;rw[<-HB.out];exact B0
 have b5:(k0==5)=false:=by simpa using e5
 by_cases e17:k0=17
 ·subst e17;have hnk:nk=2:=h2 (.inl rfl);subst hnk;obtain⟨b,off,t1,u1,rfl,x0⟩:=hkc.out 0 (by omega);obtain⟨b1,off1,t2,u2,hj1,x1⟩:=hkc.out 1 (by omega);injection hj1 with hj1
  injection hj1 with hja1 hjb1
  subst hja1;subst hjb1;simp only[Nat.add_zero] at x0;clear hkc h1 h2 h3;go_wp2_with fail
  go_quiet (fail)
  have BD:=bdr nq;go_wp2;refine bodyPost_ret (v:=.iface 309 (.agg #[.int .i64 t,.int .i64 0,.iface t1 u1,.iface t2 u2])) (by simp[results,Tryz.results220,go_sem]) rfl ⟨⟨_,rfl,gj _ _ _ _ _ _⟩,?_⟩;rw[<-HB.out];exact BD
 have b17:(k0==17)=false:=by simpa using e17
 by_cases e18:k0=18
 ·subst e18;have hnk:nk=2:=h2 (.inr (.inl rfl));subst hnk;obtain⟨b,off,t1,u1,rfl,x0⟩:=hkc.out 0 (by omega);obtain⟨b1,off1,t2,u2,hj1,x1⟩:=hkc.out 1 (by omega);injection hj1 with hj1
  injection hj1 with hja1 hjb1
  subst hja1;subst hjb1;simp only[Nat.add_zero] at x0;clear hkc h1 h2 h3;go_wp2_with fail
  go_quiet (fail)
  have BD:=bdr nq;go_wp2;refine bodyPost_ret (v:=.iface 309 (.agg #[.int .i64 t,.int .i64 1,.iface t1 u1,.iface t2 u2])) (by simp[results,Tryz.results220,go_sem]) rfl ⟨⟨_,rfl,gj _ _ _ _ _ _⟩,?_⟩;rw[<-HB.out];exact BD
 have b18:(k0==18)=false:=by simpa using e18
 by_cases e19:k0=19
 ·subst e19;have hnk:nk=3:=h3 rfl;subst hnk;obtain⟨b,off,t1,u1,rfl,x0⟩:=hkc.out 0 (by omega);obtain⟨b1,off1,t2,u2,hj1,x1⟩:=hkc.out 1 (by omega);injection hj1 with hj1
  injection hj1 with hja1 hjb1
  subst hja1;subst hjb1;obtain⟨b2,off2,t3,u3,hj2,x2⟩:=hkc.out 2 (by omega);injection hj2 with hj2
  injection hj2 with hja2 hjb2
  subst hja2;subst hjb2;simp only[Nat.add_zero] at x0;clear hkc h1 h2 h3;go_wp2_with fail
  go_quiet (fail)
  have BD:=bdr nq;go_wp2;refine bodyPost_ret (v:=.iface 311 (.agg #[.int .i64 t,.iface t1 u1,.iface t2 u2,.iface t3 u3])) (by simp[results,Tryz.results220,go_sem]) rfl ⟨⟨_,rfl,qN _ _ _ _ _ _ _⟩,?_⟩;rw[<-HB.out];exact BD
 have b19:(k0==19)=false:=by simpa using e19
 by_cases e20:k0=20
 ·subst e20;clear hkc h1 h2 h3;go_wp2;refine bodyPost_ret (v:=.iface 313 (.agg #[.int .i64 t,.int .i64 n,.slice ak nk ck])) (by simp[results,Tryz.results220,go_sem]) rfl ⟨⟨_,rfl,yj _ _ _ _ _⟩,?_⟩;rw[<-HB.out];exact B0
 have b20:(k0==20)=false:=by simpa using e20
 by_cases e21:k0=21
 ·subst e21;have hnk:nk=2:=h2 (.inr (.inr rfl));subst hnk;obtain⟨b,off,t1,u1,rfl,x0⟩:=hkc.out 0 (by omega);obtain⟨b1,off1,t2,u2,hj1,x1⟩:=hkc.out 1 (by omega);injection hj1 with hj1
  injection hj1 with hja1 hjb1
  subst hja1;subst hjb1;simp only[Nat.add_zero] at x0;clear hkc h1 h2 h3;go_wp2_with fail
  go_quiet (fail)
  have BD:=bdr nq;go_wp2;refine bodyPost_ret (v:=.iface 315 (.agg #[.int .i64 t,.int .i64 n,.int .i64 ar,.iface t1 u1,.iface t2 u2])) (by simp[results,Tryz.results220,go_sem]) rfl ⟨⟨_,rfl,mA _ _ _ _ _ _ _⟩,?_⟩;rw[<-HB.out];exact BD
 have b21:(k0==21)=false:=by simpa using e21
 by_cases e26:k0=26
 ·subst e26;have hnk:nk=1:=h1 (.inr rfl);subst hnk;obtain⟨b,off,t1,u1,rfl,x0⟩:=hkc.out 0 (by omega);simp only[Nat.add_zero] at x0;clear hkc h1 h2 h3;go_wp2_with fail
  go_quiet (fail)
  have BD:=bdr nq;go_wp2;refine bodyPost_ret (v:=.iface 317 (.agg #[.int .i64 t,.int .i64 n,.iface t1 u1])) (by simp[results,Tryz.results220,go_sem]) rfl ⟨⟨_,rfl,xq _ _ _ _⟩,?_⟩;rw[<-HB.out];exact BD
 have b26:(k0==26)=false:=by simpa using e26
 by_cases e22:k0=22
 ·subst e22;clear hkc h1 h2 h3;go_wp2;refine bodyPost_ret (v:=.iface 319 (.agg #[.int .i64 t])) (by simp[results,Tryz.results220,go_sem]) rfl ⟨⟨_,rfl,qV _⟩,?_⟩;rw[<-HB.out];exact B0
 have b22:(k0==22)=false:=by simpa using e22
 by_cases e23:k0=23
 ·subst e23;clear hkc h1 h2 h3;go_wp2;refine bodyPost_ret (v:=.iface 321 (.agg #[.int .i64 t,stv nm])) (by simp[results,Tryz.results220,go_sem]) rfl ⟨⟨_,rfl,oG _ _⟩,?_⟩;rw[<-HB.out];exact B0
 have b23:(k0==23)=false:=by simpa using e23
 by_cases e24:k0=24
 ·subst e24;have hnk:nk=1:=h1 (.inl rfl);subst hnk;obtain⟨b,off,t1,u1,rfl,x0⟩:=hkc.out 0 (by omega);simp only[Nat.add_zero] at x0;clear hkc h1 h2 h3;go_wp2_with fail
  go_quiet (fail)
  have BD:=bdr nq;go_wp2;refine bodyPost_ret (v:=.iface 323 (.agg #[.int .i64 t,.iface t1 u1])) (by simp[results,Tryz.results220,go_sem]) rfl ⟨⟨_,rfl,mP _ _ _⟩,?_⟩;rw[<-HB.out];exact BD
 have b24:(k0==24)=false:=by simpa using e24
 by_cases e25:k0=25
 ·subst e25;clear hkc h1 h2 h3;go_wp2;refine bodyPost_ret (v:=.iface 325 (.agg #[.int .i64 t,.slice ak nk ck])) (by simp[results,Tryz.results220,go_sem]) rfl ⟨⟨_,rfl,pz _ _ _ _⟩,?_⟩;rw[<-HB.out];exact B0
 have b25:(k0==25)=false:=by simpa using e25
 clear hkc h1 h2 h3;go_wp2;refine bodyPost_ret (v:=.iface 326 (.agg #[.int .i64 t,.int .i64 k0,.slice ak nk ck])) (by simp[results,Tryz.results220,go_sem]) rfl ⟨⟨_,rfl,mK _ _ _ _ _⟩,?_⟩;rw[<-HB.out];exact B0
def wgF:Fs->Int->Int
 | ⟨none⟩,l=>l
 | ⟨some ⟨_,_,_,_,ks,r⟩⟩,l=>if l<0 then l else wgF r (wgF ks (l-1))
theorem xC (k n:Int)(nm:List UInt8)(a:Int)(ks r:Fs)(l:Int):wgF (.cons k n nm a ks r) l=if l<0 then l else wgF r (wgF ks (l-1)):=rfl
theorem tE:∀ (f:Fs) (l:Int),l<0->wgF f l=l
 | ⟨none⟩,l,h=>rfl
 | ⟨some ⟨k,n,nm,a,ks,r⟩⟩,l,h=>by simp only[wgF,h,if_true]
theorem lQ:∀ (f:Fs) (l:Int),0<=wgF f l->wgF f l=l-(f.size:Nat)
 | ⟨none⟩,l,h=>by show l=l-((0:Nat):Int);omega
 | ⟨some ⟨k,n,nm,a,ks,r⟩⟩,l,h=>by
  have e:wgF ⟨some ⟨k,n,nm,a,ks,r⟩⟩ l=if l<0 then l else wgF r (wgF ks (l-1)):=rfl;rw[e] at h ⊢;split at h
  ·omega
  ·rename_i hl
   rw[if_neg hl];have h1:=lQ r _ h;by_cases h2:wgF ks (l-1)<0
   ·rw[tE r _ h2] at h;omega
   ·have h3:=lQ ks (l-1) (by omega);show _=l-((ks.size+r.size+1:Nat):Int);omega
theorem rO:∀ (f:Fs) (l:Int),-1<=l->-1<=wgF f l/\wgF f l<=l
 | ⟨none⟩,l,h=>⟨h,Int.le_refl _⟩
 | ⟨some ⟨k,n,nm,a,ks,r⟩⟩,l,h=>by
  have e:wgF ⟨some ⟨k,n,nm,a,ks,r⟩⟩ l=if l<0 then l else wgF r (wgF ks (l-1)):=rfl;rw[e];split
  ·exact⟨h,Int.le_refl _⟩
  ·have h1:=rO ks (l-1) (by omega);have h2:=rO r _ h1.1;exact⟨h2.1,by omega⟩
def Fs.wide:Fs->Prop
 | ⟨none⟩=>True
 | ⟨some ⟨_,_,_,_,ks,r⟩⟩=>ks.len<=maxLen/\ks.wide/\r.wide
theorem Fs.app_wide:∀ {x y:Fs},(x.app y).wide->y.wide
 | ⟨none⟩,y,h=>h
 | ⟨some ⟨k,n,nm,a,ks,r⟩⟩,y,h=>Fs.app_wide (x:=r) h.2.2
def mu (N:Nat):Prop:=∀ (e:Ex) (ao:Option Addr) (cap:Nat) (l:Int) (w:World),e.kids.size<N->e.kids.len<=maxLen->e.kids.wide->0<=l->l<=1000000->SnA w e.kids ao ->
 Calls Tryz.prog 38 #[exN e ao cap,.int .i64 l] w fun x w'=>x=.returned (.int .i64 (wgF e.kids (l-1)))/\Below w.heap.size w w'
theorem p8 {N:Nat}(IH:mu N):mu (N+1):=by
 intro e ao cap l w hN hlen hwd hl0 hl1 S;obtain⟨W,hW⟩:∃W,W=wgF e.kids (l-1):=⟨_,rfl⟩
 rw[<-hW];have HW:Hid (W=wgF e.kids (l-1)):=hW;have hml:Hid (maxLen=9223372036854775807):=rfl;have hlm:e.kids.len<=9223372036854775807:=by have:=hml.out;omega
 clear hW;have B0:Below w.heap.size w (w.alloc (.cells #[.int .i64 e.k,.int .i64 e.n,stv e.nm,.slice ao e.kids.len cap] 34)):=(Below.refl _ w).alloc (Nat.le_refl _) _;have E0:(w.alloc (.cells #[.int .i64 e.k,.int .i64 e.n,stv e.nm,.slice ao e.kids.len cap] 34)).heap[w.heap.size]?=some (.cells #[.int .i64 e.k,.int .i64 e.n,stv e.nm,.slice ao e.kids.len cap] 34):=heap_alloc_new w _;rw[ah];go_enter Tryz.func38,Tryz.ntmps38;go_upto_region 1 with fail;generalize w.alloc (.cells #[.int .i64 e.k,.int .i64 e.n,stv e.nm,.slice ao e.kids.len cap] 34)=w0 at *;obtain⟨bx,hbx⟩:∃bx,bx=w.heap.size:=⟨_,rfl⟩
 rw[<-hbx] at E0 B0 ⊢;have HB:Hid (bx=w.heap.size):=hbx;clear hbx;go_wp2;go_loopw [1,5] (fun v1 v5 wr=>∃(done r:Fs) (c:Int),Hid (e.kids=done.app r)/\v1=.int .i64 c/\v5=.int .i64 (done.len:Nat)/\-1<=c/\c<=1000000/\Hid (wgF r c=W)/\wr.heap[bx]?=some (.cells #[.int .i64 e.k,.int .i64 e.n,stv e.nm,.slice ao e.kids.len cap] 34)/\Below bx w wr) (fun _ v5 _=>e.kids.len-(intOf v5).toNat)
 case atStart=>exact⟨.nil,e.kids,l-1,rfl,rfl,by show _=Value.int .i64 ((0:Nat):Int);rfl,by omega,by omega,HW.out.symm,E0,B0⟩
 case round =>
  clear E0 B0 HW;obtain⟨done,r,c,hk,rfl,rfl,hc0,hc1,HA,E1,B1⟩:=hrel;have hlk:e.kids.len=done.len+r.len:=by rw[hk.out,Fs.len_app]
  obtain⟨p0,p1,p2,p3,pf⟩:=aI E1;cases r using Fs.on with
  | nil =>
   have hlt:¬(done.len:Int)<(e.kids.len:Int):=by simp only[Fs.len] at hlk;omega
   have FIN:Hid (W=c):=HA.out.symm;clear HA hlk;go_wp2;go_ret;rw[FIN.out];exact⟨rfl,by rw[<-HB.out];exact B1⟩
  | cons kk kn km ka kks kr =>
   have hlt:(done.len:Int)<(e.kids.len:Int):=by simp only[Fs.len] at hlk;omega
   have hl3:done.len<e.kids.len:=by omega
   by_cases hc:c<0
   ·have hcI:¬(0:Int)<=c:=by omega
    have FIN:Hid (W=c):=by show W=c;rw[<-HA.out];exact tE _ _ hc
    clear HA hlk;go_wp2;go_ret;rw[FIN.out];exact⟨rfl,by rw[<-HB.out];exact B1⟩
   ·have hcI:(0:Int)<=c:=by omega
    have hsz:e.kids.size=done.size+(kks.size+kr.size+1):=by rw[hk.out,Fs.size_app];rfl
    have hwk:(Fs.cons kk kn km ka kks kr).wide:=Fs.app_wide (x:=done) (by rw[<-hk.out];exact hwd);obtain⟨b,off,ak,ck,hao,lb1,-,x0,x1,x2,x3,SK⟩:=SlN.kidQ (by rw[<-hk.out];exact SnA.below S (by rw[<-HB.out];exact B1));subst hao;have hcc:=IH ⟨kk,kn,km,ka,kks⟩ ak ck c wr (by show kks.size<N;omega) hwk.1 hwk.2.1 hcI (by omega) SK;rw[ah] at hcc;simp only at hcc;have hbd:=rO kks (c-1) (by omega);have HA2:Hid (wgF kr (wgF kks (c-1))=W):=by show _=W;rw[<-HA.out,xC,if_neg hc]
    have hk2:Hid (e.kids=(done.snoc ⟨kk,kn,km,ka,kks⟩).app kr):=by show e.kids=_;rw[hk.out];unfold Fs.snoc;rw[Fs.app_assoc];rfl
    have hl2:(done.len:Int)+1=((done.snoc ⟨kk,kn,km,ka,kks⟩).len:Nat):=by rw[Fs.len_snoc];rfl
    generalize wgF kks (c-1)=c2 at *;clear HA hlk hsz hwk SK hk;go_wp2_with fail;refine hcc.mono ?_;rintro x w2 ⟨rfl,b2⟩;have B2:=B1.trans (b2.mono (by have:=lt_of_block E1;omega));have E2:=(b2.block bx (lt_of_block E1)).trans E1;clear hcc x0 x1 x2 x3 p0 p1 p2 p3 pf b2 E1 B1;go_wp2;go_roundw
    case rel=>exact⟨_,kr,c2,hk2,rfl,by rw[<-hl2],hbd.1,by omega,HA2,E2,B2⟩
    case measure=>simp[intOf];omega
theorem mY:∀ N,mu N -- 38
 | 0=>fun e ao cap l w h=>absurd h (Nat.not_lt_zero _)
 | N+1=>p8 (mY N)
def iK (N:Nat):Prop:=∀ (e e2:Ex) (ao ao2:Option Addr) (cap cap2:Nat) (w:World),e.kids.size<N->e.kids.len<=1000000000->e.kids.short->e2.kids.len<=1000000000->e2.kids.short->SnA w e.kids ao->SnA w e2.kids ao2 ->
 Calls Tryz.prog 174 #[exN e ao cap,exN e2 ao2 cap2] w fun x w'=>x=.returned (.bool (br e e2))/\Below w.heap.size w w'
theorem mF {N:Nat}(IH:iK N):iK (N+1):=by
 intro e e2 ao ao2 cap cap2 w hN hlen hsh hlen2 hsh2 S S2;obtain⟨W,hW⟩:∃W,W=br e e2:=⟨_,rfl⟩
 rw[<-hW];have HW:Hid (W=br e e2):=hW;clear hW;have B0:Below w.heap.size w ((w.alloc (.cells #[.int .i64 e.k,.int .i64 e.n,stv e.nm,.slice ao e.kids.len cap] 34)).alloc (.cells #[.int .i64 e2.k,.int .i64 e2.n,stv e2.nm,.slice ao2 e2.kids.len cap2] 34)):=((Below.refl _ w).alloc (Nat.le_refl _) _).alloc (by simp) _;have E0:((w.alloc (.cells #[.int .i64 e.k,.int .i64 e.n,stv e.nm,.slice ao e.kids.len cap] 34)).alloc (.cells #[.int .i64 e2.k,.int .i64 e2.n,stv e2.nm,.slice ao2 e2.kids.len cap2] 34)).heap[w.heap.size]?=some (.cells #[.int .i64 e.k,.int .i64 e.n,stv e.nm,.slice ao e.kids.len cap] 34):=(Below.heap_alloc _ _ _ (by simp)).trans (heap_alloc_new w _);have Y0:((w.alloc (.cells #[.int .i64 e.k,.int .i64 e.n,stv e.nm,.slice ao e.kids.len cap] 34)).alloc (.cells #[.int .i64 e2.k,.int .i64 e2.n,stv e2.nm,.slice ao2 e2.kids.len cap2] 34)).heap[w.heap.size+1]?=some (.cells #[.int .i64 e2.k,.int .i64 e2.n,stv e2.nm,.slice ao2 e2.kids.len cap2] 34):=by
  have:=heap_alloc_new (w.alloc (.cells #[.int .i64 e.k,.int .i64 e.n,stv e.nm,.slice ao e.kids.len cap] 34)) (.cells #[.int .i64 e2.k,.int .i64 e2.n,stv e2.nm,.slice ao2 e2.kids.len cap2] 34)
  simpa using this
 rw[ah,ah];go_enter Tryz.func174,Tryz.ntmps174;go_upto_region 1 with fail;generalize (w.alloc (.cells #[.int .i64 e.k,.int .i64 e.n,stv e.nm,.slice ao e.kids.len cap] 34)).alloc (.cells #[.int .i64 e2.k,.int .i64 e2.n,stv e2.nm,.slice ao2 e2.kids.len cap2] 34)=w0 at *;obtain⟨bx,hbx⟩:∃bx,bx=w.heap.size:=⟨_,rfl⟩
 rw[<-hbx] at E0 Y0 B0 ⊢;have HB:Hid (bx=w.heap.size):=hbx;clear hbx;obtain⟨p0,p1,p2,p3,pf⟩:=aI E0;obtain⟨q0,q1,q2,q3,qf⟩:=aI Y0;by_cases h1:e.k=e2.k
 ·by_cases h2:e.n=e2.n
  ·by_cases h3:e.nm=e2.nm
   ·by_cases h4:e.kids.len=e2.kids.len
    ·have h1b:(e.k != e2.k)=false:=by simp[h1]
     have h2b:(e.n != e2.n)=false:=by simp[h2]
     have h3b:(e.nm==e2.nm)=true:=by simp[h3]
     have h4b:((e.kids.len:Int) != (e2.kids.len:Int))=false:=by rw[h4];simp
     have h1c:(e.k==e2.k)=true:=by simp[h1]
     have h2c:(e.n==e2.n)=true:=by simp[h2]
     have h4c:((e.kids.len:Int)==(e2.kids.len:Int))=true:=by rw[h4];simp
     have HF:Hid (W=cZ e.kids e2.kids):=by show W=_;rw[HW.out];simp[br,h1,h2,h3]
     have H4:Hid (e.kids.len=e2.kids.len):=h4;clear HW h1 h2 h3 h4;go_wp2;go_loopw [5] (fun v wr=>∃(done r d2 r2:Fs),Hid (e.kids=done.app r)/\Hid (e2.kids=d2.app r2)/\Hid (d2.len=done.len)/\v=.int .i64 (done.len:Nat)/\Hid (cZ r r2=W)/\wr.heap[bx]?=some (.cells #[.int .i64 e.k,.int .i64 e.n,stv e.nm,.slice ao e.kids.len cap] 34)/\wr.heap[bx+1]?=some (.cells #[.int .i64 e2.k,.int .i64 e2.n,stv e2.nm,.slice ao2 e2.kids.len cap2] 34)/\Below bx w wr) (fun v _=>e.kids.len-(intOf v).toNat)
     case atStart=>exact⟨.nil,e.kids,.nil,e2.kids,rfl,rfl,rfl,by show _=Value.int .i64 ((0:Nat):Int);rfl,HF.out.symm,E0,Y0,B0⟩
     case round =>
      clear E0 Y0 B0 p0 p1 p2 p3 pf q0 q1 q2 q3 qf HF h1b h2b h3b h4b h1c h2c h4c;obtain⟨done,r,d2,r2,hk,hk2,hd,rfl,HA,E1,Y1,B1⟩:=hrel;have hlf:e.kids.len=done.len+r.len:=by rw[hk.out,Fs.len_app]
      have hlg:e2.kids.len=d2.len+r2.len:=by rw[hk2.out,Fs.len_app]
      have HRR:Hid (r.len=r2.len):=by show _=_;have:=H4.out;have:=hd.out;omega
      clear hlg;obtain⟨p0,p1,p2,p3,pf⟩:=aI E1;obtain⟨q0,q1,q2,q3,qf⟩:=aI Y1;cases r using Fs.on with
      | nil =>
       have hl0:¬(done.len:Int)<(e.kids.len:Int):=by simp only[Fs.len] at hlf;omega
       have FIN:Hid (W=true):=by
        show W=true;rw[<-HA.out];cases r2 using Fs.on with
        | nil=>rfl
        | cons k n nm a ks r=>have:=HRR.out;simp only[Fs.len] at this;omega
       clear HA hlf HRR;go_wp2;go_ret;rw[FIN.out];exact⟨rfl,by rw[<-HB.out];exact B1⟩
      | cons kk kn km ka kks kr =>
       cases r2 using Fs.on with
       | nil=>have:=HRR.out;simp only[Fs.len] at this;omega
       | cons jk jn jm ja jks jr =>
       have hl0:(done.len:Int)<(e.kids.len:Int):=by simp only[Fs.len] at hlf;omega
       have hl1:done.len<e.kids.len:=by omega
       have hl2:done.len<e2.kids.len:=by have:=H4.out;omega
       have hl3:(done.len:Int)<(e2.kids.len:Int):=by omega
       have hsz:e.kids.size=done.size+(kks.size+kr.size+1):=by rw[hk.out,Fs.size_app];rfl
       have hsk:(Fs.cons kk kn km ka kks kr).short:=Fs.app_short (by rw[<-hk.out];exact hsh);have hsj:(Fs.cons jk jn jm ja jks jr).short:=Fs.app_short (by rw[<-hk2.out];exact hsh2);obtain⟨b,off,ak,ck,hao,lb1,-,x0,x1,x2,x3,SK⟩:=SlN.kidQ (by rw[<-hk.out];exact SnA.below S (by rw[<-HB.out];exact B1));obtain⟨b',off',aj,cj,hao',lb2,-,y0,y1,y2,y3,TK⟩:=SlN.kidQ (by rw[<-hk2.out];exact SnA.below S2 (by rw[<-HB.out];exact B1));subst hao hao';rw[hd.out] at y0 y1 y2 y3;have hc:=IH ⟨kk,kn,km,ka,kks⟩ ⟨jk,jn,jm,ja,jks⟩ ak aj ck cj wr.drew (by show kks.size<N;omega) hsk.2.1 hsk.2.2.1 hsj.2.1 hsj.2.2.1 (SnA.below SK (Below.refl _ wr).drew) (SnA.below TK (Below.refl _ wr).drew);rw[ah,ah] at hc;simp only at hc;have HA2:Hid ((br ⟨kk,kn,km,ka,kks⟩ ⟨jk,jn,jm,ja,jks⟩&&cZ kr jr)=W):=HA;have hf2:Hid (e.kids=(done.snoc ⟨kk,kn,km,ka,kks⟩).app kr):=by show e.kids=_;rw[hk.out];unfold Fs.snoc;rw[Fs.app_assoc];rfl
       have hg2:Hid (e2.kids=(d2.snoc ⟨jk,jn,jm,ja,jks⟩).app jr):=by show e2.kids=_;rw[hk2.out];unfold Fs.snoc;rw[Fs.app_assoc];rfl
       have hd2:Hid ((d2.snoc ⟨jk,jn,jm,ja,jks⟩).len=(done.snoc ⟨kk,kn,km,ka,kks⟩).len):=by show _=_;rw[Fs.len_snoc,Fs.len_snoc,hd.out]
       have hl4:(done.len:Int)+1=((done.snoc ⟨kk,kn,km,ka,kks⟩).len:Nat):=by rw[Fs.len_snoc];rfl
       generalize br ⟨kk,kn,km,ka,kks⟩ ⟨jk,jn,jm,ja,jks⟩=cc at *;clear hlf hsz hsk hsj SK TK HA hk hk2 hd;go_wp2;have k0:wr.cell? ⟨bx,3,none⟩=some (.slice (some ⟨b,off,none⟩) e.kids.len cap)/\wr.cell? ⟨bx+1,3,none⟩=some (.slice (some ⟨b',off',none⟩) e2.kids.len cap2)/\wr.cell? ⟨b,off+done.len*4,none⟩=some (.int .i64 kk)/\wr.cell? ⟨b,off+done.len*4+1,none⟩=some (.int .i64 kn)/\wr.cell? ⟨b,off+done.len*4+2,none⟩=some (stv km)/\wr.cell? ⟨b,off+done.len*4+3,none⟩=some (.slice ak kks.len ck)/\wr.cell? ⟨b',off'+done.len*4,none⟩=some (.int .i64 jk)/\wr.cell? ⟨b',off'+done.len*4+1,none⟩=some (.int .i64 jn)/\wr.cell? ⟨b',off'+done.len*4+2,none⟩=some (stv jm)/\wr.cell? ⟨b',off'+done.len*4+3,none⟩=some (.slice aj jks.len cj):=⟨p3,q3,x0,x1,x2,x3,y0,y1,y2,y3⟩
       have k1:wr.drew.cell? ⟨bx,3,none⟩=some (.slice (some ⟨b,off,none⟩) e.kids.len cap)/\wr.drew.cell? ⟨bx+1,3,none⟩=some (.slice (some ⟨b',off',none⟩) e2.kids.len cap2)/\wr.drew.cell? ⟨b,off+done.len*4,none⟩=some (.int .i64 kk)/\wr.drew.cell? ⟨b,off+done.len*4+1,none⟩=some (.int .i64 kn)/\wr.drew.cell? ⟨b,off+done.len*4+2,none⟩=some (stv km)/\wr.drew.cell? ⟨b,off+done.len*4+3,none⟩=some (.slice ak kks.len ck)/\wr.drew.cell? ⟨b',off'+done.len*4,none⟩=some (.int .i64 jk)/\wr.drew.cell? ⟨b',off'+done.len*4+1,none⟩=some (.int .i64 jn)/\wr.drew.cell? ⟨b',off'+done.len*4+2,none⟩=some (stv jm)/\wr.drew.cell? ⟨b',off'+done.len*4+3,none⟩=some (.slice aj jks.len cj):=k0;have lb:bx+1<wr.drew.heap.size:=lt_of_block Y1;go_region_held (fun wx=>wx.cell? ⟨bx,3,none⟩=some (.slice (some ⟨b,off,none⟩) e.kids.len cap)/\wx.cell? ⟨bx+1,3,none⟩=some (.slice (some ⟨b',off',none⟩) e2.kids.len cap2)/\wx.cell? ⟨b,off+done.len*4,none⟩=some (.int .i64 kk)/\wx.cell? ⟨b,off+done.len*4+1,none⟩=some (.int .i64 kn)/\wx.cell? ⟨b,off+done.len*4+2,none⟩=some (stv km)/\wx.cell? ⟨b,off+done.len*4+3,none⟩=some (.slice ak kks.len ck)/\wx.cell? ⟨b',off'+done.len*4,none⟩=some (.int .i64 jk)/\wx.cell? ⟨b',off'+done.len*4+1,none⟩=some (.int .i64 jn)/\wx.cell? ⟨b',off'+done.len*4+2,none⟩=some (stv jm)/\wx.cell? ⟨b',off'+done.len*4+3,none⟩=some (.slice aj jks.len cj)) (first|(with_reducible exact k2)|(with_reducible exact k1)|(with_reducible exact k0)) ((go_at_call 174;refine hc.mono ?_;rintro x w2 ⟨rfl,b2⟩;have k2:w2.cell? ⟨bx,3,none⟩=some (.slice (some ⟨b,off,none⟩) e.kids.len cap)/\w2.cell? ⟨bx+1,3,none⟩=some (.slice (some ⟨b',off',none⟩) e2.kids.len cap2)/\w2.cell? ⟨b,off+done.len*4,none⟩=some (.int .i64 kk)/\w2.cell? ⟨b,off+done.len*4+1,none⟩=some (.int .i64 kn)/\w2.cell? ⟨b,off+done.len*4+2,none⟩=some (stv km)/\w2.cell? ⟨b,off+done.len*4+3,none⟩=some (.slice ak kks.len ck)/\w2.cell? ⟨b',off'+done.len*4,none⟩=some (.int .i64 jk)/\w2.cell? ⟨b',off'+done.len*4+1,none⟩=some (.int .i64 jn)/\w2.cell? ⟨b',off'+done.len*4+2,none⟩=some (stv jm)/\w2.cell? ⟨b',off'+done.len*4+3,none⟩=some (.slice aj jks.len cj):=⟨(b2.cell (p:=⟨bx,3,none⟩) (Nat.lt_of_succ_lt lb)).trans p3,(b2.cell (p:=⟨bx+1,3,none⟩) lb).trans q3,(b2.cell (p:=⟨b,off+done.len*4,none⟩) lb1).trans x0,(b2.cell (p:=⟨b,off+done.len*4+1,none⟩) lb1).trans x1,(b2.cell (p:=⟨b,off+done.len*4+2,none⟩) lb1).trans x2,(b2.cell (p:=⟨b,off+done.len*4+3,none⟩) lb1).trans x3,(b2.cell (p:=⟨b',off'+done.len*4,none⟩) lb2).trans y0,(b2.cell (p:=⟨b',off'+done.len*4+1,none⟩) lb2).trans y1,(b2.cell (p:=⟨b',off'+done.len*4+2,none⟩) lb2).trans y2,(b2.cell (p:=⟨b',off'+done.len*4+3,none⟩) lb2).trans y3⟩));have B2:Below bx w w2:=(B1.drew).trans (b2.mono (by have:=HB.out;have:=B1.size;show bx<=wr.heap.size;omega));have E2:=(b2.block bx (Nat.lt_of_succ_lt lb)).trans E1;have Y2:=(b2.block (bx+1) lb).trans Y1;clear k0 k1 k2 p0 p1 p2 p3 pf q0 q1 q2 q3 qf x0 x1 x2 x3 y0 y1 y2 y3 hc b2 E1 Y1 B1;cases cc with
       | false =>
        have FIN:Hid (W=false):=by show W=_;rw[<-HA2.out];rfl
        clear HA2;go_wp2;go_ret;rw[FIN.out];exact⟨rfl,by rw[<-HB.out];exact B2⟩
       | true =>
        have HA3:Hid (cZ kr jr=W):=by show _=W;rw[<-HA2.out];rfl
        clear HA2;go_wp2;go_roundw
        case rel=>exact⟨_,kr,_,jr,hf2,hg2,hd2,by rw[<-hl4],HA3,E2,Y2,B2⟩
        case measure=>simp[intOf];omega
    ·have h1b:(e.k != e2.k)=false:=by simp[h1]
     have h2b:(e.n != e2.n)=false:=by simp[h2]
     have h3b:(e.nm==e2.nm)=true:=by simp[h3]
     have h1c:(e.k==e2.k)=true:=by simp[h1]
     have h2c:(e.n==e2.n)=true:=by simp[h2]
     have h4b:((e.kids.len:Int) != (e2.kids.len:Int))=true:=by simp;omega
     have h4c:((e.kids.len:Int)==(e2.kids.len:Int))=false:=by simp;omega
     have FIN:Hid (W=false):=by show W=_;rw[HW.out];simp[br,jI _ _ h4]
     clear HW h1 h2 h3 h4;go_wp2;go_ret;rw[FIN.out];exact⟨rfl,by rw[<-HB.out];exact B0⟩
   ·have h1b:(e.k != e2.k)=false:=by simp[h1]
    have h2b:(e.n != e2.n)=false:=by simp[h2]
    have h1c:(e.k==e2.k)=true:=by simp[h1]
    have h2c:(e.n==e2.n)=true:=by simp[h2]
    have h3b:(e.nm==e2.nm)=false:=by simpa using h3
    have FIN:Hid (W=false):=by show W=_;rw[HW.out];simp[br,h3]
    clear HW h1 h2 h3;go_wp2;go_ret;rw[FIN.out];exact⟨rfl,by rw[<-HB.out];exact B0⟩
  ·have h1b:(e.k != e2.k)=false:=by simp[h1]
   have h1c:(e.k==e2.k)=true:=by simp[h1]
   have h2b:(e.n != e2.n)=true:=by simpa using h2
   have h2c:(e.n==e2.n)=false:=by simpa using h2
   have FIN:Hid (W=false):=by show W=_;rw[HW.out];simp[br,h2]
   clear HW h1 h2;go_wp2;go_ret;rw[FIN.out];exact⟨rfl,by rw[<-HB.out];exact B0⟩
 ·have h1b:(e.k != e2.k)=true:=by simpa using h1
  have h1c:(e.k==e2.k)=false:=by simpa using h1
  have FIN:Hid (W=false):=by show W=_;rw[HW.out];simp[br,h1]
  clear HW h1;go_wp2;go_ret;rw[FIN.out];exact⟨rfl,by rw[<-HB.out];exact B0⟩
theorem j8:∀ N,iK N
 | 0=>fun e e2 ao ao2 cap cap2 w h=>absurd h (Nat.not_lt_zero _)
 | N+1=>mF (j8 N)
theorem sd (a:Ex):br a a=true:=by simp[br,iQ]
end Go.Proofs.YtbjdkekhnajafaaGreatDoor

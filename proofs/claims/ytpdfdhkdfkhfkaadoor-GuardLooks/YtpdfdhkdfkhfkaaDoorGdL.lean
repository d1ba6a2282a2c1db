import Derived.Test.YtpdfdhkdfkhfkaaDoorGdK
set_option maxRecDepth 100000
set_option maxHeartbeats 8000000
namespace Go.Proofs.YtpdfdhkdfkhfkaaDoor
open Go.ChangeShapes Go.WideShapes Go.ChangeAt Go.RowKit Go.Shelf
set_option linter.unusedVariables false
set_option linter.unusedSimpArgs false
attribute [local go_sem] Oper.semAt_some
structure Kb2 (b q:Nat)(w w':World):Prop where
 os:w'.os=w.os
 tape:w'.tape=w.tape
 output:w'.output=w.output
 size:w.heap.size<=w'.heap.size
 block:∀ k,k<w.heap.size->k≠b->k≠q->w'.heap[k]?=w.heap[k]?
theorem Kb.grown {b B:Nat}{w W W':World}{row:Option Nat}(h:Kb b w W)(hg:W.grownBy W' row)(hB:w.heap.size<=B)(hr:∀ r,row=some r->B<=r/\∃o:Obj,W.heap[r]?=some o/\o.isCells=false):Kb b w W' :=
 ⟨hg.os.trans h.os,hg.tape.trans h.tape,hg.output.trans h.output,Nat.le_trans h.size hg.size,fun k hk hn=>(hg.block k (Nat.lt_of_lt_of_le hk h.size) (fun e=>by have:=(hr k e.symm).1;omega)).trans (h.block k hk hn)⟩
theorem Kb2.grown {b q B:Nat}{w W W':World}{row:Option Nat}(h:Kb2 b q w W)(hg:W.grownBy W' row)(hB:w.heap.size<=B)(hr:∀ r,row=some r->B<=r/\∃o:Obj,W.heap[r]?=some o/\o.isCells=false):Kb2 b q w W' :=
 ⟨hg.os.trans h.os,hg.tape.trans h.tape,hg.output.trans h.output,Nat.le_trans h.size hg.size,fun k hk hn hm=>(hg.block k (Nat.lt_of_lt_of_le hk h.size) (fun e=>by have:=(hr k e.symm).1;omega)).trans (h.block k hk hn hm)⟩
theorem cells_kept {B:Nat}{W W':World}{row:Option Nat}(hg:W.grownBy W' row)(hr:∀ r,row=some r->B<=r/\∃o:Obj,W.heap[r]?=some o/\o.isCells=false){k:Nat}{cs:Array Value}{t:TypeId}(h:W.heap[k]?=some (.cells cs t (0,0))):W'.heap[k]?=some (.cells cs t (0,0)) :=
 (hg.block k (lt_of_block h) (fun e=>by obtain⟨_,o,ho,hc⟩:=hr k e.symm;rw[h] at ho;cases ho;cases hc)).trans h
theorem Kb.keepsFrom {b B:Nat}{W W':World}(h:Kb b W W')(hb:b<B):KeepsFrom B W W':=⟨h.size,fun k o hB hk _=>(h.block k (Array.getElem?_eq_some_iff.1 hk).1 (by omega)).trans hk⟩
theorem Kb.kq {b m:Nat}{W W':World}(h:Kb b W W')(hm:m<=W.heap.size):Kq m b W W':=⟨h.size,fun k hk hn=>h.block k (by omega) hn⟩
theorem kq_put {m b:Nat}(W:World)(l:Nat)(o o':Obj)(hl:m<=l):Kq m b W (W.putObj l o') :=
 ⟨by simp[World.putObj],fun k hk _=>World.putObj_heap_other (by omega)⟩
theorem Kb.put {b:Nat}{a w:World}(h:Kb b a w){l:Nat}(hl:a.heap.size<=l)(o':Obj):Kb b a (w.putObj l o') :=
 ⟨h.os,h.tape,h.output,by simpa [World.putObj] using h.size,fun k hk hn=>(World.putObj_heap_other (by omega)).trans (h.block k hk hn)⟩
theorem out_end {b D q n:Nat}{w W:World}{r:Nat ⊕ St}(hK:Kb b w W)(hD:w.heap.size<=D)(hbD:b<D)(hqD:q≠D)(hq:W.heap[q]?=some (.cells #[.int .i64 (n:Nat)] 30 (0,0)))
  (hr:match r with | .inl m=>m=n/\n≠0 | .inr u=>n=0/\StB W b u) :
  PostE b r w (.returned (.int .i64 (n:Nat))) (W.putObj D (.deferred none))/\(W.putObj D (.deferred none)).cell? ⟨q,0,none⟩=some (.int .i64 (n:Nat)):=by
 refine⟨⟨hK.put hD _,?_⟩,?_⟩
 ·cases r with
  | inl m=>obtain⟨rfl,h⟩:=hr;exact⟨rfl,h⟩
  | inr u=>obtain⟨rfl,h⟩:=hr;exact⟨rfl,(World.putObj_heap_other (by omega)).trans h⟩
 ·have h:(W.putObj D (.deferred none)).heap[q]?=some (.cells #[.int .i64 (n:Nat)] 30 (0,0)):=(World.putObj_heap_other hqD).trans hq;rw[cell_of_row _ _ _ _ _ _ h];rfl
theorem Kb.setNew {b:Nat}{a w:World}(h:Kb b a w){p:Addr}(hp:a.heap.size<=p.block)(u:Value):Kb b a (w.setCell p u) :=
 ⟨h.os,h.tape,h.output,by simpa using h.size,fun k hk hn=>(heap_setCell_other w p k u (fun e=>by omega)).trans (h.block k hk hn)⟩
theorem pass_c (c:Cd)(hr:rgtB c=true)(b o a d:Nat)(s:St)(w:World)(W:WdR c o a d)(S:StOk s)(hB:StB w b s)(ak:Option Addr)(ck:Nat)(hC:Lsv w ak (isV c.ks)) :
  Calls Tryd.prog 40 #[.pointer (some ⟨b,0,none⟩),wdV o a d,.slice ak c.ks.length ck] w (PostE b (passF c o a d s) w):=by
 obtain⟨g,hg⟩:∃g,g=w.heap.size:=⟨_,rfl⟩
 obtain⟨w1,hw1⟩:∃w1,w1=((w.alloc (.cells #[.pointer (some ⟨b,0,none⟩)] 83)).alloc (bxW o a d)).alloc (.cells #[.int .i64 0] 30):=⟨_,rfl⟩
 have hs1:w1.heap.size=g+3:=by rw[hw1,hg];simp
 have B1:Below w.heap.size w w1:=by rw[hw1];exact bG2 _ (bG2 _ (bG _ _))
 have e0:w1.heap[g]?=some (.cells #[.pointer (some ⟨b,0,none⟩)] 83 (0,0)):=by rw[hw1,hg];exact(Below.heap_alloc _ _ _ (by simp;omega)).trans (h2G _ _ _)
 have e1:w1.heap[g+1]?=some (bxW o a d):=by rw[hw1,hg];exact hA2b _ _ _ _
 have e2:w1.heap[g+2]?=some (.cells #[.int .i64 0] 30 (0,0)):=by rw[hw1,hg];exact hA3 _ _ _ _
 have hlt:=hB.lt;have hB1:StB w1 b s:=(B1.block b hlt).trans hB;have C1:=hC.below B1;have hbg:b<g:=by rw[hg];exact hlt
 have HG:=Lib.hid hg;have hF:=fits_c o a d s.2 W.ol;refine(callsIn_wide (n:=6)).1 ?_;refine callsIn_of_wp_marks Tryd.func40 rfl (by simp[Fence.wide]) ?_ rfl;refine wpIn_wide.2 ?_;simp only[Tryd.ntmps40,List.size_toArray,List.length_cons,List.length_nil,Nat.reduceAdd,Nat.reduceSub,Array.replicate_succ,
   Array.replicate_zero,List.push_toArray,List.append_toArray,List.nil_append,List.cons_append]
 have c0:w1.cell? ⟨g,0,none⟩=some (.pointer (some ⟨b,0,none⟩)):=by rw[cell_of_row _ _ _ _ _ _ e0];rfl
 have k0:w1.cell? ⟨g+1,0,none⟩=some (.int .i64 (o:Nat)):=by rw[cell_of_row _ _ _ _ _ _ e1];rfl
 have k1:w1.cell? ⟨g+1,1,none⟩=some (.int .i64 (a:Nat)):=by rw[cell_of_row _ _ _ _ _ _ e1];rfl
 have k2:w1.cell? ⟨g+1,2,none⟩=some (.int .i64 (d:Nat)):=by rw[cell_of_row _ _ _ _ _ _ e1];rfl
 have r33:=(blk_cell hB1 33).trans (stC_rd s);go_upto_region 1 with fail;rw[<-hw1,<-HG.out];clear hw1;have K1:Kb b w w1:=Kb.ofBelow B1;have HM:Hid (∀ w2,Below w1.heap.size w1 w2->w2.cell? ⟨g+1,0,none⟩=some (.int .i64 (o:Nat))/\w2.cell? ⟨g+1,1,none⟩=some (.int .i64 (a:Nat))/\w2.cell? ⟨g+1,2,none⟩=some (.int .i64 (d:Nat))/\w2.cell? ⟨g,0,none⟩=some (.pointer (some ⟨b,0,none⟩))/\w2.cell? ⟨b,33,none⟩=some (.int .i64 (s.2:Nat))):=fun w2 B=>⟨(B.cell (p:=⟨g+1,0,none⟩) (by show g+1 < _;omega)).trans k0,(B.cell (p:=⟨g+1,1,none⟩) (by show g+1 < _;omega)).trans k1,(B.cell (p:=⟨g+1,2,none⟩) (by show g+1 < _;omega)).trans k2,(B.cell (p:=⟨g,0,none⟩) (by show g < _;omega)).trans c0,(B.cell (p:=⟨b,33,none⟩) (by show b < _;omega)).trans r33⟩;have hPF:=pass_takes c o a d s;have HS1:=Lib.hid hs1;have E2:Hid (∀ w2,Below w1.heap.size w1 w2->w2.heap[g+1+1]?=some (.cells #[.int .i64 0] 30 (0,0))/\w2.cell? ⟨g+1+1,0,none⟩=some (.int .i64 0)/\w2.frozen? ⟨g+1+1,0,none⟩=false):=fun w2 B=>by
  have h:=(B.block (g+1+1) (by omega)).trans e2;exact⟨h,by rw[cell_of_row _ _ _ _ _ _ h];rfl,frozen_of_row _ _ _ _ _ h⟩
 clear e0 e1 e2 hs1 hB hg hlt;cases hfit:fitE o a s.2
 ·rw[hfit] at hF hPF;rw[if_neg (by decide)] at hPF;obtain⟨q0,q1,q2,q3,q4⟩:=HM.out w1.drew ((Below.refl _ w1).drew);clear k0 k1 k2 c0 r33;go_region_held3 (fun wx=>wx.cell? ⟨g+1,0,none⟩=some (.int .i64 (o:Nat))/\wx.cell? ⟨g+1,1,none⟩=some (.int .i64 (a:Nat))/\wx.cell? ⟨g+1,2,none⟩=some (.int .i64 (d:Nat))/\wx.cell? ⟨g,0,none⟩=some (.pointer (some ⟨b,0,none⟩))/\wx.cell? ⟨b,33,none⟩=some (.int .i64 (s.2:Nat))) (go_keep) (first|(go_at_call 56;refine(hF _).mono ?_;rintro e w2 ⟨rfl,B2⟩;have BB2:=((Below.refl _ w1).drew).trans B2;obtain⟨m0,m1,m2,m3,m4⟩:=HM.out w2 BB2));obtain⟨j0,j1,j2⟩:=E2.out w2 BB2;have hE:=heap_setCell_same w2 (g+1+1) 0 _ _ (.int .i64 201) j0;have u0:(w2.setCell ⟨g+1+1,0,none⟩ (.int .i64 201)).cell? ⟨g+1+1,0,none⟩=some (.int .i64 201):=by rw[cell_of_row _ _ _ _ _ _ hE];rfl
  have HZ:Hid (PostE b (passF c o a d s) w (.returned (.int .i64 201)) (w2.setCell ⟨g+1+1,0,none⟩ (.int .i64 201))):=by
   show PostE _ _ _ _ _;rw[hPF];exact⟨(K1.trans (Kb.ofBelow BB2)).setNew (by show _<=g+1+1;have:=HG.out;omega) _,rfl,by decide⟩
  clear hE j0;go_wp2;refine⟨.int .i64 201,?_,HZ.out⟩;simp[results,Tryd.f40,go_sem,u0]
 ·rw[hfit] at hF hPF;rw[if_pos rfl] at hPF;obtain⟨q0,q1,q2,q3,q4⟩:=HM.out w1.drew ((Below.refl _ w1).drew);clear k0 k1 k2 c0 r33;go_region_held3 (fun wx=>wx.cell? ⟨g+1,0,none⟩=some (.int .i64 (o:Nat))/\wx.cell? ⟨g+1,1,none⟩=some (.int .i64 (a:Nat))/\wx.cell? ⟨g+1,2,none⟩=some (.int .i64 (d:Nat))/\wx.cell? ⟨g,0,none⟩=some (.pointer (some ⟨b,0,none⟩))/\wx.cell? ⟨b,33,none⟩=some (.int .i64 (s.2:Nat))) (go_keep) (first|(go_at_call 56;refine(hF _).mono ?_;rintro e w2 ⟨rfl,B2⟩;have BB2:=((Below.refl _ w1).drew).trans B2;obtain⟨m0,m1,m2,m3,m4⟩:=HM.out w2 BB2));clear q0 q1 q2 q3 q4 B2 hF;have HE3:=effect_c c hr o a d W w2 ak ck (C1.below BB2);go_upto_region 4 with (first|(go_at_call 57;refine HE3.mono ?_;rintro e w3 ⟨vp,vq,rfl,HP3,HQ3,B3⟩;have BB3:=BB2.trans (B3.mono BB2.size);have BS3:=Nat.le_trans BB2.size B3.size))
  have HP3c:=HP3;obtain⟨ao,cap,rfl,-⟩:=HP3c;obtain⟨w4,hw4⟩:∃w4,w4=w3.alloc (.cells #[.slice ao (effE c o a d).1.length cap] 23):=⟨_,rfl⟩
  go_wp2_with (first|(go_at_call 58;refine(backward_c _ _ _ _).mono ?_;rintro e w4' ⟨rfl,rfl⟩));obtain⟨g3,hg3⟩:∃g3,g3=w3.heap.size:=⟨_,rfl⟩
  rw[<-hw4,<-hg3];have hs1:=HS1.out;have hs2:=BB2.size;have B4:Below w3.heap.size w3 w4:=by rw[hw4];exact bG _ _
  have BB4:Below w1.heap.size w1 w4:=BB3.trans (B4.mono BS3);have hc4:w4.cell? ⟨g3,0,none⟩=some (.slice ao (effE c o a d).1.length cap):=by rw[hw4,hg3,cell_of_row _ _ _ _ _ _ (h1G _ _)];rfl
  have hs4:w4.heap.size=g3+1:=by rw[hw4,hg3];simp
  have hg3l:g+3<=g3:=by have:=HS1.out;omega
  refine(wpIn_wide (n:=6)).1 ?_;refine wpIn_rangeFunc_ownG (α:=Kd) rfl (by omega) (gf:=70) (lb:=#[.pointer (some ⟨g3,0,none⟩)]) rfl (by simp[Fence.wide]) (enters_of Tryd.func70 (by kernel_rfl) rfl)
   (backward_stops Fence.wide 5 (by simp[Fence.wide]) rfl (by omega) g3 b w2.heap.size _ _ (eff_len W) (eff_pop hr W) w4 (by omega) (by omega) hc4 (HP3.below B4) (by omega)) Kq.trans (fun W l o o' hl _ _ _=>kq_put W l o o' hl) (Below.refl _ _) (fun _=>rfl)
   (fun pre W=>Kb b w4 W/\∃t,takesF o (pre.map (·.1.2)) s=.inr t/\StB W b t)
   (fun cd pre W=>cd=.ret/\∃n,n≠0/\takesF o (pre.map (·.1.2)) s=.inl n/\Kb2 b (g+1+1) w4 W/\W.heap[g+1+1]?=some (.cells #[.int .i64 (n:Nat)] 30 (0,0)))
   (fun p A B row hs hg hr=>⟨hs.1.grown hg (Nat.le_refl _) hr,hs.2.imp fun t ht=>⟨ht.1,cells_kept hg hr ht.2⟩⟩)
   (fun cd p A B row hs hg hr=>⟨hs.1,hs.2.imp fun n hn=>⟨hn.1,hn.2.1,hn.2.2.1.grown hg (Nat.le_refl _) hr,cells_kept hg hr hn.2.2.2⟩⟩)
   ⟨Kb.refl _ _,s,rfl,(BB4.block b (by omega)).trans hB1⟩ ?a1 ?assign ?body ?done ?stop
  case assign =>
   intro l x W K hK;unfold encK
   gi_wp2
   exact hK
  case body =>
   rintro l pre x Wd ⟨hK,t,ht,hBt⟩ _;have St:=(takes_ok S ht).1;obtain⟨n0,-,-,n3,-⟩:=HM.out w4 BB4;obtain⟨r0,r1,r2⟩:=E2.out w4 BB4;have z0:Wd.cell? ⟨g,0,none⟩=some (.pointer (some ⟨b,0,none⟩)):=(World.cell?_of_block (a:=⟨g,0,none⟩) (hK.block g (by omega) (by omega))).trans n3;have z1:Wd.cell? ⟨g+1,0,none⟩=some (.int .i64 (o:Nat)):=(World.cell?_of_block (a:=⟨g+1,0,none⟩) (hK.block (g+1) (by omega) (by omega))).trans n0;have zr:Wd.heap[g+1+1]?=some (.cells #[.int .i64 0] 30 (0,0)):=(hK.block (g+1+1) (by omega) (by omega)).trans r0;have T:=take_c b o x.1.2 t Wd St x.2.2 hBt;have hts:=takes_app o [x.1.2] (pre.map (·.1.2)) s;rw[ht] at hts;have hts2:takesF o ((pre++[x]).map (·.1.2)) s=match takeF o x.1.2 t with | .inl n=>.inl n | .inr u=>.inr u:=by
    rw[List.map_append,List.map_cons,List.map_nil,hts];rfl
   have hg4:g+1+1<w4.heap.size:=by omega
   have hgb:g+1+1≠b:=by omega
   have hb4:b<w4.heap.size:=by omega
   obtain⟨xk,hxk⟩:∃xk,xk=x.1.2:=⟨_,rfl⟩
   rw[<-hxk] at T hts2;have hKs:=hK.size;unfold PostE at T;cases htk:takeF o xk t with
   | inl n =>
    rw[htk] at T hts2
    dsimp only at T hts2
    have HZ:Hid (∀ w5,Kb b Wd w5->n≠0->w5.cell? ⟨g+1+1,0,none⟩=some (.int .i64 0)/\w5.frozen? ⟨g+1+1,0,none⟩=false /\
      (KeepsFrom w4.heap.size Wd (w5.setCell ⟨g+1+1,0,none⟩ (.int .i64 (n:Nat)))/\(Code.ret=Code.ret/\∃m,m≠0/\takesF o ((pre++[x]).map (·.1.2)) s=.inl m/\Kb2 b (g+1+1) w4 (w5.setCell ⟨g+1+1,0,none⟩ (.int .i64 (n:Nat)))/\(w5.setCell ⟨g+1+1,0,none⟩ (.int .i64 (n:Nat))).heap[g+1+1]?=some (.cells #[.int .i64 (m:Nat)] 30 (0,0))))):=fun w5 K5 hn=>by
     have h5:=(K5.block (g+1+1) (by omega) hgb).trans zr;refine⟨by rw[cell_of_row _ _ _ _ _ _ h5];rfl,frozen_of_row _ _ _ _ _ h5,⟨by simpa using K5.size,fun k ob hB hk _=>(heap_setCell_other _ _ _ _ (by show k≠g+1+1;omega)).trans ((K5.block k (Array.getElem?_eq_some_iff.1 hk).1 (by omega)).trans hk)⟩,rfl,n,hn,hts2,?_,heap_setCell_same _ _ 0 _ _ _ h5⟩;have KK:=hK.trans K5;exact⟨KK.os,KK.tape,KK.output,by simpa using KK.size,fun k hk h1 h2=>(heap_setCell_other _ _ _ _ h2).trans (KK.block k hk h1)⟩
    have hn1:¬(n:Int)=0->(((n:Nat):Int) != 0)=true:=fun h=>by simpa using h
    have HX:=Lib.hid hxk;rw[<-hxk];clear hxk hts hts2 htk zr hK hKs St hBt r0 r1 r2 n0 n3 HP3 HQ3 hc4 hs4 hw4 hg3 hs1 hs2 B4 BB4 BB3 BB2 B3 BS3 hB1 C1 K1 B1 hPF HM E2 HS1 ht m0 m1 m2 m3 m4 HE3 hC
    gi_wp2_with (first|(refine⟨trivial,?_⟩;gi_at_call 59;refine(CallsIn.inRound l (callsIn_wide.2 T)).mono ?_;rintro e w5 ⟨K5,rfl,hn⟩;obtain⟨v1,v2,v3⟩:=HZ.out w5 K5 hn;have hn2:=hn1 (by omega);clear hn1 hn HZ T z0 z1 K5))
    exact⟨v3.1,rfl,v3.2.2⟩
   | inr u =>
    rw[htk] at T hts2
    dsimp only at T hts2
    have HZ:Hid (∀ w5,Kb b Wd w5->StB w5 b u->(KeepsFrom w4.heap.size Wd w5/\Kq w4.heap.size b Wd w5/\Kb b w4 w5/\∃t,takesF o ((pre++[x]).map (·.1.2)) s=.inr t/\StB w5 b t)):=fun w5 K5 h5 =>
     ⟨K5.keepsFrom hb4,K5.kq hKs,hK.trans K5,u,hts2,h5⟩
    have HX:=Lib.hid hxk;rw[<-hxk];clear hxk hts hts2 htk zr hK hKs St hBt r0 r1 r2 n0 n3 HP3 HQ3 hc4 hs4 hw4 hg3 hs1 hs2 B4 BB4 BB3 BB2 B3 BS3 hB1 C1 K1 B1 hPF HM E2 HS1 ht m0 m1 m2 m3 m4 HE3 hC
    gi_wp2_with (first|(refine⟨trivial,?_⟩;gi_at_call 59;refine(CallsIn.inRound l (callsIn_wide.2 T)).mono ?_;rintro e w5 ⟨K5,rfl,h5⟩;have v3:=HZ.out w5 K5 h5;clear HZ T z0 z1 K5 h5))
    exact v3
  case done =>
   rintro D xs Wd hD rfl ⟨hK,t,ht,hBt⟩ hKD;have ht2:takesF o (effE c o a d).1.reverse s=.inr t:=by
    rw[<-ht,List.map_reverse,kdL_map]
   rw[ht2] at hPF
   dsimp only at hPF
   have St:=(takes_ok S ht).1;have hrt:=(takes_ok S ht).2;have hqp:=eff_push hr W;have hfo:=opn_int hfit;obtain⟨aq,capq,rfl,hq⟩:=HQ3;obtain⟨n0,n1,n2,n3,-⟩:=HM.out w4 BB4;obtain⟨r0,r1,r2⟩:=E2.out w4 BB4;have KW:Kb b w Wd:=(K1.trans (Kb.ofBelow BB4)).trans hK;have hDl:=lt_of_block hKD;have hql:=eff_plen W;generalize (effE c o a d).2=qs at *
   -- what stands all along the second loop
   have hgD:g+1+1<D/\g+1<D/\g<D/\b<D:=by omega
   have hqp2:=hqp;have HT:Hid (∀ W',Kb b Wd W'->Kb b w W'/\W'.heap[D]?=some (.deferred (some []))/\W'.cell? ⟨g,0,none⟩=some (.pointer (some ⟨b,0,none⟩))/\W'.cell? ⟨g+1,0,none⟩=some (.int .i64 (o:Nat))/\W'.cell? ⟨g+1,1,none⟩=some (.int .i64 (a:Nat))/\W'.cell? ⟨g+1,2,none⟩=some (.int .i64 (d:Nat)) /\
     W'.heap[g+1+1]?=some (.cells #[.int .i64 0] 30 (0,0))/\W'.cell? ⟨g+1+1,0,none⟩=some (.int .i64 0)/\W'.frozen? ⟨g+1+1,0,none⟩=false/\(∀ j x,qs[j]?=some x->∃gq off,aq=some ⟨gq,off,none⟩/\W'.cell? ⟨gq,off+j,none⟩=some (.int .i64 (x:Nat)))):=fun W' K'=>by
    have h4:=hK.trans K';have hh:=(h4.block (g+1+1) (by omega) (by omega)).trans r0;refine⟨KW.trans K',(K'.block D hDl (by omega)).trans hKD,(World.cell?_of_block (a:=⟨g,0,none⟩) (h4.block g (by omega) (by omega))).trans n3,(World.cell?_of_block (a:=⟨g+1,0,none⟩) (h4.block (g+1) (by omega) (by omega))).trans n0,(World.cell?_of_block (a:=⟨g+1,1,none⟩) (h4.block (g+1) (by omega) (by omega))).trans n1,(World.cell?_of_block (a:=⟨g+1,2,none⟩) (h4.block (g+1) (by omega) (by omega))).trans n2,hh,by rw[cell_of_row _ _ _ _ _ _ hh];rfl,frozen_of_row _ _ _ _ _ hh,fun j x hx=>?_⟩;have hq4:=(InG.below ⟨aq,capq,rfl,hq⟩ B4)
    obtain⟨a',c',e',h' | ⟨gq,off,h1,h2,h3,h5⟩⟩:=hq4
    ·subst h';simp at hx
    ·cases e';exact⟨gq,off,h1,(World.cell?_of_block (a:=⟨gq,off+j,none⟩) (h4.block gq h3 (by omega))).trans (h5 j x hx)⟩
   have HOut:Hid (∀ W' n,Kb b Wd W'->W'.heap[g+1+1]?=some (.cells #[.int .i64 (n:Nat)] 30 (0,0))->True):=fun _ _ _ _=>trivial;obtain⟨tl,tr⟩:=t;simp only at hPF hrt;have hPo:=push_c;clear hc4 hs4 hw4 hg3 hs1 hs2 B4 BB4 BB3 BB2 B3 BS3 hB1 C1 K1 B1 HM E2 HS1 ht m0 m1 m2 m3 m4 HE3 hC HP3 hq n0 n1 n2 n3 r0 r1 r2 ht2;go_wp2_with fail;go_loopw [41] (fun v wr=>∃j:Nat,v=.int .i64 (j:Nat)/\j<=qs.length/\Kb b Wd wr/\StB wr b (tl++qs.take j,tr)/\StOk (tl++qs.take j,tr)) (fun v _=>qs.length-(intOf v).toNat)
   case atStart=>exact⟨0,by go_num,by omega,Kb.refl _ _,by simpa using hBt,by simpa using St⟩
   case round =>
    obtain⟨j,rfl,hj,KR,BR,SR⟩:=hrel;obtain⟨h1,h2,z0,y0,y1,y2,h7,h8,h9,h10⟩:=HT.out wr KR;have H2:=Lib.hid h2;have H7:=Lib.hid h7;have HK:=Lib.hid h1;clear h1 h2 h7;by_cases hlt:j<qs.length
    ·have hjI:(j:Int)<(qs.length:Int):=by omega
     obtain⟨gq,off,rfl,hqc⟩:=h10 j _ (List.getElem?_eq_getElem hlt);have hkq:=hqp _ (List.getElem_mem hlt);have HP:=hPo b (tl++qs.take j,tr) qs[j] wr SR hkq BR;have htk:tl++qs.take (j+1)=tl++qs.take j++[qs[j]]:=by rw[List.take_succ_eq_append_getElem hlt,List.append_assoc]
     clear h10;by_cases hroom:(tl++qs.take j).length<1024
     ·unfold PostPu at HP
      dsimp only at HP
      simp only[if_pos hroom,<-htk] at HP;have SN:StOk (tl++qs.take (j+1),tr):=⟨by rw[htk,List.length_append];simp only[List.length_cons,List.length_nil];omega,fun k hk=>by
       rw[htk] at hk;rcases List.mem_append.1 hk with hk|hk
       ·exact SR.kd k hk
       ·simp at hk;subst hk;exact hkq,SR.rd⟩
      have HN:=Lib.hid htk;have HSN:=Lib.hid SN;have hstep:=fun w5 (K5:Kb b wr w5)=>KR.trans K5;clear htk SN SR BR hkq hroom hPF KR hPo;generalize qs[j]=xk at *;go_wp2_with (first|(go_at_call 60;refine HP.mono ?_;rintro e w5 ⟨K5,rfl,B5⟩));go_roundw
      case rel=>(try ((repeat apply Exists.intro);refine⟨?_,rfl⟩));exact⟨j+1,by go_num,by omega,hstep w5 K5,B5,HSN.out⟩
      case measure=>simp[intOf];omega
     ·unfold PostPu at HP
      dsimp only at HP
      simp only[if_neg hroom] at HP;have hfull:passF c o a d s=.inl 201:=by
       have htk:(qs.take j).length=j:=by rw[List.length_take];omega
       simp only[List.length_append,htk] at hroom;rw[hPF,if_neg (by omega)]
      have HZ:Hid (∀ w5,Kb b wr w5->w5.cell? ⟨g+1+1,0,none⟩=some (.int .i64 0)/\w5.frozen? ⟨g+1+1,0,none⟩=false/\(w5.setCell ⟨g+1+1,0,none⟩ (.int .i64 201)).heap[D]?=some (.deferred (some [])) /\
        PostE b (passF c o a d s) w (.returned (.int .i64 201)) ((w5.setCell ⟨g+1+1,0,none⟩ (.int .i64 201)).putObj D (.deferred none))/\((w5.setCell ⟨g+1+1,0,none⟩ (.int .i64 201)).putObj D (.deferred none)).cell? ⟨g+1+1,0,none⟩=some (.int .i64 201)):=fun w5 K5=>by
       obtain⟨h1',h2',-,-,-,-,h7',h8',h9',-⟩:=HT.out w5 (KR.trans K5);refine⟨h8',h9',(heap_setCell_other _ _ _ _ (by show D≠g+1+1;omega)).trans h2',?_⟩;rw[hfull];exact out_end (n:=201) (h1'.setNew (by show _<=g+1+1;have:=HG.out;omega) _) (by have:=HG.out;omega) (by omega) (by omega) (heap_setCell_same _ _ 0 _ _ _ h7') ⟨rfl,by decide⟩
      clear htk SR BR hkq hroom hPF KR hPo hfull HT;generalize qs[j]=xk at *;go_wp2_with (first|(go_at_call 60;refine HP.mono ?_;rintro e w5 ⟨K5,rfl⟩;obtain⟨v1,v2,v3,v4,v5⟩:=HZ.out w5 K5;clear HP HZ z0 y0 y1 y2 h8 h9 hqc));refine⟨by simp,.inl ⟨_,_,rfl,run_takeDeferred v3,?_⟩⟩;refine⟨.int .i64 201,?_,v4⟩;simp[results,Tryd.f40,go_sem,v5]
    ·have hjI:¬(j:Int)<(qs.length:Int):=by omega
     obtain rfl:j=qs.length:=by omega
     rw[List.take_length] at BR SR;have hok:passF c o a d s=.inr (tl++qs,opnE o tr):=by
      rw[hPF,if_pos (by have:=SR.len;simp only[List.length_append] at this;omega)]
     have c33:=(blk_cell BR 33).trans (stC_rd (tl++qs,tr));have f33:=blk_frz BR 33;simp only at c33;have HO:=opens_c o a d W.ol;have hrd:=SR.rd;simp only at hrd;rw[<-hrt] at hfo;have hwr:IntKind.i64.wrap ((tr:Int)+opnI o)=((opnE o tr:Nat):Int):=by
      rw[hfo,IntKind.wrap_i64]
      have:=opn_le (o:=o) (a:=a) (r:=tr) (by rw[hrt];exact hfit) hrd
      omega
     generalize opnI o=oi at *;generalize opnE o tr=nr at *;clear hrt hfo;have hbr:=BR.lt;have hgb:g+1+1<wr.heap.size:=lt_of_block H7.out;have HZ:Hid (∀ w5,Below wr.heap.size wr w5->w5.cell? ⟨b,33,none⟩=some (.int .i64 (tr:Nat))/\w5.frozen? ⟨b,33,none⟩=false /\
       (w5.cell? ⟨g,0,none⟩=some (.pointer (some ⟨b,0,none⟩))/\w5.cell? ⟨g+1,0,none⟩=some (.int .i64 (o:Nat))/\w5.cell? ⟨g+1,1,none⟩=some (.int .i64 (a:Nat))/\w5.cell? ⟨g+1,2,none⟩=some (.int .i64 (d:Nat))) /\
       ((w5.setCell ⟨b,33,none⟩ (.int .i64 (nr:Nat))).cell? ⟨g,0,none⟩=some (.pointer (some ⟨b,0,none⟩))/\(w5.setCell ⟨b,33,none⟩ (.int .i64 (nr:Nat))).cell? ⟨g+1,0,none⟩=some (.int .i64 (o:Nat))/\(w5.setCell ⟨b,33,none⟩ (.int .i64 (nr:Nat))).cell? ⟨g+1,1,none⟩=some (.int .i64 (a:Nat))/\(w5.setCell ⟨b,33,none⟩ (.int .i64 (nr:Nat))).cell? ⟨g+1,2,none⟩=some (.int .i64 (d:Nat))) /\
       (w5.setCell ⟨b,33,none⟩ (.int .i64 (nr:Nat))).cell? ⟨g+1+1,0,none⟩=some (.int .i64 0)/\(w5.setCell ⟨b,33,none⟩ (.int .i64 (nr:Nat))).frozen? ⟨g+1+1,0,none⟩=false /\
       ((w5.setCell ⟨b,33,none⟩ (.int .i64 (nr:Nat))).setCell ⟨g+1+1,0,none⟩ (.int .i64 0)).heap[D]?=some (.deferred (some [])) /\
       PostE b (passF c o a d s) w (.returned (.int .i64 0)) (((w5.setCell ⟨b,33,none⟩ (.int .i64 (nr:Nat))).setCell ⟨g+1+1,0,none⟩ (.int .i64 0)).putObj D (.deferred none))/\(((w5.setCell ⟨b,33,none⟩ (.int .i64 (nr:Nat))).setCell ⟨g+1+1,0,none⟩ (.int .i64 0)).putObj D (.deferred none)).cell? ⟨g+1+1,0,none⟩=some (.int .i64 0)):=fun w5 B5=>by
      have b5:StB w5 b (tl++qs,tr):=(B5.block b hbr).trans BR;have K5:Kb b Wd w5:=KR.trans (Kb.ofBelow B5);have K6:Kb b Wd (w5.setCell ⟨b,33,none⟩ (.int .i64 (nr:Nat))):=K5.set 33 _;obtain⟨i1,i2,i3,i4,i5,i6,i7,i8,i9,-⟩:=HT.out _ K5;obtain⟨l1,l2,l3,l4,l5,l6,l7,l8,l9,-⟩:=HT.out _ K6;have b6:StB (w5.setCell ⟨b,33,none⟩ (.int .i64 (nr:Nat))) b (tl++qs,nr):=by
       have:=blk_set (n:=33) b5 (.int .i64 (nr:Nat))
       rw[stC_rdset] at this;exact this
      have b7:StB ((w5.setCell ⟨b,33,none⟩ (.int .i64 (nr:Nat))).setCell ⟨g+1+1,0,none⟩ (.int .i64 0)) b (tl++qs,nr):=(heap_setCell_other _ _ _ _ (by show b≠g+1+1;omega)).trans b6;refine⟨(blk_cell b5 33).trans (stC_rd _),blk_frz b5 33,⟨i3,i4,i5,i6⟩,⟨l3,l4,l5,l6⟩,l8,l9,(heap_setCell_other _ _ _ _ (by show D≠g+1+1;omega)).trans l2,?_⟩;rw[hok];exact out_end (n:=0) (l1.setNew (by show _<=g+1+1;have:=HG.out;omega) _) (by have:=HG.out;omega) (by omega) (by omega) (heap_setCell_same _ _ 0 _ _ _ l7) ⟨rfl,b7⟩
     clear HT h10 hPo hPF BR SR KR hqp hqp2 hlt hj hok H2 H7 HK;go_upto_region 15 with fail
     -- BEHIND THE LOOPS
     refine wp_region_noPanic ?_;refine wp_region_held_drew (S:=(fun wx=>wx.cell? ⟨g,0,none⟩=some (.pointer (some ⟨b,0,none⟩))/\wx.cell? ⟨g+1,0,none⟩=some (.int .i64 (o:Nat))/\wx.cell? ⟨g+1,1,none⟩=some (.int .i64 (a:Nat))/\wx.cell? ⟨g+1,2,none⟩=some (.int .i64 (d:Nat)))) (by kernel_rfl) ⟨z0,y0,y1,y2⟩ (fun hHeld=>?_);refine wpAnyH_take (i:=0) (v:=?v1) rfl (by kernel_rfl) (by kernel_rfl) (by kernel_rfl) (fun _ _ _ h=>h) (Or.inl ⟨by rfl,?hy1⟩) (by assumption) ?rest1
     case hy1=>(intro w hSw;(try dsimp only at hSw);obtain⟨s1,s2,s3,s4⟩:=hSw;go_simp;all_goals (with_reducible rfl))
     simp only[Act.put,List.getElem_toArray,List.getElem_cons_zero,List.getElem_cons_succ,List.setIfInBounds_toArray,List.set_cons_zero,List.set_cons_succ];refine wpAnyH_take (i:=1) (v:=?v2) rfl (by kernel_rfl) (by kernel_rfl) (by kernel_rfl) (fun _ _ _ h=>h) (Or.inl ⟨by rfl,?hy2⟩) (by assumption) ?rest2
     case hy2=>(intro w hSw;(try dsimp only at hSw);go_simp;all_goals (with_reducible rfl))
     simp only[Act.put,List.getElem_toArray,List.getElem_cons_zero,List.getElem_cons_succ,List.setIfInBounds_toArray,List.set_cons_zero,List.set_cons_succ];refine wpAnyH_take (i:=2) (v:=?v3) rfl (by kernel_rfl) (by kernel_rfl) (by kernel_rfl) (fun _ _ _ h=>h) (Or.inl ⟨by rfl,?hy3⟩) (by assumption) ?rest3
     case hy3=>(intro w hSw;(try dsimp only at hSw);go_simp;all_goals (with_reducible rfl))
     simp only[Act.put,List.getElem_toArray,List.getElem_cons_zero,List.getElem_cons_succ,List.setIfInBounds_toArray,List.set_cons_zero,List.set_cons_succ];refine wpAnyH_take (i:=4) (v:=?v4) rfl (by kernel_rfl) (by kernel_rfl) (by kernel_rfl) (fun _ _ _ h=>h) (Or.inl ⟨by rfl,?hy4⟩) (by assumption) ?rest4
     case hy4=>(intro w hSw;(try dsimp only at hSw);obtain⟨s1,s2,s3,s4⟩:=hSw;go_simp;all_goals (with_reducible rfl))
     simp only[Act.put,List.getElem_toArray,List.getElem_cons_zero,List.getElem_cons_succ,List.setIfInBounds_toArray,List.set_cons_zero,List.set_cons_succ];refine wpAnyH_ready (rs:=[3,5]) (by kernel_rfl) (by simp) ?_;refine AllReadyH.cons rfl (fun K hK=>?_) (AllReadyH.cons rfl (fun K hK=>?_) AllReadyH.nil)
     ·skip
      go_simp
      refine hK.out _ _ hHeld (fun hHeld=>?_);clear hK K;refine wpAnyH_ready (rs:=[5]) (by kernel_rfl) (by simp) ?_;refine AllReadyH.cons rfl (fun K hK=>?_) AllReadyH.nil
      go_simp
      go_wp2_with (first|(go_at_call 61;refine(HO _).mono ?_;rintro e w5 ⟨rfl,B5⟩;obtain⟨v1,v2,v3,v4,v5,v6,v7,v8,v9⟩:=HZ.out w5 (by first|exact((Below.refl _ wr).drew).trans B5|exact B5)));refine hK.out _ _ v3 (fun hHeld=>?_);clear hK K;refine wpAnyH_take (i:=6) (v:=?v5) rfl (by kernel_rfl) (by kernel_rfl) (by kernel_rfl) (fun _ _ _ h=>h) (Or.inl ⟨by rfl,?hy5⟩) (by assumption) ?rest5
      case hy5=>(intro w hSw;(try dsimp only at hSw);go_simp;all_goals (with_reducible rfl))
      simp only[Act.put,List.getElem_toArray,List.getElem_cons_zero,List.getElem_cons_succ,List.setIfInBounds_toArray,List.set_cons_zero,List.set_cons_succ];refine wpAnyH_take (i:=7) (v:=?v6) rfl (by kernel_rfl) (by kernel_rfl) (by kernel_rfl) (fun _ _ _ h=>h) (Or.inl ⟨by rfl,?hy6⟩) (by assumption) ?rest6
      case hy6=>(intro w hSw;(try dsimp only at hSw);go_simp;all_goals (with_reducible rfl))
      simp only[Act.put,List.getElem_toArray,List.getElem_cons_zero,List.getElem_cons_succ,List.setIfInBounds_toArray,List.set_cons_zero,List.set_cons_succ];refine wpAnyH_take (i:=8) (v:=?v7) rfl (by kernel_rfl) (by kernel_rfl) (by kernel_rfl) (fun _ _ _ h=>h) (Or.inl ⟨by rfl,?hy7⟩) (by assumption) ?rest7
      case hy7=>(intro w hSw;(try dsimp only at hSw);go_simp;all_goals (with_reducible rfl))
      simp only[Act.put,List.getElem_toArray,List.getElem_cons_zero,List.getElem_cons_succ,List.setIfInBounds_toArray,List.set_cons_zero,List.set_cons_succ];refine wpAnyH_ready (rs:=[9]) (by kernel_rfl) (by simp) ?_;refine AllReadyH.cons rfl (fun K hK=>?_) AllReadyH.nil
      go_simp
      refine hK.out _ _ v4 (fun hHeld=>?_);clear hK K;refine wpAnyH_done (by kernel_rfl) ?_ _;refine NoPanic.normal ?_;go_wp2;refine⟨by simp,.inl ⟨_,_,rfl,run_takeDeferred v7,?_⟩⟩;refine⟨.int .i64 0,?_,v8⟩;simp[results,Tryd.f40,go_sem,v9]
     ·skip
      go_simp
      go_wp2_with (first|(go_at_call 61;refine(HO _).mono ?_;rintro e w5 ⟨rfl,B5⟩;obtain⟨v1,v2,v3,v4,v5,v6,v7,v8,v9⟩:=HZ.out w5 (by first|exact((Below.refl _ wr).drew).trans B5|exact B5)));refine hK.out _ _ v3 (fun hHeld=>?_);clear hK K;refine wpAnyH_ready (rs:=[3]) (by kernel_rfl) (by simp) ?_;refine AllReadyH.cons rfl (fun K hK=>?_) AllReadyH.nil
      go_simp
      refine hK.out _ _ hHeld (fun hHeld=>?_);clear hK K;refine wpAnyH_take (i:=6) (v:=?v8) rfl (by kernel_rfl) (by kernel_rfl) (by kernel_rfl) (fun _ _ _ h=>h) (Or.inl ⟨by rfl,?hy8⟩) (by assumption) ?rest8
      case hy8=>(intro w hSw;(try dsimp only at hSw);go_simp;all_goals (with_reducible rfl))
      simp only[Act.put,List.getElem_toArray,List.getElem_cons_zero,List.getElem_cons_succ,List.setIfInBounds_toArray,List.set_cons_zero,List.set_cons_succ];refine wpAnyH_take (i:=7) (v:=?v9) rfl (by kernel_rfl) (by kernel_rfl) (by kernel_rfl) (fun _ _ _ h=>h) (Or.inl ⟨by rfl,?hy9⟩) (by assumption) ?rest9
      case hy9=>(intro w hSw;(try dsimp only at hSw);go_simp;all_goals (with_reducible rfl))
      simp only[Act.put,List.getElem_toArray,List.getElem_cons_zero,List.getElem_cons_succ,List.setIfInBounds_toArray,List.set_cons_zero,List.set_cons_succ];refine wpAnyH_take (i:=8) (v:=?v10) rfl (by kernel_rfl) (by kernel_rfl) (by kernel_rfl) (fun _ _ _ h=>h) (Or.inl ⟨by rfl,?hy10⟩) (by assumption) ?rest10
      case hy10=>(intro w hSw;(try dsimp only at hSw);go_simp;all_goals (with_reducible rfl))
      simp only[Act.put,List.getElem_toArray,List.getElem_cons_zero,List.getElem_cons_succ,List.setIfInBounds_toArray,List.set_cons_zero,List.set_cons_succ];refine wpAnyH_ready (rs:=[9]) (by kernel_rfl) (by simp) ?_;refine AllReadyH.cons rfl (fun K hK=>?_) AllReadyH.nil
      go_simp
      refine hK.out _ _ v4 (fun hHeld=>?_);clear hK K;refine wpAnyH_done (by kernel_rfl) ?_ _;refine NoPanic.normal ?_;go_wp2;refine⟨by simp,.inl ⟨_,_,rfl,run_takeDeferred v7,?_⟩⟩;refine⟨.int .i64 0,?_,v8⟩;simp[results,Tryd.f40,go_sem,v9]
  case stop =>
   rintro D cd pre Wd hD ⟨rest,hrest⟩ ⟨rfl,n,hn,htk,hK2,hcell⟩ hKD;have hall:takesF o (effE c o a d).1.reverse s=.inl n:=by
    have e:(effE c o a d).1.reverse=pre.map (·.1.2)++rest.map (·.1.2):=by
     rw[<-List.map_append,<-hrest,List.map_reverse,kdL_map]
    rw[e,takes_app,htk]
   rw[hall] at hPF
   dsimp only at hPF
   have hgw:=HG.out;have KW:Kb b w w4:=K1.trans (Kb.ofBelow BB4);have KD:Kb b w Wd:=⟨hK2.os.trans KW.os,hK2.tape.trans KW.tape,hK2.output.trans KW.output,Nat.le_trans KW.size hK2.size,fun k hk h=>(hK2.block k (by have:=KW.size;omega) h (by omega)).trans (KW.block k hk h)⟩
   have hDl:=lt_of_block hKD;obtain⟨v1,v2⟩:=out_end (r:=passF c o a d s) (n:=n) (q:=g+1+1) (D:=D) KD (by omega) (by omega) (by omega) hcell (by rw[hPF];exact⟨rfl,hn⟩);clear hPF HM E2
   gi_wp2
   refine⟨by simp,.inl ⟨_,_,rfl,run_takeDeferred hKD,?_⟩⟩;refine⟨.int .i64 (n:Nat),?_,v1⟩;simp[results,Tryd.f40,go_sem,v2]
end Go.Proofs.YtpdfdhkdfkhfkaaDoor

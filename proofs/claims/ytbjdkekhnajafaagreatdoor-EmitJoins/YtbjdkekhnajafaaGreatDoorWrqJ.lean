import Derived.Test.YtbjdkekhnajafaaGreatDoorWrqH
set_option maxRecDepth 100000
set_option maxHeartbeats 8000000
namespace Go.Proofs.YtbjdkekhnajafaaGreatDoor
open Go.ChangeShapes Go.WideShapes Go.ChangeAt Go.RowKit
set_option linter.unusedVariables false
set_option linter.unusedSimpArgs false
theorem cw_at {n:Int}(h:1<=n/\n<=10):cwL[(n-1).toNat]?=some (cword n):=by
 have:n=1\/n=2\/n=3\/n=4\/n=5\/n=6\/n=7\/n=8\/n=9\/n=10:=by omega
 rcases this with rfl|rfl|rfl|rfl|rfl|rfl|rfl|rfl|rfl|rfl<;>rfl
theorem qw_at {n:Int}(h:1<=n/\n<=6):qwL[(n-1).toNat]?=some (qword n):=by
 have:n=1\/n=2\/n=3\/n=4\/n=5\/n=6:=by omega
 rcases this with rfl|rfl|rfl|rfl|rfl|rfl<;>rfl
theorem great_call {N:Nat}(IH:PartQ N)(e:Ex)(hNk:e.kids.size<=N)(he:e.fit)(ao:Option Addr)(cap wb:Nat)(st:Ow)(w:World)(o:Nat->Nat)(S:Sl w (L0 o) e.kids ao)(H:WQ w o wb st)(hk:e.k=20)(hn:1<=e.n/\e.n<=10) :
  Calls Tryz.prog 274 #[.pointer (some ⟨wb,0,none⟩),exV e ao cap] w (PostO w o wb (oNode e.k e.n e.nm (fun g s=>oFs e.kids (e.k==21) g 0 s) st)):=by
 have hek:e.k=20\/e.k=24\/e.k=25:=by omega
 have HF:Hid (oNode e.k e.n e.nm (fun g s=>oFs e.kids (e.k==21) g 0 s) st=putO [41] (leaO (oFs e.kids (e.k==21) comS 0 (putO [40] (entO (putO (cword e.n) st)))))):=by
  show _=_;unfold oNode;rw[if_neg (by omega),if_neg (by omega),if_neg (by omega),if_neg (by omega),if_pos hk];rfl
 have b19:(e.k==19)=false:=bne (by omega);have b21:(e.k==21)=false:=bne (by omega);have b20:(e.k==20)=true:=by simp[hk]
 have HEK:=Lib.hid hek;have hcw:=cw_at hn;obtain⟨j,hj⟩:∃j,j=(e.n-1).toNat:=⟨_,rfl⟩
 rw[<-hj] at hcw;have hw1:IntKind.i64.wrap (e.n-1)=(j:Int):=by rw[IntKind.wrap_i64];omega
 have hj9:j<10:=by omega
 have hjI:(j:Int)<10:=by omega
 have HP:Hid (∀ wx oo,WQ wx oo wb st->Calls Tryz.prog 270 #[.pointer (some ⟨wb,0,none⟩),stv (cword e.n)] wx (PostO wx oo wb (putO (cword e.n) st))):=fun wx oo h=>puts_o _ h (by have:=cword_len e.n;omega);generalize putO (cword e.n) st=st2 at *;generalize cword e.n=cw at *;have HCW:=Lib.hid hcw;clear hk hek hn hj hcw;have s0:=boxStep (fun _=>False) w o (bxX e ao cap);have E0:Blk (w.alloc (bxX e ao cap)) (newLab w o 0) 0 w.heap.size (bxX e ao cap):=boxBlk w o _ _;have S0:=S.stp0 s0;have H0:=H.stp0 s0;have T0:=s0.i12;clear S H s0;rw[exV_out];go_enter Tryz.func274,Tryz.ntmps274;go_upto_region 1 with fail;generalize w.alloc (bxX e ao cap)=w0 at *;generalize newLab w o 0=o0 at *;generalize w.heap.size=be at *;have HCk:Hid (∀ wx oo,Blk wx oo 0 be (bxX e ao cap)->wx.cell? ⟨be,1,none⟩=some (.int .i64 e.n)):=fun wx oo h=>(box5 h.1).2.1;have E0d:Blk w0.drew o0 0 be (bxX e ao cap):=E0;obtain⟨p0,p1,p2,p3,p4,pf⟩:=box5 E0.1;go_upto_region 25 with fail;go_cut [105] (fun v wx=>∃o2,WQ wx o2 wb st2/\Blk wx o2 0 be (bxX e ao cap)/\Sl wx (L0 o2) e.kids ao/\Step I12 w o wx o2)
 case first =>
  refine wp_region_held_drew (S:=fun wx=>wx.cell? ⟨be,1,none⟩=some (.int .i64 e.n)) (by kernel_rfl) (HCk.out _ _ E0d) (fun hHeld=>?_);refine wpAnyH_take (i:=0) (v:=?v1) rfl (by kernel_rfl) (by kernel_rfl) (by kernel_rfl) (fun _ _ _ h=>h) (Or.inl ⟨by rfl,?hy1⟩) (by assumption) ?rest1
  case hy1=>(intro w hSw;(try dsimp only at hSw);go_simp;all_goals (with_reducible rfl))
  simp only[Act.put,List.getElem_toArray,List.getElem_cons_zero,List.getElem_cons_succ,List.setIfInBounds_toArray,List.set_cons_zero,List.set_cons_succ];refine wpAnyH_take (i:=2) (v:=?v2) rfl (by kernel_rfl) (by kernel_rfl) (by kernel_rfl) (fun _ _ _ h=>h) (Or.inl ⟨by rfl,?hy2⟩) (by assumption) ?rest2
  case hy2=>(intro w hSw;(try dsimp only at hSw);go_simp;all_goals (with_reducible rfl))
  simp only[Act.put,List.getElem_toArray,List.getElem_cons_zero,List.getElem_cons_succ,List.setIfInBounds_toArray,List.set_cons_zero,List.set_cons_succ];refine wpAnyH_take (i:=3) (v:=?v3) rfl (by kernel_rfl) (by kernel_rfl) (by kernel_rfl) (fun _ _ _ h=>h) (Or.inl ⟨by rfl,?hy3⟩) (by assumption) ?rest3
  case hy3=>(intro w hSw;(try dsimp only at hSw);go_simp;all_goals (with_reducible rfl))
  simp only[Act.put,List.getElem_toArray,List.getElem_cons_zero,List.getElem_cons_succ,List.setIfInBounds_toArray,List.set_cons_zero,List.set_cons_succ];refine wpAnyH_take (i:=4) (v:=?v4) rfl (by kernel_rfl) (by kernel_rfl) (by kernel_rfl) (fun _ _ _ h=>h) (Or.inl ⟨by rfl,?hy4⟩) (by assumption) ?rest4
  case hy4=>(intro w hSw;(try dsimp only at hSw);go_simp;all_goals (with_reducible rfl))
  simp only[Act.put,List.getElem_toArray,List.getElem_cons_zero,List.getElem_cons_succ,List.setIfInBounds_toArray,List.set_cons_zero,List.set_cons_succ];refine wpAnyH_ready (rs:=[1]) (by kernel_rfl) (by simp) ?_;refine AllReadyH.cons rfl (fun K hK=>?_) AllReadyH.nil
  go_simp
  go_wp2_with ((go_at_call 198;refine(calls_s _).mono ?_;rintro e2 w1 ⟨g1,rfl,WL⟩;have sA:Step (fun _=>False) w0 o0 w1 o0:=(Step.refl _ w0 o0).drew.trans (Step.ofB o0 WL.1);have E1:Blk w1 o0 0 be (bxX e ao cap):=E0.step sA id;have H1:=H0.stp0 sA;have S1:=S0.stp0 sA;have T1:=T0.trans sA.i12;have ix:=WL.2.2.2 j _ HCW.out));refine hK.out _ _ (HCk.out _ _ E1) (fun hHeld=>?_);clear hK K;refine wpAnyH_take (i:=5) (v:=?v5) rfl (by kernel_rfl) (by kernel_rfl) (by kernel_rfl) (fun _ _ _ h=>h) (Or.inl ⟨by rfl,?hy5⟩) (by assumption) ?rest5
  case hy5=>(intro w hSw;(try dsimp only at hSw);go_simp;all_goals (with_reducible rfl))
  simp only[Act.put,List.getElem_toArray,List.getElem_cons_zero,List.getElem_cons_succ,List.setIfInBounds_toArray,List.set_cons_zero,List.set_cons_succ];refine wpAnyH_ready (rs:=[6]) (by kernel_rfl) (by simp) ?_;refine AllReadyH.cons rfl (fun K hK=>?_) AllReadyH.nil
  go_simp
  refine hK.out _ _ (HCk.out _ _ E1) (fun hHeld=>?_);clear hK K;refine wpAnyH_ready (rs:=[7]) (by kernel_rfl) (by simp) ?_;refine AllReadyH.cons rfl (fun K hK=>?_) AllReadyH.nil
  go_simp
  go_wp2_with ((go_at_call 270;refine(HP.out _ _ H1).mono ?_;rintro e2 w2 ⟨rfl,o2,H2,s2⟩;have E2:=E1.stp s2;have S2:=S1.stp s2;have T2:=T1.trans s2));refine hK.out _ _ (HCk.out _ _ E2) (fun hHeld=>?_);clear hK K;refine wpAnyH_done (by kernel_rfl) ?_ _;go_wp2;go_meet;exact⟨o2,H2,E2,S2,T2⟩
 case rest =>
 obtain⟨o2,H2,E2,S2,T2⟩:=hcut;obtain⟨w2,rfl⟩:∃w2,w2=wc:=⟨_,rfl⟩
 clear H0 S0 T0 E0 E0d HP HCk p0 p1 p2 p3 p4 pf;obtain⟨p0,p1,p2,p3,p4,pf⟩:=box5 E2.1;have c3:=opens_o [40] H2 (by simp);have hb3:Bal (entO st2) (putO [40] (entO st2)):=(Bal.refl _).put [40];have hp:Hid (∀ s,Bal (entO st2) s->∀ x,s=some x->1<=x.o):=fun s h=>ent_pos h;generalize putO [40] (entO st2)=st3 at *;generalize entO st2=se at *;go_wp2_with fail;refine c3.mono ?_;rintro e2 w3 ⟨rfl,o3,H3,s3⟩;have T3:=T2.trans s3;have S3:=S2.stp s3;have E3:=E2.stp s3;clear c3 H2 T2 S2 E2 s3 p0 p1 p2 p3 p4 pf;obtain⟨p0,p1,p2,p3,p4,pf⟩:=box5 E3.1;have hek:=HEK.out;have c4:=list_qw IH e hek hNk he ao cap wb st3 w3 o3 S3 H3;rw[exV_out] at c4;have hb4:=hb3.trans (fs_bal e.kids (e.k==21) comS 0 st3);generalize oFs e.kids (e.k==21) comS 0 st3=st4 at *;go_wp2_with fail;refine c4.mono ?_;rintro e2 w4 ⟨rfl,o4,H4,s4⟩;have T4:=T3.trans s4;have S4:=S3.stp s4;have E4:=E3.stp s4;clear c4 H3 T3 S3 E3 s4 p0 p1 p2 p3 p4 pf hb3;obtain⟨p0,p1,p2,p3,p4,pf⟩:=box5 E4.1;clear hek;obtain⟨oo5,dd5,df5,s5,H5⟩:=H4.lea (hp.out _ hb4);generalize leaO st4=st5 at *;have T5:=T4.trans s5;have S5:=S4.stp s5;have E5:=E4.stp s5;go_upto_region 29 with fail;generalize w4.setCell ⟨wb,1,none⟩ (.int .i64 (wrap64 (oo5-1)))=w5 at *;clear dd5 df5 H4 T4 S4 E4 s5 p0 p1 p2 p3 p4 pf hp hb4;generalize o4=o5 at *;obtain⟨p0,p1,p2,p3,p4,pf⟩:=box5 E5.1;have c6:=puts_o [41] H5 (by simp);generalize putO [41] st5=st6 at *;go_wp2_with fail;refine c6.mono ?_;rintro e2 w6 ⟨rfl,o6,H6,s6⟩;have T6:=T5.trans s6;have S6:=S5.stp s6;have E6:=E5.stp s6;clear c6 H5 T5 S5 E5 s6 p0 p1 p2 p3 p4 pf;obtain⟨p0,p1,p2,p3,p4,pf⟩:=box5 E6.1;go_wp2
 go_end0
 exact⟨rfl,o6,by rw[HF.out];exact H6,T6⟩
theorem great_quant {N:Nat}(IH:PartQ N)(e:Ex)(hNk:e.kids.size<=N)(he:e.fit)(ao:Option Addr)(cap wb:Nat)(st:Ow)(w:World)(o:Nat->Nat)(S:Sl w (L0 o) e.kids ao)(H:WQ w o wb st)(hk:e.k=21)(hn:1<=e.n/\e.n<=6)(hl:e.kids.len=2)(hnm:e.nm.length<=12) :
  Calls Tryz.prog 274 #[.pointer (some ⟨wb,0,none⟩),exV e ao cap] w (PostO w o wb (oNode e.k e.n e.nm (fun g s=>oFs e.kids (e.k==21) g 0 s) st)):=by
 obtain⟨x,y,hks⟩:=len2 hl;have hk0:Hid (e.kids=Fs.app .nil (Fs.ex x (Fs.ex y .nil))):=hks;have hk1:Hid (e.kids=Fs.app (one x) (Fs.ex y .nil)):=by show _=_;rw[hks];rfl
 have hsz:e.kids.size=x.kids.size+(y.kids.size+0+1)+1:=by rw[hks];rfl
 have hNx:x.kids.size<N:=by omega
 have hNy:y.kids.size<N:=by omega
 have hfx:=Ex.kidfit he hk0.out;have hfy:=Ex.kidfit he hk1.out;have HF:Hid (oNode e.k e.n e.nm (fun g s=>oFs e.kids (e.k==21) g 0 s) st=qleO (leaO (oKid e y 1 (putO [58,32] (oKid e x 0 (putO (qword e.n++[32]++e.nm++[32,105,110,32]) (entO (qenO st)))))))):=by
  show _=_;unfold oNode;rw[if_neg (by omega),if_neg (by omega),if_neg (by omega),if_pos hk];simp only[hks,oFs_ex];rw[okid_eq e x 0 _ (by rw[hk];rfl) (by rw[hk];rfl),okid_eq e y 1 _ (by rw[hk];rfl) (by rw[hk];rfl)];rfl
 have b19:(e.k==19)=false:=bne (by omega);have b21:(e.k==21)=true:=by simp[hk]
 have hqw:=qw_at hn;obtain⟨j,hj⟩:∃j,j=(e.n-1).toNat:=⟨_,rfl⟩
 rw[<-hj] at hqw;have hw1:IntKind.i64.wrap (e.n-1)=(j:Int):=by rw[IntKind.wrap_i64];omega
 have hj9:j<6:=by omega
 have hjI:(j:Int)<6:=by omega
 have hql:=qword_len e.n;have HO:Hid (∀ wx oo (su:Ow),WQ wx oo wb su->Calls Tryz.prog 272 #[.pointer (some ⟨wb,0,none⟩),.string (⟨(qword e.n).toArray⟩++⟨#[32]⟩++⟨e.nm.toArray⟩++⟨#[32,105,110,32]⟩)] wx (PostO wx oo wb (putO (qword e.n++[32]++e.nm++[32,105,110,32]) (entO su)))):=fun wx oo su h=>by
  have h9:=opens_o (qword e.n++[32]++e.nm++[32,105,110,32]) h (by simp only[List.length_append,List.length_cons,List.length_nil];omega);have e9:(⟨(qword e.n).toArray⟩++⟨#[32]⟩++⟨e.nm.toArray⟩++⟨#[32,105,110,32]⟩:ByteArray)=⟨(qword e.n++[32]++e.nm++[32,105,110,32]).toArray⟩:=by
   rw[<-cat2,<-cat2,<-cat2]
  rw[e9];exact h9
 have hm1:=size_mk (qword e.n);have hm2:=size_mk e.nm;have HQ:=Lib.hid hqw;generalize qword e.n=qw at *;clear hks hk hl hsz hj hqw hn;have s0:=boxStep (fun _=>False) w o (bxX e ao cap);have E0:Blk (w.alloc (bxX e ao cap)) (newLab w o 0) 0 w.heap.size (bxX e ao cap):=boxBlk w o _ _;have S0:=S.stp0 s0;have H0:=H.stp0 s0;have T0:=s0.i12;clear S H s0;rw[exV_out];go_enter Tryz.func274,Tryz.ntmps274;go_upto_region 1 with fail;generalize w.alloc (bxX e ao cap)=w0 at *;generalize newLab w o 0=o0 at *;generalize w.heap.size=be at *;have HQP:Hid (∀ s,Bal (qenO st) s->∀ x,s=some x->1<=x.q):=fun s h=>qen_pos h;obtain⟨qq,c2,cf,sq0,hh⟩:=H0.qen;have hen:=H0.end.1;generalize qenO st=sq at *;obtain⟨p0,p1,p2,p3,p4,pf⟩:=box5 E0.1;obtain⟨w4,hw4⟩:∃w4,w4=w0.setCell ⟨wb,2,none⟩ (.int .i64 (wrap64 (qq+1))):=⟨_,rfl⟩
 have d2:w4.cell? ⟨wb,2,none⟩=some (.int .i64 (wrap64 (qq+1))):=by rw[hw4];exact World.cell?_setCell_same _ _ _ c2
 have df:∀ j,w4.frozen? ⟨wb,j,none⟩=false:=fun j=>by rw[hw4];exact(World.frozen?_setCell ..).trans (cf j)
 have d3:w4.cell? ⟨wb,3,none⟩=some (.bool st.isSome):=by rw[hw4];exact(World.cell?_setCell_other _ _ _ _ (by simp)).trans hen
 go_upto_region 16 with fail;rw[<-hw4];rw[<-hw4] at hh sq0;have E4:=E0.stp sq0;have S4:=S0.stp sq0;have T4:=T0.trans sq0;clear hw4 c2 cf hen E0 S0 T0 H0 sq0 p0 p1 p2 p3 p4 pf;rcases hh with ⟨hl,H5⟩|⟨hl,H5⟩
 ·have s5:Step I12 w4 o0 (w4.setCell ⟨wb,3,none⟩ (.bool false)) o0:=by
   obtain⟨t,oo2,qq2,ok,hr,_⟩:=H5.raw;obtain⟨v,hb,_⟩:=hr;exact setStep _ w4 o0 ⟨wb,3,none⟩ _ (.inl hb.2)
  have E5:=E4.stp s5;have S5:=S4.stp s5;have T5:=T4.trans s5;go_upto_region 18 with fail;generalize w4.setCell ⟨wb,3,none⟩ (.bool false)=w5 at *;clear d2 df d3 s5 E4 S4 T4;have HCk:Hid (∀ wx oo,Blk wx oo 0 be (bxX e ao cap)->wx.cell? ⟨be,1,none⟩=some (.int .i64 e.n)/\wx.cell? ⟨be,2,none⟩=some (stv e.nm)):=fun wx oo h=>⟨(box5 h.1).2.1,(box5 h.1).2.2.1⟩;have E5d:Blk w5.drew o0 0 be (bxX e ao cap):=E5;obtain⟨p0,p1,p2,p3,p4,pf⟩:=box5 E5.1;have HO2:Hid (∀ wx oo,WQ wx oo wb sq->Calls Tryz.prog 272 #[.pointer (some ⟨wb,0,none⟩),.string (⟨qw.toArray⟩++⟨#[32]⟩++⟨e.nm.toArray⟩++⟨#[32,105,110,32]⟩)] wx (PostO wx oo wb (putO (qw++[32]++e.nm++[32,105,110,32]) (entO sq)))):=fun wx oo h=>HO.out wx oo sq h;have hb7:Bal (entO sq) (putO (qw++[32]++e.nm++[32,105,110,32]) (entO sq)):=(Bal.refl _).put _;have hp:Hid (∀ s,Bal (entO sq) s->∀ x,s=some x->1<=x.o):=fun s h=>ent_pos h;have hl9:Hid (∀ s,Bal (entO sq) s->Bal sq (leaO s)):=fun s h=>Bal.lea h;generalize putO (qw++[32]++e.nm++[32,105,110,32]) (entO sq)=st7 at *;clear HO;go_upto_region 18 with fail;go_cut [73] (fun v wx=>∃o7,WQ wx o7 wb st7/\Blk wx o7 0 be (bxX e ao cap)/\Sl wx (L0 o7) e.kids ao/\Step I12 w o wx o7)
  case first =>
   refine wp_region_held_drew (S:=fun wx=>wx.cell? ⟨be,1,none⟩=some (.int .i64 e.n)/\wx.cell? ⟨be,2,none⟩=some (stv e.nm)) (by kernel_rfl) (HCk.out _ _ E5d) (fun hHeld=>?_);refine wpAnyH_take (i:=0) (v:=?v6) rfl (by kernel_rfl) (by kernel_rfl) (by kernel_rfl) (fun _ _ _ h=>h) (Or.inl ⟨by rfl,?hy6⟩) (by assumption) ?rest6
   case hy6=>(intro w hSw;(try dsimp only at hSw);go_simp;all_goals (with_reducible rfl))
   simp only[Act.put,List.getElem_toArray,List.getElem_cons_zero,List.getElem_cons_succ,List.setIfInBounds_toArray,List.set_cons_zero,List.set_cons_succ];refine wpAnyH_take (i:=2) (v:=?v7) rfl (by kernel_rfl) (by kernel_rfl) (by kernel_rfl) (fun _ _ _ h=>h) (Or.inl ⟨by rfl,?hy7⟩) (by assumption) ?rest7
   case hy7=>(intro w hSw;(try dsimp only at hSw);go_simp;all_goals (with_reducible rfl))
   simp only[Act.put,List.getElem_toArray,List.getElem_cons_zero,List.getElem_cons_succ,List.setIfInBounds_toArray,List.set_cons_zero,List.set_cons_succ];refine wpAnyH_take (i:=3) (v:=?v8) rfl (by kernel_rfl) (by kernel_rfl) (by kernel_rfl) (fun _ _ _ h=>h) (Or.inl ⟨by rfl,?hy8⟩) (by assumption) ?rest8
   case hy8=>(intro w hSw;(try dsimp only at hSw);go_simp;all_goals (with_reducible rfl))
   simp only[Act.put,List.getElem_toArray,List.getElem_cons_zero,List.getElem_cons_succ,List.setIfInBounds_toArray,List.set_cons_zero,List.set_cons_succ];refine wpAnyH_take (i:=4) (v:=?v9) rfl (by kernel_rfl) (by kernel_rfl) (by kernel_rfl) (fun _ _ _ h=>h) (Or.inl ⟨by rfl,?hy9⟩) (by assumption) ?rest9
   case hy9=>(intro w hSw;(try dsimp only at hSw);go_simp;all_goals (with_reducible rfl))
   simp only[Act.put,List.getElem_toArray,List.getElem_cons_zero,List.getElem_cons_succ,List.setIfInBounds_toArray,List.set_cons_zero,List.set_cons_succ];refine wpAnyH_take (i:=8) (v:=?v10) rfl (by kernel_rfl) (by kernel_rfl) (by kernel_rfl) (fun _ _ _ h=>h) (Or.inl ⟨by rfl,?hy10⟩) (by assumption) ?rest10
   case hy10=>(intro w hSw;(try dsimp only at hSw);go_simp;all_goals (with_reducible rfl))
   simp only[Act.put,List.getElem_toArray,List.getElem_cons_zero,List.getElem_cons_succ,List.setIfInBounds_toArray,List.set_cons_zero,List.set_cons_succ];refine wpAnyH_take (i:=9) (v:=?v11) rfl (by kernel_rfl) (by kernel_rfl) (by kernel_rfl) (fun _ _ _ h=>h) (Or.inl ⟨by rfl,?hy11⟩) (by assumption) ?rest11
   case hy11=>(intro w hSw;(try dsimp only at hSw);go_simp;all_goals (with_reducible rfl))
   simp only[Act.put,List.getElem_toArray,List.getElem_cons_zero,List.getElem_cons_succ,List.setIfInBounds_toArray,List.set_cons_zero,List.set_cons_succ];refine wpAnyH_ready (rs:=[1]) (by kernel_rfl) (by simp) ?_;refine AllReadyH.cons rfl (fun K hK=>?_) AllReadyH.nil
   go_simp
   go_wp2_with ((go_at_call 199;refine(quants_s _).mono ?_;rintro e2 w6 ⟨g1,rfl,WL⟩;have sA:Step (fun _=>False) w5 o0 w6 o0:=(Step.refl _ w5 o0).drew.trans (Step.ofB o0 WL.1);have E6:Blk w6 o0 0 be (bxX e ao cap):=E5.step sA id;have H6:=H5.stp0 sA;have S6:=S5.stp0 sA;have T6:=T5.trans sA.i12;have ix:=WL.2.2.2 j _ HQ.out));refine hK.out _ _ (HCk.out _ _ E6) (fun hHeld=>?_);clear hK K;refine wpAnyH_take (i:=5) (v:=?v12) rfl (by kernel_rfl) (by kernel_rfl) (by kernel_rfl) (fun _ _ _ h=>h) (Or.inl ⟨by rfl,?hy12⟩) (by assumption) ?rest12
   case hy12=>(intro w hSw;(try dsimp only at hSw);go_simp;all_goals (with_reducible rfl))
   simp only[Act.put,List.getElem_toArray,List.getElem_cons_zero,List.getElem_cons_succ,List.setIfInBounds_toArray,List.set_cons_zero,List.set_cons_succ];refine wpAnyH_ready (rs:=[6]) (by kernel_rfl) (by simp) ?_;refine AllReadyH.cons rfl (fun K hK=>?_) AllReadyH.nil
   go_simp
   refine hK.out _ _ (HCk.out _ _ E6) (fun hHeld=>?_);clear hK K;refine wpAnyH_take (i:=7) (v:=?v13) rfl (by kernel_rfl) (by kernel_rfl) (by kernel_rfl) (fun _ _ _ h=>h) (Or.inl ⟨by rfl,?hy13⟩) (by assumption) ?rest13
   case hy13=>(intro w hSw;(try dsimp only at hSw);go_simp;rw[if_neg (by omega)])
   simp only[Act.put,List.getElem_toArray,List.getElem_cons_zero,List.getElem_cons_succ,List.setIfInBounds_toArray,List.set_cons_zero,List.set_cons_succ];refine wpAnyH_take (i:=10) (v:=?v14) rfl (by kernel_rfl) (by kernel_rfl) (by kernel_rfl) (fun _ _ _ h=>h) (Or.inl ⟨by rfl,?hy14⟩) (by assumption) ?rest14
   case hy14=>(intro w hSw;(try dsimp only at hSw);go_simp;rw[if_neg (by omega)])
   simp only[Act.put,List.getElem_toArray,List.getElem_cons_zero,List.getElem_cons_succ,List.setIfInBounds_toArray,List.set_cons_zero,List.set_cons_succ];refine wpAnyH_take (i:=11) (v:=?v15) rfl (by kernel_rfl) (by kernel_rfl) (by kernel_rfl) (fun _ _ _ h=>h) (Or.inl ⟨by rfl,?hy15⟩) (by assumption) ?rest15
   case hy15=>(intro w hSw;(try dsimp only at hSw);go_simp;rw[if_neg (by omega)])
   simp only[Act.put,List.getElem_toArray,List.getElem_cons_zero,List.getElem_cons_succ,List.setIfInBounds_toArray,List.set_cons_zero,List.set_cons_succ];refine wpAnyH_ready (rs:=[12]) (by kernel_rfl) (by simp) ?_;refine AllReadyH.cons rfl (fun K hK=>?_) AllReadyH.nil
   go_simp
   go_wp2_with ((go_at_call 272;refine(HO2.out _ _ H6).mono ?_;rintro e2 w7 ⟨rfl,o7,H7,s7⟩;have E7:=E6.stp s7;have S7:=S6.stp s7;have T7:=T6.trans s7));refine hK.out _ _ (HCk.out _ _ E7) (fun hHeld=>?_);clear hK K;refine wpAnyH_done (by kernel_rfl) ?_ _;go_wp2;go_meet;exact⟨o7,H7,E7,S7,T7⟩
  case rest =>
  obtain⟨o7,H7,E7,S7,T7⟩:=hcut;obtain⟨w7,rfl⟩:∃w7,w7=wc:=⟨_,rfl⟩
  clear H5 S5 T5 E5 E5d HO2 HCk p0 p1 p2 p3 p4 pf;generalize entO sq=se at *;obtain⟨p0,p1,p2,p3,p4,pf⟩:=box5 E7.1;have c8:=kid_q IH e x .nil (Fs.ex y .nil) hk0.out 0 rfl (by omega) (hNx) (hfx) ao cap wb st7 w7 o7 S7 H7;rw[exV_out] at c8;have hb8:=hb7.trans (kid_bal e x 0 st7);generalize oKid e x 0 st7=st8 at *;go_wp2_with fail;refine c8.mono ?_;rintro e2 w8 ⟨rfl,o8,H8,s8⟩;have T8:=T7.trans s8;have S8:=S7.stp s8;have E8:=E7.stp s8;clear c8 H7 T7 S7 E7 s8 p0 p1 p2 p3 p4 pf hb7;obtain⟨p0,p1,p2,p3,p4,pf⟩:=box5 E8.1;have c9:=puts_o [58,32] H8 (by simp);have hb9:=hb8.put [58,32];generalize putO [58,32] st8=st9 at *;go_wp2_with fail;refine c9.mono ?_;rintro e2 w9 ⟨rfl,o9,H9,s9⟩;have T9:=T8.trans s9;have S9:=S8.stp s9;have E9:=E8.stp s9;clear c9 H8 T8 S8 E8 s9 p0 p1 p2 p3 p4 pf hb8;obtain⟨p0,p1,p2,p3,p4,pf⟩:=box5 E9.1;have c10:=kid_q IH e y (one x) .nil hk1.out 1 rfl (by omega) (hNy) (hfy) ao cap wb st9 w9 o9 S9 H9;rw[exV_out] at c10;have hb10:=hb9.trans (kid_bal e y 1 st9);generalize oKid e y 1 st9=st10 at *;go_wp2_with fail;refine c10.mono ?_;rintro e2 w10 ⟨rfl,o10,H10,s10⟩;have T10:=T9.trans s10;have S10:=S9.stp s10;have E10:=E9.stp s10;clear c10 H9 T9 S9 E9 s10 p0 p1 p2 p3 p4 pf hb9;obtain⟨p0,p1,p2,p3,p4,pf⟩:=box5 E10.1;have hq9:=hl9.out _ hb10;obtain⟨oo11,dd11,df11,s11,H11⟩:=H10.lea (hp.out _ hb10);generalize leaO st10=st11 at *;have T11:=T10.trans s11;have S11:=S10.stp s11;have E11:=E10.stp s11;go_upto_region 23 with fail;generalize w10.setCell ⟨wb,1,none⟩ (.int .i64 (wrap64 (oo11-1)))=w11 at *;clear dd11 df11 H10 T10 S10 E10 s11 p0 p1 p2 p3 p4 pf hp hb10;generalize o10=o11 at *;obtain⟨p0,p1,p2,p3,p4,pf⟩:=box5 E11.1;obtain⟨oo12,dd12,df12,s12,H12⟩:=H11.qle (HQP.out _ hq9);generalize qleO st11=st12 at *;have T12:=T11.trans s12;clear H11 T11 S11 E11 s12 p0 p1 p2 p3 p4 pf hq9 hl9;go_wp2
  go_end0
  exact⟨rfl,o11,by rw[HF.out];exact H12,T12⟩
 ·obtain⟨w5,rfl⟩:∃w5,w5=w4:=⟨_,rfl⟩
  have E5:=E4;have S5:=S4;have T5:=T4;clear E4 S4 T4;have HCk:Hid (∀ wx oo,Blk wx oo 0 be (bxX e ao cap)->wx.cell? ⟨be,1,none⟩=some (.int .i64 e.n)/\wx.cell? ⟨be,2,none⟩=some (stv e.nm)):=fun wx oo h=>⟨(box5 h.1).2.1,(box5 h.1).2.2.1⟩;have E5d:Blk w5.drew o0 0 be (bxX e ao cap):=E5;obtain⟨p0,p1,p2,p3,p4,pf⟩:=box5 E5.1;have HO2:Hid (∀ wx oo,WQ wx oo wb sq->Calls Tryz.prog 272 #[.pointer (some ⟨wb,0,none⟩),.string (⟨qw.toArray⟩++⟨#[32]⟩++⟨e.nm.toArray⟩++⟨#[32,105,110,32]⟩)] wx (PostO wx oo wb (putO (qw++[32]++e.nm++[32,105,110,32]) (entO sq)))):=fun wx oo h=>HO.out wx oo sq h;have hb7:Bal (entO sq) (putO (qw++[32]++e.nm++[32,105,110,32]) (entO sq)):=(Bal.refl _).put _;have hp:Hid (∀ s,Bal (entO sq) s->∀ x,s=some x->1<=x.o):=fun s h=>ent_pos h;have hl9:Hid (∀ s,Bal (entO sq) s->Bal sq (leaO s)):=fun s h=>Bal.lea h;generalize putO (qw++[32]++e.nm++[32,105,110,32]) (entO sq)=st7 at *;clear HO;go_upto_region 18 with fail;clear d2 df d3;go_cut [73] (fun v wx=>∃o7,WQ wx o7 wb st7/\Blk wx o7 0 be (bxX e ao cap)/\Sl wx (L0 o7) e.kids ao/\Step I12 w o wx o7)
  case first =>
   refine wp_region_held_drew (S:=fun wx=>wx.cell? ⟨be,1,none⟩=some (.int .i64 e.n)/\wx.cell? ⟨be,2,none⟩=some (stv e.nm)) (by kernel_rfl) (HCk.out _ _ E5d) (fun hHeld=>?_);refine wpAnyH_take (i:=0) (v:=?v16) rfl (by kernel_rfl) (by kernel_rfl) (by kernel_rfl) (fun _ _ _ h=>h) (Or.inl ⟨by rfl,?hy16⟩) (by assumption) ?rest16
   case hy16=>(intro w hSw;(try dsimp only at hSw);go_simp;all_goals (with_reducible rfl))
   simp only[Act.put,List.getElem_toArray,List.getElem_cons_zero,List.getElem_cons_succ,List.setIfInBounds_toArray,List.set_cons_zero,List.set_cons_succ];refine wpAnyH_take (i:=2) (v:=?v17) rfl (by kernel_rfl) (by kernel_rfl) (by kernel_rfl) (fun _ _ _ h=>h) (Or.inl ⟨by rfl,?hy17⟩) (by assumption) ?rest17
   case hy17=>(intro w hSw;(try dsimp only at hSw);go_simp;all_goals (with_reducible rfl))
   simp only[Act.put,List.getElem_toArray,List.getElem_cons_zero,List.getElem_cons_succ,List.setIfInBounds_toArray,List.set_cons_zero,List.set_cons_succ];refine wpAnyH_take (i:=3) (v:=?v18) rfl (by kernel_rfl) (by kernel_rfl) (by kernel_rfl) (fun _ _ _ h=>h) (Or.inl ⟨by rfl,?hy18⟩) (by assumption) ?rest18
   case hy18=>(intro w hSw;(try dsimp only at hSw);go_simp;all_goals (with_reducible rfl))
   simp only[Act.put,List.getElem_toArray,List.getElem_cons_zero,List.getElem_cons_succ,List.setIfInBounds_toArray,List.set_cons_zero,List.set_cons_succ];refine wpAnyH_take (i:=4) (v:=?v19) rfl (by kernel_rfl) (by kernel_rfl) (by kernel_rfl) (fun _ _ _ h=>h) (Or.inl ⟨by rfl,?hy19⟩) (by assumption) ?rest19
   case hy19=>(intro w hSw;(try dsimp only at hSw);go_simp;all_goals (with_reducible rfl))
   simp only[Act.put,List.getElem_toArray,List.getElem_cons_zero,List.getElem_cons_succ,List.setIfInBounds_toArray,List.set_cons_zero,List.set_cons_succ];refine wpAnyH_take (i:=8) (v:=?v20) rfl (by kernel_rfl) (by kernel_rfl) (by kernel_rfl) (fun _ _ _ h=>h) (Or.inl ⟨by rfl,?hy20⟩) (by assumption) ?rest20
   case hy20=>(intro w hSw;(try dsimp only at hSw);go_simp;all_goals (with_reducible rfl))
   simp only[Act.put,List.getElem_toArray,List.getElem_cons_zero,List.getElem_cons_succ,List.setIfInBounds_toArray,List.set_cons_zero,List.set_cons_succ];refine wpAnyH_take (i:=9) (v:=?v21) rfl (by kernel_rfl) (by kernel_rfl) (by kernel_rfl) (fun _ _ _ h=>h) (Or.inl ⟨by rfl,?hy21⟩) (by assumption) ?rest21
   case hy21=>(intro w hSw;(try dsimp only at hSw);go_simp;all_goals (with_reducible rfl))
   simp only[Act.put,List.getElem_toArray,List.getElem_cons_zero,List.getElem_cons_succ,List.setIfInBounds_toArray,List.set_cons_zero,List.set_cons_succ];refine wpAnyH_ready (rs:=[1]) (by kernel_rfl) (by simp) ?_;refine AllReadyH.cons rfl (fun K hK=>?_) AllReadyH.nil
   go_simp
   go_wp2_with ((go_at_call 199;refine(quants_s _).mono ?_;rintro e2 w6 ⟨g1,rfl,WL⟩;have sA:Step (fun _=>False) w5 o0 w6 o0:=(Step.refl _ w5 o0).drew.trans (Step.ofB o0 WL.1);have E6:Blk w6 o0 0 be (bxX e ao cap):=E5.step sA id;have H6:=H5.stp0 sA;have S6:=S5.stp0 sA;have T6:=T5.trans sA.i12;have ix:=WL.2.2.2 j _ HQ.out));refine hK.out _ _ (HCk.out _ _ E6) (fun hHeld=>?_);clear hK K;refine wpAnyH_take (i:=5) (v:=?v22) rfl (by kernel_rfl) (by kernel_rfl) (by kernel_rfl) (fun _ _ _ h=>h) (Or.inl ⟨by rfl,?hy22⟩) (by assumption) ?rest22
   case hy22=>(intro w hSw;(try dsimp only at hSw);go_simp;all_goals (with_reducible rfl))
   simp only[Act.put,List.getElem_toArray,List.getElem_cons_zero,List.getElem_cons_succ,List.setIfInBounds_toArray,List.set_cons_zero,List.set_cons_succ];refine wpAnyH_ready (rs:=[6]) (by kernel_rfl) (by simp) ?_;refine AllReadyH.cons rfl (fun K hK=>?_) AllReadyH.nil
   go_simp
   refine hK.out _ _ (HCk.out _ _ E6) (fun hHeld=>?_);clear hK K;refine wpAnyH_take (i:=7) (v:=?v23) rfl (by kernel_rfl) (by kernel_rfl) (by kernel_rfl) (fun _ _ _ h=>h) (Or.inl ⟨by rfl,?hy23⟩) (by assumption) ?rest23
   case hy23=>(intro w hSw;(try dsimp only at hSw);go_simp;rw[if_neg (by omega)])
   simp only[Act.put,List.getElem_toArray,List.getElem_cons_zero,List.getElem_cons_succ,List.setIfInBounds_toArray,List.set_cons_zero,List.set_cons_succ];refine wpAnyH_take (i:=10) (v:=?v24) rfl (by kernel_rfl) (by kernel_rfl) (by kernel_rfl) (fun _ _ _ h=>h) (Or.inl ⟨by rfl,?hy24⟩) (by assumption) ?rest24
   case hy24=>(intro w hSw;(try dsimp only at hSw);go_simp;rw[if_neg (by omega)])
   simp only[Act.put,List.getElem_toArray,List.getElem_cons_zero,List.getElem_cons_succ,List.setIfInBounds_toArray,List.set_cons_zero,List.set_cons_succ];refine wpAnyH_take (i:=11) (v:=?v25) rfl (by kernel_rfl) (by kernel_rfl) (by kernel_rfl) (fun _ _ _ h=>h) (Or.inl ⟨by rfl,?hy25⟩) (by assumption) ?rest25
   case hy25=>(intro w hSw;(try dsimp only at hSw);go_simp;rw[if_neg (by omega)])
   simp only[Act.put,List.getElem_toArray,List.getElem_cons_zero,List.getElem_cons_succ,List.setIfInBounds_toArray,List.set_cons_zero,List.set_cons_succ];refine wpAnyH_ready (rs:=[12]) (by kernel_rfl) (by simp) ?_;refine AllReadyH.cons rfl (fun K hK=>?_) AllReadyH.nil
   go_simp
   go_wp2_with ((go_at_call 272;refine(HO2.out _ _ H6).mono ?_;rintro e2 w7 ⟨rfl,o7,H7,s7⟩;have E7:=E6.stp s7;have S7:=S6.stp s7;have T7:=T6.trans s7));refine hK.out _ _ (HCk.out _ _ E7) (fun hHeld=>?_);clear hK K;refine wpAnyH_done (by kernel_rfl) ?_ _;go_wp2;go_meet;exact⟨o7,H7,E7,S7,T7⟩
  case rest =>
  obtain⟨o7,H7,E7,S7,T7⟩:=hcut;obtain⟨w7,rfl⟩:∃w7,w7=wc:=⟨_,rfl⟩
  clear H5 S5 T5 E5 E5d HO2 HCk p0 p1 p2 p3 p4 pf;generalize entO sq=se at *;obtain⟨p0,p1,p2,p3,p4,pf⟩:=box5 E7.1;have c8:=kid_q IH e x .nil (Fs.ex y .nil) hk0.out 0 rfl (by omega) (hNx) (hfx) ao cap wb st7 w7 o7 S7 H7;rw[exV_out] at c8;have hb8:=hb7.trans (kid_bal e x 0 st7);generalize oKid e x 0 st7=st8 at *;go_wp2_with fail;refine c8.mono ?_;rintro e2 w8 ⟨rfl,o8,H8,s8⟩;have T8:=T7.trans s8;have S8:=S7.stp s8;have E8:=E7.stp s8;clear c8 H7 T7 S7 E7 s8 p0 p1 p2 p3 p4 pf hb7;obtain⟨p0,p1,p2,p3,p4,pf⟩:=box5 E8.1;have c9:=puts_o [58,32] H8 (by simp);have hb9:=hb8.put [58,32];generalize putO [58,32] st8=st9 at *;go_wp2_with fail;refine c9.mono ?_;rintro e2 w9 ⟨rfl,o9,H9,s9⟩;have T9:=T8.trans s9;have S9:=S8.stp s9;have E9:=E8.stp s9;clear c9 H8 T8 S8 E8 s9 p0 p1 p2 p3 p4 pf hb8;obtain⟨p0,p1,p2,p3,p4,pf⟩:=box5 E9.1;have c10:=kid_q IH e y (one x) .nil hk1.out 1 rfl (by omega) (hNy) (hfy) ao cap wb st9 w9 o9 S9 H9;rw[exV_out] at c10;have hb10:=hb9.trans (kid_bal e y 1 st9);generalize oKid e y 1 st9=st10 at *;go_wp2_with fail;refine c10.mono ?_;rintro e2 w10 ⟨rfl,o10,H10,s10⟩;have T10:=T9.trans s10;have S10:=S9.stp s10;have E10:=E9.stp s10;clear c10 H9 T9 S9 E9 s10 p0 p1 p2 p3 p4 pf hb9;obtain⟨p0,p1,p2,p3,p4,pf⟩:=box5 E10.1;have hq9:=hl9.out _ hb10;obtain⟨oo11,dd11,df11,s11,H11⟩:=H10.lea (hp.out _ hb10);generalize leaO st10=st11 at *;have T11:=T10.trans s11;have S11:=S10.stp s11;have E11:=E10.stp s11;go_upto_region 23 with fail;generalize w10.setCell ⟨wb,1,none⟩ (.int .i64 (wrap64 (oo11-1)))=w11 at *;clear dd11 df11 H10 T10 S10 E10 s11 p0 p1 p2 p3 p4 pf hp hb10;generalize o10=o11 at *;obtain⟨p0,p1,p2,p3,p4,pf⟩:=box5 E11.1;obtain⟨oo12,dd12,df12,s12,H12⟩:=H11.qle (HQP.out _ hq9);generalize qleO st11=st12 at *;have T12:=T11.trans s12;clear H11 T11 S11 E11 s12 p0 p1 p2 p3 p4 pf hq9 hl9;go_wp2
  go_end0
  exact⟨rfl,o11,by rw[HF.out];exact H12,T12⟩
end Go.Proofs.YtbjdkekhnajafaaGreatDoor

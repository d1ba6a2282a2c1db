import Derived.Test.YtnfmpocfakblmaaGreatDoorDocE
set_option maxRecDepth 100000
set_option maxHeartbeats 8000000
namespace Go.Proofs.YtnfmpocfakblmaaGreatDoor
open Go.ChangeShapes Go.WideShapes Go.ChangeAt Go.RowKit Go.Maps
set_option linter.unusedVariables false
set_option linter.unusedSimpArgs false
abbrev Lt0 (n0:Nat):Nat->Prop:=fun k=>k<n0
structure RD (w:World)(n0 rb mb:Nat)(bv:Value)(c:Nat)(s:Rg):Prop where
 blk:w.heap[rb]?=some (.cells #[bv,.map (some mb),.int .i64 (s.1:Nat)] 174 (0,0))
 mp:∃m,m+c<=s.1/\MpN w (Lt0 n0) mb m s.2
 le:s.1<=4096
 fit:∀ i y,s.2 i=some y->FitN y
theorem RD.ltm {w:World}{n0 rb mb c:Nat}{bv:Value}{s:Rg}(h:RD w n0 rb mb bv c s):mb<w.heap.size:=by obtain⟨m,-,h⟩:=h.mp;exact h.lt
theorem RD.less {w:World}{n0 rb mb c:Nat}{bv:Value}{s:Rg}(h:RD w n0 rb mb bv (c+1) s):RD w n0 rb mb bv c s:=⟨h.blk,by obtain⟨m,hm,hp⟩:=h.mp;exact⟨m,by omega,hp⟩,h.le,h.fit⟩
theorem RD.below {w w':World}{n0 rb mb c:Nat}{bv:Value}{s:Rg}(h:RD w n0 rb mb bv c s)(b:Below w.heap.size w w'):RD w' n0 rb mb bv c s:=by
 refine⟨(b.block _ (lt_of_block h.blk)).trans h.blk,?_,h.le,h.fit⟩;obtain⟨m,hm,hp⟩:=h.mp;exact⟨m,hm,hp.mono (b.block _ hp.lt) (fun i _ hl=>b.block i hl) b.size⟩
def PostKe (w:World)(n0 rb mb:Nat)(bv:Value)(c:Nat)(r:Option Rg)(x:Ending)(w':World):Prop:=x=.returned (.bool r.isSome)/\(∀ s,r=some s->RD w' n0 rb mb bv c s)/\Kp rb mb w w'
theorem keepP_in {cells:List Int}{i:Nat}{x:Ex}{ar:Nat}{s:Rg}{lv:Int}(h:cells[i]?=some lv):keepP cells (i:Nat) (Fs.ex x .nil) ar s=if (ar:Int)<lv\/lv<hgE x ar then none else (match s.2 i with|none=>some (s.1,fun j=>if j=i then some x else s.2 j)|some y=>if sameE y x=true then some s else none):=by
 have hh:(Fs.ex x .nil).head=x:=rfl;simp only[keepP,Int.toNat_natCast,h,hh];rfl
theorem keeps_c (k0:Int)(i:Nat)(nm:List UInt8)(x:Ex)(ao:Option Addr)(cap n0 rb mb:Nat)(bv:Value)(cells:List Int)(ar wi:Nat)(s:Rg)(w:World)(hi:i<cells.length)(hcl:cells.length<=256)(hfx:FitN x)(hnv:x.nv)(har:ar<=100)(hwi:wi<=100)(hne:rb≠mb)(hn0:n0<=mb)(c:Nat)(h:RD w n0 rb mb bv (c+1) s)(hn:Inw w (Lt0 n0) bv cells)(S:SlN w (Lt0 n0) (Fs.ex x .nil) ao) :
  Calls Tryz.prog 191 #[.pointer (some ⟨rb,0,none⟩),.agg #[.int .i64 k0,.int .i64 (i:Nat),stv nm,.slice ao 1 cap],.agg #[.int .i64 (ar:Nat),.int .i64 (wi:Nat)]] w (PostKe w n0 rb mb bv c (keepP cells (i:Nat) (Fs.ex x .nil) ar s)):=by
 obtain⟨R,hR⟩:∃R,R=keepP cells (i:Nat) (Fs.ex x .nil) ar s:=⟨_,rfl⟩
 rw[<-hR];obtain⟨lv,hlv⟩:∃lv,cells[i]?=some lv:=⟨_,List.getElem?_eq_getElem hi⟩
 have HR:Hid (R=if (ar:Int)<lv\/lv<hgE x ar then none else (match s.2 i with|none=>some (s.1,fun j=>if j=i then some x else s.2 j)|some y=>if sameE y x=true then some s else none)):=hR.trans (keepP_in hlv);clear hR;obtain⟨gb,off,ak,ck,hao,hgl,hgp,y0,y1,y2,y3,SK⟩:=SlN.kidQ (x:=.nil) (r:=.nil) (ks:=x.kids) (k:=x.k) (n:=x.n) (nm:=x.nm) (a:=x.a) S;subst hao;have hl0:(Fs.nil).len=0:=rfl;simp only[hl0,Nat.zero_mul,Nat.add_zero] at y0 y1 y2 y3;obtain⟨aoc,capc,rfl,hcells⟩:=hn;rcases hcells with hcells|⟨cb,coff,rfl,hcp,hcb,hcc⟩
 ·subst hcells;simp at hi
 have ccl:=hcc i lv hlv;clear hcc S;have hiI:(i:Int)<(cells.length:Int):=by omega
 obtain⟨w0,hw0⟩:∃w0,w0=(w.alloc (.cells #[.int .i64 k0,.int .i64 (i:Nat),stv nm,.slice (some ⟨gb,off,none⟩) 1 cap] 34)).alloc (.cells #[.int .i64 (ar:Nat),.int .i64 (wi:Nat)] 177):=⟨_,rfl⟩
 have B0:Below w.heap.size w w0:=by rw[hw0];exact((Below.refl _ w).alloc (Nat.le_refl _) _).alloc (by simp) _
 have E0:w0.heap[w.heap.size]?=some (.cells #[.int .i64 k0,.int .i64 (i:Nat),stv nm,.slice (some ⟨gb,off,none⟩) 1 cap] 34):=by
  rw[hw0];exact(Below.heap_alloc _ _ _ (by simp)).trans (heap_alloc_new w _)
 have T0:w0.heap[w.heap.size+1]?=some (.cells #[.int .i64 (ar:Nat),.int .i64 (wi:Nat)] 177):=by
  rw[hw0]
  have:=heap_alloc_new (w.alloc (.cells #[.int .i64 k0,.int .i64 (i:Nat),stv nm,.slice (some ⟨gb,off,none⟩) 1 cap] 34)) (.cells #[.int .i64 (ar:Nat),.int .i64 (wi:Nat)] 177)
  simpa using this
 have R0:=h.below B0;have hrl:=lt_of_block h.blk;have hml:=h.ltm;have SK0:=SK.belowP B0;have Y0:=(B0.cell (p:=⟨gb,off,none⟩) hgl).trans y0;have Y1:=(B0.cell (p:=⟨gb,off+1,none⟩) hgl).trans y1;have Y2:=(B0.cell (p:=⟨gb,off+2,none⟩) hgl).trans y2;have Y3:=(B0.cell (p:=⟨gb,off+3,none⟩) hgl).trans y3;have CC0:=(B0.cell (p:=⟨cb,coff+i,none⟩) hcb).trans ccl;have hgl0:=Nat.lt_of_lt_of_le hgl B0.size;have hcb0:=Nat.lt_of_lt_of_le hcb B0.size;have KK:Kp rb mb w w0:=Kp.ofBelow B0;go_enter Tryz.func191,Tryz.ntmps191;go_upto_region 1 with fail;rw[<-hw0];obtain⟨bx,hbx⟩:∃bx,bx=w.heap.size:=⟨_,rfl⟩
 rw[<-hbx] at E0 T0 ⊢;have hb1:bx≠rb:=by omega
 have hb2:bx≠mb:=by omega
 have hs1:bx+1≠rb:=by omega
 have hs2:bx+1≠mb:=by omega
 clear hbx hw0 B0 hrl hml y0 y1 y2 y3 ccl hgl hcb h SK;have hbl:=lt_of_block E0;have hsl:=lt_of_block T0;obtain⟨p0,p1,p2,p3,pf⟩:=box4 E0;obtain⟨t0,t1,tf⟩:=box2 T0;obtain⟨r0,r1,r2,rf⟩:=box3 R0.blk;have hrl:=lt_of_block R0.blk;go_wp2_with fail;go_region_held3 (fun wx=>wx.cell? ⟨bx,1,none⟩=some (.int .i64 (i:Nat))/\wx.cell? ⟨bx,3,none⟩=some (.slice (some ⟨gb,off,none⟩) 1 cap)/\wx.cell? ⟨rb,0,none⟩=some (.slice (some ⟨cb,coff,none⟩) cells.length capc)/\wx.cell? ⟨cb,coff+i,none⟩=some (.int .i64 lv)/\wx.cell? ⟨gb,off,none⟩=some (.int .i64 x.k)/\wx.cell? ⟨gb,off+1,none⟩=some (.int .i64 x.n)/\wx.cell? ⟨gb,off+2,none⟩=some (stv x.nm)/\wx.cell? ⟨gb,off+3,none⟩=some (.slice ak x.kids.len ck)) (go_keep) (fail);have B1:Below w0.heap.size w0 ((w0.alloc (.cells #[.int .i64 x.k,.int .i64 x.n,stv x.nm,.slice ak x.kids.len ck] 34)).drew):=(Below.refl _ w0).alloc (Nat.le_refl _) _ |>.trans ⟨rfl,rfl,rfl,Nat.le_refl _,fun _ _=>rfl⟩
 have X1:((w0.alloc (.cells #[.int .i64 x.k,.int .i64 x.n,stv x.nm,.slice ak x.kids.len ck] 34)).drew).heap[w0.heap.size]?=some (.cells #[.int .i64 x.k,.int .i64 x.n,stv x.nm,.slice ak x.kids.len ck] 34):=heap_alloc_new w0 _;have R1:=R0.below B1;have E1:=(B1.block _ hbl).trans E0;have T1:=(B1.block _ hsl).trans T0;have SK1:=SK0.belowP B1;have KK1:=KK.trans (Kp.ofBelow B1);have hxr:w0.heap.size≠rb:=by omega
 have hxm:w0.heap.size≠mb:=by have:=R0.ltm;omega
 have hxb:Hid (bx<w0.heap.size/\bx+1<w0.heap.size):=⟨hbl,hsl⟩
 clear p0 p1 p2 p3 pf t0 t1 tf r0 r1 r2 rf R0 E0 T0 SK0 KK Y0 Y1 Y2 Y3 CC0 hgl0 hcb0 hbl hsl hrl B1;generalize (w0.alloc (.cells #[.int .i64 x.k,.int .i64 x.n,stv x.nm,.slice ak x.kids.len ck] 34)).drew=w1 at *;generalize w0.heap.size=xb at *;obtain⟨p0,p1,p2,p3,pf⟩:=box4 E1;obtain⟨t0,t1,tf⟩:=box2 T1;obtain⟨r0,r1,r2,rf⟩:=box3 R1.blk;obtain⟨z0,z1,z2,z3,zf⟩:=box4 X1;by_cases hlt:(ar:Int)<lv
 ·have HF:Hid (PostKe w n0 rb mb (.slice (some ⟨cb,coff,none⟩) cells.length capc) c R (.returned (.bool false)) w1):=by
   rw[HR.out,if_pos (.inl hlt)];exact⟨rfl,fun s h=>(by cases h),KK1⟩
  clear HR R1 E1 T1 X1 SK1 KK1;go_wp2;go_ret;exact HF.out
 have c1:=hangn_ok (x.kids.size+1) x ak ck ar w1 (by omega) hfx.len hfx.sh hnv (by omega) (by omega) SK1.all;rw[exN_out] at c1;generalize hgE x ar=hx at *;go_wp2_with fail;refine c1.mono ?_;rintro z w2 ⟨rfl,B2⟩;have R2:=R1.below B2;have E2:=(B2.block _ (lt_of_block E1)).trans E1;have T2:=(B2.block _ (lt_of_block T1)).trans T1;have X2:=(B2.block _ (lt_of_block X1)).trans X1;have SK2:=SK1.belowP B2;have KK2:=KK1.trans (Kp.ofBelow B2);clear c1 p0 p1 p2 p3 pf t0 t1 tf r0 r1 r2 rf z0 z1 z2 z3 zf R1 E1 T1 X1 SK1 KK1 B2;obtain⟨p0,p1,p2,p3,pf⟩:=box4 E2;obtain⟨t0,t1,tf⟩:=box2 T2;obtain⟨r0,r1,r2,rf⟩:=box3 R2.blk;obtain⟨z0,z1,z2,z3,zf⟩:=box4 X2;by_cases hlh:lv<hx
 ·have HF:Hid (PostKe w n0 rb mb (.slice (some ⟨cb,coff,none⟩) cells.length capc) c R (.returned (.bool false)) w2):=by
   rw[HR.out,if_pos (.inr hlh)];exact⟨rfl,fun s h=>(by cases h),KK2⟩
  clear HR R2 E2 T2 X2 SK2 KK2;go_wp2;go_ret;exact HF.out
 have HR2:Hid (R=(match s.2 i with|none=>some (s.1,fun j=>if j=i then some x else s.2 j)|some y=>if sameE y x=true then some s else none)):=by show R=_;rw[HR.out,if_neg (by omega)]
 clear HR;have hwf:(Lit.int .i64 (i:Nat)).wf=true:=WalkArith.wf_i64 (by omega);obtain⟨m,hm,M2⟩:=R2.mp;have hml:=M2.lt;have hrl:=lt_of_block R2.blk;have hbl:=lt_of_block E2;have hxl:=lt_of_block X2;have bdT:Below w2.heap.size w2 w2.drew:=⟨rfl,rfl,rfl,Nat.le_refl _,fun _ _=>rfl⟩
 have M2d:MpN w2.drew (Lt0 n0) mb m s.2:=M2.mono rfl (fun _ _ _=>rfl) (Nat.le_refl _);have bdA:Below w2.heap.size w2 ((w2.alloc (.cells #[.int .i64 0,.int .i64 0,.string ⟨#[]⟩,.slice none 0 0] 34)).drew):=(Below.refl _ w2).alloc (Nat.le_refl _) _ |>.trans ⟨rfl,rfl,rfl,Nat.le_refl _,fun _ _=>rfl⟩
 have M2a:MpN ((w2.alloc (.cells #[.int .i64 0,.int .i64 0,.string ⟨#[]⟩,.slice none 0 0] 34)).drew) (fun i=>i<w2.heap.size) mb m s.2:=M2.monoQ (bdA.block _ hml) (fun i _ hl=>bdA.block i hl) bdA.size (fun i _ hl=>hl);cases ht:s.2 i with
 | none =>
  obtain⟨a1,a2,a3,a4,a5,a6,lk1⟩:=M2d.miss hwf ht;obtain⟨d1,d2,d3,d4,d5,d6,lk2⟩:=M2a.miss hwf ht;have HF:Hid (∀ w3:World,Below w2.heap.size w2 w3->∃w4,(Instr.mapUpdate 172 (.map (some mb)) (.int .i64 (i:Nat)) (exN x ak ck)).run Tryz.prog w3.drew=.ok () w4/\PostKe w n0 rb mb (.slice (some ⟨cb,coff,none⟩) cells.length capc) c R (.returned (.bool true)) w4):=by
   intro w3 b3;have b3d:Below w2.heap.size w2 w3.drew:=b3.trans ⟨rfl,rfl,rfl,Nat.le_refl _,fun _ _=>rfl⟩;have M3:MpN w3.drew (Lt0 n0) mb m s.2:=M2.mono (b3d.block _ hml) (fun i _ hl=>b3d.block i hl) b3d.size;obtain⟨w4,hr4,M4,ht4⟩:=M3.put (fun h=>Nat.not_lt.2 hn0 h) i x ak ck hwf (by have:=R2.le;omega) ht (SK2.belowP b3d);have hg4:=ht4.grown;refine⟨w4,hr4,?_⟩;rw[HR2.out,ht];refine⟨rfl,fun s' hs'=>?_,KK2.trans ((Kp.ofBelow b3d).trans ⟨hg4.os,hg4.tape,hg4.output,hg4.size,fun k hk h1 h2=>hg4.block k hk (fun e=>h2 (by cases e;rfl))⟩)⟩;injection hs' with hs'
   subst hs';refine⟨(hg4.block _ (Nat.lt_of_lt_of_le hrl b3d.size) (fun e=>hne (by cases e;rfl))).trans ((b3d.block _ hrl).trans R2.blk),?_,R2.le,?_⟩
   ·exact⟨m+1,by show m+1+c<=s.1;omega,M4.mono rfl (fun _ _ _=>rfl) (Nat.le_refl _)⟩
   ·intro j y hy;simp only at hy;split at hy
    ·injection hy with hy
     subst hy;exact hfx
    ·exact R2.fit j y hy
  go_upto_region 4 with fail;go_cut [9,10] (fun v9 v10 wx=>v10=.bool false/\Below w2.heap.size w2 wx)
  case first =>
   go_wp2_with fail;go_region_held3 (fun wx=>wx.cell? ⟨bx,1,none⟩=some (.int .i64 (i:Nat))/\wx.cell? ⟨rb,1,none⟩=some (.map (some mb))) (go_keep) (fail)
   all_goals (
    have HB:Hid (∀ ob:Obj,Below w2.heap.size w2 ((w2.alloc ob).drew)):=fun ob=>(Below.refl _ w2).alloc (Nat.le_refl _) _ |>.trans ⟨rfl,rfl,rfl,Nat.le_refl _,fun _ _=>rfl⟩
    go_wp2;go_meet;exact⟨rfl,HB.out _⟩)
  case rest =>
   obtain⟨rfl,B3⟩:=hcut;obtain⟨w4,hr4,HP⟩:=HF.out wc B3;rw[exN_out] at hr4;have HQ:Hid (PostKe w n0 rb mb (.slice (some ⟨cb,coff,none⟩) cells.length capc) c R (.returned (.bool true)) w4):=HP;have p1':=(B3.cell (p:=⟨bx,1,none⟩) hbl).trans p1;have r1':=(B3.cell (p:=⟨rb,1,none⟩) hrl).trans r1;have z0':=(B3.cell (p:=⟨xb,0,none⟩) hxl).trans z0;have z1':=(B3.cell (p:=⟨xb,1,none⟩) hxl).trans z1;have z2':=(B3.cell (p:=⟨xb,2,none⟩) hxl).trans z2;have z3':=(B3.cell (p:=⟨xb,3,none⟩) hxl).trans z3;clear HF HP p0 p1 p2 p3 pf t0 t1 tf r0 r1 r2 rf z0 z1 z2 z3 zf R2 E2 T2 X2 SK2 KK2 M2 M2d M2a lk1 lk2 HR2 bdT bdA;go_wp2_with fail;go_region;go_wp2;go_ret;exact HQ.out
 | some y =>
  obtain⟨ay,cy,lk1,SY1⟩:=M2d.look hwf ht;obtain⟨ay2,cy2,lk2,SY2⟩:=M2a.look hwf ht;have hfy:=R2.fit i y ht;have HR3:Hid (R=if sameE y x=true then some s else none):=by show R=_;rw[HR2.out,ht]
  rw[exN_out] at lk1 lk2;go_upto_region 4 with fail;go_cut [9,10] (fun v9 v10 wx=>v9=.pointer (some ⟨w2.heap.size,0,none⟩)/\v10=.bool true/\Below w2.heap.size w2 wx/\∃az cz,wx.heap[w2.heap.size]?=some (.cells #[.int .i64 y.k,.int .i64 y.n,stv y.nm,.slice az y.kids.len cz] 34 (0,0))/\SnA wx y.kids az)
  case first =>
   have HB:Hid (∀ ob:Obj,Below w2.heap.size w2 ((w2.alloc ob).drew)/\((w2.alloc ob).drew).heap[w2.heap.size]?=some ob):=fun ob=>⟨(Below.refl _ w2).alloc (Nat.le_refl _) _ |>.trans ⟨rfl,rfl,rfl,Nat.le_refl _,fun _ _=>rfl⟩,heap_alloc_new w2 ob⟩;have HY1:Hid (∀ ob:Obj,SnA ((w2.alloc ob).drew) y.kids ay):=fun ob=>SlN.all (SlN.mono (w:=w2) (P:=Lt0 n0) (Q:=Lt0 n0) (fun i _ hl=>(HB.out ob).1.block i hl) (HB.out ob).1.size (fun _ h _=>h) (SlN.mono (w:=w2.drew) (w':=w2) (fun _ _ _=>rfl) (Nat.le_refl _) (fun _ h _=>h) SY1));have HY2:Hid (∀ ob:Obj,SnA ((w2.alloc ob).drew) y.kids ay2):=fun ob=>SlN.all (SlN.mono (Q:=fun i=>i<w2.heap.size) (fun i hi _=>((HB.out ob).1.block i hi).trans (bdA.block i hi).symm) (by show (w2.alloc _).heap.size<=(w2.alloc _).heap.size;simp) (fun _ h _=>h) SY2);clear SY1 SY2 M2 M2d M2a HR2 HR3;go_wp2_with fail;go_region_held3 (fun wx=>wx.cell? ⟨bx,1,none⟩=some (.int .i64 (i:Nat))/\wx.cell? ⟨rb,1,none⟩=some (.map (some mb))) (go_keep) (fail)
   ·go_wp2;go_meet;exact⟨rfl,rfl,(HB.out _).1,_,_,(HB.out _).2,HY1.out _⟩
   ·go_wp2;go_meet;exact⟨rfl,rfl,(HB.out _).1,_,_,(HB.out _).2,HY2.out _⟩
  case rest =>
   obtain⟨rfl,rfl,B3,az,cz,Z3,SZ⟩:=hcut;have c8:=samq_ok (y.kids.size+1) y x az ak cz ck wc (by omega) hfy.len hfy.sh hfx.len hfx.sh SZ (SK2.belowP B3).all;rw[exN_out,exN_out] at c8;have HF:Hid (∀ w4,Below wc.heap.size wc w4->PostKe w n0 rb mb (.slice (some ⟨cb,coff,none⟩) cells.length capc) c R (.returned (.bool (sameE y x))) w4):=by
    intro w4 b4;have b24:Below w2.heap.size w2 w4:=B3.trans (b4.mono B3.size);rw[HR3.out];cases hsm:sameE y x with
    | false=>exact⟨rfl,fun s h=>(by cases h),KK2.trans (Kp.ofBelow b24)⟩
    | true=>exact⟨rfl,fun s' h=>(by injection h with h;subst h;exact(R2.below b24).less),KK2.trans (Kp.ofBelow b24)⟩
   have z0':=(B3.cell (p:=⟨xb,0,none⟩) hxl).trans z0;have z1':=(B3.cell (p:=⟨xb,1,none⟩) hxl).trans z1;have z2':=(B3.cell (p:=⟨xb,2,none⟩) hxl).trans z2;have z3':=(B3.cell (p:=⟨xb,3,none⟩) hxl).trans z3;obtain⟨v0,v1,v2,v3,vf⟩:=box4 Z3;generalize sameE y x=sm at *;clear p0 p1 p2 p3 pf t0 t1 tf r0 r1 r2 rf z0 z1 z2 z3 zf R2 E2 T2 X2 SK2 KK2 M2 M2d M2a lk1 lk2 HR2 HR3 bdT bdA SZ SY1 SY2;go_wp2_with fail;refine c8.mono ?_;rintro z w4 ⟨rfl,B4⟩;have HQ:=HF.out w4 B4;clear c8 HF;go_wp2;go_ret;exact HQ
end Go.Proofs.YtnfmpocfakblmaaGreatDoor

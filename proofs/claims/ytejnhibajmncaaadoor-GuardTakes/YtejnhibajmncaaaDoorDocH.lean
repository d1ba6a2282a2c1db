import Derived.Test.YtejnhibajmncaaaDoorEmE
set_option maxRecDepth 100000
set_option maxHeartbeats 8000000
namespace Go.Proofs.YtejnhibajmncaaaDoor
open Go.ChangeShapes Go.WideShapes Go.ChangeAt Go.RowKit
set_option linter.unusedVariables false
set_option linter.unusedSimpArgs false
def celD (cells:List Int)(n:Int)(x:Ex)(ar wi:Nat)(s:Rg):Option (Rg × Int) :=
 if 0<=n/\n<(cells.length:Int) then (match kndD cells x ar wi s with|none=>none|some (s2,k0)=>anD (keepP cells n (Fs.ex x .nil) ar s2) k0) else none
theorem celD_lv {cells:List Int}{i:Nat}{x:Ex}{ar wi:Nat}{s:Rg}{lv:Int}(h:cells[i]?=some lv)(hl:(ar:Int)<lv):celD cells (i:Nat) x ar wi s=none:=by
 unfold celD;split
 ·cases kndD cells x ar wi s with
  | none=>rfl
  | some z =>
   obtain⟨s2,k0⟩:=z;simp only[keepP,Int.toNat_natCast,h];rw[if_pos (.inl hl)];rfl
 ·rfl
theorem celD_in {cells:List Int}{i:Nat}{x:Ex}{ar wi:Nat}{s:Rg}{lv:Int}(h:cells[i]?=some lv)(hl:¬(ar:Int)<lv):celD cells (i:Nat) x ar wi s=(match kndD cells x ar wi s with|none=>none|some (s2,k0)=>if lv<hgE x ar then none else (match s2.2 i with|none=>some ((s2.1,fun j=>if j=i then some x else s2.2 j),k0)|some y=>if sameE y x=true then some (s2,k0) else none)):=by
 have hi:i<cells.length:=by
  rcases Nat.lt_or_ge i cells.length with h1|h1
  ·exact h1
  ·rw[List.getElem?_eq_none h1] at h;cases h
 unfold celD;rw[if_pos ⟨by omega,by omega⟩];cases kndD cells x ar wi s with
 | none=>rfl
 | some z =>
  obtain⟨s2,k0⟩:=z;have hh:(Fs.ex x .nil).head=x:=rfl;simp only[keepP,Int.toNat_natCast,h,hh];by_cases h2:lv<hgE x ar
  ·rw[if_pos (.inr h2),if_pos h2];rfl
  ·rw[if_neg (by rintro (h3|h3);exact hl h3;exact h2 h3),if_neg h2];cases s2.2 i with
   | none=>rfl
   | some y =>
    simp only;split<;>rfl
theorem KT.put {w:World}{wb kb nc:Nat}{t:Nat->Option Ex}(h:KT w (Nf2 wb kb) kb nc t)(i:Nat)(x y:Ex)(ak:Option Addr)(ck:Nat)(hs:sameE x y=true)(hf:FitN y)(S:SlN w (Nf2 wb kb) y.kids ak)(hwb:wb<w.heap.size) :
  KT ((w.alloc (.cells #[.int .i64 y.k,.int .i64 y.n,stv y.nm,.slice ak y.kids.len ck] 24)).setCell ⟨kb,i,none⟩ (.slice (some ⟨w.heap.size,0,none⟩) 1 1)) (Nf2 wb kb) kb nc (fun j=>if j=i then some x else t j):=by
 obtain⟨arr,h1,h2,h3⟩:=h;have hkb:=lt_of_block h1;generalize hob:(Obj.cells #[.int .i64 y.k,.int .i64 y.n,stv y.nm,.slice ak y.kids.len ck] 24 (0,0))=ob;have hk1:(w.alloc ob).heap[kb]?=some (.cells arr 22 (0,0)):=(Below.heap_alloc w ob kb hkb).trans h1;have hb:∀ k,Nf2 wb kb k->k<w.heap.size->((w.alloc ob).setCell ⟨kb,i,none⟩ (.slice (some ⟨w.heap.size,0,none⟩) 1 1)).heap[k]?=w.heap[k]?:=fun k hk hl=>(heap_setCell_other _ _ k _ hk.2).trans (Below.heap_alloc w ob k hl);have hsz:w.heap.size<=((w.alloc ob).setCell ⟨kb,i,none⟩ (.slice (some ⟨w.heap.size,0,none⟩) 1 1)).heap.size:=by simp
 have hnew:((w.alloc ob).setCell ⟨kb,i,none⟩ (.slice (some ⟨w.heap.size,0,none⟩) 1 1)).heap[w.heap.size]?=some ob:=(heap_setCell_other _ _ _ _ (by show w.heap.size≠kb;omega)).trans (heap_alloc_new w ob);refine⟨_,(Blk.set (o:=fun _=>0) (i:=0) ⟨hk1,rfl⟩ i _).1,by simp[h2],fun j hj=>?_⟩;by_cases hji:j=i
 ·subst hji;refine .inr ⟨x,y,w.heap.size,1,by simp,hs,by simp[h2,hj],?_,hf⟩;subst hob;exact .inr ⟨w.heap.size,0,_,rfl,⟨by omega,by omega⟩,by simp,fun m u hu=>by rw[Nat.zero_add,cell_of_row _ _ _ _ _ _ hnew];simpa using hu,FcN.one ck (S.mono hb hsz (fun _ h _=>h))⟩
 ·rcases h3 j hj with ⟨h4,h5⟩|⟨x',y',g,cap,q1,q2,q3,q4,q5⟩
  ·exact .inl ⟨by simp[hji,h4],by rw[Array.getElem?_setIfInBounds_ne (Ne.symm hji)];exact h5⟩
  ·exact .inr ⟨x',y',g,cap,by simp[hji,q1],q2,by rw[Array.getElem?_setIfInBounds_ne (Ne.symm hji)];exact q3,q4.mono hb hsz (fun _ h _=>h),q5⟩
theorem cell_d {N:Nat}(IH:KindD N)(k0 n:Int)(nm:List UInt8)(a:Int)(x:Ex)(ao:Option Addr)(cap wb kb:Nat)(bv:Value)(cells:List Int)(ar wi:Nat)(s:Rg)(w:World)(hN:x.kids.size<N)(hfx:FitN x)(hwi:wi<=4)(har:ar<=wi)(hne:wb≠kb)(h:WD w wb kb bv cells.length (some s))(hn:Inw w (Nf2 wb kb) bv cells)(S:SlN w (Nf2 wb kb) (Fs.ex x .nil) ao) :
  Calls Tryd.prog 47 #[.pointer (some ⟨wb,0,none⟩),.agg #[.int .i64 k0,.int .i64 n,stv nm,.slice ao 1 cap],.int .i64 (ar:Nat),.int .i64 (wi:Nat)] w (PostKD w wb kb bv cells.length (celD cells n x ar wi s)):=by
 have B0:Below w.heap.size w (w.alloc (.cells #[.int .i64 k0,.int .i64 n,stv nm,.slice ao 1 cap] 24)):=(Below.refl _ w).alloc (Nat.le_refl _) _;have E0:(w.alloc (.cells #[.int .i64 k0,.int .i64 n,stv nm,.slice ao 1 cap] 24)).heap[w.heap.size]?=some (.cells #[.int .i64 k0,.int .i64 n,stv nm,.slice ao 1 cap] 24):=heap_alloc_new w _;have W0:=h.below B0;have S0:=S.belowP B0;have N0:=hn.below B0;have hwb:=h.lt;have hkb:=h.ltk;clear h S hn;go_enter Tryd.func47,Tryd.ntmps47;go_upto_region 1 with fail;generalize w.alloc (.cells #[.int .i64 k0,.int .i64 n,stv nm,.slice ao 1 cap] 24)=w0 at *;have KK:Kp wb kb w w0:=Kp.ofBelow B0;obtain⟨bx,hbx⟩:∃bx,bx=w.heap.size:=⟨_,rfl⟩
 rw[<-hbx] at E0 ⊢;have hb1:bx≠wb:=by omega
 have hb2:bx≠kb:=by omega
 clear hbx hwb hkb B0;obtain⟨p0,p1,p2,p3,pf⟩:=box4 E0;have V0:=W0.1;have hk0:=W0.ltk;obtain⟨q0,q1,q2,q3,qf⟩:=box4 V0;have BAD:∀ {w2:World},Below w0.heap.size w0 w2->celD cells n x ar wi s=none->Hid (PostKD w wb kb bv cells.length (celD cells n x ar wi s) (.returned (.int .i64 0)) (w2.setCell ⟨wb,3,none⟩ (.bool false))):=by
  intro w2 b2 hz;rw[hz];exact⟨⟨0,rfl,fun s k h=>by cases h⟩,⟨by simpa using Nat.lt_of_lt_of_le hk0 b2.size,_,_,(set4d ((b2.block _ (lt_of_block V0)).trans V0) (.bool false)).2⟩,(KK.trans (Kp.ofBelow b2)).set _ _ (.inr (.inl rfl))⟩
 have bdr:∀ m,Below w0.heap.size w0 (w0.drewN m):=fun m=>⟨rfl,rfl,rfl,Nat.le_refl _,fun _ _=>rfl⟩;obtain⟨aoc,capc,hbv,hcells⟩:=N0;have N0:Inw w0 (Nf2 wb kb) bv cells:=⟨aoc,capc,hbv,hcells⟩
 subst hbv;by_cases hn0:n<0
 ·have hd:decide (n<0)=true:=decide_eq_true hn0;have HB:=fun m=>BAD (bdr m) (by unfold celD;rw[if_neg (by omega)]);clear BAD bdr S0 W0 hcells N0 KK V0 E0;go_wp2_with fail
  go_quiet (fail)
  have HB:=HB nq;go_wp2;exact bodyPost_ret (v:=.int .i64 0) (by simp[results,Tryd.results47,go_sem]) rfl HB.out
 ·have hd:decide (n<0)=false:=decide_eq_false hn0;obtain⟨i,rfl⟩:∃i:Nat,n=(i:Nat):=⟨n.toNat,by omega⟩
  by_cases hn1:(cells.length:Int)<=(i:Int)
  ·have HB:=fun m=>BAD (bdr m) (by unfold celD;rw[if_neg (by omega)]);clear BAD bdr S0 W0 hcells N0 KK V0 E0;go_wp2_with fail
   go_quiet (fail)
   have HB:=HB nq;go_wp2;exact bodyPost_ret (v:=.int .i64 0) (by simp[results,Tryd.results47,go_sem]) rfl HB.out
  ·have hd1:decide ((cells.length:Int)<=(i:Int))=false:=decide_eq_false hn1;have hil:i<cells.length:=by omega
   have hiI:(i:Int)<(cells.length:Int):=by omega
   obtain⟨lv,hlv⟩:∃lv,cells[i]?=some lv:=⟨_,List.getElem?_eq_getElem hil⟩
   rcases hcells with hcells|⟨cb,coff,rfl,hcp,hcl,hcc⟩
   ·subst hcells;simp at hil
   have ccl:=hcc i lv hlv;clear hcc;by_cases hlt:(ar:Int)<lv
   ·have HB:=fun m=>BAD (bdr m) (celD_lv hlv hlt);clear BAD bdr S0 W0 N0 KK V0 E0;go_wp2_with fail
    go_quiet (fail)
    have HB:=HB nq;go_wp2;exact bodyPost_ret (v:=.int .i64 0) (by simp[results,Tryd.results47,go_sem]) rfl HB.out
   ·have hd2:decide ((ar:Int)<lv)=false:=decide_eq_false hlt;have HC:Hid (celD cells (i:Nat) x ar wi s=_):=celD_in hlv hlt;clear BAD;go_wp2_with fail
    go_quiet (fail)
    have bd:=bdr nq;clear bdr;have W1:=W0.below bd;have S1:=S0.belowP bd;have N1:=N0.below bd;have E1:=(bd.block _ (lt_of_block E0)).trans E0;have KK1:=KK.trans (Kp.ofBelow bd);have ccl1:=(bd.cell (p:=⟨cb,coff+i,none⟩) hcl).trans ccl;have hcl1:cb<(w0.drewN nq).heap.size:=Nat.lt_of_lt_of_le hcl bd.size;clear p0 p1 p2 p3 pf q0 q1 q2 q3 qf W0 S0 N0 E0 KK V0 bd ccl hcl;generalize w0.drewN nq=w1 at *;obtain⟨p0,p1,p2,p3,pf⟩:=box4 E1;obtain⟨gb,off,ak,ck,hao,hgl,hgp,y0,y1,y2,y3,SK⟩:=SlN.kidQ (x:=.nil) (r:=.nil) (ks:=x.kids) (k:=x.k) (n:=x.n) (nm:=x.nm) (a:=x.a) S1;subst hao;have hl0:(Fs.nil).len=0:=rfl;simp only[hl0,Nat.zero_mul,Nat.add_zero] at y0 y1 y2 y3;have c1:=IH x ak ck wb kb _ cells ar wi s w1 hN hfx hwi har hne W1 N1 SK;rw[exN_out] at c1;go_wp2_with fail;refine c1.mono ?_;rintro z w2 ⟨⟨k',rfl,hk'⟩,W2,K2⟩;have E2:=(K2.block _ (lt_of_block E1) hb1 hb2).trans E1;have S2:=S1.kp K2;have N2:=N1.kp K2;have KK2:=KK1.trans K2;have cc2:=(K2.cell hcl1 hcp.1 hcp.2 _).trans ccl1;have hcl2:=Nat.lt_of_lt_of_le hcl1 K2.size;have y0:=(K2.cell hgl hgp.1 hgp.2 _).trans y0;have y1:=(K2.cell hgl hgp.1 hgp.2 _).trans y1;have y2:=(K2.cell hgl hgp.1 hgp.2 _).trans y2;have y3:=(K2.cell hgl hgp.1 hgp.2 _).trans y3;have hgl2:=Nat.lt_of_lt_of_le hgl K2.size;have SK2:=SK.kp K2;clear c1 p0 p1 p2 p3 pf W1 S1 N1 E1 KK1 ccl1 hcl1 hgl SK K2 S2;obtain⟨p0,p1,p2,p3,pf⟩:=box4 E2;cases hr:kndD cells x ar wi s with
    | none =>
     have HR:Hid (PostKD w wb kb (.slice (some ⟨cb,coff,none⟩) cells.length capc) cells.length (celD cells (i:Nat) x ar wi s) (.returned (.int .i64 0)) w2):=by
      rw[HC.out,hr];rw[hr] at W2;exact⟨⟨0,rfl,fun s k h=>by cases h⟩,W2,KK2⟩
     rw[hr] at W2;obtain⟨-,p,kv,V2⟩:=W2;obtain⟨q0,q1,q2,q3,qf⟩:=box4 V2;clear hr hk' HC V2 SK2 N2 KK2 E2;go_wp2;exact bodyPost_ret (v:=.int .i64 0) (by simp[results,Tryd.results47,go_sem]) rfl HR.out
    | some z =>
     obtain⟨s2,k⟩:=z;obtain rfl:=hk' s2 k hr;have hnv:x.nv:=by
      unfold kndD at hr;cases hx:rgE cells x ar wi s with
      | none=>rw[hx] at hr;cases hr
      | some z=>obtain⟨s',kz⟩:=z;exact rgE_nv hx
     rw[hr] at W2;have HC2:Hid (celD cells (i:Nat) x ar wi s=if lv<hgE x ar then none else (match s2.2 i with|none=>some ((s2.1,fun j=>if j=i then some x else s2.2 j),k')|some y=>if sameE y x=true then some (s2,k') else none)):=by show _=_;rw[HC.out,hr]
     have W2:WD w2 wb kb (.slice (some ⟨cb,coff,none⟩) cells.length capc) cells.length (some s2):=W2;clear hr hk' HC;generalize celD cells (i:Nat) x ar wi s=CR at *;have hk2:=W2.ltk;obtain⟨V2,hs2,KT2⟩:=W2;obtain⟨q0,q1,q2,q3,qf⟩:=box4 V2;have hx2:=lt_of_block E2;have hw2:=lt_of_block V2;have bdT:Below w2.heap.size w2 w2.drew:=⟨rfl,rfl,rfl,Nat.le_refl _,fun _ _=>rfl⟩
     have c5:=hangd_ok (x.kids.size+1) x ak ck ar w2.drew (by omega) hfx.len hfx.sh hnv (by omega) (by omega) (SK2.all.below bdT);rw[exN_out] at c5;generalize hgE x ar=hx at *;go_wp2_with fail;go_region_held3 (fun wx=>wx.cell? ⟨bx,1,none⟩=some (.int .i64 (i:Nat))/\wx.cell? ⟨bx,3,none⟩=some (.slice (some ⟨gb,off,none⟩) 1 cap)/\wx.cell? ⟨wb,0,none⟩=some (.slice (some ⟨cb,coff,none⟩) cells.length capc)/\wx.cell? ⟨cb,coff+i,none⟩=some (.int .i64 lv)/\wx.cell? ⟨gb,off,none⟩=some (.int .i64 x.k)/\wx.cell? ⟨gb,off+1,none⟩=some (.int .i64 x.n)/\wx.cell? ⟨gb,off+2,none⟩=some (stv x.nm)/\wx.cell? ⟨gb,off+3,none⟩=some (.slice ak x.kids.len ck))
      (first|exact KA|go_keep)
      (first
       | (go_at_call 69;refine c5.mono ?_;rintro z w3 ⟨rfl,B3⟩;have KA:w3.cell? ⟨bx,1,none⟩=some (.int .i64 (i:Nat))/\w3.cell? ⟨bx,3,none⟩=some (.slice (some ⟨gb,off,none⟩) 1 cap)/\w3.cell? ⟨wb,0,none⟩=some (.slice (some ⟨cb,coff,none⟩) cells.length capc)/\w3.cell? ⟨cb,coff+i,none⟩=some (.int .i64 lv)/\w3.cell? ⟨gb,off,none⟩=some (.int .i64 x.k)/\w3.cell? ⟨gb,off+1,none⟩=some (.int .i64 x.n)/\w3.cell? ⟨gb,off+2,none⟩=some (stv x.nm)/\w3.cell? ⟨gb,off+3,none⟩=some (.slice ak x.kids.len ck):=⟨(B3.cell (p:=⟨bx,1,none⟩) hx2).trans p1,(B3.cell (p:=⟨bx,3,none⟩) hx2).trans p3,(B3.cell (p:=⟨wb,0,none⟩) hw2).trans q0,(B3.cell (p:=⟨cb,coff+i,none⟩) hcl2).trans cc2,(B3.cell (p:=⟨gb,off,none⟩) hgl2).trans y0,(B3.cell (p:=⟨gb,off+1,none⟩) hgl2).trans y1,(B3.cell (p:=⟨gb,off+2,none⟩) hgl2).trans y2,(B3.cell (p:=⟨gb,off+3,none⟩) hgl2).trans y3⟩))
     have B23:Below w2.heap.size w2 w3:=bdT.trans B3;have E3:=(B23.block _ hx2).trans E2;have V3:=(B23.block _ hw2).trans V2;have KT3:=KT2.mono (B23.block _ hk2) (fun i _ hl=>B23.block i hl) B23.size;have KK3:=KK2.trans (Kp.ofBelow B23);have SK3:=SK2.belowP B23;have hk3:=Nat.lt_of_lt_of_le hk2 B23.size;have hgl3:=Nat.lt_of_lt_of_le hgl2 B23.size;obtain⟨-,-,-,-,y0,y1,y2,y3⟩:=KA;clear c5 p0 p1 p2 p3 pf q0 q1 q2 q3 qf E2 V2 KT2 KK2 SK2 hk2 hgl2 hx2 hw2 bdT B3 B23 cc2 hcl2 N2;obtain⟨p0,p1,p2,p3,pf⟩:=box4 E3;obtain⟨q0,q1,q2,q3,qf⟩:=box4 V3;by_cases hlh:lv<hx
     ·have HR:Hid (PostKD w wb kb (.slice (some ⟨cb,coff,none⟩) cells.length capc) cells.length CR (.returned (.int .i64 0)) (w3.setCell ⟨wb,3,none⟩ (.bool false))):=by
       rw[HC2.out,if_pos hlh];exact⟨⟨0,rfl,fun s k h=>by cases h⟩,⟨by simpa using hk3,_,_,(set4d V3 (.bool false)).2⟩,KK3.set _ _ (.inr (.inl rfl))⟩
      clear HC2 KT3 KK3 SK3 E3 V3;go_wp2;exact bodyPost_ret (v:=.int .i64 0) (by simp[results,Tryd.results47,go_sem]) rfl HR.out
     ·have HC3:Hid (CR=(match s2.2 i with|none=>some ((s2.1,fun j=>if j=i then some x else s2.2 j),k')|some y=>if sameE y x=true then some (s2,k') else none)):=by show CR=_;rw[HC2.out,if_neg hlh]
      clear HC2;have hx3:=lt_of_block E3;have hw3:=lt_of_block V3;obtain⟨arr,ha1,ha2,ha3⟩:=KT3;have KT3:KT w3 (Nf2 wb kb) kb cells.length s2.2:=⟨arr,ha1,ha2,ha3⟩
      have hcell:=fun (v:Value) (hv:arr[i]?=some v)=>(cell_of_row w3 kb i arr _ _ ha1).trans hv;have PUT:∀ {w4:World} (y:Ex),Below w3.heap.size w3 w4->sameE y x=true->CR=some ((s2.1,fun j=>if j=i then some y else s2.2 j),k')->Hid (PostKD w wb kb (.slice (some ⟨cb,coff,none⟩) cells.length capc) cells.length CR (.returned (.int .i64 k')) ((w4.alloc (.cells #[.int .i64 x.k,.int .i64 x.n,stv x.nm,.slice ak x.kids.len ck] 24)).setCell ⟨kb,i,none⟩ (.slice (some ⟨w4.heap.size,0,none⟩) 1 1))):=by
       intro w4 y b4 hsm hcr;rw[hcr];have hk4:=Nat.lt_of_lt_of_le hk3 b4.size;have hw4:=Nat.lt_of_lt_of_le hw3 b4.size;have V4:=(b4.block _ hw3).trans V3;have KT4:=KT3.mono (b4.block _ hk3) (fun i _ hl=>b4.block i hl) b4.size;refine⟨⟨k',rfl,fun s k h=>by injection h with h;injection h⟩,⟨?_,hs2,KT4.put i y x ak ck hsm hfx (SK3.belowP b4) hw4⟩,((KK3.trans (Kp.ofBelow b4)).alloc _).set _ _ (.inr (.inr rfl))⟩;exact(heap_setCell_other _ _ _ _ (by show wb≠kb;exact hne)).trans ((Below.heap_alloc w4 _ wb hw4).trans V4)
      rcases ha3 i hil with ⟨ht,hai⟩|⟨x',y',g,cg,ht,hsm,hai,SY,hfy⟩
      ·have e1:=hcell _ hai;have HP:=fun m=>PUT (w4:=w3.drewN m) x ⟨rfl,rfl,rfl,Nat.le_refl _,fun _ _=>rfl⟩ (sameE_self x) (by rw[HC3.out,ht]);clear PUT HC3 KT3 KK3 SK3 hcell ha3 ht;go_wp2_with fail
       go_quiet (fail)
       have HP:=HP nq;have bd4:Below w3.heap.size w3 (w3.drewN nq):=⟨rfl,rfl,rfl,Nat.le_refl _,fun _ _=>rfl⟩
       have E4:=(bd4.block _ hx3).trans E3;have V4:=(bd4.block _ hw3).trans V3;have Y0:=(bd4.cell (p:=⟨gb,off,none⟩) hgl3).trans y0;have Y1:=(bd4.cell (p:=⟨gb,off+1,none⟩) hgl3).trans y1;have Y2:=(bd4.cell (p:=⟨gb,off+2,none⟩) hgl3).trans y2;have Y3:=(bd4.cell (p:=⟨gb,off+3,none⟩) hgl3).trans y3;have KF:=frozen_of_row (w3.drewN nq) kb i arr _ ((bd4.block _ hk3).trans ha1);have KC:=(bd4.cell (p:=⟨kb,i,none⟩) hk3).trans e1;have hkl4:=Nat.lt_of_lt_of_le hk3 bd4.size;have hgl4:=Nat.lt_of_lt_of_le hgl3 bd4.size;clear p0 p1 p2 p3 pf q0 q1 q2 q3 qf y0 y1 y2 y3 bd4 E3 V3 hai e1 ha1;generalize w3.drewN nq=w4 at *;obtain⟨p0,p1,p2,p3,pf⟩:=box4 E4;obtain⟨q0,q1,q2,q3,qf⟩:=box4 V4;have hbx4:=lt_of_block E4;have hwb4:=lt_of_block V4;clear E4 V4;have hcw:∀ (g j:Nat),g≠kb->g<w4.heap.size->(((w4.setCell ⟨kb,i,none⟩ (.slice (some ⟨w4.heap.size,0,none⟩) 1 1)).alloc (.cells #[.int .i64 x.k,.int .i64 x.n,stv x.nm,.slice ak x.kids.len ck] 24)).drew).cell? ⟨g,j,none⟩=w4.cell? ⟨g,j,none⟩:=fun g j h1 h2=>World.cell?_of_block (a:=⟨g,j,none⟩) ((Below.heap_alloc (w4.setCell ⟨kb,i,none⟩ (.slice (some ⟨w4.heap.size,0,none⟩) 1 1)) (.cells #[.int .i64 x.k,.int .i64 x.n,stv x.nm,.slice ak x.kids.len ck] 24) g (by simpa using h2)).trans (heap_setCell_other w4 ⟨kb,i,none⟩ g _ h1));have KA5:(((w4.setCell ⟨kb,i,none⟩ (.slice (some ⟨w4.heap.size,0,none⟩) 1 1)).alloc (.cells #[.int .i64 x.k,.int .i64 x.n,stv x.nm,.slice ak x.kids.len ck] 24)).drew).cell? ⟨bx,1,none⟩=some (.int .i64 (i:Nat))/\(((w4.setCell ⟨kb,i,none⟩ (.slice (some ⟨w4.heap.size,0,none⟩) 1 1)).alloc (.cells #[.int .i64 x.k,.int .i64 x.n,stv x.nm,.slice ak x.kids.len ck] 24)).drew).cell? ⟨bx,3,none⟩=some (.slice (some ⟨gb,off,none⟩) 1 cap)/\(((w4.setCell ⟨kb,i,none⟩ (.slice (some ⟨w4.heap.size,0,none⟩) 1 1)).alloc (.cells #[.int .i64 x.k,.int .i64 x.n,stv x.nm,.slice ak x.kids.len ck] 24)).drew).cell? ⟨wb,2,none⟩=some (.slice (some ⟨kb,0,none⟩) cells.length cells.length)/\(((w4.setCell ⟨kb,i,none⟩ (.slice (some ⟨w4.heap.size,0,none⟩) 1 1)).alloc (.cells #[.int .i64 x.k,.int .i64 x.n,stv x.nm,.slice ak x.kids.len ck] 24)).drew).cell? ⟨gb,off,none⟩=some (.int .i64 x.k)/\(((w4.setCell ⟨kb,i,none⟩ (.slice (some ⟨w4.heap.size,0,none⟩) 1 1)).alloc (.cells #[.int .i64 x.k,.int .i64 x.n,stv x.nm,.slice ak x.kids.len ck] 24)).drew).cell? ⟨gb,off+1,none⟩=some (.int .i64 x.n)/\(((w4.setCell ⟨kb,i,none⟩ (.slice (some ⟨w4.heap.size,0,none⟩) 1 1)).alloc (.cells #[.int .i64 x.k,.int .i64 x.n,stv x.nm,.slice ak x.kids.len ck] 24)).drew).cell? ⟨gb,off+2,none⟩=some (stv x.nm)/\(((w4.setCell ⟨kb,i,none⟩ (.slice (some ⟨w4.heap.size,0,none⟩) 1 1)).alloc (.cells #[.int .i64 x.k,.int .i64 x.n,stv x.nm,.slice ak x.kids.len ck] 24)).drew).cell? ⟨gb,off+3,none⟩=some (.slice ak x.kids.len ck):=⟨(hcw _ _ hb2 hbx4).trans p1,(hcw _ _ hb2 hbx4).trans p3,(hcw _ _ hne hwb4).trans q2,(hcw _ _ hgp.2 hgl4).trans Y0,(hcw _ _ hgp.2 hgl4).trans Y1,(hcw _ _ hgp.2 hgl4).trans Y2,(hcw _ _ hgp.2 hgl4).trans Y3⟩
       have HP2:Hid (PostKD w wb kb (.slice (some ⟨cb,coff,none⟩) cells.length capc) cells.length CR (.returned (.int .i64 k')) (((w4.setCell ⟨kb,i,none⟩ (.slice (some ⟨w4.heap.size,0,none⟩) 1 1)).alloc (.cells #[.int .i64 x.k,.int .i64 x.n,stv x.nm,.slice ak x.kids.len ck] 24)).drew)):=by
        have h5:=HP.out;rw[World.setCell_alloc_past _ _ _ _ hkl4] at h5;exact⟨h5.1,h5.2.1.below ⟨rfl,rfl,rfl,Nat.le_refl _,fun _ _=>rfl⟩,h5.2.2.trans (Kp.ofBelow ⟨rfl,rfl,rfl,Nat.le_refl _,fun _ _=>rfl⟩)⟩
       clear HP hcw;go_wp2_with fail;go_region_held3 (fun wx=>wx.cell? ⟨bx,1,none⟩=some (.int .i64 (i:Nat))/\wx.cell? ⟨bx,3,none⟩=some (.slice (some ⟨gb,off,none⟩) 1 cap)/\wx.cell? ⟨wb,2,none⟩=some (.slice (some ⟨kb,0,none⟩) cells.length cells.length)/\wx.cell? ⟨gb,off,none⟩=some (.int .i64 x.k)/\wx.cell? ⟨gb,off+1,none⟩=some (.int .i64 x.n)/\wx.cell? ⟨gb,off+2,none⟩=some (stv x.nm)/\wx.cell? ⟨gb,off+3,none⟩=some (.slice ak x.kids.len ck)) (first|exact KA5|go_keep) (fail);clear KA5;go_wp2;exact bodyPost_ret (v:=.int .i64 k') (by simp[results,Tryd.results47,go_sem]) rfl HP2.out
      ·have e1:=hcell _ hai;obtain⟨az,cz,hzl,hzp,z0,z1,z2,z3,SZ⟩:∃az,∃cz,g<w3.heap.size/\Nf2 wb kb g/\w3.cell? ⟨g,0,none⟩=some (.int .i64 y'.k)/\w3.cell? ⟨g,1,none⟩=some (.int .i64 y'.n)/\w3.cell? ⟨g,2,none⟩=some (stv y'.nm)/\w3.cell? ⟨g,3,none⟩=some (.slice az y'.kids.len cz)/\SlN w3 (Nf2 wb kb) y'.kids az:=by
        obtain⟨gb',off',az,cz,hao,hgl,hgp,z0,z1,z2,z3,SZ⟩:=SlN.kidQ (x:=.nil) (r:=.nil) (ks:=y'.kids) (k:=y'.k) (n:=y'.n) (nm:=y'.nm) (a:=y'.a) SY;injection hao with hao
        injection hao with h1 h2
        subst h1;subst h2;exact⟨az,cz,hgl,hgp,z0,z1,z2,z3,SZ⟩
       have bdT:Below w3.heap.size w3 w3.drew:=⟨rfl,rfl,rfl,Nat.le_refl _,fun _ _=>rfl⟩
       have c6:=samenode_ok (y'.kids.size+1) y' x az ak cz ck w3.drew (by omega) hfy.len hfy.sh hfx.len hfx.sh (SZ.all.below bdT) (SK3.all.below bdT);rw[exN_out,exN_out,sameE_tr x hsm] at c6;have HC4:Hid (CR=if sameE x' x=true then some (s2,k') else none):=by show CR=_;rw[HC3.out,ht]
       have hfun:Hid ((fun j=>if j=i then some x' else s2.2 j)=s2.2):=by
        show _=_;funext j;by_cases hj:j=i
        ·rw[if_pos hj,hj,ht]
        ·rw[if_neg hj]
       obtain⟨sm,hsmm⟩:∃sm,sm=sameE x' x:=⟨_,rfl⟩
       rw[<-hsmm] at c6;have HSM:Hid (sameE x' x=sm):=hsmm.symm;clear hsmm HC3 SY SZ hsm ht;have KA0:w3.drew.cell? ⟨bx,1,none⟩=some (.int .i64 (i:Nat))/\w3.drew.cell? ⟨bx,3,none⟩=some (.slice (some ⟨gb,off,none⟩) 1 cap)/\w3.drew.cell? ⟨wb,2,none⟩=some (.slice (some ⟨kb,0,none⟩) cells.length cells.length)/\w3.drew.cell? ⟨kb,i,none⟩=some (.slice (some ⟨g,0,none⟩) 1 cg)/\w3.drew.cell? ⟨g,0,none⟩=some (.int .i64 y'.k)/\w3.drew.cell? ⟨g,1,none⟩=some (.int .i64 y'.n)/\w3.drew.cell? ⟨g,2,none⟩=some (stv y'.nm)/\w3.drew.cell? ⟨g,3,none⟩=some (.slice az y'.kids.len cz)/\w3.drew.cell? ⟨gb,off,none⟩=some (.int .i64 x.k)/\w3.drew.cell? ⟨gb,off+1,none⟩=some (.int .i64 x.n)/\w3.drew.cell? ⟨gb,off+2,none⟩=some (stv x.nm)/\w3.drew.cell? ⟨gb,off+3,none⟩=some (.slice ak x.kids.len ck):=⟨p1,p3,q2,e1,z0,z1,z2,z3,y0,y1,y2,y3⟩
       go_wp2_with fail;go_region_held3 (fun wx=>wx.cell? ⟨bx,1,none⟩=some (.int .i64 (i:Nat))/\wx.cell? ⟨bx,3,none⟩=some (.slice (some ⟨gb,off,none⟩) 1 cap)/\wx.cell? ⟨wb,2,none⟩=some (.slice (some ⟨kb,0,none⟩) cells.length cells.length)/\wx.cell? ⟨kb,i,none⟩=some (.slice (some ⟨g,0,none⟩) 1 cg)/\wx.cell? ⟨g,0,none⟩=some (.int .i64 y'.k)/\wx.cell? ⟨g,1,none⟩=some (.int .i64 y'.n)/\wx.cell? ⟨g,2,none⟩=some (stv y'.nm)/\wx.cell? ⟨g,3,none⟩=some (.slice az y'.kids.len cz)/\wx.cell? ⟨gb,off,none⟩=some (.int .i64 x.k)/\wx.cell? ⟨gb,off+1,none⟩=some (.int .i64 x.n)/\wx.cell? ⟨gb,off+2,none⟩=some (stv x.nm)/\wx.cell? ⟨gb,off+3,none⟩=some (.slice ak x.kids.len ck))
        (first|exact KA|exact KA0|go_keep)
        (first
         | (go_at_call 70;refine c6.mono ?_;rintro z w4 ⟨rfl,B4⟩;have KA:w4.cell? ⟨bx,1,none⟩=some (.int .i64 (i:Nat))/\w4.cell? ⟨bx,3,none⟩=some (.slice (some ⟨gb,off,none⟩) 1 cap)/\w4.cell? ⟨wb,2,none⟩=some (.slice (some ⟨kb,0,none⟩) cells.length cells.length)/\w4.cell? ⟨kb,i,none⟩=some (.slice (some ⟨g,0,none⟩) 1 cg)/\w4.cell? ⟨g,0,none⟩=some (.int .i64 y'.k)/\w4.cell? ⟨g,1,none⟩=some (.int .i64 y'.n)/\w4.cell? ⟨g,2,none⟩=some (stv y'.nm)/\w4.cell? ⟨g,3,none⟩=some (.slice az y'.kids.len cz)/\w4.cell? ⟨gb,off,none⟩=some (.int .i64 x.k)/\w4.cell? ⟨gb,off+1,none⟩=some (.int .i64 x.n)/\w4.cell? ⟨gb,off+2,none⟩=some (stv x.nm)/\w4.cell? ⟨gb,off+3,none⟩=some (.slice ak x.kids.len ck):=⟨(B4.cell (p:=⟨bx,1,none⟩) hx3).trans p1,(B4.cell (p:=⟨bx,3,none⟩) hx3).trans p3,(B4.cell (p:=⟨wb,2,none⟩) hw3).trans q2,(B4.cell (p:=⟨kb,i,none⟩) hk3).trans e1,(B4.cell (p:=⟨g,0,none⟩) hzl).trans z0,(B4.cell (p:=⟨g,1,none⟩) hzl).trans z1,(B4.cell (p:=⟨g,2,none⟩) hzl).trans z2,(B4.cell (p:=⟨g,3,none⟩) hzl).trans z3,(B4.cell (p:=⟨gb,off,none⟩) hgl3).trans y0,(B4.cell (p:=⟨gb,off+1,none⟩) hgl3).trans y1,(B4.cell (p:=⟨gb,off+2,none⟩) hgl3).trans y2,(B4.cell (p:=⟨gb,off+3,none⟩) hgl3).trans y3⟩))
       have bd4:Below w3.heap.size w3 w4:=bdT.trans B4;have E4:=(bd4.block _ hx3).trans E3;have V4:=(bd4.block _ hw3).trans V3;have KF:=frozen_of_row w4 kb i arr _ ((bd4.block _ hk3).trans ha1);obtain⟨-,-,-,KC,-,-,-,-,Y0,Y1,Y2,Y3⟩:=KA;have hkl4:=Nat.lt_of_lt_of_le hk3 bd4.size;have hgl4:=Nat.lt_of_lt_of_le hgl3 bd4.size;have hbx4:=lt_of_block E4;have hwb4:=lt_of_block V4;cases sm with
       | false =>
        have HR:Hid (PostKD w wb kb (.slice (some ⟨cb,coff,none⟩) cells.length capc) cells.length CR (.returned (.int .i64 0)) (w4.setCell ⟨wb,3,none⟩ (.bool false))):=by
         rw[HC4.out,HSM.out,if_neg (by decide)];exact⟨⟨0,rfl,fun s k h=>by cases h⟩,⟨by simpa using hkl4,_,_,(set4d V4 (.bool false)).2⟩,(KK3.trans (Kp.ofBelow bd4)).set _ _ (.inr (.inl rfl))⟩
        clear c6 PUT HC4 HSM hfun KT3 KK3 SK3 p0 p1 p2 p3 pf q0 q1 q2 q3 qf y0 y1 y2 y3 z0 z1 z2 z3 e1 ha1 E3 V3 B4 bd4 bdT hcell ha3;obtain⟨q0,q1,q2,q3,qf⟩:=box4 V4;clear E4 V4;go_wp2;exact bodyPost_ret (v:=.int .i64 0) (by simp[results,Tryd.results47,go_sem]) rfl HR.out
       | true =>
        have HP:=PUT x' bd4 HSM.out (by rw[HC4.out,HSM.out,if_pos rfl,hfun.out]);clear c6 PUT HC4 HSM hfun KT3 KK3 SK3 p0 p1 p2 p3 pf q0 q1 q2 q3 qf y0 y1 y2 y3 z0 z1 z2 z3 e1 ha1 E3 V3 B4 bd4 bdT hcell ha3;obtain⟨p0,p1,p2,p3,pf⟩:=box4 E4;obtain⟨q0,q1,q2,q3,qf⟩:=box4 V4;clear E4 V4;have hcw:∀ (g j:Nat),g≠kb->g<w4.heap.size->(((w4.setCell ⟨kb,i,none⟩ (.slice (some ⟨w4.heap.size,0,none⟩) 1 1)).alloc (.cells #[.int .i64 x.k,.int .i64 x.n,stv x.nm,.slice ak x.kids.len ck] 24)).drew).cell? ⟨g,j,none⟩=w4.cell? ⟨g,j,none⟩:=fun g j h1 h2=>World.cell?_of_block (a:=⟨g,j,none⟩) ((Below.heap_alloc (w4.setCell ⟨kb,i,none⟩ (.slice (some ⟨w4.heap.size,0,none⟩) 1 1)) (.cells #[.int .i64 x.k,.int .i64 x.n,stv x.nm,.slice ak x.kids.len ck] 24) g (by simpa using h2)).trans (heap_setCell_other w4 ⟨kb,i,none⟩ g _ h1));have KA5:(((w4.setCell ⟨kb,i,none⟩ (.slice (some ⟨w4.heap.size,0,none⟩) 1 1)).alloc (.cells #[.int .i64 x.k,.int .i64 x.n,stv x.nm,.slice ak x.kids.len ck] 24)).drew).cell? ⟨bx,1,none⟩=some (.int .i64 (i:Nat))/\(((w4.setCell ⟨kb,i,none⟩ (.slice (some ⟨w4.heap.size,0,none⟩) 1 1)).alloc (.cells #[.int .i64 x.k,.int .i64 x.n,stv x.nm,.slice ak x.kids.len ck] 24)).drew).cell? ⟨bx,3,none⟩=some (.slice (some ⟨gb,off,none⟩) 1 cap)/\(((w4.setCell ⟨kb,i,none⟩ (.slice (some ⟨w4.heap.size,0,none⟩) 1 1)).alloc (.cells #[.int .i64 x.k,.int .i64 x.n,stv x.nm,.slice ak x.kids.len ck] 24)).drew).cell? ⟨wb,2,none⟩=some (.slice (some ⟨kb,0,none⟩) cells.length cells.length)/\(((w4.setCell ⟨kb,i,none⟩ (.slice (some ⟨w4.heap.size,0,none⟩) 1 1)).alloc (.cells #[.int .i64 x.k,.int .i64 x.n,stv x.nm,.slice ak x.kids.len ck] 24)).drew).cell? ⟨gb,off,none⟩=some (.int .i64 x.k)/\(((w4.setCell ⟨kb,i,none⟩ (.slice (some ⟨w4.heap.size,0,none⟩) 1 1)).alloc (.cells #[.int .i64 x.k,.int .i64 x.n,stv x.nm,.slice ak x.kids.len ck] 24)).drew).cell? ⟨gb,off+1,none⟩=some (.int .i64 x.n)/\(((w4.setCell ⟨kb,i,none⟩ (.slice (some ⟨w4.heap.size,0,none⟩) 1 1)).alloc (.cells #[.int .i64 x.k,.int .i64 x.n,stv x.nm,.slice ak x.kids.len ck] 24)).drew).cell? ⟨gb,off+2,none⟩=some (stv x.nm)/\(((w4.setCell ⟨kb,i,none⟩ (.slice (some ⟨w4.heap.size,0,none⟩) 1 1)).alloc (.cells #[.int .i64 x.k,.int .i64 x.n,stv x.nm,.slice ak x.kids.len ck] 24)).drew).cell? ⟨gb,off+3,none⟩=some (.slice ak x.kids.len ck):=⟨(hcw _ _ hb2 hbx4).trans p1,(hcw _ _ hb2 hbx4).trans p3,(hcw _ _ hne hwb4).trans q2,(hcw _ _ hgp.2 hgl4).trans Y0,(hcw _ _ hgp.2 hgl4).trans Y1,(hcw _ _ hgp.2 hgl4).trans Y2,(hcw _ _ hgp.2 hgl4).trans Y3⟩
        have HP2:Hid (PostKD w wb kb (.slice (some ⟨cb,coff,none⟩) cells.length capc) cells.length CR (.returned (.int .i64 k')) (((w4.setCell ⟨kb,i,none⟩ (.slice (some ⟨w4.heap.size,0,none⟩) 1 1)).alloc (.cells #[.int .i64 x.k,.int .i64 x.n,stv x.nm,.slice ak x.kids.len ck] 24)).drew)):=by
         have h5:=HP.out;rw[World.setCell_alloc_past _ _ _ _ hkl4] at h5;exact⟨h5.1,h5.2.1.below ⟨rfl,rfl,rfl,Nat.le_refl _,fun _ _=>rfl⟩,h5.2.2.trans (Kp.ofBelow ⟨rfl,rfl,rfl,Nat.le_refl _,fun _ _=>rfl⟩)⟩
        clear HP hcw;go_wp2_with fail;go_region_held3 (fun wx=>wx.cell? ⟨bx,1,none⟩=some (.int .i64 (i:Nat))/\wx.cell? ⟨bx,3,none⟩=some (.slice (some ⟨gb,off,none⟩) 1 cap)/\wx.cell? ⟨wb,2,none⟩=some (.slice (some ⟨kb,0,none⟩) cells.length cells.length)/\wx.cell? ⟨gb,off,none⟩=some (.int .i64 x.k)/\wx.cell? ⟨gb,off+1,none⟩=some (.int .i64 x.n)/\wx.cell? ⟨gb,off+2,none⟩=some (stv x.nm)/\wx.cell? ⟨gb,off+3,none⟩=some (.slice ak x.kids.len ck)) (first|exact KA5|go_keep) (fail);clear KA5;go_wp2;exact bodyPost_ret (v:=.int .i64 k') (by simp[results,Tryd.results47,go_sem]) rfl HP2.out
theorem knd_all {cells:List Int}{k n:Int}{nm:List UInt8}{a:Int}{f:Fs}{ar wi:Nat}{s:Rg}(m g:Int)(hd:docF k n nm f.len=true)(hs:s.1+1<=4096)(hw:wi<=4)(h5:k=5->n<(ar:Int))(h21:k≠21)(h26:k≠26)(hf:∀ kd:List Int,kd.length=f.len->formP k n kd=(List.replicate f.len m,g))(h0:g≠0)(h4:g≠4) :
  kndD cells ⟨k,n,nm,a,f⟩ ar wi s=anD (musDL cells f (some (s.1+1,s.2)) m ar wi) g :=
 kndD_an (rg_all (e:=⟨k,n,nm,a,f⟩) m g (docF_gd (e:=⟨k,n,nm,a,f⟩) hd hs hw h5 (fun h=>absurd h h26)) h21 h26 hf h0) h4
theorem knd_var {cells:List Int}{n:Int}{nm:List UInt8}{a:Int}{f:Fs}{ar wi:Nat}{s:Rg}(h:(ar:Int)<=n):kndD cells ⟨5,n,nm,a,f⟩ ar wi s=none :=
 kndD_none (gd_bad (fun hg=>hg (.inr (.inr (.inr (by simp[nuP];omega))))))
theorem knd_set {cells:List Int}{k n:Int}{nm:List UInt8}{a:Int}{f:Fs}{ar wi:Nat}{s:Rg}(hk:22<=k/\k<=25):kndD cells ⟨k,n,nm,a,f⟩ ar wi s=none:=by
 unfold kndD;cases hr:rgE cells ⟨k,n,nm,a,f⟩ ar wi s with
 | none=>rfl
 | some z =>
  obtain⟨s',kz⟩:=z;obtain⟨-,s1,kd,-,-,-,-,h5,-⟩:=rgE_inv hr;simp only at h5 ⊢;rw[if_pos];rw[h5];have hc:k=22\/k=23\/k=24\/k=25:=by omega
  rcases hc with rfl|rfl|rfl|rfl<;>rfl
theorem knd_alike {cells:List Int}{k n:Int}{nm:List UInt8}{a:Int}{x y:Ex}{ar wi:Nat}{s:Rg}(hk:k=13\/k=14)(hd:docF k n nm 2=true)(hs:s.1+1<=4096)(hw:wi<=4) :
  kndD cells ⟨k,n,nm,a,Fs.ex x (Fs.ex y .nil)⟩ ar wi s=(match kndD cells x ar wi (s.1+1,s.2) with|none=>none|some (s1,k0)=>anD (musD cells (some s1) k0 y ar wi) 2):=by
 have hg:=docF_gd (cells:=cells) (ar:=ar) (e:=⟨k,n,nm,a,Fs.ex x (Fs.ex y .nil)⟩) (s:=s) hd hs hw (fun h=>absurd h (by simp only;omega)) (fun h=>absurd h (by simp only;omega));unfold kndD;rw[rg_alike hk hg];cases rgE cells x ar wi (s.1+1,s.2) with
 | none=>rfl
 | some z =>
  obtain⟨s1,k1⟩:=z;simp only;by_cases h4:k1=4
  ·rw[if_pos h4,if_pos h4]
  ·rw[if_neg h4,if_neg h4];simp only;cases musD cells (some s1) k1 y ar wi with
   | none=>rfl
   | some s2=>rfl
theorem knd_choice {cells:List Int}{n:Int}{nm:List UInt8}{a:Int}{x y z:Ex}{ar wi:Nat}{s:Rg}(hd:docF 19 n nm 3=true)(hs:s.1+1<=4096)(hw:wi<=4) :
  kndD cells ⟨19,n,nm,a,Fs.ex x (Fs.ex y (Fs.ex z .nil))⟩ ar wi s=(match musD cells (some (s.1+1,s.2)) 2 x ar wi with|none=>none|some s0=>match kndD cells y ar wi s0 with|none=>none|some (s1,k0)=>anD (musD cells (some s1) k0 z ar wi) k0):=by
 have hg:=docF_gd (cells:=cells) (ar:=ar) (e:=⟨19,n,nm,a,Fs.ex x (Fs.ex y (Fs.ex z .nil))⟩) (s:=s) hd hs hw (fun h=>absurd h (by simp only;omega)) (fun h=>absurd h (by simp only;omega));unfold kndD;rw[rg_choice hg];cases musD cells (some (s.1+1,s.2)) 2 x ar wi with
 | none=>rfl
 | some s0 =>
  simp only;cases rgE cells y ar wi s0 with
  | none=>rfl
  | some u =>
   obtain⟨s1,k1⟩:=u;simp only;by_cases h4:k1=4
   ·rw[if_pos h4,if_pos h4]
   ·rw[if_neg h4,if_neg h4];simp only;cases musD cells (some s1) k1 z ar wi with
    | none=>rfl
    | some s2=>simp only[anD];rw[if_neg h4]
theorem knd_quant {cells:List Int}{n:Int}{nm:List UInt8}{a:Int}{t x:Ex}{ar wi:Nat}{s:Rg}(hd:docF 21 n nm 2=true)(hs:s.1+1<=4096)(hw:wi<=4) :
  kndD cells ⟨21,n,nm,a,Fs.ex t (Fs.ex x .nil)⟩ ar wi s=anD (musD cells (musD cells (some (s.1+1,s.2)) 4 t ar (wi+1)) (bodyT n) x (ar+1) (wi+1)) (wholeT n):=by
 have hg:=docF_gd (cells:=cells) (ar:=ar) (e:=⟨21,n,nm,a,Fs.ex t (Fs.ex x .nil)⟩) (s:=s) hd hs hw (fun h=>absurd h (by simp only;omega)) (fun h=>absurd h (by simp only;omega));have hn:1<=n/\n<=6:=by simp[docF] at hd;omega
 exact kndD_an (rg_quant hg hn) (by unfold wholeT;split<;>omega)
theorem knd_cell {cells:List Int}{n:Int}{nm:List UInt8}{a:Int}{x:Ex}{ar wi:Nat}{s:Rg}(hd:docF 26 n nm 1=true)(hs:s.1+1<=4096)(hw:wi<=4) :
  kndD cells ⟨26,n,nm,a,Fs.ex x .nil⟩ ar wi s=celD cells n x ar wi (s.1+1,s.2):=by
 unfold celD;by_cases h6:0<=n/\n<(cells.length:Int)
 ·have hg:=docF_gd (cells:=cells) (ar:=ar) (e:=⟨26,n,nm,a,Fs.ex x .nil⟩) (s:=s) hd hs hw (fun h=>absurd h (by simp only;omega)) (fun _=>h6);rw[if_pos h6];unfold kndD;rw[rg_cell hg];cases rgE cells x ar wi (s.1+1,s.2) with
  | none=>rfl
  | some z =>
   obtain⟨s1,k1⟩:=z;simp only;by_cases h4:k1=4
   ·rw[if_pos h4,if_pos h4]
   ·rw[if_neg h4,if_neg h4];simp only;cases keepP cells n (Fs.ex x .nil) ar s1 with
    | none=>rfl
    | some s2=>simp only[anD];rw[if_neg h4]
 ·rw[if_neg h6];exact kndD_none (gd_bad (fun hg=>hg (.inr (.inr (.inr (by simp[nuP];omega))))))
def kndA (cells:List Int)(st:Dg)(e:Ex)(ar wi:Nat):Option (Rg × Int):=match st with|none=>none|some s=>kndD cells e ar wi s
theorem kind_any {N:Nat}(IH:KindD N)(e:Ex)(ao:Option Addr)(cap wb kb:Nat)(bv:Value)(cells:List Int)(ar wi:Nat)(st:Dg)(w:World)(hN:e.kids.size<N)(hf:FitN e)(hwi:wi<=4)(har:ar<=wi)(hne:wb≠kb)(h:WD w wb kb bv cells.length st)(hn:Inw w (Nf2 wb kb) bv cells)(S:SlN w (Nf2 wb kb) e.kids ao) :
  Calls Tryd.prog 21 #[.pointer (some ⟨wb,0,none⟩),exN e ao cap,.int .i64 (ar:Nat),.int .i64 (wi:Nat)] w (PostKD w wb kb bv cells.length (kndA cells st e ar wi)):=by
 cases st with
 | none=>exact kind_bad e ao cap wb kb bv cells.length ar wi w h
 | some s=>exact IH e ao cap wb kb bv cells ar wi s w hN hf hwi har hne h hn S
theorem kndA_pos {cells:List Int}{st:Dg}{e:Ex}{ar wi:Nat}{s:Rg}{k:Int}(h:kndA cells st e ar wi=some (s,k)):k≠4:=by
 unfold kndA at h;cases st with
 | none=>cases h
 | some s0 =>
  simp only[kndD] at h;cases hr:rgE cells e ar wi s0 with
  | none=>rw[hr] at h;cases h
  | some z =>
   obtain⟨s',kz⟩:=z;rw[hr] at h;simp only at h;split at h
   ·cases h
   ·injection h with h
    injection h with h1 h2
    omega
theorem kindd_step {N:Nat}(IH:KindD N):KindD (N+1):=by
 intro e ao cap wb kb bv cells ar wi s w hN hf hwi har hne h hn S;obtain⟨k0,n,nm,a,f⟩:=e;simp only at hN S;obtain⟨Z,hZ⟩:∃Z,Z=kndD cells ⟨k0,n,nm,a,f⟩ ar wi s:=⟨_,rfl⟩
 rw[<-hZ];have HZ:Hid (Z=kndD cells ⟨k0,n,nm,a,f⟩ ar wi s):=hZ;clear hZ;have hlen:=hf.len;simp only at hlen;have B0:Below w.heap.size w (w.alloc (.cells #[.int .i64 k0,.int .i64 n,stv nm,.slice ao f.len cap] 24)):=(Below.refl _ w).alloc (Nat.le_refl _) _;have E0:(w.alloc (.cells #[.int .i64 k0,.int .i64 n,stv nm,.slice ao f.len cap] 24)).heap[w.heap.size]?=some (.cells #[.int .i64 k0,.int .i64 n,stv nm,.slice ao f.len cap] 24):=heap_alloc_new w _;have W0:=h.below B0;have S0:=S.belowP B0;have N0:=hn.below B0;have hwb:=h.lt;have hkb:=h.ltk;clear h S hn;rw[exN_out];go_enter Tryd.func21,Tryd.ntmps21;go_upto_region 1 with fail;generalize w.alloc (.cells #[.int .i64 k0,.int .i64 n,stv nm,.slice ao f.len cap] 24)=w0 at *;have KK:Kp wb kb w w0:=Kp.ofBelow B0;obtain⟨bx,hbx⟩:∃bx,bx=w.heap.size:=⟨_,rfl⟩
 rw[<-hbx] at E0 ⊢;have hb1:bx≠wb:=by omega
 have hb2:bx≠kb:=by omega
 have hkb0:=W0.ltk;obtain⟨W0,hs,KT0⟩:=W0;obtain⟨q0,q1,q2,q3,qf⟩:=box4 W0;have F1:=(set4d W0 (.int .i64 ((s.1:Int)+1))).1;have K1:=KK.set ⟨wb,1,none⟩ (.int .i64 ((s.1:Int)+1)) (.inr (.inl rfl));have E1:=(heap_setCell_other w0 ⟨wb,1,none⟩ bx (.int .i64 ((s.1:Int)+1)) hb1).trans E0;have N1:=N0.set ⟨wb,1,none⟩ (.int .i64 ((s.1:Int)+1)) rfl;have S1:=S0.set ⟨wb,1,none⟩ (.int .i64 ((s.1:Int)+1)) rfl;have KT1:=KT0.set ⟨wb,1,none⟩ (.int .i64 ((s.1:Int)+1)) rfl hne;have hk1:kb<(w0.setCell ⟨wb,1,none⟩ (.int .i64 ((s.1:Int)+1))).heap.size:=by simpa using hkb0
 clear hbx hwb hkb B0 E0 KK N0 S0 KT0 W0;go_upto_region 2 with fail;generalize w0.setCell ⟨wb,1,none⟩ (.int .i64 ((s.1:Int)+1))=w1 at *;clear q0 q1 q2 q3 qf hkb0;obtain⟨q0,q1,q2,q3,qf⟩:=box4 F1;obtain⟨p0,p1,p2,p3,pf⟩:=box4 E1;have c1:=form_q ⟨k0,n,nm,a,f⟩ ao cap w1 hf.nm;rw[exN_out] at c1;simp only at c1;have BAD:∀ {w2:World}{g:Int},Z=none->Below w1.heap.size w1 w2->Hid (PostKD w wb kb bv cells.length Z (.returned (.int .i64 g)) (w2.setCell ⟨wb,3,none⟩ (.bool false))):=by
  intro w2 g hz b2;rw[hz];exact⟨⟨g,rfl,fun s k h=>by cases h⟩,⟨by simpa using Nat.lt_of_lt_of_le hk1 b2.size,_,_,(set4d ((b2.block _ (lt_of_block F1)).trans F1) (.bool false)).2⟩,(K1.trans (Kp.ofBelow b2)).set _ _ (.inr (.inl rfl))⟩
 by_cases hs1:4096<s.1+1
 ·have HR:=BAD (g:=0) (by rw[HZ.out];exact kndD_none (gd_bad (fun hg=>hg (.inl hs1)))) (Below.refl _ w1);have hI:(4096:Int)<(s.1:Int)+1:=by omega
  clear BAD HZ c1 p0 p1 p2 p3 N1 S1 E1 KT1 K1;go_wp2;exact bodyPost_ret (v:=.int .i64 0) (by simp[results,Tryd.results21,go_sem]) rfl HR.out
 have hI:¬(4096:Int)<(s.1:Int)+1:=by omega
 go_wp2_with fail;refine c1.mono ?_;rintro x w2 ⟨rfl,b2⟩;have F2:=(b2.block _ (lt_of_block F1)).trans F1;have E2:=(b2.block _ (lt_of_block E1)).trans E1;have N2:=N1.below b2;have S2:=S1.belowP b2;have hkt:=KT1;obtain⟨arr,hkx,-⟩:=hkt;have KT2:=KT1.mono (b2.block _ (lt_of_block hkx)) (fun i _ hl=>b2.block i hl) b2.size;have K2:=K1.trans (Kp.ofBelow b2);cases hd:docF k0 n nm f.len with
 | false =>
  have HR:=BAD (g:=0) (by rw[HZ.out];exact kndD_none (docF_bad (e:=⟨k0,n,nm,a,f⟩) hd)) b2;clear c1 BAD HZ q0 q1 q2 q3 qf p0 p1 p2 p3 pf hkx;obtain⟨q0,q1,q2,q3,qf⟩:=box4 F2;obtain⟨p0,p1,p2,p3,pf⟩:=box4 E2;clear F1 E1 N1 S1 KT1 K1 K2 KT2 N2 S2 F2 E2;go_wp2;exact bodyPost_ret (v:=.int .i64 0) (by simp[results,Tryd.results21,go_sem]) rfl HR.out
 | true =>
 have hs2:s.1+1<=4096:=by omega
 have W2:WD w2 wb kb bv cells.length (some (s.1+1,s.2)):=⟨F2,hs2,KT2⟩
 have BADS:=fun (g:Int) (hz:Z=none)=>BAD (g:=g) hz b2;clear c1 BAD q0 q1 q2 q3 qf p0 p1 p2 p3 pf hkx F1 E1 N1 S1 KT1 K1 KT2 b2 hs hk1 hs1 hI;have hkk:=docF_kind hd;obtain⟨p0,p1,p2,p3,pf⟩:=box4 E2;obtain⟨q0,q1,q2,q3,qf⟩:=box4 F2;clear F2;go_upto_region 5 with fail;rcases hkk with rfl|rfl|rfl|rfl|rfl|rfl|rfl|rfl|rfl|rfl|rfl|rfl|rfl|rfl|rfl|rfl|rfl|rfl|rfl|rfl|rfl|rfl|rfl|rfl|rfl
 ·have hl:f.len=0:=by simp[docF] at hd;omega
  have HR:Hid (PostKD w wb kb bv cells.length Z (.returned (.int .i64 1)) w2):=by
   show PostKD w wb kb bv cells.length Z (.returned (.int .i64 1)) w2;rw[HZ.out,knd_all 1 1 hd hs2 hwi (fun h=>absurd h (by decide)) (by decide) (by decide) (fun kd hk=>by rw[hl];rfl) (by decide) (by decide)];exact postKD (st:=some (s.1+1,s.2)) (by rw[len0 hl];rfl) W2 K2
  clear HZ BADS W2 N2 S2 K2 E2 hd;go_wp2;exact bodyPost_ret (v:=.int .i64 1) (by simp[results,Tryd.results21,go_sem]) rfl HR.out
 ·have hl:f.len=0:=by simp[docF] at hd;omega
  have HR:Hid (PostKD w wb kb bv cells.length Z (.returned (.int .i64 2)) w2):=by
   show PostKD w wb kb bv cells.length Z (.returned (.int .i64 2)) w2;rw[HZ.out,knd_all 1 2 hd hs2 hwi (fun h=>absurd h (by decide)) (by decide) (by decide) (fun kd hk=>by rw[hl];rfl) (by decide) (by decide)];exact postKD (st:=some (s.1+1,s.2)) (by rw[len0 hl];rfl) W2 K2
  clear HZ BADS W2 N2 S2 K2 E2 hd;go_wp2;exact bodyPost_ret (v:=.int .i64 2) (by simp[results,Tryd.results21,go_sem]) rfl HR.out
 ·have hl:f.len=0:=by simp[docF] at hd;omega
  have HR:Hid (PostKD w wb kb bv cells.length Z (.returned (.int .i64 3)) w2):=by
   show PostKD w wb kb bv cells.length Z (.returned (.int .i64 3)) w2;rw[HZ.out,knd_all 1 3 hd hs2 hwi (fun h=>absurd h (by decide)) (by decide) (by decide) (fun kd hk=>by rw[hl];rfl) (by decide) (by decide)];exact postKD (st:=some (s.1+1,s.2)) (by rw[len0 hl];rfl) W2 K2
  clear HZ BADS W2 N2 S2 K2 E2 hd;go_wp2;exact bodyPost_ret (v:=.int .i64 3) (by simp[results,Tryd.results21,go_sem]) rfl HR.out
 ·by_cases hv:(ar:Int)<=n
  ·have HR:=BADS 3 (by rw[HZ.out];exact knd_var hv);clear HZ BADS W2 N2 S2 K2 E2 hd;go_wp2;exact bodyPost_ret (v:=.int .i64 3) (by simp[results,Tryd.results21,go_sem]) rfl HR.out
  have hl:f.len=0:=by simp[docF] at hd;omega
  have HR:Hid (PostKD w wb kb bv cells.length Z (.returned (.int .i64 3)) w2):=by
   show PostKD w wb kb bv cells.length Z (.returned (.int .i64 3)) w2;rw[HZ.out,knd_all 1 3 hd hs2 hwi (fun _=>by omega) (by decide) (by decide) (fun kd hk=>by rw[hl];rfl) (by decide) (by decide)];exact postKD (st:=some (s.1+1,s.2)) (by rw[len0 hl];rfl) W2 K2
  clear HZ BADS W2 N2 S2 K2 E2 hd;go_wp2;exact bodyPost_ret (v:=.int .i64 3) (by simp[results,Tryd.results21,go_sem]) rfl HR.out
 ·have hl:f.len=1:=by simp[docF] at hd;omega
  have HZ2:Hid (Z=anD (musDL cells f (some (s.1+1,s.2)) 1 ar wi) 1):=HZ.out.trans (knd_all 1 1 hd hs2 hwi (fun h=>absurd h (by decide)) (by decide) (by decide) (fun kd hk=>by rw[hl];rfl) (by decide) (by decide));have c1:=fun k=>all_d IH ⟨k,n,nm,a,f⟩ ao cap wb kb bv cells ar wi 1 1 (some (s.1+1,s.2)) w2 (by simp only;omega) ⟨hf.nm,hf.len,hf.sh⟩ hwi har hne (by decide) W2 N2 S2;simp only[exN_out] at c1;clear HZ BADS hd hl;go_wp2_with fail;refine(c1 _).mono ?_;rintro z w3 ⟨rfl,W3,K3⟩;have HR:Hid (PostKD w wb kb bv cells.length Z (.returned (.int .i64 1)) w3):=postKD HZ2.out W3 (K2.trans K3);clear c1 W3 K3 HZ2 p0 p1 p2 p3 pf q0 q1 q2 q3 qf W2 N2 S2 K2 E2;go_wp2;exact bodyPost_ret (v:=.int .i64 1) (by simp[results,Tryd.results21,go_sem]) rfl HR.out
 ·have hl:f.len=1:=by simp[docF] at hd;omega
  have HZ2:Hid (Z=anD (musDL cells f (some (s.1+1,s.2)) 2 ar wi) 2):=HZ.out.trans (knd_all 2 2 hd hs2 hwi (fun h=>absurd h (by decide)) (by decide) (by decide) (fun kd hk=>by rw[hl];rfl) (by decide) (by decide));have c1:=fun k=>all_d IH ⟨k,n,nm,a,f⟩ ao cap wb kb bv cells ar wi 2 2 (some (s.1+1,s.2)) w2 (by simp only;omega) ⟨hf.nm,hf.len,hf.sh⟩ hwi har hne (by decide) W2 N2 S2;simp only[exN_out] at c1;clear HZ BADS hd hl;go_wp2_with fail;refine(c1 _).mono ?_;rintro z w3 ⟨rfl,W3,K3⟩;have HR:Hid (PostKD w wb kb bv cells.length Z (.returned (.int .i64 2)) w3):=postKD HZ2.out W3 (K2.trans K3);clear c1 W3 K3 HZ2 p0 p1 p2 p3 pf q0 q1 q2 q3 qf W2 N2 S2 K2 E2;go_wp2;exact bodyPost_ret (v:=.int .i64 2) (by simp[results,Tryd.results21,go_sem]) rfl HR.out
 ·have hl:f.len=2:=by simp[docF] at hd;omega
  have HZ2:Hid (Z=anD (musDL cells f (some (s.1+1,s.2)) 1 ar wi) 1):=HZ.out.trans (knd_all 1 1 hd hs2 hwi (fun h=>absurd h (by decide)) (by decide) (by decide) (fun kd hk=>by rw[hl];rfl) (by decide) (by decide));have c1:=fun k=>all_d IH ⟨k,n,nm,a,f⟩ ao cap wb kb bv cells ar wi 1 1 (some (s.1+1,s.2)) w2 (by simp only;omega) ⟨hf.nm,hf.len,hf.sh⟩ hwi har hne (by decide) W2 N2 S2;simp only[exN_out] at c1;clear HZ BADS hd hl;go_wp2_with fail;refine(c1 _).mono ?_;rintro z w3 ⟨rfl,W3,K3⟩;have HR:Hid (PostKD w wb kb bv cells.length Z (.returned (.int .i64 1)) w3):=postKD HZ2.out W3 (K2.trans K3);clear c1 W3 K3 HZ2 p0 p1 p2 p3 pf q0 q1 q2 q3 qf W2 N2 S2 K2 E2;go_wp2;exact bodyPost_ret (v:=.int .i64 1) (by simp[results,Tryd.results21,go_sem]) rfl HR.out
 ·have hl:f.len=2:=by simp[docF] at hd;omega
  have HZ2:Hid (Z=anD (musDL cells f (some (s.1+1,s.2)) 1 ar wi) 1):=HZ.out.trans (knd_all 1 1 hd hs2 hwi (fun h=>absurd h (by decide)) (by decide) (by decide) (fun kd hk=>by rw[hl];rfl) (by decide) (by decide));have c1:=fun k=>all_d IH ⟨k,n,nm,a,f⟩ ao cap wb kb bv cells ar wi 1 1 (some (s.1+1,s.2)) w2 (by simp only;omega) ⟨hf.nm,hf.len,hf.sh⟩ hwi har hne (by decide) W2 N2 S2;simp only[exN_out] at c1;clear HZ BADS hd hl;go_wp2_with fail;refine(c1 _).mono ?_;rintro z w3 ⟨rfl,W3,K3⟩;have HR:Hid (PostKD w wb kb bv cells.length Z (.returned (.int .i64 1)) w3):=postKD HZ2.out W3 (K2.trans K3);clear c1 W3 K3 HZ2 p0 p1 p2 p3 pf q0 q1 q2 q3 qf W2 N2 S2 K2 E2;go_wp2;exact bodyPost_ret (v:=.int .i64 1) (by simp[results,Tryd.results21,go_sem]) rfl HR.out
 ·have hl:f.len=2:=by simp[docF] at hd;omega
  have HZ2:Hid (Z=anD (musDL cells f (some (s.1+1,s.2)) 1 ar wi) 1):=HZ.out.trans (knd_all 1 1 hd hs2 hwi (fun h=>absurd h (by decide)) (by decide) (by decide) (fun kd hk=>by rw[hl];rfl) (by decide) (by decide));have c1:=fun k=>all_d IH ⟨k,n,nm,a,f⟩ ao cap wb kb bv cells ar wi 1 1 (some (s.1+1,s.2)) w2 (by simp only;omega) ⟨hf.nm,hf.len,hf.sh⟩ hwi har hne (by decide) W2 N2 S2;simp only[exN_out] at c1;clear HZ BADS hd hl;go_wp2_with fail;refine(c1 _).mono ?_;rintro z w3 ⟨rfl,W3,K3⟩;have HR:Hid (PostKD w wb kb bv cells.length Z (.returned (.int .i64 1)) w3):=postKD HZ2.out W3 (K2.trans K3);clear c1 W3 K3 HZ2 p0 p1 p2 p3 pf q0 q1 q2 q3 qf W2 N2 S2 K2 E2;go_wp2;exact bodyPost_ret (v:=.int .i64 1) (by simp[results,Tryd.results21,go_sem]) rfl HR.out
 ·have hl:f.len=2:=by simp[docF] at hd;omega
  have HZ2:Hid (Z=anD (musDL cells f (some (s.1+1,s.2)) 1 ar wi) 1):=HZ.out.trans (knd_all 1 1 hd hs2 hwi (fun h=>absurd h (by decide)) (by decide) (by decide) (fun kd hk=>by rw[hl];rfl) (by decide) (by decide));have c1:=fun k=>all_d IH ⟨k,n,nm,a,f⟩ ao cap wb kb bv cells ar wi 1 1 (some (s.1+1,s.2)) w2 (by simp only;omega) ⟨hf.nm,hf.len,hf.sh⟩ hwi har hne (by decide) W2 N2 S2;simp only[exN_out] at c1;clear HZ BADS hd hl;go_wp2_with fail;refine(c1 _).mono ?_;rintro z w3 ⟨rfl,W3,K3⟩;have HR:Hid (PostKD w wb kb bv cells.length Z (.returned (.int .i64 1)) w3):=postKD HZ2.out W3 (K2.trans K3);clear c1 W3 K3 HZ2 p0 p1 p2 p3 pf q0 q1 q2 q3 qf W2 N2 S2 K2 E2;go_wp2;exact bodyPost_ret (v:=.int .i64 1) (by simp[results,Tryd.results21,go_sem]) rfl HR.out
 ·have hl:f.len=2:=by simp[docF] at hd;omega
  have HZ2:Hid (Z=anD (musDL cells f (some (s.1+1,s.2)) 1 ar wi) 1):=HZ.out.trans (knd_all 1 1 hd hs2 hwi (fun h=>absurd h (by decide)) (by decide) (by decide) (fun kd hk=>by rw[hl];rfl) (by decide) (by decide));have c1:=fun k=>all_d IH ⟨k,n,nm,a,f⟩ ao cap wb kb bv cells ar wi 1 1 (some (s.1+1,s.2)) w2 (by simp only;omega) ⟨hf.nm,hf.len,hf.sh⟩ hwi har hne (by decide) W2 N2 S2;simp only[exN_out] at c1;clear HZ BADS hd hl;go_wp2_with fail;refine(c1 _).mono ?_;rintro z w3 ⟨rfl,W3,K3⟩;have HR:Hid (PostKD w wb kb bv cells.length Z (.returned (.int .i64 1)) w3):=postKD HZ2.out W3 (K2.trans K3);clear c1 W3 K3 HZ2 p0 p1 p2 p3 pf q0 q1 q2 q3 qf W2 N2 S2 K2 E2;go_wp2;exact bodyPost_ret (v:=.int .i64 1) (by simp[results,Tryd.results21,go_sem]) rfl HR.out
 ·have hl:f.len=2:=by simp[docF] at hd;omega
  obtain⟨x,y,rfl⟩:=len2 hl;have HZ2:Hid (Z=(match kndD cells x ar wi (s.1+1,s.2) with|none=>none|some (s1,k0)=>anD (musD cells (some s1) k0 y ar wi) 2)):=HZ.out.trans (knd_alike (by decide) hd hs2 hwi);have hfx:FitN x:=FitN.kid (e:=⟨13,n,nm,a,Fs.ex x (Fs.ex y .nil)⟩) (d:=.nil) ⟨hf.nm,hf.len,hf.sh⟩ rfl;have hfy:FitN y:=FitN.kid (e:=⟨13,n,nm,a,Fs.ex x (Fs.ex y .nil)⟩) (d:=Fs.ex x .nil) ⟨hf.nm,hf.len,hf.sh⟩ rfl;have hsz:x.kids.size+(y.kids.size+0+1)+1<N+1:=hN;rw[hl] at p3 E2;obtain⟨gb0,off0,ak,ck,hao,x0,x1,x2,x3,SK⟩:=SlN.kidP (x:=.nil) (r:=Fs.ex y .nil) (y:=x) S2 0 rfl;subst hao;simp only[Nat.zero_mul,Nat.add_zero] at x0 x1 x2 x3;have c1:=kind_any IH x ak ck wb kb bv cells ar wi (some (s.1+1,s.2)) w2 (by omega) hfx hwi har hne W2 N2 SK;rw[exN_out] at c1;simp only[hl];clear HZ BADS hd;go_wp2_with fail;refine c1.mono ?_;rintro z w3 ⟨⟨k',rfl,hk'⟩,W3,K3⟩;have E3:=(K3.block _ (lt_of_block E2) hb1 hb2).trans E2;have S3:=S2.kp K3;have N3:=N2.kp K3;have KK3:=K2.trans K3;clear c1 p0 p1 p2 p3 pf q0 q1 q2 q3 qf x0 x1 x2 x3 SK S2 W2 N2 E2 K2 K3;obtain⟨p0,p1,p2,p3,pf⟩:=box4 E3;have HZ3:Hid (Z=anD (musD cells ((kndA cells (some (s.1+1,s.2)) x ar wi).map (·.1)) k' y ar wi) 2):=by
   show Z=_;rw[HZ2.out];simp only[kndA];cases hc:kndD cells x ar wi (s.1+1,s.2) with
   | none=>rfl
   | some u=>obtain⟨s1,k1⟩:=u;rw[hk' s1 k1 (by simp only[kndA];exact hc)];rfl
  have hm:(kndA cells (some (s.1+1,s.2)) x ar wi).map (·.1)≠none->k'≠4:=by
   intro h;cases hc:kndA cells (some (s.1+1,s.2)) x ar wi with
   | none=>rw[hc] at h;exact absurd rfl h
   | some u=>obtain⟨s1,k1⟩:=u;rw[hk' s1 k1 hc];exact kndA_pos hc
  clear HZ2 hk';generalize (kndA cells (some (s.1+1,s.2)) x ar wi).map (·.1)=st1 at *;obtain⟨gb1,off1,ak,ck,hao,x0,x1,x2,x3,SK⟩:=SlN.kidP (x:=Fs.ex x .nil) (r:=.nil) (y:=y) S3 1 rfl;injection hao with hao
  injection hao with h1 h2
  subst h1;subst h2;simp only[Nat.one_mul] at x0 x1 x2 x3;have c2:=must_d IH y ak ck wb kb bv cells ar wi k' st1 w3 (fun _=>by omega) hfy hwi har hne hm W3 N3 SK;rw[exN_out] at c2;go_wp2_with fail;refine c2.mono ?_;rintro z w4 ⟨rfl,W4,K4⟩;have HR:Hid (PostKD w wb kb bv cells.length Z (.returned (.int .i64 2)) w4):=postKD HZ3.out W4 (KK3.trans K4);clear c2 W4 K4 HZ3 p0 p1 p2 p3 pf x0 x1 x2 x3 SK S3 W3 N3 E3 KK3;go_wp2;exact bodyPost_ret (v:=.int .i64 2) (by simp[results,Tryd.results21,go_sem]) rfl HR.out
 ·have hl:f.len=2:=by simp[docF] at hd;omega
  obtain⟨x,y,rfl⟩:=len2 hl;have HZ2:Hid (Z=(match kndD cells x ar wi (s.1+1,s.2) with|none=>none|some (s1,k0)=>anD (musD cells (some s1) k0 y ar wi) 2)):=HZ.out.trans (knd_alike (by decide) hd hs2 hwi);have hfx:FitN x:=FitN.kid (e:=⟨13,n,nm,a,Fs.ex x (Fs.ex y .nil)⟩) (d:=.nil) ⟨hf.nm,hf.len,hf.sh⟩ rfl;have hfy:FitN y:=FitN.kid (e:=⟨13,n,nm,a,Fs.ex x (Fs.ex y .nil)⟩) (d:=Fs.ex x .nil) ⟨hf.nm,hf.len,hf.sh⟩ rfl;have hsz:x.kids.size+(y.kids.size+0+1)+1<N+1:=hN;rw[hl] at p3 E2;obtain⟨gb0,off0,ak,ck,hao,x0,x1,x2,x3,SK⟩:=SlN.kidP (x:=.nil) (r:=Fs.ex y .nil) (y:=x) S2 0 rfl;subst hao;simp only[Nat.zero_mul,Nat.add_zero] at x0 x1 x2 x3;have c1:=kind_any IH x ak ck wb kb bv cells ar wi (some (s.1+1,s.2)) w2 (by omega) hfx hwi har hne W2 N2 SK;rw[exN_out] at c1;simp only[hl];clear HZ BADS hd;go_wp2_with fail;refine c1.mono ?_;rintro z w3 ⟨⟨k',rfl,hk'⟩,W3,K3⟩;have E3:=(K3.block _ (lt_of_block E2) hb1 hb2).trans E2;have S3:=S2.kp K3;have N3:=N2.kp K3;have KK3:=K2.trans K3;clear c1 p0 p1 p2 p3 pf q0 q1 q2 q3 qf x0 x1 x2 x3 SK S2 W2 N2 E2 K2 K3;obtain⟨p0,p1,p2,p3,pf⟩:=box4 E3;have HZ3:Hid (Z=anD (musD cells ((kndA cells (some (s.1+1,s.2)) x ar wi).map (·.1)) k' y ar wi) 2):=by
   show Z=_;rw[HZ2.out];simp only[kndA];cases hc:kndD cells x ar wi (s.1+1,s.2) with
   | none=>rfl
   | some u=>obtain⟨s1,k1⟩:=u;rw[hk' s1 k1 (by simp only[kndA];exact hc)];rfl
  have hm:(kndA cells (some (s.1+1,s.2)) x ar wi).map (·.1)≠none->k'≠4:=by
   intro h;cases hc:kndA cells (some (s.1+1,s.2)) x ar wi with
   | none=>rw[hc] at h;exact absurd rfl h
   | some u=>obtain⟨s1,k1⟩:=u;rw[hk' s1 k1 hc];exact kndA_pos hc
  clear HZ2 hk';generalize (kndA cells (some (s.1+1,s.2)) x ar wi).map (·.1)=st1 at *;obtain⟨gb1,off1,ak,ck,hao,x0,x1,x2,x3,SK⟩:=SlN.kidP (x:=Fs.ex x .nil) (r:=.nil) (y:=y) S3 1 rfl;injection hao with hao
  injection hao with h1 h2
  subst h1;subst h2;simp only[Nat.one_mul] at x0 x1 x2 x3;have c2:=must_d IH y ak ck wb kb bv cells ar wi k' st1 w3 (fun _=>by omega) hfy hwi har hne hm W3 N3 SK;rw[exN_out] at c2;go_wp2_with fail;refine c2.mono ?_;rintro z w4 ⟨rfl,W4,K4⟩;have HR:Hid (PostKD w wb kb bv cells.length Z (.returned (.int .i64 2)) w4):=postKD HZ3.out W4 (KK3.trans K4);clear c2 W4 K4 HZ3 p0 p1 p2 p3 pf x0 x1 x2 x3 SK S3 W3 N3 E3 KK3;go_wp2;exact bodyPost_ret (v:=.int .i64 2) (by simp[results,Tryd.results21,go_sem]) rfl HR.out
 ·have hl:f.len=2:=by simp[docF] at hd;omega
  have HZ2:Hid (Z=anD (musDL cells f (some (s.1+1,s.2)) 1 ar wi) 2):=HZ.out.trans (knd_all 1 2 hd hs2 hwi (fun h=>absurd h (by decide)) (by decide) (by decide) (fun kd hk=>by rw[hl];rfl) (by decide) (by decide));have c1:=fun k=>all_d IH ⟨k,n,nm,a,f⟩ ao cap wb kb bv cells ar wi 1 2 (some (s.1+1,s.2)) w2 (by simp only;omega) ⟨hf.nm,hf.len,hf.sh⟩ hwi har hne (by decide) W2 N2 S2;simp only[exN_out] at c1;clear HZ BADS hd hl;go_wp2_with fail;refine(c1 _).mono ?_;rintro z w3 ⟨rfl,W3,K3⟩;have HR:Hid (PostKD w wb kb bv cells.length Z (.returned (.int .i64 2)) w3):=postKD HZ2.out W3 (K2.trans K3);clear c1 W3 K3 HZ2 p0 p1 p2 p3 pf q0 q1 q2 q3 qf W2 N2 S2 K2 E2;go_wp2;exact bodyPost_ret (v:=.int .i64 2) (by simp[results,Tryd.results21,go_sem]) rfl HR.out
 ·have hl:f.len=2:=by simp[docF] at hd;omega
  have HZ2:Hid (Z=anD (musDL cells f (some (s.1+1,s.2)) 1 ar wi) 2):=HZ.out.trans (knd_all 1 2 hd hs2 hwi (fun h=>absurd h (by decide)) (by decide) (by decide) (fun kd hk=>by rw[hl];rfl) (by decide) (by decide));have c1:=fun k=>all_d IH ⟨k,n,nm,a,f⟩ ao cap wb kb bv cells ar wi 1 2 (some (s.1+1,s.2)) w2 (by simp only;omega) ⟨hf.nm,hf.len,hf.sh⟩ hwi har hne (by decide) W2 N2 S2;simp only[exN_out] at c1;clear HZ BADS hd hl;go_wp2_with fail;refine(c1 _).mono ?_;rintro z w3 ⟨rfl,W3,K3⟩;have HR:Hid (PostKD w wb kb bv cells.length Z (.returned (.int .i64 2)) w3):=postKD HZ2.out W3 (K2.trans K3);clear c1 W3 K3 HZ2 p0 p1 p2 p3 pf q0 q1 q2 q3 qf W2 N2 S2 K2 E2;go_wp2;exact bodyPost_ret (v:=.int .i64 2) (by simp[results,Tryd.results21,go_sem]) rfl HR.out
 ·have hl:f.len=2:=by simp[docF] at hd;omega
  have HZ2:Hid (Z=anD (musDL cells f (some (s.1+1,s.2)) 2 ar wi) 2):=HZ.out.trans (knd_all 2 2 hd hs2 hwi (fun h=>absurd h (by decide)) (by decide) (by decide) (fun kd hk=>by rw[hl];rfl) (by decide) (by decide));have c1:=fun k=>all_d IH ⟨k,n,nm,a,f⟩ ao cap wb kb bv cells ar wi 2 2 (some (s.1+1,s.2)) w2 (by simp only;omega) ⟨hf.nm,hf.len,hf.sh⟩ hwi har hne (by decide) W2 N2 S2;simp only[exN_out] at c1;clear HZ BADS hd hl;go_wp2_with fail;refine(c1 _).mono ?_;rintro z w3 ⟨rfl,W3,K3⟩;have HR:Hid (PostKD w wb kb bv cells.length Z (.returned (.int .i64 2)) w3):=postKD HZ2.out W3 (K2.trans K3);clear c1 W3 K3 HZ2 p0 p1 p2 p3 pf q0 q1 q2 q3 qf W2 N2 S2 K2 E2;go_wp2;exact bodyPost_ret (v:=.int .i64 2) (by simp[results,Tryd.results21,go_sem]) rfl HR.out
 ·have hl:f.len=2:=by simp[docF] at hd;omega
  have HZ2:Hid (Z=anD (musDL cells f (some (s.1+1,s.2)) 2 ar wi) 2):=HZ.out.trans (knd_all 2 2 hd hs2 hwi (fun h=>absurd h (by decide)) (by decide) (by decide) (fun kd hk=>by rw[hl];rfl) (by decide) (by decide));have c1:=fun k=>all_d IH ⟨k,n,nm,a,f⟩ ao cap wb kb bv cells ar wi 2 2 (some (s.1+1,s.2)) w2 (by simp only;omega) ⟨hf.nm,hf.len,hf.sh⟩ hwi har hne (by decide) W2 N2 S2;simp only[exN_out] at c1;clear HZ BADS hd hl;go_wp2_with fail;refine(c1 _).mono ?_;rintro z w3 ⟨rfl,W3,K3⟩;have HR:Hid (PostKD w wb kb bv cells.length Z (.returned (.int .i64 2)) w3):=postKD HZ2.out W3 (K2.trans K3);clear c1 W3 K3 HZ2 p0 p1 p2 p3 pf q0 q1 q2 q3 qf W2 N2 S2 K2 E2;go_wp2;exact bodyPost_ret (v:=.int .i64 2) (by simp[results,Tryd.results21,go_sem]) rfl HR.out
 ·have hl:f.len=3:=by simp[docF] at hd;omega
  obtain⟨x,y,u,rfl⟩:=len3 hl;have HZ2:Hid (Z=(match musD cells (some (s.1+1,s.2)) 2 x ar wi with|none=>none|some s0=>match kndD cells y ar wi s0 with|none=>none|some (s1,k0)=>anD (musD cells (some s1) k0 u ar wi) k0)):=HZ.out.trans (knd_choice hd hs2 hwi);have hfx:FitN x:=FitN.kid (e:=⟨13,n,nm,a,Fs.ex x (Fs.ex y (Fs.ex u .nil))⟩) (d:=.nil) ⟨hf.nm,hf.len,hf.sh⟩ rfl;have hfy:FitN y:=FitN.kid (e:=⟨13,n,nm,a,Fs.ex x (Fs.ex y (Fs.ex u .nil))⟩) (d:=Fs.ex x .nil) ⟨hf.nm,hf.len,hf.sh⟩ rfl;have hfu:FitN u:=FitN.kid (e:=⟨13,n,nm,a,Fs.ex x (Fs.ex y (Fs.ex u .nil))⟩) (d:=Fs.ex x (Fs.ex y .nil)) ⟨hf.nm,hf.len,hf.sh⟩ rfl;have hsz:x.kids.size+(y.kids.size+(u.kids.size+0+1)+1)+1<N+1:=hN;rw[hl] at p3 E2;obtain⟨gb0,off0,ak,ck,hao,x0,x1,x2,x3,SK⟩:=SlN.kidP (x:=.nil) (r:=Fs.ex y (Fs.ex u .nil)) (y:=x) S2 0 rfl;subst hao;simp only[Nat.zero_mul,Nat.add_zero] at x0 x1 x2 x3;have c1:=must_d IH x ak ck wb kb bv cells ar wi 2 (some (s.1+1,s.2)) w2 (fun _=>by omega) hfx hwi har hne (fun _=>by decide) W2 N2 SK;rw[exN_out] at c1;simp only[hl];clear HZ BADS hd;go_wp2_with fail;refine c1.mono ?_;rintro z w3 ⟨rfl,W3,K3⟩;have E3:=(K3.block _ (lt_of_block E2) hb1 hb2).trans E2;have S3:=S2.kp K3;have N3:=N2.kp K3;have KK3:=K2.trans K3;clear c1 p0 p1 p2 p3 pf q0 q1 q2 q3 qf x0 x1 x2 x3 SK S2 W2 N2 E2 K2 K3;obtain⟨p0,p1,p2,p3,pf⟩:=box4 E3;generalize musD cells (some (s.1+1,s.2)) 2 x ar wi=st0 at *;obtain⟨gb1,off1,ak,ck,hao,x0,x1,x2,x3,SK⟩:=SlN.kidP (x:=Fs.ex x .nil) (r:=Fs.ex u .nil) (y:=y) S3 1 rfl;injection hao with hao
  injection hao with h1 h2
  subst h1;subst h2;simp only[Nat.one_mul] at x0 x1 x2 x3;have c2:=kind_any IH y ak ck wb kb bv cells ar wi st0 w3 (by omega) hfy hwi har hne W3 N3 SK;rw[exN_out] at c2;go_wp2_with fail;refine c2.mono ?_;rintro z w4 ⟨⟨k',rfl,hk'⟩,W4,K4⟩;have E4:=(K4.block _ (lt_of_block E3) hb1 hb2).trans E3;have S4:=S3.kp K4;have N4:=N3.kp K4;have KK4:=KK3.trans K4;clear c2 p0 p1 p2 p3 pf x0 x1 x2 x3 SK S3 W3 N3 E3 KK3 K4;obtain⟨p0,p1,p2,p3,pf⟩:=box4 E4;have HZ3:Hid (Z=anD (musD cells ((kndA cells st0 y ar wi).map (·.1)) k' u ar wi) k'):=by
   show Z=_;rw[HZ2.out];cases st0 with
   | none=>rfl
   | some s0 =>
    simp only[kndA];cases hc:kndD cells y ar wi s0 with
    | none=>rfl
    | some v=>obtain⟨s1,k1⟩:=v;rw[hk' s1 k1 (by simp only[kndA];exact hc)];rfl
  have hm:(kndA cells st0 y ar wi).map (·.1)≠none->k'≠4:=by
   intro h;cases hc:kndA cells st0 y ar wi with
   | none=>rw[hc] at h;exact absurd rfl h
   | some v=>obtain⟨s1,k1⟩:=v;rw[hk' s1 k1 hc];exact kndA_pos hc
  clear HZ2 hk';generalize (kndA cells st0 y ar wi).map (·.1)=st1 at *;obtain⟨gb2,off2,ak,ck,hao,x0,x1,x2,x3,SK⟩:=SlN.kidP (x:=Fs.ex x (Fs.ex y .nil)) (r:=.nil) (y:=u) S4 2 rfl;injection hao with hao
  injection hao with h1 h2
  subst h1;subst h2;have c3:=must_d IH u ak ck wb kb bv cells ar wi k' st1 w4 (fun _=>by omega) hfu hwi har hne hm W4 N4 SK;rw[exN_out] at c3;go_wp2_with fail;refine c3.mono ?_;rintro z w5 ⟨rfl,W5,K5⟩;have HR:Hid (PostKD w wb kb bv cells.length Z (.returned (.int .i64 k')) w5):=postKD HZ3.out W5 (KK4.trans K5);clear c3 W5 K5 HZ3 p0 p1 p2 p3 pf x0 x1 x2 x3 SK S4 W4 N4 E4 KK4;go_wp2;exact bodyPost_ret (v:=.int .i64 k') (by simp[results,Tryd.results21,go_sem]) rfl HR.out
 ·have hl:f.len=1\/f.len=2:=by simp[docF] at hd;omega
  have HZ2:Hid (Z=anD (musDL cells f (some (s.1+1,s.2)) 3 ar wi) (giveT n)):=HZ.out.trans (knd_all 3 (giveT n) hd hs2 hwi (fun h=>absurd h (by decide)) (by decide) (by decide) (fun kd hk=>by
   have hn10:(1<=n/\n<=3/\f.len=2)\/(4<=n/\n<=10/\f.len=1):=by simp[docF] at hd;omega
   rcases hn10 with ⟨h1,h2,h3⟩|⟨h1,h2,h3⟩
   ·rw[h3]
    have:n=1\/n=2\/n=3:=by omega
    rcases this with rfl|rfl|rfl<;>rfl
   ·rw[h3]
    have:n=4\/n=5\/n=6\/n=7\/n=8\/n=9\/n=10:=by omega
    rcases this with rfl|rfl|rfl|rfl|rfl|rfl|rfl<;>rfl) (by unfold giveT;split;decide;split<;>decide) (by unfold giveT;split;decide;split<;>decide))
  have bdT:Below w2.heap.size w2 w2.drew:=⟨rfl,rfl,rfl,Nat.le_refl _,fun _ _=>rfl⟩
  have c1:=all_d IH ⟨20,n,nm,a,f⟩ ao cap wb kb bv cells ar wi 3 (giveT n) (some (s.1+1,s.2)) w2.drew (by simp only;omega) ⟨hf.nm,hf.len,hf.sh⟩ hwi har hne (by decide) (W2.below bdT) (N2.below bdT) (S2.belowP bdT);rw[exN_out] at c1;simp only at c1;have hgq:=fun wy=>gives_q n wy;generalize giveT n=gv at *;have hbl:=lt_of_block E2;clear HZ BADS hd W2 N2 S2 hl;go_wp2_with fail;go_region_held3 (fun wx=>wx.cell? ⟨bx,0,none⟩=some (.int .i64 20)/\wx.cell? ⟨bx,1,none⟩=some (.int .i64 n)/\wx.cell? ⟨bx,2,none⟩=some (stv nm)/\wx.cell? ⟨bx,3,none⟩=some (.slice ao f.len cap))
   (first|exact KA|go_keep)
   (first
    | (go_at_call 45;refine(hgq _).mono ?_;rintro z w3 ⟨rfl,rfl⟩)
    | (go_at_call 43;refine c1.mono ?_;rintro z w3 ⟨rfl,W3,K3⟩;have KA:w3.cell? ⟨bx,0,none⟩=some (.int .i64 20)/\w3.cell? ⟨bx,1,none⟩=some (.int .i64 n)/\w3.cell? ⟨bx,2,none⟩=some (stv nm)/\w3.cell? ⟨bx,3,none⟩=some (.slice ao f.len cap):=⟨(K3.cell hbl hb1 hb2 _).trans p0,(K3.cell hbl hb1 hb2 _).trans p1,(K3.cell hbl hb1 hb2 _).trans p2,(K3.cell hbl hb1 hb2 _).trans p3⟩))
  all_goals (
   have HR:Hid (PostKD w wb kb bv cells.length Z (.returned (.int .i64 gv)) w3):=postKD HZ2.out W3 (K2.trans (Kp.bel bdT K3));clear KA W3 K3 c1 hgq p0 p1 p2 p3 pf q0 q1 q2 q3 qf E2 K2 HZ2;go_wp2;exact bodyPost_ret (v:=.int .i64 gv) (by simp[results,Tryd.results21,go_sem]) rfl HR.out)
 ·have hl:f.len=2:=by simp[docF] at hd;omega
  obtain⟨x,y,rfl⟩:=len2 hl;have HZ2:Hid (Z=_):=HZ.out.trans (knd_quant hd hs2 hwi);have c1:=fun k=>quant_d IH ⟨k,n,nm,a,Fs.ex x (Fs.ex y .nil)⟩ x y ao cap wb kb bv cells ar wi (s.1+1,s.2) w2 rfl (by simp only;omega) ⟨hf.nm,hf.len,hf.sh⟩ hwi har hne W2 N2 S2;simp only[exN_out] at c1;clear HZ BADS hd hl;simp only[<-HZ2.out] at c1;go_wp2_with fail;refine(c1 _).mono ?_;rintro z w3 ⟨⟨k',rfl,hk'⟩,W3,K3⟩;have HR:Hid (PostKD w wb kb bv cells.length Z (.returned (.int .i64 k')) w3):=⟨⟨k',rfl,hk'⟩,W3,K2.trans K3⟩
  clear c1 W3 K3 hk' HZ2 p0 p1 p2 p3 pf q0 q1 q2 q3 qf W2 N2 S2 K2 E2;go_wp2;exact bodyPost_ret (v:=.int .i64 k') (by simp[results,Tryd.results21,go_sem]) rfl HR.out
 ·have HR:=BADS 0 (by rw[HZ.out];exact knd_set (by decide));clear HZ BADS W2 N2 S2 K2 E2 hd;go_wp2;exact bodyPost_ret (v:=.int .i64 0) (by simp[results,Tryd.results21,go_sem]) rfl HR.out
 ·have HR:=BADS 0 (by rw[HZ.out];exact knd_set (by decide));clear HZ BADS W2 N2 S2 K2 E2 hd;go_wp2;exact bodyPost_ret (v:=.int .i64 0) (by simp[results,Tryd.results21,go_sem]) rfl HR.out
 ·have HR:=BADS 0 (by rw[HZ.out];exact knd_set (by decide));clear HZ BADS W2 N2 S2 K2 E2 hd;go_wp2;exact bodyPost_ret (v:=.int .i64 0) (by simp[results,Tryd.results21,go_sem]) rfl HR.out
 ·have HR:=BADS 0 (by rw[HZ.out];exact knd_set (by decide));clear HZ BADS W2 N2 S2 K2 E2 hd;go_wp2;exact bodyPost_ret (v:=.int .i64 0) (by simp[results,Tryd.results21,go_sem]) rfl HR.out
 ·have hl:f.len=1:=by simp[docF] at hd;omega
  obtain⟨x,rfl⟩:=len1 hl;have HZ2:Hid (Z=celD cells n x ar wi (s.1+1,s.2)):=HZ.out.trans (knd_cell hd hs2 hwi);have hfx:FitN x:=FitN.kid (e:=⟨26,n,nm,a,Fs.ex x .nil⟩) (d:=.nil) ⟨hf.nm,hf.len,hf.sh⟩ rfl;have hsz:x.kids.size+0+1<N+1:=hN;have c1:=cell_d IH 26 n nm a x ao cap wb kb bv cells ar wi (s.1+1,s.2) w2 (by omega) hfx hwi har hne W2 N2 S2;rw[<-HZ2.out] at c1;simp only[hl] at p3 E2 ⊢;clear HZ BADS hd;go_wp2_with fail;refine c1.mono ?_;rintro z w3 ⟨⟨k',rfl,hk'⟩,W3,K3⟩;have HR:Hid (PostKD w wb kb bv cells.length Z (.returned (.int .i64 k')) w3):=⟨⟨k',rfl,hk'⟩,W3,K2.trans K3⟩
  clear c1 W3 K3 hk' HZ2 p0 p1 p2 p3 pf q0 q1 q2 q3 qf W2 N2 S2 K2 E2;go_wp2;exact bodyPost_ret (v:=.int .i64 k') (by simp[results,Tryd.results21,go_sem]) rfl HR.out
theorem kindd_ok:∀ N,KindD N -- 21
 | 0=>fun e ao cap wb kb bv cells ar wi s w h=>absurd h (Nat.not_lt_zero _)
 | N+1=>kindd_step (kindd_ok N)
theorem infoNodes:(Tryd.prog.info? 22).map (fun i=>(i.zero,i.size,i.bytes))=some (some (.slice none 0 0),1,24):=by kernel_rfl
theorem made_nils (n:Nat):(madeCells (Value.slice none 0 0).cells (n*1)).size=n/\∀ i,i<n->(madeCells (Value.slice none 0 0).cells (n*1))[i]?=some (.slice none 0 0):=by
 constructor
 ·simp[madeCells,Value.cells]
 ·intro i hi;simp[madeCells,Value.cells,hi,Nat.mod_one]
theorem kind14_c (e:Ex)(ao:Option Addr)(cap:Nat)(cv:Value)(cells:List Int)(w:World)(hf:FitN e)(hc:InA w cv cells)(hcl:cells.length<=1000000000)(S:SnA w e.kids ao) :
  Calls Tryd.prog 8 #[plV e ao cap cv] w fun x w'=>x=.returned (.int .i64 (kindP cells e))/\Below w.heap.size w w':=by
 obtain⟨W,hZ⟩:∃W,W=kindP cells e:=⟨_,rfl⟩
 rw[<-hZ];have HW:Hid (W=kindP cells e):=hZ;clear hZ;obtain⟨ii,hii,hzi0,hzi1,hzi2⟩:=info_parts infoNodes;obtain⟨ac,cc,hcv,hcx⟩:=hc;have hc:InA w cv cells:=⟨ac,cc,hcv,hcx⟩
 subst hcv;clear hcx;have B0:Below w.heap.size w (w.alloc (.cells #[.int .i64 e.k,.int .i64 e.n,stv e.nm,.slice ao e.kids.len cap,.slice ac cells.length cc] 27)):=(Below.refl _ w).alloc (Nat.le_refl _) _;have E0:(w.alloc (.cells #[.int .i64 e.k,.int .i64 e.n,stv e.nm,.slice ao e.kids.len cap,.slice ac cells.length cc] 27)).heap[w.heap.size]?=some (.cells #[.int .i64 e.k,.int .i64 e.n,stv e.nm,.slice ao e.kids.len cap,.slice ac cells.length cc] 27):=heap_alloc_new w _;have S0:=SnA.below S B0;have I0:=hc.below B0;clear S hc;rw[plV_out];go_enter Tryd.func8,Tryd.ntmps8;go_upto_region 1 with fail;generalize w.alloc (.cells #[.int .i64 e.k,.int .i64 e.n,stv e.nm,.slice ao e.kids.len cap,.slice ac cells.length cc] 27)=w0 at *;obtain⟨n0,hn0⟩:∃n0,n0=w.heap.size:=⟨_,rfl⟩
 rw[<-hn0] at E0 B0 ⊢;have HN:Hid (n0=w.heap.size):=hn0;clear hn0;obtain⟨p0,p1,p2,p3,p4,pf⟩:=box5 E0;by_cases h256:256<cells.length
 ·have hI:(256:Int)<(cells.length:Int):=by omega
  have HZ:Hid (W=0):=by show W=_;rw[HW.out,kindP_big h256]
  clear HW S0 I0 E0;go_wp2;go_ret;rw[HZ.out];exact⟨rfl,by rw[<-HN.out];exact B0⟩
 have hI:¬(256:Int)<(cells.length:Int):=by omega
 obtain⟨ac',cc',he,hcell⟩:=I0;have I0:InA w0 (.slice ac cells.length cc) cells:=⟨ac',cc',he,hcell⟩
 injection he with he1 he2 he3
 subst he1;subst he3;clear he2;go_wp2;go_loopw [3] (fun v wr=>∃k:Nat,k<=cells.length/\v=.int .i64 (k:Nat)/\Hid (∀ j c,j<k->cells[j]?=some c->nlB c=false)/\wr=w0) (fun v _=>cells.length-(intOf v).toNat)
 case atStart=>exact⟨0,by omega,by go_num,fun j c hj=>absurd hj (Nat.not_lt_zero _),rfl⟩
 case round =>
  obtain⟨k,hk,rfl,hno,rfl⟩:=hrel;by_cases hlt:k<cells.length
  ·have hx1:cells[k]?=some cells[k]:=List.getElem?_eq_getElem hlt;rcases hcell with rfl|⟨g1,o1,rfl,-,hg1,hc1⟩
   ·simp at hlt
   have x1:=hc1 k _ hx1;generalize cells[k]=x at x1 hx1;have hkI:(k:Int)<(cells.length:Int):=by omega
   have HX:Hid (cells[k]?=some x):=hx1;clear hx1 hc1;have BADZ:nlB x=true->Hid (W=0):=by
    intro hb;show W=0;rw[HW.out,kindP_nl (List.any_eq_true.2 ⟨x,List.mem_of_getElem? HX.out,hb⟩)]
   by_cases h0:x<0
   ·have HZ:=BADZ (by simp[nlB];omega);clear HW hno HX BADZ I0 S0 E0;go_wp2;go_ret;rw[HZ.out];exact⟨rfl,by rw[<-HN.out];exact B0⟩
   by_cases h4:4<x
   ·have HZ:=BADZ (by simp[nlB];omega);clear HW hno HX BADZ I0 S0 E0;go_wp2;go_ret;rw[HZ.out];exact⟨rfl,by rw[<-HN.out];exact B0⟩
   have hn2:Hid (∀ j c,j<k+1->cells[j]?=some c->nlB c=false):=by
    intro j c hj hc;rcases Nat.lt_succ_iff_lt_or_eq.1 hj with h3|rfl
    ·exact hno.out j c h3 hc
    ·rw[HX.out] at hc;injection hc with hc
     rw[<-hc];simp[nlB];omega
   clear HW hno HX BADZ I0 S0 E0;go_wp2;go_roundw
   case rel=>exact⟨k+1,by omega,by go_num,hn2,trivial⟩
   case measure=>simp[intOf];omega
  ·have hkI:¬(k:Int)<(cells.length:Int):=by omega
   have hnl:cells.any nlB=false:=by
    rw[List.any_eq_false];intro c hc;obtain⟨j,hj,h2⟩:=List.mem_iff_getElem.1 hc
    have:=hno.out j c (by omega) (by rw[List.getElem?_eq_getElem hj,h2])
    simp[this]
   have HW2:Hid (W=(match kndD cells e 0 0 (0,fun _=>none) with|none=>0|some (_,k)=>k)):=by show W=_;rw[HW.out,kindP_knd (by omega) (nl_false hnl)];rfl
   clear HW hno hcell hnl;have mk:∀ w:World,(Instr.makeSlice 68 (.int .i64 (cells.length:Nat)) (.int .i64 (cells.length:Nat))).run Tryd.prog w=.ok (.slice (some ⟨w.heap.size,0,none⟩) cells.length cells.length) (w.alloc (.cells (madeCells (Value.slice none 0 0).cells (cells.length*1)) 22)):=fun w=>by
    have:=run_make (P:=Tryd.prog) w 68 22 ii _ Tryd.underlying68 hii hzi0 .i64 .i64 cells.length cells.length (by omega) (Int.le_refl _) (by rw[hzi2];omega) (by omega)
    rw[hzi1] at this;simpa only[Int.toNat_natCast] using this
   obtain⟨hXs,hXe⟩:=made_nils cells.length;generalize madeCells (Value.slice none 0 0).cells (cells.length*1)=X at *;have HXE:Hid (X.size=cells.length/\∀ i,i<cells.length->X[i]?=some (.slice none 0 0)):=⟨hXs,hXe⟩
   clear hXs hXe;have hn4:=lt_of_block E0;have hmk:=mk wr.drew;obtain⟨w2,hw2⟩:∃w2,w2=((wr.alloc (.cells X 22)).alloc (.cells #[.slice ac cells.length cc,.int .i64 0,.slice (some ⟨wr.heap.size,0,none⟩) cells.length cells.length,.bool true] 70)).drew:=⟨_,rfl⟩
   have b2:Below wr.heap.size wr w2:=by rw[hw2];exact(((Below.refl _ wr).alloc (Nat.le_refl _) _).alloc (by simp) _).trans ⟨rfl,rfl,rfl,Nat.le_refl _,fun _ _=>rfl⟩
   have X2:w2.heap[wr.heap.size]?=some (.cells X 22 (0,0)):=by
    rw[hw2];exact(Below.heap_alloc _ _ _ (by simp)).trans (heap_alloc_new wr _)
   have V2:w2.heap[wr.heap.size+1]?=some (.cells #[.slice ac cells.length cc,.int .i64 0,.slice (some ⟨wr.heap.size,0,none⟩) cells.length cells.length,.bool true] 70 (0,0)):=by
    rw[hw2]
    have:=heap_alloc_new (wr.alloc (.cells X 22)) (.cells #[.slice ac cells.length cc,.int .i64 0,.slice (some ⟨wr.heap.size,0,none⟩) cells.length cells.length,.bool true] 70)
    have h2:(wr.alloc (.cells X 22)).heap.size=wr.heap.size+1:=by simp
    rw[h2] at this;exact this
   have WD2:WD w2 (wr.heap.size+1) wr.heap.size (.slice ac cells.length cc) cells.length (some (0,fun _=>none)):=⟨V2,Nat.zero_le _,X,X2,HXE.out.1,fun i hi=>.inl ⟨rfl,HXE.out.2 i hi⟩⟩
   have c4:=kindd_ok (e.kids.size+1) e ao cap (wr.heap.size+1) wr.heap.size (.slice ac cells.length cc) cells 0 0 (0,fun _=>none) w2 (by omega) hf (by omega) (by omega) (by omega) WD2 (I0.mono (fun i _ hl=>b2.block i hl) b2.size (fun i _ hl=>⟨by omega,by omega⟩)) (S0.mono (fun i _ hl=>b2.block i hl) b2.size (fun i _ hl=>⟨by omega,by omega⟩));rw[exN_out] at c4;have E2:=(b2.block _ hn4).trans E0;have hs2:=lt_of_block V2;have hnw:Hid (n0<wr.heap.size):=hn4;clear E0 S0 I0 X2 V2 WD2;go_wp2_with fail;go_region_held3 (fun wx=>wx.cell? ⟨n0,4,none⟩=some (.slice ac cells.length cc)) (go_keep) (fail);rw[<-hw2];clear hw2 mk hmk p0 p1 p2 p3 p4 pf HXE;obtain⟨p0,p1,p2,p3,p4,pf⟩:=box5 E2;generalize kndD cells e 0 0 (0,fun _=>none)=rr at *;go_wp2_with fail;refine c4.mono ?_;rintro z w3 ⟨⟨k',rfl,hk'⟩,W3,K3⟩;have B3:Below n0 w w3:=(B0.trans (b2.mono (Nat.le_of_lt hnw.out))).trans (K3.below (by have:=hnw.out;omega) (Nat.le_of_lt hnw.out) (by have:=hnw.out;omega));clear c4 p0 p1 p2 p3 p4 pf E2 K3 b2;cases rr with
   | none =>
    have HZ:Hid (W=0):=HW2.out;obtain⟨-,p,kv,V3⟩:=W3;obtain⟨q0,q1,q2,q3,qf⟩:=box4 V3;clear HW2 hk' V3;go_wp2;go_ret;rw[HZ.out];exact⟨rfl,by rw[<-HN.out];exact B3⟩
   | some zz =>
    obtain⟨s2,k2⟩:=zz;obtain rfl:=hk' s2 k2 rfl;have HZ:Hid (W=k'):=HW2.out;obtain⟨V3,-,-⟩:=W3;obtain⟨q0,q1,q2,q3,qf⟩:=box4 V3;clear HW2 hk' V3;go_wp2;go_ret;rw[HZ.out];exact⟨rfl,by rw[<-HN.out];exact B3⟩
theorem right14_c (e:Ex)(ao:Option Addr)(cap:Nat)(cv:Value)(cells:List Int)(w:World)(hf:FitN e)(hc:InA w cv cells)(hcl:cells.length<=1000000000)(S:SnA w e.kids ao) :
  Calls Tryd.prog 13 #[plV e ao cap cv] w fun x w'=>x=.returned (.bool (decide (kindP cells e≠0)))/\Below w.heap.size w w':=by
 obtain⟨ac,cc,hcv,hcx⟩:=hc;have hc:InA w cv cells:=⟨ac,cc,hcv,hcx⟩
 subst hcv;clear hcx;have B0:Below w.heap.size w (w.alloc (.cells #[.int .i64 e.k,.int .i64 e.n,stv e.nm,.slice ao e.kids.len cap,.slice ac cells.length cc] 27)):=(Below.refl _ w).alloc (Nat.le_refl _) _;have c1:=kind14_c e ao cap _ cells _ hf (hc.below B0) hcl (SnA.below S B0);generalize kindP cells e=W at *;rw[plV_out] at c1 ⊢;go_enter Tryd.func13,Tryd.ntmps13;go_wp2_with fail;refine c1.mono ?_;rintro z w1 ⟨rfl,b1⟩;have B1:Below w.heap.size w w1:=B0.trans (b1.mono B0.size);clear c1 b1;by_cases h0:W=0
 ·have hb:(W != 0)=false:=by simpa using h0
  have hd:decide (W≠0)=false:=by simp[h0]
  have HD:Hid (decide (W≠0)=_):=hd;clear hd h0;go_wp2;go_ret;exact⟨by rw[HD.out];simp[hb],B1⟩
 ·have hb:(W != 0)=true:=by simpa using h0
  have hd:decide (W≠0)=true:=by simp[h0]
  have HD:Hid (decide (W≠0)=_):=hd;clear hd h0;go_wp2;go_ret;exact⟨by rw[HD.out];simp[hb],B1⟩
end Go.Proofs.YtejnhibajmncaaaDoor

import Derived.Test.YtbjdkekhnajafaaGreatDoorEqC
import Derived.SizedLaws
import Derived.Stop.LaidErr
import Derived.ShutString
import Derived.Deep.DeepHandedRow
set_option maxRecDepth 100000
set_option maxHeartbeats 8000000
namespace Go.Proofs.YtbjdkekhnajafaaGreatDoor
open Go.ChangeShapes Go.WideShapes Go.ChangeAt Go.RowKit
set_option linter.unusedVariables false
set_option linter.unusedSimpArgs false
def ir (cells:List Int)(n:Int)(x:Ex)(ar wi:Nat)(s:Rg):Option (Rg × Int) :=
 if 0<=n/\n<(cells.length:Int) then(match cP cells x ar wi s with|none=>none|some(s2,k0)=>anD(cT cells n(Fs.ex x .nil) ar s2) k0) else none
theorem Bc {cells:List Int}{i:Nat}{x:Ex}{ar wi:Nat}{s:Rg}{lv:Int}(h:cells[i]?=some lv)(hl:(ar:Int)<lv):ir cells (i:Nat) x ar wi s=none:=by
 unfold ir;split
 ·cases cP cells x ar wi s with
  | none=>rfl
  | some z =>
   obtain⟨s2,k0⟩:=z;simp only[cT,Int.toNat_natCast,h];rw[if_pos(.inl hl)];rfl
 ·rfl
theorem AX {cells:List Int}{i:Nat}{x:Ex}{ar wi:Nat}{s:Rg}{lv:Int}(h:cells[i]?=some lv)(hl:¬(ar:Int)<lv):ir cells (i:Nat) x ar wi s=(match cP cells x ar wi s with|none=>none|some (s2,k0)=>if lv<hgE x ar then none else (match s2.2 i with|none=>some ((s2.1,fun j=>if j=i then some x else s2.2 j),k0)|some y=>if bC y x=true then some (s2,k0) else none)):=by
 have hi:i<cells.length:=by
  rcases Nat.lt_or_ge i cells.length with h1|h1
  ·exact h1
  ·rw[List.getElem?_eq_none h1] at h;cases h
 unfold ir;rw[if_pos⟨by omega,by omega⟩];cases cP cells x ar wi s with
 | none=>rfl
 | some z =>
  obtain⟨s2,k0⟩:=z;have hh:(Fs.ex x .nil).head=x:=rfl;simp only[cT,Int.toNat_natCast,h,hh];by_cases h2:lv<hgE x ar
  ·rw[if_pos(.inr h2),if_pos h2];rfl
  ·rw[if_neg(by rintro(h3|h3);exact hl h3;exact h2 h3),if_neg h2];cases s2.2 i with
   | none=>rfl
   | some y =>
    simp only;split<;>rfl
theorem KT.put {w:World}{wb kb nc:Nat}{t:Nat->Option Ex}(h:KT w (Nf2 wb kb) kb nc t)(i:Nat)(x y:Ex)(ak:Option Addr)(ck:Nat)(hs:bC x y=true)(hf:cr y)(S:SlN w (Nf2 wb kb) y.kids ak)(hwb:wb<w.heap.size) :
  KT((w.alloc(.cells #[.int .i64 y.k,.int .i64 y.n,stv y.nm,.slice ak y.kids.len ck] 34)).setCell⟨kb,i,none⟩(.slice(some⟨w.heap.size,0,none⟩) 1 1))(Nf2 wb kb) kb nc(fun j=>if j=i then some x else t j):=by
 obtain⟨arr,h1,h2,h3⟩:=h;have hkb:=lt_of_block h1;generalize hob:(Obj.cells #[.int .i64 y.k,.int .i64 y.n,stv y.nm,.slice ak y.kids.len ck] 34(0,0))=ob;have hk1:(w.alloc ob).heap[kb]?=some(.cells arr 32(0,0)):=(Below.heap_alloc w ob kb hkb).trans h1;have hb:∀ k,Nf2 wb kb k->k<w.heap.size->((w.alloc ob).setCell⟨kb,i,none⟩(.slice(some⟨w.heap.size,0,none⟩) 1 1)).heap[k]?=w.heap[k]?:=fun k hk hl=>(heap_setCell_other _ _ k _ hk.2).trans(Below.heap_alloc w ob k hl);have hsz:w.heap.size<=((w.alloc ob).setCell⟨kb,i,none⟩(.slice(some⟨w.heap.size,0,none⟩) 1 1)).heap.size:=by simp
 have hnew:((w.alloc ob).setCell⟨kb,i,none⟩(.slice(some⟨w.heap.size,0,none⟩) 1 1)).heap[w.heap.size]?=some ob:=(heap_setCell_other _ _ _ _(by show w.heap.size≠kb;omega)).trans(heap_alloc_new w ob);refine⟨_,(Blk.set(o:=fun _=>0)(i:=0)⟨hk1,rfl⟩ i _).1,by simp[h2],fun j hj=>?_⟩;by_cases hji:j=i
 ·subst hji;refine .inr⟨x,y,w.heap.size,1,by simp,hs,by simp[h2,hj],?_,hf⟩;subst hob;exact .inr⟨w.heap.size,0,_,rfl,⟨by omega,by omega⟩,by simp,fun m u hu=>by rw[Nat.zero_add,cell_of_row _ _ _ _ _ _ hnew];simpa using hu,FcN.one ck(S.mono hb hsz(fun _ h _=>h))⟩
 ·rcases h3 j hj with⟨h4,h5⟩|⟨x',y',g,cap,q1,q2,q3,q4,q5⟩
  ·exact .inl⟨by simp[hji,h4],by rw[Array.getElem?_setIfInBounds_ne(Ne.symm hji)];exact h5⟩
  ·exact .inr⟨x',y',g,cap,by simp[hji,q1],q2,by rw[Array.getElem?_setIfInBounds_ne(Ne.symm hji)];exact q3,q4.mono hb hsz(fun _ h _=>h),q5⟩
theorem Co {N:Nat}(IH:jh N)(k0 n:Int)(nm:List UInt8)(a:Int)(x:Ex)(ao:Option Addr)(cap wb kb:Nat)(bv:Value)(cells:List Int)(ar wi:Nat)(s:Rg)(w:World)(hN:x.kids.size<N)(hfx:cr x)(hwi:wi<=4)(har:ar<=wi)(hne:wb≠kb)(h:WD w wb kb bv cells.length (some s))(hn:Inw w (Nf2 wb kb) bv cells)(S:SlN w (Nf2 wb kb) (Fs.ex x .nil) ao) :
  Calls Tryz.prog 109 #[.pointer(some⟨wb,0,none⟩),.agg #[.int .i64 k0,.int .i64 n,stv nm,.slice ao 1 cap],.int .i64(ar:Nat),.int .i64(wi:Nat)] w(aT w wb kb bv cells.length(ir cells n x ar wi s)):=by
 have B0:Below w.heap.size w(w.alloc(.cells #[.int .i64 k0,.int .i64 n,stv nm,.slice ao 1 cap] 34)):=(Below.refl _ w).alloc(Nat.le_refl _) _;have E0:(w.alloc(.cells #[.int .i64 k0,.int .i64 n,stv nm,.slice ao 1 cap] 34)).heap[w.heap.size]?=some(.cells #[.int .i64 k0,.int .i64 n,stv nm,.slice ao 1 cap] 34):=heap_alloc_new w _;have W0:=h.below B0;have S0:=S.belowP B0;have N0:=hn.below B0;have hwb:=h.lt;have hkb:=h.ltk;clear h S hn;go_enter Tryz.func109,Tryz.ntmps109;go_upto_region 1 with fail;generalize w.alloc(.cells #[.int .i64 k0,.int .i64 n,stv nm,.slice ao 1 cap] 34)=w0 at *;have KK:Kp wb kb w w0:=Kp.ofBelow B0;obtain⟨bx,hbx⟩:∃bx,bx=w.heap.size:=⟨_,rfl⟩
 rw[<-hbx] at E0 ⊢;have hb1:bx≠wb:=by omega
 have hb2:bx≠kb:=by omega
 clear hbx hwb hkb B0;obtain⟨p0,p1,p2,p3,pf⟩:=aI E0;have V0:=W0.1;have hk0:=W0.ltk;obtain⟨q0,q1,q2,q3,qf⟩:=aI V0;have BAD:∀ {w2:World},Below w0.heap.size w0 w2->ir cells n x ar wi s=none->Hid(aT w wb kb bv cells.length(ir cells n x ar wi s)(.returned(.int .i64 0))(w2.setCell⟨wb,3,none⟩(.bool false))):=by
  intro w2 b2 hz;rw[hz];exact⟨⟨0,rfl,fun s k h=>by cases h⟩,⟨by simpa using Nat.lt_of_lt_of_le hk0 b2.size,_,_,(f7((b2.block _(lt_of_block V0)).trans V0)(.bool false)).2⟩,(KK.trans(Kp.ofBelow b2)).set _ _(.inr(.inl rfl))⟩
 have bdr:∀ m,Below w0.heap.size w0(w0.drewN m):=fun m=>⟨rfl,rfl,rfl,Nat.le_refl _,fun _ _=>rfl⟩;obtain⟨aoc,capc,hbv,hcells⟩:=N0;have N0:Inw w0(Nf2 wb kb) bv cells:=⟨aoc,capc,hbv,hcells⟩
 subst hbv;by_cases hn0:n<0
 ·have hd:decide(n<0)=true:=decide_eq_true hn0;have HB:=fun m=>BAD(bdr m)(by unfold ir;rw[if_neg(by omega)]);clear BAD bdr S0 W0 hcells N0 KK V0 E0;go_wp2_with fail
  go_quiet(fail)
  have HB:=HB nq;go_wp2;exact bodyPost_ret(v:=.int .i64 0)(by simp[results,Tryz.results109,go_sem]) rfl HB.out
 ·have hd:decide(n<0)=false:=decide_eq_false hn0;obtain⟨i,rfl⟩:∃i:Nat,n=(i:Nat):=⟨n.toNat,by omega⟩
  by_cases hn1:(cells.length:Int)<=(i:Int)
  ·have HB:=fun m=>BAD(bdr m)(by unfold ir;rw[if_neg(by omega)]);clear BAD bdr S0 W0 hcells N0 KK V0 E0;go_wp2_with fail
   go_quiet(fail)
   have HB:=HB nq;go_wp2;exact bodyPost_ret(v:=.int .i64 0)(by simp[results,Tryz.results109,go_sem]) rfl HB.out
  ·have hd1:decide((cells.length:Int)<=(i:Int))=false:=decide_eq_false hn1;have hil:i<cells.length:=by omega
   have hiI:(i:Int)<(cells.length:Int):=by omega
   obtain⟨lv,hlv⟩:∃lv,cells[i]?=some lv:=⟨_,List.getElem?_eq_getElem hil⟩
   rcases hcells with hcells|⟨cb,coff,rfl,hcp,hcl,hcc⟩
   ·subst hcells;simp at hil
   have ccl:=hcc i lv hlv;clear hcc;by_cases hlt:(ar:Int)<lv
   ·have HB:=fun m=>BAD(bdr m)(Bc hlv hlt);clear BAD bdr S0 W0 N0 KK V0 E0;go_wp2_with fail
    go_quiet(fail)
    have HB:=HB nq;go_wp2;exact bodyPost_ret(v:=.int .i64 0)(by simp[results,Tryz.results109,go_sem]) rfl HB.out
   ·have hd2:decide((ar:Int)<lv)=false:=decide_eq_false hlt;have HC:Hid(ir cells(i:Nat) x ar wi s=_):=AX hlv hlt;clear BAD;go_wp2_with fail
    go_quiet(fail)
    have bd:=bdr nq;clear bdr;have W1:=W0.below bd;have S1:=S0.belowP bd;have N1:=N0.below bd;have E1:=(bd.block _(lt_of_block E0)).trans E0;have KK1:=KK.trans(Kp.ofBelow bd);have ccl1:=(bd.cell(p:=⟨cb,coff+i,none⟩) hcl).trans ccl;have hcl1:cb<(w0.drewN nq).heap.size:=Nat.lt_of_lt_of_le hcl bd.size;clear p0 p1 p2 p3 pf q0 q1 q2 q3 qf W0 S0 N0 E0 KK V0 bd ccl hcl;generalize w0.drewN nq=w1 at *;obtain⟨p0,p1,p2,p3,pf⟩:=aI E1;obtain⟨gb,off,ak,ck,hao,hgl,hgp,y0,y1,y2,y3,SK⟩:=SlN.kidQ(x:=.nil)(r:=.nil)(ks:=x.kids)(k:=x.k)(n:=x.n)(nm:=x.nm)(a:=x.a) S1;subst hao;have hl0:(Fs.nil).len=0:=rfl;simp only[hl0,Nat.zero_mul,Nat.add_zero] at y0 y1 y2 y3;have c1:=IH x ak ck wb kb _ cells ar wi s w1 hN hfx hwi har hne W1 N1 SK;rw[ah] at c1;go_wp2_with fail;refine c1.mono ?_;rintro z w2⟨⟨k',rfl,hk'⟩,W2,K2⟩;have E2:=(K2.block _(lt_of_block E1) hb1 hb2).trans E1;have S2:=S1.kp K2;have N2:=N1.kp K2;have KK2:=KK1.trans K2;have cc2:=(K2.cell hcl1 hcp.1 hcp.2 _).trans ccl1;have hcl2:=Nat.lt_of_lt_of_le hcl1 K2.size;have y0:=(K2.cell hgl hgp.1 hgp.2 _).trans y0;have y1:=(K2.cell hgl hgp.1 hgp.2 _).trans y1;have y2:=(K2.cell hgl hgp.1 hgp.2 _).trans y2;have y3:=(K2.cell hgl hgp.1 hgp.2 _).trans y3;have hgl2:=Nat.lt_of_lt_of_le hgl K2.size;have SK2:=SK.kp K2;clear c1 p0 p1 p2 p3 pf W1 S1 N1 E1 KK1 ccl1 hcl1 hgl SK K2 S2;obtain⟨p0,p1,p2,p3,pf⟩:=aI E2;cases hr:cP cells x ar wi s with
    | none =>
     have HR:Hid(aT w wb kb(.slice(some⟨cb,coff,none⟩) cells.length capc) cells.length(ir cells(i:Nat) x ar wi s)(.returned(.int .i64 0)) w2):=by
      rw[HC.out,hr];rw[hr] at W2;exact⟨⟨0,rfl,fun s k h=>by cases h⟩,W2,KK2⟩
     rw[hr] at W2;obtain⟨-,p,kv,V2⟩:=W2;obtain⟨q0,q1,q2,q3,qf⟩:=aI V2;clear hr hk' HC V2 SK2 N2 KK2 E2;go_wp2;exact bodyPost_ret(v:=.int .i64 0)(by simp[results,Tryz.results109,go_sem]) rfl HR.out
    | some z =>
     obtain⟨s2,k⟩:=z;obtain rfl:=hk' s2 k hr;have hnv:x.nv:=by
      unfold cP at hr;cases hx:rgE cells x ar wi s with
      | none=>rw[hx] at hr;cases hr
      | some z=>obtain⟨s',kz⟩:=z;exact yA hx
     rw[hr] at W2;have HC2:Hid(ir cells(i:Nat) x ar wi s=if lv<hgE x ar then none else(match s2.2 i with|none=>some((s2.1,fun j=>if j=i then some x else s2.2 j),k')|some y=>if bC y x=true then some(s2,k') else none)):=by show _=_;rw[HC.out,hr]
     have W2:WD w2 wb kb(.slice(some⟨cb,coff,none⟩) cells.length capc) cells.length(some s2):=W2;clear hr hk' HC;generalize ir cells(i:Nat) x ar wi s=CR at *;have hk2:=W2.ltk;obtain⟨V2,hs2,KT2⟩:=W2;obtain⟨q0,q1,q2,q3,qf⟩:=aI V2;have hx2:=lt_of_block E2;have hw2:=lt_of_block V2;have bdT:Below w2.heap.size w2 w2.drew:=⟨rfl,rfl,rfl,Nat.le_refl _,fun _ _=>rfl⟩
     have c5:=qE(x.kids.size+1) x ak ck ar w2.drew(by omega) hfx.len hfx.sh hnv(by omega)(by omega)(SK2.all.below bdT);rw[ah] at c5;generalize hgE x ar=hx at *;go_wp2_with fail;go_region_held3(fun wx=>wx.cell?⟨bx,1,none⟩=some(.int .i64(i:Nat))/\wx.cell?⟨bx,3,none⟩=some(.slice(some⟨gb,off,none⟩) 1 cap)/\wx.cell?⟨wb,0,none⟩=some(.slice(some⟨cb,coff,none⟩) cells.length capc)/\wx.cell?⟨cb,coff+i,none⟩=some(.int .i64 lv)/\wx.cell?⟨gb,off,none⟩=some(.int .i64 x.k)/\wx.cell?⟨gb,off+1,none⟩=some(.int .i64 x.n)/\wx.cell?⟨gb,off+2,none⟩=some(stv x.nm)/\wx.cell?⟨gb,off+3,none⟩=some(.slice ak x.kids.len ck))
      (first|exact KA|go_keep)
      (first
       | (go_at_call 173;refine c5.mono ?_;rintro z w3⟨rfl,B3⟩;have KA:w3.cell?⟨bx,1,none⟩=some(.int .i64(i:Nat))/\w3.cell?⟨bx,3,none⟩=some(.slice(some⟨gb,off,none⟩) 1 cap)/\w3.cell?⟨wb,0,none⟩=some(.slice(some⟨cb,coff,none⟩) cells.length capc)/\w3.cell?⟨cb,coff+i,none⟩=some(.int .i64 lv)/\w3.cell?⟨gb,off,none⟩=some(.int .i64 x.k)/\w3.cell?⟨gb,off+1,none⟩=some(.int .i64 x.n)/\w3.cell?⟨gb,off+2,none⟩=some(stv x.nm)/\w3.cell?⟨gb,off+3,none⟩=some(.slice ak x.kids.len ck):=⟨(B3.cell(p:=⟨bx,1,none⟩) hx2).trans p1,(B3.cell(p:=⟨bx,3,none⟩) hx2).trans p3,(B3.cell(p:=⟨wb,0,none⟩) hw2).trans q0,(B3.cell(p:=⟨cb,coff+i,none⟩) hcl2).trans cc2,(B3.cell(p:=⟨gb,off,none⟩) hgl2).trans y0,(B3.cell(p:=⟨gb,off+1,none⟩) hgl2).trans y1,(B3.cell(p:=⟨gb,off+2,none⟩) hgl2).trans y2,(B3.cell(p:=⟨gb,off+3,none⟩) hgl2).trans y3⟩))
     have B23:Below w2.heap.size w2 w3:=bdT.trans B3;have E3:=(B23.block _ hx2).trans E2;have V3:=(B23.block _ hw2).trans V2;have KT3:=KT2.mono(B23.block _ hk2)(fun i _ hl=>B23.block i hl) B23.size;have KK3:=KK2.trans(Kp.ofBelow B23);have SK3:=SK2.belowP B23;have hk3:=Nat.lt_of_lt_of_le hk2 B23.size;have hgl3:=Nat.lt_of_lt_of_le hgl2 B23.size;obtain⟨-,-,-,-,y0,y1,y2,y3⟩:=KA;clear c5 p0 p1 p2 p3 pf q0 q1 q2 q3 qf E2 V2 KT2 KK2 SK2 hk2 hgl2 hx2 hw2 bdT B3 B23 cc2 hcl2 N2;obtain⟨p0,p1,p2,p3,pf⟩:=aI E3;obtain⟨q0,q1,q2,q3,qf⟩:=aI V3;by_cases hlh:lv<hx
     ·have HR:Hid(aT w wb kb(.slice(some⟨cb,coff,none⟩) cells.length capc) cells.length CR(.returned(.int .i64 0))(w3.setCell⟨wb,3,none⟩(.bool false))):=by
       rw[HC2.out,if_pos hlh];exact⟨⟨0,rfl,fun s k h=>by cases h⟩,⟨by simpa using hk3,_,_,(f7 V3(.bool false)).2⟩,KK3.set _ _(.inr(.inl rfl))⟩
      clear HC2 KT3 KK3 SK3 E3 V3;go_wp2;exact bodyPost_ret(v:=.int .i64 0)(by simp[results,Tryz.results109,go_sem]) rfl HR.out
     ·have HC3:Hid(CR=(match s2.2 i with|none=>some((s2.1,fun j=>if j=i then some x else s2.2 j),k')|some y=>if bC y x=true then some(s2,k') else none)):=by show CR=_;rw[HC2.out,if_neg hlh]
      clear HC2;have hx3:=lt_of_block E3;have hw3:=lt_of_block V3;obtain⟨arr,ha1,ha2,ha3⟩:=KT3;have KT3:KT w3(Nf2 wb kb) kb cells.length s2.2:=⟨arr,ha1,ha2,ha3⟩
      have hcell:=fun(v:Value)(hv:arr[i]?=some v)=>(cell_of_row w3 kb i arr _ _ ha1).trans hv;have PUT:∀ {w4:World}(y:Ex),Below w3.heap.size w3 w4->bC y x=true->CR=some((s2.1,fun j=>if j=i then some y else s2.2 j),k')->Hid(aT w wb kb(.slice(some⟨cb,coff,none⟩) cells.length capc) cells.length CR(.returned(.int .i64 k'))((w4.alloc(.cells #[.int .i64 x.k,.int .i64 x.n,stv x.nm,.slice ak x.kids.len ck] 34)).setCell⟨kb,i,none⟩(.slice(some⟨w4.heap.size,0,none⟩) 1 1))):=by
       intro w4 y b4 hsm hcr;rw[hcr];have hk4:=Nat.lt_of_lt_of_le hk3 b4.size;have hw4:=Nat.lt_of_lt_of_le hw3 b4.size;have V4:=(b4.block _ hw3).trans V3;have KT4:=KT3.mono(b4.block _ hk3)(fun i _ hl=>b4.block i hl) b4.size;refine⟨⟨k',rfl,fun s k h=>by injection h with h;injection h⟩,⟨?_,hs2,KT4.put i y x ak ck hsm hfx(SK3.belowP b4) hw4⟩,((KK3.trans(Kp.ofBelow b4)).alloc _).set _ _(.inr(.inr rfl))⟩;exact(heap_setCell_other _ _ _ _(by show wb≠kb;exact hne)).trans((Below.heap_alloc w4 _ wb hw4).trans V4)
      rcases ha3 i hil with⟨ht,hai⟩|⟨x',y',g,cg,ht,hsm,hai,SY,hfy⟩
      ·have e1:=hcell _ hai;have HP:=fun m=>PUT(w4:=w3.drewN m) x⟨rfl,rfl,rfl,Nat.le_refl _,fun _ _=>rfl⟩(sr x)(by rw[HC3.out,ht]);clear PUT HC3 KT3 KK3 SK3 hcell ha3 ht;go_wp2_with fail
       go_quiet(fail)
       have HP:=HP nq;have bd4:Below w3.heap.size w3(w3.drewN nq):=⟨rfl,rfl,rfl,Nat.le_refl _,fun _ _=>rfl⟩
       have E4:=(bd4.block _ hx3).trans E3;have V4:=(bd4.block _ hw3).trans V3;have Y0:=(bd4.cell(p:=⟨gb,off,none⟩) hgl3).trans y0;have Y1:=(bd4.cell(p:=⟨gb,off+1,none⟩) hgl3).trans y1;have Y2:=(bd4.cell(p:=⟨gb,off+2,none⟩) hgl3).trans y2;have Y3:=(bd4.cell(p:=⟨gb,off+3,none⟩) hgl3).trans y3;have KF:=frozen_of_row(w3.drewN nq) kb i arr _((bd4.block _ hk3).trans ha1);have KC:=(bd4.cell(p:=⟨kb,i,none⟩) hk3).trans e1;have hkl4:=Nat.lt_of_lt_of_le hk3 bd4.size;have hgl4:=Nat.lt_of_lt_of_le hgl3 bd4.size;clear p0 p1 p2 p3 pf q0 q1 q2 q3 qf y0 y1 y2 y3 bd4 E3 V3 hai e1 ha1;generalize w3.drewN nq=w4 at *;obtain⟨p0,p1,p2,p3,pf⟩:=aI E4;obtain⟨q0,q1,q2,q3,qf⟩:=aI V4;have hbx4:=lt_of_block E4;have hwb4:=lt_of_block V4;clear E4 V4;have hcw:∀ (g j:Nat),g≠kb->g<w4.heap.size->(((w4.setCell⟨kb,i,none⟩(.slice(some⟨w4.heap.size,0,none⟩) 1 1)).alloc(.cells #[.int .i64 x.k,.int .i64 x.n,stv x.nm,.slice ak x.kids.len ck] 34)).drew).cell?⟨g,j,none⟩=w4.cell?⟨g,j,none⟩:=fun g j h1 h2=>World.cell?_of_block(a:=⟨g,j,none⟩)((Below.heap_alloc(w4.setCell⟨kb,i,none⟩(.slice(some⟨w4.heap.size,0,none⟩) 1 1))(.cells #[.int .i64 x.k,.int .i64 x.n,stv x.nm,.slice ak x.kids.len ck] 34) g(by simpa using h2)).trans(heap_setCell_other w4⟨kb,i,none⟩ g _ h1));have KA5:(((w4.setCell⟨kb,i,none⟩(.slice(some⟨w4.heap.size,0,none⟩) 1 1)).alloc(.cells #[.int .i64 x.k,.int .i64 x.n,stv x.nm,.slice ak x.kids.len ck] 34)).drew).cell?⟨bx,1,none⟩=some(.int .i64(i:Nat))/\(((w4.setCell⟨kb,i,none⟩(.slice(some⟨w4.heap.size,0,none⟩) 1 1)).alloc(.cells #[.int .i64 x.k,.int .i64 x.n,stv x.nm,.slice ak x.kids.len ck] 34)).drew).cell?⟨bx,3,none⟩=some(.slice(some⟨gb,off,none⟩) 1 cap)/\(((w4.setCell⟨kb,i,none⟩(.slice(some⟨w4.heap.size,0,none⟩) 1 1)).alloc(.cells #[.int .i64 x.k,.int .i64 x.n,stv x.nm,.slice ak x.kids.len ck] 34)).drew).cell?⟨wb,2,none⟩=some(.slice(some⟨kb,0,none⟩) cells.length cells.length)/\(((w4.setCell⟨kb,i,none⟩(.slice(some⟨w4.heap.size,0,none⟩) 1 1)).alloc(.cells #[.int .i64 x.k,.int .i64 x.n,stv x.nm,.slice ak x.kids.len ck] 34)).drew).cell?⟨gb,off,none⟩=some(.int .i64 x.k)/\(((w4.setCell⟨kb,i,none⟩(.slice(some⟨w4.heap.size,0,none⟩) 1 1)).alloc(.cells #[.int .i64 x.k,.int .i64 x.n,stv x.nm,.slice ak x.kids.len ck] 34)).drew).cell?⟨gb,off+1,none⟩=some(.int .i64 x.n)/\(((w4.setCell⟨kb,i,none⟩(.slice(some⟨w4.heap.size,0,none⟩) 1 1)).alloc(.cells #[.int .i64 x.k,.int .i64 x.n,stv x.nm,.slice ak x.kids.len ck] 34)).drew).cell?⟨gb,off+2,none⟩=some(stv x.nm)/\(((w4.setCell⟨kb,i,none⟩(.slice(some⟨w4.heap.size,0,none⟩) 1 1)).alloc(.cells #[.int .i64 x.k,.int .i64 x.n,stv x.nm,.slice ak x.kids.len ck] 34)).drew).cell?⟨gb,off+3,none⟩=some(.slice ak x.kids.len ck):=⟨(hcw _ _ hb2 hbx4).trans p1,(hcw _ _ hb2 hbx4).trans p3,(hcw _ _ hne hwb4).trans q2,(hcw _ _ hgp.2 hgl4).trans Y0,(hcw _ _ hgp.2 hgl4).trans Y1,(hcw _ _ hgp.2 hgl4).trans Y2,(hcw _ _ hgp.2 hgl4).trans Y3⟩
       have HP2:Hid(aT w wb kb(.slice(some⟨cb,coff,none⟩) cells.length capc) cells.length CR(.returned(.int .i64 k'))(((w4.setCell⟨kb,i,none⟩(.slice(some⟨w4.heap.size,0,none⟩) 1 1)).alloc(.cells #[.int .i64 x.k,.int .i64 x.n,stv x.nm,.slice ak x.kids.len ck] 34)).drew)):=by
        have h5:=HP.out;rw[World.setCell_alloc_past _ _ _ _ hkl4] at h5;exact⟨h5.1,h5.2.1.below⟨rfl,rfl,rfl,Nat.le_refl _,fun _ _=>rfl⟩,h5.2.2.trans(Kp.ofBelow⟨rfl,rfl,rfl,Nat.le_refl _,fun _ _=>rfl⟩)⟩
       clear HP hcw;go_wp2_with fail;go_region_held3(fun wx=>wx.cell?⟨bx,1,none⟩=some(.int .i64(i:Nat))/\wx.cell?⟨bx,3,none⟩=some(.slice(some⟨gb,off,none⟩) 1 cap)/\wx.cell?⟨wb,2,none⟩=some(.slice(some⟨kb,0,none⟩) cells.length cells.length)/\wx.cell?⟨gb,off,none⟩=some(.int .i64 x.k)/\wx.cell?⟨gb,off+1,none⟩=some(.int .i64 x.n)/\wx.cell?⟨gb,off+2,none⟩=some(stv x.nm)/\wx.cell?⟨gb,off+3,none⟩=some(.slice ak x.kids.len ck))(first|exact KA5|go_keep)(fail);clear KA5;go_wp2;exact bodyPost_ret(v:=.int .i64 k')(by simp[results,Tryz.results109,go_sem]) rfl HP2.out
      ·have e1:=hcell _ hai;obtain⟨az,cz,hzl,hzp,z0,z1,z2,z3,SZ⟩:∃az,∃cz,g<w3.heap.size/\Nf2 wb kb g/\w3.cell?⟨g,0,none⟩=some(.int .i64 y'.k)/\w3.cell?⟨g,1,none⟩=some(.int .i64 y'.n)/\w3.cell?⟨g,2,none⟩=some(stv y'.nm)/\w3.cell?⟨g,3,none⟩=some(.slice az y'.kids.len cz)/\SlN w3(Nf2 wb kb) y'.kids az:=by
        obtain⟨gb',off',az,cz,hao,hgl,hgp,z0,z1,z2,z3,SZ⟩:=SlN.kidQ(x:=.nil)(r:=.nil)(ks:=y'.kids)(k:=y'.k)(n:=y'.n)(nm:=y'.nm)(a:=y'.a) SY;injection hao with hao
        injection hao with h1 h2
        subst h1;subst h2;exact⟨az,cz,hgl,hgp,z0,z1,z2,z3,SZ⟩
       have bdT:Below w3.heap.size w3 w3.drew:=⟨rfl,rfl,rfl,Nat.le_refl _,fun _ _=>rfl⟩
       have c6:=kG(y'.kids.size+1) y' x az ak cz ck w3.drew(by omega) hfy.len hfy.sh hfx.len hfx.sh(SZ.all.below bdT)(SK3.all.below bdT);rw[ah,ah,xl x hsm] at c6;have HC4:Hid(CR=if bC x' x=true then some(s2,k') else none):=by show CR=_;rw[HC3.out,ht]
       have hfun:Hid((fun j=>if j=i then some x' else s2.2 j)=s2.2):=by
        show _=_;funext j;by_cases hj:j=i
        ·rw[if_pos hj,hj,ht]
        ·rw[if_neg hj]
       obtain⟨sm,hsmm⟩:∃sm,sm=bC x' x:=⟨_,rfl⟩
       rw[<-hsmm] at c6;have HSM:Hid(bC x' x=sm):=hsmm.symm;clear hsmm HC3 SY SZ hsm ht;have KA0:w3.drew.cell?⟨bx,1,none⟩=some(.int .i64(i:Nat))/\w3.drew.cell?⟨bx,3,none⟩=some(.slice(some⟨gb,off,none⟩) 1 cap)/\w3.drew.cell?⟨wb,2,none⟩=some(.slice(some⟨kb,0,none⟩) cells.length cells.length)/\w3.drew.cell?⟨kb,i,none⟩=some(.slice(some⟨g,0,none⟩) 1 cg)/\w3.drew.cell?⟨g,0,none⟩=some(.int .i64 y'.k)/\w3.drew.cell?⟨g,1,none⟩=some(.int .i64 y'.n)/\w3.drew.cell?⟨g,2,none⟩=some(stv y'.nm)/\w3.drew.cell?⟨g,3,none⟩=some(.slice az y'.kids.len cz)/\w3.drew.cell?⟨gb,off,none⟩=some(.int .i64 x.k)/\w3.drew.cell?⟨gb,off+1,none⟩=some(.int .i64 x.n)/\w3.drew.cell?⟨gb,off+2,none⟩=some(stv x.nm)/\w3.drew.cell?⟨gb,off+3,none⟩=some(.slice ak x.kids.len ck):=⟨p1,p3,q2,e1,z0,z1,z2,z3,y0,y1,y2,y3⟩
       go_wp2_with fail;go_region_held3(fun wx=>wx.cell?⟨bx,1,none⟩=some(.int .i64(i:Nat))/\wx.cell?⟨bx,3,none⟩=some(.slice(some⟨gb,off,none⟩) 1 cap)/\wx.cell?⟨wb,2,none⟩=some(.slice(some⟨kb,0,none⟩) cells.length cells.length)/\wx.cell?⟨kb,i,none⟩=some(.slice(some⟨g,0,none⟩) 1 cg)/\wx.cell?⟨g,0,none⟩=some(.int .i64 y'.k)/\wx.cell?⟨g,1,none⟩=some(.int .i64 y'.n)/\wx.cell?⟨g,2,none⟩=some(stv y'.nm)/\wx.cell?⟨g,3,none⟩=some(.slice az y'.kids.len cz)/\wx.cell?⟨gb,off,none⟩=some(.int .i64 x.k)/\wx.cell?⟨gb,off+1,none⟩=some(.int .i64 x.n)/\wx.cell?⟨gb,off+2,none⟩=some(stv x.nm)/\wx.cell?⟨gb,off+3,none⟩=some(.slice ak x.kids.len ck))
        (first|exact KA|exact KA0|go_keep)
        (first
         | (go_at_call 174;refine c6.mono ?_;rintro z w4⟨rfl,B4⟩;have KA:w4.cell?⟨bx,1,none⟩=some(.int .i64(i:Nat))/\w4.cell?⟨bx,3,none⟩=some(.slice(some⟨gb,off,none⟩) 1 cap)/\w4.cell?⟨wb,2,none⟩=some(.slice(some⟨kb,0,none⟩) cells.length cells.length)/\w4.cell?⟨kb,i,none⟩=some(.slice(some⟨g,0,none⟩) 1 cg)/\w4.cell?⟨g,0,none⟩=some(.int .i64 y'.k)/\w4.cell?⟨g,1,none⟩=some(.int .i64 y'.n)/\w4.cell?⟨g,2,none⟩=some(stv y'.nm)/\w4.cell?⟨g,3,none⟩=some(.slice az y'.kids.len cz)/\w4.cell?⟨gb,off,none⟩=some(.int .i64 x.k)/\w4.cell?⟨gb,off+1,none⟩=some(.int .i64 x.n)/\w4.cell?⟨gb,off+2,none⟩=some(stv x.nm)/\w4.cell?⟨gb,off+3,none⟩=some(.slice ak x.kids.len ck):=⟨(B4.cell(p:=⟨bx,1,none⟩) hx3).trans p1,(B4.cell(p:=⟨bx,3,none⟩) hx3).trans p3,(B4.cell(p:=⟨wb,2,none⟩) hw3).trans q2,(B4.cell(p:=⟨kb,i,none⟩) hk3).trans e1,(B4.cell(p:=⟨g,0,none⟩) hzl).trans z0,(B4.cell(p:=⟨g,1,none⟩) hzl).trans z1,(B4.cell(p:=⟨g,2,none⟩) hzl).trans z2,(B4.cell(p:=⟨g,3,none⟩) hzl).trans z3,(B4.cell(p:=⟨gb,off,none⟩) hgl3).trans y0,(B4.cell(p:=⟨gb,off+1,none⟩) hgl3).trans y1,(B4.cell(p:=⟨gb,off+2,none⟩) hgl3).trans y2,(B4.cell(p:=⟨gb,off+3,none⟩) hgl3).trans y3⟩))
       have bd4:Below w3.heap.size w3 w4:=bdT.trans B4;have E4:=(bd4.block _ hx3).trans E3;have V4:=(bd4.block _ hw3).trans V3;have KF:=frozen_of_row w4 kb i arr _((bd4.block _ hk3).trans ha1);obtain⟨-,-,-,KC,-,-,-,-,Y0,Y1,Y2,Y3⟩:=KA;have hkl4:=Nat.lt_of_lt_of_le hk3 bd4.size;have hgl4:=Nat.lt_of_lt_of_le hgl3 bd4.size;have hbx4:=lt_of_block E4;have hwb4:=lt_of_block V4;cases sm with
       | false =>
        have HR:Hid(aT w wb kb(.slice(some⟨cb,coff,none⟩) cells.length capc) cells.length CR(.returned(.int .i64 0))(w4.setCell⟨wb,3,none⟩(.bool false))):=by
         rw[HC4.out,HSM.out,if_neg(by decide)];exact⟨⟨0,rfl,fun s k h=>by cases h⟩,⟨by simpa using hkl4,_,_,(f7 V4(.bool false)).2⟩,(KK3.trans(Kp.ofBelow bd4)).set _ _(.inr(.inl rfl))⟩
        clear c6 PUT HC4 HSM hfun KT3 KK3 SK3 p0 p1 p2 p3 pf q0 q1 q2 q3 qf y0 y1 y2 y3 z0 z1 z2 z3 e1 ha1 E3 V3 B4 bd4 bdT hcell ha3;obtain⟨q0,q1,q2,q3,qf⟩:=aI V4;clear E4 V4;go_wp2;exact bodyPost_ret(v:=.int .i64 0)(by simp[results,Tryz.results109,go_sem]) rfl HR.out
       | true =>
        have HP:=PUT x' bd4 HSM.out(by rw[HC4.out,HSM.out,if_pos rfl,hfun.out]);clear c6 PUT HC4 HSM hfun KT3 KK3 SK3 p0 p1 p2 p3 pf q0 q1 q2 q3 qf y0 y1 y2 y3 z0 z1 z2 z3 e1 ha1 E3 V3 B4 bd4 bdT hcell ha3;obtain⟨p0,p1,p2,p3,pf⟩:=aI E4;obtain⟨q0,q1,q2,q3,qf⟩:=aI V4;clear E4 V4;have hcw:∀ (g j:Nat),g≠kb->g<w4.heap.size->(((w4.setCell⟨kb,i,none⟩(.slice(some⟨w4.heap.size,0,none⟩) 1 1)).alloc(.cells #[.int .i64 x.k,.int .i64 x.n,stv x.nm,.slice ak x.kids.len ck] 34)).drew).cell?⟨g,j,none⟩=w4.cell?⟨g,j,none⟩:=fun g j h1 h2=>World.cell?_of_block(a:=⟨g,j,none⟩)((Below.heap_alloc(w4.setCell⟨kb,i,none⟩(.slice(some⟨w4.heap.size,0,none⟩) 1 1))(.cells #[.int .i64 x.k,.int .i64 x.n,stv x.nm,.slice ak x.kids.len ck] 34) g(by simpa using h2)).trans(heap_setCell_other w4⟨kb,i,none⟩ g _ h1));have KA5:(((w4.setCell⟨kb,i,none⟩(.slice(some⟨w4.heap.size,0,none⟩) 1 1)).alloc(.cells #[.int .i64 x.k,.int .i64 x.n,stv x.nm,.slice ak x.kids.len ck] 34)).drew).cell?⟨bx,1,none⟩=some(.int .i64(i:Nat))/\(((w4.setCell⟨kb,i,none⟩(.slice(some⟨w4.heap.size,0,none⟩) 1 1)).alloc(.cells #[.int .i64 x.k,.int .i64 x.n,stv x.nm,.slice ak x.kids.len ck] 34)).drew).cell?⟨bx,3,none⟩=some(.slice(some⟨gb,off,none⟩) 1 cap)/\(((w4.setCell⟨kb,i,none⟩(.slice(some⟨w4.heap.size,0,none⟩) 1 1)).alloc(.cells #[.int .i64 x.k,.int .i64 x.n,stv x.nm,.slice ak x.kids.len ck] 34)).drew).cell?⟨wb,2,none⟩=some(.slice(some⟨kb,0,none⟩) cells.length cells.length)/\(((w4.setCell⟨kb,i,none⟩(.slice(some⟨w4.heap.size,0,none⟩) 1 1)).alloc(.cells #[.int .i64 x.k,.int .i64 x.n,stv x.nm,.slice ak x.kids.len ck] 34)).drew).cell?⟨gb,off,none⟩=some(.int .i64 x.k)/\(((w4.setCell⟨kb,i,none⟩(.slice(some⟨w4.heap.size,0,none⟩) 1 1)).alloc(.cells #[.int .i64 x.k,.int .i64 x.n,stv x.nm,.slice ak x.kids.len ck] 34)).drew).cell?⟨gb,off+1,none⟩=some(.int .i64 x.n)/\(((w4.setCell⟨kb,i,none⟩(.slice(some⟨w4.heap.size,0,none⟩) 1 1)).alloc(.cells #[.int .i64 x.k,.int .i64 x.n,stv x.nm,.slice ak x.kids.len ck] 34)).drew).cell?⟨gb,off+2,none⟩=some(stv x.nm)/\(((w4.setCell⟨kb,i,none⟩(.slice(some⟨w4.heap.size,0,none⟩) 1 1)).alloc(.cells #[.int .i64 x.k,.int .i64 x.n,stv x.nm,.slice ak x.kids.len ck] 34)).drew).cell?⟨gb,off+3,none⟩=some(.slice ak x.kids.len ck):=⟨(hcw _ _ hb2 hbx4).trans p1,(hcw _ _ hb2 hbx4).trans p3,(hcw _ _ hne hwb4).trans q2,(hcw _ _ hgp.2 hgl4).trans Y0,(hcw _ _ hgp.2 hgl4).trans Y1,(hcw _ _ hgp.2 hgl4).trans Y2,(hcw _ _ hgp.2 hgl4).trans Y3⟩
        have HP2:Hid(aT w wb kb(.slice(some⟨cb,coff,none⟩) cells.length capc) cells.length CR(.returned(.int .i64 k'))(((w4.setCell⟨kb,i,none⟩(.slice(some⟨w4.heap.size,0,none⟩) 1 1)).alloc(.cells #[.int .i64 x.k,.int .i64 x.n,stv x.nm,.slice ak x.kids.len ck] 34)).drew)):=by
         have h5:=HP.out;rw[World.setCell_alloc_past _ _ _ _ hkl4] at h5;exact⟨h5.1,h5.2.1.below⟨rfl,rfl,rfl,Nat.le_refl _,fun _ _=>rfl⟩,h5.2.2.trans(Kp.ofBelow⟨rfl,rfl,rfl,Nat.le_refl _,fun _ _=>rfl⟩)⟩
        clear HP hcw;go_wp2_with fail;go_region_held3(fun wx=>wx.cell?⟨bx,1,none⟩=some(.int .i64(i:Nat))/\wx.cell?⟨bx,3,none⟩=some(.slice(some⟨gb,off,none⟩) 1 cap)/\wx.cell?⟨wb,2,none⟩=some(.slice(some⟨kb,0,none⟩) cells.length cells.length)/\wx.cell?⟨gb,off,none⟩=some(.int .i64 x.k)/\wx.cell?⟨gb,off+1,none⟩=some(.int .i64 x.n)/\wx.cell?⟨gb,off+2,none⟩=some(stv x.nm)/\wx.cell?⟨gb,off+3,none⟩=some(.slice ak x.kids.len ck))(first|exact KA5|go_keep)(fail);clear KA5;go_wp2;exact bodyPost_ret(v:=.int .i64 k')(by simp[results,Tryz.results109,go_sem]) rfl HP2.out
theorem cI {cells:List Int}{k n:Int}{nm:List UInt8}{a:Int}{f:Fs}{ar wi:Nat}{s:Rg}(m g:Int)(hd:aD k n nm f.len=true)(hs:s.1+1<=4096)(hw:wi<=4)(h5:k=5->n<(ar:Int))(h21:k≠21)(h26:k≠26)(hf:∀ kd:List Int,kd.length=f.len->aZ k n kd=(List.replicate f.len m,g))(h0:g≠0)(h4:g≠4) :
  cP cells⟨k,n,nm,a,f⟩ ar wi s=anD(cE cells f(some(s.1+1,s.2)) m ar wi) g :=
 tE(wW(e:=⟨k,n,nm,a,f⟩) m g(iq(e:=⟨k,n,nm,a,f⟩) hd hs hw h5(fun h=>absurd h h26)) h21 h26 hf h0) h4
theorem zI {cells:List Int}{n:Int}{nm:List UInt8}{a:Int}{f:Fs}{ar wi:Nat}{s:Rg}(h:(ar:Int)<=n):cP cells ⟨5,n,nm,a,f⟩ ar wi s=none :=
 ik(fL(fun hg=>hg(.inr(.inr(.inr(by simp[nuP];omega))))))
theorem ld {cells:List Int}{k n:Int}{nm:List UInt8}{a:Int}{f:Fs}{ar wi:Nat}{s:Rg}(hk:22<=k/\k<=25):cP cells ⟨k,n,nm,a,f⟩ ar wi s=none:=by
 unfold cP;cases hr:rgE cells⟨k,n,nm,a,f⟩ ar wi s with
 | none=>rfl
 | some z =>
  obtain⟨s',kz⟩:=z;obtain⟨-,s1,kd,-,-,-,-,h5,-⟩:=dv hr;simp only at h5 ⊢;rw[if_pos];rw[h5];have hc:k=22\/k=23\/k=24\/k=25:=by omega
  rcases hc with rfl|rfl|rfl|rfl<;>rfl
theorem mU {cells:List Int}{k n:Int}{nm:List UInt8}{a:Int}{x y:Ex}{ar wi:Nat}{s:Rg}(hk:k=13\/k=14)(hd:aD k n nm 2=true)(hs:s.1+1<=4096)(hw:wi<=4) :
  cP cells⟨k,n,nm,a,Fs.ex x(Fs.ex y .nil)⟩ ar wi s=(match cP cells x ar wi(s.1+1,s.2) with|none=>none|some(s1,k0)=>anD(bH cells(some s1) k0 y ar wi) 2):=by
 have hg:=iq(cells:=cells)(ar:=ar)(e:=⟨k,n,nm,a,Fs.ex x(Fs.ex y .nil)⟩)(s:=s) hd hs hw(fun h=>absurd h(by simp only;omega))(fun h=>absurd h(by simp only;omega));unfold cP;rw[yR hk hg];cases rgE cells x ar wi(s.1+1,s.2) with
 | none=>rfl
 | some z =>
  obtain⟨s1,k1⟩:=z;simp only;by_cases h4:k1=4
  ·rw[if_pos h4,if_pos h4]
  ·rw[if_neg h4,if_neg h4];simp only;cases bH cells(some s1) k1 y ar wi with
   | none=>rfl
   | some s2=>rfl
theorem ri {cells:List Int}{n:Int}{nm:List UInt8}{a:Int}{x y z:Ex}{ar wi:Nat}{s:Rg}(hd:aD 19 n nm 3=true)(hs:s.1+1<=4096)(hw:wi<=4) :
  cP cells⟨19,n,nm,a,Fs.ex x(Fs.ex y(Fs.ex z .nil))⟩ ar wi s=(match bH cells(some(s.1+1,s.2)) 2 x ar wi with|none=>none|some s0=>match cP cells y ar wi s0 with|none=>none|some(s1,k0)=>anD(bH cells(some s1) k0 z ar wi) k0):=by
 have hg:=iq(cells:=cells)(ar:=ar)(e:=⟨19,n,nm,a,Fs.ex x(Fs.ex y(Fs.ex z .nil))⟩)(s:=s) hd hs hw(fun h=>absurd h(by simp only;omega))(fun h=>absurd h(by simp only;omega));unfold cP;rw[vV hg];cases bH cells(some(s.1+1,s.2)) 2 x ar wi with
 | none=>rfl
 | some s0 =>
  simp only;cases rgE cells y ar wi s0 with
  | none=>rfl
  | some u =>
   obtain⟨s1,k1⟩:=u;simp only;by_cases h4:k1=4
   ·rw[if_pos h4,if_pos h4]
   ·rw[if_neg h4,if_neg h4];simp only;cases bH cells(some s1) k1 z ar wi with
    | none=>rfl
    | some s2=>simp only[anD];rw[if_neg h4]
theorem vO {cells:List Int}{n:Int}{nm:List UInt8}{a:Int}{t x:Ex}{ar wi:Nat}{s:Rg}(hd:aD 21 n nm 2=true)(hs:s.1+1<=4096)(hw:wi<=4) :
  cP cells⟨21,n,nm,a,Fs.ex t(Fs.ex x .nil)⟩ ar wi s=anD(bH cells(bH cells(some(s.1+1,s.2)) 4 t ar(wi+1))(cG n) x(ar+1)(wi+1))(cq n):=by
 have hg:=iq(cells:=cells)(ar:=ar)(e:=⟨21,n,nm,a,Fs.ex t(Fs.ex x .nil)⟩)(s:=s) hd hs hw(fun h=>absurd h(by simp only;omega))(fun h=>absurd h(by simp only;omega));have hn:1<=n/\n<=6:=by simp[aD] at hd;omega
 exact tE(xz hg hn)(by unfold cq;split<;>omega)
theorem wC {cells:List Int}{n:Int}{nm:List UInt8}{a:Int}{x:Ex}{ar wi:Nat}{s:Rg}(hd:aD 26 n nm 1=true)(hs:s.1+1<=4096)(hw:wi<=4) :
  cP cells⟨26,n,nm,a,Fs.ex x .nil⟩ ar wi s=ir cells n x ar wi(s.1+1,s.2):=by
 unfold ir;by_cases h6:0<=n/\n<(cells.length:Int)
 ·have hg:=iq(cells:=cells)(ar:=ar)(e:=⟨26,n,nm,a,Fs.ex x .nil⟩)(s:=s) hd hs hw(fun h=>absurd h(by simp only;omega))(fun _=>h6);rw[if_pos h6];unfold cP;rw[AK hg];cases rgE cells x ar wi(s.1+1,s.2) with
  | none=>rfl
  | some z =>
   obtain⟨s1,k1⟩:=z;simp only;by_cases h4:k1=4
   ·rw[if_pos h4,if_pos h4]
   ·rw[if_neg h4,if_neg h4];simp only;cases cT cells n(Fs.ex x .nil) ar s1 with
    | none=>rfl
    | some s2=>simp only[anD];rw[if_neg h4]
 ·rw[if_neg h6];exact ik(fL(fun hg=>hg(.inr(.inr(.inr(by simp[nuP];omega))))))
def fk (cells:List Int)(st:Dg)(e:Ex)(ar wi:Nat):Option (Rg × Int):=match st with|none=>none|some s=>cP cells e ar wi s
theorem lG {N:Nat}(IH:jh N)(e:Ex)(ao:Option Addr)(cap wb kb:Nat)(bv:Value)(cells:List Int)(ar wi:Nat)(st:Dg)(w:World)(hN:e.kids.size<N)(hf:cr e)(hwi:wi<=4)(har:ar<=wi)(hne:wb≠kb)(h:WD w wb kb bv cells.length st)(hn:Inw w (Nf2 wb kb) bv cells)(S:SlN w (Nf2 wb kb) e.kids ao) :
  Calls Tryz.prog 54 #[.pointer(some⟨wb,0,none⟩),exN e ao cap,.int .i64(ar:Nat),.int .i64(wi:Nat)] w(aT w wb kb bv cells.length(fk cells st e ar wi)):=by
 cases st with
 | none=>exact pE e ao cap wb kb bv cells.length ar wi w h
 | some s=>exact IH e ao cap wb kb bv cells ar wi s w hN hf hwi har hne h hn S
theorem l9 {cells:List Int}{st:Dg}{e:Ex}{ar wi:Nat}{s:Rg}{k:Int}(h:fk cells st e ar wi=some (s,k)):k≠4:=by
 unfold fk at h;cases st with
 | none=>cases h
 | some s0 =>
  simp only[cP] at h;cases hr:rgE cells e ar wi s0 with
  | none=>rw[hr] at h;cases h
  | some z =>
   obtain⟨s',kz⟩:=z;rw[hr] at h;simp only at h;split at h
   ·cases h
   ·injection h with h
    injection h with h1 h2
    omega
theorem qW {N:Nat}(IH:jh N):jh (N+1):=by
 intro e ao cap wb kb bv cells ar wi s w hN hf hwi har hne h hn S;obtain⟨k0,n,nm,a,f⟩:=e;simp only at hN S;obtain⟨Z,hZ⟩:∃Z,Z=cP cells⟨k0,n,nm,a,f⟩ ar wi s:=⟨_,rfl⟩
 rw[<-hZ];have HZ:Hid(Z=cP cells⟨k0,n,nm,a,f⟩ ar wi s):=hZ;clear hZ;have hlen:=hf.len;simp only at hlen;have B0:Below w.heap.size w(w.alloc(.cells #[.int .i64 k0,.int .i64 n,stv nm,.slice ao f.len cap] 34)):=(Below.refl _ w).alloc(Nat.le_refl _) _;have E0:(w.alloc(.cells #[.int .i64 k0,.int .i64 n,stv nm,.slice ao f.len cap] 34)).heap[w.heap.size]?=some(.cells #[.int .i64 k0,.int .i64 n,stv nm,.slice ao f.len cap] 34):=heap_alloc_new w _;have W0:=h.below B0;have S0:=S.belowP B0;have N0:=hn.below B0;have hwb:=h.lt;have hkb:=h.ltk;clear h S hn;rw[ah];go_enter Tryz.func54,Tryz.ntmps54;go_upto_region 1 with fail;generalize w.alloc(.cells #[.int .i64 k0,.int .i64 n,stv nm,.slice ao f.len cap] 34)=w0 at *;have KK:Kp wb kb w w0:=Kp.ofBelow B0;obtain⟨bx,hbx⟩:∃bx,bx=w.heap.size:=⟨_,rfl⟩
 rw[<-hbx] at E0 ⊢;have hb1:bx≠wb:=by omega
 have hb2:bx≠kb:=by omega
 have hkb0:=W0.ltk;obtain⟨W0,hs,KT0⟩:=W0;obtain⟨q0,q1,q2,q3,qf⟩:=aI W0;have F1:=(f7 W0(.int .i64((s.1:Int)+1))).1;have K1:=KK.set⟨wb,1,none⟩(.int .i64((s.1:Int)+1))(.inr(.inl rfl));have E1:=(heap_setCell_other w0⟨wb,1,none⟩ bx(.int .i64((s.1:Int)+1)) hb1).trans E0;have N1:=N0.set⟨wb,1,none⟩(.int .i64((s.1:Int)+1)) rfl;have S1:=S0.set⟨wb,1,none⟩(.int .i64((s.1:Int)+1)) rfl;have KT1:=KT0.set⟨wb,1,none⟩(.int .i64((s.1:Int)+1)) rfl hne;have hk1:kb<(w0.setCell⟨wb,1,none⟩(.int .i64((s.1:Int)+1))).heap.size:=by simpa using hkb0
 clear hbx hwb hkb B0 E0 KK N0 S0 KT0 W0;go_upto_region 2 with fail;generalize w0.setCell⟨wb,1,none⟩(.int .i64((s.1:Int)+1))=w1 at *;clear q0 q1 q2 q3 qf hkb0;obtain⟨q0,q1,q2,q3,qf⟩:=aI F1;obtain⟨p0,p1,p2,p3,pf⟩:=aI E1;have c1:=yb⟨k0,n,nm,a,f⟩ ao cap w1 hf.nm;rw[ah] at c1;simp only at c1;have BAD:∀ {w2:World}{g:Int},Z=none->Below w1.heap.size w1 w2->Hid(aT w wb kb bv cells.length Z(.returned(.int .i64 g))(w2.setCell⟨wb,3,none⟩(.bool false))):=by
  intro w2 g hz b2;rw[hz];exact⟨⟨g,rfl,fun s k h=>by cases h⟩,⟨by simpa using Nat.lt_of_lt_of_le hk1 b2.size,_,_,(f7((b2.block _(lt_of_block F1)).trans F1)(.bool false)).2⟩,(K1.trans(Kp.ofBelow b2)).set _ _(.inr(.inl rfl))⟩
 by_cases hs1:4096<s.1+1
 ·have HR:=BAD(g:=0)(by rw[HZ.out];exact ik(fL(fun hg=>hg(.inl hs1))))(Below.refl _ w1);have hI:(4096:Int)<(s.1:Int)+1:=by omega
  clear BAD HZ c1 p0 p1 p2 p3 N1 S1 E1 KT1 K1;go_wp2;exact bodyPost_ret(v:=.int .i64 0)(by simp[results,Tryz.results54,go_sem]) rfl HR.out
 have hI:¬(4096:Int)<(s.1:Int)+1:=by omega
 go_wp2_with fail;refine c1.mono ?_;rintro x w2⟨rfl,b2⟩;have F2:=(b2.block _(lt_of_block F1)).trans F1;have E2:=(b2.block _(lt_of_block E1)).trans E1;have N2:=N1.below b2;have S2:=S1.belowP b2;have hkt:=KT1;obtain⟨arr,hkx,-⟩:=hkt;have KT2:=KT1.mono(b2.block _(lt_of_block hkx))(fun i _ hl=>b2.block i hl) b2.size;have K2:=K1.trans(Kp.ofBelow b2);cases hd:aD k0 n nm f.len with
 | false =>
  have HR:=BAD(g:=0)(by rw[HZ.out];exact ik(pA(e:=⟨k0,n,nm,a,f⟩) hd)) b2;clear c1 BAD HZ q0 q1 q2 q3 qf p0 p1 p2 p3 pf hkx;obtain⟨q0,q1,q2,q3,qf⟩:=aI F2;obtain⟨p0,p1,p2,p3,pf⟩:=aI E2;clear F1 E1 N1 S1 KT1 K1 K2 KT2 N2 S2 F2 E2;go_wp2;exact bodyPost_ret(v:=.int .i64 0)(by simp[results,Tryz.results54,go_sem]) rfl HR.out
 | true =>
 have hs2:s.1+1<=4096:=by omega
 have W2:WD w2 wb kb bv cells.length(some(s.1+1,s.2)):=⟨F2,hs2,KT2⟩
 have BADS:=fun(g:Int)(hz:Z=none)=>BAD(g:=g) hz b2;clear c1 BAD q0 q1 q2 q3 qf p0 p1 p2 p3 pf hkx F1 E1 N1 S1 KT1 K1 KT2 b2 hs hk1 hs1 hI;have hkk:=dK hd;obtain⟨p0,p1,p2,p3,pf⟩:=aI E2;obtain⟨q0,q1,q2,q3,qf⟩:=aI F2;clear F2;go_upto_region 5 with fail;rcases hkk with rfl|rfl|rfl|rfl|rfl|rfl|rfl|rfl|rfl|rfl|rfl|rfl|rfl|rfl|rfl|rfl|rfl|rfl|rfl|rfl|rfl|rfl|rfl|rfl|rfl
 ·have hl:f.len=0:=by simp[aD] at hd;omega
  have HR:Hid(aT w wb kb bv cells.length Z(.returned(.int .i64 1)) w2):=by
   show aT w wb kb bv cells.length Z(.returned(.int .i64 1)) w2;rw[HZ.out,cI 1 1 hd hs2 hwi(fun h=>absurd h(by decide))(by decide)(by decide)(fun kd hk=>by rw[hl];rfl)(by decide)(by decide)];exact cM(st:=some(s.1+1,s.2))(by rw[qp hl];rfl) W2 K2
  clear HZ BADS W2 N2 S2 K2 E2 hd;go_wp2;exact bodyPost_ret(v:=.int .i64 1)(by simp[results,Tryz.results54,go_sem]) rfl HR.out
 ·have hl:f.len=0:=by simp[aD] at hd;omega
  have HR:Hid(aT w wb kb bv cells.length Z(.returned(.int .i64 2)) w2):=by
   show aT w wb kb bv cells.length Z(.returned(.int .i64 2)) w2;rw[HZ.out,cI 1 2 hd hs2 hwi(fun h=>absurd h(by decide))(by decide)(by decide)(fun kd hk=>by rw[hl];rfl)(by decide)(by decide)];exact cM(st:=some(s.1+1,s.2))(by rw[qp hl];rfl) W2 K2
  clear HZ BADS W2 N2 S2 K2 E2 hd;go_wp2;exact bodyPost_ret(v:=.int .i64 2)(by simp[results,Tryz.results54,go_sem]) rfl HR.out
 ·have hl:f.len=0:=by simp[aD] at hd;omega
  have HR:Hid(aT w wb kb bv cells.length Z(.returned(.int .i64 3)) w2):=by
   show aT w wb kb bv cells.length Z(.returned(.int .i64 3)) w2;rw[HZ.out,cI 1 3 hd hs2 hwi(fun h=>absurd h(by decide))(by decide)(by decide)(fun kd hk=>by rw[hl];rfl)(by decide)(by decide)];exact cM(st:=some(s.1+1,s.2))(by rw[qp hl];rfl) W2 K2
  clear HZ BADS W2 N2 S2 K2 E2 hd;go_wp2;exact bodyPost_ret(v:=.int .i64 3)(by simp[results,Tryz.results54,go_sem]) rfl HR.out
 ·by_cases hv:(ar:Int)<=n
  ·have HR:=BADS 3(by rw[HZ.out];exact zI hv);clear HZ BADS W2 N2 S2 K2 E2 hd;go_wp2;exact bodyPost_ret(v:=.int .i64 3)(by simp[results,Tryz.results54,go_sem]) rfl HR.out
  have hl:f.len=0:=by simp[aD] at hd;omega
  have HR:Hid(aT w wb kb bv cells.length Z(.returned(.int .i64 3)) w2):=by
   show aT w wb kb bv cells.length Z(.returned(.int .i64 3)) w2;rw[HZ.out,cI 1 3 hd hs2 hwi(fun _=>by omega)(by decide)(by decide)(fun kd hk=>by rw[hl];rfl)(by decide)(by decide)];exact cM(st:=some(s.1+1,s.2))(by rw[qp hl];rfl) W2 K2
  clear HZ BADS W2 N2 S2 K2 E2 hd;go_wp2;exact bodyPost_ret(v:=.int .i64 3)(by simp[results,Tryz.results54,go_sem]) rfl HR.out
 ·have hl:f.len=1:=by simp[aD] at hd;omega
  have HZ2:Hid(Z=anD(cE cells f(some(s.1+1,s.2)) 1 ar wi) 1):=HZ.out.trans(cI 1 1 hd hs2 hwi(fun h=>absurd h(by decide))(by decide)(by decide)(fun kd hk=>by rw[hl];rfl)(by decide)(by decide));have c1:=fun k=>fV IH⟨k,n,nm,a,f⟩ ao cap wb kb bv cells ar wi 1 1(some(s.1+1,s.2)) w2(by simp only;omega)⟨hf.nm,hf.len,hf.sh⟩ hwi har hne(by decide) W2 N2 S2;simp only[ah] at c1;clear HZ BADS hd hl;go_wp2_with fail;refine(c1 _).mono ?_;rintro z w3⟨rfl,W3,K3⟩;have HR:Hid(aT w wb kb bv cells.length Z(.returned(.int .i64 1)) w3):=cM HZ2.out W3(K2.trans K3);clear c1 W3 K3 HZ2 p0 p1 p2 p3 pf q0 q1 q2 q3 qf W2 N2 S2 K2 E2;go_wp2;exact bodyPost_ret(v:=.int .i64 1)(by simp[results,Tryz.results54,go_sem]) rfl HR.out
 ·have hl:f.len=1:=by simp[aD] at hd;omega
  have HZ2:Hid(Z=anD(cE cells f(some(s.1+1,s.2)) 2 ar wi) 2):=HZ.out.trans(cI 2 2 hd hs2 hwi(fun h=>absurd h(by decide))(by decide)(by decide)(fun kd hk=>by rw[hl];rfl)(by decide)(by decide));have c1:=fun k=>fV IH⟨k,n,nm,a,f⟩ ao cap wb kb bv cells ar wi 2 2(some(s.1+1,s.2)) w2(by simp only;omega)⟨hf.nm,hf.len,hf.sh⟩ hwi har hne(by decide) W2 N2 S2;simp only[ah] at c1;clear HZ BADS hd hl;go_wp2_with fail;refine(c1 _).mono ?_;rintro z w3⟨rfl,W3,K3⟩;have HR:Hid(aT w wb kb bv cells.length Z(.returned(.int .i64 2)) w3):=cM HZ2.out W3(K2.trans K3);clear c1 W3 K3 HZ2 p0 p1 p2 p3 pf q0 q1 q2 q3 qf W2 N2 S2 K2 E2;go_wp2;exact bodyPost_ret(v:=.int .i64 2)(by simp[results,Tryz.results54,go_sem]) rfl HR.out
 ·have hl:f.len=2:=by simp[aD] at hd;omega
  have HZ2:Hid(Z=anD(cE cells f(some(s.1+1,s.2)) 1 ar wi) 1):=HZ.out.trans(cI 1 1 hd hs2 hwi(fun h=>absurd h(by decide))(by decide)(by decide)(fun kd hk=>by rw[hl];rfl)(by decide)(by decide));have c1:=fun k=>fV IH⟨k,n,nm,a,f⟩ ao cap wb kb bv cells ar wi 1 1(some(s.1+1,s.2)) w2(by simp only;omega)⟨hf.nm,hf.len,hf.sh⟩ hwi har hne(by decide) W2 N2 S2;simp only[ah] at c1;clear HZ BADS hd hl;go_wp2_with fail;refine(c1 _).mono ?_;rintro z w3⟨rfl,W3,K3⟩;have HR:Hid(aT w wb kb bv cells.length Z(.returned(.int .i64 1)) w3):=cM HZ2.out W3(K2.trans K3);clear c1 W3 K3 HZ2 p0 p1 p2 p3 pf q0 q1 q2 q3 qf W2 N2 S2 K2 E2;go_wp2;exact bodyPost_ret(v:=.int .i64 1)(by simp[results,Tryz.results54,go_sem]) rfl HR.out
 ·have hl:f.len=2:=by simp[aD] at hd;omega
  have HZ2:Hid(Z=anD(cE cells f(some(s.1+1,s.2)) 1 ar wi) 1):=HZ.out.trans(cI 1 1 hd hs2 hwi(fun h=>absurd h(by decide))(by decide)(by decide)(fun kd hk=>by rw[hl];rfl)(by decide)(by decide));have c1:=fun k=>fV IH⟨k,n,nm,a,f⟩ ao cap wb kb bv cells ar wi 1 1(some(s.1+1,s.2)) w2(by simp only;omega)⟨hf.nm,hf.len,hf.sh⟩ hwi har hne(by decide) W2 N2 S2;simp only[ah] at c1;clear HZ BADS hd hl;go_wp2_with fail;refine(c1 _).mono ?_;rintro z w3⟨rfl,W3,K3⟩;have HR:Hid(aT w wb kb bv cells.length Z(.returned(.int .i64 1)) w3):=cM HZ2.out W3(K2.trans K3);clear c1 W3 K3 HZ2 p0 p1 p2 p3 pf q0 q1 q2 q3 qf W2 N2 S2 K2 E2;go_wp2;exact bodyPost_ret(v:=.int .i64 1)(by simp[results,Tryz.results54,go_sem]) rfl HR.out
 ·have hl:f.len=2:=by simp[aD] at hd;omega
  have HZ2:Hid(Z=anD(cE cells f(some(s.1+1,s.2)) 1 ar wi) 1):=HZ.out.trans(cI 1 1 hd hs2 hwi(fun h=>absurd h(by decide))(by decide)(by decide)(fun kd hk=>by rw[hl];rfl)(by decide)(by decide));have c1:=fun k=>fV IH⟨k,n,nm,a,f⟩ ao cap wb kb bv cells ar wi 1 1(some(s.1+1,s.2)) w2(by simp only;omega)⟨hf.nm,hf.len,hf.sh⟩ hwi har hne(by decide) W2 N2 S2;simp only[ah] at c1;clear HZ BADS hd hl;go_wp2_with fail;refine(c1 _).mono ?_;rintro z w3⟨rfl,W3,K3⟩;have HR:Hid(aT w wb kb bv cells.length Z(.returned(.int .i64 1)) w3):=cM HZ2.out W3(K2.trans K3);clear c1 W3 K3 HZ2 p0 p1 p2 p3 pf q0 q1 q2 q3 qf W2 N2 S2 K2 E2;go_wp2;exact bodyPost_ret(v:=.int .i64 1)(by simp[results,Tryz.results54,go_sem]) rfl HR.out
 ·have hl:f.len=2:=by simp[aD] at hd;omega
  have HZ2:Hid(Z=anD(cE cells f(some(s.1+1,s.2)) 1 ar wi) 1):=HZ.out.trans(cI 1 1 hd hs2 hwi(fun h=>absurd h(by decide))(by decide)(by decide)(fun kd hk=>by rw[hl];rfl)(by decide)(by decide));have c1:=fun k=>fV IH⟨k,n,nm,a,f⟩ ao cap wb kb bv cells ar wi 1 1(some(s.1+1,s.2)) w2(by simp only;omega)⟨hf.nm,hf.len,hf.sh⟩ hwi har hne(by decide) W2 N2 S2;simp only[ah] at c1;clear HZ BADS hd hl;go_wp2_with fail;refine(c1 _).mono ?_;rintro z w3⟨rfl,W3,K3⟩;have HR:Hid(aT w wb kb bv cells.length Z(.returned(.int .i64 1)) w3):=cM HZ2.out W3(K2.trans K3);clear c1 W3 K3 HZ2 p0 p1 p2 p3 pf q0 q1 q2 q3 qf W2 N2 S2 K2 E2;go_wp2;exact bodyPost_ret(v:=.int .i64 1)(by simp[results,Tryz.results54,go_sem]) rfl HR.out
 ·have hl:f.len=2:=by simp[aD] at hd;omega
  have HZ2:Hid(Z=anD(cE cells f(some(s.1+1,s.2)) 1 ar wi) 1):=HZ.out.trans(cI 1 1 hd hs2 hwi(fun h=>absurd h(by decide))(by decide)(by decide)(fun kd hk=>by rw[hl];rfl)(by decide)(by decide));have c1:=fun k=>fV IH⟨k,n,nm,a,f⟩ ao cap wb kb bv cells ar wi 1 1(some(s.1+1,s.2)) w2(by simp only;omega)⟨hf.nm,hf.len,hf.sh⟩ hwi har hne(by decide) W2 N2 S2;simp only[ah] at c1;clear HZ BADS hd hl;go_wp2_with fail;refine(c1 _).mono ?_;rintro z w3⟨rfl,W3,K3⟩;have HR:Hid(aT w wb kb bv cells.length Z(.returned(.int .i64 1)) w3):=cM HZ2.out W3(K2.trans K3);clear c1 W3 K3 HZ2 p0 p1 p2 p3 pf q0 q1 q2 q3 qf W2 N2 S2 K2 E2;go_wp2;exact bodyPost_ret(v:=.int .i64 1)(by simp[results,Tryz.results54,go_sem]) rfl HR.out
 ·have hl:f.len=2:=by simp[aD] at hd;omega
  obtain⟨x,y,rfl⟩:=fI hl;have HZ2:Hid(Z=(match cP cells x ar wi(s.1+1,s.2) with|none=>none|some(s1,k0)=>anD(bH cells(some s1) k0 y ar wi) 2)):=HZ.out.trans(mU(by decide) hd hs2 hwi);have hfx:cr x:=cr.kid(e:=⟨13,n,nm,a,Fs.ex x(Fs.ex y .nil)⟩)(d:=.nil)⟨hf.nm,hf.len,hf.sh⟩ rfl;have hfy:cr y:=cr.kid(e:=⟨13,n,nm,a,Fs.ex x(Fs.ex y .nil)⟩)(d:=Fs.ex x .nil)⟨hf.nm,hf.len,hf.sh⟩ rfl;have hsz:x.kids.size+(y.kids.size+0+1)+1<N+1:=hN;rw[hl] at p3 E2;obtain⟨gb0,off0,ak,ck,hao,x0,x1,x2,x3,SK⟩:=SlN.kidP(x:=.nil)(r:=Fs.ex y .nil)(y:=x) S2 0 rfl;subst hao;simp only[Nat.zero_mul,Nat.add_zero] at x0 x1 x2 x3;have c1:=lG IH x ak ck wb kb bv cells ar wi(some(s.1+1,s.2)) w2(by omega) hfx hwi har hne W2 N2 SK;rw[ah] at c1;simp only[hl];clear HZ BADS hd;go_wp2_with fail;refine c1.mono ?_;rintro z w3⟨⟨k',rfl,hk'⟩,W3,K3⟩;have E3:=(K3.block _(lt_of_block E2) hb1 hb2).trans E2;have S3:=S2.kp K3;have N3:=N2.kp K3;have KK3:=K2.trans K3;clear c1 p0 p1 p2 p3 pf q0 q1 q2 q3 qf x0 x1 x2 x3 SK S2 W2 N2 E2 K2 K3;obtain⟨p0,p1,p2,p3,pf⟩:=aI E3;have HZ3:Hid(Z=anD(bH cells((fk cells(some(s.1+1,s.2)) x ar wi).map(·.1)) k' y ar wi) 2):=by
   show Z=_;rw[HZ2.out];simp only[fk];cases hc:cP cells x ar wi(s.1+1,s.2) with
   | none=>rfl
   | some u=>obtain⟨s1,k1⟩:=u;rw[hk' s1 k1(by simp only[fk];exact hc)];rfl
  have hm:(fk cells(some(s.1+1,s.2)) x ar wi).map(·.1)≠none->k'≠4:=by
   intro h;cases hc:fk cells(some(s.1+1,s.2)) x ar wi with
   | none=>rw[hc] at h;exact absurd rfl h
   | some u=>obtain⟨s1,k1⟩:=u;rw[hk' s1 k1 hc];exact l9 hc
  clear HZ2 hk';generalize(fk cells(some(s.1+1,s.2)) x ar wi).map(·.1)=st1 at *;obtain⟨gb1,off1,ak,ck,hao,x0,x1,x2,x3,SK⟩:=SlN.kidP(x:=Fs.ex x .nil)(r:=.nil)(y:=y) S3 1 rfl;injection hao with hao
  injection hao with h1 h2
  subst h1;subst h2;simp only[Nat.one_mul] at x0 x1 x2 x3;have c2:=iQ IH y ak ck wb kb bv cells ar wi k' st1 w3(fun _=>by omega) hfy hwi har hne hm W3 N3 SK;rw[ah] at c2;go_wp2_with fail;refine c2.mono ?_;rintro z w4⟨rfl,W4,K4⟩;have HR:Hid(aT w wb kb bv cells.length Z(.returned(.int .i64 2)) w4):=cM HZ3.out W4(KK3.trans K4);clear c2 W4 K4 HZ3 p0 p1 p2 p3 pf x0 x1 x2 x3 SK S3 W3 N3 E3 KK3;go_wp2;exact bodyPost_ret(v:=.int .i64 2)(by simp[results,Tryz.results54,go_sem]) rfl HR.out
 ·have hl:f.len=2:=by simp[aD] at hd;omega
  obtain⟨x,y,rfl⟩:=fI hl;have HZ2:Hid(Z=(match cP cells x ar wi(s.1+1,s.2) with|none=>none|some(s1,k0)=>anD(bH cells(some s1) k0 y ar wi) 2)):=HZ.out.trans(mU(by decide) hd hs2 hwi);have hfx:cr x:=cr.kid(e:=⟨13,n,nm,a,Fs.ex x(Fs.ex y .nil)⟩)(d:=.nil)⟨hf.nm,hf.len,hf.sh⟩ rfl;have hfy:cr y:=cr.kid(e:=⟨13,n,nm,a,Fs.ex x(Fs.ex y .nil)⟩)(d:=Fs.ex x .nil)⟨hf.nm,hf.len,hf.sh⟩ rfl;have hsz:x.kids.size+(y.kids.size+0+1)+1<N+1:=hN;rw[hl] at p3 E2;obtain⟨gb0,off0,ak,ck,hao,x0,x1,x2,x3,SK⟩:=SlN.kidP(x:=.nil)(r:=Fs.ex y .nil)(y:=x) S2 0 rfl;subst hao;simp only[Nat.zero_mul,Nat.add_zero] at x0 x1 x2 x3;have c1:=lG IH x ak ck wb kb bv cells ar wi(some(s.1+1,s.2)) w2(by omega) hfx hwi har hne W2 N2 SK;rw[ah] at c1;simp only[hl];clear HZ BADS hd;go_wp2_with fail;refine c1.mono ?_;rintro z w3⟨⟨k',rfl,hk'⟩,W3,K3⟩;have E3:=(K3.block _(lt_of_block E2) hb1 hb2).trans E2;have S3:=S2.kp K3;have N3:=N2.kp K3;have KK3:=K2.trans K3;clear c1 p0 p1 p2 p3 pf q0 q1 q2 q3 qf x0 x1 x2 x3 SK S2 W2 N2 E2 K2 K3;obtain⟨p0,p1,p2,p3,pf⟩:=aI E3;have HZ3:Hid(Z=anD(bH cells((fk cells(some(s.1+1,s.2)) x ar wi).map(·.1)) k' y ar wi) 2):=by
   show Z=_;rw[HZ2.out];simp only[fk];cases hc:cP cells x ar wi(s.1+1,s.2) with
   | none=>rfl
   | some u=>obtain⟨s1,k1⟩:=u;rw[hk' s1 k1(by simp only[fk];exact hc)];rfl
  have hm:(fk cells(some(s.1+1,s.2)) x ar wi).map(·.1)≠none->k'≠4:=by
   intro h;cases hc:fk cells(some(s.1+1,s.2)) x ar wi with
   | none=>rw[hc] at h;exact absurd rfl h
   | some u=>obtain⟨s1,k1⟩:=u;rw[hk' s1 k1 hc];exact l9 hc
  clear HZ2 hk';generalize(fk cells(some(s.1+1,s.2)) x ar wi).map(·.1)=st1 at *;obtain⟨gb1,off1,ak,ck,hao,x0,x1,x2,x3,SK⟩:=SlN.kidP(x:=Fs.ex x .nil)(r:=.nil)(y:=y) S3 1 rfl;injection hao with hao
  injection hao with h1 h2
  subst h1;subst h2;simp only[Nat.one_mul] at x0 x1 x2 x3;have c2:=iQ IH y ak ck wb kb bv cells ar wi k' st1 w3(fun _=>by omega) hfy hwi har hne hm W3 N3 SK;rw[ah] at c2;go_wp2_with fail;refine c2.mono ?_;rintro z w4⟨rfl,W4,K4⟩;have HR:Hid(aT w wb kb bv cells.length Z(.returned(.int .i64 2)) w4):=cM HZ3.out W4(KK3.trans K4);clear c2 W4 K4 HZ3 p0 p1 p2 p3 pf x0 x1 x2 x3 SK S3 W3 N3 E3 KK3;go_wp2;exact bodyPost_ret(v:=.int .i64 2)(by simp[results,Tryz.results54,go_sem]) rfl HR.out
 ·have hl:f.len=2:=by simp[aD] at hd;omega
  have HZ2:Hid(Z=anD(cE cells f(some(s.1+1,s.2)) 1 ar wi) 2):=HZ.out.trans(cI 1 2 hd hs2 hwi(fun h=>absurd h(by decide))(by decide)(by decide)(fun kd hk=>by rw[hl];rfl)(by decide)(by decide));have c1:=fun k=>fV IH⟨k,n,nm,a,f⟩ ao cap wb kb bv cells ar wi 1 2(some(s.1+1,s.2)) w2(by simp only;omega)⟨hf.nm,hf.len,hf.sh⟩ hwi har hne(by decide) W2 N2 S2;simp only[ah] at c1;clear HZ BADS hd hl;go_wp2_with fail;refine(c1 _).mono ?_;rintro z w3⟨rfl,W3,K3⟩;have HR:Hid(aT w wb kb bv cells.length Z(.returned(.int .i64 2)) w3):=cM HZ2.out W3(K2.trans K3);clear c1 W3 K3 HZ2 p0 p1 p2 p3 pf q0 q1 q2 q3 qf W2 N2 S2 K2 E2;go_wp2;exact bodyPost_ret(v:=.int .i64 2)(by simp[results,Tryz.results54,go_sem]) rfl HR.out
 ·have hl:f.len=2:=by simp[aD] at hd;omega
  have HZ2:Hid(Z=anD(cE cells f(some(s.1+1,s.2)) 1 ar wi) 2):=HZ.out.trans(cI 1 2 hd hs2 hwi(fun h=>absurd h(by decide))(by decide)(by decide)(fun kd hk=>by rw[hl];rfl)(by decide)(by decide));have c1:=fun k=>fV IH⟨k,n,nm,a,f⟩ ao cap wb kb bv cells ar wi 1 2(some(s.1+1,s.2)) w2(by simp only;omega)⟨hf.nm,hf.len,hf.sh⟩ hwi har hne(by decide) W2 N2 S2;simp only[ah] at c1;clear HZ BADS hd hl;go_wp2_with fail;refine(c1 _).mono ?_;rintro z w3⟨rfl,W3,K3⟩;have HR:Hid(aT w wb kb bv cells.length Z(.returned(.int .i64 2)) w3):=cM HZ2.out W3(K2.trans K3);clear c1 W3 K3 HZ2 p0 p1 p2 p3 pf q0 q1 q2 q3 qf W2 N2 S2 K2 E2;go_wp2;exact bodyPost_ret(v:=.int .i64 2)(by simp[results,Tryz.results54,go_sem]) rfl HR.out
 ·have hl:f.len=2:=by simp[aD] at hd;omega
  have HZ2:Hid(Z=anD(cE cells f(some(s.1+1,s.2)) 2 ar wi) 2):=HZ.out.trans(cI 2 2 hd hs2 hwi(fun h=>absurd h(by decide))(by decide)(by decide)(fun kd hk=>by rw[hl];rfl)(by decide)(by decide));have c1:=fun k=>fV IH⟨k,n,nm,a,f⟩ ao cap wb kb bv cells ar wi 2 2(some(s.1+1,s.2)) w2(by simp only;omega)⟨hf.nm,hf.len,hf.sh⟩ hwi har hne(by decide) W2 N2 S2;simp only[ah] at c1;clear HZ BADS hd hl;go_wp2_with fail;refine(c1 _).mono ?_;rintro z w3⟨rfl,W3,K3⟩;have HR:Hid(aT w wb kb bv cells.length Z(.returned(.int .i64 2)) w3):=cM HZ2.out W3(K2.trans K3);clear c1 W3 K3 HZ2 p0 p1 p2 p3 pf q0 q1 q2 q3 qf W2 N2 S2 K2 E2;go_wp2;exact bodyPost_ret(v:=.int .i64 2)(by simp[results,Tryz.results54,go_sem]) rfl HR.out
 ·have hl:f.len=2:=by simp[aD] at hd;omega
  have HZ2:Hid(Z=anD(cE cells f(some(s.1+1,s.2)) 2 ar wi) 2):=HZ.out.trans(cI 2 2 hd hs2 hwi(fun h=>absurd h(by decide))(by decide)(by decide)(fun kd hk=>by rw[hl];rfl)(by decide)(by decide));have c1:=fun k=>fV IH⟨k,n,nm,a,f⟩ ao cap wb kb bv cells ar wi 2 2(some(s.1+1,s.2)) w2(by simp only;omega)⟨hf.nm,hf.len,hf.sh⟩ hwi har hne(by decide) W2 N2 S2;simp only[ah] at c1;clear HZ BADS hd hl;go_wp2_with fail;refine(c1 _).mono ?_;rintro z w3⟨rfl,W3,K3⟩;have HR:Hid(aT w wb kb bv cells.length Z(.returned(.int .i64 2)) w3):=cM HZ2.out W3(K2.trans K3);clear c1 W3 K3 HZ2 p0 p1 p2 p3 pf q0 q1 q2 q3 qf W2 N2 S2 K2 E2;go_wp2;exact bodyPost_ret(v:=.int .i64 2)(by simp[results,Tryz.results54,go_sem]) rfl HR.out
 ·have hl:f.len=3:=by simp[aD] at hd;omega
  obtain⟨x,y,u,rfl⟩:=Bg hl;have HZ2:Hid(Z=(match bH cells(some(s.1+1,s.2)) 2 x ar wi with|none=>none|some s0=>match cP cells y ar wi s0 with|none=>none|some(s1,k0)=>anD(bH cells(some s1) k0 u ar wi) k0)):=HZ.out.trans(ri hd hs2 hwi);have hfx:cr x:=cr.kid(e:=⟨13,n,nm,a,Fs.ex x(Fs.ex y(Fs.ex u .nil))⟩)(d:=.nil)⟨hf.nm,hf.len,hf.sh⟩ rfl;have hfy:cr y:=cr.kid(e:=⟨13,n,nm,a,Fs.ex x(Fs.ex y(Fs.ex u .nil))⟩)(d:=Fs.ex x .nil)⟨hf.nm,hf.len,hf.sh⟩ rfl;have hfu:cr u:=cr.kid(e:=⟨13,n,nm,a,Fs.ex x(Fs.ex y(Fs.ex u .nil))⟩)(d:=Fs.ex x(Fs.ex y .nil))⟨hf.nm,hf.len,hf.sh⟩ rfl;have hsz:x.kids.size+(y.kids.size+(u.kids.size+0+1)+1)+1<N+1:=hN;rw[hl] at p3 E2;obtain⟨gb0,off0,ak,ck,hao,x0,x1,x2,x3,SK⟩:=SlN.kidP(x:=.nil)(r:=Fs.ex y(Fs.ex u .nil))(y:=x) S2 0 rfl;subst hao;simp only[Nat.zero_mul,Nat.add_zero] at x0 x1 x2 x3;have c1:=iQ IH x ak ck wb kb bv cells ar wi 2(some(s.1+1,s.2)) w2(fun _=>by omega) hfx hwi har hne(fun _=>by decide) W2 N2 SK;rw[ah] at c1;simp only[hl];clear HZ BADS hd;go_wp2_with fail;refine c1.mono ?_;rintro z w3⟨rfl,W3,K3⟩;have E3:=(K3.block _(lt_of_block E2) hb1 hb2).trans E2;have S3:=S2.kp K3;have N3:=N2.kp K3;have KK3:=K2.trans K3;clear c1 p0 p1 p2 p3 pf q0 q1 q2 q3 qf x0 x1 x2 x3 SK S2 W2 N2 E2 K2 K3;obtain⟨p0,p1,p2,p3,pf⟩:=aI E3;generalize bH cells(some(s.1+1,s.2)) 2 x ar wi=st0 at *;obtain⟨gb1,off1,ak,ck,hao,x0,x1,x2,x3,SK⟩:=SlN.kidP(x:=Fs.ex x .nil)(r:=Fs.ex u .nil)(y:=y) S3 1 rfl;injection hao with hao
  injection hao with h1 h2
  subst h1;subst h2;simp only[Nat.one_mul] at x0 x1 x2 x3;have c2:=lG IH y ak ck wb kb bv cells ar wi st0 w3(by omega) hfy hwi har hne W3 N3 SK;rw[ah] at c2;go_wp2_with fail;refine c2.mono ?_;rintro z w4⟨⟨k',rfl,hk'⟩,W4,K4⟩;have E4:=(K4.block _(lt_of_block E3) hb1 hb2).trans E3;have S4:=S3.kp K4;have N4:=N3.kp K4;have KK4:=KK3.trans K4;clear c2 p0 p1 p2 p3 pf x0 x1 x2 x3 SK S3 W3 N3 E3 KK3 K4;obtain⟨p0,p1,p2,p3,pf⟩:=aI E4;have HZ3:Hid(Z=anD(bH cells((fk cells st0 y ar wi).map(·.1)) k' u ar wi) k'):=by
   show Z=_;rw[HZ2.out];cases st0 with
   | none=>rfl
   | some s0 =>
    simp only[fk];cases hc:cP cells y ar wi s0 with
    | none=>rfl
    | some v=>obtain⟨s1,k1⟩:=v;rw[hk' s1 k1(by simp only[fk];exact hc)];rfl
  have hm:(fk cells st0 y ar wi).map(·.1)≠none->k'≠4:=by
   intro h;cases hc:fk cells st0 y ar wi with
   | none=>rw[hc] at h;exact absurd rfl h
   | some v=>obtain⟨s1,k1⟩:=v;rw[hk' s1 k1 hc];exact l9 hc
  clear HZ2 hk';generalize(fk cells st0 y ar wi).map(·.1)=st1 at *;obtain⟨gb2,off2,ak,ck,hao,x0,x1,x2,x3,SK⟩:=SlN.kidP(x:=Fs.ex x(Fs.ex y .nil))(r:=.nil)(y:=u) S4 2 rfl;injection hao with hao
  injection hao with h1 h2
  subst h1;subst h2;have c3:=iQ IH u ak ck wb kb bv cells ar wi k' st1 w4(fun _=>by omega) hfu hwi har hne hm W4 N4 SK;rw[ah] at c3;go_wp2_with fail;refine c3.mono ?_;rintro z w5⟨rfl,W5,K5⟩;have HR:Hid(aT w wb kb bv cells.length Z(.returned(.int .i64 k')) w5):=cM HZ3.out W5(KK4.trans K5);clear c3 W5 K5 HZ3 p0 p1 p2 p3 pf x0 x1 x2 x3 SK S4 W4 N4 E4 KK4;go_wp2;exact bodyPost_ret(v:=.int .i64 k')(by simp[results,Tryz.results54,go_sem]) rfl HR.out
 ·have hl:f.len=1\/f.len=2:=by simp[aD] at hd;omega
  have HZ2:Hid(Z=anD(cE cells f(some(s.1+1,s.2)) 3 ar wi)(fS n)):=HZ.out.trans(cI 3(fS n) hd hs2 hwi(fun h=>absurd h(by decide))(by decide)(by decide)(fun kd hk=>by
   have hn10:(1<=n/\n<=3/\f.len=2)\/(4<=n/\n<=10/\f.len=1):=by simp[aD] at hd;omega
   rcases hn10 with⟨h1,h2,h3⟩|⟨h1,h2,h3⟩
   ·rw[h3]
    have:n=1\/n=2\/n=3:=by omega
    rcases this with rfl|rfl|rfl<;>rfl
   ·rw[h3]
    have:n=4\/n=5\/n=6\/n=7\/n=8\/n=9\/n=10:=by omega
    rcases this with rfl|rfl|rfl|rfl|rfl|rfl|rfl<;>rfl)(by unfold fS;split;decide;split<;>decide)(by unfold fS;split;decide;split<;>decide))
  have bdT:Below w2.heap.size w2 w2.drew:=⟨rfl,rfl,rfl,Nat.le_refl _,fun _ _=>rfl⟩
  have c1:=fV IH⟨20,n,nm,a,f⟩ ao cap wb kb bv cells ar wi 3(fS n)(some(s.1+1,s.2)) w2.drew(by simp only;omega)⟨hf.nm,hf.len,hf.sh⟩ hwi har hne(by decide)(W2.below bdT)(N2.below bdT)(S2.belowP bdT);rw[ah] at c1;simp only at c1;have hgq:=fun wy=>oH n wy;generalize fS n=gv at *;have hbl:=lt_of_block E2;clear HZ BADS hd W2 N2 S2 hl;go_wp2_with fail;go_region_held3(fun wx=>wx.cell?⟨bx,0,none⟩=some(.int .i64 20)/\wx.cell?⟨bx,1,none⟩=some(.int .i64 n)/\wx.cell?⟨bx,2,none⟩=some(stv nm)/\wx.cell?⟨bx,3,none⟩=some(.slice ao f.len cap))
   (first|exact KA|go_keep)
   (first
    | (go_at_call 107;refine(hgq _).mono ?_;rintro z w3⟨rfl,rfl⟩)
    | (go_at_call 105;refine c1.mono ?_;rintro z w3⟨rfl,W3,K3⟩;have KA:w3.cell?⟨bx,0,none⟩=some(.int .i64 20)/\w3.cell?⟨bx,1,none⟩=some(.int .i64 n)/\w3.cell?⟨bx,2,none⟩=some(stv nm)/\w3.cell?⟨bx,3,none⟩=some(.slice ao f.len cap):=⟨(K3.cell hbl hb1 hb2 _).trans p0,(K3.cell hbl hb1 hb2 _).trans p1,(K3.cell hbl hb1 hb2 _).trans p2,(K3.cell hbl hb1 hb2 _).trans p3⟩))
  all_goals(
   have HR:Hid(aT w wb kb bv cells.length Z(.returned(.int .i64 gv)) w3):=cM HZ2.out W3(K2.trans(Kp.bel bdT K3));clear KA W3 K3 c1 hgq p0 p1 p2 p3 pf q0 q1 q2 q3 qf E2 K2 HZ2;go_wp2;exact bodyPost_ret(v:=.int .i64 gv)(by simp[results,Tryz.results54,go_sem]) rfl HR.out)
 ·have hl:f.len=2:=by simp[aD] at hd;omega
  obtain⟨x,y,rfl⟩:=fI hl;have HZ2:Hid(Z=_):=HZ.out.trans(vO hd hs2 hwi);have c1:=fun k=>Bn IH⟨k,n,nm,a,Fs.ex x(Fs.ex y .nil)⟩ x y ao cap wb kb bv cells ar wi(s.1+1,s.2) w2 rfl(by simp only;omega)⟨hf.nm,hf.len,hf.sh⟩ hwi har hne W2 N2 S2;simp only[ah] at c1;clear HZ BADS hd hl;simp only[<-HZ2.out] at c1;go_wp2_with fail;refine(c1 _).mono ?_;rintro z w3⟨⟨k',rfl,hk'⟩,W3,K3⟩;have HR:Hid(aT w wb kb bv cells.length Z(.returned(.int .i64 k')) w3):=⟨⟨k',rfl,hk'⟩,W3,K2.trans K3⟩
  clear c1 W3 K3 hk' HZ2 p0 p1 p2 p3 pf q0 q1 q2 q3 qf W2 N2 S2 K2 E2;go_wp2;exact bodyPost_ret(v:=.int .i64 k')(by simp[results,Tryz.results54,go_sem]) rfl HR.out
 ·have HR:=BADS 0(by rw[HZ.out];exact ld(by decide));clear HZ BADS W2 N2 S2 K2 E2 hd;go_wp2;exact bodyPost_ret(v:=.int .i64 0)(by simp[results,Tryz.results54,go_sem]) rfl HR.out
 ·have HR:=BADS 0(by rw[HZ.out];exact ld(by decide));clear HZ BADS W2 N2 S2 K2 E2 hd;go_wp2;exact bodyPost_ret(v:=.int .i64 0)(by simp[results,Tryz.results54,go_sem]) rfl HR.out
 ·have HR:=BADS 0(by rw[HZ.out];exact ld(by decide));clear HZ BADS W2 N2 S2 K2 E2 hd;go_wp2;exact bodyPost_ret(v:=.int .i64 0)(by simp[results,Tryz.results54,go_sem]) rfl HR.out
 ·have HR:=BADS 0(by rw[HZ.out];exact ld(by decide));clear HZ BADS W2 N2 S2 K2 E2 hd;go_wp2;exact bodyPost_ret(v:=.int .i64 0)(by simp[results,Tryz.results54,go_sem]) rfl HR.out
 ·have hl:f.len=1:=by simp[aD] at hd;omega
  obtain⟨x,rfl⟩:=qX hl;have HZ2:Hid(Z=ir cells n x ar wi(s.1+1,s.2)):=HZ.out.trans(wC hd hs2 hwi);have hfx:cr x:=cr.kid(e:=⟨26,n,nm,a,Fs.ex x .nil⟩)(d:=.nil)⟨hf.nm,hf.len,hf.sh⟩ rfl;have hsz:x.kids.size+0+1<N+1:=hN;have c1:=Co IH 26 n nm a x ao cap wb kb bv cells ar wi(s.1+1,s.2) w2(by omega) hfx hwi har hne W2 N2 S2;rw[<-HZ2.out] at c1;simp only[hl] at p3 E2 ⊢;clear HZ BADS hd;go_wp2_with fail;refine c1.mono ?_;rintro z w3⟨⟨k',rfl,hk'⟩,W3,K3⟩;have HR:Hid(aT w wb kb bv cells.length Z(.returned(.int .i64 k')) w3):=⟨⟨k',rfl,hk'⟩,W3,K2.trans K3⟩
  clear c1 W3 K3 hk' HZ2 p0 p1 p2 p3 pf q0 q1 q2 q3 qf W2 N2 S2 K2 E2;go_wp2;exact bodyPost_ret(v:=.int .i64 k')(by simp[results,Tryz.results54,go_sem]) rfl HR.out
theorem pu:∀ N,jh N -- 54
 | 0=>fun e ao cap wb kb bv cells ar wi s w h=>absurd h(Nat.not_lt_zero _)
 | N+1=>qW(pu N)
theorem uq:(Tryz.prog.info? 32).map (fun i=>(i.zero,i.size,i.bytes))=some (some (.slice none 0 0),1,24):=by kernel_rfl
theorem uS (n:Nat):(madeCells (Value.slice none 0 0).cells (n*1)).size=n/\∀ i,i<n->(madeCells (Value.slice none 0 0).cells (n*1))[i]?=some (.slice none 0 0):=by
 constructor
 ·simp[madeCells,Value.cells]
 ·intro i hi;simp[madeCells,Value.cells,hi,Nat.mod_one]
theorem xR (e:Ex)(ao:Option Addr)(cap:Nat)(cv:Value)(cells:List Int)(w:World)(hf:cr e)(hc:InA w cv cells)(hcl:cells.length<=1000000000)(S:SnA w e.kids ao) :
  Calls Tryz.prog 28 #[plV e ao cap cv] w fun x w'=>x=.returned(.int .i64(bO cells e))/\Below w.heap.size w w':=by
 obtain⟨W,hZ⟩:∃W,W=bO cells e:=⟨_,rfl⟩
 rw[<-hZ];have HW:Hid(W=bO cells e):=hZ;clear hZ;obtain⟨ii,hii,hzi0,hzi1,hzi2⟩:=aH uq;obtain⟨ac,cc,hcv,hcx⟩:=hc;have hc:InA w cv cells:=⟨ac,cc,hcv,hcx⟩
 subst hcv;clear hcx;have B0:Below w.heap.size w(w.alloc(.cells #[.int .i64 e.k,.int .i64 e.n,stv e.nm,.slice ao e.kids.len cap,.slice ac cells.length cc] 37)):=(Below.refl _ w).alloc(Nat.le_refl _) _;have E0:(w.alloc(.cells #[.int .i64 e.k,.int .i64 e.n,stv e.nm,.slice ao e.kids.len cap,.slice ac cells.length cc] 37)).heap[w.heap.size]?=some(.cells #[.int .i64 e.k,.int .i64 e.n,stv e.nm,.slice ao e.kids.len cap,.slice ac cells.length cc] 37):=heap_alloc_new w _;have S0:=SnA.below S B0;have I0:=hc.below B0;clear S hc;rw[bZ];go_enter Tryz.func28,Tryz.ntmps28;go_upto_region 1 with fail;generalize w.alloc(.cells #[.int .i64 e.k,.int .i64 e.n,stv e.nm,.slice ao e.kids.len cap,.slice ac cells.length cc] 37)=w0 at *;obtain⟨n0,hn0⟩:∃n0,n0=w.heap.size:=⟨_,rfl⟩
 rw[<-hn0] at E0 B0 ⊢;have HN:Hid(n0=w.heap.size):=hn0;clear hn0;obtain⟨p0,p1,p2,p3,p4,pf⟩:=am E0;by_cases h256:256<cells.length
 ·have hI:(256:Int)<(cells.length:Int):=by omega
  have HZ:Hid(W=0):=by show W=_;rw[HW.out,nF h256]
  clear HW S0 I0 E0;go_wp2;go_ret;rw[HZ.out];exact⟨rfl,by rw[<-HN.out];exact B0⟩
 have hI:¬(256:Int)<(cells.length:Int):=by omega
 obtain⟨ac',cc',he,hcell⟩:=I0;have I0:InA w0(.slice ac cells.length cc) cells:=⟨ac',cc',he,hcell⟩
 injection he with he1 he2 he3
 subst he1;subst he3;clear he2;go_wp2;go_loopw [3](fun v wr=>∃k:Nat,k<=cells.length/\v=.int .i64(k:Nat)/\Hid(∀ j c,j<k->cells[j]?=some c->nlB c=false)/\wr=w0)(fun v _=>cells.length-(intOf v).toNat)
 case atStart=>exact⟨0,by omega,by go_num,fun j c hj=>absurd hj(Nat.not_lt_zero _),rfl⟩
 case round =>
  obtain⟨k,hk,rfl,hno,rfl⟩:=hrel;by_cases hlt:k<cells.length
  ·have hx1:cells[k]?=some cells[k]:=List.getElem?_eq_getElem hlt;rcases hcell with rfl|⟨g1,o1,rfl,-,hg1,hc1⟩
   ·simp at hlt
   have x1:=hc1 k _ hx1;generalize cells[k]=x at x1 hx1;have hkI:(k:Int)<(cells.length:Int):=by omega
   have HX:Hid(cells[k]?=some x):=hx1;clear hx1 hc1;have BADZ:nlB x=true->Hid(W=0):=by
    intro hb;show W=0;rw[HW.out,py(List.any_eq_true.2⟨x,List.mem_of_getElem? HX.out,hb⟩)]
   by_cases h0:x<0
   ·have HZ:=BADZ(by simp[nlB];omega);clear HW hno HX BADZ I0 S0 E0;go_wp2;go_ret;rw[HZ.out];exact⟨rfl,by rw[<-HN.out];exact B0⟩
   by_cases h4:4<x
   ·have HZ:=BADZ(by simp[nlB];omega);clear HW hno HX BADZ I0 S0 E0;go_wp2;go_ret;rw[HZ.out];exact⟨rfl,by rw[<-HN.out];exact B0⟩
   have hn2:Hid(∀ j c,j<k+1->cells[j]?=some c->nlB c=false):=by
    intro j c hj hc;rcases Nat.lt_succ_iff_lt_or_eq.1 hj with h3|rfl
    ·exact hno.out j c h3 hc
    ·rw[HX.out] at hc;injection hc with hc
     rw[<-hc];simp[nlB];omega
   clear HW hno HX BADZ I0 S0 E0;go_wp2;go_roundw
   case rel=>exact⟨k+1,by omega,by go_num,hn2,trivial⟩
   case measure=>simp[intOf];omega
  ·have hkI:¬(k:Int)<(cells.length:Int):=by omega
   have hnl:cells.any nlB=false:=by
    rw[List.any_eq_false];intro c hc;obtain⟨j,hj,h2⟩:=List.mem_iff_getElem.1 hc
    have:=hno.out j c(by omega)(by rw[List.getElem?_eq_getElem hj,h2])
    simp[this]
   have HW2:Hid(W=(match cP cells e 0 0(0,fun _=>none) with|none=>0|some(_,k)=>k)):=by show W=_;rw[HW.out,m9(by omega)(p8 hnl)];rfl
   clear HW hno hcell hnl;have mk:∀ w:World,(Instr.makeSlice 102(.int .i64(cells.length:Nat))(.int .i64(cells.length:Nat))).run Tryz.prog w=.ok(.slice(some⟨w.heap.size,0,none⟩) cells.length cells.length)(w.alloc(.cells(madeCells(Value.slice none 0 0).cells(cells.length*1)) 32)):=fun w=>by
    have:=run_make(P:=Tryz.prog) w 102 32 ii _ Tryz.underlying102 hii hzi0 .i64 .i64 cells.length cells.length(by omega)(Int.le_refl _)(by rw[hzi2];omega)(by omega)
    rw[hzi1] at this;simpa only[Int.toNat_natCast] using this
   obtain⟨hXs,hXe⟩:=uS cells.length;generalize madeCells(Value.slice none 0 0).cells(cells.length*1)=X at *;have HXE:Hid(X.size=cells.length/\∀ i,i<cells.length->X[i]?=some(.slice none 0 0)):=⟨hXs,hXe⟩
   clear hXs hXe;have hn4:=lt_of_block E0;have hmk:=mk wr.drew;obtain⟨w2,hw2⟩:∃w2,w2=((wr.alloc(.cells X 32)).alloc(.cells #[.slice ac cells.length cc,.int .i64 0,.slice(some⟨wr.heap.size,0,none⟩) cells.length cells.length,.bool true] 104)).drew:=⟨_,rfl⟩
   have b2:Below wr.heap.size wr w2:=by rw[hw2];exact(((Below.refl _ wr).alloc(Nat.le_refl _) _).alloc(by simp) _).trans⟨rfl,rfl,rfl,Nat.le_refl _,fun _ _=>rfl⟩
   have X2:w2.heap[wr.heap.size]?=some(.cells X 32(0,0)):=by
    rw[hw2];exact(Below.heap_alloc _ _ _(by simp)).trans(heap_alloc_new wr _)
   have V2:w2.heap[wr.heap.size+1]?=some(.cells #[.slice ac cells.length cc,.int .i64 0,.slice(some⟨wr.heap.size,0,none⟩) cells.length cells.length,.bool true] 104(0,0)):=by
    rw[hw2]
    have:=heap_alloc_new(wr.alloc(.cells X 32))(.cells #[.slice ac cells.length cc,.int .i64 0,.slice(some⟨wr.heap.size,0,none⟩) cells.length cells.length,.bool true] 104)
    have h2:(wr.alloc(.cells X 32)).heap.size=wr.heap.size+1:=by simp
    rw[h2] at this;exact this
   have WD2:WD w2(wr.heap.size+1) wr.heap.size(.slice ac cells.length cc) cells.length(some(0,fun _=>none)):=⟨V2,Nat.zero_le _,X,X2,HXE.out.1,fun i hi=>.inl⟨rfl,HXE.out.2 i hi⟩⟩
   have c4:=pu(e.kids.size+1) e ao cap(wr.heap.size+1) wr.heap.size(.slice ac cells.length cc) cells 0 0(0,fun _=>none) w2(by omega) hf(by omega)(by omega)(by omega) WD2(I0.mono(fun i _ hl=>b2.block i hl) b2.size(fun i _ hl=>⟨by omega,by omega⟩))(S0.mono(fun i _ hl=>b2.block i hl) b2.size(fun i _ hl=>⟨by omega,by omega⟩));rw[ah] at c4;have E2:=(b2.block _ hn4).trans E0;have hs2:=lt_of_block V2;have hnw:Hid(n0<wr.heap.size):=hn4;clear E0 S0 I0 X2 V2 WD2;go_wp2_with fail;go_region_held3(fun wx=>wx.cell?⟨n0,4,none⟩=some(.slice ac cells.length cc))(go_keep)(fail);rw[<-hw2];clear hw2 mk hmk p0 p1 p2 p3 p4 pf HXE;obtain⟨p0,p1,p2,p3,p4,pf⟩:=am E2;generalize cP cells e 0 0(0,fun _=>none)=rr at *;go_wp2_with fail;refine c4.mono ?_;rintro z w3⟨⟨k',rfl,hk'⟩,W3,K3⟩;have B3:Below n0 w w3:=(B0.trans(b2.mono(Nat.le_of_lt hnw.out))).trans(K3.below(by have:=hnw.out;omega)(Nat.le_of_lt hnw.out)(by have:=hnw.out;omega));clear c4 p0 p1 p2 p3 p4 pf E2 K3 b2;cases rr with
   | none =>
    have HZ:Hid(W=0):=HW2.out;obtain⟨-,p,kv,V3⟩:=W3;obtain⟨q0,q1,q2,q3,qf⟩:=aI V3;clear HW2 hk' V3;go_wp2;go_ret;rw[HZ.out];exact⟨rfl,by rw[<-HN.out];exact B3⟩
   | some zz =>
    obtain⟨s2,k2⟩:=zz;obtain rfl:=hk' s2 k2 rfl;have HZ:Hid(W=k'):=HW2.out;obtain⟨V3,-,-⟩:=W3;obtain⟨q0,q1,q2,q3,qf⟩:=aI V3;clear HW2 hk' V3;go_wp2;go_ret;rw[HZ.out];exact⟨rfl,by rw[<-HN.out];exact B3⟩
theorem uM (e:Ex)(ao:Option Addr)(cap:Nat)(cv:Value)(cells:List Int)(w:World)(hf:cr e)(hc:InA w cv cells)(hcl:cells.length<=1000000000)(S:SnA w e.kids ao) :
  Calls Tryz.prog 39 #[plV e ao cap cv] w fun x w'=>x=.returned(.bool(decide(bO cells e≠0)))/\Below w.heap.size w w':=by
 obtain⟨ac,cc,hcv,hcx⟩:=hc;have hc:InA w cv cells:=⟨ac,cc,hcv,hcx⟩
 subst hcv;clear hcx;have B0:Below w.heap.size w(w.alloc(.cells #[.int .i64 e.k,.int .i64 e.n,stv e.nm,.slice ao e.kids.len cap,.slice ac cells.length cc] 37)):=(Below.refl _ w).alloc(Nat.le_refl _) _;have c1:=xR e ao cap _ cells _ hf(hc.below B0) hcl(SnA.below S B0);generalize bO cells e=W at *;rw[bZ] at c1 ⊢;go_enter Tryz.func39,Tryz.ntmps39;go_wp2_with fail;refine c1.mono ?_;rintro z w1⟨rfl,b1⟩;have B1:Below w.heap.size w w1:=B0.trans(b1.mono B0.size);clear c1 b1;by_cases h0:W=0
 ·have hb:(W != 0)=false:=by simpa using h0
  have hd:decide(W≠0)=false:=by simp[h0]
  have HD:Hid(decide(W≠0)=_):=hd;clear hd h0;go_wp2;go_ret;exact⟨by rw[HD.out];simp[hb],B1⟩
 ·have hb:(W != 0)=true:=by simpa using h0
  have hd:decide(W≠0)=true:=by simp[h0]
  have HD:Hid(decide(W≠0)=_):=hd;clear hd h0;go_wp2;go_ret;exact⟨by rw[HD.out];simp[hb],B1⟩
theorem rY (o a b:Int)(w:World)(h1:0<=o)(h2:o<=255)(h3:0<=a)(h4:a<=268435455)(h5:0<=b)(h6:b<=268435455) :
  Calls Tryz.prog 42 #[.int .i64 o,.int .i64 a,.int .i64 b] w fun e w' =>
   e=.returned(.tuple #[.int .u64((o*268435456+a)*268435456+b),.int .i64 0])/\w'=w:=by
 go_enter Tryz.func42,Tryz.ntmps42;go_wp2;go_ret2;exact⟨rfl,rfl⟩
theorem uY (o a b:Int)(w:World)(h:¬(0<=o/\o<=255/\0<=a/\a<=268435455/\0<=b/\b<=268435455)) :
  Calls Tryz.prog 42 #[.int .i64 o,.int .i64 a,.int .i64 b] w fun e w'=>e=.returned(.tuple #[.int .u64 0,.int .i64 12])/\w'=w:=by
 have H:Hid(¬(0<=o/\o<=255/\0<=a/\a<=268435455/\0<=b/\b<=268435455)):=h;clear h;go_enter Tryz.func42,Tryz.ntmps42;go_wp2
 all_goals first|(exfalso;have:=H.out;omega)|(go_ret2;exact⟨rfl,rfl⟩)
def wdI (x:Wo):Int:=if x.op<=255/\x.a<=268435455/\x.b<=268435455 then eR x else 0
def wdW (l:List Wo):List Value:=l.map fun x=>.int .u64 (wdI x)
theorem Cv {l:List Wo}(h:∀ x ∈ l,x.ok):wdW l=woV l:=List.map_congr_left fun x hx=>by show Value.int .u64 (wdI x)=_;unfold wdI;rw[if_pos (show x.op<=255/\x.a<=268435455/\x.b<=268435455 from h x hx)]
def wdE (x:Wo):Int:=if x.op<=255/\x.a<=268435455/\x.b<=268435455 then 0 else 12
theorem vQ (x:Wo)(w:World):Calls Tryz.prog 42 #[.int .i64 (x.op:Nat),.int .i64 (x.a:Nat),.int .i64 (x.b:Nat)] w fun e w'=>e=.returned (.tuple #[.int .u64 (wdI x),.int .i64 (wdE x)])/\w'=w:=by
 unfold wdI wdE;by_cases h:x.op<=255/\x.a<=268435455/\x.b<=268435455
 ·rw[if_pos h,if_pos h];exact rY(x.op:Int)(x.a:Int)(x.b:Int) w(by omega)(by omega)(by omega)(by omega)(by omega)(by omega)
 ·rw[if_neg h,if_neg h];exact uY(x.op:Int)(x.a:Int)(x.b:Int) w(by omega)
structure EmD (w:World)(o:Nat->Nat)(s:Em)(vw vc vn vk:Value):Prop where
 ws:Row w o 2 54 1 vw s.ws.length(wdW s.ws)
 cs:Row w o 3 3 1 vc s.cs.length(eiV s.cs)
 ns:Row w o 4 9 1 vn s.ns.length(esV s.ns)
 ks:Row w o 5 3 1 vk s.ks.length(eiV s.ks)
def Ai (w:World)(e:Ex)(cells:List Int)(z:Ending)(w':World):Prop :=
 Below w.heap.size w w'/\((bO cells e=0/\z=.returned(.tuple #[.agg eG,.int .i64 140])) \/
  (bO cells e≠0/\(32768<(emA cells e).ws.length\/1024<(emA cells e).dp)/\z=.returned(.tuple #[.agg eG,.int .i64 190])) \/
  (bO cells e≠0/\(emA cells e).ws.length<=32768/\(emA cells e).dp<=1024/\∃vw vc vn vk o',z=.returned(.tuple #[.agg #[vw,vc,vn,vk],.int .i64 0])/\(∀ k,k<w.heap.size->o' k=0)/\EmD w' o'(emA cells e) vw vc vn vk))
theorem newD {w2:World}{gk:Nat}(n:Nat)(hn:n<=1000)(p0 p1 p2 p3 p4:Value)(w3:World)(lv:List Int)(hlv:lv.length=n)
  (hw3:w3=(w2.alloc(.cells(madeCells(Value.int .i64 0).cells(n*1)) 3)).alloc(.cells #[p0,p1,p2,p3,p4,.slice none 0 0,.slice none 0 0,.slice(some⟨gk,0,none⟩) n n,.slice none 0 0,.int .i64 0,.int .i64 0,.bool false] 80))(hgk:gk=w2.heap.size) :
  ∃o3,DW w3 o3(gk+1) p0 p1 p2 p3 p4(de0 lv)/\Below w2.heap.size w2 w3/\∀ k,k<w2.heap.size->o3 k=0:=by
 obtain⟨z1,z2,z3,z4⟩:=al2 w2(.cells(madeCells(Value.int .i64 0).cells(n*1)) 3)(.cells #[p0,p1,p2,p3,p4,.slice none 0 0,.slice none 0 0,.slice(some⟨gk,0,none⟩) n n,.slice none 0 0,.int .i64 0,.int .i64 0,.bool false] 80);rw[<-hw3,<-hgk] at z1 z2 z3 z4;obtain⟨o',ho'⟩:∃o':Nat->Nat,o'=fun k=>if k=gk+1 then 1 else if k=gk then 5 else 0:=⟨_,rfl⟩
 have l1:o'(gk+1)=1:=by rw[ho'];simp
 have l5:o' gk=5:=by rw[ho'];show(if gk=gk+1 then 1 else if gk=gk then 5 else 0)=5;rw[if_neg(by omega),if_pos rfl]
 refine⟨o',⟨by simp[de0],_,_,_,_,⟨z2,l1⟩,Row.nil _ _ _ _ _,Row.nil _ _ _ _ _,Row.nil _ _ _ _ _,?_⟩,by rw[<-hgk];exact z4,fun k hk=>?_⟩
 ·have e1:(de0 lv).ks.length=n:=by simp[de0,hlv]
  have e2:eiV(de0 lv).ks=List.replicate n(Value.int .i64 0):=by simp[eiV,de0,hlv]
  have e3:madeCells(Value.int .i64 0).cells(n*1)=(List.replicate n(Value.int .i64 0)).toArray:=by
   apply Array.ext';simp only[madeCells,Value.cells];rw[List.eq_replicate_iff];refine⟨by simp,fun b hb=>?_⟩;simp[Nat.mod_one] at hb;exact hb.2.symm
  rw[e3] at z1;rw[e1,e2];refine⟨⟨by simp,.inr⟨gk,n,_,rfl,Nat.zero_le _,z1,Nat.le_refl _,by unfold maxLen;omega,by simp,by simp⟩⟩,fun k hk=>?_⟩;simp[Value.ownBlock] at hk;rw[<-hk];exact l5
 ·rw[ho']
  show(if k=gk+1 then 1 else if k=gk then 5 else 0)=0
  rw[if_neg(by omega),if_neg(by omega)]
theorem Row.labq {w:World}{o o':Nat->Nat}{i j:Nat}{e:TypeId}{size:Nat}{v:Value}{n:Nat}{xs:List Value}(h:Row w o i e size v n xs)(ho:∀ k,o k=i->o' k=j):Row w o' j e size v n xs:=⟨h.1,fun k hk=>ho k (h.2 k hk)⟩
abbrev I68:Nat->Prop:=fun k=>6<=k/\k<=8
def kJ (l:List Int):List Int:=l.map fun y=>max y 1
theorem zW (e:Ex)(ao:Option Addr)(cap:Nat)(cv:Value)(cells:List Int)(w:World)(hf:cr e)(hn:-9223372036854775808<=e.n/\e.n<=9223372036854775807)(hr:e.kids.rng)(hc:InA w cv cells)(hcl:cells.length<=1000000000)(S:SnA w e.kids ao) :
  Calls Tryz.prog 16 #[plV e ao cap cv] w(Ai w e cells):=by
 obtain⟨g,hg⟩:∃g,g=w.heap.size:=⟨_,rfl⟩
 obtain⟨w1,hw1⟩:∃w1,w1=(w.alloc(.cells #[.int .i64 e.k,.int .i64 e.n,stv e.nm,.slice ao e.kids.len cap,cv] 37)).alloc(.cells eG 42):=⟨_,rfl⟩
 obtain⟨z1,z2,z3,z4⟩:=al2 w(.cells #[.int .i64 e.k,.int .i64 e.n,stv e.nm,.slice ao e.kids.len cap,cv] 37)(.cells eG 42);rw[<-hw1,<-hg] at z1 z2 z3 z4;have B1:Below w.heap.size w w1:=by rw[<-hg];exact z4
 have HC:=uM e ao cap cv cells w1 hf(hc.below B1) hcl(SnA.below S B1);have hcv:=hc;obtain⟨ac,cc,rfl,-⟩:=hcv;rw[bZ] at HC ⊢;have HG:=Lib.hid hg;clear hg;obtain⟨c0,c1,c2,c3,c4⟩:=dk z1;by_cases hk:bO cells e=0
 ·rw[decide_eq_false(by simp[hk])] at HC;have HK:=Lib.hid hk;clear hk;go_enter Tryz.func16,Tryz.ntmps16;go_upto_region 1 with fail;rw[<-hw1,<-HG.out];clear hw1;go_upto_region 2 with(first|(go_at_call 39;refine HC.mono ?_;rintro z w2⟨rfl,B2⟩))
  have GZ:=(B2.block(g+1)(by omega)).trans z2;obtain⟨⟨d0,d1,d2,d3⟩,df⟩:=ai GZ;have df0:=df 0;have df1:=df 1;have df2:=df 2;have df3:=df 3;have BZ:Below g w w2:=z4.trans(B2.mono(by omega));have ZE:=mm(.slice none 0 0)(.slice none 0 0)(.slice none 0 0)(.slice none 0 0) GZ;have hle:g<=g+1:=by omega
  have BE:=(((BZ.setCell(p:=⟨g+1,0,none⟩) hle(.slice none 0 0)).setCell(p:=⟨g+1,1,none⟩) hle(.slice none 0 0)).setCell(p:=⟨g+1,2,none⟩) hle(.slice none 0 0)).setCell(p:=⟨g+1,3,none⟩) hle(.slice none 0 0);obtain⟨⟨m0,m1,m2,m3⟩,-⟩:=ai ZE;have HBE:=Lib.hid BE;clear ZE BE GZ BZ HC z1 z2 z3 z4 B1 B2 c0 c1 c2 c3 c4;go_wp2;exact bodyPost_ret(v:=.tuple #[.agg eG,.int .i64 140])(by simp[results,Tryz.results16,go_sem,m0,m1,m2,m3]) rfl⟨by rw[<-HG.out];exact HBE.out,.inl⟨HK.out,rfl⟩⟩
 ·rw[decide_eq_true hk] at HC;obtain⟨hok,hsz,hnc,hcb⟩:=pG hk hn hr;obtain⟨K,hK1,hsk⟩:=DV hk hok;have HK:=Lib.hid hk;clear hk;obtain⟨ii,hii,hzi0,hzi1,hzi2⟩:=aH lT;have mk:∀ w:World,(Instr.makeSlice 35(.int .i64(cells.length:Nat))(.int .i64(cells.length:Nat))).run Tryz.prog w=.ok(.slice(some⟨w.heap.size,0,none⟩) cells.length cells.length)(w.alloc(.cells(madeCells(Value.int .i64 0).cells(cells.length*1)) 3)):=fun w=>by
   have:=run_make(P:=Tryz.prog) w 35 3 ii _ Tryz.underlying35 hii hzi0 .i64 .i64 cells.length cells.length(by omega)(Int.le_refl _)(by rw[hzi2];omega)(by omega)
   rw[hzi1] at this;simpa only[Int.toNat_natCast] using this
  clear hii hzi0 hzi1 hzi2;go_enter Tryz.func16,Tryz.ntmps16;go_upto_region 1 with fail;rw[<-hw1,<-HG.out];clear hw1;go_upto_region 4 with(first|(go_at_call 39;refine HC.mono ?_;rintro z w2⟨rfl,B2⟩))
  have B12:Below w.heap.size w w2:=B1.trans(B2.mono B1.size);have y1:=(B2.block g(by omega)).trans z1;have y2:=(B2.block(g+1)(by omega)).trans z2;have L2:g+2<=w2.heap.size:=by rw[<-z3];exact B2.size
  clear c0 c1 c2 c3 c4 HC;obtain⟨c0,c1,c2,c3,c4⟩:=dk y1;have mk2:=mk w2;have mk3:=mk w2.drew;have y1d:=fun X:Obj=>(heap_alloc_old w2 X(by omega)).trans y1;have hX:=newD(w2:=w2)(gk:=w2.heap.size) cells.length(by omega)(.int .i64 e.k)(.int .i64 e.n)(stv e.nm)(.slice ao e.kids.len cap)(.slice ac cells.length cc) _ cells rfl rfl rfl;generalize madeCells(Value.int .i64 0).cells(cells.length*1)=X at *;obtain⟨d0,d1,d2,d3,d4⟩:=dk(y1d(.cells X 3));obtain⟨gk,hgk⟩:∃gk,gk=w2.heap.size:=⟨_,rfl⟩
  rw[<-hgk] at hX;obtain⟨wx,hwx⟩:∃wx,wx=(w2.alloc(.cells X 3)).alloc(.cells #[.int .i64 e.k,.int .i64 e.n,stv e.nm,.slice ao e.kids.len cap,.slice ac cells.length cc,.slice none 0 0,.slice none 0 0,.slice(some⟨gk,0,none⟩) cells.length cells.length,.slice none 0 0,.int .i64 0,.int .i64 0,.bool false] 80):=⟨_,rfl⟩
  rw[<-hwx] at hX;have HX:=Lib.hid hX;have HGK:=Lib.hid hgk;have HWX:=Lib.hid hwx;clear y1d hX hgk hwx mk;go_region;go_upto_region 5 with fail;rw[<-HGK.out,<-HWX.out];obtain⟨o3,E3x,B3x,ho3⟩:=HX.out;have E3:=E3x.step((aa.refl(fun _=>False) wx o3).drew) noF;have B3:Below gk w2 wx.drew:=B3x.drew;generalize wx.drew=w3 at *;obtain⟨rb,hrb⟩:∃rb,rb=gk+1:=⟨_,rfl⟩
  rw[<-hrb] at E3 ⊢;clear hrb HX HWX E3x B3x d0 d1 d2 d3 d4 mk2 mk3 c0 c1 c2 c3 c4;rw[<-HGK.out] at L2;have hlw:w2.heap.size=gk:=HGK.out.symm;have X3:DX w3 o3(.slice ac cells.length cc) cells:=by
   obtain⟨ao,cap,hv,hx⟩:=hc.below B12;injection hv with h1 h2 h3
   subst h1 h3;refine⟨_,_,rfl,?_⟩;rcases hx with hx|⟨b,off,h1,h2,h3,h4⟩
   ·exact .inl hx
   ·rw[hlw] at h3;exact .inr⟨b,off,h1,ho3 b h3,Nat.lt_of_lt_of_le h3(by rw[<-hlw];exact B3.size),fun j x hj=>(B3.cell(p:=⟨b,off+j,none⟩) h3).trans(h4 j x hj)⟩
  have SN3:SnO w3 o3 e.kids ao:=(SnA.below S B12).mono(fun k _ hl=>B3.block k(by omega)) B3.size(fun k _ hl=>ho3 k(by omega));have b3p:Blk w3 o3 0 g(.cells #[.int .i64 e.k,.int .i64 e.n,stv e.nm,.slice ao e.kids.len cap,.slice ac cells.length cc] 37):=⟨(B3.block g(by omega)).trans y1,ho3 g(by omega)⟩
  have b3r:Blk w3 o3 0(g+1)(.cells eG 42):=⟨(B3.block(g+1)(by omega)).trans y2,ho3(g+1)(by omega)⟩
  have z0:(de0 cells).sz 0:=⟨by simp[de0],by simp[de0],by simp[de0],by simp[de0],by simp[de0],by simp[de0]⟩
  have HP:=mT K cells.length(e.kids.size+1) e ao cap 0 w3 o3 rb _ _ _ _ _ cells(de0 cells) 0(by omega) hok hsk rfl hnc(by omega)(by omega) SN3(by simp[de0]) z0(by omega) X3 E3;rw[ah] at HP;have dA:=bQ cells e 0(de0 cells);have zA:=(as _ 0 0 0).sz _(dA.sz 0 z0);have BW:Below g w w3:=(by rw[<-HG.out] at B12;exact B12.trans(B3.mono(by omega)))
  have hR:=ry_A K cells cells.length e hsk hok;have hkD:(deA cells e).ks.length=cells.length:=((as _ 0 0 0).ks.trans dA.ks).trans(by simp[de0]);obtain⟨c0,c1,c2,c3,c4⟩:=dk b3p.1;rw[show((0:Nat):Int)=0 from rfl] at HP;go_upto_region 6 with(first|(go_at_call 40;refine HP.mono ?_;rintro z w4⟨rfl,o4,E4,S4⟩))
  have HL:=aS w4 o4 rb _ _ _ _ _(deE cells e 0(de0 cells)) 0 0 0 E4;go_upto_region 7 with(first|(go_at_call 41;refine HL.mono ?_;rintro z w5⟨rfl,o5,E5,S5⟩))
  have heq:(deE cells e 0(de0 cells)).puts 0 0 0=deA cells e:=rfl;rw[heq] at E5 zA;have S35:=S4.trans S5;have b5r:=b3r.step S35 aA;have ho5:∀ k,k<w.heap.size->o5 k=0:=fun k hk2=>by
   have hg:=HG.out;rw[S35.lab k(by have:=B3.size;omega)];exact ho3 k(by omega)
  have B5:Below g w w5:=BW.trans⟨S35.os,S35.tape,S35.output,S35.size,fun k hk2=>S35.block k(by have:=B3.size;omega)(by rw[ho3 k(by omega)];exact aA)⟩;clear HP HL E4 S4 S5 S35 b3p b3r X3 SN3 E3 BW hsk hok dA z0 c0 c1 c2 c3 c4 B3 ho3 B12 y1 y2 B1 B2 z1 z2 z4 S hc hf hr;obtain⟨⟨d0,d1,d2,d3⟩,df⟩:=ai b5r.1;have df0:=df 0;have df1:=df 1;have df2:=df 2;have df3:=df 3;have hle:g<=g+1:=by omega
  obtain⟨l11,-⟩:=E5.cl;by_cases hq:okQ(emA cells e)
  ·have r:=hR.1 hq;rw[r.lg] at l11;obtain⟨wl,vc,vn,vk,vw,q0,q1,q2,q3,q4⟩:=E5;obtain⟨aw,cw,rfl⟩:=q1.form;obtain⟨ac2,cc2,rfl⟩:=q2.form;obtain⟨an,cn,rfl⟩:=q3.form;obtain⟨ak,ck,rfl⟩:=q4.form;obtain⟨⟨t4,t5,t6,t7,t8,t9,t10,t11⟩,-⟩:=bT q0.1;have qa:=fun X:Obj=>(heap_alloc_old w5 X q0.lt).trans q0.1;obtain⟨⟨-,u5,u6,-,-,-,-,-⟩,-⟩:=bT(qa(.cells eG 42));obtain⟨⟨-,v5,v6,-,-,-,-,-⟩,-⟩:=bT(show w5.drew.heap[rb]?=_ from q0.1);clear qa;obtain⟨gc,hgc⟩:∃gc,gc=w5.heap.size:=⟨_,rfl⟩
   have B6:Below g w(w5.alloc(.cells #[.slice none 0 0,.slice ac2(deA cells e).cs.length cc2,.slice an(deA cells e).ns.length cn,.slice none 0 0] 42)).drew:=(B5.alloc(by have:=B5.size;have:=HG.out;omega) _).drew;have S6:∀ {I:Nat->Prop},aa I w5 o5(w5.alloc(.cells #[.slice none 0 0,.slice ac2(deA cells e).cs.length cc2,.slice an(deA cells e).ns.length cn,.slice none 0 0] 42)).drew(ae w5 o5 6):=fun {I}=>(((aa.refl I w5 o5).labelled 6).alloc _).drew;have G6:Blk(w5.alloc(.cells #[.slice none 0 0,.slice ac2(deA cells e).cs.length cc2,.slice an(deA cells e).ns.length cn,.slice none 0 0] 42)).drew(ae w5 o5 6) 6 gc(.cells #[.slice none 0 0,.slice ac2(deA cells e).cs.length cc2,.slice an(deA cells e).ns.length cn,.slice none 0 0] 42):=by rw[hgc];exact⟨heap_alloc_new _ _,ax(Nat.le_refl _)⟩
   have HGC:=Lib.hid hgc;clear hgc;go_upto_region 9 with fail;go_region;go_upto_region 10 with fail;rw[<-HGC.out];generalize(w5.alloc(.cells #[.slice none 0 0,.slice ac2(deA cells e).cs.length cc2,.slice an(deA cells e).ns.length cn,.slice none 0 0] 42)).drew=w6 at *;have Q0:=q0.step(S6(I:=fun _=>False)) id;have Q1:=q1.step(S6(I:=fun _=>False)) id;have Q2:=q2.step(S6(I:=fun _=>False)) id;have Q3:=q3.step(S6(I:=fun _=>False)) id;have Q4:=q4.step(S6(I:=fun _=>False)) id;have b6r:=b5r.step(S6(I:=fun _=>False)) id;have ho6:∀ k,k<w.heap.size->ae w5 o5 6 k=0:=fun k hk2=>by
    rw[aC(by have:=B5.size;omega)];exact ho5 k hk2
   generalize ae w5 o5 6=o6 at *;generalize deA cells e=D at *;have hkl256:D.ks.length<=256:=by omega
   clear hkD heq q0 q1 q2 q3 q4 b5r B5 S6 ho5 hR zA t4 t5 t6 t7 t8 t9 t10 t11 u5 u6 v5 v6 d0 d1 d2 d3 df0 df1 df2 df3 df l11;have KW:Hid(∀ w' o',aa I68 w6 o6 w' o'->w'.cell?⟨rb,7,none⟩=some(.slice ak D.ks.length ck)/\w'.cell?⟨rb,8,none⟩=some(.slice aw D.ws.length cw)):=fun w' o' S=>by
    obtain⟨⟨t4,t5,t6,t7,t8,t9,t10,t11⟩,-⟩:=bT(Q0.step S(by decide)).1;exact⟨t7,t8⟩
   obtain⟨j1,j2,j3,j4,j5⟩:=aH oj;obtain⟨t7,t8⟩:=KW.out _ _(aa.refl I68 w6 o6);go_wp2_with fail;go_loopw [7](fun v wr=>∃(i:Nat)(o':Nat->Nat)(va:Option Addr)(cz:Nat),v=.int .i64(i:Nat)/\i<=D.ks.length/\Blk wr o' 6 gc(.cells #[.slice none 0 0,.slice ac2 D.cs.length cc2,.slice an D.ns.length cn,.slice va i cz] 42)/\Row wr o' 7 3 1(.slice va i cz) i(eiV(kJ(D.ks.take i)))/\aa I68 w6 o6 wr o')(fun v _=>D.ks.length-(intOf v).toNat)
   case atStart=>exact⟨0,o6,none,0,by go_num,by omega,G6,Row.nil _ _ _ _ _,aa.refl _ _ _⟩
   case round =>
    clear G6 t7 t8;obtain⟨i,o',va,cz,rfl,hi,G,R,S⟩:=hrel;obtain⟨t7,t8⟩:=KW.out _ _ S;obtain⟨⟨g0,g1,g2,g3⟩,gf⟩:=ai G.1;by_cases hlt:i<D.ks.length
    ·have hkI:(i:Int)<(D.ks.length:Int):=by omega
     obtain⟨gk2,capk,hsl,ogk,-,-,hgl,hck,hfk⟩:=(Q4.step S(by decide)).pos(by omega);injection hsl with hs1 hs2 hs3
     subst hs1 hs3;have rz:wr.cell?⟨gk2,i,none⟩=some(.int .i64(D.ks.getD i 0)):=by
      rw[hck i(by omega)];simp[eiV,hlt,List.getD_eq_getElem?_getD]
     obtain⟨M,hM⟩:∃M,M=max(D.ks.getD i 0) 1:=⟨_,rfl⟩
     have hY:Hid(eiV(kJ(D.ks.take(i+1)))=eiV(kJ(D.ks.take i))++[.int .i64 M]):=by
      have e1:kJ(D.ks.take(i+1))=kJ(D.ks.take i)++[M]:=by
       unfold kJ;rw[List.take_succ_eq_append_getElem hlt,List.map_append,hM];simp[hlt,List.getD_eq_getElem?_getD]
      show _=_;rw[e1,eiV,List.map_append];rfl
     have bA:i+1<=maxLen:=by unfold maxLen;omega
     have bB:(i+1)*8<=140737488355328:=by omega
     have sn1:∀ {I:Nat->Prop}(wz:World),aa I wz o' wz.drew o':=fun wz=>(aa.refl _ wz o').drew;have sa1:∀ {I:Nat->Prop},aa I wr o'(wr.alloc(.cells #[.int .i64 M] 3)) o':=fun {I}=>aa.ofBelow(I:=I) o'(b1 _ _);have Ra:=(R.step(sa1(I:=fun _=>False)) id).step(sn1(I:=fun _=>False) _) id;have Ga:=(G.step(sa1(I:=fun _=>False)) id).step(sn1(I:=fun _=>False) _) id;obtain⟨⟨a0,a1,a2,a3⟩,af⟩:=ai(G.step(sa1(I:=fun _=>False)) id).1;subst hM;generalize D.ks.getD i 0=y at *;clear hck hfk;go_wp2_with fail;go_region_law((refine cZ rfl(.tmp 53)(.tmp 62) 35 rfl 3 j1(.int .i64 0) 1 8 Tryz.underlying35 j2 j3 j4 j5 rfl(by decide) o' 7(.slice va i cz) i(eiV(kJ(D.ks.take i)))(by simp[Act.eval,Act.put]) Ra⟨wr.heap.size,0,none⟩ 1 1 [.int .i64(max y 1)](by simp[Act.eval,Act.put]) rfl(cJ wr _ _)(f6 _ rfl)(by decide) bA bB ?_;intro g5 c5 w7 o7 R7 S7;have G7:=Ga.step S7(by decide);obtain⟨⟨h0,h1,h2,h3⟩,hf⟩:=ai G7.1;have hf3:=hf 3))
     all_goals
      have T8:aa(fun k=>k=6) w7 o7(w7.setCell⟨gc,3,none⟩(.slice(some⟨g5,0,none⟩)(i+1) c5)) o7:=bU _ w7 o7⟨gc,3,none⟩ _ G7.2;have G8:=G7.set 3(.slice(some⟨g5,0,none⟩)(i+1) c5);have R8:=R7.step T8(by decide);have S8:aa I68 w6 o6(w7.setCell⟨gc,3,none⟩(.slice(some⟨g5,0,none⟩)(i+1) c5)) o7:=(((S.trans sa1).trans(sn1 _)).trans(S7.mono(fun k hk=>by rw[hk];decide))).trans(T8.mono(fun k hk=>by rw[hk];decide));rw[<-hY.out] at R8;clear G7 R7 T8 S7 G R S Ra Ga sn1 sa1 hY a0 a1 a2 a3 h0 h1 h2 h3 hf hf3 g0 g1 g2 g3 gf t7 t8 rz af;generalize w7.setCell⟨gc,3,none⟩(.slice(some⟨g5,0,none⟩)(i+1) c5)=w8 at *;go_wp2;go_roundw
      case rel=>(try((repeat apply Exists.intro);refine⟨?_,rfl⟩));exact⟨i+1,o7,some⟨g5,0,none⟩,c5,by go_num,by omega,G8,R8,S8⟩
      case measure=>simp[intOf];omega
    ·have hkI:¬(i:Int)<(D.ks.length:Int):=by omega
     obtain rfl:i=D.ks.length:=by omega
     rw[List.take_length] at R;clear hlt;have hwv:∃wv,wv=wr:=⟨_,rfl⟩
     obtain⟨wv,rfl⟩:=hwv;go_wp2_with fail;go_loopw [8](fun v wq=>∃(j:Nat)(o2:Nat->Nat)(vb:Option Addr)(cb:Nat),v=.int .i64(j:Nat)/\j<=D.ws.length/\Blk wq o2 6 gc(.cells #[.slice vb j cb,.slice ac2 D.cs.length cc2,.slice an D.ns.length cn,.slice va D.ks.length cz] 42)/\Row wq o2 8 54 1(.slice vb j cb) j(wdW(D.ws.take j))/\aa(fun k=>k=6\/k=8) wv o' wq o2)(fun v _=>D.ws.length-(intOf v).toNat)
     case atStart=>exact⟨0,o',none,0,by go_num,by omega,G,Row.nil _ _ _ _ _,aa.refl _ _ _⟩
     case round =>
      clear G g0 g1 g2 g3 gf t7 t8;obtain⟨j,o2,vb,cb,rfl,hj,G2,R2,S2⟩:=hrel;have S62:aa I68 w6 o6 wr o2:=S.trans(S2.mono(fun k hk=>by rcases hk with hk|hk<;>(rw[hk];decide)));obtain⟨t7,t8⟩:=KW.out _ _ S62;obtain⟨⟨g0,g1,g2,g3⟩,gf⟩:=ai G2.1;by_cases hjt:j<D.ws.length
      ·have hkJ:(j:Int)<(D.ws.length:Int):=by omega
       obtain⟨gl,capl,hsl,ogl,-,-,hgl,hcl2,hfl⟩:=(Q1.step S62(by decide)).pos(by omega);injection hsl with hs1 hs2 hs3
       subst hs1 hs3;have hat:∀ i,i<3->wr.cell?⟨gl,j*3+i,none⟩=(fX D.ws[j])[i]?:=fun i hi=>by
        rw[hcl2(j*3+i)(by omega),n6 D.ws j i D.ws[j](List.getElem?_eq_getElem hjt) hi]
       have hW:Hid(wdW(D.ws.take(j+1))=wdW(D.ws.take j)++[.int .u64(wdI D.ws[j])]):=by
        show _=_;rw[List.take_succ_eq_append_getElem hjt,wdW,List.map_append];rfl
       generalize D.ws[j]=x at *;have x0:wr.cell?⟨gl,j*3,none⟩=some(.int .i64(x.op:Nat)):=hat 0(by omega);have x1:wr.cell?⟨gl,j*3+1,none⟩=some(.int .i64(x.a:Nat)):=hat 1(by omega);have x2:wr.cell?⟨gl,j*3+2,none⟩=some(.int .i64(x.b:Nat)):=hat 2(by omega);have HWd:=fun wy=>vQ x wy;have KQ:∀ q,aa(fun _=>False) wr o2(wr.drewN q) o2:=fun q=>(aa.refl _ wr o2).drewN q;clear hat hcl2 hfl;go_wp2_with fail
       go_quiet((go_at_call 42;exact Calls.quiet_of_same(HWd _)))
       have KQ:=KQ nq;have G3:=G2.step KQ id;have R3:=R2.step KQ id;have S3:aa I68 w6 o6(wr.drewN nq) o2:=S62.trans(KQ.mono(fun k hk=>hk.elim));have S23:aa(fun k=>k=6\/k=8) wv o'(wr.drewN nq) o2:=S2.trans(KQ.mono(fun k hk=>hk.elim));generalize wr.drewN nq=w9 at *;clear g0 g1 g2 g3 gf t7 t8 x0 x1 x2 G2 R2 S2 HWd KQ;obtain⟨⟨g0,g1,g2,g3⟩,gf⟩:=ai G3.1;obtain⟨u1,u2,u3,u4,u5⟩:=aH qM;have bA:j+1<=maxLen:=by unfold maxLen;omega
       have bB:(j+1)*8<=140737488355328:=by omega
       obtain⟨ev,hev⟩:∃ev,ev=wdI x:=⟨_,rfl⟩
       rw[<-hev] at hW ⊢;generalize wdE x=er at *;have pr:=R3.step(aa.ofBelow(I:=fun _=>False) o2(b1 w9(.cells #[.int .u64 ev] 54))) id;clear hev;go_wp2_with(first|(at_builtin;refine aB rfl _ _ 39 rfl 54 u1(.int .u64 0) 1 8 Tryz.underlying39 u2 u3 u4 u5 rfl(by decide) o2 8(.slice vb j cb) j(wdW(D.ws.take j)) rfl pr⟨w9.heap.size,0,none⟩ 1 1 [.int .u64 ev] rfl rfl(cJ _ _ _)(f6 _ rfl)(by decide) bA bB ?_)|go_in);intro g5 c5 w7 o7 R7 S7;have sa:∀ {I:Nat->Prop},aa I w9 o2(w9.alloc(.cells #[.int .u64 ev] 54)) o2:=fun {I}=>aa.ofBelow(I:=I) o2(b1 _ _);have G7:=(G3.step(sa(I:=fun _=>False)) id).step S7(by decide);obtain⟨⟨h0,h1,h2,h3⟩,hf⟩:=ai G7.1;have hf0:=hf 0;have T8:aa(fun k=>k=6) w7 o7(w7.setCell⟨gc,0,none⟩(.slice(some⟨g5,0,none⟩)(j+1) c5)) o7:=bU _ w7 o7⟨gc,0,none⟩ _ G7.2;have G8:=G7.set 0(.slice(some⟨g5,0,none⟩)(j+1) c5);have R8:=R7.step T8(by decide);have S8:=((S23.trans sa).trans(S7.mono(J:=fun k=>k=6\/k=8)(fun k hk=>.inr hk))).trans(T8.mono(J:=fun k=>k=6\/k=8)(fun k hk=>.inl hk));rw[<-hW.out] at R8;clear G7 R7 T8 S7 G3 R3 S3 S23 pr sa g0 g1 g2 g3 gf hW;go_wp2;go_roundw
       case rel=>(try((repeat apply Exists.intro);refine⟨?_,rfl⟩));exact⟨j+1,o7,some⟨g5,0,none⟩,c5,by go_num,by omega,G8,R8,S8⟩
       case measure=>simp[intOf];omega
      ·have hkJ:¬(j:Int)<(D.ws.length:Int):=by omega
       obtain rfl:j=D.ws.length:=by omega
       rw[List.take_length] at R2;obtain⟨⟨d0,d1,d2,d3⟩,df⟩:=ai(b6r.step S62(by decide)).1;have df0:=df 0;have df1:=df 1;have df2:=df 2;have df3:=df 3;have BR:Below g w wr:=B6.trans⟨S62.os,S62.tape,S62.output,S62.size,fun k hk2=>S62.block k(by have:=B6.size;have:=HG.out;omega)(by rw[ho6 k(by have:=HG.out;omega)];decide)⟩;have b9:=b6r.step S62(by decide);have ZE:=mm(.slice vb D.ws.length cb)(.slice ac2 D.cs.length cc2)(.slice an D.ns.length cn)(.slice va D.ks.length cz) b9.1;have BE:=(((BR.setCell(p:=⟨g+1,0,none⟩) hle(.slice vb D.ws.length cb)).setCell(p:=⟨g+1,1,none⟩) hle(.slice ac2 D.cs.length cc2)).setCell(p:=⟨g+1,2,none⟩) hle(.slice an D.ns.length cn)).setCell(p:=⟨g+1,3,none⟩) hle(.slice va D.ks.length cz);have SE:aa(fun k=>k=0) wr o2((((wr.setCell⟨g+1,0,none⟩(.slice vb D.ws.length cb)).setCell⟨g+1,1,none⟩(.slice ac2 D.cs.length cc2)).setCell⟨g+1,2,none⟩(.slice an D.ns.length cn)).setCell⟨g+1,3,none⟩(.slice va D.ks.length cz)) o2:=((((aa.refl _ wr o2).setCell⟨g+1,0,none⟩ _ b9.2).setCell⟨g+1,1,none⟩ _ b9.2).setCell⟨g+1,2,none⟩ _ b9.2).setCell⟨g+1,3,none⟩ _ b9.2;obtain⟨⟨m0,m1,m2,m3⟩,-⟩:=ai ZE;have hks:(emA cells e).ks=kJ D.ks:=by
        apply List.ext_getElem?;intro i;have hkl:=r.kl;by_cases hi:i<D.ks.length
        ·have h1:=r.ks i(by omega);have hp:=hK1 i;unfold kJ;rw[List.getElem?_map,List.getElem?_eq_getElem hi,List.getElem?_eq_getElem(by omega)];simp only[List.getD_eq_getElem?_getD,List.getElem?_eq_getElem hi,List.getElem?_eq_getElem(show i<(emA cells e).ks.length by omega),Option.getD_some,Option.map_some] at h1 ⊢
         congr 1
         omega
        ·unfold kJ;rw[List.getElem?_eq_none(by omega),List.getElem?_eq_none(by simp;omega)]
       obtain⟨oz,hoz⟩:∃oz:Nat->Nat,oz=fun k=>if o2 k=8 then 2 else if o2 k=7 then 5 else if o2 k=2\/o2 k=5\/o2 k=6 then 9 else o2 k:=⟨_,rfl⟩
       have HCE:Hid(EmD((((wr.setCell⟨g+1,0,none⟩(.slice vb D.ws.length cb)).setCell⟨g+1,1,none⟩(.slice ac2 D.cs.length cc2)).setCell⟨g+1,2,none⟩(.slice an D.ns.length cn)).setCell⟨g+1,3,none⟩(.slice va D.ks.length cz)) oz(emA cells e)(.slice vb D.ws.length cb)(.slice ac2 D.cs.length cc2)(.slice an D.ns.length cn)(.slice va D.ks.length cz)):=by
        refine⟨?_,?_,?_,?_⟩
        ·rw[<-r.ws];exact(R2.step SE(by decide)).labq(fun k hk=>by rw[hoz];simp only;rw[if_pos hk])
        ·rw[<-r.cs];exact((Q2.step S62(by decide)).step SE(by decide)).labq(fun k hk=>by rw[hoz];simp only;rw[if_neg(by omega),if_neg(by omega),if_neg(by omega)];exact hk)
        ·rw[<-r.ns];exact((Q3.step S62(by decide)).step SE(by decide)).labq(fun k hk=>by rw[hoz];simp only;rw[if_neg(by omega),if_neg(by omega),if_neg(by omega)];exact hk)
        ·rw[hks,show(kJ D.ks).length=D.ks.length by simp[kJ]];exact((R.step S2(by decide)).step SE(by decide)).labq(fun k hk=>by rw[hoz];simp only;rw[if_neg(by omega),if_pos hk])
       have HO5:Hid(∀ k,k<w.heap.size->oz k=0):=fun k hk=>by
        have hz:o2 k=0:=by rw[S62.lab k(by have:=B6.size;have:=HG.out;omega)];exact ho6 k hk
        rw[hoz];simp only;rw[if_neg(by omega),if_neg(by omega),if_neg(by omega)];exact hz
       have HBE:=Lib.hid BE;have HQ:=Lib.hid hq;clear ZE BE SE BR b9 b6r Q0 Q1 Q2 Q3 Q4 R R2 S S2 S62 G2 KW hks hoz hq r hK1 ho6 B6 t7;go_wp2;exact bodyPost_ret(v:=.tuple #[.agg #[.slice vb D.ws.length cb,.slice ac2 D.cs.length cc2,.slice an D.ns.length cn,.slice va D.ks.length cz],.int .i64 0])(by simp[results,Tryz.results16,go_sem,m0,m1,m2,m3]) rfl⟨by rw[<-HG.out];exact HBE.out,.inr(.inr⟨HK.out,HQ.out.1,HQ.out.2,_,_,_,_,oz,rfl,HO5.out,HCE.out⟩)⟩
  ·rw[hR.2 hq] at l11;have HQ:Hid(32768<(emA cells e).ws.length\/1024<(emA cells e).dp):=by show _\/_;unfold okQ at hq;omega
   have ZE:=mm(.slice none 0 0)(.slice none 0 0)(.slice none 0 0)(.slice none 0 0) b5r.1;have BE:=(((B5.setCell(p:=⟨g+1,0,none⟩) hle(.slice none 0 0)).setCell(p:=⟨g+1,1,none⟩) hle(.slice none 0 0)).setCell(p:=⟨g+1,2,none⟩) hle(.slice none 0 0)).setCell(p:=⟨g+1,3,none⟩) hle(.slice none 0 0);obtain⟨⟨m0,m1,m2,m3⟩,-⟩:=ai ZE;have HBE:=Lib.hid BE;clear ZE BE B5 b5r E5 hR hkD zA hq df ho5;go_wp2;exact bodyPost_ret(v:=.tuple #[.agg eG,.int .i64 190])(by simp[results,Tryz.results16,go_sem,m0,m1,m2,m3]) rfl⟨by rw[<-HG.out];exact HBE.out,.inr(.inl⟨HK.out,HQ.out,rfl⟩)⟩
abbrev iL (w:World)(f:Fs)(b cap:Nat):Prop:=Spn w (fun _=>True) f b cap
theorem iL.below {w w':World}{f:Fs}{b cap:Nat}(h:iL w f b cap)(bb:Below w.heap.size w w'):iL w' f b cap:=h.mono (fun i _ hl=>bb.block i hl) bb.size (fun _ h _=>h)
theorem Spn.last {w:World}{P:Nat->Prop}{f:Fs}{b cap:Nat}(h:Spn w P f b cap):f.len+1<=cap/\cap<=maxLen/\w.cell? ⟨b,f.len*4,none⟩=some (.int .i64 (-7)):=by
 obtain⟨zs,hp,hlt,h1,h2,hc,h7,h3⟩:=h;exact⟨h1,h2,h7⟩
theorem Spn.lt {w:World}{P:Nat->Prop}{f:Fs}{b cap:Nat}(h:Spn w P f b cap):b<w.heap.size:=by
 obtain⟨zs,hp,hlt,_⟩:=h;exact hlt
theorem LFn.split {w:World}{P:Nat->Prop}:∀ {x y:Fs}{zs:List Value},LFn w P (x.app y) zs->∃zx zy,zs=zx++zy/\LFn w P x zx/\LFn w P y zy
 | ⟨none⟩,y,zs,h=>⟨[],zs,rfl,rfl,h⟩
 | ⟨some⟨k,n,nm,a,ks,r⟩⟩,y,zs,h=>by
  obtain⟨b,cap,us,ys,rfl,h1,h2⟩:=h;obtain⟨zx,zy,rfl,h3,h4⟩:=LFn.split(x:=r) h2;exact⟨_,zy,rfl,⟨b,cap,us,zx,rfl,h1,h3⟩,h4⟩
theorem Spn.kid {w:World}{P:Nat->Prop}{x r:Fs}{k n:Int}{nm:List UInt8}{a:Int}{ks:Fs}{b cap:Nat}(h:Spn w P (x.app (.cons k n nm a ks r)) b cap) :
  ∃bk ck,w.cell?⟨b,x.len*4,none⟩=some(.int .i64 k)/\w.cell?⟨b,x.len*4+1,none⟩=some(.int .i64 n)/\w.cell?⟨b,x.len*4+2,none⟩=some(stv nm)/\w.cell?⟨b,x.len*4+3,none⟩=some(.slice(some⟨bk,0,none⟩) ks.len ck)/\Spn w P ks bk ck:=by
 obtain⟨zs,hp,hlt,h1,h2,hc,h7,h3⟩:=h;obtain⟨zx,zy,rfl,h4,h5⟩:=LFn.split h3;have hl:=h4.len;obtain⟨bk,ck,us,ys,rfl,h6,-⟩:=h5;have hc':∀ j u,(.int .i64 k::.int .i64 n::stv nm::.slice(some⟨bk,0,none⟩) ks.len ck::ys:List Value)[j]?=some u->w.cell?⟨b,x.len*4+j,none⟩=some u:=fun j u hu=>by
  have:=hc(x.len*4+j) u(by rw[List.getElem?_append_right(by omega),hl,Nat.add_sub_cancel_left];exact hu)
  rw[Nat.zero_add] at this;exact this
 exact⟨bk,ck,hc' 0 _ rfl,hc' 1 _ rfl,hc' 2 _ rfl,hc' 3 _ rfl,us,h6⟩
def oU (N:Nat):Prop:=∀ (e:Ex) (b0 cap:Nat) (ao2:Option Addr) (cap2:Nat) (w:World),e.kids.size<N->e.kids.len<=1000000000->e.kids.short->iL w e.kids b0 cap->SnA w e.kids ao2 ->
 Calls Tryz.prog 49 #[exN e(some⟨b0,0,none⟩) cap,exN e ao2 cap2] w fun x w'=>x=.returned(.bool true)/\Below w.heap.size w w'
theorem rU {N:Nat}(IH:oU N):oU (N+1):=by
 intro e b0 cap ao2 cap2 w hN hlen hsh S S2;have B0:Below w.heap.size w((w.alloc(.cells #[.int .i64 e.k,.int .i64 e.n,stv e.nm,.slice(some⟨b0,0,none⟩) e.kids.len cap] 34)).alloc(.cells #[.int .i64 e.k,.int .i64 e.n,stv e.nm,.slice ao2 e.kids.len cap2] 34)):=((Below.refl _ w).alloc(Nat.le_refl _) _).alloc(by simp) _;have E0:((w.alloc(.cells #[.int .i64 e.k,.int .i64 e.n,stv e.nm,.slice(some⟨b0,0,none⟩) e.kids.len cap] 34)).alloc(.cells #[.int .i64 e.k,.int .i64 e.n,stv e.nm,.slice ao2 e.kids.len cap2] 34)).heap[w.heap.size]?=some(.cells #[.int .i64 e.k,.int .i64 e.n,stv e.nm,.slice(some⟨b0,0,none⟩) e.kids.len cap] 34):=(Below.heap_alloc _ _ _(by simp)).trans(heap_alloc_new w _);have Y0:((w.alloc(.cells #[.int .i64 e.k,.int .i64 e.n,stv e.nm,.slice(some⟨b0,0,none⟩) e.kids.len cap] 34)).alloc(.cells #[.int .i64 e.k,.int .i64 e.n,stv e.nm,.slice ao2 e.kids.len cap2] 34)).heap[w.heap.size+1]?=some(.cells #[.int .i64 e.k,.int .i64 e.n,stv e.nm,.slice ao2 e.kids.len cap2] 34):=by
  have:=heap_alloc_new(w.alloc(.cells #[.int .i64 e.k,.int .i64 e.n,stv e.nm,.slice(some⟨b0,0,none⟩) e.kids.len cap] 34))(.cells #[.int .i64 e.k,.int .i64 e.n,stv e.nm,.slice ao2 e.kids.len cap2] 34)
  simpa using this
 have S0:=iL.below S B0;have T0:=SnA.below S2 B0;rw[ah,ah];go_enter Tryz.func49,Tryz.ntmps49;go_upto_region 1 with fail;generalize(w.alloc(.cells #[.int .i64 e.k,.int .i64 e.n,stv e.nm,.slice(some⟨b0,0,none⟩) e.kids.len cap] 34)).alloc(.cells #[.int .i64 e.k,.int .i64 e.n,stv e.nm,.slice ao2 e.kids.len cap2] 34)=w0 at *;obtain⟨bx,hbx⟩:∃bx,bx=w.heap.size:=⟨_,rfl⟩
 rw[<-hbx] at E0 Y0 B0 ⊢;have HB:Hid(bx=w.heap.size):=hbx;clear hbx S S2;obtain⟨p0,p1,p2,p3,pf⟩:=aI E0;obtain⟨q0,q1,q2,q3,qf⟩:=aI Y0;obtain⟨hc1,hc2,h7⟩:=S0.last;have hc1I:(e.kids.len:Int)+1<=(cap:Int):=by omega
 have hcm:cap<=9223372036854775807:=hc2;have hw1:IntKind.i64.wrap((e.kids.len:Int)+1)=(e.kids.len:Int)+1:=by rw[IntKind.wrap_i64];omega
 have hlt1:(e.kids.len:Int)<(e.kids.len:Int)+1:=by omega
 go_upto_region 3 with fail
 go_quiet(fail)
 have bq:Below w0.heap.size w0(w0.drewN nq):=bdr(Below.refl _ _) nq;have E0:=(bq.block _(lt_of_block E0)).trans E0;have Y0:=(bq.block _(lt_of_block Y0)).trans Y0;have S0:=S0.below bq;have T0:=SnA.below T0 bq;have B0:=B0.trans(bq.mono(by have:=HB.out;have:=B0.size;omega));generalize w0.drewN nq=w0 at *;clear hc1 hc2 h7 hc1I hcm hw1 hlt1 bq p0 p1 p2 p3 pf q0 q1 q2 q3 qf;go_wp2_with fail;go_loopw [5](fun v wr=>∃(done r:Fs),Hid(e.kids=done.app r)/\v=.int .i64(done.len:Nat)/\wr.heap[bx]?=some(.cells #[.int .i64 e.k,.int .i64 e.n,stv e.nm,.slice(some⟨b0,0,none⟩) e.kids.len cap] 34)/\wr.heap[bx+1]?=some(.cells #[.int .i64 e.k,.int .i64 e.n,stv e.nm,.slice ao2 e.kids.len cap2] 34)/\iL wr e.kids b0 cap/\SnA wr e.kids ao2/\Below bx w wr)(fun v _=>e.kids.len-(intOf v).toNat)
 case atStart=>exact⟨.nil,e.kids,rfl,by show _=Value.int .i64((0:Nat):Int);rfl,E0,Y0,S0,T0,B0⟩
 case round =>
  clear E0 Y0 S0 T0 B0;obtain⟨done,r,hk,rfl,E1,Y1,S1,T1,B1⟩:=hrel;have hlk:e.kids.len=done.len+r.len:=by rw[hk.out,Fs.len_app]
  obtain⟨p0,p1,p2,p3,pf⟩:=aI E1;obtain⟨q0,q1,q2,q3,qf⟩:=aI Y1;cases r using Fs.on with
  | nil =>
   have hl0:¬(done.len:Int)<(e.kids.len:Int):=by simp only[Fs.len] at hlk;omega
   clear hlk;go_wp2;go_ret;exact⟨rfl,by rw[<-HB.out];exact B1⟩
  | cons kk kn km ka kks kr =>
   have hl0:(done.len:Int)<(e.kids.len:Int):=by simp only[Fs.len] at hlk;omega
   have hl1:done.len<e.kids.len:=by omega
   have hsz:e.kids.size=done.size+(kks.size+kr.size+1):=by rw[hk.out,Fs.size_app];rfl
   have hsk:(Fs.cons kk kn km ka kks kr).short:=Fs.app_short(by rw[<-hk.out];exact hsh);obtain⟨bk,ck,x0,x1,x2,x3,SK⟩:=Spn.kid(x:=done)(by rw[<-hk.out];exact S1);obtain⟨b',off',ak',ck',hao',lb2,-,y0,y1,y2,y3,TK⟩:=SlN.kidQ(by rw[<-hk.out];exact T1);subst hao';have lb1:b0<wr.heap.size:=S1.lt;have hc:=IH⟨kk,kn,km,ka,kks⟩ bk ck ak' ck' wr.drew(by show kks.size<N;omega) hsk.2.1 hsk.2.2.1(iL.below SK(Below.refl _ wr).drew)(SnA.below TK(Below.refl _ wr).drew);rw[ah,ah] at hc;simp only at hc;clear hlk hsz hsk SK TK;go_wp2;have k0:wr.cell?⟨bx,3,none⟩=some(.slice(some⟨b0,0,none⟩) e.kids.len cap)/\wr.cell?⟨bx+1,3,none⟩=some(.slice(some⟨b',off',none⟩) e.kids.len cap2)/\wr.cell?⟨b0,done.len*4,none⟩=some(.int .i64 kk)/\wr.cell?⟨b0,done.len*4+1,none⟩=some(.int .i64 kn)/\wr.cell?⟨b0,done.len*4+2,none⟩=some(stv km)/\wr.cell?⟨b0,done.len*4+3,none⟩=some(.slice(some⟨bk,0,none⟩) kks.len ck)/\wr.cell?⟨b',off'+done.len*4,none⟩=some(.int .i64 kk)/\wr.cell?⟨b',off'+done.len*4+1,none⟩=some(.int .i64 kn)/\wr.cell?⟨b',off'+done.len*4+2,none⟩=some(stv km)/\wr.cell?⟨b',off'+done.len*4+3,none⟩=some(.slice ak' kks.len ck'):=⟨p3,q3,x0,x1,x2,x3,y0,y1,y2,y3⟩
   have k1:wr.drew.cell?⟨bx,3,none⟩=some(.slice(some⟨b0,0,none⟩) e.kids.len cap)/\wr.drew.cell?⟨bx+1,3,none⟩=some(.slice(some⟨b',off',none⟩) e.kids.len cap2)/\wr.drew.cell?⟨b0,done.len*4,none⟩=some(.int .i64 kk)/\wr.drew.cell?⟨b0,done.len*4+1,none⟩=some(.int .i64 kn)/\wr.drew.cell?⟨b0,done.len*4+2,none⟩=some(stv km)/\wr.drew.cell?⟨b0,done.len*4+3,none⟩=some(.slice(some⟨bk,0,none⟩) kks.len ck)/\wr.drew.cell?⟨b',off'+done.len*4,none⟩=some(.int .i64 kk)/\wr.drew.cell?⟨b',off'+done.len*4+1,none⟩=some(.int .i64 kn)/\wr.drew.cell?⟨b',off'+done.len*4+2,none⟩=some(stv km)/\wr.drew.cell?⟨b',off'+done.len*4+3,none⟩=some(.slice ak' kks.len ck'):=k0;have lb:bx+1<wr.drew.heap.size:=lt_of_block Y1;go_region_held(fun wx=>wx.cell?⟨bx,3,none⟩=some(.slice(some⟨b0,0,none⟩) e.kids.len cap)/\wx.cell?⟨bx+1,3,none⟩=some(.slice(some⟨b',off',none⟩) e.kids.len cap2)/\wx.cell?⟨b0,done.len*4,none⟩=some(.int .i64 kk)/\wx.cell?⟨b0,done.len*4+1,none⟩=some(.int .i64 kn)/\wx.cell?⟨b0,done.len*4+2,none⟩=some(stv km)/\wx.cell?⟨b0,done.len*4+3,none⟩=some(.slice(some⟨bk,0,none⟩) kks.len ck)/\wx.cell?⟨b',off'+done.len*4,none⟩=some(.int .i64 kk)/\wx.cell?⟨b',off'+done.len*4+1,none⟩=some(.int .i64 kn)/\wx.cell?⟨b',off'+done.len*4+2,none⟩=some(stv km)/\wx.cell?⟨b',off'+done.len*4+3,none⟩=some(.slice ak' kks.len ck'))(first|(with_reducible exact k2)|(with_reducible exact k1)|(with_reducible exact k0))((go_at_call 49;refine hc.mono ?_;rintro x w2⟨rfl,b2⟩;have k2:w2.cell?⟨bx,3,none⟩=some(.slice(some⟨b0,0,none⟩) e.kids.len cap)/\w2.cell?⟨bx+1,3,none⟩=some(.slice(some⟨b',off',none⟩) e.kids.len cap2)/\w2.cell?⟨b0,done.len*4,none⟩=some(.int .i64 kk)/\w2.cell?⟨b0,done.len*4+1,none⟩=some(.int .i64 kn)/\w2.cell?⟨b0,done.len*4+2,none⟩=some(stv km)/\w2.cell?⟨b0,done.len*4+3,none⟩=some(.slice(some⟨bk,0,none⟩) kks.len ck)/\w2.cell?⟨b',off'+done.len*4,none⟩=some(.int .i64 kk)/\w2.cell?⟨b',off'+done.len*4+1,none⟩=some(.int .i64 kn)/\w2.cell?⟨b',off'+done.len*4+2,none⟩=some(stv km)/\w2.cell?⟨b',off'+done.len*4+3,none⟩=some(.slice ak' kks.len ck'):=⟨(b2.cell(p:=⟨bx,3,none⟩)(Nat.lt_of_succ_lt lb)).trans p3,(b2.cell(p:=⟨bx+1,3,none⟩) lb).trans q3,(b2.cell(p:=⟨b0,done.len*4,none⟩) lb1).trans x0,(b2.cell(p:=⟨b0,done.len*4+1,none⟩) lb1).trans x1,(b2.cell(p:=⟨b0,done.len*4+2,none⟩) lb1).trans x2,(b2.cell(p:=⟨b0,done.len*4+3,none⟩) lb1).trans x3,(b2.cell(p:=⟨b',off'+done.len*4,none⟩) lb2).trans y0,(b2.cell(p:=⟨b',off'+done.len*4+1,none⟩) lb2).trans y1,(b2.cell(p:=⟨b',off'+done.len*4+2,none⟩) lb2).trans y2,(b2.cell(p:=⟨b',off'+done.len*4+3,none⟩) lb2).trans y3⟩));have B2:Below bx w w2:=(B1.drew).trans(b2.mono(by have:=HB.out;have:=B1.size;show bx<=wr.heap.size;omega));have E2:=(b2.block bx(Nat.lt_of_succ_lt lb)).trans E1;have Y2:=(b2.block(bx+1) lb).trans Y1;have S2:=iL.below(iL.below S1(Below.refl _ wr).drew) b2;have T2:=SnA.below(SnA.below T1(Below.refl _ wr).drew) b2;have hk2:Hid(e.kids=(done.snoc⟨kk,kn,km,ka,kks⟩).app kr):=by show e.kids=_;rw[hk.out];unfold Fs.snoc;rw[Fs.app_assoc];rfl
   have hl2:(done.len:Int)+1=((done.snoc⟨kk,kn,km,ka,kks⟩).len:Nat):=by rw[Fs.len_snoc];rfl
   have hl3:e.kids.len-(done.len+1)<e.kids.len-done.len:=by omega
   clear k0 k1 k2 p0 p1 p2 p3 pf q0 q1 q2 q3 qf x0 x1 x2 x3 y0 y1 y2 y3 hc b2 E1 Y1 S1 T1 B1 hk;go_wp2;go_roundw
   case rel=>exact⟨_,kr,hk2,by rw[<-hl2],E2,Y2,S2,T2,B2⟩
   case measure=>simp[intOf];omega
theorem pz:∀ N,oU N -- 49
 | 0=>fun e b0 cap ao2 cap2 w h=>absurd h(Nat.not_lt_zero _)
 | N+1=>rU(pz N)
def LnI (w:World)(P:Nat->Prop)(v:Value)(cells:List Int):Prop :=
 ∃g c,v=.slice(some⟨g,0,none⟩) cells.length c/\P g/\g<w.heap.size/\cells.length+1<=c/\c<=maxLen/\(∀ j x,cells[j]?=some x->w.cell?⟨g,j,none⟩=some(.int .i64 x))/\w.cell?⟨g,cells.length,none⟩=some(.int .i64(-7))
theorem LnI.mono {w w':World}{P Q:Nat->Prop}{v:Value}{xs:List Int}(hb:∀ k,P k->k<w.heap.size->w'.heap[k]?=w.heap[k]?)(hs:w.heap.size<=w'.heap.size)(hq:∀ k,P k->k<w.heap.size->Q k)(h:LnI w P v xs):LnI w' Q v xs:=by
 obtain⟨g,c,rfl,hp,hlt,h1,h2,h3,h4⟩:=h;exact⟨g,c,rfl,hq g hp hlt,Nat.lt_of_lt_of_le hlt hs,h1,h2,fun j u hu=>(World.cell?_of_block(a:=⟨g,j,none⟩)(hb g hp hlt)).trans(h3 j u hu),(World.cell?_of_block(a:=⟨g,xs.length,none⟩)(hb g hp hlt)).trans h4⟩
theorem LnI.below {P:Nat->Prop}{w w':World}{v:Value}{xs:List Int}(h:LnI w P v xs)(b:Below w.heap.size w w'):LnI w' P v xs:=h.mono (fun i _ hl=>b.block i hl) b.size (fun _ h _=>h)
theorem LnI.inA {w:World}{P:Nat->Prop}{v:Value}{xs:List Int}(h:LnI w P v xs):InA w v xs:=by
 obtain⟨g,c,rfl,hp,hlt,h1,h2,h3,h4⟩:=h;exact⟨_,c,rfl,.inr⟨g,0,rfl,trivial,hlt,fun j x hj=>by rw[Nat.zero_add];exact h3 j x hj⟩⟩
theorem InA.news {w:World}{ao:Option Addr}{cap:Nat}{xs:List Int}(h:xs=[]\/∃b off,ao=some ⟨b,off,none⟩/\True/\b<w.heap.size/\∀ j x,xs[j]?=some x->w.cell? ⟨b,off+j,none⟩=some (.int .i64 x)):0<xs.length->∃ad,ao=some ad/\∀ j u,(xs.map (Value.int .i64))[j]?=some u->w.cell? (ad.add j)=some u:=by
 intro h0;rcases h with h|⟨b,off,rfl,-,hlt,hcell⟩
 ·rw[h] at h0;simp at h0
 ·refine⟨_,rfl,fun j u hj=>?_⟩;rw[List.getElem?_map] at hj;cases hb:xs[j]? with
  | none=>rw[hb] at hj;cases hj
  | some t =>
   rw[hb] at hj;injection hj with hj
   subst hj;have h3:((⟨b,off,none⟩:Addr).add j)=⟨b,off+j,none⟩:=by simp only[Addr.add];split<;>simp_all
   rw[h3];exact hcell j t hb
theorem yr (xs:List Int):∀ u ∈ xs.map (Value.int .i64),u.oneCell'=true:=fun u hu=>by
 obtain⟨x,_,rfl⟩:=List.mem_map.1 hu;rfl
theorem ry {w w':World}{x:Value}{t:TypeId}(b:Below (w.alloc (.cells #[x] t)).drew.heap.size (w.alloc (.cells #[x] t)).drew w'):∀ j u,[x][j]?=some u->w'.cell? ((⟨w.heap.size,0,none⟩:Addr).add j)=some u:=fun j u hu=>by
 have h1:=dj w [x] t j u hu;have h3:((⟨w.heap.size,0,none⟩:Addr).add j)=⟨w.heap.size,j,none⟩:=by simp only[Addr.add];split<;>simp_all
 rw[h3] at h1 ⊢;exact(b.cell(p:=⟨w.heap.size,j,none⟩)(by show w.heap.size<(w.alloc _).heap.size;simp)).trans h1
theorem xP {n b5 c5:Nat}{w w1 W w9:World}{o1 o9:Nat->Nat}{f:Fs}(B1:Below n w w1)(hn:n<=w.heap.size)(L1:∀ k,k<n->o1 k=0)(BW:Below w1.heap.size w1 W)(S5:Spn W (Nw w1.heap.size) f b5 c5)(s9:aa (fun k=>k=5) W (ae w1 o1 0) w9 o9) :
  Below n w w9/\Spn w9(Nw w1.heap.size) f b5 c5/\∀ k,k<w1.heap.size->o1 k≠5->w9.heap[k]?=w1.heap[k]?:=by
 have h1:=B1.size;refine⟨aJ(B1.trans(BW.mono(by omega))) s9(fun k hk=>by rw[aC(by omega),L1 k hk];decide) hn,S5.mono(fun k hp hl=>s9.block k hl(by rw[ax hp];decide)) s9.size(fun k hp _=>hp),fun k hk ho=>(s9.block k(Nat.lt_of_lt_of_le hk BW.size)(by rw[aC hk];exact ho)).trans(BW.block k hk)⟩
theorem yZ {P:Nat->Prop}{w:World}{o:Nat->Nat}{g c:Nat}{cells:List Int}(r:Row w o 5 3 1 (.slice (some ⟨g,0,none⟩) (cells.length+1) c) (cells.length+1) (cells.map (Value.int .i64)++[.int .i64 (-7)]))(hg:P g):LnI w P (.slice (some ⟨g,0,none⟩) cells.length c) cells/\cells.length<=c:=by
 obtain⟨g',cap',hv,hl,hc1,hc2,hlt,hc,_⟩:=r.pos(by omega);simp only[Value.slice.injEq,Option.some.injEq,Addr.mk.injEq,true_and,and_true] at hv;obtain⟨rfl,rfl⟩:=hv;refine⟨⟨g,c,rfl,hg,hlt,hc1,hc2,fun j x hj=>?_,?_⟩,by omega⟩
 ·have hjl:j<cells.length:=(List.getElem?_eq_some_iff.1 hj).1;rw[hc j(by omega),List.getElem?_append_left(by simpa using hjl),List.getElem?_map,hj];rfl
 ·rw[hc cells.length(by omega),List.getElem?_append_right(by simp)];simp
theorem BM {z g c m:Nat}{w1 W w9:World}{o1 o9:Nat->Nat}{xs:List Value}(hz:o1 z=0)(hzl:z<w1.heap.size)(r:Row w9 o9 5 3 1 (.slice (some ⟨g,0,none⟩) m c) m xs)(s:aa (fun k=>k=5) W (ae w1 o1 0) w9 o9)(hW:w1.heap.size<=W.heap.size):g≠z:=by
 intro h;have h1:o9 g=5:=r.2 g rfl;rw[h,s.lab z(by omega),aC hzl,hz] at h1;cases h1
theorem wK {n g c m:Nat}{w1 W w9:World}{o1 o9:Nat->Nat}{xs:List Value}(L:∀ k,k<n->o1 k=0)(r:Row w9 o9 5 3 1 (.slice (some ⟨g,0,none⟩) m c) m xs)(s:aa (fun k=>k=5) W (ae w1 o1 0) w9 o9)(hW:n<=W.heap.size)(hn:n<=w1.heap.size):n<=g:=by
 rcases Nat.lt_or_ge g n with h|h
 ·have h1:o9 g=5:=r.2 g rfl;rw[s.lab g(by omega),aC(by omega),L g h] at h1;cases h1
 ·exact h
theorem vM {w:World}{n0:Nat}{a0 a1 a2 a3 a4 c0 c1 c2 c3 c4:Value}(h:w.cell? ⟨n0,0,none⟩=some c0/\w.cell? ⟨n0,1,none⟩=some c1/\w.cell? ⟨n0,2,none⟩=some c2/\w.cell? ⟨n0,3,none⟩=some c3/\w.cell? ⟨n0,4,none⟩=some c4):(((((w.setCell ⟨n0+1,0,none⟩ a0).setCell ⟨n0+1,1,none⟩ a1).setCell ⟨n0+1,2,none⟩ a2).setCell ⟨n0+1,3,none⟩ a3).setCell ⟨n0+1,4,none⟩ a4).cell? ⟨n0,0,none⟩=some c0/\(((((w.setCell ⟨n0+1,0,none⟩ a0).setCell ⟨n0+1,1,none⟩ a1).setCell ⟨n0+1,2,none⟩ a2).setCell ⟨n0+1,3,none⟩ a3).setCell ⟨n0+1,4,none⟩ a4).cell? ⟨n0,1,none⟩=some c1/\(((((w.setCell ⟨n0+1,0,none⟩ a0).setCell ⟨n0+1,1,none⟩ a1).setCell ⟨n0+1,2,none⟩ a2).setCell ⟨n0+1,3,none⟩ a3).setCell ⟨n0+1,4,none⟩ a4).cell? ⟨n0,2,none⟩=some c2/\(((((w.setCell ⟨n0+1,0,none⟩ a0).setCell ⟨n0+1,1,none⟩ a1).setCell ⟨n0+1,2,none⟩ a2).setCell ⟨n0+1,3,none⟩ a3).setCell ⟨n0+1,4,none⟩ a4).cell? ⟨n0,3,none⟩=some c3/\(((((w.setCell ⟨n0+1,0,none⟩ a0).setCell ⟨n0+1,1,none⟩ a1).setCell ⟨n0+1,2,none⟩ a2).setCell ⟨n0+1,3,none⟩ a3).setCell ⟨n0+1,4,none⟩ a4).cell? ⟨n0,4,none⟩=some c4:=by
 have hb:=ej w(n0+1) n0 a0 a1 a2 a3 a4(by omega);obtain⟨h0,h1,h2,h3,h4⟩:=h;exact⟨(World.cell?_of_block(a:=⟨n0,0,none⟩) hb).trans h0,(World.cell?_of_block(a:=⟨n0,1,none⟩) hb).trans h1,(World.cell?_of_block(a:=⟨n0,2,none⟩) hb).trans h2,(World.cell?_of_block(a:=⟨n0,3,none⟩) hb).trans h3,(World.cell?_of_block(a:=⟨n0,4,none⟩) hb).trans h4⟩
def xh (w:World)(e:Ex)(cells:List Int)(x:Ending)(w':World):Prop:=∃b cp v,x=.returned (plV e (some ⟨b,0,none⟩) cp v)/\Spn w' (Nw w.heap.size) e.kids b cp/\LnI w' (Nw w.heap.size) v cells/\Below w.heap.size w w'
theorem rn (e:Ex)(ao:Option Addr)(cap:Nat)(cv:Value)(cells:List Int)(w:World)(hlen:e.kids.len<=1000000000)(hsh:e.kids.short)(hc:InA w cv cells)(hcl:cells.length<=100000)(S:SnA w e.kids ao) :
  Calls Tryz.prog 17 #[plV e ao cap cv] w(xh w e cells):=by
 obtain⟨ii,hii,hzi0,hzi1,hzi2⟩:=aH ud;obtain⟨ac,cc,rfl,hx⟩:=hc;obtain⟨w0,hw0⟩:∃w0,w0=(w.alloc(.cells #[.int .i64 e.k,.int .i64 e.n,stv e.nm,.slice ao e.kids.len cap,.slice ac cells.length cc] 37)).alloc(.cells #[.int .i64 0,.int .i64 0,.string⟨#[]⟩,.slice none 0 0,.slice none 0 0] 37):=⟨_,rfl⟩
 have B0:Below w.heap.size w w0:=by rw[hw0];exact((Below.refl _ w).alloc(Nat.le_refl _) _).alloc(by simp) _
 have P0:w0.heap[w.heap.size]?=some(.cells #[.int .i64 e.k,.int .i64 e.n,stv e.nm,.slice ao e.kids.len cap,.slice ac cells.length cc] 37(0,0)):=by
  rw[hw0];exact(Below.heap_alloc _ _ _(by simp)).trans(heap_alloc_new w _)
 have Z0:w0.heap[w.heap.size+1]?=some(.cells #[.int .i64 0,.int .i64 0,.string⟨#[]⟩,.slice none 0 0,.slice none 0 0] 37(0,0)):=by
  rw[hw0]
  have:=heap_alloc_new(w.alloc(.cells #[.int .i64 e.k,.int .i64 e.n,stv e.nm,.slice ao e.kids.len cap,.slice ac cells.length cc] 37))(.cells #[.int .i64 0,.int .i64 0,.string⟨#[]⟩,.slice none 0 0,.slice none 0 0] 37)
  simpa using this
 have S0:=SnA.below S B0;obtain⟨_,_,hx1,hx0⟩:=Inw.below(P:=fun _=>True)⟨ac,cc,rfl,hx⟩ B0;injection hx1 with hx1 hx2 hx3
 subst hx1;subst hx3;have hnews:=InA.news(cap:=cc) hx0;have hone:=yr cells;clear hx hx0 hx2;rw[bZ];go_enter Tryz.func17,Tryz.ntmps17;go_upto_region 1 with fail;rw[<-hw0];clear hw0;obtain⟨n0,hn0⟩:∃n0,n0=w.heap.size:=⟨_,rfl⟩
 unfold xh;rw[<-hn0] at P0 Z0 B0 ⊢;have HB:Hid(n0=w.heap.size):=hn0;clear hn0;obtain⟨p0,p1,p2,p3,p4,pf⟩:=am P0;go_wp2_with(first|(at_builtin;refine fe rfl(.tmp 4)(.tmp 6) 35 rfl 3 ii(.int .i64 0) 1 8 Tryz.underlying35 hii hzi0 hzi1 hzi2 rfl(by decide)(fun _=>0) 5 _ 0 [] rfl(Row.nil _ _ _ _ _) ac cells.length cc(cells.map(Value.int .i64)) rfl ?c1 hnews hone ?c3 ?c4 ?_)|go_in)
 case c1=>simp
 case c3=>unfold maxLen;omega
 case c4=>omega
 intro a1 c1 w1 o1 R1 s1;try simp only[Nat.zero_add,List.nil_append] at R1
 try simp only[Nat.zero_add,List.nil_append]
 have b1:Below w0.heap.size w0 w1:=s1.below(fun k hk=>by decide);have hs1:=b1.size;have P1:=(b1.block _(lt_of_block P0)).trans P0;have Z1:=(b1.block _(lt_of_block Z0)).trans Z0;have hzl:=lt_of_block Z1;have oP:o1 n0=0:=s1.lab n0(lt_of_block P0);have oZ:o1(n0+1)=0:=s1.lab(n0+1)(lt_of_block Z0);have B1:Below n0 w w1:=B0.trans(b1.mono(by have:=lt_of_block P0;omega));have L1:Hid(∀ k,k<n0->o1 k=0):=fun k hk=>s1.lab k(by have:=lt_of_block P0;omega);have S1:=SnA.below S0 b1;clear p0 p1 p2 p3 p4 pf P0 Z0 B0 S0 s1 b1 hnews hone S hs1;go_upto_region 3 with fail;obtain⟨p0,p1,p2,p3,p4,pf⟩:=am P1;have Bd:Below w1.heap.size w1 w1.drew:=⟨rfl,rfl,rfl,Nat.le_refl _,fun _ _=>rfl⟩
 have Bda:=Bd.alloc(Nat.le_refl _)(.cells #[.int .i64(-7)] 3);have hcL:=fun(wx:World)(hx:SnA wx e.kids ao)=>qh(e.kids.size+1) e ao cap wx(by omega) hlen hsh hx;simp only[ah] at hcL;have hone:∀ u ∈ [Value.int .i64(-7)],u.oneCell'=true:=by intro u hu;simp at hu;subst hu;rfl
 have q1:cells.length+1<=maxLen:=by unfold maxLen;omega
 have q2:(cells.length+1)*8<=140737488355328:=by omega
 have hgo:Hid(∀ k,k<n0->o1 k≠5):=fun k hk=>by rw[L1.out k hk];decide
 have hpl:n0<w1.heap.size:=lt_of_block P1;have k0:w1.cell?⟨n0,0,none⟩=some(.int .i64 e.k)/\w1.cell?⟨n0,1,none⟩=some(.int .i64 e.n)/\w1.cell?⟨n0,2,none⟩=some(stv e.nm)/\w1.cell?⟨n0,3,none⟩=some(.slice ao e.kids.len cap)/\w1.cell?⟨n0,4,none⟩=some(.slice ac cells.length cc):=⟨p0,p1,p2,p3,p4⟩
 have k1:w1.drew.cell?⟨n0,0,none⟩=some(.int .i64 e.k)/\w1.drew.cell?⟨n0,1,none⟩=some(.int .i64 e.n)/\w1.drew.cell?⟨n0,2,none⟩=some(stv e.nm)/\w1.drew.cell?⟨n0,3,none⟩=some(.slice ao e.kids.len cap)/\w1.drew.cell?⟨n0,4,none⟩=some(.slice ac cells.length cc):=k0;have kA:(w1.alloc(.cells #[.int .i64(-7)] 3)).drew.cell?⟨n0,0,none⟩=some(.int .i64 e.k)/\(w1.alloc(.cells #[.int .i64(-7)] 3)).drew.cell?⟨n0,1,none⟩=some(.int .i64 e.n)/\(w1.alloc(.cells #[.int .i64(-7)] 3)).drew.cell?⟨n0,2,none⟩=some(stv e.nm)/\(w1.alloc(.cells #[.int .i64(-7)] 3)).drew.cell?⟨n0,3,none⟩=some(.slice ao e.kids.len cap)/\(w1.alloc(.cells #[.int .i64(-7)] 3)).drew.cell?⟨n0,4,none⟩=some(.slice ac cells.length cc):=⟨(Bda.cell(p:=⟨n0,0,none⟩) hpl).trans p0,(Bda.cell(p:=⟨n0,1,none⟩) hpl).trans p1,(Bda.cell(p:=⟨n0,2,none⟩) hpl).trans p2,(Bda.cell(p:=⟨n0,3,none⟩) hpl).trans p3,(Bda.cell(p:=⟨n0,4,none⟩) hpl).trans p4⟩
 go_region_held3(fun wx=>wx.cell?⟨n0,0,none⟩=some(.int .i64 e.k)/\wx.cell?⟨n0,1,none⟩=some(.int .i64 e.n)/\wx.cell?⟨n0,2,none⟩=some(stv e.nm)/\wx.cell?⟨n0,3,none⟩=some(.slice ao e.kids.len cap)/\wx.cell?⟨n0,4,none⟩=some(.slice ac cells.length cc))(first|(with_reducible exact k9)|(with_reducible exact vM k9)|(with_reducible exact k3)|(with_reducible exact k2)|(with_reducible exact kA)|(with_reducible exact k1)|(with_reducible exact k0))((first|(go_at_call 43;refine(hcL _(S1.belowP(by first|exact Bd|exact Bda))).mono ?_;rintro x w5⟨b5,c5,rfl,S5',B5⟩;have Bw:Below w1.heap.size w1 w5:=(by first|exact Bd.trans(B5.mono(by simp))|exact Bda.trans(B5.mono(by simp)));have S5:Spn w5(Nw w1.heap.size) e.kids b5 c5:=S5'.mono(fun _ _ _=>rfl)(Nat.le_refl _)(fun k hp _=>Nat.le_trans(by simp) hp);have k2:w5.cell?⟨n0,0,none⟩=some(.int .i64 e.k)/\w5.cell?⟨n0,1,none⟩=some(.int .i64 e.n)/\w5.cell?⟨n0,2,none⟩=some(stv e.nm)/\w5.cell?⟨n0,3,none⟩=some(.slice ao e.kids.len cap)/\w5.cell?⟨n0,4,none⟩=some(.slice ac cells.length cc):=⟨(Bw.cell(p:=⟨n0,0,none⟩) hpl).trans p0,(Bw.cell(p:=⟨n0,1,none⟩) hpl).trans p1,(Bw.cell(p:=⟨n0,2,none⟩) hpl).trans p2,(Bw.cell(p:=⟨n0,3,none⟩) hpl).trans p3,(Bw.cell(p:=⟨n0,4,none⟩) hpl).trans p4⟩;have Bw5:=Bw.alloc Bw.size(.cells #[.int .i64(-7)] 3);have k3:(w5.alloc(.cells #[.int .i64(-7)] 3)).cell?⟨n0,0,none⟩=some(.int .i64 e.k)/\(w5.alloc(.cells #[.int .i64(-7)] 3)).cell?⟨n0,1,none⟩=some(.int .i64 e.n)/\(w5.alloc(.cells #[.int .i64(-7)] 3)).cell?⟨n0,2,none⟩=some(stv e.nm)/\(w5.alloc(.cells #[.int .i64(-7)] 3)).cell?⟨n0,3,none⟩=some(.slice ao e.kids.len cap)/\(w5.alloc(.cells #[.int .i64(-7)] 3)).cell?⟨n0,4,none⟩=some(.slice ac cells.length cc):=⟨(Bw5.cell(p:=⟨n0,0,none⟩) hpl).trans p0,(Bw5.cell(p:=⟨n0,1,none⟩) hpl).trans p1,(Bw5.cell(p:=⟨n0,2,none⟩) hpl).trans p2,(Bw5.cell(p:=⟨n0,3,none⟩) hpl).trans p3,(Bw5.cell(p:=⟨n0,4,none⟩) hpl).trans p4⟩;rw[ah])|(refine cZ rfl(.tmp 11)(.tmp 12) 35 rfl 3 ii(.int .i64 0) 1 8 Tryz.underlying35 hii hzi0 hzi1 hzi2 rfl(by decide)(ae w1 o1 0) 5 _ cells.length(cells.map(Value.int .i64))(by simp[Act.eval,Act.put])((R1.step(Below.toStepC(I:=fun _=>False) Bw) id).step(((aa.refl(fun _=>False) w5(ae w1 o1 0))).alloc _) id)⟨w5.heap.size,0,none⟩ 1 1 [.int .i64(-7)](by simp[Act.eval,Act.put]) rfl(ro(by simp) _ _) hone(by decide) q1 q2 ?_;intro g9 c9 w9 o9 r9 s9;have FZ:=xP B1(by rw[HB.out];exact Nat.le_refl _) L1.out(Bw.alloc Bw.size(.cells #[.int .i64(-7)] 3))(S5.mono(fun i _ hl=>Below.heap_alloc w5 _ i hl)(by simp)(fun _ h _=>h)) s9;have P9:=(FZ.2.2 n0 hpl(by rw[oP];decide)).trans P1;have k9:w9.cell?⟨n0,0,none⟩=some(.int .i64 e.k)/\w9.cell?⟨n0,1,none⟩=some(.int .i64 e.n)/\w9.cell?⟨n0,2,none⟩=some(stv e.nm)/\w9.cell?⟨n0,3,none⟩=some(.slice ao e.kids.len cap)/\w9.cell?⟨n0,4,none⟩=some(.slice ac cells.length cc):=⟨(am P9).1,(am P9).2.1,(am P9).2.2.1,(am P9).2.2.2.1,(am P9).2.2.2.2.1⟩;have hg9:n0<=g9:=wK L1.out r9 s9(by have:=Bw.size;simp;omega)(by have:=hpl;omega);have hgz:g9≠n0+1:=BM oZ hzl r9 s9(by have:=Bw.size;simp;omega);have RZ:=yZ(P:=fun k=>n0<=k/\k≠n0+1) r9⟨hg9,hgz⟩;have hc9:=RZ.2;have Z9:=(FZ.2.2(n0+1) hzl(by rw[oZ];decide)).trans Z1;obtain⟨z0,z1,z2,z3,z4,zf⟩:=am Z9)|(refine cZ rfl(.tmp 11)(.tmp 12) 35 rfl 3 ii(.int .i64 0) 1 8 Tryz.underlying35 hii hzi0 hzi1 hzi2 rfl(by decide)(ae w1 o1 0) 5 _ cells.length(cells.map(Value.int .i64))(by simp[Act.eval,Act.put])(R1.step(Below.toStepC(I:=fun _=>False) Bw) id)⟨w1.heap.size,0,none⟩ 1 1 [.int .i64(-7)](by simp[Act.eval,Act.put]) rfl(ry B5) hone(by decide) q1 q2 ?_;intro g9 c9 w9 o9 r9 s9;have FZ:=xP B1(by rw[HB.out];exact Nat.le_refl _) L1.out Bw S5 s9;have P9:=(FZ.2.2 n0 hpl(by rw[oP];decide)).trans P1;have k9:w9.cell?⟨n0,0,none⟩=some(.int .i64 e.k)/\w9.cell?⟨n0,1,none⟩=some(.int .i64 e.n)/\w9.cell?⟨n0,2,none⟩=some(stv e.nm)/\w9.cell?⟨n0,3,none⟩=some(.slice ao e.kids.len cap)/\w9.cell?⟨n0,4,none⟩=some(.slice ac cells.length cc):=⟨(am P9).1,(am P9).2.1,(am P9).2.2.1,(am P9).2.2.2.1,(am P9).2.2.2.2.1⟩;have hg9:n0<=g9:=wK L1.out r9 s9(by have:=Bw.size;omega)(by have:=hpl;omega);have hgz:g9≠n0+1:=BM oZ hzl r9 s9(by have:=Bw.size;omega);have RZ:=yZ(P:=fun k=>n0<=k/\k≠n0+1) r9⟨hg9,hgz⟩;have hc9:=RZ.2;have Z9:=(FZ.2.2(n0+1) hzl(by rw[oZ];decide)).trans Z1;obtain⟨z0,z1,z2,z3,z4,zf⟩:=am Z9)))
 all_goals(
  have HU:Hid(∃wz,wz=(((((w9.setCell⟨n0+1,0,none⟩(.int .i64 e.k)).setCell⟨n0+1,1,none⟩(.int .i64 e.n)).setCell⟨n0+1,2,none⟩(stv e.nm)).setCell⟨n0+1,3,none⟩(.slice(some⟨b5,0,none⟩) e.kids.len c5)).setCell⟨n0+1,4,none⟩(.slice(some⟨g9,0,none⟩) cells.length c9))/\wz.cell?⟨n0+1,0,none⟩=some(.int .i64 e.k)/\wz.cell?⟨n0+1,1,none⟩=some(.int .i64 e.n)/\wz.cell?⟨n0+1,2,none⟩=some(stv e.nm)/\wz.cell?⟨n0+1,3,none⟩=some(.slice(some⟨b5,0,none⟩) e.kids.len c5)/\wz.cell?⟨n0+1,4,none⟩=some(.slice(some⟨g9,0,none⟩) cells.length c9)/\Spn wz(Nw n0) e.kids b5 c5/\LnI wz(Nw n0)(.slice(some⟨g9,0,none⟩) cells.length c9) cells/\Below n0 w wz):=by
   obtain⟨u0,u1,u2,u3,u4,-⟩:=am(bG(.int .i64 e.k)(.int .i64 e.n)(stv e.nm)(.slice(some⟨b5,0,none⟩) e.kids.len c5)(.slice(some⟨g9,0,none⟩) cells.length c9) Z9);refine⟨_,rfl,u0,u1,u2,u3,u4,FZ.2.1.mono(fun k hp _=>ej w9(n0+1) k _ _ _ _ _(by have hp:w1.heap.size<=k:=hp;omega))(by simp)(fun k hp _=>by have hp:w1.heap.size<=k:=hp;show n0<=k;omega),RZ.1.mono(fun k hp _=>ej w9(n0+1) k _ _ _ _ _ hp.2)(by simp)(fun k hp _=>hp.1),?_⟩;exact((((FZ.1.setCell(p:=⟨n0+1,0,none⟩)(Nat.le_succ _) _).setCell(p:=⟨n0+1,1,none⟩)(Nat.le_succ _) _).setCell(p:=⟨n0+1,2,none⟩)(Nat.le_succ _) _).setCell(p:=⟨n0+1,3,none⟩)(Nat.le_succ _) _).setCell(p:=⟨n0+1,4,none⟩)(Nat.le_succ _) _
  clear FZ RZ;go_wp2;obtain⟨wz,hwz,v0,v1,v2,v3,v4,SZ,LZ,BZ⟩:=HU.out;rw[<-hwz];exact bodyPost_ret(v:=plV e(some⟨b5,0,none⟩) c5(.slice(some⟨g9,0,none⟩) cells.length c9))(by simp[results,Tryz.results17,go_sem,v0,v1,v2,v3,v4,plV]) rfl⟨b5,c5,_,rfl,by rw[<-HB.out];exact SZ,by rw[<-HB.out];exact LZ,by rw[<-HB.out];exact BZ⟩)
theorem sc (e:Ex)(b0 cap:Nat)(cv:Value)(ao2:Option Addr)(cap2:Nat)(cv2:Value)(cells:List Int)(w:World)(hlen:e.kids.len<=1000000000)(hsh:e.kids.short)(hcl:cells.length<=1000000000)(S:iL w e.kids b0 cap)(S2:SnA w e.kids ao2)(hL:LnI w (fun _=>True) cv cells)(hc2:InA w cv2 cells) :
  Calls Tryz.prog 20 #[plV e(some⟨b0,0,none⟩) cap cv,plV e ao2 cap2 cv2] w fun x w'=>x=.returned(.bool true)/\Below w.heap.size w w':=by
 obtain⟨g,c,hcv,hL2⟩:=hL;have hL:LnI w(fun _=>True) cv cells:=⟨g,c,hcv,hL2⟩
 subst hcv;obtain⟨ac2,cc2,hcv2,hx2⟩:=hc2;have hc2:InA w cv2 cells:=⟨ac2,cc2,hcv2,hx2⟩
 subst hcv2;clear hL2 hx2;obtain⟨w0,hw0⟩:∃w0,w0=(w.alloc(.cells #[.int .i64 e.k,.int .i64 e.n,stv e.nm,.slice(some⟨b0,0,none⟩) e.kids.len cap,.slice(some⟨g,0,none⟩) cells.length c] 37)).alloc(.cells #[.int .i64 e.k,.int .i64 e.n,stv e.nm,.slice ao2 e.kids.len cap2,.slice ac2 cells.length cc2] 37):=⟨_,rfl⟩
 have B0:Below w.heap.size w w0:=by rw[hw0];exact((Below.refl _ w).alloc(Nat.le_refl _) _).alloc(by simp) _
 have E0:w0.heap[w.heap.size]?=some(.cells #[.int .i64 e.k,.int .i64 e.n,stv e.nm,.slice(some⟨b0,0,none⟩) e.kids.len cap,.slice(some⟨g,0,none⟩) cells.length c] 37(0,0)):=by
  rw[hw0];exact(Below.heap_alloc _ _ _(by simp)).trans(heap_alloc_new w _)
 have Y0:w0.heap[w.heap.size+1]?=some(.cells #[.int .i64 e.k,.int .i64 e.n,stv e.nm,.slice ao2 e.kids.len cap2,.slice ac2 cells.length cc2] 37(0,0)):=by
  rw[hw0]
  have:=heap_alloc_new(w.alloc(.cells #[.int .i64 e.k,.int .i64 e.n,stv e.nm,.slice(some⟨b0,0,none⟩) e.kids.len cap,.slice(some⟨g,0,none⟩) cells.length c] 37))(.cells #[.int .i64 e.k,.int .i64 e.n,stv e.nm,.slice ao2 e.kids.len cap2,.slice ac2 cells.length cc2] 37)
  simpa using this
 have S0:=iL.below S B0;have T0:=SnA.below S2 B0;have L0:=hL.below B0;have I0:=hc2.below B0;have c1:=uI w0 _ _ cells cells L0.inA I0 hcl;rw[decide_eq_true rfl] at c1;rw[bZ,bZ];go_enter Tryz.func20,Tryz.ntmps20;go_upto_region 1 with fail;rw[<-hw0];clear hw0;obtain⟨bx,hbx⟩:∃bx,bx=w.heap.size:=⟨_,rfl⟩
 rw[<-hbx] at E0 Y0 B0 ⊢;have HB:Hid(bx=w.heap.size):=hbx;clear hbx S S2 hL hc2 I0;obtain⟨p0,p1,p2,p3,p4,pf⟩:=am E0;obtain⟨q0,q1,q2,q3,q4,qf⟩:=am Y0;go_wp2_with fail;refine c1.mono ?_;rintro x w1⟨rfl,b1⟩;have E1:=(b1.block _(lt_of_block E0)).trans E0;have Y1:=(b1.block _(lt_of_block Y0)).trans Y0;have S1:=iL.below S0 b1;have T1:=SnA.below T0 b1;have L1:=L0.below b1;have B1:Below bx w w1:=B0.trans(b1.mono(by have:=lt_of_block E0;omega));clear c1 b1 E0 Y0 S0 T0 L0 B0 p0 p1 p2 p3 p4 pf q0 q1 q2 q3 q4 qf;obtain⟨p0,p1,p2,p3,p4,pf⟩:=am E1;obtain⟨q0,q1,q2,q3,q4,qf⟩:=am Y1;have c2:=pz(e.kids.size+1) e b0 cap ao2 cap2 w1(by omega) hlen hsh S1 T1;rw[ah,ah] at c2;go_wp2_with fail;refine c2.mono ?_;rintro x w2⟨rfl,b2⟩;have E2:=(b2.block _(lt_of_block E1)).trans E1;have L2:=L1.below b2;have B2:Below bx w w2:=B1.trans(b2.mono(by have:=lt_of_block E1;omega));clear c2 b2 E1 Y1 S1 T1 L1 B1 p0 p1 p2 p3 p4 pf q0 q1 q2 q3 q4 qf;obtain⟨p0,p1,p2,p3,p4,pf⟩:=am E2;obtain⟨g',c',hv,-,hlt,h1,h2,-,h7⟩:=L2;injection hv with hv1 hv2 hv3
 injection hv1 with hv1
 injection hv1 with hv1
 subst hv1;subst hv3;have h1I:(cells.length:Int)+1<=(c:Int):=by omega
 have hcm:c<=9223372036854775807:=h2;have hw1:IntKind.i64.wrap((cells.length:Int)+1)=(cells.length:Int)+1:=by rw[IntKind.wrap_i64];omega
 have hlt1:(cells.length:Int)<(cells.length:Int)+1:=by omega
 clear hv2;go_upto_region 3 with fail
 go_quiet(fail)
 go_wp2;go_ret;exact⟨rfl,by rw[<-HB.out];exact bdr B2 nq⟩
structure CdQ where
 ws:List Int
 cs:List Int
 ns:List ByteArray
 ks:List Int
def mL (w:World)(ao:Option Addr)(xs:List Value):Prop :=
 xs=[]\/∃b off,ao=some⟨b,off,none⟩/\b<w.heap.size/\∀ j x,xs[j]?=some x->w.cell?⟨b,off+j,none⟩=some x
theorem mL.below {w w':World}{ao:Option Addr}{xs:List Value}(h:mL w ao xs)(B:Below w.heap.size w w'):mL w' ao xs:=by
 rcases h with h|⟨b,off,rfl,hlt,hc⟩
 ·exact .inl h
 ·exact .inr⟨b,off,rfl,Nat.lt_of_lt_of_le hlt B.size,fun j x hx=>(B.cell(p:=⟨b,off+j,none⟩) hlt).trans(hc j x hx)⟩
theorem mL.at {w:World}{ao:Option Addr}{xs:List Value}(h:mL w ao xs){j:Nat}{x:Value}(hx:xs[j]?=some x):∃b off,ao=some ⟨b,off,none⟩/\b<w.heap.size/\w.cell? ⟨b,off+j,none⟩=some x:=by
 rcases h with rfl|⟨b,off,rfl,hlt,hc⟩
 ·simp at hx
 ·exact⟨b,off,rfl,hlt,hc j x hx⟩
def qA (l:List Int):List Value:=l.map (.int .u64 ·)
def uW (l:List Int):List Value:=l.map (.int .i64 ·)
def qg (l:List ByteArray):List Value:=l.map (.string ·)
theorem tj {l:List Int}{k:Nat}(h:k<l.length):(qA l)[k]?=some (.int .u64 l[k]):=by
 simp[qA,List.getElem?_eq_getElem h]
theorem iV {l:List Int}{k:Nat}(h:k<l.length):(uW l)[k]?=some (.int .i64 l[k]):=by
 simp[uW,List.getElem?_eq_getElem h]
theorem sI {l:List ByteArray}{k:Nat}(h:k<l.length):(qg l)[k]?=some (.string l[k]):=by
 simp[qg,List.getElem?_eq_getElem h]
structure PlQ where
 aw:Option Addr
 cw:Nat
 ac:Option Addr
 cc:Nat
 an:Option Addr
 cn:Nat
 ak:Option Addr
 ck:Nat
abbrev gm (p:PlQ)(c:CdQ):Array Value:=#[.slice p.aw c.ws.length p.cw,.slice p.ac c.cs.length p.cc,.slice p.an c.ns.length p.cn,.slice p.ak c.ks.length p.ck]
abbrev vE (p:PlQ)(c:CdQ):Value:=.agg (gm p c)
structure jZ (w:World)(p:PlQ)(c:CdQ):Prop where
 ws:mL w p.aw(qA c.ws)
 cs:mL w p.ac(uW c.cs)
 ns:mL w p.an(qg c.ns)
 ks:mL w p.ak(uW c.ks)
 lw:c.ws.length<=9223372036854775807
 lc:c.cs.length<=9223372036854775807
 ln:c.ns.length<=9223372036854775807
 lk:c.ks.length<=9223372036854775807
theorem jZ.below {w w':World}{p:PlQ}{c:CdQ}(h:jZ w p c)(B:Below w.heap.size w w'):jZ w' p c :=
 ⟨h.ws.below B,h.cs.below B,h.ns.below B,h.ks.below B,h.lw,h.lc,h.ln,h.lk⟩
theorem DM (w:World)(a b c d:Value)(t:TypeId):(w.alloc (.cells #[a,b,c,d] t)).heap[w.heap.size]?=some (.cells #[a,b,c,d] t (0,0)):=heap_alloc_new _ _
theorem pJ {w:World}{g:Nat}{a b c d:Value}{t:TypeId}(h:w.heap[g]?=some (.cells #[a,b,c,d] t (0,0))):w.cell? ⟨g,0,none⟩=some a/\w.cell? ⟨g,1,none⟩=some b/\w.cell? ⟨g,2,none⟩=some c/\w.cell? ⟨g,3,none⟩=some d:=by
 refine⟨?_,?_,?_,?_⟩<;>simp[World.cell?,h]
abbrev qt (p:PlQ)(c:CdQ)(w:World)(b:Nat):Prop:=w.cell? ⟨b,0,none⟩=some (.slice p.aw c.ws.length p.cw)/\w.cell? ⟨b,1,none⟩=some (.slice p.ac c.cs.length p.cc)/\w.cell? ⟨b,2,none⟩=some (.slice p.an c.ns.length p.cn)/\w.cell? ⟨b,3,none⟩=some (.slice p.ak c.ks.length p.ck)
theorem iK {p:PlQ}{c:CdQ}{w w':World}{b:Nat}(h:qt p c w b)(hb:b<w.heap.size)(B:Below w.heap.size w w'):qt p c w' b :=
 ⟨(B.cell(p:=⟨b,0,none⟩) hb).trans h.1,(B.cell(p:=⟨b,1,none⟩) hb).trans h.2.1,(B.cell(p:=⟨b,2,none⟩) hb).trans h.2.2.1,(B.cell(p:=⟨b,3,none⟩) hb).trans h.2.2.2⟩
theorem pM (p:PlQ)(c:CdQ)(w:World):qt p c (w.alloc (.cells (gm p c) 42)) w.heap.size:=pJ (DM _ _ _ _ _ _)
theorem aa.newQ {I:Nat->Prop}{w w':World}(o:Nat->Nat)(i:Nat)(B:Below w.heap.size w w'):aa I w o w' (ae w o i):=⟨B.os,B.tape,B.output,B.size,fun k hk=>aC hk,fun k hk _=>B.block k hk⟩
theorem Row.lsvQ {w:World}{o:Nat->Nat}{i:Nat}{e:TypeId}{ao:Option Addr}{n cap:Nat}{xs:List Value}(h:Row w o i e 1 (.slice ao n cap) n xs):mL w ao xs:=by
 by_cases hn:0<n
 ·obtain⟨g,c,hv,-,-,-,hlt,hc,-⟩:=h.pos hn;simp only[Value.slice.injEq,true_and] at hv;refine .inr⟨g,0,hv.1,hlt,fun j x hx=>?_⟩;have hl:=h.len;have hj:j<n*1:=by have:=(List.getElem?_eq_some_iff.1 hx).1;omega
  rw[Nat.zero_add,hc j hj];exact hx
 ·have hl:=h.len;exact .inl(List.eq_nil_of_length_eq_zero(by omega))
theorem gX {g:Nat}{w w':World}(h:Below g w w')(n:Nat):Below g w (w'.drewN n):=by
 induction n with
 | zero=>exact h
 | succ n ih=>exact ih.drew
theorem uJ (p q:PlQ)(c:CdQ)(w:World)(hp:jZ w p c)(hq:jZ w q c) :
  Calls Tryz.prog 19 #[vE p c,vE q c] w fun e w'=>e=.returned(.bool true)/\Below w.heap.size w w':=by
 obtain⟨g,hg⟩:∃g,g=w.heap.size:=⟨_,rfl⟩
 obtain⟨w2,hw2⟩:∃w2,w2=(w.alloc(.cells(gm p c) 42)).alloc(.cells(gm q c) 42):=⟨_,rfl⟩
 have B1:Below g w w2:=by rw[hw2,hg];exact((Below.refl _ w).alloc(Nat.le_refl _) _).alloc(by simp) _
 have z2:w2.heap.size=g+2:=by rw[hw2,hg];simp
 have KP:qt p c w2 g:=by
  rw[hw2,hg];exact iK(pM p c w)(by simp)(b1 _ _)
 have KQ:qt q c w2(g+1):=by
  have:=pM q c(w.alloc(.cells(gm p c) 42))
  rw[hw2,hg];simpa using this
 have P2:jZ w2 p c:=hp.below(by rw[<-hg];exact B1);have Q2:jZ w2 q c:=hq.below(by rw[<-hg];exact B1);have HG:=Lib.hid hg;have l1:=P2.lw;have l2:=P2.lc;have l3:=P2.ln;have l4:=P2.lk;clear hp hq hg;have K:∀ {wr:World},Below w2.heap.size w2 wr->qt p c wr g/\qt q c wr(g+1)/\jZ wr p c/\jZ wr q c:=fun {wr} B=>⟨iK KP(by omega) B,iK KQ(by omega) B,P2.below B,Q2.below B⟩;have Bz:Below w2.heap.size w2 w2:=Below.refl _ _;obtain⟨a0,a1,a2,a3⟩:=KP;obtain⟨e0,e1,e2,e3⟩:=KQ;clear P2 Q2;go_enter Tryz.func19,Tryz.ntmps19;go_wp2_with fail;rw[<-hw2,<-HG.out];clear hw2;go_wp2_with fail;go_loopw [5](fun v wr=>∃k:Nat,v=.int .i64(k:Nat)/\k<=c.ws.length/\Below w2.heap.size w2 wr)(fun v _=>c.ws.length-(intOf v).toNat)
 case atStart=>exact⟨0,by go_num,by omega,Bz⟩
 case round =>
  obtain⟨k,rfl,hk,BR0⟩:=hrel;clear a0 a1 a2 a3 e0 e1 e2 e3;obtain⟨⟨a0,a1,a2,a3⟩,⟨e0,e1,e2,e3⟩,PR,QR⟩:=K BR0;by_cases hlt:k<c.ws.length
  ·have hkI:(k:Int)<(c.ws.length:Int):=by omega
   obtain⟨b1,o1,h1,l1,x1⟩:=PR.ws.at(tj hlt);obtain⟨b2,o2,h2,l2,x2⟩:=QR.ws.at(tj hlt);generalize c.ws[k]=u at x1 x2;rw[h1] at a0;rw[h2] at e0;go_wp2_with fail
   go_quiet(fail)
   go_wp2;go_roundw
   case rel=>(try((repeat apply Exists.intro);refine⟨?_,rfl⟩));exact⟨k+1,by go_num,by omega,gX BR0 _⟩
   case measure=>simp[intOf];omega
  ·have hkI:¬(k:Int)<(c.ws.length:Int):=by omega
   clear PR QR;go_wp2_with fail;go_loopw [6](fun v wr=>∃k:Nat,v=.int .i64(k:Nat)/\k<=c.cs.length/\Below w2.heap.size w2 wr)(fun v _=>c.cs.length-(intOf v).toNat)
   case atStart=>exact⟨0,by go_num,by omega,BR0⟩
   case round =>
    obtain⟨k,rfl,hk,BR1⟩:=hrel;clear a0 a1 a2 a3 e0 e1 e2 e3;obtain⟨⟨a0,a1,a2,a3⟩,⟨e0,e1,e2,e3⟩,PR,QR⟩:=K BR1;by_cases hlt:k<c.cs.length
    ·have hkI:(k:Int)<(c.cs.length:Int):=by omega
     obtain⟨b1,o1,h1,l1,x1⟩:=PR.cs.at(iV hlt);obtain⟨b2,o2,h2,l2,x2⟩:=QR.cs.at(iV hlt);generalize c.cs[k]=u at x1 x2;rw[h1] at a1;rw[h2] at e1;go_wp2_with fail
     go_quiet(fail)
     go_wp2;go_roundw
     case rel=>(try((repeat apply Exists.intro);refine⟨?_,rfl⟩));exact⟨k+1,by go_num,by omega,gX BR1 _⟩
     case measure=>simp[intOf];omega
    ·have hkI:¬(k:Int)<(c.cs.length:Int):=by omega
     clear PR QR;go_wp2_with fail;go_loopw [7](fun v wr=>∃k:Nat,v=.int .i64(k:Nat)/\k<=c.ns.length/\Below w2.heap.size w2 wr)(fun v _=>c.ns.length-(intOf v).toNat)
     case atStart=>exact⟨0,by go_num,by omega,BR1⟩
     case round =>
      obtain⟨k,rfl,hk,BR2⟩:=hrel;clear a0 a1 a2 a3 e0 e1 e2 e3;obtain⟨⟨a0,a1,a2,a3⟩,⟨e0,e1,e2,e3⟩,PR,QR⟩:=K BR2;by_cases hlt:k<c.ns.length
      ·have hkI:(k:Int)<(c.ns.length:Int):=by omega
       obtain⟨b1,o1,h1,l1,x1⟩:=PR.ns.at(sI hlt);obtain⟨b2,o2,h2,l2,x2⟩:=QR.ns.at(sI hlt);generalize c.ns[k]=u at x1 x2;rw[h1] at a2;rw[h2] at e2;go_wp2_with fail
       go_quiet(fail)
       go_wp2;go_roundw
       case rel=>(try((repeat apply Exists.intro);refine⟨?_,rfl⟩));exact⟨k+1,by go_num,by omega,gX BR2 _⟩
       case measure=>simp[intOf];omega
      ·have hkI:¬(k:Int)<(c.ns.length:Int):=by omega
       clear PR QR;go_wp2_with fail;go_loopw [8](fun v wr=>∃k:Nat,v=.int .i64(k:Nat)/\k<=c.ks.length/\Below w2.heap.size w2 wr)(fun v _=>c.ks.length-(intOf v).toNat)
       case atStart=>exact⟨0,by go_num,by omega,BR2⟩
       case round =>
        obtain⟨k,rfl,hk,BR3⟩:=hrel;clear a0 a1 a2 a3 e0 e1 e2 e3;obtain⟨⟨a0,a1,a2,a3⟩,⟨e0,e1,e2,e3⟩,PR,QR⟩:=K BR3;by_cases hlt:k<c.ks.length
        ·have hkI:(k:Int)<(c.ks.length:Int):=by omega
         obtain⟨b1,o1,h1,l1,x1⟩:=PR.ks.at(iV hlt);obtain⟨b2,o2,h2,l2,x2⟩:=QR.ks.at(iV hlt);generalize c.ks[k]=u at x1 x2;rw[h1] at a3;rw[h2] at e3;go_wp2_with fail
         go_quiet(fail)
         go_wp2;go_roundw
         case rel=>(try((repeat apply Exists.intro);refine⟨?_,rfl⟩));exact⟨k+1,by go_num,by omega,gX BR3 _⟩
         case measure=>simp[intOf];omega
        ·have hkI:¬(k:Int)<(c.ks.length:Int):=by omega
         go_wp2;go_ret;exact⟨rfl,by rw[<-HG.out];exact B1.trans(BR3.mono(by omega))⟩
structure qF (w:World)(o:Nat->Nat)(p:PlQ)(c:CdQ):Prop where
 ws:Row w o 3 54 1(.slice p.aw c.ws.length p.cw) c.ws.length(qA c.ws)
 cs:Row w o 4 3 1(.slice p.ac c.cs.length p.cc) c.cs.length(uW c.cs)
 ns:Row w o 5 9 1(.slice p.an c.ns.length p.cn) c.ns.length(qg c.ns)
 ks:Row w o 6 3 1(.slice p.ak c.ks.length p.ck) c.ks.length(uW c.ks)
 lw:c.ws.length<=32768
 lc:c.cs.length<=100000000
 ln:c.ns.length<=100000000
 lk:c.ks.length<=256
theorem qF.step {I:Nat->Prop}{w w':World}{o o':Nat->Nat}{p:PlQ}{c:CdQ}(h:qF w o p c)(s:aa I w o w' o')(h3:¬I 3)(h4:¬I 4)(h5:¬I 5)(h6:¬I 6):qF w' o' p c :=
 ⟨h.ws.step s h3,h.cs.step s h4,h.ns.step s h5,h.ks.step s h6,h.lw,h.lc,h.ln,h.lk⟩
abbrev lJ:Nat->Prop:=fun k=>3<=k/\k<=6
theorem Row.put1Q {w:World}{o:Nat->Nat}{i:Nat}{e:TypeId}{ao:Option Addr}{n cap:Nat}{xs:List Value}(h:Row w o i e 1 (.slice ao n cap) n xs){j:Nat}(hj:j<n) :
  ∃b x,ao=some⟨b,0,none⟩/\o b=i/\w.cell?⟨b,j,none⟩=some x/\w.frozen?⟨b,j,none⟩=false/\∀ u,Row(w.setCell⟨b,j,none⟩ u) o i e 1(.slice ao n cap) n(xs.set j u):=by
 obtain⟨g,c,hv,ho,-,-,-,hc,hf⟩:=h.pos(by omega);simp only[Value.slice.injEq,true_and] at hv;obtain⟨rfl,rfl⟩:=hv;have hl:=h.len;have hjx:j<xs.length:=by omega
 exact⟨g,xs[j],rfl,ho,by rw[hc j(by omega)];exact List.getElem?_eq_getElem hjx,hf j,fun u=>h.store j u⟩
structure gP (w0:World)(o0:Nat->Nat)(g:Nat)(p:PlQ)(c:CdQ)(w:World)(o:Nat->Nat):Prop where
 bx:Blk w o 9 g(.cells(gm p c) 42)
 ws:∃xs,Row w o 3 54 1(.slice p.aw c.ws.length p.cw) c.ws.length xs
 cs:∃xs,Row w o 4 3 1(.slice p.ac c.cs.length p.cc) c.cs.length xs
 ns:∃xs,Row w o 5 9 1(.slice p.an c.ns.length p.cn) c.ns.length xs
 ks:∃xs,Row w o 6 3 1(.slice p.ak c.ks.length p.ck) c.ks.length xs
 sp:aa lJ w0 o0 w o
theorem gP.ws1 {w0 w:World}{o0 o:Nat->Nat}{g:Nat}{p:PlQ}{c:CdQ}(h:gP w0 o0 g p c w o){j:Nat}(hj:j<c.ws.length):∃b x,p.aw=some ⟨b,0,none⟩/\w.cell? ⟨b,j,none⟩=some x/\w.frozen? ⟨b,j,none⟩=false/\∀ u,gP w0 o0 g p c (w.setCell ⟨b,j,none⟩ u) o:=by
 obtain⟨xs,hx⟩:=h.ws;obtain⟨b,x,e1,e2,e3,e4,hr⟩:=hx.put1Q hj;have S:∀ u,aa(fun k=>k=3) w o(w.setCell⟨b,j,none⟩ u) o:=fun u=>(aa.refl _ w o).setCell⟨b,j,none⟩ u e2;exact⟨b,x,e1,e3,e4,fun u=>⟨h.bx.step(S u)(by decide),⟨_,hr u⟩,(by obtain⟨ys,hy⟩:=h.cs;exact⟨ys,hy.step(S u)(by decide)⟩),(by obtain⟨ys,hy⟩:=h.ns;exact⟨ys,hy.step(S u)(by decide)⟩),(by obtain⟨ys,hy⟩:=h.ks;exact⟨ys,hy.step(S u)(by decide)⟩),h.sp.trans((S u).mono(fun k hk=>by subst hk;decide))⟩⟩
theorem gP.cs1 {w0 w:World}{o0 o:Nat->Nat}{g:Nat}{p:PlQ}{c:CdQ}(h:gP w0 o0 g p c w o){j:Nat}(hj:j<c.cs.length):∃b x,p.ac=some ⟨b,0,none⟩/\w.cell? ⟨b,j,none⟩=some x/\w.frozen? ⟨b,j,none⟩=false/\∀ u,gP w0 o0 g p c (w.setCell ⟨b,j,none⟩ u) o:=by
 obtain⟨xs,hx⟩:=h.cs;obtain⟨b,x,e1,e2,e3,e4,hr⟩:=hx.put1Q hj;have S:∀ u,aa(fun k=>k=4) w o(w.setCell⟨b,j,none⟩ u) o:=fun u=>(aa.refl _ w o).setCell⟨b,j,none⟩ u e2;exact⟨b,x,e1,e3,e4,fun u=>⟨h.bx.step(S u)(by decide),(by obtain⟨ys,hy⟩:=h.ws;exact⟨ys,hy.step(S u)(by decide)⟩),⟨_,hr u⟩,(by obtain⟨ys,hy⟩:=h.ns;exact⟨ys,hy.step(S u)(by decide)⟩),(by obtain⟨ys,hy⟩:=h.ks;exact⟨ys,hy.step(S u)(by decide)⟩),h.sp.trans((S u).mono(fun k hk=>by subst hk;decide))⟩⟩
theorem gP.ns1 {w0 w:World}{o0 o:Nat->Nat}{g:Nat}{p:PlQ}{c:CdQ}(h:gP w0 o0 g p c w o){j:Nat}(hj:j<c.ns.length):∃b x,p.an=some ⟨b,0,none⟩/\w.cell? ⟨b,j,none⟩=some x/\w.frozen? ⟨b,j,none⟩=false/\∀ u,gP w0 o0 g p c (w.setCell ⟨b,j,none⟩ u) o:=by
 obtain⟨xs,hx⟩:=h.ns;obtain⟨b,x,e1,e2,e3,e4,hr⟩:=hx.put1Q hj;have S:∀ u,aa(fun k=>k=5) w o(w.setCell⟨b,j,none⟩ u) o:=fun u=>(aa.refl _ w o).setCell⟨b,j,none⟩ u e2;exact⟨b,x,e1,e3,e4,fun u=>⟨h.bx.step(S u)(by decide),(by obtain⟨ys,hy⟩:=h.ws;exact⟨ys,hy.step(S u)(by decide)⟩),(by obtain⟨ys,hy⟩:=h.cs;exact⟨ys,hy.step(S u)(by decide)⟩),⟨_,hr u⟩,(by obtain⟨ys,hy⟩:=h.ks;exact⟨ys,hy.step(S u)(by decide)⟩),h.sp.trans((S u).mono(fun k hk=>by subst hk;decide))⟩⟩
theorem gP.ks1 {w0 w:World}{o0 o:Nat->Nat}{g:Nat}{p:PlQ}{c:CdQ}(h:gP w0 o0 g p c w o){j:Nat}(hj:j<c.ks.length):∃b x,p.ak=some ⟨b,0,none⟩/\w.cell? ⟨b,j,none⟩=some x/\w.frozen? ⟨b,j,none⟩=false/\∀ u,gP w0 o0 g p c (w.setCell ⟨b,j,none⟩ u) o:=by
 obtain⟨xs,hx⟩:=h.ks;obtain⟨b,x,e1,e2,e3,e4,hr⟩:=hx.put1Q hj;have S:∀ u,aa(fun k=>k=6) w o(w.setCell⟨b,j,none⟩ u) o:=fun u=>(aa.refl _ w o).setCell⟨b,j,none⟩ u e2;exact⟨b,x,e1,e3,e4,fun u=>⟨h.bx.step(S u)(by decide),(by obtain⟨ys,hy⟩:=h.ws;exact⟨ys,hy.step(S u)(by decide)⟩),(by obtain⟨ys,hy⟩:=h.cs;exact⟨ys,hy.step(S u)(by decide)⟩),(by obtain⟨ys,hy⟩:=h.ns;exact⟨ys,hy.step(S u)(by decide)⟩),⟨_,hr u⟩,h.sp.trans((S u).mono(fun k hk=>by subst hk;decide))⟩⟩
theorem z8 (p:PlQ)(c:CdQ)(w:World)(o:Nat->Nat)(h:qF w o p c) :
  Calls Tryz.prog 21 #[vE p c] w fun e w'=>e=.returned(.tuple #[])/\∃o',aa lJ w o w' o':=by
 obtain⟨iw,iw1,iw2,iw3,iw4⟩:=aH qM;obtain⟨ii,ii1,ii2,ii3,ii4⟩:=aH oj;obtain⟨is,is1,is2,is3,is4⟩:=aH sv;obtain⟨g,hg⟩:∃g,g=w.heap.size:=⟨_,rfl⟩
 obtain⟨w2,hw2⟩:∃w2,w2=w.alloc(.cells(gm p c) 42):=⟨_,rfl⟩
 have SN:∀ {I:Nat->Prop},aa I w o w2(ae w o 9):=fun {I}=>aa.newQ o 9(by rw[hw2];exact b1 _ _);have G2:Blk w2(ae w o 9) 9 g(.cells(gm p c) 42):=by rw[hw2,hg];exact⟨heap_alloc_new _ _,ax(Nat.le_refl _)⟩
 have h2:=h.step(SN(I:=fun _=>False)) id id id id;have Z0:gP w2(ae w o 9) g p c w2(ae w o 9):=⟨G2,⟨_,h2.ws⟩,⟨_,h2.cs⟩,⟨_,h2.ns⟩,⟨_,h2.ks⟩,aa.refl _ _ _⟩
 have SO:aa lJ w o w2(ae w o 9):=SN;have l1:=h.lw;have l2:=h.lc;have l3:=h.ln;have l4:=h.lk;generalize ae w o 9=o2 at *;have HG:=Lib.hid hg;have HSO:=Lib.hid SO;clear SN SO G2 h h2 hg;obtain⟨⟨a0,a1,a2,a3⟩,-⟩:=ai Z0.bx.1;go_enter Tryz.func21,Tryz.ntmps21;go_wp2_with fail;rw[<-hw2,<-HG.out];clear hw2;go_wp2_with fail;go_loopw [2](fun v wr=>∃k:Nat,v=.int .i64(k:Nat)/\k<=c.ws.length/\gP w2 o2 g p c wr o2)(fun v _=>c.ws.length-(intOf v).toNat)
 case atStart=>exact⟨0,by go_num,by omega,Z0⟩
 case round =>
  obtain⟨k,rfl,hk,Z1⟩:=hrel;clear a0 a1 a2 a3;obtain⟨⟨a0,a1,a2,a3⟩,-⟩:=ai Z1.bx.1;by_cases hlt:k<c.ws.length
  ·have hkI:(k:Int)<(c.ws.length:Int):=by omega
   obtain⟨b,x,e1,e2,e3,HZ⟩:=Z1.ws1 hlt;have HZ2:=Lib.hid(HZ(.int .u64 9));rw[e1] at a0;clear HZ e1;go_wp2;go_roundw
   case rel=>(try((repeat apply Exists.intro);refine⟨?_,rfl⟩));exact⟨k+1,by go_num,by omega,HZ2.out⟩
   case measure=>simp[intOf];omega
  ·have hkI:¬(k:Int)<(c.ws.length:Int):=by omega
   clear hlt hk;go_wp2_with fail;go_loopw [3](fun v wr=>∃k:Nat,v=.int .i64(k:Nat)/\k<=c.cs.length/\gP w2 o2 g p c wr o2)(fun v _=>c.cs.length-(intOf v).toNat)
   case atStart=>exact⟨0,by go_num,by omega,Z1⟩
   case round =>
    obtain⟨k,rfl,hk,Z2⟩:=hrel;clear a0 a1 a2 a3;obtain⟨⟨a0,a1,a2,a3⟩,-⟩:=ai Z2.bx.1;by_cases hlt:k<c.cs.length
    ·have hkI:(k:Int)<(c.cs.length:Int):=by omega
     obtain⟨b,x,e1,e2,e3,HZ⟩:=Z2.cs1 hlt;have HZ2:=Lib.hid(HZ(.int .i64(-9)));rw[e1] at a1;clear HZ e1;go_wp2;go_roundw
     case rel=>(try((repeat apply Exists.intro);refine⟨?_,rfl⟩));exact⟨k+1,by go_num,by omega,HZ2.out⟩
     case measure=>simp[intOf];omega
    ·have hkI:¬(k:Int)<(c.cs.length:Int):=by omega
     clear hlt hk;go_wp2_with fail;go_loopw [4](fun v wr=>∃k:Nat,v=.int .i64(k:Nat)/\k<=c.ns.length/\gP w2 o2 g p c wr o2)(fun v _=>c.ns.length-(intOf v).toNat)
     case atStart=>exact⟨0,by go_num,by omega,Z2⟩
     case round =>
      obtain⟨k,rfl,hk,Z3⟩:=hrel;clear a0 a1 a2 a3;obtain⟨⟨a0,a1,a2,a3⟩,-⟩:=ai Z3.bx.1;by_cases hlt:k<c.ns.length
      ·have hkI:(k:Int)<(c.ns.length:Int):=by omega
       obtain⟨b,x,e1,e2,e3,HZ⟩:=Z3.ns1 hlt;have HZ2:=Lib.hid(HZ(.string⟨#[111,118,101,114]⟩));rw[e1] at a2;clear HZ e1;go_wp2;go_roundw
       case rel=>(try((repeat apply Exists.intro);refine⟨?_,rfl⟩));exact⟨k+1,by go_num,by omega,HZ2.out⟩
       case measure=>simp[intOf];omega
      ·have hkI:¬(k:Int)<(c.ns.length:Int):=by omega
       clear hlt hk;go_wp2_with fail;go_loopw [5](fun v wr=>∃k:Nat,v=.int .i64(k:Nat)/\k<=c.ks.length/\gP w2 o2 g p c wr o2)(fun v _=>c.ks.length-(intOf v).toNat)
       case atStart=>exact⟨0,by go_num,by omega,Z3⟩
       case round =>
        obtain⟨k,rfl,hk,Z4⟩:=hrel;clear a0 a1 a2 a3;obtain⟨⟨a0,a1,a2,a3⟩,-⟩:=ai Z4.bx.1;by_cases hlt:k<c.ks.length
        ·have hkI:(k:Int)<(c.ks.length:Int):=by omega
         obtain⟨b,x,e1,e2,e3,HZ⟩:=Z4.ks1 hlt;have HZ2:=Lib.hid(HZ(.int .i64(-9)));rw[e1] at a3;clear HZ e1;go_wp2;go_roundw
         case rel=>(try((repeat apply Exists.intro);refine⟨?_,rfl⟩));exact⟨k+1,by go_num,by omega,HZ2.out⟩
         case measure=>simp[intOf];omega
        ·have hkI:¬(k:Int)<(c.ks.length:Int):=by omega
         clear hlt hk;obtain⟨x1,P1⟩:=Z4.ws;obtain⟨x2,P2⟩:=Z4.cs;obtain⟨x3,P3⟩:=Z4.ns;obtain⟨x4,P4⟩:=Z4.ks;have SX:=Z4.sp;have BX:=Z4.bx;clear Z4;go_wp2_with(first|(at_builtin;refine aB rfl _ _ 39 rfl 54 iw(.int .u64 0) 1 8 Tryz.underlying39 iw1 iw2 iw3 iw4 rfl(by decide) o2 3 _ c.ws.length x1(by first|rfl|(simp;done))(P1.step(aa.ofBelow(I:=fun _=>False) o2(b1 _ _)) id)⟨wr.heap.size,0,none⟩ 1 1 [.int .u64 8] rfl rfl ?c1 ?d1(by decide) ?e1 ?f1 ?_)|go_in);try case c1=>exact cJ _ _ _
         try case d1=>first|rfl|exact f6 _ rfl
         case e1=>unfold maxLen;omega
         case f1=>omega
         intro g1 q1 w1a o1a P1 S1;have S1n:aa(fun k=>k=3) wr o2 w1a o1a:=(aa.ofBelow o2(b1 wr(.cells #[.int .u64 8] 54))).trans S1;have SX:=SX.trans(S1n.mono(J:=lJ)(fun k hk=>by subst hk;decide));have BX:=BX.step S1n(by decide)
         replace P2:=P2.step S1n(by decide)
         replace P3:=P3.step S1n(by decide)
         replace P4:=P4.step S1n(by decide)
         clear S1 S1n a0 a1 a2 a3;obtain⟨⟨a0,a1,a2,a3⟩,-⟩:=ai BX.1;go_wp2_with(first|(at_builtin;refine aB rfl _ _ 35 rfl 3 ii(.int .i64 0) 1 8 Tryz.underlying35 ii1 ii2 ii3 ii4 rfl(by decide) o1a 4 _ c.cs.length x2(by first|rfl|(simp;done))(P2.step(aa.ofBelow(I:=fun _=>False) o1a(b1 _ _)) id)⟨w1a.heap.size,0,none⟩ 1 1 [.int .i64 8] rfl rfl ?c2 ?d2(by decide) ?e2 ?f2 ?_)|go_in);try case c2=>exact cJ _ _ _
         try case d2=>first|rfl|exact f6 _ rfl
         case e2=>unfold maxLen;omega
         case f2=>omega
         intro g2 q2 w2a o2a P2 S2;have S2n:aa(fun k=>k=4) w1a o1a w2a o2a:=(aa.ofBelow o1a(b1 w1a(.cells #[.int .i64 8] 3))).trans S2;have SX:=SX.trans(S2n.mono(J:=lJ)(fun k hk=>by subst hk;decide));have BX:=BX.step S2n(by decide)
         replace P1:=P1.step S2n(by decide)
         replace P3:=P3.step S2n(by decide)
         replace P4:=P4.step S2n(by decide)
         clear S2 S2n a0 a1 a2 a3;obtain⟨⟨a0,a1,a2,a3⟩,-⟩:=ai BX.1;go_wp2_with(first|(at_builtin;refine aB rfl _ _ 40 rfl 9 is(.string⟨#[]⟩) 1 16 Tryz.underlying40 is1 is2 is3 is4 rfl(by decide) o2a 5 _ c.ns.length x3(by first|rfl|(simp;done))(P3.step(aa.ofBelow(I:=fun _=>False) o2a(b1 _ _)) id)⟨w2a.heap.size,0,none⟩ 1 1 [.string⟨#[109,111,114,101]⟩] rfl rfl ?c3 ?d3(by decide) ?e3 ?f3 ?_)|go_in);try case c3=>exact cJ _ _ _
         try case d3=>first|rfl|exact f6 _ rfl
         case e3=>unfold maxLen;omega
         case f3=>omega
         intro g3 q3 w3a o3a P3 S3;have S3n:aa(fun k=>k=5) w2a o2a w3a o3a:=(aa.ofBelow o2a(b1 w2a(.cells #[.string⟨#[109,111,114,101]⟩] 9))).trans S3;have SX:=SX.trans(S3n.mono(J:=lJ)(fun k hk=>by subst hk;decide));have BX:=BX.step S3n(by decide)
         replace P1:=P1.step S3n(by decide)
         replace P2:=P2.step S3n(by decide)
         replace P4:=P4.step S3n(by decide)
         clear S3 S3n a0 a1 a2 a3;obtain⟨⟨a0,a1,a2,a3⟩,-⟩:=ai BX.1;go_wp2_with(first|(at_builtin;refine aB rfl _ _ 35 rfl 3 ii(.int .i64 0) 1 8 Tryz.underlying35 ii1 ii2 ii3 ii4 rfl(by decide) o3a 6 _ c.ks.length x4(by first|rfl|(simp;done))(P4.step(aa.ofBelow(I:=fun _=>False) o3a(b1 _ _)) id)⟨w3a.heap.size,0,none⟩ 1 1 [.int .i64 8] rfl rfl ?c4 ?d4(by decide) ?e4 ?f4 ?_)|go_in);try case c4=>exact cJ _ _ _
         try case d4=>first|rfl|exact f6 _ rfl
         case e4=>unfold maxLen;omega
         case f4=>omega
         intro g4 q4 w4a o4a P4 S4;have S4n:aa(fun k=>k=6) w3a o3a w4a o4a:=(aa.ofBelow o3a(b1 w3a(.cells #[.int .i64 8] 3))).trans S4;have SX:=SX.trans(S4n.mono(J:=lJ)(fun k hk=>by subst hk;decide));have BX:=BX.step S4n(by decide)
         replace P1:=P1.step S4n(by decide)
         replace P2:=P2.step S4n(by decide)
         replace P3:=P3.step S4n(by decide)
         clear S4 S4n a0 a1 a2 a3;obtain⟨⟨a0,a1,a2,a3⟩,-⟩:=ai BX.1;obtain⟨b1,y1,r1,ob1,c1,f1,R1⟩:=P1.put1Q(j:=c.ws.length)(by omega);cases r1;have S1:aa(fun k=>k=3) w4a o4a(w4a.setCell⟨g1,c.ws.length,none⟩(.int .u64 1)) o4a:=(aa.refl _ _ _).setCell⟨g1,c.ws.length,none⟩(.int .u64 1) ob1
         replace P2:=P2.step S1(by decide)
         replace P3:=P3.step S1(by decide)
         replace P4:=P4.step S1(by decide)
         have SX:=SX.trans(S1.mono(J:=lJ)(fun k hk=>by subst hk;decide));clear S1 R1;obtain⟨v1,hv1⟩:∃v1,v1=w4a.setCell⟨g1,c.ws.length,none⟩(.int .u64 1):=⟨_,rfl⟩
         have hI1:((c.ws.length:Int)+1)-1=(c.ws.length:Int):=by omega
         try rw[<-hv1] at SX
         try rw[<-hv1] at P2
         try rw[<-hv1] at P3
         try rw[<-hv1] at P4
         have HV1:=Lib.hid hv1;clear hv1;go_upto_region 22 with fail;rw[<-HV1.out];clear HV1;obtain⟨b2,y2,r2,ob2,c2,f2,R2⟩:=P2.put1Q(j:=c.cs.length)(by omega);cases r2;have S2:aa(fun k=>k=4) v1 o4a(v1.setCell⟨g2,c.cs.length,none⟩(.int .i64 1)) o4a:=(aa.refl _ _ _).setCell⟨g2,c.cs.length,none⟩(.int .i64 1) ob2
         replace P3:=P3.step S2(by decide)
         replace P4:=P4.step S2(by decide)
         have SX:=SX.trans(S2.mono(J:=lJ)(fun k hk=>by subst hk;decide));clear S2 R2;obtain⟨v2,hv2⟩:∃v2,v2=v1.setCell⟨g2,c.cs.length,none⟩(.int .i64 1):=⟨_,rfl⟩
         have hI2:((c.cs.length:Int)+1)-1=(c.cs.length:Int):=by omega
         try rw[<-hv2] at SX
         try rw[<-hv2] at P3
         try rw[<-hv2] at P4
         have HV2:=Lib.hid hv2;clear hv2;go_upto_region 23 with fail;rw[<-HV2.out];clear HV2;obtain⟨b3,y3,r3,ob3,c3,f3,R3⟩:=P3.put1Q(j:=c.ns.length)(by omega);cases r3;have S3:aa(fun k=>k=5) v2 o4a(v2.setCell⟨g3,c.ns.length,none⟩(.string⟨#[103,114,111,119,110]⟩)) o4a:=(aa.refl _ _ _).setCell⟨g3,c.ns.length,none⟩(.string⟨#[103,114,111,119,110]⟩) ob3
         replace P4:=P4.step S3(by decide)
         have SX:=SX.trans(S3.mono(J:=lJ)(fun k hk=>by subst hk;decide));clear S3 R3;obtain⟨v3,hv3⟩:∃v3,v3=v2.setCell⟨g3,c.ns.length,none⟩(.string⟨#[103,114,111,119,110]⟩):=⟨_,rfl⟩
         have hI3:((c.ns.length:Int)+1)-1=(c.ns.length:Int):=by omega
         try rw[<-hv3] at SX
         try rw[<-hv3] at P4
         have HV3:=Lib.hid hv3;clear hv3;go_upto_region 24 with fail;rw[<-HV3.out];clear HV3;obtain⟨b4,y4,r4,ob4,c4,f4,R4⟩:=P4.put1Q(j:=c.ks.length)(by omega);cases r4;have S4:aa(fun k=>k=6) v3 o4a(v3.setCell⟨g4,c.ks.length,none⟩(.int .i64 1)) o4a:=(aa.refl _ _ _).setCell⟨g4,c.ks.length,none⟩(.int .i64 1) ob4;have SX:=SX.trans(S4.mono(J:=lJ)(fun k hk=>by subst hk;decide));clear S4 R4;obtain⟨v4,hv4⟩:∃v4,v4=v3.setCell⟨g4,c.ks.length,none⟩(.int .i64 1):=⟨_,rfl⟩
         have hI4:((c.ks.length:Int)+1)-1=(c.ks.length:Int):=by omega
         try rw[<-hv4] at SX
         have HV4:=Lib.hid hv4;clear hv4;go_wp2
         go_end0
         exact⟨rfl,_,HSO.out.trans(by rw[<-HV4.out];exact SX)⟩
def Ydq (e:Ex)(cells:List Int):CdQ:=if bO cells e≠0/\(emA cells e).ws.length<=32768/\(emA cells e).dp<=1024 then ⟨(emA cells e).ws.map wdI,(emA cells e).cs,(emA cells e).ns.map (fun l=>⟨l.toArray⟩),(emA cells e).ks⟩ else ⟨[],[],[],[]⟩
def Rdq (e:Ex)(cells:List Int):Int:=if bO cells e=0 then 140 else if (emA cells e).ws.length<=32768/\(emA cells e).dp<=1024 then 0 else 190
def OutQ (w:World)(Y:CdQ)(R:Int)(z:Ending)(w':World):Prop :=
 Below w.heap.size w w'/\∃p,z=.returned(.tuple #[vE p Y,.int .i64 R])/\jZ w' p Y
def OutR (w:World)(Y:CdQ)(R:Int)(z:Ending)(w':World):Prop :=
 Below w.heap.size w w'/\∃p o',z=.returned(.tuple #[vE p Y,.int .i64 R])/\(∀ k,k<w.heap.size->o' k=0)/\qF w' o' p Y
def yG:PlQ:=⟨none,0,none,0,none,0,none,0⟩
theorem jd (w:World)(o:Nat->Nat):qF w o yG ⟨[],[],[],[]⟩:=⟨Row.nil _ _ _ _ _,Row.nil _ _ _ _ _,Row.nil _ _ _ _ _,Row.nil _ _ _ _ _,by decide,by decide,by decide,by decide⟩
theorem Row.lenq {w:World}{o:Nat->Nat}{i:Nat}{e:TypeId}{size:Nat}{v:Value}{n:Nat}{xs:List Value}(h:Row w o i e size v n xs):n<=9223372036854775807:=by
 by_cases hn:0<n
 ·obtain⟨g,cap,-,-,h1,h2,-⟩:=h.pos hn;unfold maxLen at h2;omega
 ·omega
theorem EmD.outW {w:World}{o:Nat->Nat}{s:Em}{vw vc vn vk:Value}(h:EmD w o s vw vc vn vk):∃p,(#[vw,vc,vn,vk]:Array Value)=gm p ⟨s.ws.map wdI,s.cs,s.ns.map (fun l=>⟨l.toArray⟩),s.ks⟩/\jZ w p ⟨s.ws.map wdI,s.cs,s.ns.map (fun l=>⟨l.toArray⟩),s.ks⟩:=by
 obtain⟨h1,h2,h3,h4⟩:=h;obtain⟨aw,cw,rfl⟩:=h1.form;obtain⟨ac,cc,rfl⟩:=h2.form;obtain⟨an,cn,rfl⟩:=h3.form;obtain⟨ak,ck,rfl⟩:=h4.form;have e1:qA(s.ws.map wdI)=wdW s.ws:=by simp[qA,wdW]
 have e3:qg(s.ns.map(fun l=>(⟨l.toArray⟩:ByteArray)))=esV s.ns:=by simp[qg,esV]
 refine⟨⟨aw,cw,ac,cc,an,cn,ak,ck⟩,by simp[gm],⟨?_,h2.lsvQ,?_,h4.lsvQ,?_,h2.lenq,?_,h4.lenq⟩⟩
 ·rw[e1];exact h1.lsvQ
 ·rw[e3];exact h3.lsvQ
 ·simp;exact h1.lenq
 ·simp;exact h3.lenq
theorem Ai.q {w w':World}{e:Ex}{cells:List Int}{z:Ending}(h:Ai w e cells z w'):OutQ w (Ydq e cells) (Rdq e cells) z w':=by
 obtain⟨B,h⟩:=h;refine⟨B,?_⟩;unfold Ydq Rdq;rcases h with⟨hk,rfl⟩|⟨hk,ho,rfl⟩|⟨hk,h1,h2,vw,vc,vn,vk,o',rfl,-,C⟩
 ·rw[if_neg(fun h=>h.1 hk),if_pos hk];obtain⟨a,b,c,d,-,-,-,-⟩:=jd w'(fun _=>0);exact⟨yG,rfl,⟨a.lsvQ,b.lsvQ,c.lsvQ,d.lsvQ,by decide,by decide,by decide,by decide⟩⟩
 ·rw[if_neg(fun h=>by have:=h.2;omega),if_neg hk,if_neg(by omega)];obtain⟨a,b,c,d,-,-,-,-⟩:=jd w'(fun _=>0);exact⟨yG,rfl,⟨a.lsvQ,b.lsvQ,c.lsvQ,d.lsvQ,by decide,by decide,by decide,by decide⟩⟩
 ·rw[if_pos⟨hk,h1,h2⟩,if_neg hk,if_pos⟨h1,h2⟩];obtain⟨p,e1,hp⟩:=C.outW;exact⟨p,by rw[e1],hp⟩
theorem nB.q {w w':World}{e:Ex}{cells:List Int}{z:Ending}(h:nB w e cells z w'):OutR w (Ydq e cells) (Rdq e cells) z w':=by
 obtain⟨B,h⟩:=h;refine⟨B,?_⟩;unfold Ydq Rdq;rcases h with⟨hk,rfl⟩|⟨hk,ho,rfl⟩|⟨hk,h1,h2,hm,vw,vc,vn,vk,o',rfl,ho,C⟩
 ·rw[if_neg(fun h=>h.1 hk),if_pos hk];exact⟨yG,fun _=>0,rfl,fun _ _=>rfl,jd w' _⟩
 ·rw[if_neg(fun h=>by have:=h.2;omega),if_neg hk,if_neg(by omega)];exact⟨yG,fun _=>0,rfl,fun _ _=>rfl,jd w' _⟩
 ·rw[if_pos⟨hk,h1,h2⟩,if_neg hk,if_pos⟨h1,h2⟩];have hkl:=(AT cells e).2;obtain⟨hnc,-,-⟩:=jP hk;obtain⟨c1,-,-,r1,r2,r3,r4⟩:=C;generalize emA cells e=s at *;obtain⟨aw,cw,rfl⟩:=r1.form;obtain⟨ac,cc,rfl⟩:=r2.form;obtain⟨an,cn,rfl⟩:=r3.form;obtain⟨ak,ck,rfl⟩:=r4.form;have e1:qA(s.ws.map wdI)=woV s.ws:=by rw[<-Cv c1];simp[qA,wdW]
  have e3:qg(s.ns.map(fun l=>(⟨l.toArray⟩:ByteArray)))=esV s.ns:=by simp[qg,esV]
  unfold Em.mes at hm;obtain⟨oz,hoz⟩:∃oz:Nat->Nat,oz=fun k=>if 2<=o' k/\o' k<=5 then o' k+1 else if o' k=0 then 0 else 9:=⟨_,rfl⟩
  have hz:∀ k i,2<=i->i<=5->o' k=i->oz k=i+1:=fun k i a b c=>by rw[hoz];simp only;rw[if_pos(by omega)];omega
  refine⟨⟨aw,cw,ac,cc,an,cn,ak,ck⟩,oz,by simp[vE,gm],fun k hk=>by rw[hoz];simp only;rw[ho k hk];rfl,⟨?_,?_,?_,?_,by simp;exact h1,by simp only;omega,by simp;omega,by simp only;omega⟩⟩
  ·rw[e1];simpa using r1.labq(fun k hk=>hz k 2(by omega)(by omega) hk)
  ·exact r2.labq(fun k hk=>hz k 3(by omega)(by omega) hk)
  ·rw[e3];simpa using r3.labq(fun k hk=>hz k 4(by omega)(by omega) hk)
  ·exact r4.labq(fun k hk=>hz k 5(by omega)(by omega) hk)
structure EpI (g:Nat)(w:World)(nw no:Nat)(e:Ex)(ao:Option Addr)(cap:Nat)(ac:Option Addr)(cc:Nat)(cells:List Int)(p:PlQ)(Y:CdQ)(bo co go cgo:Nat)(wr:World):Prop where
 P:wr.heap[g]?=some(.cells #[.int .i64 e.k,.int .i64 e.n,stv e.nm,.slice ao e.kids.len cap,.slice ac cells.length cc] 37)
 V:wr.heap[nw]?=some(.cells(gm p Y) 42)
 O:wr.heap[no]?=some(.cells #[.int .i64 e.k,.int .i64 e.n,stv e.nm,.slice(some⟨bo,0,none⟩) e.kids.len co,.slice(some⟨go,0,none⟩) cells.length cgo] 37)
 S:SnA wr e.kids ao
 I:InA wr(.slice ac cells.length cc) cells
 W:Wd wr
 T:iz wr
 C:jZ wr p Y
 So:iL wr e.kids bo co
 Lo:LnI wr(fun _=>True)(.slice(some⟨go,0,none⟩) cells.length cgo) cells
 B:Below g w wr
theorem EpI.below {g nw no:Nat}{w:World}{e:Ex}{ao:Option Addr}{cap:Nat}{ac:Option Addr}{cc:Nat}{cells:List Int}{p:PlQ}{Y:CdQ}{bo co go cgo:Nat}{wr w':World}(h:EpI g w nw no e ao cap ac cc cells p Y bo co go cgo wr)(b:Below wr.heap.size wr w'):EpI g w nw no e ao cap ac cc cells p Y bo co go cgo w' :=
 ⟨(b.block _(lt_of_block h.P)).trans h.P,(b.block _(lt_of_block h.V)).trans h.V,(b.block _(lt_of_block h.O)).trans h.O,SnA.below h.S b,h.I.below b,h.W.below b,h.T.below b,h.C.below b,iL.below h.So b,h.Lo.below b,h.B.trans(b.mono(Nat.le_of_lt(lt_of_block h.P)))⟩
theorem qF.w {w:World}{o:Nat->Nat}{p:PlQ}{c:CdQ}(h:qF w o p c):jZ w p c:=⟨h.ws.lsvQ,h.cs.lsvQ,h.ns.lsvQ,h.ks.lsvQ,h.ws.lenq,h.cs.lenq,h.ns.lenq,h.ks.lenq⟩
theorem yO {w:World}{b:Nat}{p:PlQ}{c:CdQ}(h:w.heap[b]?=some (.cells (gm p c) 42)):qt p c w b:=(ai h).1
theorem mt (e:Ex)(ao:Option Addr)(cap:Nat)(cv:Value)(cells:List Int)(w:World)(hlen:e.kids.len<=maxLen)(hwd:e.kids.wide)(hfit:e.kids.size<=100000000->cr e/\(-9223372036854775808<=e.n/\e.n<=9223372036854775807)/\e.kids.rng)(S:SnA w e.kids ao)(hc:InA w cv cells)(hcl:cells.length<=maxLen)(hW:Wd w)(hT:iz w) :
  Calls Tryz.prog 4 #[plV e ao cap cv] w fun x w'=>x=.returned(.bool true)/\Below w.heap.size w w':=by
 obtain⟨ac,cc,hcv,hx⟩:=hc;have hc:InA w cv cells:=⟨ac,cc,hcv,hx⟩
 subst hcv;clear hx;obtain⟨g,hg⟩:∃g,g=w.heap.size:=⟨_,rfl⟩
 obtain⟨w0,hw0⟩:∃w0,w0=w.alloc(.cells #[.int .i64 e.k,.int .i64 e.n,stv e.nm,.slice ao e.kids.len cap,.slice ac cells.length cc] 37):=⟨_,rfl⟩
 have b0:Below w.heap.size w w0:=by rw[hw0];exact b1 _ _
 have P0:w0.heap[g]?=some(.cells #[.int .i64 e.k,.int .i64 e.n,stv e.nm,.slice ao e.kids.len cap,.slice ac cells.length cc] 37):=by rw[hw0,hg];exact heap_alloc_new _ _
 have L0:g<w0.heap.size:=lt_of_block P0;have B0:Below g w w0:=by rw[hg];exact b0
 have c1:=wg e ao cap 0 _ cells w0(hc.below b0) hcl hlen hwd(SnA.below S b0);rw[bZ] at c1 ⊢;have HG:=Lib.hid hg;clear hg;obtain⟨p0,p1,p2,p3,p4⟩:=dk P0;go_enter Tryz.func4,Tryz.ntmps4;go_upto_region 1 with fail;rw[<-hw0,<-HG.out];clear hw0;go_wp2_with fail;refine c1.mono ?_;rintro x w1⟨rfl,b1'⟩;have P1:=(b1'.block g L0).trans P0;have bb1:=b0.trans(b1'.mono b0.size);have B1:Below g w w1:=B0.trans(b1'.mono(Nat.le_of_lt L0));have L1:=lt_of_block P1;clear c1 p0 p1 p2 p3 p4;cases hh:hvP e cells with
 | true =>
  clear hh;go_wp2;go_ret;exact⟨rfl,by rw[<-HG.out];exact B1⟩
 | false =>
 obtain⟨hcl2,hsz⟩:=zS hh;obtain⟨hf,hn,hr⟩:=hfit(by omega);clear hh hfit hcl hlen hwd;have c2:=yU w1(hW.below bb1)(hT.below bb1);go_upto_region 4 with(first|(go_at_call 15;refine c2.mono ?_;rintro x w2⟨rfl,b2⟩))
 have P2:=(b2.block g L1).trans P1;have bb2:=bb1.trans(b2.mono bb1.size);have B2:Below g w w2:=B1.trans(b2.mono(Nat.le_of_lt L1));have L2:=lt_of_block P2;have HP:Hid(∀ (ao:Option Addr)(cap:Nat)(cv:Value)(w:World),InA w cv cells->SnA w e.kids ao->Wd w->iz w->Calls Tryz.prog 18 #[plV e ao cap cv] w(OutR w(Ydq e cells)(Rdq e cells))):=fun ao cap cv w h1 h2 h3 h4=>(yV e ao cap cv cells w hf hn hr h3 h4 h1(by omega) h2).mono fun x w' h=>nB.q h;have c3:=(zW e ao cap _ cells w2 hf hn hr(hc.below bb2)(by omega)(SnA.below S bb2)).mono fun x w' h=>Ai.q h;rw[bZ] at c3;generalize Ydq e cells=Y at *;generalize Rdq e cells=R at *;obtain⟨p0,p1,p2,p3,p4⟩:=dk P2;clear c2 P0 P1 b0 b1' bb1 B0 B1 L0 L1 b2
 -- what the document wants
 go_wp2_with fail;refine c3.mono ?_;rintro x w3⟨b3,pw,rfl,C3⟩;have P3:=(b3.block g L2).trans P2;have bb3:=bb2.trans(b3.mono bb2.size);have B3:Below g w w3:=B2.trans(b3.mono(Nat.le_of_lt L2));have L3:=lt_of_block P3;obtain⟨nw,hnw⟩:∃nw,nw=w3.heap.size:=⟨_,rfl⟩
 obtain⟨w4,hw4⟩:∃w4,w4=w3.alloc(.cells(gm pw Y) 42):=⟨_,rfl⟩
 have b4:Below w3.heap.size w3 w4:=by rw[hw4];exact b1 _ _
 have V4:w4.heap[nw]?=some(.cells(gm pw Y) 42):=by rw[hw4,hnw];exact heap_alloc_new _ _
 have P4:=(b4.block g L3).trans P3;have bb4:=bb3.trans(b4.mono bb3.size);have B4:Below g w w4:=B3.trans(b4.mono(Nat.le_of_lt L3));have L4:=lt_of_block P4;have C4:=C3.below b4;have HNW:=Lib.hid hnw;clear c3 P2 B2 L2 P3 B3 L3 b3 p0 p1 p2 p3 p4 hnw;go_upto_region 5 with fail;rw[<-hw4,<-HNW.out];clear hw4
 -- the plan,lent
 obtain⟨p0,p1,p2,p3,p4⟩:=dk P4;have c5:=rn e ao cap _ cells w4 hf.len hf.sh(hc.below bb4)(by omega)(SnA.below S bb4);rw[bZ] at c5;go_wp2_with fail;refine c5.mono ?_;rintro x w5⟨bo,co,vo,rfl,S5o,L5o,b5⟩;obtain⟨go,cgo,hvo,hx5⟩:=L5o;have L5o:LnI w5(Nw w4.heap.size) vo cells:=⟨go,cgo,hvo,hx5⟩
 subst hvo;clear hx5;obtain⟨no,hno⟩:∃no,no=w5.heap.size:=⟨_,rfl⟩
 obtain⟨w6,hw6⟩:∃w6,w6=w5.alloc(.cells #[.int .i64 e.k,.int .i64 e.n,stv e.nm,.slice(some⟨bo,0,none⟩) e.kids.len co,.slice(some⟨go,0,none⟩) cells.length cgo] 37):=⟨_,rfl⟩
 have b6:Below w5.heap.size w5 w6:=by rw[hw6];exact b1 _ _
 have O6:w6.heap[no]?=some(.cells #[.int .i64 e.k,.int .i64 e.n,stv e.nm,.slice(some⟨bo,0,none⟩) e.kids.len co,.slice(some⟨go,0,none⟩) cells.length cgo] 37):=by rw[hw6,hno];exact heap_alloc_new _ _
 have b46:Below w4.heap.size w4 w6:=b5.trans(b6.mono b5.size);have bb6:=bb4.trans(b46.mono bb4.size);have E6:EpI g w nw no e ao cap ac cc cells pw Y bo co go cgo w6:=⟨(b46.block _ L4).trans P4,(b46.block _(lt_of_block V4)).trans V4,O6,SnA.below S bb6,hc.below bb6,hW.below bb6,hT.below bb6,C4.below b46,iL.below(S5o.mono(fun _ _ _=>rfl)(Nat.le_refl _)(fun _ _ _=>trivial)) b6,(L5o.mono(fun _ _ _=>rfl)(Nat.le_refl _)(fun _ _ _=>trivial)).below b6,B4.trans(b46.mono(Nat.le_of_lt L4))⟩
 have HNO:=Lib.hid hno;clear c5 hno p0 p1 p2 p3 p4 P4 V4 B4 L4 C4 C3 S5o L5o b5 b6 b46 bb6 bb4 bb3 bb2 b4 O6 hW hT hc S;rw[bZ];go_upto_region 6 with fail;rw[<-hw6,<-HNO.out];clear hw6;go_wp2;go_loopw [7](fun v wr=>∃(i:Nat),v=.int .i64(i:Nat)/\i<=2/\EpI g w nw no e ao cap ac cc cells pw Y bo co go cgo wr)(fun v _=>2-(intOf v).toNat)
 case atStart=>exact⟨0,by show _=Value.int .i64((0:Nat):Int);rfl,by omega,E6⟩
 case round =>
  clear E6;obtain⟨i,rfl,hi,E1⟩:=hrel;by_cases hlt:i<2
  ·have hltI:(i:Int)<2:=by omega
   obtain⟨q0,q1,q2,q3,q4⟩:=dk E1.O;have c1:=HP.out(some⟨bo,0,none⟩) co _ wr E1.Lo.inA(Spn.sl E1.So) E1.W E1.T;rw[bZ] at c1;go_wp2_with fail;refine c1.mono ?_;rintro x w2⟨b2,pq,o2,rfl,ho2,C2⟩;obtain⟨nq,hnq⟩:∃nq,nq=w2.heap.size:=⟨_,rfl⟩
   obtain⟨w3,hw3⟩:∃w3,w3=w2.alloc(.cells(gm pq Y) 42):=⟨_,rfl⟩
   have b3:Below w2.heap.size w2 w3:=by rw[hw3];exact b1 _ _
   have Q3:w3.heap[nq]?=some(.cells(gm pq Y) 42):=by rw[hw3,hnq];exact heap_alloc_new _ _
   have bb:Below wr.heap.size wr w3:=b2.trans(b3.mono b2.size);have E3:=E1.below bb;have C3:=C2.step(aa.ofBelow(I:=fun _=>False) o2 b3) id id id id;have HNQ:=Lib.hid hnq;have HE1:=Lib.hid E1;clear c1 b2 b3 C2 q0 q1 q2 q3 q4 hnq E1;go_upto_region 10 with fail;rw[<-hw3,<-HNQ.out];clear hw3
   -- the same?
   obtain⟨q0,q1,q2,q3⟩:=yO Q3;obtain⟨v0,v1,v2,v3⟩:=yO E3.V;have c4:=uJ pq pw Y w3 C3.w E3.C;go_wp2_with fail;refine c4.mono ?_;rintro x w4⟨rfl,b4⟩;have E4:=E3.below b4;have bb4:=bb.trans(b4.mono bb.size);have C4:=C3.step(aa.ofBelow(I:=fun _=>False) o2 b4) id id id id;have Q4:=(b4.block _(lt_of_block Q3)).trans Q3;clear c4 b4 bb q0 q1 q2 q3 v0 v1 v2 v3 E3 C3 Q3
   -- kept?
   obtain⟨p0,p1,p2,p3,p4⟩:=dk E4.P;obtain⟨t0,t1,t2,t3,t4⟩:=dk E4.O;have c5:=sc e bo co _ ao cap _ cells w4 hf.len hf.sh(by omega) E4.So E4.S E4.Lo E4.I;rw[bZ,bZ] at c5;go_wp2_with fail;refine c5.mono ?_;rintro x w5⟨rfl,b5⟩;have bb5:=bb4.trans(b5.mono bb4.size);have C5:=C4.step(aa.ofBelow(I:=fun _=>False) o2 b5) id id id id;have Q5:=(b5.block _(lt_of_block Q4)).trans Q4;clear c5 b5 bb4 p0 p1 p2 p3 p4 t0 t1 t2 t3 t4 E4 C4 Q4;have hRR:((R:Int) != (R:Int))=false:=by simp
   obtain⟨q0,q1,q2,q3⟩:=yO Q5;have c6:=z8 pq Y w5 o2 C5;go_wp2_with fail;refine c6.mono ?_;rintro x w6⟨rfl,o6,S6⟩;have b6:Below wr.heap.size wr w6:=bb5.trans⟨S6.os,S6.tape,S6.output,S6.size,fun k hk=>S6.block k(by have:=bb5.size;omega)(by rw[ho2 k hk];decide)⟩;have E6:=HE1.out.below b6;clear c6 bb5 C5 Q5 q0 q1 q2 q3 S6 b6 HE1 hRR;go_wp2;go_roundw
   case rel=>(try((repeat apply Exists.intro);refine⟨?_,rfl⟩));exact⟨i+1,by go_num,by omega,E6⟩
   case measure=>simp[intOf];omega
  ·have hltI:¬(i:Int)<2:=by omega
   have HB:=Lib.hid E1.B;clear E1;go_wp2;go_ret;exact⟨rfl,by rw[<-HG.out];exact HB.out⟩
theorem ownK:ownKnob Tryz.prog.godebug=none:=by kernel_rfl
theorem Ap:laidOutB Tryz.prog=true:=by kernel_rfl
theorem mA:Tryz.prog.cellsOf 3=1:=by kernel_rfl
theorem xG {a:Int}(h:(Lit.int .i64 a).wf=true):-9223372036854775808<=a/\a<=9223372036854775807:=by
 simpa [Lit.wf,IntKind.min,IntKind.max,IntKind.signed,IntKind.bits] using h
theorem gWd : Tryz.prog.globalNamed "isthmus/lex.words" = some 3 := by kernel_rfl
theorem Bi:(Tryz.prog.globals[3]?).map (·.type)=some 270:=by kernel_rfl
theorem zv:Tryz.prog.cellsOf 270=27:=by kernel_rfl
theorem pe:Tryz.prog.cellsOf 9=1:=by kernel_rfl
def qQ:List (DataW Unit):=(List.range 27).map fun j=>.lit (.string (wd j).data.toList)
theorem vL:(Rows.laid_isthmus_lex_words:DataW Unit)=.agg qQ:=by rfl
theorem p7:a7.toList=(List.range 27).map fun j=>Value.string (wd j):=by rfl
theorem lE {W:World}{fuel:Nat}{cs:List Value}{p:List MemPlace}(h:DataW.trod (fun _=>()) Tryz.prog W 0 (fun _=>true) false fuel 270 cs=some (.agg qQ,p)):cs=a7.toList:=by
 obtain⟨xs,m,_,hx,hl,hlen,hf⟩:=DataW.trod_array Tryz.underlying270 h;rw[zv] at hl;simp only[pe,Nat.mul_one] at hf;simp only[Prod.mk.injEq,DataW.agg.injEq] at hx;rw[p7];apply List.ext_getElem?;intro i;by_cases hi:i<27
 ·have hfi:=hf i hi;have hxi:xs[i]?=some xs[i]:=List.getElem?_eq_getElem(by omega);rw[hxi] at hfi;obtain⟨s,h1,h2⟩:=DataW.trod_string Tryz.underlying9 hfi;have hc:cs[i]?=some(.string s):=by
   have:=congrArg(·[0]?) h1
   simpa [List.getElem?_take,List.getElem?_drop] using this
  have hd:(xs.map(·.1))[i]?=some(.lit(.string s.data.toList)):=by rw[List.getElem?_map,hxi,h2.1];rfl
  rw[<-hx.1] at hd;unfold qQ at hd;rw[List.getElem?_map,List.getElem?_range hi] at hd;simp only[Option.map_some,Option.some.injEq,DataW.lit.injEq,Lit.string.injEq] at hd;have hs:=mh.1 hd;rw[hc,List.getElem?_map,List.getElem?_range hi,<-hs];rfl
 ·rw[List.getElem?_eq_none(by omega),List.getElem?_eq_none(by simp;omega)]
theorem si {W : World} {r : List (String × DataW Unit)} (h : laidMet Tryz.prog (("isthmus/lex.words", Rows.laid_isthmus_lex_words) :: r) W) : Wd W := by
 rw[vL] at h;obtain⟨ps,⟨g',t',cs,fuel,p,q,hg',ht',hvar,hd,_,_⟩,_⟩:=h;obtain rfl:=Option.some.inj(gWd.symm.trans hg');obtain rfl:=Option.some.inj(Bi.symm.trans ht');have hcs:=lE hd;have hcs':cs=a7:=Array.toList_inj.1 hcs;subst hcs';simp only[World.var?,gWd,Option.bind_some] at hvar;split at hvar
 ·rename_i c t fr hh
  cases hvar;exact⟨t,fr,hh⟩
 ·cases hvar
def lI (cs:Array Value):Obj->Obj
 | .cells _ t frozen=>.cells cs t frozen
 | o=>o
def lowB (P:Program):Nat:=(World.holding P default ⟨#[],#[],[]⟩).heap.size
end Go.Proofs.YtbjdkekhnajafaaGreatDoor

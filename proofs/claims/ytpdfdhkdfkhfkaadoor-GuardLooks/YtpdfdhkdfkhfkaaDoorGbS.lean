import Derived.Test.YtpdfdhkdfkhfkaaDoorGdL
set_option maxRecDepth 100000
set_option maxHeartbeats 8000000
namespace Go.Proofs.YtpdfdhkdfkhfkaaDoor
open Go.ChangeShapes Go.WideShapes Go.ChangeAt Go.RowKit
set_option linter.unusedVariables false
set_option linter.unusedSimpArgs false
structure Vp where
 gs:Nat
 cs:Nat
 gw:Nat
 cw:Nat
def ptV (pb:Nat->Nat)(v:Vw):List Value:=(List.range v.tb.length).map fun i=>if (v.tb.getD i none).isSome=true then .pointer (some ⟨pb i,0,none⟩) else .pointer none
def wtV (v:Vw)(m:Nat):List Value:=(List.range m).map fun j=>.int .u64 (wtN v j:Nat)
abbrev vwA (p:Pl)(c:Cd)(z:Vp)(n m:Nat)(st rd kd:Nat):Array Value:=#[.slice p.aw c.ws.length p.cw,.slice p.ac c.cs.length p.cc,.slice p.an c.ns.length p.cn,.slice p.ak c.ks.length p.ck,.slice (some ⟨z.gs,0,none⟩) n z.cs,.slice (some ⟨z.gw,0,none⟩) m z.cw,.int .i64 (st:Nat),.int .i64 (rd:Nat),.int .i64 (kd:Nat)]
abbrev mG (n:Nat):Nat:=(n+63) / 64
structure VwM (w:World)(o:Nat->Nat)(vb:Nat)(z:Vp)(p:Pl)(c:Cd)(v:Vw)(pb:Nat->Nat):Prop where
 blk:Blk w o 1 vb (.cells (vwA p c z v.tb.length (mG v.tb.length) v.st v.rd v.kd) 61)
 rs:Row w o 2 83 1 (.slice (some ⟨z.gs,0,none⟩) v.tb.length z.cs) v.tb.length (ptV pb v)
 rw:Row w o 3 53 1 (.slice (some ⟨z.gw,0,none⟩) (mG v.tb.length) z.cw) (mG v.tb.length) (wtV v (mG v.tb.length))
 sb:∀ (i:Nat) (s:St),v.tb[i]?=some (some s)->StB w (pb i) s/\o (pb i)=4
theorem VwM.step {I:Nat->Prop}{w w':World}{o o':Nat->Nat}{vb:Nat}{z:Vp}{p:Pl}{c:Cd}{v:Vw}{pb:Nat->Nat}(h:VwM w o vb z p c v pb)(s:Step I w o w' o')(h1:¬I 1)(h2:¬I 2)(h3:¬I 3)(h4:¬I 4):VwM w' o' vb z p c v pb :=
 ⟨h.blk.step s h1,h.rs.step s h2,h.rw.step s h3,fun i t ht=>by
  obtain⟨a,b⟩:=h.sb i t ht;exact⟨(s.block _ a.lt (by rw[b];exact h4)).trans a,(s.lab _ a.lt).trans b⟩⟩
theorem ptV_len (pb:Nat->Nat)(v:Vw):(ptV pb v).length=v.tb.length:=by simp[ptV]
theorem ptV_at {pb:Nat->Nat}{v:Vw}{i:Nat}(h:i<v.tb.length):(ptV pb v)[i]?=some (if (v.tb.getD i none).isSome=true then .pointer (some ⟨pb i,0,none⟩) else .pointer none):=by simp[ptV,h]
theorem wtV_at {v:Vw}{m j:Nat}(h:j<m):(wtV v m)[j]?=some (.int .u64 (wtN v j:Nat)):=by simp[wtV,h]
theorem cells9 {w:World}{b:Nat}{a0 a1 a2 a3 a4 a5 a6 a7 a8:Value}{t:TypeId}(h:w.heap[b]?=some (.cells #[a0,a1,a2,a3,a4,a5,a6,a7,a8] t (0,0))) :
  (w.cell? ⟨b,0,none⟩=some a0/\w.cell? ⟨b,1,none⟩=some a1/\w.cell? ⟨b,2,none⟩=some a2/\w.cell? ⟨b,3,none⟩=some a3/\w.cell? ⟨b,4,none⟩=some a4/\w.cell? ⟨b,5,none⟩=some a5/\w.cell? ⟨b,6,none⟩=some a6/\w.cell? ⟨b,7,none⟩=some a7/\w.cell? ⟨b,8,none⟩=some a8)/\∀ j,w.frozen? ⟨b,j,none⟩=false:=by
 refine⟨⟨?_,?_,?_,?_,?_,?_,?_,?_,?_⟩,fun j=>frozen_of_row w b j _ t h⟩<;>(rw[cell_of_row w b _ _ t (0,0) h];rfl)
theorem stepNg {I:Nat->Prop}{w w':World}{o:Nat->Nat}{i:Nat}(h:Below w.heap.size w w'):Step I w o w' (newLab w o i):=⟨h.os,h.tape,h.output,h.size,fun k hk=>newLab_old hk,fun k hk _=>h.block k hk⟩
abbrev I13 (k:Nat):Prop:=k=1\/k=2\/k=3
def PostV (w:World)(o:Nat->Nat)(vb:Nat)(z:Vp)(p:Pl)(c:Cd)(r:Nat × Vw)(e:Ending)(w':World):Prop :=
 e=.returned (.int .i64 (r.1:Nat))/\∃o' pb',VwM w' o' vb z p c r.2 pb'/\Step I13 w o w' o'
theorem come_c (w:World)(o:Nat->Nat)(vb:Nat)(z:Vp)(p:Pl)(c:Cd)(v:Vw)(pb:Nat->Nat)(n q:Nat)(s:St)(V:VwOk n v)(D:VwD v)(S:StOk s)(hn:n<=32768)(hq:q<=268435456)(hM:VwM w o vb z p c v pb) :
  Calls Tryd.prog 36 #[.pointer (some ⟨vb,0,none⟩),.int .i64 (q:Nat),.agg (stC s).toArray] w (PostV w o vb z p c (come q s v)):=by
 obtain⟨nb,hnb⟩:∃nb,nb=w.heap.size:=⟨_,rfl⟩
 obtain⟨w1,hw1⟩:∃w1,w1=w.alloc (.cells (stC s).toArray 78):=⟨_,rfl⟩
 have B1:Below w.heap.size w w1:=by rw[hw1];exact bG _ _
 have hS1:StB w1 nb s:=by rw[hw1,hnb];exact h1G _ _
 obtain⟨o1,ho1⟩:∃o1,o1=newLab w o 4:=⟨_,rfl⟩
 have hol:o1 nb=4:=by rw[ho1,hnb];exact newLab_new (Nat.le_refl _)
 have S1:∀ {I:Nat->Prop},Step I w o w1 o1:=fun {I}=>by rw[ho1];exact stepNg B1
 have M1:=hM.step (S1 (I:=fun _=>False)) (fun h=>h) (fun h=>h) (fun h=>h) (fun h=>h);have hcl:=stC_len s;have c32:=(blk_cell hS1 32).trans (stC_ht s);have c33:=(blk_cell hS1 33).trans (stC_rd s);obtain⟨⟨a0,a1,a2,a3,a4,a5,a6,a7,a8⟩,af⟩:=cells9 M1.blk.1;have hN:=V.tl;have HNB:=Lib.hid hnb;clear hnb;generalize hcs:(stC s).toArray=cs at *;by_cases hlt:q<v.tb.length
 ·have hltI:(q:Int)<(v.tb.length:Int):=by omega
  have hptq:=(ptV_at (pb:=pb) hlt)
  obtain⟨gs',cs',hgs,hgl,-,-,hgs1,hgc,hgf⟩:=M1.rs.pos (by omega);simp only[Value.slice.injEq,Option.some.injEq,Addr.mk.injEq,and_true,true_and] at hgs;obtain⟨rfl,rfl⟩:=hgs;have cq:=(hgc q (by omega)).trans hptq;have fq:=hgf q;cases htb:v.tb[q]? with
  | none=>exfalso;rw[List.getElem?_eq_getElem hlt] at htb;cases htb
  | some x =>
   have hgd:v.tb.getD q none=x:=by rw[List.getD_eq_getElem?_getD,htb];rfl
   rw[hgd] at cq;cases x with
   | some t =>
    obtain⟨hT1,hT2⟩:=M1.sb q t htb;have hSame:=same_c (pb q) nb t s w1 (V.sts q t htb) S hT1 hS1;have hcm:come q s v=(if t=s then 0 else 202,v):=by unfold come;rw[htb]
    simp only[Option.isSome_some,if_true] at cq;have HZ:Hid (∀ w2,Below w1.heap.size w1 w2->PostV w o vb z p c (come q s v) (.returned (.int .i64 ((if t=s then 0 else 202:Nat):Nat))) w2):=fun w2 B2=>by
     rw[hcm];exact⟨rfl,newLab w1 o1 0,pb,M1.step (stepNg (I:=fun _=>False) B2) (fun h=>h) (fun h=>h) (fun h=>h) (fun h=>h),S1.trans (stepNg B2)⟩
    clear hgc hgf hgl hgs1 hT1 hT2 hcm hS1 M1 S1 hM B1 c32 c33 hptq hgd htb;generalize come q s v=R at *;generalize pb q=bq at *;by_cases e:t=s
    ·rw[if_pos e] at HZ;rw[decide_eq_true e] at hSame;clear e;go_enter Tryd.func36,Tryd.ntmps36;go_upto_region 1 with fail;rw[<-hw1,<-HNB.out];clear hw1;go_wp2_with (first|(go_at_call 53;refine hSame.mono ?_;rintro e w2 ⟨rfl,B2⟩));go_ret;exact HZ.out w2 B2
    ·rw[if_neg e] at HZ;rw[decide_eq_false e] at hSame;clear e;go_enter Tryd.func36,Tryd.ntmps36;go_upto_region 1 with fail;rw[<-hw1,<-HNB.out];clear hw1;go_wp2_with (first|(go_at_call 53;refine hSame.mono ?_;rintro e w2 ⟨rfl,B2⟩));go_ret;exact HZ.out w2 B2
   | none =>
    have hcm:come q s v=(0,⟨v.tb.set q (some s),v.dn,max v.st s.1.length,max v.rd s.2,v.kd⟩):=by unfold come;rw[htb]
    have hwc:=fun j=>wtN_come (j:=j) (s:=s) (x:=max v.st s.1.length) (y:=max v.rd s.2) (z:=v.kd) D htb;obtain⟨nv,hnv⟩:∃nv:Vw,nv=⟨v.tb.set q (some s),v.dn,max v.st s.1.length,max v.rd s.2,v.kd⟩:=⟨_,rfl⟩
    rw[<-hnv] at hcm hwc;have nl:nv.tb.length=v.tb.length:=by rw[hnv];simp
    obtain⟨gw',cw',hgw,hwl,-,-,hgw1,hwcl,hwf⟩:=M1.rw.pos (by unfold mG;omega);simp only[Value.slice.injEq,Option.some.injEq,Addr.mk.injEq,and_true,true_and] at hgw;obtain⟨rfl,rfl⟩:=hgw;have cw:=(hwcl (q / 64) (by unfold mG;omega)).trans (wtV_at (by unfold mG;omega));have fw:=hwf (q / 64);obtain⟨nw,hnw⟩:∃nw,nw=wtN v (q / 64) ||| 2 ^ (q % 64):=⟨_,rfl⟩
    have hwn:=wtN_lt v (q / 64);have hpw:(2:Nat) ^ (q % 64)<topG:=Nat.pow_lt_pow_right (by decide) (by omega:q % 64<64);have e1:bits .or .u64 ((wtN v (q / 64):Nat):Int) ((2 ^ (q % 64):Nat):Int)=(nw:Int):=by rw[u64_or_nat _ _ hwn hpw,hnw]
    have e2:IntKind.u64.wrap ((2:Int) ^ (q % 64))=((2 ^ (q % 64):Nat):Int):=by
     have h:((2:Int) ^ (q % 64))=((2 ^ (q % 64):Nat):Int):=by simp
     rw[h,IntKind.wrap_u64];generalize 2 ^ (q % 64)=pw at *;unfold topG at hpw;omega
    -- the worlds
    obtain⟨w2,hw2⟩:∃w2,w2=w1.setCell ⟨z.gs,q,none⟩ (.pointer (some ⟨nb,0,none⟩)):=⟨_,rfl⟩
    obtain⟨w3,hw3⟩:∃w3,w3=(w2.setCell ⟨z.gw,q / 64,none⟩ (.int .u64 (nw:Nat))).drew:=⟨_,rfl⟩
    obtain⟨w4,hw4⟩:∃w4,w4=(w3.setCell ⟨vb,6,none⟩ (.int .i64 ((max v.st s.1.length:Nat):Nat))).drew:=⟨_,rfl⟩
    obtain⟨w5,hw5⟩:∃w5,w5=(w4.setCell ⟨vb,7,none⟩ (.int .i64 ((max v.rd s.2:Nat):Nat))).drew:=⟨_,rfl⟩
    have lgs:o1 z.gs=2:=M1.rs.2 _ rfl;have lgw:o1 z.gw=3:=M1.rw.2 _ rfl;have lvb:o1 vb=1:=M1.blk.2;have T12:Step (fun k=>k=2) w1 o1 w2 o1:=by rw[hw2];exact(Step.refl _ _ _).setCell _ _ lgs
    have T23:Step (fun k=>k=3) w2 o1 w3 o1:=by rw[hw3];exact((Step.refl _ _ _).setCell _ _ lgw).drew
    have T34:Step (fun k=>k=1) w3 o1 w4 o1:=by rw[hw4];exact((Step.refl _ _ _).setCell _ _ lvb).drew
    have T45:Step (fun k=>k=1) w4 o1 w5 o1:=by rw[hw5];exact((Step.refl _ _ _).setCell _ _ lvb).drew
    have K2:=M1.blk.step T12 (by decide);have K3:=K2.step T23 (by decide);have K4:Blk w4 o1 1 vb (.cells (vwA p c z v.tb.length (mG v.tb.length) (max v.st s.1.length) v.rd v.kd) 61):=⟨by rw[hw4];exact heap_setCell_same _ _ 6 _ _ _ K3.1,lvb⟩
    have K5:Blk w5 o1 1 vb (.cells (vwA p c z v.tb.length (mG v.tb.length) (max v.st s.1.length) (max v.rd s.2) v.kd) 61):=⟨by rw[hw5];exact heap_setCell_same _ _ 7 _ _ _ K4.1,lvb⟩
    have nb1:Blk w1 o1 4 nb (.cells cs 78):=⟨by rw[<-hcs];exact hS1,hol⟩
    have nb2:=nb1.step T12 (by decide);have nb3:=nb2.step T23 (by decide);have nb4:=nb3.step T34 (by decide);have nb5:=nb4.step T45 (by decide);obtain⟨⟨-,-,-,-,b4,b5,b6,b7,-⟩,bf⟩:=cells9 K2.1;obtain⟨⟨-,-,-,-,d4,d5,d6,d7,-⟩,df⟩:=cells9 K3.1;obtain⟨⟨-,-,-,-,g4,g5,g6,g7,-⟩,gf⟩:=cells9 K4.1;have df6:=df 6;have gf7:=gf 7;have cw2:w2.cell? ⟨z.gw,q / 64,none⟩=some (.int .u64 (wtN v (q / 64):Nat)):=(World.cell?_of_block (a:=⟨z.gw,q / 64,none⟩) (T12.block z.gw hgw1 (by rw[lgw];decide))).trans cw;have fw2:w2.frozen? ⟨z.gw,q / 64,none⟩=false:=(World.frozen?_of_block (a:=⟨z.gw,q / 64,none⟩) (T12.block z.gw hgw1 (by rw[lgw];decide))).trans fw;have n32:w3.cell? ⟨nb,32,none⟩=some (.int .i64 (s.1.length:Nat)):=(World.cell?_of_block (a:=⟨nb,32,none⟩) (nb3.1.trans nb1.1.symm)).trans c32;have n33:w4.cell? ⟨nb,33,none⟩=some (.int .i64 (s.2:Nat)):=(World.cell?_of_block (a:=⟨nb,33,none⟩) (nb4.1.trans nb1.1.symm)).trans c33;have HZ:Hid (PostV w o vb z p c (come q s v) (.returned (.int .i64 0)) w5):=by
     rw[hcm];have hp:(ptV pb v).set q (.pointer (some ⟨nb,0,none⟩))=ptV (fun i=>if i=q then nb else pb i) nv:=by
      apply List.ext_getElem?;intro i;rw[List.getElem?_set];by_cases hi:i<v.tb.length
      ·rw[ptV_at (v:=nv) (i:=i) (by rw[nl];exact hi),ptV_at (v:=v) hi];by_cases e:q=i
       ·subst e;rw[if_pos rfl,if_pos (by rw[ptV_len];exact hi),hnv];simp[List.getD_eq_getElem?_getD,hi]
       ·rw[if_neg e,hnv];have e':¬i=q:=fun x=>e x.symm;simp[List.getD_eq_getElem?_getD,List.getElem?_set,e,e']
      ·rw[List.getElem?_eq_none (l:=ptV _ nv) (by rw[ptV_len,nl];omega),List.getElem?_eq_none (l:=ptV _ v) (by rw[ptV_len];omega)];split
       ·split
        ·rename_i h1 h2;rw[ptV_len] at h2;omega
        ·rfl
       ·rfl
     have hwv:(wtV v (mG v.tb.length)).set (q / 64) (.int .u64 (nw:Nat))=wtV nv (mG v.tb.length):=by
      apply List.ext_getElem?;intro i;rw[List.getElem?_set];by_cases hi:i<mG v.tb.length
      ·rw[wtV_at hi,wtV_at hi,hwc];by_cases e:q / 64=i
       ·rw[if_pos e,if_pos (by simp[wtV];omega),if_pos e.symm,hnw,<-e]
       ·rw[if_neg e,if_neg (fun x=>e x.symm)]
      ·rw[List.getElem?_eq_none (l:=wtV nv _) (by simp[wtV];omega),List.getElem?_eq_none (l:=wtV v _) (by simp[wtV];omega)];split
       ·split
        ·rename_i h1 h2;simp[wtV] at h2;omega
        ·rfl
       ·rfl
     have r1:=M1.rs.store q (.pointer (some ⟨nb,0,none⟩));rw[<-hw2,hp,<-nl] at r1;have r2:=((r1.step T23 (by decide)).step T34 (by decide)).step T45 (by decide);have x1:=((M1.rw.step T12 (by decide)).store (q / 64) (.int .u64 (nw:Nat))).step ((Step.refl (fun _=>False) _ o1).drew) (fun h=>h);rw[<-hw3,hwv,<-nl] at x1;have x2:=(x1.step T34 (by decide)).step T45 (by decide);have b5':=K5;rw[<-nl] at b5';have Sall:Step I13 w o w5 o1:=(((S1.trans (T12.mono (fun k h=>Or.inr (Or.inl h)))).trans (T23.mono (fun k h=>Or.inr (Or.inr h)))).trans (T34.mono (fun k h=>Or.inl h))).trans (T45.mono (fun k h=>Or.inl h));refine⟨rfl,o1,(fun i=>if i=q then nb else pb i),⟨?_,r2,x2,fun i t ht=>?_⟩,Sall⟩
     ·have e1:nv.st=max v.st s.1.length:=by rw[hnv]
      have e2:nv.rd=max v.rd s.2:=by rw[hnv]
      have e3:nv.kd=v.kd:=by rw[hnv]
      rw[e1,e2,e3];exact b5'
     ·have hnt:nv.tb=v.tb.set q (some s):=by rw[hnv]
      rw[hnt,List.getElem?_set] at ht;by_cases e:q=i
      ·subst e;rw[if_pos rfl,if_pos hlt] at ht;simp only[Option.some.injEq] at ht;subst ht;simp only[if_true];exact⟨by show _=_;rw[hcs];exact nb5.1,hol⟩
      ·rw[if_neg e] at ht;have e':¬i=q:=fun x=>e x.symm;simp only[e',if_false];obtain⟨y1,y2⟩:=M1.sb i t ht;have y0:Blk w1 o1 4 (pb i) (.cells (stC t).toArray 78 (0,0)):=⟨y1,y2⟩
       exact(((y0.step T12 (by decide)).step T23 (by decide)).step T34 (by decide)).step T45 (by decide)
    have hst:=V.st;have hrd:=V.rd;have hsl:=S.len;have hsr:=S.rd;simp only[Option.isSome_none,Bool.false_eq_true,if_false] at cq;obtain⟨qd,hqd⟩:∃qd,qd=q / 64:=⟨_,rfl⟩
    obtain⟨qm,hqm⟩:∃qm,qm=q % 64:=⟨_,rfl⟩
    have hqdI:(q:Int) / 64=(qd:Int):=by omega
    have hqmI:(q:Int) % 64=(qm:Int):=by omega
    have hqdl:(qd:Int)<((mG v.tb.length:Nat):Int):=by unfold mG;omega
    have hqm64:qm<64:=by omega
    rw[<-hqd] at cw2 fw2 hw3;rw[<-hqm] at e1 e2;rw[<-hqd] at e1;have E1:=Lib.hid e1;have E2:=Lib.hid e2;have W2:=Lib.hid hw2;have W3:=Lib.hid hw3;have W4:=Lib.hid hw4;have W5:=Lib.hid hw5;rw[<-hqd] at hwn;generalize wtN v qd=wn at *;generalize s.1.length=hl at *;generalize s.2=sr at *;generalize mG v.tb.length=mm at *;generalize v.tb.length=vl at *;have M6:Hid ((if v.st<hl then (hl:Int) else (v.st:Int))=((max v.st hl:Nat):Int)):=by
     show _=_;by_cases h:v.st<hl
     ·rw[if_pos h];omega
     ·rw[if_neg h];omega
    have M7:Hid ((if v.rd<sr then (sr:Int) else (v.rd:Int))=((max v.rd sr:Nat):Int)):=by
     show _=_;by_cases h:v.rd<sr
     ·rw[if_pos h];omega
     ·rw[if_neg h];omega
    generalize come q s v=R at *;clear e1 e2 hw2 hw3 hw4 hw5 hqd hqm hwc hnv hcm nl hwl hgw1 hwcl hwf cw fw hnw hpw T12 T23 T34 T45 K2 K3 K4 K5 nb1 nb2 nb3 nb4 nb5 bf df gf b6 b7 d5 d4 g4 g5 g6 d7 lgs lgw lvb hgl hgs1 hgc hgf hptq hS1 M1 S1 hM B1 htb hgd a0 a1 a2 a3 a6 a7 a8 V D S hN hol ho1 c32 c33 b4;go_enter Tryd.func36,Tryd.ntmps36;go_upto_region 1 with fail;rw[<-hw1,<-HNB.out];clear hw1;go_upto_region 9 with fail;rw[<-W2.out];clear W2;go_region;rw[E2.out,E1.out,<-W3.out];clear W3 E2 E1 cw2 fw2 a4 a5 b5;go_upto_region 10 with fail;go_region;rw[M6.out,<-W4.out];clear W4 M6 d6 df6 n32;go_upto_region 11 with fail;go_region;rw[M7.out,<-W5.out];have HY:=HZ.out;clear W5 M7 g7 gf7 n33 HZ;go_wp2;go_ret;exact HY
 ·have hltI:¬(q:Int)<(v.tb.length:Int):=by omega
  have hcm:come q s v=(200,v):=by unfold come;rw[List.getElem?_eq_none (by omega)]
  have HZ:Hid (PostV w o vb z p c (come q s v) (.returned (.int .i64 200)) w1):=by
   rw[hcm];exact⟨rfl,o1,pb,M1,S1⟩
  clear hcm hS1 M1 S1 hM B1 c32 c33;generalize come q s v=R at *;go_enter Tryd.func36,Tryd.ntmps36;go_upto_region 1 with fail;rw[<-hw1,<-HNB.out];clear hw1;go_wp2;go_ret;exact HZ.out
theorem text_oneg (w:World)(g:Nat)(b:UInt8)(hb:w.heap[g]?=some (.cells #[.int .u8 (b.toNat:Int)] 5 (0,0))) :
  (convert 103 9 (.slice (some ⟨g,0,none⟩) 1 1)).run Tryd.prog w=.ok (.string ⟨#[b]⟩) w :=
 run_convert_bytes_back _ 103 9 5 ⟨g,0,none⟩ 1 [b] Tryd.underlying103 Tryd.underlying5 Tryd.underlying9
  (fun j hj=>by
   have e:j=0:=by simp at hj;omega
   subst e;simp only[List.getElem_cons_zero];rw[Addr.add_mid,Nat.zero_add];simp[World.cell?,hb])
theorem code_c (k:Nat)(w:World)(hk:k<256):Calls Tryd.prog 47 #[.int .i64 (k:Nat)] w fun e w'=>e=.returned (.string (bs [k]))/\Below w.heap.size w w':=by
 have hw:IntKind.u8.wrap ((k:Nat):Int)=(k:Int):=by rw[IntKind.wrap_u8];omega
 have hu:((UInt8.ofNat k).toNat:Int)=(k:Int):=by
  rw[UInt8.toNat_ofNat'];omega
 have ht:=text_oneg (w.alloc (.cells #[.int .u8 (k:Int)] 5)) w.heap.size (UInt8.ofNat k) (by rw[hu];exact heap_alloc_new w _);rw[<-bs_one] at ht;have HB:Hid (Below w.heap.size w (w.alloc (.cells #[.int .u8 (k:Int)] 5))):=(Below.refl _ w).alloc (Nat.le_refl _) _;generalize bs [k]=u at *;clear hu;go_enter Tryd.func47,Tryd.ntmps47;go_wp2;go_ret;exact⟨rfl,HB.out⟩
def giveN (a:Nat):Nat:=if a=1\/a=2 then 2 else if a=10 then 3 else 1
theorem gives_g (a:Nat)(w:World)(ha:1<=a/\a<=10):Calls Tryd.prog 48 #[.int .i64 (a:Nat)] w fun e w'=>e=.returned (.int .i64 (giveN a:Nat))/\w'=w:=by
 obtain⟨h1,h2⟩:=ha
 match a,h1,h2 with
 | 1,_,_ | 2,_,_ | 3,_,_ | 4,_,_ | 5,_,_ | 6,_,_ | 7,_,_ | 8,_,_ | 9,_,_ | 10,_,_ =>
  go_enter Tryd.func48,Tryd.ntmps48;go_wp2;go_ret;exact⟨rfl,rfl⟩
theorem bd_drewN {g:Nat}{w w':World}(h:Below g w w')(n:Nat):Below g w (w'.drewN n):=by
 induction n with
 | zero=>exact h
 | succ n ih=>exact ih.drew
theorem same_yes (p q:Pl)(c:Cd)(w:World)(hp:CdW w p c)(hq:CdW w q c) :
  Calls Tryd.prog 23 #[cdV p c,cdV q c] w fun e w'=>e=.returned (.bool true)/\Below w.heap.size w w':=by
 obtain⟨g,hg⟩:∃g,g=w.heap.size:=⟨_,rfl⟩
 obtain⟨w2,hw2⟩:∃w2,w2=(w.alloc (.cells (cdA p c) 26)).alloc (.cells (cdA q c) 26):=⟨_,rfl⟩
 have B1:Below g w w2:=by rw[hw2,hg];exact((Below.refl _ w).alloc (Nat.le_refl _) _).alloc (by simp) _
 have z2:w2.heap.size=g+2:=by rw[hw2,hg];simp
 have KP:bx4 p c w2 g:=by
  rw[hw2,hg];exact bx4_below (bx4_new p c w) (by simp) (b1 _ _)
 have KQ:bx4 q c w2 (g+1):=by
  have:=bx4_new q c (w.alloc (.cells (cdA p c) 26))
  rw[hw2,hg];simpa using this
 have P2:CdW w2 p c:=hp.below (by rw[<-hg];exact B1);have Q2:CdW w2 q c:=hq.below (by rw[<-hg];exact B1);have HG:=Lib.hid hg;have l1:=P2.lw;have l2:=P2.lc;have l3:=P2.ln;have l4:=P2.lk;clear hp hq hg;have K:∀ {wr:World},Below w2.heap.size w2 wr->bx4 p c wr g/\bx4 q c wr (g+1)/\CdW wr p c/\CdW wr q c:=fun {wr} B=>⟨bx4_below KP (by omega) B,bx4_below KQ (by omega) B,P2.below B,Q2.below B⟩;have Bz:Below w2.heap.size w2 w2:=Below.refl _ _;obtain⟨a0,a1,a2,a3⟩:=KP;obtain⟨e0,e1,e2,e3⟩:=KQ;clear P2 Q2;go_enter Tryd.func23,Tryd.ntmps23;go_wp2_with fail;rw[<-hw2,<-HG.out];clear hw2;go_wp2_with fail;go_loopw [5] (fun v wr=>∃k:Nat,v=.int .i64 (k:Nat)/\k<=c.ws.length/\Below w2.heap.size w2 wr) (fun v _=>c.ws.length-(intOf v).toNat)
 case atStart=>exact⟨0,by go_num,by omega,Bz⟩
 case round =>
  obtain⟨k,rfl,hk,BR0⟩:=hrel;clear a0 a1 a2 a3 e0 e1 e2 e3;obtain⟨⟨a0,a1,a2,a3⟩,⟨e0,e1,e2,e3⟩,PR,QR⟩:=K BR0;by_cases hlt:k<c.ws.length
  ·have hkI:(k:Int)<(c.ws.length:Int):=by omega
   obtain⟨b1,o1,h1,l1,x1⟩:=PR.ws.at (wsV_at hlt);obtain⟨b2,o2,h2,l2,x2⟩:=QR.ws.at (wsV_at hlt);generalize c.ws[k]=u at x1 x2;rw[h1] at a0;rw[h2] at e0;go_wp2_with fail
   go_quiet (fail)
   go_wp2;go_roundw
   case rel=>(try ((repeat apply Exists.intro);refine⟨?_,rfl⟩));exact⟨k+1,by go_num,by omega,bd_drewN BR0 _⟩
   case measure=>simp[intOf];omega
  ·have hkI:¬(k:Int)<(c.ws.length:Int):=by omega
   clear PR QR;go_wp2_with fail;go_loopw [6] (fun v wr=>∃k:Nat,v=.int .i64 (k:Nat)/\k<=c.cs.length/\Below w2.heap.size w2 wr) (fun v _=>c.cs.length-(intOf v).toNat)
   case atStart=>exact⟨0,by go_num,by omega,BR0⟩
   case round =>
    obtain⟨k,rfl,hk,BR1⟩:=hrel;clear a0 a1 a2 a3 e0 e1 e2 e3;obtain⟨⟨a0,a1,a2,a3⟩,⟨e0,e1,e2,e3⟩,PR,QR⟩:=K BR1;by_cases hlt:k<c.cs.length
    ·have hkI:(k:Int)<(c.cs.length:Int):=by omega
     obtain⟨b1,o1,h1,l1,x1⟩:=PR.cs.at (isV_get hlt);obtain⟨b2,o2,h2,l2,x2⟩:=QR.cs.at (isV_get hlt);generalize c.cs[k]=u at x1 x2;rw[h1] at a1;rw[h2] at e1;go_wp2_with fail
     go_quiet (fail)
     go_wp2;go_roundw
     case rel=>(try ((repeat apply Exists.intro);refine⟨?_,rfl⟩));exact⟨k+1,by go_num,by omega,bd_drewN BR1 _⟩
     case measure=>simp[intOf];omega
    ·have hkI:¬(k:Int)<(c.cs.length:Int):=by omega
     clear PR QR;go_wp2_with fail;go_loopw [7] (fun v wr=>∃k:Nat,v=.int .i64 (k:Nat)/\k<=c.ns.length/\Below w2.heap.size w2 wr) (fun v _=>c.ns.length-(intOf v).toNat)
     case atStart=>exact⟨0,by go_num,by omega,BR1⟩
     case round =>
      obtain⟨k,rfl,hk,BR2⟩:=hrel;clear a0 a1 a2 a3 e0 e1 e2 e3;obtain⟨⟨a0,a1,a2,a3⟩,⟨e0,e1,e2,e3⟩,PR,QR⟩:=K BR2;by_cases hlt:k<c.ns.length
      ·have hkI:(k:Int)<(c.ns.length:Int):=by omega
       obtain⟨b1,o1,h1,l1,x1⟩:=PR.ns.at (nsV_at hlt);obtain⟨b2,o2,h2,l2,x2⟩:=QR.ns.at (nsV_at hlt);generalize c.ns[k]=u at x1 x2;rw[h1] at a2;rw[h2] at e2;go_wp2_with fail
       go_quiet (fail)
       go_wp2;go_roundw
       case rel=>(try ((repeat apply Exists.intro);refine⟨?_,rfl⟩));exact⟨k+1,by go_num,by omega,bd_drewN BR2 _⟩
       case measure=>simp[intOf];omega
      ·have hkI:¬(k:Int)<(c.ns.length:Int):=by omega
       clear PR QR;go_wp2_with fail;go_loopw [8] (fun v wr=>∃k:Nat,v=.int .i64 (k:Nat)/\k<=c.ks.length/\Below w2.heap.size w2 wr) (fun v _=>c.ks.length-(intOf v).toNat)
       case atStart=>exact⟨0,by go_num,by omega,BR2⟩
       case round =>
        obtain⟨k,rfl,hk,BR3⟩:=hrel;clear a0 a1 a2 a3 e0 e1 e2 e3;obtain⟨⟨a0,a1,a2,a3⟩,⟨e0,e1,e2,e3⟩,PR,QR⟩:=K BR3;by_cases hlt:k<c.ks.length
        ·have hkI:(k:Int)<(c.ks.length:Int):=by omega
         obtain⟨b1,o1,h1,l1,x1⟩:=PR.ks.at (isV_get hlt);obtain⟨b2,o2,h2,l2,x2⟩:=QR.ks.at (isV_get hlt);generalize c.ks[k]=u at x1 x2;rw[h1] at a3;rw[h2] at e3;go_wp2_with fail
         go_quiet (fail)
         go_wp2;go_roundw
         case rel=>(try ((repeat apply Exists.intro);refine⟨?_,rfl⟩));exact⟨k+1,by go_num,by omega,bd_drewN BR3 _⟩
         case measure=>simp[intOf];omega
        ·have hkI:¬(k:Int)<(c.ks.length:Int):=by omega
         go_wp2;go_ret;exact⟨rfl,by rw[<-HG.out];exact B1.trans (BR3.mono (by omega))⟩
end Go.Proofs.YtpdfdhkdfkhfkaaDoor

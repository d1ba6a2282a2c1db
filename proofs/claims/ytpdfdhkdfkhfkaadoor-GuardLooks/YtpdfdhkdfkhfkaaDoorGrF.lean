import Derived.Test.YtpdfdhkdfkhfkaaDoorGrD
set_option maxRecDepth 100000
set_option maxHeartbeats 8000000
namespace Go.Proofs.YtpdfdhkdfkhfkaaDoor
open Go.ChangeShapes Go.WideShapes Go.ChangeAt Go.RowKit
set_option linter.unusedVariables false
set_option linter.unusedSimpArgs false
def fl4 (f:Nat->List Value):Nat->List Value
 | 0=>[]
 | n+1=>fl4 f n++f n
theorem fl4_len {f:Nat->List Value}(h:∀ i,(f i).length=4):∀ n,(fl4 f n).length=n*4
 | 0=>rfl
 | n+1=>by rw[fl4,List.length_append,fl4_len h n,h];omega
theorem fl4_at {f:Nat->List Value}(h:∀ i,(f i).length=4):∀ {n i j:Nat},i<n->j<4->(fl4 f n)[i*4+j]?=(f i)[j]?
 | 0,i,j,hi,_=>by omega
 | n+1,i,j,hi,hj=>by
  rw[fl4];by_cases e:i=n
  ·subst e;rw[List.getElem?_append_right (by rw[fl4_len h];omega),fl4_len h]
   congr 1
   omega
  ·rw[List.getElem?_append_left (by rw[fl4_len h];omega)];exact fl4_at h (by omega) hj
theorem fl4_ext {f:Nat->List Value}(h:∀ i,(f i).length=4){n:Nat}{xs:List Value}(hl:xs.length=n*4)(hx:∀ i j,i<n->j<4->xs[i*4+j]?=(f i)[j]?):xs=fl4 f n:=by
 apply List.ext_getElem?;intro k;by_cases hk:k<n*4
 ·have e:k=k / 4*4+k % 4:=by omega
  rw[e,hx _ _ (by omega) (by omega),fl4_at h (by omega) (by omega)]
 ·rw[List.getElem?_eq_none (by omega),List.getElem?_eq_none (by rw[fl4_len h];omega)]
def q4 (x:Option St)(d:Bool):List Value :=
 match x with
 | none=>[.string (bs []),.int .i64 (0:Nat),.bool false,.bool d]
 | some s=>[.string (bs s.1),.int .i64 (s.2:Nat),.bool true,.bool d]
theorem q4_len (x:Option St)(d:Bool):(q4 x d).length=4:=by cases x<;>rfl
def stL (v:Vw):List Value:=fl4 (fun i=>q4 (v.tb.getD i none) (v.dn.getD i false)) v.tb.length
theorem stL_len (v:Vw):(stL v).length=v.tb.length*4:=fl4_len (fun _=>q4_len _ _) _
theorem stL_at (v:Vw){i j:Nat}(hi:i<v.tb.length)(hj:j<4):(stL v)[i*4+j]?=(q4 (v.tb.getD i none) (v.dn.getD i false))[j]?:=fl4_at (fun _=>q4_len _ _) hi hj
theorem stL_set (v u:Vw)(q:Nat)(s:St)(hq:q<v.tb.length)(hd:v.dn.getD q false=false)(ht:u.tb=v.tb.set q (some s))(hn:u.dn=v.dn) :
  ((((stL v).set (q*4) (.string (bs s.1))).set (q*4+1) (.int .i64 (s.2:Nat))).set (q*4+2) (.bool true)).set (q*4+3) (.bool false)=stL u:=by
 have hl:u.tb.length=v.tb.length:=by rw[ht];simp
 refine fl4_ext (fun _=>q4_len _ _) (by simp[stL_len,hl]) fun i j hi hj=>?_;have h1:=stL_at v (i:=i) (j:=j) (by omega) hj;have hll:=stL_len v;rw[List.getElem?_set,List.getElem?_set,List.getElem?_set,List.getElem?_set];simp only[List.length_set,hll];by_cases e:i=q
 ·subst e;have e1:u.tb.getD i none=some s:=by rw[ht,List.getD_eq_getElem?_getD,List.getElem?_set,if_pos rfl,if_pos (by omega)];rfl
  rw[e1,hn,hd]
  match j,hj with
  | 0,_=>rw[if_neg (by omega),if_neg (by omega),if_neg (by omega),if_pos (by omega),if_pos (by omega)];rfl
  | 1,_=>rw[if_neg (by omega),if_neg (by omega),if_pos (by omega),if_pos (by omega)];rfl
  | 2,_=>rw[if_neg (by omega),if_pos (by omega),if_pos (by omega)];rfl
  | 3,_=>rw[if_pos (by omega),if_pos (by omega)];rfl
 ·have e1:u.tb.getD i none=v.tb.getD i none:=by rw[ht,List.getD_eq_getElem?_getD,List.getD_eq_getElem?_getD,List.getElem?_set,if_neg (fun x=>e x.symm)]
  rw[if_neg (by omega),if_neg (by omega),if_neg (by omega),if_neg (by omega),h1,e1,hn]
theorem stL_mark (v:Vw)(q:Nat)(hq:q<v.tb.length)(hl:v.dn.length=v.tb.length):(stL v).set (q*4+3) (.bool true)=stL (markF q v):=by
 refine fl4_ext (fun _=>q4_len _ _) (by simp[stL_len,markF]) fun i j hi hj=>?_;have hi':i<v.tb.length:=hi;have h1:=stL_at v (i:=i) (j:=j) hi' hj;have hll:=stL_len v;rw[List.getElem?_set];have et:(markF q v).tb=v.tb:=rfl;have ed:(markF q v).dn=v.dn.set q true:=rfl;rw[et,ed];by_cases e:i=q
 ·subst e;have e2:(v.dn.set i true).getD i false=true:=by rw[List.getD_eq_getElem?_getD,List.getElem?_set,if_pos rfl,if_pos (by omega)];rfl
  rw[e2]
  match j,hj with
  | 3,_=>rw[if_pos rfl,if_pos (by omega)];cases v.tb.getD i none<;>rfl
  | 0,_=>rw[if_neg (by omega),h1];cases v.tb.getD i none<;>rfl
  | 1,_=>rw[if_neg (by omega),h1];cases v.tb.getD i none<;>rfl
  | 2,_=>rw[if_neg (by omega),h1];cases v.tb.getD i none<;>rfl
 ·have e2:(v.dn.set q true).getD i false=v.dn.getD i false:=by rw[List.getD_eq_getElem?_getD,List.getD_eq_getElem?_getD,List.getElem?_set,if_neg (fun x=>e x.symm)]
  rw[if_neg (by omega),h1,e2]
abbrev wkA (p:Pl)(c:Cd)(ls cap n st rd kd e:Nat):Array Value:=#[.slice p.aw c.ws.length p.cw,.slice p.ac c.cs.length p.cc,.slice p.an c.ns.length p.cn,.slice p.ak c.ks.length p.ck,.slice (some ⟨ls,0,none⟩) n cap,.int .i64 (st:Nat),.int .i64 (rd:Nat),.int .i64 (kd:Nat),.int .i64 (e:Nat)]
structure WkM (w:World)(o:Nat->Nat)(vb ls cap:Nat)(p:Pl)(c:Cd)(r:Nat × Vw):Prop where
 blk:Blk w o 1 vb (.cells (wkA p c ls cap r.2.tb.length r.2.st r.2.rd r.2.kd r.1) 48)
 rs:Row w o 2 51 4 (.slice (some ⟨ls,0,none⟩) r.2.tb.length cap) r.2.tb.length (stL r.2)
theorem WkM.step {I:Nat->Prop}{w w':World}{o o':Nat->Nat}{vb ls cap:Nat}{p:Pl}{c:Cd}{r:Nat × Vw}(h:WkM w o vb ls cap p c r)(s:Step I w o w' o')(h1:¬I 1)(h2:¬I 2):WkM w' o' vb ls cap p c r :=
 ⟨h.blk.step s h1,h.rs.step s h2⟩
abbrev I2q (k:Nat):Prop:=k=1\/k=2
def PostQ (w:World)(o:Nat->Nat)(vb ls cap:Nat)(p:Pl)(c:Cd)(r:Nat × Vw)(e:Ending)(w':World):Prop :=
 e=.returned (.tuple #[])/\∃o',WkM w' o' vb ls cap p c r/\Step I2q w o w' o'
def comesF (q:Nat)(s:St)(r:Nat × Vw):Nat × Vw:=if r.1=0 then come q s r.2 else r
theorem Blk.setq {w:World}{o:Nat->Nat}{i b:Nat}{cs:Array Value}{t:TypeId}(h:Blk w o i b (.cells cs t (0,0)))(n:Nat)(u:Value):Blk (w.setCell ⟨b,n,none⟩ u) o i b (.cells (cs.set! n u) t (0,0)) :=
 ⟨heap_setCell_same w b n _ t u h.1,h.2⟩
theorem cells9q {w:World}{b:Nat}{a0 a1 a2 a3 a4 a5 a6 a7 a8:Value}{t:TypeId}(h:w.heap[b]?=some (.cells #[a0,a1,a2,a3,a4,a5,a6,a7,a8] t (0,0))) :
  (w.cell? ⟨b,0,none⟩=some a0/\w.cell? ⟨b,1,none⟩=some a1/\w.cell? ⟨b,2,none⟩=some a2/\w.cell? ⟨b,3,none⟩=some a3/\w.cell? ⟨b,4,none⟩=some a4/\w.cell? ⟨b,5,none⟩=some a5/\w.cell? ⟨b,6,none⟩=some a6/\w.cell? ⟨b,7,none⟩=some a7/\w.cell? ⟨b,8,none⟩=some a8)/\∀ j,w.frozen? ⟨b,j,none⟩=false:=cells9 h
theorem ne_list {a b:ByteArray}(h:¬a=b):¬a.toList=b.toList:=fun e=>h (by
 rw[ByteArray.toList_eq,ByteArray.toList_eq] at e;exact ByteArray.ext (Array.ext' e))
theorem new_q {w:World}(o:Nat->Nat)(B:Obj):Step (fun _=>False) w o (w.alloc B) (newLab w o 0):=stepNg (bG w B)
theorem comes_c (w:World)(o:Nat->Nat)(vb ls cap:Nat)(p:Pl)(c:Cd)(r:Nat × Vw)(n q:Nat)(s:St)(kn dn:Bool)(V:VwOk n r.2)(D:VwD r.2)(B:VwB r.2)(S:StOk s)(hn:n<=32768)(hq:q<=268435456)(he:r.1<=1000)(hM:WkM w o vb ls cap p c r) :
  Calls Tryd.prog 17 #[.pointer (some ⟨vb,0,none⟩),.int .i64 (q:Nat),sV s.1 s.2 kn dn] w (PostQ w o vb ls cap p c (comesF q s r)):=by
 obtain⟨er,v⟩:=r;simp only at V D B he;obtain⟨sb,hsb⟩:∃sb,sb=bs s.1:=⟨_,rfl⟩
 obtain⟨g,hg⟩:∃g,g=w.heap.size:=⟨_,rfl⟩
 obtain⟨w1,hw1⟩:∃w1,w1=w.alloc (.cells #[.string sb,.int .i64 (s.2:Nat),.bool kn,.bool dn] 51):=⟨_,rfl⟩
 obtain⟨o1,ho1⟩:∃o1,o1=newLab w o 0:=⟨_,rfl⟩
 have S1:Step (fun _=>False) w o w1 o1:=by rw[hw1,ho1];exact new_q o _
 have M1:=hM.step S1 id id;have hb1:w1.heap[g]?=some (.cells #[.string sb,.int .i64 (s.2:Nat),.bool kn,.bool dn] 51 (0,0)):=by rw[hw1,hg];exact h1G w _
 have hol:o1 g=0:=by rw[ho1,hg];exact newLab_new (Nat.le_refl _)
 have hsz1:w1.heap.size=g+1:=by rw[hw1,hg];simp
 obtain⟨f0,f1,f2,f3⟩:=box4_cells hb1;obtain⟨⟨a0,a1,a2,a3,a4,a5,a6,a7,a8⟩,af⟩:=cells9q M1.blk.1;have af8:=af 8;have HG:=Lib.hid hg;have hN:=V.tl;have hlen:sb.size<=1024:=by rw[hsb,bs_size];exact S.len
 have hsl:sb.size=s.1.length:=by rw[hsb,bs_size]
 have S1':Step I2q w o w1 o1:=S1.mono (fun _ h=>h.elim);have HB1:=Lib.hid hb1;clear hg ho1 S1 af hb1;have lvb:=M1.blk.2;unfold sV;rw[<-hsb];by_cases e0:er=0
 case neg =>
  have hF:comesF q s (er,v)=(er,v):=by unfold comesF;rw[if_neg e0]
  rw[hF];have eI:¬((er:Nat):Int)=0:=by omega
  have eI2:(((er:Nat):Int) != 0)=true:=by simpa using e0
  simp only at a8;have HZ:=Lib.hid (And.intro M1 S1');have HSB:=Lib.hid hsb;clear hF e0 hM M1 S1' hsb a0 a1 a2 a3 a4 a5 a6 a7 af8;go_enter Tryd.func17,Tryd.ntmps17;go_upto_region 1 with fail;rw[<-hw1];clear hw1;go_wp2
  go_end0
  exact⟨rfl,o1,HZ.out⟩
 case pos =>
 subst e0;have hF:comesF q s (0,v)=come q s v:=by unfold comesF;rw[if_pos rfl]
 rw[hF];simp only at a4 a5 a6 a7 a8;by_cases hlt:q<v.tb.length
 case neg =>
  have hcm:come q s v=(200,v):=by unfold come;rw[List.getElem?_eq_none (by omega)]
  rw[hcm];have hltI:(v.tb.length:Int)<=(q:Int):=by omega
  have T:Step I2q w1 o1 (w1.setCell ⟨vb,8,none⟩ (.int .i64 200)) o1:=(Step.refl _ _ _).setCell _ _ (Or.inl lvb);have HZ:Hid (WkM (w1.setCell ⟨vb,8,none⟩ (.int .i64 200)) o1 vb ls cap p c (200,v)/\Step I2q w o (w1.setCell ⟨vb,8,none⟩ (.int .i64 200)) o1) :=
   ⟨⟨M1.blk.setq 8 _,M1.rs.step ((Step.refl (fun k=>k=1) w1 o1).setCell ⟨vb,8,none⟩ (.int .i64 200) lvb) (by decide)⟩,S1'.trans T⟩
  have HSB:=Lib.hid hsb;clear hF hcm hM M1 S1' hsb T a0 a1 a2 a3 a5 a6 a7 B D V S;go_enter Tryd.func17,Tryd.ntmps17;go_upto_region 1 with fail;rw[<-hw1];clear hw1;go_wp2
  go_end0
  exact⟨rfl,o1,HZ.out⟩
 case pos =>
 have hltI:¬(v.tb.length:Int)<=(q:Int):=by omega
 have hltI2:(q:Int)<(v.tb.length:Int):=by omega
 have hszI:¬(1024:Int)<(sb.size:Int):=by omega
 obtain⟨gs',cs',hgs,hgl,-,-,hgs1,hgc,hgf⟩:=M1.rs.pos (by show 0<v.tb.length;omega);simp only[Value.slice.injEq,Option.some.injEq,Addr.mk.injEq,and_true,true_and] at hgs;obtain⟨rfl,rfl⟩:=hgs;have l0:=(hgc (q*4+0) (by simp only;omega)).trans (stL_at v hlt (by decide:0<4));have l1:=(hgc (q*4+1) (by simp only;omega)).trans (stL_at v hlt (by decide:1<4));have l2:=(hgc (q*4+2) (by simp only;omega)).trans (stL_at v hlt (by decide:2<4));have l3:=(hgc (q*4+3) (by simp only;omega)).trans (stL_at v hlt (by decide:3<4));rw[Nat.add_zero] at l0;have hf0:=hgf (q*4);have hf1:=hgf (q*4+1);have hf2:=hgf (q*4+2);have hf3:=hgf (q*4+3);obtain⟨dq,hdq⟩:∃dq,dq=v.dn.getD q false:=⟨_,rfl⟩
 rw[<-hdq] at l0 l1 l2 l3;cases htb:v.tb[q]? with
 | none=>exfalso;rw[List.getElem?_eq_getElem hlt] at htb;cases htb
 | some x =>
  have hgd:v.tb.getD q none=x:=by rw[List.getD_eq_getElem?_getD,htb];rfl
  rw[hgd] at l0 l1 l2 l3;cases x with
  | some t =>
   have hcm:come q s v=(if t=s then 0 else 202,v):=by unfold come;rw[htb]
   have T:=V.sts q t htb;have hBt:=B q t htb;obtain⟨tbb,htbb⟩:∃tb,tb=bs t.1:=⟨_,rfl⟩
   simp only[q4,List.getElem?_cons_zero,List.getElem?_cons_succ,<-htbb] at l0 l1 l2 l3;obtain⟨w2,hw2⟩:∃w2,w2=w1.alloc (.cells #[.string tbb,.int .i64 (t.2:Nat),.bool true,.bool dq] 51):=⟨_,rfl⟩
   obtain⟨o2,ho2⟩:∃o2,o2=newLab w1 o1 0:=⟨_,rfl⟩
   have S2:Step (fun _=>False) w1 o1 w2 o2:=by rw[hw2,ho2];exact new_q o1 _
   have M2:=M1.step S2 id id;have hol2:o2 (g+1)=0:=by rw[ho2,<-hsz1];exact newLab_new (Nat.le_refl _)
   have hb2:w2.heap[g+1]?=some (.cells #[.string tbb,.int .i64 (t.2:Nat),.bool true,.bool dq] 51 (0,0)):=by rw[hw2,<-hsz1];exact h1G w1 _
   have hog2:o2 g=0:=(S2.lab g (by omega)).trans hol;have hb1':w2.heap[g]?=some (.cells #[.string sb,.int .i64 (s.2:Nat),.bool kn,.bool dn] 51 (0,0)):=(S2.block g (by omega) id).trans HB1.out;have lvb2:o2 vb=1:=M2.blk.2;obtain⟨⟨-,-,-,-,b4,b5,b6,-,b8⟩,bf⟩:=cells9q M2.blk.1;obtain⟨d0,d1,d2,d3⟩:=box4_cells hb1';obtain⟨e0,e1,e2,e3⟩:=box4_cells hb2;have HTBB:=Lib.hid htbb;simp only at b4 b5 b6 b8;rw[hcm];by_cases hts:t=s
   ·subst hts;obtain rfl:tbb=sb:=htbb.trans hsb.symm;rw[if_pos rfl];have hmst:max v.st t.1.length=v.st:=Nat.max_eq_left hBt.1;have hmrd:max v.rd t.2=v.rd:=Nat.max_eq_left hBt.2;obtain⟨w4,hw4⟩:∃w4,w4=(w2.setCell ⟨vb,5,none⟩ (.int .i64 (v.st:Nat))).drew:=⟨_,rfl⟩
    obtain⟨w5,hw5⟩:∃w5,w5=(w4.setCell ⟨vb,6,none⟩ (.int .i64 (v.rd:Nat))).drew:=⟨_,rfl⟩
    have S4:Step (fun k=>k=1) w2 o2 w4 o2:=by rw[hw4];exact((Step.refl _ w2 o2).setCell ⟨vb,5,none⟩ _ lvb2).drew
    have S5:Step (fun k=>k=1) w4 o2 w5 o2:=by rw[hw5];exact((Step.refl _ w4 o2).setCell ⟨vb,6,none⟩ _ lvb2).drew
    have K4:=(M2.blk.setq 5 (.int .i64 (v.st:Nat))).step ((Step.refl (fun _=>False) _ o2).drew) id;rw[<-hw4] at K4;have K5:=(K4.setq 6 (.int .i64 (v.rd:Nat))).step ((Step.refl (fun _=>False) _ o2).drew) id;rw[<-hw5] at K5;have HZ:Hid (WkM w5 o2 vb ls cap p c (0,v)/\Step I2q w o w5 o2) :=
     ⟨⟨K5,(M2.rs.step S4 (by decide)).step S5 (by decide)⟩,(((S1'.trans (S2.mono (fun _ h=>h.elim))).trans (S4.mono (fun _ h=>Or.inl h))).trans (S5.mono (fun _ h=>Or.inl h)))⟩
    have bf5:=bf 5;obtain⟨⟨-,-,-,-,-,-,k6,-,-⟩,mf⟩:=cells9q K4.1;have mf6:=mf 6;have hb4:w4.heap[g]?=_:=(S4.block g (by have:=S2.size;omega) (by rw[hog2];decide)).trans hb1';obtain⟨j0,j1,j2,j3⟩:=box4_cells hb4;have h3:¬v.st<tbb.size:=by rw[hsl];omega
    have h3I:¬(v.st:Int)<(tbb.size:Int):=by omega
    have h4:¬v.rd<t.2:=by omega
    have h4I:¬(v.rd:Int)<(t.2:Int):=by omega
    have HSB:=Lib.hid hsb;have HSZ:=Lib.hid hsz1;have HW2:=Lib.hid hw2;have HW4:=Lib.hid hw4;have HW5:=Lib.hid hw5;generalize v.st=vst at *;generalize v.rd=vrd at *;clear hsb hsz1 hw2 hw4 hw5 bf mf S2 S4 S5 M1 M2 K4 K5 S1' hb1' hb2 hb4 hdq htb hgd hcm hF hog2 hol2 lvb2 ho2 hol S hsl HB1 hf0 hf1 hf2 hf3 af8 hN V D hM hgc hgf hmst hmrd hBt htbb HTBB T;go_enter Tryd.func17,Tryd.ntmps17;go_upto_region 1 with fail;rw[<-hw1,<-HG.out];clear hw1;go_upto_region 7 with fail;rw[HSZ.out,<-HW2.out];go_upto_region 11 with fail;go_region;try rw[if_neg h3]
    try rw[if_neg h3I]
    rw[<-HW4.out];go_wp2_with fail;go_region;try rw[if_neg h4]
    try rw[if_neg h4I]
    rw[<-HW5.out];go_wp2
    go_end0
    exact⟨rfl,o2,HZ.out⟩
   ·rw[if_neg hts];obtain⟨w4,hw4⟩:∃w4,w4=w2.setCell ⟨vb,8,none⟩ (.int .i64 202):=⟨_,rfl⟩
    have S4:Step (fun k=>k=1) w2 o2 w4 o2:=by rw[hw4];exact(Step.refl _ w2 o2).setCell ⟨vb,8,none⟩ _ lvb2
    have K4:=M2.blk.setq 8 (.int .i64 202);rw[<-hw4] at K4;have HZ:Hid (WkM w4 o2 vb ls cap p c (202,v)/\Step I2q w o w4 o2) :=
     ⟨⟨K4,M2.rs.step S4 (by decide)⟩,((S1'.trans (S2.mono (fun _ h=>h.elim))).trans (S4.mono (fun _ h=>Or.inl h)))⟩
    have bf8:=bf 8;have hdiff:(tbb=sb/\¬(t.2:Int)=(s.2:Int))\/¬tbb=sb:=by
     by_cases hkk:tbb=sb
     ·refine .inl ⟨hkk,fun h2=>hts ?_⟩;have h1:t.1=s.1:=(bs_inj T.by S.by).1 (by rw[<-htbb,<-hsb];exact hkk);exact Prod.ext h1 (by omega)
     ·exact .inr hkk
    have HSB:=Lib.hid hsb;have HSZ:=Lib.hid hsz1;have HW2:=Lib.hid hw2;have HW4:=Lib.hid hw4;generalize v.st=vst at *;generalize v.rd=vrd at *;clear hsb hsz1 hw2 hw4 bf S2 S4 M1 M2 K4 S1' hb1' hb2 hdq htb hgd hcm hF hog2 hol2 lvb2 ho2 hol S hsl HB1 hf0 hf1 hf2 hf3 af8 hN V D hM hgc hgf hBt htbb HTBB T hts;rcases hdiff with ⟨rfl,hd2⟩|hd1
    ·go_enter Tryd.func17,Tryd.ntmps17;go_upto_region 1 with fail;rw[<-hw1,<-HG.out];clear hw1;go_upto_region 7 with fail;rw[HSZ.out,<-HW2.out];go_upto_region 8 with fail;go_wp2;rw[<-HW4.out]
     go_end0
     exact⟨rfl,o2,HZ.out⟩
    ·have hd1b:=ne_list hd1;have hd1c:(tbb.toList==sb.toList)=false:=by simpa using hd1b
     go_enter Tryd.func17,Tryd.ntmps17;go_upto_region 1 with fail;rw[<-hw1,<-HG.out];clear hw1;go_upto_region 7 with fail;rw[HSZ.out,<-HW2.out];go_upto_region 8 with fail;go_wp2;rw[<-HW4.out]
     go_end0
     exact⟨rfl,o2,HZ.out⟩
  | none =>
   simp only[q4,List.getElem?_cons_zero,List.getElem?_cons_succ] at l0 l1 l2 l3;have hcm:come q s v=(0,⟨v.tb.set q (some s),v.dn,max v.st s.1.length,max v.rd s.2,v.kd⟩):=by unfold come;rw[htb]
   rw[hcm];have hdf:dq=false:=by rw[hdq];exact D q hgd
   subst hdf;obtain⟨z0,hz0⟩:∃z0,z0=bs []:=⟨_,rfl⟩
   rw[<-hz0] at l0;obtain⟨w2,hw2⟩:∃w2,w2=w1.alloc (.cells #[.string z0,.int .i64 0,.bool false,.bool false] 51):=⟨_,rfl⟩
   obtain⟨o2,ho2⟩:∃o2,o2=newLab w1 o1 0:=⟨_,rfl⟩
   have S2:Step (fun _=>False) w1 o1 w2 o2:=by rw[hw2,ho2];exact new_q o1 _
   have M2:=M1.step S2 id id;have hol2:o2 (g+1)=0:=by rw[ho2,<-hsz1];exact newLab_new (Nat.le_refl _)
   have hb2:w2.heap[g+1]?=some (.cells #[.string z0,.int .i64 0,.bool false,.bool false] 51 (0,0)):=by rw[hw2,<-hsz1];exact h1G w1 _
   have hog2:o2 g=0:=(S2.lab g (by omega)).trans hol;have hb1':w2.heap[g]?=some (.cells #[.string sb,.int .i64 (s.2:Nat),.bool kn,.bool dn] 51 (0,0)):=(S2.block g (by omega) id).trans HB1.out;obtain⟨w3,hw3⟩:∃w3,w3=((((w2.setCell ⟨ls,q*4,none⟩ (.string sb)).setCell ⟨ls,q*4+1,none⟩ (.int .i64 (s.2:Nat))).setCell ⟨ls,q*4+2,none⟩ (.bool true)).setCell ⟨ls,q*4+3,none⟩ (.bool false)).drew:=⟨_,rfl⟩
   obtain⟨nv,hnv⟩:∃nv:Vw,nv=⟨v.tb.set q (some s),v.dn,max v.st s.1.length,max v.rd s.2,v.kd⟩:=⟨_,rfl⟩
   have hsl4:=stL_set v nv q s hlt (by rw[<-hdq]) (by rw[hnv]) (by rw[hnv]);rw[<-hsb] at hsl4;have nl:nv.tb.length=v.tb.length:=by rw[hnv];simp
   have R3:Row w3 o2 2 51 4 (.slice (some ⟨ls,0,none⟩) nv.tb.length cap) nv.tb.length (stL nv):=by
    have h:=((((M2.rs.store (q*4) (.string sb)).store (q*4+1) (.int .i64 (s.2:Nat))).store (q*4+2) (.bool true)).store (q*4+3) (.bool false)).step ((Step.refl (fun _=>False) _ o2).drew) id;rw[hw3,nl];simp only at h;rw[hsl4] at h;exact h
   have lls:o2 ls=2:=M2.rs.2 _ rfl;have S3:Step (fun k=>k=2) w2 o2 w3 o2:=by rw[hw3];exact(((((Step.refl _ w2 o2).setCell ⟨ls,q*4,none⟩ _ lls).setCell ⟨ls,q*4+1,none⟩ _ lls).setCell ⟨ls,q*4+2,none⟩ _ lls).setCell ⟨ls,q*4+3,none⟩ _ lls).drew
   have K3:=M2.blk.step S3 (by decide);obtain⟨w4,hw4⟩:∃w4,w4=(w3.setCell ⟨vb,5,none⟩ (.int .i64 ((max v.st s.1.length:Nat):Nat))).drew:=⟨_,rfl⟩
   obtain⟨w5,hw5⟩:∃w5,w5=(w4.setCell ⟨vb,6,none⟩ (.int .i64 ((max v.rd s.2:Nat):Nat))).drew:=⟨_,rfl⟩
   have lvb2:o2 vb=1:=M2.blk.2;have S4:Step (fun k=>k=1) w3 o2 w4 o2:=by rw[hw4];exact((Step.refl _ w3 o2).setCell ⟨vb,5,none⟩ _ lvb2).drew
   have S5:Step (fun k=>k=1) w4 o2 w5 o2:=by rw[hw5];exact((Step.refl _ w4 o2).setCell ⟨vb,6,none⟩ _ lvb2).drew
   have K4:=(K3.setq 5 (.int .i64 ((max v.st s.1.length:Nat):Nat))).step ((Step.refl (fun _=>False) _ o2).drew) id;rw[<-hw4] at K4;have K5:=(K4.setq 6 (.int .i64 ((max v.rd s.2:Nat):Nat))).step ((Step.refl (fun _=>False) _ o2).drew) id;rw[<-hw5] at K5;have HZ:Hid (WkM w5 o2 vb ls cap p c (0,nv)/\Step I2q w o w5 o2):=by
    refine⟨⟨?_,(R3.step S4 (by decide)).step S5 (by decide)⟩,?_⟩
    ·have h:=K5;simp only at h ⊢;rw[nl,hnv];exact h
    ·exact(((S1'.trans (S2.mono (fun _ h=>h.elim))).trans (S3.mono (fun _ h=>Or.inr h))).trans (S4.mono (fun _ h=>Or.inl h))).trans (S5.mono (fun _ h=>Or.inl h))
   -- cells,world by world
   obtain⟨⟨-,-,-,-,b4,b5,b6,-,b8⟩,bf⟩:=cells9q M2.blk.1;have hsz1':=hsz1;obtain⟨d0,d1,d2,d3⟩:=box4_cells hb1';obtain⟨e0,e1,e2,e3⟩:=box4_cells hb2;obtain⟨⟨-,-,-,-,-,k5,-,-,-⟩,kf⟩:=cells9q K3.1;have kf5:=kf 5;obtain⟨⟨-,-,-,-,-,-,k6,-,-⟩,mf⟩:=cells9q K4.1;have mf6:=mf 6;have hb3:w3.heap[g]?=_:=(S3.block g (by have:=S2.size;omega) (by rw[hog2];decide)).trans hb1';have hb4:w4.heap[g]?=_:=(S4.block g (by have:=S2.size;have:=S3.size;omega) (by rw[hog2];decide)).trans hb3;obtain⟨i0,i1,i2,i3⟩:=box4_cells hb3;obtain⟨j0,j1,j2,j3⟩:=box4_cells hb4;rw[<-hnv];have HSB:=Lib.hid hsb;have HZ0:=Lib.hid hz0;have HSZ:=Lib.hid hsz1;have HW2:=Lib.hid hw2;have HW3:=Lib.hid hw3;have HW4:=Lib.hid hw4;have HW5:=Lib.hid hw5;have hmx:(if (v.st:Int)<(sb.size:Int) then (sb.size:Int) else (v.st:Int))=((max v.st s.1.length:Nat):Int):=by rw[hsl];split<;>omega
   have HMX:=Lib.hid hmx;have HMX3:Hid ((if v.st<sb.size then (sb.size:Int) else (v.st:Int))=((max v.st s.1.length:Nat):Int)):=by show _=_;rw[hsl];split<;>omega
   have HMY3:Hid ((if v.rd<s.2 then (s.2:Int) else (v.rd:Int))=((max v.rd s.2:Nat):Int)):=by show _=_;split<;>omega
   have HMX2:Hid (max (v.st:Int) (sb.size:Int)=((max v.st s.1.length:Nat):Int)):=by show _=_;rw[hsl];omega
   have hmy:(if (v.rd:Int)<(s.2:Int) then (s.2:Int) else (v.rd:Int))=((max v.rd s.2:Nat):Int):=by split<;>omega
   have HMY:=Lib.hid hmy;have HMY2:Hid (max (v.rd:Int) (s.2:Int)=((max v.rd s.2:Nat):Int)):=by show _=_;omega
   have hls2:∀ j,w2.frozen? ⟨ls,j,none⟩=false:=by
    obtain⟨gs',cs',hgs,-,-,-,-,-,hgf⟩:=M2.rs.pos (by show 0<v.tb.length;omega);simp only[Value.slice.injEq,Option.some.injEq,Addr.mk.injEq,and_true,true_and] at hgs;obtain⟨rfl,rfl⟩:=hgs;exact hgf
   have hlc2:∀ j,w2.cell? ⟨ls,j,none⟩=w1.cell? ⟨ls,j,none⟩:=fun j=>by
    have hb:=S2.block ls hgs1 id;unfold World.cell?;simp only[hb]
   have t0:=(hlc2 (q*4)).trans l0;have t1:=(hlc2 (q*4+1)).trans l1;have t2:=(hlc2 (q*4+2)).trans l2;have t3:=(hlc2 (q*4+3)).trans l3;have gf0:=hls2 (q*4);have gf1:=hls2 (q*4+1);have gf2:=hls2 (q*4+2);have gf3:=hls2 (q*4+3);generalize hX5:((max v.st s.1.length:Nat):Int)=X5 at *;generalize hX6:((max v.rd s.2:Nat):Int)=X6 at *;generalize v.st=vst at *;generalize v.rd=vrd at *;simp only at b4 b5 b6 b8 k5 k6;clear hsb hz0 hsz1 hw2 hw3 hw4 hw5 hmx hmy hls2 bf kf mf S2 S3 S4 S5 M1 M2 K3 K4 K5 R3 S1' hb1' hb2 hb3 hb4 hnv nl hsl4 hdq htb hgd hcm hF hog2 hol2 lls lvb2 ho2 hol hX5 hX6 S hsl HB1 hf0 hf1 hf2 hf3 af8 hsz1' hN hlc2 V D hM hgc hgf;go_enter Tryd.func17,Tryd.ntmps17;go_upto_region 1 with fail;rw[<-hw1,<-HG.out];clear hw1;go_upto_region 7 with fail;rw[HSZ.out,<-HW2.out];go_upto_region 10 with fail;go_region;rw[<-HW3.out];go_wp2_with fail;go_region
   first|rw[HMX3.out] | rw[HMX.out] | rw[HMX2.out]
   rw[<-HW4.out];go_wp2_with fail;go_region
   first|rw[HMY3.out] | rw[HMY.out] | rw[HMY2.out]
   rw[<-HW5.out];go_wp2
   go_end0
   exact⟨rfl,o2,HZ.out⟩
end Go.Proofs.YtpdfdhkdfkhfkaaDoor

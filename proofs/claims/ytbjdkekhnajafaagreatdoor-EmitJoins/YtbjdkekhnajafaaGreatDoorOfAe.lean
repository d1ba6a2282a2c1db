import Derived.Test.YtbjdkekhnajafaaGreatDoorTypX
set_option maxRecDepth 100000
set_option maxHeartbeats 8000000
namespace Go.Proofs.YtbjdkekhnajafaaGreatDoor
open Go.ChangeShapes Go.WideShapes Go.ChangeAt Go.RowKit
set_option linter.unusedVariables false
set_option linter.unusedSimpArgs false
theorem run_append_zero {P:Program}(w:World)(t ty e:TypeId)(i:TypeInfo)(ht:P.underlying t=some (.slice e))(hi:P.info? e=some i)(ao:Option Addr)(n cap:Nat)(x:Option Addr)(c:Nat)(hnc:n<=cap) :
  (Builtin.append_ #[t,t] ty #[.slice ao n cap,.slice x 0 c]).run P w=.ok (.slice ao n cap) w:=by
 have hl:∀ a:Addr,(loadCells a 0).run P w=.ok #[] w:=fun a=>by simp[loadCells,loadCellsFrom]
 cases x<;>cases ao<;>simp[Builtin.append_,run_underlying ht,sizeOf,typeInfo,hi,Builtin.lenOf,Builtin.firstCells,hnc,storeCells,hl]
theorem wpList_append_zero {P:Program}{w:World}{ops:Array Oper}{rest:List Oper}{op:Oper}{a:Act}{Q:Exit->Act->World->Prop}(hgd:op.guard=none)(s x:Operand)(t:TypeId)
  (ho:op.op=.call { callee:=.builtin .append,args:=#[s,x],argTypes:=#[t,t] }) (e:TypeId) (i:TypeInfo) (ht:P.underlying t=some (.slice e)) (hi:P.info? e=some i)
  (ao:Option Addr) (n cap:Nat) (y:Option Addr) (c:Nat) (hs:a.eval s=.slice ao n cap) (hx:a.eval x=.slice y 0 c) (hnc:n<=cap) (h:wpList P ops Q rest (a.put op.dst (.slice ao n cap)) w):wpList P ops Q (op::rest) a w:=by
 refine wpList_plain hgd fun _ hK=>?_;have hr:=run_append_zero (P:=P) w t op.type e i ht hi ao n cap y c hnc;unfold Oper.wp execOp;simp only[ho,resolve,invoke,builtin,Sem.run_bind,Sem.run_pure,Result.andThen_ok,List.map_toArray,List.map_cons,List.map_nil,hs,hx,hr];exact hK _ _ h
theorem Row.cap {w:World}{o:Nat->Nat}{i:Nat}{e:TypeId}{size:Nat}{n m cap:Nat}{ao:Option Addr}{xs:List Value}(h:Row w o i e size (.slice ao m cap) n xs):m=n/\n<=cap/\cap<=maxLen:=by
 rcases h.1.2 with ⟨hh,hk0⟩|⟨gx,cx,_,hh,_,_,hle,hm,_⟩
 ·simp only[Value.slice.injEq] at hh;obtain⟨_,rfl,rfl⟩:=hh;exact⟨hk0.symm,by omega,by unfold maxLen;omega⟩
 ·simp only[Value.slice.injEq] at hh;obtain⟨_,rfl,rfl⟩:=hh;exact⟨rfl,hle,hm⟩
theorem wpList_append_any {P:Program}{w:World}{ops:Array Oper}{rest:List Oper}{op:Oper}{a:Act}{Q:Exit->Act->World->Prop}(hgd:op.guard=none)(s x:Operand)(t:TypeId)
  (ho:op.op=.call { callee:=.builtin .append,args:=#[s,x],argTypes:=#[t,t] })
  (e:TypeId) (i:TypeInfo) (z:Value) (size bytes:Nat) (ht:P.underlying t=some (.slice e)) (hi:P.info? e=some i) (hz:i.zero=some z)
  (hsize:i.size=size) (hby:i.bytes=bytes) (hzs:z.cells.size=size) (hsz:0<size)
  (o:Nat->Nat) (lb:Nat) (v:Value) (n:Nat) (xs:List Value) (hs:a.eval s=v) (hrow:Row w o lb e size v n xs)
  (y:Option Addr) (m c:Nat) (news:List Value) (hx:a.eval x=.slice y m c) (hl:news.length=m*size) (hnews:0<m->∃ad,y=some ad/\∀ j u,news[j]?=some u->w.cell? (ad.add j)=some u) (h1:∀ u ∈ news,u.oneCell'=true)
  (h63:n+m<=maxLen) (hbytes:(n+m)*bytes<=140737488355328)
  (h:∀ ao cap w' o',Row w' o' lb e size (.slice ao (n+m) cap) (n+m) (xs++news)->Step (fun k=>k=lb) w o w' o'->wpList P ops Q rest (a.put op.dst (.slice ao (n+m) cap)) w'):wpList P ops Q (op::rest) a w:=by
 by_cases hm:0<m
 ·obtain⟨ad,rfl,hn⟩:=hnews hm;exact wpList_append_lab hgd s x t ho e i z size bytes ht hi hz hsize hby hzs hsz o lb v n xs hs hrow ad m c news hx hl hn h1 hm h63 hbytes fun g cap w' o' r st=>h _ _ _ _ r st
 ·obtain rfl:m=0:=by omega
  obtain⟨ao,cap,rfl⟩:=hrow.form;have hnil:news=[]:=List.eq_nil_of_length_eq_zero (by omega);subst hnil;refine wpList_append_zero hgd s x t ho e i ht hi ao n cap y c hs hx hrow.cap.2.1 ?_
  have:=h ao cap w o (by rw[List.append_nil];exact hrow) (Step.refl _ _ _)
  exact this
def NodeOk (N:Nat):Prop:=∀ (e:Ex) (ao:Option Addr) (cap:Nat) (bd:List (List UInt8)) (bv:Value) (w:World),e.kids.size<N->e.kids.len<=1000000000->e.kids.short->bd.length+e.kids.size<=1000000->Nms w bv bd->SlA w e.kids ao ->
 Calls Tryz.prog 51 #[exV e ao cap,bv] w (PostMn w (ofE e bd))
theorem Nms.news {w:World}{ao:Option Addr}{cap:Nat}{b:List (List UInt8)}(h:Nms w (.slice ao b.length cap) b):0<b.length->∃ad,ao=some ad/\∀ j u,(b.map fun x=>stv x)[j]?=some u->w.cell? (ad.add j)=some u:=by
 intro h0;obtain⟨ao',cap',hv,hc,h1|⟨g,h1,h2,h3,h4⟩⟩:=h
 ·rw[h1.1] at h0;simp at h0
 ·injection hv with hv1
  subst hv1;refine⟨_,h1,fun j u hj=>?_⟩;rw[List.getElem?_map] at hj;cases hb:b[j]? with
  | none=>rw[hb] at hj;cases hj
  | some t =>
   rw[hb] at hj;injection hj with hj
   subst hj;have h5:((⟨g,0,none⟩:Addr).add j)=⟨g,j,none⟩:=by simp only[Addr.add];split<;>simp_all
   rw[h5];exact h4 j t hb
theorem Nms.ofRowL {w:World}{o:Nat->Nat}{i g cap:Nat}{b:List (List UInt8)}{n:Nat}(h:Row w o i 9 1 (.slice (some ⟨g,0,none⟩) n cap) n (b.map fun x=>stv x))(hn:b.length=n)(h0:0<n):Nms w (.slice (some ⟨g,0,none⟩) n cap) b :=
 Nms.ofRow (o:=fun _=>1) ⟨h.1,fun _ _=>rfl⟩ hn h0
theorem ones_str (b:List (List UInt8)):∀ u ∈ b.map (fun x=>stv x),u.oneCell'=true:=fun u hu=>by
 obtain⟨x,_,rfl⟩:=List.mem_map.1 hu;rfl
theorem node_step {N:Nat}(IH:NodeOk N):NodeOk (N+1):=by
 intro e ao cap bd bv w hN hlen hsh hbd HN S;obtain⟨Y,hY⟩:∃Y,Y=ofE e bd:=⟨_,rfl⟩
 have HY:Hid (Y=ofE e bd):=hY;rw[<-hY];clear hY;obtain⟨ii,hii,hzi0,hzi1,hzi2⟩:=info_parts infoNode;obtain⟨is,his,hzs0,hzs1,hzs2⟩:=info_parts infoStrT;obtain⟨w0,hw0⟩:∃w0,w0=((w.alloc (.cells #[.int .i64 e.k,.int .i64 e.n,stv e.nm,.slice ao e.kids.len cap,.int .i64 e.a] 25)).alloc (.cells #[.int .i64 0,.int .i64 0,.string ⟨#[]⟩,.slice none 0 0] 34)).alloc (.cells #[.int .i64 e.k,.int .i64 e.n,.string ⟨#[]⟩,.slice none 0 0] 34):=⟨_,rfl⟩
 have B0:Below w.heap.size w w0:=by rw[hw0];exact(((Below.refl _ w).alloc (Nat.le_refl _) _).alloc (by simp) _).alloc (by simp;omega) _
 obtain⟨o0,ho0⟩:∃o0:Nat->Nat,o0=fun k=>if k=w.heap.size+1+1 then 1 else if k=w.heap.size+1 then 3 else 0:=⟨_,rfl⟩
 have E0:Blk w0 o0 0 w.heap.size (.cells #[.int .i64 e.k,.int .i64 e.n,stv e.nm,.slice ao e.kids.len cap,.int .i64 e.a] 25):=by
  refine⟨?_,by rw[ho0];simp only;rw[if_neg (by omega),if_neg (by omega)]⟩;rw[hw0];exact(Below.heap_alloc _ _ _ (by simp;omega)).trans ((Below.heap_alloc _ _ _ (by simp)).trans (heap_alloc_new w _))
 have Z0:Blk w0 o0 3 (w.heap.size+1) (.cells #[.int .i64 0,.int .i64 0,.string ⟨#[]⟩,.slice none 0 0] 34):=by
  refine⟨?_,by rw[ho0];simp⟩;rw[hw0];refine(Below.heap_alloc _ _ _ (by simp)).trans ?_
  have:=heap_alloc_new (w.alloc (.cells #[.int .i64 e.k,.int .i64 e.n,stv e.nm,.slice ao e.kids.len cap,.int .i64 e.a] 25)) (.cells #[.int .i64 0,.int .i64 0,.string ⟨#[]⟩,.slice none 0 0] 34)
  simpa using this
 have O0:Blk w0 o0 1 (w.heap.size+1+1) (.cells #[.int .i64 e.k,.int .i64 e.n,.string ⟨#[]⟩,.slice none 0 0] 34):=by
  refine⟨?_,by rw[ho0];simp⟩;rw[hw0]
  have:=heap_alloc_new ((w.alloc (.cells #[.int .i64 e.k,.int .i64 e.n,stv e.nm,.slice ao e.kids.len cap,.int .i64 e.a] 25)).alloc (.cells #[.int .i64 0,.int .i64 0,.string ⟨#[]⟩,.slice none 0 0] 34)) (.cells #[.int .i64 e.k,.int .i64 e.n,.string ⟨#[]⟩,.slice none 0 0] 34)
  simpa using this
 have L0:∀ k,k<w.heap.size->o0 k=0:=fun k hk=>by rw[ho0];simp only;rw[if_neg (by omega),if_neg (by omega)]
 have A0:=AccD.nil w0 o0 (fun _=>False) w.heap.size;have N0:=HN.below B0;obtain⟨ab,cb,hbv,hbc,hbx⟩:=HN;have HNM:Hid (Nms w bv bd):=⟨ab,cb,hbv,hbc,hbx⟩
 subst hbv;rw[exV_out];go_enter Tryz.func51,Tryz.ntmps51;go_upto_region 2 with fail;rw[<-hw0];clear hw0 ho0;obtain⟨n0,hn0⟩:∃n0,n0=w.heap.size:=⟨_,rfl⟩
 unfold PostMn;rw[<-hn0] at E0 Z0 O0 L0 A0 B0 ⊢;have HB:Hid (n0=w.heap.size):=hn0;clear hn0 hbx;obtain⟨p0,p1,p2,p3,p4,pf⟩:=box5 E0.1;have HNW:Hid (∀ W,Below n0 w W->Nms W (.slice ab bd.length cb) bd):=fun W b=>Nms.below HNM.out (by rw[<-HB.out];exact b);by_cases h4:e.k=4
 ·have hb4:(e.k==4)=true:=by simpa using h4
  have HY4:Hid (Y=⟨5,lastI bd e.nm 0 e.n,[],0,.nil⟩):=by show _=_;rw[HY.out];unfold ofE;rw[if_pos h4]
  have s1:Step (fun k=>k=1) w0 o0 (w0.setCell ⟨n0+1+1,0,none⟩ (.int .i64 5)) o0:=setStep _ w0 o0 ⟨n0+1+1,0,none⟩ _ O0.2;have O1:=O0.set 0 (.int .i64 5);have E1:=E0.step s1 (by decide);have Z1:=Z0.step s1 (by decide);have B1:=below_stepB B0 s1 (fun k hk=>by rw[L0 k hk];decide) (by rw[HB.out];exact Nat.le_refl _);have LH:Hid (∀ k,k<n0->o0 k=0):=L0;obtain⟨t0,t1,t2,t3,tf⟩:=box4 O0.1;clear s1 E0 Z0 O0 A0 B0 HY L0 N0;go_wp2;clear p0 p1 p2 p3 p4 pf t0 t1 t2 t3 tf;go_loopw [6] (fun v wr=>∃(j:Nat) (n1:Int),v=.int .i64 (j:Nat)/\j<=bd.length/\Hid (lastI (bd.drop j) e.nm j n1=lastI bd e.nm 0 e.n)/\Blk wr o0 0 n0 (.cells #[.int .i64 e.k,.int .i64 e.n,stv e.nm,.slice ao e.kids.len cap,.int .i64 e.a] 25)/\Blk wr o0 3 (n0+1) (.cells #[.int .i64 0,.int .i64 0,.string ⟨#[]⟩,.slice none 0 0] 34)/\Blk wr o0 1 (n0+1+1) (.cells #[.int .i64 5,.int .i64 n1,.string ⟨#[]⟩,.slice none 0 0] 34)/\Below n0 w wr) (fun v _=>bd.length-(intOf v).toNat)
  case atStart=>exact⟨0,e.n,by show _=Value.int .i64 ((0:Nat):Int);rfl,by omega,rfl,E1,Z1,O1,B1⟩
  case round =>
   clear E1 Z1 O1 B1;obtain⟨j,n1,rfl,hj,HL,E1,Z1,O1,B1⟩:=hrel;obtain⟨p0,p1,p2,p3,p4,pf⟩:=box5 E1.1;obtain⟨t0,t1,t2,t3,tf⟩:=box4 O1.1;by_cases hlt:j<bd.length
   ·have hx:bd[j]?=some bd[j]:=List.getElem?_eq_getElem hlt;have hdrop:bd.drop j=bd[j]::bd.drop (j+1):=List.drop_eq_getElem_cons hlt;obtain⟨_,_,hv,-,h1|⟨gb,h1,hgb,-,hcell⟩⟩:=HNW.out wr B1
    ·rw[h1.1] at hlt;simp at hlt
    injection hv with hv1
    subst hv1;subst h1;have hcj:=hcell j _ hx;have HLD:Hid (lastI (bd[j]::bd.drop (j+1)) e.nm j n1=lastI bd e.nm 0 e.n):=by show _=_;rw[<-hdrop];exact HL.out
    generalize bd[j]=x at hcj HLD;have hltI:(j:Int)<(bd.length:Int):=by omega
    have hjb:j<1000000:=by omega
    clear hx hdrop hcell HL;go_upto_region 8 with fail;by_cases hxe:x=e.nm
    ·have hbe:(x==e.nm)=true:=by simpa using hxe
     have HL2:Hid (lastI (bd.drop (j+1)) e.nm (j+1) (j:Int)=lastI bd e.nm 0 e.n):=by
      have h:lastI (bd.drop (j+1)) e.nm (j+1) (if x=e.nm then (j:Int) else n1)=lastI bd e.nm 0 e.n:=HLD.out;rw[if_pos hxe] at h;exact h
     clear hxe HLD
     go_quiet (fail)
     have bq:Below wr.heap.size wr (wr.drewN nq):=bdr (Below.refl _ _) nq;have sq:Step (fun _=>False) wr o0 (wr.drewN nq) o0:=(Step.refl _ wr o0).drewN nq;have E2:=E1.step sq id;have Z2:=Z1.step sq id;have O2:=O1.step sq id;have B2:=below_stepB B1 sq (fun _ _=>id) (by rw[HB.out];exact Nat.le_refl _);generalize wr.drewN nq=wq at *;clear E1 Z1 O1 B1 bq sq p0 p1 p2 p3 p4 pf t0 t1 t2 t3 tf hcj;obtain⟨t0,t1,t2,t3,tf⟩:=box4 O2.1;have s3:Step (fun k=>k=1) wq o0 (wq.setCell ⟨n0+1+1,1,none⟩ (.int .i64 (j:Nat))) o0:=setStep _ wq o0 ⟨n0+1+1,1,none⟩ _ O2.2;have O3:=O2.set 1 (.int .i64 (j:Nat));have E3:=E2.step s3 (by decide);have Z3:=Z2.step s3 (by decide);have B3:=below_stepB B2 s3 (fun k hk=>by rw[LH.out k hk];decide) (by rw[HB.out];exact Nat.le_refl _);clear s3 E2 Z2 O2 B2;go_wp2;go_roundw
     case rel=>(try ((repeat apply Exists.intro);refine⟨?_,rfl⟩));exact⟨j+1,_,by go_num,by omega,HL2,E3,Z3,O3,B3⟩
     case measure=>simp[intOf];omega
    ·have hbe:(x==e.nm)=false:=by simpa using hxe
     have HL2:Hid (lastI (bd.drop (j+1)) e.nm (j+1) n1=lastI bd e.nm 0 e.n):=by
      have h:lastI (bd.drop (j+1)) e.nm (j+1) (if x=e.nm then (j:Int) else n1)=lastI bd e.nm 0 e.n:=HLD.out;rw[if_neg hxe] at h;exact h
     clear hxe HLD
     go_quiet (fail)
     have sq:Step (fun _=>False) wr o0 (wr.drewN nq) o0:=(Step.refl _ wr o0).drewN nq;have E2:=E1.step sq id;have Z2:=Z1.step sq id;have O2:=O1.step sq id;have B2:=below_stepB B1 sq (fun _ _=>id) (by rw[HB.out];exact Nat.le_refl _);generalize wr.drewN nq=wq at *;clear E1 Z1 O1 B1 sq p0 p1 p2 p3 p4 pf t0 t1 t2 t3 tf hcj;go_wp2;go_roundw
     case rel=>(try ((repeat apply Exists.intro);refine⟨?_,rfl⟩));exact⟨j+1,_,by go_num,by omega,HL2,E2,Z2,O2,B2⟩
     case measure=>simp[intOf];omega
   ·have hltI:¬(j:Int)<(bd.length:Int):=by omega
    have HN1:Hid (n1=lastI bd e.nm 0 e.n):=by
     have h:=HL.out;rw[List.drop_eq_nil_of_le (by omega)] at h;exact h
    have HU:Hid (∃wz,wz=((((wr.setCell ⟨n0+1,0,none⟩ (.int .i64 5)).setCell ⟨n0+1,1,none⟩ (.int .i64 n1)).setCell ⟨n0+1,2,none⟩ (.string ⟨#[]⟩)).setCell ⟨n0+1,3,none⟩ (.slice none 0 0))/\wz.cell? ⟨n0+1,0,none⟩=some (.int .i64 5)/\wz.cell? ⟨n0+1,1,none⟩=some (.int .i64 n1)/\wz.cell? ⟨n0+1,2,none⟩=some (.string ⟨#[]⟩)/\wz.cell? ⟨n0+1,3,none⟩=some (.slice none 0 0)/\Below n0 w wz):=by
     obtain⟨u0,u1,u2,u3,-⟩:=box4 (set4k (b0:=.int .i64 5) (b1:=.int .i64 n1) (b2:=.string ⟨#[]⟩) (b3:=.slice none 0 0) Z1.1);exact⟨_,rfl,u0,u1,u2,u3,(((B1.setCell (p:=⟨n0+1,0,none⟩) (Nat.le_succ _) _).setCell (p:=⟨n0+1,1,none⟩) (Nat.le_succ _) _).setCell (p:=⟨n0+1,2,none⟩) (Nat.le_succ _) _).setCell (p:=⟨n0+1,3,none⟩) (Nat.le_succ _) _⟩
    obtain⟨z0,z1,z2,z3,zf⟩:=box4 Z1.1;clear E1 Z1 O1 B1 HL;go_wp2;obtain⟨wz,hwz,v0,v1,v2,v3,BZ⟩:=HU.out;rw[<-hwz];refine bodyPost_ret (v:=exN Y none 0) ?_ rfl ⟨none,0,rfl,by rw[HY4.out];exact SlN.nil _ _ _,by rw[<-HB.out];exact BZ⟩;rw[HY4.out,<-HN1.out];simp[results,Tryz.results51,go_sem,v0,v1,v2,v3,exN];rfl
 have hb4:(e.k==4)=false:=by simpa using h4
 obtain⟨onm,honm⟩:∃onm,onm=if e.k=23 then e.nm else ([]:List UInt8):=⟨_,rfl⟩
 obtain⟨F,hF⟩:∃F,F=ofF e.kids e.k e.nm 0 bd:=⟨_,rfl⟩
 have HYN:Hid (Y=⟨e.k,e.n,onm,0,F⟩):=by show _=_;rw[HY.out,honm,hF];unfold ofE;rw[if_neg h4]
 have HF:Hid (F=ofF e.kids e.k e.nm 0 bd):=hF;have HOM:Hid (onm=if e.k=23 then e.nm else ([]:List UInt8)):=honm;have LH:Hid (∀ k,k<n0->o0 k=0):=L0;clear honm hF HY h4 N0 L0;have hcase:((e.k==23)=true/\onm=e.nm)\/((e.k==23)=false/\onm=[]):=by
  by_cases h23:e.k=23
  ·exact .inl ⟨by simpa using h23,by rw[HOM.out,if_pos h23]⟩
  ·exact .inr ⟨by simpa using h23,by rw[HOM.out,if_neg h23]⟩
 rcases hcase with ⟨hb23,ho1⟩|⟨hb23,ho1⟩
 focus
  obtain⟨t0,t1,t2,t3,tf⟩:=box4 O0.1;have s1:Step (fun k=>k=1) w0 o0 (w0.setCell ⟨n0+1+1,2,none⟩ (stv e.nm)) o0:=setStep _ w0 o0 ⟨n0+1+1,2,none⟩ _ O0.2;have O1:Blk (w0.setCell ⟨n0+1+1,2,none⟩ (stv e.nm)) o0 1 (n0+1+1) (.cells #[.int .i64 e.k,.int .i64 e.n,stv onm,.slice none 0 0] 34):=by rw[ho1];exact O0.set 2 (stv e.nm)
  have E1:=E0.step s1 (by decide);have Z1:=Z0.step s1 (by decide);have A1:=A0.step s1 (by decide) (by decide);have B1:=below_stepB B0 s1 (fun k hk=>by rw[LH.out k hk];decide) (by rw[HB.out];exact Nat.le_refl _);clear s1 O0 E0 Z0 A0 B0 ho1;go_upto_region 13 with fail;generalize w0.setCell ⟨n0+1+1,2,none⟩ (stv e.nm)=w1 at *;clear t0 t1 t2 t3 tf
 rotate_left
 focus
  have O1:Blk w0 o0 1 (n0+1+1) (.cells #[.int .i64 e.k,.int .i64 e.n,stv onm,.slice none 0 0] 34):=by rw[ho1];exact O0
  have E1:=E0;have Z1:=Z0;have A1:=A0;have B1:=B0;clear O0 E0 Z0 A0 B0 ho1;go_upto_region 13 with fail
 all_goals (
  clear p0 p1 p2 p3 p4 pf HOM;go_wp2;go_loopw [7] (fun v wr=>∃(done r acc:Fs) (o:Nat->Nat) (va:Value),Hid (e.kids=done.app r)/\v=.int .i64 (done.len:Nat)/\Hid (acc.len=done.len)/\Hid (acc.app (ofF r e.k e.nm done.len bd)=F)/\Blk wr o 0 n0 (.cells #[.int .i64 e.k,.int .i64 e.n,stv e.nm,.slice ao e.kids.len cap,.int .i64 e.a] 25)/\Blk wr o 3 (n0+1) (.cells #[.int .i64 0,.int .i64 0,.string ⟨#[]⟩,.slice none 0 0] 34)/\Blk wr o 1 (n0+1+1) (.cells #[.int .i64 e.k,.int .i64 e.n,stv onm,va] 34)/\AccD wr o (fun _=>False) n0 acc va/\Hid (∀ k,k<n0->o k=0)/\Below n0 w wr) (fun v _=>e.kids.len-(intOf v).toNat)
  case atStart=>exact⟨.nil,e.kids,.nil,o0,.slice none 0 0,rfl,by show _=Value.int .i64 ((0:Nat):Int);rfl,rfl,HF.out.symm,E1,Z1,O1,A1,LH,B1⟩
  case round =>
   clear E1 Z1 O1 A1 B1 HF LH;obtain⟨done,r,acc,o,va,hk,rfl,hal,HA,E1,Z1,O1,A1,L1,B1⟩:=hrel;have hlk:e.kids.len=done.len+r.len:=by rw[hk.out,Fs.len_app]
   obtain⟨p0,p1,p2,p3,p4,pf⟩:=box5 E1.1;cases r using Fs.on with
   | nil =>
    have hl0:¬(done.len:Int)<(e.kids.len:Int):=by simp only[Fs.len] at hlk;omega
    have HDN:Hid (acc=F):=by
     show _=_;rw[<-HA.out];exact(app_nil' acc).symm
    obtain⟨ad,cd,rfl,SD⟩:=A1.sl;have HU:Hid (∃wz,wz=((((wr.setCell ⟨n0+1,0,none⟩ (.int .i64 e.k)).setCell ⟨n0+1,1,none⟩ (.int .i64 e.n)).setCell ⟨n0+1,2,none⟩ (stv onm)).setCell ⟨n0+1,3,none⟩ (.slice ad acc.len cd))/\wz.cell? ⟨n0+1,0,none⟩=some (.int .i64 e.k)/\wz.cell? ⟨n0+1,1,none⟩=some (.int .i64 e.n)/\wz.cell? ⟨n0+1,2,none⟩=some (stv onm)/\wz.cell? ⟨n0+1,3,none⟩=some (.slice ad acc.len cd)/\SlN wz (Nw n0) acc ad/\Below n0 w wz):=by
     obtain⟨u0,u1,u2,u3,-⟩:=box4 (set4k (b0:=.int .i64 e.k) (b1:=.int .i64 e.n) (b2:=stv onm) (b3:=.slice ad acc.len cd) Z1.1);refine⟨_,rfl,u0,u1,u2,u3,?_,(((B1.setCell (p:=⟨n0+1,0,none⟩) (Nat.le_succ _) _).setCell (p:=⟨n0+1,1,none⟩) (Nat.le_succ _) _).setCell (p:=⟨n0+1,2,none⟩) (Nat.le_succ _) _).setCell (p:=⟨n0+1,3,none⟩) (Nat.le_succ _) _⟩;exact SD.mono (fun i hp hl=>heap_set4 wr (n0+1) i _ _ _ _ (fun ee=>by
      have h2:=Z1.2;rw[<-ee] at h2;rcases hp.1 with h|h<;>omega)) (by simp) (fun i hp _=>by
       rcases hp.2 with h|h
       ·exact h.1.elim
       ·exact h)
    obtain⟨z0,z1,z2,z3,zf⟩:=box4 Z1.1;obtain⟨t0,t1,t2,t3,tf⟩:=box4 O1.1;clear E1 Z1 O1 A1 B1 SD HA hk hlk;go_wp2;obtain⟨wz,hwz,v0,v1,v2,v3,SZ,BZ⟩:=HU.out;rw[<-hwz];refine bodyPost_ret (v:=exN Y ad cd) ?_ rfl ⟨ad,cd,rfl,by rw[HYN.out,<-HDN.out,<-HB.out];exact SZ,by rw[<-HB.out];exact BZ⟩;rw[HYN.out,<-HDN.out];simp[results,Tryz.results51,go_sem,v0,v1,v2,v3,exN]
   | cons kk kn km ka kks kr =>
    have hl0:(done.len:Int)<(e.kids.len:Int):=by simp only[Fs.len] at hlk;omega
    have hl1:done.len<e.kids.len:=by omega
    have hsz:e.kids.size=done.size+(kks.size+kr.size+1):=by rw[hk.out,Fs.size_app];rfl
    have hsk:(Fs.cons kk kn km ka kks kr).short:=Fs.app_short (by rw[<-hk.out];exact hsh);have hk2:Hid (e.kids=(done.snoc ⟨kk,kn,km,ka,kks⟩).app kr):=by show e.kids=_;rw[hk.out];unfold Fs.snoc;rw[Fs.app_assoc];rfl
    have hl2:(done.len:Int)+1=((done.snoc ⟨kk,kn,km,ka,kks⟩).len:Nat):=by rw[Fs.len_snoc];rfl
    have HA2:Hid (acc.app (Fs.ex (ofE ⟨kk,kn,km,ka,kks⟩ (innB e.k e.nm done.len bd)) (ofF kr e.k e.nm (done.len+1) bd))=F):=by
     have h:=HA.out;rw[of_cons] at h;exact h
    have hbl:(innB e.k e.nm done.len bd).length<=bd.length+1:=by unfold innB;split<;>simp
    have HS1:Hid (∀ W,Below n0 w W->SlA W (done.app (.cons kk kn km ka kks kr)) ao):=fun W b=>by rw[<-hk.out];exact SlT.below S (by rw[<-HB.out];exact b)
    by_cases hA:e.k=21/\done.len=1
    focus
     have hk21:(e.k==21)=true:=by simpa using hA.1
     have hd1:((done.len:Int)==1)=true:=by simp;omega
     have HIN:Hid (innB e.k e.nm done.len bd=bd++[e.nm]):=by show _=_;unfold innB;rw[if_pos hA]
     have hnews:=Nms.news (HNW.out wr B1);have hone:=ones_str bd;have hE1:=E1.lt;clear hA hk hlk;go_wp2_with (first|(at_builtin;refine wpList_append_any rfl (.tmp 57) (.tmp 58) 40 rfl 9 is (.string ⟨#[]⟩) 1 16 Tryz.underlying40 his hzs0 hzs1 hzs2 rfl (by decide) o 7 _ 0 [] rfl (Row.nil _ _ _ _ _) ab bd.length cb (bd.map fun x=>stv x) rfl ?c1 hnews hone ?c3 ?c4 ?_)|go_in)
     case c1=>simp
     case c3=>unfold maxLen;omega
     case c4=>omega
     intro a2 c2 w2 o2 R2 s2;try simp only[Nat.zero_add,List.nil_append] at R2
     try simp only[Nat.zero_add,List.nil_append]
     have E2:=E1.step s2 (by decide);have Z2:=Z1.step s2 (by decide);have O2:=O1.step s2 (by decide);have A2:=A1.step s2 (by decide) (by decide);have L2:Hid (∀ k,k<n0->o2 k=0):=fun k hk=>(s2.lab k (by omega)).trans (L1.out k hk);have B2:=below_stepB B1 s2 (fun k hk=>by rw[L1.out k hk];decide) (by rw[HB.out];exact Nat.le_refl _);clear hnews hone s2 E1 Z1 O1 A1 L1 B1 p0 p1 p2 p3 p4 pf;obtain⟨p0,p1,p2,p3,p4,pf⟩:=box5 E2.1;have s3:=boxStep (fun _=>False) w2 o2 (.cells #[stv e.nm] 9);have R3:=R2.step s3 id;have E3:=E2.step s3 id;have Z3:=Z2.step s3 id;have O3:=O2.step s3 id;have A3:=A2.step s3 id id;have hE2:=E2.lt;have L3:Hid (∀ k,k<n0->newLab w2 o2 0 k=0):=fun k hk=>by rw[newLab_old (by omega)];exact L2.out k hk
     have B3:=below_stepB B2 s3 (fun _ _=>id) (by rw[HB.out];exact Nat.le_refl _);have hone:∀ u ∈ [stv e.nm],u.oneCell'=true:=by intro u hu;simp at hu;subst hu;rfl
     have q1:bd.length+1<=maxLen:=by unfold maxLen;omega
     have q2:(bd.length+1)*16<=140737488355328:=by omega
     clear s3 E2 Z2 O2 A2 L2 B2 R2;go_wp2_with (first|(at_builtin;refine wpList_append_lab rfl (.tmp 60) (.tmp 63) 40 rfl 9 is (.string ⟨#[]⟩) 1 16 Tryz.underlying40 his hzs0 hzs1 hzs2 rfl (by decide) (newLab w2 o2 0) 7 _ bd.length (bd.map fun x=>stv x) rfl R3 ⟨w2.heap.size,0,none⟩ 1 1 [stv e.nm] rfl rfl (new_one w2 _ _) hone (by decide) q1 q2 ?_)|go_in);intro g9 c9 w9 o9 r9 s9;have hml:(bd++[e.nm]).map (fun x=>stv x)=(bd.map fun x=>stv x)++[stv e.nm]:=by simp
     have N4:Nms w9 (.slice (some ⟨g9,0,none⟩) (bd.length+1) c9) (innB e.k e.nm done.len bd):=by rw[HIN.out];exact Nms.ofRowL (by rw[hml];exact r9) (by simp) (by omega)
     have E4:=E3.step s9 (by decide);have Z4:=Z3.step s9 (by decide);have O4:=O3.step s9 (by decide);have A4:=A3.step s9 (by decide) (by decide);have L4:Hid (∀ k,k<n0->o9 k=0):=fun k hk=>(s9.lab k (by simp;omega)).trans (L3.out k hk);have B4:=below_stepB B3 s9 (fun k hk=>by rw[L3.out k hk];decide) (by rw[HB.out];exact Nat.le_refl _);clear hml r9 s9 R3 E3 Z3 O3 A3 L3 B3 hone p0 p1 p2 p3 p4 pf HA;go_upto_region 21 with fail;generalize o9=o4 at *;generalize w9=w4 at *
    rotate_left
    focus
     have hgd:(e.k==21)=false\/((e.k==21)=true/\((done.len:Int)==1)=false):=by
      rcases Classical.em (e.k=21) with h21|h21
      ·exact .inr ⟨by simpa using h21,by have h3:done.len≠1:=fun h=>hA ⟨h21,h⟩;simp;omega⟩
      ·exact .inl (by simpa using h21)
     have HIN:Hid (innB e.k e.nm done.len bd=bd):=by show _=_;unfold innB;rw[if_neg hA]
     have N4:Nms wr (.slice ab bd.length cb) (innB e.k e.nm done.len bd):=by rw[HIN.out];exact HNW.out wr B1
     have E4:=E1;have Z4:=Z1;have O4:=O1;have A4:=A1;have L4:=L1;have B4:=B1;clear E1 Z1 O1 A1 L1 B1 hA hk hlk HA;rcases hgd with hk21|⟨hk21,hd1⟩
     all_goals (
      go_upto_region 21 with fail;clear p0 p1 p2 p3 p4 pf;generalize o=o4 at *;generalize wr=w4 at *)
    all_goals (
     obtain⟨p0,p1,p2,p3,p4,pf⟩:=box5 E4.1;obtain⟨b,off,ak,ck,hao,lb1,-,x0,x1,x2,x3,x4,SK⟩:=Sl.kidQ (HS1.out w4 B4);have hc:=IH ⟨kk,kn,km,ka,kks⟩ ak ck (innB e.k e.nm done.len bd) _ w4 (by show kks.size<N;omega) hsk.2.1 hsk.2.2.1 (by show _+kks.size<=1000000;omega) N4 SK;generalize ofE ⟨kk,kn,km,ka,kks⟩ (innB e.k e.nm done.len bd)=y at *;generalize (innB e.k e.nm done.len bd).length=nb at *;rw[exV_out] at hc;simp only at hc;subst hao;have hn0:n0<=w4.heap.size:=by have:=E4.lt;omega
     clear hsz hsk SK N4 hbl;go_wp2_with fail;refine hc.mono ?_;rintro x w6 ⟨ay,cy,rfl,S6,b6⟩;have s6:Step (fun _=>False) w4 o4 w6 (newLab w4 o4 0):=Below.toStepC b6;have T6:SlN w6 (PD (fun _=>False) n0 (newLab w4 o4 0)) y.kids ay:=S6.mono (fun _ _ _=>rfl) (Nat.le_refl _) (fun i hp hl=>⟨newLab_new hp,.inr (Nat.le_trans hn0 hp)⟩);have L6:Hid (∀ k,k<n0->newLab w4 o4 0 k=0):=fun k hk=>by rw[newLab_old (by omega)];exact L4.out k hk
     have E6:=E4.step s6 id;have Z6:=Z4.step s6 id;have O6:=O4.step s6 id;have A6:=A4.step s6 id id;have B6:=below_stepB B4 s6 (fun _ _=>id) (by rw[HB.out];exact Nat.le_refl _);generalize newLab w4 o4 0=o6 at *;clear hc S6 b6 s6 E4 Z4 O4 A4 B4 L4 x0 x1 x2 x3 x4 p0 p1 p2 p3 p4 pf;have s7:=boxStep (fun _=>False) w6 o6 (.cells #[.int .i64 y.k,.int .i64 y.n,stv y.nm,.slice ay y.kids.len cy] 34);have K7:=boxBlk w6 o6 #[.int .i64 y.k,.int .i64 y.n,stv y.nm,.slice ay y.kids.len cy] 34;have T7:=T6.labD s7 id;have hs6:n0<=w6.heap.size:=by have:=E6.lt;omega
     have L7:Hid (∀ k,k<n0->newLab w6 o6 0 k=0):=fun k hk=>by rw[newLab_old (by omega)];exact L6.out k hk
     have E7:=E6.step s7 id;have Z7:=Z6.step s7 id;have O7:=O6.step s7 id;have A7:=A6.step s7 id id;have B7:=below_stepB B6 s7 (fun _ _=>id) (by rw[HB.out];exact Nat.le_refl _);rw[exN_out];go_upto_region 22 with fail;generalize newLab w6 o6 0=o7 at *;generalize w6.alloc (.cells #[.int .i64 y.k,.int .i64 y.n,stv y.nm,.slice ay y.kids.len cy] 34)=w7 at *;generalize w6.heap.size=bk at *;clear s7 T6 E6 Z6 O6 A6 B6 L6;obtain⟨p0,p1,p2,p3,pf⟩:=box4 O7.1;obtain⟨q0,q1,q2,q3,qf⟩:=box4 K7.1;have s8:=boxStep (fun _=>False) w7 o7 (.cells #[.int .i64 y.k,.int .i64 y.n,stv y.nm,.slice ay y.kids.len cy] 34);have T8:=T7.labD s8 id;have hE7:=E7.lt;have L8:Hid (∀ k,k<n0->newLab w7 o7 0 k=0):=fun k hk=>by rw[newLab_old (by omega)];exact L7.out k hk
     have E8:=E7.step s8 id;have Z8:=Z7.step s8 id;have O8:=O7.step s8 id;have A8:=A7.step s8 id id;have B8:=below_stepB B7 s8 (fun _ _=>id) (by rw[HB.out];exact Nat.le_refl _);obtain⟨xs,R8,F8,-⟩:=A8;obtain⟨a8,c8,rfl⟩:=R8.form;have b1:acc.len+1<=maxLen:=by have:=hal.out;unfold maxLen;omega
     have b2:(acc.len+1)*56<=140737488355328:=by have:=hal.out;omega
     have hone:∀ u ∈ [Value.int .i64 y.k,.int .i64 y.n,stv y.nm,.slice ay y.kids.len cy],u.oneCell'=true:=by intro u hu;simp at hu;rcases hu with rfl|rfl|rfl|rfl<;>rfl
     have hw8:n0<=(w7.alloc (.cells #[.int .i64 y.k,.int .i64 y.n,stv y.nm,.slice ay y.kids.len cy] 34)).heap.size:=by simp;omega
     have hne2:∀ k,k<n0->newLab w7 o7 0 k≠2:=fun k hk=>by rw[L8.out k hk];decide
     clear E7 Z7 O7 A7 B7 L7 T7 s8;go_wp2_with (first|(at_builtin;refine wpList_append_lab rfl (.tmp 73) (.tmp 75) 32 rfl 34 ii _ 4 56 Tryz.underlying32 hii hzi0 hzi1 hzi2 rfl (by decide) (newLab w7 o7 0) 2 _ acc.len xs rfl R8 ⟨w7.heap.size,0,none⟩ 1 1 [Value.int .i64 y.k,.int .i64 y.n,stv y.nm,.slice ay y.kids.len cy] rfl rfl (new_cells_at w7 _ _) hone (by decide) b1 b2 ?_)|go_in);intro g9 c9 w9 o9 r9 s9;have A9:AccD w9 o9 (fun _=>False) n0 (acc.snoc y) (.slice (some ⟨g9,0,none⟩) (acc.len+1) c9):=AccD.push F8 T8 s9 hne2 hw8 r9;have E9:=E8.step s9 (by decide);have Z9:=Z8.step s9 (by decide);have O9:=O8.step s9 (by decide);have L9:Hid (∀ k,k<n0->o9 k=0):=fun k hk=>(s9.lab k (by omega)).trans (L8.out k hk);have B9:=below_stepB B8 s9 (fun k hk=>by rw[L8.out k hk];decide) (by rw[HB.out];exact Nat.le_refl _);have s10:Step (fun k=>k=1) w9 o9 (w9.setCell ⟨n0+1+1,3,none⟩ (.slice (some ⟨g9,0,none⟩) (acc.len+1) c9)) o9:=setStep _ w9 o9 ⟨n0+1+1,3,none⟩ _ O9.2;have A10:=A9.step s10 (by decide) (by decide);have E10:=E9.step s10 (by decide);have Z10:=Z9.step s10 (by decide);have O10:=O9.set 3 (.slice (some ⟨g9,0,none⟩) (acc.len+1) c9);have B10:=below_stepB B9 s10 (fun k hk=>by rw[L9.out k hk];decide) (by rw[HB.out];exact Nat.le_refl _);obtain⟨t0,t1,t2,t3,tf⟩:=box4 O9.1;have HA3:Hid ((acc.snoc y).app (ofF kr e.k e.nm (done.snoc ⟨kk,kn,km,ka,kks⟩).len bd)=F):=by
      show _=_;rw[Fs.len_snoc,<-HA2.out];unfold Fs.snoc;rw[Fs.app_assoc];rfl
     have hal2:Hid ((acc.snoc y).len=(done.snoc ⟨kk,kn,km,ka,kks⟩).len):=by show _=_;rw[Fs.len_snoc,Fs.len_snoc,hal.out]
     clear A9 E9 Z9 O9 B9 s10 E8 Z8 O8 B8 L8 T8 R8 F8 r9 s9 p0 p1 p2 p3 pf q0 q1 q2 q3 qf K7 HA2 hne2;go_wp2;go_roundw
     case rel=>(try ((repeat apply Exists.intro);refine⟨?_,rfl⟩));exact⟨_,kr,_,o9,_,hk2,by rw[<-hl2],hal2,HA3,E10,Z10,O10,A10,L9,B10⟩
     case measure=>simp[intOf];omega))
theorem node_ok:∀ N,NodeOk N -- 51
 | 0=>fun e ao cap bd bv w h=>absurd h (Nat.not_lt_zero _)
 | N+1=>node_step (node_ok N)
end Go.Proofs.YtbjdkekhnajafaaGreatDoor

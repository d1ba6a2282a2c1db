import Derived.Test.YtaihhnlfcndecaaGreatDoorPrgH
set_option maxRecDepth 100000
set_option maxHeartbeats 8000000
namespace Go.Proofs.YtaihhnlfcndecaaGreatDoor
open Go.ChangeShapes Go.WideShapes Go.ChangeAt Go.RowKit Go.Maps
set_option linter.unusedVariables false
set_option linter.unusedSimpArgs false
def plV (e:Ex)(ao:Option Addr)(cap:Nat)(cv:Value):Value:=.agg #[.int .i64 e.k,.int .i64 e.n,stv e.nm,.slice ao e.kids.len cap,cv]
theorem plV_out (e:Ex)(ao:Option Addr)(cap:Nat)(cv:Value):plV e ao cap cv=.agg #[.int .i64 e.k,.int .i64 e.n,stv e.nm,.slice ao e.kids.len cap,cv]:=rfl
theorem any_nl (cells:List Int):cells.any (fun c=>decide (c<0)||decide (4<c))=cells.any nlB:=rfl
theorem nl_false {cells:List Int}(h:cells.any nlB=false):∀ c,c ∈ cells->0<=c/\c<=4:=by
 intro c hc;rw[List.any_eq_false] at h
 have:=h c hc
 simp[nlB] at this;omega
theorem kindP_nl {cells:List Int}{e:Ex}(h:cells.any nlB=true):kindP cells e=0:=by
 unfold kindP;rw[if_pos (.inr (by rw[any_nl];exact h))]
theorem kindP_rg {cells:List Int}{e:Ex}(h1:cells.length<=256)(h2:cells.any nlB=false):kindP cells e=(match rgE cells e 0 0 (0,fun _=>none) with|none=>0|some (_,k)=>if k=4 then 0 else k):=by
 rw[kindP_knd h1 (nl_false h2)];unfold kndD;cases rgE cells e 0 0 (0,fun _=>none) with
 | none=>rfl
 | some z =>
  obtain⟨s,k⟩:=z;simp only;by_cases h4:k=4
  ·rw[if_pos h4,if_pos h4]
  ·rw[if_neg h4,if_neg h4]
theorem read_c (e:Ex)(ao:Option Addr)(cap:Nat)(cv:Value)(cells:List Int)(w:World)(hf:FitN e)(hW:Wd w)(hc:InA w cv cells)(hcl:cells.length<=1000000000)(S:SnA w e.kids ao) :
  Calls Tryz.prog 74 #[plV e ao cap cv] w fun x w'=>(∃v,x=.returned (.tuple #[v,.bool (decide (kindP cells e≠0))]))/\Below w.heap.size w w':=by
 obtain⟨W,hZ⟩:∃W,W=decide (kindP cells e≠0):=⟨_,rfl⟩
 rw[<-hZ];have HW:Hid (W=decide (kindP cells e≠0)):=hZ;clear hZ;obtain⟨ac,cc,hcv,hcx⟩:=hc;have hc:InA w cv cells:=⟨ac,cc,hcv,hcx⟩
 subst hcv;clear hcx;have hG:=hW.lt;have B0:Below w.heap.size w (w.alloc (.cells #[.int .i64 e.k,.int .i64 e.n,stv e.nm,.slice ao e.kids.len cap,.slice ac cells.length cc] 37)):=(Below.refl _ w).alloc (Nat.le_refl _) _;have E0:(w.alloc (.cells #[.int .i64 e.k,.int .i64 e.n,stv e.nm,.slice ao e.kids.len cap,.slice ac cells.length cc] 37)).heap[w.heap.size]?=some (.cells #[.int .i64 e.k,.int .i64 e.n,stv e.nm,.slice ao e.kids.len cap,.slice ac cells.length cc] 37):=heap_alloc_new w _;have S0:SlN (w.alloc (.cells #[.int .i64 e.k,.int .i64 e.n,stv e.nm,.slice ao e.kids.len cap,.slice ac cells.length cc] 37)) (Lt0 w.heap.size) e.kids ao:=S.mono (fun i _ hl=>B0.block i hl) B0.size (fun k _ hl=>hl);have N0:Inw (w.alloc (.cells #[.int .i64 e.k,.int .i64 e.n,stv e.nm,.slice ao e.kids.len cap,.slice ac cells.length cc] 37)) (Lt0 w.heap.size) (.slice ac cells.length cc) cells:=hc.mono (fun i _ hl=>B0.block i hl) B0.size (fun k _ hl=>hl);have I0:=hc.below B0;have W0:=hW.below B0;clear S hc hW;rw[plV_out];go_enter Tryz.func74,Tryz.ntmps74;go_upto_region 1 with fail;generalize w.alloc (.cells #[.int .i64 e.k,.int .i64 e.n,stv e.nm,.slice ao e.kids.len cap,.slice ac cells.length cc] 37)=w0 at *;obtain⟨n0,hn0⟩:∃n0,n0=w.heap.size:=⟨_,rfl⟩
 rw[<-hn0] at E0 S0 N0 hG B0 ⊢;have HN:Hid (n0=w.heap.size):=hn0;clear hn0;obtain⟨p0,p1,p2,p3,p4,pf⟩:=box5 E0;by_cases h256:256<cells.length
 ·have hI:(256:Int)<(cells.length:Int):=by omega
  have HZ:Hid (W=false):=by show W=_;rw[HW.out,kindP_big h256];rfl
  clear HW S0 N0 I0 W0 E0;go_wp2;refine bodyPost_ret (v:=.tuple #[.nilIface,.bool false]) (by simp[results,Tryz.results74,go_sem]) rfl ⟨⟨_,by rw[HZ.out]⟩,?_⟩;rw[<-HN.out];exact B0
 have hI:¬(256:Int)<(cells.length:Int):=by omega
 have c1:=containsfunc_c w0 _ cells I0 hcl;go_wp2_with fail;refine c1.mono ?_;rintro z w1 ⟨rfl,rfl⟩;cases hnl:cells.any nlB with
 | true =>
  have HZ:Hid (W=false):=by show W=_;rw[HW.out,kindP_nl hnl];rfl
  clear HW S0 N0 I0 W0 E0 c1;go_wp2;refine bodyPost_ret (v:=.tuple #[.nilIface,.bool false]) (by simp[results,Tryz.results74,go_sem]) rfl ⟨⟨_,by rw[HZ.out]⟩,?_⟩;rw[<-HN.out];exact B0
 | false =>
 have HW2:Hid (W=decide ((match rgE cells e 0 0 (0,fun _=>none) with|none=>0|some (_,k)=>if k=4 then 0 else k)≠0)):=by show W=_;rw[HW.out,kindP_rg (by omega) hnl]
 clear HW c1;have hmm:=@run_makeMap Tryz.prog;obtain⟨w2,hw2⟩:∃w2,w2=(w1.alloc (.map #[] 0)).alloc (.cells #[.slice ac cells.length cc,.map (some w1.heap.size),.int .i64 0] 142):=⟨_,rfl⟩
 have b2:Below w1.heap.size w1 w2:=by rw[hw2];exact((Below.refl _ w1).alloc (Nat.le_refl _) _).alloc (by simp) _
 have M2:MpN w2 (Lt0 n0) w1.heap.size 0 (fun _=>none):=by
  rw[hw2];exact(MpN.made w1 (Lt0 n0)).mono (Below.heap_alloc _ _ _ (by simp)) (fun k _ hl=>Below.heap_alloc _ _ _ hl) (by simp)
 have X2:w2.heap[w1.heap.size+1]?=some (.cells #[.slice ac cells.length cc,.map (some w1.heap.size),.int .i64 0] 142 (0,0)):=by
  rw[hw2]
  have:=heap_alloc_new (w1.alloc (.map #[] 0)) (.cells #[.slice ac cells.length cc,.map (some w1.heap.size),.int .i64 0] 142)
  simpa using this
 have R2:RD w2 n0 (w1.heap.size+1) w1.heap.size (.slice ac cells.length cc) 0 (0,fun _=>none):=⟨X2,⟨0,Nat.le_refl _,M2⟩,by show 0<=4096;omega,fun i y h=>by cases h⟩
 have hlt:=lt_of_block E0;have c4:=partp_ok (e.kids.size+1) e ao cap n0 (w1.heap.size+1) w1.heap.size (.slice ac cells.length cc) cells 0 0 (0,fun _=>none) 0 w2 (by omega) hf (by omega) (by omega) (by omega) (by omega) (by omega) (by omega) hG (W0.below b2) R2 (N0.below b2) (S0.belowP b2);rw[exN_out] at c4;have E2:=(b2.block _ hlt).trans E0;have hmx:n0<=w1.heap.size:=by omega
 have hsz2:w1.heap.size+2<=w2.heap.size:=by have:=lt_of_block X2;omega
 clear E0 S0 N0 I0 W0 M2 X2 R2;go_upto_region 4 with fail;rw[<-hw2];clear hw2 hmm p0 p1 p2 p3 p4 pf;obtain⟨p0,p1,p2,p3,p4,pf⟩:=box5 E2;have hpos:Hid (∀ s k,rgE cells e 0 0 (0,fun _=>none)=some (s,k)->k≠0):=fun s k h=>rgE_pos h;generalize rgE cells e 0 0 (0,fun _=>none)=rr at *;go_wp2_with fail;refine c4.mono ?_;rintro z w3 ⟨⟨v,rfl,hv⟩,-,K3⟩;have B3:Below n0 w w3:=(B0.trans (b2.mono hmx)).trans (K3.below (by omega) hmx (by omega));clear c4 p0 p1 p2 p3 p4 pf E2 K3 b2;cases rr with
 | none =>
  have HZ:Hid (W=false):=by show W=_;rw[HW2.out];rfl
  clear HW2 hv;simp only[Option.isSome_none];go_wp2;refine bodyPost_ret (v:=.tuple #[.nilIface,.bool false]) (by simp[results,Tryz.results74,go_sem]) rfl ⟨⟨_,by rw[HZ.out]⟩,?_⟩;rw[<-HN.out];exact B3
 | some zz =>
  obtain⟨s2,k⟩:=zz;obtain⟨ty,vx,rfl,he⟩:=hv s2 k rfl;have c5:=fun w=>kindof_c k w;simp only[Option.isSome_some];clear hv;go_wp2_with fail;refine(c5 _).mono ?_;rintro z w4 ⟨rfl,b4⟩;have B4:Below n0 w w4:=B3.trans (b4.mono (by have h1:=B3.size;have h2:=HN.out;omega));by_cases h4:k=4
  ·have hb4:(k==4)=true:=by simpa using h4
   have HZ:Hid (W=false):=by show W=_;rw[HW2.out];simp[h4]
   clear HW2 h4 c5;go_wp2;refine bodyPost_ret (v:=.tuple #[.nilIface,.bool false]) (by simp[results,Tryz.results74,go_sem]) rfl ⟨⟨_,by rw[HZ.out]⟩,?_⟩;rw[<-HN.out];exact B4
  ·have hb4:(k==4)=false:=by simpa using h4
   have HZ:Hid (W=true):=by show W=_;rw[HW2.out];simp[h4,hpos.out s2 k rfl]
   clear HW2 h4 c5;go_wp2;refine bodyPost_ret (v:=.tuple #[.iface ty vx,.bool true]) (by simp[results,Tryz.results74,go_sem]) rfl ⟨⟨_,by rw[HZ.out]⟩,?_⟩;rw[<-HN.out];exact B4
theorem rightp_c (e:Ex)(ao:Option Addr)(cap:Nat)(cv:Value)(cells:List Int)(w:World)(hf:FitN e)(hW:Wd w)(hc:InA w cv cells)(hcl:cells.length<=1000000000)(S:SnA w e.kids ao) :
  Calls Tryz.prog 39 #[plV e ao cap cv] w fun x w'=>x=.returned (.bool (decide (kindP cells e≠0)))/\Below w.heap.size w w':=by
 obtain⟨ac,cc,hcv,hcx⟩:=hc;have hc:InA w cv cells:=⟨ac,cc,hcv,hcx⟩
 subst hcv;clear hcx;have B0:Below w.heap.size w (w.alloc (.cells #[.int .i64 e.k,.int .i64 e.n,stv e.nm,.slice ao e.kids.len cap,.slice ac cells.length cc] 37)):=(Below.refl _ w).alloc (Nat.le_refl _) _;have c1:=read_c e ao cap _ cells _ hf (hW.below B0) (hc.below B0) hcl (SnA.below S B0);generalize decide (kindP cells e≠0)=W at *;rw[plV_out] at c1 ⊢;go_enter Tryz.func39,Tryz.ntmps39;go_wp2_with fail;refine c1.mono ?_;rintro z w1 ⟨⟨v,rfl⟩,b1⟩;have B1:Below w.heap.size w w1:=B0.trans (b1.mono B0.size);clear c1 b1;go_wp2;go_ret;exact⟨rfl,B1⟩
open Go.ChangeShapes Go.WideShapes Go.ChangeAt Go.RowKit
theorem Row.madeZ {w:World}{o:Nat->Nat}{lb:Nat}{t:TypeId}{X:Array Value}(hX:X=#[]):Row (w.alloc (.cells X t)) (newLab w o lb) lb t 1 (.slice (some ⟨w.heap.size,0,none⟩) 0 0) 0 []:=by
 subst hX;exact Row.madeS (X:=#[]) rfl rfl (by unfold maxLen;omega)
theorem clonei_c (w:World)(v:Value)(xs:List Int)(o:Nat->Nat)(h:InA w v xs)(hl:xs.length<=100000) :
  Calls Tryz.prog 41 #[v] w fun e w'=>∃v' o',e=.returned v'/\Row w' o' 5 3 1 v' xs.length (xs.map (Value.int .i64))/\Step (fun k=>k=5) w o w' o':=by
 obtain⟨ii,hii,hzi0,hzi1,hzi2⟩:=info_parts infoInt;have hnil:∀ (W:World) (a:Option Addr) (n c:Nat),(binOp .eql 35 (.slice a n c) (.slice none 0 0)).run Tryz.prog W=.ok (.bool a.isNone) W:=fun W a n c=>Lib.run_eql_slice_nil W _ _ a n c 0 0 Tryz.underlying35;obtain⟨ao,cap,rfl,hx⟩:=h;by_cases h0:xs=[]
 ·subst h0;cases ao with
  | none =>
   clear hx;go_enter Tryz.func41,Tryz.ntmps41;go_wp2;go_ret;exact⟨_,o,rfl,Row.nil _ _ _ _ _,Step.refl _ _ _⟩
  | some a =>
   clear hx;go_enter Tryz.func41,Tryz.ntmps41;go_wp2;go_ret;exact⟨_,newLab w o 5,rfl,Row.madeZ rfl,newStep _ w o 5 _⟩
 ·rcases hx with hx|⟨b,off,rfl,-,hlt,hcell⟩
  ·exact absurd hx h0
  have hpos:xs.length≠0:=fun h=>h0 (List.length_eq_zero_iff.1 h);have s0:=newStep (fun _=>False) w o 5 (.cells #[] 3);have R0:Row (w.alloc (.cells #[] 3)) (newLab w o 5) 5 3 1 (.slice (some ⟨w.heap.size,0,none⟩) 0 0) 0 []:=Row.madeZ rfl;have hnews:∀ j u,(xs.map (Value.int .i64))[j]?=some u->(w.alloc (.cells #[] 3)).cell? ((⟨b,off,none⟩:Addr).add j)=some u:=fun j u hj=>by
   rw[List.getElem?_map] at hj;cases hb:xs[j]? with
   | none=>rw[hb] at hj;cases hj
   | some t =>
    rw[hb] at hj;injection hj with hj
    subst hj;have h2:(w.alloc (.cells #[] 3)).cell? ⟨b,off+j,none⟩=w.cell? ⟨b,off+j,none⟩:=World.cell?_of_block (a:=⟨b,off+j,none⟩) (Below.heap_alloc w _ b hlt);have h3:((⟨b,off,none⟩:Addr).add j)=⟨b,off+j,none⟩:=by simp[Addr.add];try exact Eq.symm
    rw[h3,h2];exact hcell j t hb
  have hone:∀ u ∈ xs.map (Value.int .i64),u.oneCell'=true:=fun u hu=>by
   obtain⟨x,_,rfl⟩:=List.mem_map.1 hu;rfl
  clear hcell;go_enter Tryz.func41,Tryz.ntmps41;go_wp2_with (first|(at_builtin;refine wpList_append_lab rfl (.tmp 5) (.tmp 6) 35 rfl 3 ii (.int .i64 0) 1 8 Tryz.underlying35 hii hzi0 hzi1 hzi2 rfl (by decide) _ 5 _ 0 [] rfl R0 ⟨b,off,none⟩ xs.length cap (xs.map (Value.int .i64)) rfl ?c1 hnews hone (by omega) ?c3 ?c4 ?_)|go_in)
  case c1=>simp
  case c3=>unfold maxLen;omega
  case c4=>omega
  intro g7 c7 w7 o7 r7 s7;have HS:Hid (Step (fun k=>k=5) w o w7 o7/\Row w7 o7 5 3 1 (.slice (some ⟨g7,0,none⟩) (0+xs.length) c7) xs.length (xs.map (Value.int .i64))):=by
   refine⟨(s0.mono fun _ h=>h.elim).trans s7,?_⟩;simp only[Nat.zero_add] at r7 ⊢;exact r7
  clear s7 r7 s0 R0 hnews hone;go_wp2;go_ret;exact⟨_,o7,rfl,by simpa using HS.out.2,HS.out.1⟩
theorem run_append_zero {P:Program}(w:World)(t ty e:TypeId)(i:TypeInfo)(ht:P.underlying t=some (.slice e))(hi:P.info? e=some i)(ao:Option Addr)(n cap:Nat)(x:Option Addr)(c:Nat)(hnc:n<=cap) :
  (Builtin.append_ #[t,t] ty #[.slice ao n cap,.slice x 0 c]).run P w=.ok (.slice ao n cap) w:=by
 have hl:∀ a:Addr,(loadCells a 0).run P w=.ok #[] w:=fun a=>by simp[loadCells,loadCellsFrom]
 cases x<;>cases ao<;>simp[Builtin.append_,run_underlying ht,sizeOf,typeInfo,hi,Builtin.lenOf,Builtin.firstCells,hnc,storeCells,hl]
theorem wpList_append_zero {P:Program}{w:World}{ops:Array Oper}{rest:List Oper}{op:Oper}{a:Act}{Q:Exit->Act->World->Prop}(hgd:op.guard=none)(s x:Operand)(t:TypeId)
  (ho:op.op=.call { callee:=.builtin .append,args:=#[s,x],argTypes:=#[t,t] }) (e:TypeId) (i:TypeInfo) (ht:P.underlying t=some (.slice e)) (hi:P.info? e=some i)
  (ao:Option Addr) (n cap:Nat) (y:Option Addr) (c:Nat) (hs:a.eval s=.slice ao n cap) (hx:a.eval x=.slice y 0 c) (hnc:n<=cap) (h:wpList P ops Q rest (a.put op.dst (.slice ao n cap)) w):wpList P ops Q (op::rest) a w:=by
 refine wpList_plain hgd fun _ hK=>?_;have hr:=run_append_zero (P:=P) w t op.type e i ht hi ao n cap y c hnc;unfold Oper.wp execOp;simp only[ho,resolve,invoke,builtin,Sem.run_bind,Sem.run_pure,Result.andThen_ok,List.map_toArray,List.map_cons,List.map_nil,hs,hx,hr];exact hK _ _ h
theorem Row.cap {w:World}{o:Nat->Nat}{i:Nat}{e:TypeId}{size:Nat}{n m cap:Nat}{ao:Option Addr}{xs:List Value}(h:Row w o i e size (.slice ao m cap) n xs):m=n/\n<=cap/\cap<=maxLen:=by
 rcases h.1.2 with ⟨hh,hk0⟩|⟨gx,cx,_,hh,_,_,hle,hm,_⟩
 ·simp only[Value.slice.injEq] at hh;obtain⟨_,rfl,rfl⟩:=hh;exact⟨hk0.symm,by omega,by unfold maxLen;omega⟩
 ·simp only[Value.slice.injEq] at hh;obtain⟨_,rfl,rfl⟩:=hh;exact⟨rfl,hle,hm⟩
theorem wpList_append_any {P:Program}{w:World}{ops:Array Oper}{rest:List Oper}{op:Oper}{a:Act}{Q:Exit->Act->World->Prop}(hgd:op.guard=none)(s x:Operand)(t:TypeId)
  (ho:op.op=.call { callee:=.builtin .append,args:=#[s,x],argTypes:=#[t,t] })
  (e:TypeId) (i:TypeInfo) (z:Value) (size bytes:Nat) (ht:P.underlying t=some (.slice e)) (hi:P.info? e=some i) (hz:i.zero=some z)
  (hsize:i.size=size) (hby:i.bytes=bytes) (hzs:z.cells.size=size) (hsz:0<size)
  (o:Nat->Nat) (lb:Nat) (v:Value) (n:Nat) (xs:List Value) (hs:a.eval s=v) (hrow:Row w o lb e size v n xs)
  (y:Option Addr) (m c:Nat) (news:List Value) (hx:a.eval x=.slice y m c) (hl:news.length=m*size) (hnews:0<m->∃ad,y=some ad/\∀ j u,news[j]?=some u->w.cell? (ad.add j)=some u) (h1:∀ u ∈ news,u.oneCell'=true)
  (h63:n+m<=maxLen) (hbytes:(n+m)*bytes<=140737488355328)
  (h:∀ ao cap w' o',Row w' o' lb e size (.slice ao (n+m) cap) (n+m) (xs++news)->Step (fun k=>k=lb) w o w' o'->wpList P ops Q rest (a.put op.dst (.slice ao (n+m) cap)) w'):wpList P ops Q (op::rest) a w:=by
 by_cases hm:0<m
 ·obtain⟨ad,rfl,hn⟩:=hnews hm;exact wpList_append_lab hgd s x t ho e i z size bytes ht hi hz hsize hby hzs hsz o lb v n xs hs hrow ad m c news hx hl hn h1 hm h63 hbytes fun g cap w' o' r st=>h _ _ _ _ r st
 ·obtain rfl:m=0:=by omega
  obtain⟨ao,cap,rfl⟩:=hrow.form;have hnil:news=[]:=List.eq_nil_of_length_eq_zero (by omega);subst hnil;refine wpList_append_zero hgd s x t ho e i ht hi ao n cap y c hs hx hrow.cap.2.1 ?_
  have:=h ao cap w o (by rw[List.append_nil];exact hrow) (Step.refl _ _ _)
  exact this
def LnI (w:World)(P:Nat->Prop)(v:Value)(cells:List Int):Prop :=
 ∃g c,v=.slice (some ⟨g,0,none⟩) cells.length c/\P g/\g<w.heap.size/\cells.length+1<=c/\c<=maxLen/\(∀ j x,cells[j]?=some x->w.cell? ⟨g,j,none⟩=some (.int .i64 x))/\w.cell? ⟨g,cells.length,none⟩=some (.int .i64 (-7))
theorem LnI.mono {w w':World}{P Q:Nat->Prop}{v:Value}{xs:List Int}(hb:∀ k,P k->k<w.heap.size->w'.heap[k]?=w.heap[k]?)(hs:w.heap.size<=w'.heap.size)(hq:∀ k,P k->k<w.heap.size->Q k)(h:LnI w P v xs):LnI w' Q v xs:=by
 obtain⟨g,c,rfl,hp,hlt,h1,h2,h3,h4⟩:=h;exact⟨g,c,rfl,hq g hp hlt,Nat.lt_of_lt_of_le hlt hs,h1,h2,fun j u hu=>(World.cell?_of_block (a:=⟨g,j,none⟩) (hb g hp hlt)).trans (h3 j u hu),(World.cell?_of_block (a:=⟨g,xs.length,none⟩) (hb g hp hlt)).trans h4⟩
theorem LnI.below {P:Nat->Prop}{w w':World}{v:Value}{xs:List Int}(h:LnI w P v xs)(b:Below w.heap.size w w'):LnI w' P v xs:=h.mono (fun i _ hl=>b.block i hl) b.size (fun _ h _=>h)
theorem LnI.inA {w:World}{P:Nat->Prop}{v:Value}{xs:List Int}(h:LnI w P v xs):InA w v xs:=by
 obtain⟨g,c,rfl,hp,hlt,h1,h2,h3,h4⟩:=h;exact⟨_,c,rfl,.inr ⟨g,0,rfl,trivial,hlt,fun j x hj=>by rw[Nat.zero_add];exact h3 j x hj⟩⟩
theorem InA.news {w:World}{ao:Option Addr}{cap:Nat}{xs:List Int}(h:xs=[]\/∃b off,ao=some ⟨b,off,none⟩/\True/\b<w.heap.size/\∀ j x,xs[j]?=some x->w.cell? ⟨b,off+j,none⟩=some (.int .i64 x)):0<xs.length->∃ad,ao=some ad/\∀ j u,(xs.map (Value.int .i64))[j]?=some u->w.cell? (ad.add j)=some u:=by
 intro h0;rcases h with h|⟨b,off,rfl,-,hlt,hcell⟩
 ·rw[h] at h0;simp at h0
 ·refine⟨_,rfl,fun j u hj=>?_⟩;rw[List.getElem?_map] at hj;cases hb:xs[j]? with
  | none=>rw[hb] at hj;cases hj
  | some t =>
   rw[hb] at hj;injection hj with hj
   subst hj;have h3:((⟨b,off,none⟩:Addr).add j)=⟨b,off+j,none⟩:=by simp only[Addr.add];split<;>simp_all
   rw[h3];exact hcell j t hb
theorem InA.ofRow {w:World}{o:Nat->Nat}{i cap:Nat}{ao:Option Addr}{xs:List Int}(r:Row w o i 3 1 (.slice ao xs.length cap) xs.length (xs.map (Value.int .i64))):InA w (.slice ao xs.length cap) xs:=by
 refine⟨ao,cap,rfl,?_⟩;rcases Nat.eq_zero_or_pos xs.length with h0|h0
 ·exact .inl (List.length_eq_zero_iff.1 h0)
 ·obtain⟨g',cap',hv,-,-,-,hlt,hc,-⟩:=r.pos h0;injection hv with hv1
  refine .inr ⟨g',0,hv1,trivial,hlt,fun j x hj=>?_⟩;have hjl:j<xs.length:=(List.getElem?_eq_some_iff.1 hj).1;rw[Nat.zero_add,hc j (by omega),List.getElem?_map,hj];rfl
theorem ones_int (xs:List Int):∀ u ∈ xs.map (Value.int .i64),u.oneCell'=true:=fun u hu=>by
 obtain⟨x,_,rfl⟩:=List.mem_map.1 hu;rfl
theorem news_below {w w':World}{x:Value}{t:TypeId}(b:Below (w.alloc (.cells #[x] t)).drew.heap.size (w.alloc (.cells #[x] t)).drew w'):∀ j u,[x][j]?=some u->w'.cell? ((⟨w.heap.size,0,none⟩:Addr).add j)=some u:=fun j u hu=>by
 have h1:=new_cells_at w [x] t j u hu;have h3:((⟨w.heap.size,0,none⟩:Addr).add j)=⟨w.heap.size,j,none⟩:=by simp only[Addr.add];split<;>simp_all
 rw[h3] at h1 ⊢;exact(b.cell (p:=⟨w.heap.size,j,none⟩) (by show w.heap.size<(w.alloc _).heap.size;simp)).trans h1
theorem lp_app {n b5 c5:Nat}{w w1 W w9:World}{o1 o9:Nat->Nat}{f:Fs}(B1:Below n w w1)(hn:n<=w.heap.size)(L1:∀ k,k<n->o1 k=0)(BW:Below w1.heap.size w1 W)(S5:Spn W (Nw w1.heap.size) f b5 c5)(s9:Step (fun k=>k=5) W (newLab w1 o1 0) w9 o9) :
  Below n w w9/\Spn w9 (Nw w1.heap.size) f b5 c5/\∀ k,k<w1.heap.size->o1 k≠5->w9.heap[k]?=w1.heap[k]?:=by
 have h1:=B1.size;refine⟨below_stepB (B1.trans (BW.mono (by omega))) s9 (fun k hk=>by rw[newLab_old (by omega),L1 k hk];decide) hn,S5.mono (fun k hp hl=>s9.block k hl (by rw[newLab_new hp];decide)) s9.size (fun k hp _=>hp),fun k hk ho=>(s9.block k (Nat.lt_of_lt_of_le hk BW.size) (by rw[newLab_old hk];exact ho)).trans (BW.block k hk)⟩
theorem lp_row {P:Nat->Prop}{w:World}{o:Nat->Nat}{g c:Nat}{cells:List Int}(r:Row w o 5 3 1 (.slice (some ⟨g,0,none⟩) (cells.length+1) c) (cells.length+1) (cells.map (Value.int .i64)++[.int .i64 (-7)]))(hg:P g):LnI w P (.slice (some ⟨g,0,none⟩) cells.length c) cells/\cells.length<=c:=by
 obtain⟨g',cap',hv,hl,hc1,hc2,hlt,hc,_⟩:=r.pos (by omega);simp only[Value.slice.injEq,Option.some.injEq,Addr.mk.injEq,true_and,and_true] at hv;obtain⟨rfl,rfl⟩:=hv;refine⟨⟨g,c,rfl,hg,hlt,hc1,hc2,fun j x hj=>?_,?_⟩,by omega⟩
 ·have hjl:j<cells.length:=(List.getElem?_eq_some_iff.1 hj).1;rw[hc j (by omega),List.getElem?_append_left (by simpa using hjl),List.getElem?_map,hj];rfl
 ·rw[hc cells.length (by omega),List.getElem?_append_right (by simp)];simp
theorem lp_ne {z g c m:Nat}{w1 W w9:World}{o1 o9:Nat->Nat}{xs:List Value}(hz:o1 z=0)(hzl:z<w1.heap.size)(r:Row w9 o9 5 3 1 (.slice (some ⟨g,0,none⟩) m c) m xs)(s:Step (fun k=>k=5) W (newLab w1 o1 0) w9 o9)(hW:w1.heap.size<=W.heap.size):g≠z:=by
 intro h;have h1:o9 g=5:=r.2 g rfl;rw[h,s.lab z (by omega),newLab_old hzl,hz] at h1;cases h1
theorem lp_own {n g c m:Nat}{w1 W w9:World}{o1 o9:Nat->Nat}{xs:List Value}(L:∀ k,k<n->o1 k=0)(r:Row w9 o9 5 3 1 (.slice (some ⟨g,0,none⟩) m c) m xs)(s:Step (fun k=>k=5) W (newLab w1 o1 0) w9 o9)(hW:n<=W.heap.size)(hn:n<=w1.heap.size):n<=g:=by
 rcases Nat.lt_or_ge g n with h|h
 ·have h1:o9 g=5:=r.2 g rfl;rw[s.lab g (by omega),newLab_old (by omega),L g h] at h1;cases h1
 ·exact h
theorem set5_keep {w:World}{n0:Nat}{a0 a1 a2 a3 a4 c0 c1 c2 c3 c4:Value}(h:w.cell? ⟨n0,0,none⟩=some c0/\w.cell? ⟨n0,1,none⟩=some c1/\w.cell? ⟨n0,2,none⟩=some c2/\w.cell? ⟨n0,3,none⟩=some c3/\w.cell? ⟨n0,4,none⟩=some c4):(((((w.setCell ⟨n0+1,0,none⟩ a0).setCell ⟨n0+1,1,none⟩ a1).setCell ⟨n0+1,2,none⟩ a2).setCell ⟨n0+1,3,none⟩ a3).setCell ⟨n0+1,4,none⟩ a4).cell? ⟨n0,0,none⟩=some c0/\(((((w.setCell ⟨n0+1,0,none⟩ a0).setCell ⟨n0+1,1,none⟩ a1).setCell ⟨n0+1,2,none⟩ a2).setCell ⟨n0+1,3,none⟩ a3).setCell ⟨n0+1,4,none⟩ a4).cell? ⟨n0,1,none⟩=some c1/\(((((w.setCell ⟨n0+1,0,none⟩ a0).setCell ⟨n0+1,1,none⟩ a1).setCell ⟨n0+1,2,none⟩ a2).setCell ⟨n0+1,3,none⟩ a3).setCell ⟨n0+1,4,none⟩ a4).cell? ⟨n0,2,none⟩=some c2/\(((((w.setCell ⟨n0+1,0,none⟩ a0).setCell ⟨n0+1,1,none⟩ a1).setCell ⟨n0+1,2,none⟩ a2).setCell ⟨n0+1,3,none⟩ a3).setCell ⟨n0+1,4,none⟩ a4).cell? ⟨n0,3,none⟩=some c3/\(((((w.setCell ⟨n0+1,0,none⟩ a0).setCell ⟨n0+1,1,none⟩ a1).setCell ⟨n0+1,2,none⟩ a2).setCell ⟨n0+1,3,none⟩ a3).setCell ⟨n0+1,4,none⟩ a4).cell? ⟨n0,4,none⟩=some c4:=by
 have hb:=heap_set5 w (n0+1) n0 a0 a1 a2 a3 a4 (by omega);obtain⟨h0,h1,h2,h3,h4⟩:=h;exact⟨(World.cell?_of_block (a:=⟨n0,0,none⟩) hb).trans h0,(World.cell?_of_block (a:=⟨n0,1,none⟩) hb).trans h1,(World.cell?_of_block (a:=⟨n0,2,none⟩) hb).trans h2,(World.cell?_of_block (a:=⟨n0,3,none⟩) hb).trans h3,(World.cell?_of_block (a:=⟨n0,4,none⟩) hb).trans h4⟩
def PostLp (w:World)(e:Ex)(cells:List Int)(x:Ending)(w':World):Prop:=∃b cp v,x=.returned (plV e (some ⟨b,0,none⟩) cp v)/\Spn w' (Nw w.heap.size) e.kids b cp/\LnI w' (Nw w.heap.size) v cells/\Below w.heap.size w w'
theorem lentplan_c (e:Ex)(ao:Option Addr)(cap:Nat)(cv:Value)(cells:List Int)(w:World)(hlen:e.kids.len<=1000000000)(hsh:e.kids.short)(hc:InA w cv cells)(hcl:cells.length<=100000)(S:SnA w e.kids ao) :
  Calls Tryz.prog 17 #[plV e ao cap cv] w (PostLp w e cells):=by
 obtain⟨ii,hii,hzi0,hzi1,hzi2⟩:=info_parts infoInt;obtain⟨ac,cc,rfl,hx⟩:=hc;obtain⟨w0,hw0⟩:∃w0,w0=(w.alloc (.cells #[.int .i64 e.k,.int .i64 e.n,stv e.nm,.slice ao e.kids.len cap,.slice ac cells.length cc] 37)).alloc (.cells #[.int .i64 0,.int .i64 0,.string ⟨#[]⟩,.slice none 0 0,.slice none 0 0] 37):=⟨_,rfl⟩
 have B0:Below w.heap.size w w0:=by rw[hw0];exact((Below.refl _ w).alloc (Nat.le_refl _) _).alloc (by simp) _
 have P0:w0.heap[w.heap.size]?=some (.cells #[.int .i64 e.k,.int .i64 e.n,stv e.nm,.slice ao e.kids.len cap,.slice ac cells.length cc] 37 (0,0)):=by
  rw[hw0];exact(Below.heap_alloc _ _ _ (by simp)).trans (heap_alloc_new w _)
 have Z0:w0.heap[w.heap.size+1]?=some (.cells #[.int .i64 0,.int .i64 0,.string ⟨#[]⟩,.slice none 0 0,.slice none 0 0] 37 (0,0)):=by
  rw[hw0]
  have:=heap_alloc_new (w.alloc (.cells #[.int .i64 e.k,.int .i64 e.n,stv e.nm,.slice ao e.kids.len cap,.slice ac cells.length cc] 37)) (.cells #[.int .i64 0,.int .i64 0,.string ⟨#[]⟩,.slice none 0 0,.slice none 0 0] 37)
  simpa using this
 have S0:=SnA.below S B0;obtain⟨_,_,hx1,hx0⟩:=Inw.below (P:=fun _=>True) ⟨ac,cc,rfl,hx⟩ B0;injection hx1 with hx1 hx2 hx3
 subst hx1;subst hx3;have hnews:=InA.news (cap:=cc) hx0;have hone:=ones_int cells;clear hx hx0 hx2;rw[plV_out];go_enter Tryz.func17,Tryz.ntmps17;go_upto_region 1 with fail;rw[<-hw0];clear hw0;obtain⟨n0,hn0⟩:∃n0,n0=w.heap.size:=⟨_,rfl⟩
 unfold PostLp;rw[<-hn0] at P0 Z0 B0 ⊢;have HB:Hid (n0=w.heap.size):=hn0;clear hn0;obtain⟨p0,p1,p2,p3,p4,pf⟩:=box5 P0;go_wp2_with (first|(at_builtin;refine wpList_append_any rfl (.tmp 4) (.tmp 6) 35 rfl 3 ii (.int .i64 0) 1 8 Tryz.underlying35 hii hzi0 hzi1 hzi2 rfl (by decide) (fun _=>0) 5 _ 0 [] rfl (Row.nil _ _ _ _ _) ac cells.length cc (cells.map (Value.int .i64)) rfl ?c1 hnews hone ?c3 ?c4 ?_)|go_in)
 case c1=>simp
 case c3=>unfold maxLen;omega
 case c4=>omega
 intro a1 c1 w1 o1 R1 s1;try simp only[Nat.zero_add,List.nil_append] at R1
 try simp only[Nat.zero_add,List.nil_append]
 have b1:Below w0.heap.size w0 w1:=s1.below (fun k hk=>by decide);have hs1:=b1.size;have P1:=(b1.block _ (lt_of_block P0)).trans P0;have Z1:=(b1.block _ (lt_of_block Z0)).trans Z0;have hzl:=lt_of_block Z1;have oP:o1 n0=0:=s1.lab n0 (lt_of_block P0);have oZ:o1 (n0+1)=0:=s1.lab (n0+1) (lt_of_block Z0);have B1:Below n0 w w1:=B0.trans (b1.mono (by have:=lt_of_block P0;omega));have L1:Hid (∀ k,k<n0->o1 k=0):=fun k hk=>s1.lab k (by have:=lt_of_block P0;omega);have S1:=SnA.below S0 b1;clear p0 p1 p2 p3 p4 pf P0 Z0 B0 S0 s1 b1 hnews hone S hs1;go_upto_region 3 with fail;obtain⟨p0,p1,p2,p3,p4,pf⟩:=box5 P1;have Bd:Below w1.heap.size w1 w1.drew:=⟨rfl,rfl,rfl,Nat.le_refl _,fun _ _=>rfl⟩
 have Bda:=Bd.alloc (Nat.le_refl _) (.cells #[.int .i64 (-7)] 3);have hcL:=fun (wx:World) (hx:SnA wx e.kids ao)=>lentn_ok (e.kids.size+1) e ao cap wx (by omega) hlen hsh hx;simp only[exN_out] at hcL;have hone:∀ u ∈ [Value.int .i64 (-7)],u.oneCell'=true:=by intro u hu;simp at hu;subst hu;rfl
 have q1:cells.length+1<=maxLen:=by unfold maxLen;omega
 have q2:(cells.length+1)*8<=140737488355328:=by omega
 have hgo:Hid (∀ k,k<n0->o1 k≠5):=fun k hk=>by rw[L1.out k hk];decide
 have hpl:n0<w1.heap.size:=lt_of_block P1;have k0:w1.cell? ⟨n0,0,none⟩=some (.int .i64 e.k)/\w1.cell? ⟨n0,1,none⟩=some (.int .i64 e.n)/\w1.cell? ⟨n0,2,none⟩=some (stv e.nm)/\w1.cell? ⟨n0,3,none⟩=some (.slice ao e.kids.len cap)/\w1.cell? ⟨n0,4,none⟩=some (.slice ac cells.length cc):=⟨p0,p1,p2,p3,p4⟩
 have k1:w1.drew.cell? ⟨n0,0,none⟩=some (.int .i64 e.k)/\w1.drew.cell? ⟨n0,1,none⟩=some (.int .i64 e.n)/\w1.drew.cell? ⟨n0,2,none⟩=some (stv e.nm)/\w1.drew.cell? ⟨n0,3,none⟩=some (.slice ao e.kids.len cap)/\w1.drew.cell? ⟨n0,4,none⟩=some (.slice ac cells.length cc):=k0;have kA:(w1.alloc (.cells #[.int .i64 (-7)] 3)).drew.cell? ⟨n0,0,none⟩=some (.int .i64 e.k)/\(w1.alloc (.cells #[.int .i64 (-7)] 3)).drew.cell? ⟨n0,1,none⟩=some (.int .i64 e.n)/\(w1.alloc (.cells #[.int .i64 (-7)] 3)).drew.cell? ⟨n0,2,none⟩=some (stv e.nm)/\(w1.alloc (.cells #[.int .i64 (-7)] 3)).drew.cell? ⟨n0,3,none⟩=some (.slice ao e.kids.len cap)/\(w1.alloc (.cells #[.int .i64 (-7)] 3)).drew.cell? ⟨n0,4,none⟩=some (.slice ac cells.length cc):=⟨(Bda.cell (p:=⟨n0,0,none⟩) hpl).trans p0,(Bda.cell (p:=⟨n0,1,none⟩) hpl).trans p1,(Bda.cell (p:=⟨n0,2,none⟩) hpl).trans p2,(Bda.cell (p:=⟨n0,3,none⟩) hpl).trans p3,(Bda.cell (p:=⟨n0,4,none⟩) hpl).trans p4⟩
 go_region_held3 (fun wx=>wx.cell? ⟨n0,0,none⟩=some (.int .i64 e.k)/\wx.cell? ⟨n0,1,none⟩=some (.int .i64 e.n)/\wx.cell? ⟨n0,2,none⟩=some (stv e.nm)/\wx.cell? ⟨n0,3,none⟩=some (.slice ao e.kids.len cap)/\wx.cell? ⟨n0,4,none⟩=some (.slice ac cells.length cc)) (first|(with_reducible exact k9)|(with_reducible exact set5_keep k9)|(with_reducible exact k3)|(with_reducible exact k2)|(with_reducible exact kA)|(with_reducible exact k1)|(with_reducible exact k0)) ((first|(go_at_call 38;refine(hcL _ (S1.belowP (by first|exact Bd|exact Bda))).mono ?_;rintro x w5 ⟨b5,c5,rfl,S5',B5⟩;have Bw:Below w1.heap.size w1 w5:=(by first|exact Bd.trans (B5.mono (by simp))|exact Bda.trans (B5.mono (by simp)));have S5:Spn w5 (Nw w1.heap.size) e.kids b5 c5:=S5'.mono (fun _ _ _=>rfl) (Nat.le_refl _) (fun k hp _=>Nat.le_trans (by simp) hp);have k2:w5.cell? ⟨n0,0,none⟩=some (.int .i64 e.k)/\w5.cell? ⟨n0,1,none⟩=some (.int .i64 e.n)/\w5.cell? ⟨n0,2,none⟩=some (stv e.nm)/\w5.cell? ⟨n0,3,none⟩=some (.slice ao e.kids.len cap)/\w5.cell? ⟨n0,4,none⟩=some (.slice ac cells.length cc):=⟨(Bw.cell (p:=⟨n0,0,none⟩) hpl).trans p0,(Bw.cell (p:=⟨n0,1,none⟩) hpl).trans p1,(Bw.cell (p:=⟨n0,2,none⟩) hpl).trans p2,(Bw.cell (p:=⟨n0,3,none⟩) hpl).trans p3,(Bw.cell (p:=⟨n0,4,none⟩) hpl).trans p4⟩;have Bw5:=Bw.alloc Bw.size (.cells #[.int .i64 (-7)] 3);have k3:(w5.alloc (.cells #[.int .i64 (-7)] 3)).cell? ⟨n0,0,none⟩=some (.int .i64 e.k)/\(w5.alloc (.cells #[.int .i64 (-7)] 3)).cell? ⟨n0,1,none⟩=some (.int .i64 e.n)/\(w5.alloc (.cells #[.int .i64 (-7)] 3)).cell? ⟨n0,2,none⟩=some (stv e.nm)/\(w5.alloc (.cells #[.int .i64 (-7)] 3)).cell? ⟨n0,3,none⟩=some (.slice ao e.kids.len cap)/\(w5.alloc (.cells #[.int .i64 (-7)] 3)).cell? ⟨n0,4,none⟩=some (.slice ac cells.length cc):=⟨(Bw5.cell (p:=⟨n0,0,none⟩) hpl).trans p0,(Bw5.cell (p:=⟨n0,1,none⟩) hpl).trans p1,(Bw5.cell (p:=⟨n0,2,none⟩) hpl).trans p2,(Bw5.cell (p:=⟨n0,3,none⟩) hpl).trans p3,(Bw5.cell (p:=⟨n0,4,none⟩) hpl).trans p4⟩;rw[exN_out])|(refine step_append_lab rfl (.tmp 11) (.tmp 12) 35 rfl 3 ii (.int .i64 0) 1 8 Tryz.underlying35 hii hzi0 hzi1 hzi2 rfl (by decide) (newLab w1 o1 0) 5 _ cells.length (cells.map (Value.int .i64)) (by simp[Act.eval,Act.put]) ((R1.step (Below.toStepC (I:=fun _=>False) Bw) id).step (((Step.refl (fun _=>False) w5 (newLab w1 o1 0))).alloc _) id) ⟨w5.heap.size,0,none⟩ 1 1 [.int .i64 (-7)] (by simp[Act.eval,Act.put]) rfl (new_one_at (by simp) _ _) hone (by decide) q1 q2 ?_;intro g9 c9 w9 o9 r9 s9;have FZ:=lp_app B1 (by rw[HB.out];exact Nat.le_refl _) L1.out (Bw.alloc Bw.size (.cells #[.int .i64 (-7)] 3)) (S5.mono (fun i _ hl=>Below.heap_alloc w5 _ i hl) (by simp) (fun _ h _=>h)) s9;have P9:=(FZ.2.2 n0 hpl (by rw[oP];decide)).trans P1;have k9:w9.cell? ⟨n0,0,none⟩=some (.int .i64 e.k)/\w9.cell? ⟨n0,1,none⟩=some (.int .i64 e.n)/\w9.cell? ⟨n0,2,none⟩=some (stv e.nm)/\w9.cell? ⟨n0,3,none⟩=some (.slice ao e.kids.len cap)/\w9.cell? ⟨n0,4,none⟩=some (.slice ac cells.length cc):=⟨(box5 P9).1,(box5 P9).2.1,(box5 P9).2.2.1,(box5 P9).2.2.2.1,(box5 P9).2.2.2.2.1⟩;have hg9:n0<=g9:=lp_own L1.out r9 s9 (by have:=Bw.size;simp;omega) (by have:=hpl;omega);have hgz:g9≠n0+1:=lp_ne oZ hzl r9 s9 (by have:=Bw.size;simp;omega);have RZ:=lp_row (P:=fun k=>n0<=k/\k≠n0+1) r9 ⟨hg9,hgz⟩;have hc9:=RZ.2;have Z9:=(FZ.2.2 (n0+1) hzl (by rw[oZ];decide)).trans Z1;obtain⟨z0,z1,z2,z3,z4,zf⟩:=box5 Z9)|(refine step_append_lab rfl (.tmp 11) (.tmp 12) 35 rfl 3 ii (.int .i64 0) 1 8 Tryz.underlying35 hii hzi0 hzi1 hzi2 rfl (by decide) (newLab w1 o1 0) 5 _ cells.length (cells.map (Value.int .i64)) (by simp[Act.eval,Act.put]) (R1.step (Below.toStepC (I:=fun _=>False) Bw) id) ⟨w1.heap.size,0,none⟩ 1 1 [.int .i64 (-7)] (by simp[Act.eval,Act.put]) rfl (news_below B5) hone (by decide) q1 q2 ?_;intro g9 c9 w9 o9 r9 s9;have FZ:=lp_app B1 (by rw[HB.out];exact Nat.le_refl _) L1.out Bw S5 s9;have P9:=(FZ.2.2 n0 hpl (by rw[oP];decide)).trans P1;have k9:w9.cell? ⟨n0,0,none⟩=some (.int .i64 e.k)/\w9.cell? ⟨n0,1,none⟩=some (.int .i64 e.n)/\w9.cell? ⟨n0,2,none⟩=some (stv e.nm)/\w9.cell? ⟨n0,3,none⟩=some (.slice ao e.kids.len cap)/\w9.cell? ⟨n0,4,none⟩=some (.slice ac cells.length cc):=⟨(box5 P9).1,(box5 P9).2.1,(box5 P9).2.2.1,(box5 P9).2.2.2.1,(box5 P9).2.2.2.2.1⟩;have hg9:n0<=g9:=lp_own L1.out r9 s9 (by have:=Bw.size;omega) (by have:=hpl;omega);have hgz:g9≠n0+1:=lp_ne oZ hzl r9 s9 (by have:=Bw.size;omega);have RZ:=lp_row (P:=fun k=>n0<=k/\k≠n0+1) r9 ⟨hg9,hgz⟩;have hc9:=RZ.2;have Z9:=(FZ.2.2 (n0+1) hzl (by rw[oZ];decide)).trans Z1;obtain⟨z0,z1,z2,z3,z4,zf⟩:=box5 Z9)))
 all_goals (
  have HU:Hid (∃wz,wz=(((((w9.setCell ⟨n0+1,0,none⟩ (.int .i64 e.k)).setCell ⟨n0+1,1,none⟩ (.int .i64 e.n)).setCell ⟨n0+1,2,none⟩ (stv e.nm)).setCell ⟨n0+1,3,none⟩ (.slice (some ⟨b5,0,none⟩) e.kids.len c5)).setCell ⟨n0+1,4,none⟩ (.slice (some ⟨g9,0,none⟩) cells.length c9))/\wz.cell? ⟨n0+1,0,none⟩=some (.int .i64 e.k)/\wz.cell? ⟨n0+1,1,none⟩=some (.int .i64 e.n)/\wz.cell? ⟨n0+1,2,none⟩=some (stv e.nm)/\wz.cell? ⟨n0+1,3,none⟩=some (.slice (some ⟨b5,0,none⟩) e.kids.len c5)/\wz.cell? ⟨n0+1,4,none⟩=some (.slice (some ⟨g9,0,none⟩) cells.length c9)/\Spn wz (Nw n0) e.kids b5 c5/\LnI wz (Nw n0) (.slice (some ⟨g9,0,none⟩) cells.length c9) cells/\Below n0 w wz):=by
   obtain⟨u0,u1,u2,u3,u4,-⟩:=box5 (set5k (.int .i64 e.k) (.int .i64 e.n) (stv e.nm) (.slice (some ⟨b5,0,none⟩) e.kids.len c5) (.slice (some ⟨g9,0,none⟩) cells.length c9) Z9);refine⟨_,rfl,u0,u1,u2,u3,u4,FZ.2.1.mono (fun k hp _=>heap_set5 w9 (n0+1) k _ _ _ _ _ (by have hp:w1.heap.size<=k:=hp;omega)) (by simp) (fun k hp _=>by have hp:w1.heap.size<=k:=hp;show n0<=k;omega),RZ.1.mono (fun k hp _=>heap_set5 w9 (n0+1) k _ _ _ _ _ hp.2) (by simp) (fun k hp _=>hp.1),?_⟩;exact((((FZ.1.setCell (p:=⟨n0+1,0,none⟩) (Nat.le_succ _) _).setCell (p:=⟨n0+1,1,none⟩) (Nat.le_succ _) _).setCell (p:=⟨n0+1,2,none⟩) (Nat.le_succ _) _).setCell (p:=⟨n0+1,3,none⟩) (Nat.le_succ _) _).setCell (p:=⟨n0+1,4,none⟩) (Nat.le_succ _) _
  clear FZ RZ;go_wp2;obtain⟨wz,hwz,v0,v1,v2,v3,v4,SZ,LZ,BZ⟩:=HU.out;rw[<-hwz];exact bodyPost_ret (v:=plV e (some ⟨b5,0,none⟩) c5 (.slice (some ⟨g9,0,none⟩) cells.length c9)) (by simp[results,Tryz.results17,go_sem,v0,v1,v2,v3,v4,plV]) rfl ⟨b5,c5,_,rfl,by rw[<-HB.out];exact SZ,by rw[<-HB.out];exact LZ,by rw[<-HB.out];exact BZ⟩)
theorem numbers_c (w:World)(v1 v2:Value)(xs ys:List Int)(h1:InA w v1 xs)(h2:InA w v2 ys)(hl:xs.length<=1000000000) :
  Calls Tryz.prog 43 #[v1,v2] w fun x w'=>x=.returned (.bool (decide (xs=ys)))/\Below w.heap.size w w':=by
 obtain⟨W,hW⟩:∃W,W=decide (xs=ys):=⟨_,rfl⟩
 rw[<-hW];have HW:Hid (W=decide (xs=ys)):=hW;clear hW;obtain⟨a1,c1,rfl,h1⟩:=h1;obtain⟨a2,c2,rfl,h2⟩:=h2;go_enter Tryz.func43,Tryz.ntmps43;by_cases hll:xs.length=ys.length
 ·have hI:((xs.length:Int) != (ys.length:Int))=false:=by rw[hll];simp
  have HL:Hid (xs.length=ys.length):=hll;clear hll;go_wp2;go_loopw [5] (fun v wr=>∃k:Nat,k<=xs.length/\v=.int .i64 (k:Nat)/\Hid (∀ j,j<k->xs[j]?=ys[j]?)/\Below w.heap.size w wr) (fun v _=>xs.length-(intOf v).toNat)
  case atStart=>exact⟨0,by omega,by go_num,fun j hj=>absurd hj (Nat.not_lt_zero _),Below.refl _ _⟩
  case round =>
   obtain⟨k,hk,rfl,hno,B1⟩:=hrel;by_cases hlt:k<xs.length
   ·have hy:k<ys.length:=by have:=HL.out;omega
    have hx1:xs[k]?=some xs[k]:=List.getElem?_eq_getElem hlt;have hy1:ys[k]?=some ys[k]:=List.getElem?_eq_getElem hy;rcases h1 with rfl|⟨g1,o1,rfl,-,hg1,hc1⟩
    ·simp at hlt
    rcases h2 with rfl|⟨g2,o2,rfl,-,hg2,hc2⟩
    ·simp at hy
    have x1:=(B1.cell (p:=⟨g1,o1+k,none⟩) hg1).trans (hc1 k _ hx1);have y1:=(B1.cell (p:=⟨g2,o2+k,none⟩) hg2).trans (hc2 k _ hy1);generalize xs[k]=x at x1 hx1;generalize ys[k]=y at y1 hy1;have hkI:(k:Int)<(xs.length:Int):=by omega
    have hkJ:(k:Int)<(ys.length:Int):=by omega
    have HX:Hid (xs[k]?=some x/\ys[k]?=some y):=⟨hx1,hy1⟩
    clear hx1 hy1 hc1 hc2 hI;by_cases he:x=y
    ·have hbe:(x != y)=false:=by simpa using he
     have hn2:Hid (∀ j,j<k+1->xs[j]?=ys[j]?):=by
      intro j hj;rcases Nat.lt_succ_iff_lt_or_eq.1 hj with h3|rfl
      ·exact hno.out j h3
      ·rw[HX.out.1,HX.out.2,he]
     clear hno HX he HW;go_wp2_with fail
     go_quiet (fail)
     have B2:=B1.trans (show Below w.heap.size wr (wr.drewN nq) from ⟨rfl,rfl,rfl,Nat.le_refl _,fun _ _=>rfl⟩);go_wp2;go_roundw
     case rel=>exact⟨k+1,by omega,by go_num,hn2,B2⟩
     case measure=>simp[intOf];omega
    ·have hbe:(x != y)=true:=by simpa using he
     have FIN:Hid (W=false):=by
      show W=_;rw[HW.out];apply decide_eq_false;intro h3;rw[h3,HX.out.2] at HX
      have:=HX.out.1
      injection this with this
      exact he this.symm
     clear hno HX he HW;go_wp2_with fail
     go_quiet (fail)
     have B2:=B1.trans (show Below w.heap.size wr (wr.drewN nq) from ⟨rfl,rfl,rfl,Nat.le_refl _,fun _ _=>rfl⟩);go_wp2;go_ret;rw[FIN.out];exact⟨rfl,B2⟩
   ·have hkI:¬(k:Int)<(xs.length:Int):=by omega
    have FIN:Hid (W=true):=by
     show W=_;rw[HW.out];apply decide_eq_true;apply List.ext_getElem?;intro j;rcases Nat.lt_or_ge j k with h3|h3
     ·exact hno.out j h3
     ·rw[List.getElem?_eq_none (by omega),List.getElem?_eq_none (by have:=HL.out;omega)]
    clear hno HW h1 h2 hI;go_wp2;go_ret;rw[FIN.out];exact⟨rfl,B1⟩
 ·have hI:((xs.length:Int) != (ys.length:Int))=true:=by simp;omega
  have FIN:Hid (W=false):=by
   show W=_;rw[HW.out];exact decide_eq_false (fun h3=>hll (by rw[h3]))
  clear HW hll h1 h2;go_wp2;go_ret;rw[FIN.out];exact⟨rfl,Below.refl _ _⟩
def hvP (e:Ex)(cells:List Int):Bool:=decide (20000<cells.length)||decide (wgF e.kids (20000-1)<0)
theorem heavy14_c (e:Ex)(ao:Option Addr)(cap ac0:Nat)(cv:Value)(cells:List Int)(w:World)(hc:InA w cv cells)(hcl:cells.length<=maxLen)(hlen:e.kids.len<=maxLen)(hwd:e.kids.wide)(S:SnA w e.kids ao) :
  Calls Tryz.prog 14 #[plV e ao cap cv] w fun x w'=>x=.returned (.bool (hvP e cells))/\Below w.heap.size w w':=by
 obtain⟨W,hW⟩:∃W,W=hvP e cells:=⟨_,rfl⟩
 rw[<-hW];have HW:Hid (W=hvP e cells):=hW;clear hW;obtain⟨ac,cc,hcv,hcx⟩:=hc;subst hcv;clear hcx;have hml:Hid (maxLen=9223372036854775807):=rfl;have hcm:cells.length<=9223372036854775807:=by have:=hml.out;omega
 have B0:Below w.heap.size w (w.alloc (.cells #[.int .i64 e.k,.int .i64 e.n,stv e.nm,.slice ao e.kids.len cap,.slice ac cells.length cc] 37)):=(Below.refl _ w).alloc (Nat.le_refl _) _;have E0:(w.alloc (.cells #[.int .i64 e.k,.int .i64 e.n,stv e.nm,.slice ao e.kids.len cap,.slice ac cells.length cc] 37)).heap[w.heap.size]?=some (.cells #[.int .i64 e.k,.int .i64 e.n,stv e.nm,.slice ao e.kids.len cap,.slice ac cells.length cc] 37):=heap_alloc_new w _;have S0:=SnA.below S B0;rw[plV_out];go_enter Tryz.func14,Tryz.ntmps14;go_upto_region 1 with fail;generalize w.alloc (.cells #[.int .i64 e.k,.int .i64 e.n,stv e.nm,.slice ao e.kids.len cap,.slice ac cells.length cc] 37)=w0 at *;obtain⟨p0,p1,p2,p3,p4,pf⟩:=box5 E0;by_cases h2:20000<cells.length
 ·have hI:(20000:Int)<(cells.length:Int):=by omega
  have HZ:Hid (W=true):=by show W=_;rw[HW.out];simp[hvP,h2]
  clear HW h2;go_wp2;go_ret;rw[HZ.out];exact⟨rfl,B0⟩
 ·have hI:¬(20000:Int)<(cells.length:Int):=by omega
  have HZ:Hid (W=decide (wgF e.kids (20000-1)<0)):=by show W=_;rw[HW.out];simp[hvP,h2]
  have c1:=weighn_ok (e.kids.size+1) e ao cap 20000 w0 (by omega) hlen hwd (by omega) (by omega) S0;rw[exN_out] at c1;generalize wgF e.kids (20000-1)=g at *;clear HW h2;go_wp2_with fail;refine c1.mono ?_;rintro z w1 ⟨rfl,b1⟩;have B1:Below w.heap.size w w1:=B0.trans (b1.mono B0.size);clear c1 p0 p1 p2 p3 p4 pf E0;go_wp2;go_ret;rw[HZ.out];exact⟨rfl,B1⟩
theorem same14_c (e e2:Ex)(ao ao2:Option Addr)(cap cap2:Nat)(cv cv2:Value)(xs ys:List Int)(w:World)(h1:InA w cv xs)(h2:InA w cv2 ys)(hl:xs.length<=1000000000)(hf:e.kids.len<=1000000000/\e.kids.short)(hf2:e2.kids.len<=1000000000/\e2.kids.short)(S:SnA w e.kids ao)(S2:SnA w e2.kids ao2) :
  Calls Tryz.prog 19 #[plV e ao cap cv,plV e2 ao2 cap2 cv2] w fun x w'=>x=.returned (.bool (decide (xs=ys)&&sameE e e2))/\Below w.heap.size w w':=by
 obtain⟨W,hW⟩:∃W,W=(decide (xs=ys)&&sameE e e2):=⟨_,rfl⟩
 rw[<-hW];have HW:Hid (W=(decide (xs=ys)&&sameE e e2)):=hW;clear hW;obtain⟨ac,cc,hv1,h1⟩:=h1;subst hv1;obtain⟨ac2,cc2,hv2,h2⟩:=h2;subst hv2;obtain⟨w0,hw0⟩:∃w0,w0=(w.alloc (.cells #[.int .i64 e.k,.int .i64 e.n,stv e.nm,.slice ao e.kids.len cap,.slice ac xs.length cc] 37)).alloc (.cells #[.int .i64 e2.k,.int .i64 e2.n,stv e2.nm,.slice ao2 e2.kids.len cap2,.slice ac2 ys.length cc2] 37):=⟨_,rfl⟩
 have B0:Below w.heap.size w w0:=by rw[hw0];exact((Below.refl _ w).alloc (Nat.le_refl _) _).alloc (by simp) _
 have E0:w0.heap[w.heap.size]?=some (.cells #[.int .i64 e.k,.int .i64 e.n,stv e.nm,.slice ao e.kids.len cap,.slice ac xs.length cc] 37):=by
  rw[hw0];exact(Below.heap_alloc _ _ _ (by simp)).trans (heap_alloc_new w _)
 have D0:w0.heap[w.heap.size+1]?=some (.cells #[.int .i64 e2.k,.int .i64 e2.n,stv e2.nm,.slice ao2 e2.kids.len cap2,.slice ac2 ys.length cc2] 37):=by
  rw[hw0]
  have:=heap_alloc_new (w.alloc (.cells #[.int .i64 e.k,.int .i64 e.n,stv e.nm,.slice ao e.kids.len cap,.slice ac xs.length cc] 37)) (.cells #[.int .i64 e2.k,.int .i64 e2.n,stv e2.nm,.slice ao2 e2.kids.len cap2,.slice ac2 ys.length cc2] 37)
  simpa using this
 rw[plV_out,plV_out];go_enter Tryz.func19,Tryz.ntmps19;go_upto_region 1 with fail;rw[<-hw0];obtain⟨bx,hbx⟩:∃bx,bx=w.heap.size:=⟨_,rfl⟩
 rw[<-hbx] at E0 D0 B0 ⊢;have HB:Hid (bx=w.heap.size):=hbx;clear hbx hw0;have hbl:=lt_of_block E0;have hdl:=lt_of_block D0;obtain⟨p0,p1,p2,p3,p4,pf⟩:=box5 E0;obtain⟨q0,q1,q2,q3,q4,qf⟩:=box5 D0;by_cases hll:xs.length=ys.length
 ·have hI:((xs.length:Int) != (ys.length:Int))=false:=by rw[hll];simp
  have HL:Hid (xs.length=ys.length):=hll;clear hll p0 p1 p2 p3 p4 pf q0 q1 q2 q3 q4 qf;obtain⟨p0,p1,p2,p3,p4,pf⟩:=box5 E0;obtain⟨q0,q1,q2,q3,q4,qf⟩:=box5 D0;go_wp2;go_loopw [5] (fun v wr=>∃k:Nat,k<=xs.length/\v=.int .i64 (k:Nat)/\Hid (∀ j,j<k->xs[j]?=ys[j]?)/\Below w0.heap.size w0 wr) (fun v _=>xs.length-(intOf v).toNat)
  case atStart=>exact⟨0,by omega,by go_num,fun j hj=>absurd hj (Nat.not_lt_zero _),Below.refl _ _⟩
  case round =>
   obtain⟨k,hk,rfl,hno,B1⟩:=hrel;have E1:=(B1.block _ hbl).trans E0;have D1:=(B1.block _ hdl).trans D0;have BW:Below bx w wr:=B0.trans (B1.mono (Nat.le_of_lt hbl));clear p0 p1 p2 p3 p4 pf q0 q1 q2 q3 q4 qf;obtain⟨p0,p1,p2,p3,p4,pf⟩:=box5 E1;obtain⟨q0,q1,q2,q3,q4,qf⟩:=box5 D1;by_cases hlt:k<xs.length
   ·have hy:k<ys.length:=by have:=HL.out;omega
    have hx1:xs[k]?=some xs[k]:=List.getElem?_eq_getElem hlt;have hy1:ys[k]?=some ys[k]:=List.getElem?_eq_getElem hy;rcases h1 with rfl|⟨g1,o1,rfl,-,hg1,hc1⟩
    ·simp at hlt
    rcases h2 with rfl|⟨g2,o2,rfl,-,hg2,hc2⟩
    ·simp at hy
    have x1:=(BW.cell (p:=⟨g1,o1+k,none⟩) (by rw[HB.out];exact hg1)).trans (hc1 k _ hx1);have y1:=(BW.cell (p:=⟨g2,o2+k,none⟩) (by rw[HB.out];exact hg2)).trans (hc2 k _ hy1);generalize xs[k]=x at x1 hx1;generalize ys[k]=y at y1 hy1;have hkI:(k:Int)<(xs.length:Int):=by omega
    have hkJ:(k:Int)<(ys.length:Int):=by omega
    have HX:Hid (xs[k]?=some x/\ys[k]?=some y):=⟨hx1,hy1⟩
    clear hx1 hy1 hc1 hc2 hI;by_cases he:x=y
    ·have hbe:(x != y)=false:=by simpa using he
     have hn2:Hid (∀ j,j<k+1->xs[j]?=ys[j]?):=by
      intro j hj;rcases Nat.lt_succ_iff_lt_or_eq.1 hj with h3|rfl
      ·exact hno.out j h3
      ·rw[HX.out.1,HX.out.2,he]
     clear hno HX he HW;go_wp2_with fail
     go_quiet (fail)
     have B2:=B1.trans (show Below w0.heap.size wr (wr.drewN nq) from ⟨rfl,rfl,rfl,Nat.le_refl _,fun _ _=>rfl⟩);go_wp2;go_roundw
     case rel=>exact⟨k+1,by omega,by go_num,hn2,B2⟩
     case measure=>simp[intOf];omega
    ·have hbe:(x != y)=true:=by simpa using he
     have FIN:Hid (W=false):=by
      show W=_;rw[HW.out]
      have:decide (xs=ys)=false:=by
       apply decide_eq_false;intro h3;rw[h3,HX.out.2] at HX
       have:=HX.out.1
       injection this with this
       exact he this.symm
      rw[this];rfl
     clear hno HX he HW;go_wp2_with fail
     go_quiet (fail)
     have B2:Below bx w (wr.drewN nq):=BW.trans ⟨rfl,rfl,rfl,Nat.le_refl _,fun _ _=>rfl⟩;go_wp2;go_ret;rw[FIN.out];exact⟨rfl,by rw[<-HB.out];exact B2⟩
   ·have hkI:¬(k:Int)<(xs.length:Int):=by omega
    have FIN:Hid (W=sameE e e2):=by
     show W=_;rw[HW.out]
     have:decide (xs=ys)=true:=by
      apply decide_eq_true;apply List.ext_getElem?;intro j;rcases Nat.lt_or_ge j k with h3|h3
      ·exact hno.out j h3
      ·rw[List.getElem?_eq_none (by omega),List.getElem?_eq_none (by have:=HL.out;omega)]
     rw[this];rfl
    have BW2:Below w.heap.size w wr:=by rw[<-HB.out];exact BW
    have c8:=samenode_ok (e.kids.size+1) e e2 ao ao2 cap cap2 wr (by omega) hf.1 hf.2 hf2.1 hf2.2 (SnA.below S BW2) (SnA.below S2 BW2);rw[exN_out,exN_out] at c8;generalize sameE e e2=sm at *;clear hno HW h1 h2 hI;go_wp2_with fail;refine c8.mono ?_;rintro z w2 ⟨rfl,b2⟩;have B2:Below w.heap.size w w2:=BW2.trans (b2.mono BW2.size);clear c8;go_wp2;go_ret;rw[FIN.out];exact⟨rfl,B2⟩
 ·have hI:((xs.length:Int) != (ys.length:Int))=true:=by simp;omega
  have FIN:Hid (W=false):=by
   show W=_;rw[HW.out]
   have:decide (xs=ys)=false:=decide_eq_false (fun h3=>hll (by rw[h3]))
   rw[this];rfl
  clear HW hll h1 h2;go_wp2;go_ret;rw[FIN.out];exact⟨rfl,by rw[<-HB.out];exact B0⟩
theorem keptplan_c (e:Ex)(b0 cap:Nat)(cv:Value)(ao2:Option Addr)(cap2:Nat)(cv2:Value)(cells:List Int)(w:World)(hlen:e.kids.len<=1000000000)(hsh:e.kids.short)(hcl:cells.length<=1000000000)(S:SpnA w e.kids b0 cap)(S2:SnA w e.kids ao2)(hL:LnI w (fun _=>True) cv cells)(hc2:InA w cv2 cells) :
  Calls Tryz.prog 20 #[plV e (some ⟨b0,0,none⟩) cap cv,plV e ao2 cap2 cv2] w fun x w'=>x=.returned (.bool true)/\Below w.heap.size w w':=by
 obtain⟨g,c,hcv,hL2⟩:=hL;have hL:LnI w (fun _=>True) cv cells:=⟨g,c,hcv,hL2⟩
 subst hcv;obtain⟨ac2,cc2,hcv2,hx2⟩:=hc2;have hc2:InA w cv2 cells:=⟨ac2,cc2,hcv2,hx2⟩
 subst hcv2;clear hL2 hx2;obtain⟨w0,hw0⟩:∃w0,w0=(w.alloc (.cells #[.int .i64 e.k,.int .i64 e.n,stv e.nm,.slice (some ⟨b0,0,none⟩) e.kids.len cap,.slice (some ⟨g,0,none⟩) cells.length c] 37)).alloc (.cells #[.int .i64 e.k,.int .i64 e.n,stv e.nm,.slice ao2 e.kids.len cap2,.slice ac2 cells.length cc2] 37):=⟨_,rfl⟩
 have B0:Below w.heap.size w w0:=by rw[hw0];exact((Below.refl _ w).alloc (Nat.le_refl _) _).alloc (by simp) _
 have E0:w0.heap[w.heap.size]?=some (.cells #[.int .i64 e.k,.int .i64 e.n,stv e.nm,.slice (some ⟨b0,0,none⟩) e.kids.len cap,.slice (some ⟨g,0,none⟩) cells.length c] 37 (0,0)):=by
  rw[hw0];exact(Below.heap_alloc _ _ _ (by simp)).trans (heap_alloc_new w _)
 have Y0:w0.heap[w.heap.size+1]?=some (.cells #[.int .i64 e.k,.int .i64 e.n,stv e.nm,.slice ao2 e.kids.len cap2,.slice ac2 cells.length cc2] 37 (0,0)):=by
  rw[hw0]
  have:=heap_alloc_new (w.alloc (.cells #[.int .i64 e.k,.int .i64 e.n,stv e.nm,.slice (some ⟨b0,0,none⟩) e.kids.len cap,.slice (some ⟨g,0,none⟩) cells.length c] 37)) (.cells #[.int .i64 e.k,.int .i64 e.n,stv e.nm,.slice ao2 e.kids.len cap2,.slice ac2 cells.length cc2] 37)
  simpa using this
 have S0:=SpnA.below S B0;have T0:=SnA.below S2 B0;have L0:=hL.below B0;have I0:=hc2.below B0;have c1:=numbers_c w0 _ _ cells cells L0.inA I0 hcl;rw[decide_eq_true rfl] at c1;rw[plV_out,plV_out];go_enter Tryz.func20,Tryz.ntmps20;go_upto_region 1 with fail;rw[<-hw0];clear hw0;obtain⟨bx,hbx⟩:∃bx,bx=w.heap.size:=⟨_,rfl⟩
 rw[<-hbx] at E0 Y0 B0 ⊢;have HB:Hid (bx=w.heap.size):=hbx;clear hbx S S2 hL hc2 I0;obtain⟨p0,p1,p2,p3,p4,pf⟩:=box5 E0;obtain⟨q0,q1,q2,q3,q4,qf⟩:=box5 Y0;go_wp2_with fail;refine c1.mono ?_;rintro x w1 ⟨rfl,b1⟩;have E1:=(b1.block _ (lt_of_block E0)).trans E0;have Y1:=(b1.block _ (lt_of_block Y0)).trans Y0;have S1:=SpnA.below S0 b1;have T1:=SnA.below T0 b1;have L1:=L0.below b1;have B1:Below bx w w1:=B0.trans (b1.mono (by have:=lt_of_block E0;omega));clear c1 b1 E0 Y0 S0 T0 L0 B0 p0 p1 p2 p3 p4 pf q0 q1 q2 q3 q4 qf;obtain⟨p0,p1,p2,p3,p4,pf⟩:=box5 E1;obtain⟨q0,q1,q2,q3,q4,qf⟩:=box5 Y1;have c2:=keptn_ok (e.kids.size+1) e b0 cap ao2 cap2 w1 (by omega) hlen hsh S1 T1;rw[exN_out,exN_out] at c2;go_wp2_with fail;refine c2.mono ?_;rintro x w2 ⟨rfl,b2⟩;have E2:=(b2.block _ (lt_of_block E1)).trans E1;have L2:=L1.below b2;have B2:Below bx w w2:=B1.trans (b2.mono (by have:=lt_of_block E1;omega));clear c2 b2 E1 Y1 S1 T1 L1 B1 p0 p1 p2 p3 p4 pf q0 q1 q2 q3 q4 qf;obtain⟨p0,p1,p2,p3,p4,pf⟩:=box5 E2;obtain⟨g',c',hv,-,hlt,h1,h2,-,h7⟩:=L2;injection hv with hv1 hv2 hv3
 injection hv1 with hv1
 injection hv1 with hv1
 subst hv1;subst hv3;have h1I:(cells.length:Int)+1<=(c:Int):=by omega
 have hcm:c<=9223372036854775807:=h2;have hw1:IntKind.i64.wrap ((cells.length:Int)+1)=(cells.length:Int)+1:=by rw[IntKind.wrap_i64];omega
 have hlt1:(cells.length:Int)<(cells.length:Int)+1:=by omega
 clear hv2;go_upto_region 3 with fail
 go_quiet (fail)
 go_wp2;go_ret;exact⟨rfl,by rw[<-HB.out];exact bdr B2 nq⟩
def DeadN (cur:Array Value)(j:Nat):Prop :=
 ∃(x y:Int) (s:ByteArray),cur[j*4]?=some (.int .i64 x)/\cur[j*4+1]?=some (.int .i64 y)/\cur[j*4+2]?=some (.string s)/\cur[j*4+3]?=some (.slice none 0 0)
def SameN (cur cur':Array Value)(j:Nat):Prop:=∀ t,t<4->cur'[j*4+t]?=cur[j*4+t]?
theorem DeadN.same {cur cur':Array Value}{j:Nat}(h:DeadN cur j)(s:SameN cur cur' j):DeadN cur' j:=by
 obtain⟨x,y,st,h0,h1,h2,h3⟩:=h;exact⟨x,y,st,(s 0 (by decide)).trans h0,(s 1 (by decide)).trans h1,(s 2 (by decide)).trans h2,(s 3 (by decide)).trans h3⟩
structure OvN (n0 m s:Nat)(w w':World):Prop where
 os:w'.os=w.os
 tape:w'.tape=w.tape
 output:w'.output=w.output
 size:w.heap.size<=w'.heap.size
 blk:∀ k,k<s->(k<n0\/m<=k)->w'.heap[k]?=w.heap[k]?
 lst:∀ k cur,n0<=k->k<m->w.heap[k]?=some (.cells cur 34 (0,0))->∃cur',w'.heap[k]?=some (.cells cur' 34 (0,0))/\cur'.size=cur.size/\∀ j,SameN cur cur' j\/DeadN cur' j
 oth:∀ k ob,k<s->w.heap[k]?=some ob->(∀ cur,ob≠.cells cur 34 (0,0))->w'.heap[k]?=some ob
theorem OvN.trans {n0 m s:Nat}{a b c:World}(h:OvN n0 m s a b)(k:OvN n0 m s b c):OvN n0 m s a c:=by
 refine⟨k.os.trans h.os,k.tape.trans h.tape,k.output.trans h.output,Nat.le_trans h.size k.size,fun i hi hn=>(k.blk i hi hn).trans (h.blk i hi hn),fun i cur h0 h1 h2=>?_,fun i ob hi h2 hn=>k.oth i ob hi (h.oth i ob hi h2 hn) hn⟩;obtain⟨c1,h3,h4,h5⟩:=h.lst i cur h0 h1 h2;obtain⟨c2,h6,h7,h8⟩:=k.lst i c1 h0 h1 h3;refine⟨c2,h6,h7.trans h4,fun j=>?_⟩;rcases h8 j with h9|h9
 ·rcases h5 j with h10|h10
  ·exact .inl fun t ht=>(h9 t ht).trans (h10 t ht)
  ·exact .inr (h10.same h9)
 ·exact .inr h9
theorem OvN.low {n0 m s s':Nat}{w w':World}(h:OvN n0 m s' w w')(hs:s<=s'):OvN n0 m s w w':=⟨h.os,h.tape,h.output,h.size,fun k hk hn=>h.blk k (by omega) hn,h.lst,fun k ob hk h2 hn=>h.oth k ob (by omega) h2 hn⟩
theorem OvN.ofBelow {n0 m s:Nat}{w w':World}(h:Below s w w')(hm:m<=s):OvN n0 m s w w' :=
 ⟨h.os,h.tape,h.output,h.size,fun k hk _=>h.block k hk,fun k cur h0 h1 h2=>⟨cur,(h.block k (by omega)).trans h2,rfl,fun j=>.inl fun t _=>rfl⟩,fun k ob hk h2 _=>(h.block k hk).trans h2⟩
def GwN (n0 m:Nat)(w:World):Fs->Array Value->Nat->Prop
 | ⟨none⟩,_,_=>True
 | ⟨some ⟨k,n,nm,a,ks,r⟩⟩,cur,i =>
  (DeadN cur i\/∃ao cap,(cur[i*4]?=some (.int .i64 k)/\cur[i*4+1]?=some (.int .i64 n)/\cur[i*4+2]?=some (stv nm)/\cur[i*4+3]?=some (.slice ao ks.len cap)) /\
   ((ks=.nil/\ao=none/\cap=0)\/∃b cur2,ao=some ⟨b,0,none⟩/\n0<=b/\b<m/\ks.len<=cap/\w.heap[b]?=some (.cells cur2 34 (0,0))/\cur2.size=cap*4/\GwN n0 m w ks cur2 0))/\GwN n0 m w r cur (i+1)
def SwN (n0 m:Nat)(w:World)(ks:Fs)(ao:Option Addr)(cap:Nat):Prop :=
 (ks=.nil/\ao=none/\cap=0)\/∃b cur2,ao=some ⟨b,0,none⟩/\n0<=b/\b<m/\ks.len<=cap/\w.heap[b]?=some (.cells cur2 34 (0,0))/\cur2.size=cap*4/\GwN n0 m w ks cur2 0
theorem GwN.ov {n0 m s:Nat}{w w':World}(o:OvN n0 m s w w'):∀ {f:Fs}{cur cur':Array Value}{i:Nat},(∀ j,SameN cur cur' j\/DeadN cur' j)->GwN n0 m w f cur i->GwN n0 m w' f cur' i
 | ⟨none⟩,cur,cur',i,hc,h=>trivial
 | ⟨some ⟨k,n,nm,a,ks,r⟩⟩,cur,cur',i,hc,h=>by
  refine⟨?_,GwN.ov o hc h.2⟩;rcases hc i with hs|hd
  ·rcases h.1 with h1|⟨ao,cap,⟨g0,g1,g2,g3⟩,h2⟩
   ·exact .inl (h1.same hs)
   ·refine .inr ⟨ao,cap,⟨(hs 0 (by decide)).trans g0,(hs 1 (by decide)).trans g1,(hs 2 (by decide)).trans g2,(hs 3 (by decide)).trans g3⟩,?_⟩;rcases h2 with h2|⟨b,c2,rfl,h3,h4,h5,h6,h7,h8⟩
    ·exact .inl h2
    ·obtain⟨c3,h9,h10,h11⟩:=o.lst b c2 h3 h4 h6;exact .inr ⟨b,c3,rfl,h3,h4,h5,h9,h10.trans h7,GwN.ov o h11 h8⟩
  ·exact .inl hd
theorem SwN.ov {n0 m s:Nat}{w w':World}{f:Fs}{ao:Option Addr}{cap:Nat}(h:SwN n0 m w f ao cap)(o:OvN n0 m s w w'):SwN n0 m w' f ao cap:=by
 rcases h with h|⟨b,c2,rfl,h3,h4,h5,h6,h7,h8⟩
 ·exact .inl h
 ·obtain⟨c3,h9,h10,h11⟩:=o.lst b c2 h3 h4 h6;exact .inr ⟨b,c3,rfl,h3,h4,h5,h9,h10.trans h7,GwN.ov o h11 h8⟩
theorem GwN.at {n0 m:Nat}{w:World}:∀ {d r:Fs}{cur:Array Value}{i:Nat},GwN n0 m w (d.app r) cur i->GwN n0 m w r cur (i+d.len)
 | ⟨none⟩,r,cur,i,h=>h
 | ⟨some ⟨k,n,nm,a,ks,d⟩⟩,r,cur,i,h=>by
  have h2:=GwN.at (d:=d) h.2;rw[show i+1+d.len=i+(d.len+1) by omega] at h2;exact h2
theorem FcNC.gw {n0:Nat}{w:World}:∀ {f:Fs}{xs:List Value}{cur:Array Value}{i:Nat},FcNC w (Nw n0) f xs->(∀ (j:Nat) (u:Value),xs[j]?=some u->cur[i*4+j]?=some u)->GwN n0 w.heap.size w f cur i
 | ⟨none⟩,xs,cur,i,h,hc=>trivial
 | ⟨some ⟨k,n,nm,a,ks,r⟩⟩,xs,cur,i,h,hc=>by
  obtain⟨ao,cap,ys,rfl,h1,h2⟩:=h;refine⟨.inr ⟨ao,cap,⟨hc 0 _ rfl,hc 1 _ rfl,hc 2 _ rfl,hc 3 _ rfl⟩,?_⟩,FcNC.gw h2 (fun j u hu=>?_)⟩
  ·rcases h1 with h1|⟨b,zs,c2,rfl,hp,hlt,h4,h5,h6,h7,h3⟩
   ·exact .inl h1
   ·exact .inr ⟨b,c2,rfl,hp,hlt,h4,h5,h6,FcNC.gw h3 (fun j u hu=>by rw[Nat.zero_mul,Nat.zero_add];exact h7 j u hu)⟩
  ·rw[show (i+1)*4+j=i*4+(j+4) by omega];exact hc (j+4) u (by simpa using hu)
theorem SlcN.sw {n0:Nat}{w:World}{f:Fs}{ao:Option Addr}{cap:Nat}(h:SlcN w (Nw n0) f ao cap):SwN n0 w.heap.size w f ao cap:=by
 rcases h with h1|⟨b,zs,c2,rfl,hp,hlt,h4,h5,h6,h7,h3⟩
 ·exact .inl h1
 ·exact .inr ⟨b,c2,rfl,hp,hlt,h4,h5,h6,h3.gw (fun j u hu=>by rw[Nat.zero_mul,Nat.zero_add];exact h7 j u hu)⟩
theorem OvN.row {n0 m s:Nat}{w:World}{b:Nat}{cur:Array Value}(hb0:n0<=b)(hb1:b<m)(h:w.heap[b]?=some (.cells cur 34 (0,0)))(w':World)(cur':Array Value)(ho:w'.os=w.os)(ht:w'.tape=w.tape)(hp:w'.output=w.output)(hs:w.heap.size<=w'.heap.size)
  (hother:∀ k,k≠b->w'.heap[k]?=w.heap[k]?) (h':w'.heap[b]?=some (.cells cur' 34 (0,0))) (hsz:cur'.size=cur.size) (hg:∀ j,SameN cur cur' j\/DeadN cur' j):OvN n0 m s w w':=by
 refine⟨ho,ht,hp,hs,fun k _ hk=>hother k (by omega),fun k c h0 h1 h2=>?_,fun k ob hk h2 hn=>(hother k (fun e=>by rw[e,h] at h2;injection h2 with h2;exact hn cur h2.symm)).trans h2⟩;by_cases hk:k=b
 ·subst hk;rw[h] at h2;injection h2 with h2
  injection h2 with h2
  subst h2;exact⟨cur',h',hsz,hg⟩
 ·exact⟨c,(hother k hk).trans h2,rfl,fun j=>.inl fun t _=>rfl⟩
def overN (cur:Array Value)(i:Nat)(v0 v1 v2 v3:Value):Array Value:=(((cur.setIfInBounds (i*4) v0).setIfInBounds (i*4+1) v1).setIfInBounds (i*4+2) v2).setIfInBounds (i*4+3) v3
theorem set4n_heap {w:World}{b:Nat}{cur:Array Value}{t:TypeId}(i:Nat)(v0 v1 v2 v3:Value)(h:w.heap[b]?=some (.cells cur t (0,0))) :
  ((((w.setCell ⟨b,i*4,none⟩ v0).setCell ⟨b,i*4+1,none⟩ v1).setCell ⟨b,i*4+2,none⟩ v2).setCell ⟨b,i*4+3,none⟩ v3).heap[b]?=some (.cells (overN cur i v0 v1 v2 v3) t (0,0)) :=
 heap_setCell_same _ b _ _ t v3 (heap_setCell_same _ b _ _ t v2 (heap_setCell_same _ b _ _ t v1 (heap_setCell_same _ b _ _ t v0 h)))
theorem overN_size (cur:Array Value)(i:Nat)(v0 v1 v2 v3:Value):(overN cur i v0 v1 v2 v3).size=cur.size:=by simp[overN]
theorem overN_other {cur:Array Value}{i:Nat}{v0 v1 v2 v3:Value}{k:Nat}(h:k<i*4\/i*4+4<=k):(overN cur i v0 v1 v2 v3)[k]?=cur[k]?:=by
 unfold overN;rw[Array.getElem?_setIfInBounds_ne (by omega),Array.getElem?_setIfInBounds_ne (by omega),Array.getElem?_setIfInBounds_ne (by omega),Array.getElem?_setIfInBounds_ne (by omega)]
theorem overN_dead {cur:Array Value}{i:Nat}(x y:Int)(s:ByteArray)(h:i*4+4<=cur.size):DeadN (overN cur i (.int .i64 x) (.int .i64 y) (.string s) (.slice none 0 0)) i:=by
 refine⟨x,y,s,?_,?_,?_,?_⟩<;>unfold overN
 ·rw[Array.getElem?_setIfInBounds_ne (by omega),Array.getElem?_setIfInBounds_ne (by omega),Array.getElem?_setIfInBounds_ne (by omega),Array.getElem?_setIfInBounds_self_of_lt (by omega)]
 ·rw[Array.getElem?_setIfInBounds_ne (by omega),Array.getElem?_setIfInBounds_ne (by omega),Array.getElem?_setIfInBounds_self_of_lt (by simp;omega)]
 ·rw[Array.getElem?_setIfInBounds_ne (by omega),Array.getElem?_setIfInBounds_self_of_lt (by simp;omega)]
 ·rw[Array.getElem?_setIfInBounds_self_of_lt (by simp;omega)]
theorem OvN.set4 {n0 m s:Nat}{w:World}{b:Nat}{cur:Array Value}{i:Nat}(x y:Int)(st:ByteArray)(hb0:n0<=b)(hb1:b<m)(h:w.heap[b]?=some (.cells cur 34 (0,0)))(hi:i*4+4<=cur.size) :
  OvN n0 m s w ((((w.setCell ⟨b,i*4,none⟩ (.int .i64 x)).setCell ⟨b,i*4+1,none⟩ (.int .i64 y)).setCell ⟨b,i*4+2,none⟩ (.string st)).setCell ⟨b,i*4+3,none⟩ (.slice none 0 0)):=by
 have B:=((((Below.refl 0 w).setCell (p:=⟨b,i*4,none⟩) (Nat.zero_le _) (.int .i64 x)).setCell (p:=⟨b,i*4+1,none⟩) (Nat.zero_le _) (.int .i64 y)).setCell (p:=⟨b,i*4+2,none⟩) (Nat.zero_le _) (.string st)).setCell (p:=⟨b,i*4+3,none⟩) (Nat.zero_le _) (.slice none 0 0);refine OvN.row hb0 hb1 h _ (overN cur i (.int .i64 x) (.int .i64 y) (.string st) (.slice none 0 0)) B.os B.tape B.output B.size (fun k hk=>?_) (set4n_heap i _ _ _ _ h) (overN_size _ _ _ _ _ _) (fun j=>?_)
 ·exact(heap_setCell_other _ ⟨b,i*4+3,none⟩ k _ hk).trans ((heap_setCell_other _ ⟨b,i*4+2,none⟩ k _ hk).trans ((heap_setCell_other _ ⟨b,i*4+1,none⟩ k _ hk).trans (heap_setCell_other _ ⟨b,i*4,none⟩ k _ hk)))
 ·by_cases hj:j=i
  ·subst hj;exact .inr (overN_dead x y st hi)
  ·exact .inl fun t ht=>overN_other (by omega)
def AppN (w:World)(e:TypeId)(ao:Option Addr)(n:Nat)(news:List Value)(g:Nat)(w':World)(cur':Array Value):Prop :=
 w'.heap[g]?=some (.cells cur' e (0,0))/\(∀ (t:Nat) (u:Value),news[t]?=some u->cur'[n*4+t]?=some u) /\
  ((∃cur,ao=some ⟨g,0,none⟩/\w.heap[g]?=some (.cells cur e (0,0))/\w'=w.setRow g cur'/\cur'.size=cur.size/\∀ j,(j<n*4\/n*4+4<=j)->cur'[j]?=cur[j]?)\/(g=w.heap.size/\Below w.heap.size w w'))
theorem append_on {P:Program}(w:World)(t ty e:TypeId)(i:TypeInfo)(z:Value)(bytes:Nat)(ht:P.underlying t=some (.slice e))(hi:P.info? e=some i)(hz:i.zero=some z)(hsize:i.size=4)(hby:i.bytes=bytes)(hzs:z.cells.size=4)
  (ao:Option Addr) (n cap:Nat) (hv:(n=0/\ao=none/\cap=0)\/∃b cur,ao=some ⟨b,0,none⟩/\n<=cap/\w.heap[b]?=some (.cells cur e (0,0))/\cur.size=cap*4)
  (ad:Addr) (news:List Value) (hl:news.length=4) (hnews:∀ j u,news[j]?=some u->w.cell? (ad.add j)=some u) (h1:∀ u ∈ news,u.oneCell'=true)
  (hn:n+1<=maxLen) (hbytes:(n+1)*bytes<=140737488355328) :
  ∃g cap' w' cur',(Builtin.append_ #[t,t] ty #[.slice ao n cap,.slice (some ad) 1 1]).run P w=.ok (.slice (some ⟨g,0,none⟩) (n+1) cap') w'/\AppN w e ao n news g w' cur':=by
 have h63:n+1<=9223372036854775807:=by simp only[maxLen] at hn;omega
 subst hby;rcases hv with ⟨rfl,rfl,rfl⟩|⟨b,cur,rfl,hnc,hb,hsz⟩
 ·have hr:=run_append_nil (P:=P) w t ty e i z ht hi hz ad 1 1 news (by rw[hl,hsize]) hnews (by omega) (by omega) (by simp only[Nat.zero_add] at hbytes;omega);refine⟨_,_,_,_,hr,heap_alloc_new w.drew _,fun t' u hu=>?_,.inr ⟨rfl,?_⟩⟩
  ·rw[Nat.zero_mul,Nat.zero_add,Array.getElem?_append_left (by have:=(List.getElem?_eq_some_iff.1 hu).1;simpa using this)];simpa using hu
  ·exact(show Below w.heap.size w w.drew from ⟨rfl,rfl,rfl,Nat.le_refl _,fun _ _=>rfl⟩).alloc (Nat.le_refl _) _
 ·by_cases hroom:n+1<=cap
  ·have hfit:n*i.size+news.length<=cur.size:=by rw[hl,hsz,hsize];omega
   have hr:=run_append_room (P:=P) w t ty e i ht hi b n cap cur hb ad 1 1 news (by rw[hl,hsize]) hnews h1 hroom hfit;have hlt:(cur.toList.take (n*i.size)).length=n*4:=by rw[List.length_take,hsize];simp;omega
   refine⟨b,cap,_,_,hr,setRow_heap w b cur _ e (0,0) hb,fun t' u hu=>?_,.inl ⟨cur,rfl,hb,rfl,?_,fun j hj=>?_⟩⟩
   ·have h5:=(List.getElem?_eq_some_iff.1 hu).1;rw[List.getElem?_toArray,List.append_assoc,List.getElem?_append_right (by rw[hlt];omega),hlt,List.getElem?_append_left (by omega),show n*4+t' - n*4=t' by omega];exact hu
   ·rw[List.size_toArray,List.length_append,List.length_append,List.length_drop,hlt,hl,hsize,Array.length_toList];omega
   ·rw[List.getElem?_toArray,List.append_assoc];rcases hj with hj|hj
    ·rw[List.getElem?_append_left (by rw[hlt];exact hj),List.getElem?_take_of_lt (by rw[hsize];exact hj)];simp
    ·rw[List.getElem?_append_right (by rw[hlt];omega),hlt,List.getElem?_append_right (by omega),hl,List.getElem?_drop,hsize];rw[show n*4+4+(j-n*4-4)=j by omega];simp
  ·have holds:∀ j u,(cur.toList.take (n*4))[j]?=some u->w.cell? ((⟨b,0,none⟩:Addr).add j)=some u:=fun j u hu=>by
    have h3:((⟨b,0,none⟩:Addr).add j)=⟨b,j,none⟩:=by simp[Addr.add];exact Eq.symm
    rw[h3,cell_of_row _ b j _ _ (0,0) hb];exact ownCellsN rfl j u hu
   have hlo:(cur.toList.take (n*4)).length=n*i.size:=by rw[List.length_take,hsize];simp;omega
   have hr:=run_append_grow (P:=P) w t ty e i z ht hi hz ⟨b,0,none⟩ n cap (cur.toList.take (n*4)) hlo holds ad 1 1 news (by rw[hl,hsize]) hnews (by omega) (by omega) (growslice_fits (by omega) hbytes);refine⟨_,_,_,_,hr,heap_alloc_new w.drew _,fun t' u hu=>?_,.inr ⟨rfl,?_⟩⟩
   ·have h5:=(List.getElem?_eq_some_iff.1 hu).1;rw[Array.getElem?_append_left (by simp only[Array.size_append,List.size_toArray,hlo,hsize];omega),Array.getElem?_append_right (by simp only[List.size_toArray,hlo,hsize];omega)];simp only[List.size_toArray,hlo,hsize];rw[show n*4+t' - n*4=t' by omega];simpa using hu
   ·exact(show Below w.heap.size w w.drew from ⟨rfl,rfl,rfl,Nat.le_refl _,fun _ _=>rfl⟩).alloc (Nat.le_refl _) _
theorem wpList_append_on {P:Program}{w:World}{ops:Array Oper}{rest:List Oper}{op:Oper}{a:Act}{Q:Exit->Act->World->Prop}(hgd:op.guard=none)(s x:Operand)(t:TypeId)
  (ho:op.op=.call { callee:=.builtin .append,args:=#[s,x],argTypes:=#[t,t] })
  (e:TypeId) (i:TypeInfo) (z:Value) (bytes:Nat) (ht:P.underlying t=some (.slice e)) (hi:P.info? e=some i) (hz:i.zero=some z) (hsize:i.size=4) (hby:i.bytes=bytes) (hzs:z.cells.size=4)
  (ao:Option Addr) (n cap:Nat) (hs:a.eval s=.slice ao n cap) (hv:(n=0/\ao=none/\cap=0)\/∃b cur,ao=some ⟨b,0,none⟩/\n<=cap/\w.heap[b]?=some (.cells cur e (0,0))/\cur.size=cap*4)
  (ad:Addr) (news:List Value) (hx:a.eval x=.slice (some ad) 1 1) (hl:news.length=4) (hnews:∀ j u,news[j]?=some u->w.cell? (ad.add j)=some u) (h1:∀ u ∈ news,u.oneCell'=true)
  (hn:n+1<=maxLen) (hbytes:(n+1)*bytes<=140737488355328)
  (h:∀ g cap' w' cur',AppN w e ao n news g w' cur'->wpList P ops Q rest (a.put op.dst (.slice (some ⟨g,0,none⟩) (n+1) cap')) w'):wpList P ops Q (op::rest) a w:=by
 refine wpList_plain hgd fun _ hK=>?_;obtain⟨g,cap',w',cur',hr,hR⟩:=append_on (P:=P) w t op.type e i z bytes ht hi hz hsize hby hzs ao n cap hv ad news hl hnews h1 hn hbytes;unfold Oper.wp execOp;simp only[ho,resolve,invoke,builtin,Sem.run_bind,Sem.run_pure,Result.andThen_ok,List.map_toArray,List.map_cons,List.map_nil,hs,hx,hr];exact hK _ _ (h g cap' w' cur' hR)
end Go.Proofs.YtaihhnlfcndecaaGreatDoor

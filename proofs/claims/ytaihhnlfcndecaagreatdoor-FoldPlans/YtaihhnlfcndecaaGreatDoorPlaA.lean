import Derived.Test.YtaihhnlfcndecaaGreatDoorPrgH
set_option maxRecDepth 100000
set_option maxHeartbeats 8000000
namespace Go.Proofs.YtaihhnlfcndecaaGreatDoor
open Go.ChangeShapes Go.WideShapes Go.ChangeAt Go.RowKit Go.Maps
set_option linter.unusedVariables false
set_option linter.unusedSimpArgs false
def plV (e:Ex)(ao:Option Addr)(cap:Nat)(cv:Value):Value:=.agg #[.int .i64 e.k,.int .i64 e.n,stv e.nm,.slice ao e.kids.len cap,cv]
theorem plV_out (e:Ex)(ao:Option Addr)(cap:Nat)(cv:Value):plV e ao cap cv=.agg #[.int .i64 e.k,.int .i64 e.n,stv e.nm,.slice ao e.kids.len cap,cv]:=rfl
theorem any_nl (cells:List Int):cells.any (fun c=>decide (c<0)||decide (4<c))=cells.any nlB:=rfl
theorem nl_false {cells:List Int}(h:cells.any nlB=false):∀ c,c ∈ cells->0<=c/\c<=4:=by
 intro c hc;rw[List.any_eq_false] at h
 have:=h c hc
 simp[nlB] at this;omega
theorem kindP_nl {cells:List Int}{e:Ex}(h:cells.any nlB=true):kindP cells e=0:=by
 unfold kindP;rw[if_pos (.inr (by rw[any_nl];exact h))]
theorem kindP_rg {cells:List Int}{e:Ex}(h1:cells.length<=256)(h2:cells.any nlB=false):kindP cells e=(match rgE cells e 0 0 (0,fun _=>none) with|none=>0|some (_,k)=>if k=4 then 0 else k):=by
 rw[kindP_knd h1 (nl_false h2)];unfold kndD;cases rgE cells e 0 0 (0,fun _=>none) with
 | none=>rfl
 | some z =>
  obtain ⟨s,k⟩:=z;simp only;by_cases h4:k=4
  ·rw[if_pos h4,if_pos h4]
  ·rw[if_neg h4,if_neg h4]
theorem read_c (e:Ex)(ao:Option Addr)(cap:Nat)(cv:Value)(cells:List Int)(w:World)(hf:FitN e)(hW:Wd w)(hc:InA w cv cells)(hcl:cells.length<=1000000000)(S:SnA w e.kids ao) :
  Calls Tryz.prog 74 #[plV e ao cap cv] w fun x w'=>(∃v,x=.returned (.tuple #[v,.bool (decide (kindP cells e≠0))]))/\Below w.heap.size w w':=by
 obtain ⟨W,hZ⟩:∃W,W=decide (kindP cells e≠0):=⟨_,rfl⟩;rw[<-hZ];have HW:Hid (W=decide (kindP cells e≠0)):=hZ;clear hZ;obtain ⟨ac,cc,hcv,hcx⟩:=hc;have hc:InA w cv cells:=⟨ac,cc,hcv,hcx⟩;subst hcv;clear hcx;have hG:=hW.lt;have B0:Below w.heap.size w (w.alloc (.cells #[.int .i64 e.k,.int .i64 e.n,stv e.nm,.slice ao e.kids.len cap,.slice ac cells.length cc] 37)):=(Below.refl _ w).alloc (Nat.le_refl _) _;have E0:(w.alloc (.cells #[.int .i64 e.k,.int .i64 e.n,stv e.nm,.slice ao e.kids.len cap,.slice ac cells.length cc] 37)).heap[w.heap.size]?=some (.cells #[.int .i64 e.k,.int .i64 e.n,stv e.nm,.slice ao e.kids.len cap,.slice ac cells.length cc] 37):=heap_alloc_new w _;have S0:SlN (w.alloc (.cells #[.int .i64 e.k,.int .i64 e.n,stv e.nm,.slice ao e.kids.len cap,.slice ac cells.length cc] 37)) (Lt0 w.heap.size) e.kids ao:=S.mono (fun i _ hl=>B0.block i hl) B0.size (fun k _ hl=>hl)
 have N0:Inw (w.alloc (.cells #[.int .i64 e.k,.int .i64 e.n,stv e.nm,.slice ao e.kids.len cap,.slice ac cells.length cc] 37)) (Lt0 w.heap.size) (.slice ac cells.length cc) cells:=hc.mono (fun i _ hl=>B0.block i hl) B0.size (fun k _ hl=>hl)
 have I0:=hc.below B0;have W0:=hW.below B0;clear S hc hW;rw[plV_out];go_enter Tryz.func74,Tryz.ntmps74;go_upto_region 1 with fail;generalize w.alloc (.cells #[.int .i64 e.k,.int .i64 e.n,stv e.nm,.slice ao e.kids.len cap,.slice ac cells.length cc] 37)=w0 at *;obtain ⟨n0,hn0⟩:∃n0,n0=w.heap.size:=⟨_,rfl⟩;rw[<-hn0] at E0 S0 N0 hG B0 ⊢;have HN:Hid (n0=w.heap.size):=hn0;clear hn0;obtain ⟨p0,p1,p2,p3,p4,pf⟩:=box5 E0;by_cases h256:256<cells.length
 ·have hI:(256:Int)<(cells.length:Int):=by omega
  have HZ:Hid (W=false):=by show W=_;rw[HW.out,kindP_big h256];rfl
  clear HW S0 N0 I0 W0 E0;go_wp2;refine bodyPost_ret (v:=.tuple #[.nilIface,.bool false]) (by simp[results,Tryz.results74,go_sem]) rfl ⟨⟨_,by rw[HZ.out]⟩,?_⟩
  rw[<-HN.out];exact B0
 have hI:¬(256:Int)<(cells.length:Int):=by omega
 have c1:=containsfunc_c w0 _ cells I0 hcl;go_wp2_with fail;refine c1.mono ?_;rintro z w1 ⟨rfl,rfl⟩;cases hnl:cells.any nlB with
 | true =>
  have HZ:Hid (W=false):=by show W=_;rw[HW.out,kindP_nl hnl];rfl
  clear HW S0 N0 I0 W0 E0 c1;go_wp2;refine bodyPost_ret (v:=.tuple #[.nilIface,.bool false]) (by simp[results,Tryz.results74,go_sem]) rfl ⟨⟨_,by rw[HZ.out]⟩,?_⟩
  rw[<-HN.out];exact B0
 | false =>
 have HW2:Hid (W=decide ((match rgE cells e 0 0 (0,fun _=>none) with|none=>0|some (_,k)=>if k=4 then 0 else k)≠0)):=by show W=_;rw[HW.out,kindP_rg (by omega) hnl]
 clear HW c1;have hmm:=@run_makeMap Tryz.prog;obtain ⟨w2,hw2⟩:∃w2,w2=(w1.alloc (.map #[] 0)).alloc (.cells #[.slice ac cells.length cc,.map (some w1.heap.size),.int .i64 0] 142):=⟨_,rfl⟩;have b2:Below w1.heap.size w1 w2:=by rw[hw2];exact ((Below.refl _ w1).alloc (Nat.le_refl _) _).alloc (by simp) _
 have M2:MpN w2 (Lt0 n0) w1.heap.size 0 (fun _=>none):=by
  rw[hw2];exact (MpN.made w1 (Lt0 n0)).mono (Below.heap_alloc _ _ _ (by simp)) (fun k _ hl=>Below.heap_alloc _ _ _ hl) (by simp)
 have X2:w2.heap[w1.heap.size+1]?=some (.cells #[.slice ac cells.length cc,.map (some w1.heap.size),.int .i64 0] 142 (0,0)):=by
  rw[hw2]
  have:=heap_alloc_new (w1.alloc (.map #[] 0)) (.cells #[.slice ac cells.length cc,.map (some w1.heap.size),.int .i64 0] 142)
  simpa using this
 have R2:RD w2 n0 (w1.heap.size+1) w1.heap.size (.slice ac cells.length cc) 0 (0,fun _=>none):=⟨X2,⟨0,Nat.le_refl _,M2⟩,by show 0<=4096;omega,fun i y h=>by cases h⟩
 have hlt:=lt_of_block E0;have c4:=partp_ok (e.kids.size+1) e ao cap n0 (w1.heap.size+1) w1.heap.size (.slice ac cells.length cc) cells 0 0 (0,fun _=>none) 0 w2 (by omega) hf (by omega) (by omega) (by omega) (by omega) (by omega) (by omega) hG (W0.below b2) R2 (N0.below b2) (S0.belowP b2)
 rw[exN_out] at c4;have E2:=(b2.block _ hlt).trans E0;have hmx:n0<=w1.heap.size:=by omega
 have hsz2:w1.heap.size+2<=w2.heap.size:=by have:=lt_of_block X2;omega
 clear E0 S0 N0 I0 W0 M2 X2 R2;go_upto_region 4 with fail;rw[<-hw2];clear hw2 hmm p0 p1 p2 p3 p4 pf;obtain ⟨p0,p1,p2,p3,p4,pf⟩:=box5 E2;have hpos:Hid (∀ s k,rgE cells e 0 0 (0,fun _=>none)=some (s,k)->k≠0):=fun s k h=>rgE_pos h
 generalize rgE cells e 0 0 (0,fun _=>none)=rr at *
 go_wp2_with fail;refine c4.mono ?_;rintro z w3 ⟨⟨v,rfl,hv⟩,-,K3⟩;have B3:Below n0 w w3:=(B0.trans (b2.mono hmx)).trans (K3.below (by omega) hmx (by omega))
 clear c4 p0 p1 p2 p3 p4 pf E2 K3 b2;cases rr with
 | none =>
  have HZ:Hid (W=false):=by show W=_;rw[HW2.out];rfl
  clear HW2 hv;simp only[Option.isSome_none];go_wp2;refine bodyPost_ret (v:=.tuple #[.nilIface,.bool false]) (by simp[results,Tryz.results74,go_sem]) rfl ⟨⟨_,by rw[HZ.out]⟩,?_⟩
  rw[<-HN.out];exact B3
 | some zz =>
  obtain ⟨s2,k⟩:=zz;obtain ⟨ty,vx,rfl,he⟩:=hv s2 k rfl;have c5:=fun w=>kindof_c k w
  simp only[Option.isSome_some];clear hv;go_wp2_with fail;refine (c5 _).mono ?_;rintro z w4 ⟨rfl,b4⟩;have B4:Below n0 w w4:=B3.trans (b4.mono (by have h1:=B3.size;have h2:=HN.out;omega))
  by_cases h4:k=4
  ·have hb4:(k==4)=true:=by simpa using h4
   have HZ:Hid (W=false):=by show W=_;rw[HW2.out];simp[h4]
   clear HW2 h4 c5;go_wp2;refine bodyPost_ret (v:=.tuple #[.nilIface,.bool false]) (by simp[results,Tryz.results74,go_sem]) rfl ⟨⟨_,by rw[HZ.out]⟩,?_⟩
   rw[<-HN.out];exact B4
  ·have hb4:(k==4)=false:=by simpa using h4
   have HZ:Hid (W=true):=by show W=_;rw[HW2.out];simp[h4,hpos.out s2 k rfl]
   clear HW2 h4 c5;go_wp2;refine bodyPost_ret (v:=.tuple #[.iface ty vx,.bool true]) (by simp[results,Tryz.results74,go_sem]) rfl ⟨⟨_,by rw[HZ.out]⟩,?_⟩
   rw[<-HN.out];exact B4
theorem rightp_c (e:Ex)(ao:Option Addr)(cap:Nat)(cv:Value)(cells:List Int)(w:World)(hf:FitN e)(hW:Wd w)(hc:InA w cv cells)(hcl:cells.length<=1000000000)(S:SnA w e.kids ao) :
  Calls Tryz.prog 39 #[plV e ao cap cv] w fun x w'=>x=.returned (.bool (decide (kindP cells e≠0)))/\Below w.heap.size w w':=by
 obtain ⟨ac,cc,hcv,hcx⟩:=hc;have hc:InA w cv cells:=⟨ac,cc,hcv,hcx⟩;subst hcv;clear hcx;have B0:Below w.heap.size w (w.alloc (.cells #[.int .i64 e.k,.int .i64 e.n,stv e.nm,.slice ao e.kids.len cap,.slice ac cells.length cc] 37)):=(Below.refl _ w).alloc (Nat.le_refl _) _;have c1:=read_c e ao cap _ cells _ hf (hW.below B0) (hc.below B0) hcl (SnA.below S B0);generalize decide (kindP cells e≠0)=W at *;rw[plV_out] at c1 ⊢;go_enter Tryz.func39,Tryz.ntmps39;go_wp2_with fail;refine c1.mono ?_;rintro z w1 ⟨⟨v,rfl⟩,b1⟩;have B1:Below w.heap.size w w1:=B0.trans (b1.mono B0.size);clear c1 b1;go_wp2;go_ret;exact ⟨rfl,B1⟩
end Go.Proofs.YtaihhnlfcndecaaGreatDoor
namespace Go.Proofs.YtaihhnlfcndecaaGreatDoor
open Go.ChangeShapes Go.WideShapes Go.ChangeAt Go.RowKit
set_option linter.unusedVariables false
set_option linter.unusedSimpArgs false
theorem Row.madeZ {w:World}{o:Nat->Nat}{lb:Nat}{t:TypeId}{X:Array Value}(hX:X=#[]):Row (w.alloc (.cells X t)) (newLab w o lb) lb t 1 (.slice (some ⟨w.heap.size,0,none⟩) 0 0) 0 []:=by
 subst hX;exact Row.madeS (X:=#[]) rfl rfl (by unfold maxLen;omega)
theorem clonei_c (w:World)(v:Value)(xs:List Int)(o:Nat->Nat)(h:InA w v xs)(hl:xs.length<=100000) :
  Calls Tryz.prog 41 #[v] w fun e w'=>∃v' o',e=.returned v'/\Row w' o' 5 3 1 v' xs.length (xs.map (Value.int .i64))/\Step (fun k=>k=5) w o w' o':=by
 obtain ⟨ii,hii,hzi0,hzi1,hzi2⟩:=info_parts infoInt;have hnil:∀ (W:World) (a:Option Addr) (n c:Nat),(binOp .eql 35 (.slice a n c) (.slice none 0 0)).run Tryz.prog W=.ok (.bool a.isNone) W:=fun W a n c=>Lib.run_eql_slice_nil W _ _ a n c 0 0 Tryz.underlying35
 obtain ⟨ao,cap,rfl,hx⟩:=h;by_cases h0:xs=[]
 ·subst h0;cases ao with
  | none =>
   clear hx;go_enter Tryz.func41,Tryz.ntmps41;go_wp2;go_ret;exact ⟨_,o,rfl,Row.nil _ _ _ _ _,Step.refl _ _ _⟩
  | some a =>
   clear hx;go_enter Tryz.func41,Tryz.ntmps41;go_wp2;go_ret;exact ⟨_,newLab w o 5,rfl,Row.madeZ rfl,newStep _ w o 5 _⟩
 ·rcases hx with hx|⟨b,off,rfl,-,hlt,hcell⟩
  ·exact absurd hx h0
  have hpos:xs.length≠0:=fun h=>h0 (List.length_eq_zero_iff.1 h)
  have s0:=newStep (fun _=>False) w o 5 (.cells #[] 3)
  have R0:Row (w.alloc (.cells #[] 3)) (newLab w o 5) 5 3 1 (.slice (some ⟨w.heap.size,0,none⟩) 0 0) 0 []:=Row.madeZ rfl;have hnews:∀ j u,(xs.map (Value.int .i64))[j]?=some u->(w.alloc (.cells #[] 3)).cell? ((⟨b,off,none⟩:Addr).add j)=some u:=fun j u hj=>by
   rw[List.getElem?_map] at hj;cases hb:xs[j]? with
   | none=>rw[hb] at hj;cases hj
   | some t =>
    rw[hb] at hj;injection hj with hj
    subst hj;have h2:(w.alloc (.cells #[] 3)).cell? ⟨b,off+j,none⟩=w.cell? ⟨b,off+j,none⟩:=World.cell?_of_block (a:=⟨b,off+j,none⟩) (Below.heap_alloc w _ b hlt);have h3:((⟨b,off,none⟩:Addr).add j)=⟨b,off+j,none⟩:=by simp[Addr.add];try exact Eq.symm
    rw[h3,h2];exact hcell j t hb
  have hone:∀ u ∈ xs.map (Value.int .i64),u.oneCell'=true:=fun u hu=>by
   obtain ⟨x,_,rfl⟩:=List.mem_map.1 hu;rfl
  clear hcell;go_enter Tryz.func41,Tryz.ntmps41;go_wp2_with (first|(at_builtin;refine wpList_append_lab rfl (.tmp 5) (.tmp 6) 35 rfl 3 ii (.int .i64 0) 1 8 Tryz.underlying35 hii hzi0 hzi1 hzi2 rfl (by decide) _ 5 _ 0 [] rfl R0 ⟨b,off,none⟩ xs.length cap (xs.map (Value.int .i64)) rfl ?c1 hnews hone (by omega) ?c3 ?c4 ?_)|go_in)
  case c1=>simp
  case c3=>unfold maxLen;omega
  case c4=>omega
  intro g7 c7 w7 o7 r7 s7;have HS:Hid (Step (fun k=>k=5) w o w7 o7/\Row w7 o7 5 3 1 (.slice (some ⟨g7,0,none⟩) (0+xs.length) c7) xs.length (xs.map (Value.int .i64))):=by
   refine ⟨(s0.mono fun _ h=>h.elim).trans s7,?_⟩
   simp only[Nat.zero_add] at r7 ⊢;exact r7
  clear s7 r7 s0 R0 hnews hone;go_wp2;go_ret;exact ⟨_,o7,rfl,by simpa using HS.out.2,HS.out.1⟩
theorem run_append_zero {P:Program}(w:World)(t ty e:TypeId)(i:TypeInfo)(ht:P.underlying t=some (.slice e))(hi:P.info? e=some i)(ao:Option Addr)(n cap:Nat)(x:Option Addr)(c:Nat)(hnc:n<=cap) :
  (Builtin.append_ #[t,t] ty #[.slice ao n cap,.slice x 0 c]).run P w=.ok (.slice ao n cap) w:=by
 have hl:∀ a:Addr,(loadCells a 0).run P w=.ok #[] w:=fun a=>by simp[loadCells,loadCellsFrom]
 cases x <;> cases ao <;> simp[Builtin.append_,run_underlying ht,sizeOf,typeInfo,hi,Builtin.lenOf,Builtin.firstCells,hnc,storeCells,hl]
theorem wpList_append_zero {P:Program}{w:World}{ops:Array Oper}{rest:List Oper}{op:Oper}{a:Act}{Q:Exit->Act->World->Prop}(hgd:op.guard=none)(s x:Operand)(t:TypeId)
  (ho:op.op=.call { callee:=.builtin .append,args:=#[s,x],argTypes:=#[t,t] }) (e:TypeId) (i:TypeInfo) (ht:P.underlying t=some (.slice e)) (hi:P.info? e=some i)
  (ao:Option Addr) (n cap:Nat) (y:Option Addr) (c:Nat) (hs:a.eval s=.slice ao n cap) (hx:a.eval x=.slice y 0 c) (hnc:n<=cap) (h:wpList P ops Q rest (a.put op.dst (.slice ao n cap)) w):wpList P ops Q (op::rest) a w:=by
 refine wpList_plain hgd fun _ hK=>?_
 have hr:=run_append_zero (P:=P) w t op.type e i ht hi ao n cap y c hnc;unfold Oper.wp execOp;simp only[ho,resolve,invoke,builtin,Sem.run_bind,Sem.run_pure,Result.andThen_ok,List.map_toArray,List.map_cons,List.map_nil,hs,hx,hr];exact hK _ _ h
end Go.Proofs.YtaihhnlfcndecaaGreatDoor
namespace Go.Proofs.YtaihhnlfcndecaaGreatDoor
open Go.ChangeShapes Go.WideShapes Go.ChangeAt Go.RowKit
set_option linter.unusedVariables false
theorem Row.cap {w:World}{o:Nat->Nat}{i:Nat}{e:TypeId}{size:Nat}{n m cap:Nat}{ao:Option Addr}{xs:List Value}(h:Row w o i e size (.slice ao m cap) n xs):m=n/\n<=cap/\cap<=maxLen:=by
 rcases h.1.2 with ⟨hh,hk0⟩|⟨gx,cx,_,hh,_,_,hle,hm,_⟩
 ·simp only[Value.slice.injEq] at hh;obtain ⟨_,rfl,rfl⟩:=hh;exact ⟨hk0.symm,by omega,by unfold maxLen;omega⟩
 ·simp only[Value.slice.injEq] at hh;obtain ⟨_,rfl,rfl⟩:=hh;exact ⟨rfl,hle,hm⟩
theorem wpList_append_any {P:Program}{w:World}{ops:Array Oper}{rest:List Oper}{op:Oper}{a:Act}{Q:Exit->Act->World->Prop}(hgd:op.guard=none)(s x:Operand)(t:TypeId)
  (ho:op.op=.call { callee:=.builtin .append,args:=#[s,x],argTypes:=#[t,t] })
  (e:TypeId) (i:TypeInfo) (z:Value) (size bytes:Nat) (ht:P.underlying t=some (.slice e)) (hi:P.info? e=some i) (hz:i.zero=some z)
  (hsize:i.size=size) (hby:i.bytes=bytes) (hzs:z.cells.size=size) (hsz:0<size)
  (o:Nat->Nat) (lb:Nat) (v:Value) (n:Nat) (xs:List Value) (hs:a.eval s=v) (hrow:Row w o lb e size v n xs)
  (y:Option Addr) (m c:Nat) (news:List Value) (hx:a.eval x=.slice y m c) (hl:news.length=m*size) (hnews:0<m->∃ad,y=some ad/\∀ j u,news[j]?=some u->w.cell? (ad.add j)=some u) (h1:∀ u ∈ news,u.oneCell'=true)
  (h63:n+m<=maxLen) (hbytes:(n+m)*bytes<=140737488355328)
  (h:∀ ao cap w' o',Row w' o' lb e size (.slice ao (n+m) cap) (n+m) (xs++news)->Step (fun k=>k=lb) w o w' o'->wpList P ops Q rest (a.put op.dst (.slice ao (n+m) cap)) w'):wpList P ops Q (op::rest) a w:=by
 by_cases hm:0<m
 ·obtain ⟨ad,rfl,hn⟩:=hnews hm;exact wpList_append_lab hgd s x t ho e i z size bytes ht hi hz hsize hby hzs hsz o lb v n xs hs hrow ad m c news hx hl hn h1 hm h63 hbytes fun g cap w' o' r st=>h _ _ _ _ r st
 ·obtain rfl:m=0:=by omega
  obtain ⟨ao,cap,rfl⟩:=hrow.form;have hnil:news=[]:=List.eq_nil_of_length_eq_zero (by omega)
  subst hnil;refine wpList_append_zero hgd s x t ho e i ht hi ao n cap y c hs hx hrow.cap.2.1 ?_
  have:=h ao cap w o (by rw[List.append_nil];exact hrow) (Step.refl _ _ _)
  exact this
end Go.Proofs.YtaihhnlfcndecaaGreatDoor
namespace Go.Proofs.YtaihhnlfcndecaaGreatDoor
open Go.ChangeShapes Go.WideShapes Go.ChangeAt Go.RowKit
set_option linter.unusedVariables false
set_option linter.unusedSimpArgs false
def LnI (w:World)(P:Nat->Prop)(v:Value)(cells:List Int):Prop :=
 ∃g c,v=.slice (some ⟨g,0,none⟩) cells.length c/\P g/\g<w.heap.size/\cells.length+1<=c/\c<=maxLen/\(∀ j x,cells[j]?=some x->w.cell? ⟨g,j,none⟩=some (.int .i64 x))/\w.cell? ⟨g,cells.length,none⟩=some (.int .i64 (-7))
theorem LnI.mono {w w':World}{P Q:Nat->Prop}{v:Value}{xs:List Int}(hb:∀ k,P k->k<w.heap.size->w'.heap[k]?=w.heap[k]?)(hs:w.heap.size<=w'.heap.size)(hq:∀ k,P k->k<w.heap.size->Q k)(h:LnI w P v xs):LnI w' Q v xs:=by
 obtain ⟨g,c,rfl,hp,hlt,h1,h2,h3,h4⟩:=h;exact ⟨g,c,rfl,hq g hp hlt,Nat.lt_of_lt_of_le hlt hs,h1,h2,fun j u hu=>(World.cell?_of_block (a:=⟨g,j,none⟩) (hb g hp hlt)).trans (h3 j u hu),(World.cell?_of_block (a:=⟨g,xs.length,none⟩) (hb g hp hlt)).trans h4⟩
theorem LnI.below {P:Nat->Prop}{w w':World}{v:Value}{xs:List Int}(h:LnI w P v xs)(b:Below w.heap.size w w'):LnI w' P v xs:=h.mono (fun i _ hl=>b.block i hl) b.size (fun _ h _=>h)
theorem LnI.inA {w:World}{P:Nat->Prop}{v:Value}{xs:List Int}(h:LnI w P v xs):InA w v xs:=by
 obtain ⟨g,c,rfl,hp,hlt,h1,h2,h3,h4⟩:=h;exact ⟨_,c,rfl,.inr ⟨g,0,rfl,trivial,hlt,fun j x hj=>by rw[Nat.zero_add];exact h3 j x hj⟩⟩
theorem InA.news {w:World}{ao:Option Addr}{cap:Nat}{xs:List Int}(h:xs=[]\/∃b off,ao=some ⟨b,off,none⟩/\True/\b<w.heap.size/\∀ j x,xs[j]?=some x->w.cell? ⟨b,off+j,none⟩=some (.int .i64 x)):0<xs.length->∃ad,ao=some ad/\∀ j u,(xs.map (Value.int .i64))[j]?=some u->w.cell? (ad.add j)=some u:=by
 intro h0;rcases h with h|⟨b,off,rfl,-,hlt,hcell⟩
 ·rw[h] at h0;simp at h0
 ·refine ⟨_,rfl,fun j u hj=>?_⟩
  rw[List.getElem?_map] at hj;cases hb:xs[j]? with
  | none=>rw[hb] at hj;cases hj
  | some t =>
   rw[hb] at hj;injection hj with hj
   subst hj;have h3:((⟨b,off,none⟩:Addr).add j)=⟨b,off+j,none⟩:=by simp only[Addr.add];split <;> simp_all
   rw[h3];exact hcell j t hb
theorem InA.ofRow {w:World}{o:Nat->Nat}{i cap:Nat}{ao:Option Addr}{xs:List Int}(r:Row w o i 3 1 (.slice ao xs.length cap) xs.length (xs.map (Value.int .i64))):InA w (.slice ao xs.length cap) xs:=by
 refine ⟨ao,cap,rfl,?_⟩;rcases Nat.eq_zero_or_pos xs.length with h0|h0
 ·exact .inl (List.length_eq_zero_iff.1 h0)
 ·obtain ⟨g',cap',hv,-,-,-,hlt,hc,-⟩:=r.pos h0;injection hv with hv1
  refine .inr ⟨g',0,hv1,trivial,hlt,fun j x hj=>?_⟩
  have hjl:j<xs.length:=(List.getElem?_eq_some_iff.1 hj).1;rw[Nat.zero_add,hc j (by omega),List.getElem?_map,hj]
  rfl
theorem ones_int (xs:List Int):∀ u ∈ xs.map (Value.int .i64),u.oneCell'=true:=fun u hu=>by
 obtain ⟨x,_,rfl⟩:=List.mem_map.1 hu;rfl
theorem news_below {w w':World}{x:Value}{t:TypeId}(b:Below (w.alloc (.cells #[x] t)).drew.heap.size (w.alloc (.cells #[x] t)).drew w'):∀ j u,[x][j]?=some u->w'.cell? ((⟨w.heap.size,0,none⟩:Addr).add j)=some u:=fun j u hu=>by
 have h1:=new_cells_at w [x] t j u hu;have h3:((⟨w.heap.size,0,none⟩:Addr).add j)=⟨w.heap.size,j,none⟩:=by simp only[Addr.add];split <;> simp_all
 rw[h3] at h1 ⊢;exact (b.cell (p:=⟨w.heap.size,j,none⟩) (by show w.heap.size<(w.alloc _).heap.size;simp)).trans h1
theorem lp_app {n b5 c5:Nat}{w w1 W w9:World}{o1 o9:Nat->Nat}{f:Fs}(B1:Below n w w1)(hn:n<=w.heap.size)(L1:∀ k,k<n->o1 k=0)(BW:Below w1.heap.size w1 W)(S5:Spn W (Nw w1.heap.size) f b5 c5)(s9:Step (fun k=>k=5) W (newLab w1 o1 0) w9 o9) :
  Below n w w9/\Spn w9 (Nw w1.heap.size) f b5 c5/\∀ k,k<w1.heap.size->o1 k≠5->w9.heap[k]?=w1.heap[k]?:=by
 have h1:=B1.size;refine ⟨below_stepB (B1.trans (BW.mono (by omega))) s9 (fun k hk=>by rw[newLab_old (by omega),L1 k hk];decide) hn,S5.mono (fun k hp hl=>s9.block k hl (by rw[newLab_new hp];decide)) s9.size (fun k hp _=>hp),fun k hk ho=>(s9.block k (Nat.lt_of_lt_of_le hk BW.size) (by rw[newLab_old hk];exact ho)).trans (BW.block k hk)⟩
theorem lp_row {P:Nat->Prop}{w:World}{o:Nat->Nat}{g c:Nat}{cells:List Int}(r:Row w o 5 3 1 (.slice (some ⟨g,0,none⟩) (cells.length+1) c) (cells.length+1) (cells.map (Value.int .i64)++[.int .i64 (-7)]))(hg:P g):LnI w P (.slice (some ⟨g,0,none⟩) cells.length c) cells/\cells.length<=c:=by
 obtain ⟨g',cap',hv,hl,hc1,hc2,hlt,hc,_⟩:=r.pos (by omega)
 simp only[Value.slice.injEq,Option.some.injEq,Addr.mk.injEq,true_and,and_true] at hv;obtain ⟨rfl,rfl⟩:=hv;refine ⟨⟨g,c,rfl,hg,hlt,hc1,hc2,fun j x hj=>?_,?_⟩,by omega⟩
 ·have hjl:j<cells.length:=(List.getElem?_eq_some_iff.1 hj).1;rw[hc j (by omega),List.getElem?_append_left (by simpa using hjl),List.getElem?_map,hj]
  rfl
 ·rw[hc cells.length (by omega),List.getElem?_append_right (by simp)]
  simp
theorem lp_ne {z g c m:Nat}{w1 W w9:World}{o1 o9:Nat->Nat}{xs:List Value}(hz:o1 z=0)(hzl:z<w1.heap.size)(r:Row w9 o9 5 3 1 (.slice (some ⟨g,0,none⟩) m c) m xs)(s:Step (fun k=>k=5) W (newLab w1 o1 0) w9 o9)(hW:w1.heap.size<=W.heap.size):g≠z:=by
 intro h;have h1:o9 g=5:=r.2 g rfl;rw[h,s.lab z (by omega),newLab_old hzl,hz] at h1
 cases h1
theorem lp_own {n g c m:Nat}{w1 W w9:World}{o1 o9:Nat->Nat}{xs:List Value}(L:∀ k,k<n->o1 k=0)(r:Row w9 o9 5 3 1 (.slice (some ⟨g,0,none⟩) m c) m xs)(s:Step (fun k=>k=5) W (newLab w1 o1 0) w9 o9)(hW:n<=W.heap.size)(hn:n<=w1.heap.size):n<=g:=by
 rcases Nat.lt_or_ge g n with h|h
 ·have h1:o9 g=5:=r.2 g rfl;rw[s.lab g (by omega),newLab_old (by omega),L g h] at h1
  cases h1
 ·exact h
theorem set5_keep {w:World}{n0:Nat}{a0 a1 a2 a3 a4 c0 c1 c2 c3 c4:Value}(h:w.cell? ⟨n0,0,none⟩=some c0/\w.cell? ⟨n0,1,none⟩=some c1/\w.cell? ⟨n0,2,none⟩=some c2/\w.cell? ⟨n0,3,none⟩=some c3/\w.cell? ⟨n0,4,none⟩=some c4):(((((w.setCell ⟨n0+1,0,none⟩ a0).setCell ⟨n0+1,1,none⟩ a1).setCell ⟨n0+1,2,none⟩ a2).setCell ⟨n0+1,3,none⟩ a3).setCell ⟨n0+1,4,none⟩ a4).cell? ⟨n0,0,none⟩=some c0/\(((((w.setCell ⟨n0+1,0,none⟩ a0).setCell ⟨n0+1,1,none⟩ a1).setCell ⟨n0+1,2,none⟩ a2).setCell ⟨n0+1,3,none⟩ a3).setCell ⟨n0+1,4,none⟩ a4).cell? ⟨n0,1,none⟩=some c1/\(((((w.setCell ⟨n0+1,0,none⟩ a0).setCell ⟨n0+1,1,none⟩ a1).setCell ⟨n0+1,2,none⟩ a2).setCell ⟨n0+1,3,none⟩ a3).setCell ⟨n0+1,4,none⟩ a4).cell? ⟨n0,2,none⟩=some c2/\(((((w.setCell ⟨n0+1,0,none⟩ a0).setCell ⟨n0+1,1,none⟩ a1).setCell ⟨n0+1,2,none⟩ a2).setCell ⟨n0+1,3,none⟩ a3).setCell ⟨n0+1,4,none⟩ a4).cell? ⟨n0,3,none⟩=some c3/\(((((w.setCell ⟨n0+1,0,none⟩ a0).setCell ⟨n0+1,1,none⟩ a1).setCell ⟨n0+1,2,none⟩ a2).setCell ⟨n0+1,3,none⟩ a3).setCell ⟨n0+1,4,none⟩ a4).cell? ⟨n0,4,none⟩=some c4:=by
 have hb:=heap_set5 w (n0+1) n0 a0 a1 a2 a3 a4 (by omega)
 obtain ⟨h0,h1,h2,h3,h4⟩:=h;exact ⟨(World.cell?_of_block (a:=⟨n0,0,none⟩) hb).trans h0,(World.cell?_of_block (a:=⟨n0,1,none⟩) hb).trans h1,(World.cell?_of_block (a:=⟨n0,2,none⟩) hb).trans h2,(World.cell?_of_block (a:=⟨n0,3,none⟩) hb).trans h3,(World.cell?_of_block (a:=⟨n0,4,none⟩) hb).trans h4⟩
def PostLp (w:World)(e:Ex)(cells:List Int)(x:Ending)(w':World):Prop:=∃b cp v,x=.returned (plV e (some ⟨b,0,none⟩) cp v)/\Spn w' (Nw w.heap.size) e.kids b cp/\LnI w' (Nw w.heap.size) v cells/\Below w.heap.size w w'
theorem lentplan_c (e:Ex)(ao:Option Addr)(cap:Nat)(cv:Value)(cells:List Int)(w:World)(hlen:e.kids.len<=1000000000)(hsh:e.kids.short)(hc:InA w cv cells)(hcl:cells.length<=100000)(S:SnA w e.kids ao) :
  Calls Tryz.prog 17 #[plV e ao cap cv] w (PostLp w e cells):=by
 obtain ⟨ii,hii,hzi0,hzi1,hzi2⟩:=info_parts infoInt;obtain ⟨ac,cc,rfl,hx⟩:=hc;obtain ⟨w0,hw0⟩:∃w0,w0=(w.alloc (.cells #[.int .i64 e.k,.int .i64 e.n,stv e.nm,.slice ao e.kids.len cap,.slice ac cells.length cc] 37)).alloc (.cells #[.int .i64 0,.int .i64 0,.string ⟨#[]⟩,.slice none 0 0,.slice none 0 0] 37):=⟨_,rfl⟩;have B0:Below w.heap.size w w0:=by rw[hw0];exact ((Below.refl _ w).alloc (Nat.le_refl _) _).alloc (by simp) _
 have P0:w0.heap[w.heap.size]?=some (.cells #[.int .i64 e.k,.int .i64 e.n,stv e.nm,.slice ao e.kids.len cap,.slice ac cells.length cc] 37 (0,0)):=by
  rw[hw0];exact (Below.heap_alloc _ _ _ (by simp)).trans (heap_alloc_new w _)
 have Z0:w0.heap[w.heap.size+1]?=some (.cells #[.int .i64 0,.int .i64 0,.string ⟨#[]⟩,.slice none 0 0,.slice none 0 0] 37 (0,0)):=by
  rw[hw0]
  have:=heap_alloc_new (w.alloc (.cells #[.int .i64 e.k,.int .i64 e.n,stv e.nm,.slice ao e.kids.len cap,.slice ac cells.length cc] 37)) (.cells #[.int .i64 0,.int .i64 0,.string ⟨#[]⟩,.slice none 0 0,.slice none 0 0] 37)
  simpa using this
 have S0:=SnA.below S B0;obtain ⟨_,_,hx1,hx0⟩:=Inw.below (P:=fun _=>True) ⟨ac,cc,rfl,hx⟩ B0
 injection hx1 with hx1 hx2 hx3
 subst hx1;subst hx3;have hnews:=InA.news (cap:=cc) hx0;have hone:=ones_int cells;clear hx hx0 hx2;rw[plV_out];go_enter Tryz.func17,Tryz.ntmps17;go_upto_region 1 with fail;rw[<-hw0];clear hw0;obtain ⟨n0,hn0⟩:∃n0,n0=w.heap.size:=⟨_,rfl⟩;unfold PostLp;rw[<-hn0] at P0 Z0 B0 ⊢;have HB:Hid (n0=w.heap.size):=hn0;clear hn0;obtain ⟨p0,p1,p2,p3,p4,pf⟩:=box5 P0;go_wp2_with (first|(at_builtin;refine wpList_append_any rfl (.tmp 4) (.tmp 6) 35 rfl 3 ii (.int .i64 0) 1 8 Tryz.underlying35 hii hzi0 hzi1 hzi2 rfl (by decide) (fun _=>0) 5 _ 0 [] rfl (Row.nil _ _ _ _ _) ac cells.length cc (cells.map (Value.int .i64)) rfl ?c1 hnews hone ?c3 ?c4 ?_)|go_in)
 case c1=>simp
 case c3=>unfold maxLen;omega
 case c4=>omega
 intro a1 c1 w1 o1 R1 s1
 try simp only[Nat.zero_add,List.nil_append] at R1
 try simp only[Nat.zero_add,List.nil_append]
 have b1:Below w0.heap.size w0 w1:=s1.below (fun k hk=>by decide)
 have hs1:=b1.size;have P1:=(b1.block _ (lt_of_block P0)).trans P0;have Z1:=(b1.block _ (lt_of_block Z0)).trans Z0;have hzl:=lt_of_block Z1;have oP:o1 n0=0:=s1.lab n0 (lt_of_block P0);have oZ:o1 (n0+1)=0:=s1.lab (n0+1) (lt_of_block Z0);have B1:Below n0 w w1:=B0.trans (b1.mono (by have:=lt_of_block P0;omega))
 have L1:Hid (∀ k,k<n0->o1 k=0):=fun k hk=>s1.lab k (by have:=lt_of_block P0;omega)
 have S1:=SnA.below S0 b1;clear p0 p1 p2 p3 p4 pf P0 Z0 B0 S0 s1 b1 hnews hone S hs1;go_upto_region 3 with fail;obtain ⟨p0,p1,p2,p3,p4,pf⟩:=box5 P1;have Bd:Below w1.heap.size w1 w1.drew:=⟨rfl,rfl,rfl,Nat.le_refl _,fun _ _=>rfl⟩
 have Bda:=Bd.alloc (Nat.le_refl _) (.cells #[.int .i64 (-7)] 3);have hcL:=fun (wx:World) (hx:SnA wx e.kids ao)=>lentn_ok (e.kids.size+1) e ao cap wx (by omega) hlen hsh hx
 simp only[exN_out] at hcL;have hone:∀ u ∈ [Value.int .i64 (-7)],u.oneCell'=true:=by intro u hu;simp at hu;subst hu;rfl
 have q1:cells.length+1<=maxLen:=by unfold maxLen;omega
 have q2:(cells.length+1)*8<=140737488355328:=by omega
 have hgo:Hid (∀ k,k<n0->o1 k≠5):=fun k hk=>by rw[L1.out k hk];decide
 have hpl:n0<w1.heap.size:=lt_of_block P1;have k0:w1.cell? ⟨n0,0,none⟩=some (.int .i64 e.k)/\w1.cell? ⟨n0,1,none⟩=some (.int .i64 e.n)/\w1.cell? ⟨n0,2,none⟩=some (stv e.nm)/\w1.cell? ⟨n0,3,none⟩=some (.slice ao e.kids.len cap)/\w1.cell? ⟨n0,4,none⟩=some (.slice ac cells.length cc):=⟨p0,p1,p2,p3,p4⟩;have k1:w1.drew.cell? ⟨n0,0,none⟩=some (.int .i64 e.k)/\w1.drew.cell? ⟨n0,1,none⟩=some (.int .i64 e.n)/\w1.drew.cell? ⟨n0,2,none⟩=some (stv e.nm)/\w1.drew.cell? ⟨n0,3,none⟩=some (.slice ao e.kids.len cap)/\w1.drew.cell? ⟨n0,4,none⟩=some (.slice ac cells.length cc):=k0;have kA:(w1.alloc (.cells #[.int .i64 (-7)] 3)).drew.cell? ⟨n0,0,none⟩=some (.int .i64 e.k)/\(w1.alloc (.cells #[.int .i64 (-7)] 3)).drew.cell? ⟨n0,1,none⟩=some (.int .i64 e.n)/\(w1.alloc (.cells #[.int .i64 (-7)] 3)).drew.cell? ⟨n0,2,none⟩=some (stv e.nm)/\(w1.alloc (.cells #[.int .i64 (-7)] 3)).drew.cell? ⟨n0,3,none⟩=some (.slice ao e.kids.len cap)/\(w1.alloc (.cells #[.int .i64 (-7)] 3)).drew.cell? ⟨n0,4,none⟩=some (.slice ac cells.length cc):=⟨(Bda.cell (p:=⟨n0,0,none⟩) hpl).trans p0,(Bda.cell (p:=⟨n0,1,none⟩) hpl).trans p1,(Bda.cell (p:=⟨n0,2,none⟩) hpl).trans p2,(Bda.cell (p:=⟨n0,3,none⟩) hpl).trans p3,(Bda.cell (p:=⟨n0,4,none⟩) hpl).trans p4⟩
 go_region_held3 (fun wx=>wx.cell? ⟨n0,0,none⟩=some (.int .i64 e.k)/\wx.cell? ⟨n0,1,none⟩=some (.int .i64 e.n)/\wx.cell? ⟨n0,2,none⟩=some (stv e.nm)/\wx.cell? ⟨n0,3,none⟩=some (.slice ao e.kids.len cap)/\wx.cell? ⟨n0,4,none⟩=some (.slice ac cells.length cc)) (first|(with_reducible exact k9)|(with_reducible exact set5_keep k9)|(with_reducible exact k3)|(with_reducible exact k2)|(with_reducible exact kA)|(with_reducible exact k1)|(with_reducible exact k0)) ((first|(go_at_call 38;refine (hcL _ (S1.belowP (by first|exact Bd|exact Bda))).mono ?_;rintro x w5 ⟨b5,c5,rfl,S5',B5⟩;have Bw:Below w1.heap.size w1 w5:=(by first|exact Bd.trans (B5.mono (by simp))|exact Bda.trans (B5.mono (by simp)));have S5:Spn w5 (Nw w1.heap.size) e.kids b5 c5:=S5'.mono (fun _ _ _=>rfl) (Nat.le_refl _) (fun k hp _=>Nat.le_trans (by simp) hp);have k2:w5.cell? ⟨n0,0,none⟩=some (.int .i64 e.k)/\w5.cell? ⟨n0,1,none⟩=some (.int .i64 e.n)/\w5.cell? ⟨n0,2,none⟩=some (stv e.nm)/\w5.cell? ⟨n0,3,none⟩=some (.slice ao e.kids.len cap)/\w5.cell? ⟨n0,4,none⟩=some (.slice ac cells.length cc):=⟨(Bw.cell (p:=⟨n0,0,none⟩) hpl).trans p0,(Bw.cell (p:=⟨n0,1,none⟩) hpl).trans p1,(Bw.cell (p:=⟨n0,2,none⟩) hpl).trans p2,(Bw.cell (p:=⟨n0,3,none⟩) hpl).trans p3,(Bw.cell (p:=⟨n0,4,none⟩) hpl).trans p4⟩;have Bw5:=Bw.alloc Bw.size (.cells #[.int .i64 (-7)] 3);have k3:(w5.alloc (.cells #[.int .i64 (-7)] 3)).cell? ⟨n0,0,none⟩=some (.int .i64 e.k)/\(w5.alloc (.cells #[.int .i64 (-7)] 3)).cell? ⟨n0,1,none⟩=some (.int .i64 e.n)/\(w5.alloc (.cells #[.int .i64 (-7)] 3)).cell? ⟨n0,2,none⟩=some (stv e.nm)/\(w5.alloc (.cells #[.int .i64 (-7)] 3)).cell? ⟨n0,3,none⟩=some (.slice ao e.kids.len cap)/\(w5.alloc (.cells #[.int .i64 (-7)] 3)).cell? ⟨n0,4,none⟩=some (.slice ac cells.length cc):=⟨(Bw5.cell (p:=⟨n0,0,none⟩) hpl).trans p0,(Bw5.cell (p:=⟨n0,1,none⟩) hpl).trans p1,(Bw5.cell (p:=⟨n0,2,none⟩) hpl).trans p2,(Bw5.cell (p:=⟨n0,3,none⟩) hpl).trans p3,(Bw5.cell (p:=⟨n0,4,none⟩) hpl).trans p4⟩;rw[exN_out])|(refine step_append_lab rfl (.tmp 11) (.tmp 12) 35 rfl 3 ii (.int .i64 0) 1 8 Tryz.underlying35 hii hzi0 hzi1 hzi2 rfl (by decide) (newLab w1 o1 0) 5 _ cells.length (cells.map (Value.int .i64)) (by simp[Act.eval,Act.put]) ((R1.step (Below.toStepC (I:=fun _=>False) Bw) id).step (((Step.refl (fun _=>False) w5 (newLab w1 o1 0))).alloc _) id) ⟨w5.heap.size,0,none⟩ 1 1 [.int .i64 (-7)] (by simp[Act.eval,Act.put]) rfl (new_one_at (by simp) _ _) hone (by decide) q1 q2 ?_;intro g9 c9 w9 o9 r9 s9;have FZ:=lp_app B1 (by rw[HB.out];exact Nat.le_refl _) L1.out (Bw.alloc Bw.size (.cells #[.int .i64 (-7)] 3)) (S5.mono (fun i _ hl=>Below.heap_alloc w5 _ i hl) (by simp) (fun _ h _=>h)) s9;have P9:=(FZ.2.2 n0 hpl (by rw[oP];decide)).trans P1;have k9:w9.cell? ⟨n0,0,none⟩=some (.int .i64 e.k)/\w9.cell? ⟨n0,1,none⟩=some (.int .i64 e.n)/\w9.cell? ⟨n0,2,none⟩=some (stv e.nm)/\w9.cell? ⟨n0,3,none⟩=some (.slice ao e.kids.len cap)/\w9.cell? ⟨n0,4,none⟩=some (.slice ac cells.length cc):=⟨(box5 P9).1,(box5 P9).2.1,(box5 P9).2.2.1,(box5 P9).2.2.2.1,(box5 P9).2.2.2.2.1⟩;have hg9:n0<=g9:=lp_own L1.out r9 s9 (by have:=Bw.size;simp;omega) (by have:=hpl;omega);have hgz:g9≠n0+1:=lp_ne oZ hzl r9 s9 (by have:=Bw.size;simp;omega);have RZ:=lp_row (P:=fun k=>n0<=k/\k≠n0+1) r9 ⟨hg9,hgz⟩;have hc9:=RZ.2;have Z9:=(FZ.2.2 (n0+1) hzl (by rw[oZ];decide)).trans Z1;obtain ⟨z0,z1,z2,z3,z4,zf⟩:=box5 Z9)|(refine step_append_lab rfl (.tmp 11) (.tmp 12) 35 rfl 3 ii (.int .i64 0) 1 8 Tryz.underlying35 hii hzi0 hzi1 hzi2 rfl (by decide) (newLab w1 o1 0) 5 _ cells.length (cells.map (Value.int .i64)) (by simp[Act.eval,Act.put]) (R1.step (Below.toStepC (I:=fun _=>False) Bw) id) ⟨w1.heap.size,0,none⟩ 1 1 [.int .i64 (-7)] (by simp[Act.eval,Act.put]) rfl (news_below B5) hone (by decide) q1 q2 ?_;intro g9 c9 w9 o9 r9 s9;have FZ:=lp_app B1 (by rw[HB.out];exact Nat.le_refl _) L1.out Bw S5 s9;have P9:=(FZ.2.2 n0 hpl (by rw[oP];decide)).trans P1;have k9:w9.cell? ⟨n0,0,none⟩=some (.int .i64 e.k)/\w9.cell? ⟨n0,1,none⟩=some (.int .i64 e.n)/\w9.cell? ⟨n0,2,none⟩=some (stv e.nm)/\w9.cell? ⟨n0,3,none⟩=some (.slice ao e.kids.len cap)/\w9.cell? ⟨n0,4,none⟩=some (.slice ac cells.length cc):=⟨(box5 P9).1,(box5 P9).2.1,(box5 P9).2.2.1,(box5 P9).2.2.2.1,(box5 P9).2.2.2.2.1⟩;have hg9:n0<=g9:=lp_own L1.out r9 s9 (by have:=Bw.size;omega) (by have:=hpl;omega);have hgz:g9≠n0+1:=lp_ne oZ hzl r9 s9 (by have:=Bw.size;omega);have RZ:=lp_row (P:=fun k=>n0<=k/\k≠n0+1) r9 ⟨hg9,hgz⟩;have hc9:=RZ.2;have Z9:=(FZ.2.2 (n0+1) hzl (by rw[oZ];decide)).trans Z1;obtain ⟨z0,z1,z2,z3,z4,zf⟩:=box5 Z9)))
 all_goals (
  have HU:Hid (∃wz,wz=(((((w9.setCell ⟨n0+1,0,none⟩ (.int .i64 e.k)).setCell ⟨n0+1,1,none⟩ (.int .i64 e.n)).setCell ⟨n0+1,2,none⟩ (stv e.nm)).setCell ⟨n0+1,3,none⟩ (.slice (some ⟨b5,0,none⟩) e.kids.len c5)).setCell ⟨n0+1,4,none⟩ (.slice (some ⟨g9,0,none⟩) cells.length c9))/\wz.cell? ⟨n0+1,0,none⟩=some (.int .i64 e.k)/\wz.cell? ⟨n0+1,1,none⟩=some (.int .i64 e.n)/\wz.cell? ⟨n0+1,2,none⟩=some (stv e.nm)/\wz.cell? ⟨n0+1,3,none⟩=some (.slice (some ⟨b5,0,none⟩) e.kids.len c5)/\wz.cell? ⟨n0+1,4,none⟩=some (.slice (some ⟨g9,0,none⟩) cells.length c9)/\Spn wz (Nw n0) e.kids b5 c5/\LnI wz (Nw n0) (.slice (some ⟨g9,0,none⟩) cells.length c9) cells/\Below n0 w wz):=by
   obtain ⟨u0,u1,u2,u3,u4,-⟩:=box5 (set5k (.int .i64 e.k) (.int .i64 e.n) (stv e.nm) (.slice (some ⟨b5,0,none⟩) e.kids.len c5) (.slice (some ⟨g9,0,none⟩) cells.length c9) Z9);refine ⟨_,rfl,u0,u1,u2,u3,u4,FZ.2.1.mono (fun k hp _=>heap_set5 w9 (n0+1) k _ _ _ _ _ (by have hp:w1.heap.size<=k:=hp;omega)) (by simp) (fun k hp _=>by have hp:w1.heap.size<=k:=hp;show n0<=k;omega),RZ.1.mono (fun k hp _=>heap_set5 w9 (n0+1) k _ _ _ _ _ hp.2) (by simp) (fun k hp _=>hp.1),?_⟩
   exact ((((FZ.1.setCell (p:=⟨n0+1,0,none⟩) (Nat.le_succ _) _).setCell (p:=⟨n0+1,1,none⟩) (Nat.le_succ _) _).setCell (p:=⟨n0+1,2,none⟩) (Nat.le_succ _) _).setCell (p:=⟨n0+1,3,none⟩) (Nat.le_succ _) _).setCell (p:=⟨n0+1,4,none⟩) (Nat.le_succ _) _
  clear FZ RZ;go_wp2;obtain ⟨wz,hwz,v0,v1,v2,v3,v4,SZ,LZ,BZ⟩:=HU.out;rw[<-hwz];exact bodyPost_ret (v:=plV e (some ⟨b5,0,none⟩) c5 (.slice (some ⟨g9,0,none⟩) cells.length c9)) (by simp[results,Tryz.results17,go_sem,v0,v1,v2,v3,v4,plV]) rfl ⟨b5,c5,_,rfl,by rw[<-HB.out];exact SZ,by rw[<-HB.out];exact LZ,by rw[<-HB.out];exact BZ⟩)
end Go.Proofs.YtaihhnlfcndecaaGreatDoor

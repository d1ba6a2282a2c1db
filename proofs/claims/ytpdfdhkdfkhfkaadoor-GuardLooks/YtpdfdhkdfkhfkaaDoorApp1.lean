import Derived.Test.YtpdfdhkdfkhfkaaDoorGbC
set_option maxRecDepth 100000
set_option maxHeartbeats 8000000
namespace Go.Proofs.YtpdfdhkdfkhfkaaDoor
open Go.ChangeShapes Go.WideShapes Go.ChangeAt Go.RowKit
set_option linter.unusedVariables false
set_option linter.unusedSimpArgs false
def rwG:List Rw:=[⟨1,0,1⟩,⟨1,1,1⟩,⟨6,0,0⟩,⟨0,0,0⟩]
def cdG:Cd:=⟨rwG.map wdN,[1,2],[],[]⟩
theorem cdG_vrf:vrfA cdG=((2,0,1),0,0):=by decide +kernel
theorem cdG_ok:cdG.Ok:=by
 refine⟨fun u hu=>?_,fun u hu=>?_,fun u hu=>?_,fun u hu=>?_⟩
 ·simp only[cdG,List.mem_map] at hu;obtain⟨r,_,rfl⟩:=hu;exact wdN_bd r
 ·simp[cdG] at hu;omega
 ·simp[cdG] at hu
 ·simp[cdG] at hu
theorem resG:resV ((2,0,1),0,0)=.tuple #[.agg #[.int .i64 2,.int .i64 0,.int .i64 1],.int .i64 0,.int .i64 0]:=rfl
theorem resH:resV ((0,0,0),201,0)=.tuple #[.agg #[.int .i64 0,.int .i64 0,.int .i64 0],.int .i64 201,.int .i64 0]:=rfl
def rwH:List Rw:=[⟨6,0,0⟩,⟨0,0,0⟩]
def cdH:Cd:=⟨rwH.map wdN,[],[],[]⟩
theorem cdH_vrf:vrfA cdH=((0,0,0),201,0):=by decide +kernel
theorem cdH_ok:cdH.Ok:=by
 refine⟨fun u hu=>?_,fun u hu=>?_,fun u hu=>?_,fun u hu=>?_⟩
 ·simp only[cdH,List.mem_map] at hu;obtain⟨r,_,rfl⟩:=hu;exact wdN_bd r
 ·simp[cdH] at hu
 ·simp[cdH] at hu
 ·simp[cdH] at hu
theorem bdA_250:bdA 10 2 4=250:=by decide +kernel
theorem bound_250 (w:World):Calls Tryd.prog 14 #[.int .i64 10,.int .i64 2,.int .i64 4] w fun e w'=>e=.returned (.int .i64 250)/\w'=w:=by
 have h:=bound_c 10 2 4 w;rw[bdA_250] at h;exact h
abbrev bx3 (l:Nat × Nat × Nat)(w:World)(b:Nat):Prop:=w.cell? ⟨b,0,none⟩=some (.int .i64 (l.1:Nat))/\w.cell? ⟨b,1,none⟩=some (.int .i64 (l.2.1:Nat))/\w.cell? ⟨b,2,none⟩=some (.int .i64 (l.2.2:Nat))
abbrev lmA (l:Nat × Nat × Nat):Array Value:=#[.int .i64 (l.1:Nat),.int .i64 (l.2.1:Nat),.int .i64 (l.2.2:Nat)]
theorem bx3_below {l:Nat × Nat × Nat}{w w':World}{b:Nat}(h:bx3 l w b)(hb:b<w.heap.size)(B:Below w.heap.size w w'):bx3 l w' b :=
 ⟨(B.cell (p:=⟨b,0,none⟩) hb).trans h.1,(B.cell (p:=⟨b,1,none⟩) hb).trans h.2.1,(B.cell (p:=⟨b,2,none⟩) hb).trans h.2.2⟩
theorem bx3_new (l:Nat × Nat × Nat)(w:World):bx3 l (w.alloc (.cells (lmA l) 29)) w.heap.size:=by
 have h:=heap_alloc_new w (.cells (lmA l) 29);refine⟨?_,?_,?_⟩<;>(unfold World.cell?;rw[h];rfl)
abbrev rawG:Array Value:=#[.int .i64 1,.int .i64 0,.int .i64 1,.int .i64 1,.int .i64 1,.int .i64 1,.int .i64 6,.int .i64 0,.int .i64 0,.int .i64 0,.int .i64 0,.int .i64 0]
abbrev rawH:Array Value:=#[.int .i64 6,.int .i64 0,.int .i64 0,.int .i64 0,.int .i64 0,.int .i64 0]
theorem rawG_ok:∀ r ∈ rwG,r.Ok:=by
 intro r hr;simp[rwG] at hr;rcases hr with rfl|rfl|rfl|rfl<;>exact⟨by decide,by decide,by decide,by decide,by decide,by decide⟩
theorem rawH_ok:∀ r ∈ rwH,r.Ok:=by
 intro r hr;simp[rwH] at hr;rcases hr with rfl|rfl<;>exact⟨by decide,by decide,by decide,by decide,by decide,by decide⟩
theorem rawG_new {w:World}{g:Nat}(hh:w.heap[g]?=some (.cells rawG 44))(hg:g<w.heap.size):RawW w (some ⟨g,0,none⟩) rwG:=by
 refine .inr ⟨g,0,rfl,hg,fun k hk=>?_⟩;have hk2:k<4:=hk
 match k,hk2 with
 | 0,_=>refine⟨?_,?_,?_⟩<;>(unfold World.cell?;rw[hh];rfl)
 | 1,_=>refine⟨?_,?_,?_⟩<;>(unfold World.cell?;rw[hh];rfl)
 | 2,_=>refine⟨?_,?_,?_⟩<;>(unfold World.cell?;rw[hh];rfl)
 | 3,_=>refine⟨?_,?_,?_⟩<;>(unfold World.cell?;rw[hh];rfl)
theorem rawH_new {w:World}{g:Nat}(hh:w.heap[g]?=some (.cells rawH 44))(hg:g<w.heap.size):RawW w (some ⟨g,0,none⟩) rwH:=by
 refine .inr ⟨g,0,rfl,hg,fun k hk=>?_⟩;have hk2:k<2:=hk
 match k,hk2 with
 | 0,_=>refine⟨?_,?_,?_⟩<;>(unfold World.cell?;rw[hh];rfl)
 | 1,_=>refine⟨?_,?_,?_⟩<;>(unfold World.cell?;rw[hh];rfl)
theorem awake_c (w:World)(hF:Fx w)(hT:Tzg w) :
  Calls Tryd.prog 8 #[] w fun e w'=>e=.returned (.bool true)/\Below w.heap.size w w':=by
 obtain⟨g,hg⟩:∃g,g=w.heap.size:=⟨_,rfl⟩
 obtain⟨w2,hw2⟩:∃w2,w2=(w.alloc (.cells rawG 44)).alloc (.cells #[.int .i64 1,.int .i64 2] 3):=⟨_,rfl⟩
 have B2:Below g w w2:=by rw[hw2,hg];exact((Below.refl _ w).alloc (Nat.le_refl _) _).alloc (by simp) _
 have sz2:w2.heap.size=g+2:=by rw[hw2,hg];simp
 have R2:RawW w2 (some ⟨g,0,none⟩) rwG:=by
  refine rawG_new ?_ (by omega);rw[hw2,hg];exact(Below.heap_alloc _ _ _ (by simp)).trans (heap_alloc_new _ _)
 have L2:Lsv w2 (some ⟨g+1,0,none⟩) (isV [1,2]):=by
  have hh:w2.heap[g+1]?=some (.cells #[.int .i64 1,.int .i64 2] 3):=by
   have:=heap_alloc_new (w.alloc (.cells rawG 44)) (.cells #[.int .i64 1,.int .i64 2] 3)
   rw[hw2,hg];simpa using this
  refine .inr ⟨g+1,0,rfl,by omega,fun j x hx=>?_⟩
  match j,hx with
  | 0,hx=>simp[isV] at hx;subst hx;unfold World.cell?;rw[hh];rfl
  | 1,hx=>simp[isV] at hx;subst hx;unfold World.cell?;rw[hh];rfl
 have HM:=mk_c w2 (some ⟨g,0,none⟩) 4 rwG (.slice (some ⟨g+1,0,none⟩) 2 2) (.slice none 0 0) (.slice none 0 0) R2 rawG_ok (by decide) ⟨_,_,_,rfl⟩ ⟨_,_,_,rfl⟩ ⟨_,_,_,rfl⟩;have e2:rwG.length=4:=rfl;rw[e2] at HM;have HG:=Lib.hid hg;have F2:Fx w2:=hF.below (by rw[<-hg];exact B2);have T2:Tzg w2:=hT.below (by rw[<-hg];exact B2);clear hg R2 e2 hF hT;go_enter Tryd.func8,Tryd.ntmps8;go_wp2_with fail;rw[<-hw2,<-HG.out];clear hw2;refine HM.mono ?_;rintro e w3 ⟨aw,cw,rfl,LW,B3⟩;obtain⟨p,hp⟩:∃p:Pl,p=⟨aw,cw,some ⟨g+1,0,none⟩,2,none,0,none,0⟩:=⟨_,rfl⟩
 have C3:CdW w3 p cdG:=by
  rw[hp];exact⟨cdG_ok,LW,L2.below B3,.inl rfl,.inl rfl,by decide,by decide,by decide,by decide⟩
 have F3:=F2.below B3;have T3:=T2.below B3;have BB3:=bdt B2 B3 (by omega);have z3:=B3.size;have hv:(.agg #[.slice aw rwG.length cw,.slice (some ⟨g+1,0,none⟩) 2 2,.slice none 0 0,.slice none 0 0]:Value)=cdV p cdG:=by rw[hp];rfl
 rw[hv];clear HM LW L2 B3 F2 T2 hv hp;obtain⟨w4,hw4⟩:∃w4,w4=w3.alloc (.cells (cdA p cdG) 26):=⟨_,rfl⟩
 obtain⟨g4,hg4⟩:∃g4,g4=w3.heap.size:=⟨_,rfl⟩
 have B4:Below w3.heap.size w3 w4:=by rw[hw4];exact b1 _ _
 have K4:bx4 p cdG w4 g4:=by rw[hw4,hg4];exact bx4_new p cdG w3
 have C4:=C3.below B4;have F4:=F3.below B4;have T4:=T3.below B4;have BB4:=bdt BB3 B4 (by omega);have z4:=B4.size;have HG4:=Lib.hid hg4;have HV:=verify_c w4 p cdG F4 T4 C4;rw[cdG_vrf,resG] at HV;clear C3 F3 T3 B4 hg4 C4;go_upto_region 2 with fail;rw[<-hw4,<-HG4.out];clear hw4;obtain⟨k0,k1,k2,k3⟩:=K4;go_wp2_with fail;refine HV.mono ?_;rintro e w5 ⟨rfl,B5⟩;have F5:=F4.below B5;have T5:=T4.below B5;have BB5:=bdt BB4 B5 (by omega);have z5:=B5.size;clear HV B5 F4 T4 k0 k1 k2 k3;obtain⟨w6,hw6⟩:∃w6,w6=w5.alloc (.cells #[.int .i64 2,.int .i64 0,.int .i64 1] 29):=⟨_,rfl⟩
 obtain⟨g6,hg6⟩:∃g6,g6=w5.heap.size:=⟨_,rfl⟩
 have B6:Below w5.heap.size w5 w6:=by rw[hw6];exact b1 _ _
 have K6:bx3 (2,0,1) w6 g6:=by rw[hw6,hg6];exact bx3_new (2,0,1) w5
 have L6:g6<w6.heap.size:=by rw[hw6,hg6];simp
 have F6:=F5.below B6;have T6:=T5.below B6;have BB6:=bdt BB5 B6 (by omega);have z6:=B6.size;have HG6:=Lib.hid hg6;clear F5 T5 B6 hg6;go_upto_region 3 with fail;rw[<-hw6,<-HG6.out];clear hw6;obtain⟨g7,hg7⟩:∃g7,g7=w6.heap.size:=⟨_,rfl⟩
 obtain⟨w7,hw7⟩:∃w7,w7=w6.alloc (.cells rawH 44):=⟨_,rfl⟩
 have B7:Below w6.heap.size w6 w7:=by rw[hw7];exact b1 _ _
 have R7:RawW w7 (some ⟨g7,0,none⟩) rwH:=rawH_new (by rw[hw7,hg7];exact heap_alloc_new _ _) (by rw[hw7,hg7];simp);have K7:=bx3_below K6 L6 B7;have F7:=F6.below B7;have T7:=T6.below B7;have BB7:=bdt BB6 B7 (by omega);have z7:=B7.size;have L7:=Nat.lt_of_lt_of_le L6 B7.size;have HM:=mk_c w7 (some ⟨g7,0,none⟩) 2 rwH (.slice none 0 0) (.slice none 0 0) (.slice none 0 0) R7 rawH_ok (by decide) ⟨_,_,_,rfl⟩ ⟨_,_,_,rfl⟩ ⟨_,_,_,rfl⟩;have e2:rwH.length=2:=rfl;rw[e2] at HM;have HG7:=Lib.hid hg7;clear F6 T6 K6 R7 B7 hg7 e2;go_wp2_with fail;rw[<-hw7,<-HG7.out];clear hw7;refine HM.mono ?_;rintro e w8 ⟨aw8,cw8,rfl,LW,B8⟩;obtain⟨p8,hp⟩:∃p:Pl,p=⟨aw8,cw8,none,0,none,0,none,0⟩:=⟨_,rfl⟩
 have C8:CdW w8 p8 cdH:=by
  rw[hp];exact⟨cdH_ok,LW,.inl rfl,.inl rfl,.inl rfl,by decide,by decide,by decide,by decide⟩
 have F8:=F7.below B8;have T8:=T7.below B8;have K8:=bx3_below K7 L7 B8;have L8:=Nat.lt_of_lt_of_le L7 B8.size;have BB8:=bdt BB7 B8 (by omega);have z8:=B8.size;have hv:(.agg #[.slice aw8 rwH.length cw8,.slice none 0 0,.slice none 0 0,.slice none 0 0]:Value)=cdV p8 cdH:=by rw[hp];rfl
 rw[hv];clear HM LW B8 F7 T7 K7 hv hp;obtain⟨w9,hw9⟩:∃w9,w9=w8.alloc (.cells (cdA p8 cdH) 26):=⟨_,rfl⟩
 obtain⟨g9,hg9⟩:∃g9,g9=w8.heap.size:=⟨_,rfl⟩
 have B9:Below w8.heap.size w8 w9:=by rw[hw9];exact b1 _ _
 have J9:bx4 p8 cdH w9 g9:=by rw[hw9,hg9];exact bx4_new p8 cdH w8
 have C9:=C8.below B9;have F9:=F8.below B9;have T9:=T8.below B9;have K9:=bx3_below K8 L8 B9;have L9:=Nat.lt_of_lt_of_le L8 B9.size;have BB9:=bdt BB8 B9 (by omega);have z9:=B9.size;have HG9:=Lib.hid hg9;have HV:=verify_c w9 p8 cdH F9 T9 C9;rw[cdH_vrf,resH] at HV;clear C8 F8 T8 K8 B9 hg9 C9;go_upto_region 4 with fail;rw[<-hw9,<-HG9.out];clear hw9;obtain⟨j0,j1,j2,j3⟩:=J9;obtain⟨k0,k1,k2⟩:=K9;go_wp2_with fail;refine HV.mono ?_;rintro e wA ⟨rfl,BA⟩;obtain⟨q0,q1,q2⟩:=bx3_below (l:=(2,0,1)) ⟨k0,k1,k2⟩ L9 BA;have BBA:=bdt BB9 BA (by omega);have zA:=BA.size;have LA:=Nat.lt_of_lt_of_le L9 BA.size;clear HV BA F9 T9 k0 k1 k2 j0 j1 j2 j3;obtain⟨wB,hwB⟩:∃wB,wB=wA.alloc (.cells #[.int .i64 0,.int .i64 0,.int .i64 0] 29):=⟨_,rfl⟩
 obtain⟨gB,hgB⟩:∃gB,gB=wA.heap.size:=⟨_,rfl⟩
 have BB:Below wA.heap.size wA wB:=by rw[hwB];exact b1 _ _
 obtain⟨k0,k1,k2⟩:=bx3_below (l:=(2,0,1)) ⟨q0,q1,q2⟩ LA BB;have BBB:=bdt BBA BB (by omega);have HBD:=fun wx=>bound_250 wx;have HGB:=Lib.hid hgB;clear BB hgB q0 q1 q2;go_upto_region 5 with fail;rw[<-hwB,<-HGB.out];clear hwB;go_wp2_with (go_at_call 14;refine(HBD _).mono ?_;rintro e wz ⟨rfl,rfl⟩);go_ret;exact⟨by rfl,by rw[<-HG.out];exact BBB⟩
theorem run_append_zero {P:Program}(w:World)(t ty e:TypeId)(i:TypeInfo)(ht:P.underlying t=some (.slice e))(hi:P.info? e=some i)(ao:Option Addr)(n cap:Nat)(x:Option Addr)(c:Nat)(hnc:n<=cap) :
  (Builtin.append_ #[t,t] ty #[.slice ao n cap,.slice x 0 c]).run P w=.ok (.slice ao n cap) w:=by
 have hl:∀ a:Addr,(loadCells a 0).run P w=.ok #[] w:=fun a=>by simp[loadCells,loadCellsFrom]
 cases x<;>cases ao<;>simp[Builtin.append_,run_underlying ht,sizeOf,typeInfo,hi,Builtin.lenOf,Builtin.firstCells,hnc,storeCells,hl]
theorem wpList_append_zero {P:Program}{w:World}{ops:Array Oper}{rest:List Oper}{op:Oper}{a:Act}{Q:Exit->Act->World->Prop}(hgd:op.guard=none)(s x:Operand)(t:TypeId)
  (ho:op.op=.call { callee:=.builtin .append,args:=#[s,x],argTypes:=#[t,t] }) (e:TypeId) (i:TypeInfo) (ht:P.underlying t=some (.slice e)) (hi:P.info? e=some i)
  (ao:Option Addr) (n cap:Nat) (y:Option Addr) (c:Nat) (hs:a.eval s=.slice ao n cap) (hx:a.eval x=.slice y 0 c) (hnc:n<=cap) (h:wpList P ops Q rest (a.put op.dst (.slice ao n cap)) w):wpList P ops Q (op::rest) a w:=by
 refine wpList_plain hgd fun _ hK=>?_;have hr:=run_append_zero (P:=P) w t op.type e i ht hi ao n cap y c hnc;unfold Oper.wp execOp;simp only[ho,resolve,invoke,builtin,Sem.run_bind,Sem.run_pure,Result.andThen_ok,List.map_toArray,List.map_cons,List.map_nil,hs,hx,hr];exact hK _ _ h
theorem Row.cap {w:World}{o:Nat->Nat}{i:Nat}{e:TypeId}{size:Nat}{n m cap:Nat}{ao:Option Addr}{xs:List Value}(h:Row w o i e size (.slice ao m cap) n xs):m=n/\n<=cap/\cap<=maxLen:=by
 rcases h.1.2 with ⟨hh,hk0⟩|⟨gx,cx,_,hh,_,_,hle,hm,_⟩
 ·simp only[Value.slice.injEq] at hh;obtain⟨_,rfl,rfl⟩:=hh;exact⟨hk0.symm,by omega,by unfold maxLen;omega⟩
 ·simp only[Value.slice.injEq] at hh;obtain⟨_,rfl,rfl⟩:=hh;exact⟨rfl,hle,hm⟩
theorem wpList_append_any {P:Program}{w:World}{ops:Array Oper}{rest:List Oper}{op:Oper}{a:Act}{Q:Exit->Act->World->Prop}(hgd:op.guard=none)(s x:Operand)(t:TypeId)
  (ho:op.op=.call { callee:=.builtin .append,args:=#[s,x],argTypes:=#[t,t] })
  (e:TypeId) (i:TypeInfo) (z:Value) (size bytes:Nat) (ht:P.underlying t=some (.slice e)) (hi:P.info? e=some i) (hz:i.zero=some z)
  (hsize:i.size=size) (hby:i.bytes=bytes) (hzs:z.cells.size=size) (hsz:0<size)
  (o:Nat->Nat) (lb:Nat) (v:Value) (n:Nat) (xs:List Value) (hs:a.eval s=v) (hrow:Row w o lb e size v n xs)
  (y:Option Addr) (m c:Nat) (news:List Value) (hx:a.eval x=.slice y m c) (hl:news.length=m*size) (hnews:0<m->∃ad,y=some ad/\∀ j u,news[j]?=some u->w.cell? (ad.add j)=some u) (h1:∀ u ∈ news,u.oneCell'=true)
  (h63:n+m<=maxLen) (hbytes:(n+m)*bytes<=140737488355328)
  (h:∀ ao cap w' o',Row w' o' lb e size (.slice ao (n+m) cap) (n+m) (xs++news)->Step (fun k=>k=lb) w o w' o'->wpList P ops Q rest (a.put op.dst (.slice ao (n+m) cap)) w'):wpList P ops Q (op::rest) a w:=by
 by_cases hm:0<m
 ·obtain⟨ad,rfl,hn⟩:=hnews hm;exact wpList_append_lab hgd s x t ho e i z size bytes ht hi hz hsize hby hzs hsz o lb v n xs hs hrow ad m c news hx hl hn h1 hm h63 hbytes fun g cap w' o' r st=>h _ _ _ _ r st
 ·obtain rfl:m=0:=by omega
  obtain⟨ao,cap,rfl⟩:=hrow.form;have hnil:news=[]:=List.eq_nil_of_length_eq_zero (by omega);subst hnil;refine wpList_append_zero hgd s x t ho e i ht hi ao n cap y c hs hx hrow.cap.2.1 ?_
  have:=h ao cap w o (by rw[List.append_nil];exact hrow) (Step.refl _ _ _)
  exact this
end Go.Proofs.YtpdfdhkdfkhfkaaDoor

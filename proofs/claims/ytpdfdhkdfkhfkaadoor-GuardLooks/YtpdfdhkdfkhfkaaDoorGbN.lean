import Derived.Test.YtpdfdhkdfkhfkaaDoorGbA
import Derived.SizedLaws
import Derived.ShutString
import Derived.Stop.LaidErr
import Derived.Deep.DeepHandedRow
import Derived.Deep.Slices
import Derived.SliceStrings
set_option maxRecDepth 100000
set_option maxHeartbeats 8000000
namespace Go.Proofs.YtpdfdhkdfkhfkaaDoor
open Go.ChangeShapes Go.WideShapes Go.ChangeAt Go.RowKit
set_option linter.unusedVariables false
set_option linter.unusedSimpArgs false
theorem kept_c (q p:Pl)(c:Cd)(w:World)(hL:Lnt w q c)(hC:CdW w p c)(hl:CdLen c) :
  Calls Tryd.prog 12 #[cdV q c,cdV p c] w fun e w'=>e=.returned (.bool true)/\Below w.heap.size w w':=by
 obtain⟨lw,lc,ln,lk⟩:=hl;obtain⟨g,hg⟩:∃g,g=w.heap.size:=⟨_,rfl⟩
 obtain⟨w2,hw2⟩:∃w2,w2=(w.alloc (.cells (cdA q c) 26)).alloc (.cells (cdA p c) 26):=⟨_,rfl⟩
 have B1:Below g w w2:=by rw[hw2,hg];exact((Below.refl _ w).alloc (Nat.le_refl _) _).alloc (by simp) _
 have z2:w2.heap.size=g+2:=by rw[hw2,hg];simp
 have KQ:bx4 q c w2 g:=by
  rw[hw2,hg];exact bx4_below (bx4_new q c w) (by simp) (b1 _ _)
 have KP:bx4 p c w2 (g+1):=by
  have:=bx4_new p c (w.alloc (.cells (cdA q c) 26))
  rw[hw2,hg];simpa using this
 have B1':Below w.heap.size w w2:=by rw[<-hg];exact B1
 have L2:=hL.below B1';have C2:=hC.below B1';have HS:=same_yes q p c w2 L2.cd C2;have HG:=Lib.hid hg;clear hg hL hC B1';obtain⟨k0,k1,k2,k3⟩:=KQ;obtain⟨j0,j1,j2,j3⟩:=KP;go_enter Tryd.func12,Tryd.ntmps12;go_upto_region 1 with fail;rw[<-hw2,<-HG.out];clear hw2;go_wp2_with fail;refine HS.mono ?_;rintro e w3 ⟨rfl,B3⟩;have K3:=bx4_below (p:=q) (c:=c) ⟨k0,k1,k2,k3⟩ (by omega) B3;obtain⟨-,⟨ga,ea,-,ca,xa⟩,⟨gb,eb,-,cb,xb⟩,⟨gc,ec,-,cc,xc⟩,⟨gd,ed,-,cd,xd⟩⟩:=L2.below B3;have BB:=B1.trans (B3.mono (by omega));clear HS k0 k1 k2 k3 j0 j1 j2 j3 C2 L2 B3 z2 B1;obtain⟨k0,k1,k2,k3⟩:=K3;rw[ea] at k0;rw[eb] at k1;rw[ec] at k2;rw[ed] at k3;generalize q.cw=qw at *;generalize q.cc=qc at *;generalize q.cn=qn at *;generalize q.ck=qk at *;clear ea eb ec ed;generalize c.ws.length=n0 at *;generalize c.cs.length=n1 at *;generalize c.ns.length=n2 at *;generalize c.ks.length=n3 at *;have a0:(n0:Int)+1<=(qw:Int):=by omega
 have a1:(n1:Int)+1<=(qc:Int):=by omega
 have a2:(n2:Int)+1<=(qn:Int):=by omega
 have a3:(n3:Int)+1<=(qk:Int):=by omega
 go_wp2_with fail
 go_quiet (fail)
 go_wp2;go_ret;exact⟨by first|rfl|simp,by rw[<-HG.out];exact bd_drewN BB _⟩
theorem guardLooks_walk (p:Pl)(c:Cd)(w:World)(hF:Fx w)(hT:Tzg w)(hC:CdW w p c)(hl:CdLen c) :
  Calls Tryd.prog 3 #[cdV p c] w fun e w'=>e=.returned (.bool true)/\Below w.heap.size w w':=by
 obtain⟨g,hg⟩:∃g,g=w.heap.size:=⟨_,rfl⟩
 obtain⟨w1,hw1⟩:∃w1,w1=w.alloc (.cells (cdA p c) 26):=⟨_,rfl⟩
 have B1:Below w.heap.size w w1:=by rw[hw1];exact bG _ _
 have hgl:g<w1.heap.size:=by rw[hw1,hg];simp
 have K1:bx4 p c w1 g:=by rw[hw1,hg];exact bx4_new p c w
 have HG:=Lib.hid hg
 -- what stands
 have HX:Hid (∀ w',Below w1.heap.size w1 w'->bx4 p c w' g/\Fx w'/\Tzg w'/\CdW w' p c/\Below w.heap.size w w'):=fun w' B =>
  ⟨bx4_below K1 hgl B,hF.below (B1.trans (B.mono B1.size)),hT.below (B1.trans (B.mono B1.size)),hC.below (B1.trans (B.mono B1.size)),B1.trans (B.mono B1.size)⟩
 obtain⟨k0,k1,k2,k3⟩:=K1;obtain⟨-,F1,T1,C1,-⟩:=HX.out w1 (Below.refl _ _);have HA:=awake_c w1 F1 T1;obtain⟨l1,l2,l3,er,at1,hv⟩:∃l1 l2 l3 er at1,vrfA c=((l1,l2,l3),er,at1):=⟨_,_,_,_,_,rfl⟩
 have HVV:=Lib.hid hv;clear hF hT hC hg B1 F1 T1 C1;go_enter Tryd.func3,Tryd.ntmps3;go_upto_region 1 with fail;rw[<-hw1,<-HG.out];clear hw1;go_upto_region 2 with (first|(go_at_call 8;refine HA.mono ?_;rintro e w2 ⟨rfl,B2⟩))
 obtain⟨⟨k0,k1,k2,k3⟩,-,-,C2,-⟩:=HX.out w2 B2;have HV:=verifyq_c w2 p c C2;rw[HVV.out] at HV;unfold resV limV at HV;simp only at HV;obtain⟨w4,hw4⟩:∃w4:World->World,∀ w3,w4 w3=w3.alloc (.cells #[.int .i64 (l1:Nat),.int .i64 (l2:Nat),.int .i64 (l3:Nat)] 29):=⟨_,fun _=>rfl⟩
 clear HA C2 hv;go_upto_region 3 with (first|(go_at_call 9;refine HV.mono ?_;rintro e w3 ⟨rfl,B3⟩))
 rw[<-hw4];have B14:Below w1.heap.size w1 (w4 w3):=by rw[hw4];exact bdG B2 (bdG B3 (bG _ _))
 have E4:(w4 w3).heap[w3.heap.size]?=some (.cells #[.int .i64 (l1:Nat),.int .i64 (l2:Nat),.int .i64 (l3:Nat)] 29 (0,0)):=by rw[hw4];exact h1G _ _
 obtain⟨gl,hgl4⟩:∃gl,gl=w3.heap.size:=⟨_,rfl⟩
 rw[<-hgl4] at E4;have HGL:=Lib.hid hgl4;obtain⟨w5,hw5⟩:∃w5,w5=w4 w3:=⟨_,rfl⟩
 rw[<-hw5] at B14 E4;obtain⟨⟨k0,k1,k2,k3⟩,-,-,C5,-⟩:=HX.out w5 B14;have HL:=lent_c p c w5 C5 hl;rw[<-hgl4,<-hw5];clear hw5 hw4 hgl4 HV B2 B3 C5;go_upto_region 4 with (first|(go_at_call 10;refine HL.mono ?_;rintro e w6 ⟨q,rfl,LN6,B6⟩))
 obtain⟨w7,hw7⟩:∃w7,w7=w6.alloc (.cells (cdA q c) 26):=⟨_,rfl⟩
 obtain⟨gq,hgq⟩:∃gq,gq=w6.heap.size:=⟨_,rfl⟩
 have B57:Below w5.heap.size w5 w7:=by rw[hw7];exact bdG B6 (bG _ _)
 have hgql:gq<w7.heap.size:=by rw[hw7,hgq];simp
 have KQ:bx4 q c w7 gq:=by rw[hw7,hgq];exact bx4_new q c w6
 have LN7:Lnt w7 q c:=by rw[hw7];exact LN6.below (bG _ _)
 have hgll:gl<w7.heap.size:=Nat.lt_of_lt_of_le (lt_of_block E4) B57.size;have E7:=(B57.block gl (lt_of_block E4)).trans E4;have HGQ:=Lib.hid hgq;have B17:=bdG B14 B57
 -- all that stands in the rounds
 have HY:Hid (∀ w',Below w7.heap.size w7 w'->(bx4 p c w' g/\bx4 q c w' gq/\(w'.cell? ⟨gl,0,none⟩=some (.int .i64 (l1:Nat))/\w'.cell? ⟨gl,1,none⟩=some (.int .i64 (l2:Nat))/\w'.cell? ⟨gl,2,none⟩=some (.int .i64 (l3:Nat))))/\Fx w'/\Tzg w'/\CdW w' p c/\Lnt w' q c/\Below w.heap.size w w'):=fun w' B=>by
  obtain⟨x1,x2,x3,x4,x5⟩:=HX.out w' (bdG B17 B);exact⟨⟨x1,bx4_below KQ hgql B,(cells3g ((B.block gl hgll).trans E7)).1⟩,x2,x3,x4,LN7.below B,x5⟩
 rw[<-hw7,<-HGQ.out];clear hw7 hgq HX HL LN6 B6 B57 B14 B17 KQ LN7 E7 E4 k0 k1 k2 k3 hgql hgll;go_wp2_with fail;go_loopw [8] (fun v wr=>∃k:Nat,v=.int .i64 (k:Nat)/\k<=2/\Below w7.heap.size w7 wr) (fun v _=>2-(intOf v).toNat)
 case atStart=>exact⟨0,by go_num,by omega,Below.refl _ _⟩
 case round =>
  obtain⟨k,rfl,hk,BR⟩:=hrel;obtain⟨⟨⟨k0,k1,k2,k3⟩,⟨j0,j1,j2,j3⟩,⟨m0,m1,m2⟩⟩,FR,TR,CR,LR,BE⟩:=HY.out wr BR;by_cases hlt:k<2
  ·have hkI:(k:Int)<2:=by omega
   have HV:=verify_c wr q c FR TR LR.cd;rw[HVV.out] at HV;unfold resV limV at HV;simp only at HV;go_upto_region 8 with (first|(go_at_call 11;refine HV.mono ?_;rintro e w8 ⟨rfl,B8⟩))
   obtain⟨w9,hw9⟩:∃w9,w9=w8.alloc (.cells #[.int .i64 (l1:Nat),.int .i64 (l2:Nat),.int .i64 (l3:Nat)] 29):=⟨_,rfl⟩
   obtain⟨g9,hg9⟩:∃g9,g9=w8.heap.size:=⟨_,rfl⟩
   have E9:w9.heap[g9]?=some (.cells #[.int .i64 (l1:Nat),.int .i64 (l2:Nat),.int .i64 (l3:Nat)] 29 (0,0)):=by rw[hw9,hg9];exact h1G _ _
   have B79:Below w7.heap.size w7 w9:=by rw[hw9];exact bdG BR (bdG B8 (bG _ _))
   rw[<-hw9,<-hg9];obtain⟨⟨⟨k0,k1,k2,k3⟩,⟨j0,j1,j2,j3⟩,⟨m0,m1,m2⟩⟩,-,-,C9,L9,-⟩:=HY.out w9 B79;obtain⟨⟨n0,n1,n2⟩,-⟩:=cells3g E9;have HK:=kept_c q p c w9 L9 C9 hl;have HKB:Hid (∀ wa,Below w9.heap.size w9 wa->((wa.cell? ⟨gl,0,none⟩=some (.int .i64 (l1:Nat))/\wa.cell? ⟨gl,1,none⟩=some (.int .i64 (l2:Nat))/\wa.cell? ⟨gl,2,none⟩=some (.int .i64 (l3:Nat)))/\(wa.cell? ⟨g9,0,none⟩=some (.int .i64 (l1:Nat))/\wa.cell? ⟨g9,1,none⟩=some (.int .i64 (l2:Nat))/\wa.cell? ⟨g9,2,none⟩=some (.int .i64 (l3:Nat))))/\Below w7.heap.size w7 wa):=fun wa B =>
    ⟨⟨(HY.out wa (bdG B79 B)).1.2.2,(cells3g ((B.block g9 (lt_of_block E9)).trans E9)).1⟩,bdG B79 B⟩
   clear hw9 hg9 HV E9 C9 L9 FR TR CR LR B8 BE;go_upto_region 9 with (first|(go_at_call 12;refine HK.mono ?_;rintro e wa ⟨rfl,BA⟩))
   obtain⟨⟨⟨m0,m1,m2⟩,⟨n0,n1,n2⟩⟩,B7a⟩:=HKB.out wa BA;clear HKB HK k0 k1 k2 k3 j0 j1 j2 j3;go_wp2;go_roundw
   case rel=>(try ((repeat apply Exists.intro);refine⟨?_,rfl⟩));exact⟨k+1,by go_num,by omega,B7a⟩
   case measure=>simp[intOf];omega
  ·have hkI:¬(k:Int)<2:=by omega
   have HBE:=Lib.hid BE;clear FR TR CR LR BE HY;go_wp2;go_ret;exact⟨rfl,HBE.out⟩
theorem ownK:ownKnob Tryd.prog.godebug=none:=by kernel_rfl
theorem laidOut:laidOutB Tryd.prog=true:=by kernel_rfl
theorem cellsInt:Tryd.prog.cellsOf 3=1:=by kernel_rfl
theorem gWd : Tryd.prog.globalNamed "isthmus/lex.words" = some 2 := by kernel_rfl
theorem gWdType:(Tryd.prog.globals[2]?).map (·.type)=some 114:=by kernel_rfl
theorem cellsWd:Tryd.prog.cellsOf 114=27:=by kernel_rfl
theorem cellsStr:Tryd.prog.cellsOf 9=1:=by kernel_rfl
def wordsD:List (DataW Unit):=(List.range 27).map fun j=>.lit (.string (wd j).data.toList)
theorem wordsD_eq:(Rows.laid_isthmus_lex_words:DataW Unit)=.agg wordsD:=by rfl
theorem wordsA_list:wordsA.toList=(List.range 27).map fun j=>Value.string (wd j):=by rfl
theorem words_of_cells {W:World}{fuel:Nat}{cs:List Value}{p:List MemPlace}(h:DataW.trod (fun _=>()) Tryd.prog W 0 (fun _=>true) false fuel 114 cs=some (.agg wordsD,p)):cs=wordsA.toList:=by
 obtain⟨xs,m,_,hx,hl,hlen,hf⟩:=DataW.trod_array Tryd.underlying114 h;rw[cellsWd] at hl;simp only[cellsStr,Nat.mul_one] at hf;simp only[Prod.mk.injEq,DataW.agg.injEq] at hx;rw[wordsA_list];apply List.ext_getElem?;intro i;by_cases hi:i<27
 ·have hfi:=hf i hi;have hxi:xs[i]?=some xs[i]:=List.getElem?_eq_getElem (by omega);rw[hxi] at hfi;obtain⟨s,h1,h2⟩:=DataW.trod_string Tryd.underlying9 hfi;have hc:cs[i]?=some (.string s):=by
   have:=congrArg (·[0]?) h1
   simpa [List.getElem?_take,List.getElem?_drop] using this
  have hd:(xs.map (·.1))[i]?=some (.lit (.string s.data.toList)):=by rw[List.getElem?_map,hxi,h2.1];rfl
  rw[<-hx.1] at hd;unfold wordsD at hd;rw[List.getElem?_map,List.getElem?_range hi] at hd;simp only[Option.map_some,Option.some.injEq,DataW.lit.injEq,Lit.string.injEq] at hd;have hs:=bytes_eq.1 hd;rw[hc,List.getElem?_map,List.getElem?_range hi,<-hs];rfl
 ·rw[List.getElem?_eq_none (by omega),List.getElem?_eq_none (by simp;omega)]
theorem wd_of_laid {W : World} {r : List (String × DataW Unit)} (h : laidMet Tryd.prog (("isthmus/lex.words", Rows.laid_isthmus_lex_words) :: r) W) : Wd W := by
 rw[wordsD_eq] at h;obtain⟨ps,⟨g',t',cs,fuel,p,q,hg',ht',hvar,hd,_,_⟩,_⟩:=h;obtain rfl:=Option.some.inj (gWd.symm.trans hg');obtain rfl:=Option.some.inj (gWdType.symm.trans ht');have hcs:=words_of_cells hd;have hcs':cs=wordsA:=Array.toList_inj.1 hcs;subst hcs';simp only[World.var?,gWd,Option.bind_some] at hvar;split at hvar
 ·rename_i c t fr hh
  cases hvar;exact⟨t,fr,hh⟩
 ·cases hvar
def layCells (cs:Array Value):Obj->Obj
 | .cells _ t frozen=>.cells cs t frozen
 | o=>o
theorem tab_of_laid2 {W : World} {r : List (String × DataW Unit)} (h : laidMet Tryd.prog (("isthmus/pack.fields", Rows.laid_isthmus_pack_fields) :: r) W) : Tab W := by
 obtain⟨ps,⟨g',t',cs,fuel,p,q,hg',ht',hvar,hd,_,_⟩,_⟩:=h;obtain rfl:=Option.some.inj (gTab.symm.trans hg');obtain rfl:=Option.some.inj (gTabType.symm.trans ht');obtain⟨xs,m,_,hx,hl,hlen,hf⟩:=DataW.trod_array Tryd.underlying117 hd;rw[cellsTab] at hl;simp only[cellsField] at hf
 match xs,hlen with
 | [x0,x1,x2],_ =>
  have f0:=hf 0 (by omega);have f1:=hf 1 (by omega);have f2:=hf 2 (by omega);simp only[Rows.laid_isthmus_pack_fields,List.map_cons,List.map_nil,Prod.mk.injEq,DataW.agg.injEq,List.cons.injEq,and_true] at hx;obtain⟨⟨e0,e1,e2⟩,_⟩:=hx;obtain⟨d0,p0⟩:=x0;obtain⟨d1,p1⟩:=x1;obtain⟨d2,p2⟩:=x2;simp only at e0 e1 e2;subst e0 e1 e2;have g0:=field_cells f0;have g1:=field_cells f1;have g2:=field_cells f2;obtain⟨l⟩:=cs
  match l,hl with
  | [v0,v1,v2,v3,v4,v5],_ =>
   simp at g0 g1 g2;obtain⟨rfl,rfl⟩:=g0;obtain⟨rfl,rfl⟩:=g1;obtain⟨rfl,rfl⟩:=g2;have hc:=fun i=>World.var?_cell gTab hvar i;have c0:=hc 0;have c1:=hc 1;have c2:=hc 2;have c3:=hc 3;have c4:=hc 4;have c5:=hc 5;simp at c0 c1 c2 c3 c4 c5;refine⟨c0,c1,c2,c3,c4,c5,?_⟩;by_cases hs:3<W.heap.size
   ·exact hs
   ·exfalso
    have:W.heap[3]?=none:=Array.getElem?_eq_none (by omega)
    simp[World.cell?,this] at c0
theorem gRul : Tryd.prog.globalNamed "isthmus/code.rules" = some 1 := by kernel_rfl
theorem gRulType:(Tryd.prog.globals[1]?).map (·.type)=some 109:=by kernel_rfl
theorem cellsRul:Tryd.prog.cellsOf 109=56:=by kernel_rfl
theorem cellsRu1:Tryd.prog.cellsOf 108=2:=by kernel_rfl
def rulesD:List (DataW Unit):=(List.range 28).map fun j=>.agg [.lit (.int .i64 (rulA.getD j 0:Nat)),.lit (.int .i64 (rulB.getD j 0:Nat))]
theorem rulesD_eq:(Rows.laid_isthmus_code_rules:DataW Unit)=.agg rulesD:=by rfl
theorem rule_cells {W:World}{m:Nat}{l:List Value}{a b:Int}{p:List MemPlace}
  (h:DataW.trod (fun _=>()) Tryd.prog W 0 (fun _=>true) false m 108 l=some (.agg [.lit (.int .i64 a),.lit (.int .i64 b)],p)):l=[.int .i64 a,.int .i64 b]:=by
 obtain⟨y0,y1,n,hx,hl,h0,h1⟩:=trod_struct2 Tryd.underlying108 h;simp only[Prod.mk.injEq,DataW.agg.injEq,List.cons.injEq,and_true] at hx;obtain⟨⟨e0,e1⟩,_⟩:=hx;obtain⟨z0,c0,r0,_⟩:=DataW.trod_int Tryd.underlying3 h0;obtain⟨z1,c1,r1,_⟩:=DataW.trod_int Tryd.underlying3 h1;subst r0 r1;simp only[DataW.lit.injEq,Lit.int.injEq,true_and] at e0 e1;subst e0 e1;rw[cellsRu1] at hl;simp only[cellsInt] at c0 c1
 match l,hl with
 | [v0,v1],_ =>
  simp at c0 c1;rw[c0,c1]
theorem rul_of_laid {W : World} {r : List (String × DataW Unit)} (h : laidMet Tryd.prog (("isthmus/code.rules", Rows.laid_isthmus_code_rules) :: r) W) : Rul W := by
 rw[rulesD_eq] at h;obtain⟨ps,⟨g',t',cs,fuel,p,q,hg',ht',hvar,hd,_,_⟩,_⟩:=h;obtain rfl:=Option.some.inj (gRul.symm.trans hg');obtain rfl:=Option.some.inj (gRulType.symm.trans ht');obtain⟨xs,m,_,hx,hl,hlen,hf⟩:=DataW.trod_array Tryd.underlying109 hd;rw[cellsRul] at hl;simp only[cellsRu1] at hf;simp only[Prod.mk.injEq,DataW.agg.injEq] at hx;have hc:=fun i=>World.var?_cell gRul hvar i;have key:∀ o,o<28->cs[o*2]?=some (.int .i64 (rulA.getD o 0:Nat))/\cs[o*2+1]?=some (.int .i64 (rulB.getD o 0:Nat)):=fun o ho=>by
  have hfi:=hf o ho;have hxi:xs[o]?=some xs[o]:=List.getElem?_eq_getElem (by omega);rw[hxi] at hfi;have hd:(xs.map (·.1))[o]?=some (xs[o].1):=by rw[List.getElem?_map,hxi];rfl
  rw[<-hx.1] at hd;unfold rulesD at hd;rw[List.getElem?_map,List.getElem?_range ho] at hd;simp only[Option.map_some,Option.some.injEq] at hd;have g:=rule_cells (p:=xs[o].2) (hfi.trans (congrArg some (Prod.ext hd.symm rfl)));have h0:((cs.toList.drop (o*2)).take 2)[0]?=some (.int .i64 (rulA.getD o 0:Nat)):=by rw[g];rfl
  have h1:((cs.toList.drop (o*2)).take 2)[1]?=some (.int .i64 (rulB.getD o 0:Nat)):=by rw[g];rfl
  simp only[List.getElem?_take,List.getElem?_drop] at h0 h1;exact⟨by simpa using h0,by simpa using h1⟩
 refine⟨?_,fun o ho=>⟨(hc (o*2)).trans (key o ho).1,(hc (o*2+1)).trans (key o ho).2⟩⟩;by_cases hs:1<W.heap.size
 ·exact hs
 ·exfalso;have h0:=(hc (0*2)).trans (key 0 (by omega)).1
  have:W.heap[1]?=none:=Array.getElem?_eq_none (by omega)
  simp[World.cell?,this] at h0
theorem gDe : Tryd.prog.globalNamed "math/bits.deBruijn64tab" = some 0 := by kernel_rfl
theorem gDeType:(Tryd.prog.globals[0]?).map (·.type)=some 94:=by kernel_rfl
theorem cellsDe:Tryd.prog.cellsOf 94=64:=by kernel_rfl
theorem cellsByte:Tryd.prog.cellsOf 5=1:=by kernel_rfl
def deZ:List Int:=Lib.deBruijn64tab.map (fun (n:Nat)=>(n:Int))
theorem deZ_eq:(Rows.laid_math_bits_deBruijn64tab:DataW Unit)=Lib.tabData .u8 deZ:=by rfl
theorem tz_of_laid {W : World} {r : List (String × DataW Unit)} (h : laidMet Tryd.prog (("math/bits.deBruijn64tab", Rows.laid_math_bits_deBruijn64tab) :: r) W) : Tzg W := by
 rw[deZ_eq] at h;have hT:=Lib.tabIs_of_head gDe gDeType Tryd.underlying94 Tryd.underlying5 cellsByte cellsDe h;refine⟨fun j hj=>?_,?_⟩
 ·rw[hT.cell gDe j (by simpa [deZ] using hj)];simp[deZ,List.getD,List.getElem?_eq_getElem hj]
 ·have c0:=hT.cell gDe 0 (by decide);by_cases hs:0<W.heap.size
  ·exact hs
  ·exfalso
   have:W.heap[0]?=none:=Array.getElem?_eq_none (by omega)
   simp[World.cell?,this] at c0
abbrev laidG : List (String × DataW Unit) := [("isthmus/pack.fields", Rows.laid_isthmus_pack_fields), ("math/bits.deBruijn64tab", Rows.laid_math_bits_deBruijn64tab), ("isthmus/lex.words", Rows.laid_isthmus_lex_words), ("isthmus/code.rules", Rows.laid_isthmus_code_rules)]
theorem fx_of_laid {W:World}(h:laidMet Tryd.prog laidG W):Fx W:=⟨tab_of_laid2 h,rul_of_laid h.tail.tail.tail,wd_of_laid h.tail.tail⟩
theorem tz_of_laidG {W:World}(h:laidMet Tryd.prog laidG W):Tzg W:=tz_of_laid h.tail
def rulesA:Array Value:=((List.range 56).map fun j=>if j % 2=0 then Value.int .i64 (rulA.getD (j / 2) 0:Nat) else .int .i64 (rulB.getD (j / 2) 0:Nat)).toArray
def laidWorld (P:Program)(os:Os):World :=
 let w0:=World.holding P os ⟨#[],#[],[]⟩
 { w0 with heap:=((((w0.heap.modify 0 (layCells (deZ.map fun z=>Value.int .u8 z).toArray)).modify 3 (layCells #[.int .u64 56,.int .u64 255,.int .u64 28,.int .u64 268435455,.int .u64 0,.int .u64 268435455]))).modify 2 (layCells wordsA)).modify 1 (layCells rulesA) }
theorem cellsWs:Tryd.prog.cellsOf 22=1:=by kernel_rfl
theorem cellsIs:Tryd.prog.cellsOf 23=1:=by kernel_rfl
theorem cellsSs:Tryd.prog.cellsOf 24=1:=by kernel_rfl
theorem cellsCd:Tryd.prog.cellsOf 26=4:=by kernel_rfl
theorem cellsU64:Tryd.prog.cellsOf 53=1:=by kernel_rfl
def Wgh {H:Type}(d:DataW H)(n:Nat):Prop:=(d=.nil/\n=0)\/∃es sp,d=.slice es sp/\n<=es.length+sp.length
theorem lsv_of {W:World}{a:Addr}{len cap:Nat}{vs:List Value}(hl:len<=vs.length)(hc:∀ i (h:i<vs.length),W.cell? (a.add i)=some vs[i])(hb:0<len->a.block<W.heap.size):Lsv W (some a) (vs.take len):=by
 by_cases h0:len=0
 ·exact .inl (by simp[h0])
 ·obtain⟨b,off,spot⟩:=a;have h1:=hc 0 (by omega);have hspot:spot=none:=by simpa [Addr.add] using World.cell?_spot h1
  subst hspot;refine .inr ⟨b,off,rfl,hb (by omega),fun j x hj=>?_⟩;rw[List.getElem?_take] at hj;split at hj
  ·have hj2:=List.getElem?_eq_some_iff.1 hj;obtain⟨h2,h3⟩:=hj2
   have:=hc j h2
   rw[Addr.add_mid] at this;rw[this,h3]
  ·cases hj
theorem opn_ints {H:Type}{enc:TypeId × Value->H}{W:World}{k:IntKind}{t e:TypeId}{fuel:Nat}{u:Value}{x:DataW H × List MemPlace}(ht:Tryd.prog.underlying t=some (.slice e))(he:Tryd.prog.underlying e=some (.int k))(hc:Tryd.prog.cellsOf e=1)
  (h:DataW.trod enc Tryd.prog W 0 (fun _=>true) true fuel t [u]=some x) (hlt:∀ q ∈ x.2,q.block<W.heap.size) :
  ∃(ao:Option Addr) (cap:Nat) (zs:List Int),u=.slice ao zs.length cap/\Lsv W ao (zs.map (.int k ·))/\(∀ n ∈ zs,(Lit.int k n).wf=true)/\zs.length<=maxLen/\Wgh x.1 zs.length:=by
 rcases open_ints ht he hc h with ⟨hcs,hx⟩|⟨a,len,cap,zs,hcs,_,hl,hm,hz,hx,hcell,hwz⟩
 ·simp at hcs;exact⟨none,0,[],hcs,.inl rfl,by simp,by unfold maxLen;simp,.inl ⟨by rw[hx],rfl⟩⟩
 ·simp at hcs;simp only[if_true] at hz;have hlz:(zs.take len).length=len:=by rw[List.length_take];omega
  refine⟨some a,cap,zs.take len,by rw[hlz];exact hcs,?_,fun n hn=>hwz n (List.mem_of_mem_take hn),by rw[hlz];exact Nat.le_trans hl hm,.inr ⟨_,_,by rw[hx],by simp[lits]<;>omega⟩⟩;rw[List.map_take];refine lsv_of (cap:=cap) (by simp;omega) (fun i hi=>?_) (fun h0=>?_)
  ·have hi':i<zs.length:=by simpa using hi
   have:=hcell i hi'
   rw[this];simp[List.getD_eq_getElem?_getD,List.getElem?_eq_getElem hi']
  ·have:=hlt (.cell a.block a.off) (by
    rw[hx];exact MemPlace.mem_row.2 ⟨0,by omega,by simp⟩)
   exact this
theorem opn_strs {H:Type}{enc:TypeId × Value->H}{W:World}{fuel:Nat}{u:Value}{x:DataW H × List MemPlace}
  (h:DataW.trod enc Tryd.prog W 0 (fun _=>true) true fuel 24 [u]=some x) (hlt:∀ q ∈ x.2,q.block<W.heap.size) :
  ∃(ao:Option Addr) (cap:Nat) (zs:List ByteArray),u=.slice ao zs.length cap/\Lsv W ao (nsV zs)/\(∀ n ∈ zs,n.size<=maxLen)/\zs.length<=maxLen/\Wgh x.1 zs.length:=by
 rcases open_strings Tryd.underlying24 Tryd.underlying9 cellsStr h with ⟨hcs,hx⟩|⟨a,len,cap,zs,hcs,_,hl,hm,hz,hx,hcell,hwz⟩
 ·simp at hcs;exact⟨none,0,[],hcs,.inl rfl,by simp,by unfold maxLen;simp,.inl ⟨by rw[hx],rfl⟩⟩
 ·simp at hcs;simp only[if_true] at hz;have hlz:(zs.take len).length=len:=by rw[List.length_take];omega
  refine⟨some a,cap,zs.take len,by rw[hlz];exact hcs,?_,fun n hn=>hwz n (List.mem_of_mem_take hn),by rw[hlz];exact Nat.le_trans hl hm,.inr ⟨_,_,by rw[hx],by simp[strs]<;>omega⟩⟩;unfold nsV;rw[List.map_take];refine lsv_of (cap:=cap) (by simp;omega) (fun i hi=>?_) (fun h0=>?_)
  ·have hi':i<zs.length:=by simpa using hi
   have:=hcell i hi'
   rw[this];simp[List.getD_eq_getElem?_getD,List.getElem?_eq_getElem hi']
  ·have:=hlt (.cell a.block a.off) (by
    rw[hx];exact MemPlace.mem_row.2 ⟨0,by omega,by simp⟩)
   exact this
theorem open_code {H:Type}{enc:TypeId × Value->H}{W:World}{v:Value}{d:DataW H}{ps:List MemPlace}(h:DataW.Trod enc Tryd.prog W 0 (fun _=>true) true 26 v d ps)(hlt:∀ q ∈ ps,q.block<W.heap.size) :
  ∃(p:Pl) (c:Cd) (d0 d1 d2 d3:DataW H),v=cdV p c/\CdW W p c/\d=.agg [d0,d1,d2,d3]/\Wgh d0 c.ws.length/\Wgh d1 c.cs.length/\Wgh d2 c.ns.length/\Wgh d3 c.ks.length:=by
 obtain⟨fuel,hf⟩:=h;obtain⟨xs,k,hk,hxy,hl,hxl,hff⟩:=DataW.trod_struct Tryd.underlying26 hf;rw[cellsCd] at hl;obtain⟨cs,hcs⟩:∃cs,cs=v.cells.toList:=⟨_,rfl⟩
 rw[<-hcs] at hl hff
 match xs,hxl,cs,hl with
 | [y0,y1,y2,y3],_,[u0,u1,u2,u3],_ =>
  have g0:=hff 0 _ rfl;have g1:=hff 1 _ rfl;have g2:=hff 2 _ rfl;have g3:=hff 3 _ rfl;simp[cellsWs,cellsIs,cellsSs] at g0 g1 g2 g3;have hps:ps=[y0,y1,y2,y3].flatMap (·.2):=congrArg Prod.snd hxy;have hd:d=.agg [y0.1,y1.1,y2.1,y3.1]:=congrArg Prod.fst hxy;obtain⟨a0,c0,z0,rfl,l0,w0,m0,n0⟩:=opn_ints Tryd.underlying22 Tryd.underlying53 cellsU64 g0 (fun q hq=>hlt q (by rw[hps];simp[hq]));obtain⟨a1,c1,z1,rfl,l1,w1,m1,n1⟩:=opn_ints Tryd.underlying23 Tryd.underlying3 cellsInt g1 (fun q hq=>hlt q (by rw[hps];simp[hq]));obtain⟨a2,c2,z2,rfl,l2,w2,m2,n2⟩:=opn_strs g2 (fun q hq=>hlt q (by rw[hps];simp[hq]));obtain⟨a3,c3,z3,rfl,l3,w3,m3,n3⟩:=opn_ints Tryd.underlying23 Tryd.underlying3 cellsInt g3 (fun q hq=>hlt q (by rw[hps];simp[hq]));unfold maxLen at m0 m1 m2 m3;refine⟨⟨a0,c0,a1,c1,a2,c2,a3,c3⟩,⟨z0,z1,z2,z3⟩,y0.1,y1.1,y2.1,y3.1,?_,⟨⟨fun u hu=>bd_u64 (w0 u hu),fun u hu=>bd_i64 (w1 u hu),fun u hu=>bd_i64 (w3 u hu),w2⟩,l0,l1,l2,l3,by omega,by omega,by omega,by omega⟩,hd,n0,n1,n2,n3⟩;have hcs':v.cells=#[.slice a0 z0.length c0,.slice a1 z1.length c1,.slice a2 z2.length c2,.slice a3 z3.length c3]:=by
   apply Array.toList_inj.1;rw[<-hcs]
  cases v with
  | agg cs=>rw[show (Value.agg cs).cells=cs from rfl] at hcs';rw[hcs']
  | _=>have h5:=congrArg Array.size hcs';simp[Value.cells] at h5
theorem wgh_one {H:Type}{ts:List TypeId}{ds:List (DataW H)}{B:Nat}(hall:∀ n ∈ DataW.weightsEach Tryd.prog ts ds,n<=B){j:Nat}{t e:TypeId}{d:DataW H}{n k:Nat}(ht:ts[j]?=some t)(hd:ds[j]?=some d)(hu:Tryd.prog.underlying t=some (.slice e))(hb:Tryd.prog.bytesOf e=k)(g:Wgh d n):n*k<=B:=by
 rcases g with ⟨_,h⟩|⟨es,sp,rfl,hl⟩
 ·subst h;omega
 ·have:=hall _ (DataW.weights_mem_each ht hd ((es.length+sp.length)*Tryd.prog.bytesOf e) (by simp[DataW.weights,hu]))
  rw[hb] at this;exact Nat.le_trans (Nat.mul_le_mul_right _ hl) this
theorem code_lens {H:Type}{ts:List TypeId}{ds:List (DataW H)}{d0 d1 d2 d3:DataW H}{c:Cd}(hsz:(DataW.weightsEach Tryd.prog (26::ts) (.agg [d0,d1,d2,d3]::ds)).all (·<=reachBytes)=true)
  (g0:Wgh d0 c.ws.length) (g1:Wgh d1 c.cs.length) (g2:Wgh d2 c.ns.length) (g3:Wgh d3 c.ks.length):CdLen c:=by
 have hall:∀ n ∈ DataW.weightsEach Tryd.prog [22,23,24,23] [d0,d1,d2,d3],n<=140737488351232:=fun n hn=>by
  have:=List.all_eq_true.1 hsz n (DataW.weights_mem_each (j:=0) rfl rfl n (by
   simp only[DataW.weights,Tryd.underlying26];exact hn))
  exact of_decide_eq_true this
 exact⟨wgh_one hall (j:=0) rfl rfl Tryd.underlying22 (by kernel_rfl) g0,wgh_one hall (j:=1) rfl rfl Tryd.underlying23 (by kernel_rfl) g1,wgh_one hall (j:=2) rfl rfl Tryd.underlying24 (by kernel_rfl) g2,wgh_one hall (j:=3) rfl rfl Tryd.underlying23 (by kernel_rfl) g3⟩
end Go.Proofs.YtpdfdhkdfkhfkaaDoor

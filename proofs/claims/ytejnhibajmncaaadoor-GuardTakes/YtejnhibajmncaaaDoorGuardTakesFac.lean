import Derived.Test.YtejnhibajmncaaaDoorNstA
import Derived.SizedLaws
import Derived.ShutString
import Derived.Stop.LaidErr
import Derived.Deep.DeepHandedRow
import Derived.Test.YtejnhibajmncaaaDoorCards
import Derived.Test.YtejnhibajmncaaaDoorTie
set_option maxRecDepth 100000
set_option maxHeartbeats 8000000
namespace Go.Proofs.YtejnhibajmncaaaDoor
open Go.ChangeShapes Go.WideShapes Go.ChangeAt Go.RowKit
set_option linter.unusedVariables false
set_option linter.unusedSimpArgs false
theorem hvE_notK {e:Ex}{cells:List Int}(h:hvP e cells=false):cells.length<=20000/\e.kids.size<=20000:=by
 unfold hvP at h;simp only[Bool.or_eq_false_iff,decide_eq_false_iff_not] at h;have h1:=wgF_size e.kids (20000-1) (by omega);omega
theorem guardTakes_walk (e:Ex)(ao:Option Addr)(cap:Nat)(cv:Value)(cells:List Int)(w:World)(hlen:e.kids.len<=maxLen)(hwd:e.kids.wide)(hfit:e.kids.size<=100000000->FitN e/\(-9223372036854775808<=e.n/\e.n<=9223372036854775807)/\e.kids.rng)(S:SnA w e.kids ao)(hc:InA w cv cells)(hcl:cells.length<=maxLen)(hF:Fx w)(hT:Tzg w) :
  Calls Tryd.prog 3 #[plV e ao cap cv] w fun x w'=>x=.returned (.bool true)/\Below w.heap.size w w':=by
 obtain⟨ac,cc,hcv,hx⟩:=hc;have hc:InA w cv cells:=⟨ac,cc,hcv,hx⟩
 subst hcv;clear hx;obtain⟨g,hg⟩:∃g,g=w.heap.size:=⟨_,rfl⟩
 obtain⟨w0,hw0⟩:∃w0,w0=w.alloc (.cells #[.int .i64 e.k,.int .i64 e.n,stv e.nm,.slice ao e.kids.len cap,.slice ac cells.length cc] 27):=⟨_,rfl⟩
 have b0:Below w.heap.size w w0:=by rw[hw0];exact b1G _ _
 have P0:w0.heap[g]?=some (.cells #[.int .i64 e.k,.int .i64 e.n,stv e.nm,.slice ao e.kids.len cap,.slice ac cells.length cc] 27):=by rw[hw0,hg];exact heap_alloc_new _ _
 have L0:g<w0.heap.size:=lt_of_block P0;have B0:Below g w w0:=by rw[hg];exact b0
 have c1:=heavy14_c e ao cap 0 _ cells w0 (hc.below b0) hcl hlen hwd (SnA.below S b0);rw[plV_out] at c1 ⊢;have HG:=Lib.hid hg;clear hg;obtain⟨p0,p1,p2,p3,p4⟩:=cells5e P0;go_enter Tryd.func3,Tryd.ntmps3;go_upto_region 1 with fail;rw[<-hw0,<-HG.out];clear hw0;go_wp2_with fail;refine c1.mono ?_;rintro x w1 ⟨rfl,b1'⟩;have P1:=(b1'.block g L0).trans P0;have bb1:=b0.trans (b1'.mono b0.size);have B1:Below g w w1:=B0.trans (b1'.mono (Nat.le_of_lt L0));have L1:=lt_of_block P1;clear c1 p0 p1 p2 p3 p4;cases hh:hvP e cells with
 | true =>
  clear hh;go_wp2;go_ret;exact⟨rfl,by rw[<-HG.out];exact B1⟩
 | false =>
 obtain⟨hcl2,hsz⟩:=hvE_notK hh;obtain⟨hf,hn,hr⟩:=hfit (by omega);clear hh hfit;have c2:=awake_cG w1 (hF.below bb1) (hT.below bb1);go_upto_region 4 with (first|(go_at_call 5;refine c2.mono ?_;rintro x w2 ⟨rfl,b2⟩))
 have P2:=(b2.block g L1).trans P1;have bb2:=bb1.trans (b2.mono bb1.size);have B2:Below g w w2:=B1.trans (b2.mono (Nat.le_of_lt L1));have L2:=lt_of_block P2;have c3:=(emitd_c e ao cap _ cells w2 hf hn hr (hc.below bb2) (by omega) (SnA.below S bb2)).mono fun x w' h=>EmOd.g (e:=e) (cells:=cells) (fun hk=>(kindP_ok hk hn hr).1) h;rw[plV_out] at c3;obtain⟨p0,p1,p2,p3,p4⟩:=cells5e P2;clear c2 P0 P1 b0 b1' bb1 B0 B1 L0 L1 b2;go_wp2_with fail;refine c3.mono ?_;rintro x w3 ⟨b3,h3⟩;have P3:=(b3.block g L2).trans P2;have bb3:=bb2.trans (b3.mono bb2.size);have B3:Below g w w3:=B2.trans (b3.mono (Nat.le_of_lt L2));have L3:=lt_of_block P3;clear c3 P2 B2 L2 p0 p1 p2 p3 p4 b3;rcases h3 with ⟨er,hne,rfl⟩|⟨hk,p,rfl,C3,st,rd,hv,s1,s2,s3⟩
 ·go_wp2;go_ret;exact⟨rfl,by rw[<-HG.out];exact B3.alloc (Nat.le_of_lt L3) _⟩
 ·obtain⟨m,hm⟩:∃m,m=(kindP cells e).toNat:=⟨_,rfl⟩
  have hkm:kindP cells e=(m:Nat):=by have:=kindP_pos hk (kindP_ok hk hn hr).1;omega
  rw[<-hm] at hv;clear hm;have HKM:Hid (kindP cells e=(m:Nat)):=hkm;clear hkm;obtain⟨c,hcd⟩:∃c,c=cdM (emA cells e):=⟨_,rfl⟩
  rw[<-hcd] at C3 hv ⊢;clear hcd;obtain⟨w4,hw4⟩:∃w4,w4=w3.alloc (.cells (cdA p c) 33):=⟨_,rfl⟩
  obtain⟨g4,hg4⟩:∃g4,g4=w3.heap.size:=⟨_,rfl⟩
  have B4:Below w3.heap.size w3 w4:=by rw[hw4];exact b1G _ _
  have K4:bx4 p c w4 g4:=by rw[hw4,hg4];exact bx4_new p c w3
  have P4:=(B4.block g L3).trans P3;have bb4:=bb3.trans (B4.mono bb3.size);have BB4:Below g w w4:=B3.trans (B4.mono (Nat.le_of_lt L3));have HV:=verify_c w4 p c (hF.below bb4) (hT.below bb4) (C3.below B4);have hrv:resV ((st,rd,m),0,0)=.tuple #[.agg #[.int .i64 (st:Nat),.int .i64 (rd:Nat),.int .i64 (m:Nat)],.int .i64 0,.int .i64 0]:=rfl;rw[hv,hrv] at HV;have L4:=lt_of_block P4;have HG4:=Lib.hid hg4;clear P3 bb3 B3 L3 hg4 hrv hv C3 B4;go_upto_region 7 with fail;rw[<-hw4,<-HG4.out];clear hw4;obtain⟨k0,k1,k2,k3⟩:=K4;go_wp2_with fail;refine HV.mono ?_;rintro x w5 ⟨rfl,b5⟩;have P5:=(b5.block g L4).trans P4;have bb5:=bb4.trans (b5.mono bb4.size);have B5:Below g w w5:=BB4.trans (b5.mono (Nat.le_of_lt L4));have L5:=lt_of_block P5;clear HV k0 k1 k2 k3 P4 bb4 BB4 L4 b5;obtain⟨w6,hw6⟩:∃w6,w6=w5.alloc (.cells #[.int .i64 (st:Nat),.int .i64 (rd:Nat),.int .i64 (m:Nat)] 38):=⟨_,rfl⟩
  obtain⟨g6,hg6⟩:∃g6,g6=w5.heap.size:=⟨_,rfl⟩
  have B6:Below w5.heap.size w5 w6:=by rw[hw6];exact b1G _ _
  have J6:w6.heap[g6]?=some (.cells #[.int .i64 (st:Nat),.int .i64 (rd:Nat),.int .i64 (m:Nat)] 38 (0,0)):=by rw[hw6,hg6];exact heap_alloc_new _ _
  have P6:=(B6.block g L5).trans P5;have bb6:=bb5.trans (B6.mono bb5.size);have BB6:Below g w w6:=B5.trans (B6.mono (Nat.le_of_lt L5));have HK:∀ wx,Below w6.heap.size w6 wx->Calls Tryd.prog 8 #[plV e ao cap (.slice ac cells.length cc)] wx fun x w'=>x=.returned (.int .i64 (kindP cells e))/\Below wx.heap.size wx w':=fun wx b=>kind14_c e ao cap _ cells wx hf (hc.below (bb6.trans (b.mono bb6.size))) (by omega) (SnA.below S (bb6.trans (b.mono bb6.size)));have HN:∀ wx,Below w6.heap.size w6 wx->Calls Tryd.prog 9 #[exN e ao cap] wx fun x w'=>x=.returned (.int .i64 (nesF (one e):Nat))/\Below wx.heap.size wx w':=fun wx b=>nest_ok _ e ao cap wx (Nat.lt_succ_self _) (by omega) hlen hwd (SnA.below S (bb6.trans (b.mono bb6.size)));rw[plV_out] at HK;rw[exN_out] at HN;have hkt:((m:Nat):Int)=kindP cells e:=HKM.out.symm;rw[hkt] at J6 hw6;obtain⟨D,hD⟩:∃D,D=nesF (one e):=⟨_,rfl⟩
  rw[<-hD] at HN s3;clear hD;have HG6:=Lib.hid hg6;clear hg6;go_upto_region 8 with fail;rw[<-hw6,<-HG6.out];clear hw6;obtain⟨q0,q1,q2,q3,q4⟩:=cells5e P6;obtain⟨⟨j0,j1,j2⟩,jf⟩:=cells3g J6;have L6:=lt_of_block P6;have I6:=lt_of_block J6;have st1:(1:Int)<=(st:Int):=by omega
  have st2:(st:Int)<=1024:=by omega
  have rd1:(rd:Int)<=(D:Int):=by omega
  have rd2:rd<=D:=s3;clear S hc hcl hF hT hf hn hr hlen hwd;have HC:∀ wx,Below w6.heap.size w6 wx->wx.cell? ⟨g6,0,none⟩=some (.int .i64 (st:Nat))/\wx.cell? ⟨g6,1,none⟩=some (.int .i64 (rd:Nat))/\wx.cell? ⟨g6,2,none⟩=some (.int .i64 (kindP cells e))/\wx.cell? ⟨g,0,none⟩=some (.int .i64 e.k)/\wx.cell? ⟨g,1,none⟩=some (.int .i64 e.n)/\wx.cell? ⟨g,2,none⟩=some (stv e.nm)/\wx.cell? ⟨g,3,none⟩=some (.slice ao e.kids.len cap)/\wx.cell? ⟨g,4,none⟩=some (.slice ac cells.length cc):=fun wx b=>⟨(World.cell?_of_block (a:=⟨g6,0,none⟩) (b.block g6 I6)).trans j0,(World.cell?_of_block (a:=⟨g6,1,none⟩) (b.block g6 I6)).trans j1,(World.cell?_of_block (a:=⟨g6,2,none⟩) (b.block g6 I6)).trans j2,(World.cell?_of_block (a:=⟨g,0,none⟩) (b.block g L6)).trans q0,(World.cell?_of_block (a:=⟨g,1,none⟩) (b.block g L6)).trans q1,(World.cell?_of_block (a:=⟨g,2,none⟩) (b.block g L6)).trans q2,(World.cell?_of_block (a:=⟨g,3,none⟩) (b.block g L6)).trans q3,(World.cell?_of_block (a:=⟨g,4,none⟩) (b.block g L6)).trans q4⟩;go_region_held (fun wx=>wx.cell? ⟨g6,0,none⟩=some (.int .i64 (st:Nat))/\wx.cell? ⟨g6,1,none⟩=some (.int .i64 (rd:Nat))/\wx.cell? ⟨g6,2,none⟩=some (.int .i64 (kindP cells e))/\wx.cell? ⟨g,0,none⟩=some (.int .i64 e.k)/\wx.cell? ⟨g,1,none⟩=some (.int .i64 e.n)/\wx.cell? ⟨g,2,none⟩=some (stv e.nm)/\wx.cell? ⟨g,3,none⟩=some (.slice ao e.kids.len cap)/\wx.cell? ⟨g,4,none⟩=some (.slice ac cells.length cc)) (first|exact⟨j0,j1,j2,q0,q1,q2,q3,q4⟩|go_keep) ((first|(go_at_call 8;refine((HK _ (by first|exact(Below.refl _ _).drew|assumption))).mono ?_;rintro x wz ⟨rfl,bz⟩;have bq:Below w6.heap.size w6 wz:=(by first|exact(Below.refl _ _).drew.trans bz|exact bq.trans (bz.mono bq.size));obtain⟨y0,y1,y2,y3,y4,y5,y6,y7⟩:=HC _ bq)|(go_at_call 9;refine((HN _ (by first|exact(Below.refl _ _).drew|assumption))).mono ?_;rintro x wz ⟨rfl,bz⟩;have bq:Below w6.heap.size w6 wz:=(by first|exact(Below.refl _ _).drew.trans bz|exact bq.trans (bz.mono bq.size));obtain⟨y0,y1,y2,y3,y4,y5,y6,y7⟩:=HC _ bq)));go_wp2;go_ret;exact⟨rfl,by rw[<-HG.out];exact BB6.trans (bq.mono (Nat.le_of_lt L6))⟩
theorem ownK:ownKnob Tryd.prog.godebug=none:=by kernel_rfl
theorem laidOut:laidOutB Tryd.prog=true:=by kernel_rfl
theorem cellsInt:Tryd.prog.cellsOf 3=1:=by kernel_rfl
theorem gWd : Tryd.prog.globalNamed "isthmus/lex.words" = some 2 := by kernel_rfl
theorem gWdType:(Tryd.prog.globals[2]?).map (·.type)=some 123:=by kernel_rfl
theorem cellsWd:Tryd.prog.cellsOf 123=27:=by kernel_rfl
theorem cellsStr:Tryd.prog.cellsOf 9=1:=by kernel_rfl
def wordsD:List (DataW Unit):=(List.range 27).map fun j=>.lit (.string (wdG j).data.toList)
theorem wordsD_eq:(Rows.laid_isthmus_lex_words:DataW Unit)=.agg wordsD:=by rfl
theorem wordsA_list:wordsAG.toList=(List.range 27).map fun j=>Value.string (wdG j):=by rfl
theorem words_of_cells {W:World}{fuel:Nat}{cs:List Value}{p:List MemPlace}(h:DataW.trod (fun _=>()) Tryd.prog W 0 (fun _=>true) false fuel 123 cs=some (.agg wordsD,p)):cs=wordsAG.toList:=by
 obtain⟨xs,m,_,hx,hl,hlen,hf⟩:=DataW.trod_array Tryd.underlying123 h;rw[cellsWd] at hl;simp only[cellsStr,Nat.mul_one] at hf;simp only[Prod.mk.injEq,DataW.agg.injEq] at hx;rw[wordsA_list];apply List.ext_getElem?;intro i;by_cases hi:i<27
 ·have hfi:=hf i hi;have hxi:xs[i]?=some xs[i]:=List.getElem?_eq_getElem (by omega);rw[hxi] at hfi;obtain⟨s,h1,h2⟩:=DataW.trod_string Tryd.underlying9 hfi;have hc:cs[i]?=some (.string s):=by
   have:=congrArg (·[0]?) h1
   simpa [List.getElem?_take,List.getElem?_drop] using this
  have hd:(xs.map (·.1))[i]?=some (.lit (.string s.data.toList)):=by rw[List.getElem?_map,hxi,h2.1];rfl
  rw[<-hx.1] at hd;unfold wordsD at hd;rw[List.getElem?_map,List.getElem?_range hi] at hd;simp only[Option.map_some,Option.some.injEq,DataW.lit.injEq,Lit.string.injEq] at hd;have hs:=bytes_eqG.1 hd;rw[hc,List.getElem?_map,List.getElem?_range hi,<-hs];rfl
 ·rw[List.getElem?_eq_none (by omega),List.getElem?_eq_none (by simp;omega)]
theorem wd_of_laid {W : World} {r : List (String × DataW Unit)} (h : laidMet Tryd.prog (("isthmus/lex.words", Rows.laid_isthmus_lex_words) :: r) W) : WdG W := by
 rw[wordsD_eq] at h;obtain⟨ps,⟨g',t',cs,fuel,p,q,hg',ht',hvar,hd,_,_⟩,_⟩:=h;obtain rfl:=Option.some.inj (gWd.symm.trans hg');obtain rfl:=Option.some.inj (gWdType.symm.trans ht');have hcs:=words_of_cells hd;have hcs':cs=wordsAG:=Array.toList_inj.1 hcs;subst hcs';simp only[World.var?,gWd,Option.bind_some] at hvar;split at hvar
 ·rename_i c t fr hh
  cases hvar;exact⟨t,fr,hh⟩
 ·cases hvar
def layCells (cs:Array Value):Obj->Obj
 | .cells _ t frozen=>.cells cs t frozen
 | o=>o
theorem tab_of_laid2 {W : World} {r : List (String × DataW Unit)} (h : laidMet Tryd.prog (("isthmus/pack.fields", Rows.laid_isthmus_pack_fields) :: r) W) : TabG W := by
 obtain⟨ps,⟨g',t',cs,fuel,p,q,hg',ht',hvar,hd,_,_⟩,_⟩:=h;obtain rfl:=Option.some.inj (gTabG.symm.trans hg');obtain rfl:=Option.some.inj (gTabTypeG.symm.trans ht');obtain⟨xs,m,_,hx,hl,hlen,hf⟩:=DataW.trod_array Tryd.underlying126 hd;rw[cellsTabG] at hl;simp only[cellsFieldG] at hf
 match xs,hlen with
 | [x0,x1,x2],_ =>
  have f0:=hf 0 (by omega);have f1:=hf 1 (by omega);have f2:=hf 2 (by omega);simp only[Rows.laid_isthmus_pack_fields,List.map_cons,List.map_nil,Prod.mk.injEq,DataW.agg.injEq,List.cons.injEq,and_true] at hx;obtain⟨⟨e0,e1,e2⟩,_⟩:=hx;obtain⟨d0,p0⟩:=x0;obtain⟨d1,p1⟩:=x1;obtain⟨d2,p2⟩:=x2;simp only at e0 e1 e2;subst e0 e1 e2;have g0:=field_cells f0;have g1:=field_cells f1;have g2:=field_cells f2;obtain⟨l⟩:=cs
  match l,hl with
  | [v0,v1,v2,v3,v4,v5],_ =>
   simp at g0 g1 g2;obtain⟨rfl,rfl⟩:=g0;obtain⟨rfl,rfl⟩:=g1;obtain⟨rfl,rfl⟩:=g2;have hc:=fun i=>World.var?_cell gTabG hvar i;have c0:=hc 0;have c1:=hc 1;have c2:=hc 2;have c3:=hc 3;have c4:=hc 4;have c5:=hc 5;simp at c0 c1 c2 c3 c4 c5;refine⟨c0,c1,c2,c3,c4,c5,?_⟩;by_cases hs:3<W.heap.size
   ·exact hs
   ·exfalso
    have:W.heap[3]?=none:=Array.getElem?_eq_none (by omega)
    simp[World.cell?,this] at c0
theorem gRul : Tryd.prog.globalNamed "isthmus/code.rules" = some 1 := by kernel_rfl
theorem gRulType:(Tryd.prog.globals[1]?).map (·.type)=some 117:=by kernel_rfl
theorem cellsRul:Tryd.prog.cellsOf 117=56:=by kernel_rfl
theorem cellsRu1:Tryd.prog.cellsOf 116=2:=by kernel_rfl
def rulesD:List (DataW Unit):=(List.range 28).map fun j=>.agg [.lit (.int .i64 (rulA.getD j 0:Nat)),.lit (.int .i64 (rulB.getD j 0:Nat))]
theorem rulesD_eq:(Rows.laid_isthmus_code_rules:DataW Unit)=.agg rulesD:=by rfl
theorem rule_cells {W:World}{m:Nat}{l:List Value}{a b:Int}{p:List MemPlace}
  (h:DataW.trod (fun _=>()) Tryd.prog W 0 (fun _=>true) false m 116 l=some (.agg [.lit (.int .i64 a),.lit (.int .i64 b)],p)):l=[.int .i64 a,.int .i64 b]:=by
 obtain⟨y0,y1,n,hx,hl,h0,h1⟩:=trod_struct2 Tryd.underlying116 h;simp only[Prod.mk.injEq,DataW.agg.injEq,List.cons.injEq,and_true] at hx;obtain⟨⟨e0,e1⟩,_⟩:=hx;obtain⟨z0,c0,r0,_⟩:=DataW.trod_int Tryd.underlying3 h0;obtain⟨z1,c1,r1,_⟩:=DataW.trod_int Tryd.underlying3 h1;subst r0 r1;simp only[DataW.lit.injEq,Lit.int.injEq,true_and] at e0 e1;subst e0 e1;rw[cellsRu1] at hl;simp only[cellsInt] at c0 c1
 match l,hl with
 | [v0,v1],_ =>
  simp at c0 c1;rw[c0,c1]
theorem rul_of_laid {W : World} {r : List (String × DataW Unit)} (h : laidMet Tryd.prog (("isthmus/code.rules", Rows.laid_isthmus_code_rules) :: r) W) : Rul W := by
 rw[rulesD_eq] at h;obtain⟨ps,⟨g',t',cs,fuel,p,q,hg',ht',hvar,hd,_,_⟩,_⟩:=h;obtain rfl:=Option.some.inj (gRul.symm.trans hg');obtain rfl:=Option.some.inj (gRulType.symm.trans ht');obtain⟨xs,m,_,hx,hl,hlen,hf⟩:=DataW.trod_array Tryd.underlying117 hd;rw[cellsRul] at hl;simp only[cellsRu1] at hf;simp only[Prod.mk.injEq,DataW.agg.injEq] at hx;have hc:=fun i=>World.var?_cell gRul hvar i;have key:∀ o,o<28->cs[o*2]?=some (.int .i64 (rulA.getD o 0:Nat))/\cs[o*2+1]?=some (.int .i64 (rulB.getD o 0:Nat)):=fun o ho=>by
  have hfi:=hf o ho;have hxi:xs[o]?=some xs[o]:=List.getElem?_eq_getElem (by omega);rw[hxi] at hfi;have hd:(xs.map (·.1))[o]?=some (xs[o].1):=by rw[List.getElem?_map,hxi];rfl
  rw[<-hx.1] at hd;unfold rulesD at hd;rw[List.getElem?_map,List.getElem?_range ho] at hd;simp only[Option.map_some,Option.some.injEq] at hd;have g:=rule_cells (p:=xs[o].2) (hfi.trans (congrArg some (Prod.ext hd.symm rfl)));have h0:((cs.toList.drop (o*2)).take 2)[0]?=some (.int .i64 (rulA.getD o 0:Nat)):=by rw[g];rfl
  have h1:((cs.toList.drop (o*2)).take 2)[1]?=some (.int .i64 (rulB.getD o 0:Nat)):=by rw[g];rfl
  simp only[List.getElem?_take,List.getElem?_drop] at h0 h1;exact⟨by simpa using h0,by simpa using h1⟩
 refine⟨?_,fun o ho=>⟨(hc (o*2)).trans (key o ho).1,(hc (o*2+1)).trans (key o ho).2⟩⟩;by_cases hs:1<W.heap.size
 ·exact hs
 ·exfalso;have h0:=(hc (0*2)).trans (key 0 (by omega)).1
  have:W.heap[1]?=none:=Array.getElem?_eq_none (by omega)
  simp[World.cell?,this] at h0
theorem gDe : Tryd.prog.globalNamed "math/bits.deBruijn64tab" = some 0 := by kernel_rfl
theorem gDeType:(Tryd.prog.globals[0]?).map (·.type)=some 98:=by kernel_rfl
theorem cellsDe:Tryd.prog.cellsOf 98=64:=by kernel_rfl
theorem cellsByte:Tryd.prog.cellsOf 5=1:=by kernel_rfl
def deZ:List Int:=Lib.deBruijn64tab.map (fun (n:Nat)=>(n:Int))
theorem deZ_eq:(Rows.laid_math_bits_deBruijn64tab:DataW Unit)=Lib.tabData .u8 deZ:=by rfl
theorem tz_of_laid {W : World} {r : List (String × DataW Unit)} (h : laidMet Tryd.prog (("math/bits.deBruijn64tab", Rows.laid_math_bits_deBruijn64tab) :: r) W) : Tzg W := by
 rw[deZ_eq] at h;have hT:=Lib.tabIs_of_head gDe gDeType Tryd.underlying98 Tryd.underlying5 cellsByte cellsDe h;refine⟨fun j hj=>?_,?_⟩
 ·rw[hT.cell gDe j (by simpa [deZ] using hj)];simp[deZ,List.getD,List.getElem?_eq_getElem hj]
 ·have c0:=hT.cell gDe 0 (by decide);by_cases hs:0<W.heap.size
  ·exact hs
  ·exfalso
   have:W.heap[0]?=none:=Array.getElem?_eq_none (by omega)
   simp[World.cell?,this] at c0
abbrev laidG : List (String × DataW Unit) := [("isthmus/pack.fields", Rows.laid_isthmus_pack_fields), ("math/bits.deBruijn64tab", Rows.laid_math_bits_deBruijn64tab), ("isthmus/lex.words", Rows.laid_isthmus_lex_words), ("isthmus/code.rules", Rows.laid_isthmus_code_rules)]
theorem fx_of_laid {W:World}(h:laidMet Tryd.prog laidG W):Fx W:=⟨tab_of_laid2 h,rul_of_laid h.tail.tail.tail,wd_of_laid h.tail.tail⟩
theorem tz_of_laidG {W:World}(h:laidMet Tryd.prog laidG W):Tzg W:=tz_of_laid h.tail
def rulesA:Array Value:=((List.range 56).map fun j=>if j % 2=0 then Value.int .i64 (rulA.getD (j / 2) 0:Nat) else .int .i64 (rulB.getD (j / 2) 0:Nat)).toArray
def laidWorld (P:Program)(os:Os):World :=
 let w0:=World.holding P os ⟨#[],#[],[]⟩
 { w0 with heap:=((((w0.heap.modify 0 (layCells (deZ.map fun z=>Value.int .u8 z).toArray)).modify 3 (layCells #[.int .u64 56,.int .u64 255,.int .u64 28,.int .u64 268435455,.int .u64 0,.int .u64 268435455]))).modify 2 (layCells wordsAG)).modify 1 (layCells rulesA) }
def rawP (n:Int)(nm:List UInt8)(a:Int)(len:Nat):Prop:=-9223372036854775808<=n/\n<=9223372036854775807/\nm.length<=maxLen/\-9223372036854775808<=a/\a<=9223372036854775807/\len<=maxLen
def Fs.raw:Fs->Prop
 | ⟨none⟩=>True
 | ⟨some ⟨_,n,nm,a,ks,r⟩⟩=>rawP n nm a ks.len/\ks.raw/\r.raw
def Ex.raw (e:Ex):Prop:=rawP e.n e.nm e.a e.kids.len/\e.kids.raw
theorem Fs.raw_wide:∀ {f:Fs},f.raw->f.wide
 | ⟨none⟩,h=>trivial
 | ⟨some ⟨k,n,nm,a,ks,r⟩⟩,h=>⟨h.1.2.2.2.2.2,Fs.raw_wide (f:=ks) h.2.1,Fs.raw_wide (f:=r) h.2.2⟩
theorem Fs.len_size':∀ (x:Fs),x.len<=x.size
 | ⟨none⟩=>Nat.le_refl _
 | ⟨some ⟨k,n,nm,a,ks,r⟩⟩=>by have:=Fs.len_size' r;show r.len+1<=ks.size+r.size+1;omega
theorem Fs.raw_fit:∀ {f:Fs},f.raw->f.size<=100000000->f.short/\f.rng
 | ⟨none⟩,h,hs=>⟨trivial,trivial⟩
 | ⟨some ⟨k,n,nm,a,ks,r⟩⟩,h,hs=>by
  have hs:ks.size+r.size+1<=100000000:=hs;have h1:=Fs.raw_fit (f:=ks) h.2.1 (by omega);have h2:=Fs.raw_fit (f:=r) h.2.2 (by omega)
  have:=Fs.len_size' ks
  exact⟨⟨h.1.2.2.1,by omega,h1.1,h2.1⟩,⟨h.1.1,h.1.2.1,h1.2,h2.2⟩⟩
theorem Ex.raw_fit {e:Ex}(h:e.raw)(hs:e.kids.size<=100000000):e.fit:=by
 obtain⟨h1,h2⟩:=Fs.raw_fit h.2 hs
 have:=Fs.len_size' e.kids
 exact⟨h.1.2.2.1,h1,by omega,h.1.1,h.1.2.1,h2⟩
theorem add_plain' (b off j:Nat):(⟨b,off,none⟩:Addr).add j=⟨b,off+j,none⟩:=by
 unfold Addr.add;split
 ·subst j;simp_all
 ·rfl
theorem str_lit {s:ByteArray}{a:List UInt8}(h:s.data.toList=a):Value.string s=stv a:=by
 subst h;rfl
theorem cellsNd:Tryd.prog.cellsOf 24=4:=by kernel_rfl
theorem cellsNs:Tryd.prog.cellsOf 22=1:=by kernel_rfl
theorem cellsIs:Tryd.prog.cellsOf 25=1:=by kernel_rfl
theorem cellsPl:Tryd.prog.cellsOf 27=5:=by kernel_rfl
theorem open_node {H:Type}{enc:TypeId × Value->H}{W:World}{sp:Nat->Bool}{held:Bool}:∀ (fuel:Nat) (cs:List Value) (x:DataW H × List MemPlace),DataW.trod enc Tryd.prog W 0 sp held fuel 24 cs=some x->(∀ q ∈ x.2,q.block<W.heap.size) ->
  ∃(e:Ex) (ao:Option Addr) (cap:Nat),cs=[.int .i64 e.k,.int .i64 e.n,stv e.nm,.slice ao e.kids.len cap]/\SnA W e.kids ao/\e.raw:=by
 intro fuel
 induction fuel using Nat.strongRecOn with
 | _ fuel IH =>
 intro cs x h hlt;obtain⟨xs,k,hk,hxy,hl,hxl,hff⟩:=DataW.trod_struct Tryd.underlying24 h;rw[cellsNd] at hl
 match xs,hxl,cs,hl with
 | [y0,y1,y2,y3],_,[u0,u1,u2,u3],_ =>
  have g0:=hff 0 _ rfl;have g1:=hff 1 _ rfl;have g2:=hff 2 _ rfl;have g3:=hff 3 _ rfl;simp[cellsInt,cellsStr,cellsNs] at g0 g1 g2 g3;obtain⟨z0,e0,x0,w0⟩:=DataW.trod_int Tryd.underlying3 g0;obtain⟨z1,e1,x1,w1⟩:=DataW.trod_int Tryd.underlying3 g1;obtain⟨z2,e2,x2,w2⟩:=DataW.trod_string Tryd.underlying9 g2;simp at e0 e1 e2;have b1:=bd_i64 w1;have hz2:(z2.data.toList).length<=maxLen:=by rw[data_len];exact w2
  have hlt3:∀ q ∈ y3.2,q.block<W.heap.size:=fun q hq=>hlt q (by rw[hxy];simp[hq]);rcases DataW.trod_slice Tryd.underlying22 g3 with ⟨hs,_⟩|⟨a,len,cap,elems,rest,n,hn,hs,hx3,_,hlc,hcm,hel,hE,_,_⟩
  ·simp at hs;refine⟨⟨z0,z1,z2.data.toList,0,.nil⟩,none,0,?_,.inl rfl,⟨b1.1,b1.2,hz2,by show -9223372036854775808<=(0:Int);decide,by show (0:Int)<=9223372036854775807;decide,by show 0<=_;omega⟩,trivial⟩;rw[e0,e1,e2,hs,str_lit rfl];rfl
  ·simp at hs;obtain⟨b,off,spot⟩:=a;have each:∀ i,i<len->∃(e:Ex) (ak:Option Addr) (ck:Nat),spot=none/\b<W.heap.size/\(∀ j u,([.int .i64 e.k,.int .i64 e.n,stv e.nm,.slice ak e.kids.len ck]:List Value)[j]?=some u->W.cell? ⟨b,off+i*4+j,none⟩=some u)/\SnA W e.kids ak/\e.raw:=by
    intro i hi;have hEi:=hE i hi;rw[List.getElem?_eq_getElem (by omega),cellsNd] at hEi;obtain⟨cs',h1,h2⟩:=Option.bind_eq_some_iff.1 hEi;obtain⟨_,hlen,hcell⟩:=World.cells?_some h1;have hsub:∀ q ∈ (elems[i]'(by omega)).2,q.block<W.heap.size:=fun q hq=>hlt3 q (by
     rw[hx3];simp only[List.mem_append,List.mem_flatMap];exact .inr ⟨_,.inl (List.getElem_mem _),hq⟩)
    obtain⟨e,ak,ck,hcs,SK,hr⟩:=IH n (by omega) cs' _ h2 hsub;have hspot:spot=none:=by
     have hE0:=hE 0 (by omega);rw[List.getElem?_eq_getElem (by omega),cellsNd] at hE0;obtain⟨cs0,k1,k2⟩:=Option.bind_eq_some_iff.1 hE0;obtain⟨_,klen,kcell⟩:=World.cells?_some k1;have k3:=kcell 0 (by omega);rw[List.getElem?_eq_getElem (by omega)] at k3;simpa [Addr.add] using World.cell?_spot k3
    subst hspot;have hbl:b<W.heap.size:=hlt3 (.cell b off) (by
     rw[hx3];exact List.mem_append_left _ (MemPlace.mem_row.2 ⟨0,by rw[cellsNd];omega,by simp⟩))
    refine⟨e,ak,ck,rfl,hbl,fun j u hu=>?_,SK,hr⟩;rw[<-hcs] at hu;have hj:j<4:=by
     by_cases hj:j<4
     ·exact hj
     ·rw[List.getElem?_eq_none (by omega)] at hu;cases hu
    have:=hcell j hj
    rw[add_plain',add_plain',hu] at this;exact this
   have build:∀ m,m<=len->∃f:Fs,f.len=m/\f.raw/\(m=0\/spot=none/\b<W.heap.size)/\∃zs,(∀ j u,zs[j]?=some u->W.cell? ⟨b,off+(len-m)*4+j,none⟩=some u)/\FcN W (fun _=>True) f zs:=by
    intro m
    induction m with
    | zero=>intro _;exact⟨.nil,rfl,trivial,.inl rfl,[],fun j u hu=>by simp at hu,rfl⟩
    | succ m ih =>
     intro hm;obtain⟨f,f1,f2,_,zs,f3,f4⟩:=ih (by omega);obtain⟨e,ak,ck,s1,s2,s3,s4,s5⟩:=each (len-(m+1)) (by omega);refine⟨.cons e.k e.n e.nm e.a e.kids f,by show f.len+1=_;rw[f1],⟨s5.1,s5.2,f2⟩,.inr ⟨s1,s2⟩,.int .i64 e.k::.int .i64 e.n::stv e.nm::.slice ak e.kids.len ck::zs,fun j u hu=>?_,ak,ck,zs,rfl,s4,f4⟩;by_cases hj:j<4
     ·refine s3 j u ?_;rw[<-hu]
      match j,hj with
      | 0,_=>rfl
      | 1,_=>rfl
      | 2,_=>rfl
      | 3,_=>rfl
     ·obtain⟨i,rfl⟩:∃i,j=i+4:=⟨j-4,by omega⟩
      have:=f3 i u (by simpa using hu)
      rw[show off+(len-(m+1))*4+(i+4)=off+(len-m)*4+i by
       have:len-m=len-(m+1)+1:=by omega
       rw[this];omega]
      exact this
   obtain⟨f,f1,f2,f5,zs,f3,f4⟩:=build len (Nat.le_refl _);have hcm':len<=maxLen:=Nat.le_trans hlc hcm;refine⟨⟨z0,z1,z2.data.toList,0,f⟩,some ⟨b,off,spot⟩,cap,?_,?_,⟨b1.1,b1.2,hz2,by show -9223372036854775808<=(0:Int);decide,by show (0:Int)<=9223372036854775807;decide,by show f.len<=_;rw[f1];exact hcm'⟩,f2⟩
   ·show _=[Value.int .i64 z0,.int .i64 z1,stv z2.data.toList,.slice (some ⟨b,off,spot⟩) f.len cap];rw[e0,e1,e2,hs,str_lit rfl,f1]
   ·rcases f5 with h0|⟨rfl,hb⟩
    ·refine .inl ?_;rw[h0] at f1;cases f using Fs.on with
     | nil=>rfl
     | cons k n nm a ks r=>cases f1
    ·refine .inr ⟨b,off,zs,rfl,trivial,hb,fun j u hu=>?_,f4⟩
     have:=f3 j u hu
     rw[Nat.sub_self,Nat.zero_mul,Nat.add_zero] at this;exact this
def rawI (cells:List Int):Prop:=cells.length<=maxLen/\∀ c,c ∈ cells->-9223372036854775808<=c/\c<=9223372036854775807
theorem open_plan {H:Type}{enc:TypeId × Value->H}{W:World}{v:Value}{d:DataW H}{ps:List MemPlace}(h:DataW.Trod enc Tryd.prog W 0 (fun _=>true) true 27 v d ps)(hlt:∀ q ∈ ps,q.block<W.heap.size) :
  ∃(e:Ex) (ao:Option Addr) (cap:Nat) (cv:Value) (cells:List Int),v=plV e ao cap cv/\SnA W e.kids ao/\e.raw/\InA W cv cells/\rawI cells:=by
 obtain⟨fuel,hf⟩:=h;obtain⟨xs,k,hk,hxy,hl,hxl,hff⟩:=DataW.trod_struct Tryd.underlying27 hf;rw[cellsPl] at hl;obtain⟨cs,hcs⟩:∃cs,cs=v.cells.toList:=⟨_,rfl⟩
 rw[<-hcs] at hl hff
 match xs,hxl,cs,hl with
 | [y0,y1],_,[u0,u1,u2,u3,u4],_ =>
  have g0:=hff 0 _ rfl;have g1:=hff 1 _ rfl;simp[cellsNd,cellsIs] at g0 g1;have hp0:∀ q ∈ y0.2,q.block<W.heap.size:=fun q hq=>hlt q (by
   have h2:ps=[y0,y1].flatMap (·.2):=congrArg Prod.snd hxy;rw[h2];simp[hq])
  have hp1:∀ q ∈ y1.2,q.block<W.heap.size:=fun q hq=>hlt q (by
   have h2:ps=[y0,y1].flatMap (·.2):=congrArg Prod.snd hxy;rw[h2];simp[hq])
  obtain⟨e,ao,cap,hc4,S,R⟩:=open_node _ _ _ g0 hp0;obtain⟨cv,cells,hcv,IN,RI⟩:∃(cv:Value) (cells:List Int),u4=cv/\InA W cv cells/\rawI cells:=by
   rcases open_ints Tryd.underlying25 Tryd.underlying3 cellsInt g1 with ⟨hcs,hx⟩|⟨a,len',cap',zs,hcs,_,hl,hm,hz,hx,hcell,hwz⟩
   ·simp at hcs;exact⟨_,[],hcs,⟨none,0,rfl,.inl rfl⟩,by simp[rawI]⟩
   ·simp at hcs;simp only[if_true] at hz;refine⟨_,zs.take len',hcs,?_,by simp[rawI];exact⟨by omega,fun c hc=>by have:=bd_i64 (hwz c (List.mem_of_mem_take hc));omega⟩⟩;obtain⟨b,off,spot⟩:=a;refine⟨some ⟨b,off,spot⟩,cap',by simp;omega,?_⟩;by_cases h0:len'=0
    ·exact .inl (by simp[h0])
    ·refine .inr ?_;have hspot:spot=none:=by simpa [Addr.add] using World.cell?_spot (hcell 0 (by omega))
     subst hspot;have hbW:b<W.heap.size:=hp1 (.cell b off) (by
      rw[hx];exact MemPlace.mem_row.2 ⟨0,by omega,by simp⟩)
     refine⟨b,off,rfl,trivial,hbW,fun j x hj=>?_⟩;rw[List.getElem?_take] at hj;split at hj
     ·rename_i hjl
      have h3:=hcell j (by omega);rw[add_plain',List.getD_eq_getElem?_getD,hj] at h3;exact h3
     ·cases hj
  refine⟨e,ao,cap,cv,cells,?_,S,R,IN,RI⟩;subst hcv;have hcs':v.cells=#[.int .i64 e.k,.int .i64 e.n,stv e.nm,.slice ao e.kids.len cap,u4]:=by
   apply Array.toList_inj.1;rw[<-hcs];simp at hc4;obtain⟨rfl,rfl,rfl,rfl⟩:=hc4;rfl
  cases v with
  | agg cs=>rw[show (Value.agg cs).cells=cs from rfl] at hcs';rw[hcs'];rfl
  | _=>have h5:=congrArg Array.size hcs';simp[Value.cells] at h5
end Go.Proofs.YtejnhibajmncaaaDoor
namespace Go.Proofs.YtejnhibajmncaaaDoor.guardTakes
open Go.ChangeShapes Go.WideShapes Go.ChangeAt Go.RowKit
open Go.ChangeMaps (open_string shut_string)
set_option linter.unusedVariables false
theorem contract (H:Type)(enc:TypeId × Value->H)(W:World)(base:Nat)(args:Array Value)(ds gs:List (DataW H))(before:List MemPlace)
  (hval:∀ (j:Nat) t v,Tryd.f3.params[j]?=some t->args[j]?=some v->Value.okWide Tryd.prog W .any base t v)
  (hW:DataW.Whole enc Tryd.prog Tryd.f3.params.toList Rows.guardTakesSpec.vars false W args.toList ds gs before)
  (hsz:(DataW.weightsEach Tryd.prog (Tryd.f3.params.toList++(OpenSpec.ofChange Rows.guardTakesSpec).bare.plain.varTypes Tryd.prog) (ds++gs)).all (·<=reachBytes)=true) (hL:laidMetH Tryd.prog Rows.guardTakesRow.laid W) :
  Calls Tryd.prog 3 args W fun e W'=>∃v,e=.returned v/\Rows.guardTakesSpec.post enc Tryd.prog Tryd.f3 false true false false W args v W':=by
 have hW':=hW;obtain⟨p,q,hA0,hV,rfl,hfz,hnd⟩:=hW;have hA:DataW.TrodAll enc Tryd.prog W 0 (fun _=>true) true Tryd.f3.params.toList args.toList ds p:=hA0;rw[Tryd.params3] at hA hval hsz;obtain⟨v0,vs0,d0,ds0,p0,q0,hargs,rfl,rfl,h0,r0⟩:=trodAll_cons hA;obtain⟨rfl,rfl,rfl⟩:=trodAll_nil r0;obtain rfl:args=#[v0]:=by cases args;simp_all
 obtain⟨rfl,rfl⟩:=trodVars_none hV;clear hA0;simp only[List.append_nil] at hW';have hlt0:∀ x ∈ p0,x.block<W.heap.size:=fun x hx=>by simpa using hW'.lt x (by simp[hx])
 obtain⟨e0,ao0,cap0,cv0,cells0,rfl,SX0,RX0,IC0,RI0⟩:=open_plan h0 hlt0;refine(guardTakes_walk e0 ao0 cap0 cv0 cells0   W RX0.1.2.2.2.2.2 (Fs.raw_wide RX0.2) (fun h=>⟨⟨(Ex.raw_fit RX0 h).nm,(Ex.raw_fit RX0 h).len,(Ex.raw_fit RX0 h).sh⟩,⟨(Ex.raw_fit RX0 h).n1,(Ex.raw_fit RX0 h).n2⟩,(Ex.raw_fit RX0 h).rng⟩) SX0 IC0 RI0.1 (fx_of_laid hL) (tz_of_laidG hL)).mono fun e W' ⟨he,hnx⟩=>?_;subst he;exact⟨_,rfl,_,_,_,[],(p0++[]),[],hW',trodAll_cons_mk (shut_bool Tryd.underlying4 _) trodAll_mk0,(trodAll_cons_mk (Below.trod laidOut (by kernel_rfl) (of_decide_eq_true (by kernel_rfl)) h0 hnx hlt0) trodAll_mk0),rfl,hnx.frame _,fun h=>by cases h⟩
theorem laid_met (os:Os):laidMet Tryd.prog Rows.guardTakesRow.laid ((laidWorld Tryd.prog os).forCall (fun _ _=>0) ⟨#[],#[.agg #[.int .i64 0,.int .i64 0,.string ByteArray.empty,.slice none 0 0,.slice none 0 0]],[]⟩).memory :=
 laidMet_of_run' 8 (by kernel_rfl) (by kernel_rfl)
theorem reads (os:Os){H:Type}(enc:TypeId × Value->H):∃places,DataW.whole enc Tryd.prog ((laidWorld Tryd.prog os).forCall (fun _ _=>0) ⟨#[],#[.agg #[.int .i64 0,.int .i64 0,.string ByteArray.empty,.slice none 0 0,.slice none 0 0]],[]⟩).memory Tryd.f3.params.toList Rows.guardTakesSpec.vars false (#[.agg #[.int .i64 0,.int .i64 0,.string ByteArray.empty,.slice none 0 0,.slice none 0 0]]:Array Value).toList 8=some ([.agg [.agg [.lit (.int .i64 0),.lit (.int .i64 0),.lit (.string []),.nil],.nil]],[],places) :=
 ⟨[],by kernel_rfl⟩
theorem lifted (os:Os)(started:os.Started)(H:Type)(enc:TypeId × Value->H)(F:Stop.Interp) :
  ReturnsInHanded {} Tryd.checked os 3 .any ((OpenSpec.ofChange Rows.guardTakesSpec).preRow enc Tryd.prog Tryd.f3 Rows.guardTakesRow.domain false Rows.guardTakesRow.laid) (((OpenSpec.ofChange Rows.guardTakesSpec).at F).post enc Tryd.prog Tryd.f3 false true false false):=by
 obtain⟨places,hx⟩:=reads os enc;refine returnsInHanded_of_row (C:=Tryd.checked) (s:=OpenSpec.ofChange Rows.guardTakesSpec) ownK started (by kernel_rfl) Tryd.func3
  (witness_row_at (enc:=enc) (C:=Tryd.checked) false (laidWorld Tryd.prog os) #[.agg #[.int .i64 0,.int .i64 0,.string ByteArray.empty,.slice none 0 0,.slice none 0 0]] rfl (by kernel_rfl) (by kernel_rfl) (by kernel_rfl)
   (OpenSpec.preRow_of_cond 8 hx (by kernel_rfl) (fun k hk=>by cases hk) (by kernel_rfl) (laid_met os))) ?_
 intro W base args ds gs before hval hW _ _ hsz hL _ _;exact contract H enc W base args ds gs before hval hW hsz hL
theorem facts:joinedFacts Tryd.pinned.checked.prog 3 Tryd.f3 (OpenSpec.ofChange Rows.guardTakesSpec).bare Rows.guardTakesRow=true:=by
 unfold joinedFacts;simp only[Bool.and_eq_true]
 repeat' apply And.intro
 all_goals (as_aux_lemma=>kernel_rfl)
end Go.Proofs.YtejnhibajmncaaaDoor.guardTakes

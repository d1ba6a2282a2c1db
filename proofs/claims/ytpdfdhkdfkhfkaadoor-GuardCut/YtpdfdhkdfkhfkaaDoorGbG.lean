import Derived.Test.YtpdfdhkdfkhfkaaDoorGuardCutWalk
import Derived.SizedLaws
import Derived.ShutString
import Derived.Stop.LaidErr
import Derived.Deep.DeepHandedRow
import Derived.Deep.Slices
import Derived.SliceStrings
set_option maxRecDepth 100000
set_option maxHeartbeats 8000000
namespace Go.Proofs.YtpdfdhkdfkhfkaaDoor
open Go.ChangeShapes Go.WideShapes Go.ChangeAt Go.RowKit
set_option linter.unusedVariables false
theorem ownK:ownKnob Tryd.prog.godebug=none:=by kernel_rfl
theorem laidOut:laidOutB Tryd.prog=true:=by kernel_rfl
theorem cellsInt:Tryd.prog.cellsOf 3=1:=by kernel_rfl
theorem gWd : Tryd.prog.globalNamed "isthmus/lex.words" = some 2 := by kernel_rfl
theorem gWdType:(Tryd.prog.globals[2]?).map (·.type)=some 114:=by kernel_rfl
theorem cellsWd:Tryd.prog.cellsOf 114=27:=by kernel_rfl
theorem cellsStr:Tryd.prog.cellsOf 9=1:=by kernel_rfl
def wordsD:List (DataW Unit):=(List.range 27).map fun j=>.lit (.string (wd j).data.toList)
theorem wordsD_eq:(Rows.laid_isthmus_lex_words:DataW Unit)=.agg wordsD:=by rfl
theorem wordsA_list:wordsA.toList=(List.range 27).map fun j=>Value.string (wd j):=by rfl
theorem words_of_cells {W:World}{fuel:Nat}{cs:List Value}{p:List MemPlace}(h:DataW.trod (fun _=>()) Tryd.prog W 0 (fun _=>true) false fuel 114 cs=some (.agg wordsD,p)):cs=wordsA.toList:=by
 obtain⟨xs,m,_,hx,hl,hlen,hf⟩:=DataW.trod_array Tryd.underlying114 h;rw[cellsWd] at hl;simp only[cellsStr,Nat.mul_one] at hf;simp only[Prod.mk.injEq,DataW.agg.injEq] at hx;rw[wordsA_list];apply List.ext_getElem?;intro i;by_cases hi:i<27
 ·have hfi:=hf i hi;have hxi:xs[i]?=some xs[i]:=List.getElem?_eq_getElem (by omega);rw[hxi] at hfi;obtain⟨s,h1,h2⟩:=DataW.trod_string Tryd.underlying9 hfi;have hc:cs[i]?=some (.string s):=by
   have:=congrArg (·[0]?) h1
   simpa [List.getElem?_take,List.getElem?_drop] using this
  have hd:(xs.map (·.1))[i]?=some (.lit (.string s.data.toList)):=by rw[List.getElem?_map,hxi,h2.1];rfl
  rw[<-hx.1] at hd;unfold wordsD at hd;rw[List.getElem?_map,List.getElem?_range hi] at hd;simp only[Option.map_some,Option.some.injEq,DataW.lit.injEq,Lit.string.injEq] at hd;have hs:=bytes_eq.1 hd;rw[hc,List.getElem?_map,List.getElem?_range hi,<-hs];rfl
 ·rw[List.getElem?_eq_none (by omega),List.getElem?_eq_none (by simp;omega)]
theorem wd_of_laid {W : World} {r : List (String × DataW Unit)} (h : laidMet Tryd.prog (("isthmus/lex.words", Rows.laid_isthmus_lex_words) :: r) W) : Wd W := by
 rw[wordsD_eq] at h;obtain⟨ps,⟨g',t',cs,fuel,p,q,hg',ht',hvar,hd,_,_⟩,_⟩:=h;obtain rfl:=Option.some.inj (gWd.symm.trans hg');obtain rfl:=Option.some.inj (gWdType.symm.trans ht');have hcs:=words_of_cells hd;have hcs':cs=wordsA:=Array.toList_inj.1 hcs;subst hcs';simp only[World.var?,gWd,Option.bind_some] at hvar;split at hvar
 ·rename_i c t fr hh
  cases hvar;exact⟨t,fr,hh⟩
 ·cases hvar
def layCells (cs:Array Value):Obj->Obj
 | .cells _ t frozen=>.cells cs t frozen
 | o=>o
theorem tab_of_laid2 {W : World} {r : List (String × DataW Unit)} (h : laidMet Tryd.prog (("isthmus/pack.fields", Rows.laid_isthmus_pack_fields) :: r) W) : Tab W := by
 obtain⟨ps,⟨g',t',cs,fuel,p,q,hg',ht',hvar,hd,_,_⟩,_⟩:=h;obtain rfl:=Option.some.inj (gTab.symm.trans hg');obtain rfl:=Option.some.inj (gTabType.symm.trans ht');obtain⟨xs,m,_,hx,hl,hlen,hf⟩:=DataW.trod_array Tryd.underlying117 hd;rw[cellsTab] at hl;simp only[cellsField] at hf
 match xs,hlen with
 | [x0,x1,x2],_ =>
  have f0:=hf 0 (by omega);have f1:=hf 1 (by omega);have f2:=hf 2 (by omega);simp only[Rows.laid_isthmus_pack_fields,List.map_cons,List.map_nil,Prod.mk.injEq,DataW.agg.injEq,List.cons.injEq,and_true] at hx;obtain⟨⟨e0,e1,e2⟩,_⟩:=hx;obtain⟨d0,p0⟩:=x0;obtain⟨d1,p1⟩:=x1;obtain⟨d2,p2⟩:=x2;simp only at e0 e1 e2;subst e0 e1 e2;have g0:=field_cells f0;have g1:=field_cells f1;have g2:=field_cells f2;obtain⟨l⟩:=cs
  match l,hl with
  | [v0,v1,v2,v3,v4,v5],_ =>
   simp at g0 g1 g2;obtain⟨rfl,rfl⟩:=g0;obtain⟨rfl,rfl⟩:=g1;obtain⟨rfl,rfl⟩:=g2;have hc:=fun i=>World.var?_cell gTab hvar i;have c0:=hc 0;have c1:=hc 1;have c2:=hc 2;have c3:=hc 3;have c4:=hc 4;have c5:=hc 5;simp at c0 c1 c2 c3 c4 c5;refine⟨c0,c1,c2,c3,c4,c5,?_⟩;by_cases hs:3<W.heap.size
   ·exact hs
   ·exfalso
    have:W.heap[3]?=none:=Array.getElem?_eq_none (by omega)
    simp[World.cell?,this] at c0
theorem gRul : Tryd.prog.globalNamed "isthmus/code.rules" = some 1 := by kernel_rfl
theorem gRulType:(Tryd.prog.globals[1]?).map (·.type)=some 109:=by kernel_rfl
theorem cellsRul:Tryd.prog.cellsOf 109=56:=by kernel_rfl
theorem cellsRu1:Tryd.prog.cellsOf 108=2:=by kernel_rfl
def rulesD:List (DataW Unit):=(List.range 28).map fun j=>.agg [.lit (.int .i64 (rulA.getD j 0:Nat)),.lit (.int .i64 (rulB.getD j 0:Nat))]
theorem rulesD_eq:(Rows.laid_isthmus_code_rules:DataW Unit)=.agg rulesD:=by rfl
theorem rule_cells {W:World}{m:Nat}{l:List Value}{a b:Int}{p:List MemPlace}
  (h:DataW.trod (fun _=>()) Tryd.prog W 0 (fun _=>true) false m 108 l=some (.agg [.lit (.int .i64 a),.lit (.int .i64 b)],p)):l=[.int .i64 a,.int .i64 b]:=by
 obtain⟨y0,y1,n,hx,hl,h0,h1⟩:=trod_struct2 Tryd.underlying108 h;simp only[Prod.mk.injEq,DataW.agg.injEq,List.cons.injEq,and_true] at hx;obtain⟨⟨e0,e1⟩,_⟩:=hx;obtain⟨z0,c0,r0,_⟩:=DataW.trod_int Tryd.underlying3 h0;obtain⟨z1,c1,r1,_⟩:=DataW.trod_int Tryd.underlying3 h1;subst r0 r1;simp only[DataW.lit.injEq,Lit.int.injEq,true_and] at e0 e1;subst e0 e1;rw[cellsRu1] at hl;simp only[cellsInt] at c0 c1
 match l,hl with
 | [v0,v1],_ =>
  simp at c0 c1;rw[c0,c1]
theorem rul_of_laid {W : World} {r : List (String × DataW Unit)} (h : laidMet Tryd.prog (("isthmus/code.rules", Rows.laid_isthmus_code_rules) :: r) W) : Rul W := by
 rw[rulesD_eq] at h;obtain⟨ps,⟨g',t',cs,fuel,p,q,hg',ht',hvar,hd,_,_⟩,_⟩:=h;obtain rfl:=Option.some.inj (gRul.symm.trans hg');obtain rfl:=Option.some.inj (gRulType.symm.trans ht');obtain⟨xs,m,_,hx,hl,hlen,hf⟩:=DataW.trod_array Tryd.underlying109 hd;rw[cellsRul] at hl;simp only[cellsRu1] at hf;simp only[Prod.mk.injEq,DataW.agg.injEq] at hx;have hc:=fun i=>World.var?_cell gRul hvar i;have key:∀ o,o<28->cs[o*2]?=some (.int .i64 (rulA.getD o 0:Nat))/\cs[o*2+1]?=some (.int .i64 (rulB.getD o 0:Nat)):=fun o ho=>by
  have hfi:=hf o ho;have hxi:xs[o]?=some xs[o]:=List.getElem?_eq_getElem (by omega);rw[hxi] at hfi;have hd:(xs.map (·.1))[o]?=some (xs[o].1):=by rw[List.getElem?_map,hxi];rfl
  rw[<-hx.1] at hd;unfold rulesD at hd;rw[List.getElem?_map,List.getElem?_range ho] at hd;simp only[Option.map_some,Option.some.injEq] at hd;have g:=rule_cells (p:=xs[o].2) (hfi.trans (congrArg some (Prod.ext hd.symm rfl)));have h0:((cs.toList.drop (o*2)).take 2)[0]?=some (.int .i64 (rulA.getD o 0:Nat)):=by rw[g];rfl
  have h1:((cs.toList.drop (o*2)).take 2)[1]?=some (.int .i64 (rulB.getD o 0:Nat)):=by rw[g];rfl
  simp only[List.getElem?_take,List.getElem?_drop] at h0 h1;exact⟨by simpa using h0,by simpa using h1⟩
 refine⟨?_,fun o ho=>⟨(hc (o*2)).trans (key o ho).1,(hc (o*2+1)).trans (key o ho).2⟩⟩;by_cases hs:1<W.heap.size
 ·exact hs
 ·exfalso;have h0:=(hc (0*2)).trans (key 0 (by omega)).1
  have:W.heap[1]?=none:=Array.getElem?_eq_none (by omega)
  simp[World.cell?,this] at h0
theorem gDe : Tryd.prog.globalNamed "math/bits.deBruijn64tab" = some 0 := by kernel_rfl
theorem gDeType:(Tryd.prog.globals[0]?).map (·.type)=some 94:=by kernel_rfl
theorem cellsDe:Tryd.prog.cellsOf 94=64:=by kernel_rfl
theorem cellsByte:Tryd.prog.cellsOf 5=1:=by kernel_rfl
def deZ:List Int:=Lib.deBruijn64tab.map (fun (n:Nat)=>(n:Int))
theorem deZ_eq:(Rows.laid_math_bits_deBruijn64tab:DataW Unit)=Lib.tabData .u8 deZ:=by rfl
theorem tz_of_laid {W : World} {r : List (String × DataW Unit)} (h : laidMet Tryd.prog (("math/bits.deBruijn64tab", Rows.laid_math_bits_deBruijn64tab) :: r) W) : Tzg W := by
 rw[deZ_eq] at h;have hT:=Lib.tabIs_of_head gDe gDeType Tryd.underlying94 Tryd.underlying5 cellsByte cellsDe h;refine⟨fun j hj=>?_,?_⟩
 ·rw[hT.cell gDe j (by simpa [deZ] using hj)];simp[deZ,List.getD,List.getElem?_eq_getElem hj]
 ·have c0:=hT.cell gDe 0 (by decide);by_cases hs:0<W.heap.size
  ·exact hs
  ·exfalso
   have:W.heap[0]?=none:=Array.getElem?_eq_none (by omega)
   simp[World.cell?,this] at c0
abbrev laidG : List (String × DataW Unit) := [("isthmus/pack.fields", Rows.laid_isthmus_pack_fields), ("math/bits.deBruijn64tab", Rows.laid_math_bits_deBruijn64tab), ("isthmus/lex.words", Rows.laid_isthmus_lex_words), ("isthmus/code.rules", Rows.laid_isthmus_code_rules)]
theorem fx_of_laid {W:World}(h:laidMet Tryd.prog laidG W):Fx W:=⟨tab_of_laid2 h,rul_of_laid h.tail.tail.tail,wd_of_laid h.tail.tail⟩
theorem tz_of_laidG {W:World}(h:laidMet Tryd.prog laidG W):Tzg W:=tz_of_laid h.tail
def rulesA:Array Value:=((List.range 56).map fun j=>if j % 2=0 then Value.int .i64 (rulA.getD (j / 2) 0:Nat) else .int .i64 (rulB.getD (j / 2) 0:Nat)).toArray
def laidWorld (P:Program)(os:Os):World :=
 let w0:=World.holding P os ⟨#[],#[],[]⟩
 { w0 with heap:=((((w0.heap.modify 0 (layCells (deZ.map fun z=>Value.int .u8 z).toArray)).modify 3 (layCells #[.int .u64 56,.int .u64 255,.int .u64 28,.int .u64 268435455,.int .u64 0,.int .u64 268435455]))).modify 2 (layCells wordsA)).modify 1 (layCells rulesA) }
set_option linter.unusedSimpArgs false
theorem cellsRaw:Tryd.prog.cellsOf 44=3:=by kernel_rfl
def Wgh {H:Type}(d:DataW H)(n:Nat):Prop:=(d=.nil/\n=0)\/∃es sp,d=.slice es sp/\n<=es.length+sp.length
theorem lsv_of {W:World}{a:Addr}{len cap:Nat}{vs:List Value}(hl:len<=vs.length)(hc:∀ i (h:i<vs.length),W.cell? (a.add i)=some vs[i])(hb:0<len->a.block<W.heap.size):Lsv W (some a) (vs.take len):=by
 by_cases h0:len=0
 ·exact .inl (by simp[h0])
 ·obtain⟨b,off,spot⟩:=a;have h1:=hc 0 (by omega);have hspot:spot=none:=by simpa [Addr.add] using World.cell?_spot h1
  subst hspot;refine .inr ⟨b,off,rfl,hb (by omega),fun j x hj=>?_⟩;rw[List.getElem?_take] at hj;split at hj
  ·have hj2:=List.getElem?_eq_some_iff.1 hj;obtain⟨h2,h3⟩:=hj2
   have:=hc j h2
   rw[Addr.add_mid] at this;rw[this,h3]
  ·cases hj
theorem opn_ints {H:Type}{enc:TypeId × Value->H}{W:World}{k:IntKind}{t e:TypeId}{fuel:Nat}{u:Value}{x:DataW H × List MemPlace}(ht:Tryd.prog.underlying t=some (.slice e))(he:Tryd.prog.underlying e=some (.int k))(hc:Tryd.prog.cellsOf e=1)
  (h:DataW.trod enc Tryd.prog W 0 (fun _=>true) true fuel t [u]=some x) (hlt:∀ q ∈ x.2,q.block<W.heap.size) :
  ∃(ao:Option Addr) (cap:Nat) (zs:List Int),u=.slice ao zs.length cap/\Lsv W ao (zs.map (.int k ·))/\(∀ n ∈ zs,(Lit.int k n).wf=true)/\zs.length<=maxLen/\Wgh x.1 zs.length:=by
 rcases open_ints ht he hc h with ⟨hcs,hx⟩|⟨a,len,cap,zs,hcs,_,hl,hm,hz,hx,hcell,hwz⟩
 ·simp at hcs;exact⟨none,0,[],hcs,.inl rfl,by simp,by unfold maxLen;simp,.inl ⟨by rw[hx],rfl⟩⟩
 ·simp at hcs;simp only[if_true] at hz;have hlz:(zs.take len).length=len:=by rw[List.length_take];omega
  refine⟨some a,cap,zs.take len,by rw[hlz];exact hcs,?_,fun n hn=>hwz n (List.mem_of_mem_take hn),by rw[hlz];exact Nat.le_trans hl hm,.inr ⟨_,_,by rw[hx],by simp[lits]<;>omega⟩⟩;rw[List.map_take];refine lsv_of (cap:=cap) (by simp;omega) (fun i hi=>?_) (fun h0=>?_)
  ·have hi':i<zs.length:=by simpa using hi
   have:=hcell i hi'
   rw[this];simp[List.getD_eq_getElem?_getD,List.getElem?_eq_getElem hi']
  ·have:=hlt (.cell a.block a.off) (by
    rw[hx];exact MemPlace.mem_row.2 ⟨0,by omega,by simp⟩)
   exact this
theorem open_isl {H:Type}{enc:TypeId × Value->H}{W:World}{a:Option Addr}{n c:Nat}{d:DataW H}{ps:List MemPlace}(h:DataW.Trod enc Tryd.prog W 0 (fun _=>true) true 23 (.slice a n c) d ps)(hlt:∀ q ∈ ps,q.block<W.heap.size) :
  ∃(ao:Option Addr) (cap:Nat) (zs:List Int),(.slice a n c:Value)=.slice ao zs.length cap/\Lsv W ao (isV zs)/\(∀ u ∈ zs,-9223372036854775808<=u/\u<=9223372036854775807)/\zs.length<=maxLen/\Wgh d zs.length:=by
 obtain⟨fuel,hf⟩:=h;obtain⟨ao,cap,zs,h1,h2,h3,h4,h5⟩:=opn_ints Tryd.underlying23 Tryd.underlying3 cellsInt hf hlt;exact⟨ao,cap,zs,h1,h2,fun u hu=>bd_i64 (h3 u hu),h4,h5⟩
theorem addp (b off k:Nat):(⟨b,off,none⟩:Addr).add k=⟨b,off+k,none⟩:=Addr.add_mid ..
theorem open_raws {H:Type}{enc:TypeId × Value->H}{W:World}{a:Option Addr}{n c:Nat}{d:DataW H}{ps:List MemPlace}(h:DataW.Trod enc Tryd.prog W 0 (fun _=>true) true 36 (.slice a n c) d ps)(hlt:∀ q ∈ ps,q.block<W.heap.size) :
  ∃(ao:Option Addr) (cap:Nat) (zs:List Rw),(.slice a n c:Value)=.slice ao zs.length cap/\RawW W ao zs/\(∀ r ∈ zs,r.Ok)/\zs.length<=maxLen/\Wgh d zs.length:=by
 obtain⟨fuel,hf⟩:=h;rcases Go.Deep.open_slice Tryd.underlying36 hf with ⟨hcs,hx⟩|⟨a',len',cap',m,n',D,Pl,hcs,_,hl,hm,hmm,hx,hel⟩
 ·simp[Value.cells] at hcs;obtain⟨rfl,rfl,rfl⟩:=hcs;simp only[Prod.mk.injEq] at hx;exact⟨none,0,[],rfl,.inl rfl,by simp,by simp,.inl ⟨hx.1,rfl⟩⟩
 ·simp[Value.cells] at hcs;obtain⟨rfl,rfl,rfl⟩:=hcs;simp only[Prod.mk.injEq] at hx;obtain⟨rfl,rfl⟩:=hx;simp only[if_true] at hmm;subst hmm;obtain⟨b,off,spot⟩:=a';have each:∀ i,i<n->∃r:Rw,spot=none/\b<W.heap.size/\(W.cell? ⟨b,off+i*3,none⟩=some (.int .i64 r.o)/\W.cell? ⟨b,off+i*3+1,none⟩=some (.int .i64 r.a)/\W.cell? ⟨b,off+i*3+2,none⟩=some (.int .i64 r.b))/\r.Ok:=by
   intro i hi;obtain⟨cs',h1,h2⟩:=hel i (by omega);rw[cellsRaw] at h1;obtain⟨_,hlen,hcell⟩:=World.cells?_some h1;obtain⟨xs,k,hk,hxy,_,hxl,hff⟩:=DataW.trod_struct Tryd.underlying44 h2
   match xs,hxl,cs',hlen with
   | [y0,y1,y2],_,[u0,u1,u2],_ =>
    have g0:=hff 0 _ rfl;have g1:=hff 1 _ rfl;have g2:=hff 2 _ rfl;simp[cellsInt] at g0 g1 g2;obtain⟨z0,e0,_,w0⟩:=DataW.trod_int Tryd.underlying3 g0;obtain⟨z1,e1,_,w1⟩:=DataW.trod_int Tryd.underlying3 g1;obtain⟨z2,e2,_,w2⟩:=DataW.trod_int Tryd.underlying3 g2;simp at e0 e1 e2;subst e0 e1 e2;have c0:=hcell 0 (by omega);have c1:=hcell 1 (by omega);have c2:=hcell 2 (by omega);have hspot:spot=none:=by
     obtain⟨cs0,k1,k2⟩:=hel 0 (by omega);rw[cellsRaw] at k1;obtain⟨_,klen,kcell⟩:=World.cells?_some k1;have k3:=kcell 0 (by omega);rw[List.getElem?_eq_getElem (by omega)] at k3;simpa [Addr.add] using World.cell?_spot k3
    subst hspot;simp only[addp] at c0 c1 c2;have hbl:b<W.heap.size:=hlt (.cell b off) (List.mem_append_left _ (MemPlace.mem_row.2 ⟨0,by rw[cellsRaw];omega,by simp⟩));have b0:=bd_i64 w0;have b1:=bd_i64 w1;have b2:=bd_i64 w2;exact⟨⟨z0,z1,z2⟩,rfl,hbl,⟨by simpa using c0,by simpa using c1,by simpa using c2⟩,⟨b0.1,b0.2,b1.1,b1.2,b2.1,b2.2⟩⟩
  have hlen:((List.range n).map fun i=>if h:i<n then (each i h).choose else ⟨0,0,0⟩).length=n:=by simp
  refine⟨some ⟨b,off,spot⟩,m,(List.range n).map fun i=>if h:i<n then (each i h).choose else ⟨0,0,0⟩,by rw[hlen],?_,?_,by rw[hlen];exact Nat.le_trans hl hm,.inr ⟨_,_,rfl,by simp<;>omega⟩⟩
  ·by_cases h0:n=0
   ·subst h0;exact .inl rfl
   ·have s0:=(each 0 (by omega)).choose_spec;refine .inr ⟨b,off,by rw[s0.1],s0.2.1,fun k hk=>?_⟩;have hk':k<n:=by simpa using hk
    simp only[List.getElem_map,List.getElem_range,dif_pos hk'];exact(each k hk').choose_spec.2.2.1
  ·intro r hr;obtain⟨i,hi,rfl⟩:=List.mem_map.1 hr;have hi':=List.mem_range.1 hi;simp only[dif_pos hi'];exact(each i hi').choose_spec.2.2.2
end Go.Proofs.YtpdfdhkdfkhfkaaDoor

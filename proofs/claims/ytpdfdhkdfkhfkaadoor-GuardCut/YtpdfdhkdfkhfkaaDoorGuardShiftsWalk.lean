import Derived.Test.YtpdfdhkdfkhfkaaDoorAwG
set_option maxRecDepth 100000
set_option maxHeartbeats 8000000
namespace Go.Proofs.YtpdfdhkdfkhfkaaDoor
open Go.RowKit
set_option linter.unusedVariables false
set_option linter.unusedSimpArgs false
theorem eff_same {c d:Cd}{o a b:Nat}(h:o=18->kdC d a=kdC c a):effE d o a b=effE c o a b:=by
 unfold effE;by_cases h18:o=18
 ·rw[h h18]
 ·rw[if_neg h18,if_neg h18]
theorem pass_same {c d:Cd}{o a b:Nat}(h:o=18->kdC d a=kdC c a)(s:St):passF d o a b s=passF c o a b s:=by
 unfold passF;rw[eff_same h]
theorem lead_same {c d:Cd}{o a:Nat}(h:o=17->kdC d a=kdC c a)(s:St):leadF d o a s=leadF c o a s:=by
 unfold leadF;by_cases h17:o=17
 ·rw[h h17]
 ·rw[if_neg h17,if_neg h17]
theorem look_same {c d:Cd}{o a b:Nat}(h:o=17\/o=18->kdC d a=kdC c a)(k:Nat)(s:St)(v:Vw):lookW d o a b k s v=lookW c o a b k s v:=by
 unfold lookW;rw[pass_same (fun e=>h (.inr e))];simp only[lead_same (fun e=>h (.inl e))]
def extV (j:Nat)(v:Vw):Vw:=⟨v.tb++List.replicate j none,v.dn++List.replicate j false,v.st,v.rd,v.kd⟩
theorem come_ext {j q:Nat}{s:St}{v:Vw}(h:(come q s v).1=0):come q s (extV j v)=(0,extV j (come q s v).2):=by
 unfold come at h ⊢;cases hq:v.tb[q]? with
 | none=>rw[hq] at h;simp at h
 | some x =>
  have hl:=(List.getElem?_eq_some_iff.1 hq).1;have e:(extV j v).tb[q]?=some x:=by
   show (v.tb++_)[q]?=_;rw[List.getElem?_append_left hl];exact hq
  rw[e];rw[hq] at h;cases x with
  | some t =>
   simp only at h ⊢;rw[h]
  | none =>
   simp only[extV];rw[List.set_append_left _ _ hl]
theorem halt_ext {j:Nat}{s:St}{v:Vw}:haltF s (extV j v)=((haltF s v).1,extV j (haltF s v).2):=by
 unfold haltF;split
 ·have e:(extV j v).kd=v.kd:=rfl;rw[e];split<;>rfl
 ·rfl
theorem go_ext {j o a b k:Nat}{s d:St}{v:Vw}(h:(goF o a b k s d v).1=0):goF o a b k s d (extV j v)=(0,extV j (goF o a b k s d v).2):=by
 unfold goF at h ⊢;obtain⟨A,hA⟩:∃A,A=(if o=13 then (0,v) else come (k+1) s v):=⟨_,rfl⟩
 obtain⟨A',hA'⟩:∃A',A'=(if o=13 then (0,extV j v) else come (k+1) s (extV j v)):=⟨_,rfl⟩
 rw[<-hA] at h ⊢;rw[<-hA'];have h0:A.1=0:=by
  by_cases e:A.1=0
  ·exact e
  ·rw[if_neg e] at h;exact h
 have h1:A'=(0,extV j A.2):=by
  rw[hA'] ;by_cases e:o=13
  ·rw[if_pos e] at hA ⊢;rw[hA]
  ·rw[if_neg e] at hA ⊢;rw[hA] at h0 ⊢;exact come_ext h0
 rw[if_pos h0] at h ⊢;rw[h1,if_pos rfl];cases hl:ledTo o a b with
 | none=>simp only
 | some q =>
  rw[hl] at h;exact come_ext h
theorem look_ext {c d:Cd}{j o a b k:Nat}{s:St}{v:Vw}(hk:o=17\/o=18->kdC d a=kdC c a)(h:(lookW c o a b k s v).1=0):lookW d o a b k s (extV j v)=(0,extV j (lookW c o a b k s v).2):=by
 rw[look_same hk];unfold lookW at h ⊢;by_cases h0:o=0
 ·rw[if_pos h0] at h ⊢;rw[if_pos h0,halt_ext,h]
 ·rw[if_neg h0] at h ⊢;rw[if_neg h0];cases hp:passF c o a b s with
  | inl e=>rw[hp] at h;simp only at h ⊢;rw[h]
  | inr t =>
   rw[hp] at h;simp only at h ⊢;cases hl:leadF c o a t with
   | none=>rw[hl] at h;simp at h
   | some d=>rw[hl] at h;simp only at h ⊢;exact go_ext h
theorem nxt_ext {j:Nat}{v:Vw}(hl:v.dn.length=v.tb.length):nxtF (extV j v)=nxtF v:=by
 have hw:∀ i,i<v.tb.length->waits (extV j v) i=waits v i:=fun i hi=>by
  unfold waits extV;simp only[List.getD_eq_getElem?_getD];rw[List.getElem?_append_left hi,List.getElem?_append_left (by omega)]
 have hw2:∀ i,¬i<v.tb.length->waits (extV j v) i=false:=fun i hi=>by
  unfold waits extV;simp only[List.getD_eq_getElem?_getD];rw[List.getElem?_append_right (by omega),List.getElem?_replicate];split<;>rfl
 cases hx:nxtF v with
 | none =>
  refine nxt_no fun i hi=>?_;by_cases h:i<v.tb.length
  ·rw[hw i h];exact nxt_none hx i
  ·exact hw2 i h
 | some k =>
  obtain⟨h1,h2,h3⟩:=nxt_some hx;refine nxt_at (by simp[extV];omega) (by rw[hw k h1];exact h2) fun i hi=>?_;rw[hw i (by omega)];exact h3 i hi
theorem verF_ext {c d:Cd}{j:Nat}(ho:c.Ok)(hr:rgtB c=true)(hw:∃l,d.ws=c.ws++l)(hk:∀ a,a<c.ks.length->kdC d a=kdC c a) :
  ∀ (m m':Nat) (v:Vw),VwOk c.ws.length v->und v<m->m<=m'->(verF c m v).2.1=0->verF d m' (extV j v)=verF c m v
 | 0,_,v,_,hu,_,_=>absurd hu (by omega)
 | m+1,m',v,V,hu,hmm,h0=>by
  have hdl:v.dn.length=v.tb.length:=by rw[V.dl,V.tl]
  cases hx:nxtF v with
  | none=>rw[verF_none hx,verF_none (by rw[nxt_ext hdl];exact hx)];rfl
  | some k =>
   obtain⟨hkl,hwt,-⟩:=nxt_some hx;rw[V.tl] at hkl;have W:=wdr_of ho hr hkl;obtain⟨m'',rfl⟩:∃m'',m'=m''+1:=⟨m' - 1,by omega⟩
   have he:(lookF c k (markF k v)).1=0:=by
    by_cases he:(lookF c k (markF k v)).1=0
    ·exact he
    ·rw[verF_bad hx he] at h0;exact absurd h0 he
   have hkd:k<v.dn.length:=by rw[V.dl];exact hkl
   have hdn:v.dn.getD k false=false:=by
    simp only[waits,Bool.and_eq_true] at hwt;simpa using hwt.2
   have hum:=und_mark hkd hdn;have hmk:markF k (extV j v)=extV j (markF k v):=by
    unfold markF extV;simp only;rw[List.set_append_left _ _ hkd]
   have hst:stA (markF k (extV j v)) k=stA (markF k v) k:=by
    show ((v.tb++_).getD k none).getD ([],0)=(v.tb.getD k none).getD ([],0);simp only[List.getD_eq_getElem?_getD];rw[List.getElem?_append_left (by rw[V.tl];exact hkl)]
   obtain⟨l,hl⟩:=hw;have hg:d.ws.getD k 0=c.ws.getD k 0:=by
    simp only[List.getD_eq_getElem?_getD];rw[hl,List.getElem?_append_left hkl]
   have e:lookF d k (markF k (extV j v))=(0,extV j (lookF c k (markF k v)).2):=by
    unfold lookF opN aN bN at he ⊢;rw[hst,hg,hmk];exact look_ext (fun h=>hk _ (W.c17 (h.elim .inl (fun e=>.inr (.inl e))))) he
   have V2:=lookW_ok (k:=k) hr W (mark_ok (k:=k) V) (stA_ok (mark_ok (k:=k) V) k);have hun:und (lookF c k (markF k v)).2=und (markF k v):=by
    unfold und lookF;rw[V2.2]
   rw[verF_next hx he] at h0 ⊢;rw[verF_next (by rw[nxt_ext hdl];exact hx) (by rw[e]),e];exact verF_ext ho hr ⟨l,hl⟩ hk m m'' _ V2.1 (by omega) (by omega) h0
theorem new_ext {n j:Nat}(hn:0<n):newF (n+j)=extV j (newF n):=by
 obtain⟨n,rfl⟩:∃k,n=k+1:=⟨n-1,by omega⟩
 unfold newF extV;simp only;rw[List.replicate_append_replicate,show n+1+j=(n+j)+1 by omega,List.replicate_succ,List.set_cons_zero,List.replicate_succ (n:=n),List.set_cons_zero,List.cons_append,List.replicate_append_replicate]
theorem vrf_words {c d:Cd}{l:List Int}(ho:c.Ok)(hw:d.ws=c.ws++l)(hk:d.ks=c.ks)(h:(vrfA c).2.1=0):((vrfA d).2.1=180/\(vrfA d).2.2=0/\(vrfA d).1=(0,0,0))\/vrfA d=vrfA c:=by
 have hr:rgtB c=true:=by
  by_cases hr:rgtB c=true
  ·exact hr
  ·unfold vrfA at h;rw[if_neg hr] at h;exact absurd h (by simp)
 by_cases hr2:rgtB d=true
 ·right
  unfold vrfA at h ⊢;rw[if_pos hr] at h ⊢;rw[if_pos hr2];have hn:0<c.ws.length:=by
   have h1:=hr;simp only[rgtB,wdsB,Bool.and_eq_true,decide_eq_true_eq] at h1;exact h1.2.1.1
  have el:d.ws.length=c.ws.length+l.length:=by rw[hw];simp
  rw[el,new_ext hn];exact verF_ext ho hr ⟨l,hw⟩ (fun a _=>by unfold kdC;rw[hk]) _ _ _ new_ok (by rw[und_new];omega) (by omega) h
 ·left
  unfold vrfA;rw[if_neg hr2];exact⟨rfl,rfl,rfl⟩
theorem vrf_first {c:Cd}(h1:c.ws.length=1):(vrfA c).2.1≠0/\(vrfA c).2.2=0:=by
 unfold vrfA;by_cases hr:rgtB c=true
 ·rw[if_pos hr,h1];have hx:nxtF (newF 1)=some 0:=by decide
  by_cases he:(lookF c 0 (markF 0 (newF 1))).1=0
  ·rw[verF_next hx he];have hs:stA (markF 0 (newF 1)) 0=([],0):=by decide
   obtain⟨V,hV⟩:∃V,V=markF 0 (newF 1):=⟨_,rfl⟩
   have htb:V.tb=[some ([],0)]:=by rw[hV];decide
   have hdn:V.dn=[true]:=by rw[hV];decide
   have hkd:V.kd=0:=by rw[hV];decide
   unfold lookF at he ⊢;rw[hs] at he ⊢;rw[<-hV] at he ⊢;have key:(lookW c (opN c 0) (aN c 0) (bN c 0) 0 ([],0) V).2=V:=by
    revert he
    unfold lookW;by_cases h0:opN c 0=0
    ·rw[if_pos h0];intro he;exact absurd he (by unfold haltF;simp)
    ·rw[if_neg h0];cases hp:passF c (opN c 0) (aN c 0) (bN c 0) ([],0) with
     | inl e=>intro he;rfl
     | inr t =>
      simp only;cases hl:leadF c (opN c 0) (aN c 0) t with
      | none=>intro he;rfl
      | some d =>
       simp only;unfold goF;by_cases h13:opN c 0=13
       ·simp only[if_pos h13];intro he;have hlt:ledTo (opN c 0) (aN c 0) (bN c 0)=some (aN c 0):=by unfold ledTo;rw[if_pos (.inl h13)]
        rw[hlt] at he ⊢;simp only[if_true] at he ⊢;unfold come at he ⊢;rw[htb] at he ⊢;cases ha:aN c 0 with
        | zero=>rfl
        | succ q=>rfl
       ·simp only[if_neg h13];have hc1:come (0+1) t V=(200,V):=by unfold come;rw[htb];rfl
        rw[hc1];intro he;exact absurd he (by simp)
   rw[key];have hn:nxtF V=none:=by
    refine nxt_no fun i hi=>?_;rw[htb] at hi
    have:i=0:=by simpa using hi
    subst this;unfold waits;rw[htb,hdn];rfl
   rw[verF_none hn];unfold finF;rw[hkd];simp
  ·rw[verF_bad hx he];exact⟨he,rfl⟩
 ·rw[if_neg hr];exact⟨by simp,rfl⟩
open Go.ChangeShapes Go.WideShapes Go.ChangeAt Go.RowKit
theorem run_append_zero {P:Program}(w:World)(t ty e:TypeId)(i:TypeInfo)(ht:P.underlying t=some (.slice e))(hi:P.info? e=some i)(ao:Option Addr)(n cap:Nat)(x:Option Addr)(c:Nat)(hnc:n<=cap) :
  (Builtin.append_ #[t,t] ty #[.slice ao n cap,.slice x 0 c]).run P w=.ok (.slice ao n cap) w:=by
 have hl:∀ a:Addr,(loadCells a 0).run P w=.ok #[] w:=fun a=>by simp[loadCells,loadCellsFrom]
 cases x<;>cases ao<;>simp[Builtin.append_,run_underlying ht,sizeOf,typeInfo,hi,Builtin.lenOf,Builtin.firstCells,hnc,storeCells,hl]
theorem wpList_append_zero {P:Program}{w:World}{ops:Array Oper}{rest:List Oper}{op:Oper}{a:Act}{Q:Exit->Act->World->Prop}(hgd:op.guard=none)(s x:Operand)(t:TypeId)
  (ho:op.op=.call { callee:=.builtin .append,args:=#[s,x],argTypes:=#[t,t] }) (e:TypeId) (i:TypeInfo) (ht:P.underlying t=some (.slice e)) (hi:P.info? e=some i)
  (ao:Option Addr) (n cap:Nat) (y:Option Addr) (c:Nat) (hs:a.eval s=.slice ao n cap) (hx:a.eval x=.slice y 0 c) (hnc:n<=cap) (h:wpList P ops Q rest (a.put op.dst (.slice ao n cap)) w):wpList P ops Q (op::rest) a w:=by
 refine wpList_plain hgd fun _ hK=>?_;have hr:=run_append_zero (P:=P) w t op.type e i ht hi ao n cap y c hnc;unfold Oper.wp execOp;simp only[ho,resolve,invoke,builtin,Sem.run_bind,Sem.run_pure,Result.andThen_ok,List.map_toArray,List.map_cons,List.map_nil,hs,hx,hr];exact hK _ _ h
theorem Row.cap {w:World}{o:Nat->Nat}{i:Nat}{e:TypeId}{size:Nat}{n m cap:Nat}{ao:Option Addr}{xs:List Value}(h:Row w o i e size (.slice ao m cap) n xs):m=n/\n<=cap/\cap<=maxLen:=by
 rcases h.1.2 with ⟨hh,hk0⟩|⟨gx,cx,_,hh,_,_,hle,hm,_⟩
 ·simp only[Value.slice.injEq] at hh;obtain⟨_,rfl,rfl⟩:=hh;exact⟨hk0.symm,by omega,by unfold maxLen;omega⟩
 ·simp only[Value.slice.injEq] at hh;obtain⟨_,rfl,rfl⟩:=hh;exact⟨rfl,hle,hm⟩
theorem words_okg (l:List Rw):∀ u ∈ l.map wdN,0<=u/\u<18446744073709551616:=fun u hu=>by
 obtain⟨r,_,rfl⟩:=List.mem_map.1 hu;exact wdN_bd r
abbrev fewS:ByteArray:=⟨#[102,101,119]⟩
abbrev k3g:Array Value:=#[.int .i64 1,.int .i64 2,.int .i64 3]
theorem k3g_lsv {w:World}{g:Nat}{t:TypeId}{p:Nat × Nat}(hh:w.heap[g]?=some (.cells k3g t p))(hg:g<w.heap.size):Lsv w (some ⟨g,0,none⟩) (isV [1,2,3]):=by
 refine .inr ⟨g,0,rfl,hg,fun j x hx=>?_⟩;unfold World.cell?;rw[hh]
 match j,hx with
 | 0,hx=>simp[isV] at hx;subst hx;rfl
 | 1,hx=>simp[isV] at hx;subst hx;rfl
 | 2,hx=>simp[isV] at hx;subst hx;rfl
theorem few_lsv {w:World}{g:Nat}{t:TypeId}{p:Nat × Nat}(hh:w.heap[g]?=some (.cells #[.string fewS] t p))(hg:g<w.heap.size):Lsv w (some ⟨g,0,none⟩) (nsV [fewS]):=by
 refine .inr ⟨g,0,rfl,hg,fun j x hx=>?_⟩;unfold World.cell?;rw[hh]
 match j,hx with
 | 0,hx=>simp[nsV] at hx;subst hx;rfl
def cdS (l:List Rw)(cs:List Int):Cd:=⟨l.map wdN,cs,[fewS],[1,2,3]⟩
theorem cdS_ok {l:List Rw}{cs:List Int}(okS:∀ u ∈ cs,-9223372036854775808<=u/\u<=9223372036854775807):(cdS l cs).Ok:=by
 refine⟨words_okg l,okS,fun u hu=>?_,fun u hu=>?_⟩
 ·simp[cdS] at hu;omega
 ·simp[cdS] at hu;subst hu;decide
theorem resV_eq (a b c e n:Nat):resV ((a,b,c),e,n)=.tuple #[.agg #[.int .i64 (a:Nat),.int .i64 (b:Nat),.int .i64 (c:Nat)],.int .i64 (e:Nat),.int .i64 (n:Nat)]:=rfl
end Go.Proofs.YtpdfdhkdfkhfkaaDoor

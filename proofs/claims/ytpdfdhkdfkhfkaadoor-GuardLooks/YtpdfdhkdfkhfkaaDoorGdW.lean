import Derived.Test.YtpdfdhkdfkhfkaaDoorCodM
import Derived.Test.YtpdfdhkdfkhfkaaDoorProg
import Derived.Lib.TrailingZeros
import Derived.Shelf.Spec.TrailingZeros
set_option maxRecDepth 100000
set_option maxHeartbeats 8000000
namespace Go.Proofs.YtpdfdhkdfkhfkaaDoor
open Go.RowKit
set_option linter.unusedVariables false
set_option linter.unusedSimpArgs false
abbrev St:=List Nat × Nat
def kdC (c:Cd)(a:Nat):Nat:=(c.ks.getD a 0).toNat
def callE (a:Nat):List Nat × List Nat:=if a=1\/a=2 then ([3,3],[2]) else if a=3 then ([3,3],[1]) else if a=10 then ([3],[3]) else ([3],[1])
def effE (c:Cd)(o a b:Nat):List Nat × List Nat :=
 if o=1 then ([],[b]) else if o=2\/o=3 then ([],[3]) else if o=4 then ([1],[1]) else if o=5 then ([2],[2])
 else if 6<=o/\o<=10 then ([1,1],[1]) else if o=11 then ([b,b],[2]) else if o=12 then ([1,1],[2]) else if o=14\/o=15\/o=27 then ([2],[])
 else if o=16 then callE a else if o=18 then ([kdC c a],[kdC c a]) else if o=22 then ([3],[]) else if o=23 then (List.replicate a 3,[])
 else if o=26 then ([1,2,1],[1,2]) else ([],[])
def fitE (o a r:Nat):Bool:=if o=3 then decide (a<r) else if 20<=o/\o<=23 then decide (r<4) else if o=24\/o=25 then decide (0<r) else true
def opnE (o r:Nat):Nat:=if 20<=o/\o<=23 then r+1 else if o=25 then r-1 else r
def passF (c:Cd)(o a b:Nat)(s:St):Nat ⊕ St :=
 if fitE o a s.2=true then
  if s.1.drop (s.1.length-(effE c o a b).1.length)=(effE c o a b).1 then
   if s.1.length-(effE c o a b).1.length+(effE c o a b).2.length<=1024 then .inr (s.1.take (s.1.length-(effE c o a b).1.length)++(effE c o a b).2,opnE o s.2) else .inl 201
  else .inl (if o=18/\s.1≠[] then 203 else 201)
 else .inl 201
def leadF (c:Cd)(o a:Nat)(s:St):Option St:=if o=17 then (if s.1.length<1024 then some (s.1++[kdC c a],s.2) else none) else if o=24 then some (s.1,s.2-1) else some s
def ledTo (o a b:Nat):Option Nat:=if o=13\/o=14\/o=15\/o=24 then some a else if o=17 then some b else none
structure Vw where
 tb:List (Option St)
 dn:List Bool
 st:Nat
 rd:Nat
 kd:Nat
def come (q:Nat)(s:St)(v:Vw):Nat × Vw :=
 match v.tb[q]? with
 | none=>(200,v)
 | some (some t)=>(if t=s then 0 else 202,v)
 | some none=>(0,⟨v.tb.set q (some s),v.dn,max v.st s.1.length,max v.rd s.2,v.kd⟩)
def haltF (s:St)(v:Vw):Nat × Vw :=
 if s.1.length=1/\s.2=0 then
  if v.kd≠0/\v.kd≠s.1.getD 0 0 then (202,v) else (0,⟨v.tb,v.dn,v.st,v.rd,s.1.getD 0 0⟩)
 else (201,v)
def goF (o a b k:Nat)(s d:St)(v:Vw):Nat × Vw :=
 if (if o=13 then (0,v) else come (k+1) s v).1=0 then
  match ledTo o a b with
  | none=>(if o=13 then (0,v) else come (k+1) s v)
  | some q=>come q d (if o=13 then (0,v) else come (k+1) s v).2
 else (if o=13 then (0,v) else come (k+1) s v)
abbrev opN (c:Cd)(k:Nat):Nat:=(opW (c.ws.getD k 0)).toNat
abbrev aN (c:Cd)(k:Nat):Nat:=(aW (c.ws.getD k 0)).toNat
abbrev bN (c:Cd)(k:Nat):Nat:=(bW (c.ws.getD k 0)).toNat
def stA (v:Vw)(k:Nat):St:=(v.tb.getD k none).getD ([],0)
def lookW (c:Cd)(o a b k:Nat)(s:St)(v:Vw):Nat × Vw :=
 if o=0 then haltF s v else
 match passF c o a b s with
 | .inl e=>(e,v)
 | .inr t=>match leadF c o a t with
  | none=>(201,v)
  | some d=>goF o a b k t d v
def lookF (c:Cd)(k:Nat)(v:Vw):Nat × Vw:=lookW c (opN c k) (aN c k) (bN c k) k (stA v k) v
def waits (v:Vw)(i:Nat):Bool:=(v.tb.getD i none).isSome&&!(v.dn.getD i false)
def nxtF (v:Vw):Option Nat:=(List.range v.tb.length).find? (waits v)
def markF (k:Nat)(v:Vw):Vw:=⟨v.tb,v.dn.set k true,v.st,v.rd,v.kd⟩
abbrev Res:=(Nat × Nat × Nat) × Nat × Nat
def finF (v:Vw):Res:=if v.kd=0 then ((0,0,0),201,0) else ((v.st,v.rd,v.kd),0,0)
def verF (c:Cd):Nat->Vw->Res
 | 0,v=>finF v
 | m+1,v=>match nxtF v with
  | none=>finF v
  | some k=>if (lookF c k (markF k v)).1=0 then verF c m (lookF c k (markF k v)).2 else ((0,0,0),(lookF c k (markF k v)).1,k)
def newF (n:Nat):Vw:=⟨(List.replicate n none).set 0 (some ([],0)),List.replicate n false,0,0,0⟩
def vrfA (c:Cd):Res:=if rgtB c=true then verF c (c.ws.length+1) (newF c.ws.length) else ((0,0,0),180,0)
structure StOk (s:St):Prop where
 len:s.1.length<=1024
 kd:∀ k ∈ s.1,1<=k/\k<=3
 rd:s.2<=4
structure VwOk (n:Nat)(v:Vw):Prop where
 tl:v.tb.length=n
 dl:v.dn.length=n
 sts:∀ (i:Nat) (s:St),v.tb[i]?=some (some s)->StOk s
 st:v.st<=1024
 rd:v.rd<=4
 kd:v.kd<=3
structure WdR (c:Cd)(o a b:Nat):Prop where
 ol:o<28
 al:a<268435456
 bl:b<268435456
 c1:o=1->1<=b/\b<=2
 c11:o=11->1<=b/\b<=3
 c16:o=16->1<=a/\a<=10
 c17:o=17\/o=18\/o=19->a<c.ks.length
 c23:o=23->a<=1024
theorem wdr_of {c:Cd}(ho:c.Ok)(h:rgtB c=true){k:Nat}(hk:k<c.ws.length):WdR c (opN c k) (aN c k) (bN c k):=by
 have hw:=ho.ws _ (List.getElem_mem hk);have e:c.ws.getD k 0=c.ws[k]:=by simp[List.getD_eq_getElem?_getD,List.getElem?_eq_getElem hk]
 simp only[rgtB,wdsB,Bool.and_eq_true,List.all_eq_true] at h;have hr:=h.2.2 _ (List.getElem_mem hk);unfold opN aN bN;rw[e];generalize c.ws[k]=u at *;unfold wrdB at hr;have h0:0<=opW u:=by show 0<=u / 72057594037927936;omega
 have h1:0<=aW u/\aW u<268435456:=by show 0<=u / 268435456 % 268435456/\u / 268435456 % 268435456<268435456;omega
 have h2:0<=bW u/\bW u<268435456:=by show 0<=u % 268435456/\u % 268435456<268435456;omega
 obtain⟨o,ho'⟩:=Int.eq_ofNat_of_zero_le h0;obtain⟨a,ha'⟩:=Int.eq_ofNat_of_zero_le h1.1;obtain⟨b,hb'⟩:=Int.eq_ofNat_of_zero_le h2.1;rw[ho',ha',hb'] at hr;rw[ha'] at h1;rw[hb'] at h2;rw[ho',ha',hb'];simp only[Int.toNat_natCast];clear ho' ha' hb' h0 e hw;have ho28:o<28:=by
  by_cases h28:o<28
  ·exact h28
  ·exfalso;have hh:∀ k:Int,k<28->¬(o:Int)=k:=fun k hk e=>by omega
   simp[wrdD,hh,h28] at hr;omega
 refine⟨ho28,by omega,by omega,?_,?_,?_,?_,?_⟩
 ·rintro rfl;simp[wrdD,within] at hr;omega
 ·rintro rfl;simp[wrdD,within] at hr;omega
 ·rintro rfl;simp[wrdD,within] at hr;omega
 ·rintro (rfl|rfl|rfl)<;>(simp[wrdD,within] at hr;omega)
 ·rintro rfl;simp[wrdD,within] at hr;omega
theorem kdC_ok {c:Cd}(h:rgtB c=true){a:Nat}(ha:a<c.ks.length):1<=kdC c a/\kdC c a<=3:=by
 have:=rgt_kinds h _ (List.getElem_mem ha)
 unfold kdC;rw[show c.ks.getD a 0=c.ks[a] by simp[List.getD_eq_getElem?_getD,List.getElem?_eq_getElem ha]];omega
theorem kdC_int {c:Cd}(h:rgtB c=true){a:Nat}(ha:a<c.ks.length):c.ks[a]=((kdC c a:Nat):Int):=by
 have:=rgt_kinds h _ (List.getElem_mem ha)
 unfold kdC;rw[show c.ks.getD a 0=c.ks[a] by simp[List.getD_eq_getElem?_getD,List.getElem?_eq_getElem ha]];omega
theorem call_push (a:Nat):∀ k ∈ (callE a).2,1<=k/\k<=3:=by
 intro k hk;unfold callE at hk;by_cases h1:a=1\/a=2
 ·rw[if_pos h1] at hk;simp at hk;omega
 ·rw[if_neg h1] at hk;by_cases h2:a=3
  ·rw[if_pos h2] at hk;simp at hk;omega
  ·rw[if_neg h2] at hk;by_cases h3:a=10
   ·rw[if_pos h3] at hk;simp at hk;omega
   ·rw[if_neg h3] at hk;simp at hk;omega
theorem eff_push {c:Cd}(h:rgtB c=true){o a b:Nat}(W:WdR c o a b):∀ k ∈ (effE c o a b).2,1<=k/\k<=3:=by
 intro k hk;have h1:=W.c1;have h18:=fun e:o=18=>kdC_ok h (W.c17 (Or.inr (Or.inl e)));have h16:=call_push a;have ho:=W.ol;clear W
 match o,ho with
 | 0,_ | 1,_ | 2,_ | 3,_ | 4,_ | 5,_ | 6,_ | 7,_ | 8,_ | 9,_ | 10,_ | 11,_ | 12,_ | 13,_ | 14,_ | 15,_ | 16,_ | 17,_ | 18,_ | 19,_ | 20,_ | 21,_ | 22,_ | 23,_ | 24,_ | 25,_ | 26,_ | 27,_ =>
  simp[effE] at hk h1 h18
  all_goals first|omega|exact h16 _ hk|(subst hk;exact h18)
theorem opn_le {o a r:Nat}(hf:fitE o a r=true)(h:r<=4):opnE o r<=4:=by
 unfold fitE opnE at *
 repeat' split at hf
 all_goals repeat' split
 all_goals simp at hf
 all_goals omega
theorem pass_ok {c:Cd}(h:rgtB c=true){o a b:Nat}(W:WdR c o a b){s t:St}(S:StOk s)(hp:passF c o a b s=.inr t):StOk t:=by
 unfold passF at hp;split at hp
 ·rename_i hf
  split at hp
  ·split at hp
   ·rename_i hl
    cases hp;refine⟨?_,?_,opn_le hf S.rd⟩
    ·simp only[List.length_append,List.length_take]
     have:=S.len
     omega
    ·intro k hk;rcases List.mem_append.1 hk with hk|hk
     ·exact S.kd k (List.mem_of_mem_take hk)
     ·exact eff_push h W k hk
   ·cases hp
  ·cases hp
 ·cases hp
theorem lead_ok {c:Cd}(h:rgtB c=true){o a b:Nat}(W:WdR c o a b){s t:St}(S:StOk s)(hp:leadF c o a s=some t):StOk t:=by
 unfold leadF at hp;split at hp
 ·rename_i e
  split at hp
  ·cases hp;refine⟨by simp;omega,?_,S.rd⟩;intro k hk;rcases List.mem_append.1 hk with hk|hk
   ·exact S.kd k hk
   ·have:=kdC_ok h (W.c17 (Or.inl e))
    simp at hk;subst hk;exact this
  ·cases hp
 ·split at hp
  ·cases hp;exact⟨S.len,S.kd,by have:=S.rd;dsimp only;omega⟩
  ·cases hp;exact S
theorem come_ok {n q:Nat}{s:St}{v:Vw}(V:VwOk n v)(S:StOk s):VwOk n (come q s v).2/\(come q s v).2.dn=v.dn:=by
 unfold come;split
 ·exact⟨V,rfl⟩
 ·exact⟨V,rfl⟩
 ·refine⟨⟨by simpa using V.tl,V.dl,?_,?_,?_,V.kd⟩,rfl⟩
  ·intro i t ht;rw[List.getElem?_set] at ht;split at ht
   ·split at ht
    ·simp at ht;subst ht;exact S
    ·cases ht
   ·exact V.sts i t ht
  ·have:=V.st;have:=S.len;dsimp only;omega
  ·have:=V.rd;have:=S.rd;dsimp only;omega
theorem halt_ok {n:Nat}{s:St}{v:Vw}(V:VwOk n v)(S:StOk s):VwOk n (haltF s v).2/\(haltF s v).2.dn=v.dn:=by
 unfold haltF;split
 ·rename_i h1
  split
  ·exact⟨V,rfl⟩
  ·refine⟨⟨V.tl,V.dl,V.sts,V.st,V.rd,?_⟩,rfl⟩;have h2:s.1.getD 0 0 ∈ s.1:=by
    rw[List.getD_eq_getElem?_getD,List.getElem?_eq_getElem (by omega)];exact List.getElem_mem _
   exact(S.kd _ h2).2
 ·exact⟨V,rfl⟩
theorem go_ok {n o a b k:Nat}{s d:St}{v:Vw}(V:VwOk n v)(S:StOk s)(D:StOk d):VwOk n (goF o a b k s d v).2/\(goF o a b k s d v).2.dn=v.dn:=by
 have H:VwOk n (if o=13 then (0,v) else come (k+1) s v).2/\(if o=13 then (0,v) else come (k+1) s v).2.dn=v.dn:=by
  split
  ·exact⟨V,rfl⟩
  ·exact come_ok V S
 unfold goF;generalize (if o=13 then (0,v) else come (k+1) s v)=r at *;split
 ·cases ledTo o a b with
  | none=>exact H
  | some q =>
   have:=come_ok (q:=q) H.1 D
   exact⟨this.1,this.2.trans H.2⟩
 ·exact H
theorem lookW_ok {c:Cd}(h:rgtB c=true){n o a b k:Nat}(W:WdR c o a b){s:St}{v:Vw}(V:VwOk n v)(S:StOk s):VwOk n (lookW c o a b k s v).2/\(lookW c o a b k s v).2.dn=v.dn:=by
 unfold lookW;split
 ·exact halt_ok V S
 ·split
  ·exact⟨V,rfl⟩
  ·rename_i t ht
   have T:=pass_ok h W S ht;split
   ·exact⟨V,rfl⟩
   ·rename_i d hd
    exact go_ok V T (lead_ok h W T hd)
theorem mark_ok {n k:Nat}{v:Vw}(V:VwOk n v):VwOk n (markF k v):=⟨V.tl,by simpa [markF] using V.dl,V.sts,V.st,V.rd,V.kd⟩
def und (v:Vw):Nat:=v.dn.countP (fun b=>!b)
theorem und_mark {v:Vw}{k:Nat}(hk:k<v.dn.length)(h:v.dn.getD k false=false):und (markF k v)+1=und v:=by
 unfold und markF
 dsimp only
 have h2:v.dn[k]=false:=by
  rw[List.getD_eq_getElem?_getD,List.getElem?_eq_getElem hk] at h;exact h
 have e:v.dn=v.dn.take k++false::v.dn.drop (k+1):=by
  rw[<-h2,List.getElem_cons_drop,List.take_append_drop]
 have e2:v.dn.set k true=v.dn.take k++true::v.dn.drop (k+1):=List.set_eq_take_append_cons_drop.trans (by rw[if_pos hk]);rw[e2]
 conv=>rhs;rw[e]
 simp only[List.countP_append,List.countP_cons];simp;omega
theorem nxt_some {v:Vw}{k:Nat}(h:nxtF v=some k):k<v.tb.length/\waits v k=true/\∀ j,j<k->waits v j=false:=by
 unfold nxtF at h;have h1:=List.find?_some h;have h2:=List.mem_of_find?_eq_some h;refine⟨List.mem_range.1 h2,h1,fun j hj=>?_⟩;rw[List.find?_range_eq_some] at h
 have:=h.2.2 j hj
 simpa using this
theorem nxt_at {v:Vw}{k:Nat}(hk:k<v.tb.length)(h:waits v k=true)(hl:∀ j,j<k->waits v j=false):nxtF v=some k:=by
 unfold nxtF;rw[List.find?_range_eq_some];exact⟨h,List.mem_range.2 hk,fun j hj=>by simp[hl j hj]⟩
theorem nxt_no {v:Vw}(h:∀ j,j<v.tb.length->waits v j=false):nxtF v=none:=by
 unfold nxtF;rw[List.find?_eq_none];intro j hj;simp[h j (List.mem_range.1 hj)]
theorem new_ok {n:Nat}:VwOk n (newF n):=by
 refine⟨by simp[newF],by simp[newF],?_,by simp[newF],by simp[newF],by simp[newF]⟩;intro i s h;simp only[newF] at h;rw[List.getElem?_set] at h;split at h
 ·split at h
  ·simp at h;subst h;exact⟨by simp,by simp,by simp⟩
  ·cases h
 ·rw[List.getElem?_replicate] at h;split at h
  ·simp at h
  ·cases h
theorem und_new {n:Nat}:und (newF n)=n:=by
 unfold und newF
 induction n with
 | zero=>rfl
 | succ n ih=>simp only[List.replicate_succ,List.countP_cons] at *;simp;omega
theorem verF_none {c:Cd}{m:Nat}{v:Vw}(h:nxtF v=none):verF c m v=finF v:=by
 cases m with
 | zero=>rfl
 | succ m=>rw[verF,h]
theorem verF_bad {c:Cd}{m k:Nat}{v:Vw}(h:nxtF v=some k)(he:(lookF c k (markF k v)).1≠0):verF c (m+1) v=((0,0,0),(lookF c k (markF k v)).1,k):=by
 rw[verF,h]
 dsimp only
 rw[if_neg he]
theorem verF_next {c:Cd}{m k:Nat}{v:Vw}(h:nxtF v=some k)(he:(lookF c k (markF k v)).1=0):verF c (m+1) v=verF c m (lookF c k (markF k v)).2:=by
 rw[verF,h]
 dsimp only
 rw[if_pos he]
open Go.ChangeShapes Go.WideShapes Go.ChangeAt Go.RowKit
def VwD (v:Vw):Prop:=∀ i,v.tb.getD i none=none->v.dn.getD i false=false
theorem come_d {q:Nat}{s:St}{v:Vw}(D:VwD v):VwD (come q s v).2:=by
 unfold come;split
 ·exact D
 ·exact D
 ·intro i hi
  dsimp only at hi ⊢
  apply D i;rw[List.getD_eq_getElem?_getD,List.getElem?_set] at hi;rw[List.getD_eq_getElem?_getD];split at hi
  ·split at hi
   ·simp at hi
   ·rw[List.getElem?_eq_none (by omega)];rfl
  ·exact hi
theorem halt_d {s:St}{v:Vw}(D:VwD v):VwD (haltF s v).2:=by
 unfold haltF;split
 ·split
  ·exact D
  ·exact D
 ·exact D
theorem go_d {o a b k:Nat}{s d:St}{v:Vw}(D:VwD v):VwD (goF o a b k s d v).2:=by
 have H:VwD (if o=13 then (0,v) else come (k+1) s v).2:=by
  split
  ·exact D
  ·exact come_d D
 unfold goF;generalize (if o=13 then (0,v) else come (k+1) s v)=r at *;split
 ·cases ledTo o a b with
  | none=>exact H
  | some q=>exact come_d H
 ·exact H
theorem lookW_d {c:Cd}{o a b k:Nat}{s:St}{v:Vw}(D:VwD v):VwD (lookW c o a b k s v).2:=by
 unfold lookW;split
 ·exact halt_d D
 ·split
  ·exact D
  ·split
   ·exact D
   ·exact go_d D
theorem mark_d {k:Nat}{v:Vw}(D:VwD v)(hw:waits v k=true):VwD (markF k v):=by
 intro i hi;have h:=D i hi;show (v.dn.set k true).getD i false=false;rw[List.getD_eq_getElem?_getD,List.getElem?_set];split
 ·rename_i e
  subst e;exfalso;unfold waits at hw;have hi':v.tb.getD k none=none:=hi;rw[hi'] at hw;simp at hw
 ·rw[List.getD_eq_getElem?_getD] at h;exact h
theorem new_d {n:Nat}:VwD (newF n):=by
 intro i _;show (List.replicate n false).getD i false=false;rw[List.getD_eq_getElem?_getD,List.getElem?_replicate];split<;>rfl
theorem waits_mark {k i:Nat}{v:Vw}(hk:k<v.dn.length):waits (markF k v) i=(waits v i&&!decide (i=k)):=by
 show ((v.tb.getD i none).isSome&&!((v.dn.set k true).getD i false))=_;unfold waits;by_cases e:i=k
 ·subst e;rw[List.getD_eq_getElem?_getD (l:=v.dn.set i true),List.getElem?_set,if_pos rfl,if_pos hk];simp
 ·rw[List.getD_eq_getElem?_getD (l:=v.dn.set k true),List.getElem?_set,if_neg (fun x=>e x.symm),<-List.getD_eq_getElem?_getD];simp[e]
theorem waits_come {q i:Nat}{s:St}{v:Vw}{x y z:Nat}(D:VwD v)(hq:v.tb[q]?=some none):waits ⟨v.tb.set q (some s),v.dn,x,y,z⟩ i=(waits v i||decide (i=q)):=by
 have hql:q<v.tb.length:=(List.getElem?_eq_some_iff.1 hq).1;show (((v.tb.set q (some s)).getD i none).isSome&&!(v.dn.getD i false))=_;unfold waits;by_cases e:i=q
 ·subst e;rw[List.getD_eq_getElem?_getD (l:=v.tb.set i (some s)),List.getElem?_set,if_pos rfl,if_pos hql,D i (by rw[List.getD_eq_getElem?_getD,hq];rfl)];simp
 ·rw[List.getD_eq_getElem?_getD (l:=v.tb.set q (some s)),List.getElem?_set,if_neg (fun x=>e x.symm),<-List.getD_eq_getElem?_getD];simp[e]
def bitsN (f:Nat->Bool):Nat->Nat
 | 0=>0
 | n+1=>bitsN f n+if f n=true then 2 ^ n else 0
theorem bitsN_lt (f:Nat->Bool):∀ n,bitsN f n<2 ^ n
 | 0=>by simp[bitsN]
 | n+1=>by
  have:=bitsN_lt f n
  rw[bitsN,Nat.pow_succ];split<;>omega
theorem bitsN_bit (f:Nat->Bool):∀ n i,(bitsN f n).testBit i=(decide (i<n)&&f i)
 | 0,i=>by simp[bitsN]
 | n+1,i=>by
  have hl:=bitsN_lt f n;rw[bitsN];by_cases hf:f n=true
  ·rw[if_pos hf];by_cases e:i=n
   ·subst e;rw[Nat.add_comm,Nat.testBit_two_pow_add_eq,bitsN_bit f i i,hf];simp
   ·rcases Nat.lt_or_gt_of_ne e with h|h
    ·rw[Nat.add_comm,Nat.testBit_two_pow_add_gt h,bitsN_bit f n i];simp[h,Nat.lt_succ_of_lt h]
    ·rw[Nat.testBit_lt_two_pow (Nat.lt_of_lt_of_le (show bitsN f n+2 ^ n<2 ^ (n+1) by rw[Nat.pow_succ];omega) (Nat.pow_le_pow_right (by decide) (by omega)))];simp;omega
  ·rw[if_neg hf,Nat.add_zero,bitsN_bit f n i];by_cases e:i=n
   ·subst e;simp[hf]
   ·have:(i<n ↔ i<n+1):=by omega
    simp[this]
abbrev topG:Nat:=18446744073709551616
def wtN (v:Vw)(j:Nat):Nat:=bitsN (fun i=>waits v (64*j+i)) 64
theorem wtN_lt (v:Vw)(j:Nat):wtN v j<topG:=bitsN_lt _ 64
theorem wtN_bit (v:Vw)(j i:Nat):(wtN v j).testBit i=(decide (i<64)&&waits v (64*j+i)):=bitsN_bit _ 64 i
theorem wtN_none {v:Vw}{j:Nat}(h:wtN v j=0):∀ i,i<64->waits v (64*j+i)=false:=fun i hi=>by
 have:=wtN_bit v j i
 rw[h,Nat.zero_testBit,decide_eq_true hi,Bool.true_and] at this;exact this.symm
theorem wtN_come {q j:Nat}{s:St}{v:Vw}{x y z:Nat}(D:VwD v)(hq:v.tb[q]?=some none):wtN ⟨v.tb.set q (some s),v.dn,x,y,z⟩ j=if j=q / 64 then wtN v j ||| 2 ^ (q % 64) else wtN v j:=by
 apply Nat.eq_of_testBit_eq;intro i;rw[wtN_bit,waits_come D hq];by_cases e:j=q / 64
 ·rw[if_pos e,Nat.testBit_or,wtN_bit,Nat.testBit_two_pow];by_cases hi:i<64
  ·have h2:(64*j+i=q ↔ q % 64=i):=by omega
   simp[hi,h2]
  ·have h3:¬q % 64=i:=by omega
   simp[hi,h3]
 ·rw[if_neg e,wtN_bit];by_cases hi:i<64
  ·have h2:¬(64*j+i=q):=by omega
   simp[hi,h2]
  ·simp[hi]
theorem pow_mul_bitg (c m i:Nat):(2 ^ c*(2*m+1)).testBit i=(decide (c<=i)&&(2*m+1).testBit (i-c)):=by
 rw[Nat.testBit_two_pow_mul]
theorem ctz_bitg (z:Nat)(h0:z≠0)(hz:z<topG):z.testBit (Lib.ctz 64 z)=true/\(∀ i,i<Lib.ctz 64 z->z.testBit i=false)/\Lib.ctz 64 z<64:=by
 obtain⟨m,h1,h2⟩:=Lib.ctzFrom_spec 64 z (by omega) hz;have e:Lib.ctz 64 z=Lib.ctzFrom 64 z:=by unfold Lib.ctz;rw[if_neg h0]
 rw[e];generalize Lib.ctzFrom 64 z=c at *;subst h1;refine⟨?_,fun i hi=>?_,h2⟩
 ·rw[pow_mul_bitg];simp
 ·rw[pow_mul_bitg,decide_eq_false (by omega)];rfl
theorem and_pred (z:Nat)(h0:z≠0)(hz:z<topG)(i:Nat):(z &&& (z-1)).testBit i=(z.testBit i&&!decide (i=Lib.ctz 64 z)):=by
 obtain⟨m,h1,h2⟩:=Lib.ctzFrom_spec 64 z (by omega) hz;have e:Lib.ctz 64 z=Lib.ctzFrom 64 z:=by unfold Lib.ctz;rw[if_neg h0]
 rw[e];generalize Lib.ctzFrom 64 z=c at *;have hz2:z=2 ^ (c+1)*m+2 ^ c:=by rw[h1,Nat.mul_add,Nat.pow_succ,<-Nat.mul_assoc,Nat.mul_one]
 have hp:0<2 ^ c:=Nat.pow_pos (by decide);have hz3:z-1=2 ^ (c+1)*m+(2 ^ c-1):=by omega
 have hlt1:2 ^ c<2 ^ (c+1):=by rw[Nat.pow_succ];omega
 rw[Nat.testBit_and,hz3,hz2,Nat.testBit_two_pow_mul_add _ hlt1,Nat.testBit_two_pow_mul_add _ (by omega:2 ^ c-1<2 ^ (c+1))];by_cases hi:i<c+1
 ·rw[if_pos hi,if_pos hi,Nat.testBit_two_pow,Nat.testBit_two_pow_sub_one];by_cases hic:c=i
  ·subst hic;simp
  ·have:¬i=c:=fun x=>hic x.symm
   simp[hic]
 ·rw[if_neg hi,if_neg hi]
  have:¬i=c:=by omega
  simp[this]
theorem wtN_mark {j c:Nat}{v:Vw}(h0:wtN v j≠0)(hc:c=Lib.ctz 64 (wtN v j))(hk:64*j+c<v.dn.length)(i:Nat) :
  wtN (markF (64*j+c) v) i=if i=j then wtN v j &&& (wtN v j-1) else wtN v i:=by
 have hl:=(ctz_bitg _ h0 (wtN_lt v j)).2.2;rw[<-hc] at hl;apply Nat.eq_of_testBit_eq;intro t;rw[wtN_bit,waits_mark hk];by_cases e:i=j
 ·subst e;rw[if_pos rfl,and_pred _ h0 (wtN_lt v i),<-hc,wtN_bit];by_cases ht:t<64
  ·have h2:(64*i+t=64*i+c ↔ t=c):=by omega
   simp[ht,h2]
  ·simp[ht]
 ·rw[if_neg e,wtN_bit];by_cases ht:t<64
  ·have h2:¬64*i+t=64*j+c:=by omega
   simp[ht,h2]
  ·simp[ht]
def Tzg (w:World):Prop:=TabAt 0 Lib.deBruijn64tab w/\0<w.heap.size
theorem Tzg.below {w w':World}(h:Tzg w)(b:Below w.heap.size w w'):Tzg w' :=
 ⟨fun j hj=>(b.cell (p:=⟨0,j,none⟩) h.2).trans (h.1 j hj),Nat.lt_of_lt_of_le h.2 b.size⟩
theorem tz_coreg (x k idx:Nat)(w:World)(hx0:((x:Int)==0)=false)
  (key:IntKind.u64.wrap (bits BinOp.and IntKind.u64 (x:Int) (IntKind.u64.wrap (-(x:Int)))*285870213051353865) / 288230376151711744=(idx:Int))
  (hi:idx<64) (hk:k<64) (hcell:w.cell? ⟨0,idx,none⟩=some (.int .u8 k)) :
  Calls Tryd.prog 37 #[.int .u64 x] w fun e w'=>e=.returned (.int .i64 k)/\w'=w:=by
 go_enter Tryd.func37,Tryd.ntmps37;go_wp2_with (simp only[key]);go_ret;exact⟨rfl,rfl⟩
theorem tz_cg (x:Nat)(w:World)(hx:x<topG)(hx0:x≠0)(hT:Tzg w) :
  Calls Tryd.prog 37 #[.int .u64 x] w fun e w'=>e=.returned (.int .i64 (Lib.ctz 64 x))/\w'=w:=by
 obtain⟨hlow,hk⟩:=Lib.lowest_bit 64 x hx0 hx;obtain⟨hi,htab⟩:=Lib.deBruijn64_at _ hk;have hcell:=hT.1 _ hi;rw[htab] at hcell;exact tz_coreg x _ _ w (by simp;omega) (tz64_key x _ hx hx0 hlow) hi hk hcell
end Go.Proofs.YtpdfdhkdfkhfkaaDoor

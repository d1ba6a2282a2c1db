import Derived.Test.YtlojiclhoiddlaaDoorApp0
set_option maxRecDepth 100000
set_option maxHeartbeats 8000000
namespace Go.Proofs.YtlojiclhoiddlaaDoor
open Go.ChangeShapes Go.WideShapes Go.ChangeAt Go.RowKit
set_option linter.unusedVariables false
theorem Row.cap {w:World}{o:Nat->Nat}{i:Nat}{e:TypeId}{size:Nat}{n m cap:Nat}{ao:Option Addr}{xs:List Value}(h:Row w o i e size (.slice ao m cap) n xs):m=n/\n<=cap/\cap<=maxLen:=by
 rcases h.1.2 with ⟨hh,hk0⟩|⟨gx,cx,_,hh,_,_,hle,hm,_⟩
 ·simp only[Value.slice.injEq] at hh;obtain⟨_,rfl,rfl⟩:=hh;exact⟨hk0.symm,by omega,by unfold maxLen;omega⟩
 ·simp only[Value.slice.injEq] at hh;obtain⟨_,rfl,rfl⟩:=hh;exact⟨rfl,hle,hm⟩
theorem wpList_append_any {P:Program}{w:World}{ops:Array Oper}{rest:List Oper}{op:Oper}{a:Act}{Q:Exit->Act->World->Prop}(hgd:op.guard=none)(s x:Operand)(t:TypeId)
  (ho:op.op=.call { callee:=.builtin .append,args:=#[s,x],argTypes:=#[t,t] })
  (e:TypeId) (i:TypeInfo) (z:Value) (size bytes:Nat) (ht:P.underlying t=some (.slice e)) (hi:P.info? e=some i) (hz:i.zero=some z)
  (hsize:i.size=size) (hby:i.bytes=bytes) (hzs:z.cells.size=size) (hsz:0<size)
  (o:Nat->Nat) (lb:Nat) (v:Value) (n:Nat) (xs:List Value) (hs:a.eval s=v) (hrow:Row w o lb e size v n xs)
  (y:Option Addr) (m c:Nat) (news:List Value) (hx:a.eval x=.slice y m c) (hl:news.length=m*size) (hnews:0<m->∃ad,y=some ad/\∀ j u,news[j]?=some u->w.cell? (ad.add j)=some u) (h1:∀ u ∈ news,u.oneCell'=true)
  (h63:n+m<=maxLen) (hbytes:(n+m)*bytes<=140737488355328)
  (h:∀ ao cap w' o',Row w' o' lb e size (.slice ao (n+m) cap) (n+m) (xs++news)->Step (fun k=>k=lb) w o w' o'->wpList P ops Q rest (a.put op.dst (.slice ao (n+m) cap)) w'):wpList P ops Q (op::rest) a w:=by
 by_cases hm:0<m
 ·obtain⟨ad,rfl,hn⟩:=hnews hm;exact wpList_append_lab hgd s x t ho e i z size bytes ht hi hz hsize hby hzs hsz o lb v n xs hs hrow ad m c news hx hl hn h1 hm h63 hbytes fun g cap w' o' r st=>h _ _ _ _ r st
 ·obtain rfl:m=0:=by omega
  obtain⟨ao,cap,rfl⟩:=hrow.form;have hnil:news=[]:=List.eq_nil_of_length_eq_zero (by omega);subst hnil;refine wpList_append_zero hgd s x t ho e i ht hi ao n cap y c hs hx hrow.cap.2.1 ?_
  have:=h ao cap w o (by rw[List.append_nil];exact hrow) (Step.refl _ _ _)
  exact this
end Go.Proofs.YtlojiclhoiddlaaDoor

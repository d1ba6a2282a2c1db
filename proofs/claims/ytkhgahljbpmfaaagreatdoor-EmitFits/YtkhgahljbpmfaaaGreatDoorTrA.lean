import Derived.Test.YtkhgahljbpmfaaaGreatDoorLexK
import Derived.Laws.BytesArg
import Derived.Lib.SliceRun
import Derived.Deep.RegionLaw
set_option maxRecDepth 100000
set_option maxHeartbeats 8000000
namespace Go.Proofs.YtkhgahljbpmfaaaGreatDoor
set_option linter.unusedVariables false
def WFT (ts:List Tk):Prop:=∃e,ts.getLast?=some e/\e.k=0/\e.t=[]
theorem WFT.tail {x:Tk}{r:List Tk}(h:WFT (x::r))(hx:x.t≠[]\/x.k≠0):WFT r:=by
 obtain⟨e,h1,h2,h3⟩:=h;cases r with
 | nil =>
  simp at h1;subst h1;rcases hx with hx|hx
  ·exact absurd h3 hx
  ·exact absurd h2 hx
 | cons y l=>exact⟨e,by rw[List.getLast?_cons_cons] at h1;exact h1,h2,h3⟩
theorem WFT.ne {ts:List Tk}(h:WFT ts):ts≠[]:=by
 obtain⟨e,h1,_⟩:=h;intro e2;subst e2;cases h1
def Fine {α:Type}(b:Nat)(r:Rs α):Prop :=
 match r with
 | ⟨none⟩=>False
 | ⟨some (.inl (_,_))⟩=>True
 | ⟨some (.inr (_,t))⟩=>WFT t/\t.length<b
theorem Fine.bind {α β:Type}{b c:Nat}{r:Rs α}{f:α->List Tk->Rs β}(h:Fine b r)(hf:∀ x t,WFT t->t.length<b->Fine c (f x t)):Fine c (r.bind f):=by
 cases r using Rs.on with
 | out=>exact h.elim
 | bad e a=>exact trivial
 | ok x t=>exact hf x t h.1 h.2
theorem fine_pass {s:List UInt8}(hs:s≠[]){ts:List Tk}(h:WFT ts):Fine ts.length (passT s ts):=by
 cases ts with
 | nil=>exact absurd rfl h.ne
 | cons x r =>
  simp only[passT];by_cases hx:x.t=s
  ·rw[if_pos hx];exact⟨h.tail (.inl (by rw[hx];exact hs)),by simp⟩
  ·rw[if_neg hx];exact trivial
theorem fine_kind {k:Nat}(hk:k≠0){ts:List Tk}(h:WFT ts):Fine ts.length (passK k ts):=by
 cases ts with
 | nil=>exact absurd rfl h.ne
 | cons x r =>
  simp only[passK];by_cases hx:x.k=k
  ·rw[if_pos hx];exact⟨h.tail (.inr (by rw[hx];exact hk)),by simp⟩
  ·rw[if_neg hx];exact trivial
theorem fine_enter {s:List UInt8}(hs:s≠[])(o:Nat){ts:List Tk}(h:WFT ts):Fine ts.length (enterT s o ts):=by
 cases ts with
 | nil=>exact absurd rfl h.ne
 | cons x r =>
  simp only[enterT];by_cases hx:x.t=s
  ·rw[if_pos hx];by_cases ho:o=64
   ·rw[if_pos ho];exact trivial
   ·rw[if_neg ho];exact⟨h.tail (.inl (by rw[hx];exact hs)),by simp⟩
  ·rw[if_neg hx];exact trivial
section
variable {rec:Rdr}{n:Nat}
theorem fine_rec1 (H:∀ row o q ts,row<=8->WFT ts->10*ts.length+(9-row)<=n->Fine ts.length (rec row o q ts)){o q:Nat}{ts:List Tk}(h:WFT ts)(hn:10*ts.length+8<=n):Fine ts.length (rec 1 o q ts):=H 1 o q ts (by omega) h (by omega)
theorem fine_argsL (H:∀ row o q ts,row<=8->WFT ts->10*ts.length+(9-row)<=n->Fine ts.length (rec row o q ts)):∀ (j:Nat) (o q:Nat) (acc:Fs) (ts:List Tk) (b:Nat),WFT ts->10*ts.length+8<=n->ts.length<b->Fine b (argsL rec j o q acc ts)
 | 0,o,q,acc,ts,b,h,hn,hb=>⟨h,hb⟩
 | j+1,o,q,acc,ts,b,h,hn,hb=>by
  unfold argsL;refine(fine_pass (by simp) h).bind fun _ t1 h1 l1=>?_;refine(fine_rec1 H h1 (by omega)).bind fun e t2 h2 l2=>?_;exact fine_argsL H j o q _ t2 b h2 (by omega) (by omega)
theorem fine_args (H:∀ row o q ts,row<=8->WFT ts->10*ts.length+(9-row)<=n->Fine ts.length (rec row o q ts))(many o q:Nat){ts:List Tk}(h:WFT ts)(hn:10*ts.length<=n):Fine ts.length (argsR rec many o q ts):=by
 unfold argsR;refine(fine_enter (by simp) o h).bind fun _ t1 h1 l1=>?_;refine(fine_rec1 H h1 (by omega)).bind fun e t2 h2 l2=>?_;refine(fine_argsL H (many-1) (o+1) q _ t2 (t2.length+1) h2 (by omega) (by omega)).bind fun ks t3 h3 l3=>?_;refine(fine_pass (by simp) h3).bind fun _ t4 h4 l4=>?_;exact⟨h4,by omega⟩
theorem fine_choice (H:∀ row o q ts,row<=8->WFT ts->10*ts.length+(9-row)<=n->Fine ts.length (rec row o q ts))(o q:Nat){ts:List Tk}(h:WFT ts)(hn:10*ts.length<=n):Fine ts.length (choiceR rec o q ts):=by
 unfold choiceR;refine(fine_enter (by simp) o h).bind fun _ t1 h1 l1=>?_;refine(fine_rec1 H h1 (by omega)).bind fun e t2 h2 l2=>?_;refine(fine_pass (by simp) h2).bind fun _ t3 h3 l3=>?_;refine(fine_rec1 H h3 (by omega)).bind fun e t4 h4 l4=>?_;refine(fine_pass (by simp) h4).bind fun _ t5 h5 l5=>?_;refine(fine_rec1 H h5 (by omega)).bind fun e t6 h6 l6=>?_;exact⟨h6,by omega⟩
theorem fine_memL (H:∀ row o q ts,row<=8->WFT ts->10*ts.length+(9-row)<=n->Fine ts.length (rec row o q ts)):∀ (m:Nat) (o q:Nat) (acc:Fs) (ts:List Tk) (b:Nat),WFT ts->10*ts.length+8<=n->ts.length<m->ts.length<b->Fine b (memL rec m o q acc ts)
 | 0,o,q,acc,ts,b,h,hn,hm,hb=>by omega
 | m+1,o,q,acc,ts,b,h,hn,hm,hb=>by
  cases ts with
  | nil=>exact absurd rfl h.ne
  | cons x r =>
   unfold memL;simp only[List.length_cons] at hn hm hb;by_cases hx:x.t=[44]
   ·simp only[hx,if_true];have hr:=h.tail (.inl (by rw[hx];simp));refine(fine_rec1 H hr (by omega)).bind fun e t2 h2 l2=>?_;exact fine_memL H m o q _ t2 b h2 (by omega) (by omega) (by omega)
   ·simp only[hx,if_false];exact⟨h,by simpa using hb⟩
theorem fine_mem (H:∀ row o q ts,row<=8->WFT ts->10*ts.length+(9-row)<=n->Fine ts.length (rec row o q ts))(m o q:Nat){ts:List Tk}(h:WFT ts)(hn:10*ts.length+8<=n)(hm:ts.length<m):Fine (ts.length+1) (memR rec m o q ts):=by
 cases ts with
 | nil=>exact absurd rfl h.ne
 | cons x r =>
  unfold memR;by_cases hx:x.t=[125]
  ·simp only[hx,if_true];exact⟨h,by omega⟩
  ·simp only[hx,if_false];refine(fine_rec1 H h hn).bind fun e t1 h1 l1=>?_;exact fine_memL H m o q _ t1 _ h1 (by omega) (by omega) (by omega)
theorem fine_set (H:∀ row o q ts,row<=8->WFT ts->10*ts.length+(9-row)<=n->Fine ts.length (rec row o q ts))(m o q:Nat){ts:List Tk}(h:WFT ts)(hn:10*ts.length<=n)(hm:ts.length<m):Fine ts.length (setR rec m o q ts):=by
 cases ts with
 | nil=>exact absurd rfl h.ne
 | cons x r =>
  unfold setR;simp only[List.length_cons] at hn hm;by_cases hk:x.k=2
  ·simp only[hk,if_true];exact⟨h.tail (.inr (by rw[hk];decide)),by simp⟩
  simp only[hk,if_false];by_cases hv:x.t=[118,101,114,116,105,99,101,115]
  ·simp only[hv,if_true];exact⟨h.tail (.inl (by rw[hv];simp)),by simp⟩
  simp only[hv,if_false];by_cases ha:x.t=[97,114,111,117,110,100]
  ·simp only[ha,if_true];have hr:=h.tail (.inl (by rw[ha];simp));refine(fine_args H 1 o q hr (by omega)).bind fun ks t h1 l1=>?_;exact⟨h1,by simp;omega⟩
  simp only[ha,if_false];refine(fine_enter (by simp) o h).bind fun a t1 h1 l1=>?_;simp only[List.length_cons] at l1;refine(fine_mem H m (o+1) q h1 (by omega) (by omega)).bind fun ks t2 h2 l2=>?_;refine(fine_pass (by simp) h2).bind fun _ t3 h3 l3=>?_;exact⟨h3,by simp;omega⟩
theorem fine_quant (H:∀ row o q ts,row<=8->WFT ts->10*ts.length+(9-row)<=n->Fine ts.length (rec row o q ts))(m:Nat){s:List UInt8}(hs:s≠[])(k o q:Nat){ts:List Tk}(h:WFT ts)(hn:10*ts.length<=n)(hm:ts.length<m):Fine ts.length (quantR rec m s k o q ts):=by
 cases ts with
 | nil=>exact absurd rfl h.ne
 | cons x r =>
  unfold quantR;by_cases h4:q=4
  ·simp only[h4,if_true];exact trivial
  simp only[h4,if_false];refine(fine_enter hs o h).bind fun _ t1 h1 l1=>?_;refine(fine_kind (by decide) h1).bind fun _ t2 h2 l2=>?_;refine(fine_pass (by simp) h2).bind fun _ t3 h3 l3=>?_;refine(fine_set H m (o+1) (q+1) h3 (by omega) (by omega)).bind fun e t4 h4 l4=>?_;refine(fine_pass (by simp) h4).bind fun _ t5 h5 l5=>?_;refine(fine_rec1 H h5 (by omega)).bind fun e t6 h6 l6=>?_;exact⟨h6,by omega⟩
theorem fine_atom (H:∀ row o q ts,row<=8->WFT ts->10*ts.length+(9-row)<=n->Fine ts.length (rec row o q ts))(m o q:Nat){ts:List Tk}(h:WFT ts)(hn:10*ts.length<=n)(hm:ts.length<m):Fine ts.length (atomR rec m o q ts):=by
 cases ts with
 | nil=>exact absurd rfl h.ne
 | cons x r =>
  unfold atomR;have hl:r.length<(x::r).length:=by simp
  simp only;by_cases h1:x.k=1
  ·simp only[h1,if_true];exact⟨h.tail (.inr (by rw[h1];decide)),hl⟩
  simp only[h1,if_false];by_cases h2:x.k=2
  ·simp only[h2,if_true];exact⟨h.tail (.inr (by rw[h2];decide)),hl⟩
  simp only[h2,if_false];by_cases h3:x.t=[102,97,108,115,101]
  ·simp only[h3,if_true];exact⟨h.tail (.inl (by rw[h3];simp)),hl⟩
  simp only[h3,if_false];by_cases h4:x.t=[116,114,117,101]
  ·simp only[h4,if_true];exact⟨h.tail (.inl (by rw[h4];simp)),hl⟩
  simp only[h4,if_false];by_cases h5:x.t=[64]
  ·simp only[h5,if_true];have hr:=h.tail (.inl (by rw[h5];simp));refine(fine_kind (by decide) hr).bind fun _ t2 k2 l2=>?_;exact⟨k2,by omega⟩
  simp only[h5,if_false];by_cases h6:x.t=[40]
  ·simp only[h6,if_true];refine(fine_args H 1 o q h hn).bind fun ks t1 k1 l1=>?_;exact⟨k1,l1⟩
  simp only[h6,if_false];by_cases h7:x.t=[105,102]
  ·simp only[h7,if_true];exact fine_choice H o q h hn
  simp only[h7,if_false];cases hc:callAt x.t with
  | some z =>
   obtain⟨a,k,many⟩:=z;have hx:x.t≠[]:=fun e=>by rw[e] at hc;cases hc
   have hr:=h.tail (.inl hx);simp only[List.length_cons] at hn;refine(fine_args H many o q hr (by omega)).bind fun ks t1 k1 l1=>?_;exact⟨k1,by omega⟩
  | none =>
   cases hq:quantAt x.t with
   | some z =>
    obtain⟨a,k⟩:=z;have hx:x.t≠[]:=fun e=>by rw[e] at hq;cases hq
    exact fine_quant H m hx k o q h hn hm
   | none=>exact trivial
theorem fine_pref (H:∀ row o q ts,row<=8->WFT ts->10*ts.length+(9-row)<=n->Fine ts.length (rec row o q ts)){s:List UInt8}(hs:s≠[])(k:Int)(row o q:Nat)(hrow:row<=7){ts:List Tk}(h:WFT ts)(hn:10*ts.length+(8-row)<=n):Fine ts.length (prefR rec s k row o q ts):=by
 cases ts with
 | nil=>exact absurd rfl h.ne
 | cons x r =>
  unfold prefR;by_cases hx:x.t=s
  ·simp only[hx,if_true];by_cases ho:o=64
   ·simp only[ho,if_true];exact trivial
   ·simp only[ho,if_false];have hr:=h.tail (.inl (by rw[hx];exact hs));simp only[List.length_cons] at hn;refine(H row (o+1) q r (by omega) hr (by omega)).bind fun e t2 h2 l2=>?_;exact⟨h2,by simp;omega⟩
  ·simp only[hx,if_false];exact H (row+1) o q _ (by omega) h (by omega)
theorem fine_chainL (H:∀ row o q ts,row<=8->WFT ts->10*ts.length+(9-row)<=n->Fine ts.length (rec row o q ts)):∀ (m row o q:Nat) (left:Ex) (ts:List Tk) (b:Nat),WFT ts->10*ts.length+8<=n->ts.length<m->ts.length<b->Fine b (chainL rec m row o q left ts)
 | 0,row,o,q,left,ts,b,h,hn,hm,hb=>by omega
 | m+1,row,o,q,left,ts,b,h,hn,hm,hb=>by
  cases ts with
  | nil=>exact absurd rfl h.ne
  | cons x r =>
   unfold chainL;simp only;cases hz:opAt x.t row with
   | none=>exact⟨h,hb⟩
   | some z =>
    obtain⟨zt,zk,zr,zl,zz⟩:=z;have hx:x.t≠[]:=fun e=>by
     have h1:=List.mem_of_find?_eq_some hz;have h2:=List.find?_some hz;simp at h2;have h3:=h2.1;rw[e] at h3;simp only[opsL,List.mem_cons,List.not_mem_nil,or_false,Prod.mk.injEq] at h1;rcases h1 with ⟨h,_⟩|⟨h,_⟩|⟨h,_⟩|⟨h,_⟩|⟨h,_⟩|⟨h,_⟩|⟨h,_⟩|⟨h,_⟩|⟨h,_⟩|⟨h,_⟩|⟨h,_⟩<;>(rw[h3] at h;cases h)
    have hz8:zz<=8:=by
     have h1:=List.mem_of_find?_eq_some hz;simp only[opsL,List.mem_cons,List.not_mem_nil,or_false,Prod.mk.injEq] at h1;rcases h1 with h|h|h|h|h|h|h|h|h|h|h<;>(have:=h.2.2.2.2;omega)
    have hr:=h.tail (.inl hx);simp only[List.length_cons] at hn hm hb;refine(H zz o q r hz8 hr (by omega)).bind fun e t2 h2 l2=>?_;by_cases hlt:row<zl
    ·simp only[hlt,if_true];exact⟨h2,by omega⟩
    ·simp only[hlt,if_false];exact fine_chainL H m row o q _ t2 b h2 (by omega) (by omega) (by omega)
end
theorem fine_part:∀ (n row o q:Nat) (ts:List Tk),row<=8->WFT ts->10*ts.length+(9-row)<=n->Fine ts.length (partF n row o q ts)
 | 0,row,o,q,ts,hr,h,hn=>by
  have:=List.length_pos_iff.2 h.ne
  omega
 | n+1,row,o,q,ts,hr,h,hn=>by
  have H:=fine_part n;have hp:=List.length_pos_iff.2 h.ne;unfold partF;by_cases h3:row=3
  ·simp only[h3,if_true];exact fine_pref H (by simp) 7 3 o q (by omega) h (by omega)
  simp only[h3,if_false];by_cases h7:row=7
  ·simp only[h7,if_true];exact fine_pref H (by simp) 6 7 o q (by omega) h (by omega)
  simp only[h7,if_false];by_cases h8:row=8
  ·simp only[h8,if_true];exact fine_atom H n o q h (by omega) (by omega)
  simp only[h8,if_false];refine(H (row+1) o q ts (by omega) h (by omega)).bind fun l t h1 l1=>?_;exact fine_chainL H n row o q l t _ h1 (by omega) (by omega) l1
theorem read_fine {n:Nat}{ts:List Tk}(h:WFT ts)(hn:10*ts.length+8<=n):readF n ts≠.out:=by
 intro e;have F:Fine ts.length (readF n ts)\/readF n ts≠.out:=by
  refine .inr ?_
  have:=fine_part n 1 0 0 ts (by omega) h (by omega)
  unfold readF;cases hr:partF n 1 0 0 ts using Rs.on with
  | out=>rw[hr] at this;exact this.elim
  | bad e a=>intro h;cases h
  | ok x t =>
   rw[hr] at this;cases t with
   | nil=>exact absurd rfl this.1.ne
   | cons y l =>
    simp only[Rs.bind];by_cases hy:y.k=0
    ·simp[hy]
    ·simp[hy]
 rcases F with F|F
 ·rw[e] at F;exact F
 ·exact F e
theorem lex_wft (k:Nat)(t:List UInt8)(a p:Nat)(l:List UInt8)(ts:List Tk)(h:lexL k t a p l=.inr ts):WFT ts:=by
 induction l generalizing k t a p ts with
 | nil =>
  unfold lexL at h;rcases shut_inr h with ⟨_,h2⟩|⟨_,x,us,_,h2,rfl⟩
  ·unfold endR at h2;injection h2 with h2;subst h2;exact⟨_,rfl,rfl,rfl⟩
  ·unfold endR at h2;injection h2 with h2;subst h2;exact⟨_,rfl,rfl,rfl⟩
 | cons c r ih =>
  unfold lexL at h;split at h
  ·exact ih _ _ _ _ _ h
  ·rcases shut_inr h with ⟨_,h2⟩|⟨_,x,us,_,h2,rfl⟩
   ·exact ih _ _ _ _ _ h2
   ·have:=ih _ _ _ _ _ h2
    obtain⟨e,h1,h3⟩:=this;cases us with
    | nil=>cases h1
    | cons y l=>exact⟨e,by rw[List.getLast?_cons_cons];exact h1,h3⟩
def parseA (l:List UInt8):Rs Ex :=
 match scanA l with
 | .inl (e,p)=>.bad e p
 | .inr ts=>readF 30000 ts
theorem parse_fine (l:List UInt8):parseA l≠.out:=by
 unfold parseA;cases h:scanA l with
 | inl x=>obtain⟨e,p⟩:=x;intro h;cases h
 | inr ts =>
  have hs:=scan_ok h;exact read_fine (lex_wft _ _ _ _ _ _ hs.2.1) (by omega)
def Lq {α:Type}(b:List Tk)(r:Rs α):Prop:=∀ x t,r=.ok x t->t <:+ b
theorem Lq.bind {α β:Type}{b:List Tk}{r:Rs α}{f:α->List Tk->Rs β}(h:Lq b r)(hf:∀ x t,t <:+ b->Lq b (f x t)):Lq b (r.bind f):=by
 cases r using Rs.on with
 | out=>intro x t e;cases e
 | bad e a=>intro x t e;cases e
 | ok x t=>exact hf x t (h x t rfl)
theorem Lq.bad {α:Type}(b:List Tk)(e a:Nat):Lq b (.bad e a:Rs α):=fun x t h=>by cases h
theorem Lq.out {α:Type}(b:List Tk):Lq b (.out:Rs α):=fun x t h=>by cases h
theorem Lq.ok {α:Type}{b:List Tk}(x:α){t:List Tk}(h:t <:+ b):Lq b (.ok x t):=fun y u e=>by
 obtain⟨_,e⟩:=Rs.ok_inj e;subst e;exact h
theorem lq_pass (s:List UInt8){b:List Tk}{ts:List Tk}(h:ts <:+ b):Lq b (passT s ts):=by
 cases ts with
 | nil=>exact Lq.out _
 | cons x r =>
  simp only[passT];split
  ·exact Lq.ok _ ((List.suffix_cons x r).trans h)
  ·exact Lq.bad _ _ _
theorem lq_kind (k:Nat){b:List Tk}{ts:List Tk}(h:ts <:+ b):Lq b (passK k ts):=by
 cases ts with
 | nil=>exact Lq.out _
 | cons x r =>
  simp only[passK];split
  ·exact Lq.ok _ ((List.suffix_cons x r).trans h)
  ·exact Lq.bad _ _ _
theorem lq_enter (s:List UInt8)(o:Nat){b:List Tk}{ts:List Tk}(h:ts <:+ b):Lq b (enterT s o ts):=by
 cases ts with
 | nil=>exact Lq.out _
 | cons x r =>
  simp only[enterT];split
  ·split
   ·exact Lq.bad _ _ _
   ·exact Lq.ok _ ((List.suffix_cons x r).trans h)
  ·exact Lq.bad _ _ _
section
variable {rec:Rdr}
theorem lq_argsL (H:∀ row o q ts b,ts <:+ b->Lq b (rec row o q ts)):∀ (j:Nat) (o q:Nat) (acc:Fs) (ts:List Tk) (b:List Tk),ts <:+ b->Lq b (argsL rec j o q acc ts)
 | 0,o,q,acc,ts,b,h=>Lq.ok _ h
 | j+1,o,q,acc,ts,b,h=>by
  unfold argsL;exact(lq_pass _ h).bind fun _ t1 h1=>(H _ _ _ _ _ h1).bind fun e t2 h2=>lq_argsL H j o q _ t2 b h2
theorem lq_args (H:∀ row o q ts b,ts <:+ b->Lq b (rec row o q ts))(many o q:Nat){b:List Tk}{ts:List Tk}(h:ts <:+ b):Lq b (argsR rec many o q ts):=by
 unfold argsR;exact(lq_enter _ _ h).bind fun _ t1 h1=>(H _ _ _ _ _ h1).bind fun e t2 h2=>(lq_argsL H _ _ _ _ t2 b h2).bind fun ks t3 h3=>(lq_pass _ h3).bind fun _ t4 h4=>Lq.ok _ h4
theorem lq_choice (H:∀ row o q ts b,ts <:+ b->Lq b (rec row o q ts))(o q:Nat){b:List Tk}{ts:List Tk}(h:ts <:+ b):Lq b (choiceR rec o q ts):=by
 unfold choiceR;exact(lq_enter _ _ h).bind fun _ t1 h1=>(H _ _ _ _ _ h1).bind fun e t2 h2=>(lq_pass _ h2).bind fun _ t3 h3=>(H _ _ _ _ _ h3).bind fun e t4 h4=>(lq_pass _ h4).bind fun _ t5 h5=>(H _ _ _ _ _ h5).bind fun e t6 h6=>Lq.ok _ h6
theorem lq_memL (H:∀ row o q ts b,ts <:+ b->Lq b (rec row o q ts)):∀ (m:Nat) (o q:Nat) (acc:Fs) (ts:List Tk) (b:List Tk),ts <:+ b->Lq b (memL rec m o q acc ts)
 | 0,o,q,acc,ts,b,h=>Lq.out _
 | m+1,o,q,acc,[],b,h=>Lq.out _
 | m+1,o,q,acc,x::r,b,h=>by
  unfold memL;simp only;split
  ·exact(H _ _ _ _ _ ((List.suffix_cons x r).trans h)).bind fun e t2 h2=>lq_memL H m o q _ t2 b h2
  ·exact Lq.ok _ h
theorem lq_mem (H:∀ row o q ts b,ts <:+ b->Lq b (rec row o q ts))(m o q:Nat){b:List Tk}{ts:List Tk}(h:ts <:+ b):Lq b (memR rec m o q ts):=by
 cases ts with
 | nil=>exact Lq.out _
 | cons x r =>
  unfold memR;simp only;split
  ·exact Lq.ok _ h
  ·exact(H _ _ _ _ _ h).bind fun e t1 h1=>lq_memL H m o q _ t1 b h1
theorem lq_set (H:∀ row o q ts b,ts <:+ b->Lq b (rec row o q ts))(m o q:Nat){b:List Tk}{ts:List Tk}(h:ts <:+ b):Lq b (setR rec m o q ts):=by
 cases ts with
 | nil=>exact Lq.out _
 | cons x r =>
  have hr:r <:+ b:=(List.suffix_cons x r).trans h;unfold setR;simp only;split
  ·exact Lq.ok _ hr
  ·split
   ·exact Lq.ok _ hr
   ·split
    ·exact(lq_args H 1 o q hr).bind fun ks t h1=>Lq.ok _ h1
    ·exact(lq_enter _ _ h).bind fun _ t1 h1=>(lq_mem H m _ q h1).bind fun ks t2 h2=>(lq_pass _ h2).bind fun _ t3 h3=>Lq.ok _ h3
theorem lq_quant (H:∀ row o q ts b,ts <:+ b->Lq b (rec row o q ts))(m:Nat)(s:List UInt8)(k o q:Nat){b:List Tk}{ts:List Tk}(h:ts <:+ b):Lq b (quantR rec m s k o q ts):=by
 cases ts with
 | nil=>exact Lq.out _
 | cons x r =>
  unfold quantR;simp only;split
  ·exact Lq.bad _ _ _
  ·exact(lq_enter _ _ h).bind fun _ t1 h1=>(lq_kind _ h1).bind fun _ t2 h2=>(lq_pass _ h2).bind fun _ t3 h3=>(lq_set H m _ _ h3).bind fun _ t4 h4=>(lq_pass _ h4).bind fun _ t5 h5=>(H _ _ _ _ _ h5).bind fun e t6 h6=>Lq.ok _ h6
theorem lq_atom (H:∀ row o q ts b,ts <:+ b->Lq b (rec row o q ts))(m o q:Nat){b:List Tk}{ts:List Tk}(h:ts <:+ b):Lq b (atomR rec m o q ts):=by
 cases ts with
 | nil=>exact Lq.out _
 | cons x r =>
  have hr:r <:+ b:=(List.suffix_cons x r).trans h;unfold atomR;simp only;split
  ·exact Lq.ok _ hr
  ·split
   ·exact Lq.ok _ hr
   ·split
    ·exact Lq.ok _ hr
    ·split
     ·exact Lq.ok _ hr
     ·split
      ·exact(lq_kind _ hr).bind fun _ t h1=>Lq.ok _ h1
      ·split
       ·exact(lq_args H 1 o q h).bind fun ks t h1=>Lq.ok _ h1
       ·split
        ·exact lq_choice H o q h
        ·split
         ·exact(lq_args H _ o q hr).bind fun ks t h1=>Lq.ok _ h1
         ·split
          ·exact lq_quant H m _ _ o q h
          ·exact Lq.bad _ _ _
theorem lq_pref (H:∀ row o q ts b,ts <:+ b->Lq b (rec row o q ts))(s:List UInt8)(k:Int)(row o q:Nat){b:List Tk}{ts:List Tk}(h:ts <:+ b):Lq b (prefR rec s k row o q ts):=by
 cases ts with
 | nil=>exact Lq.out _
 | cons x r =>
  have hr:r <:+ b:=(List.suffix_cons x r).trans h;unfold prefR;simp only;split
  ·split
   ·exact Lq.bad _ _ _
   ·exact(H _ _ _ _ _ hr).bind fun e t2 h2=>Lq.ok _ h2
  ·exact H _ _ _ _ _ h
theorem lq_chainL (H:∀ row o q ts b,ts <:+ b->Lq b (rec row o q ts)):∀ (m row o q:Nat) (left:Ex) (ts:List Tk) (b:List Tk),ts <:+ b->Lq b (chainL rec m row o q left ts)
 | 0,row,o,q,left,ts,b,h=>Lq.out _
 | m+1,row,o,q,left,[],b,h=>Lq.out _
 | m+1,row,o,q,left,x::r,b,h=>by
  have hr:r <:+ b:=(List.suffix_cons x r).trans h;unfold chainL;simp only;split
  ·exact Lq.ok _ h
  ·refine(H _ _ _ _ _ hr).bind fun e t2 h2=>?_;split
   ·exact Lq.ok _ h2
   ·exact lq_chainL H m row o q _ t2 b h2
end
theorem lq_part:∀ (n row o q:Nat) (ts:List Tk) (b:List Tk),ts <:+ b->Lq b (partF n row o q ts)
 | 0,row,o,q,ts,b,h=>Lq.out _
 | n+1,row,o,q,ts,b,h=>by
  have H:=lq_part n;unfold partF;split
  ·exact lq_pref H _ _ _ _ _ h
  ·split
   ·exact lq_pref H _ _ _ _ _ h
   ·split
    ·exact lq_atom H n o q h
    ·exact(H _ _ _ _ _ h).bind fun l t h1=>lq_chainL H n row o q l t b h1
section
variable {g d:Nat}{v v':List Tk}
variable {rec:Rdr}
end
open Go.ChangeShapes Go.WideShapes Go.ChangeAt Go.RowKit
set_option linter.unusedSimpArgs false
theorem new_cells_at (w:World)(xs:List Value)(t:TypeId):∀ j u,xs[j]?=some u->(w.alloc (.cells xs.toArray t)).cell? ((⟨w.heap.size,0,none⟩:Addr).add j)=some u:=fun j u hu=>by
 rw[show (⟨w.heap.size,0,none⟩:Addr).add j=⟨w.heap.size,j,none⟩ by simp only[Addr.add];split<;>simp_all];rw[cell_of_row _ w.heap.size j _ t (0,0) (heap_alloc_new w _)];simpa using hu
theorem heap_set5 (w:World)(b k:Nat)(b0 b1 b2 b3 b4:Value)(h:k≠b):(((((w.setCell ⟨b,0,none⟩ b0).setCell ⟨b,1,none⟩ b1).setCell ⟨b,2,none⟩ b2).setCell ⟨b,3,none⟩ b3).setCell ⟨b,4,none⟩ b4).heap[k]?=w.heap[k]? :=
 (heap_setCell_other _ ⟨b,4,none⟩ k b4 h).trans ((heap_setCell_other _ ⟨b,3,none⟩ k b3 h).trans ((heap_setCell_other _ ⟨b,2,none⟩ k b2 h).trans ((heap_setCell_other _ ⟨b,1,none⟩ k b1 h).trans (heap_setCell_other w ⟨b,0,none⟩ k b0 h))))
def Fs.plc:Fs->Prop
 | ⟨none⟩=>True
 | ⟨some ⟨_,_,_,a,ks,r⟩⟩=>0<=a/\a<=1000000000/\ks.plc/\r.plc
abbrev N0 (n0:Nat)(o:Nat->Nat):Nat->Prop:=fun b=>n0<=b/\o b=0
def AccL (w:World)(o:Nat->Nat)(n0:Nat)(acc:Fs)(v:Value):Prop:=∃xs,Row w o 2 25 5 v acc.len xs/\Fc w (N0 n0 o) acc xs
theorem Fc.lab {I:Nat->Prop}{w w':World}{o o':Nat->Nat}{n0:Nat}{f:Fs}{xs:List Value}(h:Fc w (N0 n0 o) f xs)(s:Step I w o w' o')(h0:¬I 0):Fc w' (N0 n0 o') f xs :=
 h.mono (fun i hp hl=>s.block i hl (by rw[hp.2];exact h0)) s.size (fun i hp hl=>⟨hp.1,(s.lab i hl).trans hp.2⟩)
theorem Sl.lab {I:Nat->Prop}{w w':World}{o o':Nat->Nat}{n0:Nat}{f:Fs}{ao:Option Addr}(h:Sl w (N0 n0 o) f ao)(s:Step I w o w' o')(h0:¬I 0):Sl w' (N0 n0 o') f ao :=
 h.mono (fun i hp hl=>s.block i hl (by rw[hp.2];exact h0)) s.size (fun i hp hl=>⟨hp.1,(s.lab i hl).trans hp.2⟩)
theorem AccL.step {I:Nat->Prop}{w w':World}{o o':Nat->Nat}{n0:Nat}{acc:Fs}{v:Value}(h:AccL w o n0 acc v)(s:Step I w o w' o')(h0:¬I 0)(h2:¬I 2):AccL w' o' n0 acc v:=by
 obtain⟨xs,r,f⟩:=h;exact⟨xs,r.step s h2,f.lab s h0⟩
theorem AccL.push {w w2:World}{o o2:Nat->Nat}{n0:Nat}{acc:Fs}{xs:List Value}{v2:Value}{y:Ex}{ao:Option Addr}{ce:Nat}(f:Fc w (N0 n0 o) acc xs)(S:Sl w (N0 n0 o) y.kids ao)(s:Step (fun x=>x=2) w o w2 o2)
  (r:Row w2 o2 2 25 5 v2 (acc.len+1) (xs++[.int .i64 y.k,.int .i64 y.n,stv y.nm,.slice ao y.kids.len ce,.int .i64 y.a])):AccL w2 o2 n0 (acc.snoc y) v2 :=
 ⟨_,by rw[Fs.len_snoc];exact r,(f.lab s (by decide)).app (Fc.one ce (S.lab s (by decide)))⟩
theorem below_stepB {I:Nat->Prop}{n0:Nat}{a w w':World}{o o':Nat->Nat}(b:Below n0 a w)(s:Step I w o w' o')(h:∀ k,k<n0->¬I (o k))(hn:n0<=a.heap.size):Below n0 a w' :=
 ⟨s.os.trans b.os,s.tape.trans b.tape,s.output.trans b.output,Nat.le_trans b.size s.size,fun k hk=>(s.block k (by have:=b.size;omega) (h k hk)).trans (b.block k hk)⟩
theorem app_nil':∀ (x:Fs),x.app .nil=x
 | ⟨none⟩=>rfl
 | ⟨some ⟨k,n,nm,a,ks,r⟩⟩=>by simp only[Fs.app];rw[app_nil' r]
def FcN (w:World)(P:Nat->Prop):Fs->List Value->Prop
 | ⟨none⟩,xs=>xs=[]
 | ⟨some ⟨k,n,nm,a,ks,r⟩⟩,xs=>∃ao cap ys,xs=.int .i64 k::.int .i64 n::stv nm::.slice ao ks.len cap::ys /\
   (ks=.nil\/∃b off zs,ao=some ⟨b,off,none⟩/\P b/\b<w.heap.size/\(∀ j u,zs[j]?=some u->w.cell? ⟨b,off+j,none⟩=some u)/\FcN w P ks zs)/\FcN w P r ys
def SlN (w:World)(P:Nat->Prop)(ks:Fs)(ao:Option Addr):Prop :=
 ks=.nil\/∃b off zs,ao=some ⟨b,off,none⟩/\P b/\b<w.heap.size/\(∀ j u,zs[j]?=some u->w.cell? ⟨b,off+j,none⟩=some u)/\FcN w P ks zs
def exN (e:Ex)(ao:Option Addr)(cap:Nat):Value:=.agg #[.int .i64 e.k,.int .i64 e.n,stv e.nm,.slice ao e.kids.len cap]
theorem exN_out (e:Ex)(ao:Option Addr)(cap:Nat):exN e ao cap=.agg #[.int .i64 e.k,.int .i64 e.n,stv e.nm,.slice ao e.kids.len cap]:=rfl
theorem FcN.len {w:World}{P:Nat->Prop}:∀ {f:Fs}{xs:List Value},FcN w P f xs->xs.length=f.len*4
 | ⟨none⟩,xs,h=>by
  have h:xs=[]:=h;subst h;rfl
 | ⟨some ⟨k,n,nm,a,ks,r⟩⟩,xs,h=>by
  obtain⟨ao,cap,ys,rfl,_,h2⟩:=h
  have:=FcN.len h2
  simp only[List.length_cons,Fs.len];omega
theorem FcN.mono {w w':World}{P Q:Nat->Prop}(hb:∀ k,P k->k<w.heap.size->w'.heap[k]?=w.heap[k]?)(hs:w.heap.size<=w'.heap.size)(hq:∀ k,P k->k<w.heap.size->Q k):∀ {f:Fs}{xs:List Value},FcN w P f xs->FcN w' Q f xs
 | ⟨none⟩,xs,h=>h
 | ⟨some ⟨k,n,nm,a,ks,r⟩⟩,xs,h=>by
  obtain⟨ao,cap,ys,rfl,h1,h2⟩:=h;refine⟨ao,cap,ys,rfl,?_,FcN.mono hb hs hq h2⟩;rcases h1 with h1|⟨b,off,zs,rfl,hp,hlt,hc,h3⟩
  ·exact .inl h1
  ·exact .inr ⟨b,off,zs,rfl,hq b hp hlt,Nat.lt_of_lt_of_le hlt hs,fun j u hu=>(World.cell?_of_block (a:=⟨b,off+j,none⟩) (hb b hp hlt)).trans (hc j u hu),FcN.mono hb hs hq h3⟩
theorem SlN.mono {w w':World}{P Q:Nat->Prop}{f:Fs}{ao:Option Addr}(hb:∀ k,P k->k<w.heap.size->w'.heap[k]?=w.heap[k]?)(hs:w.heap.size<=w'.heap.size)(hq:∀ k,P k->k<w.heap.size->Q k)(h:SlN w P f ao):SlN w' Q f ao:=by
 rcases h with h|⟨b,off,zs,rfl,hp,hlt,hc,h3⟩
 ·exact .inl h
 ·exact .inr ⟨b,off,zs,rfl,hq b hp hlt,Nat.lt_of_lt_of_le hlt hs,fun j u hu=>(World.cell?_of_block (a:=⟨b,off+j,none⟩) (hb b hp hlt)).trans (hc j u hu),h3.mono hb hs hq⟩
theorem FcN.app {w:World}{P:Nat->Prop}:∀ {f g:Fs}{xs ys:List Value},FcN w P f xs->FcN w P g ys->FcN w P (f.app g) (xs++ys)
 | ⟨none⟩,g,xs,ys,h,k=>by
  have h:xs=[]:=h;subst h;exact k
 | ⟨some ⟨i,n,nm,a,ks,r⟩⟩,g,xs,ys,h,k=>by
  obtain⟨ao,cap,zs,rfl,h1,h2⟩:=h;exact⟨ao,cap,zs++ys,rfl,h1,FcN.app h2 k⟩
theorem FcN.one {w:World}{P:Nat->Prop}{e:Ex}{ao:Option Addr}(cap:Nat)(h:SlN w P e.kids ao):FcN w P (one e) [.int .i64 e.k,.int .i64 e.n,stv e.nm,.slice ao e.kids.len cap]:=⟨ao,cap,[],rfl,h,rfl⟩
theorem SlN.nil (w:World)(P:Nat->Prop)(ao:Option Addr):SlN w P .nil ao:=.inl rfl
theorem FcN.split {w:World}{P:Nat->Prop}:∀ {x y:Fs}{zs:List Value},FcN w P (x.app y) zs->∃zx zy,zs=zx++zy/\FcN w P x zx/\FcN w P y zy
 | ⟨none⟩,y,zs,h=>⟨[],zs,rfl,rfl,h⟩
 | ⟨some ⟨k,n,nm,a,ks,r⟩⟩,y,zs,h=>by
  obtain⟨ao,cap,ys,rfl,h1,h2⟩:=h;obtain⟨zx,zy,rfl,h3,h4⟩:=FcN.split h2;exact⟨_,zy,rfl,⟨ao,cap,zx,rfl,h1,h3⟩,h4⟩
theorem SlN.kidQ {P:Nat->Prop}{w:World}{x r:Fs}{k n:Int}{nm:List UInt8}{a:Int}{ks:Fs}{ao:Option Addr}(h:SlN w P (x.app (.cons k n nm a ks r)) ao):∃b off ak ck,ao=some ⟨b,off,none⟩/\b<w.heap.size/\P b/\w.cell? ⟨b,off+x.len*4,none⟩=some (.int .i64 k)/\w.cell? ⟨b,off+x.len*4+1,none⟩=some (.int .i64 n)/\w.cell? ⟨b,off+x.len*4+2,none⟩=some (stv nm)/\w.cell? ⟨b,off+x.len*4+3,none⟩=some (.slice ak ks.len ck)/\SlN w P ks ak:=by
 rcases h with h|⟨b,off,zs,rfl,hp,hlt,hc,hf⟩
 ·cases x using Fs.on with
  | nil=>cases h
  | cons k n nm a ks r=>cases h
 ·obtain⟨zx,zy,rfl,h3,h4⟩:=FcN.split hf;have hl:=h3.len;obtain⟨ak,ck,ys,rfl,h5,h6⟩:=h4;have hc':∀ j u,(.int .i64 k::.int .i64 n::stv nm::.slice ak ks.len ck::ys:List Value)[j]?=some u->w.cell? ⟨b,off+x.len*4+j,none⟩=some u:=fun j u hu=>by
   have:=hc (x.len*4+j) u (by rw[List.getElem?_append_right (by omega),hl,Nat.add_sub_cancel_left];exact hu)
   rw[Nat.add_assoc];exact this
  exact⟨b,off,ak,ck,rfl,hlt,hp,hc' 0 _ rfl,hc' 1 _ rfl,hc' 2 _ rfl,hc' 3 _ rfl,h5⟩
abbrev SnA (w:World)(f:Fs)(ao:Option Addr):Prop:=SlN w (fun _=>True) f ao
theorem SnA.below {w w':World}{f:Fs}{ao:Option Addr}(h:SnA w f ao)(b:Below w.heap.size w w'):SnA w' f ao:=h.mono (fun i _ hl=>b.block i hl) b.size (fun _ h _=>h)
theorem SlN.all {w:World}{P:Nat->Prop}{f:Fs}{ao:Option Addr}(h:SlN w P f ao):SnA w f ao:=h.mono (fun _ _ _=>rfl) (Nat.le_refl _) (fun _ _ _=>trivial)
theorem box4 {w:World}{b:Nat}{a0 a1 a2 a3:Value}{t:TypeId}(h:w.heap[b]?=some (.cells #[a0,a1,a2,a3] t (0,0))):w.cell? ⟨b,0,none⟩=some a0/\w.cell? ⟨b,1,none⟩=some a1/\w.cell? ⟨b,2,none⟩=some a2/\w.cell? ⟨b,3,none⟩=some a3/\∀ j,w.frozen? ⟨b,j,none⟩=false:=by
 refine⟨?_,?_,?_,?_,fun j=>frozen_of_row w b j _ t h⟩<;>simp[cell_of_row w b _ _ t (0,0) h]
theorem infoNode:(Tryz.prog.info? 34).map (fun i=>(i.zero,i.size,i.bytes))=some (some (.agg #[.int .i64 0,.int .i64 0,.string ⟨#[]⟩,.slice none 0 0]),4,56):=by kernel_rfl
def PostMn (w:World)(y:Ex)(x:Ending)(w':World):Prop:=∃ao cap,x=.returned (exN y ao cap)/\SlN w' (Nw w.heap.size) y.kids ao/\Below w.heap.size w w'
def Fs.rng:Fs->Prop
 | ⟨none⟩=>True
 | ⟨some ⟨_,n,_,_,ks,r⟩⟩=>-9223372036854775808<=n/\n<=9223372036854775807/\ks.rng/\r.rng
structure Ex.fit (e:Ex):Prop where
 nm:e.nm.length<=maxLen
 sh:e.kids.short
 len:e.kids.len<=1000000000
 n1:-9223372036854775808<=e.n
 n2:e.n<=9223372036854775807
 rng:e.kids.rng
theorem nameB_len {t:List UInt8}(h:nameB t=true):t.length<=12:=by
 cases t with
 | nil=>simp
 | cons c r =>
  simp only[nameB,Bool.and_eq_true,decide_eq_true_eq] at h
  have:=h.1.1.1
  simp only[List.length_cons];omega
theorem namB_len {k:Int}{nm:List UInt8}(h:namB k nm=true):nm.length<=12:=by
 unfold namB at h;split at h
 ·exact nameB_len h
 ·have:nm=[]:=by simpa using h
  rw[this];simp
theorem okP_of {k n:Int}{nm:List UInt8}{m:Nat}(h:(numB k n&&namB k nm&&kidB k n m)=true)(h1:-9223372036854775808<=n)(h2:n<=9223372036854775807):okP k n nm m:=by
 simp only[Bool.and_eq_true] at h;exact⟨h.1.1,h.1.2,h.2,namB_len h.1.2,h1,h2⟩
theorem hFs_ok:∀ (f:Fs) (b:Bool) (c c':Nat),f.rng->hFs f b c=some c'->f.okA/\c'=c+f.size
 | ⟨none⟩,b,c,c',hr,h=>by
  unfold hFs at h;injection h with h
  exact⟨trivial,h.symm⟩
 | ⟨some ⟨k,n,nm,a,ks,r⟩⟩,b,c,c',hr,h=>by
  unfold hFs at h;split at h
  ·cases h
  ·split at h
   ·cases h
   ·split at h
    ·rename_i hk
     split at h
     ·cases h
     ·rename_i c2 h2
      obtain⟨o1,e1⟩:=hFs_ok ks _ (c+1) c2 hr.2.2.1 h2;obtain⟨o2,e2⟩:=hFs_ok r false c2 c' hr.2.2.2 h;exact⟨⟨okP_of hk hr.1 hr.2.1,o1,o2⟩,by simp only[Fs.size];omega⟩
    ·cases h
theorem hE_ok {e:Ex}{c c':Nat}(hf:e.fit)(h:hE e c=some c'):e.okA/\c'=c+1+e.kids.size/\c'<=2000:=by
 have hle:=hE_le h;unfold hE at h;split at h
 ·cases h
 ·split at h
  ·rename_i hk
   obtain⟨o1,e1⟩:=hFs_ok e.kids _ (c+1) c' hf.rng h;exact⟨⟨okP_of hk hf.n1 hf.n2,o1⟩,e1,hle⟩
  ·cases h
def s0:St:=⟨[],0,0,0,0⟩
def roomB (s:St):Bool:=!(decide (2000<s.t.length)||decide (64<s.m)||decide (4<s.n))
def writA (e:Ex):Option (List UInt8) :=
 if isSetK e.k then none
 else match hE e 0 with
  | none=>none
  | some _=>if roomB (wEx e 0 s0) then some (wEx e 0 s0).t else none
abbrev SlT (w:World)(f:Fs)(ao:Option Addr):Prop:=Sl w (fun _=>True) f ao
theorem SlT.below {w w':World}{f:Fs}{ao:Option Addr}(h:SlT w f ao)(b:Below w.heap.size w w'):SlT w' f ao:=h.mono (fun i _ hl=>b.block i hl) b.size (fun _ h _=>h)
theorem Sl.all {P:Nat->Prop}{w:World}{f:Fs}{ao:Option Addr}(h:Sl w P f ao):SlT w f ao:=h.mono (fun i _ hl=>rfl) (Nat.le_refl _) (fun _ _ _=>trivial)
theorem row_text {w:World}{o:Nat->Nat}{i:Nat}{v:Value}{l:List UInt8}(h:Row w o i 5 1 v l.length (byL l)) :
  (convert 147 9 v).run Tryz.prog w=.ok (stv l) w:=by
 rcases Nat.eq_zero_or_pos l.length with h0|h0
 ·obtain rfl:l=[]:=List.length_eq_zero_iff.1 h0;obtain⟨ao,cap,rfl⟩:=h.form;cases ao with
  | none=>exact run_convert_bytes_nil (P:=Tryz.prog) w 147 5 Tryz.underlying147 Tryz.underlying5 _ _ 9 Tryz.underlying9
  | some a=>exact run_convert_bytes_back w 147 9 5 a cap [] Tryz.underlying147 Tryz.underlying5 Tryz.underlying9 (fun j hj=>by simp at hj)
 ·obtain⟨g,cap,rfl,-,-,-,-,hc,-⟩:=h.pos h0;refine run_convert_bytes_back w 147 9 5 ⟨g,0,none⟩ cap l Tryz.underlying147 Tryz.underlying5 Tryz.underlying9 (fun j hj=>?_)
  have:=hc j (by omega)
  rw[show (⟨g,0,none⟩:Addr).add j=⟨g,j,none⟩ by simp[Addr.add];intro h;exact h.symm,this];simp[byL,hj]
def PostP (w:World)(r:Option (List UInt8))(x:Ending)(w':World):Prop:=x=.returned (.tuple #[stv (r.getD []),.int .i64 (if r.isSome then 0 else 122)])/\Below w.heap.size w w'
def parR (rec:Rdr)(o q:Nat)(ts:List Tk):Rs Ex:=(enterT [40] o ts).bind fun _ t1=>(rec 1 (o+1) q t1).bind fun e t2=>(passT [41] t2).bind fun _ t4=>.ok e t4
theorem par_args (rec:Rdr)(o q:Nat)(ts:List Tk):((argsR rec 1 o q ts).bind fun ks t1=>.ok ks.head t1)=parR rec o q ts:=by
 unfold argsR parR;cases enterT [40] o ts using Rs.on with
 | out=>rfl
 | bad e a=>rfl
 | ok a t1 =>
  show (((rec 1 (o+1) q t1).bind fun e t2=>(argsL rec 0 (o+1) q (one e) t2).bind fun ks t3=>(passT [41] t3).bind fun _ t4=>.ok ks t4).bind fun ks t1=>.ok ks.head t1)=(rec 1 (o+1) q t1).bind fun e t2=>(passT [41] t2).bind fun _ t4=>.ok e t4;cases rec 1 (o+1) q t1 using Rs.on with
  | out=>rfl
  | bad e a=>rfl
  | ok e t2 =>
   show (((passT [41] t2).bind fun _ t4=>Rs.ok (one e) t4).bind fun ks t1=>.ok ks.head t1)=(passT [41] t2).bind fun _ t4=>.ok e t4;cases passT [41] t2 using Rs.on with
   | out=>rfl
   | bad e a=>rfl
   | ok a t4=>rfl
section
variable {g d:Nat}{v v':List Tk}{rec:Rdr}
end
theorem lexL_thenG (k:Nat)(t:List UInt8)(a p:Nat)(l:List UInt8)(ts:List Tk)(c:UInt8)(m:List UInt8)(hb:∀ k t,k≠0->tks k t c.toNat=false)(h:lexL k t a p l=.inr ts) :
  ∃us,ts=us++[⟨0,0,[],p+l.length⟩]/\lexL k t a p (l++c::m)=preR us (lexL 0 [] (p+l.length) (p+l.length) (c::m)):=by
 induction l generalizing k t a p ts with
 | nil =>
  rcases shut_inr h with ⟨rfl,h1⟩|⟨hk,x,us,hp,h1,h2⟩
  ·injection h1 with h1
   exact⟨[],h1.symm,lexL_blank _ _ _ _ _ _⟩
  ·injection h1 with h1
   subst h1;refine⟨[x],h2,?_⟩;simp only[List.nil_append,List.length_nil,Nat.add_zero];rw[lexL_shut (hb k t hk)];unfold shutP;rw[if_neg hk,hp];rfl
 | cons d r ih =>
  have e1:p+(d::r).length=p+1+r.length:=by simp;omega
  rw[e1];cases ht:tks k t d.toNat
  ·rw[lexL_no ht] at h;rw[List.cons_append,lexL_no ht];rcases shut_inr h with ⟨rfl,h1⟩|⟨hk,x,us,hp,h1,h2⟩
   ·obtain⟨vs,h3,h4⟩:=ih _ _ _ _ _ h1;refine⟨vs,h3,?_⟩;rw[h4];rfl
   ·obtain⟨vs,h3,h4⟩:=ih _ _ _ _ _ h1;refine⟨x::vs,by rw[h2,h3];rfl,?_⟩;rw[h4];unfold shutP;rw[if_neg hk,hp];rfl
  ·rw[lexL_yes ht] at h;rw[List.cons_append,lexL_yes ht];exact ih _ _ _ _ _ h
theorem par_tks (c:UInt8)(hc:c=40\/c=41)(k:Nat)(t:List UInt8)(hk:k≠0):tks k t c.toNat=false:=by
 unfold tks;split
 ·exact absurd rfl hk
 ·rcases hc with rfl|rfl<;>rfl
 ·rcases hc with rfl|rfl<;>rfl
 ·rcases hc with rfl|rfl<;>rfl
 ·rfl
theorem ptok_kind {k:Nat}{t:List UInt8}{a:Nat}{x:Tk}(h:ptok k t a=.inr x):x.k≠0:=by
 unfold ptok at h;split at h
 ·unfold wrdT at h
  repeat' split at h
  all_goals first|(injection h with h;subst h;simp)|cases h
 ·unfold numT at h
  repeat' split at h
  all_goals first|(injection h with h;subst h;simp)|cases h
 ·unfold sgnT at h;split at h
  all_goals first|(injection h with h;subst h;simp)|cases h
 ·cases h
theorem lex_last (k:Nat)(t:List UInt8)(a p:Nat)(l:List UInt8)(us:List Tk)(e:Tk)(h:lexL k t a p l=.inr (us++[e])):∀ x,x ∈ us->x.k≠0:=by
 induction l generalizing k t a p us with
 | nil =>
  unfold lexL at h;rcases shut_inr h with ⟨_,h2⟩|⟨_,x,vs,hp,h2,h3⟩
  ·unfold endR at h2;injection h2 with h2
   have:us=[]:=by
    have:=congrArg List.length h2
    simp at this;exact this
   subst this;intro x hx;cases hx
  ·unfold endR at h2;injection h2 with h2
   subst h2
   have:us=[x]:=by
    have h4:us++[e]=[x]++[⟨0,0,[],p⟩]:=h3;exact List.append_inj_left' h4 rfl
   subst this;intro y hy;simp at hy;rw[hy];exact ptok_kind hp
 | cons c r ih =>
  unfold lexL at h;split at h
  ·exact ih _ _ _ _ _ h
  ·rcases shut_inr h with ⟨_,h2⟩|⟨_,x,vs,hp,h2,h3⟩
   ·exact ih _ _ _ _ _ h2
   ·cases us with
    | nil=>intro y hy;cases hy
    | cons z us =>
     rw[List.cons_append] at h3;injection h3 with h4 h5
     subst h4 h5;intro y hy;rcases List.mem_cons.1 hy with rfl|hy
     ·exact ptok_kind hp
     ·exact ih _ _ _ _ _ h2 y hy
theorem parse_text {s:List UInt8}{x:Ex}{t:List Tk}(h:parseA s=.ok x t):∃us E,s.length<=2000/\lexA s=.inr (us++[E])/\E=⟨0,0,[],s.length⟩/\us.length<=s.length/\(∀ y,y ∈ us->y.k≠0)/\partF 30000 1 0 0 (us++[E])=.ok x [E]:=by
 unfold parseA at h;cases hs:scanA s with
 | inl z=>obtain⟨e,p⟩:=z;rw[hs] at h;cases h
 | inr ts =>
  rw[hs] at h;have h:readF 30000 ts=.ok x t:=h;have hk:=scan_ok hs;obtain⟨us,h1,_⟩:=lexL_thenG 0 [] 0 0 s ts 41 [] (par_tks 41 (.inr rfl)) hk.2.1;rw[Nat.zero_add] at h1;subst h1;have hl:=lex_last _ _ _ _ _ _ _ hk.2.1;refine⟨us,_,hk.1,hk.2.1,rfl,by have:=hk.2.2.2.1;simp at this;exact this,hl,?_⟩;unfold readF at h;cases hp:partF 30000 1 0 0 (us++[⟨0,0,[],s.length⟩]) using Rs.on with
  | out=>rw[hp] at h;cases h
  | bad e a=>rw[hp] at h;cases h
  | ok y t0 =>
   rw[hp] at h;have hsf:=lq_part 30000 1 0 0 _ _ (List.suffix_refl _) y t0 hp;cases t0 with
   | nil=>cases h
   | cons z r =>
    simp only[Rs.bind] at h;by_cases hz:z.k=0
    ·rw[if_pos hz] at h;obtain⟨h1,h2⟩:=Rs.ok_inj h;subst h1;obtain⟨pre,hpre⟩:=hsf;cases r with
     | nil =>
      have h3:pre++[z]=us++[⟨0,0,[],s.length⟩]:=hpre;have h4:=List.append_inj_right' h3 rfl;rw[h4]
     | cons z2 r =>
      exfalso;have h5:z ∈ us:=by
       have h6:pre++z::(z2::r)=us++[⟨0,0,[],s.length⟩]:=hpre;have h7:(pre++z::(z2::r)).dropLast=us:=by rw[h6];simp
       rw[<-h7]
       have:pre++z::(z2::r)=(pre++[z])++(z2::r):=by simp
       rw[this,List.dropLast_append_cons];simp
      exact hl z h5 hz
    ·rw[if_neg hz] at h;cases h
theorem heap_set4 (w:World)(b k:Nat)(b0 b1 b2 b3:Value)(h:k≠b):((((w.setCell ⟨b,0,none⟩ b0).setCell ⟨b,1,none⟩ b1).setCell ⟨b,2,none⟩ b2).setCell ⟨b,3,none⟩ b3).heap[k]?=w.heap[k]? :=
 (heap_setCell_other _ ⟨b,3,none⟩ k _ h).trans ((heap_setCell_other _ ⟨b,2,none⟩ k _ h).trans ((heap_setCell_other _ ⟨b,1,none⟩ k _ h).trans (heap_setCell_other _ ⟨b,0,none⟩ k _ h)))
theorem nil_of_len0:∀ {f:Fs},f.len=0->f=.nil
 | ⟨none⟩,_=>rfl
 | ⟨some ⟨k,n,nm,a,ks,r⟩⟩,h=>by simp[Fs.len] at h
theorem Below.toStepC {w w':World}{o:Nat->Nat}{I:Nat->Prop}(b:Below w.heap.size w w'):Step I w o w' (newLab w o 0):=⟨b.os,b.tape,b.output,b.size,fun k hk=>newLab_old hk,fun k hk _=>b.block k hk⟩
abbrev PD (P:Nat->Prop)(n0:Nat)(o:Nat->Nat):Nat->Prop:=fun k=>o k=0/\((P k/\k<n0)\/n0<=k)
theorem FcN.labD {I:Nat->Prop}{P:Nat->Prop}{w w':World}{o o':Nat->Nat}{n0:Nat}{f:Fs}{xs:List Value}(h:FcN w (PD P n0 o) f xs)(s:Step I w o w' o')(h0:¬I 0):FcN w' (PD P n0 o') f xs :=
 h.mono (fun k hp hl=>s.block k hl (by rw[hp.1];exact h0)) s.size (fun k hp hl=>⟨(s.lab k hl).trans hp.1,hp.2⟩)
theorem SlN.labD {I:Nat->Prop}{P:Nat->Prop}{w w':World}{o o':Nat->Nat}{n0:Nat}{f:Fs}{ao:Option Addr}(h:SlN w (PD P n0 o) f ao)(s:Step I w o w' o')(h0:¬I 0):SlN w' (PD P n0 o') f ao :=
 h.mono (fun k hp hl=>s.block k hl (by rw[hp.1];exact h0)) s.size (fun k hp hl=>⟨(s.lab k hl).trans hp.1,hp.2⟩)
def AccD (w:World)(o:Nat->Nat)(P:Nat->Prop)(n0:Nat)(acc:Fs)(v:Value):Prop:=∃xs,Row w o 2 34 4 v acc.len xs/\FcN w (PD P n0 o) acc xs/\∀ k,v.ownBlock=some k->n0<=k
theorem AccD.nil (w:World)(o:Nat->Nat)(P:Nat->Prop)(n0:Nat):AccD w o P n0 .nil (.slice none 0 0):=⟨[],Row.nil _ _ _ _ _,rfl,fun k hk=>by simp[Value.ownBlock] at hk⟩
theorem AccD.step {I:Nat->Prop}{P:Nat->Prop}{w w':World}{o o':Nat->Nat}{n0:Nat}{acc:Fs}{v:Value}(h:AccD w o P n0 acc v)(s:Step I w o w' o')(h0:¬I 0)(h2:¬I 2):AccD w' o' P n0 acc v:=by
 obtain⟨xs,r,f,g⟩:=h;exact⟨xs,r.step s h2,f.labD s h0,g⟩
theorem AccD.push {P:Nat->Prop}{w w2:World}{o o2:Nat->Nat}{n0 ce g2 c2:Nat}{acc:Fs}{xs:List Value}{y:Ex}{ay:Option Addr}(f:FcN w (PD P n0 o) acc xs)(S:SlN w (PD P n0 o) y.kids ay)(s:Step (fun x=>x=2) w o w2 o2)(hlo:∀ k,k<n0->o k≠2)(hw:n0<=w.heap.size)
  (r:Row w2 o2 2 34 4 (.slice (some ⟨g2,0,none⟩) (acc.len+1) c2) (acc.len+1) (xs++[.int .i64 y.k,.int .i64 y.n,stv y.nm,.slice ay y.kids.len ce])):AccD w2 o2 P n0 (acc.snoc y) (.slice (some ⟨g2,0,none⟩) (acc.len+1) c2):=by
 refine⟨_,by rw[Fs.len_snoc];exact r,(f.labD s (by decide)).app (FcN.one ce (S.labD s (by decide))),fun k hk=>?_⟩;simp[Value.ownBlock] at hk;subst hk;have h2:o2 g2=2:=r.2 g2 rfl;rcases Nat.lt_or_ge g2 n0 with h3|h3
 ·exact absurd ((s.lab g2 (by omega)).symm.trans h2) (hlo g2 h3)
 ·exact h3
theorem AccD.sl {P:Nat->Prop}{w:World}{o:Nat->Nat}{n0:Nat}{acc:Fs}{v:Value}(h:AccD w o P n0 acc v):∃ao cap,v=.slice ao acc.len cap/\SlN w (fun k=>(o k=0\/o k=2)/\((P k/\k<n0)\/n0<=k)) acc ao:=by
 obtain⟨xs,r,f,g⟩:=h;obtain⟨ao,cap,hv⟩:=r.form;refine⟨ao,cap,hv,?_⟩;rcases Nat.eq_zero_or_pos acc.len with h0|h0
 ·exact .inl (nil_of_len0 h0)
 ·obtain⟨g',cap',hv',hg,-,-,hlt,hc,-⟩:=r.pos h0;have hl:=f.len;rw[hv] at hv';injection hv' with hv1
  subst hv1;have hgn:n0<=g':=g g' (by rw[hv];rfl);refine .inr ⟨g',0,xs,rfl,⟨.inr hg,.inr hgn⟩,hlt,fun j u hu=>?_,f.mono (fun _ _ _=>rfl) (Nat.le_refl _) (fun k hp _=>⟨.inl hp.1,hp.2⟩)⟩;have hj:j<xs.length:=(List.getElem?_eq_some_iff.1 hu).1;rw[Nat.zero_add,hc j (by omega)];exact hu
def Nms (w:World)(v:Value)(b:List (List UInt8)):Prop :=
 ∃ao cap,v=.slice ao b.length cap/\b.length<=cap/\((b=[]/\ao=none)\/∃g,ao=some ⟨g,0,none⟩/\g<w.heap.size/\0<b.length/\∀ (j:Nat) (t:List UInt8),b[j]?=some t->w.cell? ⟨g,j,none⟩=some (stv t))
theorem Nms.below {w w':World}{v:Value}{b:List (List UInt8)}(h:Nms w v b)(B:Below w.heap.size w w'):Nms w' v b:=by
 obtain⟨ao,cap,rfl,hc,h1|⟨g,h1,h2,h0,h3⟩⟩:=h
 ·exact⟨ao,cap,rfl,hc,.inl h1⟩
 ·exact⟨ao,cap,rfl,hc,.inr ⟨g,h1,Nat.lt_of_lt_of_le h2 B.size,h0,fun j t hj=>(B.cell (p:=⟨g,j,none⟩) h2).trans (h3 j t hj)⟩⟩
theorem Nms.nil (w:World):Nms w (.slice none 0 0) []:=⟨none,0,rfl,Nat.le_refl _,.inl ⟨rfl,rfl⟩⟩
theorem infoStrT:(Tryz.prog.info? 9).map (fun i=>(i.zero,i.size,i.bytes))=some (some (.string ⟨#[]⟩),1,16):=by kernel_rfl
def fixL (k n:Int):List Int :=
 if k=1 then [1] else if k=2 then [2] else if k=3\/k=4 then [3] else if k=6 then [1,1] else if k=7 then [2,2]
 else if 8<=k/\k<=12 then [1,1,1] else if k=15\/k=16 then [1,1,2] else if k=17\/k=18 then [2,2,2]
 else if k=22\/k=23 then [4] else if k=24 then [3,4]
 else if k=20 then (if n=1\/n=2 then [3,3,2] else if n=3 then [3,3,1] else if n=10 then [3,3] else [3,1])
 else if k=21 then (if n=1\/n=2 then [4,2,2] else if n=3 then [4,2,1] else [4,1,1])
 else []
def ruleT (k n:Int)(len:Nat)(done:List Int):Int :=
 if k=13\/k=14 then (match done with | []=>0 | [a]=>a|_=>2)
 else if k=19 then (match done with | []=>2 | [_]=>0|_::b::_=>b)
 else if k=25 then (if done.length<len then 3 else 4)
 else (fixL k n)[done.length]?.getD 0
def mustT (m:Int)(a:Int)(r:Sum (Nat × Int) Int):Sum (Nat × Int) Int :=
 match r with
 | .inl e=>.inl e
 | .inr is=>if m≠0/\is≠m then .inl (131,a) else .inr is
def chkFs:Fs->Int->Int->List UInt8->Nat->List (List UInt8)->Nat->List Int->Sum (Nat × Int) (List Int)
 | ⟨none⟩,_,_,_,_,_,_,done=>.inr done
 | ⟨some ⟨kk,kn,km,ka,kks,kr⟩⟩,k,n,nm,len,bound,i,done =>
  match mustT (ruleT k n len done) ka (if kk=4/\¬km ∈ (if k=21/\i≠0 then bound++[nm] else bound) then .inl (130,ka) else
   match chkFs kks kk kn km kks.len (if k=21/\i≠0 then bound++[nm] else bound) 0 [] with
   | .inl e=>.inl e
   | .inr d=>.inr (ruleT kk kn kks.len d)) with
  | .inl e=>.inl e
  | .inr is=>chkFs kr k n nm len bound (i+1) (done++[is])
def chkE (e:Ex)(bound:List (List UInt8)):Sum (Nat × Int) Int :=
 if e.k=4/\¬e.nm ∈ bound then .inl (130,e.a) else
  match chkFs e.kids e.k e.n e.nm e.kids.len bound 0 [] with
  | .inl x=>.inl x
  | .inr d=>.inr (ruleT e.k e.n e.kids.len d)
theorem chk_ex (x:Ex)(r:Fs)(k n:Int)(nm:List UInt8)(len:Nat)(bound:List (List UInt8))(i:Nat)(done:List Int) :
  chkFs (.cons x.k x.n x.nm x.a x.kids r) k n nm len bound i done=(match mustT (ruleT k n len done) x.a (chkE x (if k=21/\i≠0 then bound++[nm] else bound)) with
   | .inl e=>.inl e
   | .inr is=>chkFs r k n nm len bound (i+1) (done++[is])):=rfl
def typA (e:Ex):Int × Nat × Int :=
 match writA e with
 | none=>(0,122,0)
 | some _ =>
  match chkE e [] with
  | .inl (er,a)=>(0,er,a)
  | .inr k=>(k,0,0)
theorem chkFs_er:∀ (f:Fs) (k n:Int) (nm:List UInt8) (len:Nat) (bound:List (List UInt8)) (i:Nat) (done:List Int) (er:Nat) (a:Int),chkFs f k n nm len bound i done=.inl (er,a)->er=130\/er=131
 | ⟨none⟩,k,n,nm,len,bound,i,done,er,a,h=>by simp only[chkFs] at h;cases h
 | ⟨some ⟨kk,kn,km,ka,kks,kr⟩⟩,k,n,nm,len,bound,i,done,er,a,h=>by
  simp only[chkFs] at h;by_cases hv:kk=4/\¬km ∈ (if k=21/\i≠0 then bound++[nm] else bound)
  ·rw[if_pos hv] at h;simp only[mustT,Sum.inl.injEq,Prod.mk.injEq] at h;omega
  ·rw[if_neg hv] at h;cases hc:chkFs kks kk kn km kks.len (if k=21/\i≠0 then bound++[nm] else bound) 0 [] with
   | inl x =>
    obtain⟨er2,a2⟩:=x;rw[hc] at h;simp only[mustT,Sum.inl.injEq,Prod.mk.injEq] at h
    have:=chkFs_er kks _ _ _ _ _ _ _ er2 a2 hc
    omega
   | inr d =>
    rw[hc] at h;simp only[mustT] at h;by_cases hm:ruleT k n len done≠0/\ruleT kk kn kks.len d≠ruleT k n len done
    ·rw[if_pos hm] at h;simp only[Sum.inl.injEq,Prod.mk.injEq] at h;omega
    ·rw[if_neg hm] at h;exact chkFs_er kr _ _ _ _ _ _ _ er a h
theorem chkE_er {e:Ex}{bound:List (List UInt8)}{er:Nat}{a:Int}(h:chkE e bound=.inl (er,a)):er=130\/er=131:=by
 unfold chkE at h;by_cases hv:e.k=4/\¬e.nm ∈ bound
 ·rw[if_pos hv] at h;simp only[Sum.inl.injEq,Prod.mk.injEq] at h;omega
 ·rw[if_neg hv] at h;cases hc:chkFs e.kids e.k e.n e.nm e.kids.len bound 0 [] with
  | inl x =>
   obtain⟨er2,a2⟩:=x;rw[hc] at h;simp only[Sum.inl.injEq,Prod.mk.injEq] at h
   have:=chkFs_er _ _ _ _ _ _ _ _ er2 a2 hc
   omega
  | inr d=>rw[hc] at h;cases h
def endT (k n:Int)(len:Nat):Sum (Nat × Int) (List Int)->Sum (Nat × Int) Int
 | .inl x=>.inl x
 | .inr d=>.inr (ruleT k n len d)
theorem chkE_kids (e:Ex)(b:List (List UInt8))(h:e.k≠4):chkE e b=endT e.k e.n e.kids.len (chkFs e.kids e.k e.n e.nm e.kids.len b 0 []):=by
 unfold chkE;rw[if_neg (fun h2=>h h2.1)];cases chkFs e.kids e.k e.n e.nm e.kids.len b 0 []<;>rfl
def okR (k n:Int)(len:Nat):Prop :=
 (k=13\/k=14\/k=19\/k=25)\/(k=20/\(1<=n/\n<=10)/\(fixL 20 n).length=len+1)\/(k=21/\(1<=n/\n<=6)/\(fixL 21 n).length=len+1)
  \/ ((1<=k/\k<=24/\k≠5/\k≠20/\k≠21/\k≠13/\k≠14/\k≠19)/\(fixL k 0).length=len+1)
theorem callT_rng (n:Int):(callOf n).isSome=decide (1<=n/\n<=10):=by
 by_cases h:1<=n/\n<=10
 ·have h2:n=1\/n=2\/n=3\/n=4\/n=5\/n=6\/n=7\/n=8\/n=9\/n=10:=by omega
  rcases h2 with rfl|rfl|rfl|rfl|rfl|rfl|rfl|rfl|rfl|rfl<;>rfl
 ·rw[decide_eq_false h];cases hc:callOf n with
  | none=>rfl
  | some x =>
   have h1:=List.find?_some hc;have h2:=List.mem_of_find?_eq_some hc;simp only[callsL,List.mem_cons,List.not_mem_nil,or_false] at h2;simp only[beq_iff_eq] at h1;exfalso;rcases h2 with rfl|rfl|rfl|rfl|rfl|rfl|rfl|rfl|rfl|rfl<;>simp only at h1<;>omega
theorem quantT_rng (n:Int):(quantOf n).isSome=decide (1<=n/\n<=6):=by
 by_cases h:1<=n/\n<=6
 ·have h2:n=1\/n=2\/n=3\/n=4\/n=5\/n=6:=by omega
  rcases h2 with rfl|rfl|rfl|rfl|rfl|rfl<;>rfl
 ·rw[decide_eq_false h];cases hc:quantOf n with
  | none=>rfl
  | some x =>
   have h1:=List.find?_some hc;have h2:=List.mem_of_find?_eq_some hc;simp only[quantsL,List.mem_cons,List.not_mem_nil,or_false] at h2;simp only[beq_iff_eq] at h1;exfalso;rcases h2 with rfl|rfl|rfl|rfl|rfl|rfl<;>simp only at h1<;>omega
theorem opT_rng {k:Int}(h:(opOf k).isSome=true):8<=k/\k<=18:=by
 cases hc:opOf k with
 | none=>rw[hc] at h;cases h
 | some x =>
  have h1:=List.find?_some hc;have h2:=List.mem_of_find?_eq_some hc;simp only[opsL,List.mem_cons,List.not_mem_nil,or_false] at h2;simp only[beq_iff_eq] at h1;rcases h2 with rfl|rfl|rfl|rfl|rfl|rfl|rfl|rfl|rfl|rfl|rfl<;>simp only at h1<;>omega
theorem okR_of {k n:Int}{nm:List UInt8}{m:Nat}(h:okP k n nm m):okR k n m:=by
 obtain⟨h1,-,h2,-,-,-⟩:=h;unfold kidB at h2;unfold numB at h1;by_cases a0:k=1\/k=2\/k=3\/k=4\/k=22\/k=23
 ·have e1:(k==1||k==2||k==3||k==4||k==22||k==23)=true:=by rcases a0 with rfl|rfl|rfl|rfl|rfl|rfl<;>rfl
  rw[e1,if_pos rfl] at h2
  have:m=0:=by simpa using h2
  subst this;refine .inr (.inr (.inr ⟨by omega,?_⟩));rcases a0 with rfl|rfl|rfl|rfl|rfl|rfl<;>rfl
 by_cases a1:k=6\/k=7\/k=24
 ·have:m=1:=by rcases a1 with rfl|rfl|rfl<;>(simp at h2;omega)
  subst this;refine .inr (.inr (.inr ⟨by omega,?_⟩));rcases a1 with rfl|rfl|rfl<;>rfl
 by_cases a2:k=21
 ·subst a2;have hm:m=2:=by simp at h2;omega
  have hn:(quantOf n).isSome=true:=by simpa using h1
  rw[quantT_rng] at hn;have hn2:=of_decide_eq_true hn;subst hm;refine .inr (.inr (.inl ⟨rfl,hn2,?_⟩));have h3:n=1\/n=2\/n=3\/n=4\/n=5\/n=6:=by omega
  rcases h3 with rfl|rfl|rfl|rfl|rfl|rfl<;>rfl
 by_cases a3:k=19
 ·exact .inl (by omega)
 by_cases a4:k=20
 ·subst a4;have hn:(callOf n).isSome=true:=by simpa using h1
  rw[callT_rng] at hn;have hn2:=of_decide_eq_true hn;refine .inr (.inl ⟨rfl,hn2,?_⟩);have h3:n=1\/n=2\/n=3\/n=4\/n=5\/n=6\/n=7\/n=8\/n=9\/n=10:=by omega
  rcases h3 with rfl|rfl|rfl|rfl|rfl|rfl|rfl|rfl|rfl|rfl <;>
   (simp[callOf,callsL] at h2;simp[fixL];omega)
 by_cases a5:k=25
 ·exact .inl (by omega)
 have e1:(k==1||k==2||k==3||k==4||k==22||k==23)=false:=by simp;omega
 have e2:(k==6||k==7||k==24)=false:=by simp;omega
 have e3:(k==21)=false:=by simpa using a2
 have e4:(k==19)=false:=by simpa using a3
 have e5:(k==20)=false:=by simpa using a4
 have e6:(k==25)=false:=by simpa using a5
 rw[e1,e2,e3,e4,e5,e6] at h2;simp only[Bool.false_eq_true,if_false,Bool.and_eq_true,beq_iff_eq] at h2;have hr:=opT_rng h2.1;have hm:m=2:=by omega
 subst hm;by_cases a6:k=13\/k=14
 ·exact .inl (by omega)
 refine .inr (.inr (.inr ⟨by omega,?_⟩));have h3:k=8\/k=9\/k=10\/k=11\/k=12\/k=15\/k=16\/k=17\/k=18:=by omega
 rcases h3 with rfl|rfl|rfl|rfl|rfl|rfl|rfl|rfl|rfl<;>rfl
theorem okR_kind {k n:Int}{m:Nat}(h:okR k n m):1<=k/\k<=25/\k≠5:=by
 unfold okR at h;omega
theorem below_stepT {I:Nat->Prop}{n0:Nat}{a w w':World}{o o':Nat->Nat}(b:Below n0 a w)(s:Step I w o w' o')(h:∀ k,k<n0->¬I (o k))(hn:n0<=a.heap.size):Below n0 a w' :=
 ⟨s.os.trans b.os,s.tape.trans b.tape,s.output.trans b.output,Nat.le_trans b.size s.size,fun k hk=>(s.block k (by have:=b.size;omega) (h k hk)).trans (b.block k hk)⟩
abbrev I1n:Nat->Prop:=fun k=>k=1
theorem Nms.ofRow {w:World}{o:Nat->Nat}{g cap:Nat}{b:List (List UInt8)}{n:Nat}(h:Row w o 1 9 1 (.slice (some ⟨g,0,none⟩) n cap) n (b.map fun x=>stv x))(hn:b.length=n)(h0:0<n):Nms w (.slice (some ⟨g,0,none⟩) n cap) b:=by
 subst hn;obtain⟨g',cap',e1,_,h2,_,h4,h5,_⟩:=h.pos h0;injection e1 with e1 e2 e3
 injection e1 with e1
 injection e1 with e1
 subst e1;subst e3;refine⟨_,_,rfl,h2,.inr ⟨g,rfl,h4,h0,fun j t hj=>?_⟩⟩;have hj2:j<b.length:=(List.getElem?_eq_some_iff.1 hj).1;rw[h5 j (by omega),List.getElem?_map,hj];rfl
theorem run_append_zero {P:Program}(w:World)(t ty e:TypeId)(i:TypeInfo)(ht:P.underlying t=some (.slice e))(hi:P.info? e=some i)(ao:Option Addr)(n cap:Nat)(x:Option Addr)(c:Nat)(hnc:n<=cap) :
  (Builtin.append_ #[t,t] ty #[.slice ao n cap,.slice x 0 c]).run P w=.ok (.slice ao n cap) w:=by
 have hl:∀ a:Addr,(loadCells a 0).run P w=.ok #[] w:=fun a=>by simp[loadCells,loadCellsFrom]
 cases x<;>cases ao<;>simp[Builtin.append_,run_underlying ht,sizeOf,typeInfo,hi,Builtin.lenOf,Builtin.firstCells,hnc,storeCells,hl]
theorem wpList_append_zero {P:Program}{w:World}{ops:Array Oper}{rest:List Oper}{op:Oper}{a:Act}{Q:Exit->Act->World->Prop}(hgd:op.guard=none)(s x:Operand)(t:TypeId)
  (ho:op.op=.call { callee:=.builtin .append,args:=#[s,x],argTypes:=#[t,t] }) (e:TypeId) (i:TypeInfo) (ht:P.underlying t=some (.slice e)) (hi:P.info? e=some i)
  (ao:Option Addr) (n cap:Nat) (y:Option Addr) (c:Nat) (hs:a.eval s=.slice ao n cap) (hx:a.eval x=.slice y 0 c) (hnc:n<=cap) (h:wpList P ops Q rest (a.put op.dst (.slice ao n cap)) w):wpList P ops Q (op::rest) a w:=by
 refine wpList_plain hgd fun _ hK=>?_;have hr:=run_append_zero (P:=P) w t op.type e i ht hi ao n cap y c hnc;unfold Oper.wp execOp;simp only[ho,resolve,invoke,builtin,Sem.run_bind,Sem.run_pure,Result.andThen_ok,List.map_toArray,List.map_cons,List.map_nil,hs,hx,hr];exact hK _ _ h
theorem Row.cap {w:World}{o:Nat->Nat}{i:Nat}{e:TypeId}{size:Nat}{n m cap:Nat}{ao:Option Addr}{xs:List Value}(h:Row w o i e size (.slice ao m cap) n xs):m=n/\n<=cap/\cap<=maxLen:=by
 rcases h.1.2 with ⟨hh,hk0⟩|⟨gx,cx,_,hh,_,_,hle,hm,_⟩
 ·simp only[Value.slice.injEq] at hh;obtain⟨_,rfl,rfl⟩:=hh;exact⟨hk0.symm,by omega,by unfold maxLen;omega⟩
 ·simp only[Value.slice.injEq] at hh;obtain⟨_,rfl,rfl⟩:=hh;exact⟨rfl,hle,hm⟩
theorem wpList_append_any {P:Program}{w:World}{ops:Array Oper}{rest:List Oper}{op:Oper}{a:Act}{Q:Exit->Act->World->Prop}(hgd:op.guard=none)(s x:Operand)(t:TypeId)
  (ho:op.op=.call { callee:=.builtin .append,args:=#[s,x],argTypes:=#[t,t] })
  (e:TypeId) (i:TypeInfo) (z:Value) (size bytes:Nat) (ht:P.underlying t=some (.slice e)) (hi:P.info? e=some i) (hz:i.zero=some z)
  (hsize:i.size=size) (hby:i.bytes=bytes) (hzs:z.cells.size=size) (hsz:0<size)
  (o:Nat->Nat) (lb:Nat) (v:Value) (n:Nat) (xs:List Value) (hs:a.eval s=v) (hrow:Row w o lb e size v n xs)
  (y:Option Addr) (m c:Nat) (news:List Value) (hx:a.eval x=.slice y m c) (hl:news.length=m*size) (hnews:0<m->∃ad,y=some ad/\∀ j u,news[j]?=some u->w.cell? (ad.add j)=some u) (h1:∀ u ∈ news,u.oneCell'=true)
  (h63:n+m<=maxLen) (hbytes:(n+m)*bytes<=140737488355328)
  (h:∀ ao cap w' o',Row w' o' lb e size (.slice ao (n+m) cap) (n+m) (xs++news)->Step (fun k=>k=lb) w o w' o'->wpList P ops Q rest (a.put op.dst (.slice ao (n+m) cap)) w'):wpList P ops Q (op::rest) a w:=by
 by_cases hm:0<m
 ·obtain⟨ad,rfl,hn⟩:=hnews hm;exact wpList_append_lab hgd s x t ho e i z size bytes ht hi hz hsize hby hzs hsz o lb v n xs hs hrow ad m c news hx hl hn h1 hm h63 hbytes fun g cap w' o' r st=>h _ _ _ _ r st
 ·obtain rfl:m=0:=by omega
  obtain⟨ao,cap,rfl⟩:=hrow.form;have hnil:news=[]:=List.eq_nil_of_length_eq_zero (by omega);subst hnil;refine wpList_append_zero hgd s x t ho e i ht hi ao n cap y c hs hx hrow.cap.2.1 ?_
  have:=h ao cap w o (by rw[List.append_nil];exact hrow) (Step.refl _ _ _)
  exact this
def NodeOk (N:Nat):Prop:=∀ (e:Ex) (ao:Option Addr) (cap:Nat) (bd:List (List UInt8)) (bv:Value) (w:World),e.kids.size<N->e.kids.len<=1000000000->e.kids.short->bd.length+e.kids.size<=1000000->Nms w bv bd->SlA w e.kids ao ->
 Calls Tryz.prog 45 #[exV e ao cap,bv] w (PostMn w (ofE e bd))
theorem Nms.news {w:World}{ao:Option Addr}{cap:Nat}{b:List (List UInt8)}(h:Nms w (.slice ao b.length cap) b):0<b.length->∃ad,ao=some ad/\∀ j u,(b.map fun x=>stv x)[j]?=some u->w.cell? (ad.add j)=some u:=by
 intro h0;obtain⟨ao',cap',hv,hc,h1|⟨g,h1,h2,h3,h4⟩⟩:=h
 ·rw[h1.1] at h0;simp at h0
 ·injection hv with hv1
  subst hv1;refine⟨_,h1,fun j u hj=>?_⟩;rw[List.getElem?_map] at hj;cases hb:b[j]? with
  | none=>rw[hb] at hj;cases hj
  | some t =>
   rw[hb] at hj;injection hj with hj
   subst hj;have h5:((⟨g,0,none⟩:Addr).add j)=⟨g,j,none⟩:=by simp only[Addr.add];split<;>simp_all
   rw[h5];exact h4 j t hb
theorem Nms.ofRowL {w:World}{o:Nat->Nat}{i g cap:Nat}{b:List (List UInt8)}{n:Nat}(h:Row w o i 9 1 (.slice (some ⟨g,0,none⟩) n cap) n (b.map fun x=>stv x))(hn:b.length=n)(h0:0<n):Nms w (.slice (some ⟨g,0,none⟩) n cap) b :=
 Nms.ofRow (o:=fun _=>1) ⟨h.1,fun _ _=>rfl⟩ hn h0
theorem ones_str (b:List (List UInt8)):∀ u ∈ b.map (fun x=>stv x),u.oneCell'=true:=fun u hu=>by
 obtain⟨x,_,rfl⟩:=List.mem_map.1 hu;rfl
theorem node_step {N:Nat}(IH:NodeOk N):NodeOk (N+1):=by
 intro e ao cap bd bv w hN hlen hsh hbd HN S;obtain⟨Y,hY⟩:∃Y,Y=ofE e bd:=⟨_,rfl⟩
 have HY:Hid (Y=ofE e bd):=hY;rw[<-hY];clear hY;obtain⟨ii,hii,hzi0,hzi1,hzi2⟩:=info_parts infoNode;obtain⟨is,his,hzs0,hzs1,hzs2⟩:=info_parts infoStrT;obtain⟨w0,hw0⟩:∃w0,w0=((w.alloc (.cells #[.int .i64 e.k,.int .i64 e.n,stv e.nm,.slice ao e.kids.len cap,.int .i64 e.a] 25)).alloc (.cells #[.int .i64 0,.int .i64 0,.string ⟨#[]⟩,.slice none 0 0] 34)).alloc (.cells #[.int .i64 e.k,.int .i64 e.n,.string ⟨#[]⟩,.slice none 0 0] 34):=⟨_,rfl⟩
 have B0:Below w.heap.size w w0:=by rw[hw0];exact(((Below.refl _ w).alloc (Nat.le_refl _) _).alloc (by simp) _).alloc (by simp;omega) _
 obtain⟨o0,ho0⟩:∃o0:Nat->Nat,o0=fun k=>if k=w.heap.size+1+1 then 1 else if k=w.heap.size+1 then 3 else 0:=⟨_,rfl⟩
 have E0:Blk w0 o0 0 w.heap.size (.cells #[.int .i64 e.k,.int .i64 e.n,stv e.nm,.slice ao e.kids.len cap,.int .i64 e.a] 25):=by
  refine⟨?_,by rw[ho0];simp only;rw[if_neg (by omega),if_neg (by omega)]⟩;rw[hw0];exact(Below.heap_alloc _ _ _ (by simp;omega)).trans ((Below.heap_alloc _ _ _ (by simp)).trans (heap_alloc_new w _))
 have Z0:Blk w0 o0 3 (w.heap.size+1) (.cells #[.int .i64 0,.int .i64 0,.string ⟨#[]⟩,.slice none 0 0] 34):=by
  refine⟨?_,by rw[ho0];simp⟩;rw[hw0];refine(Below.heap_alloc _ _ _ (by simp)).trans ?_
  have:=heap_alloc_new (w.alloc (.cells #[.int .i64 e.k,.int .i64 e.n,stv e.nm,.slice ao e.kids.len cap,.int .i64 e.a] 25)) (.cells #[.int .i64 0,.int .i64 0,.string ⟨#[]⟩,.slice none 0 0] 34)
  simpa using this
 have O0:Blk w0 o0 1 (w.heap.size+1+1) (.cells #[.int .i64 e.k,.int .i64 e.n,.string ⟨#[]⟩,.slice none 0 0] 34):=by
  refine⟨?_,by rw[ho0];simp⟩;rw[hw0]
  have:=heap_alloc_new ((w.alloc (.cells #[.int .i64 e.k,.int .i64 e.n,stv e.nm,.slice ao e.kids.len cap,.int .i64 e.a] 25)).alloc (.cells #[.int .i64 0,.int .i64 0,.string ⟨#[]⟩,.slice none 0 0] 34)) (.cells #[.int .i64 e.k,.int .i64 e.n,.string ⟨#[]⟩,.slice none 0 0] 34)
  simpa using this
 have L0:∀ k,k<w.heap.size->o0 k=0:=fun k hk=>by rw[ho0];simp only;rw[if_neg (by omega),if_neg (by omega)]
 have A0:=AccD.nil w0 o0 (fun _=>False) w.heap.size;have N0:=HN.below B0;obtain⟨ab,cb,hbv,hbc,hbx⟩:=HN;have HNM:Hid (Nms w bv bd):=⟨ab,cb,hbv,hbc,hbx⟩
 subst hbv;rw[exV_out];go_enter Tryz.func45,Tryz.ntmps45;go_upto_region 2 with fail;rw[<-hw0];clear hw0 ho0;obtain⟨n0,hn0⟩:∃n0,n0=w.heap.size:=⟨_,rfl⟩
 unfold PostMn;rw[<-hn0] at E0 Z0 O0 L0 A0 B0 ⊢;have HB:Hid (n0=w.heap.size):=hn0;clear hn0 hbx;obtain⟨p0,p1,p2,p3,p4,pf⟩:=box5 E0.1;have HNW:Hid (∀ W,Below n0 w W->Nms W (.slice ab bd.length cb) bd):=fun W b=>Nms.below HNM.out (by rw[<-HB.out];exact b);by_cases h4:e.k=4
 ·have hb4:(e.k==4)=true:=by simpa using h4
  have HY4:Hid (Y=⟨5,lastI bd e.nm 0 e.n,[],0,.nil⟩):=by show _=_;rw[HY.out];unfold ofE;rw[if_pos h4]
  have s1:Step (fun k=>k=1) w0 o0 (w0.setCell ⟨n0+1+1,0,none⟩ (.int .i64 5)) o0:=setStep _ w0 o0 ⟨n0+1+1,0,none⟩ _ O0.2;have O1:=O0.set 0 (.int .i64 5);have E1:=E0.step s1 (by decide);have Z1:=Z0.step s1 (by decide);have B1:=below_stepB B0 s1 (fun k hk=>by rw[L0 k hk];decide) (by rw[HB.out];exact Nat.le_refl _);have LH:Hid (∀ k,k<n0->o0 k=0):=L0;obtain⟨t0,t1,t2,t3,tf⟩:=box4 O0.1;clear s1 E0 Z0 O0 A0 B0 HY L0 N0;go_wp2;clear p0 p1 p2 p3 p4 pf t0 t1 t2 t3 tf;go_loopw [6] (fun v wr=>∃(j:Nat) (n1:Int),v=.int .i64 (j:Nat)/\j<=bd.length/\Hid (lastI (bd.drop j) e.nm j n1=lastI bd e.nm 0 e.n)/\Blk wr o0 0 n0 (.cells #[.int .i64 e.k,.int .i64 e.n,stv e.nm,.slice ao e.kids.len cap,.int .i64 e.a] 25)/\Blk wr o0 3 (n0+1) (.cells #[.int .i64 0,.int .i64 0,.string ⟨#[]⟩,.slice none 0 0] 34)/\Blk wr o0 1 (n0+1+1) (.cells #[.int .i64 5,.int .i64 n1,.string ⟨#[]⟩,.slice none 0 0] 34)/\Below n0 w wr) (fun v _=>bd.length-(intOf v).toNat)
  case atStart=>exact⟨0,e.n,by show _=Value.int .i64 ((0:Nat):Int);rfl,by omega,rfl,E1,Z1,O1,B1⟩
  case round =>
   clear E1 Z1 O1 B1;obtain⟨j,n1,rfl,hj,HL,E1,Z1,O1,B1⟩:=hrel;obtain⟨p0,p1,p2,p3,p4,pf⟩:=box5 E1.1;obtain⟨t0,t1,t2,t3,tf⟩:=box4 O1.1;by_cases hlt:j<bd.length
   ·have hx:bd[j]?=some bd[j]:=List.getElem?_eq_getElem hlt;have hdrop:bd.drop j=bd[j]::bd.drop (j+1):=List.drop_eq_getElem_cons hlt;obtain⟨_,_,hv,-,h1|⟨gb,h1,hgb,-,hcell⟩⟩:=HNW.out wr B1
    ·rw[h1.1] at hlt;simp at hlt
    injection hv with hv1
    subst hv1;subst h1;have hcj:=hcell j _ hx;have HLD:Hid (lastI (bd[j]::bd.drop (j+1)) e.nm j n1=lastI bd e.nm 0 e.n):=by show _=_;rw[<-hdrop];exact HL.out
    generalize bd[j]=x at hcj HLD;have hltI:(j:Int)<(bd.length:Int):=by omega
    have hjb:j<1000000:=by omega
    clear hx hdrop hcell HL;go_upto_region 8 with fail;by_cases hxe:x=e.nm
    ·have hbe:(x==e.nm)=true:=by simpa using hxe
     have HL2:Hid (lastI (bd.drop (j+1)) e.nm (j+1) (j:Int)=lastI bd e.nm 0 e.n):=by
      have h:lastI (bd.drop (j+1)) e.nm (j+1) (if x=e.nm then (j:Int) else n1)=lastI bd e.nm 0 e.n:=HLD.out;rw[if_pos hxe] at h;exact h
     clear hxe HLD
     go_quiet (fail)
     have bq:Below wr.heap.size wr (wr.drewN nq):=bdr (Below.refl _ _) nq;have sq:Step (fun _=>False) wr o0 (wr.drewN nq) o0:=(Step.refl _ wr o0).drewN nq;have E2:=E1.step sq id;have Z2:=Z1.step sq id;have O2:=O1.step sq id;have B2:=below_stepB B1 sq (fun _ _=>id) (by rw[HB.out];exact Nat.le_refl _);generalize wr.drewN nq=wq at *;clear E1 Z1 O1 B1 bq sq p0 p1 p2 p3 p4 pf t0 t1 t2 t3 tf hcj;obtain⟨t0,t1,t2,t3,tf⟩:=box4 O2.1;have s3:Step (fun k=>k=1) wq o0 (wq.setCell ⟨n0+1+1,1,none⟩ (.int .i64 (j:Nat))) o0:=setStep _ wq o0 ⟨n0+1+1,1,none⟩ _ O2.2;have O3:=O2.set 1 (.int .i64 (j:Nat));have E3:=E2.step s3 (by decide);have Z3:=Z2.step s3 (by decide);have B3:=below_stepB B2 s3 (fun k hk=>by rw[LH.out k hk];decide) (by rw[HB.out];exact Nat.le_refl _);clear s3 E2 Z2 O2 B2;go_wp2;go_roundw
     case rel=>(try ((repeat apply Exists.intro);refine⟨?_,rfl⟩));exact⟨j+1,_,by go_num,by omega,HL2,E3,Z3,O3,B3⟩
     case measure=>simp[intOf];omega
    ·have hbe:(x==e.nm)=false:=by simpa using hxe
     have HL2:Hid (lastI (bd.drop (j+1)) e.nm (j+1) n1=lastI bd e.nm 0 e.n):=by
      have h:lastI (bd.drop (j+1)) e.nm (j+1) (if x=e.nm then (j:Int) else n1)=lastI bd e.nm 0 e.n:=HLD.out;rw[if_neg hxe] at h;exact h
     clear hxe HLD
     go_quiet (fail)
     have sq:Step (fun _=>False) wr o0 (wr.drewN nq) o0:=(Step.refl _ wr o0).drewN nq;have E2:=E1.step sq id;have Z2:=Z1.step sq id;have O2:=O1.step sq id;have B2:=below_stepB B1 sq (fun _ _=>id) (by rw[HB.out];exact Nat.le_refl _);generalize wr.drewN nq=wq at *;clear E1 Z1 O1 B1 sq p0 p1 p2 p3 p4 pf t0 t1 t2 t3 tf hcj;go_wp2;go_roundw
     case rel=>(try ((repeat apply Exists.intro);refine⟨?_,rfl⟩));exact⟨j+1,_,by go_num,by omega,HL2,E2,Z2,O2,B2⟩
     case measure=>simp[intOf];omega
   ·have hltI:¬(j:Int)<(bd.length:Int):=by omega
    have HN1:Hid (n1=lastI bd e.nm 0 e.n):=by
     have h:=HL.out;rw[List.drop_eq_nil_of_le (by omega)] at h;exact h
    have HU:Hid (∃wz,wz=((((wr.setCell ⟨n0+1,0,none⟩ (.int .i64 5)).setCell ⟨n0+1,1,none⟩ (.int .i64 n1)).setCell ⟨n0+1,2,none⟩ (.string ⟨#[]⟩)).setCell ⟨n0+1,3,none⟩ (.slice none 0 0))/\wz.cell? ⟨n0+1,0,none⟩=some (.int .i64 5)/\wz.cell? ⟨n0+1,1,none⟩=some (.int .i64 n1)/\wz.cell? ⟨n0+1,2,none⟩=some (.string ⟨#[]⟩)/\wz.cell? ⟨n0+1,3,none⟩=some (.slice none 0 0)/\Below n0 w wz):=by
     obtain⟨u0,u1,u2,u3,-⟩:=box4 (set4k (b0:=.int .i64 5) (b1:=.int .i64 n1) (b2:=.string ⟨#[]⟩) (b3:=.slice none 0 0) Z1.1);exact⟨_,rfl,u0,u1,u2,u3,(((B1.setCell (p:=⟨n0+1,0,none⟩) (Nat.le_succ _) _).setCell (p:=⟨n0+1,1,none⟩) (Nat.le_succ _) _).setCell (p:=⟨n0+1,2,none⟩) (Nat.le_succ _) _).setCell (p:=⟨n0+1,3,none⟩) (Nat.le_succ _) _⟩
    obtain⟨z0,z1,z2,z3,zf⟩:=box4 Z1.1;clear E1 Z1 O1 B1 HL;go_wp2;obtain⟨wz,hwz,v0,v1,v2,v3,BZ⟩:=HU.out;rw[<-hwz];refine bodyPost_ret (v:=exN Y none 0) ?_ rfl ⟨none,0,rfl,by rw[HY4.out];exact SlN.nil _ _ _,by rw[<-HB.out];exact BZ⟩;rw[HY4.out,<-HN1.out];simp[results,Tryz.results45,go_sem,v0,v1,v2,v3,exN];rfl
 have hb4:(e.k==4)=false:=by simpa using h4
 obtain⟨onm,honm⟩:∃onm,onm=if e.k=23 then e.nm else ([]:List UInt8):=⟨_,rfl⟩
 obtain⟨F,hF⟩:∃F,F=ofF e.kids e.k e.nm 0 bd:=⟨_,rfl⟩
 have HYN:Hid (Y=⟨e.k,e.n,onm,0,F⟩):=by show _=_;rw[HY.out,honm,hF];unfold ofE;rw[if_neg h4]
 have HF:Hid (F=ofF e.kids e.k e.nm 0 bd):=hF;have HOM:Hid (onm=if e.k=23 then e.nm else ([]:List UInt8)):=honm;have LH:Hid (∀ k,k<n0->o0 k=0):=L0;clear honm hF HY h4 N0 L0;have hcase:((e.k==23)=true/\onm=e.nm)\/((e.k==23)=false/\onm=[]):=by
  by_cases h23:e.k=23
  ·exact .inl ⟨by simpa using h23,by rw[HOM.out,if_pos h23]⟩
  ·exact .inr ⟨by simpa using h23,by rw[HOM.out,if_neg h23]⟩
 rcases hcase with ⟨hb23,ho1⟩|⟨hb23,ho1⟩
 focus
  obtain⟨t0,t1,t2,t3,tf⟩:=box4 O0.1;have s1:Step (fun k=>k=1) w0 o0 (w0.setCell ⟨n0+1+1,2,none⟩ (stv e.nm)) o0:=setStep _ w0 o0 ⟨n0+1+1,2,none⟩ _ O0.2;have O1:Blk (w0.setCell ⟨n0+1+1,2,none⟩ (stv e.nm)) o0 1 (n0+1+1) (.cells #[.int .i64 e.k,.int .i64 e.n,stv onm,.slice none 0 0] 34):=by rw[ho1];exact O0.set 2 (stv e.nm)
  have E1:=E0.step s1 (by decide);have Z1:=Z0.step s1 (by decide);have A1:=A0.step s1 (by decide) (by decide);have B1:=below_stepB B0 s1 (fun k hk=>by rw[LH.out k hk];decide) (by rw[HB.out];exact Nat.le_refl _);clear s1 O0 E0 Z0 A0 B0 ho1;go_upto_region 13 with fail;generalize w0.setCell ⟨n0+1+1,2,none⟩ (stv e.nm)=w1 at *;clear t0 t1 t2 t3 tf
 rotate_left
 focus
  have O1:Blk w0 o0 1 (n0+1+1) (.cells #[.int .i64 e.k,.int .i64 e.n,stv onm,.slice none 0 0] 34):=by rw[ho1];exact O0
  have E1:=E0;have Z1:=Z0;have A1:=A0;have B1:=B0;clear O0 E0 Z0 A0 B0 ho1;go_upto_region 13 with fail
 all_goals (
  clear p0 p1 p2 p3 p4 pf HOM;go_wp2;go_loopw [7] (fun v wr=>∃(done r acc:Fs) (o:Nat->Nat) (va:Value),Hid (e.kids=done.app r)/\v=.int .i64 (done.len:Nat)/\Hid (acc.len=done.len)/\Hid (acc.app (ofF r e.k e.nm done.len bd)=F)/\Blk wr o 0 n0 (.cells #[.int .i64 e.k,.int .i64 e.n,stv e.nm,.slice ao e.kids.len cap,.int .i64 e.a] 25)/\Blk wr o 3 (n0+1) (.cells #[.int .i64 0,.int .i64 0,.string ⟨#[]⟩,.slice none 0 0] 34)/\Blk wr o 1 (n0+1+1) (.cells #[.int .i64 e.k,.int .i64 e.n,stv onm,va] 34)/\AccD wr o (fun _=>False) n0 acc va/\Hid (∀ k,k<n0->o k=0)/\Below n0 w wr) (fun v _=>e.kids.len-(intOf v).toNat)
  case atStart=>exact⟨.nil,e.kids,.nil,o0,.slice none 0 0,rfl,by show _=Value.int .i64 ((0:Nat):Int);rfl,rfl,HF.out.symm,E1,Z1,O1,A1,LH,B1⟩
  case round =>
   clear E1 Z1 O1 A1 B1 HF LH;obtain⟨done,r,acc,o,va,hk,rfl,hal,HA,E1,Z1,O1,A1,L1,B1⟩:=hrel;have hlk:e.kids.len=done.len+r.len:=by rw[hk.out,Fs.len_app]
   obtain⟨p0,p1,p2,p3,p4,pf⟩:=box5 E1.1;cases r using Fs.on with
   | nil =>
    have hl0:¬(done.len:Int)<(e.kids.len:Int):=by simp only[Fs.len] at hlk;omega
    have HDN:Hid (acc=F):=by
     show _=_;rw[<-HA.out];exact(app_nil' acc).symm
    obtain⟨ad,cd,rfl,SD⟩:=A1.sl;have HU:Hid (∃wz,wz=((((wr.setCell ⟨n0+1,0,none⟩ (.int .i64 e.k)).setCell ⟨n0+1,1,none⟩ (.int .i64 e.n)).setCell ⟨n0+1,2,none⟩ (stv onm)).setCell ⟨n0+1,3,none⟩ (.slice ad acc.len cd))/\wz.cell? ⟨n0+1,0,none⟩=some (.int .i64 e.k)/\wz.cell? ⟨n0+1,1,none⟩=some (.int .i64 e.n)/\wz.cell? ⟨n0+1,2,none⟩=some (stv onm)/\wz.cell? ⟨n0+1,3,none⟩=some (.slice ad acc.len cd)/\SlN wz (Nw n0) acc ad/\Below n0 w wz):=by
     obtain⟨u0,u1,u2,u3,-⟩:=box4 (set4k (b0:=.int .i64 e.k) (b1:=.int .i64 e.n) (b2:=stv onm) (b3:=.slice ad acc.len cd) Z1.1);refine⟨_,rfl,u0,u1,u2,u3,?_,(((B1.setCell (p:=⟨n0+1,0,none⟩) (Nat.le_succ _) _).setCell (p:=⟨n0+1,1,none⟩) (Nat.le_succ _) _).setCell (p:=⟨n0+1,2,none⟩) (Nat.le_succ _) _).setCell (p:=⟨n0+1,3,none⟩) (Nat.le_succ _) _⟩;exact SD.mono (fun i hp hl=>heap_set4 wr (n0+1) i _ _ _ _ (fun ee=>by
      have h2:=Z1.2;rw[<-ee] at h2;rcases hp.1 with h|h<;>omega)) (by simp) (fun i hp _=>by
       rcases hp.2 with h|h
       ·exact h.1.elim
       ·exact h)
    obtain⟨z0,z1,z2,z3,zf⟩:=box4 Z1.1;obtain⟨t0,t1,t2,t3,tf⟩:=box4 O1.1;clear E1 Z1 O1 A1 B1 SD HA hk hlk;go_wp2;obtain⟨wz,hwz,v0,v1,v2,v3,SZ,BZ⟩:=HU.out;rw[<-hwz];refine bodyPost_ret (v:=exN Y ad cd) ?_ rfl ⟨ad,cd,rfl,by rw[HYN.out,<-HDN.out,<-HB.out];exact SZ,by rw[<-HB.out];exact BZ⟩;rw[HYN.out,<-HDN.out];simp[results,Tryz.results45,go_sem,v0,v1,v2,v3,exN]
   | cons kk kn km ka kks kr =>
    have hl0:(done.len:Int)<(e.kids.len:Int):=by simp only[Fs.len] at hlk;omega
    have hl1:done.len<e.kids.len:=by omega
    have hsz:e.kids.size=done.size+(kks.size+kr.size+1):=by rw[hk.out,Fs.size_app];rfl
    have hsk:(Fs.cons kk kn km ka kks kr).short:=Fs.app_short (by rw[<-hk.out];exact hsh);have hk2:Hid (e.kids=(done.snoc ⟨kk,kn,km,ka,kks⟩).app kr):=by show e.kids=_;rw[hk.out];unfold Fs.snoc;rw[Fs.app_assoc];rfl
    have hl2:(done.len:Int)+1=((done.snoc ⟨kk,kn,km,ka,kks⟩).len:Nat):=by rw[Fs.len_snoc];rfl
    have HA2:Hid (acc.app (Fs.ex (ofE ⟨kk,kn,km,ka,kks⟩ (innB e.k e.nm done.len bd)) (ofF kr e.k e.nm (done.len+1) bd))=F):=by
     have h:=HA.out;rw[of_cons] at h;exact h
    have hbl:(innB e.k e.nm done.len bd).length<=bd.length+1:=by unfold innB;split<;>simp
    have HS1:Hid (∀ W,Below n0 w W->SlA W (done.app (.cons kk kn km ka kks kr)) ao):=fun W b=>by rw[<-hk.out];exact SlT.below S (by rw[<-HB.out];exact b)
    by_cases hA:e.k=21/\done.len=1
    focus
     have hk21:(e.k==21)=true:=by simpa using hA.1
     have hd1:((done.len:Int)==1)=true:=by simp;omega
     have HIN:Hid (innB e.k e.nm done.len bd=bd++[e.nm]):=by show _=_;unfold innB;rw[if_pos hA]
     have hnews:=Nms.news (HNW.out wr B1);have hone:=ones_str bd;have hE1:=E1.lt;clear hA hk hlk;go_wp2_with (first|(at_builtin;refine wpList_append_any rfl (.tmp 57) (.tmp 58) 40 rfl 9 is (.string ⟨#[]⟩) 1 16 Tryz.underlying40 his hzs0 hzs1 hzs2 rfl (by decide) o 7 _ 0 [] rfl (Row.nil _ _ _ _ _) ab bd.length cb (bd.map fun x=>stv x) rfl ?c1 hnews hone ?c3 ?c4 ?_)|go_in)
     case c1=>simp
     case c3=>unfold maxLen;omega
     case c4=>omega
     intro a2 c2 w2 o2 R2 s2;try simp only[Nat.zero_add,List.nil_append] at R2
     try simp only[Nat.zero_add,List.nil_append]
     have E2:=E1.step s2 (by decide);have Z2:=Z1.step s2 (by decide);have O2:=O1.step s2 (by decide);have A2:=A1.step s2 (by decide) (by decide);have L2:Hid (∀ k,k<n0->o2 k=0):=fun k hk=>(s2.lab k (by omega)).trans (L1.out k hk);have B2:=below_stepB B1 s2 (fun k hk=>by rw[L1.out k hk];decide) (by rw[HB.out];exact Nat.le_refl _);clear hnews hone s2 E1 Z1 O1 A1 L1 B1 p0 p1 p2 p3 p4 pf;obtain⟨p0,p1,p2,p3,p4,pf⟩:=box5 E2.1;have s3:=boxStep (fun _=>False) w2 o2 (.cells #[stv e.nm] 9);have R3:=R2.step s3 id;have E3:=E2.step s3 id;have Z3:=Z2.step s3 id;have O3:=O2.step s3 id;have A3:=A2.step s3 id id;have hE2:=E2.lt;have L3:Hid (∀ k,k<n0->newLab w2 o2 0 k=0):=fun k hk=>by rw[newLab_old (by omega)];exact L2.out k hk
     have B3:=below_stepB B2 s3 (fun _ _=>id) (by rw[HB.out];exact Nat.le_refl _);have hone:∀ u ∈ [stv e.nm],u.oneCell'=true:=by intro u hu;simp at hu;subst hu;rfl
     have q1:bd.length+1<=maxLen:=by unfold maxLen;omega
     have q2:(bd.length+1)*16<=140737488355328:=by omega
     clear s3 E2 Z2 O2 A2 L2 B2 R2;go_wp2_with (first|(at_builtin;refine wpList_append_lab rfl (.tmp 60) (.tmp 63) 40 rfl 9 is (.string ⟨#[]⟩) 1 16 Tryz.underlying40 his hzs0 hzs1 hzs2 rfl (by decide) (newLab w2 o2 0) 7 _ bd.length (bd.map fun x=>stv x) rfl R3 ⟨w2.heap.size,0,none⟩ 1 1 [stv e.nm] rfl rfl (new_one w2 _ _) hone (by decide) q1 q2 ?_)|go_in);intro g9 c9 w9 o9 r9 s9;have hml:(bd++[e.nm]).map (fun x=>stv x)=(bd.map fun x=>stv x)++[stv e.nm]:=by simp
     have N4:Nms w9 (.slice (some ⟨g9,0,none⟩) (bd.length+1) c9) (innB e.k e.nm done.len bd):=by rw[HIN.out];exact Nms.ofRowL (by rw[hml];exact r9) (by simp) (by omega)
     have E4:=E3.step s9 (by decide);have Z4:=Z3.step s9 (by decide);have O4:=O3.step s9 (by decide);have A4:=A3.step s9 (by decide) (by decide);have L4:Hid (∀ k,k<n0->o9 k=0):=fun k hk=>(s9.lab k (by simp;omega)).trans (L3.out k hk);have B4:=below_stepB B3 s9 (fun k hk=>by rw[L3.out k hk];decide) (by rw[HB.out];exact Nat.le_refl _);clear hml r9 s9 R3 E3 Z3 O3 A3 L3 B3 hone p0 p1 p2 p3 p4 pf HA;go_upto_region 21 with fail;generalize o9=o4 at *;generalize w9=w4 at *
    rotate_left
    focus
     have hgd:(e.k==21)=false\/((e.k==21)=true/\((done.len:Int)==1)=false):=by
      rcases Classical.em (e.k=21) with h21|h21
      ·exact .inr ⟨by simpa using h21,by have h3:done.len≠1:=fun h=>hA ⟨h21,h⟩;simp;omega⟩
      ·exact .inl (by simpa using h21)
     have HIN:Hid (innB e.k e.nm done.len bd=bd):=by show _=_;unfold innB;rw[if_neg hA]
     have N4:Nms wr (.slice ab bd.length cb) (innB e.k e.nm done.len bd):=by rw[HIN.out];exact HNW.out wr B1
     have E4:=E1;have Z4:=Z1;have O4:=O1;have A4:=A1;have L4:=L1;have B4:=B1;clear E1 Z1 O1 A1 L1 B1 hA hk hlk HA;rcases hgd with hk21|⟨hk21,hd1⟩
     all_goals (
      go_upto_region 21 with fail;clear p0 p1 p2 p3 p4 pf;generalize o=o4 at *;generalize wr=w4 at *)
    all_goals (
     obtain⟨p0,p1,p2,p3,p4,pf⟩:=box5 E4.1;obtain⟨b,off,ak,ck,hao,lb1,-,x0,x1,x2,x3,x4,SK⟩:=Sl.kidQ (HS1.out w4 B4);have hc:=IH ⟨kk,kn,km,ka,kks⟩ ak ck (innB e.k e.nm done.len bd) _ w4 (by show kks.size<N;omega) hsk.2.1 hsk.2.2.1 (by show _+kks.size<=1000000;omega) N4 SK;generalize ofE ⟨kk,kn,km,ka,kks⟩ (innB e.k e.nm done.len bd)=y at *;generalize (innB e.k e.nm done.len bd).length=nb at *;rw[exV_out] at hc;simp only at hc;subst hao;have hn0:n0<=w4.heap.size:=by have:=E4.lt;omega
     clear hsz hsk SK N4 hbl;go_wp2_with fail;refine hc.mono ?_;rintro x w6 ⟨ay,cy,rfl,S6,b6⟩;have s6:Step (fun _=>False) w4 o4 w6 (newLab w4 o4 0):=Below.toStepC b6;have T6:SlN w6 (PD (fun _=>False) n0 (newLab w4 o4 0)) y.kids ay:=S6.mono (fun _ _ _=>rfl) (Nat.le_refl _) (fun i hp hl=>⟨newLab_new hp,.inr (Nat.le_trans hn0 hp)⟩);have L6:Hid (∀ k,k<n0->newLab w4 o4 0 k=0):=fun k hk=>by rw[newLab_old (by omega)];exact L4.out k hk
     have E6:=E4.step s6 id;have Z6:=Z4.step s6 id;have O6:=O4.step s6 id;have A6:=A4.step s6 id id;have B6:=below_stepB B4 s6 (fun _ _=>id) (by rw[HB.out];exact Nat.le_refl _);generalize newLab w4 o4 0=o6 at *;clear hc S6 b6 s6 E4 Z4 O4 A4 B4 L4 x0 x1 x2 x3 x4 p0 p1 p2 p3 p4 pf;have s7:=boxStep (fun _=>False) w6 o6 (.cells #[.int .i64 y.k,.int .i64 y.n,stv y.nm,.slice ay y.kids.len cy] 34);have K7:=boxBlk w6 o6 #[.int .i64 y.k,.int .i64 y.n,stv y.nm,.slice ay y.kids.len cy] 34;have T7:=T6.labD s7 id;have hs6:n0<=w6.heap.size:=by have:=E6.lt;omega
     have L7:Hid (∀ k,k<n0->newLab w6 o6 0 k=0):=fun k hk=>by rw[newLab_old (by omega)];exact L6.out k hk
     have E7:=E6.step s7 id;have Z7:=Z6.step s7 id;have O7:=O6.step s7 id;have A7:=A6.step s7 id id;have B7:=below_stepB B6 s7 (fun _ _=>id) (by rw[HB.out];exact Nat.le_refl _);rw[exN_out];go_upto_region 22 with fail;generalize newLab w6 o6 0=o7 at *;generalize w6.alloc (.cells #[.int .i64 y.k,.int .i64 y.n,stv y.nm,.slice ay y.kids.len cy] 34)=w7 at *;generalize w6.heap.size=bk at *;clear s7 T6 E6 Z6 O6 A6 B6 L6;obtain⟨p0,p1,p2,p3,pf⟩:=box4 O7.1;obtain⟨q0,q1,q2,q3,qf⟩:=box4 K7.1;have s8:=boxStep (fun _=>False) w7 o7 (.cells #[.int .i64 y.k,.int .i64 y.n,stv y.nm,.slice ay y.kids.len cy] 34);have T8:=T7.labD s8 id;have hE7:=E7.lt;have L8:Hid (∀ k,k<n0->newLab w7 o7 0 k=0):=fun k hk=>by rw[newLab_old (by omega)];exact L7.out k hk
     have E8:=E7.step s8 id;have Z8:=Z7.step s8 id;have O8:=O7.step s8 id;have A8:=A7.step s8 id id;have B8:=below_stepB B7 s8 (fun _ _=>id) (by rw[HB.out];exact Nat.le_refl _);obtain⟨xs,R8,F8,-⟩:=A8;obtain⟨a8,c8,rfl⟩:=R8.form;have b1:acc.len+1<=maxLen:=by have:=hal.out;unfold maxLen;omega
     have b2:(acc.len+1)*56<=140737488355328:=by have:=hal.out;omega
     have hone:∀ u ∈ [Value.int .i64 y.k,.int .i64 y.n,stv y.nm,.slice ay y.kids.len cy],u.oneCell'=true:=by intro u hu;simp at hu;rcases hu with rfl|rfl|rfl|rfl<;>rfl
     have hw8:n0<=(w7.alloc (.cells #[.int .i64 y.k,.int .i64 y.n,stv y.nm,.slice ay y.kids.len cy] 34)).heap.size:=by simp;omega
     have hne2:∀ k,k<n0->newLab w7 o7 0 k≠2:=fun k hk=>by rw[L8.out k hk];decide
     clear E7 Z7 O7 A7 B7 L7 T7 s8;go_wp2_with (first|(at_builtin;refine wpList_append_lab rfl (.tmp 73) (.tmp 75) 32 rfl 34 ii _ 4 56 Tryz.underlying32 hii hzi0 hzi1 hzi2 rfl (by decide) (newLab w7 o7 0) 2 _ acc.len xs rfl R8 ⟨w7.heap.size,0,none⟩ 1 1 [Value.int .i64 y.k,.int .i64 y.n,stv y.nm,.slice ay y.kids.len cy] rfl rfl (new_cells_at w7 _ _) hone (by decide) b1 b2 ?_)|go_in);intro g9 c9 w9 o9 r9 s9;have A9:AccD w9 o9 (fun _=>False) n0 (acc.snoc y) (.slice (some ⟨g9,0,none⟩) (acc.len+1) c9):=AccD.push F8 T8 s9 hne2 hw8 r9;have E9:=E8.step s9 (by decide);have Z9:=Z8.step s9 (by decide);have O9:=O8.step s9 (by decide);have L9:Hid (∀ k,k<n0->o9 k=0):=fun k hk=>(s9.lab k (by omega)).trans (L8.out k hk);have B9:=below_stepB B8 s9 (fun k hk=>by rw[L8.out k hk];decide) (by rw[HB.out];exact Nat.le_refl _);have s10:Step (fun k=>k=1) w9 o9 (w9.setCell ⟨n0+1+1,3,none⟩ (.slice (some ⟨g9,0,none⟩) (acc.len+1) c9)) o9:=setStep _ w9 o9 ⟨n0+1+1,3,none⟩ _ O9.2;have A10:=A9.step s10 (by decide) (by decide);have E10:=E9.step s10 (by decide);have Z10:=Z9.step s10 (by decide);have O10:=O9.set 3 (.slice (some ⟨g9,0,none⟩) (acc.len+1) c9);have B10:=below_stepB B9 s10 (fun k hk=>by rw[L9.out k hk];decide) (by rw[HB.out];exact Nat.le_refl _);obtain⟨t0,t1,t2,t3,tf⟩:=box4 O9.1;have HA3:Hid ((acc.snoc y).app (ofF kr e.k e.nm (done.snoc ⟨kk,kn,km,ka,kks⟩).len bd)=F):=by
      show _=_;rw[Fs.len_snoc,<-HA2.out];unfold Fs.snoc;rw[Fs.app_assoc];rfl
     have hal2:Hid ((acc.snoc y).len=(done.snoc ⟨kk,kn,km,ka,kks⟩).len):=by show _=_;rw[Fs.len_snoc,Fs.len_snoc,hal.out]
     clear A9 E9 Z9 O9 B9 s10 E8 Z8 O8 B8 L8 T8 R8 F8 r9 s9 p0 p1 p2 p3 pf q0 q1 q2 q3 qf K7 HA2 hne2;go_wp2;go_roundw
     case rel=>(try ((repeat apply Exists.intro);refine⟨?_,rfl⟩));exact⟨_,kr,_,o9,_,hk2,by rw[<-hl2],hal2,HA3,E10,Z10,O10,A10,L9,B10⟩
     case measure=>simp[intOf];omega))
theorem node_ok:∀ N,NodeOk N -- 45
 | 0=>fun e ao cap bd bv w h=>absurd h (Nat.not_lt_zero _)
 | N+1=>node_step (node_ok N)
abbrev Er:=Option (Nat × Int)
def stS:Sum (Nat × Int) Int->Er
 | .inl x=>some x
 | .inr _=>none
def resR (st:Er)(k:Int):Sum (Nat × Int) Int :=
 match st with
 | some x=>.inl x
 | none=>.inr k
def musR (st:Er)(m:Int)(e:Ex)(b:List (List UInt8)):Er :=
 match st with
 | some x=>some x
 | none=>stS (mustT m e.a (chkE e b))
def musL:Fs->Er->List (List UInt8)->Er
 | ⟨none⟩,st,_=>st
 | ⟨some ⟨k,n,nm,a,ks,r⟩⟩,st,b=>musL r (musR st 3 ⟨k,n,nm,a,ks⟩ b) b
theorem musL_some:∀ (f:Fs) (x:Nat × Int) (b:List (List UInt8)),musL f (some x) b=some x
 | ⟨none⟩,x,b=>rfl
 | ⟨some ⟨k,n,nm,a,ks,r⟩⟩,x,b=>musL_some r x b
theorem musL_snoc:∀ (f:Fs) (y:Ex) (st:Er) (b:List (List UInt8)),musL (f.snoc y) st b=musR (musL f st b) 3 y b
 | ⟨none⟩,y,st,b=>rfl
 | ⟨some ⟨k,n,nm,a,ks,r⟩⟩,y,st,b=>musL_snoc r y _ b
theorem must_cases (m a:Int)(r:Sum (Nat × Int) Int)(hm:m≠0):(∃x,mustT m a r=.inl x)\/(mustT m a r=.inr m/\r=.inr m):=by
 cases r with
 | inl x=>exact .inl ⟨x,rfl⟩
 | inr is =>
  simp only[mustT];by_cases h:is=m
  ·subst h;exact .inr ⟨by rw[if_neg (fun h2=>h2.2 rfl)],rfl⟩
  ·exact .inl ⟨_,by rw[if_pos ⟨hm,h⟩]⟩
theorem chk_ex' (x:Ex)(r:Fs)(k n:Int)(nm:List UInt8)(len:Nat)(b:List (List UInt8))(i:Nat)(done:List Int)(hk:k≠21) :
  chkFs (Fs.ex x r) k n nm len b i done=(match mustT (ruleT k n len done) x.a (chkE x b) with
   | .inl e=>.inl e
   | .inr is=>chkFs r k n nm len b (i+1) (done++[is])):=by
 have h:=chk_ex x r k n nm len b i done;rw[if_neg (fun h2=>hk h2.1)] at h;exact h
theorem rep_app (n:Nat)(d:List Int):d++[3]++List.replicate n 3=d++List.replicate (n+1) 3:=by
 rw[List.append_assoc];rfl
theorem chk_vert (k n:Int)(nm:List UInt8)(len:Nat)(b:List (List UInt8))(hk:k≠21):∀ (f:Fs) (i:Nat) (done:List Int),(∀ d:List Int,done.length<=d.length->d.length<done.length+f.len->ruleT k n len d=3) ->
  chkFs f k n nm len b i done=(match musL f none b with|some x=>.inl x|none=>.inr (done++List.replicate f.len 3))
 | ⟨none⟩,i,done,h=>by simp[chkFs,musL,Fs.len]
 | ⟨some ⟨kk,kn,km,ka,kks,kr⟩⟩,i,done,h=>by
  have e1:=chk_ex' ⟨kk,kn,km,ka,kks⟩ kr k n nm len b i done hk;have e2:chkFs ⟨some ⟨kk,kn,km,ka,kks,kr⟩⟩ k n nm len b i done=_:=e1;rw[e2,h done (Nat.le_refl _) (by simp[Fs.len])];simp only[musL,musR];rcases must_cases 3 ka (chkE ⟨kk,kn,km,ka,kks⟩ b) (by decide) with ⟨x,hx⟩|⟨hx,-⟩
  ·rw[hx];simp only[stS,musL_some]
  ·rw[hx];simp only[stS];rw[chk_vert k n nm len b hk kr (i+1) (done++[3]) (fun d h1 h2=>h d (by simp at h1;omega) (by simp[Fs.len] at h1 h2 ⊢;omega))];cases musL kr none b with
   | some x=>rfl
   | none=>simp only[Fs.len];rw[rep_app]
theorem chk_one {k n:Int}{nm:List UInt8}{a:Int}{x:Ex}{b:List (List UInt8)}(m g:Int)(h4:k≠4)(h21:k≠21)(h0:ruleT k n 1 []=m)(hm:m≠0)(h1:ruleT k n 1 [m]=g) :
  chkE ⟨k,n,nm,a,Fs.ex x .nil⟩ b=resR (musR none m x b) g:=by
 rw[chkE_kids _ _ h4];show endT k n 1 (chkFs (Fs.ex x .nil) k n nm 1 b 0 [])=_;rw[chk_ex' _ _ _ _ _ _ _ _ _ h21,h0];unfold musR;simp only;rcases must_cases m x.a (chkE x b) hm with ⟨y,hy⟩|⟨hy,-⟩
 ·rw[hy];rfl
 ·rw[hy];show Sum.inr (ruleT k n 1 [m])=_;rw[h1];rfl
theorem chk_bin {k n:Int}{nm:List UInt8}{a:Int}{x y:Ex}{b:List (List UInt8)}(m g:Int)(h4:k≠4)(h21:k≠21)(h0:ruleT k n 2 []=m)(h1:ruleT k n 2 [m]=m)(hm:m≠0)(h2:ruleT k n 2 [m,m]=g) :
  chkE ⟨k,n,nm,a,Fs.ex x (Fs.ex y .nil)⟩ b=resR (musR (musR none m x b) m y b) g:=by
 rw[chkE_kids _ _ h4];show endT k n 2 (chkFs (Fs.ex x (Fs.ex y .nil)) k n nm 2 b 0 [])=_;rw[chk_ex' _ _ _ _ _ _ _ _ _ h21,h0];rcases must_cases m x.a (chkE x b) hm with ⟨z,hz⟩|⟨hz,-⟩
 ·unfold musR;simp only;rw[hz];rfl
 ·have e1:musR none m x b=none:=by unfold musR;simp only;rw[hz];rfl
  rw[hz,e1];simp only[List.nil_append];rw[chk_ex' _ _ _ _ _ _ _ _ _ h21,h1];unfold musR;simp only;rcases must_cases m y.a (chkE y b) hm with ⟨z,hz⟩|⟨hz,-⟩
  ·rw[hz];rfl
  ·rw[hz];show Sum.inr (ruleT k n 2 [m,m])=_;rw[h2];rfl
theorem chk_alike {k n:Int}{nm:List UInt8}{a:Int}{x y:Ex}{b:List (List UInt8)}(hk:k=13\/k=14) :
  chkE ⟨k,n,nm,a,Fs.ex x (Fs.ex y .nil)⟩ b=(match chkE x b with | .inl e=>.inl e | .inr k0=>resR (musR none k0 y b) 2):=by
 rw[chkE_kids _ _ (by show k≠4;omega)];show endT k n 2 (chkFs (Fs.ex x (Fs.ex y .nil)) k n nm 2 b 0 [])=_;have hr:∀ d,ruleT k n 2 d=(match d with | []=>0 | [a]=>a|_=>2):=fun d=>by unfold ruleT;rw[if_pos hk];first|done|(rcases d with _|⟨x,_|⟨y,r⟩⟩<;>rfl)
 rw[chk_ex' _ _ _ _ _ _ _ _ _ (by omega),hr];simp only;cases hx:chkE x b with
 | inl e=>rfl
 | inr k0 =>
  simp only[mustT];rw[if_neg (fun h=>h.1 rfl)];simp only[List.nil_append];rw[chk_ex' _ _ _ _ _ _ _ _ _ (by omega),hr];unfold musR;simp only;cases mustT k0 y.a (chkE y b) with
  | inl e=>rfl
  | inr k1 =>
   show Sum.inr (ruleT k n 2 [k0,k1])=_;rw[hr];rfl
theorem chk_choice {n:Int}{nm:List UInt8}{a:Int}{x y z:Ex}{b:List (List UInt8)} :
  chkE ⟨19,n,nm,a,Fs.ex x (Fs.ex y (Fs.ex z .nil))⟩ b=(match musR none 2 x b with
   | some e=>.inl e
   | none=>match chkE y b with | .inl e=>.inl e | .inr k1=>resR (musR none k1 z b) k1):=by
 rw[chkE_kids _ _ (by show (19:Int)≠4;omega)];show endT 19 n 3 (chkFs (Fs.ex x (Fs.ex y (Fs.ex z .nil))) 19 n nm 3 b 0 [])=_;have hr:∀ d,ruleT 19 n 3 d=(match d with | []=>2 | [_]=>0|_::b::_=>b):=fun d=>by unfold ruleT;rw[if_neg (by omega),if_pos rfl];first|done|(rcases d with _|⟨x,_|⟨y,r⟩⟩<;>rfl)
 rw[chk_ex' _ _ _ _ _ _ _ _ _ (by omega),hr];simp only;rcases must_cases 2 x.a (chkE x b) (by decide) with ⟨u,hu⟩|⟨hu,-⟩
 ·unfold musR;simp only;rw[hu];rfl
 ·have e1:musR none 2 x b=none:=by unfold musR;simp only;rw[hu];rfl
  rw[hu,e1];simp only[List.nil_append];rw[chk_ex' _ _ _ _ _ _ _ _ _ (by omega),hr];simp only;cases hy:chkE y b with
  | inl e=>rfl
  | inr k1 =>
   simp only[mustT];rw[if_neg (fun h=>h.1 rfl)];simp only[List.cons_append,List.nil_append];rw[chk_ex' _ _ _ _ _ _ _ _ _ (by omega),hr];unfold musR;simp only;cases mustT k1 z.a (chkE z b) with
   | inl e=>rfl
   | inr k2 =>
    show Sum.inr (ruleT 19 n 3 [2,k1,k2])=_;rw[hr];rfl
def giveT (n:Int):Int:=if n=1\/n=2 then 2 else if n=10 then 3 else 1
def bodyT (n:Int):Int:=if n<=3 then 2 else 1
def wholeT (n:Int):Int:=if n<=2 then 2 else 1
theorem chk_call {n:Int}{nm:List UInt8}{a:Int}{f:Fs}{b:List (List UInt8)}(hn:1<=n/\n<=10)(hl:(fixL 20 n).length=f.len+1) :
  chkE ⟨20,n,nm,a,f⟩ b=resR (musL f none b) (giveT n):=by
 rw[chkE_kids _ _ (by show (20:Int)≠4;omega)];show endT 20 n f.len (chkFs f 20 n nm f.len b 0 [])=_;have hn2:n=1\/n=2\/n=3\/n=4\/n=5\/n=6\/n=7\/n=8\/n=9\/n=10:=by omega
 have hv:∀ d:List Int,d.length<f.len->ruleT 20 n f.len d=3:=fun d hd=>by
  have hr:ruleT 20 n f.len d=(fixL 20 n)[d.length]?.getD 0:=by
   unfold ruleT;rw[if_neg (by omega),if_neg (by omega),if_neg (by omega)]
  rw[hr];generalize d.length=j at hd;generalize f.len=m at hl hd;rcases hn2 with rfl|rfl|rfl|rfl|rfl|rfl|rfl|rfl|rfl|rfl<;>(simp[fixL] at hl;subst hl)
  all_goals (
   have hj:j=0\/j=1:=by omega
   rcases hj with rfl|rfl<;>first|rfl|omega)
 rw[chk_vert 20 n nm f.len b (by omega) f 0 [] (fun d _ h2=>hv d (by simpa using h2))];cases musL f none b with
 | some x=>rfl
 | none =>
  show Sum.inr (ruleT 20 n f.len ([]++List.replicate f.len 3))=_;have hr:ruleT 20 n f.len ([]++List.replicate f.len 3)=(fixL 20 n)[f.len]?.getD 0:=by
   unfold ruleT;rw[if_neg (by omega),if_neg (by omega),if_neg (by omega)];simp
  rw[hr];generalize f.len=m at hl;rcases hn2 with rfl|rfl|rfl|rfl|rfl|rfl|rfl|rfl|rfl|rfl<;>(simp[fixL] at hl;subst hl;rfl)
theorem chk_set {k n:Int}{nm:List UInt8}{a:Int}{f:Fs}{b:List (List UInt8)}(hk:(k=22\/k=23)/\f.len=0\/k=24/\f.len=1\/k=25) :
  chkE ⟨k,n,nm,a,f⟩ b=resR (musL f none b) 4:=by
 rw[chkE_kids _ _ (by show k≠4;omega)];show endT k n f.len (chkFs f k n nm f.len b 0 [])=_;have hv:∀ d:List Int,d.length<f.len->ruleT k n f.len d=3:=fun d hd=>by
  rcases hk with ⟨rfl|rfl,h0⟩|⟨rfl,h0⟩|rfl
  ·omega
  ·omega
  ·have:d.length=0:=by omega
   obtain rfl:=List.length_eq_zero_iff.1 this;rfl
  ·unfold ruleT;rw[if_neg (by omega),if_neg (by omega),if_pos rfl,if_pos hd]
 rw[chk_vert k n nm f.len b (by omega) f 0 [] (fun d _ h2=>hv d (by simpa using h2))];cases musL f none b with
 | some x=>rfl
 | none =>
  show Sum.inr (ruleT k n f.len ([]++List.replicate f.len 3))=Sum.inr 4
  congr 1
  rcases hk with ⟨rfl|rfl,h0⟩|⟨rfl,h0⟩|rfl
  ·rw[h0];rfl
  ·rw[h0];rfl
  ·rw[h0];rfl
  ·unfold ruleT;rw[if_neg (by omega),if_neg (by omega),if_pos rfl,if_neg (by simp)]
theorem chk_quant {n:Int}{nm:List UInt8}{a:Int}{s x:Ex}{b:List (List UInt8)}(hn:1<=n/\n<=6)(hs:chkE s b=resR (musL s.kids none b) 4) :
  chkE ⟨21,n,nm,a,Fs.ex s (Fs.ex x .nil)⟩ b=resR (musR (musL s.kids none b) (bodyT n) x (b++[nm])) (wholeT n):=by
 rw[chkE_kids _ _ (by show (21:Int)≠4;omega)];show endT 21 n 2 (chkFs (Fs.ex s (Fs.ex x .nil)) 21 n nm 2 b 0 [])=_;have hn2:n=1\/n=2\/n=3\/n=4\/n=5\/n=6:=by omega
 have r0:ruleT 21 n 2 []=4:=by rcases hn2 with rfl|rfl|rfl|rfl|rfl|rfl<;>rfl
 have r1:ruleT 21 n 2 [4]=bodyT n:=by rcases hn2 with rfl|rfl|rfl|rfl|rfl|rfl<;>rfl
 have r2:∀ k,ruleT 21 n 2 [4,k]=wholeT n:=fun k=>by rcases hn2 with rfl|rfl|rfl|rfl|rfl|rfl<;>rfl
 have hb0:bodyT n≠0:=by unfold bodyT;split<;>omega
 have e1:=chk_ex s (Fs.ex x .nil) 21 n nm 2 b 0 [];have e2:=chk_ex x .nil 21 n nm 2 b 1 [4];rw[if_neg (by omega),hs,r0] at e1;rw[if_pos (by decide),r1] at e2;show endT 21 n 2 (chkFs (.cons s.k s.n s.nm s.a s.kids (.cons x.k x.n x.nm x.a x.kids .nil)) 21 n nm 2 b 0 [])=_;rw[show chkFs (.cons s.k s.n s.nm s.a s.kids (.cons x.k x.n x.nm x.a x.kids .nil)) 21 n nm 2 b 0 []=_ from e1];cases musL s.kids none b with
 | some z=>rfl
 | none =>
  simp only[resR,mustT];rw[if_neg (fun h=>h.2 rfl)];simp only[List.nil_append];rw[show chkFs (Fs.ex x .nil) 21 n nm 2 b 1 [4]=_ from e2];unfold musR;simp only;rcases must_cases (bodyT n) x.a (chkE x (b++[nm])) hb0 with ⟨z,hz⟩|⟨hz,-⟩
  ·rw[hz];rfl
  ·rw[hz];show Sum.inr (ruleT 21 n 2 [4,bodyT n])=_;rw[r2];rfl
theorem chkFs_len:∀ (f:Fs) (k n:Int) (nm:List UInt8) (len:Nat) (b:List (List UInt8)) (i:Nat) (done d:List Int),chkFs f k n nm len b i done=.inr d->d.length=done.length+f.len
 | ⟨none⟩,k,n,nm,len,b,i,done,d,h=>by
  simp only[chkFs] at h;injection h with h
  subst h;rfl
 | ⟨some ⟨kk,kn,km,ka,kks,kr⟩⟩,k,n,nm,len,b,i,done,d,h=>by
  have e1:chkFs ⟨some ⟨kk,kn,km,ka,kks,kr⟩⟩ k n nm len b i done=_:=chk_ex ⟨kk,kn,km,ka,kks⟩ kr k n nm len b i done;rw[e1] at h;cases hm:mustT (ruleT k n len done) ka (chkE ⟨kk,kn,km,ka,kks⟩ (if k=21/\i≠0 then b++[nm] else b)) with
  | inl z=>simp only at h;rw[hm] at h;cases h
  | inr is =>
   simp only at h;rw[hm] at h
   have:=chkFs_len kr k n nm len b (i+1) (done++[is]) d h
   simp only[List.length_append,List.length_cons,List.length_nil,Fs.len] at this ⊢;omega
def Fs.stk:Fs->Bool->Prop
 | ⟨none⟩,_=>True
 | ⟨some ⟨k,_,_,_,ks,r⟩⟩,first=>isSetK k=first/\ks.stk (k==21)/\r.stk false
theorem hFs_stk:∀ (f:Fs) (b:Bool) (c c':Nat),hFs f b c=some c'->f.stk b
 | ⟨none⟩,b,c,c',h=>trivial
 | ⟨some ⟨k,n,nm,a,ks,r⟩⟩,b,c,c',h=>by
  unfold hFs at h;split at h
  ·cases h
  ·rename_i h0
   split at h
   ·cases h
   ·split at h
    ·split at h
     ·cases h
     ·rename_i c2 h2
      exact⟨by simpa using h0,hFs_stk ks _ _ _ h2,hFs_stk r _ _ _ h⟩
    ·cases h
theorem hE_stk {e:Ex}{c c':Nat}(h:hE e c=some c'):e.kids.stk (e.k==21):=by
 unfold hE at h;split at h
 ·cases h
 ·split at h
  ·exact hFs_stk _ _ _ _ h
  ·cases h
theorem chkE_pos:∀ (N:Nat) (e:Ex) (b:List (List UInt8)) (k:Int),e.kids.size<N->e.okA->chkE e b=.inr k->k≠0
 | 0,e,b,k,hN,_,_=>absurd hN (Nat.not_lt_zero _)
 | N+1,⟨k0,n,nm,a,f⟩,b,k,hN,hok,h=>by
  have ho:=okR_of hok.1;have hkid:=hok.1.2.2.1;simp only at hN ho hkid;by_cases h13:k0=13\/k0=14
  ·have hl:f.len=2:=by
    rcases h13 with rfl|rfl<;>(simp[kidB,opOf,opsL] at hkid;omega)
   obtain⟨x,y,rfl⟩:=len2 hl;rw[chk_alike h13] at h;cases hx:chkE x b with
   | inl z=>rw[hx] at h;cases h
   | inr k1 =>
    rw[hx] at h;simp only at h;cases hm:musR none k1 y b with
    | some z=>rw[hm] at h;cases h
    | none=>rw[hm] at h;injection h with h;omega
  by_cases h19:k0=19
  ·subst h19;have hl:f.len=3:=by simp[kidB] at hkid;omega
   obtain⟨x,y,z,rfl⟩:=len3 hl;rw[chk_choice] at h;cases hx:musR none 2 x b with
   | some u=>rw[hx] at h;cases h
   | none =>
    rw[hx] at h;simp only at h;cases hy:chkE y b with
    | inl u=>rw[hy] at h;cases h
    | inr k1 =>
     rw[hy] at h;simp only at h;cases hm:musR none k1 z b with
     | some u=>rw[hm] at h;cases h
     | none =>
      rw[hm] at h;injection h with h
      subst h;have hsz:y.kids.size<N:=by
       simp only[size_ex,Fs.size] at hN;omega
      exact chkE_pos N y b _ hsz (okA_ex (okA_ex hok.2).2).1 hy
  by_cases h25:k0=22\/k0=23\/k0=24\/k0=25
  ·have hl:(k0=22\/k0=23)/\f.len=0\/k0=24/\f.len=1\/k0=25:=by
    rcases h25 with rfl|rfl|rfl|rfl
    ·exact .inl ⟨.inl rfl,by simp[kidB] at hkid;first|done|exact hkid|omega⟩
    ·exact .inl ⟨.inr rfl,by simp[kidB] at hkid;first|done|exact hkid|omega⟩
    ·exact .inr (.inl ⟨rfl,by simp[kidB] at hkid;first|done|exact hkid|omega⟩)
    ·exact .inr (.inr rfl)
   rw[chk_set hl] at h;cases hm:musL f none b with
   | some z=>rw[hm] at h;cases h
   | none=>rw[hm] at h;injection h with h;omega
  have hpos:∀ (j:Nat) (v:Int),(fixL k0 n)[j]?=some v->v≠0:=by
   intro j v hv;have hmem:=List.mem_of_getElem? hv;have hi:∀ (P:Prop) [Decidable P] (a b:List Int),(∀ x,x ∈ a->x≠0)->(∀ x,x ∈ b->x≠0)->∀ x,x ∈ (if P then a else b)->x≠0:=by
    intro P _ a b ha hb;split
    ·exact ha
    ·exact hb
   revert v
   suffices hall:∀ x,x ∈ fixL k0 n->x≠0 from fun v _ hm=>hall v hm
   unfold fixL
   repeat' apply hi
   all_goals (intro x hx;simp at hx<;>omega)
  have hfl:(fixL k0 n).length=f.len+1:=by
   rcases ho with ho|⟨rfl,-,ho⟩|⟨rfl,-,ho⟩|⟨hr,ho⟩
   ·omega
   ·exact ho
   ·exact ho
   ·rw[<-ho];unfold fixL;simp only[hr.2.2.2.1,hr.2.2.2.2.1,if_false]
  have hlen:∀ (f:Fs) (i:Nat) (done d:List Int),chkFs f k0 n nm (f.len+i) b i done=.inr d->True:=fun _ _ _ _ _=>trivial;unfold chkE at h;split at h
  ·cases h
  ·cases hc:chkFs f k0 n nm f.len b 0 [] with
   | inl z=>simp only at h;rw[hc] at h;cases h
   | inr d =>
    simp only at h;rw[hc] at h;injection h with h
    have hd:=chkFs_len f k0 n nm f.len b 0 [] d hc;have hr:ruleT k0 n f.len d=(fixL k0 n)[d.length]?.getD 0:=by
     unfold ruleT;rw[if_neg (by omega),if_neg (by omega),if_neg (by omega)]
    have hx:(fixL k0 n)[d.length]?=some ((fixL k0 n)[d.length]'(by simp at hd;omega)):=List.getElem?_eq_getElem (by simp at hd;omega);rw[<-h,hr,hx];exact hpos _ _ hx
end Go.Proofs.YtkhgahljbpmfaaaGreatDoor

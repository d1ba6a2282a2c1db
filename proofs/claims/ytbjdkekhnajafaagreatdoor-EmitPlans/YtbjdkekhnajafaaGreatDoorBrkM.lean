import Derived.Test.YtbjdkekhnajafaaGreatDoorLexK
import Derived.Laws.BytesArg
set_option maxRecDepth 100000
set_option maxHeartbeats 8000000
namespace Go.Proofs.YtbjdkekhnajafaaGreatDoor
set_option linter.unusedVariables false
def WFT (ts:List Tk):Prop:=∃e,ts.getLast?=some e/\e.k=0/\e.t=[]
theorem WFT.tail {x:Tk}{r:List Tk}(h:WFT (x::r))(hx:x.t≠[]\/x.k≠0):WFT r:=by
 obtain⟨e,h1,h2,h3⟩:=h;cases r with
 | nil =>
  simp at h1;subst h1;rcases hx with hx|hx
  ·exact absurd h3 hx
  ·exact absurd h2 hx
 | cons y l=>exact⟨e,by rw[List.getLast?_cons_cons] at h1;exact h1,h2,h3⟩
theorem WFT.ne {ts:List Tk}(h:WFT ts):ts≠[]:=by
 obtain⟨e,h1,_⟩:=h;intro e2;subst e2;cases h1
def dz {α:Type}(b:Nat)(r:Rs α):Prop :=
 match r with
 | ⟨none⟩=>False
 | ⟨some (.inl (_,_))⟩=>True
 | ⟨some (.inr (_,t))⟩=>WFT t/\t.length<b
theorem dz.bind {α β:Type}{b c:Nat}{r:Rs α}{f:α->List Tk->Rs β}(h:dz b r)(hf:∀ x t,WFT t->t.length<b->dz c (f x t)):dz c (r.bind f):=by
 cases r using Rs.on with
 | out=>exact h.elim
 | bad e a=>exact trivial
 | ok x t=>exact hf x t h.1 h.2
theorem el {s:List UInt8}(hs:s≠[]){ts:List Tk}(h:WFT ts):dz ts.length (aW s ts):=by
 cases ts with
 | nil=>exact absurd rfl h.ne
 | cons x r =>
  simp only[aW];by_cases hx:x.t=s
  ·rw[if_pos hx];exact⟨h.tail (.inl (by rw[hx];exact hs)),by simp⟩
  ·rw[if_neg hx];exact trivial
theorem nG {k:Nat}(hk:k≠0){ts:List Tk}(h:WFT ts):dz ts.length (dX k ts):=by
 cases ts with
 | nil=>exact absurd rfl h.ne
 | cons x r =>
  simp only[dX];by_cases hx:x.k=k
  ·rw[if_pos hx];exact⟨h.tail (.inr (by rw[hx];exact hk)),by simp⟩
  ·rw[if_neg hx];exact trivial
theorem fL {s:List UInt8}(hs:s≠[])(o:Nat){ts:List Tk}(h:WFT ts):dz ts.length (aG s o ts):=by
 cases ts with
 | nil=>exact absurd rfl h.ne
 | cons x r =>
  simp only[aG];by_cases hx:x.t=s
  ·rw[if_pos hx];by_cases ho:o=64
   ·rw[if_pos ho];exact trivial
   ·rw[if_neg ho];exact⟨h.tail (.inl (by rw[hx];exact hs)),by simp⟩
  ·rw[if_neg hx];exact trivial
section
variable {rec:Rdr}{n:Nat}
theorem dH (H:∀ row o q ts,row<=8->WFT ts->10*ts.length+(9-row)<=n->dz ts.length (rec row o q ts)){o q:Nat}{ts:List Tk}(h:WFT ts)(hn:10*ts.length+8<=n):dz ts.length (rec 1 o q ts):=H 1 o q ts (by omega) h (by omega)
theorem mq (H:∀ row o q ts,row<=8->WFT ts->10*ts.length+(9-row)<=n->dz ts.length (rec row o q ts)):∀ (j:Nat) (o q:Nat) (acc:Fs) (ts:List Tk) (b:Nat),WFT ts->10*ts.length+8<=n->ts.length<b->dz b (fA rec j o q acc ts)
 | 0,o,q,acc,ts,b,h,hn,hb=>⟨h,hb⟩
 | j+1,o,q,acc,ts,b,h,hn,hb=>by
  unfold fA;refine(el (by simp) h).bind fun _ t1 h1 l1=>?_;refine(dH H h1 (by omega)).bind fun e t2 h2 l2=>?_;exact mq H j o q _ t2 b h2 (by omega) (by omega)
theorem jV (H:∀ row o q ts,row<=8->WFT ts->10*ts.length+(9-row)<=n->dz ts.length (rec row o q ts))(many o q:Nat){ts:List Tk}(h:WFT ts)(hn:10*ts.length<=n):dz ts.length (eH rec many o q ts):=by
 unfold eH;refine(fL (by simp) o h).bind fun _ t1 h1 l1=>?_;refine(dH H h1 (by omega)).bind fun e t2 h2 l2=>?_;refine(mq H (many-1) (o+1) q _ t2 (t2.length+1) h2 (by omega) (by omega)).bind fun ks t3 h3 l3=>?_;refine(el (by simp) h3).bind fun _ t4 h4 l4=>?_;exact⟨h4,by omega⟩
theorem pI (H:∀ row o q ts,row<=8->WFT ts->10*ts.length+(9-row)<=n->dz ts.length (rec row o q ts))(o q:Nat){ts:List Tk}(h:WFT ts)(hn:10*ts.length<=n):dz ts.length (dx rec o q ts):=by
 unfold dx;refine(fL (by simp) o h).bind fun _ t1 h1 l1=>?_;refine(dH H h1 (by omega)).bind fun e t2 h2 l2=>?_;refine(el (by simp) h2).bind fun _ t3 h3 l3=>?_;refine(dH H h3 (by omega)).bind fun e t4 h4 l4=>?_;refine(el (by simp) h4).bind fun _ t5 h5 l5=>?_;refine(dH H h5 (by omega)).bind fun e t6 h6 l6=>?_;exact⟨h6,by omega⟩
theorem nM (H:∀ row o q ts,row<=8->WFT ts->10*ts.length+(9-row)<=n->dz ts.length (rec row o q ts)):∀ (m:Nat) (o q:Nat) (acc:Fs) (ts:List Tk) (b:Nat),WFT ts->10*ts.length+8<=n->ts.length<m->ts.length<b->dz b (fE rec m o q acc ts)
 | 0,o,q,acc,ts,b,h,hn,hm,hb=>by omega
 | m+1,o,q,acc,ts,b,h,hn,hm,hb=>by
  cases ts with
  | nil=>exact absurd rfl h.ne
  | cons x r =>
   unfold fE;simp only[List.length_cons] at hn hm hb;by_cases hx:x.t=[44]
   ·simp only[hx,if_true];have hr:=h.tail (.inl (by rw[hx];simp));refine(dH H hr (by omega)).bind fun e t2 h2 l2=>?_;exact nM H m o q _ t2 b h2 (by omega) (by omega) (by omega)
   ·simp only[hx,if_false];exact⟨h,by simpa using hb⟩
theorem xH (H:∀ row o q ts,row<=8->WFT ts->10*ts.length+(9-row)<=n->dz ts.length (rec row o q ts))(m o q:Nat){ts:List Tk}(h:WFT ts)(hn:10*ts.length+8<=n)(hm:ts.length<m):dz (ts.length+1) (jR rec m o q ts):=by
 cases ts with
 | nil=>exact absurd rfl h.ne
 | cons x r =>
  unfold jR;by_cases hx:x.t=[125]
  ·simp only[hx,if_true];exact⟨h,by omega⟩
  ·simp only[hx,if_false];refine(dH H h hn).bind fun e t1 h1 l1=>?_;exact nM H m o q _ t1 _ h1 (by omega) (by omega) (by omega)
theorem yp (H:∀ row o q ts,row<=8->WFT ts->10*ts.length+(9-row)<=n->dz ts.length (rec row o q ts))(m o q:Nat){ts:List Tk}(h:WFT ts)(hn:10*ts.length<=n)(hm:ts.length<m):dz ts.length (eV rec m o q ts):=by
 cases ts with
 | nil=>exact absurd rfl h.ne
 | cons x r =>
  unfold eV;simp only[List.length_cons] at hn hm;by_cases hk:x.k=2
  ·simp only[hk,if_true];exact⟨h.tail (.inr (by rw[hk];decide)),by simp⟩
  simp only[hk,if_false];by_cases hv:x.t=[118,101,114,116,105,99,101,115]
  ·simp only[hv,if_true];exact⟨h.tail (.inl (by rw[hv];simp)),by simp⟩
  simp only[hv,if_false];by_cases ha:x.t=[97,114,111,117,110,100]
  ·simp only[ha,if_true];have hr:=h.tail (.inl (by rw[ha];simp));refine(jV H 1 o q hr (by omega)).bind fun ks t h1 l1=>?_;exact⟨h1,by simp;omega⟩
  simp only[ha,if_false];refine(fL (by simp) o h).bind fun a t1 h1 l1=>?_;simp only[List.length_cons] at l1;refine(xH H m (o+1) q h1 (by omega) (by omega)).bind fun ks t2 h2 l2=>?_;refine(el (by simp) h2).bind fun _ t3 h3 l3=>?_;exact⟨h3,by simp;omega⟩
theorem qT (H:∀ row o q ts,row<=8->WFT ts->10*ts.length+(9-row)<=n->dz ts.length (rec row o q ts))(m:Nat){s:List UInt8}(hs:s≠[])(k o q:Nat){ts:List Tk}(h:WFT ts)(hn:10*ts.length<=n)(hm:ts.length<m):dz ts.length (dq rec m s k o q ts):=by
 cases ts with
 | nil=>exact absurd rfl h.ne
 | cons x r =>
  unfold dq;by_cases h4:q=4
  ·simp only[h4,if_true];exact trivial
  simp only[h4,if_false];refine(fL hs o h).bind fun _ t1 h1 l1=>?_;refine(nG (by decide) h1).bind fun _ t2 h2 l2=>?_;refine(el (by simp) h2).bind fun _ t3 h3 l3=>?_;refine(yp H m (o+1) (q+1) h3 (by omega) (by omega)).bind fun e t4 h4 l4=>?_;refine(el (by simp) h4).bind fun _ t5 h5 l5=>?_;refine(dH H h5 (by omega)).bind fun e t6 h6 l6=>?_;exact⟨h6,by omega⟩
theorem vT (H:∀ row o q ts,row<=8->WFT ts->10*ts.length+(9-row)<=n->dz ts.length (rec row o q ts))(m o q:Nat){ts:List Tk}(h:WFT ts)(hn:10*ts.length<=n)(hm:ts.length<m):dz ts.length (cA rec m o q ts):=by
 cases ts with
 | nil=>exact absurd rfl h.ne
 | cons x r =>
  unfold cA;have hl:r.length<(x::r).length:=by simp
  simp only;by_cases h1:x.k=1
  ·simp only[h1,if_true];exact⟨h.tail (.inr (by rw[h1];decide)),hl⟩
  simp only[h1,if_false];by_cases h2:x.k=2
  ·simp only[h2,if_true];exact⟨h.tail (.inr (by rw[h2];decide)),hl⟩
  simp only[h2,if_false];by_cases h3:x.t=[102,97,108,115,101]
  ·simp only[h3,if_true];exact⟨h.tail (.inl (by rw[h3];simp)),hl⟩
  simp only[h3,if_false];by_cases h4:x.t=[116,114,117,101]
  ·simp only[h4,if_true];exact⟨h.tail (.inl (by rw[h4];simp)),hl⟩
  simp only[h4,if_false];by_cases h5:x.t=[64]
  ·simp only[h5,if_true];have hr:=h.tail (.inl (by rw[h5];simp));refine(nG (by decide) hr).bind fun _ t2 k2 l2=>?_;exact⟨k2,by omega⟩
  simp only[h5,if_false];by_cases h6:x.t=[40]
  ·simp only[h6,if_true];refine(jV H 1 o q h hn).bind fun ks t1 k1 l1=>?_;exact⟨k1,l1⟩
  simp only[h6,if_false];by_cases h7:x.t=[105,102]
  ·simp only[h7,if_true];exact pI H o q h hn
  simp only[h7,if_false];cases hc:mE x.t with
  | some z =>
   obtain⟨a,k,many⟩:=z;have hx:x.t≠[]:=fun e=>by rw[e] at hc;cases hc
   have hr:=h.tail (.inl hx);simp only[List.length_cons] at hn;refine(jV H many o q hr (by omega)).bind fun ks t1 k1 l1=>?_;exact⟨k1,by omega⟩
  | none =>
   cases hq:iX x.t with
   | some z =>
    obtain⟨a,k⟩:=z;have hx:x.t≠[]:=fun e=>by rw[e] at hq;cases hq
    exact qT H m hx k o q h hn hm
   | none=>exact trivial
theorem m4 (H:∀ row o q ts,row<=8->WFT ts->10*ts.length+(9-row)<=n->dz ts.length (rec row o q ts)){s:List UInt8}(hs:s≠[])(k:Int)(row o q:Nat)(hrow:row<=7){ts:List Tk}(h:WFT ts)(hn:10*ts.length+(8-row)<=n):dz ts.length (dc rec s k row o q ts):=by
 cases ts with
 | nil=>exact absurd rfl h.ne
 | cons x r =>
  unfold dc;by_cases hx:x.t=s
  ·simp only[hx,if_true];by_cases ho:o=64
   ·simp only[ho,if_true];exact trivial
   ·simp only[ho,if_false];have hr:=h.tail (.inl (by rw[hx];exact hs));simp only[List.length_cons] at hn;refine(H row (o+1) q r (by omega) hr (by omega)).bind fun e t2 h2 l2=>?_;exact⟨h2,by simp;omega⟩
  ·simp only[hx,if_false];exact H (row+1) o q _ (by omega) h (by omega)
theorem kh (H:∀ row o q ts,row<=8->WFT ts->10*ts.length+(9-row)<=n->dz ts.length (rec row o q ts)):∀ (m row o q:Nat) (left:Ex) (ts:List Tk) (b:Nat),WFT ts->10*ts.length+8<=n->ts.length<m->ts.length<b->dz b (cW rec m row o q left ts)
 | 0,row,o,q,left,ts,b,h,hn,hm,hb=>by omega
 | m+1,row,o,q,left,ts,b,h,hn,hm,hb=>by
  cases ts with
  | nil=>exact absurd rfl h.ne
  | cons x r =>
   unfold cW;simp only;cases hz:vu x.t row with
   | none=>exact⟨h,hb⟩
   | some z =>
    obtain⟨zt,zk,zr,zl,zz⟩:=z;have hx:x.t≠[]:=fun e=>by
     have h1:=List.mem_of_find?_eq_some hz;have h2:=List.find?_some hz;simp at h2;have h3:=h2.1;rw[e] at h3;simp only[eE,List.mem_cons,List.not_mem_nil,or_false,Prod.mk.injEq] at h1;rcases h1 with ⟨h,_⟩|⟨h,_⟩|⟨h,_⟩|⟨h,_⟩|⟨h,_⟩|⟨h,_⟩|⟨h,_⟩|⟨h,_⟩|⟨h,_⟩|⟨h,_⟩|⟨h,_⟩<;>(rw[h3] at h;cases h)
    have hz8:zz<=8:=by
     have h1:=List.mem_of_find?_eq_some hz;simp only[eE,List.mem_cons,List.not_mem_nil,or_false,Prod.mk.injEq] at h1;rcases h1 with h|h|h|h|h|h|h|h|h|h|h<;>(have:=h.2.2.2.2;omega)
    have hr:=h.tail (.inl hx);simp only[List.length_cons] at hn hm hb;refine(H zz o q r hz8 hr (by omega)).bind fun e t2 h2 l2=>?_;by_cases hlt:row<zl
    ·simp only[hlt,if_true];exact⟨h2,by omega⟩
    ·simp only[hlt,if_false];exact kh H m row o q _ t2 b h2 (by omega) (by omega) (by omega)
end
theorem nF:∀ (n row o q:Nat) (ts:List Tk),row<=8->WFT ts->10*ts.length+(9-row)<=n->dz ts.length (cP n row o q ts)
 | 0,row,o,q,ts,hr,h,hn=>by
  have:=List.length_pos_iff.2 h.ne
  omega
 | n+1,row,o,q,ts,hr,h,hn=>by
  have H:=nF n;have hp:=List.length_pos_iff.2 h.ne;unfold cP;by_cases h3:row=3
  ·simp only[h3,if_true];exact m4 H (by simp) 7 3 o q (by omega) h (by omega)
  simp only[h3,if_false];by_cases h7:row=7
  ·simp only[h7,if_true];exact m4 H (by simp) 6 7 o q (by omega) h (by omega)
  simp only[h7,if_false];by_cases h8:row=8
  ·simp only[h8,if_true];exact vT H n o q h (by omega) (by omega)
  simp only[h8,if_false];refine(H (row+1) o q ts (by omega) h (by omega)).bind fun l t h1 l1=>?_;exact kh H n row o q l t _ h1 (by omega) (by omega) l1
theorem vp {n:Nat}{ts:List Tk}(h:WFT ts)(hn:10*ts.length+8<=n):fh n ts≠.out:=by
 intro e;have F:dz ts.length (fh n ts)\/fh n ts≠.out:=by
  refine .inr ?_
  have:=nF n 1 0 0 ts (by omega) h (by omega)
  unfold fh;cases hr:cP n 1 0 0 ts using Rs.on with
  | out=>rw[hr] at this;exact this.elim
  | bad e a=>intro h;cases h
  | ok x t =>
   rw[hr] at this;cases t with
   | nil=>exact absurd rfl this.1.ne
   | cons y l =>
    simp only[Rs.bind];by_cases hy:y.k=0
    ·simp[hy]
    ·simp[hy]
 rcases F with F|F
 ·rw[e] at F;exact F
 ·exact F e
theorem sI (k:Nat)(t:List UInt8)(a p:Nat)(l:List UInt8)(ts:List Tk)(h:bN k t a p l=.inr ts):WFT ts:=by
 induction l generalizing k t a p ts with
 | nil =>
  unfold bN at h;rcases cE h with ⟨_,h2⟩|⟨_,x,us,_,h2,rfl⟩
  ·unfold qp at h2;injection h2 with h2;subst h2;exact⟨_,rfl,rfl,rfl⟩
  ·unfold qp at h2;injection h2 with h2;subst h2;exact⟨_,rfl,rfl,rfl⟩
 | cons c r ih =>
  unfold bN at h;split at h
  ·exact ih _ _ _ _ _ h
  ·rcases cE h with ⟨_,h2⟩|⟨_,x,us,_,h2,rfl⟩
   ·exact ih _ _ _ _ _ h2
   ·have:=ih _ _ _ _ _ h2
    obtain⟨e,h1,h3⟩:=this;cases us with
    | nil=>cases h1
    | cons y l=>exact⟨e,by rw[List.getLast?_cons_cons];exact h1,h3⟩
def dV (l:List UInt8):Rs Ex :=
 match ey l with
 | .inl (e,p)=>.bad e p
 | .inr ts=>fh 30000 ts
theorem rN (l:List UInt8):dV l≠.out:=by
 unfold dV;cases h:ey l with
 | inl x=>obtain⟨e,p⟩:=x;intro h;cases h
 | inr ts =>
  have hs:=jt h;exact vp (sI _ _ _ _ _ _ hs.2.1) (by omega)
def Lq {α:Type}(b:List Tk)(r:Rs α):Prop:=∀ x t,r=.ok x t->t <:+ b
theorem Lq.bind {α β:Type}{b:List Tk}{r:Rs α}{f:α->List Tk->Rs β}(h:Lq b r)(hf:∀ x t,t <:+ b->Lq b (f x t)):Lq b (r.bind f):=by
 cases r using Rs.on with
 | out=>intro x t e;cases e
 | bad e a=>intro x t e;cases e
 | ok x t=>exact hf x t (h x t rfl)
theorem Lq.bad {α:Type}(b:List Tk)(e a:Nat):Lq b (.bad e a:Rs α):=fun x t h=>by cases h
theorem Lq.out {α:Type}(b:List Tk):Lq b (.out:Rs α):=fun x t h=>by cases h
theorem Lq.ok {α:Type}{b:List Tk}(x:α){t:List Tk}(h:t <:+ b):Lq b (.ok x t):=fun y u e=>by
 obtain⟨_,e⟩:=Rs.ok_inj e;subst e;exact h
theorem fM (s:List UInt8){b:List Tk}{ts:List Tk}(h:ts <:+ b):Lq b (aW s ts):=by
 cases ts with
 | nil=>exact Lq.out _
 | cons x r =>
  simp only[aW];split
  ·exact Lq.ok _ ((List.suffix_cons x r).trans h)
  ·exact Lq.bad _ _ _
theorem th (k:Nat){b:List Tk}{ts:List Tk}(h:ts <:+ b):Lq b (dX k ts):=by
 cases ts with
 | nil=>exact Lq.out _
 | cons x r =>
  simp only[dX];split
  ·exact Lq.ok _ ((List.suffix_cons x r).trans h)
  ·exact Lq.bad _ _ _
theorem iZ (s:List UInt8)(o:Nat){b:List Tk}{ts:List Tk}(h:ts <:+ b):Lq b (aG s o ts):=by
 cases ts with
 | nil=>exact Lq.out _
 | cons x r =>
  simp only[aG];split
  ·split
   ·exact Lq.bad _ _ _
   ·exact Lq.ok _ ((List.suffix_cons x r).trans h)
  ·exact Lq.bad _ _ _
section
variable {rec:Rdr}
theorem ph (H:∀ row o q ts b,ts <:+ b->Lq b (rec row o q ts)):∀ (j:Nat) (o q:Nat) (acc:Fs) (ts:List Tk) (b:List Tk),ts <:+ b->Lq b (fA rec j o q acc ts)
 | 0,o,q,acc,ts,b,h=>Lq.ok _ h
 | j+1,o,q,acc,ts,b,h=>by
  unfold fA;exact(fM _ h).bind fun _ t1 h1=>(H _ _ _ _ _ h1).bind fun e t2 h2=>ph H j o q _ t2 b h2
theorem oI (H:∀ row o q ts b,ts <:+ b->Lq b (rec row o q ts))(many o q:Nat){b:List Tk}{ts:List Tk}(h:ts <:+ b):Lq b (eH rec many o q ts):=by
 unfold eH;exact(iZ _ _ h).bind fun _ t1 h1=>(H _ _ _ _ _ h1).bind fun e t2 h2=>(ph H _ _ _ _ t2 b h2).bind fun ks t3 h3=>(fM _ h3).bind fun _ t4 h4=>Lq.ok _ h4
theorem uS (H:∀ row o q ts b,ts <:+ b->Lq b (rec row o q ts))(o q:Nat){b:List Tk}{ts:List Tk}(h:ts <:+ b):Lq b (dx rec o q ts):=by
 unfold dx;exact(iZ _ _ h).bind fun _ t1 h1=>(H _ _ _ _ _ h1).bind fun e t2 h2=>(fM _ h2).bind fun _ t3 h3=>(H _ _ _ _ _ h3).bind fun e t4 h4=>(fM _ h4).bind fun _ t5 h5=>(H _ _ _ _ _ h5).bind fun e t6 h6=>Lq.ok _ h6
theorem tU (H:∀ row o q ts b,ts <:+ b->Lq b (rec row o q ts)):∀ (m:Nat) (o q:Nat) (acc:Fs) (ts:List Tk) (b:List Tk),ts <:+ b->Lq b (fE rec m o q acc ts)
 | 0,o,q,acc,ts,b,h=>Lq.out _
 | m+1,o,q,acc,[],b,h=>Lq.out _
 | m+1,o,q,acc,x::r,b,h=>by
  unfold fE;simp only;split
  ·exact(H _ _ _ _ _ ((List.suffix_cons x r).trans h)).bind fun e t2 h2=>tU H m o q _ t2 b h2
  ·exact Lq.ok _ h
theorem De (H:∀ row o q ts b,ts <:+ b->Lq b (rec row o q ts))(m o q:Nat){b:List Tk}{ts:List Tk}(h:ts <:+ b):Lq b (jR rec m o q ts):=by
 cases ts with
 | nil=>exact Lq.out _
 | cons x r =>
  unfold jR;simp only;split
  ·exact Lq.ok _ h
  ·exact(H _ _ _ _ _ h).bind fun e t1 h1=>tU H m o q _ t1 b h1
theorem Cb (H:∀ row o q ts b,ts <:+ b->Lq b (rec row o q ts))(m o q:Nat){b:List Tk}{ts:List Tk}(h:ts <:+ b):Lq b (eV rec m o q ts):=by
 cases ts with
 | nil=>exact Lq.out _
 | cons x r =>
  have hr:r <:+ b:=(List.suffix_cons x r).trans h;unfold eV;simp only;split
  ·exact Lq.ok _ hr
  ·split
   ·exact Lq.ok _ hr
   ·split
    ·exact(oI H 1 o q hr).bind fun ks t h1=>Lq.ok _ h1
    ·exact(iZ _ _ h).bind fun _ t1 h1=>(De H m _ q h1).bind fun ks t2 h2=>(fM _ h2).bind fun _ t3 h3=>Lq.ok _ h3
theorem wZ (H:∀ row o q ts b,ts <:+ b->Lq b (rec row o q ts))(m:Nat)(s:List UInt8)(k o q:Nat){b:List Tk}{ts:List Tk}(h:ts <:+ b):Lq b (dq rec m s k o q ts):=by
 cases ts with
 | nil=>exact Lq.out _
 | cons x r =>
  unfold dq;simp only;split
  ·exact Lq.bad _ _ _
  ·exact(iZ _ _ h).bind fun _ t1 h1=>(th _ h1).bind fun _ t2 h2=>(fM _ h2).bind fun _ t3 h3=>(Cb H m _ _ h3).bind fun _ t4 h4=>(fM _ h4).bind fun _ t5 h5=>(H _ _ _ _ _ h5).bind fun e t6 h6=>Lq.ok _ h6
theorem Af (H:∀ row o q ts b,ts <:+ b->Lq b (rec row o q ts))(m o q:Nat){b:List Tk}{ts:List Tk}(h:ts <:+ b):Lq b (cA rec m o q ts):=by
 cases ts with
 | nil=>exact Lq.out _
 | cons x r =>
  have hr:r <:+ b:=(List.suffix_cons x r).trans h;unfold cA;simp only;split
  ·exact Lq.ok _ hr
  ·split
   ·exact Lq.ok _ hr
   ·split
    ·exact Lq.ok _ hr
    ·split
     ·exact Lq.ok _ hr
     ·split
      ·exact(th _ hr).bind fun _ t h1=>Lq.ok _ h1
      ·split
       ·exact(oI H 1 o q h).bind fun ks t h1=>Lq.ok _ h1
       ·split
        ·exact uS H o q h
        ·split
         ·exact(oI H _ o q hr).bind fun ks t h1=>Lq.ok _ h1
         ·split
          ·exact wZ H m _ _ o q h
          ·exact Lq.bad _ _ _
theorem tn (H:∀ row o q ts b,ts <:+ b->Lq b (rec row o q ts))(s:List UInt8)(k:Int)(row o q:Nat){b:List Tk}{ts:List Tk}(h:ts <:+ b):Lq b (dc rec s k row o q ts):=by
 cases ts with
 | nil=>exact Lq.out _
 | cons x r =>
  have hr:r <:+ b:=(List.suffix_cons x r).trans h;unfold dc;simp only;split
  ·split
   ·exact Lq.bad _ _ _
   ·exact(H _ _ _ _ _ hr).bind fun e t2 h2=>Lq.ok _ h2
  ·exact H _ _ _ _ _ h
theorem nz (H:∀ row o q ts b,ts <:+ b->Lq b (rec row o q ts)):∀ (m row o q:Nat) (left:Ex) (ts:List Tk) (b:List Tk),ts <:+ b->Lq b (cW rec m row o q left ts)
 | 0,row,o,q,left,ts,b,h=>Lq.out _
 | m+1,row,o,q,left,[],b,h=>Lq.out _
 | m+1,row,o,q,left,x::r,b,h=>by
  have hr:r <:+ b:=(List.suffix_cons x r).trans h;unfold cW;simp only;split
  ·exact Lq.ok _ h
  ·refine(H _ _ _ _ _ hr).bind fun e t2 h2=>?_;split
   ·exact Lq.ok _ h2
   ·exact nz H m row o q _ t2 b h2
end
theorem tq:∀ (n row o q:Nat) (ts:List Tk) (b:List Tk),ts <:+ b->Lq b (cP n row o q ts)
 | 0,row,o,q,ts,b,h=>Lq.out _
 | n+1,row,o,q,ts,b,h=>by
  have H:=tq n;unfold cP;split
  ·exact tn H _ _ _ _ _ h
  ·split
   ·exact tn H _ _ _ _ _ h
   ·split
    ·exact Af H n o q h
    ·exact(H _ _ _ _ _ h).bind fun l t h1=>nz H n row o q l t b h1
section
variable {g d:Nat}{v v':List Tk}
variable {rec:Rdr}
end
open Go.ChangeShapes Go.WideShapes Go.ChangeAt Go.RowKit
set_option linter.unusedSimpArgs false
theorem dh (w:World)(xs:List Value)(t:TypeId):∀ j u,xs[j]?=some u->(w.alloc (.cells xs.toArray t)).cell? ((⟨w.heap.size,0,none⟩:Addr).add j)=some u:=fun j u hu=>by
 rw[show (⟨w.heap.size,0,none⟩:Addr).add j=⟨w.heap.size,j,none⟩ by simp only[Addr.add];split<;>simp_all];rw[cell_of_row _ w.heap.size j _ t (0,0) (heap_alloc_new w _)];simpa using hu
theorem eo (w:World)(b k:Nat)(b0 b1 b2 b3 b4:Value)(h:k≠b):(((((w.setCell ⟨b,0,none⟩ b0).setCell ⟨b,1,none⟩ b1).setCell ⟨b,2,none⟩ b2).setCell ⟨b,3,none⟩ b3).setCell ⟨b,4,none⟩ b4).heap[k]?=w.heap[k]? :=
 (heap_setCell_other _ ⟨b,4,none⟩ k b4 h).trans ((heap_setCell_other _ ⟨b,3,none⟩ k b3 h).trans ((heap_setCell_other _ ⟨b,2,none⟩ k b2 h).trans ((heap_setCell_other _ ⟨b,1,none⟩ k b1 h).trans (heap_setCell_other w ⟨b,0,none⟩ k b0 h))))
def Fs.plc:Fs->Prop
 | ⟨none⟩=>True
 | ⟨some ⟨_,_,_,a,ks,r⟩⟩=>0<=a/\a<=1000000000/\ks.plc/\r.plc
abbrev N0 (n0:Nat)(o:Nat->Nat):Nat->Prop:=fun b=>n0<=b/\o b=0
def jO (w:World)(o:Nat->Nat)(n0:Nat)(acc:Fs)(v:Value):Prop:=∃xs,Row w o 2 25 5 v acc.len xs/\Fc w (N0 n0 o) acc xs
theorem Fc.lab {I:Nat->Prop}{w w':World}{o o':Nat->Nat}{n0:Nat}{f:Fs}{xs:List Value}(h:Fc w (N0 n0 o) f xs)(s:aa I w o w' o')(h0:¬I 0):Fc w' (N0 n0 o') f xs :=
 h.mono (fun i hp hl=>s.block i hl (by rw[hp.2];exact h0)) s.size (fun i hp hl=>⟨hp.1,(s.lab i hl).trans hp.2⟩)
theorem Sl.lab {I:Nat->Prop}{w w':World}{o o':Nat->Nat}{n0:Nat}{f:Fs}{ao:Option Addr}(h:Sl w (N0 n0 o) f ao)(s:aa I w o w' o')(h0:¬I 0):Sl w' (N0 n0 o') f ao :=
 h.mono (fun i hp hl=>s.block i hl (by rw[hp.2];exact h0)) s.size (fun i hp hl=>⟨hp.1,(s.lab i hl).trans hp.2⟩)
theorem jO.step {I:Nat->Prop}{w w':World}{o o':Nat->Nat}{n0:Nat}{acc:Fs}{v:Value}(h:jO w o n0 acc v)(s:aa I w o w' o')(h0:¬I 0)(h2:¬I 2):jO w' o' n0 acc v:=by
 obtain⟨xs,r,f⟩:=h;exact⟨xs,r.step s h2,f.lab s h0⟩
theorem jO.push {w w2:World}{o o2:Nat->Nat}{n0:Nat}{acc:Fs}{xs:List Value}{v2:Value}{y:Ex}{ao:Option Addr}{ce:Nat}(f:Fc w (N0 n0 o) acc xs)(S:Sl w (N0 n0 o) y.kids ao)(s:aa (fun x=>x=2) w o w2 o2)
  (r:Row w2 o2 2 25 5 v2 (acc.len+1) (xs++[.int .i64 y.k,.int .i64 y.n,stv y.nm,.slice ao y.kids.len ce,.int .i64 y.a])):jO w2 o2 n0 (acc.snoc y) v2 :=
 ⟨_,by rw[Fs.len_snoc];exact r,(f.lab s (by decide)).app (Fc.one ce (S.lab s (by decide)))⟩
theorem aJ {I:Nat->Prop}{n0:Nat}{a w w':World}{o o':Nat->Nat}(b:Below n0 a w)(s:aa I w o w' o')(h:∀ k,k<n0->¬I (o k))(hn:n0<=a.heap.size):Below n0 a w' :=
 ⟨s.os.trans b.os,s.tape.trans b.tape,s.output.trans b.output,Nat.le_trans b.size s.size,fun k hk=>(s.block k (by have:=b.size;omega) (h k hk)).trans (b.block k hk)⟩
theorem jv:∀ (x:Fs),x.app .nil=x
 | ⟨none⟩=>rfl
 | ⟨some ⟨k,n,nm,a,ks,r⟩⟩=>by simp only[Fs.app];rw[jv r]
def FcN (w:World)(P:Nat->Prop):Fs->List Value->Prop
 | ⟨none⟩,xs=>xs=[]
 | ⟨some ⟨k,n,nm,a,ks,r⟩⟩,xs=>∃ao cap ys,xs=.int .i64 k::.int .i64 n::stv nm::.slice ao ks.len cap::ys /\
   (ks=.nil\/∃b off zs,ao=some ⟨b,off,none⟩/\P b/\b<w.heap.size/\(∀ j u,zs[j]?=some u->w.cell? ⟨b,off+j,none⟩=some u)/\FcN w P ks zs)/\FcN w P r ys
def SlN (w:World)(P:Nat->Prop)(ks:Fs)(ao:Option Addr):Prop :=
 ks=.nil\/∃b off zs,ao=some ⟨b,off,none⟩/\P b/\b<w.heap.size/\(∀ j u,zs[j]?=some u->w.cell? ⟨b,off+j,none⟩=some u)/\FcN w P ks zs
def exN (e:Ex)(ao:Option Addr)(cap:Nat):Value:=.agg #[.int .i64 e.k,.int .i64 e.n,stv e.nm,.slice ao e.kids.len cap]
theorem ah (e:Ex)(ao:Option Addr)(cap:Nat):exN e ao cap=.agg #[.int .i64 e.k,.int .i64 e.n,stv e.nm,.slice ao e.kids.len cap]:=rfl
theorem FcN.len {w:World}{P:Nat->Prop}:∀ {f:Fs}{xs:List Value},FcN w P f xs->xs.length=f.len*4
 | ⟨none⟩,xs,h=>by
  have h:xs=[]:=h;subst h;rfl
 | ⟨some ⟨k,n,nm,a,ks,r⟩⟩,xs,h=>by
  obtain⟨ao,cap,ys,rfl,_,h2⟩:=h
  have:=FcN.len h2
  simp only[List.length_cons,Fs.len];omega
theorem FcN.mono {w w':World}{P Q:Nat->Prop}(hb:∀ k,P k->k<w.heap.size->w'.heap[k]?=w.heap[k]?)(hs:w.heap.size<=w'.heap.size)(hq:∀ k,P k->k<w.heap.size->Q k):∀ {f:Fs}{xs:List Value},FcN w P f xs->FcN w' Q f xs
 | ⟨none⟩,xs,h=>h
 | ⟨some ⟨k,n,nm,a,ks,r⟩⟩,xs,h=>by
  obtain⟨ao,cap,ys,rfl,h1,h2⟩:=h;refine⟨ao,cap,ys,rfl,?_,FcN.mono hb hs hq h2⟩;rcases h1 with h1|⟨b,off,zs,rfl,hp,hlt,hc,h3⟩
  ·exact .inl h1
  ·exact .inr ⟨b,off,zs,rfl,hq b hp hlt,Nat.lt_of_lt_of_le hlt hs,fun j u hu=>(World.cell?_of_block (a:=⟨b,off+j,none⟩) (hb b hp hlt)).trans (hc j u hu),FcN.mono hb hs hq h3⟩
theorem SlN.mono {w w':World}{P Q:Nat->Prop}{f:Fs}{ao:Option Addr}(hb:∀ k,P k->k<w.heap.size->w'.heap[k]?=w.heap[k]?)(hs:w.heap.size<=w'.heap.size)(hq:∀ k,P k->k<w.heap.size->Q k)(h:SlN w P f ao):SlN w' Q f ao:=by
 rcases h with h|⟨b,off,zs,rfl,hp,hlt,hc,h3⟩
 ·exact .inl h
 ·exact .inr ⟨b,off,zs,rfl,hq b hp hlt,Nat.lt_of_lt_of_le hlt hs,fun j u hu=>(World.cell?_of_block (a:=⟨b,off+j,none⟩) (hb b hp hlt)).trans (hc j u hu),h3.mono hb hs hq⟩
theorem FcN.app {w:World}{P:Nat->Prop}:∀ {f g:Fs}{xs ys:List Value},FcN w P f xs->FcN w P g ys->FcN w P (f.app g) (xs++ys)
 | ⟨none⟩,g,xs,ys,h,k=>by
  have h:xs=[]:=h;subst h;exact k
 | ⟨some ⟨i,n,nm,a,ks,r⟩⟩,g,xs,ys,h,k=>by
  obtain⟨ao,cap,zs,rfl,h1,h2⟩:=h;exact⟨ao,cap,zs++ys,rfl,h1,FcN.app h2 k⟩
theorem FcN.one {w:World}{P:Nat->Prop}{e:Ex}{ao:Option Addr}(cap:Nat)(h:SlN w P e.kids ao):FcN w P (one e) [.int .i64 e.k,.int .i64 e.n,stv e.nm,.slice ao e.kids.len cap]:=⟨ao,cap,[],rfl,h,rfl⟩
theorem SlN.nil (w:World)(P:Nat->Prop)(ao:Option Addr):SlN w P .nil ao:=.inl rfl
theorem FcN.split {w:World}{P:Nat->Prop}:∀ {x y:Fs}{zs:List Value},FcN w P (x.app y) zs->∃zx zy,zs=zx++zy/\FcN w P x zx/\FcN w P y zy
 | ⟨none⟩,y,zs,h=>⟨[],zs,rfl,rfl,h⟩
 | ⟨some ⟨k,n,nm,a,ks,r⟩⟩,y,zs,h=>by
  obtain⟨ao,cap,ys,rfl,h1,h2⟩:=h;obtain⟨zx,zy,rfl,h3,h4⟩:=FcN.split h2;exact⟨_,zy,rfl,⟨ao,cap,zx,rfl,h1,h3⟩,h4⟩
theorem SlN.kidQ {P:Nat->Prop}{w:World}{x r:Fs}{k n:Int}{nm:List UInt8}{a:Int}{ks:Fs}{ao:Option Addr}(h:SlN w P (x.app (.cons k n nm a ks r)) ao):∃b off ak ck,ao=some ⟨b,off,none⟩/\b<w.heap.size/\P b/\w.cell? ⟨b,off+x.len*4,none⟩=some (.int .i64 k)/\w.cell? ⟨b,off+x.len*4+1,none⟩=some (.int .i64 n)/\w.cell? ⟨b,off+x.len*4+2,none⟩=some (stv nm)/\w.cell? ⟨b,off+x.len*4+3,none⟩=some (.slice ak ks.len ck)/\SlN w P ks ak:=by
 rcases h with h|⟨b,off,zs,rfl,hp,hlt,hc,hf⟩
 ·cases x using Fs.on with
  | nil=>cases h
  | cons k n nm a ks r=>cases h
 ·obtain⟨zx,zy,rfl,h3,h4⟩:=FcN.split hf;have hl:=h3.len;obtain⟨ak,ck,ys,rfl,h5,h6⟩:=h4;have hc':∀ j u,(.int .i64 k::.int .i64 n::stv nm::.slice ak ks.len ck::ys:List Value)[j]?=some u->w.cell? ⟨b,off+x.len*4+j,none⟩=some u:=fun j u hu=>by
   have:=hc (x.len*4+j) u (by rw[List.getElem?_append_right (by omega),hl,Nat.add_sub_cancel_left];exact hu)
   rw[Nat.add_assoc];exact this
  exact⟨b,off,ak,ck,rfl,hlt,hp,hc' 0 _ rfl,hc' 1 _ rfl,hc' 2 _ rfl,hc' 3 _ rfl,h5⟩
abbrev SnA (w:World)(f:Fs)(ao:Option Addr):Prop:=SlN w (fun _=>True) f ao
theorem SnA.below {w w':World}{f:Fs}{ao:Option Addr}(h:SnA w f ao)(b:Below w.heap.size w w'):SnA w' f ao:=h.mono (fun i _ hl=>b.block i hl) b.size (fun _ h _=>h)
theorem SlN.all {w:World}{P:Nat->Prop}{f:Fs}{ao:Option Addr}(h:SlN w P f ao):SnA w f ao:=h.mono (fun _ _ _=>rfl) (Nat.le_refl _) (fun _ _ _=>trivial)
theorem aI {w:World}{b:Nat}{a0 a1 a2 a3:Value}{t:TypeId}(h:w.heap[b]?=some (.cells #[a0,a1,a2,a3] t (0,0))):w.cell? ⟨b,0,none⟩=some a0/\w.cell? ⟨b,1,none⟩=some a1/\w.cell? ⟨b,2,none⟩=some a2/\w.cell? ⟨b,3,none⟩=some a3/\∀ j,w.frozen? ⟨b,j,none⟩=false:=by
 refine⟨?_,?_,?_,?_,fun j=>frozen_of_row w b j _ t h⟩<;>simp[cell_of_row w b _ _ t (0,0) h]
theorem pK:(Tryz.prog.info? 34).map (fun i=>(i.zero,i.size,i.bytes))=some (some (.agg #[.int .i64 0,.int .i64 0,.string ⟨#[]⟩,.slice none 0 0]),4,56):=by kernel_rfl
def xP (w:World)(y:Ex)(x:Ending)(w':World):Prop:=∃ao cap,x=.returned (exN y ao cap)/\SlN w' (Nw w.heap.size) y.kids ao/\Below w.heap.size w w'
def Fs.rng:Fs->Prop
 | ⟨none⟩=>True
 | ⟨some ⟨_,n,_,_,ks,r⟩⟩=>-9223372036854775808<=n/\n<=9223372036854775807/\ks.rng/\r.rng
structure Ex.fit (e:Ex):Prop where
 nm:e.nm.length<=maxLen
 sh:e.kids.short
 len:e.kids.len<=1000000000
 n1:-9223372036854775808<=e.n
 n2:e.n<=9223372036854775807
 rng:e.kids.rng
theorem uE {t:List UInt8}(h:aX t=true):t.length<=12:=by
 cases t with
 | nil=>simp
 | cons c r =>
  simp only[aX,Bool.and_eq_true,decide_eq_true_eq] at h
  have:=h.1.1.1
  simp only[List.length_cons];omega
theorem jB {k:Int}{nm:List UInt8}(h:cr k nm=true):nm.length<=12:=by
 unfold cr at h;split at h
 ·exact uE h
 ·have:nm=[]:=by simpa using h
  rw[this];simp
theorem xY {k n:Int}{nm:List UInt8}{m:Nat}(h:(bS k n&&cr k nm&&aR k n m)=true)(h1:-9223372036854775808<=n)(h2:n<=9223372036854775807):okP k n nm m:=by
 simp only[Bool.and_eq_true] at h;exact⟨h.1.1,h.1.2,h.2,jB h.1.2,h1,h2⟩
theorem rC:∀ (f:Fs) (b:Bool) (c c':Nat),f.rng->hFs f b c=some c'->f.okA/\c'=c+f.size
 | ⟨none⟩,b,c,c',hr,h=>by
  unfold hFs at h;injection h with h
  exact⟨trivial,h.symm⟩
 | ⟨some ⟨k,n,nm,a,ks,r⟩⟩,b,c,c',hr,h=>by
  unfold hFs at h;split at h
  ·cases h
  ·split at h
   ·cases h
   ·split at h
    ·rename_i hk
     split at h
     ·cases h
     ·rename_i c2 h2
      obtain⟨o1,e1⟩:=rC ks _ (c+1) c2 hr.2.2.1 h2;obtain⟨o2,e2⟩:=rC r false c2 c' hr.2.2.2 h;exact⟨⟨xY hk hr.1 hr.2.1,o1,o2⟩,by simp only[Fs.size];omega⟩
    ·cases h
theorem DQ {e:Ex}{c c':Nat}(hf:e.fit)(h:hE e c=some c'):e.okA/\c'=c+1+e.kids.size/\c'<=2000:=by
 have hle:=Ef h;unfold hE at h;split at h
 ·cases h
 ·split at h
  ·rename_i hk
   obtain⟨o1,e1⟩:=rC e.kids _ (c+1) c' hf.rng h;exact⟨⟨xY hk hf.n1 hf.n2,o1⟩,e1,hle⟩
  ·cases h
def s0:St:=⟨[],0,0,0,0⟩
def qo (s:St):Bool:=!(decide (2000<s.t.length)||decide (64<s.m)||decide (4<s.n))
def fu (e:Ex):Option (List UInt8) :=
 if bm e.k then none
 else match hE e 0 with
  | none=>none
  | some _=>if qo (wEx e 0 s0) then some (wEx e 0 s0).t else none
abbrev SlT (w:World)(f:Fs)(ao:Option Addr):Prop:=Sl w (fun _=>True) f ao
theorem SlT.below {w w':World}{f:Fs}{ao:Option Addr}(h:SlT w f ao)(b:Below w.heap.size w w'):SlT w' f ao:=h.mono (fun i _ hl=>b.block i hl) b.size (fun _ h _=>h)
theorem Sl.all {P:Nat->Prop}{w:World}{f:Fs}{ao:Option Addr}(h:Sl w P f ao):SlT w f ao:=h.mono (fun i _ hl=>rfl) (Nat.le_refl _) (fun _ _ _=>trivial)
theorem xj {w:World}{o:Nat->Nat}{i:Nat}{v:Value}{l:List UInt8}(h:Row w o i 5 1 v l.length (byL l)) :
  (convert 180 9 v).run Tryz.prog w=.ok (stv l) w:=by
 rcases Nat.eq_zero_or_pos l.length with h0|h0
 ·obtain rfl:l=[]:=List.length_eq_zero_iff.1 h0;obtain⟨ao,cap,rfl⟩:=h.form;cases ao with
  | none=>exact run_convert_bytes_nil (P:=Tryz.prog) w 180 5 Tryz.underlying180 Tryz.underlying5 _ _ 9 Tryz.underlying9
  | some a=>exact run_convert_bytes_back w 180 9 5 a cap [] Tryz.underlying180 Tryz.underlying5 Tryz.underlying9 (fun j hj=>by simp at hj)
 ·obtain⟨g,cap,rfl,-,-,-,-,hc,-⟩:=h.pos h0;refine run_convert_bytes_back w 180 9 5 ⟨g,0,none⟩ cap l Tryz.underlying180 Tryz.underlying5 Tryz.underlying9 (fun j hj=>?_)
  have:=hc j (by omega)
  rw[show (⟨g,0,none⟩:Addr).add j=⟨g,j,none⟩ by simp[Addr.add];intro h;exact h.symm,this];simp[byL,hj]
def DJ (w:World)(r:Option (List UInt8))(x:Ending)(w':World):Prop:=x=.returned (.tuple #[stv (r.getD []),.int .i64 (if r.isSome then 0 else 122)])/\Below w.heap.size w w'
def Cm (rec:Rdr)(o q:Nat)(ts:List Tk):Rs Ex:=(aG [40] o ts).bind fun _ t1=>(rec 1 (o+1) q t1).bind fun e t2=>(aW [41] t2).bind fun _ t4=>.ok e t4
theorem xx (rec:Rdr)(o q:Nat)(ts:List Tk):((eH rec 1 o q ts).bind fun ks t1=>.ok ks.head t1)=Cm rec o q ts:=by
 unfold eH Cm;cases aG [40] o ts using Rs.on with
 | out=>rfl
 | bad e a=>rfl
 | ok a t1 =>
  show (((rec 1 (o+1) q t1).bind fun e t2=>(fA rec 0 (o+1) q (one e) t2).bind fun ks t3=>(aW [41] t3).bind fun _ t4=>.ok ks t4).bind fun ks t1=>.ok ks.head t1)=(rec 1 (o+1) q t1).bind fun e t2=>(aW [41] t2).bind fun _ t4=>.ok e t4;cases rec 1 (o+1) q t1 using Rs.on with
  | out=>rfl
  | bad e a=>rfl
  | ok e t2 =>
   show (((aW [41] t2).bind fun _ t4=>Rs.ok (one e) t4).bind fun ks t1=>.ok ks.head t1)=(aW [41] t2).bind fun _ t4=>.ok e t4;cases aW [41] t2 using Rs.on with
   | out=>rfl
   | bad e a=>rfl
   | ok a t4=>rfl
section
variable {g d:Nat}{v v':List Tk}{rec:Rdr}
end
theorem rv (k:Nat)(t:List UInt8)(a p:Nat)(l:List UInt8)(ts:List Tk)(c:UInt8)(m:List UInt8)(hb:∀ k t,k≠0->tks k t c.toNat=false)(h:bN k t a p l=.inr ts) :
  ∃us,ts=us++[⟨0,0,[],p+l.length⟩]/\bN k t a p (l++c::m)=lP us (bN 0 [] (p+l.length) (p+l.length) (c::m)):=by
 induction l generalizing k t a p ts with
 | nil =>
  rcases cE h with ⟨rfl,h1⟩|⟨hk,x,us,hp,h1,h2⟩
  ·injection h1 with h1
   exact⟨[],h1.symm,iE _ _ _ _ _ _⟩
  ·injection h1 with h1
   subst h1;refine⟨[x],h2,?_⟩;simp only[List.nil_append,List.length_nil,Nat.add_zero];rw[nO (hb k t hk)];unfold de;rw[if_neg hk,hp];rfl
 | cons d r ih =>
  have e1:p+(d::r).length=p+1+r.length:=by simp;omega
  rw[e1];cases ht:tks k t d.toNat
  ·rw[dk ht] at h;rw[List.cons_append,dk ht];rcases cE h with ⟨rfl,h1⟩|⟨hk,x,us,hp,h1,h2⟩
   ·obtain⟨vs,h3,h4⟩:=ih _ _ _ _ _ h1;refine⟨vs,h3,?_⟩;rw[h4];rfl
   ·obtain⟨vs,h3,h4⟩:=ih _ _ _ _ _ h1;refine⟨x::vs,by rw[h2,h3];rfl,?_⟩;rw[h4];unfold de;rw[if_neg hk,hp];rfl
  ·rw[cY ht] at h;rw[List.cons_append,cY ht];exact ih _ _ _ _ _ h
theorem Av (c:UInt8)(hc:c=40\/c=41)(k:Nat)(t:List UInt8)(hk:k≠0):tks k t c.toNat=false:=by
 unfold tks;split
 ·exact absurd rfl hk
 ·rcases hc with rfl|rfl<;>rfl
 ·rcases hc with rfl|rfl<;>rfl
 ·rcases hc with rfl|rfl<;>rfl
 ·rfl
theorem nu {k:Nat}{t:List UInt8}{a:Nat}{x:Tk}(h:fO k t a=.inr x):x.k≠0:=by
 unfold fO at h;split at h
 ·unfold fs at h
  repeat' split at h
  all_goals first|(injection h with h;subst h;simp)|cases h
 ·unfold gq at h
  repeat' split at h
  all_goals first|(injection h with h;subst h;simp)|cases h
 ·unfold mM at h;split at h
  all_goals first|(injection h with h;subst h;simp)|cases h
 ·cases h
theorem y7 (k:Nat)(t:List UInt8)(a p:Nat)(l:List UInt8)(us:List Tk)(e:Tk)(h:bN k t a p l=.inr (us++[e])):∀ x,x ∈ us->x.k≠0:=by
 induction l generalizing k t a p us with
 | nil =>
  unfold bN at h;rcases cE h with ⟨_,h2⟩|⟨_,x,vs,hp,h2,h3⟩
  ·unfold qp at h2;injection h2 with h2
   have:us=[]:=by
    have:=congrArg List.length h2
    simp at this;exact this
   subst this;intro x hx;cases hx
  ·unfold qp at h2;injection h2 with h2
   subst h2
   have:us=[x]:=by
    have h4:us++[e]=[x]++[⟨0,0,[],p⟩]:=h3;exact List.append_inj_left' h4 rfl
   subst this;intro y hy;simp at hy;rw[hy];exact nu hp
 | cons c r ih =>
  unfold bN at h;split at h
  ·exact ih _ _ _ _ _ h
  ·rcases cE h with ⟨_,h2⟩|⟨_,x,vs,hp,h2,h3⟩
   ·exact ih _ _ _ _ _ h2
   ·cases us with
    | nil=>intro y hy;cases hy
    | cons z us =>
     rw[List.cons_append] at h3;injection h3 with h4 h5
     subst h4 h5;intro y hy;rcases List.mem_cons.1 hy with rfl|hy
     ·exact nu hp
     ·exact ih _ _ _ _ _ h2 y hy
theorem rg {s:List UInt8}{x:Ex}{t:List Tk}(h:dV s=.ok x t):∃us E,s.length<=2000/\mH s=.inr (us++[E])/\E=⟨0,0,[],s.length⟩/\us.length<=s.length/\(∀ y,y ∈ us->y.k≠0)/\cP 30000 1 0 0 (us++[E])=.ok x [E]:=by
 unfold dV at h;cases hs:ey s with
 | inl z=>obtain⟨e,p⟩:=z;rw[hs] at h;cases h
 | inr ts =>
  rw[hs] at h;have h:fh 30000 ts=.ok x t:=h;have hk:=jt hs;obtain⟨us,h1,_⟩:=rv 0 [] 0 0 s ts 41 [] (Av 41 (.inr rfl)) hk.2.1;rw[Nat.zero_add] at h1;subst h1;have hl:=y7 _ _ _ _ _ _ _ hk.2.1;refine⟨us,_,hk.1,hk.2.1,rfl,by have:=hk.2.2.2.1;simp at this;exact this,hl,?_⟩;unfold fh at h;cases hp:cP 30000 1 0 0 (us++[⟨0,0,[],s.length⟩]) using Rs.on with
  | out=>rw[hp] at h;cases h
  | bad e a=>rw[hp] at h;cases h
  | ok y t0 =>
   rw[hp] at h;have hsf:=tq 30000 1 0 0 _ _ (List.suffix_refl _) y t0 hp;cases t0 with
   | nil=>cases h
   | cons z r =>
    simp only[Rs.bind] at h;by_cases hz:z.k=0
    ·rw[if_pos hz] at h;obtain⟨h1,h2⟩:=Rs.ok_inj h;subst h1;obtain⟨pre,hpre⟩:=hsf;cases r with
     | nil =>
      have h3:pre++[z]=us++[⟨0,0,[],s.length⟩]:=hpre;have h4:=List.append_inj_right' h3 rfl;rw[h4]
     | cons z2 r =>
      exfalso;have h5:z ∈ us:=by
       have h6:pre++z::(z2::r)=us++[⟨0,0,[],s.length⟩]:=hpre;have h7:(pre++z::(z2::r)).dropLast=us:=by rw[h6];simp
       rw[<-h7]
       have:pre++z::(z2::r)=(pre++[z])++(z2::r):=by simp
       rw[this,List.dropLast_append_cons];simp
      exact hl z h5 hz
    ·rw[if_neg hz] at h;cases h
end Go.Proofs.YtbjdkekhnajafaaGreatDoor

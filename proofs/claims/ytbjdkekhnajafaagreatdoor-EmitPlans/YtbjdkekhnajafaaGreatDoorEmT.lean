import Derived.Test.YtbjdkekhnajafaaGreatDoorRdqT
import Derived.Lib.AtoiAllCases
import Derived.Laws.BitsAllLaws
import Derived.Laws.Bits64
import Derived.Laws.ShiftsVarLaws
import Derived.Below
import Derived.IntWalk
import Derived.Lib.LaidTab
set_option maxRecDepth 100000
set_option maxHeartbeats 8000000
namespace Go.Proofs.YtbjdkekhnajafaaGreatDoor
set_option linter.unusedVariables false
set_option linter.unusedSimpArgs false
def tkG (x:Tk):Prop:=-9223372036854775808<=x.n/\x.n<=9223372036854775807/\x.t.length<=2000/\x.a<=2000
def Fs.gd:Fs->Prop
 | ⟨none⟩=>True
 | ⟨some ⟨_,n,nm,a,ks,r⟩⟩=>-9223372036854775808<=n/\n<=9223372036854775807/\nm.length<=2000/\0<=a/\a<=2000/\ks.gd/\r.gd
theorem Fs.gd_app:∀ {x y:Fs},x.gd->y.gd->(x.app y).gd
 | ⟨none⟩,y,h,k=>k
 | ⟨some ⟨_,_,_,_,_,r⟩⟩,y,h,k=>⟨h.1,h.2.1,h.2.2.1,h.2.2.2.1,h.2.2.2.2.1,h.2.2.2.2.2.1,Fs.gd_app h.2.2.2.2.2.2 k⟩
def Ex.gd (e:Ex):Prop:=(one e).gd
def Ex.sz (e:Ex):Nat:=(one e).size
theorem Ex.gd_mk {k n:Int}{nm:List UInt8}{a:Nat}{ks:Fs}(h1:-9223372036854775808<=n)(h2:n<=9223372036854775807)(h3:nm.length<=2000)(h4:a<=2000)(h5:ks.gd):(⟨k,n,nm,(a:Nat),ks⟩:Ex).gd:=⟨h1,h2,h3,by show (0:Int)<=(a:Nat);omega,by show ((a:Nat):Int)<=2000;omega,h5,trivial⟩
theorem Ex.sz_mk (k n:Int)(nm:List UInt8)(a:Int)(ks:Fs):(⟨k,n,nm,a,ks⟩:Ex).sz=ks.size+1:=rfl
theorem gY {x:Fs}{e:Ex}(h:x.gd)(k:e.gd):(x.snoc e).gd:=Fs.gd_app h k
theorem gR (x:Fs)(e:Ex):(x.snoc e).size=x.size+e.sz:=Fs.size_app x (one e)
def Gb {α:Type}(T:List Tk)(b:Nat)(P:α->Prop)(sz:α->Nat)(R:Rs α):Prop:=∀ x t,R=.ok x t->t <:+ T/\P x/\sz x+t.length<=b
section
variable {T:List Tk}
theorem Gb.bind {α β:Type}{b1 b:Nat}{P:α->Prop}{sz:α->Nat}{Q:β->Prop}{sq:β->Nat}{R:Rs α}{f:α->List Tk->Rs β}(h:Gb T b1 P sz R)(hf:∀ x t,t <:+ T->P x->sz x+t.length<=b1->Gb T b Q sq (f x t)):Gb T b Q sq (R.bind f):=by
 cases R using Rs.on with
 | out=>intro x t e;cases e
 | bad e a=>intro x t e;cases e
 | ok x t =>
  obtain⟨h1,h2,h3⟩:=h x t rfl;exact hf x t h1 h2 h3
theorem Gb.bad {α:Type}{b e a:Nat}{P:α->Prop}{sz:α->Nat}:Gb T b P sz (.bad e a:Rs α):=fun x t h=>by cases h
theorem Gb.out {α:Type}{b:Nat}{P:α->Prop}{sz:α->Nat}:Gb T b P sz (.out:Rs α):=fun x t h=>by cases h
theorem Gb.ok {α:Type}{b:Nat}{P:α->Prop}{sz:α->Nat}{x:α}{t:List Tk}(h:t <:+ T)(hp:P x)(hs:sz x+t.length<=b):Gb T b P sz (.ok x t):=fun y u e=>by
 obtain⟨e1,e2⟩:=Rs.ok_inj e;subst e1 e2;exact⟨h,hp,hs⟩
theorem eZ (HT:∀ y,y ∈ T->tkG y)(s:List UInt8){ts:List Tk}(h:ts <:+ T):Gb T ts.length (fun a=>a<=2000) (fun _=>1) (aW s ts):=by
 cases ts with
 | nil=>exact Gb.out
 | cons x r =>
  simp only[aW];split
  ·exact Gb.ok ((List.suffix_cons x r).trans h) (HT x (h.mem (by simp))).2.2.2 (by simp;omega)
  ·exact Gb.bad
theorem tF (HT:∀ y,y ∈ T->tkG y)(k:Nat){ts:List Tk}(h:ts <:+ T):Gb T ts.length tkG (fun _=>1) (dX k ts):=by
 cases ts with
 | nil=>exact Gb.out
 | cons x r =>
  simp only[dX];split
  ·exact Gb.ok ((List.suffix_cons x r).trans h) (HT x (h.mem (by simp))) (by simp;omega)
  ·exact Gb.bad
theorem fZ (HT:∀ y,y ∈ T->tkG y)(s:List UInt8)(o:Nat){ts:List Tk}(h:ts <:+ T):Gb T ts.length (fun a=>a<=2000) (fun _=>1) (aG s o ts):=by
 cases ts with
 | nil=>exact Gb.out
 | cons x r =>
  simp only[aG];split
  ·split
   ·exact Gb.bad
   ·exact Gb.ok ((List.suffix_cons x r).trans h) (HT x (h.mem (by simp))).2.2.2 (by simp;omega)
  ·exact Gb.bad
variable {rec:Rdr}
theorem pC (HT:∀ y,y ∈ T->tkG y)(H:∀ row o q ts,ts <:+ T->Gb T ts.length Ex.gd Ex.sz (rec row o q ts)):∀ (j:Nat) (o q:Nat) (acc:Fs) (ts:List Tk) (b:Nat),ts <:+ T->acc.gd->acc.size+ts.length<=b->Gb T b Fs.gd Fs.size (fA rec j o q acc ts)
 | 0,o,q,acc,ts,b,h,hg,hb=>Gb.ok h hg hb
 | j+1,o,q,acc,ts,b,h,hg,hb=>by
  unfold fA;refine(eZ HT _ h).bind fun _ t1 h1 _ l1=>(H _ _ _ _ h1).bind fun e t2 h2 p2 l2=>?_;exact pC HT H j o q _ t2 b h2 (gY hg p2) (by rw[gR];omega)
theorem tL (HT:∀ y,y ∈ T->tkG y)(H:∀ row o q ts,ts <:+ T->Gb T ts.length Ex.gd Ex.sz (rec row o q ts))(many o q:Nat){ts:List Tk}(h:ts <:+ T):Gb T (ts.length-1) Fs.gd Fs.size (eH rec many o q ts):=by
 unfold eH;refine(fZ HT _ _ h).bind fun _ t1 h1 _ l1=>(H _ _ _ _ h1).bind fun e t2 h2 p2 l2=>?_;refine(pC HT H _ _ _ _ t2 t1.length h2 p2 l2).bind fun ks t3 h3 p3 l3=>?_;exact(eZ HT _ h3).bind fun _ t4 h4 _ l4=>Gb.ok h4 p3 (by omega)
theorem wa (HT:∀ y,y ∈ T->tkG y)(H:∀ row o q ts,ts <:+ T->Gb T ts.length Ex.gd Ex.sz (rec row o q ts))(o q:Nat){ts:List Tk}(h:ts <:+ T):Gb T ts.length Ex.gd Ex.sz (dx rec o q ts):=by
 unfold dx;refine(fZ HT _ _ h).bind fun a t1 h1 p1 l1=>(H _ _ _ _ h1).bind fun x t2 h2 p2 l2=>?_;refine(eZ HT _ h2).bind fun _ t3 h3 _ l3=>(H _ _ _ _ h3).bind fun y t4 h4 p4 l4=>?_;refine(eZ HT _ h4).bind fun _ t5 h5 _ l5=>(H _ _ _ _ h5).bind fun z t6 h6 p6 l6=>?_;refine Gb.ok h6 (Ex.gd_mk (by omega) (by omega) (by simp) p1 (gY (gY p2 p4) p6)) ?_;rw[Ex.sz_mk,gR,gR];show x.sz+y.sz+z.sz+1+_<=_;omega
theorem tA (HT:∀ y,y ∈ T->tkG y)(H:∀ row o q ts,ts <:+ T->Gb T ts.length Ex.gd Ex.sz (rec row o q ts)):∀ (m:Nat) (o q:Nat) (acc:Fs) (ts:List Tk) (b:Nat),ts <:+ T->acc.gd->acc.size+ts.length<=b->Gb T b Fs.gd Fs.size (fE rec m o q acc ts)
 | 0,o,q,acc,ts,b,h,hg,hb=>Gb.out
 | m+1,o,q,acc,[],b,h,hg,hb=>Gb.out
 | m+1,o,q,acc,x::r,b,h,hg,hb=>by
  have _:=HT;unfold fE;simp only;split
  ·simp only[List.length_cons] at hb;refine(H _ _ _ _ ((List.suffix_cons x r).trans h)).bind fun e t2 h2 p2 l2=>?_;exact tA HT H m o q _ t2 b h2 (gY hg p2) (by rw[gR];omega)
  ·exact Gb.ok h hg hb
theorem CQ (HT:∀ y,y ∈ T->tkG y)(H:∀ row o q ts,ts <:+ T->Gb T ts.length Ex.gd Ex.sz (rec row o q ts))(m o q:Nat){ts:List Tk}(h:ts <:+ T):Gb T ts.length Fs.gd Fs.size (jR rec m o q ts):=by
 cases ts with
 | nil=>exact Gb.out
 | cons x r =>
  unfold jR;simp only;split
  ·exact Gb.ok h trivial (by simp[Fs.size])
  ·exact(H _ _ _ _ h).bind fun e t1 h1 p1 l1=>tA HT H m o q _ t1 _ h1 p1 l1
theorem Df (HT:∀ y,y ∈ T->tkG y)(H:∀ row o q ts,ts <:+ T->Gb T ts.length Ex.gd Ex.sz (rec row o q ts))(m o q:Nat){ts:List Tk}(h:ts <:+ T):Gb T ts.length Ex.gd Ex.sz (eV rec m o q ts):=by
 cases ts with
 | nil=>exact Gb.out
 | cons x r =>
  have hx:=HT x (h.mem (by simp));have hr:r <:+ T:=(List.suffix_cons x r).trans h;unfold eV;simp only;split
  ·exact Gb.ok hr (Ex.gd_mk (by omega) (by omega) hx.2.2.1 hx.2.2.2 trivial) (by rw[Ex.sz_mk];simp[Fs.size];omega)
  ·split
   ·exact Gb.ok hr (Ex.gd_mk (by omega) (by omega) (by simp) hx.2.2.2 trivial) (by rw[Ex.sz_mk];simp[Fs.size];omega)
   ·split
    ·exact(tL HT H 1 o q hr).bind fun ks t h1 p1 l1=>Gb.ok h1 (Ex.gd_mk (by omega) (by omega) (by simp) hx.2.2.2 p1) (by rw[Ex.sz_mk];simp;omega)
    ·refine(fZ HT _ _ h).bind fun a t1 h1 p1 l1=>(CQ HT H m _ q h1).bind fun ks t2 h2 p2 l2=>(eZ HT _ h2).bind fun _ t3 h3 _ l3=>?_;exact Gb.ok h3 (Ex.gd_mk (by omega) (by omega) (by simp) p1 p2) (by rw[Ex.sz_mk];omega)
theorem wY (HT:∀ y,y ∈ T->tkG y)(H:∀ row o q ts,ts <:+ T->Gb T ts.length Ex.gd Ex.sz (rec row o q ts))(m:Nat)(s:List UInt8)(k o q:Nat)(hk:k<=100){ts:List Tk}(h:ts <:+ T):Gb T ts.length Ex.gd Ex.sz (dq rec m s k o q ts):=by
 cases ts with
 | nil=>exact Gb.out
 | cons x r =>
  unfold dq;simp only;split
  ·exact Gb.bad
  ·refine(fZ HT _ _ h).bind fun a t1 h1 p1 l1=>(tF HT _ h1).bind fun y t2 h2 p2 l2=>(eZ HT _ h2).bind fun _ t3 h3 _ l3=>?_;refine(Df HT H m _ _ h3).bind fun e t4 h4 p4 l4=>(eZ HT _ h4).bind fun _ t5 h5 _ l5=>(H _ _ _ _ h5).bind fun b t6 h6 p6 l6=>?_;refine Gb.ok h6 (Ex.gd_mk (by omega) (by omega) p2.2.2.1 p1 (gY p4 p6)) ?_;rw[Ex.sz_mk,gR];show e.sz+b.sz+1+_<=_;omega
theorem Ab (HT:∀ y,y ∈ T->tkG y)(H:∀ row o q ts,ts <:+ T->Gb T ts.length Ex.gd Ex.sz (rec row o q ts))(m o q:Nat){ts:List Tk}(h:ts <:+ T):Gb T ts.length Ex.gd Ex.sz (cA rec m o q ts):=by
 cases ts with
 | nil=>exact Gb.out
 | cons x r =>
  have hx:=HT x (h.mem (by simp));have hr:r <:+ T:=(List.suffix_cons x r).trans h;unfold cA;simp only;split
  ·exact Gb.ok hr (Ex.gd_mk hx.1 hx.2.1 (by simp) hx.2.2.2 trivial) (by rw[Ex.sz_mk];simp[Fs.size];omega)
  ·split
   ·exact Gb.ok hr (Ex.gd_mk (by omega) (by omega) hx.2.2.1 hx.2.2.2 trivial) (by rw[Ex.sz_mk];simp[Fs.size];omega)
   ·split
    ·exact Gb.ok hr (Ex.gd_mk (by omega) (by omega) (by simp) hx.2.2.2 trivial) (by rw[Ex.sz_mk];simp[Fs.size];omega)
    ·split
     ·exact Gb.ok hr (Ex.gd_mk (by omega) (by omega) (by simp) hx.2.2.2 trivial) (by rw[Ex.sz_mk];simp[Fs.size];omega)
     ·split
      ·exact(tF HT _ hr).bind fun y t h1 p1 l1=>Gb.ok h1 (Ex.gd_mk p1.1 p1.2.1 (by simp) hx.2.2.2 trivial) (by rw[Ex.sz_mk];simp[Fs.size];omega)
      ·split
       ·rw[xx];unfold Cm;exact(fZ HT _ _ h).bind fun _ t1 h1 _ l1=>(H _ _ _ _ h1).bind fun e t2 h2 p2 l2=>(eZ HT _ h2).bind fun _ t4 h4 _ l4=>Gb.ok h4 p2 (by omega)
       ·split
        ·exact wa HT H o q h
        ·split
         ·rename_i hc
          have hz:=List.mem_of_find?_eq_some hc;have hz2:∀ z ∈ dG,z.2.1<=100:=by decide
          have hz3:=hz2 _ hz;simp only at hz3;exact(tL HT H _ o q hr).bind fun ks t h1 p1 l1=>Gb.ok h1 (Ex.gd_mk (by omega) (by omega) (by simp) hx.2.2.2 p1) (by rw[Ex.sz_mk];simp;omega)
         ·split
          ·rename_i hc
           have hz:=List.mem_of_find?_eq_some hc;have hz2:∀ z ∈ dv,z.2<=100:=by decide
           have hz3:=hz2 _ hz;simp only at hz3;exact wY HT H m _ _ o q hz3 h
          ·exact Gb.bad
theorem tv (HT:∀ y,y ∈ T->tkG y)(H:∀ row o q ts,ts <:+ T->Gb T ts.length Ex.gd Ex.sz (rec row o q ts))(s:List UInt8)(k:Int)(row o q:Nat){ts:List Tk}(h:ts <:+ T):Gb T ts.length Ex.gd Ex.sz (dc rec s k row o q ts):=by
 cases ts with
 | nil=>exact Gb.out
 | cons x r =>
  have hx:=HT x (h.mem (by simp));have hr:r <:+ T:=(List.suffix_cons x r).trans h;unfold dc;simp only;split
  ·split
   ·exact Gb.bad
   ·refine(H _ _ _ _ hr).bind fun e t2 h2 p2 l2=>Gb.ok h2 (Ex.gd_mk (by omega) (by omega) (by simp) hx.2.2.2 p2) ?_;rw[Ex.sz_mk];show e.sz+1+_<=_;simp only[List.length_cons];omega
  ·exact H _ _ _ _ h
theorem na (HT:∀ y,y ∈ T->tkG y)(H:∀ row o q ts,ts <:+ T->Gb T ts.length Ex.gd Ex.sz (rec row o q ts)):∀ (m row o q:Nat) (left:Ex) (ts:List Tk) (b:Nat),ts <:+ T->left.gd->left.sz+ts.length<=b->Gb T b Ex.gd Ex.sz (cW rec m row o q left ts)
 | 0,row,o,q,left,ts,b,h,hg,hb=>Gb.out
 | m+1,row,o,q,left,[],b,h,hg,hb=>Gb.out
 | m+1,row,o,q,left,x::r,b,h,hg,hb=>by
  have hx:=HT x (h.mem (by simp));have hr:r <:+ T:=(List.suffix_cons x r).trans h;unfold cW;simp only;split
  ·exact Gb.ok h hg hb
  ·refine(H _ _ _ _ hr).bind fun e t2 h2 p2 l2=>?_;simp only[List.length_cons] at hb;have hgd:∀ (z:Int),(⟨z,0,[],(x.a:Nat),(one left).snoc e⟩:Ex).gd:=fun z=>Ex.gd_mk (by omega) (by omega) (by simp) hx.2.2.2 (gY hg p2);have hsz:∀ (z:Int),(⟨z,0,[],(x.a:Nat),(one left).snoc e⟩:Ex).sz+t2.length<=b:=fun z=>by
    rw[Ex.sz_mk,gR];show left.sz+e.sz+1+_<=_;omega
   split
   ·exact Gb.ok h2 (hgd _) (hsz _)
   ·exact na HT H m row o q _ t2 b h2 (hgd _) (hsz _)
end
theorem tT {T:List Tk}(HT:∀ y,y ∈ T->tkG y):∀ (n row o q:Nat) (ts:List Tk),ts <:+ T->Gb T ts.length Ex.gd Ex.sz (cP n row o q ts)
 | 0,row,o,q,ts,h=>Gb.out
 | n+1,row,o,q,ts,h=>by
  have H:=tT HT n;unfold cP;split
  ·exact tv HT H _ _ _ _ _ h
  ·split
   ·exact tv HT H _ _ _ _ _ h
   ·split
    ·exact Ab HT H n o q h
    ·exact(H _ _ _ _ h).bind fun l t h1 p1 l1=>na HT H n row o q l t _ h1 p1 l1
theorem nC {k:Nat}{t:List UInt8}{a:Nat}{x:Tk}(h:fO k t a=.inr x):-9223372036854775808<=x.n/\x.n<=9223372036854775807/\x.t.length<=t.length:=by
 unfold fO at h;split at h
 ·unfold fs at h
  repeat' split at h
  all_goals first|(injection h with h;subst h;exact⟨by simp,by simp,Nat.le_refl _⟩)|cases h
 ·unfold gq at h;cases hv:Lib.atoiAll t with
  | ok v =>
   rw[hv] at h;have hb:=Go.Lib.atoiAll_bounds hv;simp only at h;split at h
   ·cases h
   ·injection h with h
    subst h;exact⟨hb.1,hb.2,by simp⟩
  | _=>rw[hv] at h;cases h
 ·unfold mM at h;split at h
  all_goals first|(injection h with h;subst h;exact⟨by simp,by simp,Nat.le_refl _⟩)|cases h
 ·cases h
theorem wG (k:Nat)(t:List UInt8)(a p:Nat)(l:List UInt8)(ts:List Tk)(h:bN k t a p l=.inr ts)(hl:t.length+l.length<=2000):∀ x,x ∈ ts->-9223372036854775808<=x.n/\x.n<=9223372036854775807/\x.t.length<=2000:=by
 induction l generalizing k t a p ts with
 | nil =>
  intro x hx;rcases cE h with ⟨rfl,h1⟩|⟨hk,y,us,hp,h1,h2⟩
  ·injection h1 with h1
   subst h1;simp at hx;subst hx;exact⟨by simp,by simp,by simp⟩
  ·injection h1 with h1
   subst h1 h2;simp at hx;rcases hx with rfl|rfl
   ·have:=nC hp
    simp only[List.length_nil] at hl;exact⟨this.1,this.2.1,by omega⟩
   ·exact⟨by simp,by simp,by simp⟩
 | cons c r ih =>
  simp only[List.length_cons] at hl;cases ht:tks k t c.toNat
  ·rw[dk ht] at h;rcases cE h with ⟨rfl,h1⟩|⟨hk,y,us,hp,h1,h2⟩
   ·exact ih _ _ _ _ _ h1 (by simp;omega)
   ·subst h2;intro x hx;rcases List.mem_cons.1 hx with rfl|hx
    ·have:=nC hp
     exact⟨this.1,this.2.1,by omega⟩
    ·exact ih _ _ _ _ _ h1 (by simp;omega) x hx
  ·rw[cY ht] at h;exact ih _ _ _ _ _ h (by simp;omega)
theorem Fs.len_size:∀ (x:Fs),x.len<=x.size
 | ⟨none⟩=>Nat.le_refl _
 | ⟨some ⟨k,n,nm,a,ks,r⟩⟩=>by have:=Fs.len_size r;simp only[Fs.len,Fs.size];omega
theorem Fs.gd_all:∀ {x:Fs},x.gd->x.size<=100000000->x.short/\x.rng/\x.plc
 | ⟨none⟩,h,hs=>⟨trivial,trivial,trivial⟩
 | ⟨some ⟨k,n,nm,a,ks,r⟩⟩,h,hs=>by
  simp only[Fs.size] at hs;obtain⟨h1,h2,h3,h4,h5,h6,h7⟩:=h;obtain⟨a1,a2,a3⟩:=Fs.gd_all h6 (by omega);obtain⟨b1,b2,b3⟩:=Fs.gd_all h7 (by omega)
  have:=Fs.len_size ks
  exact⟨⟨by unfold maxLen;omega,by omega,a1,b1⟩,⟨h1,h2,a2,b2⟩,⟨h4,by omega,a3,b3⟩⟩
theorem xg {s:List UInt8}{x:Ex}{t:List Tk}(h:dV s=.ok x t):x.gd/\x.sz<=2001:=by
 obtain⟨us,E,h0,h1,h2,h3,h4,h5⟩:=rg h;have hs:ey s=.inr (us++[E]):=by rw[rj h0];exact h1
 have hk:=jt hs;have hg:∀ y,y ∈ us++[E]->tkG y:=fun y hy=>by
  have a1:=wG _ _ _ _ _ _ h1 (by simpa using h0) y hy;have a2:=hk.2.2.2.2.2 y hy;exact⟨a1.1,a1.2.1,a1.2.2,by omega⟩
 obtain⟨_,g1,g2⟩:=tT hg 30000 1 0 0 _ (List.suffix_refl _) x [E] h5;refine⟨g1,?_⟩
 have:=hk.2.2.1
 omega
structure Ex.okT (x:Ex):Prop where
 fit:x.fit
 a0:0<=x.a
 a1:x.a<=2000
 plc:x.kids.plc
 size:x.kids.size<=2000
theorem uD {s:List UInt8}{x:Ex}{t:List Tk}(h:dV s=.ok x t):x.okT:=by
 obtain⟨g,hs⟩:=xg h;have hs:x.kids.size+1<=2001:=hs;obtain⟨h1,h2,h3,h4,h5,h6,_⟩:=g;obtain⟨a1,a2,a3⟩:=Fs.gd_all h6 (by omega)
 have:=Fs.len_size x.kids
 exact⟨⟨by unfold maxLen;omega,a1,by omega,h1,h2,a2⟩,h4,h5,a3,by omega⟩
structure Wo where
 op:Nat
 a:Nat
 b:Nat
structure Em where
 ws:List Wo
 cs:List Int
 ns:List (List UInt8)
 ks:List Int
 dp:Nat
def Em.lay (s:Em)(op a b:Nat):Em:=⟨s.ws++[⟨op,a,b⟩],s.cs,s.ns,s.ks,s.dp⟩
def Em.push (s:Em)(op a b u:Nat):Em:=⟨s.ws++[⟨op,a,b⟩],s.cs,s.ns,s.ks,max s.dp (u+1)⟩
def Em.kc (s:Em)(n:Int):Em:=⟨s.ws,if n ∈ s.cs then s.cs else s.cs++[n],s.ns,s.ks,s.dp⟩
def Em.kn (s:Em)(x:List UInt8):Em:=⟨s.ws,s.cs,if x ∈ s.ns then s.ns else s.ns++[x],s.ks,s.dp⟩
def Em.con (s:Em)(n:Int)(kd u:Nat):Em:=(s.kc n).push 1 (s.cs.idxOf n) kd u
def Wo.to (x:Wo)(n:Nat):Wo:=if x.op=17 then ⟨x.op,x.a,n⟩ else ⟨x.op,n,x.b⟩
def Em.land (s:Em)(i:Nat):Em:=⟨s.ws.modify i (fun x=>x.to s.ws.length),s.cs,s.ns,s.ks,s.dp⟩
def Em.cel (s:Em)(i:Nat)(k:Int):Em:=⟨s.ws,s.cs,s.ns,s.ks.set i k,s.dp⟩
def Em.fork (s:Em)(op:Nat)(f g:Em->Em):Em:=(g (((f (s.lay op 0 0)).lay 13 0 0).land s.ws.length)).land (f (s.lay op 0 0)).ws.length
def qk (n:Int):Int:=if n=1\/n=2 then 2 else if n=10 then 3 else 1
def qi (n:Int):Int:=if n=1\/n=2 then 2 else 1
def kdN (k n:Int)(ks:List Int):Int :=
 if k=1\/k=6\/(8<=k/\k<=12) then 1 else if k=3\/k=5 then 3 else if k=19 then ks.getD 1 0 else if k=26 then ks.getD 0 0 else if k=20 then qk n else if k=21 then qi n else 2
def kdF:Fs->List Int
 | ⟨none⟩=>[]
 | ⟨some ⟨k,n,_,_,ks,r⟩⟩=>kdN k n (kdF ks)::kdF r
def kdE (e:Ex):Int:=kdN e.k e.n (kdF e.kids)
abbrev Tr:=Nat->Nat->Em->Em
def kH:List Tr->Nat->Nat->Nat->Em->Em
 | [],_,_,_,s=>s
 | t::r,i,ar,u,s=>kH r (i+1) ar u (t ar (u+i) s)
def fx (k:Int):Nat:=if k=6 then 4 else if k=7 then 5 else if k=8 then 6 else if k=9 then 7 else if k=10 then 8 else if k=11 then 9 else if k=12 then 10 else if k=22 then 20 else 22
def opr (k n:Int)(nm:List UInt8)(kk:List Int)(s:Em):Em :=
 if k=13 then s.lay 11 0 (kk.getD 0 0).toNat else if k=14 then (s.lay 11 0 (kk.getD 0 0).toNat).lay 5 0 0 else if k=15 then s.lay 12 0 0 else if k=16 then s.lay 12 0 1
 else if k=20 then s.lay 16 n.toNat 0 else if k=23 then (s.kn nm).lay 21 (s.ns.idxOf nm) 0 else if k=25 then s.lay 23 kk.length 0 else s.lay (fx k) 0 0
def eB (h:Nat):List Int->Nat->Em->Em
 | [],_,s=>s
 | l::r,i,s=>eB h r (i+1) (if l=(h:Int) then s.lay 19 i 0 else s)
def bdy (lv:List Int)(t:Tr):Tr:=fun ar u s=>t (ar+1) u (eB (ar+1) lv 0 s)
def vX (lv:List Int)(t:Tr)(op:Nat)(v:Int):Tr:=fun ar u s =>
 s.fork 24 (fun x=>(((bdy lv t ar u x).lay op s.ws.length 0).lay 25 0 0).con v 2 u) (fun x=>x.con (1-v) 2 u)
def mN (lv:List Int)(t:Tr)(f:Nat->Em->Em):Tr:=fun ar u s =>
 ((f s.ws.length (bdy lv t ar u (s.lay 24 0 0))).lay 13 s.ws.length 0).land s.ws.length
def qua (lv:List Int)(n:Int)(a t:Tr):Tr:=fun ar u s =>
 if n=1 then vX lv t 15 0 ar u (a ar u s) else if n=2 then vX lv t 14 1 ar u (a ar u s)
 else if n=3 then mN lv t (fun g x=>((x.lay 14 g 0).con 1 1 (u+1)).lay 6 0 0) ar (u+1) ((a ar u s).con 0 1 u)
 else if n=4 then mN lv t (fun _ x=>x.lay 6 0 0) ar (u+1) ((a ar u s).con 0 1 u)
 else (mN lv t (fun _ x=>x.lay 26 (n-5).toNat 0) ar (u+2) (((a ar u s).con 0 1 u).con 0 2 (u+1))).lay 27 0 0
abbrev noT:Tr:=fun _ _ s=>s
def prt (lv:List Int)(k n:Int)(nm:List UInt8)(kk:List Int)(T:List Tr):Tr:=fun ar u s =>
 if k=1 then s.con n 1 u else if k=2 then s.con n 2 u else if k=3 then (s.kc n).push 2 (s.cs.idxOf n) 0 u else if k=5 then s.push 3 n.toNat 0 u
 else if k=17 then (T.getD 0 noT ar u s).fork 14 (T.getD 1 noT ar u) (fun x=>x.con 0 2 u)
 else if k=18 then (T.getD 0 noT ar u s).fork 15 (T.getD 1 noT ar u) (fun x=>x.con 1 2 u)
 else if k=19 then (T.getD 0 noT ar u s).fork 14 (T.getD 1 noT ar u) (T.getD 2 noT ar u)
 else if k=26 then ((T.getD 0 noT ar u ((s.cel n.toNat (kk.getD 0 0)).lay 17 n.toNat 0)).lay 18 n.toNat 0).land s.ws.length
 else if k=21 then qua lv n (T.getD 0 noT) (T.getD 1 noT) ar u s
 else opr k n nm kk (kH T 0 ar u s)
def emF (lv:List Int):Fs->List Tr
 | ⟨none⟩=>[]
 | ⟨some ⟨k,n,nm,_,ks,r⟩⟩=>prt lv k n nm (kdF ks) (emF lv ks)::emF lv r
def emE (lv:List Int)(e:Ex):Tr:=prt lv e.k e.n e.nm (kdF e.kids) (emF lv e.kids)
def em0 (lv:List Int):Em:=⟨[],[],[],List.replicate lv.length 1,0⟩
def emA (lv:List Int)(e:Ex):Em:=(emE lv e 0 0 (em0 lv)).lay 0 0 0
def Em.mes (s:Em):Nat:=s.ws.length+s.cs.length+s.ns.length
theorem Em.mes_lay (s:Em)(op a b:Nat):(s.lay op a b).mes=s.mes+1:=by simp[Em.mes,Em.lay];omega
theorem Em.mes_push (s:Em)(op a b u:Nat):(s.push op a b u).mes=s.mes+1:=by simp[Em.mes,Em.push];omega
theorem Em.mes_kc (s:Em)(n:Int):(s.kc n).mes<=s.mes+1:=by simp only[Em.mes,Em.kc];split<;>simp<;>omega
theorem Em.mes_kn (s:Em)(n:List UInt8):(s.kn n).mes<=s.mes+1:=by simp only[Em.mes,Em.kn];split<;>simp<;>omega
theorem Em.mes_con (s:Em)(n:Int)(kd u:Nat):(s.con n kd u).mes<=s.mes+2:=by
 unfold Em.con;rw[Em.mes_push]
 have:=s.mes_kc n
 omega
theorem Em.mes_land (s:Em)(i:Nat):(s.land i).mes=s.mes:=by simp[Em.mes,Em.land]
def okN (nc:Nat)(k n:Int)(nm:List UInt8)(len:Nat):Prop:=aD k n nm len=true/\(k=5->n<=3)/\(k=26->0<=n/\n<(nc:Int))/\(-9223372036854775808<=n/\n<=9223372036854775807)
def okF (nc:Nat):Fs->Prop
 | ⟨none⟩=>True
 | ⟨some ⟨k,n,nm,_,ks,r⟩⟩=>okN nc k n nm ks.len/\okF nc ks/\okF nc r
def okE (nc:Nat)(e:Ex):Prop:=okN nc e.k e.n e.nm e.kids.len/\okF nc e.kids
open Go.ChangeShapes Go.WideShapes Go.ChangeAt Go.RowKit Go.Maps
theorem lJ {P:Program}{K:TypeId}{R:Value->Option (DataW Unit × List MemPlace)}{w:World}{b n:Nat}{D:DataW Unit}(h:w.ownsMap P K R b n D):w.ownsMap P K R b (Maps.size D) D:=by
 obtain⟨es,clock,hb,F,hs,rfl⟩:=h;exact⟨es,clock,hb,F,by simp[Maps.size,length_sorted],rfl⟩
theorem gU {P:Program}{K:TypeId}{R:Value->Option (DataW Unit × List MemPlace)}{w w':World}{o o':Nat->Nat}{I:Nat->Prop}{b n:Nat}{D:DataW Unit}(h:w.ownsMap P K R b n D)(s:aa I w o w' o')(hi:¬I (o b)):w'.ownsMap P K R b n D:=by
 have hlt:=h.lt;obtain⟨es,clock,hb,F,hs,hD⟩:=h;exact⟨es,clock,(s.block b hlt hi).trans hb,F,hs,hD⟩
theorem iV {w w':World}{o:Nat->Nat}{b i:Nat}(h:w.mapTurned w' b)(hb:o b=i):aa (fun k=>k=i) w o w' o :=
 let g:=h.grown
 ⟨g.os,g.tape,g.output,g.size,fun _ _=>rfl,fun k hk hn=>g.block k hk (fun e=>hn (by cases e;exact hb))⟩
def jH:Value->Option (DataW Unit × List MemPlace)
 | .int .i64 a=>some (.lit (.int .i64 a),[])
 | _=>none
theorem lV {v:Value}{a:Int}{ps:List MemPlace}(h:jH v=some (.lit (.int .i64 a),ps)):v=.int .i64 a:=by
 unfold jH at h;split at h
 ·simp at h;rw[h.1]
 ·cases h
theorem kj {v:Value}{y:DataW Unit × List MemPlace}(h:jH v=some y):∃a,v=.int .i64 a:=by
 unfold jH at h;split at h
 ·exact⟨_,rfl⟩
 ·cases h
theorem n9 (w:World):(zeroValue 3).run Tryz.prog w=.ok (.int .i64 0) w:=by kernel_rfl
theorem kU:Keyed Tryz.prog 3:=int_keyed Tryz.underlying3
theorem kV:Keyed Tryz.prog 9:=string_keyed Tryz.underlying9
theorem Ch (k:Int)(h:-9223372036854775808<=k/\k<=9223372036854775807):keyOf Tryz.prog 3 (.int .i64 k)=some (.int .i64 k):=keyOf_int_mk Tryz.underlying3 (WalkArith.wf_i64 (by have:=h.1;have:=h.2;omega))
theorem Cg (x:List UInt8)(h:x.length<=maxLen):keyOf Tryz.prog 9 (stv x)=some (.string x):=by
 have:=WideMaps.keyOf_string_mk (P:=Tryz.prog) Tryz.underlying9 (s:=⟨x.toArray⟩) (by rw[show (⟨x.toArray⟩:ByteArray).size=x.toArray.size from rfl];simpa using h)
 simpa using this
theorem ub {α:Type}[BEq α][LawfulBEq α]{l:List α}{x:α}(h:x ∉ l):(l++[x]).idxOf x=l.length:=by
 rw[List.idxOf_append,if_neg h];simp
theorem tY {α:Type}[BEq α][LawfulBEq α]{l:List α}{x y:α}(h:y ∈ l):(l++[x]).idxOf y=l.idxOf y:=by
 rw[List.idxOf_append,if_pos h]
theorem jd {α:Type}[BEq α][LawfulBEq α]{l:List α}{x:α}(h:x ∉ l):l.idxOf x=l.length:=List.idxOf_eq_length h
def MpC (w:World)(o:Nat->Nat)(i b:Nat)(l:List (Int)):Prop :=
 ∃D:DataW Unit,w.ownsMap Tryz.prog 3 jH b l.length D/\Maps.size D=l.length/\o b=i /\
  ∀ k:Int,Maps.has D (.int .i64 k)=decide (k ∈ l)/\(k ∈ l->D.atKey (.int .i64 k) (.lit (.int .i64 0))=.lit (.int .i64 (l.idxOf k:Nat)))
theorem MpC.step {I:Nat->Prop}{w w':World}{o o':Nat->Nat}{i b:Nat}{l:List (Int)}(h:MpC w o i b l)(s:aa I w o w' o')(hi:¬I i):MpC w' o' i b l:=by
 obtain⟨D,h1,h2,h3,h4⟩:=h;exact⟨D,gU h1 s (by rw[h3];exact hi),h2,(s.lab b h1.lt).trans h3,h4⟩
theorem MpC.made (w:World)(o:Nat->Nat)(i:Nat):MpC (w.alloc (.map #[] 0)) (ae w o i) i w.heap.size [] :=
 ⟨.map [],World.ownsMap_made _ _ _ _,rfl,ax (Nat.le_refl _),fun k=>⟨by simp[Maps.has],fun h=>by simp at h⟩⟩
theorem MpC.look {w:World}{o:Nat->Nat}{i b:Nat}{l:List (Int)}(h:MpC w o i b l)(k:Int)(hk:-9223372036854775808<=k/\k<=9223372036854775807)(hm:k ∈ l) :
  (Instr.lookup 92 (.map (some b)) (.int .i64 k) true).run Tryz.prog w=.ok (.tuple #[.int .i64 (l.idxOf k:Nat),.bool true]) w:=by
 obtain⟨D,h1,h2,h3,h4⟩:=h;obtain⟨c,ps,hr,hc⟩:=h1.look_ok kU Tryz.underlying92 (n9 w) (zd:=.lit (.int .i64 0)) (zp:=[]) rfl (Ch k hk);rw[(h4 k).2 hm] at hc;rw[(h4 k).1,lV hc,decide_eq_true hm] at hr;exact hr
theorem MpC.miss {w:World}{o:Nat->Nat}{i b:Nat}{l:List (Int)}(h:MpC w o i b l)(k:Int)(hk:-9223372036854775808<=k/\k<=9223372036854775807)(hm:k ∉ l) :
  ∃x:Int,(Instr.lookup 92 (.map (some b)) (.int .i64 k) true).run Tryz.prog w=.ok (.tuple #[.int .i64 x,.bool false]) w:=by
 obtain⟨D,h1,h2,h3,h4⟩:=h;obtain⟨c,ps,hr,hc⟩:=h1.look_ok kU Tryz.underlying92 (n9 w) (zd:=.lit (.int .i64 0)) (zp:=[]) rfl (Ch k hk);obtain⟨x,rfl⟩:=kj hc;rw[(h4 k).1,decide_eq_false hm] at hr;exact⟨x,hr⟩
theorem MpC.put {w:World}{o:Nat->Nat}{i b:Nat}{l:List (Int)}(h:MpC w o i b l)(k:Int)(hk:-9223372036854775808<=k/\k<=9223372036854775807)(hm:k ∉ l)(hl:l.length<=1000000000) :
  ∃w',(Instr.mapUpdate 92 (.map (some b)) (.int .i64 k) (.int .i64 (l.length:Nat))).run Tryz.prog w=.ok () w'/\MpC w' o i b (l++[k])/\aa (fun k=>k=i) w o w' o:=by
 obtain⟨D,h1,h2,h3,h4⟩:=h;obtain⟨w',hr,ho,ht⟩:=h1.store (val:=.int .i64 (l.length:Nat)) (d:=.lit (.int .i64 (l.length:Nat))) (ps:=[]) kU Tryz.underlying92 (by unfold maxLen;omega) (Ch k hk) rfl;have hsz:Maps.size (D.put (.int .i64 k) (.lit (.int .i64 (l.length:Nat))))=l.length+1:=by
  rw[size_put (h1.tidy kU),h2,(h4 k).1,decide_eq_false hm];simp
 have ho':=lJ ho;rw[hsz] at ho';refine⟨w',hr,⟨_,by rw[List.length_append];exact ho',by rw[hsz,List.length_append];rfl,h3,fun y=>?_⟩,iV ht h3⟩;by_cases e:y=k
 ·subst e;rw[has_put_same h1.isMap (show WideAt.IsKeyLit (.int .i64 y) from trivial),atKey_put_same h1.isMap (show WideAt.IsKeyLit (.int .i64 y) from trivial),ub hm];exact⟨by simp,fun _=>rfl⟩
 ·have hne:Lit.int .i64 y≠Lit.int .i64 k:=fun h=>e (by simpa using h);rw[has_put_other hne,atKey_put_other hne,(h4 y).1];refine⟨by simp[e],fun hy=>?_⟩;have hy2:y ∈ l:=by simpa [e] using hy
  rw[tY hy2];exact(h4 y).2 hy2
def MpS (w:World)(o:Nat->Nat)(i b:Nat)(l:List (List UInt8)):Prop :=
 ∃D:DataW Unit,w.ownsMap Tryz.prog 9 jH b l.length D/\Maps.size D=l.length/\o b=i /\
  ∀ k:List UInt8,Maps.has D (.string k)=decide (k ∈ l)/\(k ∈ l->D.atKey (.string k) (.lit (.int .i64 0))=.lit (.int .i64 (l.idxOf k:Nat)))
theorem MpS.step {I:Nat->Prop}{w w':World}{o o':Nat->Nat}{i b:Nat}{l:List (List UInt8)}(h:MpS w o i b l)(s:aa I w o w' o')(hi:¬I i):MpS w' o' i b l:=by
 obtain⟨D,h1,h2,h3,h4⟩:=h;exact⟨D,gU h1 s (by rw[h3];exact hi),h2,(s.lab b h1.lt).trans h3,h4⟩
theorem MpS.made (w:World)(o:Nat->Nat)(i:Nat):MpS (w.alloc (.map #[] 0)) (ae w o i) i w.heap.size [] :=
 ⟨.map [],World.ownsMap_made _ _ _ _,rfl,ax (Nat.le_refl _),fun k=>⟨by simp[Maps.has],fun h=>by simp at h⟩⟩
theorem MpS.look {w:World}{o:Nat->Nat}{i b:Nat}{l:List (List UInt8)}(h:MpS w o i b l)(k:List UInt8)(hk:k.length<=maxLen)(hm:k ∈ l) :
  (Instr.lookup 93 (.map (some b)) (stv k) true).run Tryz.prog w=.ok (.tuple #[.int .i64 (l.idxOf k:Nat),.bool true]) w:=by
 obtain⟨D,h1,h2,h3,h4⟩:=h;obtain⟨c,ps,hr,hc⟩:=h1.look_ok kV Tryz.underlying93 (n9 w) (zd:=.lit (.int .i64 0)) (zp:=[]) rfl (Cg k hk);rw[(h4 k).2 hm] at hc;rw[(h4 k).1,lV hc,decide_eq_true hm] at hr;exact hr
theorem MpS.miss {w:World}{o:Nat->Nat}{i b:Nat}{l:List (List UInt8)}(h:MpS w o i b l)(k:List UInt8)(hk:k.length<=maxLen)(hm:k ∉ l) :
  ∃x:Int,(Instr.lookup 93 (.map (some b)) (stv k) true).run Tryz.prog w=.ok (.tuple #[.int .i64 x,.bool false]) w:=by
 obtain⟨D,h1,h2,h3,h4⟩:=h;obtain⟨c,ps,hr,hc⟩:=h1.look_ok kV Tryz.underlying93 (n9 w) (zd:=.lit (.int .i64 0)) (zp:=[]) rfl (Cg k hk);obtain⟨x,rfl⟩:=kj hc;rw[(h4 k).1,decide_eq_false hm] at hr;exact⟨x,hr⟩
theorem MpS.put {w:World}{o:Nat->Nat}{i b:Nat}{l:List (List UInt8)}(h:MpS w o i b l)(k:List UInt8)(hk:k.length<=maxLen)(hm:k ∉ l)(hl:l.length<=1000000000) :
  ∃w',(Instr.mapUpdate 93 (.map (some b)) (stv k) (.int .i64 (l.length:Nat))).run Tryz.prog w=.ok () w'/\MpS w' o i b (l++[k])/\aa (fun k=>k=i) w o w' o:=by
 obtain⟨D,h1,h2,h3,h4⟩:=h;obtain⟨w',hr,ho,ht⟩:=h1.store (val:=.int .i64 (l.length:Nat)) (d:=.lit (.int .i64 (l.length:Nat))) (ps:=[]) kV Tryz.underlying93 (by unfold maxLen;omega) (Cg k hk) rfl;have hsz:Maps.size (D.put (.string k) (.lit (.int .i64 (l.length:Nat))))=l.length+1:=by
  rw[size_put (h1.tidy kV),h2,(h4 k).1,decide_eq_false hm];simp
 have ho':=lJ ho;rw[hsz] at ho';refine⟨w',hr,⟨_,by rw[List.length_append];exact ho',by rw[hsz,List.length_append];rfl,h3,fun y=>?_⟩,iV ht h3⟩;by_cases e:y=k
 ·subst e;rw[has_put_same h1.isMap (show WideAt.IsKeyLit (.string y) from trivial),atKey_put_same h1.isMap (show WideAt.IsKeyLit (.string y) from trivial),ub hm];exact⟨by simp,fun _=>rfl⟩
 ·have hne:Lit.string y≠Lit.string k:=fun h=>e (by simpa using h);rw[has_put_other hne,atKey_put_other hne,(h4 y).1];refine⟨by simp[e],fun hy=>?_⟩;have hy2:y ∈ l:=by simpa [e] using hy
  rw[tY hy2];exact(h4 y).2 hy2
open Go.RowKit
theorem fI (n:Int)(h1:-9223372036854775808<=n)(h2:n<=9223372036854775807):wrap64 n=n:=by
 unfold wrap64;omega
theorem zi (x y:Int)(h1:0<=x)(h2:x<68719476736)(h3:0<=y)(h4:y<268435456):bits .or .u64 (x*268435456) y=x*268435456+y:=by
 rw[u64_or _ _ (by omega) (by omega) (by omega) (by omega),nat_join 28 _ _ (by omega) (by omega)];omega
theorem Ag (o a b:Int)(h1:0<=o)(h2:o<=255)(h3:0<=a)(h4:a<=268435455)(h5:0<=b)(h6:b<=268435455) :
  bits .or .u64 (bits .or .u64 (o*72057594037927936) (a*268435456)) b=(o*268435456+a)*268435456+b:=by
 have e:bits .or .u64 (o*72057594037927936) (a*268435456)=(o*268435456+a)*268435456:=by
  rw[u64_or _ _ (by omega) (by omega) (by omega) (by omega),nat_join 56 _ _ (by omega) (by omega)];omega
 rw[e,zi _ _ (by omega) (by omega) h5 (by omega)]
theorem yc (u:Int)(h1:0<=u)(h2:u<18446744073709551616):wrap64 (bits .and .u64 (u / 72057594037927936) 255)=u / 72057594037927936:=by
 rw[u64_and _ _ (by omega) (by omega) (by omega) (by omega),show (255:Int).toNat=255 from rfl,nat_mask8,fI _ (by omega) (by omega)];omega
theorem lW (x:Nat):x &&& 268435455=x % 268435456:=Nat.and_two_pow_sub_one_eq_mod x 28
theorem wU (u:Int)(h1:0<=u)(h2:u<18446744073709551616):wrap64 (bits .and .u64 (u / 268435456) 268435455)=u / 268435456 % 268435456:=by
 rw[u64_and _ _ (by omega) (by omega) (by omega) (by omega),show (268435455:Int).toNat=268435455 from rfl,lW,fI _ (by omega) (by omega)];omega
theorem yg (u:Int)(h1:0<=u)(h2:u<18446744073709551616):wrap64 (bits .and .u64 u 268435455)=u % 268435456:=by
 rw[u64_and _ _ (by omega) (by omega) (by omega) (by omega),show (268435455:Int).toNat=268435455 from rfl,lW,fI _ (by omega) (by omega)];omega
open Go.ChangeShapes Go.WideShapes Go.ChangeAt Go.RowKit
theorem gTab : Tryz.prog.globalNamed "isthmus/pack.fields" = some 2 := by kernel_rfl
theorem wL:(Tryz.prog.globals[2]?).map (·.type)=some 264:=by kernel_rfl
theorem yN:Tryz.prog.cellsOf 264=6:=by kernel_rfl
theorem lh:Tryz.prog.cellsOf 263=2:=by kernel_rfl
theorem uI:Tryz.prog.cellsOf 202=1:=by kernel_rfl
theorem pT:Tryz.prog.cellsOf 54=1:=by kernel_rfl
def Tab (w:World):Prop :=
 w.cell? ⟨2,0,none⟩=some (.int .u64 56)/\w.cell? ⟨2,1,none⟩=some (.int .u64 255)/\w.cell? ⟨2,2,none⟩=some (.int .u64 28) /\
 w.cell? ⟨2,3,none⟩=some (.int .u64 268435455)/\w.cell? ⟨2,4,none⟩=some (.int .u64 0)/\w.cell? ⟨2,5,none⟩=some (.int .u64 268435455)/\2<w.heap.size
theorem Tab.below {w w':World}(h:Tab w)(hb:Below w.heap.size w w'):Tab w':=by
 obtain⟨h0,h1,h2,h3,h4,h5,hs⟩:=h;refine⟨?_,?_,?_,?_,?_,?_,Nat.lt_of_lt_of_le hs hb.size⟩
 ·exact(hb.cell (p:=⟨2,0,none⟩) hs).trans h0
 ·exact(hb.cell (p:=⟨2,1,none⟩) hs).trans h1
 ·exact(hb.cell (p:=⟨2,2,none⟩) hs).trans h2
 ·exact(hb.cell (p:=⟨2,3,none⟩) hs).trans h3
 ·exact(hb.cell (p:=⟨2,4,none⟩) hs).trans h4
 ·exact(hb.cell (p:=⟨2,5,none⟩) hs).trans h5
theorem gN (w:World)(n:Nat):Below w.heap.size w (w.drewN n):=by
 have key:∀ (n:Nat) (v:World),Below w.heap.size w v->Below w.heap.size w (v.drewN n):=by
  intro n
  induction n with
  | zero=>intro v h;exact h
  | succ n ih=>intro v h;exact(ih v h).drew
 exact key n w (Below.refl _ _)
theorem BC {a b c:World}(h:Below a.heap.size a b)(k:Below b.heap.size b c):Below a.heap.size a c:=h.trans (k.mono h.size)
theorem uX (n:Int)(w:World)(hT:Tab w)(h1:0<=n)(h2:n<=255) :
  Calls Tryz.prog 158 #[.int .i64 0,.int .i64 n] w fun e w'=>e=.returned (.bool true)/\w'=w:=by
 have hc:=hT.2.1;go_enter Tryz.func158,Tryz.ntmps158;go_wp2;go_ret;exact⟨bC (by simp;try omega),rfl⟩
theorem uV (n:Int)(w:World)(hT:Tab w)(h1:0<=n)(h2:n<=268435455) :
  Calls Tryz.prog 158 #[.int .i64 1,.int .i64 n] w fun e w'=>e=.returned (.bool true)/\w'=w:=by
 have hc:=hT.2.2.2.1;go_enter Tryz.func158,Tryz.ntmps158;go_wp2;go_ret;exact⟨bC (by simp;try omega),rfl⟩
theorem vl (n:Int)(w:World)(hT:Tab w)(h1:0<=n)(h2:n<=268435455) :
  Calls Tryz.prog 158 #[.int .i64 2,.int .i64 n] w fun e w'=>e=.returned (.bool true)/\w'=w:=by
 have hc:=hT.2.2.2.2.2.1;go_enter Tryz.func158,Tryz.ntmps158;go_wp2;go_ret;exact⟨bC (by simp;try omega),rfl⟩
theorem lay0 (n:Int)(w:World)(hT:Tab w)(h1:0<=n)(h2:n<=255) :
  Calls Tryz.prog 159 #[.int .i64 0,.int .i64 n] w fun e w'=>e=.returned (.int .u64 (n*72057594037927936))/\w'=w:=by
 have hc:=hT.1;go_enter Tryz.func159,Tryz.ntmps159;go_wp2;go_ret;exact⟨rfl,rfl⟩
theorem lay1 (n:Int)(w:World)(hT:Tab w)(h1:0<=n)(h2:n<=268435455) :
  Calls Tryz.prog 159 #[.int .i64 1,.int .i64 n] w fun e w'=>e=.returned (.int .u64 (n*268435456))/\w'=w:=by
 have hc:=hT.2.2.1;go_enter Tryz.func159,Tryz.ntmps159;go_wp2;go_ret;exact⟨rfl,rfl⟩
theorem lay2 (n:Int)(w:World)(hT:Tab w)(h1:0<=n)(h2:n<=268435455) :
  Calls Tryz.prog 159 #[.int .i64 2,.int .i64 n] w fun e w'=>e=.returned (.int .u64 n)/\w'=w:=by
 have hc:=hT.2.2.2.2.1;go_enter Tryz.func159,Tryz.ntmps159;go_wp2;go_ret;exact⟨kX (by simp),rfl⟩
theorem DN (u:Int)(w:World)(hT:Tab w)(h1:0<=u)(h2:u<18446744073709551616) :
  Calls Tryz.prog 229 #[.int .i64 0,.int .u64 u] w fun e w'=>e=.returned (.int .i64 (u / 72057594037927936))/\Below w.heap.size w w':=by
 have hc:=hT.1;have hd:=hT.2.1;go_enter Tryz.func229,Tryz.ntmps229;go_wp2
 go_quiet (fail)
 go_wp2;go_ret;exact⟨kX (yc u h1 h2),gN _ _⟩
theorem Ev (u:Int)(w:World)(hT:Tab w)(h1:0<=u)(h2:u<18446744073709551616) :
  Calls Tryz.prog 229 #[.int .i64 1,.int .u64 u] w fun e w'=>e=.returned (.int .i64 (u / 268435456 % 268435456))/\Below w.heap.size w w':=by
 have hc:=hT.2.2.1;have hd:=hT.2.2.2.1;go_enter Tryz.func229,Tryz.ntmps229;go_wp2
 go_quiet (fail)
 go_wp2;go_ret;exact⟨kX (wU u h1 h2),gN _ _⟩
theorem D1 (u:Int)(w:World)(hT:Tab w)(h1:0<=u)(h2:u<18446744073709551616) :
  Calls Tryz.prog 229 #[.int .i64 2,.int .u64 u] w fun e w'=>e=.returned (.int .i64 (u % 268435456))/\Below w.heap.size w w':=by
 have hc:=hT.2.2.2.2.1;have hd:=hT.2.2.2.2.2.1;go_enter Tryz.func229,Tryz.ntmps229;go_wp2
 go_quiet (fail)
 go_wp2;go_ret;exact⟨kX (by simpa using yg u h1 h2),gN _ _⟩
theorem AS {k l:IntKind}{a b c:Int}(h:a=b):Ending.returned (.tuple #[.int k a,.int l c])=.returned (.tuple #[.int k b,.int l c]):=by rw[h]
theorem qr (o a b:Int)(w:World)(hT:Tab w)(h1:0<=o)(h2:o<=255)(h3:0<=a)(h4:a<=268435455)(h5:0<=b)(h6:b<=268435455) :
  Calls Tryz.prog 98 #[.int .i64 o,.int .i64 a,.int .i64 b] w fun e w' =>
   e=.returned (.tuple #[.int .u64 ((o*268435456+a)*268435456+b),.int .i64 0])/\w'=w:=by
 go_enter Tryz.func98,Tryz.ntmps98;go_wp2_with fail;refine(uX o w hT h1 h2).mono ?_;rintro e w1 ⟨rfl,rfl⟩;go_wp2_with fail;refine(uV a _ hT h3 h4).mono ?_;rintro e w1 ⟨rfl,rfl⟩;go_wp2_with fail;refine(vl b _ hT h5 h6).mono ?_;rintro e w1 ⟨rfl,rfl⟩;go_wp2_with fail;refine(lay0 o _ hT h1 h2).mono ?_;rintro e w1 ⟨rfl,rfl⟩;go_wp2_with fail;refine(lay1 a _ hT h3 h4).mono ?_;rintro e w1 ⟨rfl,rfl⟩;go_wp2_with fail;refine(lay2 b _ hT h5 h6).mono ?_;rintro e w1 ⟨rfl,rfl⟩;go_wp2;go_ret2;exact⟨AS (Ag o a b h1 h2 h3 h4 h5 h6),rfl⟩
theorem uj (u:Int)(w:World)(hT:Tab w)(h1:0<=u)(h2:u<18446744073709551616) :
  Calls Tryz.prog 169 #[.int .u64 u] w fun e w' =>
   e=.returned (.tuple #[.int .i64 (u / 72057594037927936),.int .i64 (u / 268435456 % 268435456),.int .i64 (u % 268435456)])/\Below w.heap.size w w':=by
 go_enter Tryz.func169,Tryz.ntmps169;go_wp2_with fail;refine(DN u w hT h1 h2).mono ?_;rintro e w1 ⟨rfl,hb1⟩;have hT1:=hT.below hb1;go_wp2_with fail;refine(Ev u w1 hT1 h1 h2).mono ?_;rintro e w2 ⟨rfl,hb2⟩;have hT2:=hT1.below hb2;go_wp2_with fail;refine(D1 u w2 hT2 h1 h2).mono ?_;rintro e w3 ⟨rfl,hb3⟩;go_wp2;go_ret3;exact⟨rfl,BC (BC hb1 hb2) hb3⟩
abbrev I17:Nat->Prop:=fun k=>1<=k/\k<=7
theorem cC {i:Nat}(h:1<=i/\i<=7):∀ k,k=i->I17 k:=fun k hk=>by subst hk;exact h
def eP (x:Wo):Int:=((x.op:Int)*268435456+(x.a:Int))*268435456+(x.b:Int)
def Wo.ok (x:Wo):Prop:=x.op<=255/\x.a<=268435455/\x.b<=268435455
theorem zw {x:Wo}(h:x.ok):0<=eP x/\eP x<18446744073709551616:=by
 obtain⟨h1,h2,h3⟩:=h;unfold eP;omega
theorem rI {x:Wo}(h:x.ok):eP x / 72057594037927936=(x.op:Int)/\eP x / 268435456 % 268435456=(x.a:Int)/\eP x % 268435456=(x.b:Int):=by
 obtain⟨h1,h2,h3⟩:=h;unfold eP;omega
def woV (l:List Wo):List Value:=l.map fun x=>.int .u64 (eP x)
def eiV (l:List Int):List Value:=l.map (.int .i64 ·)
def esV (l:List (List UInt8)):List Value:=l.map stv
structure EmW (w:World)(o:Nat->Nat)(rb:Nat)(lv:Value)(s:Em):Prop where
 ok:∀ x ∈ s.ws,x.ok
 ci:∀ n ∈ s.cs,-9223372036854775808<=n/\n<=9223372036854775807
 ni:∀ x ∈ s.ns,x.length<=maxLen
 mem:∃vw vc vn vk mc mn,Blk w o 1 rb (.cells #[vw,vc,vn,vk,.map (some mc),.map (some mn),lv,.int .i64 (s.dp:Nat)] 95) /\
  Row w o 2 54 1 vw s.ws.length (woV s.ws)/\Row w o 3 3 1 vc s.cs.length (eiV s.cs)/\Row w o 4 9 1 vn s.ns.length (esV s.ns)/\Row w o 5 3 1 vk s.ks.length (eiV s.ks) /\
  MpC w o 6 mc s.cs/\MpS w o 7 mn s.ns
theorem EmW.step {I:Nat->Prop}{w w':World}{o o':Nat->Nat}{rb:Nat}{lv:Value}{s:Em}(h:EmW w o rb lv s)(x:aa I w o w' o')(hi:∀ k,I17 k->¬I k):EmW w' o' rb lv s:=by
 obtain⟨h1,h2,h3,vw,vc,vn,vk,mc,mn,q0,q1,q2,q3,q4,q5,q6⟩:=h;exact⟨h1,h2,h3,vw,vc,vn,vk,mc,mn,q0.step x (hi 1 (by decide)),q1.step x (hi 2 (by decide)),q2.step x (hi 3 (by decide)),q3.step x (hi 4 (by decide)),q4.step x (hi 5 (by decide)),q5.step x (hi 6 (by decide)),q6.step x (hi 7 (by decide))⟩
theorem EmW.below {w w':World}{o:Nat->Nat}{rb:Nat}{lv:Value}{s:Em}(h:EmW w o rb lv s)(b:Below w.heap.size w w'):EmW w' o rb lv s :=
 h.step (aa.ofBelow (I:=fun _=>False) o b) (fun _ _=>id)
theorem dZ {w:World}{b:Nat}{x0 x1 x2 x3 x4 x5 x6 x7:Value}{t:TypeId}(h:w.heap[b]?=some (.cells #[x0,x1,x2,x3,x4,x5,x6,x7] t)):(w.cell? ⟨b,0,none⟩=some x0/\w.cell? ⟨b,1,none⟩=some x1/\w.cell? ⟨b,2,none⟩=some x2/\w.cell? ⟨b,3,none⟩=some x3/\w.cell? ⟨b,4,none⟩=some x4/\w.cell? ⟨b,5,none⟩=some x5/\w.cell? ⟨b,6,none⟩=some x6/\w.cell? ⟨b,7,none⟩=some x7)/\∀ j,w.frozen? ⟨b,j,none⟩=false:=by
 refine⟨⟨?_,?_,?_,?_,?_,?_,?_,?_⟩,fun j=>?_⟩<;>simp[World.cell?,World.frozen?,h]
structure EmX (w:World)(o:Nat->Nat)(lv:Value)(ls:List Int):Prop where
 tab:Tab w
 tl:o 2=0
 bar:∀ k:Nat,k<25->w.cell? ⟨0,k,none⟩=some (.int .i64 ([0,0,0,0,0,0,4,5,6,7,8,9,10,0,0,0,0,0,0,0,0,0,20,0,22].getD k 0))
 bl:o 0=0/\0<w.heap.size
 lvs:∃ao cap,lv=.slice ao ls.length cap/\(ls=[]\/∃b off,ao=some ⟨b,off,none⟩/\o b=0/\b<w.heap.size/\∀ j x,ls[j]?=some x->w.cell? ⟨b,off+j,none⟩=some (.int .i64 x))
theorem EmX.step {I:Nat->Prop}{w w':World}{o o':Nat->Nat}{lv:Value}{ls:List Int}(h:EmX w o lv ls)(x:aa I w o w' o')(hi:¬I 0):EmX w' o' lv ls:=by
 obtain⟨h1,h2,h3,⟨h4,h5⟩,ao,cap,h6,h7⟩:=h;have hs:2<w.heap.size:=h1.2.2.2.2.2.2;have hb:=x.block 2 hs (by rw[h2];exact hi);have hb2:=x.block 0 h5 (by rw[h4];exact hi);refine⟨?_,(x.lab _ hs).trans h2,fun k hk=>(World.cell?_of_block (a:=⟨0,k,none⟩) hb2).trans (h3 k hk),⟨(x.lab _ h5).trans h4,Nat.lt_of_lt_of_le h5 x.size⟩,ao,cap,h6,?_⟩
 ·obtain⟨e0,e1,e2,e3,e4,e5,e6⟩:=h1;exact⟨(World.cell?_of_block (a:=⟨2,0,none⟩) hb).trans e0,(World.cell?_of_block (a:=⟨2,1,none⟩) hb).trans e1,(World.cell?_of_block (a:=⟨2,2,none⟩) hb).trans e2,(World.cell?_of_block (a:=⟨2,3,none⟩) hb).trans e3,(World.cell?_of_block (a:=⟨2,4,none⟩) hb).trans e4,(World.cell?_of_block (a:=⟨2,5,none⟩) hb).trans e5,Nat.lt_of_lt_of_le e6 x.size⟩
 ·rcases h7 with h7|⟨b,off,e1,e2,e3,e4⟩
  ·exact .inl h7
  ·exact .inr ⟨b,off,e1,(x.lab b e3).trans e2,Nat.lt_of_lt_of_le e3 x.size,fun j y hy=>(World.cell?_of_block (a:=⟨b,off+j,none⟩) (x.block b e3 (by rw[e2];exact hi))).trans (e4 j y hy)⟩
theorem EmX.below {w w':World}{o:Nat->Nat}{lv:Value}{ls:List Int}(h:EmX w o lv ls)(b:Below w.heap.size w w'):EmX w' o lv ls:=h.step (aa.ofBelow (I:=fun _=>False) o b) id
def j6 (w:World)(o:Nat->Nat)(rb:Nat)(lv:Value)(s:Em)(v:Value)(e:Ending)(w':World):Prop:=e=.returned v/\∃o',EmW w' o' rb lv s/\aa I17 w o w' o'
abbrev SnO (w:World)(o:Nat->Nat)(f:Fs)(ao:Option Addr):Prop:=SlN w (fun b=>o b=0) f ao
theorem SlN.stepO {I:Nat->Prop}{w w':World}{o o':Nat->Nat}{f:Fs}{ao:Option Addr}(h:SnO w o f ao)(x:aa I w o w' o')(hi:¬I 0):SnO w' o' f ao :=
 h.mono (fun k hk hl=>x.block k hl (by rw[hk];exact hi)) x.size (fun k hk hl=>(x.lab k hl).trans hk)
end Go.Proofs.YtbjdkekhnajafaaGreatDoor

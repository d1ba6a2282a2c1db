import Derived.Test.YtbjdkekhnajafaaGreatDoorRdqT
import Derived.Lib.AtoiAllCases
import Derived.Laws.BitsAllLaws
import Derived.Laws.Bits64
import Derived.Laws.ShiftsVarLaws
import Derived.Below
import Derived.IntWalk
import Derived.Lib.LaidTab
set_option maxRecDepth 100000
set_option maxHeartbeats 8000000
namespace Go.Proofs.YtbjdkekhnajafaaGreatDoor
set_option linter.unusedVariables false
set_option linter.unusedSimpArgs false
def tkG (x:Tk):Prop:=-9223372036854775808<=x.n/\x.n<=9223372036854775807/\x.t.length<=2000/\x.a<=2000
def Fs.gd:Fs->Prop
 | ⟨none⟩=>True
 | ⟨some⟨_,n,nm,a,ks,r⟩⟩=>-9223372036854775808<=n/\n<=9223372036854775807/\nm.length<=2000/\0<=a/\a<=2000/\ks.gd/\r.gd
theorem Fs.gd_app:∀ {x y:Fs},x.gd->y.gd->(x.app y).gd
 | ⟨none⟩,y,h,k=>k
 | ⟨some⟨_,_,_,_,_,r⟩⟩,y,h,k=>⟨h.1,h.2.1,h.2.2.1,h.2.2.2.1,h.2.2.2.2.1,h.2.2.2.2.2.1,Fs.gd_app h.2.2.2.2.2.2 k⟩
def Ex.gd (e:Ex):Prop:=(one e).gd
def Ex.sz (e:Ex):Nat:=(one e).size
theorem Ex.gd_mk {k n:Int}{nm:List UInt8}{a:Nat}{ks:Fs}(h1:-9223372036854775808<=n)(h2:n<=9223372036854775807)(h3:nm.length<=2000)(h4:a<=2000)(h5:ks.gd):(⟨k,n,nm,(a:Nat),ks⟩:Ex).gd:=⟨h1,h2,h3,by show (0:Int)<=(a:Nat);omega,by show ((a:Nat):Int)<=2000;omega,h5,trivial⟩
theorem Ex.sz_mk (k n:Int)(nm:List UInt8)(a:Int)(ks:Fs):(⟨k,n,nm,a,ks⟩:Ex).sz=ks.size+1:=rfl
theorem ig {x:Fs}{e:Ex}(h:x.gd)(k:e.gd):(x.snoc e).gd:=Fs.gd_app h k
theorem ij (x:Fs)(e:Ex):(x.snoc e).size=x.size+e.sz:=Fs.size_app x (one e)
def Gb {α:Type}(T:List Tk)(b:Nat)(P:α->Prop)(sz:α->Nat)(R:Rs α):Prop:=∀ x t,R=.ok x t->t <:+ T/\P x/\sz x+t.length<=b
section
variable {T:List Tk}
theorem Gb.bind {α β:Type}{b1 b:Nat}{P:α->Prop}{sz:α->Nat}{Q:β->Prop}{sq:β->Nat}{R:Rs α}{f:α->List Tk->Rs β}(h:Gb T b1 P sz R)(hf:∀ x t,t <:+ T->P x->sz x+t.length<=b1->Gb T b Q sq (f x t)):Gb T b Q sq (R.bind f):=by
 cases R using Rs.on with
 | out=>intro x t e;cases e
 | bad e a=>intro x t e;cases e
 | ok x t =>
  obtain⟨h1,h2,h3⟩:=h x t rfl;exact hf x t h1 h2 h3
theorem Gb.bad {α:Type}{b e a:Nat}{P:α->Prop}{sz:α->Nat}:Gb T b P sz (.bad e a:Rs α):=fun x t h=>by cases h
theorem Gb.out {α:Type}{b:Nat}{P:α->Prop}{sz:α->Nat}:Gb T b P sz (.out:Rs α):=fun x t h=>by cases h
theorem Gb.ok {α:Type}{b:Nat}{P:α->Prop}{sz:α->Nat}{x:α}{t:List Tk}(h:t <:+ T)(hp:P x)(hs:sz x+t.length<=b):Gb T b P sz (.ok x t):=fun y u e=>by
 obtain⟨e1,e2⟩:=Rs.ok_inj e;subst e1 e2;exact⟨h,hp,hs⟩
theorem fj (HT:∀ y,y ∈ T->tkG y)(s:List UInt8){ts:List Tk}(h:ts <:+ T):Gb T ts.length (fun a=>a<=2000) (fun _=>1) (aW s ts):=by
 cases ts with
 | nil=>exact Gb.out
 | cons x r =>
  simp only[aW];split
  ·exact Gb.ok((List.suffix_cons x r).trans h)(HT x(h.mem(by simp))).2.2.2(by simp;omega)
  ·exact Gb.bad
theorem sO (HT:∀ y,y ∈ T->tkG y)(k:Nat){ts:List Tk}(h:ts <:+ T):Gb T ts.length tkG (fun _=>1) (dO k ts):=by
 cases ts with
 | nil=>exact Gb.out
 | cons x r =>
  simp only[dO];split
  ·exact Gb.ok((List.suffix_cons x r).trans h)(HT x(h.mem(by simp)))(by simp;omega)
  ·exact Gb.bad
theorem gQ (HT:∀ y,y ∈ T->tkG y)(s:List UInt8)(o:Nat){ts:List Tk}(h:ts <:+ T):Gb T ts.length (fun a=>a<=2000) (fun _=>1) (aG s o ts):=by
 cases ts with
 | nil=>exact Gb.out
 | cons x r =>
  simp only[aG];split
  ·split
   ·exact Gb.bad
   ·exact Gb.ok((List.suffix_cons x r).trans h)(HT x(h.mem(by simp))).2.2.2(by simp;omega)
  ·exact Gb.bad
variable {rec:Rdr}
theorem pj (HT:∀ y,y ∈ T->tkG y)(H:∀ row o q ts,ts <:+ T->Gb T ts.length Ex.gd Ex.sz (rec row o q ts)):∀ (j:Nat) (o q:Nat) (acc:Fs) (ts:List Tk) (b:Nat),ts <:+ T->acc.gd->acc.size+ts.length<=b->Gb T b Fs.gd Fs.size (fu rec j o q acc ts)
 | 0,o,q,acc,ts,b,h,hg,hb=>Gb.ok h hg hb
 | j+1,o,q,acc,ts,b,h,hg,hb=>by
  unfold fu;refine(fj HT _ h).bind fun _ t1 h1 _ l1=>(H _ _ _ _ h1).bind fun e t2 h2 p2 l2=>?_;exact pj HT H j o q _ t2 b h2(ig hg p2)(by rw[ij];omega)
theorem ti (HT:∀ y,y ∈ T->tkG y)(H:∀ row o q ts,ts <:+ T->Gb T ts.length Ex.gd Ex.sz (rec row o q ts))(many o q:Nat){ts:List Tk}(h:ts <:+ T):Gb T (ts.length-1) Fs.gd Fs.size (eH rec many o q ts):=by
 unfold eH;refine(gQ HT _ _ h).bind fun _ t1 h1 _ l1=>(H _ _ _ _ h1).bind fun e t2 h2 p2 l2=>?_;refine(pj HT H _ _ _ _ t2 t1.length h2 p2 l2).bind fun ks t3 h3 p3 l3=>?_;exact(fj HT _ h3).bind fun _ t4 h4 _ l4=>Gb.ok h4 p3(by omega)
theorem uB (HT:∀ y,y ∈ T->tkG y)(H:∀ row o q ts,ts <:+ T->Gb T ts.length Ex.gd Ex.sz (rec row o q ts))(o q:Nat){ts:List Tk}(h:ts <:+ T):Gb T ts.length Ex.gd Ex.sz (dw rec o q ts):=by
 unfold dw;refine(gQ HT _ _ h).bind fun a t1 h1 p1 l1=>(H _ _ _ _ h1).bind fun x t2 h2 p2 l2=>?_;refine(fj HT _ h2).bind fun _ t3 h3 _ l3=>(H _ _ _ _ h3).bind fun y t4 h4 p4 l4=>?_;refine(fj HT _ h4).bind fun _ t5 h5 _ l5=>(H _ _ _ _ h5).bind fun z t6 h6 p6 l6=>?_;refine Gb.ok h6(Ex.gd_mk(by omega)(by omega)(by simp) p1(ig(ig p2 p4) p6)) ?_;rw[Ex.sz_mk,ij,ij];show x.sz+y.sz+z.sz+1+_<=_;omega
theorem tB (HT:∀ y,y ∈ T->tkG y)(H:∀ row o q ts,ts <:+ T->Gb T ts.length Ex.gd Ex.sz (rec row o q ts)):∀ (m:Nat) (o q:Nat) (acc:Fs) (ts:List Tk) (b:Nat),ts <:+ T->acc.gd->acc.size+ts.length<=b->Gb T b Fs.gd Fs.size (fP rec m o q acc ts)
 | 0,o,q,acc,ts,b,h,hg,hb=>Gb.out
 | m+1,o,q,acc,[],b,h,hg,hb=>Gb.out
 | m+1,o,q,acc,x::r,b,h,hg,hb=>by
  have _:=HT;unfold fP;simp only;split
  ·simp only[List.length_cons] at hb;refine(H _ _ _ _((List.suffix_cons x r).trans h)).bind fun e t2 h2 p2 l2=>?_;exact tB HT H m o q _ t2 b h2(ig hg p2)(by rw[ij];omega)
  ·exact Gb.ok h hg hb
theorem DA (HT:∀ y,y ∈ T->tkG y)(H:∀ row o q ts,ts <:+ T->Gb T ts.length Ex.gd Ex.sz (rec row o q ts))(m o q:Nat){ts:List Tk}(h:ts <:+ T):Gb T ts.length Fs.gd Fs.size (jQ rec m o q ts):=by
 cases ts with
 | nil=>exact Gb.out
 | cons x r =>
  unfold jQ;simp only;split
  ·exact Gb.ok h trivial(by simp[Fs.size])
  ·exact(H _ _ _ _ h).bind fun e t1 h1 p1 l1=>tB HT H m o q _ t1 _ h1 p1 l1
theorem Cm (HT:∀ y,y ∈ T->tkG y)(H:∀ row o q ts,ts <:+ T->Gb T ts.length Ex.gd Ex.sz (rec row o q ts))(m o q:Nat){ts:List Tk}(h:ts <:+ T):Gb T ts.length Ex.gd Ex.sz (eW rec m o q ts):=by
 cases ts with
 | nil=>exact Gb.out
 | cons x r =>
  have hx:=HT x(h.mem(by simp));have hr:r <:+ T:=(List.suffix_cons x r).trans h;unfold eW;simp only;split
  ·exact Gb.ok hr(Ex.gd_mk(by omega)(by omega) hx.2.2.1 hx.2.2.2 trivial)(by rw[Ex.sz_mk];simp[Fs.size];omega)
  ·split
   ·exact Gb.ok hr(Ex.gd_mk(by omega)(by omega)(by simp) hx.2.2.2 trivial)(by rw[Ex.sz_mk];simp[Fs.size];omega)
   ·split
    ·exact(ti HT H 1 o q hr).bind fun ks t h1 p1 l1=>Gb.ok h1(Ex.gd_mk(by omega)(by omega)(by simp) hx.2.2.2 p1)(by rw[Ex.sz_mk];simp;omega)
    ·refine(gQ HT _ _ h).bind fun a t1 h1 p1 l1=>(DA HT H m _ q h1).bind fun ks t2 h2 p2 l2=>(fj HT _ h2).bind fun _ t3 h3 _ l3=>?_;exact Gb.ok h3(Ex.gd_mk(by omega)(by omega)(by simp) p1 p2)(by rw[Ex.sz_mk];omega)
theorem yd (HT:∀ y,y ∈ T->tkG y)(H:∀ row o q ts,ts <:+ T->Gb T ts.length Ex.gd Ex.sz (rec row o q ts))(m:Nat)(s:List UInt8)(k o q:Nat)(hk:k<=100){ts:List Tk}(h:ts <:+ T):Gb T ts.length Ex.gd Ex.sz (dq rec m s k o q ts):=by
 cases ts with
 | nil=>exact Gb.out
 | cons x r =>
  unfold dq;simp only;split
  ·exact Gb.bad
  ·refine(gQ HT _ _ h).bind fun a t1 h1 p1 l1=>(sO HT _ h1).bind fun y t2 h2 p2 l2=>(fj HT _ h2).bind fun _ t3 h3 _ l3=>?_;refine(Cm HT H m _ _ h3).bind fun e t4 h4 p4 l4=>(fj HT _ h4).bind fun _ t5 h5 _ l5=>(H _ _ _ _ h5).bind fun b t6 h6 p6 l6=>?_;refine Gb.ok h6(Ex.gd_mk(by omega)(by omega) p2.2.2.1 p1(ig p4 p6)) ?_;rw[Ex.sz_mk,ij];show e.sz+b.sz+1+_<=_;omega
theorem zH (HT:∀ y,y ∈ T->tkG y)(H:∀ row o q ts,ts <:+ T->Gb T ts.length Ex.gd Ex.sz (rec row o q ts))(m o q:Nat){ts:List Tk}(h:ts <:+ T):Gb T ts.length Ex.gd Ex.sz (cA rec m o q ts):=by
 cases ts with
 | nil=>exact Gb.out
 | cons x r =>
  have hx:=HT x(h.mem(by simp));have hr:r <:+ T:=(List.suffix_cons x r).trans h;unfold cA;simp only;split
  ·exact Gb.ok hr(Ex.gd_mk hx.1 hx.2.1(by simp) hx.2.2.2 trivial)(by rw[Ex.sz_mk];simp[Fs.size];omega)
  ·split
   ·exact Gb.ok hr(Ex.gd_mk(by omega)(by omega) hx.2.2.1 hx.2.2.2 trivial)(by rw[Ex.sz_mk];simp[Fs.size];omega)
   ·split
    ·exact Gb.ok hr(Ex.gd_mk(by omega)(by omega)(by simp) hx.2.2.2 trivial)(by rw[Ex.sz_mk];simp[Fs.size];omega)
    ·split
     ·exact Gb.ok hr(Ex.gd_mk(by omega)(by omega)(by simp) hx.2.2.2 trivial)(by rw[Ex.sz_mk];simp[Fs.size];omega)
     ·split
      ·exact(sO HT _ hr).bind fun y t h1 p1 l1=>Gb.ok h1(Ex.gd_mk p1.1 p1.2.1(by simp) hx.2.2.2 trivial)(by rw[Ex.sz_mk];simp[Fs.size];omega)
      ·split
       ·rw[xV];unfold CZ;exact(gQ HT _ _ h).bind fun _ t1 h1 _ l1=>(H _ _ _ _ h1).bind fun e t2 h2 p2 l2=>(fj HT _ h2).bind fun _ t4 h4 _ l4=>Gb.ok h4 p2(by omega)
       ·split
        ·exact uB HT H o q h
        ·split
         ·rename_i hc
          have hz:=List.mem_of_find?_eq_some hc;have hz2:∀ z ∈ dy,z.2.1<=100:=by decide
          have hz3:=hz2 _ hz;simp only at hz3;exact(ti HT H _ o q hr).bind fun ks t h1 p1 l1=>Gb.ok h1(Ex.gd_mk(by omega)(by omega)(by simp) hx.2.2.2 p1)(by rw[Ex.sz_mk];simp;omega)
         ·split
          ·rename_i hc
           have hz:=List.mem_of_find?_eq_some hc;have hz2:∀ z ∈ dx,z.2<=100:=by decide
           have hz3:=hz2 _ hz;simp only at hz3;exact yd HT H m _ _ o q hz3 h
          ·exact Gb.bad
theorem tu (HT:∀ y,y ∈ T->tkG y)(H:∀ row o q ts,ts <:+ T->Gb T ts.length Ex.gd Ex.sz (rec row o q ts))(s:List UInt8)(k:Int)(row o q:Nat){ts:List Tk}(h:ts <:+ T):Gb T ts.length Ex.gd Ex.sz (dc rec s k row o q ts):=by
 cases ts with
 | nil=>exact Gb.out
 | cons x r =>
  have hx:=HT x(h.mem(by simp));have hr:r <:+ T:=(List.suffix_cons x r).trans h;unfold dc;simp only;split
  ·split
   ·exact Gb.bad
   ·refine(H _ _ _ _ hr).bind fun e t2 h2 p2 l2=>Gb.ok h2(Ex.gd_mk(by omega)(by omega)(by simp) hx.2.2.2 p2) ?_;rw[Ex.sz_mk];show e.sz+1+_<=_;simp only[List.length_cons];omega
  ·exact H _ _ _ _ h
theorem mZ (HT:∀ y,y ∈ T->tkG y)(H:∀ row o q ts,ts <:+ T->Gb T ts.length Ex.gd Ex.sz (rec row o q ts)):∀ (m row o q:Nat) (left:Ex) (ts:List Tk) (b:Nat),ts <:+ T->left.gd->left.sz+ts.length<=b->Gb T b Ex.gd Ex.sz (cU rec m row o q left ts)
 | 0,row,o,q,left,ts,b,h,hg,hb=>Gb.out
 | m+1,row,o,q,left,[],b,h,hg,hb=>Gb.out
 | m+1,row,o,q,left,x::r,b,h,hg,hb=>by
  have hx:=HT x(h.mem(by simp));have hr:r <:+ T:=(List.suffix_cons x r).trans h;unfold cU;simp only;split
  ·exact Gb.ok h hg hb
  ·refine(H _ _ _ _ hr).bind fun e t2 h2 p2 l2=>?_;simp only[List.length_cons] at hb;have hgd:∀ (z:Int),(⟨z,0,[],(x.a:Nat),(one left).snoc e⟩:Ex).gd:=fun z=>Ex.gd_mk(by omega)(by omega)(by simp) hx.2.2.2(ig hg p2);have hsz:∀ (z:Int),(⟨z,0,[],(x.a:Nat),(one left).snoc e⟩:Ex).sz+t2.length<=b:=fun z=>by
    rw[Ex.sz_mk,ij];show left.sz+e.sz+1+_<=_;omega
   split
   ·exact Gb.ok h2(hgd _)(hsz _)
   ·exact mZ HT H m row o q _ t2 b h2(hgd _)(hsz _)
end
theorem sV {T:List Tk}(HT:∀ y,y ∈ T->tkG y):∀ (n row o q:Nat) (ts:List Tk),ts <:+ T->Gb T ts.length Ex.gd Ex.sz (cO n row o q ts)
 | 0,row,o,q,ts,h=>Gb.out
 | n+1,row,o,q,ts,h=>by
  have H:=sV HT n;unfold cO;split
  ·exact tu HT H _ _ _ _ _ h
  ·split
   ·exact tu HT H _ _ _ _ _ h
   ·split
    ·exact zH HT H n o q h
    ·exact(H _ _ _ _ h).bind fun l t h1 p1 l1=>mZ HT H n row o q l t _ h1 p1 l1
theorem nf {k:Nat}{t:List UInt8}{a:Nat}{x:Tk}(h:fM k t a=.inr x):-9223372036854775808<=x.n/\x.n<=9223372036854775807/\x.t.length<=t.length:=by
 unfold fM at h;split at h
 ·unfold fs at h
  repeat' split at h
  all_goals first|(injection h with h;subst h;exact⟨by simp,by simp,Nat.le_refl _⟩)|cases h
 ·unfold gO at h;cases hv:Lib.atoiAll t with
  | ok v =>
   rw[hv] at h;have hb:=Go.Lib.atoiAll_bounds hv;simp only at h;split at h
   ·cases h
   ·injection h with h
    subst h;exact⟨hb.1,hb.2,by simp⟩
  | _=>rw[hv] at h;cases h
 ·unfold mR at h;split at h
  all_goals first|(injection h with h;subst h;exact⟨by simp,by simp,Nat.le_refl _⟩)|cases h
 ·cases h
theorem yS (k:Nat)(t:List UInt8)(a p:Nat)(l:List UInt8)(ts:List Tk)(h:bN k t a p l=.inr ts)(hl:t.length+l.length<=2000):∀ x,x ∈ ts->-9223372036854775808<=x.n/\x.n<=9223372036854775807/\x.t.length<=2000:=by
 induction l generalizing k t a p ts with
 | nil =>
  intro x hx;rcases cD h with⟨rfl,h1⟩|⟨hk,y,us,hp,h1,h2⟩
  ·injection h1 with h1
   subst h1;simp at hx;subst hx;exact⟨by simp,by simp,by simp⟩
  ·injection h1 with h1
   subst h1 h2;simp at hx;rcases hx with rfl|rfl
   ·have:=nf hp
    simp only[List.length_nil] at hl;exact⟨this.1,this.2.1,by omega⟩
   ·exact⟨by simp,by simp,by simp⟩
 | cons c r ih =>
  simp only[List.length_cons] at hl;cases ht:tks k t c.toNat
  ·rw[di ht] at h;rcases cD h with⟨rfl,h1⟩|⟨hk,y,us,hp,h1,h2⟩
   ·exact ih _ _ _ _ _ h1(by simp;omega)
   ·subst h2;intro x hx;rcases List.mem_cons.1 hx with rfl|hx
    ·have:=nf hp
     exact⟨this.1,this.2.1,by omega⟩
    ·exact ih _ _ _ _ _ h1(by simp;omega) x hx
  ·rw[cY ht] at h;exact ih _ _ _ _ _ h(by simp;omega)
theorem Fs.len_size:∀ (x:Fs),x.len<=x.size
 | ⟨none⟩=>Nat.le_refl _
 | ⟨some⟨k,n,nm,a,ks,r⟩⟩=>by have:=Fs.len_size r;simp only[Fs.len,Fs.size];omega
theorem Fs.gd_all:∀ {x:Fs},x.gd->x.size<=100000000->x.short/\x.rng/\x.plc
 | ⟨none⟩,h,hs=>⟨trivial,trivial,trivial⟩
 | ⟨some⟨k,n,nm,a,ks,r⟩⟩,h,hs=>by
  simp only[Fs.size] at hs;obtain⟨h1,h2,h3,h4,h5,h6,h7⟩:=h;obtain⟨a1,a2,a3⟩:=Fs.gd_all h6(by omega);obtain⟨b1,b2,b3⟩:=Fs.gd_all h7(by omega)
  have:=Fs.len_size ks
  exact⟨⟨by unfold maxLen;omega,by omega,a1,b1⟩,⟨h1,h2,a2,b2⟩,⟨h4,by omega,a3,b3⟩⟩
theorem wt {s:List UInt8}{x:Ex}{t:List Tk}(h:dZ s=.ok x t):x.gd/\x.sz<=2001:=by
 obtain⟨us,E,h0,h1,h2,h3,h4,h5⟩:=rg h;have hs:et s=.inr(us++[E]):=by rw[rq h0];exact h1
 have hk:=iZ hs;have hg:∀ y,y ∈ us++[E]->tkG y:=fun y hy=>by
  have a1:=yS _ _ _ _ _ _ h1(by simpa using h0) y hy;have a2:=hk.2.2.2.2.2 y hy;exact⟨a1.1,a1.2.1,a1.2.2,by omega⟩
 obtain⟨_,g1,g2⟩:=sV hg 30000 1 0 0 _(List.suffix_refl _) x [E] h5;refine⟨g1,?_⟩
 have:=hk.2.2.1
 omega
structure Ex.okT (x:Ex):Prop where
 fit:x.fit
 a0:0<=x.a
 a1:x.a<=2000
 plc:x.kids.plc
 size:x.kids.size<=2000
theorem uC {s:List UInt8}{x:Ex}{t:List Tk}(h:dZ s=.ok x t):x.okT:=by
 obtain⟨g,hs⟩:=wt h;have hs:x.kids.size+1<=2001:=hs;obtain⟨h1,h2,h3,h4,h5,h6,_⟩:=g;obtain⟨a1,a2,a3⟩:=Fs.gd_all h6(by omega)
 have:=Fs.len_size x.kids
 exact⟨⟨by unfold maxLen;omega,a1,by omega,h1,h2,a2⟩,h4,h5,a3,by omega⟩
structure Wo where
 op:Nat
 a:Nat
 b:Nat
structure Em where
 ws:List Wo
 cs:List Int
 ns:List(List UInt8)
 ks:List Int
 dp:Nat
def Em.lay (s:Em)(op a b:Nat):Em:=⟨s.ws++[⟨op,a,b⟩],s.cs,s.ns,s.ks,s.dp⟩
def Em.push (s:Em)(op a b u:Nat):Em:=⟨s.ws++[⟨op,a,b⟩],s.cs,s.ns,s.ks,max s.dp (u+1)⟩
def Em.kc (s:Em)(n:Int):Em:=⟨s.ws,if n ∈ s.cs then s.cs else s.cs++[n],s.ns,s.ks,s.dp⟩
def Em.kn (s:Em)(x:List UInt8):Em:=⟨s.ws,s.cs,if x ∈ s.ns then s.ns else s.ns++[x],s.ks,s.dp⟩
def Em.con (s:Em)(n:Int)(kd u:Nat):Em:=(s.kc n).push 1 (s.cs.idxOf n) kd u
def Wo.to (x:Wo)(n:Nat):Wo:=if x.op=17 then ⟨x.op,x.a,n⟩ else ⟨x.op,n,x.b⟩
def Em.land (s:Em)(i:Nat):Em:=⟨s.ws.modify i (fun x=>x.to s.ws.length),s.cs,s.ns,s.ks,s.dp⟩
def Em.cel (s:Em)(i:Nat)(k:Int):Em:=⟨s.ws,s.cs,s.ns,s.ks.set i k,s.dp⟩
def Em.fork (s:Em)(op:Nat)(f g:Em->Em):Em:=(g (((f (s.lay op 0 0)).lay 13 0 0).land s.ws.length)).land (f (s.lay op 0 0)).ws.length
def pU (n:Int):Int:=if n=1\/n=2 then 2 else if n=10 then 3 else 1
def pK (n:Int):Int:=if n=1\/n=2 then 2 else 1
def kdN (k n:Int)(ks:List Int):Int :=
 if k=1\/k=6\/(8<=k/\k<=12) then 1 else if k=3\/k=5 then 3 else if k=19 then ks.getD 1 0 else if k=26 then ks.getD 0 0 else if k=20 then pU n else if k=21 then pK n else 2
def kdF:Fs->List Int
 | ⟨none⟩=>[]
 | ⟨some⟨k,n,_,_,ks,r⟩⟩=>kdN k n(kdF ks)::kdF r
def kdE (e:Ex):Int:=kdN e.k e.n (kdF e.kids)
abbrev Tr:=Nat->Nat->Em->Em
def kH:List Tr->Nat->Nat->Nat->Em->Em
 | [],_,_,_,s=>s
 | t::r,i,ar,u,s=>kH r(i+1) ar u(t ar(u+i) s)
def fy (k:Int):Nat:=if k=6 then 4 else if k=7 then 5 else if k=8 then 6 else if k=9 then 7 else if k=10 then 8 else if k=11 then 9 else if k=12 then 10 else if k=22 then 20 else 22
def opr (k n:Int)(nm:List UInt8)(kk:List Int)(s:Em):Em :=
 if k=13 then s.lay 11 0(kk.getD 0 0).toNat else if k=14 then(s.lay 11 0(kk.getD 0 0).toNat).lay 5 0 0 else if k=15 then s.lay 12 0 0 else if k=16 then s.lay 12 0 1
 else if k=20 then s.lay 16 n.toNat 0 else if k=23 then(s.kn nm).lay 21(s.ns.idxOf nm) 0 else if k=25 then s.lay 23 kk.length 0 else s.lay(fy k) 0 0
def eC (h:Nat):List Int->Nat->Em->Em
 | [],_,s=>s
 | l::r,i,s=>eC h r(i+1)(if l=(h:Int) then s.lay 19 i 0 else s)
def bdy (lv:List Int)(t:Tr):Tr:=fun ar u s=>t (ar+1) u (eC (ar+1) lv 0 s)
def uK (lv:List Int)(t:Tr)(op:Nat)(v:Int):Tr:=fun ar u s =>
 s.fork 24(fun x=>(((bdy lv t ar u x).lay op s.ws.length 0).lay 25 0 0).con v 2 u)(fun x=>x.con(1-v) 2 u)
def mN (lv:List Int)(t:Tr)(f:Nat->Em->Em):Tr:=fun ar u s =>
 ((f s.ws.length(bdy lv t ar u(s.lay 24 0 0))).lay 13 s.ws.length 0).land s.ws.length
def qua (lv:List Int)(n:Int)(a t:Tr):Tr:=fun ar u s =>
 if n=1 then uK lv t 15 0 ar u(a ar u s) else if n=2 then uK lv t 14 1 ar u(a ar u s)
 else if n=3 then mN lv t(fun g x=>((x.lay 14 g 0).con 1 1(u+1)).lay 6 0 0) ar(u+1)((a ar u s).con 0 1 u)
 else if n=4 then mN lv t(fun _ x=>x.lay 6 0 0) ar(u+1)((a ar u s).con 0 1 u)
 else(mN lv t(fun _ x=>x.lay 26(n-5).toNat 0) ar(u+2)(((a ar u s).con 0 1 u).con 0 2(u+1))).lay 27 0 0
abbrev noT:Tr:=fun _ _ s=>s
def prt (lv:List Int)(k n:Int)(nm:List UInt8)(kk:List Int)(T:List Tr):Tr:=fun ar u s =>
 if k=1 then s.con n 1 u else if k=2 then s.con n 2 u else if k=3 then(s.kc n).push 2(s.cs.idxOf n) 0 u else if k=5 then s.push 3 n.toNat 0 u
 else if k=17 then(T.getD 0 noT ar u s).fork 14(T.getD 1 noT ar u)(fun x=>x.con 0 2 u)
 else if k=18 then(T.getD 0 noT ar u s).fork 15(T.getD 1 noT ar u)(fun x=>x.con 1 2 u)
 else if k=19 then(T.getD 0 noT ar u s).fork 14(T.getD 1 noT ar u)(T.getD 2 noT ar u)
 else if k=26 then((T.getD 0 noT ar u((s.cel n.toNat(kk.getD 0 0)).lay 17 n.toNat 0)).lay 18 n.toNat 0).land s.ws.length
 else if k=21 then qua lv n(T.getD 0 noT)(T.getD 1 noT) ar u s
 else opr k n nm kk(kH T 0 ar u s)
def emF (lv:List Int):Fs->List Tr
 | ⟨none⟩=>[]
 | ⟨some⟨k,n,nm,_,ks,r⟩⟩=>prt lv k n nm(kdF ks)(emF lv ks)::emF lv r
def emE (lv:List Int)(e:Ex):Tr:=prt lv e.k e.n e.nm (kdF e.kids) (emF lv e.kids)
def em0 (lv:List Int):Em:=⟨[],[],[],List.replicate lv.length 1,0⟩
def emA (lv:List Int)(e:Ex):Em:=(emE lv e 0 0 (em0 lv)).lay 0 0 0
def Em.mes (s:Em):Nat:=s.ws.length+s.cs.length+s.ns.length
theorem Em.mes_lay (s:Em)(op a b:Nat):(s.lay op a b).mes=s.mes+1:=by simp[Em.mes,Em.lay];omega
theorem Em.mes_push (s:Em)(op a b u:Nat):(s.push op a b u).mes=s.mes+1:=by simp[Em.mes,Em.push];omega
theorem Em.mes_kc (s:Em)(n:Int):(s.kc n).mes<=s.mes+1:=by simp only[Em.mes,Em.kc];split<;>simp<;>omega
theorem Em.mes_kn (s:Em)(n:List UInt8):(s.kn n).mes<=s.mes+1:=by simp only[Em.mes,Em.kn];split<;>simp<;>omega
theorem Em.mes_con (s:Em)(n:Int)(kd u:Nat):(s.con n kd u).mes<=s.mes+2:=by
 unfold Em.con;rw[Em.mes_push]
 have:=s.mes_kc n
 omega
theorem Em.mes_land (s:Em)(i:Nat):(s.land i).mes=s.mes:=by simp[Em.mes,Em.land]
def okN (nc:Nat)(k n:Int)(nm:List UInt8)(len:Nat):Prop:=aD k n nm len=true/\(k=5->n<=3)/\(k=26->0<=n/\n<(nc:Int))/\(-9223372036854775808<=n/\n<=9223372036854775807)
def okF (nc:Nat):Fs->Prop
 | ⟨none⟩=>True
 | ⟨some⟨k,n,nm,_,ks,r⟩⟩=>okN nc k n nm ks.len/\okF nc ks/\okF nc r
def okE (nc:Nat)(e:Ex):Prop:=okN nc e.k e.n e.nm e.kids.len/\okF nc e.kids
open Go.ChangeShapes Go.WideShapes Go.ChangeAt Go.RowKit Go.Maps
theorem me {P:Program}{K:TypeId}{R:Value->Option (DataW Unit × List MemPlace)}{w:World}{b n:Nat}{D:DataW Unit}(h:w.ownsMap P K R b n D):w.ownsMap P K R b (Maps.size D) D:=by
 obtain⟨es,clock,hb,F,hs,rfl⟩:=h;exact⟨es,clock,hb,F,by simp[Maps.size,length_sorted],rfl⟩
theorem ie {P:Program}{K:TypeId}{R:Value->Option (DataW Unit × List MemPlace)}{w w':World}{o o':Nat->Nat}{I:Nat->Prop}{b n:Nat}{D:DataW Unit}(h:w.ownsMap P K R b n D)(s:aa I w o w' o')(hi:¬I (o b)):w'.ownsMap P K R b n D:=by
 have hlt:=h.lt;obtain⟨es,clock,hb,F,hs,hD⟩:=h;exact⟨es,clock,(s.block b hlt hi).trans hb,F,hs,hD⟩
theorem jE {w w':World}{o:Nat->Nat}{b i:Nat}(h:w.mapTurned w' b)(hb:o b=i):aa (fun k=>k=i) w o w' o :=
 let g:=h.grown
 ⟨g.os,g.tape,g.output,g.size,fun _ _=>rfl,fun k hk hn=>g.block k hk(fun e=>hn(by cases e;exact hb))⟩
def j6:Value->Option (DataW Unit × List MemPlace)
 | .int .i64 a=>some(.lit(.int .i64 a),[])
 | _=>none
theorem lO {v:Value}{a:Int}{ps:List MemPlace}(h:j6 v=some (.lit (.int .i64 a),ps)):v=.int .i64 a:=by
 unfold j6 at h;split at h
 ·simp at h;rw[h.1]
 ·cases h
theorem ku {v:Value}{y:DataW Unit × List MemPlace}(h:j6 v=some y):∃a,v=.int .i64 a:=by
 unfold j6 at h;split at h
 ·exact⟨_,rfl⟩
 ·cases h
theorem nX (w:World):(zeroValue 3).run Tryz.prog w=.ok (.int .i64 0) w:=by kernel_rfl
theorem kW:Keyed Tryz.prog 3:=int_keyed Tryz.underlying3
theorem kX:Keyed Tryz.prog 9:=string_keyed Tryz.underlying9
theorem Da (k:Int)(h:-9223372036854775808<=k/\k<=9223372036854775807):keyOf Tryz.prog 3 (.int .i64 k)=some (.int .i64 k):=keyOf_int_mk Tryz.underlying3 (WalkArith.wf_i64 (by have:=h.1;have:=h.2;omega))
theorem CG (x:List UInt8)(h:x.length<=maxLen):keyOf Tryz.prog 9 (stv x)=some (.string x):=by
 have:=WideMaps.keyOf_string_mk(P:=Tryz.prog) Tryz.underlying9(s:=⟨x.toArray⟩)(by rw[show(⟨x.toArray⟩:ByteArray).size=x.toArray.size from rfl];simpa using h)
 simpa using this
theorem sM {α:Type}[BEq α][LawfulBEq α]{l:List α}{x:α}(h:x ∉ l):(l++[x]).idxOf x=l.length:=by
 rw[List.idxOf_append,if_neg h];simp
theorem ua {α:Type}[BEq α][LawfulBEq α]{l:List α}{x y:α}(h:y ∈ l):(l++[x]).idxOf y=l.idxOf y:=by
 rw[List.idxOf_append,if_pos h]
theorem jq {α:Type}[BEq α][LawfulBEq α]{l:List α}{x:α}(h:x ∉ l):l.idxOf x=l.length:=List.idxOf_eq_length h
def MpC (w:World)(o:Nat->Nat)(i b:Nat)(l:List (Int)):Prop :=
 ∃D:DataW Unit,w.ownsMap Tryz.prog 3 j6 b l.length D/\Maps.size D=l.length/\o b=i /\
  ∀ k:Int,Maps.has D(.int .i64 k)=decide(k ∈ l)/\(k ∈ l->D.atKey(.int .i64 k)(.lit(.int .i64 0))=.lit(.int .i64(l.idxOf k:Nat)))
theorem MpC.step {I:Nat->Prop}{w w':World}{o o':Nat->Nat}{i b:Nat}{l:List (Int)}(h:MpC w o i b l)(s:aa I w o w' o')(hi:¬I i):MpC w' o' i b l:=by
 obtain⟨D,h1,h2,h3,h4⟩:=h;exact⟨D,ie h1 s(by rw[h3];exact hi),h2,(s.lab b h1.lt).trans h3,h4⟩
theorem MpC.made (w:World)(o:Nat->Nat)(i:Nat):MpC (w.alloc (.map #[] 0)) (ae w o i) i w.heap.size [] :=
 ⟨.map [],World.ownsMap_made _ _ _ _,rfl,ax(Nat.le_refl _),fun k=>⟨by simp[Maps.has],fun h=>by simp at h⟩⟩
theorem MpC.look {w:World}{o:Nat->Nat}{i b:Nat}{l:List (Int)}(h:MpC w o i b l)(k:Int)(hk:-9223372036854775808<=k/\k<=9223372036854775807)(hm:k ∈ l) :
  (Instr.lookup 92(.map(some b))(.int .i64 k) true).run Tryz.prog w=.ok(.tuple #[.int .i64(l.idxOf k:Nat),.bool true]) w:=by
 obtain⟨D,h1,h2,h3,h4⟩:=h;obtain⟨c,ps,hr,hc⟩:=h1.look_ok kW Tryz.underlying92(nX w)(zd:=.lit(.int .i64 0))(zp:=[]) rfl(Da k hk);rw[(h4 k).2 hm] at hc;rw[(h4 k).1,lO hc,decide_eq_true hm] at hr;exact hr
theorem MpC.miss {w:World}{o:Nat->Nat}{i b:Nat}{l:List (Int)}(h:MpC w o i b l)(k:Int)(hk:-9223372036854775808<=k/\k<=9223372036854775807)(hm:k ∉ l) :
  ∃x:Int,(Instr.lookup 92(.map(some b))(.int .i64 k) true).run Tryz.prog w=.ok(.tuple #[.int .i64 x,.bool false]) w:=by
 obtain⟨D,h1,h2,h3,h4⟩:=h;obtain⟨c,ps,hr,hc⟩:=h1.look_ok kW Tryz.underlying92(nX w)(zd:=.lit(.int .i64 0))(zp:=[]) rfl(Da k hk);obtain⟨x,rfl⟩:=ku hc;rw[(h4 k).1,decide_eq_false hm] at hr;exact⟨x,hr⟩
theorem MpC.put {w:World}{o:Nat->Nat}{i b:Nat}{l:List (Int)}(h:MpC w o i b l)(k:Int)(hk:-9223372036854775808<=k/\k<=9223372036854775807)(hm:k ∉ l)(hl:l.length<=1000000000) :
  ∃w',(Instr.mapUpdate 92(.map(some b))(.int .i64 k)(.int .i64(l.length:Nat))).run Tryz.prog w=.ok() w'/\MpC w' o i b(l++[k])/\aa(fun k=>k=i) w o w' o:=by
 obtain⟨D,h1,h2,h3,h4⟩:=h;obtain⟨w',hr,ho,ht⟩:=h1.store(val:=.int .i64(l.length:Nat))(d:=.lit(.int .i64(l.length:Nat)))(ps:=[]) kW Tryz.underlying92(by unfold maxLen;omega)(Da k hk) rfl;have hsz:Maps.size(D.put(.int .i64 k)(.lit(.int .i64(l.length:Nat))))=l.length+1:=by
  rw[size_put(h1.tidy kW),h2,(h4 k).1,decide_eq_false hm];simp
 have ho':=me ho;rw[hsz] at ho';refine⟨w',hr,⟨_,by rw[List.length_append];exact ho',by rw[hsz,List.length_append];rfl,h3,fun y=>?_⟩,jE ht h3⟩;by_cases e:y=k
 ·subst e;rw[has_put_same h1.isMap(show WideAt.IsKeyLit(.int .i64 y) from trivial),atKey_put_same h1.isMap(show WideAt.IsKeyLit(.int .i64 y) from trivial),sM hm];exact⟨by simp,fun _=>rfl⟩
 ·have hne:Lit.int .i64 y≠Lit.int .i64 k:=fun h=>e(by simpa using h);rw[has_put_other hne,atKey_put_other hne,(h4 y).1];refine⟨by simp[e],fun hy=>?_⟩;have hy2:y ∈ l:=by simpa [e] using hy
  rw[ua hy2];exact(h4 y).2 hy2
def MpS (w:World)(o:Nat->Nat)(i b:Nat)(l:List (List UInt8)):Prop :=
 ∃D:DataW Unit,w.ownsMap Tryz.prog 9 j6 b l.length D/\Maps.size D=l.length/\o b=i /\
  ∀ k:List UInt8,Maps.has D(.string k)=decide(k ∈ l)/\(k ∈ l->D.atKey(.string k)(.lit(.int .i64 0))=.lit(.int .i64(l.idxOf k:Nat)))
theorem MpS.step {I:Nat->Prop}{w w':World}{o o':Nat->Nat}{i b:Nat}{l:List (List UInt8)}(h:MpS w o i b l)(s:aa I w o w' o')(hi:¬I i):MpS w' o' i b l:=by
 obtain⟨D,h1,h2,h3,h4⟩:=h;exact⟨D,ie h1 s(by rw[h3];exact hi),h2,(s.lab b h1.lt).trans h3,h4⟩
theorem MpS.made (w:World)(o:Nat->Nat)(i:Nat):MpS (w.alloc (.map #[] 0)) (ae w o i) i w.heap.size [] :=
 ⟨.map [],World.ownsMap_made _ _ _ _,rfl,ax(Nat.le_refl _),fun k=>⟨by simp[Maps.has],fun h=>by simp at h⟩⟩
theorem MpS.look {w:World}{o:Nat->Nat}{i b:Nat}{l:List (List UInt8)}(h:MpS w o i b l)(k:List UInt8)(hk:k.length<=maxLen)(hm:k ∈ l) :
  (Instr.lookup 93(.map(some b))(stv k) true).run Tryz.prog w=.ok(.tuple #[.int .i64(l.idxOf k:Nat),.bool true]) w:=by
 obtain⟨D,h1,h2,h3,h4⟩:=h;obtain⟨c,ps,hr,hc⟩:=h1.look_ok kX Tryz.underlying93(nX w)(zd:=.lit(.int .i64 0))(zp:=[]) rfl(CG k hk);rw[(h4 k).2 hm] at hc;rw[(h4 k).1,lO hc,decide_eq_true hm] at hr;exact hr
theorem MpS.miss {w:World}{o:Nat->Nat}{i b:Nat}{l:List (List UInt8)}(h:MpS w o i b l)(k:List UInt8)(hk:k.length<=maxLen)(hm:k ∉ l) :
  ∃x:Int,(Instr.lookup 93(.map(some b))(stv k) true).run Tryz.prog w=.ok(.tuple #[.int .i64 x,.bool false]) w:=by
 obtain⟨D,h1,h2,h3,h4⟩:=h;obtain⟨c,ps,hr,hc⟩:=h1.look_ok kX Tryz.underlying93(nX w)(zd:=.lit(.int .i64 0))(zp:=[]) rfl(CG k hk);obtain⟨x,rfl⟩:=ku hc;rw[(h4 k).1,decide_eq_false hm] at hr;exact⟨x,hr⟩
theorem MpS.put {w:World}{o:Nat->Nat}{i b:Nat}{l:List (List UInt8)}(h:MpS w o i b l)(k:List UInt8)(hk:k.length<=maxLen)(hm:k ∉ l)(hl:l.length<=1000000000) :
  ∃w',(Instr.mapUpdate 93(.map(some b))(stv k)(.int .i64(l.length:Nat))).run Tryz.prog w=.ok() w'/\MpS w' o i b(l++[k])/\aa(fun k=>k=i) w o w' o:=by
 obtain⟨D,h1,h2,h3,h4⟩:=h;obtain⟨w',hr,ho,ht⟩:=h1.store(val:=.int .i64(l.length:Nat))(d:=.lit(.int .i64(l.length:Nat)))(ps:=[]) kX Tryz.underlying93(by unfold maxLen;omega)(CG k hk) rfl;have hsz:Maps.size(D.put(.string k)(.lit(.int .i64(l.length:Nat))))=l.length+1:=by
  rw[size_put(h1.tidy kX),h2,(h4 k).1,decide_eq_false hm];simp
 have ho':=me ho;rw[hsz] at ho';refine⟨w',hr,⟨_,by rw[List.length_append];exact ho',by rw[hsz,List.length_append];rfl,h3,fun y=>?_⟩,jE ht h3⟩;by_cases e:y=k
 ·subst e;rw[has_put_same h1.isMap(show WideAt.IsKeyLit(.string y) from trivial),atKey_put_same h1.isMap(show WideAt.IsKeyLit(.string y) from trivial),sM hm];exact⟨by simp,fun _=>rfl⟩
 ·have hne:Lit.string y≠Lit.string k:=fun h=>e(by simpa using h);rw[has_put_other hne,atKey_put_other hne,(h4 y).1];refine⟨by simp[e],fun hy=>?_⟩;have hy2:y ∈ l:=by simpa [e] using hy
  rw[ua hy2];exact(h4 y).2 hy2
open Go.RowKit
theorem fJ (n:Int)(h1:-9223372036854775808<=n)(h2:n<=9223372036854775807):wrap64 n=n:=by
 unfold wrap64;omega
theorem zY (x y:Int)(h1:0<=x)(h2:x<68719476736)(h3:0<=y)(h4:y<268435456):bits .or .u64 (x*268435456) y=x*268435456+y:=by
 rw[u64_or _ _(by omega)(by omega)(by omega)(by omega),nat_join 28 _ _(by omega)(by omega)];omega
theorem AF (o a b:Int)(h1:0<=o)(h2:o<=255)(h3:0<=a)(h4:a<=268435455)(h5:0<=b)(h6:b<=268435455) :
  bits .or .u64(bits .or .u64(o*72057594037927936)(a*268435456)) b=(o*268435456+a)*268435456+b:=by
 have e:bits .or .u64(o*72057594037927936)(a*268435456)=(o*268435456+a)*268435456:=by
  rw[u64_or _ _(by omega)(by omega)(by omega)(by omega),nat_join 56 _ _(by omega)(by omega)];omega
 rw[e,zY _ _(by omega)(by omega) h5(by omega)]
theorem y8 (u:Int)(h1:0<=u)(h2:u<18446744073709551616):wrap64 (bits .and .u64 (u / 72057594037927936) 255)=u / 72057594037927936:=by
 rw[u64_and _ _(by omega)(by omega)(by omega)(by omega),show(255:Int).toNat=255 from rfl,nat_mask8,fJ _(by omega)(by omega)];omega
theorem lR (x:Nat):x &&& 268435455=x % 268435456:=Nat.and_two_pow_sub_one_eq_mod x 28
theorem xc (u:Int)(h1:0<=u)(h2:u<18446744073709551616):wrap64 (bits .and .u64 (u / 268435456) 268435455)=u / 268435456 % 268435456:=by
 rw[u64_and _ _(by omega)(by omega)(by omega)(by omega),show(268435455:Int).toNat=268435455 from rfl,lR,fJ _(by omega)(by omega)];omega
theorem yg (u:Int)(h1:0<=u)(h2:u<18446744073709551616):wrap64 (bits .and .u64 u 268435455)=u % 268435456:=by
 rw[u64_and _ _(by omega)(by omega)(by omega)(by omega),show(268435455:Int).toNat=268435455 from rfl,lR,fJ _(by omega)(by omega)];omega
open Go.ChangeShapes Go.WideShapes Go.ChangeAt Go.RowKit
theorem gTab : Tryz.prog.globalNamed "isthmus/pack.fields" = some 2 := by kernel_rfl
theorem y7:(Tryz.prog.globals[2]?).map (·.type)=some 264:=by kernel_rfl
theorem wP:Tryz.prog.cellsOf 264=6:=by kernel_rfl
theorem mu:Tryz.prog.cellsOf 263=2:=by kernel_rfl
theorem uA:Tryz.prog.cellsOf 202=1:=by kernel_rfl
theorem pX:Tryz.prog.cellsOf 54=1:=by kernel_rfl
def Tab (w:World):Prop :=
 w.cell?⟨2,0,none⟩=some(.int .u64 56)/\w.cell?⟨2,1,none⟩=some(.int .u64 255)/\w.cell?⟨2,2,none⟩=some(.int .u64 28) /\
 w.cell?⟨2,3,none⟩=some(.int .u64 268435455)/\w.cell?⟨2,4,none⟩=some(.int .u64 0)/\w.cell?⟨2,5,none⟩=some(.int .u64 268435455)/\2<w.heap.size
theorem Tab.below {w w':World}(h:Tab w)(hb:Below w.heap.size w w'):Tab w':=by
 obtain⟨h0,h1,h2,h3,h4,h5,hs⟩:=h;refine⟨?_,?_,?_,?_,?_,?_,Nat.lt_of_lt_of_le hs hb.size⟩
 ·exact(hb.cell(p:=⟨2,0,none⟩) hs).trans h0
 ·exact(hb.cell(p:=⟨2,1,none⟩) hs).trans h1
 ·exact(hb.cell(p:=⟨2,2,none⟩) hs).trans h2
 ·exact(hb.cell(p:=⟨2,3,none⟩) hs).trans h3
 ·exact(hb.cell(p:=⟨2,4,none⟩) hs).trans h4
 ·exact(hb.cell(p:=⟨2,5,none⟩) hs).trans h5
theorem fZ (w:World)(n:Nat):Below w.heap.size w (w.drewN n):=by
 have key:∀ (n:Nat)(v:World),Below w.heap.size w v->Below w.heap.size w(v.drewN n):=by
  intro n
  induction n with
  | zero=>intro v h;exact h
  | succ n ih=>intro v h;exact(ih v h).drew
 exact key n w(Below.refl _ _)
theorem BL {a b c:World}(h:Below a.heap.size a b)(k:Below b.heap.size b c):Below a.heap.size a c:=h.trans (k.mono h.size)
theorem uu (n:Int)(w:World)(hT:Tab w)(h1:0<=n)(h2:n<=255) :
  Calls Tryz.prog 158 #[.int .i64 0,.int .i64 n] w fun e w'=>e=.returned(.bool true)/\w'=w:=by
 have hc:=hT.2.1;go_enter Tryz.func158,Tryz.ntmps158;go_wp2;go_ret;exact⟨br(by simp;try omega),rfl⟩
theorem vZ (n:Int)(w:World)(hT:Tab w)(h1:0<=n)(h2:n<=268435455) :
  Calls Tryz.prog 158 #[.int .i64 1,.int .i64 n] w fun e w'=>e=.returned(.bool true)/\w'=w:=by
 have hc:=hT.2.2.2.1;go_enter Tryz.func158,Tryz.ntmps158;go_wp2;go_ret;exact⟨br(by simp;try omega),rfl⟩
theorem uV (n:Int)(w:World)(hT:Tab w)(h1:0<=n)(h2:n<=268435455) :
  Calls Tryz.prog 158 #[.int .i64 2,.int .i64 n] w fun e w'=>e=.returned(.bool true)/\w'=w:=by
 have hc:=hT.2.2.2.2.2.1;go_enter Tryz.func158,Tryz.ntmps158;go_wp2;go_ret;exact⟨br(by simp;try omega),rfl⟩
theorem lay0 (n:Int)(w:World)(hT:Tab w)(h1:0<=n)(h2:n<=255) :
  Calls Tryz.prog 159 #[.int .i64 0,.int .i64 n] w fun e w'=>e=.returned(.int .u64(n*72057594037927936))/\w'=w:=by
 have hc:=hT.1;go_enter Tryz.func159,Tryz.ntmps159;go_wp2;go_ret;exact⟨rfl,rfl⟩
theorem lay1 (n:Int)(w:World)(hT:Tab w)(h1:0<=n)(h2:n<=268435455) :
  Calls Tryz.prog 159 #[.int .i64 1,.int .i64 n] w fun e w'=>e=.returned(.int .u64(n*268435456))/\w'=w:=by
 have hc:=hT.2.2.1;go_enter Tryz.func159,Tryz.ntmps159;go_wp2;go_ret;exact⟨rfl,rfl⟩
theorem lay2 (n:Int)(w:World)(hT:Tab w)(h1:0<=n)(h2:n<=268435455) :
  Calls Tryz.prog 159 #[.int .i64 2,.int .i64 n] w fun e w'=>e=.returned(.int .u64 n)/\w'=w:=by
 have hc:=hT.2.2.2.2.1;go_enter Tryz.func159,Tryz.ntmps159;go_wp2;go_ret;exact⟨kZ(by simp),rfl⟩
theorem DD (u:Int)(w:World)(hT:Tab w)(h1:0<=u)(h2:u<18446744073709551616) :
  Calls Tryz.prog 229 #[.int .i64 0,.int .u64 u] w fun e w'=>e=.returned(.int .i64(u / 72057594037927936))/\Below w.heap.size w w':=by
 have hc:=hT.1;have hd:=hT.2.1;go_enter Tryz.func229,Tryz.ntmps229;go_wp2
 go_quiet(fail)
 go_wp2;go_ret;exact⟨kZ(y8 u h1 h2),fZ _ _⟩
theorem EB (u:Int)(w:World)(hT:Tab w)(h1:0<=u)(h2:u<18446744073709551616) :
  Calls Tryz.prog 229 #[.int .i64 1,.int .u64 u] w fun e w'=>e=.returned(.int .i64(u / 268435456 % 268435456))/\Below w.heap.size w w':=by
 have hc:=hT.2.2.1;have hd:=hT.2.2.2.1;go_enter Tryz.func229,Tryz.ntmps229;go_wp2
 go_quiet(fail)
 go_wp2;go_ret;exact⟨kZ(xc u h1 h2),fZ _ _⟩
theorem D1 (u:Int)(w:World)(hT:Tab w)(h1:0<=u)(h2:u<18446744073709551616) :
  Calls Tryz.prog 229 #[.int .i64 2,.int .u64 u] w fun e w'=>e=.returned(.int .i64(u % 268435456))/\Below w.heap.size w w':=by
 have hc:=hT.2.2.2.2.1;have hd:=hT.2.2.2.2.2.1;go_enter Tryz.func229,Tryz.ntmps229;go_wp2
 go_quiet(fail)
 go_wp2;go_ret;exact⟨kZ(by simpa using yg u h1 h2),fZ _ _⟩
theorem zM {k l:IntKind}{a b c:Int}(h:a=b):Ending.returned (.tuple #[.int k a,.int l c])=.returned (.tuple #[.int k b,.int l c]):=by rw[h]
theorem pv (o a b:Int)(w:World)(hT:Tab w)(h1:0<=o)(h2:o<=255)(h3:0<=a)(h4:a<=268435455)(h5:0<=b)(h6:b<=268435455) :
  Calls Tryz.prog 98 #[.int .i64 o,.int .i64 a,.int .i64 b] w fun e w' =>
   e=.returned(.tuple #[.int .u64((o*268435456+a)*268435456+b),.int .i64 0])/\w'=w:=by
 go_enter Tryz.func98,Tryz.ntmps98;go_wp2_with fail;refine(uu o w hT h1 h2).mono ?_;rintro e w1⟨rfl,rfl⟩;go_wp2_with fail;refine(vZ a _ hT h3 h4).mono ?_;rintro e w1⟨rfl,rfl⟩;go_wp2_with fail;refine(uV b _ hT h5 h6).mono ?_;rintro e w1⟨rfl,rfl⟩;go_wp2_with fail;refine(lay0 o _ hT h1 h2).mono ?_;rintro e w1⟨rfl,rfl⟩;go_wp2_with fail;refine(lay1 a _ hT h3 h4).mono ?_;rintro e w1⟨rfl,rfl⟩;go_wp2_with fail;refine(lay2 b _ hT h5 h6).mono ?_;rintro e w1⟨rfl,rfl⟩;go_wp2;go_ret2;exact⟨zM(AF o a b h1 h2 h3 h4 h5 h6),rfl⟩
theorem ui (u:Int)(w:World)(hT:Tab w)(h1:0<=u)(h2:u<18446744073709551616) :
  Calls Tryz.prog 169 #[.int .u64 u] w fun e w' =>
   e=.returned(.tuple #[.int .i64(u / 72057594037927936),.int .i64(u / 268435456 % 268435456),.int .i64(u % 268435456)])/\Below w.heap.size w w':=by
 go_enter Tryz.func169,Tryz.ntmps169;go_wp2_with fail;refine(DD u w hT h1 h2).mono ?_;rintro e w1⟨rfl,hb1⟩;have hT1:=hT.below hb1;go_wp2_with fail;refine(EB u w1 hT1 h1 h2).mono ?_;rintro e w2⟨rfl,hb2⟩;have hT2:=hT1.below hb2;go_wp2_with fail;refine(D1 u w2 hT2 h1 h2).mono ?_;rintro e w3⟨rfl,hb3⟩;go_wp2;go_ret3;exact⟨rfl,BL(BL hb1 hb2) hb3⟩
abbrev I17:Nat->Prop:=fun k=>1<=k/\k<=7
theorem cC {i:Nat}(h:1<=i/\i<=7):∀ k,k=i->I17 k:=fun k hk=>by subst hk;exact h
def eR (x:Wo):Int:=((x.op:Int)*268435456+(x.a:Int))*268435456+(x.b:Int)
def Wo.ok (x:Wo):Prop:=x.op<=255/\x.a<=268435455/\x.b<=268435455
theorem Ak {x:Wo}(h:x.ok):0<=eR x/\eR x<18446744073709551616:=by
 obtain⟨h1,h2,h3⟩:=h;unfold eR;omega
theorem sD {x:Wo}(h:x.ok):eR x / 72057594037927936=(x.op:Int)/\eR x / 268435456 % 268435456=(x.a:Int)/\eR x % 268435456=(x.b:Int):=by
 obtain⟨h1,h2,h3⟩:=h;unfold eR;omega
def woV (l:List Wo):List Value:=l.map fun x=>.int .u64 (eR x)
def eiV (l:List Int):List Value:=l.map (.int .i64 ·)
def esV (l:List (List UInt8)):List Value:=l.map stv
structure EmW (w:World)(o:Nat->Nat)(rb:Nat)(lv:Value)(s:Em):Prop where
 ok:∀ x ∈ s.ws,x.ok
 ci:∀ n ∈ s.cs,-9223372036854775808<=n/\n<=9223372036854775807
 ni:∀ x ∈ s.ns,x.length<=maxLen
 mem:∃vw vc vn vk mc mn,Blk w o 1 rb(.cells #[vw,vc,vn,vk,.map(some mc),.map(some mn),lv,.int .i64(s.dp:Nat)] 95) /\
  Row w o 2 54 1 vw s.ws.length(woV s.ws)/\Row w o 3 3 1 vc s.cs.length(eiV s.cs)/\Row w o 4 9 1 vn s.ns.length(esV s.ns)/\Row w o 5 3 1 vk s.ks.length(eiV s.ks) /\
  MpC w o 6 mc s.cs/\MpS w o 7 mn s.ns
theorem EmW.step {I:Nat->Prop}{w w':World}{o o':Nat->Nat}{rb:Nat}{lv:Value}{s:Em}(h:EmW w o rb lv s)(x:aa I w o w' o')(hi:∀ k,I17 k->¬I k):EmW w' o' rb lv s:=by
 obtain⟨h1,h2,h3,vw,vc,vn,vk,mc,mn,q0,q1,q2,q3,q4,q5,q6⟩:=h;exact⟨h1,h2,h3,vw,vc,vn,vk,mc,mn,q0.step x(hi 1(by decide)),q1.step x(hi 2(by decide)),q2.step x(hi 3(by decide)),q3.step x(hi 4(by decide)),q4.step x(hi 5(by decide)),q5.step x(hi 6(by decide)),q6.step x(hi 7(by decide))⟩
theorem EmW.below {w w':World}{o:Nat->Nat}{rb:Nat}{lv:Value}{s:Em}(h:EmW w o rb lv s)(b:Below w.heap.size w w'):EmW w' o rb lv s :=
 h.step(aa.ofBelow(I:=fun _=>False) o b)(fun _ _=>id)
theorem dY {w:World}{b:Nat}{x0 x1 x2 x3 x4 x5 x6 x7:Value}{t:TypeId}(h:w.heap[b]?=some (.cells #[x0,x1,x2,x3,x4,x5,x6,x7] t)):(w.cell? ⟨b,0,none⟩=some x0/\w.cell? ⟨b,1,none⟩=some x1/\w.cell? ⟨b,2,none⟩=some x2/\w.cell? ⟨b,3,none⟩=some x3/\w.cell? ⟨b,4,none⟩=some x4/\w.cell? ⟨b,5,none⟩=some x5/\w.cell? ⟨b,6,none⟩=some x6/\w.cell? ⟨b,7,none⟩=some x7)/\∀ j,w.frozen? ⟨b,j,none⟩=false:=by
 refine⟨⟨?_,?_,?_,?_,?_,?_,?_,?_⟩,fun j=>?_⟩<;>simp[World.cell?,World.frozen?,h]
structure EmX (w:World)(o:Nat->Nat)(lv:Value)(ls:List Int):Prop where
 tab:Tab w
 tl:o 2=0
 bar:∀ k:Nat,k<25->w.cell?⟨0,k,none⟩=some(.int .i64([0,0,0,0,0,0,4,5,6,7,8,9,10,0,0,0,0,0,0,0,0,0,20,0,22].getD k 0))
 bl:o 0=0/\0<w.heap.size
 lvs:∃ao cap,lv=.slice ao ls.length cap/\(ls=[]\/∃b off,ao=some⟨b,off,none⟩/\o b=0/\b<w.heap.size/\∀ j x,ls[j]?=some x->w.cell?⟨b,off+j,none⟩=some(.int .i64 x))
theorem EmX.step {I:Nat->Prop}{w w':World}{o o':Nat->Nat}{lv:Value}{ls:List Int}(h:EmX w o lv ls)(x:aa I w o w' o')(hi:¬I 0):EmX w' o' lv ls:=by
 obtain⟨h1,h2,h3,⟨h4,h5⟩,ao,cap,h6,h7⟩:=h;have hs:2<w.heap.size:=h1.2.2.2.2.2.2;have hb:=x.block 2 hs(by rw[h2];exact hi);have hb2:=x.block 0 h5(by rw[h4];exact hi);refine⟨?_,(x.lab _ hs).trans h2,fun k hk=>(World.cell?_of_block(a:=⟨0,k,none⟩) hb2).trans(h3 k hk),⟨(x.lab _ h5).trans h4,Nat.lt_of_lt_of_le h5 x.size⟩,ao,cap,h6,?_⟩
 ·obtain⟨e0,e1,e2,e3,e4,e5,e6⟩:=h1;exact⟨(World.cell?_of_block(a:=⟨2,0,none⟩) hb).trans e0,(World.cell?_of_block(a:=⟨2,1,none⟩) hb).trans e1,(World.cell?_of_block(a:=⟨2,2,none⟩) hb).trans e2,(World.cell?_of_block(a:=⟨2,3,none⟩) hb).trans e3,(World.cell?_of_block(a:=⟨2,4,none⟩) hb).trans e4,(World.cell?_of_block(a:=⟨2,5,none⟩) hb).trans e5,Nat.lt_of_lt_of_le e6 x.size⟩
 ·rcases h7 with h7|⟨b,off,e1,e2,e3,e4⟩
  ·exact .inl h7
  ·exact .inr⟨b,off,e1,(x.lab b e3).trans e2,Nat.lt_of_lt_of_le e3 x.size,fun j y hy=>(World.cell?_of_block(a:=⟨b,off+j,none⟩)(x.block b e3(by rw[e2];exact hi))).trans(e4 j y hy)⟩
theorem EmX.below {w w':World}{o:Nat->Nat}{lv:Value}{ls:List Int}(h:EmX w o lv ls)(b:Below w.heap.size w w'):EmX w' o lv ls:=h.step (aa.ofBelow (I:=fun _=>False) o b) id
def jU (w:World)(o:Nat->Nat)(rb:Nat)(lv:Value)(s:Em)(v:Value)(e:Ending)(w':World):Prop:=e=.returned v/\∃o',EmW w' o' rb lv s/\aa I17 w o w' o'
abbrev SnO (w:World)(o:Nat->Nat)(f:Fs)(ao:Option Addr):Prop:=SlN w (fun b=>o b=0) f ao
theorem SlN.stepO {I:Nat->Prop}{w w':World}{o o':Nat->Nat}{f:Fs}{ao:Option Addr}(h:SnO w o f ao)(x:aa I w o w' o')(hi:¬I 0):SnO w' o' f ao :=
 h.mono(fun k hk hl=>x.block k hl(by rw[hk];exact hi)) x.size(fun k hk hl=>(x.lab k hl).trans hk)
theorem qM:(Tryz.prog.info? 54).map (fun i=>(i.zero,i.size,i.bytes))=some (some (.int .u64 0),1,8):=by kernel_rfl
theorem oj:(Tryz.prog.info? 3).map (fun i=>(i.zero,i.size,i.bytes))=some (some (.int .i64 0),1,8):=by kernel_rfl
theorem sv:(Tryz.prog.info? 9).map (fun i=>(i.zero,i.size,i.bytes))=some (some (.string ⟨#[]⟩),1,16):=by kernel_rfl
theorem f6 (v:Value)(h:v.oneCell'=true):∀ u ∈ [v],u.oneCell'=true:=by
 intro u hu;simp at hu;subst hu;exact h
theorem noF:∀ k,I17 k->¬(fun _:Nat=>False) k:=fun _ _=>id
theorem bW (op a b:Nat)(w:World)(o:Nat->Nat)(rb:Nat)(lv:Value)(ls:List Int)(s:Em)(hop:op<=255)(ha:a<=268435455)(hb:b<=268435455)(hm:s.mes<=100000000)(X:EmX w o lv ls)(h:EmW w o rb lv s) :
  Calls Tryz.prog 47 #[.pointer(some⟨rb,0,none⟩),.int .i64(op:Nat),.int .i64(a:Nat),.int .i64(b:Nat)] w(jU w o rb lv(s.lay op a b)(.int .i64(s.ws.length:Nat))):=by
 obtain⟨h1,h2,h3,vw,vc,vn,vk,mc,mn,q0,q1,q2,q3,q4,q5,q6⟩:=h;obtain⟨ii,i1,i2,i3,i4⟩:=aH qM;obtain⟨⟨c0,c1,c2,c3,c4,c5,c6,c7⟩,cf⟩:=dY q0.1;have HW:=pv(op:Int)(a:Int)(b:Int) w X.tab(by omega)(by omega)(by omega)(by omega)(by omega)(by omega);have hl:s.ws.length<=100000000:=by unfold Em.mes at hm;omega
 have hx:Hid((⟨op,a,b⟩:Wo).ok):=⟨hop,ha,hb⟩
 have hn1:s.ws.length+1<=maxLen:=by unfold maxLen;omega
 have hn2:(s.ws.length+1)*8<=140737488355328:=by omega
 have he:(((op:Int)*268435456+(a:Int))*268435456+(b:Int))=eR⟨op,a,b⟩:=rfl;rw[he] at HW;have hwv:Hid(woV(s.lay op a b).ws=woV s.ws++[.int .u64(eR⟨op,a,b⟩)]):=by show _=_;simp[woV,Em.lay]
 generalize eR⟨op,a,b⟩=ev at *;have q1':=q1.step(aa.ofBelow(I:=fun _=>False) o(b1 w(.cells #[.int .u64 ev] 54))) id;clear he X hm;go_enter Tryz.func47,Tryz.ntmps47;go_wp2_with(first|(go_at_call 98;refine HW.mono ?_;rintro e w1⟨rfl,hww⟩;subst hww)|(at_builtin;refine aB rfl(.tmp 23)(.tmp 25) 39 rfl 54 ii(.int .u64 0) 1 8 Tryz.underlying39 i1 i2 i3 i4 rfl(by decide) o 2 vw s.ws.length(woV s.ws) rfl q1'⟨w1.heap.size,0,none⟩ 1 1 [.int .u64 ev] rfl rfl(cJ _ _ _)(f6 _ rfl)(by decide) hn1 hn2 ?_)|go_in);intro g1 cp w2 o2 R2 S2;have s1:aa(fun k=>k=2) w1 o w2 o2:=(aa.ofBelow o(b1 w1 _)).trans S2;have p0:=q0.step s1(by decide);have p2:=q2.step s1(by decide);have p3:=q3.step s1(by decide);have p4:=q4.step s1(by decide);have p5:=q5.step s1(by decide);have p6:=q6.step s1(by decide);obtain⟨⟨d0,d1,d2,d3,d4,d5,d6,d7⟩,df⟩:=dY p0.1;have df0:=df 0;have s3:aa(fun k=>k=1) w2 o2(w2.setCell⟨rb,0,none⟩(.slice(some⟨g1,0,none⟩)(s.ws.length+1) cp)) o2:=bU _ w2 o2⟨rb,0,none⟩ _ p0.2;have HF:Hid(EmW(w2.setCell⟨rb,0,none⟩(.slice(some⟨g1,0,none⟩)(s.ws.length+1) cp)) o2 rb lv(s.lay op a b)/\aa I17 w1 o(w2.setCell⟨rb,0,none⟩(.slice(some⟨g1,0,none⟩)(s.ws.length+1) cp)) o2):=by
  refine⟨⟨fun x hx2=>?_,h2,h3,_,vc,vn,vk,mc,mn,p0.set 0 _,?_,p2.step s3(by decide),p3.step s3(by decide),p4.step s3(by decide),p5.step s3(by decide),p6.step s3(by decide)⟩,(s1.mono(cC(by decide))).trans(s3.mono(cC(by decide)))⟩
  ·rcases List.mem_append.1 hx2 with hx2|hx2
   ·exact h1 x hx2
   ·simp at hx2;rw[hx2];exact hx.out
  ·rw[hwv.out]
   have:=R2.step s3(by decide)
   have e:(s.lay op a b).ws.length=s.ws.length+1:=by simp[Em.lay]
   rw[e];exact this
 have hsub:((s.ws.length+1:Nat):Int)-1=(s.ws.length:Int):=by omega
 clear s1 s3 R2 S2 p0 p2 p3 p4 p5 p6 q0 q1 q2 q3 q4 q5 q6 q1' HW c0 c1 c2 c3 c4 c5 c6 c7 cf;go_wp2;go_ret;exact⟨by first|rfl|(simp;done)|(congr 1;simp),o2,HF.out⟩
theorem rE (w:World)(o:Nat->Nat)(rb:Nat)(lv:Value)(s:Em)(h:EmW w o rb lv s) :
  Calls Tryz.prog 223 #[.pointer(some⟨rb,0,none⟩)] w fun e w'=>e=.returned(.int .i64(s.ws.length:Nat))/\w'=w:=by
 obtain⟨h1,h2,h3,vw,vc,vn,vk,mc,mn,q0,q1,-⟩:=h;obtain⟨⟨c0,c1,c2,c3,c4,c5,c6,c7⟩,cf⟩:=dY q0.1;obtain⟨ao,cap,rfl⟩:=q1.form;clear q0 q1;go_enter Tryz.func223,Tryz.ntmps223;go_wp2;go_ret;exact⟨rfl,rfl⟩
abbrev spV (ar u:Nat):Value:=.agg #[.int .i64 (ar:Nat),.int .i64 (u:Nat)]
theorem gS {w:World}{b:Nat}{x0 x1:Value}{t:TypeId}(h:w.heap[b]?=some (.cells #[x0,x1] t)):(w.cell? ⟨b,0,none⟩=some x0/\w.cell? ⟨b,1,none⟩=some x1)/\∀ j,w.frozen? ⟨b,j,none⟩=false:=by
 refine⟨⟨?_,?_⟩,fun j=>?_⟩<;>simp[World.cell?,World.frozen?,h]
theorem qU (op a b ar u:Nat)(w:World)(o:Nat->Nat)(rb:Nat)(lv:Value)(ls:List Int)(s:Em)(hop:op<=255)(ha:a<=268435455)(hb:b<=268435455)(hu:u<=1000000000)(hd:s.dp<=1000000001)(hm:s.mes<=100000000)(X:EmX w o lv ls)(h:EmW w o rb lv s) :
  Calls Tryz.prog 88 #[.pointer(some⟨rb,0,none⟩),.int .i64(op:Nat),.int .i64(a:Nat),.int .i64(b:Nat),spV ar u] w(jU w o rb lv(s.push op a b u)(.tuple #[])):=by
 obtain⟨w1,hw1⟩:∃w1,w1=w.alloc(.cells #[.int .i64(ar:Nat),.int .i64(u:Nat)] 91):=⟨_,rfl⟩
 obtain⟨g,hg⟩:∃g,g=w.heap.size:=⟨_,rfl⟩
 have s0:∀ {I:Nat->Prop},aa I w o w1(ae w o 0):=fun {I}=>by rw[hw1];exact aO I w o _
 have B1:Blk w1(ae w o 0) 0 g(.cells #[.int .i64(ar:Nat),.int .i64(u:Nat)] 91):=by rw[hw1,hg];exact⟨heap_alloc_new _ _,ax(Nat.le_refl _)⟩
 have H1:=h.step(s0(I:=fun _=>False)) noF;have X1:=X.step(s0(I:=fun _=>False)) id;have S0:=s0(I:=I17);generalize ae w o 0=o1 at *;have HL:=bW op a b w1 o1 rb lv ls s hop ha hb hm X1 H1;have HG:=Lib.hid hg;clear s0 h X hg H1 X1;go_enter Tryz.func88,Tryz.ntmps88;go_upto_region 1 with fail;rw[<-hw1,<-HG.out];clear hw1;go_upto_region 2 with(first|(go_at_call 47;refine HL.mono ?_;rintro e w2⟨rfl,o2,E2,S2⟩))
 have B2:=B1.step S2(by decide);obtain⟨h1,h2,h3,vw,vc,vn,vk,mc,mn,q0,q1,q2,q3,q4,q5,q6⟩:=E2;have t3:aa(fun k=>k=1) w2 o2(w2.setCell⟨rb,7,none⟩(.int .i64(max s.dp(u+1):Nat))).drew o2:=((aa.refl _ w2 o2).setCell⟨rb,7,none⟩ _ q0.2).drew;have HF:Hid(EmW(w2.setCell⟨rb,7,none⟩(.int .i64(max s.dp(u+1):Nat))).drew o2 rb lv(s.push op a b u)/\aa I17 w o(w2.setCell⟨rb,7,none⟩(.int .i64(max s.dp(u+1):Nat))).drew o2):=by
  have q0d:=(q0.set 7(.int .i64(max s.dp(u+1):Nat))).step((aa.refl(fun _=>False) _ o2).drew) id;exact⟨⟨h1,h2,h3,vw,vc,vn,vk,mc,mn,q0d,q1.step t3(by decide),q2.step t3(by decide),q3.step t3(by decide),q4.step t3(by decide),q5.step t3(by decide),q6.step t3(by decide)⟩,(S0.trans S2).trans(t3.mono(cC(by decide)))⟩
 obtain⟨⟨c0,c1,c2,c3,c4,c5,c6,c7⟩,cf⟩:=dY q0.1;obtain⟨⟨e0,e1⟩,-⟩:=gS B2.1;have cf7:=cf 7;have hdp:(s.lay op a b).dp=s.dp:=rfl;rw[hdp] at c7;have hmx:(if(s.dp:Int)<(u:Int)+1 then(u:Int)+1 else(s.dp:Int))=((max s.dp(u+1):Nat):Int):=by split<;>omega
 have HMX:=Lib.hid hmx;have HMY:Hid(max(s.dp:Int)((u:Int)+1)=((max s.dp(u+1):Nat):Int)):=by show _=_;omega
 clear t3 q0 q1 q2 q3 q4 q5 q6 B1 B2 HL S2 S0 hmx cf;go_region
 all_goals
  first|rw[HMX.out] | rw[HMY.out]
  go_end0
  exact⟨rfl,o2,HF.out⟩
theorem gp (ar u v:Nat)(w:World)(hu:u<=1000000000)(hv:v<=1000000000) :
  Calls Tryz.prog 96 #[spV ar u,.int .i64(v:Nat)] w fun e w'=>e=.returned(spV ar(u+v))/\Below w.heap.size w w':=by
 obtain⟨w1,hw1⟩:∃w1,w1=(w.alloc(.cells #[.int .i64(ar:Nat),.int .i64(u:Nat)] 91)).alloc(.cells #[.int .i64 0,.int .i64 0] 91):=⟨_,rfl⟩
 obtain⟨g,hg⟩:∃g,g=w.heap.size:=⟨_,rfl⟩
 have B1:Below g w w1:=by rw[hw1,hg];exact((Below.refl _ w).alloc(Nat.le_refl _) _).alloc(by simp) _
 have e0:w1.heap[g]?=some(.cells #[.int .i64(ar:Nat),.int .i64(u:Nat)] 91):=by rw[hw1,hg];exact(heap_alloc_old _ _(by simp)).trans(heap_alloc_new _ _)
 have e1:w1.heap[g+1]?=some(.cells #[.int .i64 0,.int .i64 0] 91):=by
  have:=heap_alloc_new(w.alloc(.cells #[.int .i64(ar:Nat),.int .i64(u:Nat)] 91))(.cells #[.int .i64 0,.int .i64 0] 91)
  rw[hw1,hg];simpa using this
 obtain⟨⟨c0,c1⟩,cf⟩:=gS e0;obtain⟨⟨d0,d1⟩,df⟩:=gS e1;have HG:=Lib.hid hg;clear hg;go_enter Tryz.func96,Tryz.ntmps96;go_upto_region 1 with fail;rw[<-hw1,<-HG.out];clear hw1;have z1:=heap_setCell_same _(g+1) 1 #[.int .i64(ar:Nat),.int .i64 0] _(.int .i64((u:Int)+(v:Int)))(heap_setCell_same _(g+1) 0 _ _(.int .i64(ar:Nat))((heap_setCell_other w1⟨g,1,none⟩(g+1)(.int .i64((u:Int)+(v:Int)))(by simp)).trans e1));obtain⟨⟨m0,m1⟩,-⟩:=gS z1;have BE:Hid(Below g w(((w1.setCell⟨g,1,none⟩(.int .i64((u:Int)+(v:Int)))).setCell⟨g+1,0,none⟩(.int .i64(ar:Nat))).setCell⟨g+1,1,none⟩(.int .i64((u:Int)+(v:Int))))):=((B1.setCell(p:=⟨g,1,none⟩)(Nat.le_refl _) _).setCell(p:=⟨g+1,0,none⟩)(by show g<=g+1;omega) _).setCell(p:=⟨g+1,1,none⟩)(by show g<=g+1;omega) _;clear z1 B1 e0 e1;go_wp2;exact bodyPost_ret(v:=spV ar(u+v))(by simp[results,Tryz.results96,go_sem,m0,m1]) rfl⟨rfl,by rw[<-HG.out];exact BE.out⟩
theorem tC (k:Int)(w:World)(o:Nat->Nat)(rb:Nat)(lv:Value)(ls:List Int)(s:Em)(hk:-9223372036854775808<=k/\k<=9223372036854775807)(hm:s.mes<=100000000)(X:EmX w o lv ls)(h:EmW w o rb lv s) :
  Calls Tryz.prog 89 #[.pointer(some⟨rb,0,none⟩),.int .i64 k] w(jU w o rb lv(s.kc k)(.int .i64(s.cs.idxOf k:Nat))):=by
 have h':=h;obtain⟨h1,h2,h3,vw,vc,vn,vk,mc,mn,q0,q1,q2,q3,q4,q5,q6⟩:=h;obtain⟨ii,i1,i2,i3,i4⟩:=aH oj;obtain⟨⟨c0,c1,c2,c3,c4,c5,c6,c7⟩,cf⟩:=dY q0.1;obtain⟨ao,cap,rfl⟩:=q2.form;have hl:s.cs.length<=100000000:=by unfold Em.mes at hm;omega
 by_cases hin:k ∈ s.cs
 ·have hr:=q5.look k hk hin;have e:s.kc k=s:=by simp[Em.kc,hin]
  rw[e];have HF:=Lib.hid h';clear h' q0 q1 q2 q3 q4 q5 q6 e;go_enter Tryz.func89,Tryz.ntmps89;go_wp2;go_ret;exact⟨rfl,o,HF.out,aa.refl _ _ _⟩
 ·obtain⟨x,hr⟩:=q5.miss k hk hin;obtain⟨w1,hr2,M1,s1⟩:=q5.put k hk hin(by omega);have hn1:s.cs.length+1<=maxLen:=by unfold maxLen;omega
  have hn2:(s.cs.length+1)*8<=140737488355328:=by omega
  have p0:=q0.step s1(by decide);have pr:=(q2.step s1(by decide)).step(aa.ofBelow(I:=fun _=>False) o(b1 w1(.cells #[.int .i64 k] 3))) id;obtain⟨⟨d0,d1,d2,d3,d4,d5,d6,d7⟩,df⟩:=dY p0.1;have HX:Hid(s.kc k=⟨s.ws,s.cs++[k],s.ns,s.ks,s.dp⟩/\s.cs.idxOf k=s.cs.length):=⟨by simp[Em.kc,hin],jq hin⟩
  clear X;go_enter Tryz.func89,Tryz.ntmps89;go_wp2_with(first|(at_builtin;refine aB rfl(.tmp 35)(.tmp 37) 35 rfl 3 ii(.int .i64 0) 1 8 Tryz.underlying35 i1 i2 i3 i4 rfl(by decide) o 3(.slice ao s.cs.length cap) s.cs.length(eiV s.cs) rfl pr⟨w1.heap.size,0,none⟩ 1 1 [.int .i64 k] rfl rfl(cJ _ _ _)(f6 _ rfl)(by decide) hn1 hn2 ?_)|go_in);intro g1 cp w2 o2 R2 S2;have s2:aa(fun k=>k=3) w1 o w2 o2:=(aa.ofBelow o(b1 w1 _)).trans S2;have r0:=p0.step s2(by decide);obtain⟨⟨d0,d1,d2,d3,d4,d5,d6,d7⟩,df⟩:=dY r0.1;have df0:=df 1;have s3:aa(fun k=>k=1) w2 o2(w2.setCell⟨rb,1,none⟩(.slice(some⟨g1,0,none⟩)(s.cs.length+1) cp)) o2:=bU _ w2 o2⟨rb,1,none⟩ _ r0.2;have HF:Hid(EmW(w2.setCell⟨rb,1,none⟩(.slice(some⟨g1,0,none⟩)(s.cs.length+1) cp)) o2 rb lv(s.kc k)/\aa I17 w o(w2.setCell⟨rb,1,none⟩(.slice(some⟨g1,0,none⟩)(s.cs.length+1) cp)) o2):=by
   rw[HX.out.1];refine⟨⟨h1,?_,h3,vw,_,vn,vk,mc,mn,r0.set 1 _,((q1.step s1(by decide)).step s2(by decide)).step s3(by decide),?_,((q3.step s1(by decide)).step s2(by decide)).step s3(by decide),((q4.step s1(by decide)).step s2(by decide)).step s3(by decide),(M1.step s2(by decide)).step s3(by decide),((q6.step s1(by decide)).step s2(by decide)).step s3(by decide)⟩,((s1.mono(cC(by decide))).trans(s2.mono(cC(by decide)))).trans(s3.mono(cC(by decide)))⟩
   ·intro y hy;rcases List.mem_append.1 hy with hy|hy
    ·exact h2 y hy
    ·simp at hy;rw[hy];exact hk
   ·have:=R2.step s3(by decide)
    have e:(s.cs++[k]).length=s.cs.length+1:=by simp
    have e2:eiV(s.cs++[k])=eiV s.cs++[.int .i64 k]:=by simp[eiV]
    rw[e,e2];exact this
  have HI:Hid(s.cs.idxOf k=s.cs.length):=HX.out.2;clear s1 s2 s3 R2 S2 p0 pr r0 q0 q1 q2 q3 q4 q5 q6 hr hr2 M1 HX;go_wp2;go_ret;exact⟨by rw[HI.out];rfl,o2,HF.out⟩
theorem yM (k:List UInt8)(w:World)(o:Nat->Nat)(rb:Nat)(lv:Value)(ls:List Int)(s:Em)(hk:k.length<=maxLen)(hm:s.mes<=100000000)(X:EmX w o lv ls)(h:EmW w o rb lv s) :
  Calls Tryz.prog 157 #[.pointer(some⟨rb,0,none⟩),stv k] w(jU w o rb lv(s.kn k)(.int .i64(s.ns.idxOf k:Nat))):=by
 have h':=h;obtain⟨h1,h2,h3,vw,vc,vn,vk,mc,mn,q0,q1,q2,q3,q4,q5,q6⟩:=h;obtain⟨ii,i1,i2,i3,i4⟩:=aH sv;obtain⟨⟨c0,c1,c2,c3,c4,c5,c6,c7⟩,cf⟩:=dY q0.1;obtain⟨ao,cap,rfl⟩:=q3.form;have hl:s.ns.length<=100000000:=by unfold Em.mes at hm;omega
 by_cases hin:k ∈ s.ns
 ·have hr:=q6.look k hk hin;have e:s.kn k=s:=by simp[Em.kn,hin]
  rw[e];have HF:=Lib.hid h';clear h' q0 q1 q2 q3 q4 q5 q6 e;go_enter Tryz.func157,Tryz.ntmps157;go_wp2;go_ret;exact⟨rfl,o,HF.out,aa.refl _ _ _⟩
 ·obtain⟨x,hr⟩:=q6.miss k hk hin;obtain⟨w1,hr2,M1,s1⟩:=q6.put k hk hin(by omega);have hn1:s.ns.length+1<=maxLen:=by unfold maxLen;omega
  have hn2:(s.ns.length+1)*16<=140737488355328:=by omega
  have p0:=q0.step s1(by decide);have pr:=(q3.step s1(by decide)).step(aa.ofBelow(I:=fun _=>False) o(b1 w1(.cells #[stv k] 9))) id;obtain⟨⟨d0,d1,d2,d3,d4,d5,d6,d7⟩,df⟩:=dY p0.1;have HX:Hid(s.kn k=⟨s.ws,s.cs,s.ns++[k],s.ks,s.dp⟩/\s.ns.idxOf k=s.ns.length):=⟨by simp[Em.kn,hin],jq hin⟩
  clear X;go_enter Tryz.func157,Tryz.ntmps157;go_wp2_with(first|(at_builtin;refine aB rfl(.tmp 35)(.tmp 37) 40 rfl 9 ii(.string⟨#[]⟩) 1 16 Tryz.underlying40 i1 i2 i3 i4 rfl(by decide) o 4(.slice ao s.ns.length cap) s.ns.length(esV s.ns) rfl pr⟨w1.heap.size,0,none⟩ 1 1 [stv k] rfl rfl(cJ _ _ _)(f6 _ rfl)(by decide) hn1 hn2 ?_)|go_in);intro g1 cp w2 o2 R2 S2;have s2:aa(fun k=>k=4) w1 o w2 o2:=(aa.ofBelow o(b1 w1 _)).trans S2;have r0:=p0.step s2(by decide);obtain⟨⟨d0,d1,d2,d3,d4,d5,d6,d7⟩,df⟩:=dY r0.1;have df0:=df 2;have s3:aa(fun k=>k=1) w2 o2(w2.setCell⟨rb,2,none⟩(.slice(some⟨g1,0,none⟩)(s.ns.length+1) cp)) o2:=bU _ w2 o2⟨rb,2,none⟩ _ r0.2;have HF:Hid(EmW(w2.setCell⟨rb,2,none⟩(.slice(some⟨g1,0,none⟩)(s.ns.length+1) cp)) o2 rb lv(s.kn k)/\aa I17 w o(w2.setCell⟨rb,2,none⟩(.slice(some⟨g1,0,none⟩)(s.ns.length+1) cp)) o2):=by
   rw[HX.out.1];refine⟨⟨h1,h2,?_,vw,vc,_,vk,mc,mn,r0.set 2 _,((q1.step s1(by decide)).step s2(by decide)).step s3(by decide),((q2.step s1(by decide)).step s2(by decide)).step s3(by decide),?_,((q4.step s1(by decide)).step s2(by decide)).step s3(by decide),((q5.step s1(by decide)).step s2(by decide)).step s3(by decide),(M1.step s2(by decide)).step s3(by decide)⟩,((s1.mono(cC(by decide))).trans(s2.mono(cC(by decide)))).trans(s3.mono(cC(by decide)))⟩
   ·intro y hy;rcases List.mem_append.1 hy with hy|hy
    ·exact h3 y hy
    ·simp at hy;rw[hy];exact hk
   ·have:=R2.step s3(by decide)
    have e:(s.ns++[k]).length=s.ns.length+1:=by simp
    have e2:esV(s.ns++[k])=esV s.ns++[stv k]:=by simp[esV]
    rw[e,e2];exact this
  have HI:Hid(s.ns.idxOf k=s.ns.length):=HX.out.2;clear s1 s2 s3 R2 S2 p0 pr r0 q0 q1 q2 q3 q4 q5 q6 hr hr2 M1 HX;go_wp2;go_ret;exact⟨by rw[HI.out];rfl,o2,HF.out⟩
theorem aE {w:World}{g:Nat}{ar u:Nat}(h:w.heap[g]?=some (.cells #[.int .i64 (ar:Nat),.int .i64 (u:Nat)] 91)):w.cell? ⟨g,0,none⟩=some (.int .i64 (ar:Nat))/\w.cell? ⟨g,1,none⟩=some (.int .i64 (u:Nat)):=(gS h).1
theorem bY (n:Int)(kd ar u:Nat)(w:World)(o:Nat->Nat)(rb:Nat)(lv:Value)(ls:List Int)(s:Em)(hn:-9223372036854775808<=n/\n<=9223372036854775807)(hk:kd<=268435455)(hu:u<=1000000000)(hd:s.dp<=1000000001)(hm:s.mes<=99999998)(X:EmX w o lv ls)(h:EmW w o rb lv s) :
  Calls Tryz.prog 86 #[.pointer(some⟨rb,0,none⟩),.int .i64 n,.int .i64(kd:Nat),spV ar u] w(jU w o rb lv(s.con n kd u)(.tuple #[])):=by
 obtain⟨w1,hw1⟩:∃w1,w1=w.alloc(.cells #[.int .i64(ar:Nat),.int .i64(u:Nat)] 91):=⟨_,rfl⟩
 obtain⟨g,hg⟩:∃g,g=w.heap.size:=⟨_,rfl⟩
 have s0:∀ {I:Nat->Prop},aa I w o w1(ae w o 0):=fun {I}=>by rw[hw1];exact aO I w o _
 have B1:Blk w1(ae w o 0) 0 g(.cells #[.int .i64(ar:Nat),.int .i64(u:Nat)] 91):=by rw[hw1,hg];exact⟨heap_alloc_new _ _,ax(Nat.le_refl _)⟩
 have H1:=h.step(s0(I:=fun _=>False)) noF;have X1:=X.step(s0(I:=fun _=>False)) id;have S0:=s0(I:=I17);generalize ae w o 0=o1 at *;have HG:=Lib.hid hg;have kd1:=s.mes_kc n;have kd2:s.cs.idxOf n<=268435455:=by
  have:=List.idxOf_le_length(a:=n)(l:=s.cs)
  unfold Em.mes at hm;omega
 clear s0 h X hg;go_enter Tryz.func86,Tryz.ntmps86;go_upto_region 1 with fail;rw[<-hw1,<-HG.out];clear hw1;have d1:aa(fun _=>False) w1 o1 w1.drew o1:=(aa.refl _ w1 o1).drew;have HC:=tC n w1.drew o1 rb lv ls s hn(by omega)(X1.step d1 id)(H1.step d1 noF);have B1d:=B1.step d1 id;have SD:aa I17 w o w1.drew o1:=S0.trans((aa.refl _ w1 o1).drew);have HP:∀ w2 o2,EmW w2 o2 rb lv(s.kc n)->EmX w2 o2 lv ls->Calls Tryz.prog 88 #[.pointer(some⟨rb,0,none⟩),.int .i64 1,.int .i64(s.cs.idxOf n:Nat),.int .i64(kd:Nat),spV ar u] w2(jU w2 o2 rb lv(s.con n kd u)(.tuple #[])):=fun w2 o2 E2 X2=>qU 1(s.cs.idxOf n) kd ar u w2 o2 rb lv ls(s.kc n)(by omega) kd2 hk hu hd(by omega) X2 E2;obtain⟨a0,a1⟩:=aE B1.1;obtain⟨b0,b1⟩:=aE B1d.1;have XD:=X1.step d1 id;clear H1 X1 d1 S0 B1;go_region_held3(fun wx=>wx.cell?⟨g,0,none⟩=some(.int .i64(ar:Nat))/\wx.cell?⟨g,1,none⟩=some(.int .i64(u:Nat)))(go_keep)(first|(go_at_call 89;refine HC.mono ?_;rintro e w2⟨rfl,o2,E2,S2⟩;obtain⟨b0,b1⟩:=aE(B1d.step S2(by decide)).1;have HP2:=HP w2 o2 E2(XD.step S2(by decide)))|(go_at_call 88;refine HP2.mono ?_;rintro e w3⟨rfl,o3,E3,S3⟩;obtain⟨b0,b1⟩:=aE((B1d.step S2(by decide)).step S3(by decide)).1))
 all_goals
  go_end0
  exact⟨rfl,o3,E3,(SD.trans S2).trans S3⟩
structure Grw (s s':Em)(n:Nat):Prop where
 mes:s'.mes<=s.mes+n
 ws:s.ws.length<=s'.ws.length
 ks:s'.ks.length=s.ks.length
 dp:s.dp<=1000000001->s'.dp<=1000000001
theorem Grw.trans {a b c:Em}{n m:Nat}(h:Grw a b n)(k:Grw b c m):Grw a c (n+m):=⟨by have:=h.mes;have:=k.mes;omega,Nat.le_trans h.ws k.ws,k.ks.trans h.ks,fun x=>k.dp (h.dp x)⟩
theorem Grw.le {a b:Em}{n m:Nat}(h:Grw a b n)(hm:n<=m):Grw a b m:=⟨by have:=h.mes;omega,h.ws,h.ks,h.dp⟩
theorem bE (s:Em)(op a b:Nat):Grw s (s.lay op a b) 1:=⟨by rw[Em.mes_lay];omega,by simp[Em.lay],rfl,id⟩
theorem kP (s:Em)(i:Nat):Grw s (s.land i) 0:=⟨by rw[Em.mes_land];omega,by simp[Em.land],rfl,id⟩
theorem Dc (s:Em)(i:Nat)(k:Int):Grw s (s.cel i k) 0:=⟨Nat.le_refl _,Nat.le_refl _,by simp[Em.cel],id⟩
theorem eF (s:Em)(n:Int)(kd u:Nat)(hu:u<=1000000000):Grw s (s.con n kd u) 2:=⟨s.mes_con n kd u,by simp[Em.con,Em.push,Em.kc],rfl,fun h=>by show max s.dp (u+1)<=_;omega⟩
def ms (w:World)(o:Nat->Nat)(rb:Nat)(lv:Value)(s s':Em)(n:Nat)(e:Ending)(w':World):Prop:=e=.returned (.tuple #[])/\(∃o',EmW w' o' rb lv s'/\aa I17 w o w' o')/\Grw s s' n
theorem D8 {x:Wo}{n:Nat}(h:x.ok)(hn:n<=268435455):(x.to n).ok:=by
 obtain⟨h1,h2,h3⟩:=h;unfold Wo.to;split
 ·exact⟨h1,h2,hn⟩
 ·exact⟨h1,hn,h3⟩
theorem nH {l:List Wo}{i:Nat}(h:i<l.length)(f:Wo->Wo):l.modify i f=l.set i (f (l[i])):=by
 apply List.ext_getElem?;intro j;rw[List.getElem?_modify,List.getElem?_set];by_cases e:i=j
 ·subst e;simp[h]
 ·simp[e]
theorem n7 (i:Nat)(u:FrameMode)(w:World)(o:Nat->Nat)(rb:Nat)(lv:Value)(ls:List Int)(s:Em)(hi:i<s.ws.length)(hm:s.mes<=100000000)(X:EmX w o lv ls)(h:EmW w o rb lv s) :
  CallsD Tryz.prog 150 #[.pointer(some⟨rb,0,none⟩),.int .i64(i:Nat)] u w fun e u' w'=>u'=u/\jU w o rb lv(s.land i)(.tuple #[]) e w':=by
 have h':=h;obtain⟨h1,h2,h3,vw,vc,vn,vk,mc,mn,q0,q1,q2,q3,q4,q5,q6⟩:=h;obtain⟨⟨c0,c1,c2,c3,c4,c5,c6,c7⟩,cf⟩:=dY q0.1;obtain⟨g,cap,rfl,og,-,-,hgl,hc,hf⟩:=q1.pos(by omega);have hx:=h1 s.ws[i](List.getElem_mem hi);have ci:w.cell?⟨g,i,none⟩=some(.int .u64(eR s.ws[i])):=by
  rw[hc i(by omega)];simp[woV,hi]
 have bd:=Ak hx;have pt:=sD hx;have HP:=ui(eR s.ws[i]) w X.tab bd.1 bd.2;rw[pt.1,pt.2.1,pt.2.2] at HP;have hl:s.ws.length<=100000000:=by unfold Em.mes at hm;omega
 have ho:=D8 hx(n:=s.ws.length)(by omega);have HS:Hid(∀ w',Below w.heap.size w w'->EmW(w'.setCell⟨g,i,none⟩(.int .u64(eR(s.ws[i].to s.ws.length)))).drew o rb lv(s.land i)/\aa I17 w o(w'.setCell⟨g,i,none⟩(.int .u64(eR(s.ws[i].to s.ws.length)))).drew o):=fun w' B=>by
  have x0:=aa.ofBelow(I:=fun _=>False) o B;have r1:=((q1.step x0 id).store i(.int .u64(eR(s.ws[i].to s.ws.length)))).step((aa.refl(fun _=>False) _ o).drew) id;have x1:aa(fun k=>k=2) w o(w'.setCell⟨g,i,none⟩(.int .u64(eR(s.ws[i].to s.ws.length)))).drew o:=((aa.ofBelow o B).setCell⟨g,i,none⟩ _ og).drew;have e:(s.land i).ws=s.ws.set i(s.ws[i].to s.ws.length):=nH hi _;refine⟨⟨fun x hx2=>?_,h2,h3,_,vc,vn,vk,mc,mn,q0.step x1(by decide),?_,q2.step x1(by decide),q3.step x1(by decide),q4.step x1(by decide),q5.step x1(by decide),q6.step x1(by decide)⟩,x1.mono(cC(by decide))⟩
  ·rw[e] at hx2;rcases List.mem_or_eq_of_mem_set hx2 with hx2|hx2
   ·exact h1 x hx2
   ·rw[hx2];exact ho
  ·have e2:woV(s.land i).ws=(woV s.ws).set i(.int .u64(eR(s.ws[i].to s.ws.length))):=by rw[e];simp[woV]
   have e3:(s.land i).ws.length=s.ws.length:=by rw[e];simp
   rw[e2,e3];exact r1
 have HW:∀ (a b:Nat)(wx:World),Tab wx->a<=268435455->b<=268435455->Calls Tryz.prog 98 #[.int .i64(s.ws[i].op:Nat),.int .i64(a:Nat),.int .i64(b:Nat)] wx fun e w'=>e=.returned(.tuple #[.int .u64(eR⟨s.ws[i].op,a,b⟩),.int .i64 0])/\w'=wx:=fun a b wx T ha hb=>pv(s.ws[i].op:Int)(a:Int)(b:Int) wx T(by omega)(by have:=hx.1;omega)(by omega)(by omega)(by omega)(by omega);have HN:∀ w',Below w.heap.size w w'->Calls Tryz.prog 223 #[.pointer(some⟨rb,0,none⟩)] w' fun e w''=>e=.returned(.int .i64(s.ws.length:Nat))/\w''=w':=fun w' B=>rE w' o rb lv s(h'.below B);have hiI:(i:Int)<(s.ws.length:Int):=by omega
 have hfx:Hid(∀ w',Below w.heap.size w w'->w'.cell?⟨rb,0,none⟩=some(.slice(some⟨g,0,none⟩) s.ws.length cap)/\w'.cell?⟨g,i,none⟩=some(.int .u64(eR s.ws[i]))/\w'.frozen?⟨g,i,none⟩=false/\Tab w'):=fun w' B=>by
  refine⟨(B.cell(p:=⟨rb,0,none⟩) q0.lt).trans c0,(B.cell(p:=⟨g,i,none⟩) hgl).trans ci,?_,(X.below B).tab⟩;have e:=B.block g hgl
  have:=hf i
  unfold World.frozen? at this ⊢;rw[e];exact this
 have htn:∀ x:Wo,x.to s.ws.length=if x.op=17 then⟨x.op,x.a,s.ws.length⟩ else⟨x.op,s.ws.length,x.b⟩:=fun x=>rfl;rw[htn] at HS;clear htn ho X q0 q1 q2 q3 q4 q5 q6 h' c1 c2 c3 c4 c5 c6 c7 cf hc hf pt bd h1 h2 h3 hm;obtain⟨hx1,hx2,hx3⟩:=hx;generalize hxx:s.ws[i]=x at *;clear hxx;obtain⟨op,a,b⟩:=x;simp only at HP HW HS hx1 hx2 hx3
 go_enter_d Tryz.func150,Tryz.ntmps150
 go_upto_region 1 with(first|(go_at_call 169;refine HP.mono ?_;rintro e w1⟨rfl,B1⟩))
 have HN1:=HN w1 B1;obtain⟨d0,d1,d2,d3⟩:=hfx.out w1 B1;obtain⟨e0,e1,e2,e3⟩:=hfx.out w1.drew B1.drew;by_cases hop:op=17
 ·subst hop;rw[if_pos rfl] at HS;have HZ:=Lib.hid(HS.out w1 B1);have HW1:=HW a s.ws.length w1.drew e3 hx2(by omega);generalize eR⟨17,a,s.ws.length⟩=ev at *;clear HS HP HN hfx HW;go_upto_region 4 with(first|(go_at_call 223;refine HN1.mono ?_;rintro e w2⟨rfl,hww⟩;subst hww))
  go_region_with(first|(go_at_call 98;refine HW1.mono ?_;rintro e w3⟨rfl,hww⟩;subst hww))
  all_goals
   go_end0
   exact⟨rfl,o,HZ.out⟩
 ·rw[if_neg hop] at HS;have HZ:=Lib.hid(HS.out w1 B1);have HW1:=HW s.ws.length b w1.drew e3(by omega) hx3;have hopI:¬(op:Int)=17:=by omega
  generalize eR⟨op,s.ws.length,b⟩=ev at *;clear HS HP HN hfx HW hop;go_upto_region 4 with(first|(go_at_call 223;refine HN1.mono ?_;rintro e w2⟨rfl,hww⟩;subst hww))
  go_region_with(first|(go_at_call 98;refine HW1.mono ?_;rintro e w3⟨rfl,hww⟩;subst hww))
  all_goals
   go_end0
   exact⟨rfl,o,HZ.out⟩
def kK (rb:Nat)(lv:Value)(ls:List Int)(K:World->(Nat->Nat)->Prop)(F:FuncId)(c:Array Value)(t:Em->Em)(n:Nat):Prop :=
 ∀ w o s,EmX w o lv ls->EmW w o rb lv s->K w o->s.mes+n<=100000000->s.dp<=1000000001->s.ks.length=ls.length->Calls Tryz.prog F c w(ms w o rb lv s(t s) n)
abbrev mo (K:World->(Nat->Nat)->Prop):Prop:=∀ {w o w' o'},K w o->aa I17 w o w' o'->K w' o'
abbrev Ent (F:FuncId):Prop:=∀ (args:Array Value) (w:World),(callFunc F args).run Tryz.prog w=.ok (.enter F args) w
theorem sj (op:Nat)(F:FuncId)(c:Array Value)(t:Em->Em)(n:Nat)(K:World->(Nat->Nat)->Prop)(hK:mo K)(HE:Ent F)(w:World)(o:Nat->Nat)(rb:Nat)(lv:Value)(ls:List Int)(H:kK rb lv ls K F c t n)(s:Em)(hop:op<=255)(hm:s.mes+n+2<=100000000)(hd:s.dp<=1000000001)(hks:s.ks.length=ls.length)(X:EmX w o lv ls)(h:EmW w o rb lv s)(k:K w o) :
  Calls Tryz.prog 151 #[.pointer(some⟨rb,0,none⟩),.int .i64(op:Nat),.func(.func F) #[] c] w fun e w'=>e=.returned(.int .i64((t(s.lay op 0 0)).ws.length:Nat))/\(∃o',EmW w' o' rb lv(((t(s.lay op 0 0)).lay 13 0 0).land s.ws.length)/\aa I17 w o w' o')/\Grw s(((t(s.lay op 0 0)).lay 13 0 0).land s.ws.length)(n+2)/\Grw(s.lay op 0 0)(t(s.lay op 0 0)) n:=by
 have HL:=bW op 0 0 w o rb lv ls s hop(by omega)(by omega)(by omega) X h;have g1:=bE s op 0 0
 go_enter_defers Tryz.func151,Tryz.ntmps151
 go_upto_region 2 with(first|(go_at_call 47;refine HL.mono ?_;rintro e w1⟨rfl,o1,E1,S1⟩))
 have X1:=X.step S1(by decide);have HC:=H w1 o1(s.lay op 0 0) X1 E1(hK k S1)(by have:=g1.mes;omega)(g1.dp hd)(g1.ks.trans hks);clear HL;go_wp2_with fail;refine HC.mono ?_;rintro e w2⟨rfl,⟨o2,E2,S2⟩,g2⟩;have hw1:(s.lay op 0 0).ws.length=s.ws.length+1:=by simp[Em.lay]
 have g3:=bE(t(s.lay op 0 0)) 13 0 0;have X2:=X1.step S2(by decide);have HL2:=bW 13 0 0 w2 o2 rb lv ls(t(s.lay op 0 0))(by omega)(by omega)(by omega)(by have:=g1.mes;have:=g2.mes;omega) X2 E2;clear HC HE;obtain⟨s2,hs2⟩:∃s2,s2=t(s.lay op 0 0):=⟨_,rfl⟩
 rw[<-hs2] at E2 g2 g3 HL2;have HS2:=Lib.hid hs2;clear hs2;go_wp2_with fail;refine HL2.mono ?_;rintro e w3⟨rfl,o3,E3,S3⟩;have X3:=X2.step S3(by decide);have hlt:s.ws.length<(s2.lay 13 0 0).ws.length:=by have:=g2.ws;have:=g3.ws;omega
 have HD:=n7 s.ws.length .returning w3 o3 rb lv ls(s2.lay 13 0 0) hlt(by have:=g1.mes;have:=g2.mes;have:=g3.mes;omega) X3 E3;have HF:Hid(∀ w4 o4,EmW w4 o4 rb lv((s2.lay 13 0 0).land s.ws.length)->aa I17 w3 o3 w4 o4->(∃o',EmW w4 o' rb lv((s2.lay 13 0 0).land s.ws.length)/\aa I17 w o w4 o')/\Grw s((s2.lay 13 0 0).land s.ws.length)(n+2)/\Grw(s.lay op 0 0) s2 n):=fun w4 o4 E4 S4 =>
  ⟨⟨o4,E4,((S1.trans S2).trans S3).trans S4⟩,(((g1.trans g2).trans g3).trans(kP _ _)).le(by omega),g2⟩
 clear HL2;go_wp2;refine leaves_cons(f:=150)(args:=#[.pointer(some⟨rb,0,none⟩),.int .i64(s.ws.length:Nat)])(by simp)(by simp[go_sem]) ?_;refine HD.mono ?_;rintro e u' w4⟨rfl,rfl,o4,E4,S4⟩;exact⟨_,results_tmp rfl _ _ _,by rw[<-HS2.out];rfl,by rw[<-HS2.out];exact HF.out w4 o4 E4 S4⟩
theorem rD (op:Nat)(F1 F2:FuncId)(c1 c2:Array Value)(t1 t2:Em->Em)(n1 n2:Nat)(K:World->(Nat->Nat)->Prop)(hK:mo K)(HE1:Ent F1)(HE2:Ent F2)(w:World)(o:Nat->Nat)(rb:Nat)(lv:Value)(ls:List Int)(H1:kK rb lv ls K F1 c1 t1 n1)(H2:kK rb lv ls K F2 c2 t2 n2)(s:Em)(hop:op<=255)(hm:s.mes+(n1+n2+2)<=100000000)(hd:s.dp<=1000000001)(hks:s.ks.length=ls.length)(X:EmX w o lv ls)(h:EmW w o rb lv s)(k:K w o) :
  Calls Tryz.prog 91 #[.pointer(some⟨rb,0,none⟩),.int .i64(op:Nat),.func(.func F1) #[] c1,.func(.func F2) #[] c2] w(ms w o rb lv s(s.fork op t1 t2)(n1+n2+2)):=by
 have HW:=sj op F1 c1 t1 n1 K hK HE1 w o rb lv ls H1 s hop(by omega) hd hks X h k;have hfk:Hid(s.fork op t1 t2=(t2(((t1(s.lay op 0 0)).lay 13 0 0).land s.ws.length)).land(t1(s.lay op 0 0)).ws.length):=rfl;have hw1:(s.lay op 0 0).ws.length=s.ws.length+1:=by simp[Em.lay]
 have hw2:((((t1(s.lay op 0 0)).lay 13 0 0).land s.ws.length)).ws.length=(t1(s.lay op 0 0)).ws.length+1:=by simp[Em.lay,Em.land]
 go_enter_defers Tryz.func91,Tryz.ntmps91
 go_upto_region 1 with(first|(go_at_call 151;refine HW.mono ?_;rintro e w1⟨rfl,⟨o1,E1,S1⟩,g1,g1b⟩))
 clear HW;generalize((t1(s.lay op 0 0)).lay 13 0 0).land s.ws.length=s1 at *;generalize(t1(s.lay op 0 0)).ws.length=j at *;have X1:=X.step S1(by decide);have HC:=H2 w1 o1 s1 X1 E1(hK k S1)(by have:=g1.mes;omega)(g1.dp hd)(g1.ks.trans hks);go_wp2_with fail;refine HC.mono ?_;rintro e w2⟨rfl,⟨o2,E2,S2⟩,g2⟩;have X2:=X1.step S2(by decide);clear HC HE2;generalize t2 s1=s2 at *;have HD:=n7 j .returning w2 o2 rb lv ls s2(by have:=g2.ws;omega)(by have:=g1.mes;have:=g2.mes;omega) X2 E2;have HF:Hid(∀ w4 o4,EmW w4 o4 rb lv(s2.land j)->aa I17 w2 o2 w4 o4->(∃o',EmW w4 o' rb lv(s.fork op t1 t2)/\aa I17 w o w4 o')/\Grw s(s.fork op t1 t2)(n1+n2+2)):=fun w4 o4 E4 S4=>by
  rw[hfk.out];exact⟨⟨o4,E4,(S1.trans S2).trans S4⟩,((g1.trans g2).trans(kP _ _)).le(by omega)⟩
 go_wp2;refine leaves_cons(f:=150)(args:=#[.pointer(some⟨rb,0,none⟩),.int .i64(j:Nat)])(by simp)(by simp[go_sem]) ?_;refine HD.mono ?_;rintro e u' w4⟨rfl,rfl,o4,E4,S4⟩;exact⟨_,results_none rfl _ _ _,rfl,HF.out w4 o4 E4 S4⟩
theorem rO (n:Int)(w:World):Calls Tryz.prog 146 #[.int .i64 n] w fun e w'=>e=.returned (.int .i64 (pU n))/\w'=w:=by
 by_cases h1:n=1
 ·subst h1;go_enter Tryz.func146,Tryz.ntmps146;go_wp2;go_ret;exact⟨rfl,rfl⟩
 ·by_cases h2:n=2
  ·subst h2;go_enter Tryz.func146,Tryz.ntmps146;go_wp2;go_ret;exact⟨rfl,rfl⟩
  ·by_cases h3:n=10
   ·subst h3;go_enter Tryz.func146,Tryz.ntmps146;go_wp2;go_ret;exact⟨rfl,rfl⟩
   ·have e:pU n=1:=by simp[pU,h1,h2,h3]
    rw[e];go_enter Tryz.func146,Tryz.ntmps146;go_wp2;go_ret;exact⟨rfl,rfl⟩
theorem qs (n:Int)(w:World):Calls Tryz.prog 147 #[.int .i64 n] w fun e w'=>e=.returned (.int .i64 (pK n))/\w'=w:=by
 by_cases h1:n=1
 ·subst h1;go_enter Tryz.func147,Tryz.ntmps147;go_wp2;go_ret;exact⟨rfl,rfl⟩
 ·by_cases h2:n=2
  ·subst h2;go_enter Tryz.func147,Tryz.ntmps147;go_wp2;go_ret;exact⟨rfl,rfl⟩
  ·have e:pK n=1:=by simp[pK,h1,h2]
   rw[e];go_enter Tryz.func147,Tryz.ntmps147;go_wp2;go_ret;exact⟨rfl,rfl⟩
theorem iW {f:Fs}(h:f.len=1):∃x,f=Fs.ex x .nil:=by
 cases f using Fs.on with
 | nil=>simp[Fs.len] at h
 | cons k n nm a ks r =>
  cases r using Fs.on with
  | nil=>exact⟨⟨k,n,nm,a,ks⟩,rfl⟩
  | cons=>simp[Fs.len] at h
theorem ep {f:Fs}(h:f.len=2):∃x y,f=Fs.ex x (Fs.ex y .nil):=by
 cases f using Fs.on with
 | nil=>simp[Fs.len] at h
 | cons k n nm a ks r =>
  obtain⟨y,rfl⟩:=iW(f:=r)(by simp[Fs.len] at h;exact h);exact⟨⟨k,n,nm,a,ks⟩,y,rfl⟩
theorem gY {f:Fs}(h:f.len=3):∃x y z,f=Fs.ex x (Fs.ex y (Fs.ex z .nil)):=by
 cases f using Fs.on with
 | nil=>simp[Fs.len] at h
 | cons k n nm a ks r =>
  obtain⟨y,z,rfl⟩:=ep(f:=r)(by simp[Fs.len] at h;exact h);exact⟨⟨k,n,nm,a,ks⟩,y,z,rfl⟩
theorem gZ {k n:Int}{nm:List UInt8}{len:Nat}(h:aD k n nm len=true):(k=19->len=3)/\(k=26->len=1)/\(8<=k->k<=18->len=2)/\(k=21->len=2/\1<=n/\n<=6)/\(k=20->1<=n/\n<=10)/\(k=5\/k=3->0<=n)/\(k=22\/k=23->len=0)/\(k=1\/k=2\/k=3\/k=5->len=0):=by
 unfold aD at h;refine⟨fun e=>?_,fun e=>?_,fun e1 e2=>?_,fun e=>?_,fun e=>?_,fun e=>?_,fun e=>?_,fun e=>?_⟩
 ·subst e;simp at h;omega
 ·subst e;simp at h;omega
 ·rw[if_neg(by omega),if_neg(by omega),if_neg(by omega),if_neg(by omega),if_pos(by omega)] at h;simp at h;omega
 ·subst e;simp at h;omega
 ·subst e;simp at h;omega
 ·rcases e with rfl|rfl<;>simp at h<;>omega
 ·rcases e with rfl|rfl<;>simp at h<;>omega
 ·rcases e with rfl|rfl|rfl|rfl<;>simp at h<;>omega
theorem tW {P:Nat->Prop}{w:World}{y:Ex}{r:Fs}{ao:Option Addr}(h:SlN w P (Fs.ex y r) ao):∃b off ak ck,ao=some ⟨b,off,none⟩/\w.cell? ⟨b,off,none⟩=some (.int .i64 y.k)/\w.cell? ⟨b,off+1,none⟩=some (.int .i64 y.n)/\w.cell? ⟨b,off+2,none⟩=some (stv y.nm)/\w.cell? ⟨b,off+3,none⟩=some (.slice ak y.kids.len ck)/\SlN w P y.kids ak:=by
 obtain⟨b,off,ak,ck,h1,h2,h3,h4,h5,h6⟩:=SlN.kidP(x:=.nil)(r:=r)(y:=y) h 0 rfl;exact⟨b,off,ak,ck,h1,h2,h3,h4,h5,h6⟩
theorem BK {P:Nat->Prop}{w:World}{x y:Ex}{r:Fs}{ao:Option Addr}(h:SlN w P (Fs.ex x (Fs.ex y r)) ao):∃b off ak ck,ao=some ⟨b,off,none⟩/\w.cell? ⟨b,off+4,none⟩=some (.int .i64 y.k)/\w.cell? ⟨b,off+5,none⟩=some (.int .i64 y.n)/\w.cell? ⟨b,off+6,none⟩=some (stv y.nm)/\w.cell? ⟨b,off+7,none⟩=some (.slice ak y.kids.len ck)/\SlN w P y.kids ak:=by
 obtain⟨b,off,ak,ck,h1,h2,h3,h4,h5,h6⟩:=SlN.kidP(x:=one x)(r:=r)(y:=y) h 1 rfl;exact⟨b,off,ak,ck,h1,h2,h3,h4,h5,h6⟩
theorem ai {w:World}{b:Nat}{x0 x1 x2 x3:Value}{t:TypeId}(h:w.heap[b]?=some (.cells #[x0,x1,x2,x3] t)):(w.cell? ⟨b,0,none⟩=some x0/\w.cell? ⟨b,1,none⟩=some x1/\w.cell? ⟨b,2,none⟩=some x2/\w.cell? ⟨b,3,none⟩=some x3)/\∀ j,w.frozen? ⟨b,j,none⟩=false:=by
 refine⟨⟨?_,?_,?_,?_⟩,fun j=>?_⟩<;>simp[World.cell?,World.frozen?,h]
theorem aK {nc:Nat}{x:Ex}{r:Fs}(h:okF nc (Fs.ex x r)):okE nc x/\okF nc r:=⟨⟨h.1,h.2.1⟩,h.2.2⟩
theorem aV (x:Ex)(r:Fs):(Fs.ex x r).size=x.kids.size+r.size+1:=rfl
theorem iM (x:Ex)(r:Fs):kdF (Fs.ex x r)=kdE x::kdF r:=rfl
theorem gN (nc N:Nat):∀ (e:Ex) (ao:Option Addr) (cap:Nat) (w:World),e.kids.size<N->okE nc e->SnA w e.kids ao ->
  Calls Tryz.prog 87 #[exN e ao cap] w fun r w'=>r=.returned(.int .i64(kdE e))/\Below w.heap.size w w':=by
 induction N with
 | zero=>intro e ao cap w hs;omega
 | succ N ih =>
  intro e ao cap w hs ho S;obtain⟨k,n,nm,a,ks⟩:=e;obtain⟨⟨hd,-,-⟩,hk⟩:=ho;simp only at hs hd hk S;rw[ah];simp only;have hdl:=gZ hd;by_cases h19:k=19
  ·subst h19;have hlen:ks.len=3:=hdl.1 rfl;rw[hlen];obtain⟨x,y,z,hks⟩:=gY hlen;have S':=S;rw[hks] at S' hk hs;obtain⟨w1,hw1⟩:∃w1,w1=w.alloc(.cells #[.int .i64 19,.int .i64 n,stv nm,.slice ao 3 cap] 34):=⟨_,rfl⟩
   obtain⟨g,hg⟩:∃g,g=w.heap.size:=⟨_,rfl⟩
   have B1:Below w.heap.size w w1:=by rw[hw1];exact b1 _ _
   have C1:w1.heap[g]?=some(.cells #[.int .i64 19,.int .i64 n,stv nm,.slice ao 3 cap] 34):=by rw[hw1,hg];exact heap_alloc_new _ _
   obtain⟨⟨c0,c1,c2,c3⟩,-⟩:=ai C1;have HG:=Lib.hid hg;have HB:=Lib.hid B1;obtain⟨b,off,ak,ck,rfl,x0,x1,x2,x3,Sy⟩:=BK(S'.below B1);have hv:kdE⟨19,n,nm,a,ks⟩=kdE y:=by simp only[kdE,hks,iM];simp[kdN]
   rw[hv];have HC:=ih y ak ck w1(by simp only[aV] at hs;omega)(aK(aK hk).2).1 Sy;rw[ah] at HC;clear B1 S S' hks hk hs hg C1 hv hdl hd;go_enter Tryz.func87,Tryz.ntmps87;go_upto_region 1 with fail;rw[<-hw1,<-HG.out];clear hw1;go_wp2_with fail;refine HC.mono ?_;rintro r w2⟨rfl,B2⟩;go_wp2;go_ret;exact⟨rfl,HB.out.trans(B2.mono HB.out.size)⟩
  by_cases h26:k=26
  ·subst h26;have hlen:ks.len=1:=hdl.2.1 rfl;rw[hlen];obtain⟨x,hks⟩:=iW hlen;have S':=S;rw[hks] at S' hk hs;obtain⟨w1,hw1⟩:∃w1,w1=w.alloc(.cells #[.int .i64 26,.int .i64 n,stv nm,.slice ao 1 cap] 34):=⟨_,rfl⟩
   obtain⟨g,hg⟩:∃g,g=w.heap.size:=⟨_,rfl⟩
   have B1:Below w.heap.size w w1:=by rw[hw1];exact b1 _ _
   have C1:w1.heap[g]?=some(.cells #[.int .i64 26,.int .i64 n,stv nm,.slice ao 1 cap] 34):=by rw[hw1,hg];exact heap_alloc_new _ _
   obtain⟨⟨c0,c1,c2,c3⟩,-⟩:=ai C1;have HG:=Lib.hid hg;have HB:=Lib.hid B1;obtain⟨b,off,ak,ck,rfl,x0,x1,x2,x3,Sy⟩:=tW(S'.below B1);have hv:kdE⟨26,n,nm,a,ks⟩=kdE x:=by simp only[kdE,hks,iM];simp[kdN]
   rw[hv];have HC:=ih x ak ck w1(by simp only[aV] at hs;omega)(aK hk).1 Sy;rw[ah] at HC;clear B1 S S' hks hk hs hg C1 hv hdl hd;go_enter Tryz.func87,Tryz.ntmps87;go_upto_region 1 with fail;rw[<-hw1,<-HG.out];clear hw1;go_wp2_with fail;refine HC.mono ?_;rintro r w2⟨rfl,B2⟩;go_wp2;go_ret;exact⟨rfl,HB.out.trans(B2.mono HB.out.size)⟩
  by_cases h20:k=20
  ·subst h20;have hv:kdE⟨20,n,nm,a,ks⟩=pU n:=by simp[kdE,kdN]
   rw[hv];obtain⟨w1,hw1⟩:∃w1,w1=w.alloc(.cells #[.int .i64 20,.int .i64 n,stv nm,.slice ao ks.len cap] 34):=⟨_,rfl⟩
   obtain⟨g,hg⟩:∃g,g=w.heap.size:=⟨_,rfl⟩
   have B1:Below w.heap.size w w1:=by rw[hw1];exact b1 _ _
   have C1:w1.heap[g]?=some(.cells #[.int .i64 20,.int .i64 n,stv nm,.slice ao ks.len cap] 34):=by rw[hw1,hg];exact heap_alloc_new _ _
   obtain⟨⟨c0,c1,c2,c3⟩,-⟩:=ai C1;have HG:=Lib.hid hg;have HB:=Lib.hid B1;have HC:=rO n w1;clear B1 S hk hs hg C1 hv hdl hd;go_enter Tryz.func87,Tryz.ntmps87;go_upto_region 1 with fail;rw[<-hw1,<-HG.out];clear hw1;go_wp2_with fail;refine HC.mono ?_;rintro r w2⟨rfl,hww⟩;subst hww;go_wp2;go_ret;exact⟨rfl,HB.out⟩
  by_cases h21:k=21
  ·subst h21;have hv:kdE⟨21,n,nm,a,ks⟩=pK n:=by simp[kdE,kdN]
   rw[hv];obtain⟨w1,hw1⟩:∃w1,w1=w.alloc(.cells #[.int .i64 21,.int .i64 n,stv nm,.slice ao ks.len cap] 34):=⟨_,rfl⟩
   obtain⟨g,hg⟩:∃g,g=w.heap.size:=⟨_,rfl⟩
   have B1:Below w.heap.size w w1:=by rw[hw1];exact b1 _ _
   have C1:w1.heap[g]?=some(.cells #[.int .i64 21,.int .i64 n,stv nm,.slice ao ks.len cap] 34):=by rw[hw1,hg];exact heap_alloc_new _ _
   obtain⟨⟨c0,c1,c2,c3⟩,-⟩:=ai C1;have HG:=Lib.hid hg;have HB:=Lib.hid B1;have HC:=qs n w1;clear B1 S hk hs hg C1 hv hdl hd;go_enter Tryz.func87,Tryz.ntmps87;go_upto_region 1 with fail;rw[<-hw1,<-HG.out];clear hw1;go_wp2_with fail;refine HC.mono ?_;rintro r w2⟨rfl,hww⟩;subst hww;go_wp2;go_ret;exact⟨rfl,HB.out⟩
  by_cases h1:k=1
  ·subst h1;have hv:kdE⟨1,n,nm,a,ks⟩=1:=by simp[kdE,kdN]
   rw[hv];obtain⟨w1,hw1⟩:∃w1,w1=w.alloc(.cells #[.int .i64 1,.int .i64 n,stv nm,.slice ao ks.len cap] 34):=⟨_,rfl⟩
   obtain⟨g,hg⟩:∃g,g=w.heap.size:=⟨_,rfl⟩
   have B1:Below w.heap.size w w1:=by rw[hw1];exact b1 _ _
   have C1:w1.heap[g]?=some(.cells #[.int .i64 1,.int .i64 n,stv nm,.slice ao ks.len cap] 34):=by rw[hw1,hg];exact heap_alloc_new _ _
   obtain⟨⟨c0,c1,c2,c3⟩,-⟩:=ai C1;have HG:=Lib.hid hg;have HB:=Lib.hid B1;clear B1 S hk hs hg C1 hv hd hdl ih;go_enter Tryz.func87,Tryz.ntmps87;go_upto_region 1 with fail;rw[<-hw1,<-HG.out];clear hw1;go_wp2;go_ret;exact⟨rfl,HB.out⟩
  by_cases h2:k=2
  ·subst h2;have hv:kdE⟨2,n,nm,a,ks⟩=2:=by simp[kdE,kdN]
   rw[hv];obtain⟨w1,hw1⟩:∃w1,w1=w.alloc(.cells #[.int .i64 2,.int .i64 n,stv nm,.slice ao ks.len cap] 34):=⟨_,rfl⟩
   obtain⟨g,hg⟩:∃g,g=w.heap.size:=⟨_,rfl⟩
   have B1:Below w.heap.size w w1:=by rw[hw1];exact b1 _ _
   have C1:w1.heap[g]?=some(.cells #[.int .i64 2,.int .i64 n,stv nm,.slice ao ks.len cap] 34):=by rw[hw1,hg];exact heap_alloc_new _ _
   obtain⟨⟨c0,c1,c2,c3⟩,-⟩:=ai C1;have HG:=Lib.hid hg;have HB:=Lib.hid B1;clear B1 S hk hs hg C1 hv hd hdl ih;go_enter Tryz.func87,Tryz.ntmps87;go_upto_region 1 with fail;rw[<-hw1,<-HG.out];clear hw1;go_wp2;go_ret;exact⟨rfl,HB.out⟩
  by_cases h3:k=3
  ·subst h3;have hv:kdE⟨3,n,nm,a,ks⟩=3:=by simp[kdE,kdN]
   rw[hv];obtain⟨w1,hw1⟩:∃w1,w1=w.alloc(.cells #[.int .i64 3,.int .i64 n,stv nm,.slice ao ks.len cap] 34):=⟨_,rfl⟩
   obtain⟨g,hg⟩:∃g,g=w.heap.size:=⟨_,rfl⟩
   have B1:Below w.heap.size w w1:=by rw[hw1];exact b1 _ _
   have C1:w1.heap[g]?=some(.cells #[.int .i64 3,.int .i64 n,stv nm,.slice ao ks.len cap] 34):=by rw[hw1,hg];exact heap_alloc_new _ _
   obtain⟨⟨c0,c1,c2,c3⟩,-⟩:=ai C1;have HG:=Lib.hid hg;have HB:=Lib.hid B1;clear B1 S hk hs hg C1 hv hd hdl ih;go_enter Tryz.func87,Tryz.ntmps87;go_upto_region 1 with fail;rw[<-hw1,<-HG.out];clear hw1;go_wp2;go_ret;exact⟨rfl,HB.out⟩
  by_cases h5:k=5
  ·subst h5;have hv:kdE⟨5,n,nm,a,ks⟩=3:=by simp[kdE,kdN]
   rw[hv];obtain⟨w1,hw1⟩:∃w1,w1=w.alloc(.cells #[.int .i64 5,.int .i64 n,stv nm,.slice ao ks.len cap] 34):=⟨_,rfl⟩
   obtain⟨g,hg⟩:∃g,g=w.heap.size:=⟨_,rfl⟩
   have B1:Below w.heap.size w w1:=by rw[hw1];exact b1 _ _
   have C1:w1.heap[g]?=some(.cells #[.int .i64 5,.int .i64 n,stv nm,.slice ao ks.len cap] 34):=by rw[hw1,hg];exact heap_alloc_new _ _
   obtain⟨⟨c0,c1,c2,c3⟩,-⟩:=ai C1;have HG:=Lib.hid hg;have HB:=Lib.hid B1;clear B1 S hk hs hg C1 hv hd hdl ih;go_enter Tryz.func87,Tryz.ntmps87;go_upto_region 1 with fail;rw[<-hw1,<-HG.out];clear hw1;go_wp2;go_ret;exact⟨rfl,HB.out⟩
  by_cases h6:k=6
  ·subst h6;have hv:kdE⟨6,n,nm,a,ks⟩=1:=by simp[kdE,kdN]
   rw[hv];obtain⟨w1,hw1⟩:∃w1,w1=w.alloc(.cells #[.int .i64 6,.int .i64 n,stv nm,.slice ao ks.len cap] 34):=⟨_,rfl⟩
   obtain⟨g,hg⟩:∃g,g=w.heap.size:=⟨_,rfl⟩
   have B1:Below w.heap.size w w1:=by rw[hw1];exact b1 _ _
   have C1:w1.heap[g]?=some(.cells #[.int .i64 6,.int .i64 n,stv nm,.slice ao ks.len cap] 34):=by rw[hw1,hg];exact heap_alloc_new _ _
   obtain⟨⟨c0,c1,c2,c3⟩,-⟩:=ai C1;have HG:=Lib.hid hg;have HB:=Lib.hid B1;clear B1 S hk hs hg C1 hv hd hdl ih;go_enter Tryz.func87,Tryz.ntmps87;go_upto_region 1 with fail;rw[<-hw1,<-HG.out];clear hw1;go_wp2;go_ret;exact⟨rfl,HB.out⟩
  by_cases h7:k=7
  ·subst h7;have hv:kdE⟨7,n,nm,a,ks⟩=2:=by simp[kdE,kdN]
   rw[hv];obtain⟨w1,hw1⟩:∃w1,w1=w.alloc(.cells #[.int .i64 7,.int .i64 n,stv nm,.slice ao ks.len cap] 34):=⟨_,rfl⟩
   obtain⟨g,hg⟩:∃g,g=w.heap.size:=⟨_,rfl⟩
   have B1:Below w.heap.size w w1:=by rw[hw1];exact b1 _ _
   have C1:w1.heap[g]?=some(.cells #[.int .i64 7,.int .i64 n,stv nm,.slice ao ks.len cap] 34):=by rw[hw1,hg];exact heap_alloc_new _ _
   obtain⟨⟨c0,c1,c2,c3⟩,-⟩:=ai C1;have HG:=Lib.hid hg;have HB:=Lib.hid B1;clear B1 S hk hs hg C1 hv hd hdl ih;go_enter Tryz.func87,Tryz.ntmps87;go_upto_region 1 with fail;rw[<-hw1,<-HG.out];clear hw1;go_wp2;go_ret;exact⟨rfl,HB.out⟩
  by_cases h8:k=8
  ·subst h8;have hv:kdE⟨8,n,nm,a,ks⟩=1:=by simp[kdE,kdN]
   rw[hv];obtain⟨w1,hw1⟩:∃w1,w1=w.alloc(.cells #[.int .i64 8,.int .i64 n,stv nm,.slice ao ks.len cap] 34):=⟨_,rfl⟩
   obtain⟨g,hg⟩:∃g,g=w.heap.size:=⟨_,rfl⟩
   have B1:Below w.heap.size w w1:=by rw[hw1];exact b1 _ _
   have C1:w1.heap[g]?=some(.cells #[.int .i64 8,.int .i64 n,stv nm,.slice ao ks.len cap] 34):=by rw[hw1,hg];exact heap_alloc_new _ _
   obtain⟨⟨c0,c1,c2,c3⟩,-⟩:=ai C1;have HG:=Lib.hid hg;have HB:=Lib.hid B1;clear B1 S hk hs hg C1 hv hd hdl ih;go_enter Tryz.func87,Tryz.ntmps87;go_upto_region 1 with fail;rw[<-hw1,<-HG.out];clear hw1;go_wp2;go_ret;exact⟨rfl,HB.out⟩
  by_cases h9:k=9
  ·subst h9;have hv:kdE⟨9,n,nm,a,ks⟩=1:=by simp[kdE,kdN]
   rw[hv];obtain⟨w1,hw1⟩:∃w1,w1=w.alloc(.cells #[.int .i64 9,.int .i64 n,stv nm,.slice ao ks.len cap] 34):=⟨_,rfl⟩
   obtain⟨g,hg⟩:∃g,g=w.heap.size:=⟨_,rfl⟩
   have B1:Below w.heap.size w w1:=by rw[hw1];exact b1 _ _
   have C1:w1.heap[g]?=some(.cells #[.int .i64 9,.int .i64 n,stv nm,.slice ao ks.len cap] 34):=by rw[hw1,hg];exact heap_alloc_new _ _
   obtain⟨⟨c0,c1,c2,c3⟩,-⟩:=ai C1;have HG:=Lib.hid hg;have HB:=Lib.hid B1;clear B1 S hk hs hg C1 hv hd hdl ih;go_enter Tryz.func87,Tryz.ntmps87;go_upto_region 1 with fail;rw[<-hw1,<-HG.out];clear hw1;go_wp2;go_ret;exact⟨rfl,HB.out⟩
  by_cases h10:k=10
  ·subst h10;have hv:kdE⟨10,n,nm,a,ks⟩=1:=by simp[kdE,kdN]
   rw[hv];obtain⟨w1,hw1⟩:∃w1,w1=w.alloc(.cells #[.int .i64 10,.int .i64 n,stv nm,.slice ao ks.len cap] 34):=⟨_,rfl⟩
   obtain⟨g,hg⟩:∃g,g=w.heap.size:=⟨_,rfl⟩
   have B1:Below w.heap.size w w1:=by rw[hw1];exact b1 _ _
   have C1:w1.heap[g]?=some(.cells #[.int .i64 10,.int .i64 n,stv nm,.slice ao ks.len cap] 34):=by rw[hw1,hg];exact heap_alloc_new _ _
   obtain⟨⟨c0,c1,c2,c3⟩,-⟩:=ai C1;have HG:=Lib.hid hg;have HB:=Lib.hid B1;clear B1 S hk hs hg C1 hv hd hdl ih;go_enter Tryz.func87,Tryz.ntmps87;go_upto_region 1 with fail;rw[<-hw1,<-HG.out];clear hw1;go_wp2;go_ret;exact⟨rfl,HB.out⟩
  by_cases h11:k=11
  ·subst h11;have hv:kdE⟨11,n,nm,a,ks⟩=1:=by simp[kdE,kdN]
   rw[hv];obtain⟨w1,hw1⟩:∃w1,w1=w.alloc(.cells #[.int .i64 11,.int .i64 n,stv nm,.slice ao ks.len cap] 34):=⟨_,rfl⟩
   obtain⟨g,hg⟩:∃g,g=w.heap.size:=⟨_,rfl⟩
   have B1:Below w.heap.size w w1:=by rw[hw1];exact b1 _ _
   have C1:w1.heap[g]?=some(.cells #[.int .i64 11,.int .i64 n,stv nm,.slice ao ks.len cap] 34):=by rw[hw1,hg];exact heap_alloc_new _ _
   obtain⟨⟨c0,c1,c2,c3⟩,-⟩:=ai C1;have HG:=Lib.hid hg;have HB:=Lib.hid B1;clear B1 S hk hs hg C1 hv hd hdl ih;go_enter Tryz.func87,Tryz.ntmps87;go_upto_region 1 with fail;rw[<-hw1,<-HG.out];clear hw1;go_wp2;go_ret;exact⟨rfl,HB.out⟩
  by_cases h12:k=12
  ·subst h12;have hv:kdE⟨12,n,nm,a,ks⟩=1:=by simp[kdE,kdN]
   rw[hv];obtain⟨w1,hw1⟩:∃w1,w1=w.alloc(.cells #[.int .i64 12,.int .i64 n,stv nm,.slice ao ks.len cap] 34):=⟨_,rfl⟩
   obtain⟨g,hg⟩:∃g,g=w.heap.size:=⟨_,rfl⟩
   have B1:Below w.heap.size w w1:=by rw[hw1];exact b1 _ _
   have C1:w1.heap[g]?=some(.cells #[.int .i64 12,.int .i64 n,stv nm,.slice ao ks.len cap] 34):=by rw[hw1,hg];exact heap_alloc_new _ _
   obtain⟨⟨c0,c1,c2,c3⟩,-⟩:=ai C1;have HG:=Lib.hid hg;have HB:=Lib.hid B1;clear B1 S hk hs hg C1 hv hd hdl ih;go_enter Tryz.func87,Tryz.ntmps87;go_upto_region 1 with fail;rw[<-hw1,<-HG.out];clear hw1;go_wp2;go_ret;exact⟨rfl,HB.out⟩
  by_cases h13:k=13
  ·subst h13;have hv:kdE⟨13,n,nm,a,ks⟩=2:=by simp[kdE,kdN]
   rw[hv];obtain⟨w1,hw1⟩:∃w1,w1=w.alloc(.cells #[.int .i64 13,.int .i64 n,stv nm,.slice ao ks.len cap] 34):=⟨_,rfl⟩
   obtain⟨g,hg⟩:∃g,g=w.heap.size:=⟨_,rfl⟩
   have B1:Below w.heap.size w w1:=by rw[hw1];exact b1 _ _
   have C1:w1.heap[g]?=some(.cells #[.int .i64 13,.int .i64 n,stv nm,.slice ao ks.len cap] 34):=by rw[hw1,hg];exact heap_alloc_new _ _
   obtain⟨⟨c0,c1,c2,c3⟩,-⟩:=ai C1;have HG:=Lib.hid hg;have HB:=Lib.hid B1;clear B1 S hk hs hg C1 hv hd hdl ih;go_enter Tryz.func87,Tryz.ntmps87;go_upto_region 1 with fail;rw[<-hw1,<-HG.out];clear hw1;go_wp2;go_ret;exact⟨rfl,HB.out⟩
  by_cases h14:k=14
  ·subst h14;have hv:kdE⟨14,n,nm,a,ks⟩=2:=by simp[kdE,kdN]
   rw[hv];obtain⟨w1,hw1⟩:∃w1,w1=w.alloc(.cells #[.int .i64 14,.int .i64 n,stv nm,.slice ao ks.len cap] 34):=⟨_,rfl⟩
   obtain⟨g,hg⟩:∃g,g=w.heap.size:=⟨_,rfl⟩
   have B1:Below w.heap.size w w1:=by rw[hw1];exact b1 _ _
   have C1:w1.heap[g]?=some(.cells #[.int .i64 14,.int .i64 n,stv nm,.slice ao ks.len cap] 34):=by rw[hw1,hg];exact heap_alloc_new _ _
   obtain⟨⟨c0,c1,c2,c3⟩,-⟩:=ai C1;have HG:=Lib.hid hg;have HB:=Lib.hid B1;clear B1 S hk hs hg C1 hv hd hdl ih;go_enter Tryz.func87,Tryz.ntmps87;go_upto_region 1 with fail;rw[<-hw1,<-HG.out];clear hw1;go_wp2;go_ret;exact⟨rfl,HB.out⟩
  by_cases h15:k=15
  ·subst h15;have hv:kdE⟨15,n,nm,a,ks⟩=2:=by simp[kdE,kdN]
   rw[hv];obtain⟨w1,hw1⟩:∃w1,w1=w.alloc(.cells #[.int .i64 15,.int .i64 n,stv nm,.slice ao ks.len cap] 34):=⟨_,rfl⟩
   obtain⟨g,hg⟩:∃g,g=w.heap.size:=⟨_,rfl⟩
   have B1:Below w.heap.size w w1:=by rw[hw1];exact b1 _ _
   have C1:w1.heap[g]?=some(.cells #[.int .i64 15,.int .i64 n,stv nm,.slice ao ks.len cap] 34):=by rw[hw1,hg];exact heap_alloc_new _ _
   obtain⟨⟨c0,c1,c2,c3⟩,-⟩:=ai C1;have HG:=Lib.hid hg;have HB:=Lib.hid B1;clear B1 S hk hs hg C1 hv hd hdl ih;go_enter Tryz.func87,Tryz.ntmps87;go_upto_region 1 with fail;rw[<-hw1,<-HG.out];clear hw1;go_wp2;go_ret;exact⟨rfl,HB.out⟩
  by_cases h16:k=16
  ·subst h16;have hv:kdE⟨16,n,nm,a,ks⟩=2:=by simp[kdE,kdN]
   rw[hv];obtain⟨w1,hw1⟩:∃w1,w1=w.alloc(.cells #[.int .i64 16,.int .i64 n,stv nm,.slice ao ks.len cap] 34):=⟨_,rfl⟩
   obtain⟨g,hg⟩:∃g,g=w.heap.size:=⟨_,rfl⟩
   have B1:Below w.heap.size w w1:=by rw[hw1];exact b1 _ _
   have C1:w1.heap[g]?=some(.cells #[.int .i64 16,.int .i64 n,stv nm,.slice ao ks.len cap] 34):=by rw[hw1,hg];exact heap_alloc_new _ _
   obtain⟨⟨c0,c1,c2,c3⟩,-⟩:=ai C1;have HG:=Lib.hid hg;have HB:=Lib.hid B1;clear B1 S hk hs hg C1 hv hd hdl ih;go_enter Tryz.func87,Tryz.ntmps87;go_upto_region 1 with fail;rw[<-hw1,<-HG.out];clear hw1;go_wp2;go_ret;exact⟨rfl,HB.out⟩
  by_cases h17:k=17
  ·subst h17;have hv:kdE⟨17,n,nm,a,ks⟩=2:=by simp[kdE,kdN]
   rw[hv];obtain⟨w1,hw1⟩:∃w1,w1=w.alloc(.cells #[.int .i64 17,.int .i64 n,stv nm,.slice ao ks.len cap] 34):=⟨_,rfl⟩
   obtain⟨g,hg⟩:∃g,g=w.heap.size:=⟨_,rfl⟩
   have B1:Below w.heap.size w w1:=by rw[hw1];exact b1 _ _
   have C1:w1.heap[g]?=some(.cells #[.int .i64 17,.int .i64 n,stv nm,.slice ao ks.len cap] 34):=by rw[hw1,hg];exact heap_alloc_new _ _
   obtain⟨⟨c0,c1,c2,c3⟩,-⟩:=ai C1;have HG:=Lib.hid hg;have HB:=Lib.hid B1;clear B1 S hk hs hg C1 hv hd hdl ih;go_enter Tryz.func87,Tryz.ntmps87;go_upto_region 1 with fail;rw[<-hw1,<-HG.out];clear hw1;go_wp2;go_ret;exact⟨rfl,HB.out⟩
  by_cases h18:k=18
  ·subst h18;have hv:kdE⟨18,n,nm,a,ks⟩=2:=by simp[kdE,kdN]
   rw[hv];obtain⟨w1,hw1⟩:∃w1,w1=w.alloc(.cells #[.int .i64 18,.int .i64 n,stv nm,.slice ao ks.len cap] 34):=⟨_,rfl⟩
   obtain⟨g,hg⟩:∃g,g=w.heap.size:=⟨_,rfl⟩
   have B1:Below w.heap.size w w1:=by rw[hw1];exact b1 _ _
   have C1:w1.heap[g]?=some(.cells #[.int .i64 18,.int .i64 n,stv nm,.slice ao ks.len cap] 34):=by rw[hw1,hg];exact heap_alloc_new _ _
   obtain⟨⟨c0,c1,c2,c3⟩,-⟩:=ai C1;have HG:=Lib.hid hg;have HB:=Lib.hid B1;clear B1 S hk hs hg C1 hv hd hdl ih;go_enter Tryz.func87,Tryz.ntmps87;go_upto_region 1 with fail;rw[<-hw1,<-HG.out];clear hw1;go_wp2;go_ret;exact⟨rfl,HB.out⟩
  by_cases h22:k=22
  ·subst h22;have hv:kdE⟨22,n,nm,a,ks⟩=2:=by simp[kdE,kdN]
   rw[hv];obtain⟨w1,hw1⟩:∃w1,w1=w.alloc(.cells #[.int .i64 22,.int .i64 n,stv nm,.slice ao ks.len cap] 34):=⟨_,rfl⟩
   obtain⟨g,hg⟩:∃g,g=w.heap.size:=⟨_,rfl⟩
   have B1:Below w.heap.size w w1:=by rw[hw1];exact b1 _ _
   have C1:w1.heap[g]?=some(.cells #[.int .i64 22,.int .i64 n,stv nm,.slice ao ks.len cap] 34):=by rw[hw1,hg];exact heap_alloc_new _ _
   obtain⟨⟨c0,c1,c2,c3⟩,-⟩:=ai C1;have HG:=Lib.hid hg;have HB:=Lib.hid B1;clear B1 S hk hs hg C1 hv hd hdl ih;go_enter Tryz.func87,Tryz.ntmps87;go_upto_region 1 with fail;rw[<-hw1,<-HG.out];clear hw1;go_wp2;go_ret;exact⟨rfl,HB.out⟩
  by_cases h23:k=23
  ·subst h23;have hv:kdE⟨23,n,nm,a,ks⟩=2:=by simp[kdE,kdN]
   rw[hv];obtain⟨w1,hw1⟩:∃w1,w1=w.alloc(.cells #[.int .i64 23,.int .i64 n,stv nm,.slice ao ks.len cap] 34):=⟨_,rfl⟩
   obtain⟨g,hg⟩:∃g,g=w.heap.size:=⟨_,rfl⟩
   have B1:Below w.heap.size w w1:=by rw[hw1];exact b1 _ _
   have C1:w1.heap[g]?=some(.cells #[.int .i64 23,.int .i64 n,stv nm,.slice ao ks.len cap] 34):=by rw[hw1,hg];exact heap_alloc_new _ _
   obtain⟨⟨c0,c1,c2,c3⟩,-⟩:=ai C1;have HG:=Lib.hid hg;have HB:=Lib.hid B1;clear B1 S hk hs hg C1 hv hd hdl ih;go_enter Tryz.func87,Tryz.ntmps87;go_upto_region 1 with fail;rw[<-hw1,<-HG.out];clear hw1;go_wp2;go_ret;exact⟨rfl,HB.out⟩
  by_cases h24:k=24
  ·subst h24;have hv:kdE⟨24,n,nm,a,ks⟩=2:=by simp[kdE,kdN]
   rw[hv];obtain⟨w1,hw1⟩:∃w1,w1=w.alloc(.cells #[.int .i64 24,.int .i64 n,stv nm,.slice ao ks.len cap] 34):=⟨_,rfl⟩
   obtain⟨g,hg⟩:∃g,g=w.heap.size:=⟨_,rfl⟩
   have B1:Below w.heap.size w w1:=by rw[hw1];exact b1 _ _
   have C1:w1.heap[g]?=some(.cells #[.int .i64 24,.int .i64 n,stv nm,.slice ao ks.len cap] 34):=by rw[hw1,hg];exact heap_alloc_new _ _
   obtain⟨⟨c0,c1,c2,c3⟩,-⟩:=ai C1;have HG:=Lib.hid hg;have HB:=Lib.hid B1;clear B1 S hk hs hg C1 hv hd hdl ih;go_enter Tryz.func87,Tryz.ntmps87;go_upto_region 1 with fail;rw[<-hw1,<-HG.out];clear hw1;go_wp2;go_ret;exact⟨rfl,HB.out⟩
  by_cases h25:k=25
  ·subst h25;have hv:kdE⟨25,n,nm,a,ks⟩=2:=by simp[kdE,kdN]
   rw[hv];obtain⟨w1,hw1⟩:∃w1,w1=w.alloc(.cells #[.int .i64 25,.int .i64 n,stv nm,.slice ao ks.len cap] 34):=⟨_,rfl⟩
   obtain⟨g,hg⟩:∃g,g=w.heap.size:=⟨_,rfl⟩
   have B1:Below w.heap.size w w1:=by rw[hw1];exact b1 _ _
   have C1:w1.heap[g]?=some(.cells #[.int .i64 25,.int .i64 n,stv nm,.slice ao ks.len cap] 34):=by rw[hw1,hg];exact heap_alloc_new _ _
   obtain⟨⟨c0,c1,c2,c3⟩,-⟩:=ai C1;have HG:=Lib.hid hg;have HB:=Lib.hid B1;clear B1 S hk hs hg C1 hv hd hdl ih;go_enter Tryz.func87,Tryz.ntmps87;go_upto_region 1 with fail;rw[<-hw1,<-HG.out];clear hw1;go_wp2;go_ret;exact⟨rfl,HB.out⟩
  exfalso;rcases dK hd with h|h|h|h|h|h|h|h|h|h|h|h|h|h|h|h|h|h|h|h|h|h|h|h|h<;>contradiction
theorem n8:∀ (f:Fs),(kdF f).length=f.len
 | ⟨none⟩=>rfl
 | ⟨some⟨k,n,nm,a,ks,r⟩⟩=>by simp only[kdF,Fs.len,List.length_cons];rw[n8 r]
theorem rC {nc:Nat}:∀ {f:Fs},okF nc f->∀ v ∈ kdF f,1<=v/\v<=3
 | ⟨none⟩,_=>fun v hv=>by simp[kdF] at hv
 | ⟨some⟨k,n,nm,a,ks,r⟩⟩,h=>fun v hv=>by
  have h1:=rC h.2.1;have hl:=n8 ks;have hd:=gZ h.1.1;simp only[kdF,List.mem_cons] at hv;rcases hv with rfl|hv
  ·unfold kdN;split
   ·omega
   ·split
    ·omega
    ·split
     ·rename_i e
      have:=hd.1 e
      have hlt:1<(kdF ks).length:=by omega
      rw[List.getD_eq_getElem?_getD,List.getElem?_eq_getElem hlt];exact h1 _(List.getElem_mem hlt)
     ·split
      ·rename_i e
       have:=hd.2.1 e
       have hlt:0<(kdF ks).length:=by omega
       rw[List.getD_eq_getElem?_getD,List.getElem?_eq_getElem hlt];exact h1 _(List.getElem_mem hlt)
      ·split
       ·unfold pU;split;omega;split<;>omega
       ·split
        ·unfold pK;split<;>omega
        ·omega
  ·exact rC h.2.2 v hv
theorem iR {nc:Nat}{e:Ex}(h:okE nc e):1<=kdE e/\kdE e<=3:=rC (f:=one e) (show okF nc (one e) from ⟨h.1,h.2,trivial⟩) (kdE e) (by simp[kdF,one,kdE])
theorem Ey (s:Em)(x:List UInt8):Grw s (s.kn x) 1:=⟨s.mes_kn x,Nat.le_refl _,rfl,id⟩
def opK (k:Int):Prop:=k=6\/k=7\/k=8\/k=9\/k=10\/k=11\/k=12\/k=13\/k=14\/k=15\/k=16\/k=20\/k=22\/k=23\/k=24\/k=25
theorem qJ (nc:Nat)(e:Ex)(ao:Option Addr)(cap:Nat)(w:World)(o:Nat->Nat)(rb:Nat)(lv:Value)(ls:List Int)(s:Em)(hk:opK e.k)(ho:okE nc e)(S:SnO w o e.kids ao)(hlen:e.kids.len<=268435455)(hnm:e.nm.length<=maxLen)(hm:s.mes+3<=100000000)(X:EmX w o lv ls)(h:EmW w o rb lv s) :
  Calls Tryz.prog 97 #[.pointer(some⟨rb,0,none⟩),exN e ao cap] w(ms w o rb lv s(opr e.k e.n e.nm(kdF e.kids) s) 3):=by
 obtain⟨k,n,nm,a,ks⟩:=e;obtain⟨⟨hd,-,-⟩,hok⟩:=ho;simp only at hd hok hk S hlen hnm;rw[ah];simp only;have hdl:=gZ hd;by_cases h6:k=6
 ·subst h6;have hv:opr 6 n nm(kdF ks) s=s.lay 4 0 0:=by simp[opr,fy]
  rw[hv];obtain⟨w1,hw1⟩:∃w1,w1=w.alloc(.cells #[.int .i64 6,.int .i64 n,stv nm,.slice ao ks.len cap] 34):=⟨_,rfl⟩
  obtain⟨g,hg⟩:∃g,g=w.heap.size:=⟨_,rfl⟩
  have s0:∀ {I:Nat->Prop},aa I w o w1(ae w o 0):=fun {I}=>by rw[hw1];exact aO I w o _
  have C1:w1.heap[g]?=some(.cells #[.int .i64 6,.int .i64 n,stv nm,.slice ao ks.len cap] 34):=by rw[hw1,hg];exact heap_alloc_new _ _
  have C1o:ae w o 0 g=0:=by rw[hg];exact ax(Nat.le_refl _)
  have E1:=h.step(s0(I:=fun _=>False)) noF;have X1:=X.step(s0(I:=fun _=>False)) id;have S1:=S.stepO(s0(I:=fun _=>False)) id;have S0:=s0(I:=I17);generalize ae w o 0=o1 at *;obtain⟨⟨c0,c1,c2,c3⟩,-⟩:=ai C1;have HG:=Lib.hid hg;clear s0 hg h X S hdl hd;have HL:=bW 4 0 0 w1 o1 rb lv ls s(by omega)(by omega)(by omega)(by omega) X1 E1;have hbr:=X1.bar 6(by omega);simp only[List.getD_cons_succ,List.getD_cons_zero] at hbr;clear hv;go_enter Tryz.func97,Tryz.ntmps97;go_upto_region 1 with fail;rw[<-hw1,<-HG.out];clear hw1;go_wp2_with(first|(go_at_call 47;refine HL.mono ?_;rintro e w2⟨rfl,o2,E2,S2⟩))
  go_end0
  exact⟨rfl,⟨o2,E2,S0.trans S2⟩,(bE s _ _ _).le(by omega)⟩
 by_cases h7:k=7
 ·subst h7;have hv:opr 7 n nm(kdF ks) s=s.lay 5 0 0:=by simp[opr,fy]
  rw[hv];obtain⟨w1,hw1⟩:∃w1,w1=w.alloc(.cells #[.int .i64 7,.int .i64 n,stv nm,.slice ao ks.len cap] 34):=⟨_,rfl⟩
  obtain⟨g,hg⟩:∃g,g=w.heap.size:=⟨_,rfl⟩
  have s0:∀ {I:Nat->Prop},aa I w o w1(ae w o 0):=fun {I}=>by rw[hw1];exact aO I w o _
  have C1:w1.heap[g]?=some(.cells #[.int .i64 7,.int .i64 n,stv nm,.slice ao ks.len cap] 34):=by rw[hw1,hg];exact heap_alloc_new _ _
  have C1o:ae w o 0 g=0:=by rw[hg];exact ax(Nat.le_refl _)
  have E1:=h.step(s0(I:=fun _=>False)) noF;have X1:=X.step(s0(I:=fun _=>False)) id;have S1:=S.stepO(s0(I:=fun _=>False)) id;have S0:=s0(I:=I17);generalize ae w o 0=o1 at *;obtain⟨⟨c0,c1,c2,c3⟩,-⟩:=ai C1;have HG:=Lib.hid hg;clear s0 hg h X S hdl hd;have HL:=bW 5 0 0 w1 o1 rb lv ls s(by omega)(by omega)(by omega)(by omega) X1 E1;have hbr:=X1.bar 7(by omega);simp only[List.getD_cons_succ,List.getD_cons_zero] at hbr;clear hv;go_enter Tryz.func97,Tryz.ntmps97;go_upto_region 1 with fail;rw[<-hw1,<-HG.out];clear hw1;go_wp2_with(first|(go_at_call 47;refine HL.mono ?_;rintro e w2⟨rfl,o2,E2,S2⟩))
  go_end0
  exact⟨rfl,⟨o2,E2,S0.trans S2⟩,(bE s _ _ _).le(by omega)⟩
 by_cases h8:k=8
 ·subst h8;have hv:opr 8 n nm(kdF ks) s=s.lay 6 0 0:=by simp[opr,fy]
  rw[hv];obtain⟨w1,hw1⟩:∃w1,w1=w.alloc(.cells #[.int .i64 8,.int .i64 n,stv nm,.slice ao ks.len cap] 34):=⟨_,rfl⟩
  obtain⟨g,hg⟩:∃g,g=w.heap.size:=⟨_,rfl⟩
  have s0:∀ {I:Nat->Prop},aa I w o w1(ae w o 0):=fun {I}=>by rw[hw1];exact aO I w o _
  have C1:w1.heap[g]?=some(.cells #[.int .i64 8,.int .i64 n,stv nm,.slice ao ks.len cap] 34):=by rw[hw1,hg];exact heap_alloc_new _ _
  have C1o:ae w o 0 g=0:=by rw[hg];exact ax(Nat.le_refl _)
  have E1:=h.step(s0(I:=fun _=>False)) noF;have X1:=X.step(s0(I:=fun _=>False)) id;have S1:=S.stepO(s0(I:=fun _=>False)) id;have S0:=s0(I:=I17);generalize ae w o 0=o1 at *;obtain⟨⟨c0,c1,c2,c3⟩,-⟩:=ai C1;have HG:=Lib.hid hg;clear s0 hg h X S hdl hd;have HL:=bW 6 0 0 w1 o1 rb lv ls s(by omega)(by omega)(by omega)(by omega) X1 E1;have hbr:=X1.bar 8(by omega);simp only[List.getD_cons_succ,List.getD_cons_zero] at hbr;clear hv;go_enter Tryz.func97,Tryz.ntmps97;go_upto_region 1 with fail;rw[<-hw1,<-HG.out];clear hw1;go_wp2_with(first|(go_at_call 47;refine HL.mono ?_;rintro e w2⟨rfl,o2,E2,S2⟩))
  go_end0
  exact⟨rfl,⟨o2,E2,S0.trans S2⟩,(bE s _ _ _).le(by omega)⟩
 by_cases h9:k=9
 ·subst h9;have hv:opr 9 n nm(kdF ks) s=s.lay 7 0 0:=by simp[opr,fy]
  rw[hv];obtain⟨w1,hw1⟩:∃w1,w1=w.alloc(.cells #[.int .i64 9,.int .i64 n,stv nm,.slice ao ks.len cap] 34):=⟨_,rfl⟩
  obtain⟨g,hg⟩:∃g,g=w.heap.size:=⟨_,rfl⟩
  have s0:∀ {I:Nat->Prop},aa I w o w1(ae w o 0):=fun {I}=>by rw[hw1];exact aO I w o _
  have C1:w1.heap[g]?=some(.cells #[.int .i64 9,.int .i64 n,stv nm,.slice ao ks.len cap] 34):=by rw[hw1,hg];exact heap_alloc_new _ _
  have C1o:ae w o 0 g=0:=by rw[hg];exact ax(Nat.le_refl _)
  have E1:=h.step(s0(I:=fun _=>False)) noF;have X1:=X.step(s0(I:=fun _=>False)) id;have S1:=S.stepO(s0(I:=fun _=>False)) id;have S0:=s0(I:=I17);generalize ae w o 0=o1 at *;obtain⟨⟨c0,c1,c2,c3⟩,-⟩:=ai C1;have HG:=Lib.hid hg;clear s0 hg h X S hdl hd;have HL:=bW 7 0 0 w1 o1 rb lv ls s(by omega)(by omega)(by omega)(by omega) X1 E1;have hbr:=X1.bar 9(by omega);simp only[List.getD_cons_succ,List.getD_cons_zero] at hbr;clear hv;go_enter Tryz.func97,Tryz.ntmps97;go_upto_region 1 with fail;rw[<-hw1,<-HG.out];clear hw1;go_wp2_with(first|(go_at_call 47;refine HL.mono ?_;rintro e w2⟨rfl,o2,E2,S2⟩))
  go_end0
  exact⟨rfl,⟨o2,E2,S0.trans S2⟩,(bE s _ _ _).le(by omega)⟩
 by_cases h10:k=10
 ·subst h10;have hv:opr 10 n nm(kdF ks) s=s.lay 8 0 0:=by simp[opr,fy]
  rw[hv];obtain⟨w1,hw1⟩:∃w1,w1=w.alloc(.cells #[.int .i64 10,.int .i64 n,stv nm,.slice ao ks.len cap] 34):=⟨_,rfl⟩
  obtain⟨g,hg⟩:∃g,g=w.heap.size:=⟨_,rfl⟩
  have s0:∀ {I:Nat->Prop},aa I w o w1(ae w o 0):=fun {I}=>by rw[hw1];exact aO I w o _
  have C1:w1.heap[g]?=some(.cells #[.int .i64 10,.int .i64 n,stv nm,.slice ao ks.len cap] 34):=by rw[hw1,hg];exact heap_alloc_new _ _
  have C1o:ae w o 0 g=0:=by rw[hg];exact ax(Nat.le_refl _)
  have E1:=h.step(s0(I:=fun _=>False)) noF;have X1:=X.step(s0(I:=fun _=>False)) id;have S1:=S.stepO(s0(I:=fun _=>False)) id;have S0:=s0(I:=I17);generalize ae w o 0=o1 at *;obtain⟨⟨c0,c1,c2,c3⟩,-⟩:=ai C1;have HG:=Lib.hid hg;clear s0 hg h X S hdl hd;have HL:=bW 8 0 0 w1 o1 rb lv ls s(by omega)(by omega)(by omega)(by omega) X1 E1;have hbr:=X1.bar 10(by omega);simp only[List.getD_cons_succ,List.getD_cons_zero] at hbr;clear hv;go_enter Tryz.func97,Tryz.ntmps97;go_upto_region 1 with fail;rw[<-hw1,<-HG.out];clear hw1;go_wp2_with(first|(go_at_call 47;refine HL.mono ?_;rintro e w2⟨rfl,o2,E2,S2⟩))
  go_end0
  exact⟨rfl,⟨o2,E2,S0.trans S2⟩,(bE s _ _ _).le(by omega)⟩
 by_cases h11:k=11
 ·subst h11;have hv:opr 11 n nm(kdF ks) s=s.lay 9 0 0:=by simp[opr,fy]
  rw[hv];obtain⟨w1,hw1⟩:∃w1,w1=w.alloc(.cells #[.int .i64 11,.int .i64 n,stv nm,.slice ao ks.len cap] 34):=⟨_,rfl⟩
  obtain⟨g,hg⟩:∃g,g=w.heap.size:=⟨_,rfl⟩
  have s0:∀ {I:Nat->Prop},aa I w o w1(ae w o 0):=fun {I}=>by rw[hw1];exact aO I w o _
  have C1:w1.heap[g]?=some(.cells #[.int .i64 11,.int .i64 n,stv nm,.slice ao ks.len cap] 34):=by rw[hw1,hg];exact heap_alloc_new _ _
  have C1o:ae w o 0 g=0:=by rw[hg];exact ax(Nat.le_refl _)
  have E1:=h.step(s0(I:=fun _=>False)) noF;have X1:=X.step(s0(I:=fun _=>False)) id;have S1:=S.stepO(s0(I:=fun _=>False)) id;have S0:=s0(I:=I17);generalize ae w o 0=o1 at *;obtain⟨⟨c0,c1,c2,c3⟩,-⟩:=ai C1;have HG:=Lib.hid hg;clear s0 hg h X S hdl hd;have HL:=bW 9 0 0 w1 o1 rb lv ls s(by omega)(by omega)(by omega)(by omega) X1 E1;have hbr:=X1.bar 11(by omega);simp only[List.getD_cons_succ,List.getD_cons_zero] at hbr;clear hv;go_enter Tryz.func97,Tryz.ntmps97;go_upto_region 1 with fail;rw[<-hw1,<-HG.out];clear hw1;go_wp2_with(first|(go_at_call 47;refine HL.mono ?_;rintro e w2⟨rfl,o2,E2,S2⟩))
  go_end0
  exact⟨rfl,⟨o2,E2,S0.trans S2⟩,(bE s _ _ _).le(by omega)⟩
 by_cases h12:k=12
 ·subst h12;have hv:opr 12 n nm(kdF ks) s=s.lay 10 0 0:=by simp[opr,fy]
  rw[hv];obtain⟨w1,hw1⟩:∃w1,w1=w.alloc(.cells #[.int .i64 12,.int .i64 n,stv nm,.slice ao ks.len cap] 34):=⟨_,rfl⟩
  obtain⟨g,hg⟩:∃g,g=w.heap.size:=⟨_,rfl⟩
  have s0:∀ {I:Nat->Prop},aa I w o w1(ae w o 0):=fun {I}=>by rw[hw1];exact aO I w o _
  have C1:w1.heap[g]?=some(.cells #[.int .i64 12,.int .i64 n,stv nm,.slice ao ks.len cap] 34):=by rw[hw1,hg];exact heap_alloc_new _ _
  have C1o:ae w o 0 g=0:=by rw[hg];exact ax(Nat.le_refl _)
  have E1:=h.step(s0(I:=fun _=>False)) noF;have X1:=X.step(s0(I:=fun _=>False)) id;have S1:=S.stepO(s0(I:=fun _=>False)) id;have S0:=s0(I:=I17);generalize ae w o 0=o1 at *;obtain⟨⟨c0,c1,c2,c3⟩,-⟩:=ai C1;have HG:=Lib.hid hg;clear s0 hg h X S hdl hd;have HL:=bW 10 0 0 w1 o1 rb lv ls s(by omega)(by omega)(by omega)(by omega) X1 E1;have hbr:=X1.bar 12(by omega);simp only[List.getD_cons_succ,List.getD_cons_zero] at hbr;clear hv;go_enter Tryz.func97,Tryz.ntmps97;go_upto_region 1 with fail;rw[<-hw1,<-HG.out];clear hw1;go_wp2_with(first|(go_at_call 47;refine HL.mono ?_;rintro e w2⟨rfl,o2,E2,S2⟩))
  go_end0
  exact⟨rfl,⟨o2,E2,S0.trans S2⟩,(bE s _ _ _).le(by omega)⟩
 by_cases h13:k=13
 ·subst h13;have hl2:ks.len=2:=hdl.2.2.1(by omega)(by omega);rw[hl2];obtain⟨x,y,hks⟩:=ep hl2;have hx:okE nc x:=by rw[hks] at hok;exact(aK hok).1
  have hb:=iR hx;obtain⟨kx,hkx⟩:∃kx:Nat,(kx:Int)=kdE x:=⟨(kdE x).toNat,by omega⟩
  have hv:opr 13 n nm(kdF ks) s=s.lay 11 0 kx:=by rw[hks,iM];simp[opr,<-hkx]
  rw[hv];rw[hks] at S;obtain⟨w1,hw1⟩:∃w1,w1=w.alloc(.cells #[.int .i64 13,.int .i64 n,stv nm,.slice ao 2 cap] 34):=⟨_,rfl⟩
  obtain⟨g,hg⟩:∃g,g=w.heap.size:=⟨_,rfl⟩
  have s0:∀ {I:Nat->Prop},aa I w o w1(ae w o 0):=fun {I}=>by rw[hw1];exact aO I w o _
  have C1:w1.heap[g]?=some(.cells #[.int .i64 13,.int .i64 n,stv nm,.slice ao 2 cap] 34):=by rw[hw1,hg];exact heap_alloc_new _ _
  have C1o:ae w o 0 g=0:=by rw[hg];exact ax(Nat.le_refl _)
  have E1:=h.step(s0(I:=fun _=>False)) noF;have X1:=X.step(s0(I:=fun _=>False)) id;have S1:=S.stepO(s0(I:=fun _=>False)) id;have S0:=s0(I:=I17);generalize ae w o 0=o1 at *;obtain⟨⟨c0,c1,c2,c3⟩,-⟩:=ai C1;have HG:=Lib.hid hg;clear s0 hg h X S hdl hd;obtain⟨b,off,ak,ck,rfl,x0,x1,x2,x3,Sy⟩:=tW S1;have HK:=gN nc(x.kids.size+1) x ak ck w1(by omega) hx Sy.all;rw[ah,<-hkx] at HK;have hb2:kx<=3:=by omega
  clear hv hks S1 Sy hkx hb hl2;go_enter Tryz.func97,Tryz.ntmps97;go_upto_region 1 with fail;rw[<-hw1,<-HG.out];clear hw1;go_wp2_with fail;refine HK.mono ?_;rintro r w1b⟨rfl,B1⟩;have HL:=bW 11 0 kx w1b o1 rb lv ls s(by omega)(by omega)(by omega)(by omega)(X1.below B1)(E1.below B1);have SB:aa I17 w1 o1 w1b o1:=aa.ofBelow o1 B1;clear HK;go_wp2_with(first|(go_at_call 47;refine HL.mono ?_;rintro e w2⟨rfl,o2,E2,S2⟩))
  go_end0
  exact⟨rfl,⟨o2,E2,(S0.trans SB).trans S2⟩,(bE s _ _ _).le(by omega)⟩
 by_cases h14:k=14
 ·subst h14;have hl2:ks.len=2:=hdl.2.2.1(by omega)(by omega);rw[hl2];obtain⟨x,y,hks⟩:=ep hl2;have hx:okE nc x:=by rw[hks] at hok;exact(aK hok).1
  have hb:=iR hx;obtain⟨kx,hkx⟩:∃kx:Nat,(kx:Int)=kdE x:=⟨(kdE x).toNat,by omega⟩
  have hv:opr 14 n nm(kdF ks) s=(s.lay 11 0 kx).lay 5 0 0:=by rw[hks,iM];simp[opr,<-hkx]
  rw[hv];rw[hks] at S;obtain⟨w1,hw1⟩:∃w1,w1=w.alloc(.cells #[.int .i64 14,.int .i64 n,stv nm,.slice ao 2 cap] 34):=⟨_,rfl⟩
  obtain⟨g,hg⟩:∃g,g=w.heap.size:=⟨_,rfl⟩
  have s0:∀ {I:Nat->Prop},aa I w o w1(ae w o 0):=fun {I}=>by rw[hw1];exact aO I w o _
  have C1:w1.heap[g]?=some(.cells #[.int .i64 14,.int .i64 n,stv nm,.slice ao 2 cap] 34):=by rw[hw1,hg];exact heap_alloc_new _ _
  have C1o:ae w o 0 g=0:=by rw[hg];exact ax(Nat.le_refl _)
  have E1:=h.step(s0(I:=fun _=>False)) noF;have X1:=X.step(s0(I:=fun _=>False)) id;have S1:=S.stepO(s0(I:=fun _=>False)) id;have S0:=s0(I:=I17);generalize ae w o 0=o1 at *;obtain⟨⟨c0,c1,c2,c3⟩,-⟩:=ai C1;have HG:=Lib.hid hg;clear s0 hg h X S hdl hd;obtain⟨b,off,ak,ck,rfl,x0,x1,x2,x3,Sy⟩:=tW S1;have HK:=gN nc(x.kids.size+1) x ak ck w1(by omega) hx Sy.all;rw[ah,<-hkx] at HK;have hb2:kx<=3:=by omega
  clear hv hks S1 Sy hkx hb hl2;go_enter Tryz.func97,Tryz.ntmps97;go_upto_region 1 with fail;rw[<-hw1,<-HG.out];clear hw1;go_wp2_with fail;refine HK.mono ?_;rintro r w1b⟨rfl,B1⟩;have HL:=bW 11 0 kx w1b o1 rb lv ls s(by omega)(by omega)(by omega)(by omega)(X1.below B1)(E1.below B1);have SB:aa I17 w1 o1 w1b o1:=aa.ofBelow o1 B1;clear HK;go_upto_region 7 with(first|(go_at_call 47;refine HL.mono ?_;rintro e w2⟨rfl,o2,E2,S2⟩))
  have gl:=bE s 11 0 kx;have HL2:=bW 5 0 0 w2 o2 rb lv ls(s.lay 11 0 kx)(by omega)(by omega)(by omega)(by have:=gl.mes;omega)((X1.below B1).step S2(by decide)) E2;clear HL;go_wp2_with(first|(go_at_call 47;refine HL2.mono ?_;rintro e w3⟨rfl,o3,E3,S3⟩))
  go_end0
  exact⟨rfl,⟨o3,E3,((S0.trans SB).trans S2).trans S3⟩,(gl.trans(bE _ _ _ _)).le(by omega)⟩
 by_cases h15:k=15
 ·subst h15;have hv:opr 15 n nm(kdF ks) s=s.lay 12 0 0:=by simp[opr]
  rw[hv];obtain⟨w1,hw1⟩:∃w1,w1=w.alloc(.cells #[.int .i64 15,.int .i64 n,stv nm,.slice ao ks.len cap] 34):=⟨_,rfl⟩
  obtain⟨g,hg⟩:∃g,g=w.heap.size:=⟨_,rfl⟩
  have s0:∀ {I:Nat->Prop},aa I w o w1(ae w o 0):=fun {I}=>by rw[hw1];exact aO I w o _
  have C1:w1.heap[g]?=some(.cells #[.int .i64 15,.int .i64 n,stv nm,.slice ao ks.len cap] 34):=by rw[hw1,hg];exact heap_alloc_new _ _
  have C1o:ae w o 0 g=0:=by rw[hg];exact ax(Nat.le_refl _)
  have E1:=h.step(s0(I:=fun _=>False)) noF;have X1:=X.step(s0(I:=fun _=>False)) id;have S1:=S.stepO(s0(I:=fun _=>False)) id;have S0:=s0(I:=I17);generalize ae w o 0=o1 at *;obtain⟨⟨c0,c1,c2,c3⟩,-⟩:=ai C1;have HG:=Lib.hid hg;clear s0 hg h X S hdl hd;have HL:=bW 12 0 0 w1 o1 rb lv ls s(by omega)(by omega)(by omega)(by omega) X1 E1;clear hv;go_enter Tryz.func97,Tryz.ntmps97;go_upto_region 1 with fail;rw[<-hw1,<-HG.out];clear hw1;go_wp2_with(first|(go_at_call 47;refine HL.mono ?_;rintro e w2⟨rfl,o2,E2,S2⟩))
  go_end0
  exact⟨rfl,⟨o2,E2,S0.trans S2⟩,(bE s _ _ _).le(by omega)⟩
 by_cases h16:k=16
 ·subst h16;have hv:opr 16 n nm(kdF ks) s=s.lay 12 0 1:=by simp[opr]
  rw[hv];obtain⟨w1,hw1⟩:∃w1,w1=w.alloc(.cells #[.int .i64 16,.int .i64 n,stv nm,.slice ao ks.len cap] 34):=⟨_,rfl⟩
  obtain⟨g,hg⟩:∃g,g=w.heap.size:=⟨_,rfl⟩
  have s0:∀ {I:Nat->Prop},aa I w o w1(ae w o 0):=fun {I}=>by rw[hw1];exact aO I w o _
  have C1:w1.heap[g]?=some(.cells #[.int .i64 16,.int .i64 n,stv nm,.slice ao ks.len cap] 34):=by rw[hw1,hg];exact heap_alloc_new _ _
  have C1o:ae w o 0 g=0:=by rw[hg];exact ax(Nat.le_refl _)
  have E1:=h.step(s0(I:=fun _=>False)) noF;have X1:=X.step(s0(I:=fun _=>False)) id;have S1:=S.stepO(s0(I:=fun _=>False)) id;have S0:=s0(I:=I17);generalize ae w o 0=o1 at *;obtain⟨⟨c0,c1,c2,c3⟩,-⟩:=ai C1;have HG:=Lib.hid hg;clear s0 hg h X S hdl hd;have HL:=bW 12 0 1 w1 o1 rb lv ls s(by omega)(by omega)(by omega)(by omega) X1 E1;clear hv;go_enter Tryz.func97,Tryz.ntmps97;go_upto_region 1 with fail;rw[<-hw1,<-HG.out];clear hw1;go_wp2_with(first|(go_at_call 47;refine HL.mono ?_;rintro e w2⟨rfl,o2,E2,S2⟩))
  go_end0
  exact⟨rfl,⟨o2,E2,S0.trans S2⟩,(bE s _ _ _).le(by omega)⟩
 by_cases h20:k=20
 ·subst h20;have hn:=hdl.2.2.2.2.1 rfl;obtain⟨n0,hn0⟩:∃n0:Nat,(n0:Int)=n:=⟨n.toNat,by omega⟩
  subst hn0;have hv:opr 20(n0:Int) nm(kdF ks) s=s.lay 16 n0 0:=by simp[opr]
  rw[hv];obtain⟨w1,hw1⟩:∃w1,w1=w.alloc(.cells #[.int .i64 20,.int .i64(n0:Int),stv nm,.slice ao ks.len cap] 34):=⟨_,rfl⟩
  obtain⟨g,hg⟩:∃g,g=w.heap.size:=⟨_,rfl⟩
  have s0:∀ {I:Nat->Prop},aa I w o w1(ae w o 0):=fun {I}=>by rw[hw1];exact aO I w o _
  have C1:w1.heap[g]?=some(.cells #[.int .i64 20,.int .i64(n0:Int),stv nm,.slice ao ks.len cap] 34):=by rw[hw1,hg];exact heap_alloc_new _ _
  have C1o:ae w o 0 g=0:=by rw[hg];exact ax(Nat.le_refl _)
  have E1:=h.step(s0(I:=fun _=>False)) noF;have X1:=X.step(s0(I:=fun _=>False)) id;have S1:=S.stepO(s0(I:=fun _=>False)) id;have S0:=s0(I:=I17);generalize ae w o 0=o1 at *;obtain⟨⟨c0,c1,c2,c3⟩,-⟩:=ai C1;have HG:=Lib.hid hg;clear s0 hg h X S hdl hd;have HL:=bW 16 n0 0 w1 o1 rb lv ls s(by omega)(by omega)(by omega)(by omega) X1 E1;clear hv;go_enter Tryz.func97,Tryz.ntmps97;go_upto_region 1 with fail;rw[<-hw1,<-HG.out];clear hw1;go_wp2_with(first|(go_at_call 47;refine HL.mono ?_;rintro e w2⟨rfl,o2,E2,S2⟩))
  go_end0
  exact⟨rfl,⟨o2,E2,S0.trans S2⟩,(bE s _ _ _).le(by omega)⟩
 by_cases h22:k=22
 ·subst h22;have hv:opr 22 n nm(kdF ks) s=s.lay 20 0 0:=by simp[opr,fy]
  rw[hv];obtain⟨w1,hw1⟩:∃w1,w1=w.alloc(.cells #[.int .i64 22,.int .i64 n,stv nm,.slice ao ks.len cap] 34):=⟨_,rfl⟩
  obtain⟨g,hg⟩:∃g,g=w.heap.size:=⟨_,rfl⟩
  have s0:∀ {I:Nat->Prop},aa I w o w1(ae w o 0):=fun {I}=>by rw[hw1];exact aO I w o _
  have C1:w1.heap[g]?=some(.cells #[.int .i64 22,.int .i64 n,stv nm,.slice ao ks.len cap] 34):=by rw[hw1,hg];exact heap_alloc_new _ _
  have C1o:ae w o 0 g=0:=by rw[hg];exact ax(Nat.le_refl _)
  have E1:=h.step(s0(I:=fun _=>False)) noF;have X1:=X.step(s0(I:=fun _=>False)) id;have S1:=S.stepO(s0(I:=fun _=>False)) id;have S0:=s0(I:=I17);generalize ae w o 0=o1 at *;obtain⟨⟨c0,c1,c2,c3⟩,-⟩:=ai C1;have HG:=Lib.hid hg;clear s0 hg h X S hdl hd;have HL:=bW 20 0 0 w1 o1 rb lv ls s(by omega)(by omega)(by omega)(by omega) X1 E1;have hbr:=X1.bar 22(by omega);simp only[List.getD_cons_succ,List.getD_cons_zero] at hbr;clear hv;go_enter Tryz.func97,Tryz.ntmps97;go_upto_region 1 with fail;rw[<-hw1,<-HG.out];clear hw1;go_wp2_with(first|(go_at_call 47;refine HL.mono ?_;rintro e w2⟨rfl,o2,E2,S2⟩))
  go_end0
  exact⟨rfl,⟨o2,E2,S0.trans S2⟩,(bE s _ _ _).le(by omega)⟩
 by_cases h23:k=23
 ·subst h23;have hv:opr 23 n nm(kdF ks) s=(s.kn nm).lay 21(s.ns.idxOf nm) 0:=by simp[opr]
  rw[hv];obtain⟨w1,hw1⟩:∃w1,w1=w.alloc(.cells #[.int .i64 23,.int .i64 n,stv nm,.slice ao ks.len cap] 34):=⟨_,rfl⟩
  obtain⟨g,hg⟩:∃g,g=w.heap.size:=⟨_,rfl⟩
  have s0:∀ {I:Nat->Prop},aa I w o w1(ae w o 0):=fun {I}=>by rw[hw1];exact aO I w o _
  have C1:w1.heap[g]?=some(.cells #[.int .i64 23,.int .i64 n,stv nm,.slice ao ks.len cap] 34):=by rw[hw1,hg];exact heap_alloc_new _ _
  have C1o:ae w o 0 g=0:=by rw[hg];exact ax(Nat.le_refl _)
  have E1:=h.step(s0(I:=fun _=>False)) noF;have X1:=X.step(s0(I:=fun _=>False)) id;have S1:=S.stepO(s0(I:=fun _=>False)) id;have S0:=s0(I:=I17);generalize ae w o 0=o1 at *;obtain⟨⟨c0,c1,c2,c3⟩,-⟩:=ai C1;have HG:=Lib.hid hg;clear s0 hg h X S hdl hd;have HN:=yM nm w1 o1 rb lv ls s hnm(by omega) X1 E1;have hi:s.ns.idxOf nm<=268435455:=by
   have:=List.idxOf_le_length(a:=nm)(l:=s.ns)
   unfold Em.mes at hm;omega
  have gk:=Ey s nm;clear hv;go_enter Tryz.func97,Tryz.ntmps97;go_upto_region 1 with fail;rw[<-hw1,<-HG.out];clear hw1;go_wp2_with fail;refine HN.mono ?_;rintro e w1b⟨rfl,o1b,E1b,S1b⟩;have HL:=bW 21(s.ns.idxOf nm) 0 w1b o1b rb lv ls(s.kn nm)(by omega) hi(by omega)(by have:=gk.mes;omega)(X1.step S1b(by decide)) E1b;clear HN;go_wp2_with(first|(go_at_call 47;refine HL.mono ?_;rintro e w2⟨rfl,o2,E2,S2⟩))
  go_end0
  exact⟨rfl,⟨o2,E2,(S0.trans S1b).trans S2⟩,(gk.trans(bE _ _ _ _)).le(by omega)⟩
 by_cases h24:k=24
 ·subst h24;have hv:opr 24 n nm(kdF ks) s=s.lay 22 0 0:=by simp[opr,fy]
  rw[hv];obtain⟨w1,hw1⟩:∃w1,w1=w.alloc(.cells #[.int .i64 24,.int .i64 n,stv nm,.slice ao ks.len cap] 34):=⟨_,rfl⟩
  obtain⟨g,hg⟩:∃g,g=w.heap.size:=⟨_,rfl⟩
  have s0:∀ {I:Nat->Prop},aa I w o w1(ae w o 0):=fun {I}=>by rw[hw1];exact aO I w o _
  have C1:w1.heap[g]?=some(.cells #[.int .i64 24,.int .i64 n,stv nm,.slice ao ks.len cap] 34):=by rw[hw1,hg];exact heap_alloc_new _ _
  have C1o:ae w o 0 g=0:=by rw[hg];exact ax(Nat.le_refl _)
  have E1:=h.step(s0(I:=fun _=>False)) noF;have X1:=X.step(s0(I:=fun _=>False)) id;have S1:=S.stepO(s0(I:=fun _=>False)) id;have S0:=s0(I:=I17);generalize ae w o 0=o1 at *;obtain⟨⟨c0,c1,c2,c3⟩,-⟩:=ai C1;have HG:=Lib.hid hg;clear s0 hg h X S hdl hd;have HL:=bW 22 0 0 w1 o1 rb lv ls s(by omega)(by omega)(by omega)(by omega) X1 E1;have hbr:=X1.bar 24(by omega);simp only[List.getD_cons_succ,List.getD_cons_zero] at hbr;clear hv;go_enter Tryz.func97,Tryz.ntmps97;go_upto_region 1 with fail;rw[<-hw1,<-HG.out];clear hw1;go_wp2_with(first|(go_at_call 47;refine HL.mono ?_;rintro e w2⟨rfl,o2,E2,S2⟩))
  go_end0
  exact⟨rfl,⟨o2,E2,S0.trans S2⟩,(bE s _ _ _).le(by omega)⟩
 by_cases h25:k=25
 ·subst h25;have hv:opr 25 n nm(kdF ks) s=s.lay 23 ks.len 0:=by simp[opr,n8]
  rw[hv];obtain⟨w1,hw1⟩:∃w1,w1=w.alloc(.cells #[.int .i64 25,.int .i64 n,stv nm,.slice ao ks.len cap] 34):=⟨_,rfl⟩
  obtain⟨g,hg⟩:∃g,g=w.heap.size:=⟨_,rfl⟩
  have s0:∀ {I:Nat->Prop},aa I w o w1(ae w o 0):=fun {I}=>by rw[hw1];exact aO I w o _
  have C1:w1.heap[g]?=some(.cells #[.int .i64 25,.int .i64 n,stv nm,.slice ao ks.len cap] 34):=by rw[hw1,hg];exact heap_alloc_new _ _
  have C1o:ae w o 0 g=0:=by rw[hg];exact ax(Nat.le_refl _)
  have E1:=h.step(s0(I:=fun _=>False)) noF;have X1:=X.step(s0(I:=fun _=>False)) id;have S1:=S.stepO(s0(I:=fun _=>False)) id;have S0:=s0(I:=I17);generalize ae w o 0=o1 at *;obtain⟨⟨c0,c1,c2,c3⟩,-⟩:=ai C1;have HG:=Lib.hid hg;clear s0 hg h X S hdl hd;have HL:=bW 23 ks.len 0 w1 o1 rb lv ls s(by omega)(by omega)(by omega)(by omega) X1 E1;clear hv;go_enter Tryz.func97,Tryz.ntmps97;go_upto_region 1 with fail;rw[<-hw1,<-HG.out];clear hw1;go_wp2_with(first|(go_at_call 47;refine HL.mono ?_;rintro e w2⟨rfl,o2,E2,S2⟩))
  go_end0
  exact⟨rfl,⟨o2,E2,S0.trans S2⟩,(bE s _ _ _).le(by omega)⟩
 exfalso;rcases hk with h|h|h|h|h|h|h|h|h|h|h|h|h|h|h|h<;>contradiction
theorem dI {I:Nat->Prop}{w w':World}(o:Nat->Nat)(b:Below w.heap.size w w'):aa I w o w' (ae w o 0):=⟨b.os,b.tape,b.output,b.size,fun k hk=>aC hk,fun k hk _=>b.block k hk⟩
theorem al2 (w:World)(a b:Obj):((w.alloc a).alloc b).heap[w.heap.size]?=some a/\((w.alloc a).alloc b).heap[w.heap.size+1]?=some b/\((w.alloc a).alloc b).heap.size=w.heap.size+2/\Below w.heap.size w ((w.alloc a).alloc b):=by
 refine⟨(heap_alloc_old _ _(by simp)).trans(heap_alloc_new _ _),?_,by simp,((Below.refl _ w).alloc(Nat.le_refl _) _).alloc(by simp) _⟩
 have:=heap_alloc_new(w.alloc a) b
 rw[World.size_alloc] at this;exact this
theorem al3 (w:World)(a b c:Obj):(((w.alloc a).alloc b).alloc c).heap[w.heap.size]?=some a/\(((w.alloc a).alloc b).alloc c).heap[w.heap.size+1]?=some b/\(((w.alloc a).alloc b).alloc c).heap[w.heap.size+2]?=some c/\(((w.alloc a).alloc b).alloc c).heap.size=w.heap.size+3/\Below w.heap.size w (((w.alloc a).alloc b).alloc c):=by
 obtain⟨h1,h2,h3,h4⟩:=al2 w a b;refine⟨(heap_alloc_old _ _(by omega)).trans h1,(heap_alloc_old _ _(by omega)).trans h2,?_,by simp,h4.alloc(by omega) _⟩
 have:=heap_alloc_new((w.alloc a).alloc b) c
 rw[h3] at this;exact this
theorem al4 (w:World)(a b c d:Obj):((((w.alloc a).alloc b).alloc c).alloc d).heap[w.heap.size]?=some a/\((((w.alloc a).alloc b).alloc c).alloc d).heap[w.heap.size+1]?=some b/\((((w.alloc a).alloc b).alloc c).alloc d).heap[w.heap.size+2]?=some c/\((((w.alloc a).alloc b).alloc c).alloc d).heap[w.heap.size+3]?=some d/\((((w.alloc a).alloc b).alloc c).alloc d).heap.size=w.heap.size+4/\Below w.heap.size w ((((w.alloc a).alloc b).alloc c).alloc d):=by
 obtain⟨h1,h2,h3,h4,h5⟩:=al3 w a b c;refine⟨(heap_alloc_old _ _(by omega)).trans h1,(heap_alloc_old _ _(by omega)).trans h2,(heap_alloc_old _ _(by omega)).trans h3,?_,by simp,h5.alloc(by omega) _⟩
 have:=heap_alloc_new(((w.alloc a).alloc b).alloc c) d
 rw[h4] at this;exact this
theorem al5 (w:World)(a b c d e:Obj):(((((w.alloc a).alloc b).alloc c).alloc d).alloc e).heap[w.heap.size]?=some a/\(((((w.alloc a).alloc b).alloc c).alloc d).alloc e).heap[w.heap.size+1]?=some b/\(((((w.alloc a).alloc b).alloc c).alloc d).alloc e).heap[w.heap.size+2]?=some c/\(((((w.alloc a).alloc b).alloc c).alloc d).alloc e).heap[w.heap.size+3]?=some d/\(((((w.alloc a).alloc b).alloc c).alloc d).alloc e).heap[w.heap.size+4]?=some e/\(((((w.alloc a).alloc b).alloc c).alloc d).alloc e).heap.size=w.heap.size+5/\Below w.heap.size w (((((w.alloc a).alloc b).alloc c).alloc d).alloc e):=by
 obtain⟨h1,h2,h3,h4,h5,h6⟩:=al4 w a b c d;refine⟨(heap_alloc_old _ _(by omega)).trans h1,(heap_alloc_old _ _(by omega)).trans h2,(heap_alloc_old _ _(by omega)).trans h3,(heap_alloc_old _ _(by omega)).trans h4,?_,by simp,h6.alloc(by omega) _⟩
 have:=heap_alloc_new((((w.alloc a).alloc b).alloc c).alloc d) e
 rw[h5] at this;exact this
abbrev pt0 (b:Nat):Value:=.pointer (some ⟨b,0,none⟩)
theorem aA:¬I17 0:=by decide
def fq (nc N:Nat):Prop:=∀ (e:Ex) (ao:Option Addr) (cap ar u:Nat) (w:World) (o:Nat->Nat) (rb:Nat) (lv:Value) (ls:List Int) (s:Em),e.kids.size<N->okE nc e->ls.length=nc->nc<=256->SnO w o e.kids ao->s.ks.length=ls.length ->
 s.mes+300*(e.kids.size+1)<=100000000->u+3*(e.kids.size+1)<=1000000000->ar+(e.kids.size+1)<=1000000000->s.dp<=1000000001->EmX w o lv ls->EmW w o rb lv s ->
 Calls Tryz.prog 46 #[pt0 rb,exN e ao cap,spV ar u] w(ms w o rb lv s(emE ls e ar u s)(300*(e.kids.size+1)))
structure Cx (rb gw gn ga:Nat)(k n:Int)(nm:List UInt8)(f:Fs)(ao:Option Addr)(cap ar u:Nat)(w:World)(o:Nat->Nat):Prop where
 bw:Blk w o 0 gw(.cells #[pt0 rb] 87)
 bn:Blk w o 0 gn(.cells #[.int .i64 k,.int .i64 n,stv nm,.slice ao f.len cap] 34)
 ba:Blk w o 0 ga(.cells #[.int .i64(ar:Nat),.int .i64(u:Nat)] 91)
 sn:SnO w o f ao
theorem Cx.step {I:Nat->Prop}{rb gw gn ga:Nat}{k n:Int}{nm:List UInt8}{f:Fs}{ao:Option Addr}{cap ar u:Nat}{w w':World}{o o':Nat->Nat}(h:Cx rb gw gn ga k n nm f ao cap ar u w o)(x:aa I w o w' o')(hi:¬I 0):Cx rb gw gn ga k n nm f ao cap ar u w' o' :=
 ⟨h.bw.step x hi,h.bn.step x hi,h.ba.step x hi,h.sn.stepO x hi⟩
theorem Cx.keeps (rb gw gn ga:Nat)(k n:Int)(nm:List UInt8)(f:Fs)(ao:Option Addr)(cap ar u:Nat):mo (Cx rb gw gn ga k n nm f ao cap ar u):=fun h x=>h.step x aA
theorem bD {w:World}{b:Nat}{x:Value}{t:TypeId}(h:w.heap[b]?=some (.cells #[x] t)):w.cell? ⟨b,0,none⟩=some x:=by simp[World.cell?,h]
abbrev Nd4 (w:World)(b j:Nat)(y:Ex)(ak:Option Addr)(ck:Nat):Prop:=w.cell? ⟨b,j,none⟩=some (.int .i64 y.k)/\w.cell? ⟨b,j+1,none⟩=some (.int .i64 y.n)/\w.cell? ⟨b,j+2,none⟩=some (stv y.nm)/\w.cell? ⟨b,j+3,none⟩=some (.slice ak y.kids.len ck)
theorem Nd4.block {w w':World}{b j:Nat}{y:Ex}{ak:Option Addr}{ck:Nat}(h:Nd4 w b j y ak ck)(e:w'.heap[b]?=w.heap[b]?):Nd4 w' b j y ak ck :=
 ⟨(World.cell?_of_block(a:=⟨b,j,none⟩) e).trans h.1,(World.cell?_of_block(a:=⟨b,j+1,none⟩) e).trans h.2.1,(World.cell?_of_block(a:=⟨b,j+2,none⟩) e).trans h.2.2.1,(World.cell?_of_block(a:=⟨b,j+3,none⟩) e).trans h.2.2.2⟩
theorem dX {w:World}{o:Nat->Nat}{x r:Fs}{y:Ex}{ao:Option Addr}(h:SnO w o (x.app (Fs.ex y r)) ao)(i:Nat)(hi:x.len=i):∃b off ak ck,ao=some ⟨b,off,none⟩/\Nd4 w b (off+i*4) y ak ck/\SnO w o y.kids ak/\∀ {I:Nat->Prop}{w':World}{o':Nat->Nat},aa I w o w' o'->¬I 0->Nd4 w' b (off+i*4) y ak ck:=by
 subst hi;obtain⟨b,off,ak,ck,rfl,hlt,hp,x0,x1,x2,x3,S⟩:=SlN.kidQ h;have N:Nd4 w b(off+x.len*4) y ak ck:=⟨x0,x1,x2,x3⟩
 exact⟨b,off,ak,ck,rfl,N,S,fun x hi=>N.block(x.block b hlt(by rw[hp];exact hi))⟩
theorem yj (nc N:Nat)(HP:fq nc N)(rb gw gn ga:Nat)(k n:Int)(nm:List UInt8)(x y z:Ex)(ao:Option Addr)(cap ar u:Nat)(lv:Value)(ls:List Int)(hok:okF nc (Fs.ex x (Fs.ex y (Fs.ex z .nil))))(hN:y.kids.size<N)(hls:ls.length=nc)(hnc:nc<=256)(hu:u+3*(y.kids.size+1)<=1000000000)(har:ar+(y.kids.size+1)<=1000000000) :
  kK rb lv ls(Cx rb gw gn ga k n nm(Fs.ex x(Fs.ex y(Fs.ex z .nil))) ao cap ar u) 92 #[pt0 gw,pt0 gn,pt0 ga](emE ls y ar u)(300*(y.kids.size+1)):=by
 intro w o s X E K hm hd hks;obtain⟨bw,bn,ba,sn⟩:=K;have d1:aa(fun _=>False) w o w.drew o:=(aa.refl _ w o).drew;obtain⟨b,off,ak,ck,rfl,NN,Sy,NK⟩:=dX(x:=one x) sn 1 rfl;have hlen:(Fs.ex x(Fs.ex y(Fs.ex z .nil))).len=3:=rfl;rw[hlen] at bn;have cw:=bD bw.1;obtain⟨⟨n0,n1,n2,n3⟩,-⟩:=ai bn.1;obtain⟨a0,a1⟩:=aE ba.1;have HC:=HP y ak ck ar u w.drew o rb lv ls s hN(aK(aK hok).2).1 hls hnc(Sy.stepO d1 id) hks hm hu har hd(X.step d1 id)(E.step d1 noF);rw[ah] at HC;have SD:aa I17 w o w.drew o:=(aa.refl _ w o).drew;have KK:Hid(∀ w' o',aa I17 w.drew o w' o'->w'.cell?⟨gw,0,none⟩=some(pt0 rb)/\w'.cell?⟨gn,3,none⟩=some(.slice(some⟨b,off,none⟩) 3 cap)/\Nd4 w' b(off+4) y ak ck/\w'.cell?⟨ga,0,none⟩=some(.int .i64(ar:Nat))/\w'.cell?⟨ga,1,none⟩=some(.int .i64(u:Nat))):=fun w' o' S=>by
  have S':=SD.trans S;exact⟨bD(bw.step S' aA).1,(ai(bn.step S' aA).1).1.2.2.2,NK S' aA,(aE(ba.step S' aA).1).1,(aE(ba.step S' aA).1).2⟩
 obtain⟨cw',n3',NN',a0',a1'⟩:=KK.out _ _(aa.refl I17 w.drew o);obtain⟨x0,x1,x2,x3⟩:=NN;obtain⟨y0,y1,y2,y3⟩:=NN';clear bw bn ba sn Sy hlen d1 NK;go_enter Tryz.func92,Tryz.ntmps92;go_wp2_with fail;go_region_held3(fun wx=>wx.cell?⟨gw,0,none⟩=some(pt0 rb)/\wx.cell?⟨gn,3,none⟩=some(.slice(some⟨b,off,none⟩) 3 cap)/\(wx.cell?⟨b,off+4,none⟩=some(.int .i64 y.k)/\wx.cell?⟨b,off+4+1,none⟩=some(.int .i64 y.n)/\wx.cell?⟨b,off+4+2,none⟩=some(stv y.nm)/\wx.cell?⟨b,off+4+3,none⟩=some(.slice ak y.kids.len ck))/\wx.cell?⟨ga,0,none⟩=some(.int .i64(ar:Nat))/\wx.cell?⟨ga,1,none⟩=some(.int .i64(u:Nat)))(go_keep)(first|(go_at_call 46;refine HC.mono ?_;rintro e w2⟨rfl,⟨o2,E2,S2⟩,g2⟩;obtain⟨cw',n3',⟨y0,y1,y2,y3⟩,a0',a1'⟩:=KK.out _ _ S2))
 all_goals
  go_end0
  exact⟨rfl,⟨o2,E2,SD.trans S2⟩,g2⟩
theorem yo (nc N:Nat)(HP:fq nc N)(rb gw gn ga:Nat)(k n:Int)(nm:List UInt8)(x y z:Ex)(ao:Option Addr)(cap ar u:Nat)(lv:Value)(ls:List Int)(hok:okF nc (Fs.ex x (Fs.ex y (Fs.ex z .nil))))(hN:z.kids.size<N)(hls:ls.length=nc)(hnc:nc<=256)(hu:u+3*(z.kids.size+1)<=1000000000)(har:ar+(z.kids.size+1)<=1000000000) :
  kK rb lv ls(Cx rb gw gn ga k n nm(Fs.ex x(Fs.ex y(Fs.ex z .nil))) ao cap ar u) 93 #[pt0 gw,pt0 gn,pt0 ga](emE ls z ar u)(300*(z.kids.size+1)):=by
 intro w o s X E K hm hd hks;obtain⟨bw,bn,ba,sn⟩:=K;have d1:aa(fun _=>False) w o w.drew o:=(aa.refl _ w o).drew;obtain⟨b,off,ak,ck,rfl,NN,Sy,NK⟩:=dX(x:=Fs.ex x(one y)) sn 2 rfl;have hlen:(Fs.ex x(Fs.ex y(Fs.ex z .nil))).len=3:=rfl;rw[hlen] at bn;have cw:=bD bw.1;obtain⟨⟨n0,n1,n2,n3⟩,-⟩:=ai bn.1;obtain⟨a0,a1⟩:=aE ba.1;have HC:=HP z ak ck ar u w.drew o rb lv ls s hN(aK(aK(aK hok).2).2).1 hls hnc(Sy.stepO d1 id) hks hm hu har hd(X.step d1 id)(E.step d1 noF);rw[ah] at HC;have SD:aa I17 w o w.drew o:=(aa.refl _ w o).drew;have KK:Hid(∀ w' o',aa I17 w.drew o w' o'->w'.cell?⟨gw,0,none⟩=some(pt0 rb)/\w'.cell?⟨gn,3,none⟩=some(.slice(some⟨b,off,none⟩) 3 cap)/\Nd4 w' b(off+8) z ak ck/\w'.cell?⟨ga,0,none⟩=some(.int .i64(ar:Nat))/\w'.cell?⟨ga,1,none⟩=some(.int .i64(u:Nat))):=fun w' o' S=>by
  have S':=SD.trans S;exact⟨bD(bw.step S' aA).1,(ai(bn.step S' aA).1).1.2.2.2,NK S' aA,(aE(ba.step S' aA).1).1,(aE(ba.step S' aA).1).2⟩
 obtain⟨cw',n3',NN',a0',a1'⟩:=KK.out _ _(aa.refl I17 w.drew o);obtain⟨x0,x1,x2,x3⟩:=NN;obtain⟨y0,y1,y2,y3⟩:=NN';clear bw bn ba sn Sy hlen d1 NK;go_enter Tryz.func93,Tryz.ntmps93;go_wp2_with fail;go_region_held3(fun wx=>wx.cell?⟨gw,0,none⟩=some(pt0 rb)/\wx.cell?⟨gn,3,none⟩=some(.slice(some⟨b,off,none⟩) 3 cap)/\(wx.cell?⟨b,off+8,none⟩=some(.int .i64 z.k)/\wx.cell?⟨b,off+8+1,none⟩=some(.int .i64 z.n)/\wx.cell?⟨b,off+8+2,none⟩=some(stv z.nm)/\wx.cell?⟨b,off+8+3,none⟩=some(.slice ak z.kids.len ck))/\wx.cell?⟨ga,0,none⟩=some(.int .i64(ar:Nat))/\wx.cell?⟨ga,1,none⟩=some(.int .i64(u:Nat)))(go_keep)(first|(go_at_call 46;refine HC.mono ?_;rintro e w2⟨rfl,⟨o2,E2,S2⟩,g2⟩;obtain⟨cw',n3',⟨y0,y1,y2,y3⟩,a0',a1'⟩:=KK.out _ _ S2))
 all_goals
  go_end0
  exact⟨rfl,⟨o2,E2,SD.trans S2⟩,g2⟩
theorem zc (nc N:Nat)(HP:fq nc N)(rb gw gn ga:Nat)(k n:Int)(nm:List UInt8)(x y:Ex)(ao:Option Addr)(cap ar u:Nat)(lv:Value)(ls:List Int)(hok:okF nc (Fs.ex x (Fs.ex y .nil)))(hN:y.kids.size<N)(hls:ls.length=nc)(hnc:nc<=256)(hu:u+3*(y.kids.size+1)<=1000000000)(har:ar+(y.kids.size+1)<=1000000000) :
  kK rb lv ls(Cx rb gw gn ga k n nm(Fs.ex x(Fs.ex y .nil)) ao cap ar u) 148 #[pt0 gw,pt0 gn,pt0 ga](emE ls y ar u)(300*(y.kids.size+1)):=by
 intro w o s X E K hm hd hks;obtain⟨bw,bn,ba,sn⟩:=K;have d1:aa(fun _=>False) w o w.drew o:=(aa.refl _ w o).drew;obtain⟨b,off,ak,ck,rfl,NN,Sy,NK⟩:=dX(x:=one x) sn 1 rfl;have hlen:(Fs.ex x(Fs.ex y .nil)).len=2:=rfl;rw[hlen] at bn;have cw:=bD bw.1;obtain⟨⟨n0,n1,n2,n3⟩,-⟩:=ai bn.1;obtain⟨a0,a1⟩:=aE ba.1;have HC:=HP y ak ck ar u w.drew o rb lv ls s hN(aK(aK hok).2).1 hls hnc(Sy.stepO d1 id) hks hm hu har hd(X.step d1 id)(E.step d1 noF);rw[ah] at HC;have SD:aa I17 w o w.drew o:=(aa.refl _ w o).drew;have KK:Hid(∀ w' o',aa I17 w.drew o w' o'->w'.cell?⟨gw,0,none⟩=some(pt0 rb)/\w'.cell?⟨gn,3,none⟩=some(.slice(some⟨b,off,none⟩) 2 cap)/\Nd4 w' b(off+4) y ak ck/\w'.cell?⟨ga,0,none⟩=some(.int .i64(ar:Nat))/\w'.cell?⟨ga,1,none⟩=some(.int .i64(u:Nat))):=fun w' o' S=>by
  have S':=SD.trans S;exact⟨bD(bw.step S' aA).1,(ai(bn.step S' aA).1).1.2.2.2,NK S' aA,(aE(ba.step S' aA).1).1,(aE(ba.step S' aA).1).2⟩
 obtain⟨cw',n3',NN',a0',a1'⟩:=KK.out _ _(aa.refl I17 w.drew o);obtain⟨x0,x1,x2,x3⟩:=NN;obtain⟨y0,y1,y2,y3⟩:=NN';clear bw bn ba sn Sy hlen d1 NK;go_enter Tryz.func148,Tryz.ntmps148;go_wp2_with fail;go_region_held3(fun wx=>wx.cell?⟨gw,0,none⟩=some(pt0 rb)/\wx.cell?⟨gn,3,none⟩=some(.slice(some⟨b,off,none⟩) 2 cap)/\(wx.cell?⟨b,off+4,none⟩=some(.int .i64 y.k)/\wx.cell?⟨b,off+4+1,none⟩=some(.int .i64 y.n)/\wx.cell?⟨b,off+4+2,none⟩=some(stv y.nm)/\wx.cell?⟨b,off+4+3,none⟩=some(.slice ak y.kids.len ck))/\wx.cell?⟨ga,0,none⟩=some(.int .i64(ar:Nat))/\wx.cell?⟨ga,1,none⟩=some(.int .i64(u:Nat)))(go_keep)(first|(go_at_call 46;refine HC.mono ?_;rintro e w2⟨rfl,⟨o2,E2,S2⟩,g2⟩;obtain⟨cw',n3',⟨y0,y1,y2,y3⟩,a0',a1'⟩:=KK.out _ _ S2))
 all_goals
  go_end0
  exact⟨rfl,⟨o2,E2,SD.trans S2⟩,g2⟩
theorem kK.mono {rb:Nat}{lv:Value}{ls:List Int}{K K':World->(Nat->Nat)->Prop}{F:FuncId}{c:Array Value}{t:Em->Em}{n:Nat}(h:kK rb lv ls K F c t n)(hk:∀ w o,K' w o->K w o):kK rb lv ls K' F c t n:=fun w o s X E k=>h w o s X E (hk w o k)
theorem Bp (rb gw gs ga ar u v:Nat)(lv:Value)(ls:List Int)(hv:v<=1)(hu:u<=1000000000) :
  kK rb lv ls(fun w o=>Blk w o 0 gw(.cells #[pt0 rb] 87)/\Blk w o 0 gs(.cells #[.int .i64(v:Nat)] 3)/\Blk w o 0 ga(.cells #[.int .i64(ar:Nat),.int .i64(u:Nat)] 91)) 149 #[pt0 gw,pt0 gs,pt0 ga](fun t=>t.con(v:Nat) 2 u) 2:=by
 intro w o s X E⟨bw,bs,ba⟩ hm hd hks;have cw:=bD bw.1;have cs:=bD bs.1;obtain⟨a0,a1⟩:=aE ba.1;have HC:=bY(v:Nat) 2 ar u w o rb lv ls s(by omega)(by omega) hu hd(by omega) X E;clear bw bs ba;go_enter Tryz.func149,Tryz.ntmps149;go_wp2_with(first|(go_at_call 86;refine HC.mono ?_;rintro e w2⟨rfl,o2,E2,S2⟩))
 go_end0
 exact⟨rfl,⟨o2,E2,S2⟩,eF s _ _ _ hu⟩
theorem ya:Ent 148:=fun _ _=>by kernel_rfl
theorem wM:Ent 149:=fun _ _=>by kernel_rfl
def CxI (rb gw gn gs ga:Nat)(k n:Int)(nm:List UInt8)(f:Fs)(ao:Option Addr)(cap ar u v:Nat)(w:World)(o:Nat->Nat):Prop:=Cx rb gw gn ga k n nm f ao cap ar u w o/\Blk w o 0 gs (.cells #[.int .i64 (v:Nat)] 3)
theorem CxI.keeps (rb gw gn gs ga:Nat)(k n:Int)(nm:List UInt8)(f:Fs)(ao:Option Addr)(cap ar u v:Nat):mo (CxI rb gw gn gs ga k n nm f ao cap ar u v):=fun h x=>⟨h.1.step x aA,h.2.step x aA⟩
theorem xj (nc N:Nat)(HP:fq nc N)(k n:Int)(nm:List UInt8)(a:Int)(x y:Ex)(ao:Option Addr)(cap op v ar u:Nat)(w:World)(o:Nat->Nat)(rb:Nat)(lv:Value)(ls:List Int)(s:Em)(hop:op<=255)(hv:v<=1)(hok:okF nc (Fs.ex x (Fs.ex y .nil)))(hN1:x.kids.size<N)(hN2:y.kids.size<N)(hls:ls.length=nc)(hnc:nc<=256)(hu:u+3*(x.kids.size+y.kids.size+2)<=1000000000)(har:ar+(x.kids.size+y.kids.size+2)<=1000000000)(S:SnO w o (Fs.ex x (Fs.ex y .nil)) ao)(hks:s.ks.length=ls.length)
  (hm:s.mes+(300*(x.kids.size+1)+(300*(y.kids.size+1)+4))<=100000000)(hd:s.dp<=1000000001)(X:EmX w o lv ls)(h:EmW w o rb lv s) :
  Calls Tryz.prog 90 #[pt0 rb,exN⟨k,n,nm,a,Fs.ex x(Fs.ex y .nil)⟩ ao cap,.int .i64(op:Nat),.int .i64(v:Nat),spV ar u] w(ms w o rb lv s((emE ls x ar u s).fork op(emE ls y ar u)(fun t=>t.con(v:Nat) 2 u))(300*(x.kids.size+1)+(300*(y.kids.size+1)+4))):=by
 have hmf:∀ (fn:Fn)(first cap:Array Value)(w:World),(Instr.makeFunc fn first cap).run Tryz.prog w=.ok(.func fn first cap) w:=fun _ _ _ _=>rfl;have hlen:(Fs.ex x(Fs.ex y .nil)).len=2:=rfl;rw[ah];simp only;obtain⟨g,hg⟩:∃g,g=w.heap.size:=⟨_,rfl⟩
 obtain⟨w1,hw1⟩:∃w1,w1=(((w.alloc(.cells #[pt0 rb] 87)).alloc(.cells #[.int .i64 k,.int .i64 n,stv nm,.slice ao(Fs.ex x(Fs.ex y .nil)).len cap] 34)).alloc(.cells #[.int .i64(v:Nat)] 3)).alloc(.cells #[.int .i64(ar:Nat),.int .i64(u:Nat)] 91):=⟨_,rfl⟩
 obtain⟨z1,z2,z3,z4,z5,z6⟩:=al4 w(.cells #[pt0 rb] 87)(.cells #[.int .i64 k,.int .i64 n,stv nm,.slice ao(Fs.ex x(Fs.ex y .nil)).len cap] 34)(.cells #[.int .i64(v:Nat)] 3)(.cells #[.int .i64(ar:Nat),.int .i64(u:Nat)] 91);rw[<-hw1,<-hg] at z1 z2 z3 z4 z5 z6;have s0:∀ {I:Nat->Prop},aa I w o w1(ae w o 0):=fun {I}=>dI o(by rw[<-hg];exact z6);have hnl:∀ j,ae w o 0(g+j)=0:=fun j=>ax(by omega);have K1:CxI rb g(g+1)(g+2)(g+3) k n nm(Fs.ex x(Fs.ex y .nil)) ao cap ar u v w1(ae w o 0):=⟨⟨⟨z1,hnl 0⟩,⟨z2,hnl 1⟩,⟨z4,hnl 3⟩,S.stepO(s0(I:=fun _=>False)) id⟩,⟨z3,hnl 2⟩⟩
 have E1:=h.step(s0(I:=fun _=>False)) noF;have X1:=X.step(s0(I:=fun _=>False)) id;have S0:=s0(I:=I17);generalize ae w o 0=o1 at *;have HG:=Lib.hid hg;clear s0 hnl z1 z2 z3 z4 z5 z6 h X S hg;have d1:aa(fun _=>False) w1 o1 w1.drew o1:=(aa.refl _ w1 o1).drew;have SD:aa I17 w1 o1 w1.drew o1:=(aa.refl _ w1 o1).drew;have KD:=K1.1.step d1 id;obtain⟨b,off,ak,ck,rfl,NN,Sy,NK⟩:=dX(x:=.nil) K1.1.sn 0 rfl;have HC:=HP x ak ck ar u w1.drew o1 rb lv ls s hN1(aK hok).1 hls hnc(Sy.stepO d1 id) hks(by omega)(by omega)(by omega) hd(X1.step d1 id)(E1.step d1 noF);rw[ah] at HC;rw[hlen] at hw1 ⊢;have KK:Hid(∀ w' o',aa I17 w1.drew o1 w' o'->w'.cell?⟨g,0,none⟩=some(pt0 rb)/\w'.cell?⟨g+1,3,none⟩=some(.slice(some⟨b,off,none⟩) 2 cap)/\Nd4 w' b off x ak ck/\w'.cell?⟨g+3,0,none⟩=some(.int .i64(ar:Nat))/\w'.cell?⟨g+3,1,none⟩=some(.int .i64(u:Nat))):=fun w' o' S=>by
  have S':=SD.trans S;have K2:=K1.1.step S' aA;exact⟨bD K2.bw.1,(ai K2.bn.1).1.2.2.2,NK S' aA,(aE K2.ba.1).1,(aE K2.ba.1).2⟩
 obtain⟨cw',n3',NN',a0',a1'⟩:=KK.out _ _(aa.refl I17 w1.drew o1);have cw:=bD K1.1.bw.1;have n3:=(ai K1.1.bn.1).1.2.2.2;rw[hlen] at n3;obtain⟨a0,a1⟩:=aE K1.1.ba.1;obtain⟨x0,x1,x2,x3⟩:=NN;obtain⟨y0,y1,y2,y3⟩:=NN';have FK:∀ w2 o2 s2,CxI rb g(g+1)(g+2)(g+3) k n nm(Fs.ex x(Fs.ex y .nil))(some⟨b,off,none⟩) cap ar u v w2 o2->EmX w2 o2 lv ls->EmW w2 o2 rb lv s2->s2.mes+(300*(y.kids.size+1)+2+2)<=100000000->s2.dp<=1000000001->s2.ks.length=ls.length->_:=fun w2 o2 s2 K2 X2 E2 hm2 hd2 hk2 =>
  rD op 148 149 #[pt0 g,pt0(g+1),pt0(g+3)] #[pt0 g,pt0(g+2),pt0(g+3)](emE ls y ar u)(fun t=>t.con(v:Nat) 2 u)(300*(y.kids.size+1)) 2 _(CxI.keeps _ _ _ _ _ _ _ _ _ _ _ _ _ _) ya wM w2 o2 rb lv ls((zc nc N HP rb g(g+1)(g+3) k n nm x y(some⟨b,off,none⟩) cap ar u lv ls hok hN2 hls hnc(by omega)(by omega)).mono(fun _ _ h=>h.1))((Bp rb g(g+2)(g+3) ar u v lv ls hv(by omega)).mono(fun _ _ h=>⟨h.1.bw,h.2,h.1.ba⟩)) s2 hop hm2 hd2 hk2 X2 E2 K2
 clear hlen d1 NK Sy KD E1 hok hN1 hN2;go_enter Tryz.func90,Tryz.ntmps90;go_upto_region 1 with fail;rw[<-hw1,<-HG.out];clear hw1;go_region_held3(fun wx=>wx.cell?⟨g,0,none⟩=some(pt0 rb)/\wx.cell?⟨g+1,3,none⟩=some(.slice(some⟨b,off,none⟩) 2 cap)/\(wx.cell?⟨b,off,none⟩=some(.int .i64 x.k)/\wx.cell?⟨b,off+1,none⟩=some(.int .i64 x.n)/\wx.cell?⟨b,off+2,none⟩=some(stv x.nm)/\wx.cell?⟨b,off+3,none⟩=some(.slice ak x.kids.len ck))/\wx.cell?⟨g+3,0,none⟩=some(.int .i64(ar:Nat))/\wx.cell?⟨g+3,1,none⟩=some(.int .i64(u:Nat)))(go_keep)(first|(go_at_call 46;refine HC.mono ?_;rintro e w2⟨rfl,⟨o2,E2,S2⟩,g2⟩;obtain⟨cw',n3',⟨y0,y1,y2,y3⟩,a0',a1'⟩:=KK.out _ _ S2))
 all_goals
  have S3:=SD.trans S2;have HF:=FK w2 o2 _⟨K1.1.step S3 aA,K1.2.step S3 aA⟩(X1.step S3 aA) E2(by have:=g2.mes;omega)(g2.dp hd)(g2.ks.trans hks);clear FK HC KK K1;go_wp2_with(first|(go_at_call 91;refine HF.mono ?_;rintro e w4⟨rfl,⟨o4,E4,S4⟩,g4⟩))
  go_end0
  exact⟨rfl,⟨o4,E4,(S0.trans S3).trans S4⟩,(g2.trans g4).le(by omega)⟩
theorem Cz (nc N:Nat)(HP:fq nc N)(n:Int)(nm:List UInt8)(a:Int)(x:Ex)(ao:Option Addr)(cap ar u:Nat)(w:World)(o:Nat->Nat)(rb:Nat)(lv:Value)(ls:List Int)(s:Em)(hoe:okE nc ⟨26,n,nm,a,Fs.ex x .nil⟩)(hN1:x.kids.size<N)(hls:ls.length=nc)(hnc:nc<=256)(hu:u+3*(x.kids.size+1)<=1000000000)(har:ar+(x.kids.size+1)<=1000000000)(S:SnO w o (Fs.ex x .nil) ao)(hks:s.ks.length=ls.length)
  (hm:s.mes+(300*(x.kids.size+1)+2)<=100000000)(hd:s.dp<=1000000001)(X:EmX w o lv ls)(h:EmW w o rb lv s) :
  Calls Tryz.prog 94 #[pt0 rb,exN⟨26,n,nm,a,Fs.ex x .nil⟩ ao cap,spV ar u] w(ms w o rb lv s(((emE ls x ar u((s.cel n.toNat(kdE x)).lay 17 n.toNat 0)).lay 18 n.toNat 0).land s.ws.length)(300*(x.kids.size+1)+2)):=by
 have hok:okF nc(Fs.ex x .nil):=hoe.2;have hn:0<=n/\n<(nc:Int):=hoe.1.2.2.1 rfl;obtain⟨n0,hn0⟩:∃n0:Nat,(n0:Int)=n:=⟨n.toNat,by omega⟩
 subst hn0;rw[Int.toNat_natCast];have hkx:=iR(aK hok).1;have hlen:(Fs.ex x .nil).len=1:=rfl;have HKO:=fun w2(S2:SnA w2(Fs.ex x .nil) ao)=>gN nc((Fs.ex x .nil).size+1)⟨26,(n0:Int),nm,a,Fs.ex x .nil⟩ ao cap w2(by show(Fs.ex x .nil).size < _;omega) hoe S2;have hke:kdE⟨26,(n0:Int),nm,a,Fs.ex x .nil⟩=kdE x:=by simp only[kdE,iM];simp[kdN]
 rw[ah,hke] at HKO;rw[ah];simp only at HKO ⊢;obtain⟨g,hg⟩:∃g,g=w.heap.size:=⟨_,rfl⟩
 obtain⟨w1,hw1⟩:∃w1,w1=(w.alloc(.cells #[.int .i64 26,.int .i64(n0:Nat),stv nm,.slice ao(Fs.ex x .nil).len cap] 34)).alloc(.cells #[.int .i64(ar:Nat),.int .i64(u:Nat)] 91):=⟨_,rfl⟩
 obtain⟨z1,z2,z5,z6⟩:=al2 w(.cells #[.int .i64 26,.int .i64(n0:Nat),stv nm,.slice ao(Fs.ex x .nil).len cap] 34)(.cells #[.int .i64(ar:Nat),.int .i64(u:Nat)] 91);rw[<-hw1,<-hg] at z1 z2 z5 z6;have s0:∀ {I:Nat->Prop},aa I w o w1(ae w o 0):=fun {I}=>dI o(by rw[<-hg];exact z6);have hnl:∀ j,ae w o 0(g+j)=0:=fun j=>ax(by omega);have K1:Blk w1(ae w o 0) 0 g(.cells #[.int .i64 26,.int .i64(n0:Nat),stv nm,.slice ao(Fs.ex x .nil).len cap] 34)/\Blk w1(ae w o 0) 0(g+1)(.cells #[.int .i64(ar:Nat),.int .i64(u:Nat)] 91):=⟨⟨z1,hnl 0⟩,⟨z2,hnl 1⟩⟩
 have SN1:=S.stepO(s0(I:=fun _=>False)) id;have E1:=h.step(s0(I:=fun _=>False)) noF;have X1:=X.step(s0(I:=fun _=>False)) id;have S0:=s0(I:=I17);generalize ae w o 0=o1 at *;have HG:=Lib.hid hg;clear s0 hnl z1 z2 z5 z6 h X S hg;rw[hlen] at hw1 K1 HKO ⊢;have d1:aa(fun _=>False) w1 o1 w1.drew o1:=(aa.refl _ w1 o1).drew;have HK:=HKO w1.drew(SN1.all.below(Below.refl _ w1).drew);obtain⟨b,off,ak,ck,rfl,NN,Sy,NK⟩:=dX(x:=.nil) SN1 0 rfl;obtain⟨h1,h2,h3,vw,vc,vn,vk,mc,mn,q0,q1,q2,q3,q4,q5,q6⟩:=E1;obtain⟨gk,capk,rfl,ogk,-,-,hgl,hck,hfk⟩:=q4.pos(by rw[hks,hls];omega);have hne1:rb≠gk:=fun e=>by have:=q0.2;rw[e,ogk] at this;cases this
 have hne2:g≠gk:=fun e=>by have:=K1.1.2;rw[e,ogk] at this;cases this
 have hn0:n0<s.ks.length:=by rw[hks,hls];omega
 have HS:Hid(∀ w2,Below w1.heap.size w1 w2->EmW(w2.setCell⟨gk,n0,none⟩(.int .i64(kdE x))) o1 rb lv(s.cel n0(kdE x))/\aa I17 w1 o1(w2.setCell⟨gk,n0,none⟩(.int .i64(kdE x))) o1):=fun w2 B=>by
  have x0:=aa.ofBelow(I:=fun _=>False) o1 B;have x1:aa(fun k=>k=5) w1 o1(w2.setCell⟨gk,n0,none⟩(.int .i64(kdE x))) o1:=(aa.ofBelow o1 B).setCell⟨gk,n0,none⟩ _ ogk;refine⟨⟨h1,h2,h3,_,_,_,_,mc,mn,q0.step x1(by decide),q1.step x1(by decide),q2.step x1(by decide),q3.step x1(by decide),?_,q5.step x1(by decide),q6.step x1(by decide)⟩,x1.mono(cC(by decide))⟩;have r:=(q4.step x0 id).store n0(.int .i64(kdE x));have e2:eiV(s.cel n0(kdE x)).ks=(eiV s.ks).set n0(.int .i64(kdE x)):=by simp[eiV,Em.cel]
  have e3:(s.cel n0(kdE x)).ks.length=s.ks.length:=by simp[Em.cel]
  rw[e2,e3];exact r
 have KK:Hid(∀ w' o',aa I17 w1 o1 w' o'->w'.cell?⟨g,0,none⟩=some(.int .i64 26)/\w'.cell?⟨g,1,none⟩=some(.int .i64(n0:Nat))/\w'.cell?⟨g,2,none⟩=some(stv nm)/\w'.cell?⟨g,3,none⟩=some(.slice(some⟨b,off,none⟩) 1 cap)/\Nd4 w' b off x ak ck/\w'.cell?⟨g+1,0,none⟩=some(.int .i64(ar:Nat))/\w'.cell?⟨g+1,1,none⟩=some(.int .i64(u:Nat))):=fun w' o' S=>by
  obtain⟨⟨e0,e1,e2,e3⟩,-⟩:=ai(K1.1.step S aA).1;obtain⟨f0,f1⟩:=aE(K1.2.step S aA).1;exact⟨e0,e1,e2,e3,NK S aA,f0,f1⟩
 have FZ:Hid(∀ w2,Below w1.heap.size w1 w2->w2.cell?⟨rb,3,none⟩=some(.slice(some⟨gk,0,none⟩) s.ks.length capk)/\(∃v,w2.cell?⟨gk,n0,none⟩=some v)/\w2.frozen?⟨gk,n0,none⟩=false):=fun w2 B=>by
  refine⟨(B.cell(p:=⟨rb,3,none⟩) q0.lt).trans(dY q0.1).1.2.2.2.1,⟨.int .i64(s.ks[n0]),?_⟩,?_⟩
  ·rw[B.cell(p:=⟨gk,n0,none⟩) hgl,hck n0(by omega)];simp[eiV,hn0]
  ·have e:=B.block gk hgl
   have:=hfk n0
   unfold World.frozen? at this ⊢;rw[e];exact this
 obtain⟨r3,⟨vz,rz⟩,rf⟩:=FZ.out w1(Below.refl _ _);obtain⟨r3',⟨vz',rz'⟩,rf'⟩:=FZ.out w1.drew(Below.refl _ w1).drew;obtain⟨c0,c1,c2,c3,⟨x0,x1,x2,x3⟩,a0,a1⟩:=KK.out _ _(aa.refl I17 w1 o1);obtain⟨d0,d1',d2,d3,⟨y0,y1,y2,y3⟩,b0,b1⟩:=KK.out _ _((aa.refl I17 w1 o1).drew);have hnI:(n0:Int)<(s.ks.length:Int):=by omega
 have SyD:=Sy;have gc:=Dc s n0(kdE x);have gl:=bE(s.cel n0(kdE x)) 17 n0 0;clear q0 q1 q2 q3 q4 q5 q6 h1 h2 h3 hck hfk NK SN1 HKO hke hlen NN;generalize hkk:kdE x=kx at *
 go_enter_defers Tryz.func94,Tryz.ntmps94
 go_upto_region 1 with fail;rw[<-hw1,<-HG.out];clear hw1;go_region_held3(fun wx=>wx.cell?⟨g,0,none⟩=some(.int .i64 26)/\wx.cell?⟨g,1,none⟩=some(.int .i64(n0:Nat))/\wx.cell?⟨g,2,none⟩=some(stv nm)/\wx.cell?⟨g,3,none⟩=some(.slice(some⟨b,off,none⟩) 1 cap)/\wx.cell?⟨rb,3,none⟩=some(.slice(some⟨gk,0,none⟩) s.ks.length capk))(go_keep)(first|(go_at_call 87;refine HK.mono ?_;rintro e w2⟨rfl,B2⟩;have BB2:=((Below.refl _ w1).drew).trans B2;obtain⟨e0,e1,e2,e3,-,-,-⟩:=KK.out _ _(aa.ofBelow o1 BB2);obtain⟨t3,⟨tz,tr⟩,tf⟩:=FZ.out w2 BB2;obtain⟨m0,m1,m2,m3,-,-,-⟩:=KK.out _ _(HS.out w2 BB2).2;have mr:=(World.cell?_of_block(a:=⟨rb,3,none⟩)(heap_setCell_other w2⟨gk,n0,none⟩ rb(.int .i64 kx) hne1)).trans t3))
 all_goals
  obtain⟨ES,SS⟩:=HS.out w2 BB2;clear HS FZ HK m0 m1 m2 m3 mr t3 tz tr tf e0 e1 e2 e3 r3 r3' rz rz' rf rf' c0 c1 c2 c3 d0 d1' d2 d3 x0 x1 x2 x3 y0 y1 y2 y3 a0 a1 b0 b1;generalize w2.setCell⟨gk,n0,none⟩(.int .i64 kx)=w3 at *;have XS:=X1.step SS aA;have HL:=bW 17 n0 0 w3 o1 rb lv ls(s.cel n0 kx)(by omega)(by omega)(by omega)(by have:=gc.mes;omega) XS ES;obtain⟨c0,c1,c2,c3,⟨x0,x1,x2,x3⟩,a0,a1⟩:=KK.out _ _ SS;go_upto_region 3 with(first|(go_at_call 47;refine HL.mono ?_;rintro e w4⟨rfl,o4,E4,S4⟩))
  have ST:=SS.trans S4;have d4:aa(fun _=>False) w4 o4 w4.drew o4:=(aa.refl _ w4 o4).drew;have D4:aa I17 w4 o4 w4.drew o4:=(aa.refl _ w4 o4).drew;have STD:=ST.trans D4;have HC:=HP x ak ck ar u w4.drew o4 rb lv ls((s.cel n0 kx).lay 17 n0 0) hN1(aK hok).1 hls hnc(Sy.stepO STD aA)((gc.trans gl).ks.trans hks)(by have:=(gc.trans gl).mes;omega)(by omega)(by omega)((gc.trans gl).dp hd)(X1.step STD aA)(E4.step d4 noF);rw[ah] at HC;clear c0 c1 c2 c3 x0 x1 x2 x3 a0 a1 HL;obtain⟨c0,c1,c2,c3,⟨x0,x1,x2,x3⟩,a0,a1⟩:=KK.out _ _ ST;obtain⟨e0,e1,e2,e3,⟨y0,y1,y2,y3⟩,b0,b1⟩:=KK.out _ _ STD;go_region_held3(fun wx=>wx.cell?⟨g,3,none⟩=some(.slice(some⟨b,off,none⟩) 1 cap)/\(wx.cell?⟨b,off,none⟩=some(.int .i64 x.k)/\wx.cell?⟨b,off+1,none⟩=some(.int .i64 x.n)/\wx.cell?⟨b,off+2,none⟩=some(stv x.nm)/\wx.cell?⟨b,off+3,none⟩=some(.slice ak x.kids.len ck))/\wx.cell?⟨g+1,0,none⟩=some(.int .i64(ar:Nat))/\wx.cell?⟨g+1,1,none⟩=some(.int .i64(u:Nat)))(go_keep)(first|(go_at_call 46;refine HC.mono ?_;rintro e w5⟨rfl,⟨o5,E5,S5⟩,g5⟩;obtain⟨m0,m1,m2,m3,⟨z0,z1,z2,z3⟩,h0,h1⟩:=KK.out _ _(STD.trans S5)))
  all_goals
   have SU:=STD.trans S5;have g15:=(gc.trans gl).trans g5;have HL:=bW 18 n0 0 w5 o5 rb lv ls(emE ls x ar u((s.cel n0 kx).lay 17 n0 0))(by omega)(by omega)(by omega)(by have:=g15.mes;omega)(X1.step SU aA) E5;clear HC c0 c1 c2 c3 x0 x1 x2 x3 a0 a1 e0 e1 e2 e3 y0 y1 y2 y3 b0 b1;obtain⟨s5,hs5⟩:∃s5,s5=emE ls x ar u((s.cel n0 kx).lay 17 n0 0):=⟨_,rfl⟩
   rw[<-hs5] at E5 g5 g15 HL;have HS5:=Lib.hid hs5;clear hs5;go_wp2_with(first|(go_at_call 47;refine HL.mono ?_;rintro e w6⟨rfl,o6,E6,S6⟩));have hwl:s.ws.length<(s5.lay 18 n0 0).ws.length:=by
    have h1:=g5.ws;have h2:((s.cel n0 kx).lay 17 n0 0).ws.length=s.ws.length+1:=by simp[Em.lay,Em.cel]
    have h3:(s5.lay 18 n0 0).ws.length=s5.ws.length+1:=by simp[Em.lay]
    omega
   have g6:=g15.trans(bE s5 18 n0 0);have HD:=n7 s.ws.length .returning w6 o6 rb lv ls(s5.lay 18 n0 0) hwl(by have:=g6.mes;omega)(X1.step(SU.trans S6) aA) E6;refine leaves_cons(f:=150)(args:=#[.pointer(some⟨rb,0,none⟩),.int .i64(s.ws.length:Nat)])(by simp)(by simp[go_sem,Em.cel]) ?_;refine HD.mono ?_;rintro e u' w7⟨rfl,rfl,o7,E7,S7⟩;exact⟨_,results_none rfl _ _ _,rfl,by rw[<-HS5.out];exact⟨⟨o7,E7,((S0.trans SU).trans S6).trans S7⟩,(g6.trans(kP _ _)).le(by omega)⟩⟩
abbrev ed (e:Ex)(ao:Option Addr)(cap:Nat):Array Value:=#[.int .i64 e.k,.int .i64 e.n,stv e.nm,.slice ao e.kids.len cap]
theorem vU (h:Nat):∀ (l:List Int) (k:Nat) (s:Em) (x:Int) (r:List Int),l=x::r->eC h l k s=eC h r (k+1) (if x=(h:Int) then s.lay 19 k 0 else s)
 | _,k,s,x,r,rfl=>rfl
theorem yh (nc N:Nat)(HP:fq nc N)(e:Ex)(ao:Option Addr)(cap ar u:Nat)(w:World)(o:Nat->Nat)(rb:Nat)(lv:Value)(ls:List Int)(s:Em)(hoe:okE nc e)(hN:e.kids.size<N)(hls:ls.length=nc)(hnc:nc<=256)(hu:u+3*(e.kids.size+1)<=1000000000)(har:ar+1+(e.kids.size+1)<=1000000000)(S:SnO w o e.kids ao)(hks:s.ks.length=ls.length)
  (hm:s.mes+(256+300*(e.kids.size+1))<=100000000)(hd:s.dp<=1000000001)(X:EmX w o lv ls)(h:EmW w o rb lv s) :
  Calls Tryz.prog 225 #[pt0 rb,exN e ao cap,spV ar u] w(ms w o rb lv s(bdy ls(emE ls e) ar u s)(256+300*(e.kids.size+1))):=by
 subst hls;have HKS:=Lib.hid hks;clear hks;obtain⟨g,hg⟩:∃g,g=w.heap.size:=⟨_,rfl⟩
 obtain⟨w1,hw1⟩:∃w1,w1=(w.alloc(.cells(ed e ao cap) 34)).alloc(.cells #[.int .i64(ar:Nat),.int .i64(u:Nat)] 91):=⟨_,rfl⟩
 obtain⟨z1,z2,z5,z6⟩:=al2 w(.cells(ed e ao cap) 34)(.cells #[.int .i64(ar:Nat),.int .i64(u:Nat)] 91);rw[<-hw1,<-hg] at z1 z2 z5 z6;obtain⟨A,hA⟩:∃A,A=ar+1:=⟨_,rfl⟩
 have hAI:(ar:Int)+1=(A:Int):=by omega
 obtain⟨w2,hw2⟩:∃w2,w2=w1.setCell⟨g+1,0,none⟩(.int .i64(A:Nat)):=⟨_,rfl⟩
 have B2:Below g w w2:=by rw[hw2];exact z6.setCell(p:=⟨g+1,0,none⟩)(by show g<=g+1;omega) _
 have y1:w2.heap[g]?=some(.cells(ed e ao cap) 34):=by rw[hw2];exact(heap_setCell_other w1⟨g+1,0,none⟩ g _(by show g≠g+1;omega)).trans z1
 have y2:w2.heap[g+1]?=some(.cells #[.int .i64(A:Nat),.int .i64(u:Nat)] 91):=by
  rw[hw2]
  have:=heap_setCell_same w1(g+1) 0 _ _(.int .i64(A:Nat)) z2
  simpa using this
 have s0:∀ {I:Nat->Prop},aa I w o w2(ae w o 0):=fun {I}=>dI o(by rw[<-hg];exact B2);have hnl:∀ j,ae w o 0(g+j)=0:=fun j=>ax(by omega);have K1:Blk w2(ae w o 0) 0 g(.cells(ed e ao cap) 34)/\Blk w2(ae w o 0) 0(g+1)(.cells #[.int .i64(A:Nat),.int .i64(u:Nat)] 91):=⟨⟨y1,hnl 0⟩,⟨y2,hnl 1⟩⟩
 have SN1:=S.stepO(s0(I:=fun _=>False)) id;have E1:=h.step(s0(I:=fun _=>False)) noF;have X1:=X.step(s0(I:=fun _=>False)) id;have S0:=s0(I:=I17);generalize ae w o 0=o1 at *;have HG:=Lib.hid hg;obtain⟨⟨c0,c1⟩,cf⟩:=gS z2;have cf0:=cf 0;clear s0 hnl z1 z2 z5 z6 h X S hg y1 y2 B2 cf;rw[ah];have KK:Hid(∀ w' o',aa I17 w2 o1 w' o'->w'.cell?⟨g,0,none⟩=some(.int .i64 e.k)/\w'.cell?⟨g,1,none⟩=some(.int .i64 e.n)/\w'.cell?⟨g,2,none⟩=some(stv e.nm)/\w'.cell?⟨g,3,none⟩=some(.slice ao e.kids.len cap)/\w'.cell?⟨g+1,0,none⟩=some(.int .i64(A:Nat))/\w'.cell?⟨g+1,1,none⟩=some(.int .i64(u:Nat))):=fun w' o' S=>by
  obtain⟨⟨e0,e1,e2,e3⟩,-⟩:=ai(K1.1.step S aA).1;obtain⟨f0,f1⟩:=aE(K1.2.step S aA).1;exact⟨e0,e1,e2,e3,f0,f1⟩
 obtain⟨al,cl,rfl,hlv⟩:=X1.lvs;have LV:Hid(∀ w' o',aa I17 w2 o1 w' o'->∀ j x,ls[j]?=some x->∃b off,al=some⟨b,off,none⟩/\w'.cell?⟨b,off+j,none⟩=some(.int .i64 x)):=fun w' o' S j x hx=>by
  rcases hlv with h|⟨b,off,h1,h2,h3,h4⟩
  ·rw[h] at hx;simp at hx
  ·exact⟨b,off,h1,(World.cell?_of_block(a:=⟨b,off+j,none⟩)(S.block b h3(by rw[h2];exact aA))).trans(h4 j x hx)⟩
 have RB:Hid(∀ w' o' s',EmW w' o' rb(.slice al ls.length cl) s'->w'.cell?⟨rb,6,none⟩=some(.slice al ls.length cl)):=fun w' o' s' E=>by
  obtain⟨-,-,-,vw,vc,vn,vk,mc,mn,q0,-⟩:=E;exact(dY q0.1).1.2.2.2.2.2.2.1
 obtain⟨W,hW⟩:∃W,W=eC A ls 0 s:=⟨_,rfl⟩
 have HW:Hid(W=eC A(ls.drop 0) 0 s):=by show _=_;rw[hW];rfl
 have HB:Hid(bdy ls(emE ls e) ar u s=emE ls e A u W):=by show _=_;rw[hW,hA];rfl
 have r6:=RB.out _ _ _ E1;obtain⟨k0,k1,k2,k3,a0,a1⟩:=KK.out _ _(aa.refl I17 w2 o1);have hls2:ls.length<=256:=by omega
 have HA:=Lib.hid hA;clear hW hlv hA;go_enter Tryz.func225,Tryz.ntmps225;go_upto_region 1 with fail;rw[<-hw1,<-HG.out];clear hw1;go_upto_region 2 with fail;rw[<-hw2];clear hw2;clear hAI;go_wp2_with fail;go_loopw [17](fun vi wr=>∃(k:Nat)(s':Em)(o':Nat->Nat),vi=.int .i64(k:Nat)/\k<=ls.length/\EmW wr o' rb(.slice al ls.length cl) s'/\aa I17 w2 o1 wr o'/\Grw s s' k/\Hid(W=eC A(ls.drop k) k s'))(fun vi _=>ls.length-(intOf vi).toNat)
 case atStart=>exact⟨0,s,o1,by go_num,by omega,E1,aa.refl _ _ _,⟨by omega,Nat.le_refl _,rfl,id⟩,HW⟩
 case round =>
  clear HW E1 r6 k0 k1 k2 k3 a0 a1 c0 c1 cf0;obtain⟨k,s',o',rfl,hk,E2,S2,g2,HW⟩:=hrel;obtain⟨k0,k1,k2,k3,a0,a1⟩:=KK.out _ _ S2;by_cases hlt:k<ls.length
  ·have hkI:(k:Int)<(ls.length:Int):=by omega
   have hx:ls[k]?=some ls[k]:=List.getElem?_eq_getElem hlt;have hdr:ls.drop k=ls[k]::ls.drop(k+1):=List.drop_eq_getElem_cons hlt;have HW2:=HW.out;rw[vU A _ k s' _ _ hdr] at HW2;obtain⟨b,off,rfl,cx⟩:=LV.out _ _ S2 k _ hx;generalize ls[k]=lx at *;by_cases he:lx=(A:Int)
   ·rw[if_pos he] at HW2;have HW3:=Lib.hid HW2;have HL:=bW 19 k 0 wr o' rb _ ls s'(by omega)(by omega)(by omega)(by have:=g2.mes;omega)(X1.step S2 aA) E2;have g3:=g2.trans(bE s' 19 k 0);subst he;clear HW2 HW hx hdr;go_wp2_with(first|(go_at_call 47;refine HL.mono ?_;rintro e w3⟨rfl,o3,E3,S3⟩));go_roundw
    case rel=>(try((repeat apply Exists.intro);refine⟨?_,rfl⟩));exact⟨k+1,s'.lay 19 k 0,o3,by go_num,by omega,E3,S2.trans S3,g3,HW3.out⟩
    case measure=>simp[intOf];omega
   ·rw[if_neg he] at HW2;have HW3:=Lib.hid HW2;have g3:=g2.le(m:=k+1)(by omega);clear HW2 HW hx hdr;go_wp2;go_roundw
    case rel=>(try((repeat apply Exists.intro);refine⟨?_,rfl⟩));exact⟨k+1,s',o',by go_num,by omega,E2,S2,g3,HW3.out⟩
    case measure=>simp[intOf];omega
  ·have hkI:¬(k:Int)<(ls.length:Int):=by omega
   obtain rfl:k=ls.length:=by omega
   have HW2:=HW.out;rw[List.drop_length] at HW2;have HW3:W=s':=HW2;subst HW3;have hA:=HA.out;have HC:=HP e ao cap A u wr o' rb _ ls W hN hoe rfl hnc(SN1.stepO S2 aA)(g2.ks.trans HKS.out)(by have:=g2.mes;omega) hu(by omega)(g2.dp hd)(X1.step S2 aA) E2;rw[ah] at HC;have HBO:=HB;clear HW HW2 hA HP hlt;go_wp2_with(first|(go_at_call 46;refine HC.mono ?_;rintro e w3⟨rfl,⟨o3,E3,S3⟩,g3⟩))
   go_end0
   exact⟨rfl,by rw[HBO.out];exact⟨⟨o3,E3,(S0.trans S2).trans S3⟩,(g2.trans g3).le(by omega)⟩⟩
structure CxS (rb gw gn gl gs ga gg:Nat)(e:Ex)(ao:Option Addr)(cap ar u op v ag:Nat)(w:World)(o:Nat->Nat):Prop where
 bw:Blk w o 0 gw(.cells #[pt0 rb] 87)
 bn:Blk w o 0 gn(.cells(ed e ao cap) 34)
 bl:Blk w o 0 gl(.cells #[.int .i64(op:Nat)] 3)
 bs:Blk w o 0 gs(.cells #[.int .i64(v:Nat)] 3)
 ba:Blk w o 0 ga(.cells #[.int .i64(ar:Nat),.int .i64(u:Nat)] 91)
 bg:Blk w o 0 gg(.cells #[.int .i64(ag:Nat)] 3)
 sn:SnO w o e.kids ao
theorem CxS.step {I:Nat->Prop}{rb gw gn gl gs ga gg:Nat}{e:Ex}{ao:Option Addr}{cap ar u op v ag:Nat}{w w':World}{o o':Nat->Nat}(h:CxS rb gw gn gl gs ga gg e ao cap ar u op v ag w o)(x:aa I w o w' o')(hi:¬I 0):CxS rb gw gn gl gs ga gg e ao cap ar u op v ag w' o' :=
 ⟨h.bw.step x hi,h.bn.step x hi,h.bl.step x hi,h.bs.step x hi,h.ba.step x hi,h.bg.step x hi,h.sn.stepO x hi⟩
theorem CxS.keeps (rb gw gn gl gs ga gg:Nat)(e:Ex)(ao:Option Addr)(cap ar u op v ag:Nat):mo (CxS rb gw gn gl gs ga gg e ao cap ar u op v ag):=fun h x=>h.step x aA
theorem Eu (nc N:Nat)(HP:fq nc N)(rb gw gn gl gs ga gg:Nat)(e:Ex)(ao:Option Addr)(cap ar u op v ag:Nat)(lv:Value)(ls:List Int)(hoe:okE nc e)(hN:e.kids.size<N)(hls:ls.length=nc)(hnc:nc<=256)(hop:op<=255)(hv:v<=1)(hag:ag<=100000000)(hu:u+3*(e.kids.size+1)<=1000000000)(har:ar+1+(e.kids.size+1)<=1000000000) :
  kK rb lv ls(CxS rb gw gn gl gs ga gg e ao cap ar u op v ag) 224 #[pt0 gw,pt0 gn,pt0 ga,pt0 gl,pt0 gg,pt0 gs](fun x=>(((bdy ls(emE ls e) ar u x).lay op ag 0).lay 25 0 0).con(v:Nat) 2 u)(256+300*(e.kids.size+1)+4):=by
 intro w o s X E K hm hd hks;have HC:=yh nc N HP e ao cap ar u w o rb lv ls s hoe hN hls hnc hu har K.sn hks(by omega) hd X E;rw[ah] at HC;have KK:Hid(∀ w' o',aa I17 w o w' o'->w'.cell?⟨gw,0,none⟩=some(pt0 rb)/\(w'.cell?⟨gn,0,none⟩=some(.int .i64 e.k)/\w'.cell?⟨gn,1,none⟩=some(.int .i64 e.n)/\w'.cell?⟨gn,2,none⟩=some(stv e.nm)/\w'.cell?⟨gn,3,none⟩=some(.slice ao e.kids.len cap))/\w'.cell?⟨gl,0,none⟩=some(.int .i64(op:Nat))/\w'.cell?⟨gs,0,none⟩=some(.int .i64(v:Nat))/\w'.cell?⟨gg,0,none⟩=some(.int .i64(ag:Nat))/\w'.cell?⟨ga,0,none⟩=some(.int .i64(ar:Nat))/\w'.cell?⟨ga,1,none⟩=some(.int .i64(u:Nat))):=fun w' o' S=>by
  have K2:=K.step S aA;exact⟨bD K2.bw.1,(ai K2.bn.1).1,bD K2.bl.1,bD K2.bs.1,bD K2.bg.1,(aE K2.ba.1).1,(aE K2.ba.1).2⟩
 obtain⟨c0,⟨n0,n1,n2,n3⟩,c2,c3,c4,a0,a1⟩:=KK.out _ _(aa.refl I17 w o);have HKS:=Lib.hid hks;clear hks hls K HP;go_enter Tryz.func224,Tryz.ntmps224;go_upto_region 1 with(first|(go_at_call 225;refine HC.mono ?_;rintro z w2⟨rfl,⟨o2,E2,S2⟩,g2⟩))
 obtain⟨s2,hs2⟩:∃s2,s2=bdy ls(emE ls e) ar u s:=⟨_,rfl⟩
 rw[<-hs2] at E2 g2;have HS2:=Lib.hid hs2;clear hs2 HC c0 n0 n1 n2 n3 c2 c3 c4 a0 a1;obtain⟨c0,⟨n0,n1,n2,n3⟩,c2,c3,c4,a0,a1⟩:=KK.out _ _ S2;have HL:=bW op ag 0 w2 o2 rb lv ls s2 hop(by omega)(by omega)(by have:=g2.mes;omega)(X.step S2 aA) E2;go_upto_region 2 with(first|(go_at_call 47;refine HL.mono ?_;rintro z w3⟨rfl,o3,E3,S3⟩))
 have S23:=S2.trans S3;have g3:=g2.trans(bE s2 op ag 0);clear HL c0 n0 n1 n2 n3 c2 c3 c4 a0 a1;obtain⟨c0,⟨n0,n1,n2,n3⟩,c2,c3,c4,a0,a1⟩:=KK.out _ _ S23;have HL:=bW 25 0 0 w3 o3 rb lv ls(s2.lay op ag 0)(by omega)(by omega)(by omega)(by have:=g3.mes;omega)(X.step S23 aA) E3;go_upto_region 3 with(first|(go_at_call 47;refine HL.mono ?_;rintro z w4⟨rfl,o4,E4,S4⟩))
 have S24:=S23.trans S4;have g4:=g3.trans(bE(s2.lay op ag 0) 25 0 0);clear HL c0 n0 n1 n2 n3 c2 c3 c4 a0 a1;obtain⟨c0,⟨n0,n1,n2,n3⟩,c2,c3,c4,a0,a1⟩:=KK.out _ _ S24;have HL:=bY(v:Nat) 2 ar u w4 o4 rb lv ls((s2.lay op ag 0).lay 25 0 0)(by omega)(by omega)(by omega)(g4.dp hd)(by have:=g4.mes;omega)(X.step S24 aA) E4;go_wp2_with(first|(go_at_call 86;refine HL.mono ?_;rintro z w5⟨rfl,o5,E5,S5⟩))
 go_end0
 exact⟨rfl,by rw[<-HS2.out];exact⟨⟨o5,E5,S24.trans S5⟩,(g4.trans(eF _ _ _ _(by omega))).le(by omega)⟩⟩
theorem El (rb gw gs ga ar u v:Nat)(lv:Value)(ls:List Int)(hv:v<=1)(hu:u<=1000000000) :
  kK rb lv ls(fun w o=>Blk w o 0 gw(.cells #[pt0 rb] 87)/\Blk w o 0 gs(.cells #[.int .i64(v:Nat)] 3)/\Blk w o 0 ga(.cells #[.int .i64(ar:Nat),.int .i64(u:Nat)] 91)) 226 #[pt0 gw,pt0 gs,pt0 ga](fun t=>t.con(1-(v:Int)) 2 u) 2:=by
 intro w o s X E⟨bw,bs,ba⟩ hm hd hks;have cw:=bD bw.1;have cs:=bD bs.1;obtain⟨a0,a1⟩:=aE ba.1;have HC:=bY(1-(v:Int)) 2 ar u w o rb lv ls s(by omega)(by omega) hu hd(by omega) X E;clear bw bs ba hks;go_enter Tryz.func226,Tryz.ntmps226;go_wp2_with(first|(go_at_call 86;refine HC.mono ?_;rintro e w2⟨rfl,o2,E2,S2⟩))
 go_end0
 exact⟨rfl,⟨o2,E2,S2⟩,eF s _ _ _ hu⟩
theorem CL:Ent 224:=fun _ _=>by kernel_rfl
theorem Dw:Ent 226:=fun _ _=>by kernel_rfl
theorem qH (nc N:Nat)(HP:fq nc N)(e:Ex)(ao:Option Addr)(cap op v ar u:Nat)(w:World)(o:Nat->Nat)(rb:Nat)(lv:Value)(ls:List Int)(s:Em)(hoe:okE nc e)(hN:e.kids.size<N)(hls:ls.length=nc)(hnc:nc<=256)(hop:op<=255)(hv:v<=1)(hu:u+3*(e.kids.size+1)<=1000000000)(har:ar+1+(e.kids.size+1)<=1000000000)(S:SnO w o e.kids ao)(hks:s.ks.length=ls.length)
  (hm:s.mes+(256+300*(e.kids.size+1)+8)<=100000000)(hd:s.dp<=1000000001)(X:EmX w o lv ls)(h:EmW w o rb lv s) :
  Calls Tryz.prog 152 #[pt0 rb,exN e ao cap,.int .i64(op:Nat),.int .i64(v:Nat),spV ar u] w(ms w o rb lv s(uK ls(emE ls e) op(v:Int) ar u s)(256+300*(e.kids.size+1)+8)):=by
 have hmf:∀ (fn:Fn)(first cap:Array Value)(w:World),(Instr.makeFunc fn first cap).run Tryz.prog w=.ok(.func fn first cap) w:=fun _ _ _ _=>rfl;rw[ah];obtain⟨g,hg⟩:∃g,g=w.heap.size:=⟨_,rfl⟩
 obtain⟨w1,hw1⟩:∃w1,w1=((((w.alloc(.cells #[pt0 rb] 87)).alloc(.cells(ed e ao cap) 34)).alloc(.cells #[.int .i64(op:Nat)] 3)).alloc(.cells #[.int .i64(v:Nat)] 3)).alloc(.cells #[.int .i64(ar:Nat),.int .i64(u:Nat)] 91):=⟨_,rfl⟩
 obtain⟨z1,z2,z3,z4,z5,z6,z7⟩:=al5 w(.cells #[pt0 rb] 87)(.cells(ed e ao cap) 34)(.cells #[.int .i64(op:Nat)] 3)(.cells #[.int .i64(v:Nat)] 3)(.cells #[.int .i64(ar:Nat),.int .i64(u:Nat)] 91);rw[<-hw1,<-hg] at z1 z2 z3 z4 z5 z6 z7;obtain⟨w2,hw2⟩:∃w2,w2=w1.alloc(.cells #[.int .i64(s.ws.length:Nat)] 3):=⟨_,rfl⟩
 have y6:w2.heap[g+5]?=some(.cells #[.int .i64(s.ws.length:Nat)] 3):=by rw[hw2,<-z6];exact heap_alloc_new _ _
 have hold:∀ k,k<g+5->w2.heap[k]?=w1.heap[k]?:=fun k hk=>by rw[hw2];exact heap_alloc_old _ _(by omega)
 have B2:Below g w w2:=by rw[hw2];exact z7.alloc(by omega) _
 have s0:∀ {I:Nat->Prop},aa I w o w2(ae w o 0):=fun {I}=>dI o(by rw[<-hg];exact B2);have hnl:∀ j,ae w o 0(g+j)=0:=fun j=>ax(by omega);have K2:CxS rb g(g+1)(g+2)(g+3)(g+4)(g+5) e ao cap ar u op v s.ws.length w2(ae w o 0) :=
  ⟨⟨(hold _(by omega)).trans z1,hnl 0⟩,⟨(hold _(by omega)).trans z2,hnl 1⟩,⟨(hold _(by omega)).trans z3,hnl 2⟩,⟨(hold _(by omega)).trans z4,hnl 3⟩,⟨(hold _(by omega)).trans z5,hnl 4⟩,⟨y6,hnl 5⟩,S.stepO(s0(I:=fun _=>False)) id⟩
 have E2:=h.step(s0(I:=fun _=>False)) noF;have X2:=X.step(s0(I:=fun _=>False)) id;have S0:=s0(I:=I17);have HN:=rE w1 o rb lv s(h.below(by rw[<-hg];exact z7));have cw1:=bD z1;generalize ae w o 0=o1 at *;have hwl:s.ws.length<=100000000:=by unfold Em.mes at hm;omega
 have HF:=rD 24 224 226 #[pt0 g,pt0(g+1),pt0(g+4),pt0(g+2),pt0(g+5),pt0(g+3)] #[pt0 g,pt0(g+3),pt0(g+4)](fun x=>(((bdy ls(emE ls e) ar u x).lay op s.ws.length 0).lay 25 0 0).con(v:Nat) 2 u)(fun t=>t.con(1-(v:Int)) 2 u)(256+300*(e.kids.size+1)+4) 2 _(CxS.keeps _ _ _ _ _ _ _ _ _ _ _ _ _ _ _) CL Dw w2 o1 rb lv ls(Eu nc N HP rb g(g+1)(g+2)(g+3)(g+4)(g+5) e ao cap ar u op v s.ws.length lv ls hoe hN hls hnc hop hv hwl hu har)((El rb g(g+3)(g+4) ar u v lv ls hv(by omega)).mono(fun _ _ h=>⟨h.bw,h.bs,h.ba⟩)) s(by omega)(by omega) hd hks X2 E2 K2;have HG:=Lib.hid hg;have HZ:=Lib.hid z6;have c2:=bD K2.bw.1;clear s0 hnl z1 z2 z3 z4 z5 z6 z7 y6 hold B2 h X S hg hks hls HP X2 E2 K2;go_enter Tryz.func152,Tryz.ntmps152;go_upto_region 1 with fail;rw[<-hw1,<-HG.out];clear hw1;go_upto_region 2 with(first|(go_at_call 223;refine HN.mono ?_;rintro z w1b⟨rfl,hww⟩;subst hww))
 rw[<-hw2,HZ.out];clear hw2;go_wp2_with(first|(go_at_call 91;refine HF.mono ?_;rintro z w4⟨rfl,⟨o4,E4,S4⟩,g4⟩))
 go_end0
 exact⟨rfl,⟨o4,E4,S0.trans S4⟩,g4.le(by omega)⟩
def mq (rb:Nat)(lv:Value)(ls:List Int)(K:World->(Nat->Nat)->Prop)(F:FuncId)(c:Array Value)(t:Nat->Em->Em)(n:Nat):Prop :=
 ∀ ag:Nat,ag<=100000000->∀ w o s,EmX w o lv ls->EmW w o rb lv s->K w o->s.mes+n<=100000000->s.dp<=1000000001->s.ks.length=ls.length->Calls Tryz.prog F(#[.int .i64(ag:Nat)]++c) w(ms w o rb lv s(t ag s) n)
theorem jy (nc N:Nat)(HP:fq nc N)(F:FuncId)(c:Array Value)(t:Nat->Em->Em)(n:Nat)(K:World->(Nat->Nat)->Prop)(hK:mo K)(HE:Ent F)(e:Ex)(ao:Option Addr)(cap ar u:Nat)(w:World)(o:Nat->Nat)(rb:Nat)(lv:Value)(ls:List Int)(H:mq rb lv ls K F c t n)(s:Em)(hoe:okE nc e)(hN:e.kids.size<N)(hls:ls.length=nc)(hnc:nc<=256)(hu:u+3*(e.kids.size+1)<=1000000000)(har:ar+1+(e.kids.size+1)<=1000000000)(S:SnO w o e.kids ao)(hks:s.ks.length=ls.length)
  (hm:s.mes+(256+300*(e.kids.size+1)+n+2)<=100000000)(hd:s.dp<=1000000001)(X:EmX w o lv ls)(h:EmW w o rb lv s)(k:K w o) :
  Calls Tryz.prog 153 #[pt0 rb,exN e ao cap,spV ar u,.func(.func F) #[] c] w(ms w o rb lv s(mN ls(emE ls e) t ar u s)(256+300*(e.kids.size+1)+n+2)):=by
 rw[ah];obtain⟨g,hg⟩:∃g,g=w.heap.size:=⟨_,rfl⟩
 obtain⟨w1,hw1⟩:∃w1,w1=(w.alloc(.cells(ed e ao cap) 34)).alloc(.cells #[.int .i64(ar:Nat),.int .i64(u:Nat)] 91):=⟨_,rfl⟩
 obtain⟨z1,z2,z5,z6⟩:=al2 w(.cells(ed e ao cap) 34)(.cells #[.int .i64(ar:Nat),.int .i64(u:Nat)] 91);rw[<-hw1,<-hg] at z1 z2 z5 z6;have s0:∀ {I:Nat->Prop},aa I w o w1(ae w o 0):=fun {I}=>dI o(by rw[<-hg];exact z6);have hnl:∀ j,ae w o 0(g+j)=0:=fun j=>ax(by omega);have K1:Blk w1(ae w o 0) 0 g(.cells(ed e ao cap) 34)/\Blk w1(ae w o 0) 0(g+1)(.cells #[.int .i64(ar:Nat),.int .i64(u:Nat)] 91):=⟨⟨z1,hnl 0⟩,⟨z2,hnl 1⟩⟩
 have SN1:=S.stepO(s0(I:=fun _=>False)) id;have E1:=h.step(s0(I:=fun _=>False)) noF;have X1:=X.step(s0(I:=fun _=>False)) id;have S0:=s0(I:=I17);have k1:=hK k S0;generalize ae w o 0=o1 at *;have KK:Hid(∀ w' o',aa I17 w1 o1 w' o'->(w'.cell?⟨g,0,none⟩=some(.int .i64 e.k)/\w'.cell?⟨g,1,none⟩=some(.int .i64 e.n)/\w'.cell?⟨g,2,none⟩=some(stv e.nm)/\w'.cell?⟨g,3,none⟩=some(.slice ao e.kids.len cap))/\w'.cell?⟨g+1,0,none⟩=some(.int .i64(ar:Nat))/\w'.cell?⟨g+1,1,none⟩=some(.int .i64(u:Nat))):=fun w' o' S=>⟨(ai(K1.1.step S aA).1).1,(aE(K1.2.step S aA).1).1,(aE(K1.2.step S aA).1).2⟩;have HN:=rE w1 o1 rb lv s E1;have HL:=bW 24 0 0 w1 o1 rb lv ls s(by omega)(by omega)(by omega)(by omega) X1 E1;have HKS:=Lib.hid hks;have HG:=Lib.hid hg;have hwl:s.ws.length<=100000000:=by unfold Em.mes at hm;omega
 have g1:=bE s 24 0 0;have HT:Hid(mN ls(emE ls e) t ar u s=((t s.ws.length(bdy ls(emE ls e) ar u(s.lay 24 0 0))).lay 13 s.ws.length 0).land s.ws.length):=rfl;have HB:∀ w2 o2,EmX w2 o2 lv ls->EmW w2 o2 rb lv(s.lay 24 0 0)->SnO w2 o2 e.kids ao->_:=fun w2 o2 X2 E2 SN2=>yh nc N HP e ao cap ar u w2 o2 rb lv ls(s.lay 24 0 0) hoe hN hls hnc hu har SN2(g1.ks.trans hks)(by have:=g1.mes;omega)(g1.dp hd) X2 E2;clear s0 hnl z1 z2 z5 z6 h X S hg hks hls HP K1 k E1
 go_enter_defers Tryz.func153,Tryz.ntmps153
 go_upto_region 1 with fail;rw[<-hw1,<-HG.out];clear hw1;go_upto_region 2 with(first|(go_at_call 223;refine HN.mono ?_;rintro z w1b⟨rfl,hww⟩;subst hww))
 go_upto_region 3 with(first|(go_at_call 47;refine HL.mono ?_;rintro z w2⟨rfl,o2,E2,S2⟩))
 clear HN HL;have HC:=HB w2 o2(X1.step S2 aA) E2(SN1.stepO S2 aA);rw[ah] at HC;obtain⟨⟨n0,n1,n2,n3⟩,a0,a1⟩:=KK.out _ _ S2;go_upto_region 4 with(first|(go_at_call 225;refine HC.mono ?_;rintro z w3⟨rfl,⟨o3,E3,S3⟩,g3⟩))
 obtain⟨s3,hs3⟩:∃s3,s3=bdy ls(emE ls e) ar u(s.lay 24 0 0):=⟨_,rfl⟩
 rw[<-hs3] at E3 g3 HT;clear hs3 HB HC n0 n1 n2 n3 a0 a1;have S13:=S2.trans S3;have g13:=g1.trans g3;have HF:=H s.ws.length hwl w3 o3 s3(X1.step S13 aA) E3(hK k1 S13)(by have:=g13.mes;omega)(g13.dp hd)(g13.ks.trans HKS.out);go_wp2_with fail;refine HF.mono ?_;rintro z w4⟨rfl,⟨o4,E4,S4⟩,g4⟩;obtain⟨s4,hs4⟩:∃s4,s4=t s.ws.length s3:=⟨_,rfl⟩
 rw[<-hs4] at E4 g4 HT;clear hs4 HF HE;have S14:=S13.trans S4;have g14:=g13.trans g4;have HL:=bW 13 s.ws.length 0 w4 o4 rb lv ls s4(by omega)(by omega)(by omega)(by have:=g14.mes;omega)(X1.step S14 aA) E4;go_wp2_with(first|(go_at_call 47;refine HL.mono ?_;rintro z w5⟨rfl,o5,E5,S5⟩));have S15:=S14.trans S5;have g15:=g14.trans(bE s4 13 s.ws.length 0);have hlt:s.ws.length<(s4.lay 13 s.ws.length 0).ws.length:=by
  have h1:=g4.ws;have h2:=g3.ws;have h3:(s.lay 24 0 0).ws.length=s.ws.length+1:=by simp[Em.lay]
  have h4:(s4.lay 13 s.ws.length 0).ws.length=s4.ws.length+1:=by simp[Em.lay]
  omega
 have HD:=n7 s.ws.length .returning w5 o5 rb lv ls(s4.lay 13 s.ws.length 0) hlt(by have:=g15.mes;omega)(X1.step S15 aA) E5;refine leaves_cons(f:=150)(args:=#[.pointer(some⟨rb,0,none⟩),.int .i64(s.ws.length:Nat)])(by simp)(by simp[go_sem]) ?_;refine HD.mono ?_;rintro z u' w6⟨rfl,rfl,o6,E6,S6⟩;exact⟨_,results_none rfl _ _ _,rfl,by rw[HT.out];exact⟨⟨o6,E6,(S0.trans S15).trans S6⟩,(g15.trans(kP _ _)).le(by omega)⟩⟩
theorem DH (rb gw ga ar u:Nat)(lv:Value)(ls:List Int)(hu:u+1<=1000000000) :
  mq rb lv ls(fun w o=>Blk w o 0 gw(.cells #[pt0 rb] 87)/\Blk w o 0 ga(.cells #[.int .i64(ar:Nat),.int .i64(u:Nat)] 91)) 154 #[pt0 gw,pt0 ga](fun g x=>((x.lay 14 g 0).con 1 1(u+1)).lay 6 0 0) 4:=by
 intro ag hag w o s X E⟨bw,ba⟩ hm hd hks;have HL:=bW 14 ag 0 w o rb lv ls s(by omega)(by omega)(by omega)(by omega) X E;have KK:Hid(∀ w' o',aa I17 w o w' o'->w'.cell?⟨gw,0,none⟩=some(pt0 rb)/\w'.cell?⟨ga,0,none⟩=some(.int .i64(ar:Nat))/\w'.cell?⟨ga,1,none⟩=some(.int .i64(u:Nat))):=fun w' o' S=>⟨bD(bw.step S aA).1,(aE(ba.step S aA).1).1,(aE(ba.step S aA).1).2⟩;obtain⟨c0,a0,a1⟩:=KK.out _ _(aa.refl I17 w o);have g1:=bE s 14 ag 0;have HO:=fun w'=>gp ar u 1 w'(by omega)(by omega);clear bw ba hks;go_enter Tryz.func154,Tryz.ntmps154;go_upto_region 1 with(first|(go_at_call 47;refine HL.mono ?_;rintro z w2⟨rfl,o2,E2,S2⟩))
 clear HL c0 a0 a1;have d2:aa I17 w2 o2 w2.drew o2:=(aa.refl _ w2 o2).drew;have S2d:=S2.trans d2;obtain⟨c0,a0,a1⟩:=KK.out _ _ S2;obtain⟨e0,e1,e2⟩:=KK.out _ _ S2d;have XD:=X.step S2d aA;have ED:=E2.step((aa.refl(fun _=>False) w2 o2).drew) noF;have HC:∀ w3,Below w2.drew.heap.size w2.drew w3->Calls Tryz.prog 86 #[.pointer(some⟨rb,0,none⟩),.int .i64 1,.int .i64 1,spV ar(u+1)] w3(jU w3 o2 rb lv((s.lay 14 ag 0).con 1 1(u+1))(.tuple #[])):=fun w3 B=>bY 1 1 ar(u+1) w3 o2 rb lv ls(s.lay 14 ag 0)(by omega)(by omega)(by omega)(g1.dp hd)(by have:=g1.mes;omega)(XD.below B)(ED.below B);go_region_held3(fun wx=>wx.cell?⟨gw,0,none⟩=some(pt0 rb)/\wx.cell?⟨ga,0,none⟩=some(.int .i64(ar:Nat))/\wx.cell?⟨ga,1,none⟩=some(.int .i64(u:Nat)))(go_keep)(first|(go_at_call 96;refine(HO _).mono ?_;rintro z w3⟨rfl,B3⟩;have S3:=S2d.trans(aa.ofBelow(I:=I17) o2 B3);obtain⟨e0,e1,e2⟩:=KK.out _ _ S3;have HC3:=HC w3 B3)|(go_at_call 86;refine HC3.mono ?_;rintro z w4⟨rfl,o4,E4,S4⟩;obtain⟨e0,e1,e2⟩:=KK.out _ _(S3.trans S4)))
 all_goals
  have S34:=S3.trans S4;have g4:=g1.trans(eF(s.lay 14 ag 0) 1 1(u+1) hu);have HL:=bW 6 0 0 w4 o4 rb lv ls((s.lay 14 ag 0).con 1 1(u+1))(by omega)(by omega)(by omega)(by have:=g4.mes;omega)(X.step S34 aA) E4;clear HC HO HC3;go_wp2_with(first|(go_at_call 47;refine HL.mono ?_;rintro z w5⟨rfl,o5,E5,S5⟩))
  go_end0
  exact⟨rfl,⟨o5,E5,S34.trans S5⟩,(g4.trans(bE _ _ _ _)).le(by omega)⟩
theorem D2 (rb gw:Nat)(lv:Value)(ls:List Int) :
  mq rb lv ls(fun w o=>Blk w o 0 gw(.cells #[pt0 rb] 87)) 155 #[pt0 gw](fun _ x=>x.lay 6 0 0) 4:=by
 intro ag hag w o s X E bw hm hd hks;have HL:=bW 6 0 0 w o rb lv ls s(by omega)(by omega)(by omega)(by omega) X E;have c0:=bD bw.1;clear bw hks;go_enter Tryz.func155,Tryz.ntmps155;go_wp2_with(first|(go_at_call 47;refine HL.mono ?_;rintro z w5⟨rfl,o5,E5,S5⟩))
 go_end0
 exact⟨rfl,⟨o5,E5,S5⟩,(bE _ _ _ _).le(by omega)⟩
theorem BJ (rb gw gn:Nat)(e:Ex)(ao:Option Addr)(cap:Nat)(lv:Value)(ls:List Int)(hn:e.n=5\/e.n=6) :
  mq rb lv ls(fun w o=>Blk w o 0 gw(.cells #[pt0 rb] 87)/\Blk w o 0 gn(.cells(ed e ao cap) 34)) 156 #[pt0 gw,pt0 gn](fun _ x=>x.lay 26(e.n-5).toNat 0) 4:=by
 intro ag hag w o s X E⟨bw,bn⟩ hm hd hks;obtain⟨j,hj⟩:∃j:Nat,(j:Int)=e.n-5:=⟨(e.n-5).toNat,by omega⟩
 have hj2:(e.n-5).toNat=j:=by omega
 have hj3:j<=1:=by omega
 rw[hj2];have HL:=bW 26 j 0 w o rb lv ls s(by omega)(by omega)(by omega)(by omega) X E;have c0:=bD bw.1;obtain⟨⟨n0,n1,n2,n3⟩,-⟩:=ai bn.1;have hb1:-9223372036854775808<=e.n-5/\e.n-5<=9223372036854775807:=by omega
 have hj4:e.n-5=(j:Int):=hj.symm;generalize e.n=en at *;clear bw bn hks hj hj2;go_enter Tryz.func156,Tryz.ntmps156;go_wp2_with(first|(go_at_call 47;refine HL.mono ?_;rintro z w5⟨rfl,o5,E5,S5⟩))
 go_end0
 exact⟨rfl,⟨o5,E5,S5⟩,(bE _ _ _ _).le(by omega)⟩
theorem Db:Ent 154:=fun _ _=>by kernel_rfl
theorem De:Ent 155:=fun _ _=>by kernel_rfl
theorem xw:Ent 156:=fun _ _=>by kernel_rfl
end Go.Proofs.YtbjdkekhnajafaaGreatDoor

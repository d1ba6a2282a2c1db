import Derived.Test.YtkhgahljbpmfaaaGreatDoorRdqT
import Derived.Lib.AtoiAllCases
import Derived.Laws.BitsAllLaws
import Derived.Laws.Bits64
import Derived.Laws.ShiftsVarLaws
import Derived.Below
import Derived.IntWalk
import Derived.Lib.LaidTab
set_option maxRecDepth 100000
set_option maxHeartbeats 8000000
namespace Go.Proofs.YtkhgahljbpmfaaaGreatDoor
set_option linter.unusedVariables false
set_option linter.unusedSimpArgs false
def tkG (x:Tk):Prop:=-9223372036854775808<=x.n/\x.n<=9223372036854775807/\x.t.length<=2000/\x.a<=2000
def Fs.gd:Fs->Prop
 | ⟨G0⟩=>True
 | ⟨G1 ⟨_,n,nm,a,ks,r⟩⟩=>-9223372036854775808<=n/\n<=9223372036854775807/\nm.length<=2000/\0<=a/\a<=2000/\ks.gd/\r.gd
theorem Fs.gd_app:∀ {x y:Fs},x.gd->y.gd->(x.app y).gd
 | ⟨G0⟩,y,h,k=>k
 | ⟨G1 ⟨_,_,_,_,_,r⟩⟩,y,h,k=>⟨h.1,h.2.1,h.2.2.1,h.2.2.2.1,h.2.2.2.2.1,h.2.2.2.2.2.1,Fs.gd_app h.2.2.2.2.2.2 k⟩
def Ex.gd (e:Ex):Prop:=(one e).gd
def Ex.sz (e:Ex):Nat:=(one e).size
theorem Ex.gd_mk {k n:Int}{nm:List UInt8}{a:Nat}{ks:Fs}(h1:-9223372036854775808<=n)(h2:n<=9223372036854775807)(h3:nm.length<=2000)(h4:a<=2000)(h5:ks.gd):(⟨k,n,nm,(a:Nat),ks⟩:Ex).gd:=⟨h1,h2,h3,by show (0:Int)<=(a:Nat);omega,by show ((a:Nat):Int)<=2000;omega,h5,trivial⟩
theorem Ex.sz_mk (k n:Int)(nm:List UInt8)(a:Int)(ks:Fs):(⟨k,n,nm,a,ks⟩:Ex).sz=ks.size+1:=rfl
theorem la {x:Fs}{e:Ex}(h:x.gd)(k:e.gd):(x.snoc e).gd:=Fs.gd_app h k
theorem lr (x:Fs)(e:Ex):(x.snoc e).size=x.size+e.sz:=Fs.size_app x (one e)
def Gb {α:Type}(T:List Tk)(b:Nat)(P:α->Prop)(sz:α->Nat)(R:Rs α):Prop:=∀ x t,R=.ok x t->t <:+ T/\P x/\sz x+t.length<=b
section
variable {T:List Tk}
theorem Gb.bind {α β:Type}{b1 b:Nat}{P:α->Prop}{sz:α->Nat}{Q:β->Prop}{sq:β->Nat}{R:Rs α}{f:α->List Tk->Rs β}(h:Gb T b1 P sz R)(hf:∀ x t,t <:+ T->P x->sz x+t.length<=b1->Gb T b Q sq (f x t)):Gb T b Q sq (R.bind f):=by
 cases R using Rs.on with
 | out=>intro x t e;cases e
 | bad e a=>intro x t e;cases e
 | ok x t =>
  obtain⟨h1,h2,h3⟩:=h x t rfl;exact hf x t h1 h2 h3
theorem Gb.bad {α:Type}{b e a:Nat}{P:α->Prop}{sz:α->Nat}:Gb T b P sz (.bad e a:Rs α):=λx t h=>by cases h
theorem Gb.out {α:Type}{b:Nat}{P:α->Prop}{sz:α->Nat}:Gb T b P sz (.out:Rs α):=λx t h=>by cases h
theorem Gb.ok {α:Type}{b:Nat}{P:α->Prop}{sz:α->Nat}{x:α}{t:List Tk}(h:t <:+ T)(hp:P x)(hs:sz x+t.length<=b):Gb T b P sz (.ok x t):=λy u e=>by
 obtain⟨e1,e2⟩:=Rs.ok_inj e;subst e1 e2;exact⟨h,hp,hs⟩
theorem ji (HT:∀ y,y ∈ T->tkG y)(s:List UInt8){ts:List Tk}(h:ts <:+ T):Gb T ts.length (λa=>a<=2000) (λ_=>1) (eI s ts):=by
 cases ts with
 | nil=>exact Gb.out
 | Js x r =>
  simp only[eI];split
  ·exact Gb.ok ((Iz x r).trans h) (HT x (h.mem (by simp))).2.2.2 (by simp;omega)
  ·exact Gb.bad
theorem vR (HT:∀ y,y ∈ T->tkG y)(k:Nat){ts:List Tk}(h:ts <:+ T):Gb T ts.length tkG (λ_=>1) (il k ts):=by
 cases ts with
 | nil=>exact Gb.out
 | Js x r =>
  simp only[il];split
  ·exact Gb.ok ((Iz x r).trans h) (HT x (h.mem (by simp))) (by simp;omega)
  ·exact Gb.bad
theorem kH (HT:∀ y,y ∈ T->tkG y)(s:List UInt8)(o:Nat){ts:List Tk}(h:ts <:+ T):Gb T ts.length (λa=>a<=2000) (λ_=>1) (el s o ts):=by
 cases ts with
 | nil=>exact Gb.out
 | Js x r =>
  simp only[el];split
  ·split
   ·exact Gb.bad
   ·exact Gb.ok ((Iz x r).trans h) (HT x (h.mem (by simp))).2.2.2 (by simp;omega)
  ·exact Gb.bad
variable {rec:Rdr}
theorem sD (HT:∀ y,y ∈ T->tkG y)(H:∀ row o q ts,ts <:+ T->Gb T ts.length Ex.gd Ex.sz (rec row o q ts)):∀ (j:Nat) (o q:Nat) (acc:Fs) (ts:List Tk) (b:Nat),ts <:+ T->acc.gd->acc.size+ts.length<=b->Gb T b Fs.gd Fs.size (jB rec j o q acc ts)
 | 0,o,q,acc,ts,b,h,hg,hb=>Gb.ok h hg hb
 | j+1,o,q,acc,ts,b,h,hg,hb=>by
  unfold jB;refine(ji HT _ h).bind λ_ t1 h1 _ l1=>(H _ _ _ _ h1).bind λe t2 h2 p2 l2=>?_;exact sD HT H j o q _ t2 b h2 (la hg p2) (by rw[lr];omega)
theorem wu (HT:∀ y,y ∈ T->tkG y)(H:∀ row o q ts,ts <:+ T->Gb T ts.length Ex.gd Ex.sz (rec row o q ts))(many o q:Nat){ts:List Tk}(h:ts <:+ T):Gb T (ts.length-1) Fs.gd Fs.size (iP rec many o q ts):=by
 unfold iP;refine(kH HT _ _ h).bind λ_ t1 h1 _ l1=>(H _ _ _ _ h1).bind λe t2 h2 p2 l2=>?_;refine(sD HT H _ _ _ _ t2 t1.length h2 p2 l2).bind λks t3 h3 p3 l3=>?_;exact(ji HT _ h3).bind λ_ t4 h4 _ l4=>Gb.ok h4 p3 (by omega)
theorem xF (HT:∀ y,y ∈ T->tkG y)(H:∀ row o q ts,ts <:+ T->Gb T ts.length Ex.gd Ex.sz (rec row o q ts))(o q:Nat){ts:List Tk}(h:ts <:+ T):Gb T ts.length Ex.gd Ex.sz (gP rec o q ts):=by
 unfold gP;refine(kH HT _ _ h).bind λa t1 h1 p1 l1=>(H _ _ _ _ h1).bind λx t2 h2 p2 l2=>?_;refine(ji HT _ h2).bind λ_ t3 h3 _ l3=>(H _ _ _ _ h3).bind λy t4 h4 p4 l4=>?_;refine(ji HT _ h4).bind λ_ t5 h5 _ l5=>(H _ _ _ _ h5).bind λz t6 h6 p6 l6=>?_;refine Gb.ok h6 (Ex.gd_mk (by omega) (by omega) (by simp) p1 (la (la p2 p4) p6)) ?_;rw[Ex.sz_mk,lr,lr];show x.sz+y.sz+z.sz+1+_<=_;omega
theorem xc (HT:∀ y,y ∈ T->tkG y)(H:∀ row o q ts,ts <:+ T->Gb T ts.length Ex.gd Ex.sz (rec row o q ts)):∀ (m:Nat) (o q:Nat) (acc:Fs) (ts:List Tk) (b:Nat),ts <:+ T->acc.gd->acc.size+ts.length<=b->Gb T b Fs.gd Fs.size (jW rec m o q acc ts)
 | 0,o,q,acc,ts,b,h,hg,hb=>Gb.out
 | m+1,o,q,acc,[],b,h,hg,hb=>Gb.out
 | m+1,o,q,acc,x::r,b,h,hg,hb=>by
  have _:=HT;unfold jW;simp only;split
  ·simp only[Hy] at hb;refine(H _ _ _ _ ((Iz x r).trans h)).bind λe t2 h2 p2 l2=>?_;exact xc HT H m o q _ t2 b h2 (la hg p2) (by rw[lr];omega)
  ·exact Gb.ok h hg hb
theorem EA (HT:∀ y,y ∈ T->tkG y)(H:∀ row o q ts,ts <:+ T->Gb T ts.length Ex.gd Ex.sz (rec row o q ts))(m o q:Nat){ts:List Tk}(h:ts <:+ T):Gb T ts.length Fs.gd Fs.size (mQ rec m o q ts):=by
 cases ts with
 | nil=>exact Gb.out
 | Js x r =>
  unfold mQ;simp only;split
  ·exact Gb.ok h trivial (by simp[Fs.size])
  ·exact(H _ _ _ _ h).bind λe t1 h1 p1 l1=>xc HT H m o q _ t1 _ h1 p1 l1
theorem Fv (HT:∀ y,y ∈ T->tkG y)(H:∀ row o q ts,ts <:+ T->Gb T ts.length Ex.gd Ex.sz (rec row o q ts))(m o q:Nat){ts:List Tk}(h:ts <:+ T):Gb T ts.length Ex.gd Ex.sz (iZ rec m o q ts):=by
 cases ts with
 | nil=>exact Gb.out
 | Js x r =>
  have hx:=HT x (h.mem (by simp));have hr:r <:+ T:=(Iz x r).trans h;unfold iZ;simp only;split
  ·exact Gb.ok hr (Ex.gd_mk (by omega) (by omega) hx.2.2.1 hx.2.2.2 trivial) (by rw[Ex.sz_mk];simp[Fs.size];omega)
  ·split
   ·exact Gb.ok hr (Ex.gd_mk (by omega) (by omega) (by simp) hx.2.2.2 trivial) (by rw[Ex.sz_mk];simp[Fs.size];omega)
   ·split
    ·exact(wu HT H 1 o q hr).bind λks t h1 p1 l1=>Gb.ok h1 (Ex.gd_mk (by omega) (by omega) (by simp) hx.2.2.2 p1) (by rw[Ex.sz_mk];simp;omega)
    ·refine(kH HT _ _ h).bind λa t1 h1 p1 l1=>(EA HT H m _ q h1).bind λks t2 h2 p2 l2=>(ji HT _ h2).bind λ_ t3 h3 _ l3=>?_;exact Gb.ok h3 (Ex.gd_mk (by omega) (by omega) (by simp) p1 p2) (by rw[Ex.sz_mk];omega)
theorem Bo (HT:∀ y,y ∈ T->tkG y)(H:∀ row o q ts,ts <:+ T->Gb T ts.length Ex.gd Ex.sz (rec row o q ts))(m:Nat)(s:List UInt8)(k o q:Nat)(hk:k<=100){ts:List Tk}(h:ts <:+ T):Gb T ts.length Ex.gd Ex.sz (gz rec m s k o q ts):=by
 cases ts with
 | nil=>exact Gb.out
 | Js x r =>
  unfold gz;simp only;split
  ·exact Gb.bad
  ·refine(kH HT _ _ h).bind λa t1 h1 p1 l1=>(vR HT _ h1).bind λy t2 h2 p2 l2=>(ji HT _ h2).bind λ_ t3 h3 _ l3=>?_;refine(Fv HT H m _ _ h3).bind λe t4 h4 p4 l4=>(ji HT _ h4).bind λ_ t5 h5 _ l5=>(H _ _ _ _ h5).bind λb t6 h6 p6 l6=>?_;refine Gb.ok h6 (Ex.gd_mk (by omega) (by omega) p2.2.2.1 p1 (la p4 p6)) ?_;rw[Ex.sz_mk,lr];show e.sz+b.sz+1+_<=_;omega
theorem Dj (HT:∀ y,y ∈ T->tkG y)(H:∀ row o q ts,ts <:+ T->Gb T ts.length Ex.gd Ex.sz (rec row o q ts))(m o q:Nat){ts:List Tk}(h:ts <:+ T):Gb T ts.length Ex.gd Ex.sz (fB rec m o q ts):=by
 cases ts with
 | nil=>exact Gb.out
 | Js x r =>
  have hx:=HT x (h.mem (by simp));have hr:r <:+ T:=(Iz x r).trans h;unfold fB;simp only;split
  ·exact Gb.ok hr (Ex.gd_mk hx.1 hx.2.1 (by simp) hx.2.2.2 trivial) (by rw[Ex.sz_mk];simp[Fs.size];omega)
  ·split
   ·exact Gb.ok hr (Ex.gd_mk (by omega) (by omega) hx.2.2.1 hx.2.2.2 trivial) (by rw[Ex.sz_mk];simp[Fs.size];omega)
   ·split
    ·exact Gb.ok hr (Ex.gd_mk (by omega) (by omega) (by simp) hx.2.2.2 trivial) (by rw[Ex.sz_mk];simp[Fs.size];omega)
    ·split
     ·exact Gb.ok hr (Ex.gd_mk (by omega) (by omega) (by simp) hx.2.2.2 trivial) (by rw[Ex.sz_mk];simp[Fs.size];omega)
     ·split
      ·exact(vR HT _ hr).bind λy t h1 p1 l1=>Gb.ok h1 (Ex.gd_mk p1.1 p1.2.1 (by simp) hx.2.2.2 trivial) (by rw[Ex.sz_mk];simp[Fs.size];omega)
      ·split
       ·rw[Bt];unfold FN;exact(kH HT _ _ h).bind λ_ t1 h1 _ l1=>(H _ _ _ _ h1).bind λe t2 h2 p2 l2=>(ji HT _ h2).bind λ_ t4 h4 _ l4=>Gb.ok h4 p2 (by omega)
       ·split
        ·exact xF HT H o q h
        ·split
         ·rename_i hc
          have hz:=Ii hc;have hz2:∀ z ∈ gQ,z.2.1<=100:=by decide
          have hz3:=hz2 _ hz;simp only at hz3;exact(wu HT H _ o q hr).bind λks t h1 p1 l1=>Gb.ok h1 (Ex.gd_mk (by omega) (by omega) (by simp) hx.2.2.2 p1) (by rw[Ex.sz_mk];simp;omega)
         ·split
          ·rename_i hc
           have hz:=Ii hc;have hz2:∀ z ∈ gO,z.2<=100:=by decide
           have hz3:=hz2 _ hz;simp only at hz3;exact Bo HT H m _ _ o q hz3 h
          ·exact Gb.bad
theorem wJ (HT:∀ y,y ∈ T->tkG y)(H:∀ row o q ts,ts <:+ T->Gb T ts.length Ex.gd Ex.sz (rec row o q ts))(s:List UInt8)(k:Int)(row o q:Nat){ts:List Tk}(h:ts <:+ T):Gb T ts.length Ex.gd Ex.sz (f9 rec s k row o q ts):=by
 cases ts with
 | nil=>exact Gb.out
 | Js x r =>
  have hx:=HT x (h.mem (by simp));have hr:r <:+ T:=(Iz x r).trans h;unfold f9;simp only;split
  ·split
   ·exact Gb.bad
   ·refine(H _ _ _ _ hr).bind λe t2 h2 p2 l2=>Gb.ok h2 (Ex.gd_mk (by omega) (by omega) (by simp) hx.2.2.2 p2) ?_;rw[Ex.sz_mk];show e.sz+1+_<=_;simp only[Hy];omega
  ·exact H _ _ _ _ h
theorem qE (HT:∀ y,y ∈ T->tkG y)(H:∀ row o q ts,ts <:+ T->Gb T ts.length Ex.gd Ex.sz (rec row o q ts)):∀ (m row o q:Nat) (left:Ex) (ts:List Tk) (b:Nat),ts <:+ T->left.gd->left.sz+ts.length<=b->Gb T b Ex.gd Ex.sz (fW rec m row o q left ts)
 | 0,row,o,q,left,ts,b,h,hg,hb=>Gb.out
 | m+1,row,o,q,left,[],b,h,hg,hb=>Gb.out
 | m+1,row,o,q,left,x::r,b,h,hg,hb=>by
  have hx:=HT x (h.mem (by simp));have hr:r <:+ T:=(Iz x r).trans h;unfold fW;simp only;split
  ·exact Gb.ok h hg hb
  ·refine(H _ _ _ _ hr).bind λe t2 h2 p2 l2=>?_;simp only[Hy] at hb;have hgd:∀ (z:Int),(⟨z,0,[],(x.a:Nat),(one left).snoc e⟩:Ex).gd:=λz=>Ex.gd_mk (by omega) (by omega) (by simp) hx.2.2.2 (la hg p2);have hsz:∀ (z:Int),(⟨z,0,[],(x.a:Nat),(one left).snoc e⟩:Ex).sz+t2.length<=b:=λz=>by
    rw[Ex.sz_mk,lr];show left.sz+e.sz+1+_<=_;omega
   split
   ·exact Gb.ok h2 (hgd _) (hsz _)
   ·exact qE HT H m row o q _ t2 b h2 (hgd _) (hsz _)
end
theorem wR {T:List Tk}(HT:∀ y,y ∈ T->tkG y):∀ (n row o q:Nat) (ts:List Tk),ts <:+ T->Gb T ts.length Ex.gd Ex.sz (fN n row o q ts)
 | 0,row,o,q,ts,h=>Gb.out
 | n+1,row,o,q,ts,h=>by
  have H:=wR HT n;unfold fN;split
  ·exact wJ HT H _ _ _ _ _ h
  ·split
   ·exact wJ HT H _ _ _ _ _ h
   ·split
    ·exact Dj HT H n o q h
    ·exact(H _ _ _ _ h).bind λl t h1 p1 l1=>qE HT H n row o q l t _ h1 p1 l1
theorem p8 {k:Nat}{t:List UInt8}{a:Nat}{x:Tk}(h:jS k t a=.inr x):-9223372036854775808<=x.n/\x.n<=9223372036854775807/\x.t.length<=t.length:=by
 unfold jS at h;split at h
 ·unfold jA at h
  repeat' split at h
  all_goals first|(injection h with h;subst h;exact⟨by simp,by simp,G4 _⟩)|cases h
 ·unfold kL at h;cases hv:J9 t with
  | ok v =>
   rw[hv] at h;have hb:=Go.Lib.atoiAll_bounds hv;simp only at h;split at h
   ·cases h
   ·injection h with h
    subst h;exact⟨hb.1,hb.2,by simp⟩
  | _=>rw[hv] at h;cases h
 ·unfold pF at h;split at h
  all_goals first|(injection h with h;subst h;exact⟨by simp,by simp,G4 _⟩)|cases h
 ·cases h
theorem AB (k:Nat)(t:List UInt8)(a p:Nat)(l:List UInt8)(ts:List Tk)(h:fg k t a p l=.inr ts)(hl:t.length+l.length<=2000):∀ x,x ∈ ts->-9223372036854775808<=x.n/\x.n<=9223372036854775807/\x.t.length<=2000:=by
 induction l generalizing k t a p ts with
 | nil =>
  intro x hx;rcases fF h with ⟨rfl,h1⟩|⟨hk,y,us,hp,h1,h2⟩
  ·injection h1 with h1
   subst h1;simp at hx;subst hx;exact⟨by simp,by simp,by simp⟩
  ·injection h1 with h1
   subst h1 h2;simp at hx;rcases hx with rfl|rfl
   ·have:=p8 hp
    simp only[I8] at hl;exact⟨this.1,this.2.1,by omega⟩
   ·exact⟨by simp,by simp,by simp⟩
 | Js c r ih =>
  simp only[Hy] at hl;cases ht:tks k t c.toNat
  ·rw[gi ht] at h;rcases fF h with ⟨rfl,h1⟩|⟨hk,y,us,hp,h1,h2⟩
   ·exact ih _ _ _ _ _ h1 (by simp;omega)
   ·subst h2;intro x hx;rcases List.mem_cons.1 hx with rfl|hx
    ·have:=p8 hp
     exact⟨this.1,this.2.1,by omega⟩
    ·exact ih _ _ _ _ _ h1 (by simp;omega) x hx
  ·rw[fY ht] at h;exact ih _ _ _ _ _ h (by simp;omega)
theorem Fs.len_size:∀ (x:Fs),x.len<=x.size
 | ⟨G0⟩=>G4 _
 | ⟨G1 ⟨k,n,nm,a,ks,r⟩⟩=>by have:=Fs.len_size r;simp only[Fs.len,Fs.size];omega
theorem Fs.gd_all:∀ {x:Fs},x.gd->x.size<=100000000->x.short/\x.rng/\x.plc
 | ⟨G0⟩,h,hs=>⟨trivial,trivial,trivial⟩
 | ⟨G1 ⟨k,n,nm,a,ks,r⟩⟩,h,hs=>by
  simp only[Fs.size] at hs;obtain⟨h1,h2,h3,h4,h5,h6,h7⟩:=h;obtain⟨a1,a2,a3⟩:=Fs.gd_all h6 (by omega);obtain⟨b1,b2,b3⟩:=Fs.gd_all h7 (by omega)
  have:=Fs.len_size ks
  exact⟨⟨by unfold Hu;omega,by omega,a1,b1⟩,⟨h1,h2,a2,b2⟩,⟨h4,by omega,a3,b3⟩⟩
theorem zM {s:List UInt8}{x:Ex}{t:List Tk}(h:ic s=.ok x t):x.gd/\x.sz<=2001:=by
 obtain⟨us,E,h0,h1,h2,h3,h4,h5⟩:=uO h;have hs:iE s=.inr (us++[E]):=by rw[uC h0];exact h1
 have hk:=l9 hs;have hg:∀ y,y ∈ us++[E]->tkG y:=λy hy=>by
  have a1:=AB _ _ _ _ _ _ h1 (by simpa using h0) y hy;have a2:=hk.2.2.2.2.2 y hy;exact⟨a1.1,a1.2.1,a1.2.2,by omega⟩
 obtain⟨_,g1,g2⟩:=wR hg 30000 1 0 0 _ (List.suffix_refl _) x [E] h5;refine⟨g1,?_⟩
 have:=hk.2.2.1
 omega
structure Ex.okT (x:Ex):Prop where
 fit:x.fit
 a0:0<=x.a
 a1:x.a<=2000
 plc:x.kids.plc
 Kb:x.kids.size<=2000
theorem yu {s:List UInt8}{x:Ex}{t:List Tk}(h:ic s=.ok x t):x.okT:=by
 obtain⟨g,hs⟩:=zM h;have hs:x.kids.size+1<=2001:=hs;obtain⟨h1,h2,h3,h4,h5,h6,_⟩:=g;obtain⟨a1,a2,a3⟩:=Fs.gd_all h6 (by omega)
 have:=Fs.len_size x.kids
 exact⟨⟨by unfold Hu;omega,a1,by omega,h1,h2,a2⟩,h4,h5,a3,by omega⟩
structure Wo where
 op:Nat
 a:Nat
 b:Nat
structure Em where
 ws:List Wo
 cs:List Int
 ns:List (List UInt8)
 ks:List Int
 dp:Nat
def Em.lay (s:Em)(op a b:Nat):Em:=⟨s.ws++[⟨op,a,b⟩],s.cs,s.ns,s.ks,s.dp⟩
def Em.push (s:Em)(op a b u:Nat):Em:=⟨s.ws++[⟨op,a,b⟩],s.cs,s.ns,s.ks,max s.dp (u+1)⟩
def Em.kc (s:Em)(n:Int):Em:=⟨s.ws,if n ∈ s.cs then s.cs else s.cs++[n],s.ns,s.ks,s.dp⟩
def Em.kn (s:Em)(x:List UInt8):Em:=⟨s.ws,s.cs,if x ∈ s.ns then s.ns else s.ns++[x],s.ks,s.dp⟩
def Em.con (s:Em)(n:Int)(kd u:Nat):Em:=(s.kc n).push 1 (s.cs.idxOf n) kd u
def Wo.to (x:Wo)(n:Nat):Wo:=if x.op=17 then ⟨x.op,x.a,n⟩ else ⟨x.op,n,x.b⟩
def Em.land (s:Em)(i:Nat):Em:=⟨s.ws.modify i (λx=>x.to s.ws.length),s.cs,s.ns,s.ks,s.dp⟩
def Em.cel (s:Em)(i:Nat)(k:Int):Em:=⟨s.ws,s.cs,s.ns,s.ks.set i k,s.dp⟩
def Em.fork (s:Em)(op:Nat)(f g:Em->Em):Em:=(g (((f (s.lay op 0 0)).lay 13 0 0).land s.ws.length)).land (f (s.lay op 0 0)).ws.length
def rV (n:Int):Int:=if n=1\/n=2 then 2 else if n=10 then 3 else 1
def rS (n:Int):Int:=if n=1\/n=2 then 2 else 1
def kdN (k n:Int)(ks:List Int):Int :=
 if k=1\/k=6\/(8<=k/\k<=12) then 1 else if k=3\/k=5 then 3 else if k=19 then ks.getD 1 0 else if k=26 then ks.getD 0 0 else if k=20 then rV n else if k=21 then rS n else 2
def kdF:Fs->List Int
 | ⟨G0⟩=>[]
 | ⟨G1 ⟨k,n,_,_,ks,r⟩⟩=>kdN k n (kdF ks)::kdF r
def kdE (e:Ex):Int:=kdN e.k e.n (kdF e.kids)
abbrev Tr:=Nat->Nat->Em->Em
def nF:List Tr->Nat->Nat->Nat->Em->Em
 | [],_,_,_,s=>s
 | t::r,i,ar,u,s=>nF r (i+1) ar u (t ar (u+i) s)
def jz (k:Int):Nat:=if k=6 then 4 else if k=7 then 5 else if k=8 then 6 else if k=9 then 7 else if k=10 then 8 else if k=11 then 9 else if k=12 then 10 else if k=22 then 20 else 22
def opr (k n:Int)(nm:List UInt8)(kk:List Int)(s:Em):Em :=
 if k=13 then s.lay 11 0 (kk.getD 0 0).toNat else if k=14 then (s.lay 11 0 (kk.getD 0 0).toNat).lay 5 0 0 else if k=15 then s.lay 12 0 0 else if k=16 then s.lay 12 0 1
 else if k=20 then s.lay 16 n.toNat 0 else if k=23 then (s.kn nm).lay 21 (s.ns.idxOf nm) 0 else if k=25 then s.lay 23 kk.length 0 else s.lay (jz k) 0 0
def iL (h:Nat):List Int->Nat->Em->Em
 | [],_,s=>s
 | l::r,i,s=>iL h r (i+1) (if l=(h:Int) then s.lay 19 i 0 else s)
def bdy (lv:List Int)(t:Tr):Tr:=λar u s=>t (ar+1) u (iL (ar+1) lv 0 s)
def yJ (lv:List Int)(t:Tr)(op:Nat)(v:Int):Tr:=λar u s =>
 s.fork 24 (λx=>(((bdy lv t ar u x).lay op s.ws.length 0).lay 25 0 0).con v 2 u) (λx=>x.con (1-v) 2 u)
def pP (lv:List Int)(t:Tr)(f:Nat->Em->Em):Tr:=λar u s =>
 ((f s.ws.length (bdy lv t ar u (s.lay 24 0 0))).lay 13 s.ws.length 0).land s.ws.length
def qua (lv:List Int)(n:Int)(a t:Tr):Tr:=λar u s =>
 if n=1 then yJ lv t 15 0 ar u (a ar u s) else if n=2 then yJ lv t 14 1 ar u (a ar u s)
 else if n=3 then pP lv t (λg x=>((x.lay 14 g 0).con 1 1 (u+1)).lay 6 0 0) ar (u+1) ((a ar u s).con 0 1 u)
 else if n=4 then pP lv t (λ_ x=>x.lay 6 0 0) ar (u+1) ((a ar u s).con 0 1 u)
 else (pP lv t (λ_ x=>x.lay 26 (n-5).toNat 0) ar (u+2) (((a ar u s).con 0 1 u).con 0 2 (u+1))).lay 27 0 0
abbrev noT:Tr:=λ_ _ s=>s
def prt (lv:List Int)(k n:Int)(nm:List UInt8)(kk:List Int)(T:List Tr):Tr:=λar u s =>
 if k=1 then s.con n 1 u else if k=2 then s.con n 2 u else if k=3 then (s.kc n).push 2 (s.cs.idxOf n) 0 u else if k=5 then s.push 3 n.toNat 0 u
 else if k=17 then (T.getD 0 noT ar u s).fork 14 (T.getD 1 noT ar u) (λx=>x.con 0 2 u)
 else if k=18 then (T.getD 0 noT ar u s).fork 15 (T.getD 1 noT ar u) (λx=>x.con 1 2 u)
 else if k=19 then (T.getD 0 noT ar u s).fork 14 (T.getD 1 noT ar u) (T.getD 2 noT ar u)
 else if k=26 then ((T.getD 0 noT ar u ((s.cel n.toNat (kk.getD 0 0)).lay 17 n.toNat 0)).lay 18 n.toNat 0).land s.ws.length
 else if k=21 then qua lv n (T.getD 0 noT) (T.getD 1 noT) ar u s
 else opr k n nm kk (nF T 0 ar u s)
def emF (lv:List Int):Fs->List Tr
 | ⟨G0⟩=>[]
 | ⟨G1 ⟨k,n,nm,_,ks,r⟩⟩=>prt lv k n nm (kdF ks) (emF lv ks)::emF lv r
def emE (lv:List Int)(e:Ex):Tr:=prt lv e.k e.n e.nm (kdF e.kids) (emF lv e.kids)
def em0 (lv:List Int):Em:=⟨[],[],[],Ik lv.length 1,0⟩
def emA (lv:List Int)(e:Ex):Em:=(emE lv e 0 0 (em0 lv)).lay 0 0 0
def Em.mes (s:Em):Nat:=s.ws.length+s.cs.length+s.ns.length
theorem Em.mes_lay (s:Em)(op a b:Nat):(s.lay op a b).mes=s.mes+1:=by simp[Em.mes,Em.lay];omega
theorem Em.mes_push (s:Em)(op a b u:Nat):(s.push op a b u).mes=s.mes+1:=by simp[Em.mes,Em.push];omega
theorem Em.mes_kc (s:Em)(n:Int):(s.kc n).mes<=s.mes+1:=by simp only[Em.mes,Em.kc];split<;>simp<;>omega
theorem Em.mes_kn (s:Em)(n:List UInt8):(s.kn n).mes<=s.mes+1:=by simp only[Em.mes,Em.kn];split<;>simp<;>omega
theorem Em.mes_con (s:Em)(n:Int)(kd u:Nat):(s.con n kd u).mes<=s.mes+2:=by
 unfold Em.con;rw[Em.mes_push]
 have:=s.mes_kc n
 omega
theorem Em.mes_land (s:Em)(i:Nat):(s.land i).mes=s.mes:=by simp[Em.mes,Em.land]
def okN (nc:Nat)(k n:Int)(nm:List UInt8)(len:Nat):Prop:=eg k n nm len=true/\(k=5->n<=3)/\(k=26->0<=n/\n<(nc:Int))/\(-9223372036854775808<=n/\n<=9223372036854775807)
def okF (nc:Nat):Fs->Prop
 | ⟨G0⟩=>True
 | ⟨G1 ⟨k,n,nm,_,ks,r⟩⟩=>okN nc k n nm ks.len/\okF nc ks/\okF nc r
def okE (nc:Nat)(e:Ex):Prop:=okN nc e.k e.n e.nm e.kids.len/\okF nc e.kids
open Option renaming none->G0,some->G1
open Nat renaming le_refl->G4,lt_of_lt_of_le->Hh,le_trans->In
open Go.Proofs.Tryz renaming prog->G5,underlying35->Iu,ntmps85->IW,func85->I5,underlying9->Je,underlying3->Jk,underlying40->Ju
open Go renaming World->G9,bodyPost_ret->Hb,heap_alloc_new->Hc,Value->He,results->Hk,heap_setCell_other->Hl,Calls->Hn,maxLen->Hu,Addr->Hw,TypeId->Il,heap_setCell_same->IJ,heap_alloc_old->IO,Ending->Ja,results_none->Jq,MemPlace->JD,DataW->JO,Program->JT
open List renaming getElem?_eq_getElem->Hd,length_append->Hx,length_cons->Hy,getD_eq_getElem?_getD->Ib,mem_of_find?_eq_some->Ii,replicate->Ik,suffix_cons->Iz,mem_cons->IR,getElem_mem->IU,getD_cons_zero->I2,getD_cons_succ->I3,length_nil->I8,drop_eq_getElem_cons->Jd,ext_getElem?->JK,idxOf_append->Kz
open Go.RowKit renaming Below->Hf,intOf->Ih,wrap64->Io
open Go.Lib renaming hid->Hg,atoiAll->J9
open Go.RowKit.Below renaming refl->Hi
open Go.World renaming cell?_of_block->Ho,cell?->J7,frozen?->Ki
open Exists renaming intro->Hv
open Go.Instr renaming lookup->Ku
open Int renaming toNat_natCast->IE
open Go.AllReadyH renaming cons->Js
open Go.Ending renaming returned->Jx
open Go.Maps renaming size->Kb,has->Kr
open Go.WideAt renaming IsKeyLit->Kl
open Go.ChangeShapes Go.WideShapes Go.ChangeAt Go.RowKit Go.Maps
theorem n5 {P:JT}{K:Il}{R:He->Option (JO Unit × List JD)}{w:G9}{b n:Nat}{D:JO Unit}(h:w.ownsMap P K R b n D):w.ownsMap P K R b (Kb D) D:=by
 obtain⟨es,clock,hb,F,hs,rfl⟩:=h;exact⟨es,clock,hb,F,by simp[Kb,length_sorted],rfl⟩
theorem kZ {P:JT}{K:Il}{R:He->Option (JO Unit × List JD)}{w w':G9}{o o':Nat->Nat}{I:Nat->Prop}{b n:Nat}{D:JO Unit}(h:w.ownsMap P K R b n D)(s:as I w o w' o')(hi:¬I (o b)):w'.ownsMap P K R b n D:=by
 have hlt:=h.lt;obtain⟨es,clock,hb,F,hs,hD⟩:=h;exact⟨es,clock,(s.block b hlt hi).trans hb,F,hs,hD⟩
theorem mv {w w':G9}{o:Nat->Nat}{b i:Nat}(h:w.mapTurned w' b)(hb:o b=i):as (λk=>k=i) w o w' o :=
 let g:=h.grown
 ⟨g.os,g.tape,g.output,g.size,λ_ _=>rfl,λk hk hn=>g.block k hk (λe=>hn (by cases e;exact hb))⟩
def mR:He->Option (JO Unit × List JD)
 | .int .i64 a=>G1 (.lit (.int .i64 a),[])
 | _=>G0
theorem n4 {v:He}{a:Int}{ps:List JD}(h:mR v=G1 (.lit (.int .i64 a),ps)):v=.int .i64 a:=by
 unfold mR at h;split at h
 ·simp at h;rw[h.1]
 ·cases h
theorem nC {v:He}{y:JO Unit × List JD}(h:mR v=G1 y):∃a,v=.int .i64 a:=by
 unfold mR at h;split at h
 ·exact⟨_,rfl⟩
 ·cases h
theorem rP (w:G9):(zeroValue 3).run G5 w=.ok (.int .i64 0) w:=by kernel_rfl
theorem nW:Keyed G5 3:=int_keyed Jk
theorem nL:Keyed G5 9:=string_keyed Je
theorem Fm (k:Int)(h:-9223372036854775808<=k/\k<=9223372036854775807):keyOf G5 3 (.int .i64 k)=G1 (.int .i64 k):=keyOf_int_mk Jk (WalkArith.wf_i64 (by have:=h.1;have:=h.2;omega))
theorem FG (x:List UInt8)(h:x.length<=Hu):keyOf G5 9 (stv x)=G1 (.string x):=by
 have:=WideMaps.keyOf_string_mk (P:=G5) Je (s:=⟨x.toArray⟩) (by rw[show (⟨x.toArray⟩:ByteArray).size=x.toArray.size from rfl];simpa using h)
 simpa using this
theorem wW {α:Type}[BEq α][LawfulBEq α]{l:List α}{x:α}(h:x ∉ l):(l++[x]).idxOf x=l.length:=by
 rw[Kz,if_neg h];simp
theorem vW {α:Type}[BEq α][LawfulBEq α]{l:List α}{x y:α}(h:y ∈ l):(l++[x]).idxOf y=l.idxOf y:=by
 rw[Kz,if_pos h]
theorem mI {α:Type}[BEq α][LawfulBEq α]{l:List α}{x:α}(h:x ∉ l):l.idxOf x=l.length:=List.idxOf_eq_length h
def MpC (w:G9)(o:Nat->Nat)(i b:Nat)(l:List (Int)):Prop :=
 ∃D:JO Unit,w.ownsMap G5 3 mR b l.length D/\Kb D=l.length/\o b=i /\
  ∀ k:Int,Kr D (.int .i64 k)=decide (k ∈ l)/\(k ∈ l->D.atKey (.int .i64 k) (.lit (.int .i64 0))=.lit (.int .i64 (l.idxOf k:Nat)))
theorem MpC.step {I:Nat->Prop}{w w':G9}{o o':Nat->Nat}{i b:Nat}{l:List (Int)}(h:MpC w o i b l)(s:as I w o w' o')(hi:¬I i):MpC w' o' i b l:=by
 obtain⟨D,h1,h2,h3,h4⟩:=h;exact⟨D,kZ h1 s (by rw[h3];exact hi),h2,(s.lab b h1.lt).trans h3,h4⟩
theorem MpC.made (w:G9)(o:Nat->Nat)(i:Nat):MpC (w.alloc (.map #[] 0)) (dQ w o i) i w.heap.size [] :=
 ⟨.map [],World.ownsMap_made _ _ _ _,rfl,dY (G4 _),λk=>⟨by simp[Kr],λh=>by simp at h⟩⟩
theorem MpC.look {w:G9}{o:Nat->Nat}{i b:Nat}{l:List (Int)}(h:MpC w o i b l)(k:Int)(hk:-9223372036854775808<=k/\k<=9223372036854775807)(hm:k ∈ l) :
  (Ku 87 (.map (G1 b)) (.int .i64 k) true).run G5 w=.ok (.tuple #[.int .i64 (l.idxOf k:Nat),.bool true]) w:=by
 obtain⟨D,h1,h2,h3,h4⟩:=h;obtain⟨c,ps,hr,hc⟩:=h1.look_ok nW Tryz.underlying87 (rP w) (zd:=.lit (.int .i64 0)) (zp:=[]) rfl (Fm k hk);rw[(h4 k).2 hm] at hc;rw[(h4 k).1,n4 hc,decide_eq_true hm] at hr;exact hr
theorem MpC.miss {w:G9}{o:Nat->Nat}{i b:Nat}{l:List (Int)}(h:MpC w o i b l)(k:Int)(hk:-9223372036854775808<=k/\k<=9223372036854775807)(hm:k ∉ l) :
  ∃x:Int,(Ku 87 (.map (G1 b)) (.int .i64 k) true).run G5 w=.ok (.tuple #[.int .i64 x,.bool false]) w:=by
 obtain⟨D,h1,h2,h3,h4⟩:=h;obtain⟨c,ps,hr,hc⟩:=h1.look_ok nW Tryz.underlying87 (rP w) (zd:=.lit (.int .i64 0)) (zp:=[]) rfl (Fm k hk);obtain⟨x,rfl⟩:=nC hc;rw[(h4 k).1,decide_eq_false hm] at hr;exact⟨x,hr⟩
theorem MpC.put {w:G9}{o:Nat->Nat}{i b:Nat}{l:List (Int)}(h:MpC w o i b l)(k:Int)(hk:-9223372036854775808<=k/\k<=9223372036854775807)(hm:k ∉ l)(hl:l.length<=1000000000) :
  ∃w',(Instr.mapUpdate 87 (.map (G1 b)) (.int .i64 k) (.int .i64 (l.length:Nat))).run G5 w=.ok () w'/\MpC w' o i b (l++[k])/\as (λk=>k=i) w o w' o:=by
 obtain⟨D,h1,h2,h3,h4⟩:=h;obtain⟨w',hr,ho,ht⟩:=h1.store (val:=.int .i64 (l.length:Nat)) (d:=.lit (.int .i64 (l.length:Nat))) (ps:=[]) nW Tryz.underlying87 (by unfold Hu;omega) (Fm k hk) rfl;have hsz:Kb (D.put (.int .i64 k) (.lit (.int .i64 (l.length:Nat))))=l.length+1:=by
  rw[size_put (h1.tidy nW),h2,(h4 k).1,decide_eq_false hm];simp
 have ho':=n5 ho;rw[hsz] at ho';refine⟨w',hr,⟨_,by rw[Hx];exact ho',by rw[hsz,Hx];rfl,h3,λy=>?_⟩,mv ht h3⟩;by_cases e:y=k
 ·subst e;rw[has_put_same h1.isMap (show Kl (.int .i64 y) from trivial),atKey_put_same h1.isMap (show Kl (.int .i64 y) from trivial),wW hm];exact⟨by simp,λ_=>rfl⟩
 ·have hne:Lit.int .i64 y≠Lit.int .i64 k:=λh=>e (by simpa using h);rw[has_put_other hne,atKey_put_other hne,(h4 y).1];refine⟨by simp[e],λhy=>?_⟩;have hy2:y ∈ l:=by simpa [e] using hy
  rw[vW hy2];exact(h4 y).2 hy2
def MpS (w:G9)(o:Nat->Nat)(i b:Nat)(l:List (List UInt8)):Prop :=
 ∃D:JO Unit,w.ownsMap G5 9 mR b l.length D/\Kb D=l.length/\o b=i /\
  ∀ k:List UInt8,Kr D (.string k)=decide (k ∈ l)/\(k ∈ l->D.atKey (.string k) (.lit (.int .i64 0))=.lit (.int .i64 (l.idxOf k:Nat)))
theorem MpS.step {I:Nat->Prop}{w w':G9}{o o':Nat->Nat}{i b:Nat}{l:List (List UInt8)}(h:MpS w o i b l)(s:as I w o w' o')(hi:¬I i):MpS w' o' i b l:=by
 obtain⟨D,h1,h2,h3,h4⟩:=h;exact⟨D,kZ h1 s (by rw[h3];exact hi),h2,(s.lab b h1.lt).trans h3,h4⟩
theorem MpS.made (w:G9)(o:Nat->Nat)(i:Nat):MpS (w.alloc (.map #[] 0)) (dQ w o i) i w.heap.size [] :=
 ⟨.map [],World.ownsMap_made _ _ _ _,rfl,dY (G4 _),λk=>⟨by simp[Kr],λh=>by simp at h⟩⟩
theorem MpS.look {w:G9}{o:Nat->Nat}{i b:Nat}{l:List (List UInt8)}(h:MpS w o i b l)(k:List UInt8)(hk:k.length<=Hu)(hm:k ∈ l) :
  (Ku 88 (.map (G1 b)) (stv k) true).run G5 w=.ok (.tuple #[.int .i64 (l.idxOf k:Nat),.bool true]) w:=by
 obtain⟨D,h1,h2,h3,h4⟩:=h;obtain⟨c,ps,hr,hc⟩:=h1.look_ok nL Tryz.underlying88 (rP w) (zd:=.lit (.int .i64 0)) (zp:=[]) rfl (FG k hk);rw[(h4 k).2 hm] at hc;rw[(h4 k).1,n4 hc,decide_eq_true hm] at hr;exact hr
theorem MpS.miss {w:G9}{o:Nat->Nat}{i b:Nat}{l:List (List UInt8)}(h:MpS w o i b l)(k:List UInt8)(hk:k.length<=Hu)(hm:k ∉ l) :
  ∃x:Int,(Ku 88 (.map (G1 b)) (stv k) true).run G5 w=.ok (.tuple #[.int .i64 x,.bool false]) w:=by
 obtain⟨D,h1,h2,h3,h4⟩:=h;obtain⟨c,ps,hr,hc⟩:=h1.look_ok nL Tryz.underlying88 (rP w) (zd:=.lit (.int .i64 0)) (zp:=[]) rfl (FG k hk);obtain⟨x,rfl⟩:=nC hc;rw[(h4 k).1,decide_eq_false hm] at hr;exact⟨x,hr⟩
theorem MpS.put {w:G9}{o:Nat->Nat}{i b:Nat}{l:List (List UInt8)}(h:MpS w o i b l)(k:List UInt8)(hk:k.length<=Hu)(hm:k ∉ l)(hl:l.length<=1000000000) :
  ∃w',(Instr.mapUpdate 88 (.map (G1 b)) (stv k) (.int .i64 (l.length:Nat))).run G5 w=.ok () w'/\MpS w' o i b (l++[k])/\as (λk=>k=i) w o w' o:=by
 obtain⟨D,h1,h2,h3,h4⟩:=h;obtain⟨w',hr,ho,ht⟩:=h1.store (val:=.int .i64 (l.length:Nat)) (d:=.lit (.int .i64 (l.length:Nat))) (ps:=[]) nL Tryz.underlying88 (by unfold Hu;omega) (FG k hk) rfl;have hsz:Kb (D.put (.string k) (.lit (.int .i64 (l.length:Nat))))=l.length+1:=by
  rw[size_put (h1.tidy nL),h2,(h4 k).1,decide_eq_false hm];simp
 have ho':=n5 ho;rw[hsz] at ho';refine⟨w',hr,⟨_,by rw[Hx];exact ho',by rw[hsz,Hx];rfl,h3,λy=>?_⟩,mv ht h3⟩;by_cases e:y=k
 ·subst e;rw[has_put_same h1.isMap (show Kl (.string y) from trivial),atKey_put_same h1.isMap (show Kl (.string y) from trivial),wW hm];exact⟨by simp,λ_=>rfl⟩
 ·have hne:Lit.string y≠Lit.string k:=λh=>e (by simpa using h);rw[has_put_other hne,atKey_put_other hne,(h4 y).1];refine⟨by simp[e],λhy=>?_⟩;have hy2:y ∈ l:=by simpa [e] using hy
  rw[vW hy2];exact(h4 y).2 hy2
open Go.RowKit
theorem jU (n:Int)(h1:-9223372036854775808<=n)(h2:n<=9223372036854775807):Io n=n:=by
 unfold Io;omega
theorem Cb (x y:Int)(h1:0<=x)(h2:x<68719476736)(h3:0<=y)(h4:y<268435456):bits .or .u64 (x*268435456) y=x*268435456+y:=by
 rw[u64_or _ _ (by omega) (by omega) (by omega) (by omega),nat_join 28 _ _ (by omega) (by omega)];omega
theorem CP (o a b:Int)(h1:0<=o)(h2:o<=255)(h3:0<=a)(h4:a<=268435455)(h5:0<=b)(h6:b<=268435455) :
  bits .or .u64 (bits .or .u64 (o*72057594037927936) (a*268435456)) b=(o*268435456+a)*268435456+b:=by
 have e:bits .or .u64 (o*72057594037927936) (a*268435456)=(o*268435456+a)*268435456:=by
  rw[u64_or _ _ (by omega) (by omega) (by omega) (by omega),nat_join 56 _ _ (by omega) (by omega)];omega
 rw[e,Cb _ _ (by omega) (by omega) h5 (by omega)]
theorem AY (u:Int)(h1:0<=u)(h2:u<18446744073709551616):Io (bits .and .u64 (u / 72057594037927936) 255)=u / 72057594037927936:=by
 rw[u64_and _ _ (by omega) (by omega) (by omega) (by omega),show (255:Int).toNat=255 from rfl,nat_mask8,jU _ (by omega) (by omega)];omega
theorem oe (x:Nat):x &&& 268435455=x % 268435456:=Nat.and_two_pow_sub_one_eq_mod x 28
theorem zW (u:Int)(h1:0<=u)(h2:u<18446744073709551616):Io (bits .and .u64 (u / 268435456) 268435455)=u / 268435456 % 268435456:=by
 rw[u64_and _ _ (by omega) (by omega) (by omega) (by omega),show (268435455:Int).toNat=268435455 from rfl,oe,jU _ (by omega) (by omega)];omega
theorem AT (u:Int)(h1:0<=u)(h2:u<18446744073709551616):Io (bits .and .u64 u 268435455)=u % 268435456:=by
 rw[u64_and _ _ (by omega) (by omega) (by omega) (by omega),show (268435455:Int).toNat=268435455 from rfl,oe,jU _ (by omega) (by omega)];omega
open Go.ChangeShapes Go.WideShapes Go.ChangeAt Go.RowKit
theorem gTab : Tryz.prog.globalNamed "isthmus/pack.fields" = G1 2 := by kernel_rfl
theorem Al:(Tryz.prog.globals[2]?).map (·.type)=G1 223:=by kernel_rfl
theorem Af:Tryz.prog.cellsOf 223=6:=by kernel_rfl
theorem pi:Tryz.prog.cellsOf 222=2:=by kernel_rfl
theorem yV:Tryz.prog.cellsOf 175=1:=by kernel_rfl
theorem tJ:Tryz.prog.cellsOf 54=1:=by kernel_rfl
def Tab (w:G9):Prop :=
 w.cell? ⟨2,0,G0⟩=G1 (.int .u64 56)/\w.cell? ⟨2,1,G0⟩=G1 (.int .u64 255)/\w.cell? ⟨2,2,G0⟩=G1 (.int .u64 28) /\
 w.cell? ⟨2,3,G0⟩=G1 (.int .u64 268435455)/\w.cell? ⟨2,4,G0⟩=G1 (.int .u64 0)/\w.cell? ⟨2,5,G0⟩=G1 (.int .u64 268435455)/\2<w.heap.size
theorem Tab.below {w w':G9}(h:Tab w)(hb:Hf w.heap.size w w'):Tab w':=by
 obtain⟨h0,h1,h2,h3,h4,h5,hs⟩:=h;refine⟨?_,?_,?_,?_,?_,?_,Hh hs hb.size⟩
 ·exact(hb.cell (p:=⟨2,0,G0⟩) hs).trans h0
 ·exact(hb.cell (p:=⟨2,1,G0⟩) hs).trans h1
 ·exact(hb.cell (p:=⟨2,2,G0⟩) hs).trans h2
 ·exact(hb.cell (p:=⟨2,3,G0⟩) hs).trans h3
 ·exact(hb.cell (p:=⟨2,4,G0⟩) hs).trans h4
 ·exact(hb.cell (p:=⟨2,5,G0⟩) hs).trans h5
theorem ko (w:G9)(n:Nat):Hf w.heap.size w (w.drewN n):=by
 have key:∀ (n:Nat) (v:G9),Hf w.heap.size w v->Hf w.heap.size w (v.drewN n):=by
  intro n
  induction n with
  | zero=>intro v h;exact h
  | succ n ih=>intro v h;exact(ih v h).drew
 exact key n w (Hi _ _)
theorem Ec {a b c:G9}(h:Hf a.heap.size a b)(k:Hf b.heap.size b c):Hf a.heap.size a c:=h.trans (k.mono h.size)
theorem yN (n:Int)(w:G9)(hT:Tab w)(h1:0<=n)(h2:n<=255) :
  Hn G5 134 #[.int .i64 0,.int .i64 n] w λe w'=>e=.returned (.bool true)/\w'=w:=by
 have hc:=hT.2.1;go_enter Tryz.func134,Tryz.ntmps134;go_wp2;go_ret;exact⟨eS (by simp;try omega),rfl⟩
theorem yh (n:Int)(w:G9)(hT:Tab w)(h1:0<=n)(h2:n<=268435455) :
  Hn G5 134 #[.int .i64 1,.int .i64 n] w λe w'=>e=.returned (.bool true)/\w'=w:=by
 have hc:=hT.2.2.2.1;go_enter Tryz.func134,Tryz.ntmps134;go_wp2;go_ret;exact⟨eS (by simp;try omega),rfl⟩
theorem xA (n:Int)(w:G9)(hT:Tab w)(h1:0<=n)(h2:n<=268435455) :
  Hn G5 134 #[.int .i64 2,.int .i64 n] w λe w'=>e=.returned (.bool true)/\w'=w:=by
 have hc:=hT.2.2.2.2.2.1;go_enter Tryz.func134,Tryz.ntmps134;go_wp2;go_ret;exact⟨eS (by simp;try omega),rfl⟩
theorem lay0 (n:Int)(w:G9)(hT:Tab w)(h1:0<=n)(h2:n<=255) :
  Hn G5 135 #[.int .i64 0,.int .i64 n] w λe w'=>e=.returned (.int .u64 (n*72057594037927936))/\w'=w:=by
 have hc:=hT.1;go_enter Tryz.func135,Tryz.ntmps135;go_wp2;go_ret;exact⟨rfl,rfl⟩
theorem lay1 (n:Int)(w:G9)(hT:Tab w)(h1:0<=n)(h2:n<=268435455) :
  Hn G5 135 #[.int .i64 1,.int .i64 n] w λe w'=>e=.returned (.int .u64 (n*268435456))/\w'=w:=by
 have hc:=hT.2.2.1;go_enter Tryz.func135,Tryz.ntmps135;go_wp2;go_ret;exact⟨rfl,rfl⟩
theorem lay2 (n:Int)(w:G9)(hT:Tab w)(h1:0<=n)(h2:n<=268435455) :
  Hn G5 135 #[.int .i64 2,.int .i64 n] w λe w'=>e=.returned (.int .u64 n)/\w'=w:=by
 have hc:=hT.2.2.2.2.1;go_enter Tryz.func135,Tryz.ntmps135;go_wp2;go_ret;exact⟨nY (by simp),rfl⟩
theorem GW (u:Int)(w:G9)(hT:Tab w)(h1:0<=u)(h2:u<18446744073709551616) :
  Hn G5 196 #[.int .i64 0,.int .u64 u] w λe w'=>e=.returned (.int .i64 (u / 72057594037927936))/\Hf w.heap.size w w':=by
 have hc:=hT.1;have hd:=hT.2.1;go_enter Tryz.func196,Tryz.ntmps196;go_wp2
 go_quiet (fail)
 go_wp2;go_ret;exact⟨nY (AY u h1 h2),ko _ _⟩
theorem GH (u:Int)(w:G9)(hT:Tab w)(h1:0<=u)(h2:u<18446744073709551616) :
  Hn G5 196 #[.int .i64 1,.int .u64 u] w λe w'=>e=.returned (.int .i64 (u / 268435456 % 268435456))/\Hf w.heap.size w w':=by
 have hc:=hT.2.2.1;have hd:=hT.2.2.2.1;go_enter Tryz.func196,Tryz.ntmps196;go_wp2
 go_quiet (fail)
 go_wp2;go_ret;exact⟨nY (zW u h1 h2),ko _ _⟩
theorem Gj (u:Int)(w:G9)(hT:Tab w)(h1:0<=u)(h2:u<18446744073709551616) :
  Hn G5 196 #[.int .i64 2,.int .u64 u] w λe w'=>e=.returned (.int .i64 (u % 268435456))/\Hf w.heap.size w w':=by
 have hc:=hT.2.2.2.2.1;have hd:=hT.2.2.2.2.2.1;go_enter Tryz.func196,Tryz.ntmps196;go_wp2
 go_quiet (fail)
 go_wp2;go_ret;exact⟨nY (by simpa using AT u h1 h2),ko _ _⟩
theorem DN {k l:IntKind}{a b c:Int}(h:a=b):Jx (.tuple #[.int k a,.int l c])=.returned (.tuple #[.int k b,.int l c]):=by rw[h]
theorem sI (o a b:Int)(w:G9)(hT:Tab w)(h1:0<=o)(h2:o<=255)(h3:0<=a)(h4:a<=268435455)(h5:0<=b)(h6:b<=268435455) :
  Hn G5 86 #[.int .i64 o,.int .i64 a,.int .i64 b] w λe w' =>
   e=.returned (.tuple #[.int .u64 ((o*268435456+a)*268435456+b),.int .i64 0])/\w'=w:=by
 go_enter Tryz.func86,Tryz.ntmps86;go_wp2_with fail;refine(yN o w hT h1 h2).mono ?_;rintro e w1 ⟨rfl,rfl⟩;go_wp2_with fail;refine(yh a _ hT h3 h4).mono ?_;rintro e w1 ⟨rfl,rfl⟩;go_wp2_with fail;refine(xA b _ hT h5 h6).mono ?_;rintro e w1 ⟨rfl,rfl⟩;go_wp2_with fail;refine(lay0 o _ hT h1 h2).mono ?_;rintro e w1 ⟨rfl,rfl⟩;go_wp2_with fail;refine(lay1 a _ hT h3 h4).mono ?_;rintro e w1 ⟨rfl,rfl⟩;go_wp2_with fail;refine(lay2 b _ hT h5 h6).mono ?_;rintro e w1 ⟨rfl,rfl⟩;go_wp2;go_ret2;exact⟨DN (CP o a b h1 h2 h3 h4 h5 h6),rfl⟩
theorem yk (u:Int)(w:G9)(hT:Tab w)(h1:0<=u)(h2:u<18446744073709551616) :
  Hn G5 146 #[.int .u64 u] w λe w' =>
   e=.returned (.tuple #[.int .i64 (u / 72057594037927936),.int .i64 (u / 268435456 % 268435456),.int .i64 (u % 268435456)])/\Hf w.heap.size w w':=by
 go_enter Tryz.func146,Tryz.ntmps146;go_wp2_with fail;refine(GW u w hT h1 h2).mono ?_;rintro e w1 ⟨rfl,hb1⟩;have hT1:=hT.below hb1;go_wp2_with fail;refine(GH u w1 hT1 h1 h2).mono ?_;rintro e w2 ⟨rfl,hb2⟩;have hT2:=hT1.below hb2;go_wp2_with fail;refine(Gj u w2 hT2 h1 h2).mono ?_;rintro e w3 ⟨rfl,hb3⟩;go_wp2;go_ret3;exact⟨rfl,Ec (Ec hb1 hb2) hb3⟩
abbrev I17:Nat->Prop:=λk=>1<=k/\k<=7
theorem fC {i:Nat}(h:1<=i/\i<=7):∀ k,k=i->I17 k:=λk hk=>by subst hk;exact h
def i9 (x:Wo):Int:=((x.op:Int)*268435456+(x.a:Int))*268435456+(x.b:Int)
def Wo.ok (x:Wo):Prop:=x.op<=255/\x.a<=268435455/\x.b<=268435455
theorem Cw {x:Wo}(h:x.ok):0<=i9 x/\i9 x<18446744073709551616:=by
 obtain⟨h1,h2,h3⟩:=h;unfold i9;omega
theorem uk {x:Wo}(h:x.ok):i9 x / 72057594037927936=(x.op:Int)/\i9 x / 268435456 % 268435456=(x.a:Int)/\i9 x % 268435456=(x.b:Int):=by
 obtain⟨h1,h2,h3⟩:=h;unfold i9;omega
def woV (l:List Wo):List He:=l.map λx=>.int .u64 (i9 x)
def eiV (l:List Int):List He:=l.map (.int .i64 ·)
def esV (l:List (List UInt8)):List He:=l.map stv
structure EmW (w:G9)(o:Nat->Nat)(rb:Nat)(lv:He)(s:Em):Prop where
 ok:∀ x ∈ s.ws,x.ok
 ci:∀ n ∈ s.cs,-9223372036854775808<=n/\n<=9223372036854775807
 ni:∀ x ∈ s.ns,x.length<=Hu
 mem:∃vw vc vn vk mc mn,Blk w o 1 rb (.cells #[vw,vc,vn,vk,.map (G1 mc),.map (G1 mn),lv,.int .i64 (s.dp:Nat)] 90) /\
  Row w o 2 54 1 vw s.ws.length (woV s.ws)/\Row w o 3 3 1 vc s.cs.length (eiV s.cs)/\Row w o 4 9 1 vn s.ns.length (esV s.ns)/\Row w o 5 3 1 vk s.ks.length (eiV s.ks) /\
  MpC w o 6 mc s.cs/\MpS w o 7 mn s.ns
theorem EmW.step {I:Nat->Prop}{w w':G9}{o o':Nat->Nat}{rb:Nat}{lv:He}{s:Em}(h:EmW w o rb lv s)(x:as I w o w' o')(hi:∀ k,I17 k->¬I k):EmW w' o' rb lv s:=by
 obtain⟨h1,h2,h3,vw,vc,vn,vk,mc,mn,q0,q1,q2,q3,q4,q5,q6⟩:=h;exact⟨h1,h2,h3,vw,vc,vn,vk,mc,mn,q0.step x (hi 1 (by decide)),q1.step x (hi 2 (by decide)),q2.step x (hi 3 (by decide)),q3.step x (hi 4 (by decide)),q4.step x (hi 5 (by decide)),q5.step x (hi 6 (by decide)),q6.step x (hi 7 (by decide))⟩
theorem EmW.below {w w':G9}{o:Nat->Nat}{rb:Nat}{lv:He}{s:Em}(h:EmW w o rb lv s)(b:Hf w.heap.size w w'):EmW w' o rb lv s :=
 h.step (as.ofBelow (I:=λ_=>False) o b) (λ_ _=>id)
theorem ik {w:G9}{b:Nat}{x0 x1 x2 x3 x4 x5 x6 x7:He}{t:Il}(h:w.heap[b]?=G1 (.cells #[x0,x1,x2,x3,x4,x5,x6,x7] t)):(w.cell? ⟨b,0,G0⟩=G1 x0/\w.cell? ⟨b,1,G0⟩=G1 x1/\w.cell? ⟨b,2,G0⟩=G1 x2/\w.cell? ⟨b,3,G0⟩=G1 x3/\w.cell? ⟨b,4,G0⟩=G1 x4/\w.cell? ⟨b,5,G0⟩=G1 x5/\w.cell? ⟨b,6,G0⟩=G1 x6/\w.cell? ⟨b,7,G0⟩=G1 x7)/\∀ j,w.frozen? ⟨b,j,G0⟩=false:=by
 refine⟨⟨?_,?_,?_,?_,?_,?_,?_,?_⟩,λj=>?_⟩<;>simp[J7,Ki,h]
structure EmX (w:G9)(o:Nat->Nat)(lv:He)(ls:List Int):Prop where
 tab:Tab w
 tl:o 2=0
 bar:∀ k:Nat,k<25->w.cell? ⟨0,k,G0⟩=G1 (.int .i64 ([0,0,0,0,0,0,4,5,6,7,8,9,10,0,0,0,0,0,0,0,0,0,20,0,22].getD k 0))
 bl:o 0=0/\0<w.heap.size
 lvs:∃ao cap,lv=.slice ao ls.length cap/\(ls=[]\/∃b off,ao=G1 ⟨b,off,G0⟩/\o b=0/\b<w.heap.size/\∀ j x,ls[j]?=G1 x->w.cell? ⟨b,off+j,G0⟩=G1 (.int .i64 x))
theorem EmX.step {I:Nat->Prop}{w w':G9}{o o':Nat->Nat}{lv:He}{ls:List Int}(h:EmX w o lv ls)(x:as I w o w' o')(hi:¬I 0):EmX w' o' lv ls:=by
 obtain⟨h1,h2,h3,⟨h4,h5⟩,ao,cap,h6,h7⟩:=h;have hs:2<w.heap.size:=h1.2.2.2.2.2.2;have hb:=x.block 2 hs (by rw[h2];exact hi);have hb2:=x.block 0 h5 (by rw[h4];exact hi);refine⟨?_,(x.lab _ hs).trans h2,λk hk=>(Ho (a:=⟨0,k,G0⟩) hb2).trans (h3 k hk),⟨(x.lab _ h5).trans h4,Hh h5 x.size⟩,ao,cap,h6,?_⟩
 ·obtain⟨e0,e1,e2,e3,e4,e5,e6⟩:=h1;exact⟨(Ho (a:=⟨2,0,G0⟩) hb).trans e0,(Ho (a:=⟨2,1,G0⟩) hb).trans e1,(Ho (a:=⟨2,2,G0⟩) hb).trans e2,(Ho (a:=⟨2,3,G0⟩) hb).trans e3,(Ho (a:=⟨2,4,G0⟩) hb).trans e4,(Ho (a:=⟨2,5,G0⟩) hb).trans e5,Hh e6 x.size⟩
 ·rcases h7 with h7|⟨b,off,e1,e2,e3,e4⟩
  ·exact .inl h7
  ·exact .inr ⟨b,off,e1,(x.lab b e3).trans e2,Hh e3 x.size,λj y hy=>(Ho (a:=⟨b,off+j,G0⟩) (x.block b e3 (by rw[e2];exact hi))).trans (e4 j y hy)⟩
theorem EmX.below {w w':G9}{o:Nat->Nat}{lv:He}{ls:List Int}(h:EmX w o lv ls)(b:Hf w.heap.size w w'):EmX w' o lv ls:=h.step (as.ofBelow (I:=λ_=>False) o b) id
def mW (w:G9)(o:Nat->Nat)(rb:Nat)(lv:He)(s:Em)(v:He)(e:Ja)(w':G9):Prop:=e=.returned v/\∃o',EmW w' o' rb lv s/\as I17 w o w' o'
abbrev SnO (w:G9)(o:Nat->Nat)(f:Fs)(ao:Option Hw):Prop:=SlN w (λb=>o b=0) f ao
theorem SlN.stepO {I:Nat->Prop}{w w':G9}{o o':Nat->Nat}{f:Fs}{ao:Option Hw}(h:SnO w o f ao)(x:as I w o w' o')(hi:¬I 0):SnO w' o' f ao :=
 h.mono (λk hk hl=>x.block k hl (by rw[hk];exact hi)) x.size (λk hk hl=>(x.lab k hl).trans hk)
theorem vB:(Tryz.prog.info? 54).map (λi=>(i.zero,i.size,i.bytes))=G1 (G1 (.int .u64 0),1,8):=by kernel_rfl
theorem qW:(Tryz.prog.info? 3).map (λi=>(i.zero,i.size,i.bytes))=G1 (G1 (.int .i64 0),1,8):=by kernel_rfl
theorem uD:(Tryz.prog.info? 9).map (λi=>(i.zero,i.size,i.bytes))=G1 (G1 (.string ⟨#[]⟩),1,16):=by kernel_rfl
theorem ku (v:He)(h:v.oneCell'=true):∀ u ∈ [v],u.oneCell'=true:=by
 intro u hu;simp at hu;subst hu;exact h
theorem noF:∀ k,I17 k->¬(λ_:Nat=>False) k:=λ_ _=>id
theorem fp (op a b:Nat)(w:G9)(o:Nat->Nat)(rb:Nat)(lv:He)(ls:List Int)(s:Em)(hop:op<=255)(ha:a<=268435455)(hb:b<=268435455)(hm:s.mes<=100000000)(X:EmX w o lv ls)(h:EmW w o rb lv s) :
  Hn G5 41 #[.pointer (G1 ⟨rb,0,G0⟩),.int .i64 (op:Nat),.int .i64 (a:Nat),.int .i64 (b:Nat)] w (mW w o rb lv (s.lay op a b) (.int .i64 (s.ws.length:Nat))):=by
 obtain⟨h1,h2,h3,vw,vc,vn,vk,mc,mn,q0,q1,q2,q3,q4,q5,q6⟩:=h;obtain⟨ii,i1,i2,i3,i4⟩:=eo vB;obtain⟨⟨c0,c1,c2,c3,c4,c5,c6,c7⟩,cf⟩:=ik q0.1;have HW:=sI (op:Int) (a:Int) (b:Int) w X.tab (by omega) (by omega) (by omega) (by omega) (by omega) (by omega);have hl:s.ws.length<=100000000:=by unfold Em.mes at hm;omega
 have hx:Hid ((⟨op,a,b⟩:Wo).ok):=⟨hop,ha,hb⟩;have hn1:s.ws.length+1<=Hu:=by unfold Hu;omega
 have hn2:(s.ws.length+1)*8<=140737488355328:=by omega
 have he:(((op:Int)*268435456+(a:Int))*268435456+(b:Int))=i9 ⟨op,a,b⟩:=rfl;rw[he] at HW;have hwv:Hid (woV (s.lay op a b).ws=woV s.ws++[.int .u64 (i9 ⟨op,a,b⟩)]):=by show _=_;simp[woV,Em.lay]
 generalize i9 ⟨op,a,b⟩=ev at *;have q1':=q1.step (as.ofBelow (I:=λ_=>False) o (b1 w (.cells #[.int .u64 ev] 54))) id;clear he X hm;go_enter Tryz.func41,Tryz.ntmps41;go_wp2_with (first|(go_at_call 86;refine HW.mono ?_;rintro e w1 ⟨rfl,hww⟩;subst hww)|(at_builtin;refine eb rfl (.tmp 23) (.tmp 25) 39 rfl 54 ii (.int .u64 0) 1 8 Tryz.underlying39 i1 i2 i3 i4 rfl (by decide) o 2 vw s.ws.length (woV s.ws) rfl q1' ⟨w1.heap.size,0,G0⟩ 1 1 [.int .u64 ev] rfl rfl (fM _ _ _) (ku _ rfl) (by decide) hn1 hn2 ?_)|go_in);intro g1 cp w2 o2 R2 S2;have s1:as (λk=>k=2) w1 o w2 o2:=(as.ofBelow o (b1 w1 _)).trans S2;have p0:=q0.step s1 (by decide);have p2:=q2.step s1 (by decide);have p3:=q3.step s1 (by decide);have p4:=q4.step s1 (by decide);have p5:=q5.step s1 (by decide);have p6:=q6.step s1 (by decide);obtain⟨⟨d0,d1,d2,d3,d4,d5,d6,d7⟩,df⟩:=ik p0.1;have df0:=df 0;have s3:as (λk=>k=1) w2 o2 (w2.setCell ⟨rb,0,G0⟩ (.slice (G1 ⟨g1,0,G0⟩) (s.ws.length+1) cp)) o2:=fo _ w2 o2 ⟨rb,0,G0⟩ _ p0.2;have HF:Hid (EmW (w2.setCell ⟨rb,0,G0⟩ (.slice (G1 ⟨g1,0,G0⟩) (s.ws.length+1) cp)) o2 rb lv (s.lay op a b)/\as I17 w1 o (w2.setCell ⟨rb,0,G0⟩ (.slice (G1 ⟨g1,0,G0⟩) (s.ws.length+1) cp)) o2):=by
  refine⟨⟨λx hx2=>?_,h2,h3,_,vc,vn,vk,mc,mn,p0.set 0 _,?_,p2.step s3 (by decide),p3.step s3 (by decide),p4.step s3 (by decide),p5.step s3 (by decide),p6.step s3 (by decide)⟩,(s1.mono (fC (by decide))).trans (s3.mono (fC (by decide)))⟩
  ·rcases List.mem_append.1 hx2 with hx2|hx2
   ·exact h1 x hx2
   ·simp at hx2;rw[hx2];exact hx.out
  ·rw[hwv.out]
   have:=R2.step s3 (by decide)
   have e:(s.lay op a b).ws.length=s.ws.length+1:=by simp[Em.lay]
   rw[e];exact this
 have hsub:((s.ws.length+1:Nat):Int)-1=(s.ws.length:Int):=by omega
 clear s1 s3 R2 S2 p0 p2 p3 p4 p5 p6 q0 q1 q2 q3 q4 q5 q6 q1' HW c0 c1 c2 c3 c4 c5 c6 c7 cf;go_wp2;go_ret;exact⟨by first|rfl|(simp;done)|(congr 1;simp),o2,HF.out⟩
theorem uj (w:G9)(o:Nat->Nat)(rb:Nat)(lv:He)(s:Em)(h:EmW w o rb lv s) :
  Hn G5 189 #[.pointer (G1 ⟨rb,0,G0⟩)] w λe w'=>e=.returned (.int .i64 (s.ws.length:Nat))/\w'=w:=by
 obtain⟨h1,h2,h3,vw,vc,vn,vk,mc,mn,q0,q1,-⟩:=h;obtain⟨⟨c0,c1,c2,c3,c4,c5,c6,c7⟩,cf⟩:=ik q0.1;obtain⟨ao,cap,rfl⟩:=q1.form;clear q0 q1;go_enter Tryz.func189,Tryz.ntmps189;go_wp2;go_ret;exact⟨rfl,rfl⟩
abbrev spV (ar u:Nat):He:=.agg #[.int .i64 (ar:Nat),.int .i64 (u:Nat)]
theorem kS {w:G9}{b:Nat}{x0 x1:He}{t:Il}(h:w.heap[b]?=G1 (.cells #[x0,x1] t)):(w.cell? ⟨b,0,G0⟩=G1 x0/\w.cell? ⟨b,1,G0⟩=G1 x1)/\∀ j,w.frozen? ⟨b,j,G0⟩=false:=by
 refine⟨⟨?_,?_⟩,λj=>?_⟩<;>simp[J7,Ki,h]
theorem vb (op a b ar u:Nat)(w:G9)(o:Nat->Nat)(rb:Nat)(lv:He)(ls:List Int)(s:Em)(hop:op<=255)(ha:a<=268435455)(hb:b<=268435455)(hu:u<=1000000000)(hd:s.dp<=1000000001)(hm:s.mes<=100000000)(X:EmX w o lv ls)(h:EmW w o rb lv s) :
  Hn G5 76 #[.pointer (G1 ⟨rb,0,G0⟩),.int .i64 (op:Nat),.int .i64 (a:Nat),.int .i64 (b:Nat),spV ar u] w (mW w o rb lv (s.push op a b u) (.tuple #[])):=by
 obtain⟨w1,hw1⟩:∃w1,w1=w.alloc (.cells #[.int .i64 (ar:Nat),.int .i64 (u:Nat)] 86):=⟨_,rfl⟩;obtain⟨g,hg⟩:∃g,g=w.heap.size:=⟨_,rfl⟩;have s0:∀ {I:Nat->Prop},as I w o w1 (dQ w o 0):=λ{I}=>by rw[hw1];exact ez I w o _
 have B1:Blk w1 (dQ w o 0) 0 g (.cells #[.int .i64 (ar:Nat),.int .i64 (u:Nat)] 86):=by rw[hw1,hg];exact⟨Hc _ _,dY (G4 _)⟩
 have H1:=h.step (s0 (I:=λ_=>False)) noF;have X1:=X.step (s0 (I:=λ_=>False)) id;have S0:=s0 (I:=I17);generalize dQ w o 0=o1 at *;have HL:=fp op a b w1 o1 rb lv ls s hop ha hb hm X1 H1;have HG:=Hg hg;clear s0 h X hg H1 X1;go_enter Tryz.func76,Tryz.ntmps76;go_upto_region 1 with fail;rw[<-hw1,<-HG.out];clear hw1;go_upto_region 2 with (first|(go_at_call 41;refine HL.mono ?_;rintro e w2 ⟨rfl,o2,E2,S2⟩))
 have B2:=B1.step S2 (by decide);obtain⟨h1,h2,h3,vw,vc,vn,vk,mc,mn,q0,q1,q2,q3,q4,q5,q6⟩:=E2;have t3:as (λk=>k=1) w2 o2 (w2.setCell ⟨rb,7,G0⟩ (.int .i64 (max s.dp (u+1):Nat))).drew o2:=((as.refl _ w2 o2).setCell ⟨rb,7,G0⟩ _ q0.2).drew;have HF:Hid (EmW (w2.setCell ⟨rb,7,G0⟩ (.int .i64 (max s.dp (u+1):Nat))).drew o2 rb lv (s.push op a b u)/\as I17 w o (w2.setCell ⟨rb,7,G0⟩ (.int .i64 (max s.dp (u+1):Nat))).drew o2):=by
  have q0d:=(q0.set 7 (.int .i64 (max s.dp (u+1):Nat))).step ((as.refl (λ_=>False) _ o2).drew) id;exact⟨⟨h1,h2,h3,vw,vc,vn,vk,mc,mn,q0d,q1.step t3 (by decide),q2.step t3 (by decide),q3.step t3 (by decide),q4.step t3 (by decide),q5.step t3 (by decide),q6.step t3 (by decide)⟩,(S0.trans S2).trans (t3.mono (fC (by decide)))⟩
 obtain⟨⟨c0,c1,c2,c3,c4,c5,c6,c7⟩,cf⟩:=ik q0.1;obtain⟨⟨e0,e1⟩,-⟩:=kS B2.1;have cf7:=cf 7;have hdp:(s.lay op a b).dp=s.dp:=rfl;rw[hdp] at c7;have hmx:(if (s.dp:Int)<(u:Int)+1 then (u:Int)+1 else (s.dp:Int))=((max s.dp (u+1):Nat):Int):=by split<;>omega
 have HMX:=Hg hmx;have HMY:Hid (max (s.dp:Int) ((u:Int)+1)=((max s.dp (u+1):Nat):Int)):=by show _=_;omega
 clear t3 q0 q1 q2 q3 q4 q5 q6 B1 B2 HL S2 S0 hmx cf;go_region
 all_goals
  first|rw[HMX.out] | rw[HMY.out]
  go_end0
  exact⟨rfl,o2,HF.out⟩
theorem kQ (ar u v:Nat)(w:G9)(hu:u<=1000000000)(hv:v<=1000000000) :
  Hn G5 84 #[spV ar u,.int .i64 (v:Nat)] w λe w'=>e=.returned (spV ar (u+v))/\Hf w.heap.size w w':=by
 obtain⟨w1,hw1⟩:∃w1,w1=(w.alloc (.cells #[.int .i64 (ar:Nat),.int .i64 (u:Nat)] 86)).alloc (.cells #[.int .i64 0,.int .i64 0] 86):=⟨_,rfl⟩;obtain⟨g,hg⟩:∃g,g=w.heap.size:=⟨_,rfl⟩;have B1:Hf g w w1:=by rw[hw1,hg];exact((Hi _ w).alloc (G4 _) _).alloc (by simp) _
 have e0:w1.heap[g]?=G1 (.cells #[.int .i64 (ar:Nat),.int .i64 (u:Nat)] 86):=by rw[hw1,hg];exact(IO _ _ (by simp)).trans (Hc _ _)
 have e1:w1.heap[g+1]?=G1 (.cells #[.int .i64 0,.int .i64 0] 86):=by
  have:=Hc (w.alloc (.cells #[.int .i64 (ar:Nat),.int .i64 (u:Nat)] 86)) (.cells #[.int .i64 0,.int .i64 0] 86)
  rw[hw1,hg];simpa using this
 obtain⟨⟨c0,c1⟩,cf⟩:=kS e0;obtain⟨⟨d0,d1⟩,df⟩:=kS e1;have HG:=Hg hg;clear hg;go_enter Tryz.func84,Tryz.ntmps84;go_upto_region 1 with fail;rw[<-hw1,<-HG.out];clear hw1;have z1:=IJ _ (g+1) 1 #[.int .i64 (ar:Nat),.int .i64 0] _ (.int .i64 ((u:Int)+(v:Int))) (IJ _ (g+1) 0 _ _ (.int .i64 (ar:Nat)) ((Hl w1 ⟨g,1,G0⟩ (g+1) (.int .i64 ((u:Int)+(v:Int))) (by simp)).trans e1));obtain⟨⟨m0,m1⟩,-⟩:=kS z1;have BE:Hid (Hf g w (((w1.setCell ⟨g,1,G0⟩ (.int .i64 ((u:Int)+(v:Int)))).setCell ⟨g+1,0,G0⟩ (.int .i64 (ar:Nat))).setCell ⟨g+1,1,G0⟩ (.int .i64 ((u:Int)+(v:Int))))):=((B1.setCell (p:=⟨g,1,G0⟩) (G4 _) _).setCell (p:=⟨g+1,0,G0⟩) (by show g<=g+1;omega) _).setCell (p:=⟨g+1,1,G0⟩) (by show g<=g+1;omega) _;clear z1 B1 e0 e1;go_wp2;exact Hb (v:=spV ar (u+v)) (by simp[Hk,Tryz.results84,go_sem,m0,m1]) rfl ⟨rfl,by rw[<-HG.out];exact BE.out⟩
theorem xi (k:Int)(w:G9)(o:Nat->Nat)(rb:Nat)(lv:He)(ls:List Int)(s:Em)(hk:-9223372036854775808<=k/\k<=9223372036854775807)(hm:s.mes<=100000000)(X:EmX w o lv ls)(h:EmW w o rb lv s) :
  Hn G5 77 #[.pointer (G1 ⟨rb,0,G0⟩),.int .i64 k] w (mW w o rb lv (s.kc k) (.int .i64 (s.cs.idxOf k:Nat))):=by
 have h':=h;obtain⟨h1,h2,h3,vw,vc,vn,vk,mc,mn,q0,q1,q2,q3,q4,q5,q6⟩:=h;obtain⟨ii,i1,i2,i3,i4⟩:=eo qW;obtain⟨⟨c0,c1,c2,c3,c4,c5,c6,c7⟩,cf⟩:=ik q0.1;obtain⟨ao,cap,rfl⟩:=q2.form;have hl:s.cs.length<=100000000:=by unfold Em.mes at hm;omega
 by_cases hin:k ∈ s.cs
 ·have hr:=q5.look k hk hin;have e:s.kc k=s:=by simp[Em.kc,hin]
  rw[e];have HF:=Hg h';clear h' q0 q1 q2 q3 q4 q5 q6 e;go_enter Tryz.func77,Tryz.ntmps77;go_wp2;go_ret;exact⟨rfl,o,HF.out,as.refl _ _ _⟩
 ·obtain⟨x,hr⟩:=q5.miss k hk hin;obtain⟨w1,hr2,M1,s1⟩:=q5.put k hk hin (by omega);have hn1:s.cs.length+1<=Hu:=by unfold Hu;omega
  have hn2:(s.cs.length+1)*8<=140737488355328:=by omega
  have p0:=q0.step s1 (by decide);have pr:=(q2.step s1 (by decide)).step (as.ofBelow (I:=λ_=>False) o (b1 w1 (.cells #[.int .i64 k] 3))) id;obtain⟨⟨d0,d1,d2,d3,d4,d5,d6,d7⟩,df⟩:=ik p0.1;have HX:Hid (s.kc k=⟨s.ws,s.cs++[k],s.ns,s.ks,s.dp⟩/\s.cs.idxOf k=s.cs.length):=⟨by simp[Em.kc,hin],mI hin⟩;clear X;go_enter Tryz.func77,Tryz.ntmps77;go_wp2_with (first|(at_builtin;refine eb rfl (.tmp 35) (.tmp 37) 35 rfl 3 ii (.int .i64 0) 1 8 Iu i1 i2 i3 i4 rfl (by decide) o 3 (.slice ao s.cs.length cap) s.cs.length (eiV s.cs) rfl pr ⟨w1.heap.size,0,G0⟩ 1 1 [.int .i64 k] rfl rfl (fM _ _ _) (ku _ rfl) (by decide) hn1 hn2 ?_)|go_in);intro g1 cp w2 o2 R2 S2;have s2:as (λk=>k=3) w1 o w2 o2:=(as.ofBelow o (b1 w1 _)).trans S2;have r0:=p0.step s2 (by decide);obtain⟨⟨d0,d1,d2,d3,d4,d5,d6,d7⟩,df⟩:=ik r0.1;have df0:=df 1;have s3:as (λk=>k=1) w2 o2 (w2.setCell ⟨rb,1,G0⟩ (.slice (G1 ⟨g1,0,G0⟩) (s.cs.length+1) cp)) o2:=fo _ w2 o2 ⟨rb,1,G0⟩ _ r0.2;have HF:Hid (EmW (w2.setCell ⟨rb,1,G0⟩ (.slice (G1 ⟨g1,0,G0⟩) (s.cs.length+1) cp)) o2 rb lv (s.kc k)/\as I17 w o (w2.setCell ⟨rb,1,G0⟩ (.slice (G1 ⟨g1,0,G0⟩) (s.cs.length+1) cp)) o2):=by
   rw[HX.out.1];refine⟨⟨h1,?_,h3,vw,_,vn,vk,mc,mn,r0.set 1 _,((q1.step s1 (by decide)).step s2 (by decide)).step s3 (by decide),?_,((q3.step s1 (by decide)).step s2 (by decide)).step s3 (by decide),((q4.step s1 (by decide)).step s2 (by decide)).step s3 (by decide),(M1.step s2 (by decide)).step s3 (by decide),((q6.step s1 (by decide)).step s2 (by decide)).step s3 (by decide)⟩,((s1.mono (fC (by decide))).trans (s2.mono (fC (by decide)))).trans (s3.mono (fC (by decide)))⟩
   ·intro y hy;rcases List.mem_append.1 hy with hy|hy
    ·exact h2 y hy
    ·simp at hy;rw[hy];exact hk
   ·have:=R2.step s3 (by decide)
    have e:(s.cs++[k]).length=s.cs.length+1:=by simp
    have e2:eiV (s.cs++[k])=eiV s.cs++[.int .i64 k]:=by simp[eiV]
    rw[e,e2];exact this
  have HI:Hid (s.cs.idxOf k=s.cs.length):=HX.out.2;clear s1 s2 s3 R2 S2 p0 pr r0 q0 q1 q2 q3 q4 q5 q6 hr hr2 M1 HX;go_wp2;go_ret;exact⟨by rw[HI.out];rfl,o2,HF.out⟩
theorem Bj (k:List UInt8)(w:G9)(o:Nat->Nat)(rb:Nat)(lv:He)(ls:List Int)(s:Em)(hk:k.length<=Hu)(hm:s.mes<=100000000)(X:EmX w o lv ls)(h:EmW w o rb lv s) :
  Hn G5 133 #[.pointer (G1 ⟨rb,0,G0⟩),stv k] w (mW w o rb lv (s.kn k) (.int .i64 (s.ns.idxOf k:Nat))):=by
 have h':=h;obtain⟨h1,h2,h3,vw,vc,vn,vk,mc,mn,q0,q1,q2,q3,q4,q5,q6⟩:=h;obtain⟨ii,i1,i2,i3,i4⟩:=eo uD;obtain⟨⟨c0,c1,c2,c3,c4,c5,c6,c7⟩,cf⟩:=ik q0.1;obtain⟨ao,cap,rfl⟩:=q3.form;have hl:s.ns.length<=100000000:=by unfold Em.mes at hm;omega
 by_cases hin:k ∈ s.ns
 ·have hr:=q6.look k hk hin;have e:s.kn k=s:=by simp[Em.kn,hin]
  rw[e];have HF:=Hg h';clear h' q0 q1 q2 q3 q4 q5 q6 e;go_enter Tryz.func133,Tryz.ntmps133;go_wp2;go_ret;exact⟨rfl,o,HF.out,as.refl _ _ _⟩
 ·obtain⟨x,hr⟩:=q6.miss k hk hin;obtain⟨w1,hr2,M1,s1⟩:=q6.put k hk hin (by omega);have hn1:s.ns.length+1<=Hu:=by unfold Hu;omega
  have hn2:(s.ns.length+1)*16<=140737488355328:=by omega
  have p0:=q0.step s1 (by decide);have pr:=(q3.step s1 (by decide)).step (as.ofBelow (I:=λ_=>False) o (b1 w1 (.cells #[stv k] 9))) id;obtain⟨⟨d0,d1,d2,d3,d4,d5,d6,d7⟩,df⟩:=ik p0.1;have HX:Hid (s.kn k=⟨s.ws,s.cs,s.ns++[k],s.ks,s.dp⟩/\s.ns.idxOf k=s.ns.length):=⟨by simp[Em.kn,hin],mI hin⟩;clear X;go_enter Tryz.func133,Tryz.ntmps133;go_wp2_with (first|(at_builtin;refine eb rfl (.tmp 35) (.tmp 37) 40 rfl 9 ii (.string ⟨#[]⟩) 1 16 Ju i1 i2 i3 i4 rfl (by decide) o 4 (.slice ao s.ns.length cap) s.ns.length (esV s.ns) rfl pr ⟨w1.heap.size,0,G0⟩ 1 1 [stv k] rfl rfl (fM _ _ _) (ku _ rfl) (by decide) hn1 hn2 ?_)|go_in);intro g1 cp w2 o2 R2 S2;have s2:as (λk=>k=4) w1 o w2 o2:=(as.ofBelow o (b1 w1 _)).trans S2;have r0:=p0.step s2 (by decide);obtain⟨⟨d0,d1,d2,d3,d4,d5,d6,d7⟩,df⟩:=ik r0.1;have df0:=df 2;have s3:as (λk=>k=1) w2 o2 (w2.setCell ⟨rb,2,G0⟩ (.slice (G1 ⟨g1,0,G0⟩) (s.ns.length+1) cp)) o2:=fo _ w2 o2 ⟨rb,2,G0⟩ _ r0.2;have HF:Hid (EmW (w2.setCell ⟨rb,2,G0⟩ (.slice (G1 ⟨g1,0,G0⟩) (s.ns.length+1) cp)) o2 rb lv (s.kn k)/\as I17 w o (w2.setCell ⟨rb,2,G0⟩ (.slice (G1 ⟨g1,0,G0⟩) (s.ns.length+1) cp)) o2):=by
   rw[HX.out.1];refine⟨⟨h1,h2,?_,vw,vc,_,vk,mc,mn,r0.set 2 _,((q1.step s1 (by decide)).step s2 (by decide)).step s3 (by decide),((q2.step s1 (by decide)).step s2 (by decide)).step s3 (by decide),?_,((q4.step s1 (by decide)).step s2 (by decide)).step s3 (by decide),((q5.step s1 (by decide)).step s2 (by decide)).step s3 (by decide),(M1.step s2 (by decide)).step s3 (by decide)⟩,((s1.mono (fC (by decide))).trans (s2.mono (fC (by decide)))).trans (s3.mono (fC (by decide)))⟩
   ·intro y hy;rcases List.mem_append.1 hy with hy|hy
    ·exact h3 y hy
    ·simp at hy;rw[hy];exact hk
   ·have:=R2.step s3 (by decide)
    have e:(s.ns++[k]).length=s.ns.length+1:=by simp
    have e2:esV (s.ns++[k])=esV s.ns++[stv k]:=by simp[esV]
    rw[e,e2];exact this
  have HI:Hid (s.ns.idxOf k=s.ns.length):=HX.out.2;clear s1 s2 s3 R2 S2 p0 pr r0 q0 q1 q2 q3 q4 q5 q6 hr hr2 M1 HX;go_wp2;go_ret;exact⟨by rw[HI.out];rfl,o2,HF.out⟩
theorem eh {w:G9}{g:Nat}{ar u:Nat}(h:w.heap[g]?=G1 (.cells #[.int .i64 (ar:Nat),.int .i64 (u:Nat)] 86)):w.cell? ⟨g,0,G0⟩=G1 (.int .i64 (ar:Nat))/\w.cell? ⟨g,1,G0⟩=G1 (.int .i64 (u:Nat)):=(kS h).1
theorem fs (n:Int)(kd ar u:Nat)(w:G9)(o:Nat->Nat)(rb:Nat)(lv:He)(ls:List Int)(s:Em)(hn:-9223372036854775808<=n/\n<=9223372036854775807)(hk:kd<=268435455)(hu:u<=1000000000)(hd:s.dp<=1000000001)(hm:s.mes<=99999998)(X:EmX w o lv ls)(h:EmW w o rb lv s) :
  Hn G5 74 #[.pointer (G1 ⟨rb,0,G0⟩),.int .i64 n,.int .i64 (kd:Nat),spV ar u] w (mW w o rb lv (s.con n kd u) (.tuple #[])):=by
 obtain⟨w1,hw1⟩:∃w1,w1=w.alloc (.cells #[.int .i64 (ar:Nat),.int .i64 (u:Nat)] 86):=⟨_,rfl⟩;obtain⟨g,hg⟩:∃g,g=w.heap.size:=⟨_,rfl⟩;have s0:∀ {I:Nat->Prop},as I w o w1 (dQ w o 0):=λ{I}=>by rw[hw1];exact ez I w o _
 have B1:Blk w1 (dQ w o 0) 0 g (.cells #[.int .i64 (ar:Nat),.int .i64 (u:Nat)] 86):=by rw[hw1,hg];exact⟨Hc _ _,dY (G4 _)⟩
 have H1:=h.step (s0 (I:=λ_=>False)) noF;have X1:=X.step (s0 (I:=λ_=>False)) id;have S0:=s0 (I:=I17);generalize dQ w o 0=o1 at *;have HG:=Hg hg;have kd1:=s.mes_kc n;have kd2:s.cs.idxOf n<=268435455:=by
  have:=List.idxOf_le_length (a:=n) (l:=s.cs)
  unfold Em.mes at hm;omega
 clear s0 h X hg;go_enter Tryz.func74,Tryz.ntmps74;go_upto_region 1 with fail;rw[<-hw1,<-HG.out];clear hw1;have d1:as (λ_=>False) w1 o1 w1.drew o1:=(as.refl _ w1 o1).drew;have HC:=xi n w1.drew o1 rb lv ls s hn (by omega) (X1.step d1 id) (H1.step d1 noF);have B1d:=B1.step d1 id;have SD:as I17 w o w1.drew o1:=S0.trans ((as.refl _ w1 o1).drew);have HP:∀ w2 o2,EmW w2 o2 rb lv (s.kc n)->EmX w2 o2 lv ls->Hn G5 76 #[.pointer (G1 ⟨rb,0,G0⟩),.int .i64 1,.int .i64 (s.cs.idxOf n:Nat),.int .i64 (kd:Nat),spV ar u] w2 (mW w2 o2 rb lv (s.con n kd u) (.tuple #[])):=λw2 o2 E2 X2=>vb 1 (s.cs.idxOf n) kd ar u w2 o2 rb lv ls (s.kc n) (by omega) kd2 hk hu hd (by omega) X2 E2;obtain⟨a0,a1⟩:=eh B1.1;obtain⟨b0,b1⟩:=eh B1d.1;have XD:=X1.step d1 id;clear H1 X1 d1 S0 B1;go_region_held3 (λwx=>wx.cell? ⟨g,0,G0⟩=G1 (.int .i64 (ar:Nat))/\wx.cell? ⟨g,1,G0⟩=G1 (.int .i64 (u:Nat))) (go_keep) (first|(go_at_call 77;refine HC.mono ?_;rintro e w2 ⟨rfl,o2,E2,S2⟩;obtain⟨b0,b1⟩:=eh (B1d.step S2 (by decide)).1;have HP2:=HP w2 o2 E2 (XD.step S2 (by decide)))|(go_at_call 76;refine HP2.mono ?_;rintro e w3 ⟨rfl,o3,E3,S3⟩;obtain⟨b0,b1⟩:=eh ((B1d.step S2 (by decide)).step S3 (by decide)).1))
 all_goals
  go_end0
  exact⟨rfl,o3,E3,(SD.trans S2).trans S3⟩
structure Grw (s s':Em)(n:Nat):Prop where
 mes:s'.mes<=s.mes+n
 ws:s.ws.length<=s'.ws.length
 ks:s'.ks.length=s.ks.length
 dp:s.dp<=1000000001->s'.dp<=1000000001
theorem Grw.trans {a b c:Em}{n m:Nat}(h:Grw a b n)(k:Grw b c m):Grw a c (n+m):=⟨by have:=h.mes;have:=k.mes;omega,In h.ws k.ws,k.ks.trans h.ks,λx=>k.dp (h.dp x)⟩
theorem Grw.le {a b:Em}{n m:Nat}(h:Grw a b n)(c:n<=m):Grw a b m:=⟨by have:=h.mes;omega,h.ws,h.ks,h.dp⟩
theorem eV (s:Em)(op a b:Nat):Grw s (s.lay op a b) 1:=⟨by rw[Em.mes_lay];omega,by simp[Em.lay],rfl,id⟩
theorem nO (s:Em)(i:Nat):Grw s (s.land i) 0:=⟨by rw[Em.mes_land];omega,by simp[Em.land],rfl,id⟩
theorem Fa (s:Em)(i:Nat)(k:Int):Grw s (s.cel i k) 0:=⟨G4 _,G4 _,by simp[Em.cel],id⟩
theorem iK (s:Em)(n:Int)(kd u:Nat)(a:u<=1000000000):Grw s (s.con n kd u) 2:=⟨s.mes_con n kd u,by simp[Em.con,Em.push,Em.kc],rfl,λh=>by show max s.dp (u+1)<=_;omega⟩
def od (w:G9)(o:Nat->Nat)(rb:Nat)(lv:He)(s s':Em)(n:Nat)(e:Ja)(w':G9):Prop:=e=.returned (.tuple #[])/\(∃o',EmW w' o' rb lv s'/\as I17 w o w' o')/\Grw s s' n
theorem F5 {x:Wo}{n:Nat}(h:x.ok)(a:n<=268435455):(x.to n).ok:=by
 obtain⟨h1,h2,b⟩:=h;unfold Wo.to;split
 ·exact⟨h1,h2,a⟩
 ·exact⟨h1,a,b⟩
theorem qr {l:List Wo}{i:Nat}(h:i<l.length)(f:Wo->Wo):l.modify i f=l.set i (f (l[i])):=by
 apply JK;intro j;rw[List.getElem?_modify,List.getElem?_set];by_cases e:i=j
 ·subst e;simp[h]
 ·simp[e]
theorem ro (i:Nat)(u:FrameMode)(w:G9)(o:Nat->Nat)(rb:Nat)(lv:He)(ls:List Int)(s:Em)(M:i<s.ws.length)(Y:s.mes<=100000000)(X:EmX w o lv ls)(h:EmW w o rb lv s) :
  CallsD G5 126 #[.pointer (G1 ⟨rb,0,G0⟩),.int .i64 i] u w λe u' w'=>u'=u/\mW w o rb lv (s.land i) (.tuple #[]) e w':=by
 have h':=h;obtain⟨h1,h2,h3,vw,vc,vn,vk,mc,mn,E,J,q2,U,S,R,Q⟩:=h;obtain⟨⟨c0,c1,c2,c3,c4,c5,c6,c7⟩,cf⟩:=ik E.1;obtain⟨g,cap,rfl,og,-,-,y,hc,Z⟩:=J.pos (by omega);have t:=h1 s.ws[i] (IU M);have ci:w.cell? ⟨g,i,G0⟩=G1 (.int .u64 (i9 s.ws[i])):=by
  rw[hc i (by omega)];simp[woV,M]
 have N:=Cw t;have F:=uk t;have A:=yk (i9 s.ws[i]) w X.tab N.1 N.2;rw[F.1,F.2.1,F.2.2] at A;have hl:s.ws.length<=100000000:=by unfold Em.mes at Y;omega
 have W:=F5 t (n:=s.ws.length) (by omega);have j:Hid (∀ w',Hf w.heap.size w w'->EmW (w'.setCell ⟨g,i,G0⟩ (.int .u64 (i9 (s.ws[i].to s.ws.length)))).drew o rb lv (s.land i)/\as I17 w o (w'.setCell ⟨g,i,G0⟩ (.int .u64 (i9 (s.ws[i].to s.ws.length)))).drew o):=λw' B=>by
  have x0:=as.ofBelow (I:=λ_=>False) o B;have r1:=((J.step x0 id).store i (.int .u64 (i9 (s.ws[i].to s.ws.length)))).step ((as.refl (λ_=>False) _ o).drew) id;have l:as (λk=>k=2) w o (w'.setCell ⟨g,i,G0⟩ (.int .u64 (i9 (s.ws[i].to s.ws.length)))).drew o:=((as.ofBelow o B).setCell ⟨g,i,G0⟩ _ og).drew;have e:(s.land i).ws=s.ws.set i (s.ws[i].to s.ws.length):=qr M _;refine⟨⟨λx c=>?_,h2,h3,_,vc,vn,vk,mc,mn,E.step l (by decide),?_,q2.step l (by decide),U.step l (by decide),S.step l (by decide),R.step l (by decide),Q.step l (by decide)⟩,l.mono (fC (by decide))⟩
  ·rw[e] at c;rcases List.mem_or_eq_of_mem_set c with c|c
   ·exact h1 x c
   ·rw[c];exact W
  ·have e2:woV (s.land i).ws=(woV s.ws).set i (.int .u64 (i9 (s.ws[i].to s.ws.length))):=by rw[e];simp[woV]
   have G:(s.land i).ws.length=s.ws.length:=by rw[e];simp
   rw[e2,G];exact r1
 have z:∀ (a b:Nat) (wx:G9),Tab wx->a<=268435455->b<=268435455->Hn G5 86 #[.int .i64 (s.ws[i].op:Nat),.int .i64 a,.int .i64 b] wx λe w'=>e=.returned (.tuple #[.int .u64 (i9 ⟨s.ws[i].op,a,b⟩),.int .i64 0])/\w'=wx:=λa b wx T ha hb=>sI (s.ws[i].op:Int) (a:Int) (b:Int) wx T (by omega) (by have:=t.1;omega) (by omega) (by omega) (by omega) (by omega);have P:∀ w',Hf w.heap.size w w'->Hn G5 189 #[.pointer (G1 ⟨rb,0,G0⟩)] w' λe H=>e=.returned (.int .i64 (s.ws.length:Nat))/\H=w':=λw' B=>uj w' o rb lv s (h'.below B);have aa:(i:Int)<(s.ws.length:Int):=by omega
 have f:Hid (∀ w',Hf w.heap.size w w'->w'.cell? ⟨rb,0,G0⟩=G1 (.slice (G1 ⟨g,0,G0⟩) s.ws.length cap)/\w'.cell? ⟨g,i,G0⟩=G1 (.int .u64 (i9 s.ws[i]))/\w'.frozen? ⟨g,i,G0⟩=false/\Tab w'):=λw' B=>by
  refine⟨(B.cell (p:=⟨rb,0,G0⟩) E.lt).trans c0,(B.cell (p:=⟨g,i,G0⟩) y).trans ci,?_,(X.below B).tab⟩;have e:=B.block g y
  have:=Z i
  unfold Ki at this ⊢;rw[e];exact this
 have v:∀ x:Wo,x.to s.ws.length=if x.op=17 then ⟨x.op,x.a,s.ws.length⟩ else ⟨x.op,s.ws.length,x.b⟩:=λx=>rfl;rw[v] at j;clear v W X E J q2 U S R Q h' c1 c2 c3 c4 c5 c6 c7 cf hc Z F N h1 h2 h3 Y;obtain⟨L,c,r⟩:=t;generalize K:s.ws[i]=x at *;clear K;obtain⟨op,a,b⟩:=x;simp only at A z j L c r
 go_enter_d Tryz.func126,Tryz.ntmps126
 go_upto_region 1 with (first|(go_at_call 146;refine A.mono ?_;rintro e w1 ⟨rfl,D⟩))
 have C:=P w1 D;obtain⟨d0,d1,d2,d3⟩:=f.out w1 D;obtain⟨e0,e1,e2,G⟩:=f.out w1.drew D.drew;by_cases m:op=17
 ·subst m;rw[if_pos rfl] at j;have O:=Hg (j.out w1 D);have q:=z a s.ws.length w1.drew G c (by omega);generalize i9 ⟨17,a,s.ws.length⟩=ev at *;clear j A P f z;go_upto_region 4 with (first|(go_at_call 189;refine C.mono ?_;rintro e w2 ⟨rfl,d⟩;subst d))
  go_region_with (first|(go_at_call 86;refine q.mono ?_;rintro e w3 ⟨rfl,d⟩;subst d))
  all_goals
   go_end0
   exact⟨rfl,o,O.out⟩
 ·rw[if_neg m] at j;have O:=Hg (j.out w1 D);have q:=z s.ws.length b w1.drew G (by omega) r;have V:¬(op:Int)=17:=by omega
  generalize i9 ⟨op,s.ws.length,b⟩=ev at *;clear j A P f z m;go_upto_region 4 with (first|(go_at_call 189;refine C.mono ?_;rintro e w2 ⟨rfl,d⟩;subst d))
  go_region_with (first|(go_at_call 86;refine q.mono ?_;rintro e w3 ⟨rfl,d⟩;subst d))
  all_goals
   go_end0
   exact⟨rfl,o,O.out⟩
def nI (rb:Nat)(lv:He)(ls:List Int)(K:G9->(Nat->Nat)->Prop)(F:FuncId)(c:Array He)(t:Em->Em)(n:Nat):Prop :=
 ∀ w o s,EmX w o lv ls->EmW w o rb lv s->K w o->s.mes+n<=100000000->s.dp<=1000000001->s.ks.length=ls.length->Hn G5 F c w (od w o rb lv s (t s) n)
abbrev ol (K:G9->(Nat->Nat)->Prop):Prop:=∀ {w o w' o'},K w o->as I17 w o w' o'->K w' o'
abbrev Ent (F:FuncId):Prop:=∀ (args:Array He) (w:G9),(callFunc F args).run G5 w=.ok (.enter F args) w
theorem uK (op:Nat)(F:FuncId)(c:Array He)(t:Em->Em)(n:Nat)(K:G9->(Nat->Nat)->Prop)(I:ol K)(M:Ent F)(w:G9)(o:Nat->Nat)(rb:Nat)(lv:He)(ls:List Int)(H:nI rb lv ls K F c t n)(s:Em)(i:op<=255)(R:s.mes+n+2<=100000000)(G:s.dp<=1000000001)(l:s.ks.length=ls.length)(X:EmX w o lv ls)(h:EmW w o rb lv s)(k:K w o) :
  Hn G5 127 #[.pointer (G1 ⟨rb,0,G0⟩),.int .i64 op,.func (.func F) #[] c] w λe w'=>e=.returned (.int .i64 ((t (s.lay op 0 0)).ws.length:Nat))/\(∃o',EmW w' o' rb lv (((t (s.lay op 0 0)).lay 13 0 0).land s.ws.length)/\as I17 w o w' o')/\Grw s (((t (s.lay op 0 0)).lay 13 0 0).land s.ws.length) (n+2)/\Grw (s.lay op 0 0) (t (s.lay op 0 0)) n:=by
 have z:=fp op 0 0 w o rb lv ls s i (by omega) (by omega) (by omega) X h;have g1:=eV s op 0 0
 go_enter_defers Tryz.func127,Tryz.ntmps127
 go_upto_region 2 with (first|(go_at_call 41;refine z.mono ?_;rintro e w1 ⟨rfl,D,P,p⟩))
 have v:=X.step p (by decide);have A:=H w1 D (s.lay op 0 0) v P (I k p) (by have:=g1.mes;omega) (g1.dp G) (g1.ks.trans l);clear z;go_wp2_with fail;refine A.mono ?_;rintro e w2 ⟨rfl,⟨C,B,y⟩,g2⟩;have E:(s.lay op 0 0).ws.length=s.ws.length+1:=by simp[Em.lay]
 have g3:=eV (t (s.lay op 0 0)) 13 0 0;have u:=v.step y (by decide);have b:=fp 13 0 0 w2 C rb lv ls (t (s.lay op 0 0)) (by omega) (by omega) (by omega) (by have:=g1.mes;have:=g2.mes;omega) u B;clear A M;obtain⟨s2,a⟩:=exq (t (s.lay op 0 0));rw[<-a] at B g2 g3 b;have g:=Hg a;clear a;go_wp2_with fail;refine b.mono ?_;rintro e w3 ⟨rfl,r,O,x⟩;have J:=u.step x (by decide);have j:s.ws.length<(s2.lay 13 0 0).ws.length:=by have:=g2.ws;have:=g3.ws;omega
 have N:=ro s.ws.length .returning w3 r rb lv ls (s2.lay 13 0 0) j (by have:=g1.mes;have:=g2.mes;have:=g3.mes;omega) J O;have L:Hid (∀ w4 d,EmW w4 d rb lv ((s2.lay 13 0 0).land s.ws.length)->as I17 w3 r w4 d->(∃o',EmW w4 o' rb lv ((s2.lay 13 0 0).land s.ws.length)/\as I17 w o w4 o')/\Grw s ((s2.lay 13 0 0).land s.ws.length) (n+2)/\Grw (s.lay op 0 0) s2 n):=λw4 d q m =>
  ⟨⟨d,q,((p.trans y).trans x).trans m⟩,(((g1.trans g2).trans g3).trans (nO _ _)).le (by omega),g2⟩
 clear b;go_wp2;refine leaves_cons (f:=126) (args:=#[.pointer (G1 ⟨rb,0,G0⟩),.int .i64 (s.ws.length:Nat)]) (by simp) (by simp[go_sem]) ?_;refine N.mono ?_;rintro e Q w4 ⟨rfl,rfl,d,q,m⟩;exact⟨_,results_tmp rfl _ _ _,by rw[<-g.out];rfl,by rw[<-g.out];exact L.out w4 d q m⟩
theorem tS (op:Nat)(c p:FuncId)(c1 c2:Array He)(t1 t2:Em->Em)(n1 n2:Nat)(K:G9->(Nat->Nat)->Prop)(v:ol K)(n:Ent c)(m:Ent p)(w:G9)(o:Nat->Nat)(rb:Nat)(lv:He)(ls:List Int)(J:nI rb lv ls K c c1 t1 n1)(I:nI rb lv ls K p c2 t2 n2)(s:Em)(d:op<=255)(O:s.mes+(n1+n2+2)<=100000000)(u:s.dp<=1000000001)(b:s.ks.length=ls.length)(X:EmX w o lv ls)(h:EmW w o rb lv s)(k:K w o) :
  Hn G5 79 #[.pointer (G1 ⟨rb,0,G0⟩),.int .i64 op,.func (.func c) #[] c1,.func (.func p) #[] c2] w (od w o rb lv s (s.fork op t1 t2) (n1+n2+2)):=by
 have z:=uK op c c1 t1 n1 K v n w o rb lv ls J s d (by omega) u b X h k;have g:Hid (s.fork op t1 t2=(t2 (((t1 (s.lay op 0 0)).lay 13 0 0).land s.ws.length)).land (t1 (s.lay op 0 0)).ws.length):=rfl;have D:(s.lay op 0 0).ws.length=s.ws.length+1:=by simp[Em.lay]
 have C:((((t1 (s.lay op 0 0)).lay 13 0 0).land s.ws.length)).ws.length=(t1 (s.lay op 0 0)).ws.length+1:=by simp[Em.lay,Em.land]
 go_enter_defers Tryz.func79,Tryz.ntmps79
 go_upto_region 1 with (first|(go_at_call 127;refine z.mono ?_;rintro e w1 ⟨rfl,⟨B,M,l⟩,g1,E⟩))
 clear z;generalize ((t1 (s.lay op 0 0)).lay 13 0 0).land s.ws.length=r at *;generalize (t1 (s.lay op 0 0)).ws.length=j at *;have x:=X.step l (by decide);have A:=I w1 B r x M (v k l) (by have:=g1.mes;omega) (g1.dp u) (g1.ks.trans b);go_wp2_with fail;refine A.mono ?_;rintro e w2 ⟨rfl,⟨t,L,y⟩,g2⟩;have F:=x.step y (by decide);clear A m;generalize t2 r=s2 at *;have H:=ro j .returning w2 t rb lv ls s2 (by have:=g2.ws;omega) (by have:=g1.mes;have:=g2.mes;omega) F L;have G:Hid (∀ w4 a,EmW w4 a rb lv (s2.land j)->as I17 w2 t w4 a->(∃o',EmW w4 o' rb lv (s.fork op t1 t2)/\as I17 w o w4 o')/\Grw s (s.fork op t1 t2) (n1+n2+2)):=λw4 a q i=>by
  rw[g.out];exact⟨⟨a,q,(l.trans y).trans i⟩,((g1.trans g2).trans (nO _ _)).le (by omega)⟩
 go_wp2;refine leaves_cons (f:=126) (args:=#[.pointer (G1 ⟨rb,0,G0⟩),.int .i64 j]) (by simp) (by simp[go_sem]) ?_;refine H.mono ?_;rintro e N w4 ⟨rfl,rfl,a,q,i⟩;exact⟨_,Jq rfl _ _ _,rfl,G.out w4 a q i⟩
theorem vm (n:Int)(w:G9):Hn G5 122 #[.int .i64 n] w λe w'=>e=.returned (.int .i64 (rV n))/\w'=w:=by
 by_cases h1:n=1
 ·subst h1;go_enter Tryz.func122,Tryz.ntmps122;go_wp2;go_ret;exact⟨rfl,rfl⟩
 ·by_cases h2:n=2
  ·subst h2;go_enter Tryz.func122,Tryz.ntmps122;go_wp2;go_ret;exact⟨rfl,rfl⟩
  ·by_cases h3:n=10
   ·subst h3;go_enter Tryz.func122,Tryz.ntmps122;go_wp2;go_ret;exact⟨rfl,rfl⟩
   ·have e:rV n=1:=by simp[rV,h1,h2,h3]
    rw[e];go_enter Tryz.func122,Tryz.ntmps122;go_wp2;go_ret;exact⟨rfl,rfl⟩
theorem sJ (n:Int)(w:G9):Hn G5 123 #[.int .i64 n] w λe w'=>e=.returned (.int .i64 (rS n))/\w'=w:=by
 by_cases h1:n=1
 ·subst h1;go_enter Tryz.func123,Tryz.ntmps123;go_wp2;go_ret;exact⟨rfl,rfl⟩
 ·by_cases h2:n=2
  ·subst h2;go_enter Tryz.func123,Tryz.ntmps123;go_wp2;go_ret;exact⟨rfl,rfl⟩
  ·have e:rS n=1:=by simp[rS,h1,h2]
   rw[e];go_enter Tryz.func123,Tryz.ntmps123;go_wp2;go_ret;exact⟨rfl,rfl⟩
theorem mL {f:Fs}(h:f.len=1):∃x,f=Fs.ex x .nil:=by
 cases f using Fs.on with
 | nil=>simp[Fs.len] at h
 | Js k n nm a ks r =>
  cases r using Fs.on with
  | nil=>exact⟨⟨k,n,nm,a,ks⟩,rfl⟩
  | Js=>simp[Fs.len] at h
theorem iz {f:Fs}(h:f.len=2):∃x y,f=Fs.ex x (Fs.ex y .nil):=by
 cases f using Fs.on with
 | nil=>simp[Fs.len] at h
 | Js k n nm a ks r =>
  obtain⟨y,rfl⟩:=mL (f:=r) (by simp[Fs.len] at h;exact h);exact⟨⟨k,n,nm,a,ks⟩,y,rfl⟩
theorem kX {f:Fs}(h:f.len=3):∃x y z,f=Fs.ex x (Fs.ex y (Fs.ex z .nil)):=by
 cases f using Fs.on with
 | nil=>simp[Fs.len] at h
 | Js k n nm a ks r =>
  obtain⟨y,z,rfl⟩:=iz (f:=r) (by simp[Fs.len] at h;exact h);exact⟨⟨k,n,nm,a,ks⟩,y,z,rfl⟩
theorem lp {k n:Int}{nm:List UInt8}{len:Nat}(h:eg k n nm len=true):(k=19->len=3)/\(k=26->len=1)/\(8<=k->k<=18->len=2)/\(k=21->len=2/\1<=n/\n<=6)/\(k=20->1<=n/\n<=10)/\(k=5\/k=3->0<=n)/\(k=22\/k=23->len=0)/\(k=1\/k=2\/k=3\/k=5->len=0):=by
 unfold eg at h;refine⟨λe=>?_,λe=>?_,λe1 e2=>?_,λe=>?_,λe=>?_,λe=>?_,λe=>?_,λe=>?_⟩
 ·subst e;simp at h;omega
 ·subst e;simp at h;omega
 ·rw[if_neg (by omega),if_neg (by omega),if_neg (by omega),if_neg (by omega),if_pos (by omega)] at h;simp at h;omega
 ·subst e;simp at h;omega
 ·subst e;simp at h;omega
 ·rcases e with rfl|rfl<;>simp at h<;>omega
 ·rcases e with rfl|rfl<;>simp at h<;>omega
 ·rcases e with rfl|rfl|rfl|rfl<;>simp at h<;>omega
theorem wV {P:Nat->Prop}{w:G9}{y:Ex}{r:Fs}{ao:Option Hw}(h:SlN w P (Fs.ex y r) ao):∃b off ak ck,ao=G1 ⟨b,off,G0⟩/\w.cell? ⟨b,off,G0⟩=G1 (.int .i64 y.k)/\w.cell? ⟨b,off+1,G0⟩=G1 (.int .i64 y.n)/\w.cell? ⟨b,off+2,G0⟩=G1 (stv y.nm)/\w.cell? ⟨b,off+3,G0⟩=G1 (.slice ak y.kids.len ck)/\SlN w P y.kids ak:=by
 obtain⟨b,off,ak,ck,h1,h2,h3,h4,h5,h6⟩:=SlN.kidP (x:=.nil) (r:=r) (y:=y) h 0 rfl;exact⟨b,off,ak,ck,h1,h2,h3,h4,h5,h6⟩
theorem Eb {P:Nat->Prop}{w:G9}{x y:Ex}{r:Fs}{ao:Option Hw}(h:SlN w P (Fs.ex x (Fs.ex y r)) ao):∃b off ak ck,ao=G1 ⟨b,off,G0⟩/\w.cell? ⟨b,off+4,G0⟩=G1 (.int .i64 y.k)/\w.cell? ⟨b,off+5,G0⟩=G1 (.int .i64 y.n)/\w.cell? ⟨b,off+6,G0⟩=G1 (stv y.nm)/\w.cell? ⟨b,off+7,G0⟩=G1 (.slice ak y.kids.len ck)/\SlN w P y.kids ak:=by
 obtain⟨b,off,ak,ck,h1,h2,h3,h4,h5,h6⟩:=SlN.kidP (x:=one x) (r:=r) (y:=y) h 1 rfl;exact⟨b,off,ak,ck,h1,h2,h3,h4,h5,h6⟩
theorem dW {w:G9}{b:Nat}{x0 x1 x2 x3:He}{t:Il}(h:w.heap[b]?=G1 (.cells #[x0,x1,x2,x3] t)):(w.cell? ⟨b,0,G0⟩=G1 x0/\w.cell? ⟨b,1,G0⟩=G1 x1/\w.cell? ⟨b,2,G0⟩=G1 x2/\w.cell? ⟨b,3,G0⟩=G1 x3)/\∀ j,w.frozen? ⟨b,j,G0⟩=false:=by
 refine⟨⟨?_,?_,?_,?_⟩,λj=>?_⟩<;>simp[J7,Ki,h]
theorem et {nc:Nat}{x:Ex}{r:Fs}(h:okF nc (Fs.ex x r)):okE nc x/\okF nc r:=⟨⟨h.1,h.2.1⟩,h.2.2⟩
theorem eG (x:Ex)(r:Fs):(Fs.ex x r).size=x.kids.size+r.size+1:=rfl
theorem lV (x:Ex)(r:Fs):kdF (Fs.ex x r)=kdE x::kdF r:=rfl
theorem kt (nc N:Nat):∀ (e:Ex) (ao:Option Hw) (cap:Nat) (w:G9),e.kids.size<N->okE nc e->SnA w e.kids ao ->
  Hn G5 75 #[exN e ao cap] w λr w'=>r=.returned (.int .i64 (kdE e))/\Hf w.heap.size w w':=by
 induction N with
 | zero=>intro e ao cap w hs;omega
 | succ N ih =>
  intro e ao cap w hs ho S;obtain⟨k,n,nm,a,ks⟩:=e;obtain⟨⟨hd,-,-⟩,hk⟩:=ho;simp only at hs hd hk S;rw[dR];simp only;have hdl:=lp hd;by_cases h19:k=19
  ·subst h19;have hlen:ks.len=3:=hdl.1 rfl;rw[hlen];obtain⟨x,y,z,hks⟩:=kX hlen;have S':=S;rw[hks] at S' hk hs;obtain⟨w1,hw1⟩:∃w1,w1=w.alloc (.cells #[.int .i64 19,.int .i64 n,stv nm,.slice ao 3 cap] 34):=⟨_,rfl⟩;obtain⟨g,hg⟩:∃g,g=w.heap.size:=⟨_,rfl⟩;have B1:Hf w.heap.size w w1:=by rw[hw1];exact b1 _ _
   have C1:w1.heap[g]?=G1 (.cells #[.int .i64 19,.int .i64 n,stv nm,.slice ao 3 cap] 34):=by rw[hw1,hg];exact Hc _ _
   obtain⟨⟨c0,c1,c2,c3⟩,-⟩:=dW C1;have HG:=Hg hg;have HB:=Hg B1;obtain⟨b,off,ak,ck,rfl,x0,x1,x2,x3,Sy⟩:=Eb (S'.below B1);have hv:kdE ⟨19,n,nm,a,ks⟩=kdE y:=by simp only[kdE,hks,lV];simp[kdN]
   rw[hv];have HC:=ih y ak ck w1 (by simp only[eG] at hs;omega) (et (et hk).2).1 Sy;rw[dR] at HC;clear B1 S S' hks hk hs hg C1 hv hdl hd;go_enter Tryz.func75,Tryz.ntmps75;go_upto_region 1 with fail;rw[<-hw1,<-HG.out];clear hw1;go_wp2_with fail;refine HC.mono ?_;rintro r w2 ⟨rfl,B2⟩;go_wp2;go_ret;exact⟨rfl,HB.out.trans (B2.mono HB.out.size)⟩
  by_cases h26:k=26
  ·subst h26;have hlen:ks.len=1:=hdl.2.1 rfl;rw[hlen];obtain⟨x,hks⟩:=mL hlen;have S':=S;rw[hks] at S' hk hs;obtain⟨w1,hw1⟩:∃w1,w1=w.alloc (.cells #[.int .i64 26,.int .i64 n,stv nm,.slice ao 1 cap] 34):=⟨_,rfl⟩;obtain⟨g,hg⟩:∃g,g=w.heap.size:=⟨_,rfl⟩;have B1:Hf w.heap.size w w1:=by rw[hw1];exact b1 _ _
   have C1:w1.heap[g]?=G1 (.cells #[.int .i64 26,.int .i64 n,stv nm,.slice ao 1 cap] 34):=by rw[hw1,hg];exact Hc _ _
   obtain⟨⟨c0,c1,c2,c3⟩,-⟩:=dW C1;have HG:=Hg hg;have HB:=Hg B1;obtain⟨b,off,ak,ck,rfl,x0,x1,x2,x3,Sy⟩:=wV (S'.below B1);have hv:kdE ⟨26,n,nm,a,ks⟩=kdE x:=by simp only[kdE,hks,lV];simp[kdN]
   rw[hv];have HC:=ih x ak ck w1 (by simp only[eG] at hs;omega) (et hk).1 Sy;rw[dR] at HC;clear B1 S S' hks hk hs hg C1 hv hdl hd;go_enter Tryz.func75,Tryz.ntmps75;go_upto_region 1 with fail;rw[<-hw1,<-HG.out];clear hw1;go_wp2_with fail;refine HC.mono ?_;rintro r w2 ⟨rfl,B2⟩;go_wp2;go_ret;exact⟨rfl,HB.out.trans (B2.mono HB.out.size)⟩
  by_cases h20:k=20
  ·subst h20;have hv:kdE ⟨20,n,nm,a,ks⟩=rV n:=by simp[kdE,kdN]
   rw[hv];obtain⟨w1,hw1⟩:∃w1,w1=w.alloc (.cells #[.int .i64 20,.int .i64 n,stv nm,.slice ao ks.len cap] 34):=⟨_,rfl⟩;obtain⟨g,hg⟩:∃g,g=w.heap.size:=⟨_,rfl⟩;have B1:Hf w.heap.size w w1:=by rw[hw1];exact b1 _ _
   have C1:w1.heap[g]?=G1 (.cells #[.int .i64 20,.int .i64 n,stv nm,.slice ao ks.len cap] 34):=by rw[hw1,hg];exact Hc _ _
   obtain⟨⟨c0,c1,c2,c3⟩,-⟩:=dW C1;have HG:=Hg hg;have HB:=Hg B1;have HC:=vm n w1;clear B1 S hk hs hg C1 hv hdl hd;go_enter Tryz.func75,Tryz.ntmps75;go_upto_region 1 with fail;rw[<-hw1,<-HG.out];clear hw1;go_wp2_with fail;refine HC.mono ?_;rintro r w2 ⟨rfl,hww⟩;subst hww;go_wp2;go_ret;exact⟨rfl,HB.out⟩
  by_cases h21:k=21
  ·subst h21;have hv:kdE ⟨21,n,nm,a,ks⟩=rS n:=by simp[kdE,kdN]
   rw[hv];obtain⟨w1,hw1⟩:∃w1,w1=w.alloc (.cells #[.int .i64 21,.int .i64 n,stv nm,.slice ao ks.len cap] 34):=⟨_,rfl⟩;obtain⟨g,hg⟩:∃g,g=w.heap.size:=⟨_,rfl⟩;have B1:Hf w.heap.size w w1:=by rw[hw1];exact b1 _ _
   have C1:w1.heap[g]?=G1 (.cells #[.int .i64 21,.int .i64 n,stv nm,.slice ao ks.len cap] 34):=by rw[hw1,hg];exact Hc _ _
   obtain⟨⟨c0,c1,c2,c3⟩,-⟩:=dW C1;have HG:=Hg hg;have HB:=Hg B1;have HC:=sJ n w1;clear B1 S hk hs hg C1 hv hdl hd;go_enter Tryz.func75,Tryz.ntmps75;go_upto_region 1 with fail;rw[<-hw1,<-HG.out];clear hw1;go_wp2_with fail;refine HC.mono ?_;rintro r w2 ⟨rfl,hww⟩;subst hww;go_wp2;go_ret;exact⟨rfl,HB.out⟩
  have hc:k=1\/k=2\/k=3\/k=5\/k=6\/k=7\/k=8\/k=9\/k=10\/k=11\/k=12\/k=13\/k=14\/k=15\/k=16\/k=17\/k=18\/k=22\/k=23\/k=24\/k=25:=by
   have:=gX hd
   omega
  obtain⟨w1,hw1⟩:∃w1,w1=w.alloc (.cells #[.int .i64 k,.int .i64 n,stv nm,.slice ao ks.len cap] 34):=⟨_,rfl⟩;obtain⟨g,hg⟩:∃g,g=w.heap.size:=⟨_,rfl⟩;have B1:Hf w.heap.size w w1:=by rw[hw1];exact b1 _ _
  have C1:w1.heap[g]?=G1 (.cells #[.int .i64 k,.int .i64 n,stv nm,.slice ao ks.len cap] 34):=by rw[hw1,hg];exact Hc _ _
  obtain⟨⟨c0,c1,c2,c3⟩,-⟩:=dW C1;have HG:=Hg hg;have HB:=Hg B1;clear B1 S hk hs hg C1 hd hdl ih h19 h26 h20 h21;rcases hc with rfl|rfl|rfl|rfl|rfl|rfl|rfl|rfl|rfl|rfl|rfl|rfl|rfl|rfl|rfl|rfl|rfl|rfl|rfl|rfl|rfl
  all_goals
   go_enter Tryz.func75,Tryz.ntmps75;go_upto_region 1 with fail;rw[<-hw1,<-HG.out];clear hw1;go_wp2;go_ret;exact⟨rfl,HB.out⟩
theorem rC:∀ (f:Fs),(kdF f).length=f.len
 | ⟨G0⟩=>rfl
 | ⟨G1 ⟨k,n,nm,a,ks,r⟩⟩=>by simp only[kdF,Fs.len,Hy];rw[rC r]
theorem uq {nc:Nat}:∀ {f:Fs},okF nc f->∀ v ∈ kdF f,1<=v/\v<=3
 | ⟨G0⟩,_=>λv hv=>by simp[kdF] at hv
 | ⟨G1 ⟨k,n,nm,a,ks,r⟩⟩,h=>λv hv=>by
  have h1:=uq h.2.1;have hl:=rC ks;have hd:=lp h.1.1;simp only[kdF,IR] at hv;rcases hv with rfl|hv
  ·unfold kdN;split
   ·omega
   ·split
    ·omega
    ·split
     ·rename_i e
      have:=hd.1 e
      have hlt:1<(kdF ks).length:=by omega
      rw[Ib,Hd hlt];exact h1 _ (IU hlt)
     ·split
      ·rename_i e
       have:=hd.2.1 e
       have hlt:0<(kdF ks).length:=by omega
       rw[Ib,Hd hlt];exact h1 _ (IU hlt)
      ·split
       ·unfold rV;split;omega;split<;>omega
       ·split
        ·unfold rS;split<;>omega
        ·omega
  ·exact uq h.2.2 v hv
theorem lN {nc:Nat}{e:Ex}(h:okE nc e):1<=kdE e/\kdE e<=3:=uq (f:=one e) (show okF nc (one e) from ⟨h.1,h.2,trivial⟩) (kdE e) (by simp[kdF,one,kdE])
theorem Gf (s:Em)(x:List UInt8):Grw s (s.kn x) 1:=⟨s.mes_kn x,G4 _,rfl,id⟩
def opK (k:Int):Prop:=k=6\/k=7\/k=8\/k=9\/k=10\/k=11\/k=12\/k=13\/k=14\/k=15\/k=16\/k=20\/k=22\/k=23\/k=24\/k=25
theorem sR (nc:Nat)(e:Ex)(ao:Option Hw)(cap:Nat)(w:G9)(o:Nat->Nat)(rb:Nat)(lv:He)(ls:List Int)(s:Em)(hk:opK e.k)(ho:okE nc e)(S:SnO w o e.kids ao)(hlen:e.kids.len<=268435455)(hnm:e.nm.length<=Hu)(hm:s.mes+3<=100000000)(X:EmX w o lv ls)(h:EmW w o rb lv s) :
  Hn G5 85 #[.pointer (G1 ⟨rb,0,G0⟩),exN e ao cap] w (od w o rb lv s (opr e.k e.n e.nm (kdF e.kids) s) 3):=by
 obtain⟨k,n,nm,a,ks⟩:=e;obtain⟨⟨hd,-,-⟩,hok⟩:=ho;simp only at hd hok hk S hlen hnm;rw[dR];simp only;have hdl:=lp hd;by_cases h6:k=6
 ·subst h6;have hv:opr 6 n nm (kdF ks) s=s.lay 4 0 0:=by simp[opr,jz]
  rw[hv];obtain⟨w1,hw1⟩:∃w1,w1=w.alloc (.cells #[.int .i64 6,.int .i64 n,stv nm,.slice ao ks.len cap] 34):=⟨_,rfl⟩;obtain⟨g,hg⟩:∃g,g=w.heap.size:=⟨_,rfl⟩;have s0:∀ {I:Nat->Prop},as I w o w1 (dQ w o 0):=λ{I}=>by rw[hw1];exact ez I w o _
  have C1:w1.heap[g]?=G1 (.cells #[.int .i64 6,.int .i64 n,stv nm,.slice ao ks.len cap] 34):=by rw[hw1,hg];exact Hc _ _
  have C1o:dQ w o 0 g=0:=by rw[hg];exact dY (G4 _)
  have E1:=h.step (s0 (I:=λ_=>False)) noF;have X1:=X.step (s0 (I:=λ_=>False)) id;have S1:=S.stepO (s0 (I:=λ_=>False)) id;have S0:=s0 (I:=I17);generalize dQ w o 0=o1 at *;obtain⟨⟨c0,c1,c2,c3⟩,-⟩:=dW C1;have HG:=Hg hg;clear s0 hg h X S hdl hd;have HL:=fp 4 0 0 w1 o1 rb lv ls s (by omega) (by omega) (by omega) (by omega) X1 E1;have hbr:=X1.bar 6 (by omega);simp only[I3,I2] at hbr;clear hv;go_enter I5,IW;go_upto_region 1 with fail;rw[<-hw1,<-HG.out];clear hw1;go_wp2_with (first|(go_at_call 41;refine HL.mono ?_;rintro e w2 ⟨rfl,o2,E2,S2⟩))
  go_end0
  exact⟨rfl,⟨o2,E2,S0.trans S2⟩,(eV s _ _ _).le (by omega)⟩
 by_cases h7:k=7
 ·subst h7;have hv:opr 7 n nm (kdF ks) s=s.lay 5 0 0:=by simp[opr,jz]
  rw[hv];obtain⟨w1,hw1⟩:∃w1,w1=w.alloc (.cells #[.int .i64 7,.int .i64 n,stv nm,.slice ao ks.len cap] 34):=⟨_,rfl⟩;obtain⟨g,hg⟩:∃g,g=w.heap.size:=⟨_,rfl⟩;have s0:∀ {I:Nat->Prop},as I w o w1 (dQ w o 0):=λ{I}=>by rw[hw1];exact ez I w o _
  have C1:w1.heap[g]?=G1 (.cells #[.int .i64 7,.int .i64 n,stv nm,.slice ao ks.len cap] 34):=by rw[hw1,hg];exact Hc _ _
  have C1o:dQ w o 0 g=0:=by rw[hg];exact dY (G4 _)
  have E1:=h.step (s0 (I:=λ_=>False)) noF;have X1:=X.step (s0 (I:=λ_=>False)) id;have S1:=S.stepO (s0 (I:=λ_=>False)) id;have S0:=s0 (I:=I17);generalize dQ w o 0=o1 at *;obtain⟨⟨c0,c1,c2,c3⟩,-⟩:=dW C1;have HG:=Hg hg;clear s0 hg h X S hdl hd;have HL:=fp 5 0 0 w1 o1 rb lv ls s (by omega) (by omega) (by omega) (by omega) X1 E1;have hbr:=X1.bar 7 (by omega);simp only[I3,I2] at hbr;clear hv;go_enter I5,IW;go_upto_region 1 with fail;rw[<-hw1,<-HG.out];clear hw1;go_wp2_with (first|(go_at_call 41;refine HL.mono ?_;rintro e w2 ⟨rfl,o2,E2,S2⟩))
  go_end0
  exact⟨rfl,⟨o2,E2,S0.trans S2⟩,(eV s _ _ _).le (by omega)⟩
 by_cases h8:k=8
 ·subst h8;have hv:opr 8 n nm (kdF ks) s=s.lay 6 0 0:=by simp[opr,jz]
  rw[hv];obtain⟨w1,hw1⟩:∃w1,w1=w.alloc (.cells #[.int .i64 8,.int .i64 n,stv nm,.slice ao ks.len cap] 34):=⟨_,rfl⟩;obtain⟨g,hg⟩:∃g,g=w.heap.size:=⟨_,rfl⟩;have s0:∀ {I:Nat->Prop},as I w o w1 (dQ w o 0):=λ{I}=>by rw[hw1];exact ez I w o _
  have C1:w1.heap[g]?=G1 (.cells #[.int .i64 8,.int .i64 n,stv nm,.slice ao ks.len cap] 34):=by rw[hw1,hg];exact Hc _ _
  have C1o:dQ w o 0 g=0:=by rw[hg];exact dY (G4 _)
  have E1:=h.step (s0 (I:=λ_=>False)) noF;have X1:=X.step (s0 (I:=λ_=>False)) id;have S1:=S.stepO (s0 (I:=λ_=>False)) id;have S0:=s0 (I:=I17);generalize dQ w o 0=o1 at *;obtain⟨⟨c0,c1,c2,c3⟩,-⟩:=dW C1;have HG:=Hg hg;clear s0 hg h X S hdl hd;have HL:=fp 6 0 0 w1 o1 rb lv ls s (by omega) (by omega) (by omega) (by omega) X1 E1;have hbr:=X1.bar 8 (by omega);simp only[I3,I2] at hbr;clear hv;go_enter I5,IW;go_upto_region 1 with fail;rw[<-hw1,<-HG.out];clear hw1;go_wp2_with (first|(go_at_call 41;refine HL.mono ?_;rintro e w2 ⟨rfl,o2,E2,S2⟩))
  go_end0
  exact⟨rfl,⟨o2,E2,S0.trans S2⟩,(eV s _ _ _).le (by omega)⟩
 by_cases h9:k=9
 ·subst h9;have hv:opr 9 n nm (kdF ks) s=s.lay 7 0 0:=by simp[opr,jz]
  rw[hv];obtain⟨w1,hw1⟩:∃w1,w1=w.alloc (.cells #[.int .i64 9,.int .i64 n,stv nm,.slice ao ks.len cap] 34):=⟨_,rfl⟩;obtain⟨g,hg⟩:∃g,g=w.heap.size:=⟨_,rfl⟩;have s0:∀ {I:Nat->Prop},as I w o w1 (dQ w o 0):=λ{I}=>by rw[hw1];exact ez I w o _
  have C1:w1.heap[g]?=G1 (.cells #[.int .i64 9,.int .i64 n,stv nm,.slice ao ks.len cap] 34):=by rw[hw1,hg];exact Hc _ _
  have C1o:dQ w o 0 g=0:=by rw[hg];exact dY (G4 _)
  have E1:=h.step (s0 (I:=λ_=>False)) noF;have X1:=X.step (s0 (I:=λ_=>False)) id;have S1:=S.stepO (s0 (I:=λ_=>False)) id;have S0:=s0 (I:=I17);generalize dQ w o 0=o1 at *;obtain⟨⟨c0,c1,c2,c3⟩,-⟩:=dW C1;have HG:=Hg hg;clear s0 hg h X S hdl hd;have HL:=fp 7 0 0 w1 o1 rb lv ls s (by omega) (by omega) (by omega) (by omega) X1 E1;have hbr:=X1.bar 9 (by omega);simp only[I3,I2] at hbr;clear hv;go_enter I5,IW;go_upto_region 1 with fail;rw[<-hw1,<-HG.out];clear hw1;go_wp2_with (first|(go_at_call 41;refine HL.mono ?_;rintro e w2 ⟨rfl,o2,E2,S2⟩))
  go_end0
  exact⟨rfl,⟨o2,E2,S0.trans S2⟩,(eV s _ _ _).le (by omega)⟩
 by_cases h10:k=10
 ·subst h10;have hv:opr 10 n nm (kdF ks) s=s.lay 8 0 0:=by simp[opr,jz]
  rw[hv];obtain⟨w1,hw1⟩:∃w1,w1=w.alloc (.cells #[.int .i64 10,.int .i64 n,stv nm,.slice ao ks.len cap] 34):=⟨_,rfl⟩;obtain⟨g,hg⟩:∃g,g=w.heap.size:=⟨_,rfl⟩;have s0:∀ {I:Nat->Prop},as I w o w1 (dQ w o 0):=λ{I}=>by rw[hw1];exact ez I w o _
  have C1:w1.heap[g]?=G1 (.cells #[.int .i64 10,.int .i64 n,stv nm,.slice ao ks.len cap] 34):=by rw[hw1,hg];exact Hc _ _
  have C1o:dQ w o 0 g=0:=by rw[hg];exact dY (G4 _)
  have E1:=h.step (s0 (I:=λ_=>False)) noF;have X1:=X.step (s0 (I:=λ_=>False)) id;have S1:=S.stepO (s0 (I:=λ_=>False)) id;have S0:=s0 (I:=I17);generalize dQ w o 0=o1 at *;obtain⟨⟨c0,c1,c2,c3⟩,-⟩:=dW C1;have HG:=Hg hg;clear s0 hg h X S hdl hd;have HL:=fp 8 0 0 w1 o1 rb lv ls s (by omega) (by omega) (by omega) (by omega) X1 E1;have hbr:=X1.bar 10 (by omega);simp only[I3,I2] at hbr;clear hv;go_enter I5,IW;go_upto_region 1 with fail;rw[<-hw1,<-HG.out];clear hw1;go_wp2_with (first|(go_at_call 41;refine HL.mono ?_;rintro e w2 ⟨rfl,o2,E2,S2⟩))
  go_end0
  exact⟨rfl,⟨o2,E2,S0.trans S2⟩,(eV s _ _ _).le (by omega)⟩
 by_cases h11:k=11
 ·subst h11;have hv:opr 11 n nm (kdF ks) s=s.lay 9 0 0:=by simp[opr,jz]
  rw[hv];obtain⟨w1,hw1⟩:∃w1,w1=w.alloc (.cells #[.int .i64 11,.int .i64 n,stv nm,.slice ao ks.len cap] 34):=⟨_,rfl⟩;obtain⟨g,hg⟩:∃g,g=w.heap.size:=⟨_,rfl⟩;have s0:∀ {I:Nat->Prop},as I w o w1 (dQ w o 0):=λ{I}=>by rw[hw1];exact ez I w o _
  have C1:w1.heap[g]?=G1 (.cells #[.int .i64 11,.int .i64 n,stv nm,.slice ao ks.len cap] 34):=by rw[hw1,hg];exact Hc _ _
  have C1o:dQ w o 0 g=0:=by rw[hg];exact dY (G4 _)
  have E1:=h.step (s0 (I:=λ_=>False)) noF;have X1:=X.step (s0 (I:=λ_=>False)) id;have S1:=S.stepO (s0 (I:=λ_=>False)) id;have S0:=s0 (I:=I17);generalize dQ w o 0=o1 at *;obtain⟨⟨c0,c1,c2,c3⟩,-⟩:=dW C1;have HG:=Hg hg;clear s0 hg h X S hdl hd;have HL:=fp 9 0 0 w1 o1 rb lv ls s (by omega) (by omega) (by omega) (by omega) X1 E1;have hbr:=X1.bar 11 (by omega);simp only[I3,I2] at hbr;clear hv;go_enter I5,IW;go_upto_region 1 with fail;rw[<-hw1,<-HG.out];clear hw1;go_wp2_with (first|(go_at_call 41;refine HL.mono ?_;rintro e w2 ⟨rfl,o2,E2,S2⟩))
  go_end0
  exact⟨rfl,⟨o2,E2,S0.trans S2⟩,(eV s _ _ _).le (by omega)⟩
 by_cases h12:k=12
 ·subst h12;have hv:opr 12 n nm (kdF ks) s=s.lay 10 0 0:=by simp[opr,jz]
  rw[hv];obtain⟨w1,hw1⟩:∃w1,w1=w.alloc (.cells #[.int .i64 12,.int .i64 n,stv nm,.slice ao ks.len cap] 34):=⟨_,rfl⟩;obtain⟨g,hg⟩:∃g,g=w.heap.size:=⟨_,rfl⟩;have s0:∀ {I:Nat->Prop},as I w o w1 (dQ w o 0):=λ{I}=>by rw[hw1];exact ez I w o _
  have C1:w1.heap[g]?=G1 (.cells #[.int .i64 12,.int .i64 n,stv nm,.slice ao ks.len cap] 34):=by rw[hw1,hg];exact Hc _ _
  have C1o:dQ w o 0 g=0:=by rw[hg];exact dY (G4 _)
  have E1:=h.step (s0 (I:=λ_=>False)) noF;have X1:=X.step (s0 (I:=λ_=>False)) id;have S1:=S.stepO (s0 (I:=λ_=>False)) id;have S0:=s0 (I:=I17);generalize dQ w o 0=o1 at *;obtain⟨⟨c0,c1,c2,c3⟩,-⟩:=dW C1;have HG:=Hg hg;clear s0 hg h X S hdl hd;have HL:=fp 10 0 0 w1 o1 rb lv ls s (by omega) (by omega) (by omega) (by omega) X1 E1;have hbr:=X1.bar 12 (by omega);simp only[I3,I2] at hbr;clear hv;go_enter I5,IW;go_upto_region 1 with fail;rw[<-hw1,<-HG.out];clear hw1;go_wp2_with (first|(go_at_call 41;refine HL.mono ?_;rintro e w2 ⟨rfl,o2,E2,S2⟩))
  go_end0
  exact⟨rfl,⟨o2,E2,S0.trans S2⟩,(eV s _ _ _).le (by omega)⟩
 by_cases h13:k=13
 ·subst h13;have hl2:ks.len=2:=hdl.2.2.1 (by omega) (by omega);rw[hl2];obtain⟨x,y,hks⟩:=iz hl2;have hx:okE nc x:=by rw[hks] at hok;exact(et hok).1
  have hb:=lN hx;obtain⟨kx,hkx⟩:∃kx:Nat,(kx:Int)=kdE x:=⟨(kdE x).toNat,by omega⟩;have hv:opr 13 n nm (kdF ks) s=s.lay 11 0 kx:=by rw[hks,lV];simp[opr,<-hkx]
  rw[hv];rw[hks] at S;obtain⟨w1,hw1⟩:∃w1,w1=w.alloc (.cells #[.int .i64 13,.int .i64 n,stv nm,.slice ao 2 cap] 34):=⟨_,rfl⟩;obtain⟨g,hg⟩:∃g,g=w.heap.size:=⟨_,rfl⟩;have s0:∀ {I:Nat->Prop},as I w o w1 (dQ w o 0):=λ{I}=>by rw[hw1];exact ez I w o _
  have C1:w1.heap[g]?=G1 (.cells #[.int .i64 13,.int .i64 n,stv nm,.slice ao 2 cap] 34):=by rw[hw1,hg];exact Hc _ _
  have C1o:dQ w o 0 g=0:=by rw[hg];exact dY (G4 _)
  have E1:=h.step (s0 (I:=λ_=>False)) noF;have X1:=X.step (s0 (I:=λ_=>False)) id;have S1:=S.stepO (s0 (I:=λ_=>False)) id;have S0:=s0 (I:=I17);generalize dQ w o 0=o1 at *;obtain⟨⟨c0,c1,c2,c3⟩,-⟩:=dW C1;have HG:=Hg hg;clear s0 hg h X S hdl hd;obtain⟨b,off,ak,ck,rfl,x0,x1,x2,x3,Sy⟩:=wV S1;have HK:=kt nc (x.kids.size+1) x ak ck w1 (by omega) hx Sy.all;rw[dR,<-hkx] at HK;have hb2:kx<=3:=by omega
  clear hv hks S1 Sy hkx hb hl2;go_enter I5,IW;go_upto_region 1 with fail;rw[<-hw1,<-HG.out];clear hw1;go_wp2_with fail;refine HK.mono ?_;rintro r w1b ⟨rfl,B1⟩;have HL:=fp 11 0 kx w1b o1 rb lv ls s (by omega) (by omega) (by omega) (by omega) (X1.below B1) (E1.below B1);have SB:as I17 w1 o1 w1b o1:=as.ofBelow o1 B1;clear HK;go_wp2_with (first|(go_at_call 41;refine HL.mono ?_;rintro e w2 ⟨rfl,o2,E2,S2⟩))
  go_end0
  exact⟨rfl,⟨o2,E2,(S0.trans SB).trans S2⟩,(eV s _ _ _).le (by omega)⟩
 by_cases h14:k=14
 ·subst h14;have hl2:ks.len=2:=hdl.2.2.1 (by omega) (by omega);rw[hl2];obtain⟨x,y,hks⟩:=iz hl2;have hx:okE nc x:=by rw[hks] at hok;exact(et hok).1
  have hb:=lN hx;obtain⟨kx,hkx⟩:∃kx:Nat,(kx:Int)=kdE x:=⟨(kdE x).toNat,by omega⟩;have hv:opr 14 n nm (kdF ks) s=(s.lay 11 0 kx).lay 5 0 0:=by rw[hks,lV];simp[opr,<-hkx]
  rw[hv];rw[hks] at S;obtain⟨w1,hw1⟩:∃w1,w1=w.alloc (.cells #[.int .i64 14,.int .i64 n,stv nm,.slice ao 2 cap] 34):=⟨_,rfl⟩;obtain⟨g,hg⟩:∃g,g=w.heap.size:=⟨_,rfl⟩;have s0:∀ {I:Nat->Prop},as I w o w1 (dQ w o 0):=λ{I}=>by rw[hw1];exact ez I w o _
  have C1:w1.heap[g]?=G1 (.cells #[.int .i64 14,.int .i64 n,stv nm,.slice ao 2 cap] 34):=by rw[hw1,hg];exact Hc _ _
  have C1o:dQ w o 0 g=0:=by rw[hg];exact dY (G4 _)
  have E1:=h.step (s0 (I:=λ_=>False)) noF;have X1:=X.step (s0 (I:=λ_=>False)) id;have S1:=S.stepO (s0 (I:=λ_=>False)) id;have S0:=s0 (I:=I17);generalize dQ w o 0=o1 at *;obtain⟨⟨c0,c1,c2,c3⟩,-⟩:=dW C1;have HG:=Hg hg;clear s0 hg h X S hdl hd;obtain⟨b,off,ak,ck,rfl,x0,x1,x2,x3,Sy⟩:=wV S1;have HK:=kt nc (x.kids.size+1) x ak ck w1 (by omega) hx Sy.all;rw[dR,<-hkx] at HK;have hb2:kx<=3:=by omega
  clear hv hks S1 Sy hkx hb hl2;go_enter I5,IW;go_upto_region 1 with fail;rw[<-hw1,<-HG.out];clear hw1;go_wp2_with fail;refine HK.mono ?_;rintro r w1b ⟨rfl,B1⟩;have HL:=fp 11 0 kx w1b o1 rb lv ls s (by omega) (by omega) (by omega) (by omega) (X1.below B1) (E1.below B1);have SB:as I17 w1 o1 w1b o1:=as.ofBelow o1 B1;clear HK;go_upto_region 7 with (first|(go_at_call 41;refine HL.mono ?_;rintro e w2 ⟨rfl,o2,E2,S2⟩))
  have gl:=eV s 11 0 kx;have HL2:=fp 5 0 0 w2 o2 rb lv ls (s.lay 11 0 kx) (by omega) (by omega) (by omega) (by have:=gl.mes;omega) ((X1.below B1).step S2 (by decide)) E2;clear HL;go_wp2_with (first|(go_at_call 41;refine HL2.mono ?_;rintro e w3 ⟨rfl,o3,E3,S3⟩))
  go_end0
  exact⟨rfl,⟨o3,E3,((S0.trans SB).trans S2).trans S3⟩,(gl.trans (eV _ _ _ _)).le (by omega)⟩
 by_cases h15:k=15
 ·subst h15;have hv:opr 15 n nm (kdF ks) s=s.lay 12 0 0:=by simp[opr]
  rw[hv];obtain⟨w1,hw1⟩:∃w1,w1=w.alloc (.cells #[.int .i64 15,.int .i64 n,stv nm,.slice ao ks.len cap] 34):=⟨_,rfl⟩;obtain⟨g,hg⟩:∃g,g=w.heap.size:=⟨_,rfl⟩;have s0:∀ {I:Nat->Prop},as I w o w1 (dQ w o 0):=λ{I}=>by rw[hw1];exact ez I w o _
  have C1:w1.heap[g]?=G1 (.cells #[.int .i64 15,.int .i64 n,stv nm,.slice ao ks.len cap] 34):=by rw[hw1,hg];exact Hc _ _
  have C1o:dQ w o 0 g=0:=by rw[hg];exact dY (G4 _)
  have E1:=h.step (s0 (I:=λ_=>False)) noF;have X1:=X.step (s0 (I:=λ_=>False)) id;have S1:=S.stepO (s0 (I:=λ_=>False)) id;have S0:=s0 (I:=I17);generalize dQ w o 0=o1 at *;obtain⟨⟨c0,c1,c2,c3⟩,-⟩:=dW C1;have HG:=Hg hg;clear s0 hg h X S hdl hd;have HL:=fp 12 0 0 w1 o1 rb lv ls s (by omega) (by omega) (by omega) (by omega) X1 E1;clear hv;go_enter I5,IW;go_upto_region 1 with fail;rw[<-hw1,<-HG.out];clear hw1;go_wp2_with (first|(go_at_call 41;refine HL.mono ?_;rintro e w2 ⟨rfl,o2,E2,S2⟩))
  go_end0
  exact⟨rfl,⟨o2,E2,S0.trans S2⟩,(eV s _ _ _).le (by omega)⟩
 by_cases h16:k=16
 ·subst h16;have hv:opr 16 n nm (kdF ks) s=s.lay 12 0 1:=by simp[opr]
  rw[hv];obtain⟨w1,hw1⟩:∃w1,w1=w.alloc (.cells #[.int .i64 16,.int .i64 n,stv nm,.slice ao ks.len cap] 34):=⟨_,rfl⟩;obtain⟨g,hg⟩:∃g,g=w.heap.size:=⟨_,rfl⟩;have s0:∀ {I:Nat->Prop},as I w o w1 (dQ w o 0):=λ{I}=>by rw[hw1];exact ez I w o _
  have C1:w1.heap[g]?=G1 (.cells #[.int .i64 16,.int .i64 n,stv nm,.slice ao ks.len cap] 34):=by rw[hw1,hg];exact Hc _ _
  have C1o:dQ w o 0 g=0:=by rw[hg];exact dY (G4 _)
  have E1:=h.step (s0 (I:=λ_=>False)) noF;have X1:=X.step (s0 (I:=λ_=>False)) id;have S1:=S.stepO (s0 (I:=λ_=>False)) id;have S0:=s0 (I:=I17);generalize dQ w o 0=o1 at *;obtain⟨⟨c0,c1,c2,c3⟩,-⟩:=dW C1;have HG:=Hg hg;clear s0 hg h X S hdl hd;have HL:=fp 12 0 1 w1 o1 rb lv ls s (by omega) (by omega) (by omega) (by omega) X1 E1;clear hv;go_enter I5,IW;go_upto_region 1 with fail;rw[<-hw1,<-HG.out];clear hw1;go_wp2_with (first|(go_at_call 41;refine HL.mono ?_;rintro e w2 ⟨rfl,o2,E2,S2⟩))
  go_end0
  exact⟨rfl,⟨o2,E2,S0.trans S2⟩,(eV s _ _ _).le (by omega)⟩
 by_cases h20:k=20
 ·subst h20;have hn:=hdl.2.2.2.2.1 rfl;obtain⟨n0,hn0⟩:∃n0:Nat,(n0:Int)=n:=⟨n.toNat,by omega⟩;subst hn0;have hv:opr 20 (n0:Int) nm (kdF ks) s=s.lay 16 n0 0:=by simp[opr]
  rw[hv];obtain⟨w1,hw1⟩:∃w1,w1=w.alloc (.cells #[.int .i64 20,.int .i64 (n0:Int),stv nm,.slice ao ks.len cap] 34):=⟨_,rfl⟩;obtain⟨g,hg⟩:∃g,g=w.heap.size:=⟨_,rfl⟩;have s0:∀ {I:Nat->Prop},as I w o w1 (dQ w o 0):=λ{I}=>by rw[hw1];exact ez I w o _
  have C1:w1.heap[g]?=G1 (.cells #[.int .i64 20,.int .i64 (n0:Int),stv nm,.slice ao ks.len cap] 34):=by rw[hw1,hg];exact Hc _ _
  have C1o:dQ w o 0 g=0:=by rw[hg];exact dY (G4 _)
  have E1:=h.step (s0 (I:=λ_=>False)) noF;have X1:=X.step (s0 (I:=λ_=>False)) id;have S1:=S.stepO (s0 (I:=λ_=>False)) id;have S0:=s0 (I:=I17);generalize dQ w o 0=o1 at *;obtain⟨⟨c0,c1,c2,c3⟩,-⟩:=dW C1;have HG:=Hg hg;clear s0 hg h X S hdl hd;have HL:=fp 16 n0 0 w1 o1 rb lv ls s (by omega) (by omega) (by omega) (by omega) X1 E1;clear hv;go_enter I5,IW;go_upto_region 1 with fail;rw[<-hw1,<-HG.out];clear hw1;go_wp2_with (first|(go_at_call 41;refine HL.mono ?_;rintro e w2 ⟨rfl,o2,E2,S2⟩))
  go_end0
  exact⟨rfl,⟨o2,E2,S0.trans S2⟩,(eV s _ _ _).le (by omega)⟩
 by_cases h22:k=22
 ·subst h22;have hv:opr 22 n nm (kdF ks) s=s.lay 20 0 0:=by simp[opr,jz]
  rw[hv];obtain⟨w1,hw1⟩:∃w1,w1=w.alloc (.cells #[.int .i64 22,.int .i64 n,stv nm,.slice ao ks.len cap] 34):=⟨_,rfl⟩;obtain⟨g,hg⟩:∃g,g=w.heap.size:=⟨_,rfl⟩;have s0:∀ {I:Nat->Prop},as I w o w1 (dQ w o 0):=λ{I}=>by rw[hw1];exact ez I w o _
  have C1:w1.heap[g]?=G1 (.cells #[.int .i64 22,.int .i64 n,stv nm,.slice ao ks.len cap] 34):=by rw[hw1,hg];exact Hc _ _
  have C1o:dQ w o 0 g=0:=by rw[hg];exact dY (G4 _)
  have E1:=h.step (s0 (I:=λ_=>False)) noF;have X1:=X.step (s0 (I:=λ_=>False)) id;have S1:=S.stepO (s0 (I:=λ_=>False)) id;have S0:=s0 (I:=I17);generalize dQ w o 0=o1 at *;obtain⟨⟨c0,c1,c2,c3⟩,-⟩:=dW C1;have HG:=Hg hg;clear s0 hg h X S hdl hd;have HL:=fp 20 0 0 w1 o1 rb lv ls s (by omega) (by omega) (by omega) (by omega) X1 E1;have hbr:=X1.bar 22 (by omega);simp only[I3,I2] at hbr;clear hv;go_enter I5,IW;go_upto_region 1 with fail;rw[<-hw1,<-HG.out];clear hw1;go_wp2_with (first|(go_at_call 41;refine HL.mono ?_;rintro e w2 ⟨rfl,o2,E2,S2⟩))
  go_end0
  exact⟨rfl,⟨o2,E2,S0.trans S2⟩,(eV s _ _ _).le (by omega)⟩
 by_cases h23:k=23
 ·subst h23;have hv:opr 23 n nm (kdF ks) s=(s.kn nm).lay 21 (s.ns.idxOf nm) 0:=by simp[opr]
  rw[hv];obtain⟨w1,hw1⟩:∃w1,w1=w.alloc (.cells #[.int .i64 23,.int .i64 n,stv nm,.slice ao ks.len cap] 34):=⟨_,rfl⟩;obtain⟨g,hg⟩:∃g,g=w.heap.size:=⟨_,rfl⟩;have s0:∀ {I:Nat->Prop},as I w o w1 (dQ w o 0):=λ{I}=>by rw[hw1];exact ez I w o _
  have C1:w1.heap[g]?=G1 (.cells #[.int .i64 23,.int .i64 n,stv nm,.slice ao ks.len cap] 34):=by rw[hw1,hg];exact Hc _ _
  have C1o:dQ w o 0 g=0:=by rw[hg];exact dY (G4 _)
  have E1:=h.step (s0 (I:=λ_=>False)) noF;have X1:=X.step (s0 (I:=λ_=>False)) id;have S1:=S.stepO (s0 (I:=λ_=>False)) id;have S0:=s0 (I:=I17);generalize dQ w o 0=o1 at *;obtain⟨⟨c0,c1,c2,c3⟩,-⟩:=dW C1;have HG:=Hg hg;clear s0 hg h X S hdl hd;have HN:=Bj nm w1 o1 rb lv ls s hnm (by omega) X1 E1;have hi:s.ns.idxOf nm<=268435455:=by
   have:=List.idxOf_le_length (a:=nm) (l:=s.ns)
   unfold Em.mes at hm;omega
  have gk:=Gf s nm;clear hv;go_enter I5,IW;go_upto_region 1 with fail;rw[<-hw1,<-HG.out];clear hw1;go_wp2_with fail;refine HN.mono ?_;rintro e w1b ⟨rfl,o1b,E1b,S1b⟩;have HL:=fp 21 (s.ns.idxOf nm) 0 w1b o1b rb lv ls (s.kn nm) (by omega) hi (by omega) (by have:=gk.mes;omega) (X1.step S1b (by decide)) E1b;clear HN;go_wp2_with (first|(go_at_call 41;refine HL.mono ?_;rintro e w2 ⟨rfl,o2,E2,S2⟩))
  go_end0
  exact⟨rfl,⟨o2,E2,(S0.trans S1b).trans S2⟩,(gk.trans (eV _ _ _ _)).le (by omega)⟩
 by_cases h24:k=24
 ·subst h24;have hv:opr 24 n nm (kdF ks) s=s.lay 22 0 0:=by simp[opr,jz]
  rw[hv];obtain⟨w1,hw1⟩:∃w1,w1=w.alloc (.cells #[.int .i64 24,.int .i64 n,stv nm,.slice ao ks.len cap] 34):=⟨_,rfl⟩;obtain⟨g,hg⟩:∃g,g=w.heap.size:=⟨_,rfl⟩;have s0:∀ {I:Nat->Prop},as I w o w1 (dQ w o 0):=λ{I}=>by rw[hw1];exact ez I w o _
  have C1:w1.heap[g]?=G1 (.cells #[.int .i64 24,.int .i64 n,stv nm,.slice ao ks.len cap] 34):=by rw[hw1,hg];exact Hc _ _
  have C1o:dQ w o 0 g=0:=by rw[hg];exact dY (G4 _)
  have E1:=h.step (s0 (I:=λ_=>False)) noF;have X1:=X.step (s0 (I:=λ_=>False)) id;have S1:=S.stepO (s0 (I:=λ_=>False)) id;have S0:=s0 (I:=I17);generalize dQ w o 0=o1 at *;obtain⟨⟨c0,c1,c2,c3⟩,-⟩:=dW C1;have HG:=Hg hg;clear s0 hg h X S hdl hd;have HL:=fp 22 0 0 w1 o1 rb lv ls s (by omega) (by omega) (by omega) (by omega) X1 E1;have hbr:=X1.bar 24 (by omega);simp only[I3,I2] at hbr;clear hv;go_enter I5,IW;go_upto_region 1 with fail;rw[<-hw1,<-HG.out];clear hw1;go_wp2_with (first|(go_at_call 41;refine HL.mono ?_;rintro e w2 ⟨rfl,o2,E2,S2⟩))
  go_end0
  exact⟨rfl,⟨o2,E2,S0.trans S2⟩,(eV s _ _ _).le (by omega)⟩
 by_cases h25:k=25
 ·subst h25;have hv:opr 25 n nm (kdF ks) s=s.lay 23 ks.len 0:=by simp[opr,rC]
  rw[hv];obtain⟨w1,hw1⟩:∃w1,w1=w.alloc (.cells #[.int .i64 25,.int .i64 n,stv nm,.slice ao ks.len cap] 34):=⟨_,rfl⟩;obtain⟨g,hg⟩:∃g,g=w.heap.size:=⟨_,rfl⟩;have s0:∀ {I:Nat->Prop},as I w o w1 (dQ w o 0):=λ{I}=>by rw[hw1];exact ez I w o _
  have C1:w1.heap[g]?=G1 (.cells #[.int .i64 25,.int .i64 n,stv nm,.slice ao ks.len cap] 34):=by rw[hw1,hg];exact Hc _ _
  have C1o:dQ w o 0 g=0:=by rw[hg];exact dY (G4 _)
  have E1:=h.step (s0 (I:=λ_=>False)) noF;have X1:=X.step (s0 (I:=λ_=>False)) id;have S1:=S.stepO (s0 (I:=λ_=>False)) id;have S0:=s0 (I:=I17);generalize dQ w o 0=o1 at *;obtain⟨⟨c0,c1,c2,c3⟩,-⟩:=dW C1;have HG:=Hg hg;clear s0 hg h X S hdl hd;have HL:=fp 23 ks.len 0 w1 o1 rb lv ls s (by omega) (by omega) (by omega) (by omega) X1 E1;clear hv;go_enter I5,IW;go_upto_region 1 with fail;rw[<-hw1,<-HG.out];clear hw1;go_wp2_with (first|(go_at_call 41;refine HL.mono ?_;rintro e w2 ⟨rfl,o2,E2,S2⟩))
  go_end0
  exact⟨rfl,⟨o2,E2,S0.trans S2⟩,(eV s _ _ _).le (by omega)⟩
 exfalso;rcases hk with h|h|h|h|h|h|h|h|h|h|h|h|h|h|h|h<;>contradiction
theorem gW {I:Nat->Prop}{w w':G9}(o:Nat->Nat)(b:Hf w.heap.size w w'):as I w o w' (dQ w o 0):=⟨b.os,b.tape,b.output,b.size,λk hk=>ed hk,λk hk _=>b.block k hk⟩
theorem al2 (w:G9)(a b:Obj):((w.alloc a).alloc b).heap[w.heap.size]?=G1 a/\((w.alloc a).alloc b).heap[w.heap.size+1]?=G1 b/\((w.alloc a).alloc b).heap.size=w.heap.size+2/\Hf w.heap.size w ((w.alloc a).alloc b):=by
 refine⟨(IO _ _ (by simp)).trans (Hc _ _),?_,by simp,((Hi _ w).alloc (G4 _) _).alloc (by simp) _⟩
 have:=Hc (w.alloc a) b
 rw[World.size_alloc] at this;exact this
theorem al3 (w:G9)(a b c:Obj):(((w.alloc a).alloc b).alloc c).heap[w.heap.size]?=G1 a/\(((w.alloc a).alloc b).alloc c).heap[w.heap.size+1]?=G1 b/\(((w.alloc a).alloc b).alloc c).heap[w.heap.size+2]?=G1 c/\(((w.alloc a).alloc b).alloc c).heap.size=w.heap.size+3/\Hf w.heap.size w (((w.alloc a).alloc b).alloc c):=by
 obtain⟨h1,h2,h3,h4⟩:=al2 w a b;refine⟨(IO _ _ (by omega)).trans h1,(IO _ _ (by omega)).trans h2,?_,by simp,h4.alloc (by omega) _⟩
 have:=Hc ((w.alloc a).alloc b) c
 rw[h3] at this;exact this
theorem al4 (w:G9)(a b c d:Obj):((((w.alloc a).alloc b).alloc c).alloc d).heap[w.heap.size]?=G1 a/\((((w.alloc a).alloc b).alloc c).alloc d).heap[w.heap.size+1]?=G1 b/\((((w.alloc a).alloc b).alloc c).alloc d).heap[w.heap.size+2]?=G1 c/\((((w.alloc a).alloc b).alloc c).alloc d).heap[w.heap.size+3]?=G1 d/\((((w.alloc a).alloc b).alloc c).alloc d).heap.size=w.heap.size+4/\Hf w.heap.size w ((((w.alloc a).alloc b).alloc c).alloc d):=by
 obtain⟨h1,h2,h3,h4,h5⟩:=al3 w a b c;refine⟨(IO _ _ (by omega)).trans h1,(IO _ _ (by omega)).trans h2,(IO _ _ (by omega)).trans h3,?_,by simp,h5.alloc (by omega) _⟩
 have:=Hc (((w.alloc a).alloc b).alloc c) d
 rw[h4] at this;exact this
theorem al5 (w:G9)(a b c d e:Obj):(((((w.alloc a).alloc b).alloc c).alloc d).alloc e).heap[w.heap.size]?=G1 a/\(((((w.alloc a).alloc b).alloc c).alloc d).alloc e).heap[w.heap.size+1]?=G1 b/\(((((w.alloc a).alloc b).alloc c).alloc d).alloc e).heap[w.heap.size+2]?=G1 c/\(((((w.alloc a).alloc b).alloc c).alloc d).alloc e).heap[w.heap.size+3]?=G1 d/\(((((w.alloc a).alloc b).alloc c).alloc d).alloc e).heap[w.heap.size+4]?=G1 e/\(((((w.alloc a).alloc b).alloc c).alloc d).alloc e).heap.size=w.heap.size+5/\Hf w.heap.size w (((((w.alloc a).alloc b).alloc c).alloc d).alloc e):=by
 obtain⟨h1,h2,h3,h4,h5,h6⟩:=al4 w a b c d;refine⟨(IO _ _ (by omega)).trans h1,(IO _ _ (by omega)).trans h2,(IO _ _ (by omega)).trans h3,(IO _ _ (by omega)).trans h4,?_,by simp,h6.alloc (by omega) _⟩
 have:=Hc ((((w.alloc a).alloc b).alloc c).alloc d) e
 rw[h5] at this;exact this
abbrev pt0 (b:Nat):He:=.pointer (G1 ⟨b,0,G0⟩)
theorem dZ:¬I17 0:=by decide
def jE (nc N:Nat):Prop:=∀ (e:Ex) (ao:Option Hw) (cap ar u:Nat) (w:G9) (o:Nat->Nat) (rb:Nat) (lv:He) (ls:List Int) (s:Em),e.kids.size<N->okE nc e->ls.length=nc->nc<=256->SnO w o e.kids ao->s.ks.length=ls.length ->
 s.mes+300*(e.kids.size+1)<=100000000->u+3*(e.kids.size+1)<=1000000000->ar+(e.kids.size+1)<=1000000000->s.dp<=1000000001->EmX w o lv ls->EmW w o rb lv s ->
 Hn G5 40 #[pt0 rb,exN e ao cap,spV ar u] w (od w o rb lv s (emE ls e ar u s) (300*(e.kids.size+1)))
structure Cx (rb gw gn ga:Nat)(k n:Int)(nm:List UInt8)(f:Fs)(ao:Option Hw)(cap ar u:Nat)(w:G9)(o:Nat->Nat):Prop where
 bw:Blk w o 0 gw (.cells #[pt0 rb] 82)
 bn:Blk w o 0 gn (.cells #[.int .i64 k,.int .i64 n,stv nm,.slice ao f.len cap] 34)
 ba:Blk w o 0 ga (.cells #[.int .i64 (ar:Nat),.int .i64 (u:Nat)] 86)
 sn:SnO w o f ao
theorem Cx.step {I:Nat->Prop}{rb gw gn ga:Nat}{k n:Int}{nm:List UInt8}{f:Fs}{ao:Option Hw}{cap ar u:Nat}{w w':G9}{o o':Nat->Nat}(h:Cx rb gw gn ga k n nm f ao cap ar u w o)(x:as I w o w' o')(hi:¬I 0):Cx rb gw gn ga k n nm f ao cap ar u w' o' :=
 ⟨h.bw.step x hi,h.bn.step x hi,h.ba.step x hi,h.sn.stepO x hi⟩
theorem Cx.keeps (rb gw gn ga:Nat)(k n:Int)(nm:List UInt8)(f:Fs)(ao:Option Hw)(cap ar u:Nat):ol (Cx rb gw gn ga k n nm f ao cap ar u):=λh x=>h.step x dZ
theorem eT {w:G9}{b:Nat}{x:He}{t:Il}(h:w.heap[b]?=G1 (.cells #[x] t)):w.cell? ⟨b,0,G0⟩=G1 x:=by simp[J7,h]
abbrev Nd4 (w:G9)(b j:Nat)(y:Ex)(ak:Option Hw)(ck:Nat):Prop:=w.cell? ⟨b,j,G0⟩=G1 (.int .i64 y.k)/\w.cell? ⟨b,j+1,G0⟩=G1 (.int .i64 y.n)/\w.cell? ⟨b,j+2,G0⟩=G1 (stv y.nm)/\w.cell? ⟨b,j+3,G0⟩=G1 (.slice ak y.kids.len ck)
theorem Nd4.block {w w':G9}{b j:Nat}{y:Ex}{ak:Option Hw}{ck:Nat}(h:Nd4 w b j y ak ck)(e:w'.heap[b]?=w.heap[b]?):Nd4 w' b j y ak ck :=
 ⟨(Ho (a:=⟨b,j,G0⟩) e).trans h.1,(Ho (a:=⟨b,j+1,G0⟩) e).trans h.2.1,(Ho (a:=⟨b,j+2,G0⟩) e).trans h.2.2.1,(Ho (a:=⟨b,j+3,G0⟩) e).trans h.2.2.2⟩
theorem ij {w:G9}{o:Nat->Nat}{x r:Fs}{y:Ex}{ao:Option Hw}(h:SnO w o (x.app (Fs.ex y r)) ao)(i:Nat)(hi:x.len=i):∃b off ak ck,ao=G1 ⟨b,off,G0⟩/\Nd4 w b (off+i*4) y ak ck/\SnO w o y.kids ak/\∀ {I:Nat->Prop}{w':G9}{o':Nat->Nat},as I w o w' o'->¬I 0->Nd4 w' b (off+i*4) y ak ck:=by
 subst hi;obtain⟨b,off,ak,ck,rfl,hlt,hp,x0,x1,x2,x3,S⟩:=SlN.kidQ h;have N:Nd4 w b (off+x.len*4) y ak ck:=⟨x0,x1,x2,x3⟩;exact⟨b,off,ak,ck,rfl,N,S,λx hi=>N.block (x.block b hlt (by rw[hp];exact hi))⟩
theorem zL (nc N:Nat)(HP:jE nc N)(rb gw gn ga:Nat)(k n:Int)(nm:List UInt8)(x y z:Ex)(ao:Option Hw)(cap ar u:Nat)(lv:He)(ls:List Int)(hok:okF nc (Fs.ex x (Fs.ex y (Fs.ex z .nil))))(hN:y.kids.size<N)(hls:ls.length=nc)(hnc:nc<=256)(hu:u+3*(y.kids.size+1)<=1000000000)(har:ar+(y.kids.size+1)<=1000000000) :
  nI rb lv ls (Cx rb gw gn ga k n nm (Fs.ex x (Fs.ex y (Fs.ex z .nil))) ao cap ar u) 80 #[pt0 gw,pt0 gn,pt0 ga] (emE ls y ar u) (300*(y.kids.size+1)):=by
 intro w o s X E K hm hd hks;obtain⟨bw,bn,ba,sn⟩:=K;have d1:as (λ_=>False) w o w.drew o:=(as.refl _ w o).drew;obtain⟨b,off,ak,ck,rfl,NN,Sy,NK⟩:=ij (x:=one x) sn 1 rfl;have hlen:(Fs.ex x (Fs.ex y (Fs.ex z .nil))).len=3:=rfl;rw[hlen] at bn;have cw:=eT bw.1;obtain⟨⟨n0,n1,n2,n3⟩,-⟩:=dW bn.1;obtain⟨a0,a1⟩:=eh ba.1;have HC:=HP y ak ck ar u w.drew o rb lv ls s hN (et (et hok).2).1 hls hnc (Sy.stepO d1 id) hks hm hu har hd (X.step d1 id) (E.step d1 noF);rw[dR] at HC;have SD:as I17 w o w.drew o:=(as.refl _ w o).drew;have KK:Hid (∀ w' o',as I17 w.drew o w' o'->w'.cell? ⟨gw,0,G0⟩=G1 (pt0 rb)/\w'.cell? ⟨gn,3,G0⟩=G1 (.slice (G1 ⟨b,off,G0⟩) 3 cap)/\Nd4 w' b (off+4) y ak ck/\w'.cell? ⟨ga,0,G0⟩=G1 (.int .i64 (ar:Nat))/\w'.cell? ⟨ga,1,G0⟩=G1 (.int .i64 (u:Nat))):=λw' o' S=>by
  have S':=SD.trans S;exact⟨eT (bw.step S' dZ).1,(dW (bn.step S' dZ).1).1.2.2.2,NK S' dZ,(eh (ba.step S' dZ).1).1,(eh (ba.step S' dZ).1).2⟩
 obtain⟨cw',n3',NN',a0',a1'⟩:=KK.out _ _ (as.refl I17 w.drew o);obtain⟨x0,x1,x2,x3⟩:=NN;obtain⟨y0,y1,y2,y3⟩:=NN';clear bw bn ba sn Sy hlen d1 NK;go_enter Tryz.func80,Tryz.ntmps80;go_wp2_with fail;go_region_held3 (λwx=>wx.cell? ⟨gw,0,G0⟩=G1 (pt0 rb)/\wx.cell? ⟨gn,3,G0⟩=G1 (.slice (G1 ⟨b,off,G0⟩) 3 cap)/\(wx.cell? ⟨b,off+4,G0⟩=G1 (.int .i64 y.k)/\wx.cell? ⟨b,off+4+1,G0⟩=G1 (.int .i64 y.n)/\wx.cell? ⟨b,off+4+2,G0⟩=G1 (stv y.nm)/\wx.cell? ⟨b,off+4+3,G0⟩=G1 (.slice ak y.kids.len ck))/\wx.cell? ⟨ga,0,G0⟩=G1 (.int .i64 (ar:Nat))/\wx.cell? ⟨ga,1,G0⟩=G1 (.int .i64 (u:Nat))) (go_keep) (first|(go_at_call 40;refine HC.mono ?_;rintro e w2 ⟨rfl,⟨o2,E2,S2⟩,g2⟩;obtain⟨cw',n3',⟨y0,y1,y2,y3⟩,a0',a1'⟩:=KK.out _ _ S2))
 all_goals
  go_end0
  exact⟨rfl,⟨o2,E2,SD.trans S2⟩,g2⟩
theorem zw (nc N:Nat)(HP:jE nc N)(rb gw gn ga:Nat)(k n:Int)(nm:List UInt8)(x y z:Ex)(ao:Option Hw)(cap ar u:Nat)(lv:He)(ls:List Int)(hok:okF nc (Fs.ex x (Fs.ex y (Fs.ex z .nil))))(hN:z.kids.size<N)(hls:ls.length=nc)(hnc:nc<=256)(hu:u+3*(z.kids.size+1)<=1000000000)(har:ar+(z.kids.size+1)<=1000000000) :
  nI rb lv ls (Cx rb gw gn ga k n nm (Fs.ex x (Fs.ex y (Fs.ex z .nil))) ao cap ar u) 81 #[pt0 gw,pt0 gn,pt0 ga] (emE ls z ar u) (300*(z.kids.size+1)):=by
 intro w o s X E K hm hd hks;obtain⟨bw,bn,ba,sn⟩:=K;have d1:as (λ_=>False) w o w.drew o:=(as.refl _ w o).drew;obtain⟨b,off,ak,ck,rfl,NN,Sy,NK⟩:=ij (x:=Fs.ex x (one y)) sn 2 rfl;have hlen:(Fs.ex x (Fs.ex y (Fs.ex z .nil))).len=3:=rfl;rw[hlen] at bn;have cw:=eT bw.1;obtain⟨⟨n0,n1,n2,n3⟩,-⟩:=dW bn.1;obtain⟨a0,a1⟩:=eh ba.1;have HC:=HP z ak ck ar u w.drew o rb lv ls s hN (et (et (et hok).2).2).1 hls hnc (Sy.stepO d1 id) hks hm hu har hd (X.step d1 id) (E.step d1 noF);rw[dR] at HC;have SD:as I17 w o w.drew o:=(as.refl _ w o).drew;have KK:Hid (∀ w' o',as I17 w.drew o w' o'->w'.cell? ⟨gw,0,G0⟩=G1 (pt0 rb)/\w'.cell? ⟨gn,3,G0⟩=G1 (.slice (G1 ⟨b,off,G0⟩) 3 cap)/\Nd4 w' b (off+8) z ak ck/\w'.cell? ⟨ga,0,G0⟩=G1 (.int .i64 (ar:Nat))/\w'.cell? ⟨ga,1,G0⟩=G1 (.int .i64 (u:Nat))):=λw' o' S=>by
  have S':=SD.trans S;exact⟨eT (bw.step S' dZ).1,(dW (bn.step S' dZ).1).1.2.2.2,NK S' dZ,(eh (ba.step S' dZ).1).1,(eh (ba.step S' dZ).1).2⟩
 obtain⟨cw',n3',NN',a0',a1'⟩:=KK.out _ _ (as.refl I17 w.drew o);obtain⟨x0,x1,x2,x3⟩:=NN;obtain⟨y0,y1,y2,y3⟩:=NN';clear bw bn ba sn Sy hlen d1 NK;go_enter Tryz.func81,Tryz.ntmps81;go_wp2_with fail;go_region_held3 (λwx=>wx.cell? ⟨gw,0,G0⟩=G1 (pt0 rb)/\wx.cell? ⟨gn,3,G0⟩=G1 (.slice (G1 ⟨b,off,G0⟩) 3 cap)/\(wx.cell? ⟨b,off+8,G0⟩=G1 (.int .i64 z.k)/\wx.cell? ⟨b,off+8+1,G0⟩=G1 (.int .i64 z.n)/\wx.cell? ⟨b,off+8+2,G0⟩=G1 (stv z.nm)/\wx.cell? ⟨b,off+8+3,G0⟩=G1 (.slice ak z.kids.len ck))/\wx.cell? ⟨ga,0,G0⟩=G1 (.int .i64 (ar:Nat))/\wx.cell? ⟨ga,1,G0⟩=G1 (.int .i64 (u:Nat))) (go_keep) (first|(go_at_call 40;refine HC.mono ?_;rintro e w2 ⟨rfl,⟨o2,E2,S2⟩,g2⟩;obtain⟨cw',n3',⟨y0,y1,y2,y3⟩,a0',a1'⟩:=KK.out _ _ S2))
 all_goals
  go_end0
  exact⟨rfl,⟨o2,E2,SD.trans S2⟩,g2⟩
theorem D1 (nc N:Nat)(HP:jE nc N)(rb gw gn ga:Nat)(k n:Int)(nm:List UInt8)(x y:Ex)(ao:Option Hw)(cap ar u:Nat)(lv:He)(ls:List Int)(hok:okF nc (Fs.ex x (Fs.ex y .nil)))(hN:y.kids.size<N)(hls:ls.length=nc)(hnc:nc<=256)(hu:u+3*(y.kids.size+1)<=1000000000)(har:ar+(y.kids.size+1)<=1000000000) :
  nI rb lv ls (Cx rb gw gn ga k n nm (Fs.ex x (Fs.ex y .nil)) ao cap ar u) 124 #[pt0 gw,pt0 gn,pt0 ga] (emE ls y ar u) (300*(y.kids.size+1)):=by
 intro w o s X E K hm hd hks;obtain⟨bw,bn,ba,sn⟩:=K;have d1:as (λ_=>False) w o w.drew o:=(as.refl _ w o).drew;obtain⟨b,off,ak,ck,rfl,NN,Sy,NK⟩:=ij (x:=one x) sn 1 rfl;have hlen:(Fs.ex x (Fs.ex y .nil)).len=2:=rfl;rw[hlen] at bn;have cw:=eT bw.1;obtain⟨⟨n0,n1,n2,n3⟩,-⟩:=dW bn.1;obtain⟨a0,a1⟩:=eh ba.1;have HC:=HP y ak ck ar u w.drew o rb lv ls s hN (et (et hok).2).1 hls hnc (Sy.stepO d1 id) hks hm hu har hd (X.step d1 id) (E.step d1 noF);rw[dR] at HC;have SD:as I17 w o w.drew o:=(as.refl _ w o).drew;have KK:Hid (∀ w' o',as I17 w.drew o w' o'->w'.cell? ⟨gw,0,G0⟩=G1 (pt0 rb)/\w'.cell? ⟨gn,3,G0⟩=G1 (.slice (G1 ⟨b,off,G0⟩) 2 cap)/\Nd4 w' b (off+4) y ak ck/\w'.cell? ⟨ga,0,G0⟩=G1 (.int .i64 (ar:Nat))/\w'.cell? ⟨ga,1,G0⟩=G1 (.int .i64 (u:Nat))):=λw' o' S=>by
  have S':=SD.trans S;exact⟨eT (bw.step S' dZ).1,(dW (bn.step S' dZ).1).1.2.2.2,NK S' dZ,(eh (ba.step S' dZ).1).1,(eh (ba.step S' dZ).1).2⟩
 obtain⟨cw',n3',NN',a0',a1'⟩:=KK.out _ _ (as.refl I17 w.drew o);obtain⟨x0,x1,x2,x3⟩:=NN;obtain⟨y0,y1,y2,y3⟩:=NN';clear bw bn ba sn Sy hlen d1 NK;go_enter Tryz.func124,Tryz.ntmps124;go_wp2_with fail;go_region_held3 (λwx=>wx.cell? ⟨gw,0,G0⟩=G1 (pt0 rb)/\wx.cell? ⟨gn,3,G0⟩=G1 (.slice (G1 ⟨b,off,G0⟩) 2 cap)/\(wx.cell? ⟨b,off+4,G0⟩=G1 (.int .i64 y.k)/\wx.cell? ⟨b,off+4+1,G0⟩=G1 (.int .i64 y.n)/\wx.cell? ⟨b,off+4+2,G0⟩=G1 (stv y.nm)/\wx.cell? ⟨b,off+4+3,G0⟩=G1 (.slice ak y.kids.len ck))/\wx.cell? ⟨ga,0,G0⟩=G1 (.int .i64 (ar:Nat))/\wx.cell? ⟨ga,1,G0⟩=G1 (.int .i64 (u:Nat))) (go_keep) (first|(go_at_call 40;refine HC.mono ?_;rintro e w2 ⟨rfl,⟨o2,E2,S2⟩,g2⟩;obtain⟨cw',n3',⟨y0,y1,y2,y3⟩,a0',a1'⟩:=KK.out _ _ S2))
 all_goals
  go_end0
  exact⟨rfl,⟨o2,E2,SD.trans S2⟩,g2⟩
theorem nI.mono {rb:Nat}{lv:He}{ls:List Int}{K K':G9->(Nat->Nat)->Prop}{F:FuncId}{c:Array He}{t:Em->Em}{n:Nat}(h:nI rb lv ls K F c t n)(hk:∀ w o,K' w o->K w o):nI rb lv ls K' F c t n:=λw o s X E k=>h w o s X E (hk w o k)
theorem Dx (rb gw gs ga ar u v:Nat)(lv:He)(ls:List Int)(hv:v<=1)(hu:u<=1000000000) :
  nI rb lv ls (λw o=>Blk w o 0 gw (.cells #[pt0 rb] 82)/\Blk w o 0 gs (.cells #[.int .i64 (v:Nat)] 3)/\Blk w o 0 ga (.cells #[.int .i64 (ar:Nat),.int .i64 (u:Nat)] 86)) 125 #[pt0 gw,pt0 gs,pt0 ga] (λt=>t.con (v:Nat) 2 u) 2:=by
 intro w o s X E ⟨bw,bs,ba⟩ hm hd hks;have cw:=eT bw.1;have cs:=eT bs.1;obtain⟨a0,a1⟩:=eh ba.1;have HC:=fs (v:Nat) 2 ar u w o rb lv ls s (by omega) (by omega) hu hd (by omega) X E;clear bw bs ba;go_enter Tryz.func125,Tryz.ntmps125;go_wp2_with (first|(go_at_call 74;refine HC.mono ?_;rintro e w2 ⟨rfl,o2,E2,S2⟩))
 go_end0
 exact⟨rfl,⟨o2,E2,S2⟩,iK s _ _ _ hu⟩
theorem BM:Ent 124:=λ_ _=>by kernel_rfl
theorem Bh:Ent 125:=λ_ _=>by kernel_rfl
def CxI (rb gw gn gs ga:Nat)(k n:Int)(nm:List UInt8)(f:Fs)(ao:Option Hw)(cap ar u v:Nat)(w:G9)(o:Nat->Nat):Prop:=Cx rb gw gn ga k n nm f ao cap ar u w o/\Blk w o 0 gs (.cells #[.int .i64 (v:Nat)] 3)
theorem CxI.keeps (rb gw gn gs ga:Nat)(k n:Int)(nm:List UInt8)(f:Fs)(ao:Option Hw)(cap ar u v:Nat):ol (CxI rb gw gn gs ga k n nm f ao cap ar u v):=λh x=>⟨h.1.step x dZ,h.2.step x dZ⟩
theorem y8 (nc N:Nat)(HP:jE nc N)(k n:Int)(nm:List UInt8)(a:Int)(x y:Ex)(ao:Option Hw)(cap op v ar u:Nat)(w:G9)(o:Nat->Nat)(rb:Nat)(lv:He)(ls:List Int)(s:Em)(hop:op<=255)(hv:v<=1)(hok:okF nc (Fs.ex x (Fs.ex y .nil)))(hN1:x.kids.size<N)(hN2:y.kids.size<N)(hls:ls.length=nc)(hnc:nc<=256)(hu:u+3*(x.kids.size+y.kids.size+2)<=1000000000)(har:ar+(x.kids.size+y.kids.size+2)<=1000000000)(S:SnO w o (Fs.ex x (Fs.ex y .nil)) ao)(hks:s.ks.length=ls.length)
  (hm:s.mes+(300*(x.kids.size+1)+(300*(y.kids.size+1)+4))<=100000000) (hd:s.dp<=1000000001) (X:EmX w o lv ls) (h:EmW w o rb lv s) :
  Hn G5 78 #[pt0 rb,exN ⟨k,n,nm,a,Fs.ex x (Fs.ex y .nil)⟩ ao cap,.int .i64 (op:Nat),.int .i64 (v:Nat),spV ar u] w (od w o rb lv s ((emE ls x ar u s).fork op (emE ls y ar u) (λt=>t.con (v:Nat) 2 u)) (300*(x.kids.size+1)+(300*(y.kids.size+1)+4))):=by
 have hmf:∀ (fn:Fn) (first cap:Array He) (w:G9),(Instr.makeFunc fn first cap).run G5 w=.ok (.func fn first cap) w:=λ_ _ _ _=>rfl;have hlen:(Fs.ex x (Fs.ex y .nil)).len=2:=rfl;rw[dR];simp only;obtain⟨g,hg⟩:∃g,g=w.heap.size:=⟨_,rfl⟩;obtain⟨w1,hw1⟩:∃w1,w1=(((w.alloc (.cells #[pt0 rb] 82)).alloc (.cells #[.int .i64 k,.int .i64 n,stv nm,.slice ao (Fs.ex x (Fs.ex y .nil)).len cap] 34)).alloc (.cells #[.int .i64 (v:Nat)] 3)).alloc (.cells #[.int .i64 (ar:Nat),.int .i64 (u:Nat)] 86):=⟨_,rfl⟩;obtain⟨z1,z2,z3,z4,z5,z6⟩:=al4 w (.cells #[pt0 rb] 82) (.cells #[.int .i64 k,.int .i64 n,stv nm,.slice ao (Fs.ex x (Fs.ex y .nil)).len cap] 34) (.cells #[.int .i64 (v:Nat)] 3) (.cells #[.int .i64 (ar:Nat),.int .i64 (u:Nat)] 86);rw[<-hw1,<-hg] at z1 z2 z3 z4 z5 z6;have s0:∀ {I:Nat->Prop},as I w o w1 (dQ w o 0):=λ{I}=>gW o (by rw[<-hg];exact z6);have hnl:∀ j,dQ w o 0 (g+j)=0:=λj=>dY (by omega);have K1:CxI rb g (g+1) (g+2) (g+3) k n nm (Fs.ex x (Fs.ex y .nil)) ao cap ar u v w1 (dQ w o 0):=⟨⟨⟨z1,hnl 0⟩,⟨z2,hnl 1⟩,⟨z4,hnl 3⟩,S.stepO (s0 (I:=λ_=>False)) id⟩,⟨z3,hnl 2⟩⟩;have E1:=h.step (s0 (I:=λ_=>False)) noF;have X1:=X.step (s0 (I:=λ_=>False)) id;have S0:=s0 (I:=I17);generalize dQ w o 0=o1 at *;have HG:=Hg hg;clear s0 hnl z1 z2 z3 z4 z5 z6 h X S hg;have d1:as (λ_=>False) w1 o1 w1.drew o1:=(as.refl _ w1 o1).drew;have SD:as I17 w1 o1 w1.drew o1:=(as.refl _ w1 o1).drew;have KD:=K1.1.step d1 id;obtain⟨b,off,ak,ck,rfl,NN,Sy,NK⟩:=ij (x:=.nil) K1.1.sn 0 rfl;have HC:=HP x ak ck ar u w1.drew o1 rb lv ls s hN1 (et hok).1 hls hnc (Sy.stepO d1 id) hks (by omega) (by omega) (by omega) hd (X1.step d1 id) (E1.step d1 noF);rw[dR] at HC;rw[hlen] at hw1 ⊢;have KK:Hid (∀ w' o',as I17 w1.drew o1 w' o'->w'.cell? ⟨g,0,G0⟩=G1 (pt0 rb)/\w'.cell? ⟨g+1,3,G0⟩=G1 (.slice (G1 ⟨b,off,G0⟩) 2 cap)/\Nd4 w' b off x ak ck/\w'.cell? ⟨g+3,0,G0⟩=G1 (.int .i64 (ar:Nat))/\w'.cell? ⟨g+3,1,G0⟩=G1 (.int .i64 (u:Nat))):=λw' o' S=>by
  have S':=SD.trans S;have K2:=K1.1.step S' dZ;exact⟨eT K2.bw.1,(dW K2.bn.1).1.2.2.2,NK S' dZ,(eh K2.ba.1).1,(eh K2.ba.1).2⟩
 obtain⟨cw',n3',NN',a0',a1'⟩:=KK.out _ _ (as.refl I17 w1.drew o1);have cw:=eT K1.1.bw.1;have n3:=(dW K1.1.bn.1).1.2.2.2;rw[hlen] at n3;obtain⟨a0,a1⟩:=eh K1.1.ba.1;obtain⟨x0,x1,x2,x3⟩:=NN;obtain⟨y0,y1,y2,y3⟩:=NN';have FK:∀ w2 o2 s2,CxI rb g (g+1) (g+2) (g+3) k n nm (Fs.ex x (Fs.ex y .nil)) (G1 ⟨b,off,G0⟩) cap ar u v w2 o2->EmX w2 o2 lv ls->EmW w2 o2 rb lv s2->s2.mes+(300*(y.kids.size+1)+2+2)<=100000000->s2.dp<=1000000001->s2.ks.length=ls.length->_:=λw2 o2 s2 K2 X2 E2 hm2 hd2 hk2 =>
  tS op 124 125 #[pt0 g,pt0 (g+1),pt0 (g+3)] #[pt0 g,pt0 (g+2),pt0 (g+3)] (emE ls y ar u) (λt=>t.con (v:Nat) 2 u) (300*(y.kids.size+1)) 2 _ (CxI.keeps _ _ _ _ _ _ _ _ _ _ _ _ _ _) BM Bh w2 o2 rb lv ls ((D1 nc N HP rb g (g+1) (g+3) k n nm x y (G1 ⟨b,off,G0⟩) cap ar u lv ls hok hN2 hls hnc (by omega) (by omega)).mono (λ_ _ h=>h.1)) ((Dx rb g (g+2) (g+3) ar u v lv ls hv (by omega)).mono (λ_ _ h=>⟨h.1.bw,h.2,h.1.ba⟩)) s2 hop hm2 hd2 hk2 X2 E2 K2
 clear hlen d1 NK Sy KD E1 hok hN1 hN2;go_enter Tryz.func78,Tryz.ntmps78;go_upto_region 1 with fail;rw[<-hw1,<-HG.out];clear hw1;go_region_held3 (λwx=>wx.cell? ⟨g,0,G0⟩=G1 (pt0 rb)/\wx.cell? ⟨g+1,3,G0⟩=G1 (.slice (G1 ⟨b,off,G0⟩) 2 cap)/\(wx.cell? ⟨b,off,G0⟩=G1 (.int .i64 x.k)/\wx.cell? ⟨b,off+1,G0⟩=G1 (.int .i64 x.n)/\wx.cell? ⟨b,off+2,G0⟩=G1 (stv x.nm)/\wx.cell? ⟨b,off+3,G0⟩=G1 (.slice ak x.kids.len ck))/\wx.cell? ⟨g+3,0,G0⟩=G1 (.int .i64 (ar:Nat))/\wx.cell? ⟨g+3,1,G0⟩=G1 (.int .i64 (u:Nat))) (go_keep) (first|(go_at_call 40;refine HC.mono ?_;rintro e w2 ⟨rfl,⟨o2,E2,S2⟩,g2⟩;obtain⟨cw',n3',⟨y0,y1,y2,y3⟩,a0',a1'⟩:=KK.out _ _ S2))
 all_goals
  have S3:=SD.trans S2;have HF:=FK w2 o2 _ ⟨K1.1.step S3 dZ,K1.2.step S3 dZ⟩ (X1.step S3 dZ) E2 (by have:=g2.mes;omega) (g2.dp hd) (g2.ks.trans hks);clear FK HC KK K1;go_wp2_with (first|(go_at_call 79;refine HF.mono ?_;rintro e w4 ⟨rfl,⟨o4,E4,S4⟩,g4⟩))
  go_end0
  exact⟨rfl,⟨o4,E4,(S0.trans S3).trans S4⟩,(g2.trans g4).le (by omega)⟩
theorem EC (nc N:Nat)(HP:jE nc N)(n:Int)(nm:List UInt8)(a:Int)(x:Ex)(ao:Option Hw)(cap ar u:Nat)(w:G9)(o:Nat->Nat)(rb:Nat)(lv:He)(ls:List Int)(s:Em)(hoe:okE nc ⟨26,n,nm,a,Fs.ex x .nil⟩)(hN1:x.kids.size<N)(hls:ls.length=nc)(hnc:nc<=256)(hu:u+3*(x.kids.size+1)<=1000000000)(har:ar+(x.kids.size+1)<=1000000000)(S:SnO w o (Fs.ex x .nil) ao)(hks:s.ks.length=ls.length)
  (hm:s.mes+(300*(x.kids.size+1)+2)<=100000000) (hd:s.dp<=1000000001) (X:EmX w o lv ls) (h:EmW w o rb lv s) :
  Hn G5 82 #[pt0 rb,exN ⟨26,n,nm,a,Fs.ex x .nil⟩ ao cap,spV ar u] w (od w o rb lv s (((emE ls x ar u ((s.cel n.toNat (kdE x)).lay 17 n.toNat 0)).lay 18 n.toNat 0).land s.ws.length) (300*(x.kids.size+1)+2)):=by
 have hok:okF nc (Fs.ex x .nil):=hoe.2;have hn:0<=n/\n<(nc:Int):=hoe.1.2.2.1 rfl;obtain⟨n0,hn0⟩:∃n0:Nat,(n0:Int)=n:=⟨n.toNat,by omega⟩;subst hn0;rw[IE];have hkx:=lN (et hok).1;have hlen:(Fs.ex x .nil).len=1:=rfl;have HKO:=λw2 (S2:SnA w2 (Fs.ex x .nil) ao)=>kt nc ((Fs.ex x .nil).size+1) ⟨26,(n0:Int),nm,a,Fs.ex x .nil⟩ ao cap w2 (by show (Fs.ex x .nil).size < _;omega) hoe S2;have hke:kdE ⟨26,(n0:Int),nm,a,Fs.ex x .nil⟩=kdE x:=by simp only[kdE,lV];simp[kdN]
 rw[dR,hke] at HKO;rw[dR];simp only at HKO ⊢;obtain⟨g,hg⟩:∃g,g=w.heap.size:=⟨_,rfl⟩;obtain⟨w1,hw1⟩:∃w1,w1=(w.alloc (.cells #[.int .i64 26,.int .i64 (n0:Nat),stv nm,.slice ao (Fs.ex x .nil).len cap] 34)).alloc (.cells #[.int .i64 (ar:Nat),.int .i64 (u:Nat)] 86):=⟨_,rfl⟩;obtain⟨z1,z2,z5,z6⟩:=al2 w (.cells #[.int .i64 26,.int .i64 (n0:Nat),stv nm,.slice ao (Fs.ex x .nil).len cap] 34) (.cells #[.int .i64 (ar:Nat),.int .i64 (u:Nat)] 86);rw[<-hw1,<-hg] at z1 z2 z5 z6;have s0:∀ {I:Nat->Prop},as I w o w1 (dQ w o 0):=λ{I}=>gW o (by rw[<-hg];exact z6);have hnl:∀ j,dQ w o 0 (g+j)=0:=λj=>dY (by omega);have K1:Blk w1 (dQ w o 0) 0 g (.cells #[.int .i64 26,.int .i64 (n0:Nat),stv nm,.slice ao (Fs.ex x .nil).len cap] 34)/\Blk w1 (dQ w o 0) 0 (g+1) (.cells #[.int .i64 (ar:Nat),.int .i64 (u:Nat)] 86):=⟨⟨z1,hnl 0⟩,⟨z2,hnl 1⟩⟩;have SN1:=S.stepO (s0 (I:=λ_=>False)) id;have E1:=h.step (s0 (I:=λ_=>False)) noF;have X1:=X.step (s0 (I:=λ_=>False)) id;have S0:=s0 (I:=I17);generalize dQ w o 0=o1 at *;have HG:=Hg hg;clear s0 hnl z1 z2 z5 z6 h X S hg;rw[hlen] at hw1 K1 HKO ⊢;have d1:as (λ_=>False) w1 o1 w1.drew o1:=(as.refl _ w1 o1).drew;have HK:=HKO w1.drew (SN1.all.below (Hi _ w1).drew);obtain⟨b,off,ak,ck,rfl,NN,Sy,NK⟩:=ij (x:=.nil) SN1 0 rfl;obtain⟨h1,h2,h3,vw,vc,vn,vk,mc,mn,q0,q1,q2,q3,q4,q5,q6⟩:=E1;obtain⟨gk,capk,rfl,ogk,-,-,hgl,hck,hfk⟩:=q4.pos (by rw[hks,hls];omega);have hne1:rb≠gk:=λe=>by have:=q0.2;rw[e,ogk] at this;cases this
 have hne2:g≠gk:=λe=>by have:=K1.1.2;rw[e,ogk] at this;cases this
 have hn0:n0<s.ks.length:=by rw[hks,hls];omega
 have HS:Hid (∀ w2,Hf w1.heap.size w1 w2->EmW (w2.setCell ⟨gk,n0,G0⟩ (.int .i64 (kdE x))) o1 rb lv (s.cel n0 (kdE x))/\as I17 w1 o1 (w2.setCell ⟨gk,n0,G0⟩ (.int .i64 (kdE x))) o1):=λw2 B=>by
  have x0:=as.ofBelow (I:=λ_=>False) o1 B;have x1:as (λk=>k=5) w1 o1 (w2.setCell ⟨gk,n0,G0⟩ (.int .i64 (kdE x))) o1:=(as.ofBelow o1 B).setCell ⟨gk,n0,G0⟩ _ ogk;refine⟨⟨h1,h2,h3,_,_,_,_,mc,mn,q0.step x1 (by decide),q1.step x1 (by decide),q2.step x1 (by decide),q3.step x1 (by decide),?_,q5.step x1 (by decide),q6.step x1 (by decide)⟩,x1.mono (fC (by decide))⟩;have r:=(q4.step x0 id).store n0 (.int .i64 (kdE x));have e2:eiV (s.cel n0 (kdE x)).ks=(eiV s.ks).set n0 (.int .i64 (kdE x)):=by simp[eiV,Em.cel]
  have e3:(s.cel n0 (kdE x)).ks.length=s.ks.length:=by simp[Em.cel]
  rw[e2,e3];exact r
 have KK:Hid (∀ w' o',as I17 w1 o1 w' o'->w'.cell? ⟨g,0,G0⟩=G1 (.int .i64 26)/\w'.cell? ⟨g,1,G0⟩=G1 (.int .i64 (n0:Nat))/\w'.cell? ⟨g,2,G0⟩=G1 (stv nm)/\w'.cell? ⟨g,3,G0⟩=G1 (.slice (G1 ⟨b,off,G0⟩) 1 cap)/\Nd4 w' b off x ak ck/\w'.cell? ⟨g+1,0,G0⟩=G1 (.int .i64 (ar:Nat))/\w'.cell? ⟨g+1,1,G0⟩=G1 (.int .i64 (u:Nat))):=λw' o' S=>by
  obtain⟨⟨e0,e1,e2,e3⟩,-⟩:=dW (K1.1.step S dZ).1;obtain⟨f0,f1⟩:=eh (K1.2.step S dZ).1;exact⟨e0,e1,e2,e3,NK S dZ,f0,f1⟩
 have FZ:Hid (∀ w2,Hf w1.heap.size w1 w2->w2.cell? ⟨rb,3,G0⟩=G1 (.slice (G1 ⟨gk,0,G0⟩) s.ks.length capk)/\(∃v,w2.cell? ⟨gk,n0,G0⟩=G1 v)/\w2.frozen? ⟨gk,n0,G0⟩=false):=λw2 B=>by
  refine⟨(B.cell (p:=⟨rb,3,G0⟩) q0.lt).trans (ik q0.1).1.2.2.2.1,⟨.int .i64 (s.ks[n0]),?_⟩,?_⟩
  ·rw[B.cell (p:=⟨gk,n0,G0⟩) hgl,hck n0 (by omega)];simp[eiV,hn0]
  ·have e:=B.block gk hgl
   have:=hfk n0
   unfold Ki at this ⊢;rw[e];exact this
 obtain⟨r3,⟨vz,rz⟩,rf⟩:=FZ.out w1 (Hi _ _);obtain⟨r3',⟨vz',rz'⟩,rf'⟩:=FZ.out w1.drew (Hi _ w1).drew;obtain⟨c0,c1,c2,c3,⟨x0,x1,x2,x3⟩,a0,a1⟩:=KK.out _ _ (as.refl I17 w1 o1);obtain⟨d0,d1',d2,d3,⟨y0,y1,y2,y3⟩,b0,b1⟩:=KK.out _ _ ((as.refl I17 w1 o1).drew);have hnI:(n0:Int)<(s.ks.length:Int):=by omega
 have SyD:=Sy;have gc:=Fa s n0 (kdE x);have gl:=eV (s.cel n0 (kdE x)) 17 n0 0;clear q0 q1 q2 q3 q4 q5 q6 h1 h2 h3 hck hfk NK SN1 HKO hke hlen NN;generalize hkk:kdE x=kx at *
 go_enter_defers Tryz.func82,Tryz.ntmps82
 go_upto_region 1 with fail;rw[<-hw1,<-HG.out];clear hw1;go_region_held3 (λwx=>wx.cell? ⟨g,0,G0⟩=G1 (.int .i64 26)/\wx.cell? ⟨g,1,G0⟩=G1 (.int .i64 (n0:Nat))/\wx.cell? ⟨g,2,G0⟩=G1 (stv nm)/\wx.cell? ⟨g,3,G0⟩=G1 (.slice (G1 ⟨b,off,G0⟩) 1 cap)/\wx.cell? ⟨rb,3,G0⟩=G1 (.slice (G1 ⟨gk,0,G0⟩) s.ks.length capk)) (go_keep) (first|(go_at_call 75;refine HK.mono ?_;rintro e w2 ⟨rfl,B2⟩;have BB2:=((Hi _ w1).drew).trans B2;obtain⟨e0,e1,e2,e3,-,-,-⟩:=KK.out _ _ (as.ofBelow o1 BB2);obtain⟨t3,⟨tz,tr⟩,tf⟩:=FZ.out w2 BB2;obtain⟨m0,m1,m2,m3,-,-,-⟩:=KK.out _ _ (HS.out w2 BB2).2;have mr:=(Ho (a:=⟨rb,3,G0⟩) (Hl w2 ⟨gk,n0,G0⟩ rb (.int .i64 kx) hne1)).trans t3))
 all_goals
  obtain⟨ES,SS⟩:=HS.out w2 BB2;clear HS FZ HK m0 m1 m2 m3 mr t3 tz tr tf e0 e1 e2 e3 r3 r3' rz rz' rf rf' c0 c1 c2 c3 d0 d1' d2 d3 x0 x1 x2 x3 y0 y1 y2 y3 a0 a1 b0 b1;generalize w2.setCell ⟨gk,n0,G0⟩ (.int .i64 kx)=w3 at *;have XS:=X1.step SS dZ;have HL:=fp 17 n0 0 w3 o1 rb lv ls (s.cel n0 kx) (by omega) (by omega) (by omega) (by have:=gc.mes;omega) XS ES;obtain⟨c0,c1,c2,c3,⟨x0,x1,x2,x3⟩,a0,a1⟩:=KK.out _ _ SS;go_upto_region 3 with (first|(go_at_call 41;refine HL.mono ?_;rintro e w4 ⟨rfl,o4,E4,S4⟩))
  have ST:=SS.trans S4;have d4:as (λ_=>False) w4 o4 w4.drew o4:=(as.refl _ w4 o4).drew;have D4:as I17 w4 o4 w4.drew o4:=(as.refl _ w4 o4).drew;have STD:=ST.trans D4;have HC:=HP x ak ck ar u w4.drew o4 rb lv ls ((s.cel n0 kx).lay 17 n0 0) hN1 (et hok).1 hls hnc (Sy.stepO STD dZ) ((gc.trans gl).ks.trans hks) (by have:=(gc.trans gl).mes;omega) (by omega) (by omega) ((gc.trans gl).dp hd) (X1.step STD dZ) (E4.step d4 noF);rw[dR] at HC;clear c0 c1 c2 c3 x0 x1 x2 x3 a0 a1 HL;obtain⟨c0,c1,c2,c3,⟨x0,x1,x2,x3⟩,a0,a1⟩:=KK.out _ _ ST;obtain⟨e0,e1,e2,e3,⟨y0,y1,y2,y3⟩,b0,b1⟩:=KK.out _ _ STD;go_region_held3 (λwx=>wx.cell? ⟨g,3,G0⟩=G1 (.slice (G1 ⟨b,off,G0⟩) 1 cap)/\(wx.cell? ⟨b,off,G0⟩=G1 (.int .i64 x.k)/\wx.cell? ⟨b,off+1,G0⟩=G1 (.int .i64 x.n)/\wx.cell? ⟨b,off+2,G0⟩=G1 (stv x.nm)/\wx.cell? ⟨b,off+3,G0⟩=G1 (.slice ak x.kids.len ck))/\wx.cell? ⟨g+1,0,G0⟩=G1 (.int .i64 (ar:Nat))/\wx.cell? ⟨g+1,1,G0⟩=G1 (.int .i64 (u:Nat))) (go_keep) (first|(go_at_call 40;refine HC.mono ?_;rintro e w5 ⟨rfl,⟨o5,E5,S5⟩,g5⟩;obtain⟨m0,m1,m2,m3,⟨z0,z1,z2,z3⟩,h0,h1⟩:=KK.out _ _ (STD.trans S5)))
  all_goals
   have SU:=STD.trans S5;have g15:=(gc.trans gl).trans g5;have HL:=fp 18 n0 0 w5 o5 rb lv ls (emE ls x ar u ((s.cel n0 kx).lay 17 n0 0)) (by omega) (by omega) (by omega) (by have:=g15.mes;omega) (X1.step SU dZ) E5;clear HC c0 c1 c2 c3 x0 x1 x2 x3 a0 a1 e0 e1 e2 e3 y0 y1 y2 y3 b0 b1;obtain⟨s5,hs5⟩:∃s5,s5=emE ls x ar u ((s.cel n0 kx).lay 17 n0 0):=⟨_,rfl⟩;rw[<-hs5] at E5 g5 g15 HL;have HS5:=Hg hs5;clear hs5;go_wp2_with (first|(go_at_call 41;refine HL.mono ?_;rintro e w6 ⟨rfl,o6,E6,S6⟩));have hwl:s.ws.length<(s5.lay 18 n0 0).ws.length:=by
    have h1:=g5.ws;have h2:((s.cel n0 kx).lay 17 n0 0).ws.length=s.ws.length+1:=by simp[Em.lay,Em.cel]
    have h3:(s5.lay 18 n0 0).ws.length=s5.ws.length+1:=by simp[Em.lay]
    omega
   have g6:=g15.trans (eV s5 18 n0 0);have HD:=ro s.ws.length .returning w6 o6 rb lv ls (s5.lay 18 n0 0) hwl (by have:=g6.mes;omega) (X1.step (SU.trans S6) dZ) E6;refine leaves_cons (f:=126) (args:=#[.pointer (G1 ⟨rb,0,G0⟩),.int .i64 (s.ws.length:Nat)]) (by simp) (by simp[go_sem,Em.cel]) ?_;refine HD.mono ?_;rintro e u' w7 ⟨rfl,rfl,o7,E7,S7⟩;exact⟨_,Jq rfl _ _ _,rfl,by rw[<-HS5.out];exact⟨⟨o7,E7,((S0.trans SU).trans S6).trans S7⟩,(g6.trans (nO _ _)).le (by omega)⟩⟩
abbrev iq (e:Ex)(ao:Option Hw)(cap:Nat):Array He:=#[.int .i64 e.k,.int .i64 e.n,stv e.nm,.slice ao e.kids.len cap]
theorem xj (h:Nat):∀ (l:List Int) (k:Nat) (s:Em) (x:Int) (r:List Int),l=x::r->iL h l k s=iL h r (k+1) (if x=(h:Int) then s.lay 19 k 0 else s)
 | _,k,s,x,r,rfl=>rfl
theorem Ao (nc N:Nat)(HP:jE nc N)(e:Ex)(ao:Option Hw)(cap ar u:Nat)(w:G9)(o:Nat->Nat)(rb:Nat)(lv:He)(ls:List Int)(s:Em)(hoe:okE nc e)(hN:e.kids.size<N)(hls:ls.length=nc)(hnc:nc<=256)(hu:u+3*(e.kids.size+1)<=1000000000)(har:ar+1+(e.kids.size+1)<=1000000000)(S:SnO w o e.kids ao)(hks:s.ks.length=ls.length)
  (hm:s.mes+(256+300*(e.kids.size+1))<=100000000) (hd:s.dp<=1000000001) (X:EmX w o lv ls) (h:EmW w o rb lv s) :
  Hn G5 191 #[pt0 rb,exN e ao cap,spV ar u] w (od w o rb lv s (bdy ls (emE ls e) ar u s) (256+300*(e.kids.size+1))):=by
 subst hls;have HKS:=Hg hks;clear hks;obtain⟨g,hg⟩:∃g,g=w.heap.size:=⟨_,rfl⟩;obtain⟨w1,hw1⟩:∃w1,w1=(w.alloc (.cells (iq e ao cap) 34)).alloc (.cells #[.int .i64 (ar:Nat),.int .i64 (u:Nat)] 86):=⟨_,rfl⟩;obtain⟨z1,z2,z5,z6⟩:=al2 w (.cells (iq e ao cap) 34) (.cells #[.int .i64 (ar:Nat),.int .i64 (u:Nat)] 86);rw[<-hw1,<-hg] at z1 z2 z5 z6;obtain⟨A,hA⟩:∃A,A=ar+1:=⟨_,rfl⟩;have hAI:(ar:Int)+1=(A:Int):=by omega
 obtain⟨w2,hw2⟩:∃w2,w2=w1.setCell ⟨g+1,0,G0⟩ (.int .i64 (A:Nat)):=⟨_,rfl⟩;have B2:Hf g w w2:=by rw[hw2];exact z6.setCell (p:=⟨g+1,0,G0⟩) (by show g<=g+1;omega) _
 have y1:w2.heap[g]?=G1 (.cells (iq e ao cap) 34):=by rw[hw2];exact(Hl w1 ⟨g+1,0,G0⟩ g _ (by show g≠g+1;omega)).trans z1
 have y2:w2.heap[g+1]?=G1 (.cells #[.int .i64 (A:Nat),.int .i64 (u:Nat)] 86):=by
  rw[hw2]
  have:=IJ w1 (g+1) 0 _ _ (.int .i64 (A:Nat)) z2
  simpa using this
 have s0:∀ {I:Nat->Prop},as I w o w2 (dQ w o 0):=λ{I}=>gW o (by rw[<-hg];exact B2);have hnl:∀ j,dQ w o 0 (g+j)=0:=λj=>dY (by omega);have K1:Blk w2 (dQ w o 0) 0 g (.cells (iq e ao cap) 34)/\Blk w2 (dQ w o 0) 0 (g+1) (.cells #[.int .i64 (A:Nat),.int .i64 (u:Nat)] 86):=⟨⟨y1,hnl 0⟩,⟨y2,hnl 1⟩⟩;have SN1:=S.stepO (s0 (I:=λ_=>False)) id;have E1:=h.step (s0 (I:=λ_=>False)) noF;have X1:=X.step (s0 (I:=λ_=>False)) id;have S0:=s0 (I:=I17);generalize dQ w o 0=o1 at *;have HG:=Hg hg;obtain⟨⟨c0,c1⟩,cf⟩:=kS z2;have cf0:=cf 0;clear s0 hnl z1 z2 z5 z6 h X S hg y1 y2 B2 cf;rw[dR];have KK:Hid (∀ w' o',as I17 w2 o1 w' o'->w'.cell? ⟨g,0,G0⟩=G1 (.int .i64 e.k)/\w'.cell? ⟨g,1,G0⟩=G1 (.int .i64 e.n)/\w'.cell? ⟨g,2,G0⟩=G1 (stv e.nm)/\w'.cell? ⟨g,3,G0⟩=G1 (.slice ao e.kids.len cap)/\w'.cell? ⟨g+1,0,G0⟩=G1 (.int .i64 (A:Nat))/\w'.cell? ⟨g+1,1,G0⟩=G1 (.int .i64 (u:Nat))):=λw' o' S=>by
  obtain⟨⟨e0,e1,e2,e3⟩,-⟩:=dW (K1.1.step S dZ).1;obtain⟨f0,f1⟩:=eh (K1.2.step S dZ).1;exact⟨e0,e1,e2,e3,f0,f1⟩
 obtain⟨al,cl,rfl,hlv⟩:=X1.lvs;have LV:Hid (∀ w' o',as I17 w2 o1 w' o'->∀ j x,ls[j]?=G1 x->∃b off,al=G1 ⟨b,off,G0⟩/\w'.cell? ⟨b,off+j,G0⟩=G1 (.int .i64 x)):=λw' o' S j x hx=>by
  rcases hlv with h|⟨b,off,h1,h2,h3,h4⟩
  ·rw[h] at hx;simp at hx
  ·exact⟨b,off,h1,(Ho (a:=⟨b,off+j,G0⟩) (S.block b h3 (by rw[h2];exact dZ))).trans (h4 j x hx)⟩
 have RB:Hid (∀ w' o' s',EmW w' o' rb (.slice al ls.length cl) s'->w'.cell? ⟨rb,6,G0⟩=G1 (.slice al ls.length cl)):=λw' o' s' E=>by
  obtain⟨-,-,-,vw,vc,vn,vk,mc,mn,q0,-⟩:=E;exact(ik q0.1).1.2.2.2.2.2.2.1
 obtain⟨W,hW⟩:∃W,W=iL A ls 0 s:=⟨_,rfl⟩;have HW:Hid (W=iL A (ls.drop 0) 0 s):=by show _=_;rw[hW];rfl
 have HB:Hid (bdy ls (emE ls e) ar u s=emE ls e A u W):=by show _=_;rw[hW,hA];rfl
 have r6:=RB.out _ _ _ E1;obtain⟨k0,k1,k2,k3,a0,a1⟩:=KK.out _ _ (as.refl I17 w2 o1);have hls2:ls.length<=256:=by omega
 have HA:=Hg hA;clear hW hlv hA;go_enter Tryz.func191,Tryz.ntmps191;go_upto_region 1 with fail;rw[<-hw1,<-HG.out];clear hw1;go_upto_region 2 with fail;rw[<-hw2];clear hw2;clear hAI;go_wp2_with fail;go_loopw [17] (λvi wr=>∃(k:Nat) (s':Em) (o':Nat->Nat),vi=.int .i64 (k:Nat)/\k<=ls.length/\EmW wr o' rb (.slice al ls.length cl) s'/\as I17 w2 o1 wr o'/\Grw s s' k/\Hid (W=iL A (ls.drop k) k s')) (λvi _=>ls.length-(Ih vi).toNat)
 case atStart=>exact⟨0,s,o1,by go_num,by omega,E1,as.refl _ _ _,⟨by omega,G4 _,rfl,id⟩,HW⟩
 case round =>
  clear HW E1 r6 k0 k1 k2 k3 a0 a1 c0 c1 cf0;obtain⟨k,s',o',rfl,hk,E2,S2,g2,HW⟩:=hrel;obtain⟨k0,k1,k2,k3,a0,a1⟩:=KK.out _ _ S2;by_cases hlt:k<ls.length
  ·have hkI:(k:Int)<(ls.length:Int):=by omega
   have hx:ls[k]?=G1 ls[k]:=Hd hlt;have hdr:ls.drop k=ls[k]::ls.drop (k+1):=Jd hlt;have HW2:=HW.out;rw[xj A _ k s' _ _ hdr] at HW2;obtain⟨b,off,rfl,cx⟩:=LV.out _ _ S2 k _ hx;generalize ls[k]=lx at *;by_cases he:lx=(A:Int)
   ·rw[if_pos he] at HW2;have HW3:=Hg HW2;have HL:=fp 19 k 0 wr o' rb _ ls s' (by omega) (by omega) (by omega) (by have:=g2.mes;omega) (X1.step S2 dZ) E2;have g3:=g2.trans (eV s' 19 k 0);subst he;clear HW2 HW hx hdr;go_wp2_with (first|(go_at_call 41;refine HL.mono ?_;rintro e w3 ⟨rfl,o3,E3,S3⟩));go_roundw
    case rel=>(try ((repeat apply Hv);refine⟨?_,rfl⟩));exact⟨k+1,s'.lay 19 k 0,o3,by go_num,by omega,E3,S2.trans S3,g3,HW3.out⟩
    case measure=>simp[Ih];omega
   ·rw[if_neg he] at HW2;have HW3:=Hg HW2;have g3:=g2.le (m:=k+1) (by omega);clear HW2 HW hx hdr;go_wp2;go_roundw
    case rel=>(try ((repeat apply Hv);refine⟨?_,rfl⟩));exact⟨k+1,s',o',by go_num,by omega,E2,S2,g3,HW3.out⟩
    case measure=>simp[Ih];omega
  ·have hkI:¬(k:Int)<(ls.length:Int):=by omega
   obtain rfl:k=ls.length:=by omega
   have HW2:=HW.out;rw[List.drop_length] at HW2;have HW3:W=s':=HW2;subst HW3;have hA:=HA.out;have HC:=HP e ao cap A u wr o' rb _ ls W hN hoe rfl hnc (SN1.stepO S2 dZ) (g2.ks.trans HKS.out) (by have:=g2.mes;omega) hu (by omega) (g2.dp hd) (X1.step S2 dZ) E2;rw[dR] at HC;have HBO:=HB;clear HW HW2 hA HP hlt;go_wp2_with (first|(go_at_call 40;refine HC.mono ?_;rintro e w3 ⟨rfl,⟨o3,E3,S3⟩,g3⟩))
   go_end0
   exact⟨rfl,by rw[HBO.out];exact⟨⟨o3,E3,(S0.trans S2).trans S3⟩,(g2.trans g3).le (by omega)⟩⟩
structure CxS (rb gw gn gl gs ga gg:Nat)(e:Ex)(ao:Option Hw)(cap ar u op v ag:Nat)(w:G9)(o:Nat->Nat):Prop where
 bw:Blk w o 0 gw (.cells #[pt0 rb] 82)
 bn:Blk w o 0 gn (.cells (iq e ao cap) 34)
 bl:Blk w o 0 gl (.cells #[.int .i64 (op:Nat)] 3)
 bs:Blk w o 0 gs (.cells #[.int .i64 (v:Nat)] 3)
 ba:Blk w o 0 ga (.cells #[.int .i64 (ar:Nat),.int .i64 (u:Nat)] 86)
 bg:Blk w o 0 gg (.cells #[.int .i64 (ag:Nat)] 3)
 sn:SnO w o e.kids ao
theorem CxS.step {I:Nat->Prop}{rb gw gn gl gs ga gg:Nat}{e:Ex}{ao:Option Hw}{cap ar u op v ag:Nat}{w w':G9}{o o':Nat->Nat}(h:CxS rb gw gn gl gs ga gg e ao cap ar u op v ag w o)(x:as I w o w' o')(hi:¬I 0):CxS rb gw gn gl gs ga gg e ao cap ar u op v ag w' o' :=
 ⟨h.bw.step x hi,h.bn.step x hi,h.bl.step x hi,h.bs.step x hi,h.ba.step x hi,h.bg.step x hi,h.sn.stepO x hi⟩
theorem CxS.keeps (rb gw gn gl gs ga gg:Nat)(e:Ex)(ao:Option Hw)(cap ar u op v ag:Nat):ol (CxS rb gw gn gl gs ga gg e ao cap ar u op v ag):=λh x=>h.step x dZ
theorem Gt (nc N:Nat)(HP:jE nc N)(rb gw gn gl gs ga gg:Nat)(e:Ex)(ao:Option Hw)(cap ar u op v ag:Nat)(lv:He)(ls:List Int)(hoe:okE nc e)(hN:e.kids.size<N)(hls:ls.length=nc)(hnc:nc<=256)(hop:op<=255)(hv:v<=1)(hag:ag<=100000000)(hu:u+3*(e.kids.size+1)<=1000000000)(har:ar+1+(e.kids.size+1)<=1000000000) :
  nI rb lv ls (CxS rb gw gn gl gs ga gg e ao cap ar u op v ag) 190 #[pt0 gw,pt0 gn,pt0 ga,pt0 gl,pt0 gg,pt0 gs] (λx=>(((bdy ls (emE ls e) ar u x).lay op ag 0).lay 25 0 0).con (v:Nat) 2 u) (256+300*(e.kids.size+1)+4):=by
 intro w o s X E K hm hd hks;have HC:=Ao nc N HP e ao cap ar u w o rb lv ls s hoe hN hls hnc hu har K.sn hks (by omega) hd X E;rw[dR] at HC;have KK:Hid (∀ w' o',as I17 w o w' o'->w'.cell? ⟨gw,0,G0⟩=G1 (pt0 rb)/\(w'.cell? ⟨gn,0,G0⟩=G1 (.int .i64 e.k)/\w'.cell? ⟨gn,1,G0⟩=G1 (.int .i64 e.n)/\w'.cell? ⟨gn,2,G0⟩=G1 (stv e.nm)/\w'.cell? ⟨gn,3,G0⟩=G1 (.slice ao e.kids.len cap))/\w'.cell? ⟨gl,0,G0⟩=G1 (.int .i64 (op:Nat))/\w'.cell? ⟨gs,0,G0⟩=G1 (.int .i64 (v:Nat))/\w'.cell? ⟨gg,0,G0⟩=G1 (.int .i64 (ag:Nat))/\w'.cell? ⟨ga,0,G0⟩=G1 (.int .i64 (ar:Nat))/\w'.cell? ⟨ga,1,G0⟩=G1 (.int .i64 (u:Nat))):=λw' o' S=>by
  have K2:=K.step S dZ;exact⟨eT K2.bw.1,(dW K2.bn.1).1,eT K2.bl.1,eT K2.bs.1,eT K2.bg.1,(eh K2.ba.1).1,(eh K2.ba.1).2⟩
 obtain⟨c0,⟨n0,n1,n2,n3⟩,c2,c3,c4,a0,a1⟩:=KK.out _ _ (as.refl I17 w o);have HKS:=Hg hks;clear hks hls K HP;go_enter Tryz.func190,Tryz.ntmps190;go_upto_region 1 with (first|(go_at_call 191;refine HC.mono ?_;rintro z w2 ⟨rfl,⟨o2,E2,S2⟩,g2⟩))
 obtain⟨s2,hs2⟩:∃s2,s2=bdy ls (emE ls e) ar u s:=⟨_,rfl⟩;rw[<-hs2] at E2 g2;have HS2:=Hg hs2;clear hs2 HC c0 n0 n1 n2 n3 c2 c3 c4 a0 a1;obtain⟨c0,⟨n0,n1,n2,n3⟩,c2,c3,c4,a0,a1⟩:=KK.out _ _ S2;have HL:=fp op ag 0 w2 o2 rb lv ls s2 hop (by omega) (by omega) (by have:=g2.mes;omega) (X.step S2 dZ) E2;go_upto_region 2 with (first|(go_at_call 41;refine HL.mono ?_;rintro z w3 ⟨rfl,o3,E3,S3⟩))
 have S23:=S2.trans S3;have g3:=g2.trans (eV s2 op ag 0);clear HL c0 n0 n1 n2 n3 c2 c3 c4 a0 a1;obtain⟨c0,⟨n0,n1,n2,n3⟩,c2,c3,c4,a0,a1⟩:=KK.out _ _ S23;have HL:=fp 25 0 0 w3 o3 rb lv ls (s2.lay op ag 0) (by omega) (by omega) (by omega) (by have:=g3.mes;omega) (X.step S23 dZ) E3;go_upto_region 3 with (first|(go_at_call 41;refine HL.mono ?_;rintro z w4 ⟨rfl,o4,E4,S4⟩))
 have S24:=S23.trans S4;have g4:=g3.trans (eV (s2.lay op ag 0) 25 0 0);clear HL c0 n0 n1 n2 n3 c2 c3 c4 a0 a1;obtain⟨c0,⟨n0,n1,n2,n3⟩,c2,c3,c4,a0,a1⟩:=KK.out _ _ S24;have HL:=fs (v:Nat) 2 ar u w4 o4 rb lv ls ((s2.lay op ag 0).lay 25 0 0) (by omega) (by omega) (by omega) (g4.dp hd) (by have:=g4.mes;omega) (X.step S24 dZ) E4;go_wp2_with (first|(go_at_call 74;refine HL.mono ?_;rintro z w5 ⟨rfl,o5,E5,S5⟩))
 go_end0
 exact⟨rfl,by rw[<-HS2.out];exact⟨⟨o5,E5,S24.trans S5⟩,(g4.trans (iK _ _ _ _ (by omega))).le (by omega)⟩⟩
theorem Gr (rb gw gs ga ar u v:Nat)(lv:He)(ls:List Int)(hv:v<=1)(hu:u<=1000000000) :
  nI rb lv ls (λw o=>Blk w o 0 gw (.cells #[pt0 rb] 82)/\Blk w o 0 gs (.cells #[.int .i64 (v:Nat)] 3)/\Blk w o 0 ga (.cells #[.int .i64 (ar:Nat),.int .i64 (u:Nat)] 86)) 192 #[pt0 gw,pt0 gs,pt0 ga] (λt=>t.con (1-(v:Int)) 2 u) 2:=by
 intro w o s X E ⟨bw,bs,ba⟩ hm hd hks;have cw:=eT bw.1;have cs:=eT bs.1;obtain⟨a0,a1⟩:=eh ba.1;have HC:=fs (1-(v:Int)) 2 ar u w o rb lv ls s (by omega) (by omega) hu hd (by omega) X E;clear bw bs ba hks;go_enter Tryz.func192,Tryz.ntmps192;go_wp2_with (first|(go_at_call 74;refine HC.mono ?_;rintro e w2 ⟨rfl,o2,E2,S2⟩))
 go_end0
 exact⟨rfl,⟨o2,E2,S2⟩,iK s _ _ _ hu⟩
theorem El:Ent 190:=λ_ _=>by kernel_rfl
theorem FR:Ent 192:=λ_ _=>by kernel_rfl
theorem td (nc N:Nat)(HP:jE nc N)(e:Ex)(ao:Option Hw)(cap op v ar u:Nat)(w:G9)(o:Nat->Nat)(rb:Nat)(lv:He)(ls:List Int)(s:Em)(hoe:okE nc e)(hN:e.kids.size<N)(hls:ls.length=nc)(hnc:nc<=256)(hop:op<=255)(hv:v<=1)(hu:u+3*(e.kids.size+1)<=1000000000)(har:ar+1+(e.kids.size+1)<=1000000000)(S:SnO w o e.kids ao)(hks:s.ks.length=ls.length)
  (hm:s.mes+(256+300*(e.kids.size+1)+8)<=100000000) (hd:s.dp<=1000000001) (X:EmX w o lv ls) (h:EmW w o rb lv s) :
  Hn G5 128 #[pt0 rb,exN e ao cap,.int .i64 (op:Nat),.int .i64 (v:Nat),spV ar u] w (od w o rb lv s (yJ ls (emE ls e) op (v:Int) ar u s) (256+300*(e.kids.size+1)+8)):=by
 have hmf:∀ (fn:Fn) (first cap:Array He) (w:G9),(Instr.makeFunc fn first cap).run G5 w=.ok (.func fn first cap) w:=λ_ _ _ _=>rfl;rw[dR];obtain⟨g,hg⟩:∃g,g=w.heap.size:=⟨_,rfl⟩;obtain⟨w1,hw1⟩:∃w1,w1=((((w.alloc (.cells #[pt0 rb] 82)).alloc (.cells (iq e ao cap) 34)).alloc (.cells #[.int .i64 (op:Nat)] 3)).alloc (.cells #[.int .i64 (v:Nat)] 3)).alloc (.cells #[.int .i64 (ar:Nat),.int .i64 (u:Nat)] 86):=⟨_,rfl⟩;obtain⟨z1,z2,z3,z4,z5,z6,z7⟩:=al5 w (.cells #[pt0 rb] 82) (.cells (iq e ao cap) 34) (.cells #[.int .i64 (op:Nat)] 3) (.cells #[.int .i64 (v:Nat)] 3) (.cells #[.int .i64 (ar:Nat),.int .i64 (u:Nat)] 86);rw[<-hw1,<-hg] at z1 z2 z3 z4 z5 z6 z7;obtain⟨w2,hw2⟩:∃w2,w2=w1.alloc (.cells #[.int .i64 (s.ws.length:Nat)] 3):=⟨_,rfl⟩;have y6:w2.heap[g+5]?=G1 (.cells #[.int .i64 (s.ws.length:Nat)] 3):=by rw[hw2,<-z6];exact Hc _ _
 have hold:∀ k,k<g+5->w2.heap[k]?=w1.heap[k]?:=λk hk=>by rw[hw2];exact IO _ _ (by omega)
 have B2:Hf g w w2:=by rw[hw2];exact z7.alloc (by omega) _
 have s0:∀ {I:Nat->Prop},as I w o w2 (dQ w o 0):=λ{I}=>gW o (by rw[<-hg];exact B2);have hnl:∀ j,dQ w o 0 (g+j)=0:=λj=>dY (by omega);have K2:CxS rb g (g+1) (g+2) (g+3) (g+4) (g+5) e ao cap ar u op v s.ws.length w2 (dQ w o 0) :=
  ⟨⟨(hold _ (by omega)).trans z1,hnl 0⟩,⟨(hold _ (by omega)).trans z2,hnl 1⟩,⟨(hold _ (by omega)).trans z3,hnl 2⟩,⟨(hold _ (by omega)).trans z4,hnl 3⟩,⟨(hold _ (by omega)).trans z5,hnl 4⟩,⟨y6,hnl 5⟩,S.stepO (s0 (I:=λ_=>False)) id⟩
 have E2:=h.step (s0 (I:=λ_=>False)) noF;have X2:=X.step (s0 (I:=λ_=>False)) id;have S0:=s0 (I:=I17);have HN:=uj w1 o rb lv s (h.below (by rw[<-hg];exact z7));have cw1:=eT z1;generalize dQ w o 0=o1 at *;have hwl:s.ws.length<=100000000:=by unfold Em.mes at hm;omega
 have HF:=tS 24 190 192 #[pt0 g,pt0 (g+1),pt0 (g+4),pt0 (g+2),pt0 (g+5),pt0 (g+3)] #[pt0 g,pt0 (g+3),pt0 (g+4)] (λx=>(((bdy ls (emE ls e) ar u x).lay op s.ws.length 0).lay 25 0 0).con (v:Nat) 2 u) (λt=>t.con (1-(v:Int)) 2 u) (256+300*(e.kids.size+1)+4) 2 _ (CxS.keeps _ _ _ _ _ _ _ _ _ _ _ _ _ _ _) El FR w2 o1 rb lv ls (Gt nc N HP rb g (g+1) (g+2) (g+3) (g+4) (g+5) e ao cap ar u op v s.ws.length lv ls hoe hN hls hnc hop hv hwl hu har) ((Gr rb g (g+3) (g+4) ar u v lv ls hv (by omega)).mono (λ_ _ h=>⟨h.bw,h.bs,h.ba⟩)) s (by omega) (by omega) hd hks X2 E2 K2;have HG:=Hg hg;have HZ:=Hg z6;have c2:=eT K2.bw.1;clear s0 hnl z1 z2 z3 z4 z5 z6 z7 y6 hold B2 h X S hg hks hls HP X2 E2 K2;go_enter Tryz.func128,Tryz.ntmps128;go_upto_region 1 with fail;rw[<-hw1,<-HG.out];clear hw1;go_upto_region 2 with (first|(go_at_call 189;refine HN.mono ?_;rintro z w1b ⟨rfl,hww⟩;subst hww))
 rw[<-hw2,HZ.out];clear hw2;go_wp2_with (first|(go_at_call 79;refine HF.mono ?_;rintro z w4 ⟨rfl,⟨o4,E4,S4⟩,g4⟩))
 go_end0
 exact⟨rfl,⟨o4,E4,S0.trans S4⟩,g4.le (by omega)⟩
def ot (rb:Nat)(lv:He)(ls:List Int)(K:G9->(Nat->Nat)->Prop)(F:FuncId)(c:Array He)(t:Nat->Em->Em)(n:Nat):Prop :=
 ∀ ag:Nat,ag<=100000000->∀ w o s,EmX w o lv ls->EmW w o rb lv s->K w o->s.mes+n<=100000000->s.dp<=1000000001->s.ks.length=ls.length->Hn G5 F (#[.int .i64 (ag:Nat)]++c) w (od w o rb lv s (t ag s) n)
theorem mf (nc N:Nat)(HP:jE nc N)(F:FuncId)(c:Array He)(t:Nat->Em->Em)(n:Nat)(K:G9->(Nat->Nat)->Prop)(hK:ol K)(HE:Ent F)(e:Ex)(ao:Option Hw)(cap ar u:Nat)(w:G9)(o:Nat->Nat)(rb:Nat)(lv:He)(ls:List Int)(H:ot rb lv ls K F c t n)(s:Em)(hoe:okE nc e)(hN:e.kids.size<N)(hls:ls.length=nc)(hnc:nc<=256)(hu:u+3*(e.kids.size+1)<=1000000000)(har:ar+1+(e.kids.size+1)<=1000000000)(S:SnO w o e.kids ao)(hks:s.ks.length=ls.length)
  (hm:s.mes+(256+300*(e.kids.size+1)+n+2)<=100000000) (hd:s.dp<=1000000001) (X:EmX w o lv ls) (h:EmW w o rb lv s) (k:K w o) :
  Hn G5 129 #[pt0 rb,exN e ao cap,spV ar u,.func (.func F) #[] c] w (od w o rb lv s (pP ls (emE ls e) t ar u s) (256+300*(e.kids.size+1)+n+2)):=by
 rw[dR];obtain⟨g,hg⟩:∃g,g=w.heap.size:=⟨_,rfl⟩;obtain⟨w1,hw1⟩:∃w1,w1=(w.alloc (.cells (iq e ao cap) 34)).alloc (.cells #[.int .i64 (ar:Nat),.int .i64 (u:Nat)] 86):=⟨_,rfl⟩;obtain⟨z1,z2,z5,z6⟩:=al2 w (.cells (iq e ao cap) 34) (.cells #[.int .i64 (ar:Nat),.int .i64 (u:Nat)] 86);rw[<-hw1,<-hg] at z1 z2 z5 z6;have s0:∀ {I:Nat->Prop},as I w o w1 (dQ w o 0):=λ{I}=>gW o (by rw[<-hg];exact z6);have hnl:∀ j,dQ w o 0 (g+j)=0:=λj=>dY (by omega);have K1:Blk w1 (dQ w o 0) 0 g (.cells (iq e ao cap) 34)/\Blk w1 (dQ w o 0) 0 (g+1) (.cells #[.int .i64 (ar:Nat),.int .i64 (u:Nat)] 86):=⟨⟨z1,hnl 0⟩,⟨z2,hnl 1⟩⟩;have SN1:=S.stepO (s0 (I:=λ_=>False)) id;have E1:=h.step (s0 (I:=λ_=>False)) noF;have X1:=X.step (s0 (I:=λ_=>False)) id;have S0:=s0 (I:=I17);have k1:=hK k S0;generalize dQ w o 0=o1 at *;have KK:Hid (∀ w' o',as I17 w1 o1 w' o'->(w'.cell? ⟨g,0,G0⟩=G1 (.int .i64 e.k)/\w'.cell? ⟨g,1,G0⟩=G1 (.int .i64 e.n)/\w'.cell? ⟨g,2,G0⟩=G1 (stv e.nm)/\w'.cell? ⟨g,3,G0⟩=G1 (.slice ao e.kids.len cap))/\w'.cell? ⟨g+1,0,G0⟩=G1 (.int .i64 (ar:Nat))/\w'.cell? ⟨g+1,1,G0⟩=G1 (.int .i64 (u:Nat))):=λw' o' S=>⟨(dW (K1.1.step S dZ).1).1,(eh (K1.2.step S dZ).1).1,(eh (K1.2.step S dZ).1).2⟩;have HN:=uj w1 o1 rb lv s E1;have HL:=fp 24 0 0 w1 o1 rb lv ls s (by omega) (by omega) (by omega) (by omega) X1 E1;have HKS:=Hg hks;have HG:=Hg hg;have hwl:s.ws.length<=100000000:=by unfold Em.mes at hm;omega
 have g1:=eV s 24 0 0;have HT:Hid (pP ls (emE ls e) t ar u s=((t s.ws.length (bdy ls (emE ls e) ar u (s.lay 24 0 0))).lay 13 s.ws.length 0).land s.ws.length):=rfl;have HB:∀ w2 o2,EmX w2 o2 lv ls->EmW w2 o2 rb lv (s.lay 24 0 0)->SnO w2 o2 e.kids ao->_:=λw2 o2 X2 E2 SN2=>Ao nc N HP e ao cap ar u w2 o2 rb lv ls (s.lay 24 0 0) hoe hN hls hnc hu har SN2 (g1.ks.trans hks) (by have:=g1.mes;omega) (g1.dp hd) X2 E2;clear s0 hnl z1 z2 z5 z6 h X S hg hks hls HP K1 k E1
 go_enter_defers Tryz.func129,Tryz.ntmps129
 go_upto_region 1 with fail;rw[<-hw1,<-HG.out];clear hw1;go_upto_region 2 with (first|(go_at_call 189;refine HN.mono ?_;rintro z w1b ⟨rfl,hww⟩;subst hww))
 go_upto_region 3 with (first|(go_at_call 41;refine HL.mono ?_;rintro z w2 ⟨rfl,o2,E2,S2⟩))
 clear HN HL;have HC:=HB w2 o2 (X1.step S2 dZ) E2 (SN1.stepO S2 dZ);rw[dR] at HC;obtain⟨⟨n0,n1,n2,n3⟩,a0,a1⟩:=KK.out _ _ S2;go_upto_region 4 with (first|(go_at_call 191;refine HC.mono ?_;rintro z w3 ⟨rfl,⟨o3,E3,S3⟩,g3⟩))
 obtain⟨s3,hs3⟩:∃s3,s3=bdy ls (emE ls e) ar u (s.lay 24 0 0):=⟨_,rfl⟩;rw[<-hs3] at E3 g3 HT;clear hs3 HB HC n0 n1 n2 n3 a0 a1;have S13:=S2.trans S3;have g13:=g1.trans g3;have HF:=H s.ws.length hwl w3 o3 s3 (X1.step S13 dZ) E3 (hK k1 S13) (by have:=g13.mes;omega) (g13.dp hd) (g13.ks.trans HKS.out);go_wp2_with fail;refine HF.mono ?_;rintro z w4 ⟨rfl,⟨o4,E4,S4⟩,g4⟩;obtain⟨s4,hs4⟩:∃s4,s4=t s.ws.length s3:=⟨_,rfl⟩;rw[<-hs4] at E4 g4 HT;clear hs4 HF HE;have S14:=S13.trans S4;have g14:=g13.trans g4;have HL:=fp 13 s.ws.length 0 w4 o4 rb lv ls s4 (by omega) (by omega) (by omega) (by have:=g14.mes;omega) (X1.step S14 dZ) E4;go_wp2_with (first|(go_at_call 41;refine HL.mono ?_;rintro z w5 ⟨rfl,o5,E5,S5⟩));have S15:=S14.trans S5;have g15:=g14.trans (eV s4 13 s.ws.length 0);have hlt:s.ws.length<(s4.lay 13 s.ws.length 0).ws.length:=by
  have h1:=g4.ws;have h2:=g3.ws;have h3:(s.lay 24 0 0).ws.length=s.ws.length+1:=by simp[Em.lay]
  have h4:(s4.lay 13 s.ws.length 0).ws.length=s4.ws.length+1:=by simp[Em.lay]
  omega
 have HD:=ro s.ws.length .returning w5 o5 rb lv ls (s4.lay 13 s.ws.length 0) hlt (by have:=g15.mes;omega) (X1.step S15 dZ) E5;refine leaves_cons (f:=126) (args:=#[.pointer (G1 ⟨rb,0,G0⟩),.int .i64 (s.ws.length:Nat)]) (by simp) (by simp[go_sem]) ?_;refine HD.mono ?_;rintro z u' w6 ⟨rfl,rfl,o6,E6,S6⟩;exact⟨_,Jq rfl _ _ _,rfl,by rw[HT.out];exact⟨⟨o6,E6,(S0.trans S15).trans S6⟩,(g15.trans (nO _ _)).le (by omega)⟩⟩
theorem Gq (rb gw ga ar u:Nat)(lv:He)(ls:List Int)(hu:u+1<=1000000000) :
  ot rb lv ls (λw o=>Blk w o 0 gw (.cells #[pt0 rb] 82)/\Blk w o 0 ga (.cells #[.int .i64 (ar:Nat),.int .i64 (u:Nat)] 86)) 130 #[pt0 gw,pt0 ga] (λg x=>((x.lay 14 g 0).con 1 1 (u+1)).lay 6 0 0) 4:=by
 intro ag hag w o s X E ⟨bw,ba⟩ hm hd hks;have HL:=fp 14 ag 0 w o rb lv ls s (by omega) (by omega) (by omega) (by omega) X E;have KK:Hid (∀ w' o',as I17 w o w' o'->w'.cell? ⟨gw,0,G0⟩=G1 (pt0 rb)/\w'.cell? ⟨ga,0,G0⟩=G1 (.int .i64 (ar:Nat))/\w'.cell? ⟨ga,1,G0⟩=G1 (.int .i64 (u:Nat))):=λw' o' S=>⟨eT (bw.step S dZ).1,(eh (ba.step S dZ).1).1,(eh (ba.step S dZ).1).2⟩;obtain⟨c0,a0,a1⟩:=KK.out _ _ (as.refl I17 w o);have g1:=eV s 14 ag 0;have HO:=λw'=>kQ ar u 1 w' (by omega) (by omega);clear bw ba hks;go_enter Tryz.func130,Tryz.ntmps130;go_upto_region 1 with (first|(go_at_call 41;refine HL.mono ?_;rintro z w2 ⟨rfl,o2,E2,S2⟩))
 clear HL c0 a0 a1;have d2:as I17 w2 o2 w2.drew o2:=(as.refl _ w2 o2).drew;have S2d:=S2.trans d2;obtain⟨c0,a0,a1⟩:=KK.out _ _ S2;obtain⟨e0,e1,e2⟩:=KK.out _ _ S2d;have XD:=X.step S2d dZ;have ED:=E2.step ((as.refl (λ_=>False) w2 o2).drew) noF;have HC:∀ w3,Hf w2.drew.heap.size w2.drew w3->Hn G5 74 #[.pointer (G1 ⟨rb,0,G0⟩),.int .i64 1,.int .i64 1,spV ar (u+1)] w3 (mW w3 o2 rb lv ((s.lay 14 ag 0).con 1 1 (u+1)) (.tuple #[])):=λw3 B=>fs 1 1 ar (u+1) w3 o2 rb lv ls (s.lay 14 ag 0) (by omega) (by omega) (by omega) (g1.dp hd) (by have:=g1.mes;omega) (XD.below B) (ED.below B);go_region_held3 (λwx=>wx.cell? ⟨gw,0,G0⟩=G1 (pt0 rb)/\wx.cell? ⟨ga,0,G0⟩=G1 (.int .i64 (ar:Nat))/\wx.cell? ⟨ga,1,G0⟩=G1 (.int .i64 (u:Nat))) (go_keep) (first|(go_at_call 84;refine(HO _).mono ?_;rintro z w3 ⟨rfl,B3⟩;have S3:=S2d.trans (as.ofBelow (I:=I17) o2 B3);obtain⟨e0,e1,e2⟩:=KK.out _ _ S3;have HC3:=HC w3 B3)|(go_at_call 74;refine HC3.mono ?_;rintro z w4 ⟨rfl,o4,E4,S4⟩;obtain⟨e0,e1,e2⟩:=KK.out _ _ (S3.trans S4)))
 all_goals
  have S34:=S3.trans S4;have g4:=g1.trans (iK (s.lay 14 ag 0) 1 1 (u+1) hu);have HL:=fp 6 0 0 w4 o4 rb lv ls ((s.lay 14 ag 0).con 1 1 (u+1)) (by omega) (by omega) (by omega) (by have:=g4.mes;omega) (X.step S34 dZ) E4;clear HC HO HC3;go_wp2_with (first|(go_at_call 41;refine HL.mono ?_;rintro z w5 ⟨rfl,o5,E5,S5⟩))
  go_end0
  exact⟨rfl,⟨o5,E5,S34.trans S5⟩,(g4.trans (eV _ _ _ _)).le (by omega)⟩
theorem GO (rb gw:Nat)(lv:He)(ls:List Int) :
  ot rb lv ls (λw o=>Blk w o 0 gw (.cells #[pt0 rb] 82)) 131 #[pt0 gw] (λ_ x=>x.lay 6 0 0) 4:=by
 intro ag hag w o s X E bw hm hd hks;have HL:=fp 6 0 0 w o rb lv ls s (by omega) (by omega) (by omega) (by omega) X E;have c0:=eT bw.1;clear bw hks;go_enter Tryz.func131,Tryz.ntmps131;go_wp2_with (first|(go_at_call 41;refine HL.mono ?_;rintro z w5 ⟨rfl,o5,E5,S5⟩))
 go_end0
 exact⟨rfl,⟨o5,E5,S5⟩,(eV _ _ _ _).le (by omega)⟩
theorem Ee (rb gw gn:Nat)(e:Ex)(ao:Option Hw)(cap:Nat)(lv:He)(ls:List Int)(hn:e.n=5\/e.n=6) :
  ot rb lv ls (λw o=>Blk w o 0 gw (.cells #[pt0 rb] 82)/\Blk w o 0 gn (.cells (iq e ao cap) 34)) 132 #[pt0 gw,pt0 gn] (λ_ x=>x.lay 26 (e.n-5).toNat 0) 4:=by
 intro ag hag w o s X E ⟨bw,bn⟩ hm hd hks;obtain⟨j,hj⟩:∃j:Nat,(j:Int)=e.n-5:=⟨(e.n-5).toNat,by omega⟩;have hj2:(e.n-5).toNat=j:=by omega
 have hj3:j<=1:=by omega
 rw[hj2];have HL:=fp 26 j 0 w o rb lv ls s (by omega) (by omega) (by omega) (by omega) X E;have c0:=eT bw.1;obtain⟨⟨n0,n1,n2,n3⟩,-⟩:=dW bn.1;have hb1:-9223372036854775808<=e.n-5/\e.n-5<=9223372036854775807:=by omega
 have hj4:e.n-5=(j:Int):=hj.symm;generalize e.n=en at *;clear bw bn hks hj hj2;go_enter Tryz.func132,Tryz.ntmps132;go_wp2_with (first|(go_at_call 41;refine HL.mono ?_;rintro z w5 ⟨rfl,o5,E5,S5⟩))
 go_end0
 exact⟨rfl,⟨o5,E5,S5⟩,(eV _ _ _ _).le (by omega)⟩
theorem Fu:Ent 130:=λ_ _=>by kernel_rfl
theorem Fl:Ent 131:=λ_ _=>by kernel_rfl
theorem zc:Ent 132:=λ_ _=>by kernel_rfl
end Go.Proofs.YtkhgahljbpmfaaaGreatDoor

import Derived.Test.YtaihhnlfcndecaaGreatDoorRdqT
import Derived.Lib.AtoiAllCases
set_option maxRecDepth 100000
set_option maxHeartbeats 8000000
namespace Go.Proofs.YtaihhnlfcndecaaGreatDoor
set_option linter.unusedVariables false
set_option linter.unusedSimpArgs false
def tkG (x:Tk):Prop:=-9223372036854775808<=x.n/\x.n<=9223372036854775807/\x.t.length<=2000/\x.a<=2000
def Fs.gd:Fs->Prop
 | ⟨none⟩=>True
 | ⟨some ⟨_,n,nm,a,ks,r⟩⟩=>-9223372036854775808<=n/\n<=9223372036854775807/\nm.length<=2000/\0<=a/\a<=2000/\ks.gd/\r.gd
theorem Fs.gd_app:∀ {x y:Fs},x.gd->y.gd->(x.app y).gd
 | ⟨none⟩,y,h,k=>k
 | ⟨some ⟨_,_,_,_,_,r⟩⟩,y,h,k=>⟨h.1,h.2.1,h.2.2.1,h.2.2.2.1,h.2.2.2.2.1,h.2.2.2.2.2.1,Fs.gd_app h.2.2.2.2.2.2 k⟩
def Ex.gd (e:Ex):Prop:=(one e).gd
def Ex.sz (e:Ex):Nat:=(one e).size
theorem Ex.gd_mk {k n:Int}{nm:List UInt8}{a:Nat}{ks:Fs}(h1:-9223372036854775808<=n)(h2:n<=9223372036854775807)(h3:nm.length<=2000)(h4:a<=2000)(h5:ks.gd):(⟨k,n,nm,(a:Nat),ks⟩:Ex).gd:=⟨h1,h2,h3,by show (0:Int)<=(a:Nat);omega,by show ((a:Nat):Int)<=2000;omega,h5,trivial⟩
theorem Ex.sz_mk (k n:Int)(nm:List UInt8)(a:Int)(ks:Fs):(⟨k,n,nm,a,ks⟩:Ex).sz=ks.size+1:=rfl
theorem gd_snoc {x:Fs}{e:Ex}(h:x.gd)(k:e.gd):(x.snoc e).gd:=Fs.gd_app h k
theorem sz_snoc (x:Fs)(e:Ex):(x.snoc e).size=x.size+e.sz:=Fs.size_app x (one e)
def Gb {α:Type}(T:List Tk)(b:Nat)(P:α->Prop)(sz:α->Nat)(R:Rs α):Prop:=∀ x t,R=.ok x t->t <:+ T/\P x/\sz x+t.length<=b
section
variable {T:List Tk}
theorem Gb.bind {α β:Type}{b1 b:Nat}{P:α->Prop}{sz:α->Nat}{Q:β->Prop}{sq:β->Nat}{R:Rs α}{f:α->List Tk->Rs β}(h:Gb T b1 P sz R)(hf:∀ x t,t <:+ T->P x->sz x+t.length<=b1->Gb T b Q sq (f x t)):Gb T b Q sq (R.bind f):=by
 cases R using Rs.on with
 | out=>intro x t e;cases e
 | bad e a=>intro x t e;cases e
 | ok x t =>
  obtain⟨h1,h2,h3⟩:=h x t rfl;exact hf x t h1 h2 h3
theorem Gb.bad {α:Type}{b e a:Nat}{P:α->Prop}{sz:α->Nat}:Gb T b P sz (.bad e a:Rs α):=fun x t h=>by cases h
theorem Gb.out {α:Type}{b:Nat}{P:α->Prop}{sz:α->Nat}:Gb T b P sz (.out:Rs α):=fun x t h=>by cases h
theorem Gb.ok {α:Type}{b:Nat}{P:α->Prop}{sz:α->Nat}{x:α}{t:List Tk}(h:t <:+ T)(hp:P x)(hs:sz x+t.length<=b):Gb T b P sz (.ok x t):=fun y u e=>by
 obtain⟨e1,e2⟩:=Rs.ok_inj e;subst e1 e2;exact⟨h,hp,hs⟩
theorem gb_pass (HT:∀ y,y ∈ T->tkG y)(s:List UInt8){ts:List Tk}(h:ts <:+ T):Gb T ts.length (fun a=>a<=2000) (fun _=>1) (passT s ts):=by
 cases ts with
 | nil=>exact Gb.out
 | cons x r =>
  simp only[passT];split
  ·exact Gb.ok ((List.suffix_cons x r).trans h) (HT x (h.mem (by simp))).2.2.2 (by simp;omega)
  ·exact Gb.bad
theorem gb_kind (HT:∀ y,y ∈ T->tkG y)(k:Nat){ts:List Tk}(h:ts <:+ T):Gb T ts.length tkG (fun _=>1) (passK k ts):=by
 cases ts with
 | nil=>exact Gb.out
 | cons x r =>
  simp only[passK];split
  ·exact Gb.ok ((List.suffix_cons x r).trans h) (HT x (h.mem (by simp))) (by simp;omega)
  ·exact Gb.bad
theorem gb_enter (HT:∀ y,y ∈ T->tkG y)(s:List UInt8)(o:Nat){ts:List Tk}(h:ts <:+ T):Gb T ts.length (fun a=>a<=2000) (fun _=>1) (enterT s o ts):=by
 cases ts with
 | nil=>exact Gb.out
 | cons x r =>
  simp only[enterT];split
  ·split
   ·exact Gb.bad
   ·exact Gb.ok ((List.suffix_cons x r).trans h) (HT x (h.mem (by simp))).2.2.2 (by simp;omega)
  ·exact Gb.bad
variable {rec:Rdr}
theorem gb_argsL (HT:∀ y,y ∈ T->tkG y)(H:∀ row o q ts,ts <:+ T->Gb T ts.length Ex.gd Ex.sz (rec row o q ts)):∀ (j:Nat) (o q:Nat) (acc:Fs) (ts:List Tk) (b:Nat),ts <:+ T->acc.gd->acc.size+ts.length<=b->Gb T b Fs.gd Fs.size (argsL rec j o q acc ts)
 | 0,o,q,acc,ts,b,h,hg,hb=>Gb.ok h hg hb
 | j+1,o,q,acc,ts,b,h,hg,hb=>by
  unfold argsL;refine(gb_pass HT _ h).bind fun _ t1 h1 _ l1=>(H _ _ _ _ h1).bind fun e t2 h2 p2 l2=>?_;exact gb_argsL HT H j o q _ t2 b h2 (gd_snoc hg p2) (by rw[sz_snoc];omega)
theorem gb_args (HT:∀ y,y ∈ T->tkG y)(H:∀ row o q ts,ts <:+ T->Gb T ts.length Ex.gd Ex.sz (rec row o q ts))(many o q:Nat){ts:List Tk}(h:ts <:+ T):Gb T (ts.length-1) Fs.gd Fs.size (argsR rec many o q ts):=by
 unfold argsR;refine(gb_enter HT _ _ h).bind fun _ t1 h1 _ l1=>(H _ _ _ _ h1).bind fun e t2 h2 p2 l2=>?_;refine(gb_argsL HT H _ _ _ _ t2 t1.length h2 p2 l2).bind fun ks t3 h3 p3 l3=>?_;exact(gb_pass HT _ h3).bind fun _ t4 h4 _ l4=>Gb.ok h4 p3 (by omega)
theorem gb_choice (HT:∀ y,y ∈ T->tkG y)(H:∀ row o q ts,ts <:+ T->Gb T ts.length Ex.gd Ex.sz (rec row o q ts))(o q:Nat){ts:List Tk}(h:ts <:+ T):Gb T ts.length Ex.gd Ex.sz (choiceR rec o q ts):=by
 unfold choiceR;refine(gb_enter HT _ _ h).bind fun a t1 h1 p1 l1=>(H _ _ _ _ h1).bind fun x t2 h2 p2 l2=>?_;refine(gb_pass HT _ h2).bind fun _ t3 h3 _ l3=>(H _ _ _ _ h3).bind fun y t4 h4 p4 l4=>?_;refine(gb_pass HT _ h4).bind fun _ t5 h5 _ l5=>(H _ _ _ _ h5).bind fun z t6 h6 p6 l6=>?_;refine Gb.ok h6 (Ex.gd_mk (by omega) (by omega) (by simp) p1 (gd_snoc (gd_snoc p2 p4) p6)) ?_;rw[Ex.sz_mk,sz_snoc,sz_snoc];show x.sz+y.sz+z.sz+1+_<=_;omega
theorem gb_memL (HT:∀ y,y ∈ T->tkG y)(H:∀ row o q ts,ts <:+ T->Gb T ts.length Ex.gd Ex.sz (rec row o q ts)):∀ (m:Nat) (o q:Nat) (acc:Fs) (ts:List Tk) (b:Nat),ts <:+ T->acc.gd->acc.size+ts.length<=b->Gb T b Fs.gd Fs.size (memL rec m o q acc ts)
 | 0,o,q,acc,ts,b,h,hg,hb=>Gb.out
 | m+1,o,q,acc,[],b,h,hg,hb=>Gb.out
 | m+1,o,q,acc,x::r,b,h,hg,hb=>by
  have _:=HT;unfold memL;simp only;split
  ·simp only[List.length_cons] at hb;refine(H _ _ _ _ ((List.suffix_cons x r).trans h)).bind fun e t2 h2 p2 l2=>?_;exact gb_memL HT H m o q _ t2 b h2 (gd_snoc hg p2) (by rw[sz_snoc];omega)
  ·exact Gb.ok h hg hb
theorem gb_mem (HT:∀ y,y ∈ T->tkG y)(H:∀ row o q ts,ts <:+ T->Gb T ts.length Ex.gd Ex.sz (rec row o q ts))(m o q:Nat){ts:List Tk}(h:ts <:+ T):Gb T ts.length Fs.gd Fs.size (memR rec m o q ts):=by
 cases ts with
 | nil=>exact Gb.out
 | cons x r =>
  unfold memR;simp only;split
  ·exact Gb.ok h trivial (by simp[Fs.size])
  ·exact(H _ _ _ _ h).bind fun e t1 h1 p1 l1=>gb_memL HT H m o q _ t1 _ h1 p1 l1
theorem gb_set (HT:∀ y,y ∈ T->tkG y)(H:∀ row o q ts,ts <:+ T->Gb T ts.length Ex.gd Ex.sz (rec row o q ts))(m o q:Nat){ts:List Tk}(h:ts <:+ T):Gb T ts.length Ex.gd Ex.sz (setR rec m o q ts):=by
 cases ts with
 | nil=>exact Gb.out
 | cons x r =>
  have hx:=HT x (h.mem (by simp));have hr:r <:+ T:=(List.suffix_cons x r).trans h;unfold setR;simp only;split
  ·exact Gb.ok hr (Ex.gd_mk (by omega) (by omega) hx.2.2.1 hx.2.2.2 trivial) (by rw[Ex.sz_mk];simp[Fs.size];omega)
  ·split
   ·exact Gb.ok hr (Ex.gd_mk (by omega) (by omega) (by simp) hx.2.2.2 trivial) (by rw[Ex.sz_mk];simp[Fs.size];omega)
   ·split
    ·exact(gb_args HT H 1 o q hr).bind fun ks t h1 p1 l1=>Gb.ok h1 (Ex.gd_mk (by omega) (by omega) (by simp) hx.2.2.2 p1) (by rw[Ex.sz_mk];simp;omega)
    ·refine(gb_enter HT _ _ h).bind fun a t1 h1 p1 l1=>(gb_mem HT H m _ q h1).bind fun ks t2 h2 p2 l2=>(gb_pass HT _ h2).bind fun _ t3 h3 _ l3=>?_;exact Gb.ok h3 (Ex.gd_mk (by omega) (by omega) (by simp) p1 p2) (by rw[Ex.sz_mk];omega)
theorem gb_quant (HT:∀ y,y ∈ T->tkG y)(H:∀ row o q ts,ts <:+ T->Gb T ts.length Ex.gd Ex.sz (rec row o q ts))(m:Nat)(s:List UInt8)(k o q:Nat)(hk:k<=100){ts:List Tk}(h:ts <:+ T):Gb T ts.length Ex.gd Ex.sz (quantR rec m s k o q ts):=by
 cases ts with
 | nil=>exact Gb.out
 | cons x r =>
  unfold quantR;simp only;split
  ·exact Gb.bad
  ·refine(gb_enter HT _ _ h).bind fun a t1 h1 p1 l1=>(gb_kind HT _ h1).bind fun y t2 h2 p2 l2=>(gb_pass HT _ h2).bind fun _ t3 h3 _ l3=>?_;refine(gb_set HT H m _ _ h3).bind fun e t4 h4 p4 l4=>(gb_pass HT _ h4).bind fun _ t5 h5 _ l5=>(H _ _ _ _ h5).bind fun b t6 h6 p6 l6=>?_;refine Gb.ok h6 (Ex.gd_mk (by omega) (by omega) p2.2.2.1 p1 (gd_snoc p4 p6)) ?_;rw[Ex.sz_mk,sz_snoc];show e.sz+b.sz+1+_<=_;omega
theorem gb_atom (HT:∀ y,y ∈ T->tkG y)(H:∀ row o q ts,ts <:+ T->Gb T ts.length Ex.gd Ex.sz (rec row o q ts))(m o q:Nat){ts:List Tk}(h:ts <:+ T):Gb T ts.length Ex.gd Ex.sz (atomR rec m o q ts):=by
 cases ts with
 | nil=>exact Gb.out
 | cons x r =>
  have hx:=HT x (h.mem (by simp));have hr:r <:+ T:=(List.suffix_cons x r).trans h;unfold atomR;simp only;split
  ·exact Gb.ok hr (Ex.gd_mk hx.1 hx.2.1 (by simp) hx.2.2.2 trivial) (by rw[Ex.sz_mk];simp[Fs.size];omega)
  ·split
   ·exact Gb.ok hr (Ex.gd_mk (by omega) (by omega) hx.2.2.1 hx.2.2.2 trivial) (by rw[Ex.sz_mk];simp[Fs.size];omega)
   ·split
    ·exact Gb.ok hr (Ex.gd_mk (by omega) (by omega) (by simp) hx.2.2.2 trivial) (by rw[Ex.sz_mk];simp[Fs.size];omega)
    ·split
     ·exact Gb.ok hr (Ex.gd_mk (by omega) (by omega) (by simp) hx.2.2.2 trivial) (by rw[Ex.sz_mk];simp[Fs.size];omega)
     ·split
      ·exact(gb_kind HT _ hr).bind fun y t h1 p1 l1=>Gb.ok h1 (Ex.gd_mk p1.1 p1.2.1 (by simp) hx.2.2.2 trivial) (by rw[Ex.sz_mk];simp[Fs.size];omega)
      ·split
       ·rw[par_args];unfold parR;exact(gb_enter HT _ _ h).bind fun _ t1 h1 _ l1=>(H _ _ _ _ h1).bind fun e t2 h2 p2 l2=>(gb_pass HT _ h2).bind fun _ t4 h4 _ l4=>Gb.ok h4 p2 (by omega)
       ·split
        ·exact gb_choice HT H o q h
        ·split
         ·rename_i hc
          have hz:=List.mem_of_find?_eq_some hc;have hz2:∀ z ∈ callsL,z.2.1<=100:=by decide
          have hz3:=hz2 _ hz;simp only at hz3;exact(gb_args HT H _ o q hr).bind fun ks t h1 p1 l1=>Gb.ok h1 (Ex.gd_mk (by omega) (by omega) (by simp) hx.2.2.2 p1) (by rw[Ex.sz_mk];simp;omega)
         ·split
          ·rename_i hc
           have hz:=List.mem_of_find?_eq_some hc;have hz2:∀ z ∈ quantsL,z.2<=100:=by decide
           have hz3:=hz2 _ hz;simp only at hz3;exact gb_quant HT H m _ _ o q hz3 h
          ·exact Gb.bad
theorem gb_pref (HT:∀ y,y ∈ T->tkG y)(H:∀ row o q ts,ts <:+ T->Gb T ts.length Ex.gd Ex.sz (rec row o q ts))(s:List UInt8)(k:Int)(row o q:Nat){ts:List Tk}(h:ts <:+ T):Gb T ts.length Ex.gd Ex.sz (prefR rec s k row o q ts):=by
 cases ts with
 | nil=>exact Gb.out
 | cons x r =>
  have hx:=HT x (h.mem (by simp));have hr:r <:+ T:=(List.suffix_cons x r).trans h;unfold prefR;simp only;split
  ·split
   ·exact Gb.bad
   ·refine(H _ _ _ _ hr).bind fun e t2 h2 p2 l2=>Gb.ok h2 (Ex.gd_mk (by omega) (by omega) (by simp) hx.2.2.2 p2) ?_;rw[Ex.sz_mk];show e.sz+1+_<=_;simp only[List.length_cons];omega
  ·exact H _ _ _ _ h
theorem gb_chainL (HT:∀ y,y ∈ T->tkG y)(H:∀ row o q ts,ts <:+ T->Gb T ts.length Ex.gd Ex.sz (rec row o q ts)):∀ (m row o q:Nat) (left:Ex) (ts:List Tk) (b:Nat),ts <:+ T->left.gd->left.sz+ts.length<=b->Gb T b Ex.gd Ex.sz (chainL rec m row o q left ts)
 | 0,row,o,q,left,ts,b,h,hg,hb=>Gb.out
 | m+1,row,o,q,left,[],b,h,hg,hb=>Gb.out
 | m+1,row,o,q,left,x::r,b,h,hg,hb=>by
  have hx:=HT x (h.mem (by simp));have hr:r <:+ T:=(List.suffix_cons x r).trans h;unfold chainL;simp only;split
  ·exact Gb.ok h hg hb
  ·refine(H _ _ _ _ hr).bind fun e t2 h2 p2 l2=>?_;simp only[List.length_cons] at hb;have hgd:∀ (z:Int),(⟨z,0,[],(x.a:Nat),(one left).snoc e⟩:Ex).gd:=fun z=>Ex.gd_mk (by omega) (by omega) (by simp) hx.2.2.2 (gd_snoc hg p2);have hsz:∀ (z:Int),(⟨z,0,[],(x.a:Nat),(one left).snoc e⟩:Ex).sz+t2.length<=b:=fun z=>by
    rw[Ex.sz_mk,sz_snoc];show left.sz+e.sz+1+_<=_;omega
   split
   ·exact Gb.ok h2 (hgd _) (hsz _)
   ·exact gb_chainL HT H m row o q _ t2 b h2 (hgd _) (hsz _)
end
theorem gb_part {T:List Tk}(HT:∀ y,y ∈ T->tkG y):∀ (n row o q:Nat) (ts:List Tk),ts <:+ T->Gb T ts.length Ex.gd Ex.sz (partF n row o q ts)
 | 0,row,o,q,ts,h=>Gb.out
 | n+1,row,o,q,ts,h=>by
  have H:=gb_part HT n;unfold partF;split
  ·exact gb_pref HT H _ _ _ _ _ h
  ·split
   ·exact gb_pref HT H _ _ _ _ _ h
   ·split
    ·exact gb_atom HT H n o q h
    ·exact(H _ _ _ _ h).bind fun l t h1 p1 l1=>gb_chainL HT H n row o q l t _ h1 p1 l1
theorem ptok_good {k:Nat}{t:List UInt8}{a:Nat}{x:Tk}(h:ptok k t a=.inr x):-9223372036854775808<=x.n/\x.n<=9223372036854775807/\x.t.length<=t.length:=by
 unfold ptok at h;split at h
 ·unfold wrdT at h
  repeat' split at h
  all_goals first|(injection h with h;subst h;exact⟨by simp,by simp,Nat.le_refl _⟩)|cases h
 ·unfold numT at h;cases hv:Lib.atoiAll t with
  | ok v =>
   rw[hv] at h;have hb:=Go.Lib.atoiAll_bounds hv;simp only at h;split at h
   ·cases h
   ·injection h with h
    subst h;exact⟨hb.1,hb.2,by simp⟩
  | _=>rw[hv] at h;cases h
 ·unfold sgnT at h;split at h
  all_goals first|(injection h with h;subst h;exact⟨by simp,by simp,Nat.le_refl _⟩)|cases h
 ·cases h
theorem tok_good (k:Nat)(t:List UInt8)(a p:Nat)(l:List UInt8)(ts:List Tk)(h:lexL k t a p l=.inr ts)(hl:t.length+l.length<=2000):∀ x,x ∈ ts->-9223372036854775808<=x.n/\x.n<=9223372036854775807/\x.t.length<=2000:=by
 induction l generalizing k t a p ts with
 | nil =>
  intro x hx;rcases shut_inr h with ⟨rfl,h1⟩|⟨hk,y,us,hp,h1,h2⟩
  ·injection h1 with h1
   subst h1;simp at hx;subst hx;exact⟨by simp,by simp,by simp⟩
  ·injection h1 with h1
   subst h1 h2;simp at hx;rcases hx with rfl|rfl
   ·have:=ptok_good hp
    simp only[List.length_nil] at hl;exact⟨this.1,this.2.1,by omega⟩
   ·exact⟨by simp,by simp,by simp⟩
 | cons c r ih =>
  simp only[List.length_cons] at hl;cases ht:tks k t c.toNat
  ·rw[lexL_no ht] at h;rcases shut_inr h with ⟨rfl,h1⟩|⟨hk,y,us,hp,h1,h2⟩
   ·exact ih _ _ _ _ _ h1 (by simp;omega)
   ·subst h2;intro x hx;rcases List.mem_cons.1 hx with rfl|hx
    ·have:=ptok_good hp
     exact⟨this.1,this.2.1,by omega⟩
    ·exact ih _ _ _ _ _ h1 (by simp;omega) x hx
  ·rw[lexL_yes ht] at h;exact ih _ _ _ _ _ h (by simp;omega)
theorem Fs.len_size:∀ (x:Fs),x.len<=x.size
 | ⟨none⟩=>Nat.le_refl _
 | ⟨some ⟨k,n,nm,a,ks,r⟩⟩=>by have:=Fs.len_size r;simp only[Fs.len,Fs.size];omega
theorem Fs.gd_all:∀ {x:Fs},x.gd->x.size<=100000000->x.short/\x.rng/\x.plc
 | ⟨none⟩,h,hs=>⟨trivial,trivial,trivial⟩
 | ⟨some ⟨k,n,nm,a,ks,r⟩⟩,h,hs=>by
  simp only[Fs.size] at hs;obtain⟨h1,h2,h3,h4,h5,h6,h7⟩:=h;obtain⟨a1,a2,a3⟩:=Fs.gd_all h6 (by omega);obtain⟨b1,b2,b3⟩:=Fs.gd_all h7 (by omega)
  have:=Fs.len_size ks
  exact⟨⟨by unfold maxLen;omega,by omega,a1,b1⟩,⟨h1,h2,a2,b2⟩,⟨h4,by omega,a3,b3⟩⟩
theorem parse_gd {s:List UInt8}{x:Ex}{t:List Tk}(h:parseA s=.ok x t):x.gd/\x.sz<=2001:=by
 obtain⟨us,E,h0,h1,h2,h3,h4,h5⟩:=parse_text h;have hs:scanA s=.inr (us++[E]):=by rw[scan_short h0];exact h1
 have hk:=scan_ok hs;have hg:∀ y,y ∈ us++[E]->tkG y:=fun y hy=>by
  have a1:=tok_good _ _ _ _ _ _ h1 (by simpa using h0) y hy;have a2:=hk.2.2.2.2.2 y hy;exact⟨a1.1,a1.2.1,a1.2.2,by omega⟩
 obtain⟨_,g1,g2⟩:=gb_part hg 30000 1 0 0 _ (List.suffix_refl _) x [E] h5;refine⟨g1,?_⟩
 have:=hk.2.2.1
 omega
structure Ex.okT (x:Ex):Prop where
 fit:x.fit
 a0:0<=x.a
 a1:x.a<=2000
 plc:x.kids.plc
 size:x.kids.size<=2000
theorem parse_okT {s:List UInt8}{x:Ex}{t:List Tk}(h:parseA s=.ok x t):x.okT:=by
 obtain⟨g,hs⟩:=parse_gd h;have hs:x.kids.size+1<=2001:=hs;obtain⟨h1,h2,h3,h4,h5,h6,_⟩:=g;obtain⟨a1,a2,a3⟩:=Fs.gd_all h6 (by omega)
 have:=Fs.len_size x.kids
 exact⟨⟨by unfold maxLen;omega,a1,by omega,h1,h2,a2⟩,h4,h5,a3,by omega⟩
open Go.ChangeShapes Go.WideShapes Go.ChangeAt Go.RowKit
theorem PostOf.ok {w w':World}{e:Ex}{x:Ending}(h:PostOf w e x w')(ht:(typA e).2.1=0):∃ay cy,x=.returned (.tuple #[plV (ofE e []) ay cy (.slice none 0 0),.int .i64 0])/\SlN w' (Nw w.heap.size) (ofE e []).kids ay/\Below w.heap.size w w':=by
 unfold PostOf at h;rw[if_pos ht] at h;exact h
def PasW (w:World)(Y:Ex)(C:List Int)(er:Nat)(x:Ending)(w':World):Prop :=
 ∃ay cy v,x=.returned (.tuple #[plV Y ay cy v,.int .i64 (er:Nat)])/\SnA w' Y.kids ay/\InA w' v C/\Below w.heap.size w w'
def PasV (w:World)(Y:Ex)(C:List Int)(er:Nat)(x:Ending)(w':World):Prop :=
 ∃g ay cy v,x=.returned (.tuple #[plV Y ay cy v,.int .i64 (er:Nat)])/\SlcN w' (fun k=>w.heap.size<=k/\k≠g) Y.kids ay cy/\w'.ownsRow 0 3 1 v C.length (C.map (Value.int .i64))/\(∀ k,v.ownBlock=some k->k=g/\w.heap.size<=k)/\Below w.heap.size w w'
def zeroE:Ex:=⟨0,0,[],0,.nil⟩
def pasY (b:Bool)(y:Ex):Ex:=if b then y else zeroE
def pasC (b:Bool)(c:List Int):List Int:=if b then c else []
def pasR (b:Bool):Nat:=if b then 0 else 140
theorem pasY_fit {b:Bool}{y:Ex}(h:FitN y):FitN (pasY b y):=by
 unfold pasY;split
 ·exact h
 ·exact⟨by simp[zeroE],by show 0<=_;omega,trivial⟩
theorem set5Step {I:Nat->Prop}{w:World}{o:Nat->Nat}{b:Nat}(v0 v1 v2 v3 v4:Value)(hb:I (o b)):Step I w o (((((w.setCell ⟨b,0,none⟩ v0).setCell ⟨b,1,none⟩ v1).setCell ⟨b,2,none⟩ v2).setCell ⟨b,3,none⟩ v3).setCell ⟨b,4,none⟩ v4) o :=
 ((((setStep I w o ⟨b,0,none⟩ v0 hb).trans (setStep I _ o ⟨b,1,none⟩ v1 hb)).trans (setStep I _ o ⟨b,2,none⟩ v2 hb)).trans (setStep I _ o ⟨b,3,none⟩ v3 hb)).trans (setStep I _ o ⟨b,4,none⟩ v4 hb)
theorem foldp_end {w w1 w2 w3:World}{n0 cy c3:Nat}{o3:Nat->Nat}{Y:Ex}{cells:List Int}{ay a3:Option Addr}(hB:n0=w.heap.size)(B1:Below n0 w w1)(hz:n0+1<w1.heap.size)(Bw:Below w1.heap.size w1 w2)(S2:SlcN w2 (Nw w1.drew.heap.size) Y.kids ay cy)(R3:Row w3 o3 5 3 1 (.slice a3 cells.length c3) cells.length (cells.map (Value.int .i64)))(s3:Step (fun k=>k=5) w2 (fun _=>0) w3 o3) :
  PasV w Y cells 0 (.returned (.tuple #[plV Y ay cy (.slice a3 cells.length c3),.int .i64 0])) (((((w3.setCell ⟨n0+1,0,none⟩ (.int .i64 Y.k)).setCell ⟨n0+1,1,none⟩ (.int .i64 Y.n)).setCell ⟨n0+1,2,none⟩ (stv Y.nm)).setCell ⟨n0+1,3,none⟩ (.slice ay Y.kids.len cy)).setCell ⟨n0+1,4,none⟩ (.slice a3 cells.length c3)):=by
 have b3:Below w2.heap.size w2 w3:=⟨s3.os,s3.tape,s3.output,s3.size,fun k hk=>s3.block k hk (by decide)⟩
 have hs2:=Bw.size;have hs3:=b3.size;have oz:o3 (n0+1)=0:=s3.lab (n0+1) (by omega);have R4:=R3.step (set5Step (I:=fun k=>k=0) (w:=w3) (b:=n0+1) (.int .i64 Y.k) (.int .i64 Y.n) (stv Y.nm) (.slice ay Y.kids.len cy) (.slice a3 cells.length c3) oz) (by decide);obtain⟨g,hg1,hg2⟩:∃g,w2.heap.size<=g/\∀ k,(Value.slice a3 cells.length c3).ownBlock=some k->k=g:=by
  cases hb:(Value.slice a3 cells.length c3).ownBlock with
  | none=>exact⟨_,Nat.le_refl _,fun k hk=>by cases hk⟩
  | some k0 =>
   refine⟨k0,?_,fun k hk=>by injection hk with hk;exact hk.symm⟩;rcases Nat.lt_or_ge k0 w2.heap.size with h|h
   ·have h1:=(s3.lab k0 h).symm.trans (R3.2 k0 hb);cases h1
   ·exact h
 refine⟨g,ay,cy,_,rfl,S2.mono (fun i hp hl=>?_) ?_ (fun i hp hl=>⟨?_,?_⟩),R4.1,fun k hk=>⟨hg2 k hk,by have:=hg2 k hk;omega⟩,?_⟩
 ·have hp:w1.drew.heap.size<=i:=hp;have hp2:w1.heap.size<=i:=hp;exact(heap_set5 w3 (n0+1) i _ _ _ _ _ (by omega)).trans (b3.block i hl)
 ·simp;omega
 ·have hp:w1.drew.heap.size<=i:=hp;have hp2:w1.heap.size<=i:=hp;omega
 ·omega
 ·rw[<-hB];exact((((((B1.trans (Bw.mono (by omega))).trans (b3.mono (by omega))).setCell (p:=⟨n0+1,0,none⟩) (Nat.le_succ _) _).setCell (p:=⟨n0+1,1,none⟩) (Nat.le_succ _) _).setCell (p:=⟨n0+1,2,none⟩) (Nat.le_succ _) _).setCell (p:=⟨n0+1,3,none⟩) (Nat.le_succ _) _).setCell (p:=⟨n0+1,4,none⟩) (Nat.le_succ _) _
theorem foldp_c (e:Ex)(ao:Option Addr)(cap:Nat)(cv:Value)(cells:List Int)(w:World)(hf:FitN e)(hn:In64 e.n)(hrn:e.kids.rng)(hW:Wd w)(hc:InA w cv cells)(hcl:cells.length<=100000)(S:SnA w e.kids ao) :
  Calls Tryz.prog 18 #[plV e ao cap cv] w (PasV w (pasY (decide (kindP cells e≠0)) (fldE rulP e)) (pasC (decide (kindP cells e≠0)) cells) (pasR (decide (kindP cells e≠0)))):=by
 obtain⟨ac,cc,hcv,hcx⟩:=hc;have hc:InA w cv cells:=⟨ac,cc,hcv,hcx⟩
 subst hcv;clear hcx;obtain⟨w0,hw0⟩:∃w0,w0=(w.alloc (.cells #[.int .i64 e.k,.int .i64 e.n,stv e.nm,.slice ao e.kids.len cap,.slice ac cells.length cc] 37)).alloc (.cells #[.int .i64 0,.int .i64 0,.string ⟨#[]⟩,.slice none 0 0,.slice none 0 0] 37):=⟨_,rfl⟩
 have B0:Below w.heap.size w w0:=by rw[hw0];exact((Below.refl _ w).alloc (Nat.le_refl _) _).alloc (by simp) _
 have P0:w0.heap[w.heap.size]?=some (.cells #[.int .i64 e.k,.int .i64 e.n,stv e.nm,.slice ao e.kids.len cap,.slice ac cells.length cc] 37 (0,0)):=by
  rw[hw0];exact(Below.heap_alloc _ _ _ (by simp)).trans (heap_alloc_new w _)
 have Z0:w0.heap[w.heap.size+1]?=some (.cells #[.int .i64 0,.int .i64 0,.string ⟨#[]⟩,.slice none 0 0,.slice none 0 0] 37 (0,0)):=by
  rw[hw0]
  have:=heap_alloc_new (w.alloc (.cells #[.int .i64 e.k,.int .i64 e.n,stv e.nm,.slice ao e.kids.len cap,.slice ac cells.length cc] 37)) (.cells #[.int .i64 0,.int .i64 0,.string ⟨#[]⟩,.slice none 0 0,.slice none 0 0] 37)
  simpa using this
 have hc0:=hc.below B0;have c1:=rightp_c e ao cap _ cells w0 hf (hW.below B0) hc0 (by omega) (SnA.below S B0);rw[plV_out] at c1 ⊢;go_enter Tryz.func18,Tryz.ntmps18;go_upto_region 1 with fail;rw[<-hw0];clear hw0;obtain⟨n0,hn0⟩:∃n0,n0=w.heap.size:=⟨_,rfl⟩
 rw[<-hn0] at P0 Z0 B0;try rw[<-hn0]
 have HB:Hid (n0=w.heap.size):=hn0;clear hn0;obtain⟨p0,p1,p2,p3,p4,pf⟩:=box5 P0;go_wp2_with fail;refine c1.mono ?_;rintro x w1 ⟨rfl,b1⟩;have hzl:=lt_of_block Z0;have hs1:=b1.size;have P1:=(b1.block _ (lt_of_block P0)).trans P0;have Z1:=(b1.block _ hzl).trans Z0;have B1:Below n0 w w1:=B0.trans (b1.mono (by omega));have hc1:=hc0.below b1;have S1:=SnA.below (SnA.below S (by rw[<-HB.out];exact B0)) b1;have hz1:n0+1<w1.heap.size:=lt_of_block Z1;clear c1 b1 P0 Z0 p0 p1 p2 p3 p4 pf hc0 B0 hzl hs1 hc S;by_cases hk:kindP cells e=0
 ·have hd:decide (kindP cells e≠0)=false:=by simp[hk]
  rw[hd];have HP:Hid (∀ wz,Below n0 w1 wz->PasV w (pasY (decide (kindP cells e≠0)) (fldE rulP e)) (pasC (decide (kindP cells e≠0)) cells) (pasR (decide (kindP cells e≠0))) (.returned (.tuple #[.agg #[.int .i64 0,.int .i64 0,.string ⟨#[]⟩,.slice none 0 0,.slice none 0 0],.int .i64 140])) wz):=fun wz bz=>by
   have bw:Below w.heap.size w wz:=by rw[<-HB.out];exact B1.trans bz
   rw[hd];exact⟨0,none,0,.slice none 0 0,rfl,.inl ⟨rfl,rfl,rfl⟩,World.ownsRow_nil _ _ _ _,fun k hk=>by simp[Value.ownBlock] at hk,bw⟩
  have HU:Hid (∃wz,wz=(((((w1.setCell ⟨n0+1,0,none⟩ (.int .i64 0)).setCell ⟨n0+1,1,none⟩ (.int .i64 0)).setCell ⟨n0+1,2,none⟩ (.string ⟨#[]⟩)).setCell ⟨n0+1,3,none⟩ (.slice none 0 0)).setCell ⟨n0+1,4,none⟩ (.slice none 0 0))/\wz.cell? ⟨n0+1,0,none⟩=some (.int .i64 0)/\wz.cell? ⟨n0+1,1,none⟩=some (.int .i64 0)/\wz.cell? ⟨n0+1,2,none⟩=some (.string ⟨#[]⟩)/\wz.cell? ⟨n0+1,3,none⟩=some (.slice none 0 0)/\wz.cell? ⟨n0+1,4,none⟩=some (.slice none 0 0)/\Below n0 w1 wz):=by
   obtain⟨u0,u1,u2,u3,u4,-⟩:=box5 (set5k (.int .i64 0) (.int .i64 0) (.string ⟨#[]⟩) (.slice none 0 0) (.slice none 0 0) Z1);exact⟨_,rfl,u0,u1,u2,u3,u4,(((((Below.refl n0 w1).setCell (p:=⟨n0+1,0,none⟩) (Nat.le_succ _) _).setCell (p:=⟨n0+1,1,none⟩) (Nat.le_succ _) _).setCell (p:=⟨n0+1,2,none⟩) (Nat.le_succ _) _).setCell (p:=⟨n0+1,3,none⟩) (Nat.le_succ _) _).setCell (p:=⟨n0+1,4,none⟩) (Nat.le_succ _) _⟩
  obtain⟨z0,z1,z2,z3,z4,zf⟩:=box5 Z1;clear hk hd B1 P1 Z1 hc1 S1;go_wp2;obtain⟨wz,hwz,v0,v1,v2,v3,v4,bz⟩:=HU.out;rw[<-hwz];exact bodyPost_ret (v:=.tuple #[.agg #[.int .i64 0,.int .i64 0,.string ⟨#[]⟩,.slice none 0 0,.slice none 0 0],.int .i64 140]) (by simp[results,Tryz.results18,go_sem,v0,v1,v2,v3,v4]) rfl (HP.out wz bz)
 ·have hd:decide (kindP cells e≠0)=true:=by simp[hk]
  rw[hd];obtain⟨hcl2,-,s0,hrg,-⟩:=kindP_inv hk;have hT:=rgE_ty hrg hn hrn;clear hrg hd;obtain⟨Y,hY⟩:∃Y,Y=fldE rulP e:=⟨_,rfl⟩
  have hcF:=fun (wx:World) (hx:SnA wx e.kids ao)=>folded_ok (e.kids.size+1) e _ ao cap wx hT (by omega) hf.len hf.sh hx;simp only[exN_out] at hcF;rw[<-hY] at hcF;have HE:Hid (∀ x w',PasV w Y cells 0 x w'->PasV w (pasY (decide (kindP cells e≠0)) (fldE rulP e)) (pasC (decide (kindP cells e≠0)) cells) (pasR (decide (kindP cells e≠0))) x w'):=fun x w' h=>by rw[decide_eq_true hk,<-hY];exact h
  clear hY hT hf hn hrn hk hW;go_upto_region 3 with fail;obtain⟨p0,p1,p2,p3,p4,pf⟩:=box5 P1;have hpl:n0<w1.heap.size:=lt_of_block P1;have Bd:Below w1.heap.size w1 w1.drew:=⟨rfl,rfl,rfl,Nat.le_refl _,fun _ _=>rfl⟩
  have k0:w1.cell? ⟨n0,0,none⟩=some (.int .i64 e.k)/\w1.cell? ⟨n0,1,none⟩=some (.int .i64 e.n)/\w1.cell? ⟨n0,2,none⟩=some (stv e.nm)/\w1.cell? ⟨n0,3,none⟩=some (.slice ao e.kids.len cap)/\w1.cell? ⟨n0,4,none⟩=some (.slice ac cells.length cc):=⟨p0,p1,p2,p3,p4⟩
  have k1:w1.drew.cell? ⟨n0,0,none⟩=some (.int .i64 e.k)/\w1.drew.cell? ⟨n0,1,none⟩=some (.int .i64 e.n)/\w1.drew.cell? ⟨n0,2,none⟩=some (stv e.nm)/\w1.drew.cell? ⟨n0,3,none⟩=some (.slice ao e.kids.len cap)/\w1.drew.cell? ⟨n0,4,none⟩=some (.slice ac cells.length cc):=k0;go_region_held3 (fun wx=>wx.cell? ⟨n0,0,none⟩=some (.int .i64 e.k)/\wx.cell? ⟨n0,1,none⟩=some (.int .i64 e.n)/\wx.cell? ⟨n0,2,none⟩=some (stv e.nm)/\wx.cell? ⟨n0,3,none⟩=some (.slice ao e.kids.len cap)/\wx.cell? ⟨n0,4,none⟩=some (.slice ac cells.length cc)) (first|(with_reducible exact k3)|(with_reducible exact set5_keep k3)|(with_reducible exact k2)|(with_reducible exact k1)|(with_reducible exact k0)) ((first|(go_at_call 40;refine(hcF _ (S1.belowP Bd)).mono ?_;rintro x w2 ⟨ay,cy,rfl,S2,b2⟩;have Bw:Below w1.heap.size w1 w2:=Bd.trans (b2.mono (by simp));have k2:w2.cell? ⟨n0,0,none⟩=some (.int .i64 e.k)/\w2.cell? ⟨n0,1,none⟩=some (.int .i64 e.n)/\w2.cell? ⟨n0,2,none⟩=some (stv e.nm)/\w2.cell? ⟨n0,3,none⟩=some (.slice ao e.kids.len cap)/\w2.cell? ⟨n0,4,none⟩=some (.slice ac cells.length cc):=⟨(Bw.cell (p:=⟨n0,0,none⟩) hpl).trans p0,(Bw.cell (p:=⟨n0,1,none⟩) hpl).trans p1,(Bw.cell (p:=⟨n0,2,none⟩) hpl).trans p2,(Bw.cell (p:=⟨n0,3,none⟩) hpl).trans p3,(Bw.cell (p:=⟨n0,4,none⟩) hpl).trans p4⟩;rw[exN_out])|(go_at_call 41;refine(clonei_c w2 _ cells (fun _=>0) (hc1.below Bw) (by omega)).mono ?_;rintro x w3 ⟨v3,o3,rfl,R3,s3⟩;obtain⟨a3,c3,rfl⟩:=R3.form;have b3:Below w1.heap.size w1 w3:=Bw.trans ((⟨s3.os,s3.tape,s3.output,s3.size,fun k hk=>s3.block k hk (by decide)⟩:Below w2.heap.size w2 w3).mono Bw.size);have k3:w3.cell? ⟨n0,0,none⟩=some (.int .i64 e.k)/\w3.cell? ⟨n0,1,none⟩=some (.int .i64 e.n)/\w3.cell? ⟨n0,2,none⟩=some (stv e.nm)/\w3.cell? ⟨n0,3,none⟩=some (.slice ao e.kids.len cap)/\w3.cell? ⟨n0,4,none⟩=some (.slice ac cells.length cc):=⟨(b3.cell (p:=⟨n0,0,none⟩) hpl).trans p0,(b3.cell (p:=⟨n0,1,none⟩) hpl).trans p1,(b3.cell (p:=⟨n0,2,none⟩) hpl).trans p2,(b3.cell (p:=⟨n0,3,none⟩) hpl).trans p3,(b3.cell (p:=⟨n0,4,none⟩) hpl).trans p4⟩;have Z3:=(b3.block _ hz1).trans Z1;obtain⟨z0,z1,z2,z3,z4,zf⟩:=box5 Z3)))
  all_goals (
   have HU:Hid (∃wz,wz=(((((w3.setCell ⟨n0+1,0,none⟩ (.int .i64 Y.k)).setCell ⟨n0+1,1,none⟩ (.int .i64 Y.n)).setCell ⟨n0+1,2,none⟩ (stv Y.nm)).setCell ⟨n0+1,3,none⟩ (.slice ay Y.kids.len cy)).setCell ⟨n0+1,4,none⟩ (.slice a3 cells.length c3))/\wz.cell? ⟨n0+1,0,none⟩=some (.int .i64 Y.k)/\wz.cell? ⟨n0+1,1,none⟩=some (.int .i64 Y.n)/\wz.cell? ⟨n0+1,2,none⟩=some (stv Y.nm)/\wz.cell? ⟨n0+1,3,none⟩=some (.slice ay Y.kids.len cy)/\wz.cell? ⟨n0+1,4,none⟩=some (.slice a3 cells.length c3)/\PasV w Y cells 0 (.returned (.tuple #[plV Y ay cy (.slice a3 cells.length c3),.int .i64 0])) wz):=by
    obtain⟨u0,u1,u2,u3,u4,-⟩:=box5 (set5k (.int .i64 Y.k) (.int .i64 Y.n) (stv Y.nm) (.slice ay Y.kids.len cy) (.slice a3 cells.length c3) Z3);exact⟨_,rfl,u0,u1,u2,u3,u4,foldp_end HB.out B1 hz1 Bw S2 R3 s3⟩
   clear S2 R3 s3 b3 Bw;go_wp2;obtain⟨wz,hwz,v0,v1,v2,v3,v4,PZ⟩:=HU.out;rw[<-hwz];exact bodyPost_ret (v:=.tuple #[plV Y ay cy (.slice a3 cells.length c3),.int .i64 0]) (by simp[results,Tryz.results18,go_sem,v0,v1,v2,v3,v4,plV]) rfl (HE.out _ _ PZ))
theorem single_c (e x:Ex)(ao:Option Addr)(cap:Nat)(P:Nat->Prop)(w:World)(hke:e.k=6\/e.k=7\/e.k=26)(hk:e.kids=Fs.ex x .nil)(h77:e.k=7->x.k=7->∃z,x.kids=Fs.ex z .nil)(hxn:x.k=1->In64 x.n)(S:SlcN w P e.kids ao cap) :
  Calls Tryz.prog 69 #[exN e ao cap] w (PostRu w w P (siE e x)):=by
 have S2:=S;rw[hk] at S2;obtain⟨b,a0,c0,hao,hb,x0,x1,x2,x3,SX⟩:=SlcN.kidM (d:=.nil) (y:=x) S2;subst hao;have hl0:(0:Int)<(e.kids.len:Int):=by rw[hk];show (0:Int)<((1:Nat):Int);decide
 obtain⟨w0,hw0⟩:∃w0,w0=(w.alloc (.cells #[.int .i64 e.k,.int .i64 e.n,stv e.nm,.slice (some ⟨b,0,none⟩) e.kids.len cap] 34)).alloc (.cells #[.int .i64 0,.int .i64 0,.string ⟨#[]⟩,.slice none 0 0] 34):=⟨_,rfl⟩
 have B0:Below w.heap.size w w0:=by rw[hw0];exact((Below.refl _ w).alloc (Nat.le_refl _) _).alloc (by simp) _
 have E0:w0.heap[w.heap.size]?=some (.cells #[.int .i64 e.k,.int .i64 e.n,stv e.nm,.slice (some ⟨b,0,none⟩) e.kids.len cap] 34 (0,0)):=by rw[hw0];exact(Below.heap_alloc _ _ _ (by simp)).trans (heap_alloc_new w _)
 have Z0:w0.heap[w.heap.size+1]?=some (.cells #[.int .i64 0,.int .i64 0,.string ⟨#[]⟩,.slice none 0 0] 34 (0,0)):=by
  rw[hw0]
  have:=heap_alloc_new (w.alloc (.cells #[.int .i64 e.k,.int .i64 e.n,stv e.nm,.slice (some ⟨b,0,none⟩) e.kids.len cap] 34)) (.cells #[.int .i64 0,.int .i64 0,.string ⟨#[]⟩,.slice none 0 0] 34)
  simpa using this
 clear S2 hk;rw[exN_out];go_enter Tryz.func69,Tryz.ntmps69;go_upto_region 1 with fail;rw[<-hw0];obtain⟨bx,hbx⟩:∃bx,bx=w.heap.size:=⟨_,rfl⟩
 rw[<-hbx] at E0 Z0 B0 hb;try rw[<-hbx]
 have HB:Hid (bx=w.heap.size):=hbx;clear hbx hw0;have hlx:(Fs.len (.nil:Fs))=0:=rfl;rw[hlx] at x0 x1 x2 x3;have x0:=(B0.cell (p:=⟨b,0*4,none⟩) hb).trans x0;have x1:=(B0.cell (p:=⟨b,0*4+1,none⟩) hb).trans x1;have x2:=(B0.cell (p:=⟨b,0*4+2,none⟩) hb).trans x2;have x3:=(B0.cell (p:=⟨b,0*4+3,none⟩) hb).trans x3;simp only[Nat.zero_mul,Nat.zero_add,Nat.one_mul,Nat.reduceAdd] at x0 x1 x2 x3;have hb0:b<w0.heap.size:=Nat.lt_trans hb (lt_of_block E0);obtain⟨p0,p1,p2,p3,pf⟩:=box4 E0;have l1:bx<w0.heap.size:=lt_of_block E0;have l2:bx<w0.heap.size+1:=Nat.lt_succ_of_lt l1;have l3:b<w0.heap.size+1:=Nat.lt_succ_of_lt hb0;go_upto_region 2 with fail;obtain⟨w1,hw1⟩:∃w1,w1=w0.alloc (.cells #[.int .i64 x.k,.int .i64 x.n,stv x.nm,.slice a0 x.kids.len c0] 34):=⟨_,rfl⟩
 obtain⟨p,hp⟩:∃p,p=w0.heap.size:=⟨_,rfl⟩
 have B1:Below bx w w1:=by rw[hw1];exact B0.alloc (Nat.le_of_lt l1) _
 have D1:Below w0.heap.size w0 w1:=by rw[hw1];exact(Below.refl _ w0).alloc (Nat.le_refl _) _
 have L1:w1.heap[p]?=some (.cells #[.int .i64 x.k,.int .i64 x.n,stv x.nm,.slice a0 x.kids.len c0] 34 (0,0)):=by
  rw[hw1,hp];exact heap_alloc_new w0 _
 have E1:=(D1.block bx l1).trans E0;have Z1:=(D1.block (bx+1) (lt_of_block Z0)).trans Z0;rw[<-hw1,<-hp];clear hw1 hp D1 B0 E0 Z0 l1 l2 l3 hb0 hb p0 p1 p2 p3 pf x0 x1 x2 x3;rcases hke with k6|k7|k26
 ·have t6:(e.k==6)=true:=by simpa using k6
  by_cases hx1:x.k=1
  ·have tx:(x.k==1)=true:=by simpa using hx1
   by_cases hl:x.n=-9223372036854775808
   ·have tl:(x.n != -9223372036854775808)=false:=by simp[hl]
    have hans:Hid (siE e x=e):=by show _=_;unfold siE;rw[if_pos k6,if_neg (fun h=>h.2 hl)]
    clear k6 hx1 hl;have HU:=rule_hu e (some ⟨b,0,none⟩) cap Z1 B1;obtain⟨p0,p1,p2,p3,pf⟩:=box4 E1;obtain⟨r0,r1,r2,r3,rf⟩:=box4 L1;obtain⟨z0,z1,z2,z3,zf⟩:=box4 Z1;clear Z1 E1 L1;go_wp2;obtain⟨wz,hwz,v0,v1,v2,v3,BZ⟩:=HU.out;rw[<-hwz];rw[HB.out] at BZ;exact bodyPost_ret (v:=exN e (some ⟨b,0,none⟩) cap) (by simp[results,Tryz.results69,go_sem,v0,v1,v2,v3,exN]) rfl ⟨(some ⟨b,0,none⟩),cap,by rw[hans.out],by rw[hans.out];exact S,BZ⟩
   ·have tl:(x.n != -9223372036854775808)=true:=by simp[hl]
    have hans:Hid (siE e x=numE (-x.n)):=by show _=_;unfold siE;rw[if_pos k6,if_pos ⟨hx1,hl⟩]
    have hwn:IntKind.i64.wrap (-x.n)=-x.n:=by have:=hxn hx1;unfold In64 at this;rw[IntKind.wrap_i64];omega
    have hr1:=(hxn hx1).1;have hr2:=(hxn hx1).2;clear k6 hx1;have hc:Calls Tryz.prog _ _ _ (fun xx w'=>xx=.returned (.agg #[.int .i64 1,.int .i64 (-x.n),.string ⟨#[]⟩,.slice none 0 0])/\Below _ _ w'):=number_c (-x.n) w1;obtain⟨p0,p1,p2,p3,pf⟩:=box4 E1;obtain⟨r0,r1,r2,r3,rf⟩:=box4 L1;go_wp2_with fail;refine hc.mono ?_;rintro u w9 ⟨rfl,b9⟩;have B9:Below bx w w9:=B1.trans (b9.mono (Nat.le_of_lt (lt_of_block E1)));have Z1:=(b9.block _ (lt_of_block Z1)).trans Z1;have HU:=rule_hc 1 (-x.n) Z1 B9;obtain⟨z0,z1,z2,z3,zf⟩:=box4 Z1;clear hc b9 Z1 E1 L1 B9 p0 p1 p2 p3 pf r0 r1 r2 r3 rf;go_wp2;obtain⟨wz,hwz,v0,v1,v2,v3,BZ⟩:=HU.out;rw[<-hwz];rw[HB.out] at BZ;exact bodyPost_ret (v:=.agg #[.int .i64 1,.int .i64 (-x.n),.string ⟨#[]⟩,.slice none 0 0]) (by simp[results,Tryz.results69,go_sem,v0,v1,v2,v3]) rfl ⟨none,0,by rw[hans.out];rfl,by rw[hans.out];exact SlcN.nil _ _,BZ⟩
  ·have tx:(x.k==1)=false:=by simpa using hx1
   have hans:Hid (siE e x=e):=by show _=_;unfold siE;rw[if_pos k6,if_neg (fun h=>hx1 h.1)]
   clear k6 hx1;have HU:=rule_hu e (some ⟨b,0,none⟩) cap Z1 B1;obtain⟨p0,p1,p2,p3,pf⟩:=box4 E1;obtain⟨r0,r1,r2,r3,rf⟩:=box4 L1;obtain⟨z0,z1,z2,z3,zf⟩:=box4 Z1;clear Z1 E1 L1;go_wp2;obtain⟨wz,hwz,v0,v1,v2,v3,BZ⟩:=HU.out;rw[<-hwz];rw[HB.out] at BZ;exact bodyPost_ret (v:=exN e (some ⟨b,0,none⟩) cap) (by simp[results,Tryz.results69,go_sem,v0,v1,v2,v3,exN]) rfl ⟨(some ⟨b,0,none⟩),cap,by rw[hans.out],by rw[hans.out];exact S,BZ⟩
 ·have t6:(e.k==6)=false:=by simp;omega
  have t7:(e.k==7)=true:=by simpa using k7
  by_cases hx2:x.k=2
  ·have tx:(x.k==2)=true:=by simpa using hx2
   cases hb0:(x.n==0) with
   | true =>
    have hans:Hid (siE e x=truE true):=by show _=_;unfold siE;rw[if_neg (by omega),if_pos k7,if_pos hx2,hb0]
    clear k7 hx2;have hc:Calls Tryz.prog _ _ _ (fun xx w'=>xx=.returned (.agg #[.int .i64 2,.int .i64 (1),.string ⟨#[]⟩,.slice none 0 0])/\Below _ _ w'):=truthr_c true w1;obtain⟨p0,p1,p2,p3,pf⟩:=box4 E1;obtain⟨r0,r1,r2,r3,rf⟩:=box4 L1;go_wp2_with fail;refine hc.mono ?_;rintro u w9 ⟨rfl,b9⟩;have B9:Below bx w w9:=B1.trans (b9.mono (Nat.le_of_lt (lt_of_block E1)));have Z1:=(b9.block _ (lt_of_block Z1)).trans Z1;have HU:=rule_hc 2 (1) Z1 B9;obtain⟨z0,z1,z2,z3,zf⟩:=box4 Z1;clear hc b9 Z1 E1 L1 B9 p0 p1 p2 p3 pf r0 r1 r2 r3 rf;go_wp2;obtain⟨wz,hwz,v0,v1,v2,v3,BZ⟩:=HU.out;rw[<-hwz];rw[HB.out] at BZ;exact bodyPost_ret (v:=.agg #[.int .i64 2,.int .i64 (1),.string ⟨#[]⟩,.slice none 0 0]) (by simp[results,Tryz.results69,go_sem,v0,v1,v2,v3]) rfl ⟨none,0,by rw[hans.out];rfl,by rw[hans.out];exact SlcN.nil _ _,BZ⟩
   | false =>
    have hans:Hid (siE e x=truE false):=by show _=_;unfold siE;rw[if_neg (by omega),if_pos k7,if_pos hx2,hb0]
    clear k7 hx2;have hc:Calls Tryz.prog _ _ _ (fun xx w'=>xx=.returned (.agg #[.int .i64 2,.int .i64 (0),.string ⟨#[]⟩,.slice none 0 0])/\Below _ _ w'):=truthr_c false w1;obtain⟨p0,p1,p2,p3,pf⟩:=box4 E1;obtain⟨r0,r1,r2,r3,rf⟩:=box4 L1;go_wp2_with fail;refine hc.mono ?_;rintro u w9 ⟨rfl,b9⟩;have B9:Below bx w w9:=B1.trans (b9.mono (Nat.le_of_lt (lt_of_block E1)));have Z1:=(b9.block _ (lt_of_block Z1)).trans Z1;have HU:=rule_hc 2 (0) Z1 B9;obtain⟨z0,z1,z2,z3,zf⟩:=box4 Z1;clear hc b9 Z1 E1 L1 B9 p0 p1 p2 p3 pf r0 r1 r2 r3 rf;go_wp2;obtain⟨wz,hwz,v0,v1,v2,v3,BZ⟩:=HU.out;rw[<-hwz];rw[HB.out] at BZ;exact bodyPost_ret (v:=.agg #[.int .i64 2,.int .i64 (0),.string ⟨#[]⟩,.slice none 0 0]) (by simp[results,Tryz.results69,go_sem,v0,v1,v2,v3]) rfl ⟨none,0,by rw[hans.out];rfl,by rw[hans.out];exact SlcN.nil _ _,BZ⟩
  ·have tx:(x.k==2)=false:=by simpa using hx2
   by_cases hx7:x.k=7
   ·have tx7:(x.k==7)=true:=by simpa using hx7
    obtain⟨z,hz⟩:=h77 k7 hx7;have hans:Hid (siE e x=z):=by show _=_;unfold siE;rw[if_neg (by omega),if_pos k7,if_neg hx2,if_pos hx7,hz];rfl
    have SXx:=SX;rw[hz] at SXx;obtain⟨bz,az,cz,hz1,hbz,g0,g1,g2,g3,SZ⟩:=SlcN.kidM (d:=.nil) (y:=z) SXx;subst hz1;have hlx:(0:Int)<(x.kids.len:Int):=by rw[hz];show (0:Int)<((1:Nat):Int);decide
    have WB:Below w.heap.size w w1:=by rw[<-HB.out];exact B1
    have g0:=(WB.cell (p:=⟨bz,0,none⟩) hbz).trans g0;have g1:=(WB.cell (p:=⟨bz,1,none⟩) hbz).trans g1;have g2:=(WB.cell (p:=⟨bz,2,none⟩) hbz).trans g2;have g3:=(WB.cell (p:=⟨bz,3,none⟩) hbz).trans g3;clear k7 hx2 hx7 hz SXx WB;have HU:=rule_hu z az cz Z1 B1;obtain⟨p0,p1,p2,p3,pf⟩:=box4 E1;obtain⟨r0,r1,r2,r3,rf⟩:=box4 L1;obtain⟨z0,z1,z2,z3,zf⟩:=box4 Z1;clear Z1 E1 L1;go_wp2;obtain⟨wz,hwz,v0,v1,v2,v3,BZ⟩:=HU.out;rw[<-hwz];rw[HB.out] at BZ;exact bodyPost_ret (v:=exN z az cz) (by simp[results,Tryz.results69,go_sem,v0,v1,v2,v3,exN]) rfl ⟨az,cz,by rw[hans.out],by rw[hans.out];exact SZ,BZ⟩
   ·have tx7:(x.k==7)=false:=by simpa using hx7
    have hans:Hid (siE e x=e):=by show _=_;unfold siE;rw[if_neg (by omega),if_pos k7,if_neg hx2,if_neg hx7]
    clear k7 hx2 hx7;have HU:=rule_hu e (some ⟨b,0,none⟩) cap Z1 B1;obtain⟨p0,p1,p2,p3,pf⟩:=box4 E1;obtain⟨r0,r1,r2,r3,rf⟩:=box4 L1;obtain⟨z0,z1,z2,z3,zf⟩:=box4 Z1;clear Z1 E1 L1;go_wp2;obtain⟨wz,hwz,v0,v1,v2,v3,BZ⟩:=HU.out;rw[<-hwz];rw[HB.out] at BZ;exact bodyPost_ret (v:=exN e (some ⟨b,0,none⟩) cap) (by simp[results,Tryz.results69,go_sem,v0,v1,v2,v3,exN]) rfl ⟨(some ⟨b,0,none⟩),cap,by rw[hans.out],by rw[hans.out];exact S,BZ⟩
 ·have t6:(e.k==6)=false:=by simp;omega
  have t7:(e.k==7)=false:=by simp;omega
  have t26:(e.k==26)=true:=by simpa using k26
  have hc3:((x.k==1)=true/\(x.k=1\/x.k=2))\/((x.k==1)=false/\(x.k==2)=true/\(x.k=1\/x.k=2))\/((x.k==1)=false/\(x.k==2)=false/\¬(x.k=1\/x.k=2)):=by
   by_cases h1:x.k=1
   ·exact .inl ⟨by simpa using h1,.inl h1⟩
   ·by_cases h2:x.k=2
    ·exact .inr (.inl ⟨by simpa using h1,by simpa using h2,.inr h2⟩)
    ·exact .inr (.inr ⟨by simpa using h1,by simpa using h2,by omega⟩)
  rcases hc3 with ⟨tx1,hx⟩|⟨tx1,tx2,hx⟩|⟨tx1,tx2,hx⟩
  ·have hans:Hid (siE e x=x):=by show _=_;unfold siE;rw[if_neg (by omega),if_neg (by omega),if_pos hx]
   clear k26 hx;have HU:=rule_hu x a0 c0 Z1 B1;obtain⟨p0,p1,p2,p3,pf⟩:=box4 E1;obtain⟨r0,r1,r2,r3,rf⟩:=box4 L1;obtain⟨z0,z1,z2,z3,zf⟩:=box4 Z1;clear Z1 E1 L1;go_wp2;obtain⟨wz,hwz,v0,v1,v2,v3,BZ⟩:=HU.out;rw[<-hwz];rw[HB.out] at BZ;exact bodyPost_ret (v:=exN x a0 c0) (by simp[results,Tryz.results69,go_sem,v0,v1,v2,v3,exN]) rfl ⟨a0,c0,by rw[hans.out],by rw[hans.out];exact SX,BZ⟩
  ·have hans:Hid (siE e x=x):=by show _=_;unfold siE;rw[if_neg (by omega),if_neg (by omega),if_pos hx]
   clear k26 hx;have HU:=rule_hu x a0 c0 Z1 B1;obtain⟨p0,p1,p2,p3,pf⟩:=box4 E1;obtain⟨r0,r1,r2,r3,rf⟩:=box4 L1;obtain⟨z0,z1,z2,z3,zf⟩:=box4 Z1;clear Z1 E1 L1;go_wp2;obtain⟨wz,hwz,v0,v1,v2,v3,BZ⟩:=HU.out;rw[<-hwz];rw[HB.out] at BZ;exact bodyPost_ret (v:=exN x a0 c0) (by simp[results,Tryz.results69,go_sem,v0,v1,v2,v3,exN]) rfl ⟨a0,c0,by rw[hans.out],by rw[hans.out];exact SX,BZ⟩
  ·have hans:Hid (siE e x=e):=by show _=_;unfold siE;rw[if_neg (by omega),if_neg (by omega),if_neg hx]
   clear k26 hx;have HU:=rule_hu e (some ⟨b,0,none⟩) cap Z1 B1;obtain⟨p0,p1,p2,p3,pf⟩:=box4 E1;obtain⟨r0,r1,r2,r3,rf⟩:=box4 L1;obtain⟨z0,z1,z2,z3,zf⟩:=box4 Z1;clear Z1 E1 L1;go_wp2;obtain⟨wz,hwz,v0,v1,v2,v3,BZ⟩:=HU.out;rw[<-hwz];rw[HB.out] at BZ;exact bodyPost_ret (v:=exN e (some ⟨b,0,none⟩) cap) (by simp[results,Tryz.results69,go_sem,v0,v1,v2,v3,exN]) rfl ⟨(some ⟨b,0,none⟩),cap,by rw[hans.out],by rw[hans.out];exact S,BZ⟩
theorem nuE_rest {e x y:Ex}(h:(if x.k=1/\y.k=1 then rckP e.k x.n y.n else none)=none):nuE e x y=if e.k=8/\isE x 1 0=true then y else if (e.k=8\/e.k=9)/\isE y 1 0=true then x else if e.k=10/\isE x 1 1=true then y else if (e.k=10\/e.k=11)/\isE y 1 1=true then x else e:=by
 unfold nuE;rw[h]
theorem nuE_some {e x y:Ex}{v:Int}(h:(if x.k=1/\y.k=1 then rckP e.k x.n y.n else none)=some v):nuE e x y=numE v:=by
 unfold nuE;rw[h]
theorem numbers15_c (e x y:Ex)(ao:Option Addr)(cap:Nat)(P:Nat->Prop)(w:World)(hke:8<=e.k/\e.k<=12)(hk:e.kids=Fs.ex x (Fs.ex y .nil))(hxn:x.k=1->In64 x.n)(hyn:y.k=1->In64 y.n)(S:SlcN w P e.kids ao cap) :
  Calls Tryz.prog 70 #[exN e ao cap] w (PostRu w w P (nuE e x y)):=by
 have S2:=S;rw[hk] at S2;obtain⟨b,a0,c0,hao,hb,x0,x1,x2,x3,SX⟩:=SlcN.kidM (d:=.nil) (y:=x) S2;obtain⟨b',a1,c1,hao2,-,y0,y1,y2,y3,SY⟩:=SlcN.kidM (d:=Fs.ex x .nil) (y:=y) (r:=.nil) S2;rw[hao] at hao2;injection hao2 with hao2
 injection hao2 with hao2
 subst hao2;have hl1:(1:Int)<(e.kids.len:Int):=by rw[hk];show (1:Int)<((2:Nat):Int);decide
 subst hao;have hl0:(0:Int)<(e.kids.len:Int):=by rw[hk];show (0:Int)<((2:Nat):Int);decide
 obtain⟨w0,hw0⟩:∃w0,w0=(w.alloc (.cells #[.int .i64 e.k,.int .i64 e.n,stv e.nm,.slice (some ⟨b,0,none⟩) e.kids.len cap] 34)).alloc (.cells #[.int .i64 0,.int .i64 0,.string ⟨#[]⟩,.slice none 0 0] 34):=⟨_,rfl⟩
 have B0:Below w.heap.size w w0:=by rw[hw0];exact((Below.refl _ w).alloc (Nat.le_refl _) _).alloc (by simp) _
 have E0:w0.heap[w.heap.size]?=some (.cells #[.int .i64 e.k,.int .i64 e.n,stv e.nm,.slice (some ⟨b,0,none⟩) e.kids.len cap] 34 (0,0)):=by rw[hw0];exact(Below.heap_alloc _ _ _ (by simp)).trans (heap_alloc_new w _)
 have Z0:w0.heap[w.heap.size+1]?=some (.cells #[.int .i64 0,.int .i64 0,.string ⟨#[]⟩,.slice none 0 0] 34 (0,0)):=by
  rw[hw0]
  have:=heap_alloc_new (w.alloc (.cells #[.int .i64 e.k,.int .i64 e.n,stv e.nm,.slice (some ⟨b,0,none⟩) e.kids.len cap] 34)) (.cells #[.int .i64 0,.int .i64 0,.string ⟨#[]⟩,.slice none 0 0] 34)
  simpa using this
 clear S2 hk;rw[exN_out];go_enter Tryz.func70,Tryz.ntmps70;go_upto_region 1 with fail;rw[<-hw0];obtain⟨bx,hbx⟩:∃bx,bx=w.heap.size:=⟨_,rfl⟩
 rw[<-hbx] at E0 Z0 B0 hb;try rw[<-hbx]
 have HB:Hid (bx=w.heap.size):=hbx;clear hbx hw0;have hlx:(Fs.len (.nil:Fs))=0:=rfl;rw[hlx] at x0 x1 x2 x3;have x0:=(B0.cell (p:=⟨b,0*4,none⟩) hb).trans x0;have x1:=(B0.cell (p:=⟨b,0*4+1,none⟩) hb).trans x1;have x2:=(B0.cell (p:=⟨b,0*4+2,none⟩) hb).trans x2;have x3:=(B0.cell (p:=⟨b,0*4+3,none⟩) hb).trans x3;simp only[Nat.zero_mul,Nat.zero_add,Nat.one_mul,Nat.reduceAdd] at x0 x1 x2 x3;have hly:(Fs.len (Fs.ex x .nil))=1:=rfl;rw[hly] at y0 y1 y2 y3;have y0:=(B0.cell (p:=⟨b,1*4,none⟩) hb).trans y0;have y1:=(B0.cell (p:=⟨b,1*4+1,none⟩) hb).trans y1;have y2:=(B0.cell (p:=⟨b,1*4+2,none⟩) hb).trans y2;have y3:=(B0.cell (p:=⟨b,1*4+3,none⟩) hb).trans y3;simp only[Nat.zero_mul,Nat.zero_add,Nat.one_mul,Nat.reduceAdd] at y0 y1 y2 y3;have hb0:b<w0.heap.size:=Nat.lt_trans hb (lt_of_block E0);obtain⟨p0,p1,p2,p3,pf⟩:=box4 E0;have l1:bx<w0.heap.size:=lt_of_block E0;have l2:bx<w0.heap.size+1:=Nat.lt_succ_of_lt l1;have l3:b<w0.heap.size+1:=Nat.lt_succ_of_lt hb0;go_upto_region 3 with fail;obtain⟨w1,hw1⟩:∃w1,w1=(w0.alloc (.cells #[.int .i64 x.k,.int .i64 x.n,stv x.nm,.slice a0 x.kids.len c0] 34)).alloc (.cells #[.int .i64 y.k,.int .i64 y.n,stv y.nm,.slice a1 y.kids.len c1] 34):=⟨_,rfl⟩
 obtain⟨p,hp⟩:∃p,p=w0.heap.size:=⟨_,rfl⟩
 obtain⟨q,hq⟩:∃q,q=w0.heap.size+1:=⟨_,rfl⟩
 have B1:Below bx w w1:=by rw[hw1];exact(B0.alloc (Nat.le_of_lt l1) _).alloc (by simp;omega) _
 have D1:Below w0.heap.size w0 w1:=by rw[hw1];exact((Below.refl _ w0).alloc (Nat.le_refl _) _).alloc (by simp) _
 have L1:w1.heap[p]?=some (.cells #[.int .i64 x.k,.int .i64 x.n,stv x.nm,.slice a0 x.kids.len c0] 34 (0,0)):=by
  rw[hw1,hp];exact(Below.heap_alloc _ _ _ (by simp)).trans (heap_alloc_new w0 _)
 have R1:w1.heap[q]?=some (.cells #[.int .i64 y.k,.int .i64 y.n,stv y.nm,.slice a1 y.kids.len c1] 34 (0,0)):=by
  rw[hw1,hq]
  have:=heap_alloc_new (w0.alloc (.cells #[.int .i64 x.k,.int .i64 x.n,stv x.nm,.slice a0 x.kids.len c0] 34)) (.cells #[.int .i64 y.k,.int .i64 y.n,stv y.nm,.slice a1 y.kids.len c1] 34)
  rw[show (w0.alloc (.cells #[.int .i64 x.k,.int .i64 x.n,stv x.nm,.slice a0 x.kids.len c0] 34)).heap.size=w0.heap.size+1 by simp] at this;exact this
 have E1:=(D1.block bx l1).trans E0;have Z1:=(D1.block (bx+1) (lt_of_block Z0)).trans Z0;rw[<-hw1,<-hq,<-hp];clear hw1 hp hq D1 B0 E0 Z0 l1 l2 l3 hb0 hb p0 p1 p2 p3 pf x0 x1 x2 x3 y0 y1 y2 y3;have hph:(x.k==1)=false/\x.k≠1\/((x.k==1)=true/\(y.k==1)=false/\y.k≠1)\/((x.k==1)=true/\(y.k==1)=true/\(x.k=1/\y.k=1)/\rckP e.k x.n y.n=none)\/((x.k==1)=true/\(y.k==1)=true/\(x.k=1/\y.k=1)/\∃v,rckP e.k x.n y.n=some v):=by
  by_cases h1:x.k=1
  ·by_cases h2:y.k=1
   ·cases h3:rckP e.k x.n y.n with
    | none=>exact .inr (.inr (.inl ⟨by simpa using h1,by simpa using h2,⟨h1,h2⟩,rfl⟩))
    | some v=>exact .inr (.inr (.inr ⟨by simpa using h1,by simpa using h2,⟨h1,h2⟩,v,rfl⟩))
   ·exact .inr (.inl ⟨by simpa using h1,by simpa using h2,h2⟩)
  ·exact .inl ⟨by simpa using h1,h1⟩
 rcases hph with ⟨tx,hx⟩|⟨tx,ty,hy⟩|⟨tx,ty,hxy,hr⟩|⟨tx,ty,hxy,v,hr⟩
 focus
  have HN:Hid (nuE e x y=_):=nuE_rest (by rw[if_neg (fun h=>hx h.1)]);clear hx;obtain⟨r0,r1,r2,r3,rf⟩:=box4 L1;obtain⟨s0,s1,s2,s3,sf⟩:=box4 R1;go_upto_region 7 with fail;clear r0 r1 r2 r3 rf s0 s1 s2 s3 sf
 rotate_left
 focus
  have HN:Hid (nuE e x y=_):=nuE_rest (by rw[if_neg (fun h=>hy h.2)]);clear hy;obtain⟨r0,r1,r2,r3,rf⟩:=box4 L1;obtain⟨s0,s1,s2,s3,sf⟩:=box4 R1;go_upto_region 7 with fail;clear r0 r1 r2 r3 rf s0 s1 s2 s3 sf
 rotate_left
 focus
  have HN:Hid (nuE e x y=_):=nuE_rest (by rw[if_pos hxy];exact hr);have hc:=reck_c hke (hxn hxy.1) (hyn hxy.2) w1;have hwr:∃f:Int,wrV e.k x.n y.n=.tuple #[.int .i64 0,.int .i64 f]/\(f==0)=false:=by
   unfold wrV fltP;rw[hr];simp only;split
   ·exact⟨4,rfl,rfl⟩
   ·exact⟨1,rfl,rfl⟩
  obtain⟨f,hwr,hf0⟩:=hwr;rw[hwr] at hc;obtain⟨p0,p1,p2,p3,pf⟩:=box4 E1;obtain⟨r0,r1,r2,r3,rf⟩:=box4 L1;obtain⟨s0,s1,s2,s3,sf⟩:=box4 R1;clear hr hwr hxy;go_wp2_with fail;refine hc.mono ?_;rintro u w4 ⟨rfl,rfl⟩;clear hc;go_upto_region 7 with fail;clear p0 p1 p2 p3 pf r0 r1 r2 r3 rf s0 s1 s2 s3 sf;generalize w4=w1 at *
 rotate_left
 focus
  have hans:Hid (nuE e x y=numE v):=nuE_some (by rw[if_pos hxy];exact hr);have hc:=reck_c hke (hxn hxy.1) (hyn hxy.2) w1;have hwr:wrV e.k x.n y.n=.tuple #[.int .i64 v,.int .i64 0]:=tr_wr hr;rw[hwr] at hc;obtain⟨p0,p1,p2,p3,pf⟩:=box4 E1;obtain⟨r0,r1,r2,r3,rf⟩:=box4 L1;obtain⟨s0,s1,s2,s3,sf⟩:=box4 R1;clear hr hwr hxy;go_wp2_with fail;refine hc.mono ?_;rintro u w4 ⟨rfl,rfl⟩;clear hc p0 p1 p2 p3 pf r0 r1 r2 r3 rf s0 s1 s2 s3 sf;generalize w4=w1 at *;have hc:Calls Tryz.prog _ _ _ (fun xx w'=>xx=.returned (.agg #[.int .i64 1,.int .i64 (v),.string ⟨#[]⟩,.slice none 0 0])/\Below _ _ w'):=number_c v w1;obtain⟨p0,p1,p2,p3,pf⟩:=box4 E1;obtain⟨r0,r1,r2,r3,rf⟩:=box4 L1;obtain⟨s0,s1,s2,s3,sf⟩:=box4 R1;go_wp2_with fail;refine hc.mono ?_;rintro u w9 ⟨rfl,b9⟩;have B9:Below bx w w9:=B1.trans (b9.mono (Nat.le_of_lt (lt_of_block E1)));have Z1:=(b9.block _ (lt_of_block Z1)).trans Z1;have HU:=rule_hc 1 (v) Z1 B9;obtain⟨z0,z1,z2,z3,zf⟩:=box4 Z1;clear hc b9 Z1 E1 L1 R1 B9 p0 p1 p2 p3 pf r0 r1 r2 r3 rf s0 s1 s2 s3 sf;go_wp2;obtain⟨wz,hwz,v0,v1,v2,v3,BZ⟩:=HU.out;rw[<-hwz];rw[HB.out] at BZ;exact bodyPost_ret (v:=.agg #[.int .i64 1,.int .i64 (v),.string ⟨#[]⟩,.slice none 0 0]) (by simp[results,Tryz.results70,go_sem,v0,v1,v2,v3]) rfl ⟨none,0,by rw[hans.out];rfl,by rw[hans.out];exact SlcN.nil _ _,BZ⟩
 all_goals (
  have hkk:e.k=8\/e.k=9\/e.k=10\/e.k=11\/e.k=12:=by omega
  clear hke;generalize w1=w3 at *;have B3:=B1;clear B1;rcases hkk with k8|k9|k10|k11|k12
  focus
   have t8:(e.k==8)=true:=by simp;omega
   have t9:(e.k==9)=false:=by simp;omega
   have t10:(e.k==10)=false:=by simp;omega
   have t11:(e.k==11)=false:=by simp;omega
   have hc:=isr_c x a0 c0 1 0 w3;try rw[exN_out] at hc
   obtain⟨p0,p1,p2,p3,pf⟩:=box4 E1;obtain⟨r0,r1,r2,r3,rf⟩:=box4 L1;obtain⟨s0,s1,s2,s3,sf⟩:=box4 R1;go_wp2_with fail;refine hc.mono ?_;rintro u w4 ⟨rfl,b4⟩;obtain⟨B4,E1,L1,R1,Z1⟩:=bxs B3 b4 E1 L1 R1 Z1;clear hc b4 p0 p1 p2 p3 pf r0 r1 r2 r3 rf s0 s1 s2 s3 sf B3;cases hx0:isE x 1 0 with
   | true =>
    have hans:Hid (nuE e x y=y):=by show _=_;rw[HN.out];simp[k8,hx0]
    clear k8 hx0 HN;have HU:=rule_hu y a1 c1 Z1 B4;obtain⟨p0,p1,p2,p3,pf⟩:=box4 E1;obtain⟨r0,r1,r2,r3,rf⟩:=box4 L1;obtain⟨s0,s1,s2,s3,sf⟩:=box4 R1;obtain⟨z0,z1,z2,z3,zf⟩:=box4 Z1;clear Z1 E1 L1 R1;go_wp2;obtain⟨wz,hwz,v0,v1,v2,v3,BZ⟩:=HU.out;rw[<-hwz];rw[HB.out] at BZ;exact bodyPost_ret (v:=exN y a1 c1) (by simp[results,Tryz.results70,go_sem,v0,v1,v2,v3,exN]) rfl ⟨a1,c1,by rw[hans.out],by rw[hans.out];exact SY,BZ⟩
   | false =>
    have hc:=isr_c y a1 c1 1 0 w4;try rw[exN_out] at hc
    obtain⟨p0,p1,p2,p3,pf⟩:=box4 E1;obtain⟨r0,r1,r2,r3,rf⟩:=box4 L1;obtain⟨s0,s1,s2,s3,sf⟩:=box4 R1;go_wp2_with fail;refine hc.mono ?_;rintro u w5 ⟨rfl,b5⟩;obtain⟨B5,E1,L1,R1,Z1⟩:=bxs B4 b5 E1 L1 R1 Z1;clear hc b5 p0 p1 p2 p3 pf r0 r1 r2 r3 rf s0 s1 s2 s3 sf B4;cases hy0:isE y 1 0 with
    | true =>
     have hans:Hid (nuE e x y=x):=by show _=_;rw[HN.out];simp[k8,hx0,hy0]
     clear k8 hx0 hy0 HN;have HU:=rule_hu x a0 c0 Z1 B5;obtain⟨p0,p1,p2,p3,pf⟩:=box4 E1;obtain⟨r0,r1,r2,r3,rf⟩:=box4 L1;obtain⟨s0,s1,s2,s3,sf⟩:=box4 R1;obtain⟨z0,z1,z2,z3,zf⟩:=box4 Z1;clear Z1 E1 L1 R1;go_wp2;obtain⟨wz,hwz,v0,v1,v2,v3,BZ⟩:=HU.out;rw[<-hwz];rw[HB.out] at BZ;exact bodyPost_ret (v:=exN x a0 c0) (by simp[results,Tryz.results70,go_sem,v0,v1,v2,v3,exN]) rfl ⟨a0,c0,by rw[hans.out],by rw[hans.out];exact SX,BZ⟩
    | false =>
     have hans:Hid (nuE e x y=e):=by show _=_;rw[HN.out];simp[k8,hx0,hy0]
     clear k8 hx0 hy0 HN;have HU:=rule_hu e (some ⟨b,0,none⟩) cap Z1 B5;obtain⟨p0,p1,p2,p3,pf⟩:=box4 E1;obtain⟨r0,r1,r2,r3,rf⟩:=box4 L1;obtain⟨s0,s1,s2,s3,sf⟩:=box4 R1;obtain⟨z0,z1,z2,z3,zf⟩:=box4 Z1;clear Z1 E1 L1 R1;go_wp2;obtain⟨wz,hwz,v0,v1,v2,v3,BZ⟩:=HU.out;rw[<-hwz];rw[HB.out] at BZ;exact bodyPost_ret (v:=exN e (some ⟨b,0,none⟩) cap) (by simp[results,Tryz.results70,go_sem,v0,v1,v2,v3,exN]) rfl ⟨(some ⟨b,0,none⟩),cap,by rw[hans.out],by rw[hans.out];exact S,BZ⟩
  focus
   have t8:(e.k==8)=false:=by simp;omega
   have t9:(e.k==9)=true:=by simp;omega
   have t10:(e.k==10)=false:=by simp;omega
   have t11:(e.k==11)=false:=by simp;omega
   have hc:=isr_c y a1 c1 1 0 w3;try rw[exN_out] at hc
   obtain⟨p0,p1,p2,p3,pf⟩:=box4 E1;obtain⟨r0,r1,r2,r3,rf⟩:=box4 L1;obtain⟨s0,s1,s2,s3,sf⟩:=box4 R1;go_wp2_with fail;refine hc.mono ?_;rintro u w4 ⟨rfl,b4⟩;obtain⟨B4,E1,L1,R1,Z1⟩:=bxs B3 b4 E1 L1 R1 Z1;clear hc b4 p0 p1 p2 p3 pf r0 r1 r2 r3 rf s0 s1 s2 s3 sf B3;cases hy0:isE y 1 0 with
   | true =>
    have hans:Hid (nuE e x y=x):=by show _=_;rw[HN.out];simp[k9,hy0]
    clear k9 hy0 HN;have HU:=rule_hu x a0 c0 Z1 B4;obtain⟨p0,p1,p2,p3,pf⟩:=box4 E1;obtain⟨r0,r1,r2,r3,rf⟩:=box4 L1;obtain⟨s0,s1,s2,s3,sf⟩:=box4 R1;obtain⟨z0,z1,z2,z3,zf⟩:=box4 Z1;clear Z1 E1 L1 R1;go_wp2;obtain⟨wz,hwz,v0,v1,v2,v3,BZ⟩:=HU.out;rw[<-hwz];rw[HB.out] at BZ;exact bodyPost_ret (v:=exN x a0 c0) (by simp[results,Tryz.results70,go_sem,v0,v1,v2,v3,exN]) rfl ⟨a0,c0,by rw[hans.out],by rw[hans.out];exact SX,BZ⟩
   | false =>
    have hans:Hid (nuE e x y=e):=by show _=_;rw[HN.out];simp[k9,hy0]
    clear k9 hy0 HN;have HU:=rule_hu e (some ⟨b,0,none⟩) cap Z1 B4;obtain⟨p0,p1,p2,p3,pf⟩:=box4 E1;obtain⟨r0,r1,r2,r3,rf⟩:=box4 L1;obtain⟨s0,s1,s2,s3,sf⟩:=box4 R1;obtain⟨z0,z1,z2,z3,zf⟩:=box4 Z1;clear Z1 E1 L1 R1;go_wp2;obtain⟨wz,hwz,v0,v1,v2,v3,BZ⟩:=HU.out;rw[<-hwz];rw[HB.out] at BZ;exact bodyPost_ret (v:=exN e (some ⟨b,0,none⟩) cap) (by simp[results,Tryz.results70,go_sem,v0,v1,v2,v3,exN]) rfl ⟨(some ⟨b,0,none⟩),cap,by rw[hans.out],by rw[hans.out];exact S,BZ⟩
  focus
   have t8:(e.k==8)=false:=by simp;omega
   have t9:(e.k==9)=false:=by simp;omega
   have t10:(e.k==10)=true:=by simp;omega
   have t11:(e.k==11)=false:=by simp;omega
   have hc:=isr_c x a0 c0 1 1 w3;try rw[exN_out] at hc
   obtain⟨p0,p1,p2,p3,pf⟩:=box4 E1;obtain⟨r0,r1,r2,r3,rf⟩:=box4 L1;obtain⟨s0,s1,s2,s3,sf⟩:=box4 R1;go_wp2_with fail;refine hc.mono ?_;rintro u w4 ⟨rfl,b4⟩;obtain⟨B4,E1,L1,R1,Z1⟩:=bxs B3 b4 E1 L1 R1 Z1;clear hc b4 p0 p1 p2 p3 pf r0 r1 r2 r3 rf s0 s1 s2 s3 sf B3;cases hx0:isE x 1 1 with
   | true =>
    have hans:Hid (nuE e x y=y):=by show _=_;rw[HN.out];simp[k10,hx0]
    clear k10 hx0 HN;have HU:=rule_hu y a1 c1 Z1 B4;obtain⟨p0,p1,p2,p3,pf⟩:=box4 E1;obtain⟨r0,r1,r2,r3,rf⟩:=box4 L1;obtain⟨s0,s1,s2,s3,sf⟩:=box4 R1;obtain⟨z0,z1,z2,z3,zf⟩:=box4 Z1;clear Z1 E1 L1 R1;go_wp2;obtain⟨wz,hwz,v0,v1,v2,v3,BZ⟩:=HU.out;rw[<-hwz];rw[HB.out] at BZ;exact bodyPost_ret (v:=exN y a1 c1) (by simp[results,Tryz.results70,go_sem,v0,v1,v2,v3,exN]) rfl ⟨a1,c1,by rw[hans.out],by rw[hans.out];exact SY,BZ⟩
   | false =>
    have hc:=isr_c y a1 c1 1 1 w4;try rw[exN_out] at hc
    obtain⟨p0,p1,p2,p3,pf⟩:=box4 E1;obtain⟨r0,r1,r2,r3,rf⟩:=box4 L1;obtain⟨s0,s1,s2,s3,sf⟩:=box4 R1;go_wp2_with fail;refine hc.mono ?_;rintro u w5 ⟨rfl,b5⟩;obtain⟨B5,E1,L1,R1,Z1⟩:=bxs B4 b5 E1 L1 R1 Z1;clear hc b5 p0 p1 p2 p3 pf r0 r1 r2 r3 rf s0 s1 s2 s3 sf B4;cases hy0:isE y 1 1 with
    | true =>
     have hans:Hid (nuE e x y=x):=by show _=_;rw[HN.out];simp[k10,hx0,hy0]
     clear k10 hx0 hy0 HN;have HU:=rule_hu x a0 c0 Z1 B5;obtain⟨p0,p1,p2,p3,pf⟩:=box4 E1;obtain⟨r0,r1,r2,r3,rf⟩:=box4 L1;obtain⟨s0,s1,s2,s3,sf⟩:=box4 R1;obtain⟨z0,z1,z2,z3,zf⟩:=box4 Z1;clear Z1 E1 L1 R1;go_wp2;obtain⟨wz,hwz,v0,v1,v2,v3,BZ⟩:=HU.out;rw[<-hwz];rw[HB.out] at BZ;exact bodyPost_ret (v:=exN x a0 c0) (by simp[results,Tryz.results70,go_sem,v0,v1,v2,v3,exN]) rfl ⟨a0,c0,by rw[hans.out],by rw[hans.out];exact SX,BZ⟩
    | false =>
     have hans:Hid (nuE e x y=e):=by show _=_;rw[HN.out];simp[k10,hx0,hy0]
     clear k10 hx0 hy0 HN;have HU:=rule_hu e (some ⟨b,0,none⟩) cap Z1 B5;obtain⟨p0,p1,p2,p3,pf⟩:=box4 E1;obtain⟨r0,r1,r2,r3,rf⟩:=box4 L1;obtain⟨s0,s1,s2,s3,sf⟩:=box4 R1;obtain⟨z0,z1,z2,z3,zf⟩:=box4 Z1;clear Z1 E1 L1 R1;go_wp2;obtain⟨wz,hwz,v0,v1,v2,v3,BZ⟩:=HU.out;rw[<-hwz];rw[HB.out] at BZ;exact bodyPost_ret (v:=exN e (some ⟨b,0,none⟩) cap) (by simp[results,Tryz.results70,go_sem,v0,v1,v2,v3,exN]) rfl ⟨(some ⟨b,0,none⟩),cap,by rw[hans.out],by rw[hans.out];exact S,BZ⟩
  focus
   have t8:(e.k==8)=false:=by simp;omega
   have t9:(e.k==9)=false:=by simp;omega
   have t10:(e.k==10)=false:=by simp;omega
   have t11:(e.k==11)=true:=by simp;omega
   have hc:=isr_c y a1 c1 1 1 w3;try rw[exN_out] at hc
   obtain⟨p0,p1,p2,p3,pf⟩:=box4 E1;obtain⟨r0,r1,r2,r3,rf⟩:=box4 L1;obtain⟨s0,s1,s2,s3,sf⟩:=box4 R1;go_wp2_with fail;refine hc.mono ?_;rintro u w4 ⟨rfl,b4⟩;obtain⟨B4,E1,L1,R1,Z1⟩:=bxs B3 b4 E1 L1 R1 Z1;clear hc b4 p0 p1 p2 p3 pf r0 r1 r2 r3 rf s0 s1 s2 s3 sf B3;cases hy0:isE y 1 1 with
   | true =>
    have hans:Hid (nuE e x y=x):=by show _=_;rw[HN.out];simp[k11,hy0]
    clear k11 hy0 HN;have HU:=rule_hu x a0 c0 Z1 B4;obtain⟨p0,p1,p2,p3,pf⟩:=box4 E1;obtain⟨r0,r1,r2,r3,rf⟩:=box4 L1;obtain⟨s0,s1,s2,s3,sf⟩:=box4 R1;obtain⟨z0,z1,z2,z3,zf⟩:=box4 Z1;clear Z1 E1 L1 R1;go_wp2;obtain⟨wz,hwz,v0,v1,v2,v3,BZ⟩:=HU.out;rw[<-hwz];rw[HB.out] at BZ;exact bodyPost_ret (v:=exN x a0 c0) (by simp[results,Tryz.results70,go_sem,v0,v1,v2,v3,exN]) rfl ⟨a0,c0,by rw[hans.out],by rw[hans.out];exact SX,BZ⟩
   | false =>
    have hans:Hid (nuE e x y=e):=by show _=_;rw[HN.out];simp[k11,hy0]
    clear k11 hy0 HN;have HU:=rule_hu e (some ⟨b,0,none⟩) cap Z1 B4;obtain⟨p0,p1,p2,p3,pf⟩:=box4 E1;obtain⟨r0,r1,r2,r3,rf⟩:=box4 L1;obtain⟨s0,s1,s2,s3,sf⟩:=box4 R1;obtain⟨z0,z1,z2,z3,zf⟩:=box4 Z1;clear Z1 E1 L1 R1;go_wp2;obtain⟨wz,hwz,v0,v1,v2,v3,BZ⟩:=HU.out;rw[<-hwz];rw[HB.out] at BZ;exact bodyPost_ret (v:=exN e (some ⟨b,0,none⟩) cap) (by simp[results,Tryz.results70,go_sem,v0,v1,v2,v3,exN]) rfl ⟨(some ⟨b,0,none⟩),cap,by rw[hans.out],by rw[hans.out];exact S,BZ⟩
  focus
   have t8:(e.k==8)=false:=by simp;omega
   have t9:(e.k==9)=false:=by simp;omega
   have t10:(e.k==10)=false:=by simp;omega
   have t11:(e.k==11)=false:=by simp;omega
   have hans:Hid (nuE e x y=e):=by show _=_;rw[HN.out,if_neg (by omega),if_neg (by omega),if_neg (by omega),if_neg (by omega)]
   clear k12;have HU:=rule_hu e (some ⟨b,0,none⟩) cap Z1 B3;obtain⟨p0,p1,p2,p3,pf⟩:=box4 E1;obtain⟨r0,r1,r2,r3,rf⟩:=box4 L1;obtain⟨s0,s1,s2,s3,sf⟩:=box4 R1;obtain⟨z0,z1,z2,z3,zf⟩:=box4 Z1;clear Z1 E1 L1 R1;go_wp2;obtain⟨wz,hwz,v0,v1,v2,v3,BZ⟩:=HU.out;rw[<-hwz];rw[HB.out] at BZ;exact bodyPost_ret (v:=exN e (some ⟨b,0,none⟩) cap) (by simp[results,Tryz.results70,go_sem,v0,v1,v2,v3,exN]) rfl ⟨(some ⟨b,0,none⟩),cap,by rw[hans.out],by rw[hans.out];exact S,BZ⟩)
end Go.Proofs.YtaihhnlfcndecaaGreatDoor

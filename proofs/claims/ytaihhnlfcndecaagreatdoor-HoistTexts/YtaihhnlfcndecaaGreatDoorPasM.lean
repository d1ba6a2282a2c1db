import Derived.Test.YtaihhnlfcndecaaGreatDoorRdqT
import Derived.Lib.AtoiAllCases
namespace Go.Proofs.YtaihhnlfcndecaaGreatDoor
set_option linter.unusedVariables false
set_option linter.unusedSimpArgs false
def tkG (x:Tk):Prop:=-9223372036854775808≤x.n∧x.n≤9223372036854775807∧x.t.length≤2000∧x.a≤2000
def Fs.gd:Fs→Prop
 | ⟨none⟩=>True
 | ⟨some ⟨_,n,nm,a,ks,r⟩⟩=>-9223372036854775808≤n∧n≤9223372036854775807∧nm.length≤2000∧0≤a∧a≤2000∧ks.gd∧r.gd
theorem Fs.gd_app:∀ {x y:Fs},x.gd→y.gd→(x.app y).gd
 | ⟨none⟩,y,h,k=>k
 | ⟨some ⟨_,_,_,_,_,r⟩⟩,y,h,k=>⟨h.1,h.2.1,h.2.2.1,h.2.2.2.1,h.2.2.2.2.1,h.2.2.2.2.2.1,Fs.gd_app h.2.2.2.2.2.2 k⟩
def Ex.gd (e:Ex):Prop:=(one e).gd
def Ex.sz (e:Ex):Nat:=(one e).size
theorem Ex.gd_mk {k n:Int} {nm:List UInt8} {a:Nat} {ks:Fs} (h1:-9223372036854775808≤n) (h2:n≤9223372036854775807) (h3:nm.length≤2000) (h4:a≤2000) (h5:ks.gd):(⟨k,n,nm,(a:Nat),ks⟩:Ex).gd:=⟨h1,h2,h3,by show (0:Int)≤(a:Nat);omega,by show ((a:Nat):Int)≤2000;omega,h5,trivial⟩
theorem Ex.sz_mk (k n:Int) (nm:List UInt8) (a:Int) (ks:Fs):(⟨k,n,nm,a,ks⟩:Ex).sz=ks.size+1:=rfl
theorem gd_snoc {x:Fs} {e:Ex} (h:x.gd) (k:e.gd):(x.snoc e).gd:=Fs.gd_app h k
theorem sz_snoc (x:Fs) (e:Ex):(x.snoc e).size=x.size+e.sz:=Fs.size_app x (one e)
def Gb {α:Type} (T:List Tk) (b:Nat) (P:α→Prop) (sz:α→Nat) (R:Rs α):Prop:=∀ x t,R=.ok x t→t <:+ T∧P x∧sz x+t.length≤b
section
variable {T:List Tk}
theorem Gb.bind {α β:Type} {b1 b:Nat} {P:α→Prop} {sz:α→Nat} {Q:β→Prop} {sq:β→Nat} {R:Rs α} {f:α→List Tk→Rs β} (h:Gb T b1 P sz R) (hf:∀ x t,t <:+ T→P x→sz x+t.length≤b1→Gb T b Q sq (f x t)):Gb T b Q sq (R.bind f):=by
 cases R using Rs.on with
 | out=>intro x t e;cases e
 | bad e a=>intro x t e;cases e
 | ok x t =>
  obtain ⟨h1,h2,h3⟩:=h x t rfl
  exact hf x t h1 h2 h3
theorem Gb.bad {α:Type} {b e a:Nat} {P:α→Prop} {sz:α→Nat}:Gb T b P sz (.bad e a:Rs α):=fun x t h=>by cases h
theorem Gb.out {α:Type} {b:Nat} {P:α→Prop} {sz:α→Nat}:Gb T b P sz (.out:Rs α):=fun x t h=>by cases h
theorem Gb.ok {α:Type} {b:Nat} {P:α→Prop} {sz:α→Nat} {x:α} {t:List Tk} (h:t <:+ T) (hp:P x) (hs:sz x+t.length≤b):Gb T b P sz (.ok x t):=fun y u e=>by
 obtain ⟨e1,e2⟩:=Rs.ok_inj e
 subst e1 e2
 exact ⟨h,hp,hs⟩
theorem gb_pass (HT:∀ y,y ∈ T→tkG y) (s:List UInt8) {ts:List Tk} (h:ts <:+ T):Gb T ts.length (fun a=>a≤2000) (fun _=>1) (passT s ts):=by
 cases ts with
 | nil=>exact Gb.out
 | cons x r =>
  simp only [passT]
  split
  ·exact Gb.ok ((List.suffix_cons x r).trans h) (HT x (h.mem (by simp))).2.2.2 (by simp;omega)
  ·exact Gb.bad
theorem gb_kind (HT:∀ y,y ∈ T→tkG y) (k:Nat) {ts:List Tk} (h:ts <:+ T):Gb T ts.length tkG (fun _=>1) (passK k ts):=by
 cases ts with
 | nil=>exact Gb.out
 | cons x r =>
  simp only [passK]
  split
  ·exact Gb.ok ((List.suffix_cons x r).trans h) (HT x (h.mem (by simp))) (by simp;omega)
  ·exact Gb.bad
theorem gb_enter (HT:∀ y,y ∈ T→tkG y) (s:List UInt8) (o:Nat) {ts:List Tk} (h:ts <:+ T):Gb T ts.length (fun a=>a≤2000) (fun _=>1) (enterT s o ts):=by
 cases ts with
 | nil=>exact Gb.out
 | cons x r =>
  simp only [enterT]
  split
  ·split
   ·exact Gb.bad
   ·exact Gb.ok ((List.suffix_cons x r).trans h) (HT x (h.mem (by simp))).2.2.2 (by simp;omega)
  ·exact Gb.bad
variable {rec:Rdr}
theorem gb_argsL (HT:∀ y,y ∈ T→tkG y) (H:∀ row o q ts,ts <:+ T→Gb T ts.length Ex.gd Ex.sz (rec row o q ts)):∀ (j:Nat) (o q:Nat) (acc:Fs) (ts:List Tk) (b:Nat),ts <:+ T→acc.gd→acc.size+ts.length≤b→Gb T b Fs.gd Fs.size (argsL rec j o q acc ts)
 | 0,o,q,acc,ts,b,h,hg,hb=>Gb.ok h hg hb
 | j+1,o,q,acc,ts,b,h,hg,hb=>by
  unfold argsL
  refine (gb_pass HT _ h).bind fun _ t1 h1 _ l1=>(H _ _ _ _ h1).bind fun e t2 h2 p2 l2=>?_
  exact gb_argsL HT H j o q _ t2 b h2 (gd_snoc hg p2) (by rw [sz_snoc];omega)
theorem gb_args (HT:∀ y,y ∈ T→tkG y) (H:∀ row o q ts,ts <:+ T→Gb T ts.length Ex.gd Ex.sz (rec row o q ts)) (many o q:Nat) {ts:List Tk} (h:ts <:+ T):Gb T (ts.length - 1) Fs.gd Fs.size (argsR rec many o q ts):=by
 unfold argsR
 refine (gb_enter HT _ _ h).bind fun _ t1 h1 _ l1=>(H _ _ _ _ h1).bind fun e t2 h2 p2 l2=>?_
 refine (gb_argsL HT H _ _ _ _ t2 t1.length h2 p2 l2).bind fun ks t3 h3 p3 l3=>?_
 exact (gb_pass HT _ h3).bind fun _ t4 h4 _ l4=>Gb.ok h4 p3 (by omega)
theorem gb_choice (HT:∀ y,y ∈ T→tkG y) (H:∀ row o q ts,ts <:+ T→Gb T ts.length Ex.gd Ex.sz (rec row o q ts)) (o q:Nat) {ts:List Tk} (h:ts <:+ T):Gb T ts.length Ex.gd Ex.sz (choiceR rec o q ts):=by
 unfold choiceR
 refine (gb_enter HT _ _ h).bind fun a t1 h1 p1 l1=>(H _ _ _ _ h1).bind fun x t2 h2 p2 l2=>?_
 refine (gb_pass HT _ h2).bind fun _ t3 h3 _ l3=>(H _ _ _ _ h3).bind fun y t4 h4 p4 l4=>?_
 refine (gb_pass HT _ h4).bind fun _ t5 h5 _ l5=>(H _ _ _ _ h5).bind fun z t6 h6 p6 l6=>?_
 refine Gb.ok h6 (Ex.gd_mk (by omega) (by omega) (by simp) p1 (gd_snoc (gd_snoc p2 p4) p6)) ?_
 rw [Ex.sz_mk,sz_snoc,sz_snoc]
 show x.sz+y.sz+z.sz+1+_≤_
 omega
theorem gb_memL (HT:∀ y,y ∈ T→tkG y) (H:∀ row o q ts,ts <:+ T→Gb T ts.length Ex.gd Ex.sz (rec row o q ts)):∀ (m:Nat) (o q:Nat) (acc:Fs) (ts:List Tk) (b:Nat),ts <:+ T→acc.gd→acc.size+ts.length≤b→Gb T b Fs.gd Fs.size (memL rec m o q acc ts)
 | 0,o,q,acc,ts,b,h,hg,hb=>Gb.out
 | m+1,o,q,acc,[],b,h,hg,hb=>Gb.out
 | m+1,o,q,acc,x :: r,b,h,hg,hb=>by
  have _:=HT
  unfold memL
  simp only
  split
  ·simp only [List.length_cons] at hb
   refine (H _ _ _ _ ((List.suffix_cons x r).trans h)).bind fun e t2 h2 p2 l2=>?_
   exact gb_memL HT H m o q _ t2 b h2 (gd_snoc hg p2) (by rw [sz_snoc];omega)
  ·exact Gb.ok h hg hb
theorem gb_mem (HT:∀ y,y ∈ T→tkG y) (H:∀ row o q ts,ts <:+ T→Gb T ts.length Ex.gd Ex.sz (rec row o q ts)) (m o q:Nat) {ts:List Tk} (h:ts <:+ T):Gb T ts.length Fs.gd Fs.size (memR rec m o q ts):=by
 cases ts with
 | nil=>exact Gb.out
 | cons x r =>
  unfold memR
  simp only
  split
  ·exact Gb.ok h trivial (by simp [Fs.size])
  ·exact (H _ _ _ _ h).bind fun e t1 h1 p1 l1=>gb_memL HT H m o q _ t1 _ h1 p1 l1
theorem gb_set (HT:∀ y,y ∈ T→tkG y) (H:∀ row o q ts,ts <:+ T→Gb T ts.length Ex.gd Ex.sz (rec row o q ts)) (m o q:Nat) {ts:List Tk} (h:ts <:+ T):Gb T ts.length Ex.gd Ex.sz (setR rec m o q ts):=by
 cases ts with
 | nil=>exact Gb.out
 | cons x r =>
  have hx:=HT x (h.mem (by simp))
  have hr:r <:+ T:=(List.suffix_cons x r).trans h
  unfold setR
  simp only
  split
  ·exact Gb.ok hr (Ex.gd_mk (by omega) (by omega) hx.2.2.1 hx.2.2.2 trivial) (by rw [Ex.sz_mk];simp [Fs.size];omega)
  ·split
   ·exact Gb.ok hr (Ex.gd_mk (by omega) (by omega) (by simp) hx.2.2.2 trivial) (by rw [Ex.sz_mk];simp [Fs.size];omega)
   ·split
    ·exact (gb_args HT H 1 o q hr).bind fun ks t h1 p1 l1=>Gb.ok h1 (Ex.gd_mk (by omega) (by omega) (by simp) hx.2.2.2 p1) (by rw [Ex.sz_mk];simp;omega)
    ·refine (gb_enter HT _ _ h).bind fun a t1 h1 p1 l1=>(gb_mem HT H m _ q h1).bind fun ks t2 h2 p2 l2=>(gb_pass HT _ h2).bind fun _ t3 h3 _ l3=>?_
     exact Gb.ok h3 (Ex.gd_mk (by omega) (by omega) (by simp) p1 p2) (by rw [Ex.sz_mk];omega)
theorem gb_quant (HT:∀ y,y ∈ T→tkG y) (H:∀ row o q ts,ts <:+ T→Gb T ts.length Ex.gd Ex.sz (rec row o q ts)) (m:Nat) (s:List UInt8) (k o q:Nat) (hk:k≤100) {ts:List Tk} (h:ts <:+ T):Gb T ts.length Ex.gd Ex.sz (quantR rec m s k o q ts):=by
 cases ts with
 | nil=>exact Gb.out
 | cons x r =>
  unfold quantR
  simp only
  split
  ·exact Gb.bad
  ·refine (gb_enter HT _ _ h).bind fun a t1 h1 p1 l1=>(gb_kind HT _ h1).bind fun y t2 h2 p2 l2=>(gb_pass HT _ h2).bind fun _ t3 h3 _ l3=>?_
   refine (gb_set HT H m _ _ h3).bind fun e t4 h4 p4 l4=>(gb_pass HT _ h4).bind fun _ t5 h5 _ l5=>(H _ _ _ _ h5).bind fun b t6 h6 p6 l6=>?_
   refine Gb.ok h6 (Ex.gd_mk (by omega) (by omega) p2.2.2.1 p1 (gd_snoc p4 p6)) ?_
   rw [Ex.sz_mk,sz_snoc]
   show e.sz+b.sz+1+_≤_
   omega
theorem gb_atom (HT:∀ y,y ∈ T→tkG y) (H:∀ row o q ts,ts <:+ T→Gb T ts.length Ex.gd Ex.sz (rec row o q ts)) (m o q:Nat) {ts:List Tk} (h:ts <:+ T):Gb T ts.length Ex.gd Ex.sz (atomR rec m o q ts):=by
 cases ts with
 | nil=>exact Gb.out
 | cons x r =>
  have hx:=HT x (h.mem (by simp))
  have hr:r <:+ T:=(List.suffix_cons x r).trans h
  unfold atomR
  simp only
  split
  ·exact Gb.ok hr (Ex.gd_mk hx.1 hx.2.1 (by simp) hx.2.2.2 trivial) (by rw [Ex.sz_mk];simp [Fs.size];omega)
  ·split
   ·exact Gb.ok hr (Ex.gd_mk (by omega) (by omega) hx.2.2.1 hx.2.2.2 trivial) (by rw [Ex.sz_mk];simp [Fs.size];omega)
   ·split
    ·exact Gb.ok hr (Ex.gd_mk (by omega) (by omega) (by simp) hx.2.2.2 trivial) (by rw [Ex.sz_mk];simp [Fs.size];omega)
    ·split
     ·exact Gb.ok hr (Ex.gd_mk (by omega) (by omega) (by simp) hx.2.2.2 trivial) (by rw [Ex.sz_mk];simp [Fs.size];omega)
     ·split
      ·exact (gb_kind HT _ hr).bind fun y t h1 p1 l1=>Gb.ok h1 (Ex.gd_mk p1.1 p1.2.1 (by simp) hx.2.2.2 trivial) (by rw [Ex.sz_mk];simp [Fs.size];omega)
      ·split
       ·rw [par_args]
        unfold parR
        exact (gb_enter HT _ _ h).bind fun _ t1 h1 _ l1=>(H _ _ _ _ h1).bind fun e t2 h2 p2 l2=>(gb_pass HT _ h2).bind fun _ t4 h4 _ l4=>Gb.ok h4 p2 (by omega)
       ·split
        ·exact gb_choice HT H o q h
        ·split
         ·rename_i hc
          have hz:=List.mem_of_find?_eq_some hc
          have hz2:∀ z ∈ callsL,z.2.1≤100:=by decide
          have hz3:=hz2 _ hz
          simp only at hz3
          exact (gb_args HT H _ o q hr).bind fun ks t h1 p1 l1=>Gb.ok h1 (Ex.gd_mk (by omega) (by omega) (by simp) hx.2.2.2 p1) (by rw [Ex.sz_mk];simp;omega)
         ·split
          ·rename_i hc
           have hz:=List.mem_of_find?_eq_some hc
           have hz2:∀ z ∈ quantsL,z.2≤100:=by decide
           have hz3:=hz2 _ hz
           simp only at hz3
           exact gb_quant HT H m _ _ o q hz3 h
          ·exact Gb.bad
theorem gb_pref (HT:∀ y,y ∈ T→tkG y) (H:∀ row o q ts,ts <:+ T→Gb T ts.length Ex.gd Ex.sz (rec row o q ts)) (s:List UInt8) (k:Int) (row o q:Nat) {ts:List Tk} (h:ts <:+ T):Gb T ts.length Ex.gd Ex.sz (prefR rec s k row o q ts):=by
 cases ts with
 | nil=>exact Gb.out
 | cons x r =>
  have hx:=HT x (h.mem (by simp))
  have hr:r <:+ T:=(List.suffix_cons x r).trans h
  unfold prefR
  simp only
  split
  ·split
   ·exact Gb.bad
   ·refine (H _ _ _ _ hr).bind fun e t2 h2 p2 l2=>Gb.ok h2 (Ex.gd_mk (by omega) (by omega) (by simp) hx.2.2.2 p2) ?_
    rw [Ex.sz_mk]
    show e.sz+1+_≤_
    simp only [List.length_cons]
    omega
  ·exact H _ _ _ _ h
theorem gb_chainL (HT:∀ y,y ∈ T→tkG y) (H:∀ row o q ts,ts <:+ T→Gb T ts.length Ex.gd Ex.sz (rec row o q ts)):∀ (m row o q:Nat) (left:Ex) (ts:List Tk) (b:Nat),ts <:+ T→left.gd→left.sz+ts.length≤b→Gb T b Ex.gd Ex.sz (chainL rec m row o q left ts)
 | 0,row,o,q,left,ts,b,h,hg,hb=>Gb.out
 | m+1,row,o,q,left,[],b,h,hg,hb=>Gb.out
 | m+1,row,o,q,left,x :: r,b,h,hg,hb=>by
  have hx:=HT x (h.mem (by simp))
  have hr:r <:+ T:=(List.suffix_cons x r).trans h
  unfold chainL
  simp only
  split
  ·exact Gb.ok h hg hb
  ·refine (H _ _ _ _ hr).bind fun e t2 h2 p2 l2=>?_
   simp only [List.length_cons] at hb
   have hgd:∀ (z:Int),(⟨z,0,[],(x.a:Nat),(one left).snoc e⟩:Ex).gd:=fun z=>Ex.gd_mk (by omega) (by omega) (by simp) hx.2.2.2 (gd_snoc hg p2)
   have hsz:∀ (z:Int),(⟨z,0,[],(x.a:Nat),(one left).snoc e⟩:Ex).sz+t2.length≤b:=fun z=>by
    rw [Ex.sz_mk,sz_snoc]
    show left.sz+e.sz+1+_≤_
    omega
   split
   ·exact Gb.ok h2 (hgd _) (hsz _)
   ·exact gb_chainL HT H m row o q _ t2 b h2 (hgd _) (hsz _)
end
theorem gb_part {T:List Tk} (HT:∀ y,y ∈ T→tkG y):∀ (n row o q:Nat) (ts:List Tk),ts <:+ T→Gb T ts.length Ex.gd Ex.sz (partF n row o q ts)
 | 0,row,o,q,ts,h=>Gb.out
 | n+1,row,o,q,ts,h=>by
  have H:=gb_part HT n
  unfold partF
  split
  ·exact gb_pref HT H _ _ _ _ _ h
  ·split
   ·exact gb_pref HT H _ _ _ _ _ h
   ·split
    ·exact gb_atom HT H n o q h
    ·exact (H _ _ _ _ h).bind fun l t h1 p1 l1=>gb_chainL HT H n row o q l t _ h1 p1 l1
theorem ptok_good {k:Nat} {t:List UInt8} {a:Nat} {x:Tk} (h:ptok k t a=.inr x):-9223372036854775808≤x.n∧x.n≤9223372036854775807∧x.t.length≤t.length:=by
 unfold ptok at h
 split at h
 ·unfold wrdT at h
  repeat' split at h
  all_goals first | (injection h with h;subst h;exact ⟨by simp,by simp,Nat.le_refl _⟩) | cases h
 ·unfold numT at h
  cases hv:Lib.atoiAll t with
  | ok v =>
   rw [hv] at h
   have hb:=Go.Lib.atoiAll_bounds hv
   simp only at h
   split at h
   ·cases h
   ·injection h with h
    subst h
    exact ⟨hb.1,hb.2,by simp⟩
  | _=>rw [hv] at h;cases h
 ·unfold sgnT at h
  split at h
  all_goals first | (injection h with h;subst h;exact ⟨by simp,by simp,Nat.le_refl _⟩) | cases h
 ·cases h
theorem tok_good (k:Nat) (t:List UInt8) (a p:Nat) (l:List UInt8) (ts:List Tk) (h:lexL k t a p l=.inr ts) (hl:t.length+l.length≤2000):∀ x,x ∈ ts→-9223372036854775808≤x.n∧x.n≤9223372036854775807∧x.t.length≤2000:=by
 induction l generalizing k t a p ts with
 | nil =>
  intro x hx
  rcases shut_inr h with ⟨rfl,h1⟩ | ⟨hk,y,us,hp,h1,h2⟩
  ·injection h1 with h1
   subst h1
   simp at hx
   subst hx
   exact ⟨by simp,by simp,by simp⟩
  ·injection h1 with h1
   subst h1 h2
   simp at hx
   rcases hx with rfl | rfl
   ·have:=ptok_good hp
    simp only [List.length_nil] at hl
    exact ⟨this.1,this.2.1,by omega⟩
   ·exact ⟨by simp,by simp,by simp⟩
 | cons c r ih =>
  simp only [List.length_cons] at hl
  cases ht:tks k t c.toNat
  ·rw [lexL_no ht] at h
   rcases shut_inr h with ⟨rfl,h1⟩ | ⟨hk,y,us,hp,h1,h2⟩
   ·exact ih _ _ _ _ _ h1 (by simp;omega)
   ·subst h2
    intro x hx
    rcases List.mem_cons.1 hx with rfl | hx
    ·have:=ptok_good hp
     exact ⟨this.1,this.2.1,by omega⟩
    ·exact ih _ _ _ _ _ h1 (by simp;omega) x hx
  ·rw [lexL_yes ht] at h
   exact ih _ _ _ _ _ h (by simp;omega)
theorem Fs.len_size:∀ (x:Fs),x.len≤x.size
 | ⟨none⟩=>Nat.le_refl _
 | ⟨some ⟨k,n,nm,a,ks,r⟩⟩=>by have:=Fs.len_size r;simp only [Fs.len,Fs.size];omega
theorem Fs.gd_all:∀ {x:Fs},x.gd→x.size≤100000000→x.short∧x.rng∧x.plc
 | ⟨none⟩,h,hs=>⟨trivial,trivial,trivial⟩
 | ⟨some ⟨k,n,nm,a,ks,r⟩⟩,h,hs=>by
  simp only [Fs.size] at hs
  obtain ⟨h1,h2,h3,h4,h5,h6,h7⟩:=h
  obtain ⟨a1,a2,a3⟩:=Fs.gd_all h6 (by omega)
  obtain ⟨b1,b2,b3⟩:=Fs.gd_all h7 (by omega)
  have:=Fs.len_size ks
  exact ⟨⟨by unfold maxLen;omega,by omega,a1,b1⟩,⟨h1,h2,a2,b2⟩,⟨h4,by omega,a3,b3⟩⟩
theorem parse_gd {s:List UInt8} {x:Ex} {t:List Tk} (h:parseA s=.ok x t):x.gd∧x.sz≤2001:=by
 obtain ⟨us,E,h0,h1,h2,h3,h4,h5⟩:=parse_text h
 have hs:scanA s=.inr (us++[E]):=by rw [scan_short h0];exact h1
 have hk:=scan_ok hs
 have hg:∀ y,y ∈ us++[E]→tkG y:=fun y hy=>by
  have a1:=tok_good _ _ _ _ _ _ h1 (by simpa using h0) y hy
  have a2:=hk.2.2.2.2.2 y hy
  exact ⟨a1.1,a1.2.1,a1.2.2,by omega⟩
 obtain ⟨_,g1,g2⟩:=gb_part hg 30000 1 0 0 _ (List.suffix_refl _) x [E] h5
 refine ⟨g1,?_⟩
 have:=hk.2.2.1
 omega
structure Ex.okT (x:Ex):Prop where
 fit:x.fit
 a0:0≤x.a
 a1:x.a≤2000
 plc:x.kids.plc
 size:x.kids.size≤2000
theorem parse_okT {s:List UInt8} {x:Ex} {t:List Tk} (h:parseA s=.ok x t):x.okT:=by
 obtain ⟨g,hs⟩:=parse_gd h
 have hs:x.kids.size+1≤2001:=hs
 obtain ⟨h1,h2,h3,h4,h5,h6,_⟩:=g
 obtain ⟨a1,a2,a3⟩:=Fs.gd_all h6 (by omega)
 have:=Fs.len_size x.kids
 exact ⟨⟨by unfold maxLen;omega,a1,by omega,h1,h2,a2⟩,h4,h5,a3,by omega⟩
end Go.Proofs.YtaihhnlfcndecaaGreatDoor
namespace Go.Proofs.YtaihhnlfcndecaaGreatDoor
open Go.ChangeShapes Go.WideShapes Go.ChangeAt Go.RowKit
set_option linter.unusedVariables false
set_option linter.unusedSimpArgs false
def awH:List UInt8:=[115,117,109,32,118,32,105,110,32,118,101,114,116,105,99,101,115,58,32,115,105,122,101,40,64,49,41]
def cel2:Fs→Bool
 | ⟨some ⟨_,_,_,_,_,⟨some ⟨k,_,_,_,_,⟨none⟩⟩⟩⟩⟩=>k == 26
 | _=>false
def awHb (l:List UInt8):Bool:=match parseA l with
 | ⟨some (.inr (x,_))⟩=>decide ((typA x).2.1=0) && (decide (kindP [] (ofE x [])≠0) && (cel2 (hstE (ofE x []) 0 0 []).1.kids && decide ((hstE (ofE x []) 0 0 []).2=[0])))
 | _=>false
theorem aw_h:awHb awH=true:=by kernel_rfl
theorem awHb_some {l:List UInt8} (h:awHb l=true):∃ x t,parseA l=.ok x t∧(typA x).2.1=0∧kindP [] (ofE x [])≠0∧cel2 (hstE (ofE x []) 0 0 []).1.kids=true∧(hstE (ofE x []) 0 0 []).2=[0]:=by
 unfold awHb at h
 cases hp:parseA l using Rs.on with
 | out=>rw [hp] at h;cases h
 | bad e a=>rw [hp] at h;cases h
 | ok x t =>
  rw [hp] at h
  simp only [Rs.ok,Bool.and_eq_true,decide_eq_true_eq] at h
  exact ⟨x,t,rfl,h.1,h.2.1,h.2.2.1,h.2.2.2⟩
theorem PostOf.ok {w w':World} {e:Ex} {x:Ending} (h:PostOf w e x w') (ht:(typA e).2.1=0):∃ ay cy,x=.returned (.tuple #[plV (ofE e []) ay cy (.slice none 0 0),.int .i64 0])∧SlN w' (Nw w.heap.size) (ofE e []).kids ay∧Below w.heap.size w w':=by
 unfold PostOf at h
 rw [if_pos ht] at h
 exact h
theorem PostHs.ok {w w':World} {e:Ex} {cells:List Int} {x:Ending} (h:PostHs w e cells x w') (hk:kindP cells e≠0):∃ g ay cy v,x=.returned (.tuple #[plV (hstE e 0 0 cells).1 ay cy v,.int .i64 0])∧SlcN w' (fun k=>w.heap.size≤k∧k≠g) (hstE e 0 0 cells).1.kids ay cy∧w'.ownsRow 0 3 1 v (hstE e 0 0 cells).2.length ((hstE e 0 0 cells).2.map (Value.int .i64))∧(∀ k,v.ownBlock=some k→k=g∧w.heap.size≤k)∧Below w.heap.size w w':=by
 unfold PostHs at h
 rw [if_neg hk] at h
 exact h
theorem cel2_of:∀ {f:Fs},cel2 f=true→∃ (y:Ex) (n:Int) (nm:List UInt8) (a:Int) (ks:Fs),f=(one y).app (.cons 26 n nm a ks .nil)
 | ⟨none⟩,h=>by cases h
 | ⟨some ⟨k,n,nm,a,ks,⟨none⟩⟩⟩,h=>by cases h
 | ⟨some ⟨k,n,nm,a,ks,⟨some ⟨k2,n2,nm2,a2,ks2,⟨some z⟩⟩⟩⟩⟩,h=>by cases h
 | ⟨some ⟨k,n,nm,a,ks,⟨some ⟨k2,n2,nm2,a2,ks2,⟨none⟩⟩⟩⟩⟩,h=>by
  have h:(k2 == 26)=true:=h
  have h:k2=26:=by simpa using h
  subst h
  exact ⟨⟨k,n,nm,a,ks⟩,n2,nm2,a2,ks2,rfl⟩
set_option maxRecDepth 100000 in
set_option maxHeartbeats 2000000 in
theorem awakeh_r (w:World) (hW:Wd w):Calls Tryz.prog 23 #[] w fun e w'=>e=.returned (.bool true)∧Below w.heap.size w w':=by
 obtain ⟨x,t,hx,ht,hk,hcel,hcs⟩:=awHb_some aw_h
 have hok:=parse_okT hx
 have c1:=parse_q ⟨awH.toArray⟩ w (by decide)
 have e1:(ByteArray.mk awH.toArray).data.toList=awH:=by simp
 rw [e1,hx] at c1
 have hfp:FitN (ofE x []):=⟨ofE_nm x [] hok.fit.nm,Nat.le_trans (ofE_len x []) hok.fit.len,ofE_short x [] hok.fit.sh⟩
 have hsp:((ofE x []).kids.size:Int)+2≤1000000000:=by have:=ofE_size x [];have:=hok.size;omega
 clear e1 hx
 go_enter Tryz.func23,Tryz.ntmps23
 go_wp2_with fail
 refine c1.mono ?_
 rintro e w1 ⟨aox,capx,rfl,S1,b1⟩
 clear c1
 have b2:Below w1.heap.size w1 (w1.alloc (.cells #[.int .i64 x.k,.int .i64 x.n,stv x.nm,.slice aox x.kids.len capx,.int .i64 x.a] 25)):=(Below.refl _ w1).alloc (Nat.le_refl _) _
 have X2:(w1.alloc (.cells #[.int .i64 x.k,.int .i64 x.n,stv x.nm,.slice aox x.kids.len capx,.int .i64 x.a] 25)).heap[w1.heap.size]?=some (.cells #[.int .i64 x.k,.int .i64 x.n,stv x.nm,.slice aox x.kids.len capx,.int .i64 x.a] 25 (0,0)):=heap_alloc_new w1 _
 have B2:=b1.trans (b2.mono b1.size)
 have S2:SlT (w1.alloc (.cells #[.int .i64 x.k,.int .i64 x.n,stv x.nm,.slice aox x.kids.len capx,.int .i64 x.a] 25)) x.kids aox:=SlT.below (Sl.all S1) b2
 rw [exV_out]
 go_upto_region 2 with fail
 generalize w1.alloc (.cells #[.int .i64 x.k,.int .i64 x.n,stv x.nm,.slice aox x.kids.len capx,.int .i64 x.a] 25)=w2 at *
 generalize w1.heap.size=bx at *
 have c3:=of14_c x aox capx w2 hok.fit (by have:=hok.size;omega) S2
 rw [exV_out] at c3
 obtain ⟨p0,p1,p2,p3,p4,pf⟩:=box5 X2
 go_wp2_with fail
 refine c3.mono ?_
 intro e w3 h3
 have h3:=h3.ok ht
 clear c3
 generalize ofE x []=p at *
 obtain ⟨ap,cp,rfl,S3,b3⟩:=h3
 have B3:=B2.trans (b3.mono B2.size)
 clear p0 p1 p2 p3 p4 pf b1 b2 b3 B2 S2 X2 S1 hok ht
 have b4:Below w3.heap.size w3 (w3.alloc (.cells #[.int .i64 p.k,.int .i64 p.n,stv p.nm,.slice ap p.kids.len cp,.slice none 0 0] 37)):=(Below.refl _ w3).alloc (Nat.le_refl _) _
 have X4:(w3.alloc (.cells #[.int .i64 p.k,.int .i64 p.n,stv p.nm,.slice ap p.kids.len cp,.slice none 0 0] 37)).heap[w3.heap.size]?=some (.cells #[.int .i64 p.k,.int .i64 p.n,stv p.nm,.slice ap p.kids.len cp,.slice none 0 0] 37 (0,0)):=heap_alloc_new w3 _
 have B4:=B3.trans (b4.mono B3.size)
 have S4:=SnA.below S3.all b4
 rw [plV_out]
 go_upto_region 3 with fail
 generalize w3.alloc (.cells #[.int .i64 p.k,.int .i64 p.n,stv p.nm,.slice ap p.kids.len cp,.slice none 0 0] 37)=w4 at *
 generalize w3.heap.size=bp at *
 have c5:=hoist_c p ap cp (.slice none 0 0) [] w4 hfp hsp (hW.below B4) ⟨none,0,rfl,.inl rfl⟩ (by simp) S4
 rw [plV_out] at c5
 obtain ⟨p0,p1,p2,p3,p4,pf⟩:=box5 X4
 go_wp2_with fail
 refine c5.mono ?_
 intro e w5 h5
 have h5:=h5.ok hk
 clear c5
 generalize hstE p 0 0 []=yy at *
 obtain ⟨Y,C2⟩:=yy
 simp only at h5 hcel hcs
 subst hcs
 obtain ⟨y0,n2,nm2,a2,ks2,hYk⟩:=cel2_of hcel
 obtain ⟨g,ay,cy,v,rfl,S5,own5,-,b5⟩:=h5
 have B5:=B4.trans (b5.mono B4.size)
 have R5:Row w5 (fun _=>0) 0 3 1 v 1 [.int .i64 0]:=⟨own5,fun _ _=>rfl⟩
 obtain ⟨g5,c5',hv,-,-,-,hl5,hc5,-⟩:=R5.pos (by decide)
 subst hv
 have d0:w5.cell? ⟨g5,0,none⟩=some (.int .i64 0):=hc5 0 (by decide)
 have S5':SnA w5 ((one y0).app (.cons 26 n2 nm2 a2 ks2 .nil)) ay:=by rw [←hYk];exact S5.sl.all
 obtain ⟨b,off,ak,ck,hay,lb,-,x0,-,-,-,-⟩:=SlN.kidQ S5'
 subst hay
 have hlY:Y.kids.len=2:=by rw [hYk];rfl
 have hone:(one y0).len=1:=rfl
 rw [hone] at x0
 clear p0 p1 p2 p3 p4 pf S5 S5' own5 R5 hc5 hYk hcel hk hone B3 B4 S4 X4 S3 hfp hsp b4 b5
 rw [plV_out,hlY]
 have b6:Below w5.heap.size w5 (w5.alloc (.cells #[.int .i64 Y.k,.int .i64 Y.n,stv Y.nm,.slice (some ⟨b,off,none⟩) 2 cy,.slice (some ⟨g5,0,none⟩) 1 c5'] 37)):=(Below.refl _ w5).alloc (Nat.le_refl _) _
 have X6:(w5.alloc (.cells #[.int .i64 Y.k,.int .i64 Y.n,stv Y.nm,.slice (some ⟨b,off,none⟩) 2 cy,.slice (some ⟨g5,0,none⟩) 1 c5'] 37)).heap[w5.heap.size]?=some (.cells #[.int .i64 Y.k,.int .i64 Y.n,stv Y.nm,.slice (some ⟨b,off,none⟩) 2 cy,.slice (some ⟨g5,0,none⟩) 1 c5'] 37 (0,0)):=heap_alloc_new w5 _
 have B6:=B5.trans (b6.mono B5.size)
 have d6:=(b6.cell (p:=⟨g5,0,none⟩) hl5).trans d0
 have x6:=(b6.cell (p:=⟨b,off+1 * 4,none⟩) lb).trans x0
 clear d0 x0 b6 B5 hlY
 go_upto_region 4 with fail
 generalize w5.alloc (.cells #[.int .i64 Y.k,.int .i64 Y.n,stv Y.nm,.slice (some ⟨b,off,none⟩) 2 cy,.slice (some ⟨g5,0,none⟩) 1 c5'] 37)=w6 at *
 generalize w5.heap.size=bq at *
 obtain ⟨p0,p1,p2,p3,p4,pf⟩:=box5 X6
 clear X6
 go_wp2
 go_ret
 exact ⟨rfl,B6⟩
def PasW (w:World) (Y:Ex) (C:List Int) (er:Nat) (x:Ending) (w':World):Prop :=
 ∃ ay cy v,x=.returned (.tuple #[plV Y ay cy v,.int .i64 (er:Nat)])∧SnA w' Y.kids ay∧InA w' v C∧Below w.heap.size w w'
def PasV (w:World) (Y:Ex) (C:List Int) (er:Nat) (x:Ending) (w':World):Prop :=
 ∃ g ay cy v,x=.returned (.tuple #[plV Y ay cy v,.int .i64 (er:Nat)])∧SlcN w' (fun k=>w.heap.size≤k∧k≠g) Y.kids ay cy∧w'.ownsRow 0 3 1 v C.length (C.map (Value.int .i64))∧(∀ k,v.ownBlock=some k→k=g∧w.heap.size≤k)∧Below w.heap.size w w'
def zeroE:Ex:=⟨0,0,[],0,.nil⟩
def pasY (b:Bool) (y:Ex):Ex:=if b then y else zeroE
def pasC (b:Bool) (c:List Int):List Int:=if b then c else []
def pasR (b:Bool):Nat:=if b then 0 else 140
theorem PostHd.w {w w':World} {e:Ex} {cells:List Int} {x:Ending} (h:PostHd w e cells x w'):PasW w (pasY (decide (kindP cells e≠0)) (hstE e 0 0 cells).1) (pasC (decide (kindP cells e≠0)) (hstE e 0 0 cells).2) (pasR (decide (kindP cells e≠0))) x w':=by
 unfold PostHd at h
 by_cases hk:kindP cells e=0
 ·rw [if_pos hk] at h
  have hd:decide (kindP cells e≠0)=false:=by simp [hk]
  rw [hd]
  obtain ⟨rfl,b⟩:=h
  exact ⟨none,0,.slice none 0 0,rfl,.inl rfl,⟨none,0,rfl,.inl rfl⟩,b⟩
 ·rw [if_neg hk] at h
  have hd:decide (kindP cells e≠0)=true:=by simp [hk]
  rw [hd]
  obtain ⟨ay,cy,v,rfl,S,I,b⟩:=h
  exact ⟨ay,cy,v,rfl,S,I,b⟩
theorem PostHs.v {w w':World} {e:Ex} {cells:List Int} {x:Ending} (h:PostHs w e cells x w'):PasV w (pasY (decide (kindP cells e≠0)) (hstE e 0 0 cells).1) (pasC (decide (kindP cells e≠0)) (hstE e 0 0 cells).2) (pasR (decide (kindP cells e≠0))) x w':=by
 unfold PostHs at h
 by_cases hk:kindP cells e=0
 ·rw [if_pos hk] at h
  have hd:decide (kindP cells e≠0)=false:=by simp [hk]
  rw [hd]
  obtain ⟨rfl,b⟩:=h
  exact ⟨0,none,0,.slice none 0 0,rfl,.inl ⟨rfl,rfl,rfl⟩,World.ownsRow_nil _ _ _ _,fun k hk=>by simp [Value.ownBlock] at hk,b⟩
 ·rw [if_neg hk] at h
  have hd:decide (kindP cells e≠0)=true:=by simp [hk]
  rw [hd]
  obtain ⟨g,ay,cy,v,rfl,S,o,ho,b⟩:=h
  exact ⟨g,ay,cy,v,rfl,S,o,ho,b⟩
theorem hstF_len:∀ (f:Fs) (pk:Int) (i:Nat) (ar rc:Int) (cs:List Int),(hstF f pk i ar rc cs).1.len=f.len
 | ⟨none⟩,pk,i,ar,rc,cs=>rfl
 | ⟨some ⟨k,n,nm,a,ks,r⟩⟩,pk,i,ar,rc,cs=>by
  have h:=hst_cons k n nm a ks r pk i ar rc cs
  show (hstF (.cons k n nm a ks r) pk i ar rc cs).1.len=r.len+1
  rw [h]
  show (hstF r pk (i+1) ar rc _).1.len+1=_
  rw [hstF_len r pk (i+1) ar rc _]
theorem hstF_short:∀ (f:Fs) (pk:Int) (i:Nat) (ar rc:Int) (cs:List Int),f.short→(hstF f pk i ar rc cs).1.short
 | ⟨none⟩,pk,i,ar,rc,cs,h=>trivial
 | ⟨some ⟨k,n,nm,a,ks,r⟩⟩,pk,i,ar,rc,cs,h=>by
  unfold hstF
  simp only
  split
  ·exact ⟨h.1,h.2.1,h.2.2.1,hstF_short r _ _ _ _ _ h.2.2.2⟩
  ·split
   ·exact ⟨by simp,by show 0+1≤_;omega,⟨h.1,by rw [hstF_len];exact h.2.1,hstF_short ks _ _ _ _ _ h.2.2.1,trivial⟩,hstF_short r _ _ _ _ _ h.2.2.2⟩
   ·exact ⟨h.1,by rw [hstF_len];exact h.2.1,hstF_short ks _ _ _ _ _ h.2.2.1,hstF_short r _ _ _ _ _ h.2.2.2⟩
theorem hstE_fit {e:Ex} (ar rc:Int) (cs:List Int) (h:FitN e):FitN (hstE e ar rc cs).1:=by
 unfold hstE hstK
 split
 ·exact h
 ·split
  ·exact ⟨by simp,by show 0+1≤_;omega,⟨h.nm,by show (hstF _ _ _ _ _ _).1.len≤_;rw [hstF_len];exact h.len,hstF_short _ _ _ _ _ _ h.sh,trivial⟩⟩
  ·exact ⟨h.nm,by show (hstF _ _ _ _ _ _).1.len≤_;rw [hstF_len];exact h.len,hstF_short _ _ _ _ _ _ h.sh⟩
theorem pasY_fit {b:Bool} {y:Ex} (h:FitN y):FitN (pasY b y):=by
 unfold pasY
 split
 ·exact h
 ·exact ⟨by simp [zeroE],by show 0≤_;omega,trivial⟩
theorem hst_pas_len {e:Ex} {cells:List Int}:(pasC (decide (kindP cells e≠0)) (hstE e 0 0 cells).2).length≤256:=by
 unfold pasC
 split
 ·rename_i h
  have h:kindP cells e≠0:=by simpa using h
  exact hstE_len256 _ _ _ _ (kindP_inv h).1
 ·simp
end Go.Proofs.YtaihhnlfcndecaaGreatDoor

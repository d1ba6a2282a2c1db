import Derived.Test.YtbjdkekhnajafaaGreatDoorTrE
set_option maxRecDepth 100000
set_option maxHeartbeats 8000000
namespace Go.Proofs.YtbjdkekhnajafaaGreatDoor
set_option linter.unusedVariables false
set_option linter.unusedSimpArgs false
structure Wt where
 t:List UInt8
 o:Nat
 q:Nat
abbrev Ow:=Option Wt
def aM (x:List UInt8):Ow->Ow
 | none=>none
 | some s=>if 2000<s.t.length+x.length then none else some ⟨s.t++x,s.o,s.q⟩
def aU:Ow->Ow
 | none=>none
 | some s=>if 64<s.o+1 then none else some ⟨s.t,s.o+1,s.q⟩
def dN:Ow->Ow
 | none=>none
 | some s=>some ⟨s.t,s.o-1,s.q⟩
def fY:Ow->Ow
 | none=>none
 | some s=>if 4<s.q+1 then none else some ⟨s.t,s.o,s.q+1⟩
def qG:Ow->Ow
 | none=>none
 | some s=>some ⟨s.t,s.o,s.q-1⟩
def di (s:St):Ow:=if qo s then some ⟨s.t,s.a,s.b⟩ else none
theorem li (s:St):qo s=true ↔ s.t.length<=2000/\s.m<=64/\s.n<=4:=by
 unfold qo;simp only[Bool.not_eq_true',Bool.or_eq_false_iff,decide_eq_false_iff_not];omega
theorem dt {s:St}(h:s.t.length<=2000/\s.m<=64/\s.n<=4):di s=some ⟨s.t,s.a,s.b⟩:=by unfold di;rw[if_pos ((li s).2 h)]
theorem cN {s:St}(h:¬(s.t.length<=2000/\s.m<=64/\s.n<=4)):di s=none:=by unfold di;rw[if_neg (fun e=>h ((li s).1 e))]
theorem bM (x:List UInt8)(s:St):aM x (di s)=di (s.lay x):=by
 by_cases h:s.t.length<=2000/\s.m<=64/\s.n<=4
 ·rw[dt h];by_cases h2:2000<s.t.length+x.length
  ·rw[cN (s:=s.lay x) (by simp only[St.lay,List.length_append];omega)];simp[aM,h2]
  ·rw[dt (s:=s.lay x) (by simp only[St.lay,List.length_append];omega)];simp[aM,h2,St.lay]
 ·rw[cN h,cN (s:=s.lay x) (by simp only[St.lay,List.length_append];omega)];rfl
theorem cI (s:St):aU (di s)=di s.ent:=by
 by_cases h:s.t.length<=2000/\s.m<=64/\s.n<=4
 ·rw[dt h];by_cases h2:64<s.a+1
  ·rw[cN (s:=s.ent) (by simp only[St.ent];omega)];simp[aU,h2]
  ·rw[dt (s:=s.ent) (by simp only[St.ent];omega)];simp[aU,h2,St.ent]
 ·rw[cN h,cN (s:=s.ent) (by simp only[St.ent];omega)];rfl
theorem fg (s:St):dN (di s)=di s.lea:=by
 by_cases h:s.t.length<=2000/\s.m<=64/\s.n<=4
 ·rw[dt h,dt (s:=s.lea) h];rfl
 ·rw[cN h,cN (s:=s.lea) h];rfl
theorem sV (s:St):fY (di s)=di s.qent:=by
 by_cases h:s.t.length<=2000/\s.m<=64/\s.n<=4
 ·rw[dt h];by_cases h2:4<s.b+1
  ·rw[cN (s:=s.qent) (by simp only[St.qent];omega)];simp[fY,h2]
  ·rw[dt (s:=s.qent) (by simp only[St.qent];omega)];simp[fY,h2,St.qent]
 ·rw[cN h,cN (s:=s.qent) (by simp only[St.qent];omega)];rfl
theorem zH (s:St):qG (di s)=di s.qlea:=by
 by_cases h:s.t.length<=2000/\s.m<=64/\s.n<=4
 ·rw[dt h,dt (s:=s.qlea) h];rfl
 ·rw[cN h,cN (s:=s.qlea) h];rfl
def eD (k n:Int)(nm:List UInt8)(K:Sep->Ow->Ow)(s:Ow):Ow :=
 if k=1 then aM (Go.Lib.itoa n) s
 else if k=2 then aM (Go.Lib.formatBool (n==1)) s
 else if k=3 then aM ([64]++Go.Lib.itoa n) s
 else if k=4\/k=23 then aM nm s
 else if k=22 then aM [118,101,114,116,105,99,101,115] s
 else K (opS k) s
def gi (x y:List UInt8)(K:Sep->Ow->Ow)(s:Ow):Ow:=aM y (dN (K eT (aM x (aU s))))
def bi (k n:Int)(nm:List UInt8)(K:Sep->Ow->Ow)(s:Ow):Ow :=
 if k=7 then dN (K (fun _=>([110,111,116,32],3)) (aU s))
 else if k=6 then dN (K (fun _=>([45],7)) (aU s))
 else if k=19 then dN (K ifS (aU s))
 else if k=21 then qG (dN (K (quS n nm) (aU (fY s))))
 else if k=20 then gi [40] [41] K (aM (gm n) s)
 else if k=24 then gi [40] [41] K (aM [97,114,111,117,110,100] s)
 else if k=25 then gi [123] [125] K s
 else eD k n nm K s
def iv (k n:Int)(nm:List UInt8)(len:Nat)(set:Bool)(K:Sep->Ow->Ow)(s:Ow):Ow :=
 if (bS k n&&cr k nm&&aR k n len&&(bm k==set))=true then bi k n nm K s else none
def oE (k n:Int)(nm:List UInt8)(len:Nat)(set:Bool)(asked:Nat)(K:Sep->Ow->Ow)(s:Ow):Ow :=
 if dd k<asked then aM [41] (dN (iv k n nm len false K (aM [40] (aU s)))) else iv k n nm len set K s
def oFs:Fs->Bool->Sep->Nat->Ow->Ow
 | ⟨none⟩,_,_,_,s=>s
 | ⟨some ⟨k,n,nm,a,ks,r⟩⟩,first,f,i,s=>oFs r false f (i+1) (oE k n nm ks.len first (f i).2 (fun g s=>oFs ks (k==21) g 0 s) (aM (f i).1 s))
def oEx (e:Ex)(set:Bool)(s:Ow):Ow:=iv e.k e.n e.nm e.kids.len set (fun g s=>oFs e.kids (e.k==21) g 0 s) s
def okS:Fs->Bool->Bool
 | ⟨none⟩,_=>true
 | ⟨some ⟨k,n,nm,a,ks,r⟩⟩,first=>(bS k n&&cr k nm&&aR k n ks.len&&(bm k==first))&&okS ks (k==21)&&okS r false
theorem ze (s:St)(x y:List UInt8):(s.lay x).lay y=s.lay (x++y):=by simp[St.lay]
theorem lo {k n:Int}{m:Nat}(h:aR k n m=true)(hk:k=1\/k=2\/k=3\/k=4\/k=22\/k=23):m=0:=by
 unfold aR at h;rcases hk with rfl|rfl|rfl|rfl|rfl|rfl<;>simpa using h
theorem ld (s:St)(x:List UInt8):s.lea.lay x=(s.lay x).lea:=rfl
theorem qy {k n:Int}{nm:List UInt8}{K:Sep->St->St}{K':Sep->Ow->Ow}(hK:∀ g s,(k=21->(g 0).2=0)->K' g (di s)=di (K g s))(s:St):bi k n nm K' (di s)=di (kw k n nm K s):=by
 unfold bi kw;by_cases h7:k=7
 ·simp only[h7,if_true];rw[cI,hK _ _ (by omega),fg]
 ·by_cases h6:k=6
  ·simp only[h7,h6,if_true,if_false];rw[if_neg (by omega),if_neg (by omega),cI,hK _ _ (by omega),fg]
  ·by_cases h19:k=19
   ·rw[if_neg h7,if_neg h6,if_pos h19,if_neg h7,if_neg h6,if_pos h19,cI,hK _ _ (by omega),fg]
   ·by_cases h21:k=21
    ·rw[if_neg h7,if_neg h6,if_neg h19,if_pos h21,if_neg h7,if_neg h6,if_neg h19,if_pos h21,sV,cI,hK _ _ (fun _=>rfl),fg,zH];rfl
    ·rw[if_neg h7,if_neg h6,if_neg h19,if_neg h21,if_neg h7,if_neg h6,if_neg h19,if_neg h21];by_cases h20:k=20
     ·rw[if_pos h20,if_pos h20];unfold gi j9;rw[bM,cI,bM,hK _ _ (by omega),fg,bM,ld]
     ·rw[if_neg h20,if_neg h20];by_cases h24:k=24
      ·rw[if_pos h24,if_pos h24];unfold gi j9;rw[bM,cI,bM,hK _ _ (by omega),fg,bM,ld]
      ·rw[if_neg h24,if_neg h24];by_cases h25:k=25
       ·rw[if_pos h25,if_pos h25];unfold gi j9;rw[cI,bM,hK _ _ (by omega),fg,bM,ld]
       ·rw[if_neg h25,if_neg h25];unfold eD rE;by_cases h1:k=1
        ·rw[if_pos h1,if_pos h1,bM]
        ·rw[if_neg h1,if_neg h1];by_cases h2:k=2
         ·rw[if_pos h2,if_pos h2,bM]
         ·rw[if_neg h2,if_neg h2];by_cases h3:k=3
          ·rw[if_pos h3,if_pos h3,bM,ze]
          ·rw[if_neg h3,if_neg h3];by_cases h4:k=4\/k=23
           ·rw[if_pos h4,if_pos h4,bM]
           ·rw[if_neg h4,if_neg h4];by_cases h22:k=22
            ·rw[if_pos h22,if_pos h22,bM]
            ·rw[if_neg h22,if_neg h22,hK _ _ (by omega)]
theorem ny {k n:Int}{nm:List UInt8}{K':Sep->Ow->Ow}(hK:∀ g s,(k=21->(g 0).2=0)->K' g (di s)=none)(hk:¬(k=1\/k=2\/k=3\/k=4\/k=22\/k=23))(s:St):bi k n nm K' (di s)=none:=by
 unfold bi;by_cases h7:k=7
 ·rw[if_pos h7,cI,hK _ _ (by omega)];rfl
 ·by_cases h6:k=6
  ·rw[if_neg h7,if_pos h6,cI,hK _ _ (by omega)];rfl
  ·by_cases h19:k=19
   ·rw[if_neg h7,if_neg h6,if_pos h19,cI,hK _ _ (by omega)];rfl
   ·by_cases h21:k=21
    ·rw[if_neg h7,if_neg h6,if_neg h19,if_pos h21,sV,cI,hK _ _ (fun _=>rfl)];rfl
    ·rw[if_neg h7,if_neg h6,if_neg h19,if_neg h21];by_cases h20:k=20
     ·rw[if_pos h20];unfold gi;rw[bM,cI,bM,hK _ _ (by omega)];rfl
     ·rw[if_neg h20];by_cases h24:k=24
      ·rw[if_pos h24];unfold gi;rw[bM,cI,bM,hK _ _ (by omega)];rfl
      ·rw[if_neg h24];by_cases h25:k=25
       ·rw[if_pos h25];unfold gi;rw[cI,bM,hK _ _ (by omega)];rfl
       ·rw[if_neg h25];unfold eD;rw[if_neg (by omega),if_neg (by omega),if_neg (by omega),if_neg (by omega),if_neg (by omega),hK _ _ (by omega)]
theorem nN {k n:Int}{nm:List UInt8}{K:Sep->Ow->Ow}(hK:∀ g,K g none=none):bi k n nm K none=none:=by
 simp only[bi,gi,eD,aU,aM,fY,hK,dN,qG];simp only[ite_self]
theorem Dv {k n:Int}{nm:List UInt8}{len asked:Nat}{set:Bool}{K:Sep->Ow->Ow}(hK:∀ g,K g none=none):oE k n nm len set asked K none=none:=by
 have h:∀ b,iv k n nm len b K none=none:=fun b=>by unfold iv;rw[nN hK,ite_self]
 unfold oE;rw[h];simp only[aU,aM,h,dN,ite_self]
theorem i8:∀ (f:Fs) (b:Bool) (g:Sep) (i:Nat),oFs f b g i none=none
 | ⟨none⟩,b,g,i=>rfl
 | ⟨some ⟨k,n,nm,a,ks,r⟩⟩,b,g,i=>by
  simp only[oFs,aM];rw[Dv (fun g=>i8 ks (k==21) g 0)];exact i8 r false g (i+1)
theorem EC {k:Int}(h:bm k=true):dd k=8:=by
 unfold bm at h;simp only[Bool.or_eq_true,beq_iff_eq] at h;rcases h with ((rfl|rfl)|rfl)|rfl<;>rfl
theorem mm:∀ (f:Fs) (first:Bool) (g:Sep) (i:Nat) (s:St),(first=true->(g i).2=0)->oFs f first g i (di s)=bif okS f first then di (wFs f g i s) else none
 | ⟨none⟩,first,g,i,s,h=>by simp only[oFs,okS,wFs,cond_true]
 | ⟨some ⟨k,n,nm,a,ks,r⟩⟩,first,g,i,s,h=>by
  simp only[oFs,okS,wFs];rw[bM];have IHr:=fun s=>mm r false g (i+1) s (fun e=>by cases e);have part:∀ (set:Bool) (s:St),iv k n nm ks.len set (fun g s=>oFs ks (k==21) g 0 s) (di s)=if ((bS k n&&cr k nm&&aR k n ks.len&&(bm k==set))&&okS ks (k==21))=true then di (kw k n nm (fun g s=>wFs ks g 0 s) s) else none:=fun set s=>by
   unfold iv;by_cases hv:(bS k n&&cr k nm&&aR k n ks.len&&(bm k==set))=true
   ·rw[if_pos hv];by_cases ho:okS ks (k==21)=true
    ·rw[if_pos (by rw[hv,ho];rfl)];exact qy (fun g s hg=>by
      show oFs ks (k==21) g 0 (di s)=_;rw[mm ks (k==21) g 0 s (fun e=>hg (by simpa using e)),ho,cond_true]) s
    ·rw[if_neg (by intro e;simp only[Bool.and_eq_true] at e;exact ho e.2)];refine ny (fun g s hg=>?_) ?_ s
     ·show oFs ks (k==21) g 0 (di s)=_;rw[mm ks (k==21) g 0 s (fun e=>hg (by simpa using e)),show okS ks (k==21)=false by simpa using ho,cond_false]
     ·intro hk;have hkid:aR k n ks.len=true:=by simp only[Bool.and_eq_true] at hv;exact hv.1.2
      have hl:=lo hkid hk;cases ks using Fs.on with
      | nil=>exact ho (by simp only[okS])
      | cons _ _ _ _ _ _=>simp[Fs.len] at hl
   ·rw[if_neg hv,if_neg (by intro e;simp only[Bool.and_eq_true] at e hv;exact hv e.1)]
  by_cases hv:((bS k n&&cr k nm&&aR k n ks.len&&(bm k==first))&&okS ks (k==21))=true
  ·have e1:oE k n nm ks.len first (g i).2 (fun g s=>oFs ks (k==21) g 0 s) (di (s.lay (g i).1))=di (wE k n nm (g i).2 (fun g s=>wFs ks g 0 s) (s.lay (g i).1)):=by
    unfold oE wE;by_cases hr:dd k<(g i).2
    ·have hf:first=false:=by
      cases first with
      | false=>rfl
      | true=>have:=h rfl;omega
     subst hf;rw[if_pos hr,if_pos hr,cI,bM,part,if_pos hv,fg,bM,ld]
    ·rw[if_neg hr,if_neg hr,part,if_pos hv]
   rw[e1,IHr,hv,Bool.true_and]
  ·rw[show ((bS k n&&cr k nm&&aR k n ks.len&&(bm k==first))&&okS ks (k==21))=false from Bool.eq_false_iff.2 hv,Bool.false_and,cond_false];have e1:oE k n nm ks.len first (g i).2 (fun g s=>oFs ks (k==21) g 0 s) (di (s.lay (g i).1))=none:=by
    unfold oE;by_cases hr:dd k<(g i).2
    ·have hf:first=false:=by
      cases first with
      | false=>rfl
      | true=>have:=h rfl;omega
     subst hf;rw[if_pos hr,cI,bM,part,if_neg hv];rfl
    ·rw[if_neg hr,part,if_neg hv]
   rw[e1];exact i8 r false g (i+1)
theorem rT {a b:Nat}(h:¬a<=b):Nat.ble a b=false:=Bool.eq_false_iff.2 fun e=>h (Nat.le_of_ble_eq_true e)
theorem rU:∀ (f:Fs) (first:Bool) (c:Nat),c<=2000->hFs f first c=bif okS f first&&Nat.ble (c+f.size) 2000 then some (c+f.size) else none
 | ⟨none⟩,first,c,hc=>by
  have h1:Nat.ble c 2000=true:=Nat.ble_eq_true_of_le hc;simp only[hFs,okS,Fs.size,Nat.add_zero,h1,Bool.true_and,cond_true]
 | ⟨some ⟨k,n,nm,a,ks,r⟩⟩,first,c,hc=>by
  simp only[hFs,okS,Fs.size];by_cases hs:bm k=first
  ·rw[if_neg (by simp[hs])];by_cases h1:2000<c+1
   ·rw[if_pos h1,rT (show ¬c+(ks.size+r.size+1)<=2000 by omega),Bool.and_false,cond_false]
   ·rw[if_neg h1];by_cases hv:(bS k n&&cr k nm&&aR k n ks.len)=true
    ·rw[if_pos hv,rU ks (k==21) (c+1) (by omega),show (bm k==first)=true by simp[hs],hv,Bool.true_and,Bool.true_and];by_cases ho:okS ks (k==21)=true
     ·rw[ho,Bool.true_and,Bool.true_and];by_cases h2:c+1+ks.size<=2000
      ·rw[Nat.ble_eq_true_of_le h2,cond_true];simp only;rw[rU r false (c+1+ks.size) h2,show c+(ks.size+r.size+1)=c+1+ks.size+r.size by omega]
      ·rw[rT h2,cond_false,rT (show ¬c+(ks.size+r.size+1)<=2000 by omega),Bool.and_false,cond_false]
     ·rw[show okS ks (k==21)=false by simpa using ho];simp
    ·rw[if_neg hv,show (bS k n&&cr k nm&&aR k n ks.len)=false by simpa using hv];simp
  ·rw[if_pos (by simpa using hs),show (bm k==first)=false by simpa using hs];simp
def mO:Fs->Sep->Nat->Nat
 | ⟨none⟩,_,_=>0
 | ⟨some ⟨_,_,_,_,_,r⟩⟩,g,i=>(g i).1.length+mO r g (i+1)
theorem jb {f:Fs}{g:Sep}{i:Nat}(h:0<f.len):(g i).1.length<=mO f g i:=by
 cases f using Fs.on with
 | nil=>simp[Fs.len] at h
 | cons k n nm a ks r=>simp only[mO];omega
theorem AQ {f:Fs}{g:Sep}{i:Nat}(h:1<f.len):(g (i+1)).1.length<=mO f g i:=by
 cases f using Fs.on with
 | nil=>simp[Fs.len] at h
 | cons k n nm a ks r =>
  have h2:0<r.len:=by simp only[Fs.len] at h;omega
  have:=jb (g:=g) (i:=i+1) h2
  simp only[mO];omega
theorem yI (n:Int):0<(Go.Lib.itoa n).length:=by
 unfold Go.Lib.itoa;split
 ·simp
 ·rw[Go.Lib.decDigits_length];exact Go.Lib.nDigits_pos _
theorem sN {k n:Int}{nm:List UInt8}{f:Fs}{K:Sep->St->St}(hv:(bS k n&&cr k nm&&aR k n f.len)=true)(hK:∀ g s,s.t.length+f.size+mO f g 0<=(K g s).t.length)(s:St):s.t.length+f.size+1<=(kw k n nm K s).t.length:=by
 simp only[Bool.and_eq_true] at hv;obtain⟨⟨hn,hm⟩,hk⟩:=hv;have leaf:(k=1\/k=2\/k=3\/k=4\/k=22\/k=23)->f.size=0:=fun h=>by
  have:=lo hk h
  cases f using Fs.on with
  | nil=>rfl
  | cons _ _ _ _ _ _=>simp[Fs.len] at this
 unfold kw;by_cases h7:k=7
 ·rw[if_pos h7];have hl:0<f.len:=by rw[h7] at hk;simp[aR] at hk;omega
  have h1:=hK (fun _=>([110,111,116,32],3)) s.ent;have h2:=jb (g:=fun _=>([110,111,116,32],3)) (i:=0) hl;simp only[St.lea,St.ent,List.length_cons,List.length_nil] at h1 h2 ⊢;omega
 rw[if_neg h7];by_cases h6:k=6
 ·rw[if_pos h6];have hl:0<f.len:=by rw[h6] at hk;simp[aR] at hk;omega
  have h1:=hK (fun _=>([45],7)) s.ent;have h2:=jb (g:=fun _=>([45],7)) (i:=0) hl;simp only[St.lea,St.ent,List.length_cons,List.length_nil] at h1 h2 ⊢;omega
 rw[if_neg h6];by_cases h19:k=19
 ·rw[if_pos h19];have hl:0<f.len:=by rw[h19] at hk;simp[aR] at hk;omega
  have h1:=hK ifS s.ent;have h2:=jb (g:=ifS) (i:=0) hl;have h3:(ifS 0).1.length=3:=rfl;simp only[St.lea,St.ent] at h1 ⊢;omega
 rw[if_neg h19];by_cases h21:k=21
 ·rw[if_pos h21];have hl:0<f.len:=by rw[h21] at hk;simp[aR] at hk;omega
  have h1:=hK (quS n nm) s.ent.qent;have h2:=jb (g:=quS n nm) (i:=0) hl;have h3:1<=(quS n nm 0).1.length:=by simp[quS];omega
  simp only[St.lea,St.ent,St.qent,St.qlea] at h1 ⊢;omega
 rw[if_neg h21];have lst:∀ (x y:List UInt8) (s':St),1<=x.length->s'.t.length+f.size+1<=(j9 x y K s').t.length:=fun x y s' hx=>by
  have h1:=hK eT (s'.ent.lay x);simp only[j9,St.lea,St.lay,St.ent,List.length_append] at h1 ⊢;omega
 by_cases h20:k=20
 ·rw[if_pos h20]
  have:=lst [40] [41] (s.lay (gm n)) (by simp)
  simp only[St.lay,List.length_append] at this ⊢;omega
 rw[if_neg h20];by_cases h24:k=24
 ·rw[if_pos h24]
  have:=lst [40] [41] (s.lay [97,114,111,117,110,100]) (by simp)
  simp only[St.lay,List.length_append] at this ⊢;omega
 rw[if_neg h24];by_cases h25:k=25
 ·rw[if_pos h25];exact lst [123] [125] s (by simp)
 rw[if_neg h25];unfold rE;by_cases h1:k=1
 ·rw[if_pos h1,leaf (.inl h1)]
  have:=yI n
  simp only[St.lay,List.length_append];omega
 rw[if_neg h1];by_cases h2:k=2
 ·rw[if_pos h2,leaf (by omega)]
  have:0<(Go.Lib.formatBool (n==1)).length:=by cases (n==1)<;>decide
  simp only[St.lay,List.length_append];omega
 rw[if_neg h2];by_cases h3:k=3
 ·rw[if_pos h3,leaf (by omega)];simp only[St.lay,List.length_append,List.length_cons,List.length_nil];omega
 rw[if_neg h3];by_cases h4:k=4\/k=23
 ·rw[if_pos h4,leaf (by omega)]
  have:0<nm.length:=by
   have hm2:aX nm=true:=by
    unfold cr at hm;rw[if_pos (by simp only[Bool.or_eq_true,beq_iff_eq];omega)] at hm;exact hm
   cases nm with
   | nil=>simp[aX] at hm2
   | cons _ _=>simp
  simp only[St.lay,List.length_append];omega
 rw[if_neg h4];by_cases h22:k=22
 ·rw[if_pos h22,leaf (by omega)];simp only[St.lay,List.length_append,List.length_cons,List.length_nil];omega
 rw[if_neg h22];have hop:(dS k).isSome=true/\f.len=2:=by
  have h5:¬k=23:=fun e=>h4 (.inr e);have h6':¬k=4:=fun e=>h4 (.inl e);have h9:(dS k).isSome=true/\(f.len:Int)=2:=by simpa [aR,h1,h2,h3,h5,h6',h22,h6,h7,h24,h21,h19,h20,h25] using hk
  exact⟨h9.1,by omega⟩
 have h8:=hK (opS k) s;have h9:(opS k 1).1.length<=mO f (opS k) 0:=AQ (i:=0) (by omega);have h10:2<=(opS k 1).1.length:=by
  unfold opS;cases ho:dS k with
  | none=>rw[ho] at hop;cases hop.1
  | some x=>simp
 omega
theorem xI:∀ (f:Fs) (first:Bool) (g:Sep) (i:Nat) (s:St),okS f first=true->s.t.length+f.size+mO f g i<=(wFs f g i s).t.length
 | ⟨none⟩,first,g,i,s,h=>by simp[Fs.size,mO,wFs]
 | ⟨some ⟨k,n,nm,a,ks,r⟩⟩,first,g,i,s,h=>by
  simp only[okS,Bool.and_eq_true] at h;obtain⟨⟨⟨hv,hs⟩,hk⟩,hr⟩:=h;have h1:=fun s'=>sN (s:=s') (k:=k) (n:=n) (nm:=nm) (f:=ks) (K:=fun g s=>wFs ks g 0 s) (by simp only[Bool.and_eq_true];exact hv) (fun g s=>xI ks _ g 0 s hk);have h2:(s.lay (g i).1).t.length+ks.size+1<=(wE k n nm (g i).2 (fun g s=>wFs ks g 0 s) (s.lay (g i).1)).t.length:=by
   unfold wE;split
   ·have:=h1 ((s.lay (g i).1).ent.lay [40])
    simp only[St.lea,St.lay,St.ent,List.length_append] at this ⊢;omega
   ·exact h1 _
  have h3:=xI r false g (i+1) (wE k n nm (g i).2 (fun g s=>wFs ks g 0 s) (s.lay (g i).1)) hr;simp only[wFs,Fs.size,mO,St.lay,List.length_append] at h2 h3 ⊢;omega
def refA (e:Ex):Option (List UInt8):=(oEx e false (some ⟨[],0,0⟩)).map (·.t)
theorem Ds:di s0=some ⟨[],0,0⟩:=rfl
theorem zc (e:Ex):refA e=fu e:=by
 unfold refA fu oEx iv;rw[<-Ds];by_cases hs:bm e.k=true
 ·rw[if_pos hs,if_neg (by simp[hs])];rfl
 ·have hs2:bm e.k=false:=by simpa using hs
  rw[if_neg hs];have hE1:hE e 0=if (bS e.k e.n&&cr e.k e.nm&&aR e.k e.n e.kids.len)=true then hFs e.kids (e.k==21) (0+1) else none:=by unfold hE;rw[if_neg (by omega)]
  rw[hE1];by_cases hv:(bS e.k e.n&&cr e.k e.nm&&aR e.k e.n e.kids.len)=true
  ·rw[if_pos (show (bS e.k e.n&&cr e.k e.nm&&aR e.k e.n e.kids.len&&(bm e.k==false))=true by rw[hv,hs2];rfl),if_pos hv,rU _ _ _ (by omega)];have hw:wEx e 0 s0=kw e.k e.n e.nm (fun g s=>wFs e.kids g 0 s) s0:=by unfold wEx wE;rw[if_neg (by omega)]
   by_cases ho:okS e.kids (e.k==21)=true
   ·rw[qy (K:=fun g s=>wFs e.kids g 0 s) (fun g s hg=>by
     show oFs e.kids (e.k==21) g 0 (di s)=_;rw[mm e.kids (e.k==21) g 0 s (fun e=>hg (by simpa using e)),ho,cond_true]) s0,ho,Bool.true_and,<-hw]
    by_cases hr:qo (wEx e 0 s0)=true
    ·have hlb:=sN hv (fun g s=>xI e.kids (e.k==21) g 0 s ho) s0;rw[<-hw] at hlb;have hrr:=(li _).1 hr;have hs0:s0.t.length=0:=rfl;rw[show Nat.ble (0+1+e.kids.size) 2000=true from Nat.ble_eq_true_of_le (by omega),cond_true];simp only[di,hr,if_true];rfl
    ·rw[show di (wEx e 0 s0)=none from if_neg hr];cases hd:Nat.ble (0+1+e.kids.size) 2000 with
     | false=>rfl
     | true=>simp only[cond_true];rw[if_neg hr];rfl
   ·have ho2:okS e.kids (e.k==21)=false:=by simpa using ho
    rw[ho2,Bool.false_and,cond_false,ny (fun g s hg=>by
     show oFs e.kids (e.k==21) g 0 (di s)=_;rw[mm e.kids (e.k==21) g 0 s (fun e=>hg (by simpa using e)),ho2,cond_false]) (fun hk=>by
      have hkid:aR e.k e.n e.kids.len=true:=by simp only[Bool.and_eq_true] at hv;exact hv.2
      have hl:=lo hkid hk;cases hke:e.kids using Fs.on with
      | nil=>rw[hke] at ho;exact ho (by simp only[okS])
      | cons _ _ _ _ _ _=>rw[hke] at hl;simp[Fs.len] at hl) s0]
    rfl
  ·rw[if_neg (show ¬(bS e.k e.n&&cr e.k e.nm&&aR e.k e.n e.kids.len&&(bm e.k==false))=true from fun h=>hv (by rw[Bool.and_eq_true] at h;exact h.1)),if_neg hv];rfl
open Go.ChangeShapes Go.WideShapes Go.ChangeAt Go.RowKit
def WR (w:World)(o:Nat->Nat)(wb:Nat)(t:List UInt8)(oo qq:Int)(ok:Bool):Prop :=
 ∃v,Blk w o 1 wb (.cells #[v,.int .i64 oo,.int .i64 qq,.bool ok] 267 (0,0))/\Row w o 2 5 1 v t.length (byL t)
def WQ (w:World)(o:Nat->Nat)(wb:Nat):Ow->Prop
 | some s=>WR w o wb s.t (s.o:Nat) (s.q:Nat) true/\s.t.length<=2000/\s.o<=64/\s.q<=4
 | none=>∃t oo qq,WR w o wb t oo qq false/\t.length<=2000
theorem WR.step {I:Nat->Prop}{w w':World}{o o':Nat->Nat}{wb:Nat}{t:List UInt8}{oo qq:Int}{ok:Bool}(h:WR w o wb t oo qq ok)(s:aa I w o w' o')(h1:¬I 1)(h2:¬I 2):WR w' o' wb t oo qq ok:=by
 obtain⟨v,hb,hr⟩:=h;exact⟨v,hb.step s h1,hr.step s h2⟩
theorem WQ.step {I:Nat->Prop}{w w':World}{o o':Nat->Nat}{wb:Nat}{st:Ow}(h:WQ w o wb st)(s:aa I w o w' o')(h1:¬I 1)(h2:¬I 2):WQ w' o' wb st:=by
 match st,h with
 | some x,h=>exact⟨h.1.step s h1 h2,h.2⟩
 | none,⟨t,oo,qq,h,hl⟩=>exact⟨t,oo,qq,h.step s h1 h2,hl⟩
theorem WQ.raw {w:World}{o:Nat->Nat}{wb:Nat}{st:Ow}(h:WQ w o wb st):∃t oo qq ok,WR w o wb t oo qq ok/\t.length<=2000:=by
 match st,h with
 | some x,h=>exact⟨_,_,_,_,h.1,h.2.1⟩
 | none,⟨t,oo,qq,h,hl⟩=>exact⟨t,oo,qq,_,h,hl⟩
theorem WR.cells {w:World}{o:Nat->Nat}{wb:Nat}{t:List UInt8}{oo qq:Int}{ok:Bool}(h:WR w o wb t oo qq ok):w.cell? ⟨wb,1,none⟩=some (.int .i64 oo)/\w.cell? ⟨wb,2,none⟩=some (.int .i64 qq)/\w.cell? ⟨wb,3,none⟩=some (.bool ok)/\∀ j,w.frozen? ⟨wb,j,none⟩=false:=by
 obtain⟨v,hb,hr⟩:=h;obtain⟨c0,c1,c2,c3,cf⟩:=Blk.cells4 hb;exact⟨c1,c2,c3,cf⟩
theorem WR.set {w:World}{o:Nat->Nat}{wb:Nat}{t:List UInt8}{oo qq:Int}{ok:Bool}(h:WR w o wb t oo qq ok) :
  (∀ oo',WR (w.setCell ⟨wb,1,none⟩ (.int .i64 oo')) o wb t oo' qq ok)/\(∀ qq',WR (w.setCell ⟨wb,2,none⟩ (.int .i64 qq')) o wb t oo qq' ok)/\(∀ ok',WR (w.setCell ⟨wb,3,none⟩ (.bool ok')) o wb t oo qq ok'):=by
 obtain⟨v,hb,hr⟩:=h;have s:∀ (j:Nat) (u:Value),aa (fun k=>k=1) w o (w.setCell ⟨wb,j,none⟩ u) o:=fun j u=>bT _ w o ⟨wb,j,none⟩ u hb.2;exact⟨fun oo'=>⟨v,hb.set 1 _,hr.step (s 1 _) (by decide)⟩,fun qq'=>⟨v,hb.set 2 _,hr.step (s 2 _) (by decide)⟩,fun ok'=>⟨v,hb.set 3 _,hr.step (s 3 _) (by decide)⟩⟩
theorem WR.setS {w:World}{o:Nat->Nat}{wb:Nat}{t:List UInt8}{oo qq:Int}{ok:Bool}(h:WR w o wb t oo qq ok)(j:Nat)(u:Value):aa I12 w o (w.setCell ⟨wb,j,none⟩ u) o:=by
 obtain⟨v,hb,hr⟩:=h;exact bT _ w o ⟨wb,j,none⟩ u (.inl hb.2)
def Co (w:World)(o:Nat->Nat)(wb:Nat)(t s:List UInt8)(oo qq:Int)(ok:Bool)(e:Ending)(w':World):Prop :=
 e=.returned (.tuple #[])/\∃o',aa I12 w o w' o'/\((2000<t.length+s.length/\WR w' o' wb t oo qq false)\/(t.length+s.length<=2000/\WR w' o' wb (t++s) oo qq ok))
theorem pm {w:World}{o:Nat->Nat}{wb:Nat}{t:List UInt8}{oo qq:Int}{ok:Bool}(s:List UInt8)(h:WR w o wb t oo qq ok)(ht:t.length<=2000)(hs:s.length<=1000000) :
  Calls Tryz.prog 270 #[.pointer (some ⟨wb,0,none⟩),stv s] w (Co w o wb t s oo qq ok):=by
 have hset:=h.set.2.2 false;have hst:=h.setS 3 (.bool false);obtain⟨v,hb,hr⟩:=h;obtain⟨c0,c1,c2,c3,cf⟩:=Blk.cells4 hb;obtain⟨ao,cap,rfl⟩:=hr.form;have hsz:=fF s;by_cases hl:2000<t.length+s.length
 ·have hlI:(2000:Int)<(t.length:Int)+(s.length:Int):=by omega
  have FIN:Hid (∀ wx,wx=w.setCell ⟨wb,3,none⟩ (.bool false)->Co w o wb t s oo qq ok (.returned (.tuple #[])) wx):=fun wx e=>by subst e;exact⟨rfl,o,hst,.inl ⟨hl,hset⟩⟩
  clear hset hst hb hr;go_enter Tryz.func270,Tryz.ntmps270;go_wp2
  (try simp only[Exit.inBlock,Exit.then])
  refine bodyPost_ret (results_none rfl _ _ _) rfl ?_;exact FIN.out _ rfl
 ·have hlI:¬(2000:Int)<(t.length:Int)+(s.length:Int):=by omega
  obtain⟨ii,hii,hz0,hz1,hz2⟩:=aH DB;clear hset hst;go_enter Tryz.func270,Tryz.ntmps270;go_wp2_with (first|(at_builtin;refine jg rfl (.tmp 20) (.tmp 21) 180 9 rfl 5 ii Tryz.underlying180 Tryz.underlying9 hii hz0 hz1 hz2 o 2 _ t.length (byL t) rfl hr ⟨s.toArray⟩ rfl ?c1 ?c2 ?_)|go_in)
  case c1=>unfold maxLen;omega
  case c2=>omega
  intro v' w' o' hr' hst;obtain⟨ao',cap',rfl⟩:=hr'.form;have hb':=hb.step hst (by decide);obtain⟨d0,d1,d2,d3,df⟩:=Blk.cells4 hb';have hb2:=hb'.set 0 (.slice ao' (t.length+s.length) cap');have s2:aa I12 w' o' (w'.setCell ⟨wb,0,none⟩ (.slice ao' (t.length+s.length) cap')) o':=bT I12 w' o' ⟨wb,0,none⟩ (.slice ao' (t.length+s.length) cap') (.inl hb'.2);have s3:=(hst.mono (fun k hk=>(.inr hk:I12 k))).trans s2;have s4:aa (fun k=>k=1) w' o' (w'.setCell ⟨wb,0,none⟩ (.slice ao' (t.length+s.length) cap')) o':=bT _ w' o' ⟨wb,0,none⟩ (.slice ao' (t.length+s.length) cap') hb'.2;have hr2:=hr'.step s4 (by decide);rw[Br] at hr2;have hr3:Row (w'.setCell ⟨wb,0,none⟩ (.slice ao' (t.length+s.length) cap')) o' 2 5 1 (.slice ao' (t.length+s.length) cap') (t++s).length (byL (t++s)):=by
   rw[List.length_append];exact hr2
  have FIN:Hid (∀ wx,wx=w'.setCell ⟨wb,0,none⟩ (.slice ao' (t.length+s.length) cap')->Co w o wb t s oo qq ok (.returned (.tuple #[])) wx):=fun wx e=>by subst e;exact⟨rfl,o',s3,.inr ⟨by omega,_,hb2,hr3⟩⟩
  clear hr2 hst s2 s4 hr' hb hr c0 c1 c2 c3 cf hb2 hr3 s3 hb';go_wp2
  go_end0
  exact FIN.out _ rfl
def eQ (w:World)(o:Nat->Nat)(wb:Nat)(st:Ow)(e:Ending)(w':World):Prop:=e=.returned (.tuple #[])/\∃o',WQ w' o' wb st/\aa I12 w o w' o'
theorem cF {w:World}{o:Nat->Nat}{wb:Nat}{st:Ow}(s:List UInt8)(h:WQ w o wb st)(hs:s.length<=1000000) :
  Calls Tryz.prog 270 #[.pointer (some ⟨wb,0,none⟩),stv s] w (eQ w o wb (aM s st)):=by
 match st,h with
 | some x,h =>
  refine(pm s h.1 h.2.1 hs).mono ?_;rintro e w' ⟨rfl,o',st',hh⟩;refine⟨rfl,o',?_,st'⟩;rcases hh with ⟨hl,hw⟩|⟨hl,hw⟩
  ·rw[show aM s (some x)=none by simp[aM,hl]];exact⟨_,_,_,hw,h.2.1⟩
  ·rw[show aM s (some x)=some ⟨x.t++s,x.o,x.q⟩ by simp[aM];omega];exact⟨hw,by simp only[List.length_append];exact hl,h.2.2⟩
 | none,⟨t,oo,qq,h,hl⟩ =>
  refine(pm s h hl hs).mono ?_;rintro e w' ⟨rfl,o',st',hh⟩;refine⟨rfl,o',?_,st'⟩;rcases hh with ⟨hl2,hw⟩|⟨hl2,hw⟩
  ·exact⟨_,_,_,hw,hl⟩
  ·exact⟨_,_,_,hw,by simp only[List.length_append];exact hl2⟩
theorem WQ.ent {w:World}{o:Nat->Nat}{wb:Nat}{st:Ow}(h:WQ w o wb st):∃oo:Int,w.cell? ⟨wb,1,none⟩=some (.int .i64 oo)/\(∀ j,w.frozen? ⟨wb,j,none⟩=false)/\aa I12 w o (w.setCell ⟨wb,1,none⟩ (.int .i64 (wrap64 (oo+1)))) o /\
  ((64<wrap64 (oo+1)/\WQ ((w.setCell ⟨wb,1,none⟩ (.int .i64 (wrap64 (oo+1)))).setCell ⟨wb,3,none⟩ (.bool false)) o wb (aU st))\/(¬64<wrap64 (oo+1)/\WQ (w.setCell ⟨wb,1,none⟩ (.int .i64 (wrap64 (oo+1)))) o wb (aU st))):=by
 match st,h with
 | some x,h =>
  obtain⟨c1,c2,c3,cf⟩:=h.1.cells;refine⟨_,c1,cf,h.1.setS 1 _,?_⟩;have e:wrap64 ((x.o:Nat)+1)=((x.o+1:Nat):Int):=by have:=h.2.2.1;unfold wrap64;omega
  have hw:=h.1.set.1 (wrap64 ((x.o:Nat)+1));by_cases hl:64<x.o+1
  ·refine .inl ⟨by rw[e];omega,?_⟩;rw[show aU (some x)=none by simp[aU,hl]];exact⟨_,_,_,hw.set.2.2 false,h.2.1⟩
  ·refine .inr ⟨by rw[e];omega,?_⟩;rw[show aU (some x)=some ⟨x.t,x.o+1,x.q⟩ by simp[aU,hl]];rw[e] at hw ⊢;exact⟨hw,h.2.1,by show x.o+1<=64;omega,h.2.2.2⟩
 | none,⟨t,oo,qq,h,hl⟩ =>
  obtain⟨c1,c2,c3,cf⟩:=h.cells;refine⟨_,c1,cf,h.setS 1 _,?_⟩;have hw:=h.set.1 (wrap64 (oo+1));by_cases hl2:64<wrap64 (oo+1)
  ·exact .inl ⟨hl2,t,_,_,hw.set.2.2 false,hl⟩
  ·exact .inr ⟨hl2,t,_,_,hw,hl⟩
theorem WQ.qen {w:World}{o:Nat->Nat}{wb:Nat}{st:Ow}(h:WQ w o wb st):∃oo:Int,w.cell? ⟨wb,2,none⟩=some (.int .i64 oo)/\(∀ j,w.frozen? ⟨wb,j,none⟩=false)/\aa I12 w o (w.setCell ⟨wb,2,none⟩ (.int .i64 (wrap64 (oo+1)))) o /\
  ((4<wrap64 (oo+1)/\WQ ((w.setCell ⟨wb,2,none⟩ (.int .i64 (wrap64 (oo+1)))).setCell ⟨wb,3,none⟩ (.bool false)) o wb (fY st))\/(¬4<wrap64 (oo+1)/\WQ (w.setCell ⟨wb,2,none⟩ (.int .i64 (wrap64 (oo+1)))) o wb (fY st))):=by
 match st,h with
 | some x,h =>
  obtain⟨c1,c2,c3,cf⟩:=h.1.cells;refine⟨_,c2,cf,h.1.setS 2 _,?_⟩;have e:wrap64 ((x.q:Nat)+1)=((x.q+1:Nat):Int):=by have:=h.2.2.2;unfold wrap64;omega
  have hw:=h.1.set.2.1 (wrap64 ((x.q:Nat)+1));by_cases hl:4<x.q+1
  ·refine .inl ⟨by rw[e];omega,?_⟩;rw[show fY (some x)=none by simp[fY,hl]];exact⟨_,_,_,hw.set.2.2 false,h.2.1⟩
  ·refine .inr ⟨by rw[e];omega,?_⟩;rw[show fY (some x)=some ⟨x.t,x.o,x.q+1⟩ by simp[fY,hl]];rw[e] at hw ⊢;exact⟨hw,h.2.1,h.2.2.1,by show x.q+1<=4;omega⟩
 | none,⟨t,oo,qq,h,hl⟩ =>
  obtain⟨c1,c2,c3,cf⟩:=h.cells;refine⟨_,c2,cf,h.setS 2 _,?_⟩;have hw:=h.set.2.1 (wrap64 (qq+1));by_cases hl2:4<wrap64 (qq+1)
  ·exact .inl ⟨hl2,t,_,_,hw.set.2.2 false,hl⟩
  ·exact .inr ⟨hl2,t,_,_,hw,hl⟩
def Bal (st st':Ow):Prop:=∀ s',st'=some s'->∃s,st=some s/\s'.o=s.o/\s'.q=s.q
theorem WQ.lea {w:World}{o:Nat->Nat}{wb:Nat}{st:Ow}(h:WQ w o wb st)(hp:∀ s,st=some s->1<=s.o):∃oo:Int,w.cell? ⟨wb,1,none⟩=some (.int .i64 oo)/\(∀ j,w.frozen? ⟨wb,j,none⟩=false)/\aa I12 w o (w.setCell ⟨wb,1,none⟩ (.int .i64 (wrap64 (oo-1)))) o/\WQ (w.setCell ⟨wb,1,none⟩ (.int .i64 (wrap64 (oo-1)))) o wb (dN st):=by
 match st,h with
 | some x,h =>
  obtain⟨c1,c2,c3,cf⟩:=h.1.cells;refine⟨_,c1,cf,h.1.setS 1 _,?_⟩;have h1:=hp x rfl;have e:wrap64 ((x.o:Nat)-1)=((x.o-1:Nat):Int):=by have:=h.2.2.1;unfold wrap64;omega
  rw[e];exact⟨h.1.set.1 _,h.2.1,by show x.o-1<=64;have:=h.2.2.1;omega,h.2.2.2⟩
 | none,⟨t,oo,qq,h,hl⟩ =>
  obtain⟨c1,c2,c3,cf⟩:=h.cells;exact⟨_,c1,cf,h.setS 1 _,t,_,_,h.set.1 _,hl⟩
theorem WQ.qle {w:World}{o:Nat->Nat}{wb:Nat}{st:Ow}(h:WQ w o wb st)(hp:∀ s,st=some s->1<=s.q):∃oo:Int,w.cell? ⟨wb,2,none⟩=some (.int .i64 oo)/\(∀ j,w.frozen? ⟨wb,j,none⟩=false)/\aa I12 w o (w.setCell ⟨wb,2,none⟩ (.int .i64 (wrap64 (oo-1)))) o/\WQ (w.setCell ⟨wb,2,none⟩ (.int .i64 (wrap64 (oo-1)))) o wb (qG st):=by
 match st,h with
 | some x,h =>
  obtain⟨c1,c2,c3,cf⟩:=h.1.cells;refine⟨_,c2,cf,h.1.setS 2 _,?_⟩;have h1:=hp x rfl;have e:wrap64 ((x.q:Nat)-1)=((x.q-1:Nat):Int):=by have:=h.2.2.2;unfold wrap64;omega
  rw[e];exact⟨h.1.set.2.1 _,h.2.1,h.2.2.1,by show x.q-1<=4;have:=h.2.2.2;omega⟩
 | none,⟨t,oo,qq,h,hl⟩ =>
  obtain⟨c1,c2,c3,cf⟩:=h.cells;exact⟨_,c2,cf,h.setS 2 _,t,_,_,h.set.2.1 _,hl⟩
theorem WQ.end {w:World}{o:Nat->Nat}{wb:Nat}{st:Ow}(h:WQ w o wb st):w.cell? ⟨wb,3,none⟩=some (.bool st.isSome)/\(∀ j,w.frozen? ⟨wb,j,none⟩=false)/\aa I12 w o (w.setCell ⟨wb,3,none⟩ (.bool false)) o/\WQ (w.setCell ⟨wb,3,none⟩ (.bool false)) o wb none:=by
 match st,h with
 | some x,h =>
  obtain⟨c1,c2,c3,cf⟩:=h.1.cells;exact⟨c3,cf,h.1.setS 3 _,_,_,_,h.1.set.2.2 false,h.2.1⟩
 | none,⟨t,oo,qq,h,hl⟩ =>
  obtain⟨c1,c2,c3,cf⟩:=h.cells;exact⟨c3,cf,h.setS 3 _,_,_,_,h.set.2.2 false,hl⟩
theorem fi {w:World}{o:Nat->Nat}{wb:Nat}{st:Ow}(s:List UInt8)(h:WQ w o wb st)(hs:s.length<=1000000) :
  Calls Tryz.prog 272 #[.pointer (some ⟨wb,0,none⟩),stv s] w (eQ w o wb (aM s (aU st))):=by
 obtain⟨oo,c1,cf,S1,hh⟩:=h.ent;obtain⟨w1,hw1⟩:∃w1,w1=w.setCell ⟨wb,1,none⟩ (.int .i64 (wrap64 (oo+1))):=⟨_,rfl⟩
 have d1:w1.cell? ⟨wb,1,none⟩=some (.int .i64 (wrap64 (oo+1))):=by rw[hw1];exact World.cell?_setCell_same _ _ _ c1
 have df:∀ j,w1.frozen? ⟨wb,j,none⟩=false:=fun j=>by rw[hw1];exact(World.frozen?_setCell ..).trans (cf j)
 have d3:w1.cell? ⟨wb,3,none⟩=some (.bool st.isSome):=by rw[hw1];exact(World.cell?_setCell_other _ _ _ _ (by simp)).trans h.end.1
 rw[<-hw1] at hh S1;obtain⟨W,hW⟩:∃W,W=aM s (aU st):=⟨_,rfl⟩
 rw[<-hW];have HW:Hid (W=aM s (aU st)):=hW;clear hW h;rcases hh with ⟨hl,hq⟩|⟨hl,hq⟩
 ·have S2:aa I12 w o (w1.setCell ⟨wb,3,none⟩ (.bool false)) o:=by
   obtain⟨t,oo2,qq,ok,hr,_⟩:=hq.raw;refine S1.trans ?_;obtain⟨v,hb,_⟩:=hr;exact bT _ w1 o ⟨wb,3,none⟩ _ (.inl hb.2)
  have c2:=cF s hq hs;rw[<-HW.out] at c2;clear hq S1 HW;go_enter Tryz.func272,Tryz.ntmps272;go_upto_region 1 with fail;rw[<-hw1];clear hw1;go_upto_region 3 with fail;generalize w1.setCell ⟨wb,3,none⟩ (.bool false)=w2 at *;clear d1 df d3 c1 cf;go_wp2_with fail;refine c2.mono ?_;rintro e w3 ⟨rfl,o3,h3,s3⟩;have S3:=S2.trans s3;clear c2 S2 s3;go_wp2
  go_end0
  exact⟨rfl,o3,h3,S3⟩
 ·have c2:=cF s hq hs;rw[<-HW.out] at c2;clear hq HW;go_enter Tryz.func272,Tryz.ntmps272;go_upto_region 1 with fail;rw[<-hw1];clear hw1 c1 cf;go_wp2_with fail;refine c2.mono ?_;rintro e w3 ⟨rfl,o3,h3,s3⟩;have S3:=S1.trans s3;clear c2 S1 s3;go_wp2
  go_end0
  exact⟨rfl,o3,h3,S3⟩
def grt (r:Nat):Bool:=decide (65<=r)&&decide (r<=90)
theorem fd (r:Nat)(w:World)(hr:r<256) :
  Calls Tryz.prog 120 #[.int .u8 (r:Nat)] w fun e w'=>e=.returned (.bool (dig r))/\w'=w:=by
 by_cases h1:48<=r
 ·have g1:(48:Int)<=(r:Int):=by omega
  by_cases h2:r<=57
  ·have g2:(r:Int)<=57:=by omega
   have e0:dig r=true:=by simp[dig,h1,h2]
   rw[e0];clear e0;go_enter Tryz.func120,Tryz.ntmps120;go_wp2;go_ret;exact⟨rfl,rfl⟩
  ·have g2:¬(r:Int)<=57:=by omega
   have g3:decide ((r:Int)<=57)=false:=decide_eq_false g2;have e0:dig r=false:=by simp[dig];omega
   rw[e0];clear e0;go_enter Tryz.func120,Tryz.ntmps120;go_wp2;go_ret;exact⟨rfl,rfl⟩
 ·have g1:¬(48:Int)<=(r:Int):=by omega
  have e0:dig r=false:=by simp[dig];omega
  rw[e0];clear e0;go_enter Tryz.func120,Tryz.ntmps120;go_wp2;go_ret;exact⟨rfl,rfl⟩
theorem fe (r:Nat)(w:World)(hr:r<256) :
  Calls Tryz.prog 123 #[.int .u8 (r:Nat)] w fun e w'=>e=.returned (.bool (sml r))/\w'=w:=by
 by_cases h1:97<=r
 ·have g1:(97:Int)<=(r:Int):=by omega
  by_cases h2:r<=122
  ·have g2:(r:Int)<=122:=by omega
   have e0:sml r=true:=by simp[sml,h1,h2]
   rw[e0];clear e0;go_enter Tryz.func123,Tryz.ntmps123;go_wp2;go_ret;exact⟨rfl,rfl⟩
  ·have g2:¬(r:Int)<=122:=by omega
   have g3:decide ((r:Int)<=122)=false:=decide_eq_false g2;have e0:sml r=false:=by simp[sml];omega
   rw[e0];clear e0;go_enter Tryz.func123,Tryz.ntmps123;go_wp2;go_ret;exact⟨rfl,rfl⟩
 ·have g1:¬(97:Int)<=(r:Int):=by omega
  have e0:sml r=false:=by simp[sml];omega
  rw[e0];clear e0;go_enter Tryz.func123,Tryz.ntmps123;go_wp2;go_ret;exact⟨rfl,rfl⟩
theorem nr (r:Nat)(w:World)(hr:r<256) :
  Calls Tryz.prog 124 #[.int .u8 (r:Nat)] w fun e w'=>e=.returned (.bool (grt r))/\w'=w:=by
 by_cases h1:65<=r
 ·have g1:(65:Int)<=(r:Int):=by omega
  by_cases h2:r<=90
  ·have g2:(r:Int)<=90:=by omega
   have e0:grt r=true:=by simp[grt,h1,h2]
   rw[e0];clear e0;go_enter Tryz.func124,Tryz.ntmps124;go_wp2;go_ret;exact⟨rfl,rfl⟩
  ·have g2:¬(r:Int)<=90:=by omega
   have g3:decide ((r:Int)<=90)=false:=decide_eq_false g2;have e0:grt r=false:=by simp[grt];omega
   rw[e0];clear e0;go_enter Tryz.func124,Tryz.ntmps124;go_wp2;go_ret;exact⟨rfl,rfl⟩
 ·have g1:¬(65:Int)<=(r:Int):=by omega
  have e0:grt r=false:=by simp[grt];omega
  rw[e0];clear e0;go_enter Tryz.func124,Tryz.ntmps124;go_wp2;go_ret;exact⟨rfl,rfl⟩
theorem BH (r:Nat)(w:World)(hr:r<256) :
  Calls Tryz.prog 62 #[.int .u8 (r:Nat)] w fun e w'=>e=.returned (.bool (blk r))/\w'=w:=by
 by_cases h0:r=32
 ·subst h0;have e0:blk 32=true:=by rfl
  rw[e0];clear e0;go_enter Tryz.func62,Tryz.ntmps62;go_wp2;go_ret;exact⟨rfl,rfl⟩
 by_cases h1:r=9
 ·subst h1;clear h0;have e0:blk 9=true:=by rfl
  rw[e0];clear e0;go_enter Tryz.func62,Tryz.ntmps62;go_wp2;go_ret;exact⟨rfl,rfl⟩
 by_cases h2:r=10
 ·subst h2;clear h0;clear h1;have e0:blk 10=true:=by rfl
  rw[e0];clear e0;go_enter Tryz.func62,Tryz.ntmps62;go_wp2;go_ret;exact⟨rfl,rfl⟩
 by_cases h3:r=13
 ·subst h3;clear h0;clear h1;clear h2;have e0:blk 13=true:=by rfl
  rw[e0];clear e0;go_enter Tryz.func62,Tryz.ntmps62;go_wp2;go_ret;exact⟨rfl,rfl⟩
 have e0:blk r=false:=by simp[blk];omega
 have g0:¬(r:Int)=32:=by omega
 have g1:¬(r:Int)=9:=by omega
 have g2:¬(r:Int)=10:=by omega
 have g3:¬(r:Int)=13:=by omega
 clear h0 h1 h2 h3;rw[e0];clear e0;go_enter Tryz.func62,Tryz.ntmps62;go_wp2;go_ret;refine⟨?_,rfl⟩;simp[g0,g1,g2,g3]
abbrev si:Array Value:=#[.string ⟨#[97,108,108]⟩,.string ⟨#[97,110,100]⟩,.string ⟨#[97,114,111,117,110,100]⟩,.string ⟨#[98,108,111,99,107]⟩,.string ⟨#[98,111,116,116,108,101,110,101,99,107]⟩,.string ⟨#[99,111,110,110,101,99,116,101,100]⟩,.string ⟨#[99,111,117,110,116]⟩,.string ⟨#[100,101,103,114,101,101]⟩,.string ⟨#[101,108,115,101]⟩,.string ⟨#[102,97,108,115,101]⟩,.string ⟨#[105,102]⟩,.string ⟨#[105,110]⟩,.string ⟨#[108,101,97,115,116]⟩,.string ⟨#[109,97,120]⟩,.string ⟨#[109,105,110]⟩,.string ⟨#[109,111,115,116]⟩,.string ⟨#[110,111,116]⟩,.string ⟨#[111,114]⟩,.string ⟨#[114,101,112]⟩,.string ⟨#[115,105,122,101]⟩,.string ⟨#[115,111,109,101]⟩,.string ⟨#[115,117,109]⟩,.string ⟨#[116,104,101,110]⟩,.string ⟨#[116,111,116,97,108]⟩,.string ⟨#[116,114,117,101]⟩,.string ⟨#[118,97,108,117,101]⟩,.string ⟨#[118,101,114,116,105,99,101,115]⟩]
theorem vj (k:Nat)(hk:k<27):si[k]?=some (.string (wd k)):=by
 match k,hk with
 | 0,_=>rfl
 | 1,_=>rfl
 | 2,_=>rfl
 | 3,_=>rfl
 | 4,_=>rfl
 | 5,_=>rfl
 | 6,_=>rfl
 | 7,_=>rfl
 | 8,_=>rfl
 | 9,_=>rfl
 | 10,_=>rfl
 | 11,_=>rfl
 | 12,_=>rfl
 | 13,_=>rfl
 | 14,_=>rfl
 | 15,_=>rfl
 | 16,_=>rfl
 | 17,_=>rfl
 | 18,_=>rfl
 | 19,_=>rfl
 | 20,_=>rfl
 | 21,_=>rfl
 | 22,_=>rfl
 | 23,_=>rfl
 | 24,_=>rfl
 | 25,_=>rfl
 | 26,_=>rfl
 | n+27,h=>omega
theorem sD (s:ByteArray)(w:World)(hs:s.size<=maxLen) :
  Calls Tryz.prog 125 #[.string s] w fun e w'=>e=.returned (.bool (ew s.data.toList))/\Below w.heap.size w w':=by
 obtain⟨w1,hw1⟩:∃w1,w1=w.alloc (.cells si 9):=⟨_,rfl⟩
 have hce:∀ k,k<27->w1.cell? ⟨w.heap.size,k,none⟩=some (.string (wd k)):=fun k hk=>by
  rw[hw1,cell_of_row _ _ _ _ _ _ (heap_alloc_new w _),vj k hk]
 have hbe:Below w.heap.size w w1:=by rw[hw1];exact b1 _ _
 have HW:Hid (w1=w.alloc (.cells si 9)):=hw1;have HC:=Lib.hid hce;clear hw1 hce;go_enter Tryz.func125,Tryz.ntmps125;go_upto_region 2 with fail;rw[show w.alloc _=w1 from HW.out.symm];clear HW;go_wp2_with fail;go_loopw [4] (fun v wr=>∃k:Nat,k<=27/\v=.int .i64 (k:Nat)/\(∀ j,j<k->s≠wd j)/\wr=w1) (fun v _=>27-(intOf v).toNat)
 case atStart=>exact⟨0,by omega,by go_num,fun j hj=>by omega,rfl⟩
 case round =>
  obtain⟨k,hk,rfl,hin,rfl⟩:=hrel;by_cases hlt:k<27
  ·have ix:=HC.out k hlt;have hkI:(k:Int)<27:=by omega
   by_cases he:s=wd k
   ·have fin:ew s.data.toList=true:=nh k hlt (by rw[he];rfl);rw[<-he] at ix;clear he HC hin;go_wp2;go_ret;exact⟨by rw[fin];rfl,hbe⟩
   ·have hin':∀ j,j<k+1->s≠wd j:=fun j hj=>by
     by_cases e:j=k
     ·subst e;exact he
     ·exact hin j (by omega)
    have heb:((wd k).toList==s.toList)=false:=yd (fun e=>he e.symm);generalize wd k=t at ix he heb;clear HC hin;go_wp2;go_roundw
    case rel=>(try ((repeat apply Exists.intro);refine⟨?_,rfl⟩));exact⟨k+1,by omega,by go_num,hin',by trivial⟩
    case measure=>simp[intOf];omega
  ·obtain rfl:k=27:=by omega
   clear HC;have fin:ew s.data.toList=false:=pO fun j hj e=>hin j hj (mv.1 (by rw[e];rfl));go_wp2;go_ret;exact⟨by rw[fin];rfl,hbe⟩
theorem ol (s:ByteArray)(w:World)(hs:s.size<=maxLen) :
  Calls Tryz.prog 126 #[.string s] w fun e w'=>e=.returned (.bool (aX s.data.toList))/\Below w.heap.size w w':=by
 have hs':=hs;unfold maxLen at hs;have HL:Hid (s.data.toList.length=s.size):=bR s;by_cases h0:s.size<1
 ·have fin:aX s.data.toList=false:=by rw[<-Bool.not_eq_true,dL];rintro ⟨h,_⟩;have:=HL.out;omega
  rw[fin];clear fin;have h0I:(s.size:Int)<1:=by omega
  go_enter Tryz.func126,Tryz.ntmps126;go_wp2;go_ret;exact⟨rfl,b0 _⟩
 ·have h0I:¬(s.size:Int)<1:=by omega
  by_cases h12:12<s.size
  ·have fin:aX s.data.toList=false:=by rw[<-Bool.not_eq_true,dL];rintro ⟨_,h,_⟩;have:=HL.out;omega
   rw[fin];clear fin;have h12I:(12:Int)<(s.size:Int):=by omega
   go_enter Tryz.func126,Tryz.ntmps126;go_wp2;go_ret;exact⟨rfl,b0 _⟩
  ·have h12I:¬(12:Int)<(s.size:Int):=by omega
   have hpos:0<s.size:=by omega
   have hpl:0<s.data.toList.length:=by have:=HL.out;omega
   have hb0:(s[0]'hpos).toNat<256:=UInt8.toNat_lt _;cases h1:sml (s[0]'hpos).toNat
   ·have fin:aX s.data.toList=false:=gW 0 hpl (by rw[bL s 0 hpos hpl];simp[nmc,h1]);rw[fin];clear fin;go_enter Tryz.func126,Tryz.ntmps126;go_wp2_with (go_at_call 123;refine(fe _ _ hb0).mono ?_;rw[h1];rintro e w1 ⟨rfl,rfl⟩);go_ret;exact⟨rfl,b0 _⟩
   ·have H0:Hid (nmc 0 s[0]=true):=by show _=_;simp[nmc,h1]
    go_enter Tryz.func126,Tryz.ntmps126;go_wp2_with (go_at_call 123;refine(fe _ _ hb0).mono ?_;rw[h1];rintro e w1 ⟨rfl,rfl⟩);go_loopw [3] (fun v wr=>∃k:Nat,v=.int .i64 (k:Nat)/\k<=s.size/\(∀ j (h:j<s.data.toList.length),j<k->nmc j s.data.toList[j]=true)/\wr=w1) (fun v _=>s.size-(intOf v).toNat)
    case atStart=>exact⟨0,by go_num,by omega,fun j _ h=>by omega,rfl⟩
    case round =>
     obtain⟨k,rfl,hk,hin,rfl⟩:=hrel;by_cases hlt:k<s.size
     ·have hkl:k<s.data.toList.length:=by have:=HL.out;omega
      have hkI:(k:Int)<(s.size:Int):=by omega
      have hbk:(s[k]'hlt).toNat<256:=UInt8.toNat_lt _;have hex:nmc k s.data.toList[k]=nmc k s[k]:=by rw[bL s k hlt hkl]
      have hcase:nmc k s[k]=(sml (s[k]).toNat||dig (s[k]).toNat||(s[k]).toNat==95):=by
       by_cases hk0:k=0
       ·subst hk0;rw[H0.out,h1];rfl
       ·have hb:(k != 0)=true:=by simpa using hk0
        simp[nmc,hb,Bool.or_assoc]
      have hgo:(sml (s[k]).toNat||dig (s[k]).toNat||(s[k]).toNat==95)=true->∀ j (h:j<s.data.toList.length),j<k+1->nmc j s.data.toList[j]=true:=fun hx j h hj=>by
       by_cases e:j=k
       ·subst e;rw[hex,hcase];exact hx
       ·exact hin j h (by omega)
      have hno:(sml (s[k]).toNat||dig (s[k]).toNat||(s[k]).toNat==95)=false->aX s.data.toList=false:=fun hx=>gW k hkl (by rw[hex,hcase];exact hx);have HG:Hid (((sml (s[k]).toNat||dig (s[k]).toNat||(s[k]).toNat==95)=true->∀ j (h:j<s.data.toList.length),j<k+1->nmc j s.data.toList[j]=true)/\((sml (s[k]).toNat||dig (s[k]).toNat||(s[k]).toNat==95)=false->aX s.data.toList=false)):=⟨hgo,hno⟩
      clear hex hcase hgo hno hin;cases h2:sml (s[k]'hlt).toNat
      ·cases h3:dig (s[k]'hlt).toNat
       ·by_cases h4:(s[k]'hlt).toNat=95
        ·have RL:=HG.out.1 (by simp[h4]);have H4:=Lib.hid h4;clear HG h4;go_wp2_with (first|(go_at_call 123;refine(fe _ _ hbk).mono ?_;rw[h2];rintro e w1 ⟨rfl,rfl⟩)|(go_at_call 120;refine(fd _ _ hbk).mono ?_;rw[h3];rintro e w1 ⟨rfl,rfl⟩;have h4:=H4.out;clear h2 h3 hbk));go_roundw
         case rel=>(try ((repeat apply Exists.intro);refine⟨?_,rfl⟩));exact⟨k+1,by go_num,by omega,RL,by trivial⟩
         case measure=>simp[intOf];omega
        ·have fin:aX s.data.toList=false:=HG.out.2 (by simp[h2,h3,h4]);have h4I:¬((s[k]'hlt).toNat:Int)=95:=by omega
         have h4b:(((s[k]'hlt).toNat:Int)==95)=false:=by simpa using h4I
         clear HG h4;go_wp2_with (first|(go_at_call 123;refine(fe _ _ hbk).mono ?_;rw[h2];rintro e w1 ⟨rfl,rfl⟩)|(go_at_call 120;refine(fd _ _ hbk).mono ?_;rw[h3];rintro e w1 ⟨rfl,rfl⟩));go_ret;exact⟨by rw[fin];rfl,b0 _⟩
       ·have RL:=HG.out.1 (by simp[h3]);clear HG;go_wp2_with (first|(go_at_call 123;refine(fe _ _ hbk).mono ?_;rw[h2];rintro e w1 ⟨rfl,rfl⟩)|(go_at_call 120;refine(fd _ _ hbk).mono ?_;rw[h3];rintro e w1 ⟨rfl,rfl⟩));go_roundw
        case rel=>(try ((repeat apply Exists.intro);refine⟨?_,rfl⟩));exact⟨k+1,by go_num,by omega,RL,by trivial⟩
        case measure=>simp[intOf];omega
      ·have RL:=HG.out.1 (by simp[h2]);clear HG;go_wp2_with (go_at_call 123;refine(fe _ _ hbk).mono ?_;rw[h2];rintro e w1 ⟨rfl,rfl⟩);go_roundw
       case rel=>(try ((repeat apply Exists.intro);refine⟨?_,rfl⟩));exact⟨k+1,by go_num,by omega,RL,by trivial⟩
       case measure=>simp[intOf];omega
     ·obtain rfl:k=s.size:=by omega
      have fin:aX s.data.toList=!wordB s.data.toList:=by
       have hl:=HL.out;cases hw:ew s.data.toList
       ·exact(dL _).2 ⟨by omega,by omega,fun j h=>hin j h (by omega),hw⟩
       ·show _=false;rw[<-Bool.not_eq_true,dL];rintro ⟨_,_,_,h⟩;rw[hw] at h;cases h
      clear hin;go_wp2_with (go_at_call 125;refine(sD s _ hs').mono ?_;rintro e w1 ⟨rfl,hbx⟩);go_ret;exact⟨by rw[fin];rfl,hbx⟩
end Go.Proofs.YtbjdkekhnajafaaGreatDoor

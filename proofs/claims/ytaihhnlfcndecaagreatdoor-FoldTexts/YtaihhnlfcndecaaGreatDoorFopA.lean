import Derived.Test.YtaihhnlfcndecaaGreatDoorRulG
set_option maxRecDepth 100000
set_option maxHeartbeats 8000000
namespace Go.Proofs.YtaihhnlfcndecaaGreatDoor
set_option linter.unusedVariables false
set_option linter.unusedSimpArgs false
def TyF:Fs->List Int->Prop
 | ⟨none⟩,l=>l=[]
 | ⟨some ⟨k,n,nm,a,ks,r⟩⟩,l=>∃t ts kd,l=t::ts/\TyF ks kd/\(formP k n kd).1=kd/\(formP k n kd).2=t/\t≠0/\(k=2->n=0\/n=1)/\(k=1->In64 n)/\TyF r ts
def TyE (e:Ex)(t:Int):Prop:=∃kd,TyF e.kids kd/\(formP e.k e.n kd).1=kd/\(formP e.k e.n kd).2=t/\t≠0/\(e.k=2->e.n=0\/e.n=1)/\(e.k=1->In64 e.n)
theorem TyF_cons {x:Ex}{r:Fs}{l:List Int}:TyF (Fs.ex x r) l ↔ ∃t ts,l=t::ts/\TyE x t/\TyF r ts:=by
 constructor
 ·rintro ⟨t,ts,kd,h1,h2,h3,h4,h5,h6,h7,h8⟩;exact⟨t,ts,h1,⟨kd,h2,h3,h4,h5,h6,h7⟩,h8⟩
 ·rintro ⟨t,ts,h1,⟨kd,h2,h3,h4,h5,h6,h7⟩,h8⟩;exact⟨t,ts,kd,h1,h2,h3,h4,h5,h6,h7,h8⟩
theorem Fs.casesE (f:Fs):f=.nil\/∃x r,f=Fs.ex x r:=by
 cases f using Fs.on with
 | nil=>exact .inl rfl
 | cons k n nm a ks r=>exact .inr ⟨⟨k,n,nm,a,ks⟩,r,rfl⟩
theorem TyF_one {f:Fs}{t:Int}(h:TyF f [t]):∃x,f=Fs.ex x .nil/\TyE x t:=by
 rcases f.casesE with rfl|⟨x,r,rfl⟩
 ·cases h
 ·obtain⟨t',ts,h1,h2,h3⟩:=TyF_cons.1 h;injection h1 with h4 h5
  subst h4;subst h5;rcases r.casesE with rfl|⟨y,q,rfl⟩
  ·exact⟨x,rfl,h2⟩
  ·obtain⟨_,_,h6,_⟩:=TyF_cons.1 h3;cases h6
theorem TyF_two {f:Fs}{t u:Int}(h:TyF f [t,u]):∃x y,f=Fs.ex x (Fs.ex y .nil)/\TyE x t/\TyE y u:=by
 rcases f.casesE with rfl|⟨x,r,rfl⟩
 ·cases h
 ·obtain⟨t',ts,h1,h2,h3⟩:=TyF_cons.1 h;injection h1 with h4 h5
  subst h4;subst h5;obtain⟨y,rfl,h6⟩:=TyF_one h3;exact⟨x,y,rfl,h2,h6⟩
theorem TyF_three {f:Fs}{t u v:Int}(h:TyF f [t,u,v]):∃x y z,f=Fs.ex x (Fs.ex y (Fs.ex z .nil))/\TyE x t/\TyE y u/\TyE z v:=by
 rcases f.casesE with rfl|⟨x,r,rfl⟩
 ·cases h
 ·obtain⟨t',ts,h1,h2,h3⟩:=TyF_cons.1 h;injection h1 with h4 h5
  subst h4;subst h5;obtain⟨y,z,rfl,h6,h7⟩:=TyF_two h3;exact⟨x,y,z,rfl,h2,h6,h7⟩
theorem TyF_len:∀ {f:Fs}{l:List Int},TyF f l->l.length=f.len
 | ⟨none⟩,l,h=>by have h:l=[]:=h;rw[h];rfl
 | ⟨some ⟨k,n,nm,a,ks,r⟩⟩,l,h=>by
  obtain⟨t,ts,kd,rfl,-,-,-,-,-,-,h8⟩:=h;simp only[List.length_cons,TyF_len h8,Fs.len]
theorem formP_1 (n:Int)(kd:List Int):formP 1 n kd=([],1):=by simp[formP]
theorem formP_2 (n:Int)(kd:List Int):formP 2 n kd=([],2):=by simp[formP]
theorem formP_7 (n:Int)(kd:List Int):formP 7 n kd=([2],2):=by simp[formP]
theorem TyE.k1 {x:Ex}{t:Int}(h:TyE x t)(hk:x.k=1):t=1:=by
 obtain⟨kd,-,-,h3,-⟩:=h;rw[hk,formP_1] at h3;exact h3.symm
theorem TyE.k2 {x:Ex}{t:Int}(h:TyE x t)(hk:x.k=2):t=2/\(x.n=0\/x.n=1):=by
 obtain⟨kd,-,-,h3,-,h5,-⟩:=h;rw[hk,formP_2] at h3;exact⟨h3.symm,h5 hk⟩
theorem TyE.k7 {x:Ex}{t:Int}(h:TyE x t)(hk:x.k=7):t=2/\∃y,x.kids=Fs.ex y .nil/\TyE y 2:=by
 obtain⟨kd,h1,h2,h3,-⟩:=h;rw[hk,formP_7] at h2 h3;subst h2;obtain⟨y,h4,h5⟩:=TyF_one h1;exact⟨h3.symm,y,h4,h5⟩
theorem TyE.num {v:Int}(h:In64 v):TyE (numE v) 1:=⟨[],rfl,by simp[numE,formP],by simp[numE,formP],by decide,(fun h=>by cases h),fun _=>h⟩
theorem TyE.bol {v:Int}(h:v=0\/v=1):TyE ⟨2,v,[],0,.nil⟩ 2:=⟨[],rfl,by simp[formP],by simp[formP],by decide,fun _=>h,fun h=>by cases h⟩
theorem trI_01 (b:Bool):trI b=0\/trI b=1:=by cases b;exact .inl rfl;exact .inr rfl
theorem TyE.tru (b:Bool):TyE (truE b) 2:=TyE.bol (trI_01 b)
def opE (e x y:Ex):Ex :=
 match (if cnE x&&cnE y then rckP e.k x.n y.n else none) with
 | some v=>⟨ckE e.k,v,[],0,.nil⟩
 | none =>
  if e.k=7 then (if x.k=7 then x.kids.head else e)
  else if e.k=8/\isE x 1 0=true then y
  else if (e.k=8\/e.k=9)/\isE y 1 0=true then x
  else if e.k=10/\isE x 1 1=true then y
  else if (e.k=10\/e.k=11)/\isE y 1 1=true then x
  else e
def siE (e x:Ex):Ex :=
 if e.k=6 then (if x.k=1/\x.n≠-9223372036854775808 then numE (-x.n) else e)
 else if e.k=7 then (if x.k=2 then truE (x.n==0) else if x.k=7 then x.kids.head else e)
 else (if x.k=1\/x.k=2 then x else e)
def nuE (e x y:Ex):Ex :=
 match (if x.k=1/\y.k=1 then rckP e.k x.n y.n else none) with
 | some v=>numE v
 | none =>
  if e.k=8/\isE x 1 0=true then y
  else if (e.k=8\/e.k=9)/\isE y 1 0=true then x
  else if e.k=10/\isE x 1 1=true then y
  else if (e.k=10\/e.k=11)/\isE y 1 1=true then x
  else e
def qdE (e x y:Ex):Ex :=
 if e.n=1/\((x.k=25/\x.kids.len=0)\/(x.k=22/\isE y 2 1=true)) then truE true
 else if e.n=2/\((x.k=25/\x.kids.len=0)\/(x.k=22/\isE y 2 0=true)) then truE false
 else if e.n=3/\((x.k=25/\x.kids.len=0)\/(x.k=22/\isE y 2 0=true)) then numE 0
 else if e.n=4/\(x.k=25/\x.kids.len=0) then numE 0
 else e
theorem inI_iff (x:Int):inI x=true ↔ In64 x:=by simp[inI,In64]
theorem okI_some {x v:Int}(h:okI x=some v):v=x/\In64 x:=by
 unfold okI at h;split at h
 ·rename_i h2
  injection h with h
  exact⟨h.symm,(inI_iff x).1 h2⟩
 ·cases h
theorem rck_num {k a b v:Int}(hk:k=6\/(8<=k/\k<=12))(ha:In64 a)(h:rckP k a b=some v):In64 v:=by
 unfold rckP at h;split at h
 ·obtain⟨rfl,h2⟩:=okI_some h;exact h2
 ·split at h
  ·omega
  ·split at h
   ·obtain⟨rfl,h2⟩:=okI_some h;exact h2
   ·split at h
    ·obtain⟨rfl,h2⟩:=okI_some h;exact h2
    ·split at h
     ·obtain⟨rfl,h2⟩:=okI_some h;exact h2
     ·split at h
      ·split at h
       ·cases h
       ·obtain⟨rfl,h2⟩:=okI_some h;exact h2
      ·split at h
       ·split at h
        ·cases h
        ·injection h with h
         subst h
         rename_i hb
         exact tmod_in ha hb
       ·omega
def rulP (e:Ex):Ex :=
 if 6<=e.k/\e.k<=16 then opE e (e.kid 0) (if e.k=6\/e.k=7 then e.kid 0 else e.kid 1)
 else if e.k=17 then coE e (e.kid 0) (e.kid 1) 0
 else if e.k=18 then coE e (e.kid 0) (e.kid 1) 1
 else if e.k=19 then chE e (e.kid 0) (e.kid 1) (e.kid 2)
 else if e.k=21 then qnE e (e.kid 0) (e.kid 1)
 else if e.k=26 then (if cnE (e.kid 0) then e.kid 0 else e)
 else e
def rulD (e:Ex):Ex :=
 if e.k=6\/e.k=7\/e.k=26 then siE e (e.kid 0)
 else if 8<=e.k/\e.k<=12 then nuE e (e.kid 0) (e.kid 1)
 else if 13<=e.k/\e.k<=16 then cmE e (e.kid 0) (e.kid 1)
 else if e.k=17\/e.k=18 then joE e (e.kid 0) (e.kid 1) (if e.k=18 then 0 else 1)
 else if e.k=19 then (if (e.kid 0).k=2 then (if (e.kid 0).n=1 then e.kid 1 else e.kid 2) else e)
 else if e.k=21 then qdE e (e.kid 0) (e.kid 1)
 else e
theorem kid_1 {e x:Ex}{r:Fs}(h:e.kids=Fs.ex x r):e.kid 0=x:=by unfold Ex.kid;rw[h];rfl
theorem kid_2 {e x y:Ex}{r:Fs}(h:e.kids=Fs.ex x (Fs.ex y r)):e.kid 1=y:=by unfold Ex.kid;rw[h];rfl
theorem kid_3 {e x y z:Ex}{r:Fs}(h:e.kids=Fs.ex x (Fs.ex y (Fs.ex z r))):e.kid 2=z:=by unfold Ex.kid;rw[h];rfl
theorem isE_iff (e:Ex)(k n:Int):isE e k n=true ↔ e.k=k/\e.n=n:=by simp[isE]
theorem cnE_iff (e:Ex):cnE e=true ↔ e.k=1\/e.k=2:=by simp[cnE]
theorem rul_same {e:Ex}{t:Int}(h:TyE e t):rulD e=rulP e/\TyE (rulP e) t:=by
 obtain⟨kd,hF,hf1,hf2,ht,hb,hn⟩:=h;have hE:TyE e t:=⟨kd,hF,hf1,hf2,ht,hb,hn⟩
 by_cases k6:e.k=6
 ·have hform:formP e.k e.n kd=([1],1):=by rw[k6];simp[formP]
  rw[hform] at hf1 hf2;subst hf1;subst hf2;obtain⟨x,hk,hx⟩:=TyF_one hF;have e0:=kid_1 hk;have hx2:x.k≠2:=fun h=>by have:=(hx.k2 h).1;omega
  have hP:rulP e=opE e x x:=by unfold rulP;rw[if_pos (by omega),e0,if_pos (.inl k6)]
  have hD:rulD e=siE e x:=by unfold rulD;rw[if_pos (.inl k6),e0]
  rw[hP,hD];unfold siE opE;rw[if_pos k6];by_cases hx1:x.k=1
  ·have hxn:In64 x.n:=by obtain⟨_,_,_,_,_,_,h7⟩:=hx;exact h7 hx1
   have hc:cnE x=true:=(cnE_iff x).2 (.inl hx1);have hr:rckP e.k x.n x.n=okI (0-x.n):=by unfold rckP;rw[if_pos k6]
   simp only[hc,Bool.and_true,if_true];rw[hr];by_cases hl:x.n=-9223372036854775808
   ·have ho:okI (0-x.n)=none:=by unfold okI;rw[if_neg];rw[inI_iff];unfold In64;omega
    rw[ho,if_neg (fun h=>h.2 hl)];simp only;rw[if_neg (by omega),if_neg (by omega),if_neg (by omega),if_neg (by omega),if_neg (by omega)];exact⟨rfl,hE⟩
   ·have ho:okI (0-x.n)=some (0-x.n):=by unfold okI;rw[if_pos];rw[inI_iff];unfold In64 at hxn ⊢;omega
    rw[ho,if_pos ⟨hx1,hl⟩];simp only;have hck:ckE e.k=1:=by unfold ckE;rw[if_pos (.inl k6)]
    rw[hck];have he:(0-x.n)=-x.n:=by omega
    rw[he];exact⟨rfl,TyE.num (by unfold In64 at hxn ⊢;omega)⟩
  ·have hc:cnE x=false:=by rw[Bool.eq_false_iff];intro h;rcases (cnE_iff x).1 h with h|h;exact hx1 h;exact hx2 h
   simp only[hc,Bool.and_false,if_false,Bool.false_eq_true];rw[if_neg (fun h=>hx1 h.1),if_neg (by omega),if_neg (by omega),if_neg (by omega),if_neg (by omega),if_neg (by omega)];exact⟨rfl,hE⟩
 by_cases k7:e.k=7
 ·have hform:formP e.k e.n kd=([2],2):=by rw[k7];simp[formP]
  rw[hform] at hf1 hf2;subst hf1;subst hf2;obtain⟨x,hk,hx⟩:=TyF_one hF;have e0:=kid_1 hk;have hx1:x.k≠1:=fun h=>by have:=hx.k1 h;omega
  have hP:rulP e=opE e x x:=by unfold rulP;rw[if_pos (by omega),e0,if_pos (.inr k7)]
  have hD:rulD e=siE e x:=by unfold rulD;rw[if_pos (.inr (.inl k7)),e0]
  rw[hP,hD];unfold siE opE;rw[if_neg k6,if_pos k7];by_cases hx2:x.k=2
  ·have hc:cnE x=true:=(cnE_iff x).2 (.inr hx2);have hr:rckP e.k x.n x.n=some (trI (x.n==0)):=by unfold rckP;rw[if_neg k6,if_pos k7]
   simp only[hc,Bool.and_true,if_true];rw[hr,if_pos hx2];simp only;have hck:ckE e.k=2:=by unfold ckE;rw[if_neg (by omega)]
   rw[hck];exact⟨rfl,TyE.bol (trI_01 _)⟩
  ·have hc:cnE x=false:=by rw[Bool.eq_false_iff];intro h;rcases (cnE_iff x).1 h with h|h;exact hx1 h;exact hx2 h
   simp only[hc,Bool.and_false,if_false,Bool.false_eq_true];rw[if_neg hx2,if_pos k7];by_cases hx7:x.k=7
   ·rw[if_pos hx7];obtain⟨-,y,hy,hy2⟩:=hx.k7 hx7;rw[hy];exact⟨rfl,hy2⟩
   ·rw[if_neg hx7];exact⟨rfl,hE⟩
 by_cases kn:8<=e.k/\e.k<=12
 ·have hform:formP e.k e.n kd=([1,1],1):=by
   unfold formP;rw[if_neg (by omega),if_neg (by omega),if_neg (by omega),if_neg (by omega),if_neg (by omega),if_pos kn]
  rw[hform] at hf1 hf2;subst hf1;subst hf2;obtain⟨x,y,hk,hx,hy⟩:=TyF_two hF;have e0:=kid_1 hk;have e1:=kid_2 hk;have hx2:x.k≠2:=fun h=>by have:=(hx.k2 h).1;omega
  have hy2:y.k≠2:=fun h=>by have:=(hy.k2 h).1;omega
  have hP:rulP e=opE e x y:=by unfold rulP;rw[if_pos (by omega),e0,e1,if_neg (by omega)]
  have hD:rulD e=nuE e x y:=by unfold rulD;rw[if_neg (by omega),if_pos kn,e0,e1]
  rw[hP,hD];unfold nuE opE;have hcc:(if (cnE x&&cnE y)=true then rckP e.k x.n y.n else none)=(if x.k=1/\y.k=1 then rckP e.k x.n y.n else none):=by
   by_cases hxy:x.k=1/\y.k=1
   ·rw[if_pos hxy,if_pos (by rw[(cnE_iff x).2 (.inl hxy.1),(cnE_iff y).2 (.inl hxy.2)];rfl)]
   ·rw[if_neg hxy,if_neg];rw[Bool.and_eq_true,cnE_iff,cnE_iff];rintro ⟨h1,h2⟩;exact hxy ⟨h1.resolve_right hx2,h2.resolve_right hy2⟩
  rw[hcc];cases hr:(if x.k=1/\y.k=1 then rckP e.k x.n y.n else none) with
  | some v =>
   simp only;have hck:ckE e.k=1:=by unfold ckE;rw[if_pos (.inr kn)]
   rw[hck];refine⟨rfl,TyE.num ?_⟩;split at hr
   ·rename_i hxy
    exact rck_num (.inr kn) (by obtain⟨_,_,_,_,_,_,h7⟩:=hx;exact h7 hxy.1) hr
   ·cases hr
  | none =>
   simp only;rw[if_neg k7];refine⟨rfl,?_⟩;split
   ·exact hy
   ·split
    ·exact hx
    ·split
     ·exact hy
     ·split
      ·exact hx
      ·exact hE
 by_cases kc:13<=e.k/\e.k<=16
 ·have hP:rulP e=opE e (e.kid 0) (e.kid 1):=by unfold rulP;rw[if_pos (by omega),if_neg (by omega)]
  have hD:rulD e=cmE e (e.kid 0) (e.kid 1):=by unfold rulD;rw[if_neg (by omega),if_neg (by omega),if_pos kc]
  obtain⟨x,y,u,hk,hx,hy,ht2⟩:∃x y u,e.kids=Fs.ex x (Fs.ex y .nil)/\TyE x u/\TyE y u/\t=2:=by
   by_cases h15:e.k=15\/e.k=16
   ·have hform:formP e.k e.n kd=([1,1],2):=by
     unfold formP;rw[if_neg (by omega),if_neg (by omega),if_neg (by omega),if_neg (by omega),if_neg (by omega),if_neg (by omega),if_pos h15]
    rw[hform] at hf1 hf2;subst hf1;obtain⟨x,y,h1,h2,h3⟩:=TyF_two hF;exact⟨x,y,1,h1,h2,h3,hf2.symm⟩
   ·have hform:formP e.k e.n kd=([wkP kd 0,wkP kd 0],2):=by
     unfold formP;rw[if_neg (by omega),if_neg (by omega),if_neg (by omega),if_neg (by omega),if_neg (by omega),if_neg (by omega),if_neg h15,if_neg (by omega),if_pos (by omega)]
    rw[hform] at hf1 hf2;simp only at hf1 hf2;have hF2:TyF e.kids [wkP kd 0,wkP kd 0]:=by rw[hf1];exact hF
    obtain⟨x,y,h1,h2,h3⟩:=TyF_two hF2;exact⟨x,y,_,h1,h2,h3,hf2.symm⟩
  subst ht2;have e0:=kid_1 hk;have e1:=kid_2 hk;rw[e0,e1] at hP hD;rw[hP,hD];unfold cmE opE;by_cases hcx:x.k=1\/x.k=2
  ·by_cases hcy:y.k=1\/y.k=2
   ·have hkk:x.k=y.k:=by
     rcases hcx with h1|h1<;>rcases hcy with h2|h2
     ·omega
     ·have:=hx.k1 h1;have:=(hy.k2 h2).1;omega
     ·have:=(hx.k2 h1).1;have:=hy.k1 h2;omega
     ·omega
    rw[if_neg (by omega),(cnE_iff x).2 hcx,(cnE_iff y).2 hcy];have hr:rckP e.k x.n y.n=some (trI (cmB e.k x.n y.n)):=by
     unfold rckP cmB;rw[if_neg (by omega),if_neg (by omega),if_neg (by omega),if_neg (by omega),if_neg (by omega),if_neg (by omega),if_neg (by omega)];split
     ·rfl
     ·split
      ·rfl
      ·split<;>rfl
    simp only[Bool.and_true,if_true];rw[hr];simp only;have hck:ckE e.k=2:=by unfold ckE;rw[if_neg (by omega)]
    rw[hck];exact⟨rfl,TyE.bol (trI_01 _)⟩
   ·have hc:cnE y=false:=by rw[Bool.eq_false_iff];intro h;exact hcy ((cnE_iff y).1 h)
    rw[hc];simp only[Bool.and_false,if_false,Bool.false_eq_true];rw[if_pos (.inl (by omega)),if_neg (by omega),if_neg (by omega),if_neg (by omega),if_neg (by omega),if_neg (by omega)];exact⟨rfl,hE⟩
  ·have hc:cnE x=false:=by rw[Bool.eq_false_iff];intro h;exact hcx ((cnE_iff x).1 h)
   rw[hc];simp only[Bool.false_and,if_false,Bool.false_eq_true];rw[if_pos (.inr (by omega)),if_neg (by omega),if_neg (by omega),if_neg (by omega),if_neg (by omega),if_neg (by omega)];exact⟨rfl,hE⟩
 by_cases kj:e.k=17\/e.k=18
 ·have hform:formP e.k e.n kd=([2,2],2):=by
   unfold formP;rw[if_neg (by omega),if_neg (by omega),if_neg (by omega),if_neg (by omega),if_neg (by omega),if_neg (by omega),if_neg (by omega),if_pos kj]
  rw[hform] at hf1 hf2;subst hf1;subst hf2;obtain⟨x,y,hk,hx,hy⟩:=TyF_two hF;have e0:=kid_1 hk;have e1:=kid_2 hk;have hP:rulP e=coE e x y (if e.k=18 then 1 else 0):=by
   unfold rulP;rw[if_neg (by omega),e0,e1];rcases kj with h|h
   ·rw[if_pos h,if_neg (by omega)]
   ·rw[if_neg (by omega),if_pos h,if_pos h]
  have hD:rulD e=joE e x y (if e.k=18 then 0 else 1):=by unfold rulD;rw[if_neg (by omega),if_neg (by omega),if_neg (by omega),if_pos kj,e0,e1]
  rw[hP,hD];have hs:∃s:Int,(s=0\/s=1)/\(if e.k=18 then (1:Int) else 0)=s/\(if e.k=18 then (0:Int) else 1)=1-s:=by
   by_cases h:e.k=18
   ·exact⟨1,.inr rfl,if_pos h,by rw[if_pos h];rfl⟩
   ·exact⟨0,.inl rfl,if_neg h,by rw[if_neg h];rfl⟩
  obtain⟨s,hs,h1,h2⟩:=hs;rw[h1,h2];unfold joE coE;have hxn:x.k=2->x.n=0\/x.n=1:=fun h=>(hx.k2 h).2;refine⟨?_,?_⟩
  ·by_cases hx2:x.k=2
   ·rcases hxn hx2 with h0|h0
    ·rcases hs with rfl|rfl
     ·have a1:isE x 2 (1-0)=false:=by rw[Bool.eq_false_iff];intro h;have:=((isE_iff x 2 (1-0)).1 h).2;omega
      have a2:isE x 2 0=true:=(isE_iff x 2 0).2 ⟨hx2,h0⟩;simp only[a1,a2,if_true,if_false,Bool.false_eq_true,hx2]
     ·have a1:isE x 2 (1-1)=true:=(isE_iff x 2 (1-1)).2 ⟨hx2,by omega⟩;have a2:isE x 2 1=false:=by rw[Bool.eq_false_iff];intro h;have:=((isE_iff x 2 1).1 h).2;omega
      simp only[a1,a2,if_true,if_false,Bool.false_eq_true]
    ·rcases hs with rfl|rfl
     ·have a1:isE x 2 (1-0)=true:=(isE_iff x 2 (1-0)).2 ⟨hx2,by omega⟩;have a2:isE x 2 0=false:=by rw[Bool.eq_false_iff];intro h;have:=((isE_iff x 2 0).1 h).2;omega
      simp only[a1,a2,if_true,if_false,Bool.false_eq_true]
     ·have a1:isE x 2 (1-1)=false:=by rw[Bool.eq_false_iff];intro h;have:=((isE_iff x 2 (1-1)).1 h).2;omega
      have a2:isE x 2 1=true:=(isE_iff x 2 1).2 ⟨hx2,h0⟩;simp only[a1,a2,if_true,if_false,Bool.false_eq_true,hx2]
   ·have a:∀ m,isE x 2 m=false:=fun m=>by rw[Bool.eq_false_iff];intro h;exact hx2 ((isE_iff x 2 m).1 h).1
    simp only[a,if_false,Bool.false_eq_true,hx2]
  ·split
   ·exact hx
   ·split
    ·exact hy
    ·split
     ·exact hx
     ·exact hE
 by_cases k19:e.k=19
 ·have hform:formP e.k e.n kd=([2,wkP kd 1,wkP kd 1],wkP kd 1):=by rw[k19];simp[formP]
  rw[hform] at hf1 hf2;simp only at hf1 hf2;have hF2:TyF e.kids [2,wkP kd 1,wkP kd 1]:=by rw[hf1];exact hF
  rw[hf2] at hF2;obtain⟨x,y,z,hk,hx,hy,hz⟩:=TyF_three hF2;have e0:=kid_1 hk;have e1:=kid_2 hk;have e2:=kid_3 hk;have hP:rulP e=chE e x y z:=by unfold rulP;rw[if_neg (by omega),if_neg (by omega),if_neg (by omega),if_pos k19,e0,e1,e2]
  have hD:rulD e=(if x.k=2 then (if x.n=1 then y else z) else e):=by unfold rulD;rw[if_neg (by omega),if_neg (by omega),if_neg (by omega),if_neg (by omega),if_pos k19,e0,e1,e2]
  rw[hP,hD];unfold chE;refine⟨?_,?_⟩
  ·by_cases hx2:x.k=2
   ·rw[if_pos hx2];rcases (hx.k2 hx2).2 with h0|h0
    ·have a1:isE x 2 1=false:=by rw[Bool.eq_false_iff];intro h;have:=((isE_iff x 2 1).1 h).2;omega
     have a2:isE x 2 0=true:=(isE_iff x 2 0).2 ⟨hx2,h0⟩;rw[if_neg (by omega)];simp only[a1,a2,if_true,if_false,Bool.false_eq_true]
    ·have a1:isE x 2 1=true:=(isE_iff x 2 1).2 ⟨hx2,h0⟩;rw[if_pos h0];simp only[a1,if_true]
   ·have a:∀ m,isE x 2 m=false:=fun m=>by rw[Bool.eq_false_iff];intro h;exact hx2 ((isE_iff x 2 m).1 h).1
    simp only[a,if_false,Bool.false_eq_true,hx2]
  ·split
   ·exact hy
   ·split
    ·exact hz
    ·exact hE
 by_cases k21:e.k=21
 ·obtain⟨x,y,u,hk,hy⟩:∃x y u,e.kids=Fs.ex x (Fs.ex y .nil)/\TyE y u:=by
   have hl:kd.length=2:=by
    rw[<-hf1,k21];simp only[formP];simp;split
    ·rfl
    ·split<;>rfl
   match kd,hl with
   | [p,q],_ =>
    obtain⟨x,y,h1,-,h3⟩:=TyF_two hF;exact⟨x,y,q,h1,h3⟩
  have e0:=kid_1 hk;have e1:=kid_2 hk;have hP:rulP e=qnE e x y:=by unfold rulP;rw[if_neg (by omega),if_neg (by omega),if_neg (by omega),if_neg (by omega),if_pos k21,e0,e1]
  have hD:rulD e=qdE e x y:=by unfold rulD;rw[if_neg (by omega),if_neg (by omega),if_neg (by omega),if_neg (by omega),if_neg (by omega),if_pos k21,e0,e1]
  rw[hP,hD];have htn:t=if e.n=1\/e.n=2 then 2 else 1:=by
   rw[<-hf2,k21];simp only[formP];simp;split
   ·rfl
   ·split<;>rfl
  refine⟨?_,?_⟩
  ·unfold qdE qnE unE idE;by_cases n1:e.n=1
   ·simp only[n1,if_true,true_and,show ¬((1:Int)=2) by decide,show ¬((1:Int)=3) by decide,show ¬((1:Int)=4) by decide,false_and,if_false]
   ·by_cases n2:e.n=2
    ·simp only[n2,if_true,true_and,show ¬((2:Int)=1) by decide,show ¬((2:Int)=3) by decide,show ¬((2:Int)=4) by decide,false_and,if_false,true_or]
    ·by_cases n3:e.n=3
     ·simp only[n3,if_true,true_and,show ¬((3:Int)=1) by decide,show ¬((3:Int)=2) by decide,show ¬((3:Int)=4) by decide,false_and,if_false,or_true,true_or]
     ·by_cases n4:e.n=4
      ·simp only[n4,if_true,true_and,show ¬((4:Int)=1) by decide,show ¬((4:Int)=2) by decide,show ¬((4:Int)=3) by decide,false_and,if_false,or_true,false_or,Bool.false_eq_true,and_false,or_false]
      ·simp only[n1,n2,n3,n4,if_false,false_and,false_or,Bool.false_eq_true,and_false,or_false,ite_self]
  ·have hun:TyE (unE e) t:=by
    unfold unE;split
    ·rename_i h
     rw[htn,if_pos (.inl h)];exact TyE.tru true
    ·split
     ·rename_i h
      rw[htn,if_pos (.inr h)];exact TyE.tru false
     ·split
      ·rw[htn,if_neg (by omega)];exact TyE.num (by unfold In64;omega)
      ·exact hE
   unfold qnE;split
   ·exact hun
   ·exact hE
 by_cases k26:e.k=26
 ·have hform:formP e.k e.n kd=([wkP kd 0],wkP kd 0):=by rw[k26];simp[formP]
  rw[hform] at hf1 hf2;simp only at hf1 hf2;have hF2:TyF e.kids [wkP kd 0]:=by rw[hf1];exact hF
  rw[hf2] at hF2;obtain⟨x,hk,hx⟩:=TyF_one hF2;have e0:=kid_1 hk;have hP:rulP e=if cnE x=true then x else e:=by unfold rulP;rw[if_neg (by omega),if_neg (by omega),if_neg (by omega),if_neg (by omega),if_neg (by omega),if_pos k26,e0]
  have hD:rulD e=siE e x:=by unfold rulD;rw[if_pos (.inr (.inr k26)),e0]
  rw[hP,hD];unfold siE;rw[if_neg k6,if_neg k7];by_cases hc:x.k=1\/x.k=2
  ·rw[if_pos hc,if_pos ((cnE_iff x).2 hc)];exact⟨rfl,hx⟩
  ·rw[if_neg hc,if_neg (fun h=>hc ((cnE_iff x).1 h))];exact⟨rfl,hE⟩
 ·have hP:rulP e=e:=by unfold rulP;rw[if_neg (by omega),if_neg (by omega),if_neg (by omega),if_neg k19,if_neg k21,if_neg k26]
  have hD:rulD e=e:=by unfold rulD;rw[if_neg (by omega),if_neg (by omega),if_neg (by omega),if_neg kj,if_neg k19,if_neg k21]
  rw[hP,hD];exact⟨rfl,hE⟩
def fldF (rul:Ex->Ex):Fs->Fs
 | ⟨none⟩=>.nil
 | ⟨some ⟨k,n,nm,a,ks,r⟩⟩=>Fs.ex (rul ⟨k,n,nm,0,fldF rul ks⟩) (fldF rul r)
def fldE (rul:Ex->Ex)(e:Ex):Ex:=rul ⟨e.k,e.n,e.nm,0,fldF rul e.kids⟩
theorem fld_same:∀ {f:Fs}{l:List Int},TyF f l->fldF rulD f=fldF rulP f/\TyF (fldF rulP f) l
 | ⟨none⟩,l,h=>⟨rfl,h⟩
 | ⟨some ⟨k,n,nm,a,ks,r⟩⟩,l,h=>by
  obtain⟨t,ts,kd,rfl,h2,h3,h4,h5,h6,h7,h8⟩:=h;obtain⟨g1,g2⟩:=fld_same h2;obtain⟨g3,g4⟩:=fld_same h8;obtain⟨g5,g6⟩:=rul_same (e:=⟨k,n,nm,0,fldF rulP ks⟩) ⟨kd,g2,h3,h4,h5,h6,h7⟩;refine⟨?_,TyF_cons.2 ⟨t,ts,rfl,g6,g4⟩⟩;show Fs.ex (rulD ⟨k,n,nm,0,fldF rulD ks⟩) (fldF rulD r)=Fs.ex (rulP ⟨k,n,nm,0,fldF rulP ks⟩) (fldF rulP r);rw[g1,g3,g5]
theorem fldE_same {e:Ex}{t:Int}(h:TyE e t):fldE rulD e=fldE rulP e:=by
 obtain⟨kd,h2,h3,h4,h5,h6,h7⟩:=h;obtain⟨g1,g2⟩:=fld_same h2;obtain⟨g5,g6⟩:=rul_same (e:=⟨e.k,e.n,e.nm,0,fldF rulP e.kids⟩) ⟨kd,g2,h3,h4,h5,h6,h7⟩;unfold fldE;rw[g1,g5]
theorem rgF_ty (cells:List Int):∀ (f:Fs) (pk:Int) (i ar wi:Nat) (s s':Rg) (kd:List Int),rgF cells f pk i ar wi s=some (s',kd)->f.rng->TyF f kd
 | ⟨none⟩,pk,i,ar,wi,s,s',kd,h,hr=>by
  simp only[rgF] at h;injection h with h
  injection h with h1 h2
  exact h2.symm
 | ⟨some ⟨k,n,nm,a,ks,r⟩⟩,pk,i,ar,wi,s,s',kd,h,hr=>by
  have h0:rgF cells ⟨some ⟨k,n,nm,a,ks,r⟩⟩ pk i ar wi s=_:=rg_ex cells ⟨k,n,nm,a,ks⟩ r pk i ar wi s;rw[h0] at h;cases hx:rgE cells ⟨k,n,nm,a,ks⟩ (spotP pk i ar wi).1 (spotP pk i ar wi).2 s with
  | none=>rw[hx] at h;cases h
  | some z =>
   obtain⟨s2,k2⟩:=z;rw[hx] at h;simp only at h;cases hq:rgF cells r pk (i+1) ar wi s2 with
   | none=>rw[hq] at h;cases h
   | some z =>
    obtain⟨s3,rest⟩:=z;rw[hq] at h;injection h with h
    injection h with h1 h2
    subst h2;obtain⟨hg,s1,kd1,hk,hl,hf1,hf2,hk2,h6⟩:=rgE_inv hx;simp only at hk hf1 hf2 hk2;refine⟨k2,rest,kd1,rfl,rgF_ty cells ks k 0 _ _ _ _ _ hk hr.2.2.1,hf2,hk2.symm,by rw[hk2];exact hf1,?_,fun _=>⟨hr.1,hr.2.1⟩,rgF_ty cells r pk (i+1) ar wi _ _ _ hq hr.2.2.2⟩;rintro rfl;unfold gdE at hg;simp only[not_or] at hg
    have:=hg.2.2.2
    simp[nuP] at this;omega
theorem rgE_ty {cells:List Int}{e:Ex}{ar wi:Nat}{s s':Rg}{k:Int}(hx:rgE cells e ar wi s=some (s',k))(hn:In64 e.n)(hr:e.kids.rng):TyE e k:=by
 obtain⟨hg,s1,kd1,hk,hl,hf1,hf2,hk2,h6⟩:=rgE_inv hx;refine⟨kd1,rgF_ty cells _ _ 0 _ _ _ _ _ hk hr,hf2,hk2.symm,by rw[hk2];exact hf1,?_,fun _=>hn⟩;intro h2;unfold gdE at hg;simp only[not_or] at hg
 have:=hg.2.2.2
 rw[h2] at this;simp[nuP] at this;omega
open Go.ChangeShapes Go.WideShapes Go.ChangeAt Go.RowKit
theorem rule_hu {bx:Nat}{w v:World}(y:Ex)(ao:Option Addr)(cap:Nat)(Z:v.heap[bx+1]?=some (.cells #[.int .i64 0,.int .i64 0,.string ⟨#[]⟩,.slice none 0 0] 34 (0,0)))(B:Below bx w v) :
  Hid (∃wz,wz=(((v.setCell ⟨bx+1,0,none⟩ (.int .i64 y.k)).setCell ⟨bx+1,1,none⟩ (.int .i64 y.n)).setCell ⟨bx+1,2,none⟩ (stv y.nm)).setCell ⟨bx+1,3,none⟩ (.slice ao y.kids.len cap)/\wz.cell? ⟨bx+1,0,none⟩=some (.int .i64 y.k)/\wz.cell? ⟨bx+1,1,none⟩=some (.int .i64 y.n)/\wz.cell? ⟨bx+1,2,none⟩=some (stv y.nm)/\wz.cell? ⟨bx+1,3,none⟩=some (.slice ao y.kids.len cap)/\Below bx w wz):=by
 obtain⟨u0,u1,u2,u3,-⟩:=box4 (set4k (b0:=.int .i64 y.k) (b1:=.int .i64 y.n) (b2:=stv y.nm) (b3:=.slice ao y.kids.len cap) Z);exact⟨_,rfl,u0,u1,u2,u3,(((B.setCell (p:=⟨bx+1,0,none⟩) (Nat.le_succ _) _).setCell (p:=⟨bx+1,1,none⟩) (Nat.le_succ _) _).setCell (p:=⟨bx+1,2,none⟩) (Nat.le_succ _) _).setCell (p:=⟨bx+1,3,none⟩) (Nat.le_succ _) _⟩
theorem rule_hc {bx:Nat}{w u:World}(k v:Int)(Z:u.heap[bx+1]?=some (.cells #[.int .i64 0,.int .i64 0,.string ⟨#[]⟩,.slice none 0 0] 34 (0,0)))(B:Below bx w u) :
  Hid (∃wz,wz=(((u.setCell ⟨bx+1,0,none⟩ (.int .i64 k)).setCell ⟨bx+1,1,none⟩ (.int .i64 v)).setCell ⟨bx+1,2,none⟩ (.string ⟨#[]⟩)).setCell ⟨bx+1,3,none⟩ (.slice none 0 0)/\wz.cell? ⟨bx+1,0,none⟩=some (.int .i64 k)/\wz.cell? ⟨bx+1,1,none⟩=some (.int .i64 v)/\wz.cell? ⟨bx+1,2,none⟩=some (.string ⟨#[]⟩)/\wz.cell? ⟨bx+1,3,none⟩=some (.slice none 0 0)/\Below bx w wz):=rule_hu ⟨k,v,[],0,.nil⟩ none 0 Z B
theorem SlcN.kidM {P:Nat->Prop}{w:World}{d r:Fs}{y:Ex}{ao:Option Addr}{cap:Nat}(h:SlcN w P (d.app (Fs.ex y r)) ao cap):∃b a c,ao=some ⟨b,0,none⟩/\b<w.heap.size/\w.cell? ⟨b,d.len*4,none⟩=some (.int .i64 y.k)/\w.cell? ⟨b,d.len*4+1,none⟩=some (.int .i64 y.n)/\w.cell? ⟨b,d.len*4+2,none⟩=some (stv y.nm)/\w.cell? ⟨b,d.len*4+3,none⟩=some (.slice a y.kids.len c)/\SlcN w P y.kids a c:=by
 obtain⟨b,a,c,h1,h2,h3,h4,h5,h6,h7⟩:=SlcN.kidC (x:=d) h;exact⟨b,a,c,h1,h2,h3,h4,h5,h6,h7⟩
theorem opE_rest {e x y:Ex}(h:(if cnE x&&cnE y then rckP e.k x.n y.n else none)=none):opE e x y=if e.k=7 then (if x.k=7 then x.kids.head else e) else if e.k=8/\isE x 1 0=true then y else if (e.k=8\/e.k=9)/\isE y 1 0=true then x else if e.k=10/\isE x 1 1=true then y else if (e.k=10\/e.k=11)/\isE y 1 1=true then x else e:=by
 unfold opE;rw[h]
theorem opE_some {e x y:Ex}{v:Int}(h:(if cnE x&&cnE y then rckP e.k x.n y.n else none)=some v):opE e x y=⟨ckE e.k,v,[],0,.nil⟩:=by
 unfold opE;rw[h]
theorem operation_c (e x y:Ex)(ao:Option Addr)(cap:Nat)(P:Nat->Prop)(w:World)(hke:6<=e.k/\e.k<=16)(hk:(e.kids=Fs.ex x .nil/\y=x)\/e.kids=Fs.ex x (Fs.ex y .nil))(h77:e.k=7->x.k=7->∃z,x.kids=Fs.ex z .nil)(hxn:cnE x=true->In64 x.n)(hyn:cnE y=true->In64 y.n)(S:SlcN w P e.kids ao cap) :
  Calls Tryz.prog 111 #[exN e ao cap] w (PostRu w w P (opE e x y)):=by
 obtain⟨b,a0,c0,hao,hb,x0,x1,x2,x3,SX⟩:∃b a c,ao=some ⟨b,0,none⟩/\b<w.heap.size/\w.cell? ⟨b,0*4,none⟩=some (.int .i64 x.k)/\w.cell? ⟨b,0*4+1,none⟩=some (.int .i64 x.n)/\w.cell? ⟨b,0*4+2,none⟩=some (stv x.nm)/\w.cell? ⟨b,0*4+3,none⟩=some (.slice a x.kids.len c)/\SlcN w P x.kids a c:=by
  rcases hk with ⟨h,-⟩|h
  ·exact SlcN.kidM (d:=.nil) (y:=x) (by have S2:=S;rw[h] at S2;exact S2)
  ·exact SlcN.kidM (d:=.nil) (y:=x) (by have S2:=S;rw[h] at S2;exact S2)
 obtain⟨m,a1,c1,hml,hwl,y0,y1,y2,y3,SY⟩:∃(m:Nat) (a:Option Addr) (c:Nat),(m:Int)<(e.kids.len:Int)/\IntKind.i64.wrap ((e.kids.len:Int)-1)=(m:Int)/\w.cell? ⟨b,m*4,none⟩=some (.int .i64 y.k)/\w.cell? ⟨b,m*4+1,none⟩=some (.int .i64 y.n)/\w.cell? ⟨b,m*4+2,none⟩=some (stv y.nm)/\w.cell? ⟨b,m*4+3,none⟩=some (.slice a y.kids.len c)/\SlcN w P y.kids a c:=by
  rcases hk with ⟨h,hyx⟩|h
  ·refine⟨0,a0,c0,by rw[h];show (0:Int)<((1:Nat):Int);decide,by rw[h];show IntKind.i64.wrap (((1:Nat):Int)-1)=0;decide,?_⟩;rw[hyx];exact⟨x0,x1,x2,x3,SX⟩
  ·obtain⟨b',a,c,h1,-,h3,h4,h5,h6,h7⟩:=SlcN.kidM (d:=Fs.ex x .nil) (y:=y) (r:=.nil) (by have S2:=S;rw[h] at S2;exact S2);rw[hao] at h1;injection h1 with h1
   injection h1 with h1
   subst h1;exact⟨1,a,c,by rw[h];show (1:Int)<((2:Nat):Int);decide,by rw[h];show IntKind.i64.wrap (((2:Nat):Int)-1)=1;decide,h3,h4,h5,h6,h7⟩
 subst hao;have hl0:(0:Int)<(e.kids.len:Int):=by omega
 obtain⟨w0,hw0⟩:∃w0,w0=(w.alloc (.cells #[.int .i64 e.k,.int .i64 e.n,stv e.nm,.slice (some ⟨b,0,none⟩) e.kids.len cap] 34)).alloc (.cells #[.int .i64 0,.int .i64 0,.string ⟨#[]⟩,.slice none 0 0] 34):=⟨_,rfl⟩
 have B0:Below w.heap.size w w0:=by rw[hw0];exact((Below.refl _ w).alloc (Nat.le_refl _) _).alloc (by simp) _
 have E0:w0.heap[w.heap.size]?=some (.cells #[.int .i64 e.k,.int .i64 e.n,stv e.nm,.slice (some ⟨b,0,none⟩) e.kids.len cap] 34 (0,0)):=by rw[hw0];exact(Below.heap_alloc _ _ _ (by simp)).trans (heap_alloc_new w _)
 have Z0:w0.heap[w.heap.size+1]?=some (.cells #[.int .i64 0,.int .i64 0,.string ⟨#[]⟩,.slice none 0 0] 34 (0,0)):=by
  rw[hw0]
  have:=heap_alloc_new (w.alloc (.cells #[.int .i64 e.k,.int .i64 e.n,stv e.nm,.slice (some ⟨b,0,none⟩) e.kids.len cap] 34)) (.cells #[.int .i64 0,.int .i64 0,.string ⟨#[]⟩,.slice none 0 0] 34)
  simpa using this
 rw[exN_out];go_enter Tryz.func111,Tryz.ntmps111;go_upto_region 1 with fail;rw[<-hw0];obtain⟨bx,hbx⟩:∃bx,bx=w.heap.size:=⟨_,rfl⟩
 rw[<-hbx] at E0 Z0 B0 hb;try rw[<-hbx]
 have HB:Hid (bx=w.heap.size):=hbx;clear hbx hw0;have x0:=(B0.cell (p:=⟨b,0*4,none⟩) hb).trans x0;have x1:=(B0.cell (p:=⟨b,0*4+1,none⟩) hb).trans x1;have x2:=(B0.cell (p:=⟨b,0*4+2,none⟩) hb).trans x2;have x3:=(B0.cell (p:=⟨b,0*4+3,none⟩) hb).trans x3;have y0:=(B0.cell (p:=⟨b,m*4,none⟩) hb).trans y0;have y1:=(B0.cell (p:=⟨b,m*4+1,none⟩) hb).trans y1;have y2:=(B0.cell (p:=⟨b,m*4+2,none⟩) hb).trans y2;have y3:=(B0.cell (p:=⟨b,m*4+3,none⟩) hb).trans y3;simp only[Nat.zero_mul,Nat.zero_add] at x0 x1 x2 x3;have hb0:b<w0.heap.size:=Nat.lt_trans hb (lt_of_block E0);obtain⟨p0,p1,p2,p3,pf⟩:=box4 E0;have l1:bx<w0.heap.size:=lt_of_block E0;have l2:bx<w0.heap.size+1:=Nat.lt_succ_of_lt l1;have l3:b<w0.heap.size+1:=Nat.lt_succ_of_lt hb0;have hke2:Hid (6<=e.k/\e.k<=16):=hke;clear hk;go_cut [3,4] (fun v3 v4 wx=>∃p q,v3=.pointer (some ⟨p,0,none⟩)/\v4=.pointer (some ⟨q,0,none⟩)/\wx.heap[p]?=some (.cells #[.int .i64 x.k,.int .i64 x.n,stv x.nm,.slice a0 x.kids.len c0] 34 (0,0))/\wx.heap[q]?=some (.cells #[.int .i64 y.k,.int .i64 y.n,stv y.nm,.slice a1 y.kids.len c1] 34 (0,0))/\wx.heap[bx]?=some (.cells #[.int .i64 e.k,.int .i64 e.n,stv e.nm,.slice (some ⟨b,0,none⟩) e.kids.len cap] 34 (0,0))/\wx.heap[bx+1]?=some (.cells #[.int .i64 0,.int .i64 0,.string ⟨#[]⟩,.slice none 0 0] 34 (0,0))/\Below bx w wx)
 case first =>
  go_region
  all_goals (
   first
    | (
     obtain⟨w1,hw1⟩:∃w1,w1=((w0.alloc (.cells #[.int .i64 x.k,.int .i64 x.n,.string ⟨x.nm.toArray⟩,.slice a0 x.kids.len c0] 34)).alloc (.cells #[.int .i64 y.k,.int .i64 y.n,.string ⟨y.nm.toArray⟩,.slice a1 y.kids.len c1] 34)).drew:=⟨_,rfl⟩
     obtain⟨p,hp⟩:∃p,p=w0.heap.size:=⟨_,rfl⟩
     obtain⟨q,hq⟩:∃q,q=w0.heap.size+1:=⟨_,rfl⟩
     have B1:Below bx w w1:=by rw[hw1];exact((B0.alloc (Nat.le_of_lt l1) _).alloc (by simp;omega) _).drew
     have D1:Below w0.heap.size w0 w1:=by rw[hw1];exact(((Below.refl _ w0).alloc (Nat.le_refl _) _).alloc (by simp) _).drew
     have N1:w1.heap[w0.heap.size]?=some (.cells #[.int .i64 x.k,.int .i64 x.n,stv x.nm,.slice a0 x.kids.len c0] 34 (0,0)):=by
      rw[hw1];exact(Below.heap_alloc _ _ _ (by simp)).trans (heap_alloc_new w0 _)
     have N2:w1.heap[w0.heap.size+1]?=some (.cells #[.int .i64 y.k,.int .i64 y.n,stv y.nm,.slice a1 y.kids.len c1] 34 (0,0)):=by
      rw[hw1]
      have:=heap_alloc_new (w0.alloc (.cells #[.int .i64 x.k,.int .i64 x.n,.string ⟨x.nm.toArray⟩,.slice a0 x.kids.len c0] 34)) (.cells #[.int .i64 y.k,.int .i64 y.n,.string ⟨y.nm.toArray⟩,.slice a1 y.kids.len c1] 34)
      rw[show (w0.alloc (.cells #[.int .i64 x.k,.int .i64 x.n,.string ⟨x.nm.toArray⟩,.slice a0 x.kids.len c0] 34)).heap.size=w0.heap.size+1 by simp] at this;exact this
     have E1:=(D1.block bx l1).trans E0;have Z1:=(D1.block (bx+1) (lt_of_block Z0)).trans Z0;have L1:w1.heap[p]?=some (.cells #[.int .i64 x.k,.int .i64 x.n,stv x.nm,.slice a0 x.kids.len c0] 34 (0,0)):=by rw[hp];exact N1
     have R1:w1.heap[q]?=some (.cells #[.int .i64 y.k,.int .i64 y.n,stv y.nm,.slice a1 y.kids.len c1] 34 (0,0)):=by rw[hq];exact N2
     rw[<-hw1,<-hq,<-hp];clear hw1 hp hq D1 B0 E0 Z0 l1 l2 l3 hb0 hb p0 p1 p2 p3 pf x0 x1 x2 x3 y0 y1 y2 y3 N1 N2 hwl hml)
    | (
     obtain⟨w1,hw1⟩:∃w1,w1=((w0.alloc (.cells #[.int .i64 y.k,.int .i64 y.n,.string ⟨y.nm.toArray⟩,.slice a1 y.kids.len c1] 34)).alloc (.cells #[.int .i64 x.k,.int .i64 x.n,.string ⟨x.nm.toArray⟩,.slice a0 x.kids.len c0] 34)).drew:=⟨_,rfl⟩
     obtain⟨p,hp⟩:∃p,p=w0.heap.size+1:=⟨_,rfl⟩
     obtain⟨q,hq⟩:∃q,q=w0.heap.size:=⟨_,rfl⟩
     have B1:Below bx w w1:=by rw[hw1];exact((B0.alloc (Nat.le_of_lt l1) _).alloc (by simp;omega) _).drew
     have D1:Below w0.heap.size w0 w1:=by rw[hw1];exact(((Below.refl _ w0).alloc (Nat.le_refl _) _).alloc (by simp) _).drew
     have N1:w1.heap[w0.heap.size]?=some (.cells #[.int .i64 y.k,.int .i64 y.n,stv y.nm,.slice a1 y.kids.len c1] 34 (0,0)):=by
      rw[hw1];exact(Below.heap_alloc _ _ _ (by simp)).trans (heap_alloc_new w0 _)
     have N2:w1.heap[w0.heap.size+1]?=some (.cells #[.int .i64 x.k,.int .i64 x.n,stv x.nm,.slice a0 x.kids.len c0] 34 (0,0)):=by
      rw[hw1]
      have:=heap_alloc_new (w0.alloc (.cells #[.int .i64 y.k,.int .i64 y.n,.string ⟨y.nm.toArray⟩,.slice a1 y.kids.len c1] 34)) (.cells #[.int .i64 x.k,.int .i64 x.n,.string ⟨x.nm.toArray⟩,.slice a0 x.kids.len c0] 34)
      rw[show (w0.alloc (.cells #[.int .i64 y.k,.int .i64 y.n,.string ⟨y.nm.toArray⟩,.slice a1 y.kids.len c1] 34)).heap.size=w0.heap.size+1 by simp] at this;exact this
     have E1:=(D1.block bx l1).trans E0;have Z1:=(D1.block (bx+1) (lt_of_block Z0)).trans Z0;have L1:w1.heap[p]?=some (.cells #[.int .i64 x.k,.int .i64 x.n,stv x.nm,.slice a0 x.kids.len c0] 34 (0,0)):=by rw[hp];exact N2
     have R1:w1.heap[q]?=some (.cells #[.int .i64 y.k,.int .i64 y.n,stv y.nm,.slice a1 y.kids.len c1] 34 (0,0)):=by rw[hq];exact N1
     rw[<-hw1,<-hp,<-hq];clear hw1 hp hq D1 B0 E0 Z0 l1 l2 l3 hb0 hb p0 p1 p2 p3 pf x0 x1 x2 x3 y0 y1 y2 y3 N1 N2 hwl hml)
   go_wp2;go_meet;exact⟨p,q,rfl,rfl,L1,R1,E1,Z1,B1⟩)
 case rest =>
 obtain⟨p,q,rfl,rfl,L1,R1,E1,Z1,B1⟩:=hcut;clear B0 E0 Z0 l1 l2 l3 hb0 hb p0 p1 p2 p3 pf x0 x1 x2 x3 y0 y1 y2 y3 hwl hml;generalize wc=w1 at *;go_upto_region 2 with fail;go_cut [24] (fun v wx=>v=.bool (cnE x&&cnE y)/\wx.heap[p]?=some (.cells #[.int .i64 x.k,.int .i64 x.n,stv x.nm,.slice a0 x.kids.len c0] 34 (0,0))/\wx.heap[q]?=some (.cells #[.int .i64 y.k,.int .i64 y.n,stv y.nm,.slice a1 y.kids.len c1] 34 (0,0))/\wx.heap[bx]?=some (.cells #[.int .i64 e.k,.int .i64 e.n,stv e.nm,.slice (some ⟨b,0,none⟩) e.kids.len cap] 34 (0,0))/\wx.heap[bx+1]?=some (.cells #[.int .i64 0,.int .i64 0,.string ⟨#[]⟩,.slice none 0 0] 34 (0,0))/\Below bx w wx)
 case first =>
  have hph:cnE x=false\/(cnE x=true/\∃cy,cnE y=cy):=by
   cases h1:cnE x with
   | false=>exact .inl rfl
   | true=>exact .inr ⟨rfl,_,rfl⟩
  rcases hph with hcx|⟨hcx,cy,hcy⟩
  focus
   have hc:=iscon_c x a0 c0 w1;try rw[exN_out] at hc
   obtain⟨p0,p1,p2,p3,pf⟩:=box4 E1;obtain⟨r0,r1,r2,r3,rf⟩:=box4 L1;obtain⟨s0,s1,s2,s3,sf⟩:=box4 R1;go_wp2_with fail;refine hc.mono ?_;rintro u w2 ⟨rfl,b2⟩;obtain⟨B2,E1,L1,R1,Z1⟩:=bxs B1 b2 E1 L1 R1 Z1;clear hc b2 p0 p1 p2 p3 pf r0 r1 r2 r3 rf s0 s1 s2 s3 sf B1;rw[hcx];go_wp2;go_meet;exact⟨by rw[hcx];rfl,L1,R1,E1,Z1,B2⟩
  focus
   have hc:=iscon_c x a0 c0 w1;try rw[exN_out] at hc
   obtain⟨p0,p1,p2,p3,pf⟩:=box4 E1;obtain⟨r0,r1,r2,r3,rf⟩:=box4 L1;obtain⟨s0,s1,s2,s3,sf⟩:=box4 R1;go_wp2_with fail;refine hc.mono ?_;rintro u w2 ⟨rfl,b2⟩;obtain⟨B2,E1,L1,R1,Z1⟩:=bxs B1 b2 E1 L1 R1 Z1;clear hc b2 p0 p1 p2 p3 pf r0 r1 r2 r3 rf s0 s1 s2 s3 sf B1;rw[hcx];have hc:=iscon_c y a1 c1 w2;try rw[exN_out] at hc
   obtain⟨p0,p1,p2,p3,pf⟩:=box4 E1;obtain⟨r0,r1,r2,r3,rf⟩:=box4 L1;obtain⟨s0,s1,s2,s3,sf⟩:=box4 R1;go_wp2_with fail;refine hc.mono ?_;rintro u w3 ⟨rfl,b3⟩;obtain⟨B3,E1,L1,R1,Z1⟩:=bxs B2 b3 E1 L1 R1 Z1;clear hc b3 p0 p1 p2 p3 pf r0 r1 r2 r3 rf s0 s1 s2 s3 sf B2;rw[hcy];go_wp2;go_meet;exact⟨by rw[hcx,hcy];rfl,L1,R1,E1,Z1,B3⟩
 case rest =>
 obtain⟨rfl,L2,R2,E2,Z2,B2⟩:=hcut;clear L1 R1 E1 Z1 B1;generalize wc=w3 at *;have L1:=L2;have R1:=R2;have E1:=E2;have Z1:=Z2;have B3:=B2;clear L2 R2 E2 Z2 B2;obtain⟨cc,hcc⟩:∃cc,cc=(cnE x&&cnE y):=⟨_,rfl⟩
 rw[<-hcc];have HC:Hid (cc=(cnE x&&cnE y)):=hcc;clear hcc
 go_upto_if 24 with fail
 go_cut [] (fun wx=>opE e x y=(if e.k=7 then (if x.k=7 then x.kids.head else e) else if e.k=8/\isE x 1 0=true then y else if (e.k=8\/e.k=9)/\isE y 1 0=true then x else if e.k=10/\isE x 1 1=true then y else if (e.k=10\/e.k=11)/\isE y 1 1=true then x else e)/\wx.heap[p]?=some (.cells #[.int .i64 x.k,.int .i64 x.n,stv x.nm,.slice a0 x.kids.len c0] 34 (0,0))/\wx.heap[q]?=some (.cells #[.int .i64 y.k,.int .i64 y.n,stv y.nm,.slice a1 y.kids.len c1] 34 (0,0))/\wx.heap[bx]?=some (.cells #[.int .i64 e.k,.int .i64 e.n,stv e.nm,.slice (some ⟨b,0,none⟩) e.kids.len cap] 34 (0,0))/\wx.heap[bx+1]?=some (.cells #[.int .i64 0,.int .i64 0,.string ⟨#[]⟩,.slice none 0 0] 34 (0,0))/\Below bx w wx)
 case first =>
  have hph:cc=false\/(cc=true/\rckP e.k x.n y.n=none)\/(cc=true/\∃v,rckP e.k x.n y.n=some v):=by
   cases cc with
   | false=>exact .inl rfl
   | true =>
    cases h3:rckP e.k x.n y.n with
    | none=>exact .inr (.inl ⟨rfl,rfl⟩)
    | some v=>exact .inr (.inr ⟨rfl,v,rfl⟩)
  rcases hph with hcx|⟨hcx,hr⟩|⟨hcx,v,hr⟩
  focus
   have HN:Hid (opE e x y=_):=opE_rest (by rw[<-HC.out,hcx];rfl);subst hcx;go_wp2;go_meet;exact⟨HN.out,L1,R1,E1,Z1,B3⟩
  focus
   have HN:Hid (opE e x y=_):=opE_rest (by rw[<-HC.out,hcx];exact hr);have hcb:cnE x=true/\cnE y=true:=(Bool.and_eq_true _ _).mp (HC.out.symm.trans hcx);subst hcx;have hc:=worth_c hke (hxn hcb.1) (hyn hcb.2) w3;have hwr:∃f:Int,wrV e.k x.n y.n=.tuple #[.int .i64 0,.int .i64 f]/\(f==0)=false:=by
    unfold wrV fltP;rw[hr];simp only;split
    ·exact⟨4,rfl,rfl⟩
    ·exact⟨1,rfl,rfl⟩
   obtain⟨f,hwr,hf0⟩:=hwr;rw[hwr] at hc;obtain⟨p0,p1,p2,p3,pf⟩:=box4 E1;obtain⟨r0,r1,r2,r3,rf⟩:=box4 L1;obtain⟨s0,s1,s2,s3,sf⟩:=box4 R1;go_wp2_with fail;refine hc.mono ?_;rintro u w4 ⟨rfl,rfl⟩;clear hc hwr hr hcb p0 p1 p2 p3 pf r0 r1 r2 r3 rf s0 s1 s2 s3 sf;go_wp2;go_meet;exact⟨HN.out,L1,R1,E1,Z1,B3⟩
  focus
   have hans:Hid (opE e x y=⟨ckE e.k,v,[],0,.nil⟩):=opE_some (by rw[<-HC.out,hcx];exact hr);have hcb:cnE x=true/\cnE y=true:=(Bool.and_eq_true _ _).mp (HC.out.symm.trans hcx);subst hcx;have hc:=worth_c hke (hxn hcb.1) (hyn hcb.2) w3;have hwr:wrV e.k x.n y.n=.tuple #[.int .i64 v,.int .i64 0]:=tr_wr hr;rw[hwr] at hc;have hc2:=conkind_c hke w3;obtain⟨p0,p1,p2,p3,pf⟩:=box4 E1;obtain⟨r0,r1,r2,r3,rf⟩:=box4 L1;obtain⟨s0,s1,s2,s3,sf⟩:=box4 R1;go_wp2_with fail;refine hc.mono ?_;rintro u w4 ⟨rfl,rfl⟩;clear hc hwr hr hcb;go_wp2_with fail;refine hc2.mono ?_;rintro u w4 ⟨rfl,rfl⟩;clear hc2;have HU:=rule_hc (ckE e.k) v Z1 B3;obtain⟨z0,z1,z2,z3,zf⟩:=box4 Z1;generalize ckE e.k=ck at *;clear Z1 E1 L1 R1;go_wp2;obtain⟨wz,hwz,v0,v1,v2,v3,BZ⟩:=HU.out;rw[<-hwz];rw[HB.out] at BZ;exact bodyPost_ret (v:=.agg #[.int .i64 ck,.int .i64 v,.string ⟨#[]⟩,.slice none 0 0]) (by simp[results,Tryz.results111,go_sem,v0,v1,v2,v3]) rfl ⟨none,0,by rw[hans.out];rfl,by rw[hans.out];exact SlcN.nil _ _,BZ⟩
 case rest =>
 obtain⟨hN,L2,R2,E2,Z2,B2⟩:=hcut;have HN:Hid (opE e x y=_):=hN;clear L1 R1 E1 Z1 B3 hN;generalize wc=w3 at *;have L1:=L2;have R1:=R2;have E1:=E2;have Z1:=Z2;have B3:=B2;clear L2 R2 E2 Z2 B2;have hkk:e.k=7\/e.k=8\/e.k=9\/e.k=10\/e.k=11\/(e.k≠7/\e.k≠8/\e.k≠9/\e.k≠10/\e.k≠11):=by omega
 clear hke;rcases hkk with k7|k8|k9|k10|k11|kno
 focus
  have t7:(e.k==7)=true:=by simpa using k7
  by_cases hx7:x.k=7
  ·have tx:(x.k==7)=true:=by simpa using hx7
   obtain⟨z,hz⟩:=h77 k7 hx7;have hans:Hid (opE e x y=z):=by show _=_;rw[HN.out,if_pos k7,if_pos hx7,hz];rfl
   have SXx:=SX;rw[hz] at SXx;obtain⟨bz,az,cz,hz1,hbz,g0,g1,g2,g3,SZ⟩:=SlcN.kidM (d:=.nil) SXx;subst hz1;have hlx:(0:Int)<(x.kids.len:Int):=by rw[hz];show (0:Int)<((1:Nat):Int);decide
   have WB:Below w.heap.size w w3:=by rw[<-HB.out];exact B3
   have g0:=(WB.cell (p:=⟨bz,0,none⟩) hbz).trans g0;have g1:=(WB.cell (p:=⟨bz,1,none⟩) hbz).trans g1;have g2:=(WB.cell (p:=⟨bz,2,none⟩) hbz).trans g2;have g3:=(WB.cell (p:=⟨bz,3,none⟩) hbz).trans g3;clear k7 hx7 hz SXx;have HU:=rule_hu z az cz Z1 B3;obtain⟨p0,p1,p2,p3,pf⟩:=box4 E1;obtain⟨r0,r1,r2,r3,rf⟩:=box4 L1;obtain⟨s0,s1,s2,s3,sf⟩:=box4 R1;obtain⟨z0,z1,z2,z3,zf⟩:=box4 Z1;clear Z1 E1 L1 R1;go_wp2;obtain⟨wz,hwz,v0,v1,v2,v3,BZ⟩:=HU.out;rw[<-hwz];rw[HB.out] at BZ;exact bodyPost_ret (v:=exN z az cz) (by simp[results,Tryz.results111,go_sem,v0,v1,v2,v3,exN]) rfl ⟨az,cz,by rw[hans.out],by rw[hans.out];exact SZ,BZ⟩
  ·have tx:(x.k==7)=false:=by simpa using hx7
   have hans:Hid (opE e x y=e):=by show _=_;rw[HN.out,if_pos k7,if_neg hx7]
   clear k7 hx7;have HU:=rule_hu e (some ⟨b,0,none⟩) cap Z1 B3;obtain⟨p0,p1,p2,p3,pf⟩:=box4 E1;obtain⟨r0,r1,r2,r3,rf⟩:=box4 L1;obtain⟨s0,s1,s2,s3,sf⟩:=box4 R1;obtain⟨z0,z1,z2,z3,zf⟩:=box4 Z1;clear Z1 E1 L1 R1;go_wp2;obtain⟨wz,hwz,v0,v1,v2,v3,BZ⟩:=HU.out;rw[<-hwz];rw[HB.out] at BZ;exact bodyPost_ret (v:=exN e (some ⟨b,0,none⟩) cap) (by simp[results,Tryz.results111,go_sem,v0,v1,v2,v3,exN]) rfl ⟨(some ⟨b,0,none⟩),cap,by rw[hans.out],by rw[hans.out];exact S,BZ⟩
 focus
  have t7:(e.k==7)=false:=by simp;omega
  have t8:(e.k==8)=true:=by simp;omega
  have hc:=isnum_c x a0 c0 0 w3;try rw[exN_out] at hc
  obtain⟨p0,p1,p2,p3,pf⟩:=box4 E1;obtain⟨r0,r1,r2,r3,rf⟩:=box4 L1;obtain⟨s0,s1,s2,s3,sf⟩:=box4 R1;go_wp2_with fail;refine hc.mono ?_;rintro u w4 ⟨rfl,b4⟩;obtain⟨B4,E1,L1,R1,Z1⟩:=bxs B3 b4 E1 L1 R1 Z1;clear hc b4 p0 p1 p2 p3 pf r0 r1 r2 r3 rf s0 s1 s2 s3 sf B3;cases hx0:isE x 1 0 with
  | true =>
   have hans:Hid (opE e x y=y):=by show _=_;rw[HN.out];simp[k8,hx0]
   clear k8 hx0 HN;have HU:=rule_hu y a1 c1 Z1 B4;obtain⟨p0,p1,p2,p3,pf⟩:=box4 E1;obtain⟨r0,r1,r2,r3,rf⟩:=box4 L1;obtain⟨s0,s1,s2,s3,sf⟩:=box4 R1;obtain⟨z0,z1,z2,z3,zf⟩:=box4 Z1;clear Z1 E1 L1 R1;go_wp2;obtain⟨wz,hwz,v0,v1,v2,v3,BZ⟩:=HU.out;rw[<-hwz];rw[HB.out] at BZ;exact bodyPost_ret (v:=exN y a1 c1) (by simp[results,Tryz.results111,go_sem,v0,v1,v2,v3,exN]) rfl ⟨a1,c1,by rw[hans.out],by rw[hans.out];exact SY,BZ⟩
  | false =>
   have hc:=isnum_c y a1 c1 0 w4;try rw[exN_out] at hc
   obtain⟨p0,p1,p2,p3,pf⟩:=box4 E1;obtain⟨r0,r1,r2,r3,rf⟩:=box4 L1;obtain⟨s0,s1,s2,s3,sf⟩:=box4 R1;go_wp2_with fail;refine hc.mono ?_;rintro u w5 ⟨rfl,b5⟩;obtain⟨B5,E1,L1,R1,Z1⟩:=bxs B4 b5 E1 L1 R1 Z1;clear hc b5 p0 p1 p2 p3 pf r0 r1 r2 r3 rf s0 s1 s2 s3 sf B4;cases hy0:isE y 1 0 with
   | true =>
    have hans:Hid (opE e x y=x):=by show _=_;rw[HN.out];simp[k8,hx0,hy0]
    clear k8 hx0 hy0 HN;have HU:=rule_hu x a0 c0 Z1 B5;obtain⟨p0,p1,p2,p3,pf⟩:=box4 E1;obtain⟨r0,r1,r2,r3,rf⟩:=box4 L1;obtain⟨s0,s1,s2,s3,sf⟩:=box4 R1;obtain⟨z0,z1,z2,z3,zf⟩:=box4 Z1;clear Z1 E1 L1 R1;go_wp2;obtain⟨wz,hwz,v0,v1,v2,v3,BZ⟩:=HU.out;rw[<-hwz];rw[HB.out] at BZ;exact bodyPost_ret (v:=exN x a0 c0) (by simp[results,Tryz.results111,go_sem,v0,v1,v2,v3,exN]) rfl ⟨a0,c0,by rw[hans.out],by rw[hans.out];exact SX,BZ⟩
   | false =>
    have hans:Hid (opE e x y=e):=by show _=_;rw[HN.out];simp[k8,hx0,hy0]
    clear k8 hx0 hy0 HN;have HU:=rule_hu e (some ⟨b,0,none⟩) cap Z1 B5;obtain⟨p0,p1,p2,p3,pf⟩:=box4 E1;obtain⟨r0,r1,r2,r3,rf⟩:=box4 L1;obtain⟨s0,s1,s2,s3,sf⟩:=box4 R1;obtain⟨z0,z1,z2,z3,zf⟩:=box4 Z1;clear Z1 E1 L1 R1;go_wp2;obtain⟨wz,hwz,v0,v1,v2,v3,BZ⟩:=HU.out;rw[<-hwz];rw[HB.out] at BZ;exact bodyPost_ret (v:=exN e (some ⟨b,0,none⟩) cap) (by simp[results,Tryz.results111,go_sem,v0,v1,v2,v3,exN]) rfl ⟨(some ⟨b,0,none⟩),cap,by rw[hans.out],by rw[hans.out];exact S,BZ⟩
 focus
  have t7:(e.k==7)=false:=by simp;omega
  have t8:(e.k==8)=false:=by simp;omega
  have t9:(e.k==9)=true:=by simp;omega
  have hc:=isnum_c y a1 c1 0 w3;try rw[exN_out] at hc
  obtain⟨p0,p1,p2,p3,pf⟩:=box4 E1;obtain⟨r0,r1,r2,r3,rf⟩:=box4 L1;obtain⟨s0,s1,s2,s3,sf⟩:=box4 R1;go_wp2_with fail;refine hc.mono ?_;rintro u w4 ⟨rfl,b4⟩;obtain⟨B4,E1,L1,R1,Z1⟩:=bxs B3 b4 E1 L1 R1 Z1;clear hc b4 p0 p1 p2 p3 pf r0 r1 r2 r3 rf s0 s1 s2 s3 sf B3;cases hy0:isE y 1 0 with
  | true =>
   have hans:Hid (opE e x y=x):=by show _=_;rw[HN.out];simp[k9,hy0]
   clear k9 hy0 HN;have HU:=rule_hu x a0 c0 Z1 B4;obtain⟨p0,p1,p2,p3,pf⟩:=box4 E1;obtain⟨r0,r1,r2,r3,rf⟩:=box4 L1;obtain⟨s0,s1,s2,s3,sf⟩:=box4 R1;obtain⟨z0,z1,z2,z3,zf⟩:=box4 Z1;clear Z1 E1 L1 R1;go_wp2;obtain⟨wz,hwz,v0,v1,v2,v3,BZ⟩:=HU.out;rw[<-hwz];rw[HB.out] at BZ;exact bodyPost_ret (v:=exN x a0 c0) (by simp[results,Tryz.results111,go_sem,v0,v1,v2,v3,exN]) rfl ⟨a0,c0,by rw[hans.out],by rw[hans.out];exact SX,BZ⟩
  | false =>
   have hans:Hid (opE e x y=e):=by show _=_;rw[HN.out];simp[k9,hy0]
   clear k9 hy0 HN;have HU:=rule_hu e (some ⟨b,0,none⟩) cap Z1 B4;obtain⟨p0,p1,p2,p3,pf⟩:=box4 E1;obtain⟨r0,r1,r2,r3,rf⟩:=box4 L1;obtain⟨s0,s1,s2,s3,sf⟩:=box4 R1;obtain⟨z0,z1,z2,z3,zf⟩:=box4 Z1;clear Z1 E1 L1 R1;go_wp2;obtain⟨wz,hwz,v0,v1,v2,v3,BZ⟩:=HU.out;rw[<-hwz];rw[HB.out] at BZ;exact bodyPost_ret (v:=exN e (some ⟨b,0,none⟩) cap) (by simp[results,Tryz.results111,go_sem,v0,v1,v2,v3,exN]) rfl ⟨(some ⟨b,0,none⟩),cap,by rw[hans.out],by rw[hans.out];exact S,BZ⟩
 focus
  have t7:(e.k==7)=false:=by simp;omega
  have t8:(e.k==8)=false:=by simp;omega
  have t9:(e.k==9)=false:=by simp;omega
  have t10:(e.k==10)=true:=by simp;omega
  have hc:=isnum_c x a0 c0 1 w3;try rw[exN_out] at hc
  obtain⟨p0,p1,p2,p3,pf⟩:=box4 E1;obtain⟨r0,r1,r2,r3,rf⟩:=box4 L1;obtain⟨s0,s1,s2,s3,sf⟩:=box4 R1;go_wp2_with fail;refine hc.mono ?_;rintro u w4 ⟨rfl,b4⟩;obtain⟨B4,E1,L1,R1,Z1⟩:=bxs B3 b4 E1 L1 R1 Z1;clear hc b4 p0 p1 p2 p3 pf r0 r1 r2 r3 rf s0 s1 s2 s3 sf B3;cases hx0:isE x 1 1 with
  | true =>
   have hans:Hid (opE e x y=y):=by show _=_;rw[HN.out];simp[k10,hx0]
   clear k10 hx0 HN;have HU:=rule_hu y a1 c1 Z1 B4;obtain⟨p0,p1,p2,p3,pf⟩:=box4 E1;obtain⟨r0,r1,r2,r3,rf⟩:=box4 L1;obtain⟨s0,s1,s2,s3,sf⟩:=box4 R1;obtain⟨z0,z1,z2,z3,zf⟩:=box4 Z1;clear Z1 E1 L1 R1;go_wp2;obtain⟨wz,hwz,v0,v1,v2,v3,BZ⟩:=HU.out;rw[<-hwz];rw[HB.out] at BZ;exact bodyPost_ret (v:=exN y a1 c1) (by simp[results,Tryz.results111,go_sem,v0,v1,v2,v3,exN]) rfl ⟨a1,c1,by rw[hans.out],by rw[hans.out];exact SY,BZ⟩
  | false =>
   have hc:=isnum_c y a1 c1 1 w4;try rw[exN_out] at hc
   obtain⟨p0,p1,p2,p3,pf⟩:=box4 E1;obtain⟨r0,r1,r2,r3,rf⟩:=box4 L1;obtain⟨s0,s1,s2,s3,sf⟩:=box4 R1;go_wp2_with fail;refine hc.mono ?_;rintro u w5 ⟨rfl,b5⟩;obtain⟨B5,E1,L1,R1,Z1⟩:=bxs B4 b5 E1 L1 R1 Z1;clear hc b5 p0 p1 p2 p3 pf r0 r1 r2 r3 rf s0 s1 s2 s3 sf B4;cases hy0:isE y 1 1 with
   | true =>
    have hans:Hid (opE e x y=x):=by show _=_;rw[HN.out];simp[k10,hx0,hy0]
    clear k10 hx0 hy0 HN;have HU:=rule_hu x a0 c0 Z1 B5;obtain⟨p0,p1,p2,p3,pf⟩:=box4 E1;obtain⟨r0,r1,r2,r3,rf⟩:=box4 L1;obtain⟨s0,s1,s2,s3,sf⟩:=box4 R1;obtain⟨z0,z1,z2,z3,zf⟩:=box4 Z1;clear Z1 E1 L1 R1;go_wp2;obtain⟨wz,hwz,v0,v1,v2,v3,BZ⟩:=HU.out;rw[<-hwz];rw[HB.out] at BZ;exact bodyPost_ret (v:=exN x a0 c0) (by simp[results,Tryz.results111,go_sem,v0,v1,v2,v3,exN]) rfl ⟨a0,c0,by rw[hans.out],by rw[hans.out];exact SX,BZ⟩
   | false =>
    have hans:Hid (opE e x y=e):=by show _=_;rw[HN.out];simp[k10,hx0,hy0]
    clear k10 hx0 hy0 HN;have HU:=rule_hu e (some ⟨b,0,none⟩) cap Z1 B5;obtain⟨p0,p1,p2,p3,pf⟩:=box4 E1;obtain⟨r0,r1,r2,r3,rf⟩:=box4 L1;obtain⟨s0,s1,s2,s3,sf⟩:=box4 R1;obtain⟨z0,z1,z2,z3,zf⟩:=box4 Z1;clear Z1 E1 L1 R1;go_wp2;obtain⟨wz,hwz,v0,v1,v2,v3,BZ⟩:=HU.out;rw[<-hwz];rw[HB.out] at BZ;exact bodyPost_ret (v:=exN e (some ⟨b,0,none⟩) cap) (by simp[results,Tryz.results111,go_sem,v0,v1,v2,v3,exN]) rfl ⟨(some ⟨b,0,none⟩),cap,by rw[hans.out],by rw[hans.out];exact S,BZ⟩
 focus
  have t7:(e.k==7)=false:=by simp;omega
  have t8:(e.k==8)=false:=by simp;omega
  have t9:(e.k==9)=false:=by simp;omega
  have t10:(e.k==10)=false:=by simp;omega
  have t11:(e.k==11)=true:=by simp;omega
  have hc:=isnum_c y a1 c1 1 w3;try rw[exN_out] at hc
  obtain⟨p0,p1,p2,p3,pf⟩:=box4 E1;obtain⟨r0,r1,r2,r3,rf⟩:=box4 L1;obtain⟨s0,s1,s2,s3,sf⟩:=box4 R1;go_wp2_with fail;refine hc.mono ?_;rintro u w4 ⟨rfl,b4⟩;obtain⟨B4,E1,L1,R1,Z1⟩:=bxs B3 b4 E1 L1 R1 Z1;clear hc b4 p0 p1 p2 p3 pf r0 r1 r2 r3 rf s0 s1 s2 s3 sf B3;cases hy0:isE y 1 1 with
  | true =>
   have hans:Hid (opE e x y=x):=by show _=_;rw[HN.out];simp[k11,hy0]
   clear k11 hy0 HN;have HU:=rule_hu x a0 c0 Z1 B4;obtain⟨p0,p1,p2,p3,pf⟩:=box4 E1;obtain⟨r0,r1,r2,r3,rf⟩:=box4 L1;obtain⟨s0,s1,s2,s3,sf⟩:=box4 R1;obtain⟨z0,z1,z2,z3,zf⟩:=box4 Z1;clear Z1 E1 L1 R1;go_wp2;obtain⟨wz,hwz,v0,v1,v2,v3,BZ⟩:=HU.out;rw[<-hwz];rw[HB.out] at BZ;exact bodyPost_ret (v:=exN x a0 c0) (by simp[results,Tryz.results111,go_sem,v0,v1,v2,v3,exN]) rfl ⟨a0,c0,by rw[hans.out],by rw[hans.out];exact SX,BZ⟩
  | false =>
   have hans:Hid (opE e x y=e):=by show _=_;rw[HN.out];simp[k11,hy0]
   clear k11 hy0 HN;have HU:=rule_hu e (some ⟨b,0,none⟩) cap Z1 B4;obtain⟨p0,p1,p2,p3,pf⟩:=box4 E1;obtain⟨r0,r1,r2,r3,rf⟩:=box4 L1;obtain⟨s0,s1,s2,s3,sf⟩:=box4 R1;obtain⟨z0,z1,z2,z3,zf⟩:=box4 Z1;clear Z1 E1 L1 R1;go_wp2;obtain⟨wz,hwz,v0,v1,v2,v3,BZ⟩:=HU.out;rw[<-hwz];rw[HB.out] at BZ;exact bodyPost_ret (v:=exN e (some ⟨b,0,none⟩) cap) (by simp[results,Tryz.results111,go_sem,v0,v1,v2,v3,exN]) rfl ⟨(some ⟨b,0,none⟩),cap,by rw[hans.out],by rw[hans.out];exact S,BZ⟩
 focus
  have t7:(e.k==7)=false:=by simp;omega
  have t8:(e.k==8)=false:=by simp;omega
  have t9:(e.k==9)=false:=by simp;omega
  have t10:(e.k==10)=false:=by simp;omega
  have t11:(e.k==11)=false:=by simp;omega
  have hans:Hid (opE e x y=e):=by show _=_;rw[HN.out,if_neg (by omega),if_neg (by omega),if_neg (by omega),if_neg (by omega),if_neg (by omega)]
  clear kno;have HU:=rule_hu e (some ⟨b,0,none⟩) cap Z1 B3;obtain⟨p0,p1,p2,p3,pf⟩:=box4 E1;obtain⟨r0,r1,r2,r3,rf⟩:=box4 L1;obtain⟨s0,s1,s2,s3,sf⟩:=box4 R1;obtain⟨z0,z1,z2,z3,zf⟩:=box4 Z1;clear Z1 E1 L1 R1;go_wp2;obtain⟨wz,hwz,v0,v1,v2,v3,BZ⟩:=HU.out;rw[<-hwz];rw[HB.out] at BZ;exact bodyPost_ret (v:=exN e (some ⟨b,0,none⟩) cap) (by simp[results,Tryz.results111,go_sem,v0,v1,v2,v3,exN]) rfl ⟨(some ⟨b,0,none⟩),cap,by rw[hans.out],by rw[hans.out];exact S,BZ⟩
end Go.Proofs.YtaihhnlfcndecaaGreatDoor

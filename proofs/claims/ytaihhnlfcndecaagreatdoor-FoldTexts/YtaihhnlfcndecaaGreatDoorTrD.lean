import Derived.Test.YtaihhnlfcndecaaGreatDoorTypP
import Derived.Lib.SliceRun
import Derived.Deep.RegionLaw
set_option maxRecDepth 100000
set_option maxHeartbeats 8000000
namespace Go.Proofs.YtaihhnlfcndecaaGreatDoor
set_option linter.unusedVariables false
set_option linter.unusedSimpArgs false
abbrev Er:=Option (Nat × Int)
def stS:Sum (Nat × Int) Int->Er
 | .inl x=>some x
 | .inr _=>none
def resR (st:Er)(k:Int):Sum (Nat × Int) Int :=
 match st with
 | some x=>.inl x
 | none=>.inr k
def musR (st:Er)(m:Int)(e:Ex)(b:List (List UInt8)):Er :=
 match st with
 | some x=>some x
 | none=>stS (mustT m e.a (chkE e b))
def musL:Fs->Er->List (List UInt8)->Er
 | ⟨none⟩,st,_=>st
 | ⟨some ⟨k,n,nm,a,ks,r⟩⟩,st,b=>musL r (musR st 3 ⟨k,n,nm,a,ks⟩ b) b
theorem musL_some:∀ (f:Fs) (x:Nat × Int) (b:List (List UInt8)),musL f (some x) b=some x
 | ⟨none⟩,x,b=>rfl
 | ⟨some ⟨k,n,nm,a,ks,r⟩⟩,x,b=>musL_some r x b
theorem musL_snoc:∀ (f:Fs) (y:Ex) (st:Er) (b:List (List UInt8)),musL (f.snoc y) st b=musR (musL f st b) 3 y b
 | ⟨none⟩,y,st,b=>rfl
 | ⟨some ⟨k,n,nm,a,ks,r⟩⟩,y,st,b=>musL_snoc r y _ b
theorem must_cases (m a:Int)(r:Sum (Nat × Int) Int)(hm:m≠0):(∃x,mustT m a r=.inl x)\/(mustT m a r=.inr m/\r=.inr m):=by
 cases r with
 | inl x=>exact .inl ⟨x,rfl⟩
 | inr is =>
  simp only[mustT];by_cases h:is=m
  ·subst h;exact .inr ⟨by rw[if_neg (fun h2=>h2.2 rfl)],rfl⟩
  ·exact .inl ⟨_,by rw[if_pos ⟨hm,h⟩]⟩
theorem chk_ex' (x:Ex)(r:Fs)(k n:Int)(nm:List UInt8)(len:Nat)(b:List (List UInt8))(i:Nat)(done:List Int)(hk:k≠21) :
  chkFs (Fs.ex x r) k n nm len b i done=(match mustT (ruleT k n len done) x.a (chkE x b) with
   | .inl e=>.inl e
   | .inr is=>chkFs r k n nm len b (i+1) (done++[is])):=by
 have h:=chk_ex x r k n nm len b i done;rw[if_neg (fun h2=>hk h2.1)] at h;exact h
theorem rep_app (n:Nat)(d:List Int):d++[3]++List.replicate n 3=d++List.replicate (n+1) 3:=by
 rw[List.append_assoc];rfl
theorem chk_vert (k n:Int)(nm:List UInt8)(len:Nat)(b:List (List UInt8))(hk:k≠21):∀ (f:Fs) (i:Nat) (done:List Int),(∀ d:List Int,done.length<=d.length->d.length<done.length+f.len->ruleT k n len d=3) ->
  chkFs f k n nm len b i done=(match musL f none b with|some x=>.inl x|none=>.inr (done++List.replicate f.len 3))
 | ⟨none⟩,i,done,h=>by simp[chkFs,musL,Fs.len]
 | ⟨some ⟨kk,kn,km,ka,kks,kr⟩⟩,i,done,h=>by
  have e1:=chk_ex' ⟨kk,kn,km,ka,kks⟩ kr k n nm len b i done hk;have e2:chkFs ⟨some ⟨kk,kn,km,ka,kks,kr⟩⟩ k n nm len b i done=_:=e1;rw[e2,h done (Nat.le_refl _) (by simp[Fs.len])];simp only[musL,musR];rcases must_cases 3 ka (chkE ⟨kk,kn,km,ka,kks⟩ b) (by decide) with ⟨x,hx⟩|⟨hx,-⟩
  ·rw[hx];simp only[stS,musL_some]
  ·rw[hx];simp only[stS];rw[chk_vert k n nm len b hk kr (i+1) (done++[3]) (fun d h1 h2=>h d (by simp at h1;omega) (by simp[Fs.len] at h1 h2 ⊢;omega))];cases musL kr none b with
   | some x=>rfl
   | none=>simp only[Fs.len];rw[rep_app]
theorem chk_one {k n:Int}{nm:List UInt8}{a:Int}{x:Ex}{b:List (List UInt8)}(m g:Int)(h4:k≠4)(h21:k≠21)(h0:ruleT k n 1 []=m)(hm:m≠0)(h1:ruleT k n 1 [m]=g) :
  chkE ⟨k,n,nm,a,Fs.ex x .nil⟩ b=resR (musR none m x b) g:=by
 rw[chkE_kids _ _ h4];show endT k n 1 (chkFs (Fs.ex x .nil) k n nm 1 b 0 [])=_;rw[chk_ex' _ _ _ _ _ _ _ _ _ h21,h0];unfold musR;simp only;rcases must_cases m x.a (chkE x b) hm with ⟨y,hy⟩|⟨hy,-⟩
 ·rw[hy];rfl
 ·rw[hy];show Sum.inr (ruleT k n 1 [m])=_;rw[h1];rfl
theorem chk_bin {k n:Int}{nm:List UInt8}{a:Int}{x y:Ex}{b:List (List UInt8)}(m g:Int)(h4:k≠4)(h21:k≠21)(h0:ruleT k n 2 []=m)(h1:ruleT k n 2 [m]=m)(hm:m≠0)(h2:ruleT k n 2 [m,m]=g) :
  chkE ⟨k,n,nm,a,Fs.ex x (Fs.ex y .nil)⟩ b=resR (musR (musR none m x b) m y b) g:=by
 rw[chkE_kids _ _ h4];show endT k n 2 (chkFs (Fs.ex x (Fs.ex y .nil)) k n nm 2 b 0 [])=_;rw[chk_ex' _ _ _ _ _ _ _ _ _ h21,h0];rcases must_cases m x.a (chkE x b) hm with ⟨z,hz⟩|⟨hz,-⟩
 ·unfold musR;simp only;rw[hz];rfl
 ·have e1:musR none m x b=none:=by unfold musR;simp only;rw[hz];rfl
  rw[hz,e1];simp only[List.nil_append];rw[chk_ex' _ _ _ _ _ _ _ _ _ h21,h1];unfold musR;simp only;rcases must_cases m y.a (chkE y b) hm with ⟨z,hz⟩|⟨hz,-⟩
  ·rw[hz];rfl
  ·rw[hz];show Sum.inr (ruleT k n 2 [m,m])=_;rw[h2];rfl
theorem chk_alike {k n:Int}{nm:List UInt8}{a:Int}{x y:Ex}{b:List (List UInt8)}(hk:k=13\/k=14) :
  chkE ⟨k,n,nm,a,Fs.ex x (Fs.ex y .nil)⟩ b=(match chkE x b with | .inl e=>.inl e | .inr k0=>resR (musR none k0 y b) 2):=by
 rw[chkE_kids _ _ (by show k≠4;omega)];show endT k n 2 (chkFs (Fs.ex x (Fs.ex y .nil)) k n nm 2 b 0 [])=_;have hr:∀ d,ruleT k n 2 d=(match d with | []=>0 | [a]=>a|_=>2):=fun d=>by unfold ruleT;rw[if_pos hk];first|done|(rcases d with _|⟨x,_|⟨y,r⟩⟩<;>rfl)
 rw[chk_ex' _ _ _ _ _ _ _ _ _ (by omega),hr];simp only;cases hx:chkE x b with
 | inl e=>rfl
 | inr k0 =>
  simp only[mustT];rw[if_neg (fun h=>h.1 rfl)];simp only[List.nil_append];rw[chk_ex' _ _ _ _ _ _ _ _ _ (by omega),hr];unfold musR;simp only;cases mustT k0 y.a (chkE y b) with
  | inl e=>rfl
  | inr k1 =>
   show Sum.inr (ruleT k n 2 [k0,k1])=_;rw[hr];rfl
theorem chk_choice {n:Int}{nm:List UInt8}{a:Int}{x y z:Ex}{b:List (List UInt8)} :
  chkE ⟨19,n,nm,a,Fs.ex x (Fs.ex y (Fs.ex z .nil))⟩ b=(match musR none 2 x b with
   | some e=>.inl e
   | none=>match chkE y b with | .inl e=>.inl e | .inr k1=>resR (musR none k1 z b) k1):=by
 rw[chkE_kids _ _ (by show (19:Int)≠4;omega)];show endT 19 n 3 (chkFs (Fs.ex x (Fs.ex y (Fs.ex z .nil))) 19 n nm 3 b 0 [])=_;have hr:∀ d,ruleT 19 n 3 d=(match d with | []=>2 | [_]=>0|_::b::_=>b):=fun d=>by unfold ruleT;rw[if_neg (by omega),if_pos rfl];first|done|(rcases d with _|⟨x,_|⟨y,r⟩⟩<;>rfl)
 rw[chk_ex' _ _ _ _ _ _ _ _ _ (by omega),hr];simp only;rcases must_cases 2 x.a (chkE x b) (by decide) with ⟨u,hu⟩|⟨hu,-⟩
 ·unfold musR;simp only;rw[hu];rfl
 ·have e1:musR none 2 x b=none:=by unfold musR;simp only;rw[hu];rfl
  rw[hu,e1];simp only[List.nil_append];rw[chk_ex' _ _ _ _ _ _ _ _ _ (by omega),hr];simp only;cases hy:chkE y b with
  | inl e=>rfl
  | inr k1 =>
   simp only[mustT];rw[if_neg (fun h=>h.1 rfl)];simp only[List.cons_append,List.nil_append];rw[chk_ex' _ _ _ _ _ _ _ _ _ (by omega),hr];unfold musR;simp only;cases mustT k1 z.a (chkE z b) with
   | inl e=>rfl
   | inr k2 =>
    show Sum.inr (ruleT 19 n 3 [2,k1,k2])=_;rw[hr];rfl
def giveT (n:Int):Int:=if n=1\/n=2 then 2 else if n=10 then 3 else 1
def bodyT (n:Int):Int:=if n<=3 then 2 else 1
def wholeT (n:Int):Int:=if n<=2 then 2 else 1
theorem chk_call {n:Int}{nm:List UInt8}{a:Int}{f:Fs}{b:List (List UInt8)}(hn:1<=n/\n<=10)(hl:(fixL 20 n).length=f.len+1) :
  chkE ⟨20,n,nm,a,f⟩ b=resR (musL f none b) (giveT n):=by
 rw[chkE_kids _ _ (by show (20:Int)≠4;omega)];show endT 20 n f.len (chkFs f 20 n nm f.len b 0 [])=_;have hn2:n=1\/n=2\/n=3\/n=4\/n=5\/n=6\/n=7\/n=8\/n=9\/n=10:=by omega
 have hv:∀ d:List Int,d.length<f.len->ruleT 20 n f.len d=3:=fun d hd=>by
  have hr:ruleT 20 n f.len d=(fixL 20 n)[d.length]?.getD 0:=by
   unfold ruleT;rw[if_neg (by omega),if_neg (by omega),if_neg (by omega)]
  rw[hr];generalize d.length=j at hd;generalize f.len=m at hl hd;rcases hn2 with rfl|rfl|rfl|rfl|rfl|rfl|rfl|rfl|rfl|rfl<;>(simp[fixL] at hl;subst hl)
  all_goals (
   have hj:j=0\/j=1:=by omega
   rcases hj with rfl|rfl<;>first|rfl|omega)
 rw[chk_vert 20 n nm f.len b (by omega) f 0 [] (fun d _ h2=>hv d (by simpa using h2))];cases musL f none b with
 | some x=>rfl
 | none =>
  show Sum.inr (ruleT 20 n f.len ([]++List.replicate f.len 3))=_;have hr:ruleT 20 n f.len ([]++List.replicate f.len 3)=(fixL 20 n)[f.len]?.getD 0:=by
   unfold ruleT;rw[if_neg (by omega),if_neg (by omega),if_neg (by omega)];simp
  rw[hr];generalize f.len=m at hl;rcases hn2 with rfl|rfl|rfl|rfl|rfl|rfl|rfl|rfl|rfl|rfl<;>(simp[fixL] at hl;subst hl;rfl)
theorem chk_set {k n:Int}{nm:List UInt8}{a:Int}{f:Fs}{b:List (List UInt8)}(hk:(k=22\/k=23)/\f.len=0\/k=24/\f.len=1\/k=25) :
  chkE ⟨k,n,nm,a,f⟩ b=resR (musL f none b) 4:=by
 rw[chkE_kids _ _ (by show k≠4;omega)];show endT k n f.len (chkFs f k n nm f.len b 0 [])=_;have hv:∀ d:List Int,d.length<f.len->ruleT k n f.len d=3:=fun d hd=>by
  rcases hk with ⟨rfl|rfl,h0⟩|⟨rfl,h0⟩|rfl
  ·omega
  ·omega
  ·have:d.length=0:=by omega
   obtain rfl:=List.length_eq_zero_iff.1 this;rfl
  ·unfold ruleT;rw[if_neg (by omega),if_neg (by omega),if_pos rfl,if_pos hd]
 rw[chk_vert k n nm f.len b (by omega) f 0 [] (fun d _ h2=>hv d (by simpa using h2))];cases musL f none b with
 | some x=>rfl
 | none =>
  show Sum.inr (ruleT k n f.len ([]++List.replicate f.len 3))=Sum.inr 4
  congr 1
  rcases hk with ⟨rfl|rfl,h0⟩|⟨rfl,h0⟩|rfl
  ·rw[h0];rfl
  ·rw[h0];rfl
  ·rw[h0];rfl
  ·unfold ruleT;rw[if_neg (by omega),if_neg (by omega),if_pos rfl,if_neg (by simp)]
theorem chk_quant {n:Int}{nm:List UInt8}{a:Int}{s x:Ex}{b:List (List UInt8)}(hn:1<=n/\n<=6)(hs:chkE s b=resR (musL s.kids none b) 4) :
  chkE ⟨21,n,nm,a,Fs.ex s (Fs.ex x .nil)⟩ b=resR (musR (musL s.kids none b) (bodyT n) x (b++[nm])) (wholeT n):=by
 rw[chkE_kids _ _ (by show (21:Int)≠4;omega)];show endT 21 n 2 (chkFs (Fs.ex s (Fs.ex x .nil)) 21 n nm 2 b 0 [])=_;have hn2:n=1\/n=2\/n=3\/n=4\/n=5\/n=6:=by omega
 have r0:ruleT 21 n 2 []=4:=by rcases hn2 with rfl|rfl|rfl|rfl|rfl|rfl<;>rfl
 have r1:ruleT 21 n 2 [4]=bodyT n:=by rcases hn2 with rfl|rfl|rfl|rfl|rfl|rfl<;>rfl
 have r2:∀ k,ruleT 21 n 2 [4,k]=wholeT n:=fun k=>by rcases hn2 with rfl|rfl|rfl|rfl|rfl|rfl<;>rfl
 have hb0:bodyT n≠0:=by unfold bodyT;split<;>omega
 have e1:=chk_ex s (Fs.ex x .nil) 21 n nm 2 b 0 [];have e2:=chk_ex x .nil 21 n nm 2 b 1 [4];rw[if_neg (by omega),hs,r0] at e1;rw[if_pos (by decide),r1] at e2;show endT 21 n 2 (chkFs (.cons s.k s.n s.nm s.a s.kids (.cons x.k x.n x.nm x.a x.kids .nil)) 21 n nm 2 b 0 [])=_;rw[show chkFs (.cons s.k s.n s.nm s.a s.kids (.cons x.k x.n x.nm x.a x.kids .nil)) 21 n nm 2 b 0 []=_ from e1];cases musL s.kids none b with
 | some z=>rfl
 | none =>
  simp only[resR,mustT];rw[if_neg (fun h=>h.2 rfl)];simp only[List.nil_append];rw[show chkFs (Fs.ex x .nil) 21 n nm 2 b 1 [4]=_ from e2];unfold musR;simp only;rcases must_cases (bodyT n) x.a (chkE x (b++[nm])) hb0 with ⟨z,hz⟩|⟨hz,-⟩
  ·rw[hz];rfl
  ·rw[hz];show Sum.inr (ruleT 21 n 2 [4,bodyT n])=_;rw[r2];rfl
theorem chkFs_len:∀ (f:Fs) (k n:Int) (nm:List UInt8) (len:Nat) (b:List (List UInt8)) (i:Nat) (done d:List Int),chkFs f k n nm len b i done=.inr d->d.length=done.length+f.len
 | ⟨none⟩,k,n,nm,len,b,i,done,d,h=>by
  simp only[chkFs] at h;injection h with h
  subst h;rfl
 | ⟨some ⟨kk,kn,km,ka,kks,kr⟩⟩,k,n,nm,len,b,i,done,d,h=>by
  have e1:chkFs ⟨some ⟨kk,kn,km,ka,kks,kr⟩⟩ k n nm len b i done=_:=chk_ex ⟨kk,kn,km,ka,kks⟩ kr k n nm len b i done;rw[e1] at h;cases hm:mustT (ruleT k n len done) ka (chkE ⟨kk,kn,km,ka,kks⟩ (if k=21/\i≠0 then b++[nm] else b)) with
  | inl z=>simp only at h;rw[hm] at h;cases h
  | inr is =>
   simp only at h;rw[hm] at h
   have:=chkFs_len kr k n nm len b (i+1) (done++[is]) d h
   simp only[List.length_append,List.length_cons,List.length_nil,Fs.len] at this ⊢;omega
def Fs.stk:Fs->Bool->Prop
 | ⟨none⟩,_=>True
 | ⟨some ⟨k,_,_,_,ks,r⟩⟩,first=>isSetK k=first/\ks.stk (k==21)/\r.stk false
theorem hFs_stk:∀ (f:Fs) (b:Bool) (c c':Nat),hFs f b c=some c'->f.stk b
 | ⟨none⟩,b,c,c',h=>trivial
 | ⟨some ⟨k,n,nm,a,ks,r⟩⟩,b,c,c',h=>by
  unfold hFs at h;split at h
  ·cases h
  ·rename_i h0
   split at h
   ·cases h
   ·split at h
    ·split at h
     ·cases h
     ·rename_i c2 h2
      exact⟨by simpa using h0,hFs_stk ks _ _ _ h2,hFs_stk r _ _ _ h⟩
    ·cases h
theorem hE_stk {e:Ex}{c c':Nat}(h:hE e c=some c'):e.kids.stk (e.k==21):=by
 unfold hE at h;split at h
 ·cases h
 ·split at h
  ·exact hFs_stk _ _ _ _ h
  ·cases h
theorem chkE_pos:∀ (N:Nat) (e:Ex) (b:List (List UInt8)) (k:Int),e.kids.size<N->e.okA->chkE e b=.inr k->k≠0
 | 0,e,b,k,hN,_,_=>absurd hN (Nat.not_lt_zero _)
 | N+1,⟨k0,n,nm,a,f⟩,b,k,hN,hok,h=>by
  have ho:=okR_of hok.1;have hkid:=hok.1.2.2.1;simp only at hN ho hkid;by_cases h13:k0=13\/k0=14
  ·have hl:f.len=2:=by
    rcases h13 with rfl|rfl<;>(simp[kidB,opOf,opsL] at hkid;omega)
   obtain⟨x,y,rfl⟩:=len2 hl;rw[chk_alike h13] at h;cases hx:chkE x b with
   | inl z=>rw[hx] at h;cases h
   | inr k1 =>
    rw[hx] at h;simp only at h;cases hm:musR none k1 y b with
    | some z=>rw[hm] at h;cases h
    | none=>rw[hm] at h;injection h with h;omega
  by_cases h19:k0=19
  ·subst h19;have hl:f.len=3:=by simp[kidB] at hkid;omega
   obtain⟨x,y,z,rfl⟩:=len3 hl;rw[chk_choice] at h;cases hx:musR none 2 x b with
   | some u=>rw[hx] at h;cases h
   | none =>
    rw[hx] at h;simp only at h;cases hy:chkE y b with
    | inl u=>rw[hy] at h;cases h
    | inr k1 =>
     rw[hy] at h;simp only at h;cases hm:musR none k1 z b with
     | some u=>rw[hm] at h;cases h
     | none =>
      rw[hm] at h;injection h with h
      subst h;have hsz:y.kids.size<N:=by
       simp only[size_ex,Fs.size] at hN;omega
      exact chkE_pos N y b _ hsz (okA_ex (okA_ex hok.2).2).1 hy
  by_cases h25:k0=22\/k0=23\/k0=24\/k0=25
  ·have hl:(k0=22\/k0=23)/\f.len=0\/k0=24/\f.len=1\/k0=25:=by
    rcases h25 with rfl|rfl|rfl|rfl
    ·exact .inl ⟨.inl rfl,by simp[kidB] at hkid;first|done|exact hkid|omega⟩
    ·exact .inl ⟨.inr rfl,by simp[kidB] at hkid;first|done|exact hkid|omega⟩
    ·exact .inr (.inl ⟨rfl,by simp[kidB] at hkid;first|done|exact hkid|omega⟩)
    ·exact .inr (.inr rfl)
   rw[chk_set hl] at h;cases hm:musL f none b with
   | some z=>rw[hm] at h;cases h
   | none=>rw[hm] at h;injection h with h;omega
  have hpos:∀ (j:Nat) (v:Int),(fixL k0 n)[j]?=some v->v≠0:=by
   intro j v hv;have hmem:=List.mem_of_getElem? hv;have hi:∀ (P:Prop) [Decidable P] (a b:List Int),(∀ x,x ∈ a->x≠0)->(∀ x,x ∈ b->x≠0)->∀ x,x ∈ (if P then a else b)->x≠0:=by
    intro P _ a b ha hb;split
    ·exact ha
    ·exact hb
   revert v
   suffices hall:∀ x,x ∈ fixL k0 n->x≠0 from fun v _ hm=>hall v hm
   unfold fixL
   repeat' apply hi
   all_goals (intro x hx;simp at hx<;>omega)
  have hfl:(fixL k0 n).length=f.len+1:=by
   rcases ho with ho|⟨rfl,-,ho⟩|⟨rfl,-,ho⟩|⟨hr,ho⟩
   ·omega
   ·exact ho
   ·exact ho
   ·rw[<-ho];unfold fixL;simp only[hr.2.2.2.1,hr.2.2.2.2.1,if_false]
  have hlen:∀ (f:Fs) (i:Nat) (done d:List Int),chkFs f k0 n nm (f.len+i) b i done=.inr d->True:=fun _ _ _ _ _=>trivial;unfold chkE at h;split at h
  ·cases h
  ·cases hc:chkFs f k0 n nm f.len b 0 [] with
   | inl z=>simp only at h;rw[hc] at h;cases h
   | inr d =>
    simp only at h;rw[hc] at h;injection h with h
    have hd:=chkFs_len f k0 n nm f.len b 0 [] d hc;have hr:ruleT k0 n f.len d=(fixL k0 n)[d.length]?.getD 0:=by
     unfold ruleT;rw[if_neg (by omega),if_neg (by omega),if_neg (by omega)]
    have hx:(fixL k0 n)[d.length]?=some ((fixL k0 n)[d.length]'(by simp at hd;omega)):=List.getElem?_eq_getElem (by simp at hd;omega);rw[<-h,hr,hx];exact hpos _ _ hx
open Go.ChangeShapes Go.WideShapes Go.ChangeAt Go.RowKit
def Nms (w:World)(v:Value)(b:List (List UInt8)):Prop :=
 ∃ao cap,v=.slice ao b.length cap/\b.length<=cap/\((b=[]/\ao=none)\/∃g,ao=some ⟨g,0,none⟩/\g<w.heap.size/\0<b.length/\∀ (j:Nat) (t:List UInt8),b[j]?=some t->w.cell? ⟨g,j,none⟩=some (stv t))
theorem Nms.below {w w':World}{v:Value}{b:List (List UInt8)}(h:Nms w v b)(B:Below w.heap.size w w'):Nms w' v b:=by
 obtain⟨ao,cap,rfl,hc,h1|⟨g,h1,h2,h0,h3⟩⟩:=h
 ·exact⟨ao,cap,rfl,hc,.inl h1⟩
 ·exact⟨ao,cap,rfl,hc,.inr ⟨g,h1,Nat.lt_of_lt_of_le h2 B.size,h0,fun j t hj=>(B.cell (p:=⟨g,j,none⟩) h2).trans (h3 j t hj)⟩⟩
theorem Nms.nil (w:World):Nms w (.slice none 0 0) []:=⟨none,0,rfl,Nat.le_refl _,.inl ⟨rfl,rfl⟩⟩
theorem infoStrT:(Tryz.prog.info? 9).map (fun i=>(i.zero,i.size,i.bytes))=some (some (.string ⟨#[]⟩),1,16):=by kernel_rfl
theorem Row.madeS {w:World}{o:Nat->Nat}{i n:Nat}{e:TypeId}{size:Nat}{X:Array Value}{xs:List Value}(h:X.toList=xs)(hs:X.size=n*size)(hm:n<=maxLen):Row (w.alloc (.cells X e)) (newLab w o i) i e size (.slice (some ⟨w.heap.size,0,none⟩) n n) n xs:=by
 subst h;refine⟨World.ownsRow_lit w _ n (Nat.zero_le _) hm hs,fun k hk=>?_⟩;simp[Value.ownBlock] at hk;subst hk;exact newLab_new (Nat.le_refl _)
theorem below_stepT {I:Nat->Prop}{n0:Nat}{a w w':World}{o o':Nat->Nat}(b:Below n0 a w)(s:Step I w o w' o')(h:∀ k,k<n0->¬I (o k))(hn:n0<=a.heap.size):Below n0 a w' :=
 ⟨s.os.trans b.os,s.tape.trans b.tape,s.output.trans b.output,Nat.le_trans b.size s.size,fun k hk=>(s.block k (by have:=b.size;omega) (h k hk)).trans (b.block k hk)⟩
abbrev I1n:Nat->Prop:=fun k=>k=1
theorem Nms.ofRow {w:World}{o:Nat->Nat}{g cap:Nat}{b:List (List UInt8)}{n:Nat}(h:Row w o 1 9 1 (.slice (some ⟨g,0,none⟩) n cap) n (b.map fun x=>stv x))(hn:b.length=n)(h0:0<n):Nms w (.slice (some ⟨g,0,none⟩) n cap) b:=by
 subst hn;obtain⟨g',cap',e1,_,h2,_,h4,h5,_⟩:=h.pos h0;injection e1 with e1 e2 e3
 injection e1 with e1
 injection e1 with e1
 subst e1;subst e3;refine⟨_,_,rfl,h2,.inr ⟨g,rfl,h4,h0,fun j t hj=>?_⟩⟩;have hj2:j<b.length:=(List.getElem?_eq_some_iff.1 hj).1;rw[h5 j (by omega),List.getElem?_map,hj];rfl
def erO (st:Er):Nat:=match st with|some x=>x.1|none=>0
def plO (st:Er):Int:=match st with|some x=>x.2|none=>0
def StOk (st:Er):Prop:=∀ x,st=some x->x.1≠0
structure Wk (w:World)(wb:Nat)(bv:Value)(st:Er):Prop where
 blk:w.heap[wb]?=some (.cells #[bv,.int .i64 (erO st:Nat),.int .i64 (plO st)] 108 (0,0))
 ok:StOk st
theorem StOk.none:StOk none:=fun x h=>by cases h
theorem box3 {w:World}{b:Nat}{a0 a1 a2:Value}{t:TypeId}(h:w.heap[b]?=some (.cells #[a0,a1,a2] t (0,0))):w.cell? ⟨b,0,none⟩=some a0/\w.cell? ⟨b,1,none⟩=some a1/\w.cell? ⟨b,2,none⟩=some a2/\∀ j,w.frozen? ⟨b,j,none⟩=false:=by
 refine⟨?_,?_,?_,fun j=>frozen_of_row w b j _ t h⟩<;>simp[cell_of_row w b _ _ t (0,0) h]
theorem set3 {w:World}{b:Nat}{a0 a1 a2:Value}{t:TypeId}(h:w.heap[b]?=some (.cells #[a0,a1,a2] t (0,0)))(v:Value) :
  (w.setCell ⟨b,0,none⟩ v).heap[b]?=some (.cells #[v,a1,a2] t (0,0))/\(w.setCell ⟨b,1,none⟩ v).heap[b]?=some (.cells #[a0,v,a2] t (0,0))/\(w.setCell ⟨b,2,none⟩ v).heap[b]?=some (.cells #[a0,a1,v] t (0,0)) :=
 ⟨(Blk.set (o:=fun _=>0) (i:=0) ⟨h,rfl⟩ 0 v).1,(Blk.set (o:=fun _=>0) (i:=0) ⟨h,rfl⟩ 1 v).1,(Blk.set (o:=fun _=>0) (i:=0) ⟨h,rfl⟩ 2 v).1⟩
def Nmk (wb:Nat)(w:World)(v:Value)(b:List (List UInt8)):Prop:=Nms w v b/\∀ g off n c,v=.slice (some ⟨g,off,none⟩) n c->g≠wb
theorem Nmk.keep {wb:Nat}{w w':World}{v:Value}{b:List (List UInt8)}(h:Nmk wb w v b)(K:Keep wb w w'):Nmk wb w' v b:=by
 refine⟨?_,h.2⟩;obtain⟨⟨ao,cap,rfl,hc,h1|⟨g,rfl,h2,h0,h3⟩⟩,h4⟩:=h
 ·exact⟨ao,cap,rfl,hc,.inl h1⟩
 ·exact⟨_,cap,rfl,hc,.inr ⟨g,rfl,Nat.lt_of_lt_of_le h2 K.size,h0,fun j t hj=>(K.cell h2 (h4 _ _ _ _ rfl) j).trans (h3 j t hj)⟩⟩
theorem fails13 (w:World)(wb:Nat)(bv:Value)(er:Nat)(a:Int)(her:er≠0)(h:Wk w wb bv none) :
  Calls Tryz.prog 169 #[.pointer (some ⟨wb,0,none⟩),.int .i64 (er:Nat),.int .i64 a] w fun x w'=>x=.returned (.tuple #[])/\Wk w' wb bv (some (er,a))/\Keep wb w w':=by
 have h1:=h.blk;simp only[erO,plO] at h1;obtain⟨c0,c1,c2,cf⟩:=box3 h1;have F1:=(set3 h1 (.int .i64 (er:Nat))).2.1;have F2:=(set3 F1 (.int .i64 a)).2.2;have K:=((Keep.refl wb w).set ⟨wb,1,none⟩ (.int .i64 (er:Nat)) (.inr rfl)).set ⟨wb,2,none⟩ (.int .i64 a) (.inr rfl);have HZ:Hid (Wk ((w.setCell ⟨wb,1,none⟩ (.int .i64 (er:Nat))).setCell ⟨wb,2,none⟩ (.int .i64 a)) wb bv (some (er,a))/\Keep wb w ((w.setCell ⟨wb,1,none⟩ (.int .i64 (er:Nat))).setCell ⟨wb,2,none⟩ (.int .i64 a))) :=
  ⟨⟨F2,fun x hx=>by injection hx with hx;subst hx;exact her⟩,K⟩
 clear h F1 F2 K h1;go_enter Tryz.func169,Tryz.ntmps169;go_wp2
 go_end0
 exact⟨rfl,HZ.out.1,HZ.out.2⟩
def PostNm (w:World)(wb:Nat)(bv:Value)(b:List (List UInt8))(e:Ex)(x:Ending)(w':World):Prop :=
 (∃r,x=.returned (.int .i64 r)/\(e.nm ∈ b->r=3))/\Wk w' wb bv (if e.nm ∈ b then none else some (130,e.a))/\Keep wb w w'
theorem name_q (e:Ex)(ao:Option Addr)(cap:Nat)(w:World)(wb:Nat)(bv:Value)(b:List (List UInt8))(h:Wk w wb bv none)(hn:Nmk wb w bv b)(hl:b.length<=100000) :
  Calls Tryz.prog 117 #[.pointer (some ⟨wb,0,none⟩),exV e ao cap] w (PostNm w wb bv b e):=by
 have B0:Below w.heap.size w (w.alloc (.cells #[.int .i64 e.k,.int .i64 e.n,stv e.nm,.slice ao e.kids.len cap,.int .i64 e.a] 25)):=(Below.refl _ w).alloc (Nat.le_refl _) _;have E0:(w.alloc (.cells #[.int .i64 e.k,.int .i64 e.n,stv e.nm,.slice ao e.kids.len cap,.int .i64 e.a] 25)).heap[w.heap.size]?=some (.cells #[.int .i64 e.k,.int .i64 e.n,stv e.nm,.slice ao e.kids.len cap,.int .i64 e.a] 25):=heap_alloc_new w _;have hwb:=lt_of_block h.blk;have W0:=(B0.block _ hwb).trans h.blk;have N0:=hn.1.below B0;clear h hn;rw[exV_out];go_enter Tryz.func117,Tryz.ntmps117;go_upto_region 1 with fail;generalize w.alloc (.cells #[.int .i64 e.k,.int .i64 e.n,stv e.nm,.slice ao e.kids.len cap,.int .i64 e.a] 25)=w0 at *;obtain⟨bx,hbx⟩:∃bx,bx=w.heap.size:=⟨_,rfl⟩
 rw[<-hbx] at E0 B0 ⊢;have HB:Hid (bx=w.heap.size):=hbx;clear hbx;have hbx0:=lt_of_block E0;have hwb0:=lt_of_block W0;obtain⟨av,capv,rfl,hcv,hp⟩:=N0;simp only[erO,plO] at W0;go_wp2;go_loopw [5] (fun v wr=>∃k:Nat,k<=b.length/\v=.int .i64 (k:Nat)/\Hid (∀ j,j<k->b[j]?≠some e.nm)/\Below w0.heap.size w0 wr) (fun v _=>b.length-(intOf v).toNat)
 case atStart=>exact⟨0,by omega,by go_num,fun j hj=>absurd hj (Nat.not_lt_zero _),Below.refl _ _⟩
 case round =>
  obtain⟨k,hk,rfl,hno,B1⟩:=hrel;have E1:=(B1.block _ hbx0).trans E0;have W1:=(B1.block _ hwb0).trans W0;obtain⟨p0,p1,p2,p3,p4,pf⟩:=box5 E1;obtain⟨q0,q1,q2,qf⟩:=box3 W1;by_cases hlt:k<b.length
  ·have hx:b[k]?=some b[k]:=List.getElem?_eq_getElem hlt;rcases hp with ⟨rfl,-⟩|⟨g,rfl,hg,-,hcell⟩
   ·simp at hlt
   have c1:=(B1.cell (p:=⟨g,k,none⟩) hg).trans (hcell k _ hx);generalize b[k]=x at c1 hx;have hkI:(k:Int)<(b.length:Int):=by omega
   have HX:Hid (b[k]?=some x):=hx;clear hx hcell;by_cases he:x=e.nm
   ·subst he;have hbe:(e.nm==e.nm)=true:=by simp
    have hmem:e.nm ∈ b:=List.mem_of_getElem? HX.out;have FIN:Hid (e.nm ∈ b):=hmem;clear hno HX hmem;go_wp2_with fail
    go_quiet (fail)
    go_wp2;refine bodyPost_ret (v:=.int .i64 3) (by simp[results,Tryz.results117,go_sem]) rfl ⟨⟨3,rfl,fun _=>rfl⟩,?_,?_⟩
    ·rw[if_pos FIN.out];exact⟨W1,StOk.none⟩
    ·refine Keep.ofBelow ?_;rw[<-HB.out];exact B0.trans ((B1.trans (show Below w0.heap.size wr (wr.drewN nq) from ⟨rfl,rfl,rfl,Nat.le_refl _,fun _ _=>rfl⟩)).mono (Nat.le_of_lt hbx0))
   ·have hbe:(x==e.nm)=false:=by simpa using he
    have hn2:Hid (∀ j,j<k+1->b[j]?≠some e.nm):=by
     intro j hj;rcases Nat.lt_succ_iff_lt_or_eq.1 hj with h1|rfl
     ·exact hno.out j h1
     ·rw[HX.out];intro h2;injection h2 with h2
      exact he h2
    clear hno HX he;go_wp2_with fail
    go_quiet (fail)
    have B2:=B1.trans (show Below w0.heap.size wr (wr.drewN nq) from ⟨rfl,rfl,rfl,Nat.le_refl _,fun _ _=>rfl⟩);go_wp2;go_roundw
    case rel=>exact⟨k+1,by omega,by go_num,hn2,B2⟩
    case measure=>simp[intOf];omega
  ·obtain rfl:k=b.length:=by omega
   have FIN:Hid (¬e.nm ∈ b):=by
    intro h1;obtain⟨j,hj,h2⟩:=List.mem_iff_getElem.1 h1;exact hno.out j hj (by rw[List.getElem?_eq_getElem hj,h2])
   have c1:=fails13 wr wb (.slice av b.length capv) 130 e.a (by decide) ⟨W1,StOk.none⟩;clear hno hp;go_wp2_with fail;refine c1.mono ?_;rintro x w3 ⟨rfl,W3,K3⟩;clear c1 p0 p1 p2 p3 p4 pf q0 q1 q2 qf;go_wp2;refine bodyPost_ret (v:=.int .i64 0) (by simp[results,Tryz.results117,go_sem]) rfl ⟨⟨0,rfl,fun h=>absurd h FIN.out⟩,?_,?_⟩
   ·rw[if_neg FIN.out];exact W3
   ·refine(Keep.ofBelow ?_).trans K3;rw[<-HB.out];exact B0.trans (B1.mono (Nat.le_of_lt hbx0))
theorem gives_q (n:Int)(w:World):Calls Tryz.prog 120 #[.int .i64 n] w fun x w'=>x=.returned (.int .i64 (giveT n))/\w'=w:=by
 unfold giveT;by_cases h1:n=1
 ·subst h1;go_enter Tryz.func120,Tryz.ntmps120;go_wp2;go_ret;exact⟨rfl,rfl⟩
 ·by_cases h2:n=2
  ·subst h2;go_enter Tryz.func120,Tryz.ntmps120;go_wp2;go_ret;exact⟨rfl,rfl⟩
  ·rw[if_neg (by omega)];have b1:(n==1)=false:=by simpa using h1
   have b2:(n==2)=false:=by simpa using h2
   by_cases h3:n=10
   ·subst h3;go_enter Tryz.func120,Tryz.ntmps120;go_wp2;go_ret;exact⟨rfl,rfl⟩
   ·rw[if_neg h3];have b3:(n==10)=false:=by simpa using h3
    clear h1 h2 h3;go_enter Tryz.func120,Tryz.ntmps120;go_wp2;go_ret;exact⟨rfl,rfl⟩
theorem body_q (n:Int)(w:World):Calls Tryz.prog 170 #[.int .i64 n] w fun x w'=>x=.returned (.int .i64 (bodyT n))/\w'=w:=by
 unfold bodyT;by_cases h1:n<=3
 ·rw[if_pos h1];go_enter Tryz.func170,Tryz.ntmps170;go_wp2;go_ret;exact⟨rfl,rfl⟩
 ·rw[if_neg h1];go_enter Tryz.func170,Tryz.ntmps170;go_wp2;go_ret;exact⟨rfl,rfl⟩
theorem whole_q (n:Int)(w:World):Calls Tryz.prog 171 #[.int .i64 n] w fun x w'=>x=.returned (.int .i64 (wholeT n))/\w'=w:=by
 unfold wholeT;by_cases h1:n<=2
 ·rw[if_pos h1];go_enter Tryz.func171,Tryz.ntmps171;go_wp2;go_ret;exact⟨rfl,rfl⟩
 ·rw[if_neg h1];go_enter Tryz.func171,Tryz.ntmps171;go_wp2;go_ret;exact⟨rfl,rfl⟩
structure Rt13 (N:Nat)(e:Ex)(nb:Nat):Prop where
 sz:e.kids.size<N
 ok:e.okA
 st:isSetK e.k=false
 sk:e.kids.stk (e.k==21)
 len:e.kids.len<=1000000000
 sh:e.kids.short
 bl:nb+e.kids.size<=3000
def PostKd (w:World)(wb:Nat)(bv:Value)(r:Sum (Nat × Int) Int)(x:Ending)(w':World):Prop :=
 (∃k',x=.returned (.int .i64 k')/\∀ k,r=.inr k->k'=k)/\Wk w' wb bv (stS r)/\Keep wb w w'
def KindOk (N:Nat):Prop:=∀ (e:Ex) (ao:Option Addr) (cap wb:Nat) (bv:Value) (b:List (List UInt8)) (w:World),Rt13 N e b.length->Wk w wb bv none->Nmk wb w bv b->Sl w (Nf wb) e.kids ao ->
 Calls Tryz.prog 77 #[.pointer (some ⟨wb,0,none⟩),exV e ao cap] w (PostKd w wb bv (chkE e b))
def PostMu (w:World)(wb:Nat)(bv:Value)(st:Er)(x:Ending)(w':World):Prop:=x=.returned (.tuple #[])/\Wk w' wb bv st/\Keep wb w w'
theorem Sl.belowF {fb:Nat}{w w':World}{f:Fs}{ao:Option Addr}(h:Sl w (Nf fb) f ao)(b:Below w.heap.size w w'):Sl w' (Nf fb) f ao:=h.mono (fun i _ hl=>b.block i hl) b.size (fun _ h _=>h)
theorem Nmk.below {wb:Nat}{w w':World}{v:Value}{b:List (List UInt8)}(h:Nmk wb w v b)(B:Below w.heap.size w w'):Nmk wb w' v b:=⟨h.1.below B,h.2⟩
theorem Wk.below {w w':World}{wb:Nat}{bv:Value}{st:Er}(h:Wk w wb bv st)(B:Below w.heap.size w w'):Wk w' wb bv st:=⟨(B.block _ (lt_of_block h.blk)).trans h.blk,h.ok⟩
theorem Keep.bel {rb:Nat}{w a b:World}(B:Below w.heap.size w a)(K:Keep rb a b):Keep rb w b:=(Keep.ofBelow B).trans K
theorem must_q {N:Nat}(IH:KindOk N)(e:Ex)(ao:Option Addr)(cap wb:Nat)(bv:Value)(b:List (List UInt8))(m:Int)(st:Er)(w:World)(hr:Rt13 N e b.length)(hm:st=none->m≠0)(h:Wk w wb bv st)(hn:st=none->Nmk wb w bv b)(S:Sl w (Nf wb) e.kids ao) :
  Calls Tryz.prog 118 #[.pointer (some ⟨wb,0,none⟩),exV e ao cap,.int .i64 m] w (PostMu w wb bv (musR st m e b)):=by
 have B0:Below w.heap.size w (w.alloc (.cells #[.int .i64 e.k,.int .i64 e.n,stv e.nm,.slice ao e.kids.len cap,.int .i64 e.a] 25)):=(Below.refl _ w).alloc (Nat.le_refl _) _;have E0:(w.alloc (.cells #[.int .i64 e.k,.int .i64 e.n,stv e.nm,.slice ao e.kids.len cap,.int .i64 e.a] 25)).heap[w.heap.size]?=some (.cells #[.int .i64 e.k,.int .i64 e.n,stv e.nm,.slice ao e.kids.len cap,.int .i64 e.a] 25):=heap_alloc_new w _;have W0:=h.below B0;have S0:=Sl.belowF S B0;have hwb:=lt_of_block h.blk;have N0:=fun hs=>(hn hs).below B0;clear h hn S;rw[exV_out];go_enter Tryz.func118,Tryz.ntmps118;go_upto_region 1 with fail;generalize w.alloc (.cells #[.int .i64 e.k,.int .i64 e.n,stv e.nm,.slice ao e.kids.len cap,.int .i64 e.a] 25)=w0 at *;obtain⟨bx,hbx⟩:∃bx,bx=w.heap.size:=⟨_,rfl⟩
 have hwbx:wb≠bx:=by omega
 rw[<-hbx] at E0 B0 ⊢;have HB:Hid (bx=w.heap.size):=hbx;clear hbx;obtain⟨p0,p1,p2,p3,p4,pf⟩:=box5 E0;obtain⟨q0,q1,q2,qf⟩:=box3 W0.blk;cases st with
 | some z =>
  have hz:=W0.ok z rfl;obtain⟨er,pa⟩:=z;simp only[erO,plO] at q1 q2 hz;have hne:((er:Int) != 0)=true:=by simp;omega
  have HZ:Hid (PostMu w wb bv (musR (some (er,pa)) m e b) (.returned (.tuple #[])) w0):=⟨rfl,W0,Keep.ofBelow (by rw[<-HB.out];exact B0)⟩
  clear W0 N0 S0 hr;go_wp2
  go_end0
  exact HZ.out
 | none =>
  have HM:Hid (m≠0):=hm rfl;simp only[erO,plO] at q1 q2;have c1:=IH e ao cap wb bv b w0 hr W0 (N0 rfl) S0;rw[exV_out] at c1;go_wp2_with fail;refine c1.mono ?_;rintro x w1 ⟨⟨k',rfl,hk'⟩,W1,K1⟩;have E1:=(K1.block _ (lt_of_block E0) (Ne.symm hwbx)).trans E0;have KW:Keep wb w w1:=Keep.bel (by rw[<-HB.out];exact B0) K1;clear c1 p0 p1 p2 p3 p4 pf q0 q1 q2 qf W0 N0 S0 E0 B0 K1;obtain⟨p0,p1,p2,p3,p4,pf⟩:=box5 E1;obtain⟨q0,q1,q2,qf⟩:=box3 W1.blk;cases hc:chkE e b with
  | inl z =>
   obtain⟨er,pa⟩:=z;have her:=chkE_er hc;rw[hc] at W1 q1 q2;simp only[stS,erO,plO] at q1 q2;have hne:((er:Int)==0)=false:=by simp;omega
   have HZ:Hid (PostMu w wb bv (musR none m e b) (.returned (.tuple #[])) w1):=⟨rfl,by unfold musR;simp only;rw[hc];exact W1,KW⟩
   clear W1 hr hc hk' her KW;go_wp2
   go_end0
   exact HZ.out
  | inr k =>
   obtain rfl:=hk' k hc;rw[hc] at W1 q1 q2;simp only[stS,erO,plO] at q1 q2 W1;by_cases hkm:k'=m
   ·have hne:(k' != m)=false:=by simpa using hkm
    have HZ:Hid (PostMu w wb bv (musR none m e b) (.returned (.tuple #[])) w1):=by
     refine⟨rfl,?_,KW⟩;unfold musR;simp only;rw[hc];simp only[mustT];rw[if_neg (fun h=>h.2 hkm)];exact W1
    clear W1 hr hc hk' KW hkm;go_wp2
    go_end0
    exact HZ.out
   ·have hne:(k' != m)=true:=by simpa using hkm
    have c2:=fails13 w1 wb bv 131 e.a (by decide) W1;have hmu:Hid (musR none m e b=some (131,e.a)):=by
     show _=_;unfold musR;simp only;rw[hc];simp only[mustT];rw[if_pos ⟨HM.out,hkm⟩];rfl
    clear W1 hr hc hk' hkm;go_wp2_with fail;refine c2.mono ?_;rintro x w3 ⟨rfl,W3,K3⟩;have HZ:Hid (PostMu w wb bv (musR none m e b) (.returned (.tuple #[])) w3):=⟨rfl,by rw[hmu.out];exact W3,KW.trans K3⟩
    clear c2 W3 K3 KW;go_wp2
    go_end0
    exact HZ.out
theorem binary_q {N:Nat}(IH:KindOk N)(e x y:Ex)(ao:Option Addr)(cap wb:Nat)(bv:Value)(b:List (List UInt8))(m g:Int)(w:World)(hk:e.kids=Fs.ex x (Fs.ex y .nil))(hx:Rt13 N x b.length)(hy:Rt13 N y b.length)(hm:m≠0)(h:Wk w wb bv none)(hn:Nmk wb w bv b)(S:Sl w (Nf wb) e.kids ao) :
  Calls Tryz.prog 119 #[.pointer (some ⟨wb,0,none⟩),exV e ao cap,.int .i64 m,.int .i64 g] w fun z w'=>z=.returned (.int .i64 g)/\Wk w' wb bv (musR (musR none m x b) m y b)/\Keep wb w w':=by
 have hlen:e.kids.len=2:=by rw[hk];rfl
 have HK:Hid (e.kids=Fs.ex x (Fs.ex y .nil)):=hk;have HL:Hid (e.kids.len=2):=hlen;clear hk hlen;have B0:Below w.heap.size w (w.alloc (.cells #[.int .i64 e.k,.int .i64 e.n,stv e.nm,.slice ao e.kids.len cap,.int .i64 e.a] 25)):=(Below.refl _ w).alloc (Nat.le_refl _) _;have E0:(w.alloc (.cells #[.int .i64 e.k,.int .i64 e.n,stv e.nm,.slice ao e.kids.len cap,.int .i64 e.a] 25)).heap[w.heap.size]?=some (.cells #[.int .i64 e.k,.int .i64 e.n,stv e.nm,.slice ao e.kids.len cap,.int .i64 e.a] 25):=heap_alloc_new w _;have W0:=h.below B0;have S0:=Sl.belowF S B0;have hwb:=lt_of_block h.blk;have N0:=hn.below B0;clear h hn S;rw[exV_out];go_enter Tryz.func119,Tryz.ntmps119;go_upto_region 1 with fail;generalize w.alloc (.cells #[.int .i64 e.k,.int .i64 e.n,stv e.nm,.slice ao e.kids.len cap,.int .i64 e.a] 25)=w0 at *;obtain⟨bx,hbx⟩:∃bx,bx=w.heap.size:=⟨_,rfl⟩
 have hwbx:wb≠bx:=by omega
 rw[<-hbx] at E0 B0 ⊢;have HB:Hid (bx=w.heap.size):=hbx;clear hbx;rw[HL.out] at E0 ⊢;obtain⟨p0,p1,p2,p3,p4,pf⟩:=box5 E0;have S0x:Sl w0 (Nf wb) (Fs.nil.app (Fs.ex x (Fs.ex y .nil))) ao:=by rw[HK.out] at S0;exact S0
 obtain⟨kb,off,ak,ck,hao,x0,x1,x2,x3,x4,SK⟩:=Sl.kidP S0x 0 rfl;subst hao;simp only[Nat.zero_mul,Nat.add_zero] at x0 x1 x2 x3 x4;have c1:=must_q IH x ak ck wb bv b m none w0 hx (fun _=>hm) W0 (fun _=>N0) SK;rw[exV_out] at c1;go_wp2_with fail;refine c1.mono ?_;rintro z w1 ⟨rfl,W1,K1⟩;have E1:=(K1.block _ (lt_of_block E0) (Ne.symm hwbx)).trans E0;have S1:Sl w1 (Nf wb) ((Fs.ex x .nil).app (Fs.ex y .nil)) (some ⟨kb,off,none⟩):=by
  have:=Sl.keepF S0 K1
  rw[HK.out] at this;exact this
 have N1:=N0.keep K1;have KW:Keep wb w w1:=Keep.bel (by rw[<-HB.out];exact B0) K1;clear c1 p0 p1 p2 p3 p4 pf x0 x1 x2 x3 x4 SK S0x S0 W0 N0 E0 B0 K1;obtain⟨p0,p1,p2,p3,p4,pf⟩:=box5 E1;obtain⟨kb',off',ak,ck,hao,x0,x1,x2,x3,x4,SK⟩:=Sl.kidP S1 1 rfl;injection hao with hao
 injection hao with h1 h2
 subst h1;subst h2;have c2:=must_q IH y ak ck wb bv b m _ w1 hy (fun _=>hm) W1 (fun _=>N1) SK;rw[exV_out] at c2;go_wp2_with fail;refine c2.mono ?_;rintro z w2 ⟨rfl,W2,K2⟩;have HZ:Hid (Wk w2 wb bv (musR (musR none m x b) m y b)/\Keep wb w w2):=⟨W2,KW.trans K2⟩
 clear c2 W2 K2 KW p0 p1 p2 p3 p4 pf x0 x1 x2 x3 x4 SK S1 W1 N1 E1;go_wp2;refine bodyPost_ret (v:=.int .i64 g) (by simp[results,Tryz.results119,go_sem]) rfl ⟨rfl,HZ.out.1,HZ.out.2⟩
theorem app_okA2:∀ {x y:Fs},(x.app y).okA->y.okA
 | ⟨none⟩,y,h=>h
 | ⟨some ⟨k,n,nm,a,ks,r⟩⟩,y,h=>app_okA2 h.2.2
theorem app_nil13:∀ (x:Fs),x.app .nil=x
 | ⟨none⟩=>rfl
 | ⟨some ⟨k,n,nm,a,ks,r⟩⟩=>by simp only[Fs.app];rw[app_nil13 r]
def Kds (N:Nat)(f:Fs)(nb:Nat):Prop:=∀ (d r:Fs) (y:Ex),f=d.app (Fs.ex y r)->Rt13 N y nb
theorem Fs.app_stk:∀ {x y:Fs}{first:Bool},(x.app y).stk first->x.len≠0->y.stk false
 | ⟨none⟩,y,first,h,h0=>absurd rfl h0
 | ⟨some ⟨k,n,nm,a,ks,⟨none⟩⟩⟩,y,first,h,h0=>h.2.2
 | ⟨some ⟨k,n,nm,a,ks,⟨some r⟩⟩⟩,y,first,h,h0=>Fs.app_stk (x:=⟨some r⟩) h.2.2 (by simp[Fs.len])
theorem Fs.app_stkF {x y:Fs}(h:(x.app y).stk false):y.stk false:=by
 by_cases h0:x.len=0
 ·cases x using Fs.on with
  | nil=>exact h
  | cons k n nm a ks r=>simp[Fs.len] at h0
 ·exact Fs.app_stk h h0
theorem Kds.of {N:Nat}{f:Fs}{nb:Nat}(hs:f.size<=N)(hok:f.okA)(hsk:f.stk false)(hsh:f.short)(hbl:nb+f.size<=3000):Kds N f nb:=by
 intro d r y hf;subst hf;rw[Fs.size_app,size_ex] at hs hbl;have h1:=Fs.app_short hsh;have h2:=Fs.app_stkF hsk;have h3:(Fs.ex y r).okA:=app_okA2 hok;exact⟨by omega,(okA_ex h3).1,h2.1,h2.2.1,h1.2.1,h1.2.2.1,by omega⟩
theorem quant13 {N:Nat}(IH:KindOk N)(e s x:Ex)(ao:Option Addr)(cap wb:Nat)(bv:Value)(b:List (List UInt8))(w:World)(hk:e.kids=Fs.ex s (Fs.ex x .nil))(hs:Kds N s.kids b.length)(hsl:s.kids.len<=1000000000)(hx:Rt13 N x (b.length+1))(h:Wk w wb bv none)(hn:Nmk wb w bv b)(S:Sl w (Nf wb) e.kids ao) :
  Calls Tryz.prog 121 #[.pointer (some ⟨wb,0,none⟩),exV e ao cap] w fun z w'=>z=.returned (.int .i64 (wholeT e.n))/\Wk w' wb bv (musR (musL s.kids none b) (bodyT e.n) x (b++[e.nm]))/\Keep wb w w':=by
 obtain⟨ii,hii,hzi0,hzi1,hzi2⟩:=info_parts infoStrT;have hlen:e.kids.len=2:=by rw[hk];rfl
 have HK:Hid (e.kids=Fs.ex s (Fs.ex x .nil)):=hk;have HL:Hid (e.kids.len=2):=hlen;clear hk hlen;have B0:Below w.heap.size w (w.alloc (.cells #[.int .i64 e.k,.int .i64 e.n,stv e.nm,.slice ao e.kids.len cap,.int .i64 e.a] 25)):=(Below.refl _ w).alloc (Nat.le_refl _) _;have E0:(w.alloc (.cells #[.int .i64 e.k,.int .i64 e.n,stv e.nm,.slice ao e.kids.len cap,.int .i64 e.a] 25)).heap[w.heap.size]?=some (.cells #[.int .i64 e.k,.int .i64 e.n,stv e.nm,.slice ao e.kids.len cap,.int .i64 e.a] 25):=heap_alloc_new w _;have W0:=h.below B0;have S0:=Sl.belowF S B0;have hwb:=lt_of_block h.blk;have N0:=hn.below B0;clear h hn S;rw[exV_out];go_enter Tryz.func121,Tryz.ntmps121;go_upto_region 1 with fail;generalize w.alloc (.cells #[.int .i64 e.k,.int .i64 e.n,stv e.nm,.slice ao e.kids.len cap,.int .i64 e.a] 25)=w0 at *;obtain⟨bx,hbx⟩:∃bx,bx=w.heap.size:=⟨_,rfl⟩
 have hwbx:wb≠bx:=by omega
 rw[<-hbx] at E0 B0 ⊢;have HB:Hid (bx=w.heap.size):=hbx;clear hbx;rw[HL.out] at E0 ⊢;obtain⟨p0,p1,p2,p3,p4,pf⟩:=box5 E0;have S0x:Sl w0 (Nf wb) (Fs.nil.app (Fs.ex s (Fs.ex x .nil))) ao:=by rw[HK.out] at S0;exact S0
 obtain⟨kb,off,as',cs',hao,x0,x1,x2,x3,x4,SK⟩:=Sl.kidP S0x 0 rfl;subst hao;simp only[Nat.zero_mul,Nat.add_zero] at x0 x1 x2 x3 x4
 -- the set's box
 have B1:Below w0.heap.size w0 (w0.alloc (.cells #[.int .i64 s.k,.int .i64 s.n,stv s.nm,.slice as' s.kids.len cs',.int .i64 s.a] 25)):=(Below.refl _ w0).alloc (Nat.le_refl _) _;have Z1:(w0.alloc (.cells #[.int .i64 s.k,.int .i64 s.n,stv s.nm,.slice as' s.kids.len cs',.int .i64 s.a] 25)).heap[w0.heap.size]?=some (.cells #[.int .i64 s.k,.int .i64 s.n,stv s.nm,.slice as' s.kids.len cs',.int .i64 s.a] 25):=heap_alloc_new w0 _;have E1:=(B1.block _ (lt_of_block E0)).trans E0;have W1:=W0.below B1;have N1:=N0.below B1;have S1:=Sl.belowF S0 B1;have SK1:=Sl.belowF SK B1;have hwb1:wb<w0.heap.size:=lt_of_block W0.blk;go_upto_region 2 with fail;generalize w0.alloc (.cells #[.int .i64 s.k,.int .i64 s.n,stv s.nm,.slice as' s.kids.len cs',.int .i64 s.a] 25)=w1 at *;obtain⟨sb,hsb⟩:∃sb,sb=w0.heap.size:=⟨_,rfl⟩
 have hwsb:wb≠sb:=by omega
 rw[<-hsb] at Z1 ⊢;have BW1:Below bx w w1:=B0.trans (B1.mono (Nat.le_of_lt (lt_of_block E0)));clear hsb p0 p1 p2 p3 p4 pf x0 x1 x2 x3 x4 S0x S0 W0 N0 E0 B0 B1 SK;go_wp2;go_loopw [6] (fun v wr=>∃(d r:Fs),Hid (s.kids=d.app r)/\v=.int .i64 (d.len:Nat)/\Wk wr wb bv (musL d none b)/\Keep wb w1 wr) (fun v _=>s.kids.len-(intOf v).toNat)
 case atStart=>exact⟨.nil,s.kids,rfl,by show _=Value.int .i64 ((0:Nat):Int);rfl,W1,Keep.refl _ _⟩
 case round =>
  obtain⟨d,r,hf,rfl,W2,K2⟩:=hrel;have hlk:s.kids.len=d.len+r.len:=by rw[hf.out,Fs.len_app]
  have Z2:=(K2.block _ (lt_of_block Z1) (Ne.symm hwsb)).trans Z1;have E2:=(K2.block _ (lt_of_block E1) (Ne.symm hwbx)).trans E1;obtain⟨p0,p1,p2,p3,p4,pf⟩:=box5 Z2;cases r using Fs.on with
  | nil =>
   have hl0:¬(d.len:Int)<(s.kids.len:Int):=by simp only[Fs.len] at hlk;omega
   have hdn:s.kids=d:=by rw[hf.out];clear hf hlk hl0 W2;exact app_nil13 d
   have W2':Wk wr wb bv (musL s.kids none b):=by rw[hdn];exact W2
   generalize hst:musL s.kids none b=st at W2';have HST:Hid (musL s.kids none b=st):=hst;have N2:=N1.keep K2;have S2:=Sl.keepF S1 K2;have KW2:Keep wb w wr:=Keep.bel (by rw[<-HB.out];exact BW1) K2;obtain⟨⟨av,capv,rfl,hcv,hp⟩,hpb⟩:=N2;obtain⟨q0,q1,q2,qf⟩:=box3 W2'.blk;clear hf hlk hdn hst W2 N1 S1 SK1 K2 W1 Z1 E1 BW1 hs;go_upto_region 8 with fail;go_cut [8] (fun v wx=>∃ao' cap' o',v=.slice ao' b.length cap'/\Row wx o' 1 9 1 v b.length (b.map fun x=>stv x)/\Step I1n wr (fun _=>0) wx o')
   case first =>
    rcases hp with ⟨hb0,rfl⟩|⟨g,rfl,hg,hpos,hcell⟩
    ·subst hb0;go_wp2;go_meet;exact⟨none,0,fun _=>0,by first|rfl|simp,Row.nil _ _ _ _ _,Step.refl _ _ _⟩
    ·have hnews:∀ j u,(b.map fun x=>stv x)[j]?=some u->wr.cell? ((⟨g,0,none⟩:Addr).add j)=some u:=fun j u hj=>by
      rw[List.getElem?_map] at hj;cases hb:b[j]? with
      | none=>rw[hb] at hj;cases hj
      | some t =>
       rw[hb] at hj;injection hj with hj
       subst hj;have h3:((⟨g,0,none⟩:Addr).add j)=⟨g,j,none⟩:=by simp[Addr.add];exact Eq.symm
       rw[h3];exact hcell j t hb
     have hone:∀ u ∈ (b.map fun x=>stv x),u.oneCell'=true:=fun u hu=>by
      obtain⟨x,_,rfl⟩:=List.mem_map.1 hu;rfl
     have hlb:(b.map fun x=>stv x).length=b.length:=List.length_map _;have hbl:=hx.bl;generalize (b.map fun x=>stv x)=xs at *;clear hcell;go_wp2_with (first|(at_builtin;refine wpList_append_lab rfl (.tmp 31) (.tmp 32) 82 rfl 9 ii (.string ⟨#[]⟩) 1 16 Tryz.underlying82 hii hzi0 hzi1 hzi2 rfl (by decide) (fun _=>0) 1 _ 0 [] rfl (Row.nil _ _ _ _ _) ⟨g,0,none⟩ b.length capv xs rfl (by first|omega|(rw[hlb];omega)) hnews hone (by omega) ?c3 ?c4 ?_)|go_in)
     case c3=>unfold maxLen;omega
     case c4=>omega
     intro g7 c7 w7 o7 r7 s7;have HS:Hid (Step I1n wr (fun _=>0) w7 o7/\Row w7 o7 1 9 1 (.slice (some ⟨g7,0,none⟩) b.length c7) b.length xs):=⟨s7,by simpa using r7⟩
     clear s7 r7 hnews hone;go_wp2;go_meet;exact⟨some ⟨g7,0,none⟩,c7,o7,by simp,HS.out.2,HS.out.1⟩
   case rest =>
    obtain⟨ao8,cap8,o8,rfl,R8,s8⟩:=hcut;have B8:Below wr.heap.size wr wc:=s8.below (fun _ _=>by decide);have E8:=(B8.block _ (lt_of_block E2)).trans E2;have W8:=W2'.below B8;have L8:Hid (∀ k,k<wr.heap.size->o8 k=0):=fun k hk=>s8.lab k hk;have hwbr:wb<wr.heap.size:=lt_of_block W2'.blk;clear q0 q1 q2 qf p0 p1 p2 p3 p4 pf;obtain⟨p0,p1,p2,p3,p4,pf⟩:=box5 E8;obtain⟨q0,q1,q2,qf⟩:=box3 W8.blk;have s10:=boxStep (fun _=>False) wc o8 (.cells #[stv e.nm] 9);have R10:=R8.step s10 id;have hrc:wr.heap.size<=wc.heap.size:=B8.size;have L10:Hid (∀ k,k<wr.heap.size->newLab wc o8 0 k=0):=fun k hk=>by rw[newLab_old (by omega)];exact L8.out k hk
    have hbl:=hx.bl;have b1:b.length+1<=maxLen:=by unfold maxLen;omega
    have b2:(b.length+1)*16<=140737488355328:=by omega
    have hone:∀ u ∈ [stv e.nm],u.oneCell'=true:=by intro u hu;simp at hu;subst hu;rfl
    go_upto_region 9 with fail;go_cut [] (fun wx=>∃g11 c11,Wk wx wb (.slice (some ⟨g11,0,none⟩) (b.length+1) c11) st/\Nmk wb wx (.slice (some ⟨g11,0,none⟩) (b.length+1) c11) (b++[e.nm])/\Keep wb wr wx)
    case first =>
     go_wp2_with (first|(at_builtin;refine wpList_append_lab rfl (.tmp 35) (.tmp 38) 82 rfl 9 ii (.string ⟨#[]⟩) 1 16 Tryz.underlying82 hii hzi0 hzi1 hzi2 rfl (by decide) (newLab wc o8 0) 1 _ b.length (b.map fun x=>stv x) rfl R10 ⟨wc.heap.size,0,none⟩ 1 1 [stv e.nm] rfl rfl (new_one wc _ _) hone (by decide) b1 b2 ?_)|go_in);intro g11 c11 w11 o11 r11 s11;have B11:Below wr.heap.size wr w11:=below_stepT (below_stepT B8 s10 (fun _ _=>id) (Nat.le_refl _)) s11 (fun k hk=>by show ¬_=1;rw[L10.out k hk];decide) (Nat.le_refl _);have W11:=W2'.below B11;have hgo:o11 g11=1:=r11.2 g11 rfl;have hwo:o11 wb=0:=(s11.lab wb (by simp;omega)).trans (L10.out wb hwbr);have hgw:g11≠wb:=by intro h;rw[h] at hgo;omega
     have NM11:Nms w11 (.slice (some ⟨g11,0,none⟩) (b.length+1) c11) (b++[e.nm]):=Nms.ofRow (by rw[List.map_append];exact r11) (by simp) (by omega);have K12:Keep wb wr (w11.setCell ⟨wb,0,none⟩ (.slice (some ⟨g11,0,none⟩) (b.length+1) c11)):=(Keep.ofBelow B11).set ⟨wb,0,none⟩ _ (.inr rfl);have HZ:Hid (Wk (w11.setCell ⟨wb,0,none⟩ (.slice (some ⟨g11,0,none⟩) (b.length+1) c11)) wb (.slice (some ⟨g11,0,none⟩) (b.length+1) c11) st/\Nmk wb (w11.setCell ⟨wb,0,none⟩ (.slice (some ⟨g11,0,none⟩) (b.length+1) c11)) (.slice (some ⟨g11,0,none⟩) (b.length+1) c11) (b++[e.nm])/\Keep wb wr (w11.setCell ⟨wb,0,none⟩ (.slice (some ⟨g11,0,none⟩) (b.length+1) c11))):=by
      refine⟨⟨(set3 W11.blk _).1,W11.ok⟩,Nmk.keep ⟨NM11,fun g off n c h=>by injection h with h1;injection h1 with h1;injection h1 with h1;rw[<-h1];exact hgw⟩ ((Keep.refl wb w11).set ⟨wb,0,none⟩ _ (.inr rfl)),K12⟩
     obtain⟨t0,t1,t2,tf⟩:=box3 W11.blk;clear s11 r11 B11 hgo hwo hgw NM11 K12 W11 p0 p1 p2 p3 p4 pf q0 q1 q2 qf;go_wp2;go_meet;exact⟨g11,c11,HZ.out.1,HZ.out.2.1,HZ.out.2.2⟩
    case rest =>
     obtain⟨g11,c11,W12,N12,K12⟩:=hcut;have E12:=(K12.block _ (lt_of_block E2) (Ne.symm hwbx)).trans E2;have S12:Sl wc (Nf wb) ((Fs.ex s .nil).app (.cons x.k x.n x.nm x.a x.kids .nil)) (some ⟨kb,off,none⟩):=by
      have:=Sl.keepF S2 K12
      rw[HK.out] at this;exact this
     have KW12:=KW2.trans K12;clear p0 p1 p2 p3 p4 pf q0 q1 q2 qf R8 s8 B8 E8 W8 L8 s10 R10 hrc L10 b1 b2 hone E2 S2 W2' hp hpb hcv KW2 K12 Z2;obtain⟨p0,p1,p2,p3,p4,pf⟩:=box5 E12;obtain⟨kb',off',ak,ck,hao,hk13,hkw,x0,x1,x2,x3,x4,SK⟩:=Sl.kidQ S12;injection hao with hao
     injection hao with h1 h2
     subst h1;subst h2;simp only[Fs.len,Fs.ex,Nat.zero_add,Nat.one_mul] at x0 x1 x2 x3 x4;have hb13:=lt_of_block E12;have hx':Rt13 N x (b++[e.nm]).length:=by rw[List.length_append];exact hx
     have hbo:bodyT e.n≠0:=by unfold bodyT;split<;>omega
     have bdT:Below wc.heap.size wc wc.drew:=⟨rfl,rfl,rfl,Nat.le_refl _,fun _ _=>rfl⟩
     have c3:=must_q IH x ak ck wb _ (b++[e.nm]) (bodyT e.n) st wc.drew hx' (fun _=>hbo) (W12.below bdT) (fun _=>N12.below bdT) (Sl.belowF SK bdT);rw[exV_out] at c3;have hbq:=fun wy=>body_q e.n wy;obtain⟨bo,hbo'⟩:∃bo,bo=bodyT e.n:=⟨_,rfl⟩
     rw[<-hbo'] at c3 hbq;have HBO:Hid (bodyT e.n=bo):=hbo'.symm;clear hbo' hbo;go_upto_region 10 with fail;go_cut [] (fun wx=>Wk wx wb (.slice (some ⟨g11,0,none⟩) (b.length+1) c11) (musR st bo x (b++[e.nm]))/\Keep wb wc wx)
     case first =>
      go_wp2_with fail;go_region_held3 (fun wx=>wx.cell? ⟨bx,1,none⟩=some (.int .i64 e.n)/\wx.cell? ⟨bx,3,none⟩=some (.slice (some ⟨kb,off,none⟩) 2 cap)/\wx.cell? ⟨kb,off+5,none⟩=some (.int .i64 x.k)/\wx.cell? ⟨kb,off+5+1,none⟩=some (.int .i64 x.n)/\wx.cell? ⟨kb,off+5+2,none⟩=some (stv x.nm)/\wx.cell? ⟨kb,off+5+3,none⟩=some (.slice ak x.kids.len ck)/\wx.cell? ⟨kb,off+5+4,none⟩=some (.int .i64 x.a))
       (first|exact KA|go_keep)
       (first
        | (go_at_call 170;refine(hbq _).mono ?_;rintro z w3 ⟨rfl,rfl⟩)
        | (go_at_call 118;refine c3.mono ?_;rintro z w3 ⟨rfl,W3,K3⟩;have KA:w3.cell? ⟨bx,1,none⟩=some (.int .i64 e.n)/\w3.cell? ⟨bx,3,none⟩=some (.slice (some ⟨kb,off,none⟩) 2 cap)/\w3.cell? ⟨kb,off+5,none⟩=some (.int .i64 x.k)/\w3.cell? ⟨kb,off+5+1,none⟩=some (.int .i64 x.n)/\w3.cell? ⟨kb,off+5+2,none⟩=some (stv x.nm)/\w3.cell? ⟨kb,off+5+3,none⟩=some (.slice ak x.kids.len ck)/\w3.cell? ⟨kb,off+5+4,none⟩=some (.int .i64 x.a):=⟨(K3.cell hb13 (Ne.symm hwbx) _).trans p1,(K3.cell hb13 (Ne.symm hwbx) _).trans p3,(K3.cell hk13 hkw _).trans x0,(K3.cell hk13 hkw _).trans x1,(K3.cell hk13 hkw _).trans x2,(K3.cell hk13 hkw _).trans x3,(K3.cell hk13 hkw _).trans x4⟩))
      all_goals (
       have HZ:Hid (Wk w3 wb (.slice (some ⟨g11,0,none⟩) (b.length+1) c11) (musR st bo x (b++[e.nm]))/\Keep wb wc w3):=⟨W3,Keep.bel bdT K3⟩
       clear KA W3 K3 c3 hbq;go_wp2;go_meet;exact HZ.out)
     case rest =>
      obtain⟨W13,K13⟩:=hcut;have E13:=(K13.block _ hb13 (Ne.symm hwbx)).trans E12;have KW13:=KW12.trans K13;have W14:Wk (wc.setCell ⟨wb,0,none⟩ (.slice av b.length capv)) wb (.slice av b.length capv) (musR st bo x (b++[e.nm])):=⟨(set3 W13.blk _).1,W13.ok⟩
      have K14:=KW13.trans ((Keep.refl wb wc).set ⟨wb,0,none⟩ (.slice av b.length capv) (.inr rfl));have E14:=(heap_setCell_other wc ⟨wb,0,none⟩ bx (.slice av b.length capv) (Ne.symm hwbx)).trans E13;obtain⟨q0,q1,q2,qf⟩:=box3 W13.blk;clear c3 hbq x0 x1 x2 x3 x4 SK S12 p0 p1 p2 p3 p4 pf E13 E12 KW12 KW13 K13 N12 W12 bdT W13;go_upto_region 12 with fail;generalize wc.setCell ⟨wb,0,none⟩ (.slice av b.length capv)=w14 at *;obtain⟨p0,p1,p2,p3,p4,pf⟩:=box5 E14;have c5:=whole_q e.n w14;obtain⟨wo,hwo⟩:∃wo,wo=wholeT e.n:=⟨_,rfl⟩
      rw[<-hwo] at c5;have HWO:Hid (wholeT e.n=wo):=hwo.symm;clear hwo;go_wp2_with fail;refine c5.mono ?_;rintro z w15 ⟨rfl,rfl⟩;have HZ:Hid (Wk w15 wb (.slice av b.length capv) (musR st bo x (b++[e.nm]))/\Keep wb w w15):=⟨W14,K14⟩
      clear c5 W14 K14;go_wp2;refine bodyPost_ret (v:=.int .i64 wo) (by simp[results,Tryz.results121,go_sem]) rfl ⟨by first|rfl|rw[HWO.out],by rw[HST.out,HBO.out];exact HZ.out.1,HZ.out.2⟩
  | cons kk kn km ka kks kr =>
   have hl0:(d.len:Int)<(s.kids.len:Int):=by simp only[Fs.len] at hlk;omega
   have hl1:d.len<s.kids.len:=by simp only[Fs.len] at hlk;omega
   have SK2:Sl wr (Nf wb) (d.app (Fs.ex ⟨kk,kn,km,ka,kks⟩ kr)) as':=by
    have:=Sl.keepF SK1 K2
    rw[hf.out] at this;exact this
   obtain⟨gb,go,ak,ck,hao,x0,x1,x2,x3,x4,SKK⟩:=Sl.kidP SK2 d.len rfl;subst hao;have c1:=must_q IH ⟨kk,kn,km,ka,kks⟩ ak ck wb bv b 3 _ wr (hs d kr _ hf.out) (fun _=>by decide) W2 (fun _=>N1.keep K2) SKK;rw[exV_out] at c1;simp only at c1 x0 x1 x2 x3 x4;have hf2:Hid (s.kids=(d.snoc ⟨kk,kn,km,ka,kks⟩).app kr):=by show s.kids=_;rw[hf.out];unfold Fs.snoc;rw[Fs.app_assoc];rfl
   have hl2:(d.len:Int)+1=((d.snoc ⟨kk,kn,km,ka,kks⟩).len:Nat):=by rw[Fs.len_snoc];rfl
   clear hf hlk SK2 SKK;go_wp2_with fail;refine c1.mono ?_;rintro z w3 ⟨rfl,W3,K3⟩;have W4:Wk w3 wb bv (musL (d.snoc ⟨kk,kn,km,ka,kks⟩) none b):=by rw[musL_snoc];exact W3
   have K4:=K2.trans K3;clear c1 W3 K3 W2 K2 p0 p1 p2 p3 p4 pf x0 x1 x2 x3 x4 Z2 E2;go_wp2;go_roundw
   case rel=>exact⟨_,kr,hf2,by rw[<-hl2],W4,K4⟩
   case measure=>simp[intOf];omega
end Go.Proofs.YtaihhnlfcndecaaGreatDoor

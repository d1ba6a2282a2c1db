import Derived.Test.YtbjdkekhnajafaaGreatDoorOfAe
set_option maxRecDepth 100000
set_option maxHeartbeats 8000000
namespace Go.Proofs.YtbjdkekhnajafaaGreatDoor
set_option linter.unusedVariables false
set_option linter.unusedSimpArgs false
abbrev Er:=Option (Nat × Int)
def stS:Sum (Nat × Int) Int->Er
 | .inl x=>some x
 | .inr _=>none
def resR (st:Er)(k:Int):Sum (Nat × Int) Int :=
 match st with
 | some x=>.inl x
 | none=>.inr k
def musR (st:Er)(m:Int)(e:Ex)(b:List (List UInt8)):Er :=
 match st with
 | some x=>some x
 | none=>stS (mustT m e.a (chkE e b))
def musL:Fs->Er->List (List UInt8)->Er
 | ⟨none⟩,st,_=>st
 | ⟨some ⟨k,n,nm,a,ks,r⟩⟩,st,b=>musL r (musR st 3 ⟨k,n,nm,a,ks⟩ b) b
theorem musL_some:∀ (f:Fs) (x:Nat × Int) (b:List (List UInt8)),musL f (some x) b=some x
 | ⟨none⟩,x,b=>rfl
 | ⟨some ⟨k,n,nm,a,ks,r⟩⟩,x,b=>musL_some r x b
theorem musL_snoc:∀ (f:Fs) (y:Ex) (st:Er) (b:List (List UInt8)),musL (f.snoc y) st b=musR (musL f st b) 3 y b
 | ⟨none⟩,y,st,b=>rfl
 | ⟨some ⟨k,n,nm,a,ks,r⟩⟩,y,st,b=>musL_snoc r y _ b
theorem must_cases (m a:Int)(r:Sum (Nat × Int) Int)(hm:m≠0):(∃x,mustT m a r=.inl x)\/(mustT m a r=.inr m/\r=.inr m):=by
 cases r with
 | inl x=>exact .inl ⟨x,rfl⟩
 | inr is =>
  simp only[mustT];by_cases h:is=m
  ·subst h;exact .inr ⟨by rw[if_neg (fun h2=>h2.2 rfl)],rfl⟩
  ·exact .inl ⟨_,by rw[if_pos ⟨hm,h⟩]⟩
theorem chk_ex' (x:Ex)(r:Fs)(k n:Int)(nm:List UInt8)(len:Nat)(b:List (List UInt8))(i:Nat)(done:List Int)(hk:k≠21) :
  chkFs (Fs.ex x r) k n nm len b i done=(match mustT (ruleT k n len done) x.a (chkE x b) with
   | .inl e=>.inl e
   | .inr is=>chkFs r k n nm len b (i+1) (done++[is])):=by
 have h:=chk_ex x r k n nm len b i done;rw[if_neg (fun h2=>hk h2.1)] at h;exact h
theorem rep_app (n:Nat)(d:List Int):d++[3]++List.replicate n 3=d++List.replicate (n+1) 3:=by
 rw[List.append_assoc];rfl
theorem chk_vert (k n:Int)(nm:List UInt8)(len:Nat)(b:List (List UInt8))(hk:k≠21):∀ (f:Fs) (i:Nat) (done:List Int),(∀ d:List Int,done.length<=d.length->d.length<done.length+f.len->ruleT k n len d=3) ->
  chkFs f k n nm len b i done=(match musL f none b with|some x=>.inl x|none=>.inr (done++List.replicate f.len 3))
 | ⟨none⟩,i,done,h=>by simp[chkFs,musL,Fs.len]
 | ⟨some ⟨kk,kn,km,ka,kks,kr⟩⟩,i,done,h=>by
  have e1:=chk_ex' ⟨kk,kn,km,ka,kks⟩ kr k n nm len b i done hk;have e2:chkFs ⟨some ⟨kk,kn,km,ka,kks,kr⟩⟩ k n nm len b i done=_:=e1;rw[e2,h done (Nat.le_refl _) (by simp[Fs.len])];simp only[musL,musR];rcases must_cases 3 ka (chkE ⟨kk,kn,km,ka,kks⟩ b) (by decide) with ⟨x,hx⟩|⟨hx,-⟩
  ·rw[hx];simp only[stS,musL_some]
  ·rw[hx];simp only[stS];rw[chk_vert k n nm len b hk kr (i+1) (done++[3]) (fun d h1 h2=>h d (by simp at h1;omega) (by simp[Fs.len] at h1 h2 ⊢;omega))];cases musL kr none b with
   | some x=>rfl
   | none=>simp only[Fs.len];rw[rep_app]
theorem chk_one {k n:Int}{nm:List UInt8}{a:Int}{x:Ex}{b:List (List UInt8)}(m g:Int)(h4:k≠4)(h21:k≠21)(h0:ruleT k n 1 []=m)(hm:m≠0)(h1:ruleT k n 1 [m]=g) :
  chkE ⟨k,n,nm,a,Fs.ex x .nil⟩ b=resR (musR none m x b) g:=by
 rw[chkE_kids _ _ h4];show endT k n 1 (chkFs (Fs.ex x .nil) k n nm 1 b 0 [])=_;rw[chk_ex' _ _ _ _ _ _ _ _ _ h21,h0];unfold musR;simp only;rcases must_cases m x.a (chkE x b) hm with ⟨y,hy⟩|⟨hy,-⟩
 ·rw[hy];rfl
 ·rw[hy];show Sum.inr (ruleT k n 1 [m])=_;rw[h1];rfl
theorem chk_bin {k n:Int}{nm:List UInt8}{a:Int}{x y:Ex}{b:List (List UInt8)}(m g:Int)(h4:k≠4)(h21:k≠21)(h0:ruleT k n 2 []=m)(h1:ruleT k n 2 [m]=m)(hm:m≠0)(h2:ruleT k n 2 [m,m]=g) :
  chkE ⟨k,n,nm,a,Fs.ex x (Fs.ex y .nil)⟩ b=resR (musR (musR none m x b) m y b) g:=by
 rw[chkE_kids _ _ h4];show endT k n 2 (chkFs (Fs.ex x (Fs.ex y .nil)) k n nm 2 b 0 [])=_;rw[chk_ex' _ _ _ _ _ _ _ _ _ h21,h0];rcases must_cases m x.a (chkE x b) hm with ⟨z,hz⟩|⟨hz,-⟩
 ·unfold musR;simp only;rw[hz];rfl
 ·have e1:musR none m x b=none:=by unfold musR;simp only;rw[hz];rfl
  rw[hz,e1];simp only[List.nil_append];rw[chk_ex' _ _ _ _ _ _ _ _ _ h21,h1];unfold musR;simp only;rcases must_cases m y.a (chkE y b) hm with ⟨z,hz⟩|⟨hz,-⟩
  ·rw[hz];rfl
  ·rw[hz];show Sum.inr (ruleT k n 2 [m,m])=_;rw[h2];rfl
theorem chk_alike {k n:Int}{nm:List UInt8}{a:Int}{x y:Ex}{b:List (List UInt8)}(hk:k=13\/k=14) :
  chkE ⟨k,n,nm,a,Fs.ex x (Fs.ex y .nil)⟩ b=(match chkE x b with | .inl e=>.inl e | .inr k0=>resR (musR none k0 y b) 2):=by
 rw[chkE_kids _ _ (by show k≠4;omega)];show endT k n 2 (chkFs (Fs.ex x (Fs.ex y .nil)) k n nm 2 b 0 [])=_;have hr:∀ d,ruleT k n 2 d=(match d with | []=>0 | [a]=>a|_=>2):=fun d=>by unfold ruleT;rw[if_pos hk];first|done|(rcases d with _|⟨x,_|⟨y,r⟩⟩<;>rfl)
 rw[chk_ex' _ _ _ _ _ _ _ _ _ (by omega),hr];simp only;cases hx:chkE x b with
 | inl e=>rfl
 | inr k0 =>
  simp only[mustT];rw[if_neg (fun h=>h.1 rfl)];simp only[List.nil_append];rw[chk_ex' _ _ _ _ _ _ _ _ _ (by omega),hr];unfold musR;simp only;cases mustT k0 y.a (chkE y b) with
  | inl e=>rfl
  | inr k1 =>
   show Sum.inr (ruleT k n 2 [k0,k1])=_;rw[hr];rfl
theorem chk_choice {n:Int}{nm:List UInt8}{a:Int}{x y z:Ex}{b:List (List UInt8)} :
  chkE ⟨19,n,nm,a,Fs.ex x (Fs.ex y (Fs.ex z .nil))⟩ b=(match musR none 2 x b with
   | some e=>.inl e
   | none=>match chkE y b with | .inl e=>.inl e | .inr k1=>resR (musR none k1 z b) k1):=by
 rw[chkE_kids _ _ (by show (19:Int)≠4;omega)];show endT 19 n 3 (chkFs (Fs.ex x (Fs.ex y (Fs.ex z .nil))) 19 n nm 3 b 0 [])=_;have hr:∀ d,ruleT 19 n 3 d=(match d with | []=>2 | [_]=>0|_::b::_=>b):=fun d=>by unfold ruleT;rw[if_neg (by omega),if_pos rfl];first|done|(rcases d with _|⟨x,_|⟨y,r⟩⟩<;>rfl)
 rw[chk_ex' _ _ _ _ _ _ _ _ _ (by omega),hr];simp only;rcases must_cases 2 x.a (chkE x b) (by decide) with ⟨u,hu⟩|⟨hu,-⟩
 ·unfold musR;simp only;rw[hu];rfl
 ·have e1:musR none 2 x b=none:=by unfold musR;simp only;rw[hu];rfl
  rw[hu,e1];simp only[List.nil_append];rw[chk_ex' _ _ _ _ _ _ _ _ _ (by omega),hr];simp only;cases hy:chkE y b with
  | inl e=>rfl
  | inr k1 =>
   simp only[mustT];rw[if_neg (fun h=>h.1 rfl)];simp only[List.cons_append,List.nil_append];rw[chk_ex' _ _ _ _ _ _ _ _ _ (by omega),hr];unfold musR;simp only;cases mustT k1 z.a (chkE z b) with
   | inl e=>rfl
   | inr k2 =>
    show Sum.inr (ruleT 19 n 3 [2,k1,k2])=_;rw[hr];rfl
def giveT (n:Int):Int:=if n=1\/n=2 then 2 else if n=10 then 3 else 1
def bodyT (n:Int):Int:=if n<=3 then 2 else 1
def wholeT (n:Int):Int:=if n<=2 then 2 else 1
theorem chk_call {n:Int}{nm:List UInt8}{a:Int}{f:Fs}{b:List (List UInt8)}(hn:1<=n/\n<=10)(hl:(fixL 20 n).length=f.len+1) :
  chkE ⟨20,n,nm,a,f⟩ b=resR (musL f none b) (giveT n):=by
 rw[chkE_kids _ _ (by show (20:Int)≠4;omega)];show endT 20 n f.len (chkFs f 20 n nm f.len b 0 [])=_;have hn2:n=1\/n=2\/n=3\/n=4\/n=5\/n=6\/n=7\/n=8\/n=9\/n=10:=by omega
 have hv:∀ d:List Int,d.length<f.len->ruleT 20 n f.len d=3:=fun d hd=>by
  have hr:ruleT 20 n f.len d=(fixL 20 n)[d.length]?.getD 0:=by
   unfold ruleT;rw[if_neg (by omega),if_neg (by omega),if_neg (by omega)]
  rw[hr];generalize d.length=j at hd;generalize f.len=m at hl hd;rcases hn2 with rfl|rfl|rfl|rfl|rfl|rfl|rfl|rfl|rfl|rfl<;>(simp[fixL] at hl;subst hl)
  all_goals (
   have hj:j=0\/j=1:=by omega
   rcases hj with rfl|rfl<;>first|rfl|omega)
 rw[chk_vert 20 n nm f.len b (by omega) f 0 [] (fun d _ h2=>hv d (by simpa using h2))];cases musL f none b with
 | some x=>rfl
 | none =>
  show Sum.inr (ruleT 20 n f.len ([]++List.replicate f.len 3))=_;have hr:ruleT 20 n f.len ([]++List.replicate f.len 3)=(fixL 20 n)[f.len]?.getD 0:=by
   unfold ruleT;rw[if_neg (by omega),if_neg (by omega),if_neg (by omega)];simp
  rw[hr];generalize f.len=m at hl;rcases hn2 with rfl|rfl|rfl|rfl|rfl|rfl|rfl|rfl|rfl|rfl<;>(simp[fixL] at hl;subst hl;rfl)
theorem chk_set {k n:Int}{nm:List UInt8}{a:Int}{f:Fs}{b:List (List UInt8)}(hk:(k=22\/k=23)/\f.len=0\/k=24/\f.len=1\/k=25) :
  chkE ⟨k,n,nm,a,f⟩ b=resR (musL f none b) 4:=by
 rw[chkE_kids _ _ (by show k≠4;omega)];show endT k n f.len (chkFs f k n nm f.len b 0 [])=_;have hv:∀ d:List Int,d.length<f.len->ruleT k n f.len d=3:=fun d hd=>by
  rcases hk with ⟨rfl|rfl,h0⟩|⟨rfl,h0⟩|rfl
  ·omega
  ·omega
  ·have:d.length=0:=by omega
   obtain rfl:=List.length_eq_zero_iff.1 this;rfl
  ·unfold ruleT;rw[if_neg (by omega),if_neg (by omega),if_pos rfl,if_pos hd]
 rw[chk_vert k n nm f.len b (by omega) f 0 [] (fun d _ h2=>hv d (by simpa using h2))];cases musL f none b with
 | some x=>rfl
 | none =>
  show Sum.inr (ruleT k n f.len ([]++List.replicate f.len 3))=Sum.inr 4
  congr 1
  rcases hk with ⟨rfl|rfl,h0⟩|⟨rfl,h0⟩|rfl
  ·rw[h0];rfl
  ·rw[h0];rfl
  ·rw[h0];rfl
  ·unfold ruleT;rw[if_neg (by omega),if_neg (by omega),if_pos rfl,if_neg (by simp)]
theorem chk_quant {n:Int}{nm:List UInt8}{a:Int}{s x:Ex}{b:List (List UInt8)}(hn:1<=n/\n<=6)(hs:chkE s b=resR (musL s.kids none b) 4) :
  chkE ⟨21,n,nm,a,Fs.ex s (Fs.ex x .nil)⟩ b=resR (musR (musL s.kids none b) (bodyT n) x (b++[nm])) (wholeT n):=by
 rw[chkE_kids _ _ (by show (21:Int)≠4;omega)];show endT 21 n 2 (chkFs (Fs.ex s (Fs.ex x .nil)) 21 n nm 2 b 0 [])=_;have hn2:n=1\/n=2\/n=3\/n=4\/n=5\/n=6:=by omega
 have r0:ruleT 21 n 2 []=4:=by rcases hn2 with rfl|rfl|rfl|rfl|rfl|rfl<;>rfl
 have r1:ruleT 21 n 2 [4]=bodyT n:=by rcases hn2 with rfl|rfl|rfl|rfl|rfl|rfl<;>rfl
 have r2:∀ k,ruleT 21 n 2 [4,k]=wholeT n:=fun k=>by rcases hn2 with rfl|rfl|rfl|rfl|rfl|rfl<;>rfl
 have hb0:bodyT n≠0:=by unfold bodyT;split<;>omega
 have e1:=chk_ex s (Fs.ex x .nil) 21 n nm 2 b 0 [];have e2:=chk_ex x .nil 21 n nm 2 b 1 [4];rw[if_neg (by omega),hs,r0] at e1;rw[if_pos (by decide),r1] at e2;show endT 21 n 2 (chkFs (.cons s.k s.n s.nm s.a s.kids (.cons x.k x.n x.nm x.a x.kids .nil)) 21 n nm 2 b 0 [])=_;rw[show chkFs (.cons s.k s.n s.nm s.a s.kids (.cons x.k x.n x.nm x.a x.kids .nil)) 21 n nm 2 b 0 []=_ from e1];cases musL s.kids none b with
 | some z=>rfl
 | none =>
  simp only[resR,mustT];rw[if_neg (fun h=>h.2 rfl)];simp only[List.nil_append];rw[show chkFs (Fs.ex x .nil) 21 n nm 2 b 1 [4]=_ from e2];unfold musR;simp only;rcases must_cases (bodyT n) x.a (chkE x (b++[nm])) hb0 with ⟨z,hz⟩|⟨hz,-⟩
  ·rw[hz];rfl
  ·rw[hz];show Sum.inr (ruleT 21 n 2 [4,bodyT n])=_;rw[r2];rfl
theorem chkFs_len:∀ (f:Fs) (k n:Int) (nm:List UInt8) (len:Nat) (b:List (List UInt8)) (i:Nat) (done d:List Int),chkFs f k n nm len b i done=.inr d->d.length=done.length+f.len
 | ⟨none⟩,k,n,nm,len,b,i,done,d,h=>by
  simp only[chkFs] at h;injection h with h
  subst h;rfl
 | ⟨some ⟨kk,kn,km,ka,kks,kr⟩⟩,k,n,nm,len,b,i,done,d,h=>by
  have e1:chkFs ⟨some ⟨kk,kn,km,ka,kks,kr⟩⟩ k n nm len b i done=_:=chk_ex ⟨kk,kn,km,ka,kks⟩ kr k n nm len b i done;rw[e1] at h;cases hm:mustT (ruleT k n len done) ka (chkE ⟨kk,kn,km,ka,kks⟩ (if k=21/\i≠0 then b++[nm] else b)) with
  | inl z=>simp only at h;rw[hm] at h;cases h
  | inr is =>
   simp only at h;rw[hm] at h
   have:=chkFs_len kr k n nm len b (i+1) (done++[is]) d h
   simp only[List.length_append,List.length_cons,List.length_nil,Fs.len] at this ⊢;omega
def Fs.stk:Fs->Bool->Prop
 | ⟨none⟩,_=>True
 | ⟨some ⟨k,_,_,_,ks,r⟩⟩,first=>isSetK k=first/\ks.stk (k==21)/\r.stk false
theorem hFs_stk:∀ (f:Fs) (b:Bool) (c c':Nat),hFs f b c=some c'->f.stk b
 | ⟨none⟩,b,c,c',h=>trivial
 | ⟨some ⟨k,n,nm,a,ks,r⟩⟩,b,c,c',h=>by
  unfold hFs at h;split at h
  ·cases h
  ·rename_i h0
   split at h
   ·cases h
   ·split at h
    ·split at h
     ·cases h
     ·rename_i c2 h2
      exact⟨by simpa using h0,hFs_stk ks _ _ _ h2,hFs_stk r _ _ _ h⟩
    ·cases h
theorem hE_stk {e:Ex}{c c':Nat}(h:hE e c=some c'):e.kids.stk (e.k==21):=by
 unfold hE at h;split at h
 ·cases h
 ·split at h
  ·exact hFs_stk _ _ _ _ h
  ·cases h
theorem chkE_pos:∀ (N:Nat) (e:Ex) (b:List (List UInt8)) (k:Int),e.kids.size<N->e.okA->chkE e b=.inr k->k≠0
 | 0,e,b,k,hN,_,_=>absurd hN (Nat.not_lt_zero _)
 | N+1,⟨k0,n,nm,a,f⟩,b,k,hN,hok,h=>by
  have ho:=okR_of hok.1;have hkid:=hok.1.2.2.1;simp only at hN ho hkid;by_cases h13:k0=13\/k0=14
  ·have hl:f.len=2:=by
    rcases h13 with rfl|rfl<;>(simp[kidB,opOf,opsL] at hkid;omega)
   obtain⟨x,y,rfl⟩:=len2 hl;rw[chk_alike h13] at h;cases hx:chkE x b with
   | inl z=>rw[hx] at h;cases h
   | inr k1 =>
    rw[hx] at h;simp only at h;cases hm:musR none k1 y b with
    | some z=>rw[hm] at h;cases h
    | none=>rw[hm] at h;injection h with h;omega
  by_cases h19:k0=19
  ·subst h19;have hl:f.len=3:=by simp[kidB] at hkid;omega
   obtain⟨x,y,z,rfl⟩:=len3 hl;rw[chk_choice] at h;cases hx:musR none 2 x b with
   | some u=>rw[hx] at h;cases h
   | none =>
    rw[hx] at h;simp only at h;cases hy:chkE y b with
    | inl u=>rw[hy] at h;cases h
    | inr k1 =>
     rw[hy] at h;simp only at h;cases hm:musR none k1 z b with
     | some u=>rw[hm] at h;cases h
     | none =>
      rw[hm] at h;injection h with h
      subst h;have hsz:y.kids.size<N:=by
       simp only[size_ex,Fs.size] at hN;omega
      exact chkE_pos N y b _ hsz (okA_ex (okA_ex hok.2).2).1 hy
  by_cases h25:k0=22\/k0=23\/k0=24\/k0=25
  ·have hl:(k0=22\/k0=23)/\f.len=0\/k0=24/\f.len=1\/k0=25:=by
    rcases h25 with rfl|rfl|rfl|rfl
    ·exact .inl ⟨.inl rfl,by simp[kidB] at hkid;first|done|exact hkid|omega⟩
    ·exact .inl ⟨.inr rfl,by simp[kidB] at hkid;first|done|exact hkid|omega⟩
    ·exact .inr (.inl ⟨rfl,by simp[kidB] at hkid;first|done|exact hkid|omega⟩)
    ·exact .inr (.inr rfl)
   rw[chk_set hl] at h;cases hm:musL f none b with
   | some z=>rw[hm] at h;cases h
   | none=>rw[hm] at h;injection h with h;omega
  have hpos:∀ (j:Nat) (v:Int),(fixL k0 n)[j]?=some v->v≠0:=by
   intro j v hv;have hmem:=List.mem_of_getElem? hv;have hi:∀ (P:Prop) [Decidable P] (a b:List Int),(∀ x,x ∈ a->x≠0)->(∀ x,x ∈ b->x≠0)->∀ x,x ∈ (if P then a else b)->x≠0:=by
    intro P _ a b ha hb;split
    ·exact ha
    ·exact hb
   revert v
   suffices hall:∀ x,x ∈ fixL k0 n->x≠0 from fun v _ hm=>hall v hm
   unfold fixL
   repeat' apply hi
   all_goals (intro x hx;simp at hx<;>omega)
  have hfl:(fixL k0 n).length=f.len+1:=by
   rcases ho with ho|⟨rfl,-,ho⟩|⟨rfl,-,ho⟩|⟨hr,ho⟩
   ·omega
   ·exact ho
   ·exact ho
   ·rw[<-ho];unfold fixL;simp only[hr.2.2.2.1,hr.2.2.2.2.1,if_false]
  have hlen:∀ (f:Fs) (i:Nat) (done d:List Int),chkFs f k0 n nm (f.len+i) b i done=.inr d->True:=fun _ _ _ _ _=>trivial;unfold chkE at h;split at h
  ·cases h
  ·cases hc:chkFs f k0 n nm f.len b 0 [] with
   | inl z=>simp only at h;rw[hc] at h;cases h
   | inr d =>
    simp only at h;rw[hc] at h;injection h with h
    have hd:=chkFs_len f k0 n nm f.len b 0 [] d hc;have hr:ruleT k0 n f.len d=(fixL k0 n)[d.length]?.getD 0:=by
     unfold ruleT;rw[if_neg (by omega),if_neg (by omega),if_neg (by omega)]
    have hx:(fixL k0 n)[d.length]?=some ((fixL k0 n)[d.length]'(by simp at hd;omega)):=List.getElem?_eq_getElem (by simp at hd;omega);rw[<-h,hr,hx];exact hpos _ _ hx
open Go.ChangeShapes Go.WideShapes Go.ChangeAt Go.RowKit
def erO (st:Er):Nat:=match st with|some x=>x.1|none=>0
def plO (st:Er):Int:=match st with|some x=>x.2|none=>0
def StOk (st:Er):Prop:=∀ x,st=some x->x.1≠0
structure Wk (w:World)(wb:Nat)(bv:Value)(st:Er):Prop where
 blk:w.heap[wb]?=some (.cells #[bv,.int .i64 (erO st:Nat),.int .i64 (plO st)] 154 (0,0))
 ok:StOk st
theorem StOk.none:StOk none:=fun x h=>by cases h
theorem box3 {w:World}{b:Nat}{a0 a1 a2:Value}{t:TypeId}(h:w.heap[b]?=some (.cells #[a0,a1,a2] t (0,0))):w.cell? ⟨b,0,none⟩=some a0/\w.cell? ⟨b,1,none⟩=some a1/\w.cell? ⟨b,2,none⟩=some a2/\∀ j,w.frozen? ⟨b,j,none⟩=false:=by
 refine⟨?_,?_,?_,fun j=>frozen_of_row w b j _ t h⟩<;>simp[cell_of_row w b _ _ t (0,0) h]
theorem set3 {w:World}{b:Nat}{a0 a1 a2:Value}{t:TypeId}(h:w.heap[b]?=some (.cells #[a0,a1,a2] t (0,0)))(v:Value) :
  (w.setCell ⟨b,0,none⟩ v).heap[b]?=some (.cells #[v,a1,a2] t (0,0))/\(w.setCell ⟨b,1,none⟩ v).heap[b]?=some (.cells #[a0,v,a2] t (0,0))/\(w.setCell ⟨b,2,none⟩ v).heap[b]?=some (.cells #[a0,a1,v] t (0,0)) :=
 ⟨(Blk.set (o:=fun _=>0) (i:=0) ⟨h,rfl⟩ 0 v).1,(Blk.set (o:=fun _=>0) (i:=0) ⟨h,rfl⟩ 1 v).1,(Blk.set (o:=fun _=>0) (i:=0) ⟨h,rfl⟩ 2 v).1⟩
def Nmk (wb:Nat)(w:World)(v:Value)(b:List (List UInt8)):Prop:=Nms w v b/\∀ g off n c,v=.slice (some ⟨g,off,none⟩) n c->g≠wb
theorem Nmk.keep {wb:Nat}{w w':World}{v:Value}{b:List (List UInt8)}(h:Nmk wb w v b)(K:Keep wb w w'):Nmk wb w' v b:=by
 refine⟨?_,h.2⟩;obtain⟨⟨ao,cap,rfl,hc,h1|⟨g,rfl,h2,h0,h3⟩⟩,h4⟩:=h
 ·exact⟨ao,cap,rfl,hc,.inl h1⟩
 ·exact⟨_,cap,rfl,hc,.inr ⟨g,rfl,Nat.lt_of_lt_of_le h2 K.size,h0,fun j t hj=>(K.cell h2 (h4 _ _ _ _ rfl) j).trans (h3 j t hj)⟩⟩
theorem fails13 (w:World)(wb:Nat)(bv:Value)(er:Nat)(a:Int)(her:er≠0)(h:Wk w wb bv none) :
  Calls Tryz.prog 228 #[.pointer (some ⟨wb,0,none⟩),.int .i64 (er:Nat),.int .i64 a] w fun x w'=>x=.returned (.tuple #[])/\Wk w' wb bv (some (er,a))/\Keep wb w w':=by
 have h1:=h.blk;simp only[erO,plO] at h1;obtain⟨c0,c1,c2,cf⟩:=box3 h1;have F1:=(set3 h1 (.int .i64 (er:Nat))).2.1;have F2:=(set3 F1 (.int .i64 a)).2.2;have K:=((Keep.refl wb w).set ⟨wb,1,none⟩ (.int .i64 (er:Nat)) (.inr rfl)).set ⟨wb,2,none⟩ (.int .i64 a) (.inr rfl);have HZ:Hid (Wk ((w.setCell ⟨wb,1,none⟩ (.int .i64 (er:Nat))).setCell ⟨wb,2,none⟩ (.int .i64 a)) wb bv (some (er,a))/\Keep wb w ((w.setCell ⟨wb,1,none⟩ (.int .i64 (er:Nat))).setCell ⟨wb,2,none⟩ (.int .i64 a))) :=
  ⟨⟨F2,fun x hx=>by injection hx with hx;subst hx;exact her⟩,K⟩
 clear h F1 F2 K h1;go_enter Tryz.func228,Tryz.ntmps228;go_wp2
 go_end0
 exact⟨rfl,HZ.out.1,HZ.out.2⟩
def PostNm (w:World)(wb:Nat)(bv:Value)(b:List (List UInt8))(e:Ex)(x:Ending)(w':World):Prop :=
 (∃r,x=.returned (.int .i64 r)/\(e.nm ∈ b->r=3))/\Wk w' wb bv (if e.nm ∈ b then none else some (130,e.a))/\Keep wb w w'
theorem name_q (e:Ex)(ao:Option Addr)(cap:Nat)(w:World)(wb:Nat)(bv:Value)(b:List (List UInt8))(h:Wk w wb bv none)(hn:Nmk wb w bv b)(hl:b.length<=100000) :
  Calls Tryz.prog 161 #[.pointer (some ⟨wb,0,none⟩),exV e ao cap] w (PostNm w wb bv b e):=by
 have B0:Below w.heap.size w (w.alloc (.cells #[.int .i64 e.k,.int .i64 e.n,stv e.nm,.slice ao e.kids.len cap,.int .i64 e.a] 25)):=(Below.refl _ w).alloc (Nat.le_refl _) _;have E0:(w.alloc (.cells #[.int .i64 e.k,.int .i64 e.n,stv e.nm,.slice ao e.kids.len cap,.int .i64 e.a] 25)).heap[w.heap.size]?=some (.cells #[.int .i64 e.k,.int .i64 e.n,stv e.nm,.slice ao e.kids.len cap,.int .i64 e.a] 25):=heap_alloc_new w _;have hwb:=lt_of_block h.blk;have W0:=(B0.block _ hwb).trans h.blk;have N0:=hn.1.below B0;clear h hn;rw[exV_out];go_enter Tryz.func161,Tryz.ntmps161;go_upto_region 1 with fail;generalize w.alloc (.cells #[.int .i64 e.k,.int .i64 e.n,stv e.nm,.slice ao e.kids.len cap,.int .i64 e.a] 25)=w0 at *;obtain⟨bx,hbx⟩:∃bx,bx=w.heap.size:=⟨_,rfl⟩
 rw[<-hbx] at E0 B0 ⊢;have HB:Hid (bx=w.heap.size):=hbx;clear hbx;have hbx0:=lt_of_block E0;have hwb0:=lt_of_block W0;obtain⟨av,capv,rfl,hcv,hp⟩:=N0;simp only[erO,plO] at W0;go_wp2;go_loopw [5] (fun v wr=>∃k:Nat,k<=b.length/\v=.int .i64 (k:Nat)/\Hid (∀ j,j<k->b[j]?≠some e.nm)/\Below w0.heap.size w0 wr) (fun v _=>b.length-(intOf v).toNat)
 case atStart=>exact⟨0,by omega,by go_num,fun j hj=>absurd hj (Nat.not_lt_zero _),Below.refl _ _⟩
 case round =>
  obtain⟨k,hk,rfl,hno,B1⟩:=hrel;have E1:=(B1.block _ hbx0).trans E0;have W1:=(B1.block _ hwb0).trans W0;obtain⟨p0,p1,p2,p3,p4,pf⟩:=box5 E1;obtain⟨q0,q1,q2,qf⟩:=box3 W1;by_cases hlt:k<b.length
  ·have hx:b[k]?=some b[k]:=List.getElem?_eq_getElem hlt;rcases hp with ⟨rfl,-⟩|⟨g,rfl,hg,-,hcell⟩
   ·simp at hlt
   have c1:=(B1.cell (p:=⟨g,k,none⟩) hg).trans (hcell k _ hx);generalize b[k]=x at c1 hx;have hkI:(k:Int)<(b.length:Int):=by omega
   have HX:Hid (b[k]?=some x):=hx;clear hx hcell;by_cases he:x=e.nm
   ·subst he;have hbe:(e.nm==e.nm)=true:=by simp
    have hmem:e.nm ∈ b:=List.mem_of_getElem? HX.out;have FIN:Hid (e.nm ∈ b):=hmem;clear hno HX hmem;go_wp2_with fail
    go_quiet (fail)
    go_wp2;refine bodyPost_ret (v:=.int .i64 3) (by simp[results,Tryz.results161,go_sem]) rfl ⟨⟨3,rfl,fun _=>rfl⟩,?_,?_⟩
    ·rw[if_pos FIN.out];exact⟨W1,StOk.none⟩
    ·refine Keep.ofBelow ?_;rw[<-HB.out];exact B0.trans ((B1.trans (show Below w0.heap.size wr (wr.drewN nq) from ⟨rfl,rfl,rfl,Nat.le_refl _,fun _ _=>rfl⟩)).mono (Nat.le_of_lt hbx0))
   ·have hbe:(x==e.nm)=false:=by simpa using he
    have hn2:Hid (∀ j,j<k+1->b[j]?≠some e.nm):=by
     intro j hj;rcases Nat.lt_succ_iff_lt_or_eq.1 hj with h1|rfl
     ·exact hno.out j h1
     ·rw[HX.out];intro h2;injection h2 with h2
      exact he h2
    clear hno HX he;go_wp2_with fail
    go_quiet (fail)
    have B2:=B1.trans (show Below w0.heap.size wr (wr.drewN nq) from ⟨rfl,rfl,rfl,Nat.le_refl _,fun _ _=>rfl⟩);go_wp2;go_roundw
    case rel=>exact⟨k+1,by omega,by go_num,hn2,B2⟩
    case measure=>simp[intOf];omega
  ·obtain rfl:k=b.length:=by omega
   have FIN:Hid (¬e.nm ∈ b):=by
    intro h1;obtain⟨j,hj,h2⟩:=List.mem_iff_getElem.1 h1;exact hno.out j hj (by rw[List.getElem?_eq_getElem hj,h2])
   have c1:=fails13 wr wb (.slice av b.length capv) 130 e.a (by decide) ⟨W1,StOk.none⟩;clear hno hp;go_wp2_with fail;refine c1.mono ?_;rintro x w3 ⟨rfl,W3,K3⟩;clear c1 p0 p1 p2 p3 p4 pf q0 q1 q2 qf;go_wp2;refine bodyPost_ret (v:=.int .i64 0) (by simp[results,Tryz.results161,go_sem]) rfl ⟨⟨0,rfl,fun h=>absurd h FIN.out⟩,?_,?_⟩
   ·rw[if_neg FIN.out];exact W3
   ·refine(Keep.ofBelow ?_).trans K3;rw[<-HB.out];exact B0.trans (B1.mono (Nat.le_of_lt hbx0))
theorem gives_q (n:Int)(w:World):Calls Tryz.prog 107 #[.int .i64 n] w fun x w'=>x=.returned (.int .i64 (giveT n))/\w'=w:=by
 unfold giveT;by_cases h1:n=1
 ·subst h1;go_enter Tryz.func107,Tryz.ntmps107;go_wp2;go_ret;exact⟨rfl,rfl⟩
 ·by_cases h2:n=2
  ·subst h2;go_enter Tryz.func107,Tryz.ntmps107;go_wp2;go_ret;exact⟨rfl,rfl⟩
  ·rw[if_neg (by omega)];have b1:(n==1)=false:=by simpa using h1
   have b2:(n==2)=false:=by simpa using h2
   by_cases h3:n=10
   ·subst h3;go_enter Tryz.func107,Tryz.ntmps107;go_wp2;go_ret;exact⟨rfl,rfl⟩
   ·rw[if_neg h3];have b3:(n==10)=false:=by simpa using h3
    clear h1 h2 h3;go_enter Tryz.func107,Tryz.ntmps107;go_wp2;go_ret;exact⟨rfl,rfl⟩
theorem body_q (n:Int)(w:World):Calls Tryz.prog 171 #[.int .i64 n] w fun x w'=>x=.returned (.int .i64 (bodyT n))/\w'=w:=by
 unfold bodyT;by_cases h1:n<=3
 ·rw[if_pos h1];go_enter Tryz.func171,Tryz.ntmps171;go_wp2;go_ret;exact⟨rfl,rfl⟩
 ·rw[if_neg h1];go_enter Tryz.func171,Tryz.ntmps171;go_wp2;go_ret;exact⟨rfl,rfl⟩
theorem whole_q (n:Int)(w:World):Calls Tryz.prog 172 #[.int .i64 n] w fun x w'=>x=.returned (.int .i64 (wholeT n))/\w'=w:=by
 unfold wholeT;by_cases h1:n<=2
 ·rw[if_pos h1];go_enter Tryz.func172,Tryz.ntmps172;go_wp2;go_ret;exact⟨rfl,rfl⟩
 ·rw[if_neg h1];go_enter Tryz.func172,Tryz.ntmps172;go_wp2;go_ret;exact⟨rfl,rfl⟩
structure Rt13 (N:Nat)(e:Ex)(nb:Nat):Prop where
 sz:e.kids.size<N
 ok:e.okA
 st:isSetK e.k=false
 sk:e.kids.stk (e.k==21)
 len:e.kids.len<=1000000000
 sh:e.kids.short
 bl:nb+e.kids.size<=3000
def PostKd (w:World)(wb:Nat)(bv:Value)(r:Sum (Nat × Int) Int)(x:Ending)(w':World):Prop :=
 (∃k',x=.returned (.int .i64 k')/\∀ k,r=.inr k->k'=k)/\Wk w' wb bv (stS r)/\Keep wb w w'
def KindOk (N:Nat):Prop:=∀ (e:Ex) (ao:Option Addr) (cap wb:Nat) (bv:Value) (b:List (List UInt8)) (w:World),Rt13 N e b.length->Wk w wb bv none->Nmk wb w bv b->Sl w (Nf wb) e.kids ao ->
 Calls Tryz.prog 100 #[.pointer (some ⟨wb,0,none⟩),exV e ao cap] w (PostKd w wb bv (chkE e b))
def PostMu (w:World)(wb:Nat)(bv:Value)(st:Er)(x:Ending)(w':World):Prop:=x=.returned (.tuple #[])/\Wk w' wb bv st/\Keep wb w w'
theorem Sl.belowF {fb:Nat}{w w':World}{f:Fs}{ao:Option Addr}(h:Sl w (Nf fb) f ao)(b:Below w.heap.size w w'):Sl w' (Nf fb) f ao:=h.mono (fun i _ hl=>b.block i hl) b.size (fun _ h _=>h)
theorem Nmk.below {wb:Nat}{w w':World}{v:Value}{b:List (List UInt8)}(h:Nmk wb w v b)(B:Below w.heap.size w w'):Nmk wb w' v b:=⟨h.1.below B,h.2⟩
theorem Wk.below {w w':World}{wb:Nat}{bv:Value}{st:Er}(h:Wk w wb bv st)(B:Below w.heap.size w w'):Wk w' wb bv st:=⟨(B.block _ (lt_of_block h.blk)).trans h.blk,h.ok⟩
theorem Keep.bel {rb:Nat}{w a b:World}(B:Below w.heap.size w a)(K:Keep rb a b):Keep rb w b:=(Keep.ofBelow B).trans K
theorem must_q {N:Nat}(IH:KindOk N)(e:Ex)(ao:Option Addr)(cap wb:Nat)(bv:Value)(b:List (List UInt8))(m:Int)(st:Er)(w:World)(hr:Rt13 N e b.length)(hm:st=none->m≠0)(h:Wk w wb bv st)(hn:st=none->Nmk wb w bv b)(S:Sl w (Nf wb) e.kids ao) :
  Calls Tryz.prog 162 #[.pointer (some ⟨wb,0,none⟩),exV e ao cap,.int .i64 m] w (PostMu w wb bv (musR st m e b)):=by
 have B0:Below w.heap.size w (w.alloc (.cells #[.int .i64 e.k,.int .i64 e.n,stv e.nm,.slice ao e.kids.len cap,.int .i64 e.a] 25)):=(Below.refl _ w).alloc (Nat.le_refl _) _;have E0:(w.alloc (.cells #[.int .i64 e.k,.int .i64 e.n,stv e.nm,.slice ao e.kids.len cap,.int .i64 e.a] 25)).heap[w.heap.size]?=some (.cells #[.int .i64 e.k,.int .i64 e.n,stv e.nm,.slice ao e.kids.len cap,.int .i64 e.a] 25):=heap_alloc_new w _;have W0:=h.below B0;have S0:=Sl.belowF S B0;have hwb:=lt_of_block h.blk;have N0:=fun hs=>(hn hs).below B0;clear h hn S;rw[exV_out];go_enter Tryz.func162,Tryz.ntmps162;go_upto_region 1 with fail;generalize w.alloc (.cells #[.int .i64 e.k,.int .i64 e.n,stv e.nm,.slice ao e.kids.len cap,.int .i64 e.a] 25)=w0 at *;obtain⟨bx,hbx⟩:∃bx,bx=w.heap.size:=⟨_,rfl⟩
 have hwbx:wb≠bx:=by omega
 rw[<-hbx] at E0 B0 ⊢;have HB:Hid (bx=w.heap.size):=hbx;clear hbx;obtain⟨p0,p1,p2,p3,p4,pf⟩:=box5 E0;obtain⟨q0,q1,q2,qf⟩:=box3 W0.blk;cases st with
 | some z =>
  have hz:=W0.ok z rfl;obtain⟨er,pa⟩:=z;simp only[erO,plO] at q1 q2 hz;have hne:((er:Int) != 0)=true:=by simp;omega
  have HZ:Hid (PostMu w wb bv (musR (some (er,pa)) m e b) (.returned (.tuple #[])) w0):=⟨rfl,W0,Keep.ofBelow (by rw[<-HB.out];exact B0)⟩
  clear W0 N0 S0 hr;go_wp2
  go_end0
  exact HZ.out
 | none =>
  have HM:Hid (m≠0):=hm rfl;simp only[erO,plO] at q1 q2;have c1:=IH e ao cap wb bv b w0 hr W0 (N0 rfl) S0;rw[exV_out] at c1;go_wp2_with fail;refine c1.mono ?_;rintro x w1 ⟨⟨k',rfl,hk'⟩,W1,K1⟩;have E1:=(K1.block _ (lt_of_block E0) (Ne.symm hwbx)).trans E0;have KW:Keep wb w w1:=Keep.bel (by rw[<-HB.out];exact B0) K1;clear c1 p0 p1 p2 p3 p4 pf q0 q1 q2 qf W0 N0 S0 E0 B0 K1;obtain⟨p0,p1,p2,p3,p4,pf⟩:=box5 E1;obtain⟨q0,q1,q2,qf⟩:=box3 W1.blk;cases hc:chkE e b with
  | inl z =>
   obtain⟨er,pa⟩:=z;have her:=chkE_er hc;rw[hc] at W1 q1 q2;simp only[stS,erO,plO] at q1 q2;have hne:((er:Int)==0)=false:=by simp;omega
   have HZ:Hid (PostMu w wb bv (musR none m e b) (.returned (.tuple #[])) w1):=⟨rfl,by unfold musR;simp only;rw[hc];exact W1,KW⟩
   clear W1 hr hc hk' her KW;go_wp2
   go_end0
   exact HZ.out
  | inr k =>
   obtain rfl:=hk' k hc;rw[hc] at W1 q1 q2;simp only[stS,erO,plO] at q1 q2 W1;by_cases hkm:k'=m
   ·have hne:(k' != m)=false:=by simpa using hkm
    have HZ:Hid (PostMu w wb bv (musR none m e b) (.returned (.tuple #[])) w1):=by
     refine⟨rfl,?_,KW⟩;unfold musR;simp only;rw[hc];simp only[mustT];rw[if_neg (fun h=>h.2 hkm)];exact W1
    clear W1 hr hc hk' KW hkm;go_wp2
    go_end0
    exact HZ.out
   ·have hne:(k' != m)=true:=by simpa using hkm
    have c2:=fails13 w1 wb bv 131 e.a (by decide) W1;have hmu:Hid (musR none m e b=some (131,e.a)):=by
     show _=_;unfold musR;simp only;rw[hc];simp only[mustT];rw[if_pos ⟨HM.out,hkm⟩];rfl
    clear W1 hr hc hk' hkm;go_wp2_with fail;refine c2.mono ?_;rintro x w3 ⟨rfl,W3,K3⟩;have HZ:Hid (PostMu w wb bv (musR none m e b) (.returned (.tuple #[])) w3):=⟨rfl,by rw[hmu.out];exact W3,KW.trans K3⟩
    clear c2 W3 K3 KW;go_wp2
    go_end0
    exact HZ.out
theorem binary_q {N:Nat}(IH:KindOk N)(e x y:Ex)(ao:Option Addr)(cap wb:Nat)(bv:Value)(b:List (List UInt8))(m g:Int)(w:World)(hk:e.kids=Fs.ex x (Fs.ex y .nil))(hx:Rt13 N x b.length)(hy:Rt13 N y b.length)(hm:m≠0)(h:Wk w wb bv none)(hn:Nmk wb w bv b)(S:Sl w (Nf wb) e.kids ao) :
  Calls Tryz.prog 163 #[.pointer (some ⟨wb,0,none⟩),exV e ao cap,.int .i64 m,.int .i64 g] w fun z w'=>z=.returned (.int .i64 g)/\Wk w' wb bv (musR (musR none m x b) m y b)/\Keep wb w w':=by
 have hlen:e.kids.len=2:=by rw[hk];rfl
 have HK:Hid (e.kids=Fs.ex x (Fs.ex y .nil)):=hk;have HL:Hid (e.kids.len=2):=hlen;clear hk hlen;have B0:Below w.heap.size w (w.alloc (.cells #[.int .i64 e.k,.int .i64 e.n,stv e.nm,.slice ao e.kids.len cap,.int .i64 e.a] 25)):=(Below.refl _ w).alloc (Nat.le_refl _) _;have E0:(w.alloc (.cells #[.int .i64 e.k,.int .i64 e.n,stv e.nm,.slice ao e.kids.len cap,.int .i64 e.a] 25)).heap[w.heap.size]?=some (.cells #[.int .i64 e.k,.int .i64 e.n,stv e.nm,.slice ao e.kids.len cap,.int .i64 e.a] 25):=heap_alloc_new w _;have W0:=h.below B0;have S0:=Sl.belowF S B0;have hwb:=lt_of_block h.blk;have N0:=hn.below B0;clear h hn S;rw[exV_out];go_enter Tryz.func163,Tryz.ntmps163;go_upto_region 1 with fail;generalize w.alloc (.cells #[.int .i64 e.k,.int .i64 e.n,stv e.nm,.slice ao e.kids.len cap,.int .i64 e.a] 25)=w0 at *;obtain⟨bx,hbx⟩:∃bx,bx=w.heap.size:=⟨_,rfl⟩
 have hwbx:wb≠bx:=by omega
 rw[<-hbx] at E0 B0 ⊢;have HB:Hid (bx=w.heap.size):=hbx;clear hbx;rw[HL.out] at E0 ⊢;obtain⟨p0,p1,p2,p3,p4,pf⟩:=box5 E0;have S0x:Sl w0 (Nf wb) (Fs.nil.app (Fs.ex x (Fs.ex y .nil))) ao:=by rw[HK.out] at S0;exact S0
 obtain⟨kb,off,ak,ck,hao,x0,x1,x2,x3,x4,SK⟩:=Sl.kidP S0x 0 rfl;subst hao;simp only[Nat.zero_mul,Nat.add_zero] at x0 x1 x2 x3 x4;have c1:=must_q IH x ak ck wb bv b m none w0 hx (fun _=>hm) W0 (fun _=>N0) SK;rw[exV_out] at c1;go_wp2_with fail;refine c1.mono ?_;rintro z w1 ⟨rfl,W1,K1⟩;have E1:=(K1.block _ (lt_of_block E0) (Ne.symm hwbx)).trans E0;have S1:Sl w1 (Nf wb) ((Fs.ex x .nil).app (Fs.ex y .nil)) (some ⟨kb,off,none⟩):=by
  have:=Sl.keepF S0 K1
  rw[HK.out] at this;exact this
 have N1:=N0.keep K1;have KW:Keep wb w w1:=Keep.bel (by rw[<-HB.out];exact B0) K1;clear c1 p0 p1 p2 p3 p4 pf x0 x1 x2 x3 x4 SK S0x S0 W0 N0 E0 B0 K1;obtain⟨p0,p1,p2,p3,p4,pf⟩:=box5 E1;obtain⟨kb',off',ak,ck,hao,x0,x1,x2,x3,x4,SK⟩:=Sl.kidP S1 1 rfl;injection hao with hao
 injection hao with h1 h2
 subst h1;subst h2;have c2:=must_q IH y ak ck wb bv b m _ w1 hy (fun _=>hm) W1 (fun _=>N1) SK;rw[exV_out] at c2;go_wp2_with fail;refine c2.mono ?_;rintro z w2 ⟨rfl,W2,K2⟩;have HZ:Hid (Wk w2 wb bv (musR (musR none m x b) m y b)/\Keep wb w w2):=⟨W2,KW.trans K2⟩
 clear c2 W2 K2 KW p0 p1 p2 p3 p4 pf x0 x1 x2 x3 x4 SK S1 W1 N1 E1;go_wp2;refine bodyPost_ret (v:=.int .i64 g) (by simp[results,Tryz.results163,go_sem]) rfl ⟨rfl,HZ.out.1,HZ.out.2⟩
end Go.Proofs.YtbjdkekhnajafaaGreatDoor

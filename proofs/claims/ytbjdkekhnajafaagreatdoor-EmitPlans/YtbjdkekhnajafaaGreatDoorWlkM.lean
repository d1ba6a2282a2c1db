import Derived.Test.YtbjdkekhnajafaaGreatDoorPlnM
set_option maxRecDepth 100000
set_option maxHeartbeats 8000000
namespace Go.Proofs.YtbjdkekhnajafaaGreatDoor
set_option linter.unusedVariables false
set_option linter.unusedSimpArgs false
def rgE (cells:List Int)(e:Ex)(ar wi:Nat)(s:Rg):Option (Rg × Int) :=
 if 4096<s.1+1\/4<wi\/nmP e.k e.nm=false\/nuP cells.length e.k e.n ar=false then none else
 match rgF cells e.kids e.k 0 ar wi (s.1+1,s.2) with
 | none=>none
 | some (s1,kd) =>
  if (aZ e.k e.n kd).2=0\/(aZ e.k e.n kd).1≠kd then none else
  match (if e.k=26 then cT cells e.n e.kids ar s1 else some s1) with
  | none=>none
  | some s2=>some (s2,(aZ e.k e.n kd).2)
theorem eG (cells:List Int)(x:Ex)(r:Fs)(pk:Int)(i ar wi:Nat)(s:Rg) :
  rgF cells (Fs.ex x r) pk i ar wi s=(match rgE cells x (aL pk i ar wi).1 (aL pk i ar wi).2 s with
   | none=>none
   | some (s2,k)=>match rgF cells r pk (i+1) ar wi s2 with
    | none=>none
    | some (s3,rest)=>some (s3,k::rest)):=by
 obtain⟨k,n,nm,a,ks⟩:=x;unfold Fs.ex
 conv=>lhs;unfold rgF
 unfold rgE;simp only;by_cases h1:4096<s.1+1\/4<(aL pk i ar wi).2\/nmP k nm=false\/nuP cells.length k n (aL pk i ar wi).1=false
 ·rw[if_pos h1,if_pos h1]
 ·rw[if_neg h1,if_neg h1];cases rgF cells ks k 0 (aL pk i ar wi).1 (aL pk i ar wi).2 (s.1+1,s.2) with
  | none=>rfl
  | some z =>
   obtain⟨s1,kd⟩:=z;simp only;by_cases h2:(aZ k n kd).2=0\/(aZ k n kd).1≠kd
   ·rw[if_pos h2,if_pos h2]
   ·rw[if_neg h2,if_neg h2];cases (if k=26 then cT cells n ks (aL pk i ar wi).1 s1 else some s1) with
    | none=>rfl
    | some s2=>rfl
theorem jf {cells:List Int}{e:Ex}{ar wi:Nat}{s s':Rg}{k:Int}(h:rgE cells e ar wi s=some (s',k)):k≠0:=by
 unfold rgE at h;split at h
 ·cases h
 ·split at h
  ·cases h
  ·split at h
   ·cases h
   ·rename_i h2
    split at h
    ·cases h
    ·injection h with h
     injection h with _ h
     intro h3;exact h2 (.inl (h.trans h3))
abbrev Dg:=Option Rg
def bG (cells:List Int)(st:Dg)(m:Int)(e:Ex)(ar wi:Nat):Dg :=
 match st with
 | none=>none
 | some s=>match rgE cells e ar wi s with
  | none=>none
  | some (s',k)=>if k=m then some s' else none
def cD (cells:List Int):Fs->Dg->Int->Nat->Nat->Dg
 | ⟨none⟩,st,_,_,_=>st
 | ⟨some ⟨k,n,nm,a,ks,r⟩⟩,st,m,ar,wi=>cD cells r (bG cells st m ⟨k,n,nm,a,ks⟩ ar wi) m ar wi
theorem fD (cells:List Int):∀ (f:Fs) (m:Int) (ar wi:Nat),cD cells f none m ar wi=none
 | ⟨none⟩,m,ar,wi=>rfl
 | ⟨some ⟨k,n,nm,a,ks,r⟩⟩,m,ar,wi=>fD cells r m ar wi
def anD (r:Dg)(g:Int):Option (Rg × Int):=match r with|none=>none|some s=>some (s,g)
theorem sL (cells:List Int)(pk m:Int)(ar wi:Nat)(hk:pk≠21):∀ (f:Fs) (i:Nat) (s:Rg),
  cD cells f (some s) m ar wi=(match rgF cells f pk i ar wi s with|none=>none|some (s',kd)=>if kd=List.replicate f.len m then some s' else none)
 | ⟨none⟩,i,s=>by simp[cD,rgF,Fs.len]
 | ⟨some ⟨k,n,nm,a,ks,r⟩⟩,i,s=>by
  have hsp:aL pk i ar wi=(ar,wi):=by unfold aL;rw[if_neg hk]
  have h1:=eG cells ⟨k,n,nm,a,ks⟩ r pk i ar wi s;rw[hsp] at h1;have h2:rgF cells ⟨some ⟨k,n,nm,a,ks,r⟩⟩ pk i ar wi s=_:=h1;rw[h2];unfold cD;unfold bG;simp only;cases rgE cells ⟨k,n,nm,a,ks⟩ ar wi s with
  | none=>simp only;exact fD cells r m ar wi
  | some z =>
   obtain⟨s2,k2⟩:=z;simp only;by_cases hm:k2=m
   ·subst hm;rw[if_pos rfl,sL cells pk k2 ar wi hk r (i+1) s2];cases rgF cells r pk (i+1) ar wi s2 with
    | none=>rfl
    | some z =>
     obtain⟨s3,rest⟩:=z;simp only[Fs.len,List.replicate_succ,List.cons.injEq,true_and]
   ·rw[if_neg hm,fD];cases rgF cells r pk (i+1) ar wi s2 with
    | none=>rfl
    | some z =>
     obtain⟨s3,rest⟩:=z;simp only[Fs.len,List.replicate_succ,List.cons.injEq,hm,false_and,if_false]
def gdE (cells:List Int)(e:Ex)(ar wi:Nat)(s:Rg):Prop:=¬(4096<s.1+1\/4<wi\/nmP e.k e.nm=false\/nuP cells.length e.k e.n ar=false)
theorem yJ {cells:List Int}{e:Ex}{ar wi:Nat}{s:Rg}(m g:Int)(hg:gdE cells e ar wi s)(h21:e.k≠21)(h26:e.k≠26)(hf:∀ kd:List Int,kd.length=e.kids.len->aZ e.k e.n kd=(List.replicate e.kids.len m,g))(h0:g≠0) :
  rgE cells e ar wi s=anD (cD cells e.kids (some (s.1+1,s.2)) m ar wi) g:=by
 unfold rgE;rw[if_neg hg,sL cells e.k m ar wi h21 e.kids 0];cases hr:rgF cells e.kids e.k 0 ar wi (s.1+1,s.2) with
 | none=>rfl
 | some z =>
  obtain⟨s1,kd⟩:=z;simp only;rw[hf kd (oC _ _ _ _ _ _ _ _ _ hr)];simp only;by_cases hk:kd=List.replicate e.kids.len m
  ·rw[if_pos hk,if_neg (by rintro (h|h);exact h0 h;exact h hk.symm),if_neg h26];rfl
  ·rw[if_neg hk,if_pos (.inr (fun h=>hk h.symm))];rfl
theorem fR {cells:List Int}{e:Ex}{ar wi:Nat}{s:Rg}(h:¬gdE cells e ar wi s):rgE cells e ar wi s=none:=by
 unfold rgE;unfold gdE at h;rw[if_pos (Classical.not_not.1 h)]
theorem wm {cells:List Int}{k n:Int}{nm:List UInt8}{a:Int}{x y:Ex}{ar wi:Nat}{s:Rg}(hk:k=13\/k=14)(hg:gdE cells ⟨k,n,nm,a,Fs.ex x (Fs.ex y .nil)⟩ ar wi s) :
  rgE cells ⟨k,n,nm,a,Fs.ex x (Fs.ex y .nil)⟩ ar wi s=(match rgE cells x ar wi (s.1+1,s.2) with
   | none=>none
   | some (s1,k0)=>if k0=4 then none else anD (bG cells (some s1) k0 y ar wi) 2):=by
 have hsp:∀ i,aL k i ar wi=(ar,wi):=fun i=>by unfold aL;rw[if_neg (by omega)]
 conv=>lhs;unfold rgE
 rw[if_neg hg];simp only;rw[eG,hsp];simp only;cases hx:rgE cells x ar wi (s.1+1,s.2) with
 | none=>rfl
 | some z =>
  obtain⟨s1,k0⟩:=z;have h0:=jf hx;simp only;rw[eG,hsp];simp only[bG];cases hy:rgE cells y ar wi s1 with
  | none=>simp only[anD];split<;>rfl
  | some z =>
   obtain⟨s2,k1⟩:=z;have h1:=jf hy;simp only[rgF];have hf:aZ k n [k0,k1]=([wkP [k0,k1] 0,wkP [k0,k1] 0],2):=by
    unfold aZ;rcases hk with rfl|rfl<;>simp
   rw[hf];have hw:wkP [k0,k1] 0=if k0=4 then 0 else k0:=rfl;rw[hw];by_cases h4:k0=4
   ·rw[if_pos h4,if_pos h4,if_pos (.inr (by intro h;injection h with h;exact h0 h.symm))]
   ·rw[if_neg h4,if_neg h4];by_cases h5:k1=k0
    ·subst h5;rw[if_neg (by rintro (h|h);cases h;exact h rfl),if_neg (by omega),if_pos rfl];rfl
    ·rw[if_pos (.inr (by intro h;injection h with _ h;injection h with h;exact h5 h.symm)),if_neg h5];rfl
theorem vU {cells:List Int}{n:Int}{nm:List UInt8}{a:Int}{x y z:Ex}{ar wi:Nat}{s:Rg}(hg:gdE cells ⟨19,n,nm,a,Fs.ex x (Fs.ex y (Fs.ex z .nil))⟩ ar wi s) :
  rgE cells ⟨19,n,nm,a,Fs.ex x (Fs.ex y (Fs.ex z .nil))⟩ ar wi s=(match bG cells (some (s.1+1,s.2)) 2 x ar wi with
   | none=>none
   | some s0=>match rgE cells y ar wi s0 with
    | none=>none
    | some (s1,k0)=>if k0=4 then none else anD (bG cells (some s1) k0 z ar wi) k0):=by
 have hsp:∀ i,aL 19 i ar wi=(ar,wi):=fun i=>by unfold aL;rw[if_neg (by omega)]
 conv=>lhs;unfold rgE
 rw[if_neg hg];simp only;rw[eG,hsp];simp only[bG];cases hx:rgE cells x ar wi (s.1+1,s.2) with
 | none=>rfl
 | some u =>
  obtain⟨s0,kx⟩:=u;simp only;rw[eG,hsp];simp only;cases hy:rgE cells y ar wi s0 with
  | none =>
   simp only;by_cases h2:kx=2
   ·rw[if_pos h2];simp only[hy]
   ·rw[if_neg h2]
  | some u =>
   obtain⟨s1,k0⟩:=u;have h0:=jf hy;simp only;rw[eG,hsp];simp only;have hf:∀ k1,aZ 19 n [kx,k0,k1]=([2,if k0=4 then 0 else k0,if k0=4 then 0 else k0],if k0=4 then 0 else k0):=fun k1=>by
    unfold aZ;simp[wkP]
   by_cases h2:kx=2
   ·subst h2;rw[if_pos rfl];simp only[hy];cases hz:rgE cells z ar wi s1 with
    | none=>simp only[anD];split<;>rfl
    | some u =>
     obtain⟨s2,k1⟩:=u;simp only[rgF];rw[hf];by_cases h4:k0=4
     ·simp only[h4,if_true];rw[if_pos (.inl trivial)]
     ·simp only[h4,if_false];by_cases h5:k1=k0
      ·subst h5;rw[if_neg (by rintro (h|h);exact h0 h;exact h rfl),if_neg (by omega),if_pos rfl];rfl
      ·rw[if_pos (.inr (by intro h;injection h with _ h;injection h with _ h;injection h with h;exact h5 h.symm)),if_neg h5];rfl
   ·rw[if_neg h2];cases hz:rgE cells z ar wi s1 with
    | none=>rfl
    | some u =>
     obtain⟨s2,k1⟩:=u;simp only[rgF];rw[hf];simp only;rw[if_pos (.inr (by intro h;injection h with h;exact h2 h.symm))]
theorem wF {cells:List Int}{n:Int}{nm:List UInt8}{a:Int}{t x:Ex}{ar wi:Nat}{s:Rg}(hg:gdE cells ⟨21,n,nm,a,Fs.ex t (Fs.ex x .nil)⟩ ar wi s)(hn:1<=n/\n<=6) :
  rgE cells ⟨21,n,nm,a,Fs.ex t (Fs.ex x .nil)⟩ ar wi s=anD (bG cells (bG cells (some (s.1+1,s.2)) 4 t ar (wi+1)) (cG n) x (ar+1) (wi+1)) (cm n):=by
 have hs0:aL 21 0 ar wi=(ar,wi+1):=rfl;have hs1:aL 21 1 ar wi=(ar+1,wi+1):=rfl
 conv=>lhs;unfold rgE
 rw[if_neg hg];simp only;rw[eG,hs0];simp only[bG];have hf:∀ k0 k1,aZ 21 n [k0,k1]=([4,cG n],cm n):=fun k0 k1=>by
  have h6:n=1\/n=2\/n=3\/n=4\/n=5\/n=6:=by omega
  rcases h6 with rfl|rfl|rfl|rfl|rfl|rfl<;>rfl
 have hw:cm n≠0:=by unfold cm;split<;>omega
 cases ht:rgE cells t ar (wi+1) (s.1+1,s.2) with
 | none=>rfl
 | some u =>
  obtain⟨s0,k0⟩:=u;simp only;rw[eG,hs1];simp only;by_cases h4:k0=4
  ·subst h4;rw[if_pos rfl];simp only;cases hx:rgE cells x (ar+1) (wi+1) s0 with
   | none=>rfl
   | some u =>
    obtain⟨s1,k1⟩:=u;simp only[rgF];rw[hf];simp only;by_cases h5:k1=cG n
    ·rw[if_neg (by rintro (h|h);exact hw h;exact h (by rw[h5])),if_neg (by omega),if_pos h5];rfl
    ·rw[if_pos (.inr (by intro h;injection h with _ h;injection h with h;exact h5 h.symm)),if_neg h5];rfl
  ·rw[if_neg h4];simp only[anD];cases hx:rgE cells x (ar+1) (wi+1) s0 with
   | none=>rfl
   | some u =>
    obtain⟨s1,k1⟩:=u;simp only[rgF];rw[hf];simp only;rw[if_pos (.inr (by intro h;injection h with h;exact h4 h.symm))]
theorem AZ {cells:List Int}{e:Ex}{ar wi:Nat}{s:Rg}(h:4<wi):rgE cells e ar wi s=none:=fR (fun hg=>hg (.inr (.inl h)))
theorem vq {cells:List Int}{st:Dg}{m:Int}{e:Ex}{ar wi:Nat}(h:4<wi):bG cells st m e ar wi=none:=by
 unfold bG;cases st with
 | none=>rfl
 | some s=>simp only[AZ h]
theorem AC {cells:List Int}{n:Int}{nm:List UInt8}{a:Int}{x:Ex}{ar wi:Nat}{s:Rg}(hg:gdE cells ⟨26,n,nm,a,Fs.ex x .nil⟩ ar wi s) :
  rgE cells ⟨26,n,nm,a,Fs.ex x .nil⟩ ar wi s=(match rgE cells x ar wi (s.1+1,s.2) with
   | none=>none
   | some (s1,k0)=>if k0=4 then none else anD (cT cells n (Fs.ex x .nil) ar s1) k0):=by
 have hsp:∀ i,aL 26 i ar wi=(ar,wi):=fun i=>by unfold aL;rw[if_neg (by omega)]
 conv=>lhs;unfold rgE
 rw[if_neg hg];simp only;rw[eG,hsp];simp only;cases hx:rgE cells x ar wi (s.1+1,s.2) with
 | none=>rfl
 | some u =>
  obtain⟨s1,k0⟩:=u;have h0:=jf hx;simp only[rgF];have hf:aZ 26 n [k0]=([if k0=4 then 0 else k0],if k0=4 then 0 else k0):=by
   unfold aZ;simp[wkP]
  rw[hf];simp only;by_cases h4:k0=4
  ·simp only[h4,if_true];rw[if_pos (.inl trivial)]
  ·simp only[h4,if_false,if_true];rw[if_neg (by rintro (h|h);exact h0 h;exact h rfl)];cases cT cells n (Fs.ex x .nil) ar s1 with
   | none=>rfl
   | some s2=>rfl
def aD (k n:Int)(nm:List UInt8)(len:Nat):Bool :=
 if k=1 then nm==[]&&len==0
 else if k=2 then (n==0||n==1)&&(nm==[]&&len==0)
 else if k=3\/k=5 then decide (0<=n)&&(nm==[]&&len==0)
 else if k=6\/k=7\/k=24 then n==0&&(nm==[]&&len==1)
 else if 8<=k/\k<=18 then n==0&&(nm==[]&&len==2)
 else if k=19 then n==0&&(nm==[]&&len==3)
 else if k=20 then nm==[]&&((decide (1<=n)&&decide (n<=3)&&len==2)||(decide (4<=n)&&decide (n<=10)&&len==1))
 else if k=21 then decide (1<=n)&&(decide (n<=6)&&(nm==[]&&len==2))
 else if k=22 then n==0&&(nm==[]&&len==0)
 else if k=23 then n==0&&(len==0&&aX nm)
 else if k=25 then n==0&&nm==[]
 else if k=26 then nm==[]&&len==1
 else false
theorem dw {cells:List Int}{e:Ex}{ar wi:Nat}{s s':Rg}{k:Int}(h:rgE cells e ar wi s=some (s',k)) :
  gdE cells e ar wi s/\∃s1 kd,rgF cells e.kids e.k 0 ar wi (s.1+1,s.2)=some (s1,kd)/\kd.length=e.kids.len/\(aZ e.k e.n kd).2≠0/\(aZ e.k e.n kd).1=kd/\k=(aZ e.k e.n kd).2/\(if e.k=26 then cT cells e.n e.kids ar s1 else some s1)=some s':=by
 unfold rgE at h;split at h
 ·cases h
 ·rename_i hg
  split at h
  ·cases h
  ·rename_i s1 kd hr
   split at h
   ·cases h
   ·rename_i h2
    split at h
    ·cases h
    ·rename_i s2 h3
     injection h with h
     injection h with h4 h5
     subst h4;exact⟨hg,s1,kd,hr,oC _ _ _ _ _ _ _ _ _ hr,fun h=>h2 (.inl h),Classical.not_not.1 (fun h=>h2 (.inr h)),h5.symm,h3⟩
theorem mo {k n:Int}{kd:List Int}(h:(aZ k n kd).2≠0):(1<=k/\k<=3)\/(5<=k/\k<=26):=by
 apply Classical.byContradiction;intro hc;apply h;unfold aZ
 repeat rw[if_neg (by omega)]
theorem kO {cells:List Int}{e:Ex}{ar wi:Nat}{s s':Rg}{k:Int}(h:rgE cells e ar wi s=some (s',k)):aD e.k e.n e.nm e.kids.len=true:=by
 obtain⟨hg,s1,kd,-,hl,h0,h1,-,-⟩:=dw h;obtain⟨k0,n,nm,a,f⟩:=e;unfold gdE at hg;simp only at hg hl h0 h1 ⊢;clear h;have hk:=mo h0;have hlen:(aZ k0 n kd).1.length=f.len:=by rw[h1,hl]
 have hc:k0=1\/k0=2\/k0=3\/k0=5\/k0=6\/k0=7\/k0=8\/k0=9\/k0=10\/k0=11\/k0=12\/k0=13\/k0=14\/k0=15\/k0=16\/k0=17\/k0=18\/k0=19\/k0=20\/k0=21\/k0=22\/k0=23\/k0=24\/k0=25\/k0=26:=by omega
 clear h0 h1 hl hk;generalize f.len=m at hlen ⊢;rcases hc with rfl|rfl|rfl|rfl|rfl|rfl|rfl|rfl|rfl|rfl|rfl|rfl|rfl|rfl|rfl|rfl|rfl|rfl|rfl|rfl|rfl|rfl|rfl|rfl|rfl <;>
  simp[nmP,nuP] at hg<;>simp[aZ] at hlen<;>simp[aD,hg,<-hlen]
 ·omega
 ·have h10:n=1\/n=2\/n=3\/n=4\/n=5\/n=6\/n=7\/n=8\/n=9\/n=10:=by omega
  rcases h10 with rfl|rfl|rfl|rfl|rfl|rfl|rfl|rfl|rfl|rfl<;>simp
 ·have h10:n=1\/n=2\/n=3\/n=4\/n=5\/n=6:=by omega
  rcases h10 with rfl|rfl|rfl|rfl|rfl|rfl<;>simp
theorem pc {cells:List Int}{e:Ex}{ar wi:Nat}{s:Rg}(h:aD e.k e.n e.nm e.kids.len=false):rgE cells e ar wi s=none:=by
 cases hr:rgE cells e ar wi s with
 | none=>rfl
 | some z =>
  obtain⟨s',k⟩:=z;rw[kO hr] at h;cases h
theorem dI {k n:Int}{nm:List UInt8}{len:Nat}(h:aD k n nm len=true):k=1\/k=2\/k=3\/k=5\/k=6\/k=7\/k=8\/k=9\/k=10\/k=11\/k=12\/k=13\/k=14\/k=15\/k=16\/k=17\/k=18\/k=19\/k=20\/k=21\/k=22\/k=23\/k=24\/k=25\/k=26:=by
 apply Classical.byContradiction;intro hc;unfold aD at h
 repeat rw[if_neg (by omega)] at h
 cases h
theorem ic {cells:List Int}{e:Ex}{ar wi:Nat}{s:Rg}(h:aD e.k e.n e.nm e.kids.len=true)(hs:s.1+1<=4096)(hw:wi<=4)(h5:e.k=5->e.n<(ar:Int))(h26:e.k=26->0<=e.n/\e.n<(cells.length:Int)):gdE cells e ar wi s:=by
 obtain⟨k0,n,nm,a,f⟩:=e;have hc:=dI h;simp only at h h5 h26 hc;unfold gdE;simp only;generalize f.len=m at h;have h1:nmP k0 nm=true/\nuP cells.length k0 n ar=true:=by
  rcases hc with rfl|rfl|rfl|rfl|rfl|rfl|rfl|rfl|rfl|rfl|rfl|rfl|rfl|rfl|rfl|rfl|rfl|rfl|rfl|rfl|rfl|rfl|rfl|rfl|rfl <;>
   simp[aD] at h<;>simp[nmP,nuP,h]<;>first|exact h5 rfl|exact h26 rfl|omega
 rw[h1.1,h1.2];simp;omega
def cM (cells:List Int)(e:Ex)(ar wi:Nat)(s:Rg):Option (Rg × Int) :=
 match rgE cells e ar wi s with
 | none=>none
 | some (s',k)=>if k=4 then none else some (s',k)
theorem ij {cells:List Int}{e:Ex}{ar wi:Nat}{s:Rg}(h:rgE cells e ar wi s=none):cM cells e ar wi s=none:=by unfold cM;rw[h]
theorem sZ {cells:List Int}{e:Ex}{ar wi:Nat}{s:Rg}{r:Dg}{g:Int}(h:rgE cells e ar wi s=anD r g)(hg:g≠4):cM cells e ar wi s=anD r g:=by
 unfold cM;rw[h];cases r with
 | none=>rfl
 | some s'=>simp only[anD];rw[if_neg hg]
theorem wW {cells:List Int}{e:Ex}{ar wi:Nat}{s:Rg}{m:Int}(hm:m≠4):bG cells (some s) m e ar wi=(match cM cells e ar wi s with|none=>none|some (s',k)=>if k=m then some s' else none):=by
 simp only[bG,cM];cases rgE cells e ar wi s with
 | none=>rfl
 | some z =>
  obtain⟨s',k⟩:=z;simp only;by_cases h4:k=4
  ·rw[if_pos h4,if_neg (by omega)]
  ·rw[if_neg h4]
theorem lI:∀ {x y:Fs} (z:Fs),cZ x y=true->cZ y z=cZ x z
 | ⟨none⟩,⟨none⟩,z,h=>rfl
 | ⟨none⟩,⟨some ⟨k',n',nm',a',ks',r'⟩⟩,z,h=>by cases h
 | ⟨some ⟨k,n,nm,a,ks,r⟩⟩,⟨none⟩,z,h=>by cases h
 | ⟨some ⟨k,n,nm,a,ks,r⟩⟩,⟨some ⟨k',n',nm',a',ks',r'⟩⟩,⟨none⟩,h=>rfl
 | ⟨some ⟨k,n,nm,a,ks,r⟩⟩,⟨some ⟨k',n',nm',a',ks',r'⟩⟩,⟨some ⟨k2,n2,nm2,a2,ks2,r2⟩⟩,h=>by
  simp only[cZ,Bool.and_eq_true,beq_iff_eq] at h;obtain⟨⟨⟨⟨h1,h2⟩,h3⟩,h4⟩,h5⟩:=h;subst h1;subst h2;subst h3;simp only[cZ,lI ks2 h4,lI r2 h5]
theorem yw {x y:Ex}(z:Ex)(h:br x y=true):br y z=br x z:=by
 unfold br at h ⊢;simp only[Bool.and_eq_true,beq_iff_eq] at h;obtain⟨⟨⟨h1,h2⟩,h3⟩,h4⟩:=h;rw[h1,h2,h3,lI z.kids h4]
theorem ti (ar:Int):∀ (f:Fs),0<=hgF f ar
 | ⟨none⟩=>by simp[hgF]
 | ⟨some ⟨k,n,nm,a,ks,r⟩⟩=>by
  have:=ti ar r
  simp only[hgF];exact Int.le_trans this (Int.le_max_right _ _)
theorem sH (ar:Int)(h0:0<=ar):∀ (f:Fs),hgF f ar<=ar
 | ⟨none⟩=>by simpa [hgF] using h0
 | ⟨some ⟨k,n,nm,a,ks,r⟩⟩=>by
  have h1:=sH ar h0 ks;have h2:=sH ar h0 r;have h3:(if k=5/\n<ar then n+1 else 0)<=ar:=by split<;>omega
  simp only[hgF];generalize (if k=5/\n<ar then n+1 else 0)=z at h3 ⊢;omega
theorem jM (ar:Int)(h0:0<=ar)(e:Ex):hgE e ar<=ar:=by
 have h1:=sH ar h0 e.kids;have h3:(if e.k=5/\e.n<ar then e.n+1 else 0)<=ar:=by split<;>omega
 unfold hgE;generalize (if e.k=5/\e.n<ar then e.n+1 else 0)=z at h3 ⊢;omega
theorem ik (ar:Int)(e:Ex):0<=hgE e ar:=by
 have:=ti ar e.kids
 unfold hgE;omega
open Go.ChangeShapes Go.WideShapes Go.ChangeAt Go.RowKit
structure Kp (a b:Nat)(w w':World):Prop where
 os:w'.os=w.os
 tape:w'.tape=w.tape
 output:w'.output=w.output
 size:w.heap.size<=w'.heap.size
 block:∀ k,k<w.heap.size->k≠a->k≠b->w'.heap[k]?=w.heap[k]?
theorem Kp.refl (a b:Nat)(w:World):Kp a b w w:=⟨rfl,rfl,rfl,Nat.le_refl _,fun _ _ _ _=>rfl⟩
theorem Kp.trans {p q:Nat}{a b c:World}(h:Kp p q a b)(k:Kp p q b c):Kp p q a c :=
 ⟨k.os.trans h.os,k.tape.trans h.tape,k.output.trans h.output,Nat.le_trans h.size k.size,fun i hi hn hm=>(k.block i (Nat.lt_of_lt_of_le hi h.size) hn hm).trans (h.block i hi hn hm)⟩
theorem Kp.ofBelow {a b:Nat}{w w':World}(h:Below w.heap.size w w'):Kp a b w w':=⟨h.os,h.tape,h.output,h.size,fun k hk _ _=>h.block k hk⟩
theorem Kp.set {p q:Nat}{a w:World}(h:Kp p q a w)(r:Addr)(u:Value)(hp:a.heap.size<=r.block\/r.block=p\/r.block=q):Kp p q a (w.setCell r u) :=
 ⟨h.os,h.tape,h.output,by simpa using h.size,fun k hk hn hm=>(heap_setCell_other w r k u (fun e=>by
  rcases hp with hp|hp|hp
  ·omega
  ·exact hn (e.trans hp)
  ·exact hm (e.trans hp))).trans (h.block k hk hn hm)⟩
theorem Kp.alloc {p q:Nat}{a w:World}(h:Kp p q a w)(ob:Obj):Kp p q a (w.alloc ob):=h.trans ⟨rfl,rfl,rfl,by simp,fun k hk _ _=>Below.heap_alloc w ob k hk⟩
theorem Kp.below {a b n:Nat}{w w':World}(h:Kp a b w w')(ha:n<=a)(hb:n<=b)(hs:n<=w.heap.size):Below n w w':=⟨h.os,h.tape,h.output,h.size,fun k hk=>h.block k (by omega) (by omega) (by omega)⟩
theorem Kp.bel {p q:Nat}{w a b:World}(B:Below w.heap.size w a)(K:Kp p q a b):Kp p q w b:=(Kp.ofBelow B).trans K
abbrev Nf2 (a b:Nat):Nat->Prop:=fun i=>i≠a/\i≠b
theorem SlN.kp {a b:Nat}{w w':World}{f:Fs}{ao:Option Addr}(h:SlN w (Nf2 a b) f ao)(k:Kp a b w w'):SlN w' (Nf2 a b) f ao:=h.mono (fun i hp hl=>k.block i hl hp.1 hp.2) k.size (fun _ h _=>h)
theorem SlN.belowP {P:Nat->Prop}{w w':World}{f:Fs}{ao:Option Addr}(h:SlN w P f ao)(b:Below w.heap.size w w'):SlN w' P f ao:=h.mono (fun i _ hl=>b.block i hl) b.size (fun _ h _=>h)
def Inw (w:World)(P:Nat->Prop)(v:Value)(xs:List Int):Prop :=
 ∃ao cap,v=.slice ao xs.length cap/\(xs=[]\/∃b off,ao=some ⟨b,off,none⟩/\P b/\b<w.heap.size/\∀ j x,xs[j]?=some x->w.cell? ⟨b,off+j,none⟩=some (.int .i64 x))
theorem Inw.mono {w w':World}{P Q:Nat->Prop}{v:Value}{xs:List Int}(hb:∀ k,P k->k<w.heap.size->w'.heap[k]?=w.heap[k]?)(hs:w.heap.size<=w'.heap.size)(hq:∀ k,P k->k<w.heap.size->Q k)(h:Inw w P v xs):Inw w' Q v xs:=by
 obtain⟨ao,cap,rfl,h⟩:=h;refine⟨ao,cap,rfl,?_⟩;rcases h with h|⟨b,off,rfl,hp,hlt,hc⟩
 ·exact .inl h
 ·exact .inr ⟨b,off,rfl,hq b hp hlt,Nat.lt_of_lt_of_le hlt hs,fun j u hu=>(World.cell?_of_block (a:=⟨b,off+j,none⟩) (hb b hp hlt)).trans (hc j u hu)⟩
theorem Inw.kp {a b:Nat}{w w':World}{v:Value}{xs:List Int}(h:Inw w (Nf2 a b) v xs)(k:Kp a b w w'):Inw w' (Nf2 a b) v xs:=h.mono (fun i hp hl=>k.block i hl hp.1 hp.2) k.size (fun _ h _=>h)
theorem Inw.below {P:Nat->Prop}{w w':World}{v:Value}{xs:List Int}(h:Inw w P v xs)(b:Below w.heap.size w w'):Inw w' P v xs:=h.mono (fun i _ hl=>b.block i hl) b.size (fun _ h _=>h)
theorem SlN.kidP {P:Nat->Prop}{w:World}{x r:Fs}{y:Ex}{ao:Option Addr}(h:SlN w P (x.app (Fs.ex y r)) ao)(i:Nat)(hi:x.len=i):∃b off ak ck,ao=some ⟨b,off,none⟩/\w.cell? ⟨b,off+i*4,none⟩=some (.int .i64 y.k)/\w.cell? ⟨b,off+i*4+1,none⟩=some (.int .i64 y.n)/\w.cell? ⟨b,off+i*4+2,none⟩=some (stv y.nm)/\w.cell? ⟨b,off+i*4+3,none⟩=some (.slice ak y.kids.len ck)/\SlN w P y.kids ak:=by
 subst hi;obtain⟨b,off,ak,ck,rfl,-,-,x0,x1,x2,x3,S⟩:=SlN.kidQ h;exact⟨b,off,ak,ck,rfl,x0,x1,x2,x3,S⟩
end Go.Proofs.YtbjdkekhnajafaaGreatDoor

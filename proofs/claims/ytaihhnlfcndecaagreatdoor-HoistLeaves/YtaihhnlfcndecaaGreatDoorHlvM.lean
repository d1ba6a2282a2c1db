import Derived.Test.YtaihhnlfcndecaaGreatDoorPasM
namespace Go.Proofs.YtaihhnlfcndecaaGreatDoor
set_option linter.unusedVariables false
set_option linter.unusedSimpArgs false
theorem hgF_nonneg:∀ (f:Fs) (b:Int),0≤hgF f b
 | ⟨none⟩,b=>Int.le_refl _
 | ⟨some ⟨k,n,nm,a,ks,r⟩⟩,b=>by
  have h2:=hgF_nonneg r b
  show 0≤max (max _ _) (hgF r b)
  omega
theorem hgE_nonneg (e:Ex) (b:Int):0≤hgE e b:=by
 have:=hgF_nonneg e.kids b
 unfold hgE
 omega
theorem hgF_leq:∀ (f:Fs) (b:Int),0≤b→hgF f b≤b
 | ⟨none⟩,b,h=>h
 | ⟨some ⟨k,n,nm,a,ks,r⟩⟩,b,h=>by
  have h1:=hgF_leq ks b h
  have h2:=hgF_leq r b h
  show max (max (if k=5∧n < b then n+1 else 0) (hgF ks b)) (hgF r b)≤b
  split <;> omega
theorem hgE_leq (e:Ex) (b:Int) (h:0≤b):hgE e b≤b:=by
 have:=hgF_leq e.kids b h
 unfold hgE
 split <;> omega
theorem hgF_hst:∀ (f:Fs) (pk:Int) (i:Nat) (ar rc:Int) (cs:List Int) (b:Int),hgF (hstF f pk i ar rc cs).1 b=hgF f b
 | ⟨none⟩,pk,i,ar,rc,cs,b=>rfl
 | ⟨some ⟨k,n,nm,a,ks,r⟩⟩,pk,i,ar,rc,cs,b=>by
  unfold hstF
  simp only
  split
  ·show max (max _ (hgF ks b)) (hgF (hstF r pk (i+1) ar rc cs).1 b)=max (max _ (hgF ks b)) (hgF r b)
   rw [hgF_hst r]
  ·split
   ·generalize hk1:hstF ks k 0 (spotH pk i ar rc).1 (hgE ⟨k,n,nm,a,ks⟩ (spotH pk i ar rc).1) (cs++[hgE ⟨k,n,nm,a,ks⟩ (spotH pk i ar rc).1])=y
    have hy:hgF y.1 b=hgF ks b:=by rw [←hk1];exact hgF_hst ks _ _ _ _ _ b
    show max (max (if (26:Int)=5∧_ then _ else 0) (max (max (if k=5∧n < b then n+1 else 0) (hgF y.1 b)) 0)) (hgF (hstF r pk (i+1) ar rc y.2).1 b)=max (max (if k=5∧n < b then n+1 else 0) (hgF ks b)) (hgF r b)
    rw [hgF_hst r,hy,if_neg (by omega)]
    have:=hgF_nonneg ks b
    omega
   ·show max (max _ (hgF (hstF ks k 0 _ _ cs).1 b)) (hgF (hstF r pk (i+1) ar rc _).1 b)=max (max _ (hgF ks b)) (hgF r b)
    rw [hgF_hst ks,hgF_hst r]
theorem hgE_hstK (e:Ex) (ar rc:Int) (cs:List Int) (b:Int):hgE (hstK e ar rc cs).1 b=hgE e b:=by
 unfold hstK hgE
 simp only
 rw [hgF_hst]
theorem hstF_pre:∀ (f:Fs) (pk:Int) (i:Nat) (ar rc:Int) (cs:List Int),cs <+: (hstF f pk i ar rc cs).2
 | ⟨none⟩,pk,i,ar,rc,cs=>List.prefix_refl _
 | ⟨some ⟨k,n,nm,a,ks,r⟩⟩,pk,i,ar,rc,cs=>by
  unfold hstF
  simp only
  split
  ·exact hstF_pre r pk (i+1) ar rc cs
  ·split
   ·exact ((List.prefix_append cs _).trans (hstF_pre ks _ _ _ _ _)).trans (hstF_pre r _ _ _ _ _)
   ·exact (hstF_pre ks _ _ _ _ _).trans (hstF_pre r _ _ _ _ _)
theorem hstE_pre (e:Ex) (ar rc:Int) (cs:List Int):cs <+: (hstE e ar rc cs).2:=by
 unfold hstE hstK
 split
 ·exact List.prefix_refl _
 ·split
  ·exact (List.prefix_append cs _).trans (hstF_pre _ _ _ _ _ _)
  ·exact hstF_pre _ _ _ _ _ _
theorem pre_get {cs C:List Int} (h:cs <+: C) {n:Nat} {x:Int} (hx:cs[n]?=some x):C[n]?=some x:=by
 obtain ⟨t,rfl⟩:=h
 rw [List.getElem?_append_left (List.getElem?_eq_some_iff.1 hx).1]
 exact hx
structure Iv (cells cs:List Int) (s t:Rg):Prop where
 cnt:t.1≤2 * s.1
 old:∀ n,n < cells.length→t.2 n=s.2 n
 new:∀ n,cs.length≤n→t.2 n=none
theorem rgF_cntq (cells:List Int):∀ (f:Fs) (pk:Int) (i ar wi:Nat) (s s':Rg) (kd:List Int),rgF cells f pk i ar wi s=some (s',kd)→s'.1=s.1+f.size
 | ⟨none⟩,pk,i,ar,wi,s,s',kd,h=>by
  simp only [rgF] at h
  injection h with h
  injection h with h1 h2
  subst h1
  rfl
 | ⟨some ⟨k,n,nm,a,ks,r⟩⟩,pk,i,ar,wi,s,s',kd,h=>by
  have h0:rgF cells ⟨some ⟨k,n,nm,a,ks,r⟩⟩ pk i ar wi s=_:=rg_ex cells ⟨k,n,nm,a,ks⟩ r pk i ar wi s
  rw [h0] at h
  cases hx:rgE cells ⟨k,n,nm,a,ks⟩ (spotP pk i ar wi).1 (spotP pk i ar wi).2 s with
  | none=>rw [hx] at h;cases h
  | some z =>
   obtain ⟨s2,k2⟩:=z
   rw [hx] at h
   simp only at h
   cases hr:rgF cells r pk (i+1) ar wi s2 with
   | none=>rw [hr] at h;cases h
   | some z =>
    obtain ⟨s3,rest⟩:=z
    rw [hr] at h
    injection h with h
    injection h with h1 h2
    subst h1
    obtain ⟨-,s1,kd1,hk,-,-,-,-,h6⟩:=rgE_inv hx
    have e1:=rgF_cntq cells ks k 0 _ _ _ _ _ hk
    have e2:=rgF_cntq cells r pk (i+1) ar wi _ _ _ hr
    have e3:s2.1=s1.1:=by
     by_cases h26:k=26
     ·simp only [h26,if_true] at h6
      unfold keepP at h6
      split at h6
      ·cases h6
      ·split at h6
       ·cases h6
       ·split at h6
        ·injection h6 with h6;rw [←h6]
        ·split at h6
         ·injection h6 with h6;rw [←h6]
         ·cases h6
     ·simp only [h26,if_false] at h6
      injection h6 with h6
      rw [←h6]
    simp only at e1
    show s3.1=s.1+(ks.size+r.size+1)
    omega
theorem rgE_mk {cells:List Int} {e:Ex} {ar wi:Nat} {s s1 s2:Rg} {kd:List Int} (h1:gdE cells e ar wi s) (h2:rgF cells e.kids e.k 0 ar wi (s.1+1,s.2)=some (s1,kd)) (h3:(formP e.k e.n kd).2≠0) (h4:(formP e.k e.n kd).1=kd) (h5:(if e.k=26 then keepP cells e.n e.kids ar s1 else some s1)=some s2) :
  rgE cells e ar wi s=some (s2,(formP e.k e.n kd).2):=by
 unfold rgE
 rw [if_neg h1,h2]
 simp only
 rw [if_neg (by rintro (h | h);exact h3 h;exact h h4),h5]
theorem gd_more {cells C:List Int} {e:Ex} {ar wi:Nat} {s t:Rg} (hl:cells.length≤C.length) (ht:t.1+1≤4096) (h:gdE cells e ar wi s):gdE C e ar wi t:=by
 unfold gdE at h ⊢
 simp only [not_or] at h ⊢
 refine ⟨by omega,h.2.1,h.2.2.1,?_⟩
 intro h2
 apply h.2.2.2
 unfold nuP at h2 ⊢
 by_cases h26:e.k=26
 ·rw [h26] at h2 ⊢
  simp only [show ((26:Int) == 1)=false from rfl,show ((26:Int) == 2)=false from rfl,show ((26:Int) == 3)=false from rfl,show ((26:Int) == 5)=false from rfl,show ((26:Int) == 20)=false from rfl,show ((26:Int) == 21)=false from rfl,show ((26:Int) == 26)=true from rfl,if_true,Bool.false_eq_true,if_false,Bool.and_eq_false_iff,decide_eq_false_iff_not] at h2 ⊢
  omega
 ·have hb:(e.k == 26)=false:=by simpa using h26
  rw [hb] at h2 ⊢
  exact h2
theorem rg_same (cells C cs:List Int) (hp:cells <+: C) (hcs:cells.length≤cs.length):∀ (f:Fs) (pk:Int) (i ar wi:Nat) (s s' t:Rg) (kd:List Int),rgF cells f pk i ar wi s=some (s',kd)→s'.1≤2048→Iv cells cs s t →
  ∃ t',rgF C f pk i ar wi t=some (t',kd)∧Iv cells cs s' t'∧∀ n,cells.length≤n→t'.2 n=t.2 n
 | ⟨none⟩,pk,i,ar,wi,s,s',t,kd,h,hn,iv=>by
  simp only [rgF] at h ⊢
  injection h with h
  injection h with h1 h2
  subst h1
  subst h2
  exact ⟨t,rfl,iv,fun _ _=>rfl⟩
 | ⟨some ⟨k,n,nm,a,ks,r⟩⟩,pk,i,ar,wi,s,s',t,kd,h,hn,iv=>by
  have h0:∀ (c:List Int) (q:Rg),rgF c ⟨some ⟨k,n,nm,a,ks,r⟩⟩ pk i ar wi q=_:=fun c q=>rg_ex c ⟨k,n,nm,a,ks⟩ r pk i ar wi q
  rw [h0] at h ⊢
  cases hx:rgE cells ⟨k,n,nm,a,ks⟩ (spotP pk i ar wi).1 (spotP pk i ar wi).2 s with
  | none=>rw [hx] at h;cases h
  | some z =>
   obtain ⟨s2,k2⟩:=z
   rw [hx] at h
   simp only at h
   cases hr:rgF cells r pk (i+1) ar wi s2 with
   | none=>rw [hr] at h;cases h
   | some z =>
    obtain ⟨s3,rest⟩:=z
    rw [hr] at h
    injection h with h
    injection h with h1 h2
    subst h1
    subst h2
    obtain ⟨hg,s1,kd1,hk,hl,hf1,hf2,hk2,h6⟩:=rgE_inv hx
    simp only at hk hl hf1 hf2 hk2 h6
    have e1:=rgF_cntq cells ks k 0 _ _ _ _ _ hk
    have e2:=rgF_cntq cells r pk (i+1) ar wi _ _ _ hr
    have e3:s2.1=s1.1:=by
     by_cases h26:k=26
     ·rw [if_pos h26] at h6
      unfold keepP at h6
      split at h6
      ·cases h6
      ·split at h6
       ·cases h6
       ·split at h6
        ·injection h6 with h6;rw [←h6]
        ·split at h6
         ·injection h6 with h6;rw [←h6]
         ·cases h6
     ·rw [if_neg h26] at h6
      injection h6 with h6
      rw [←h6]
    simp only at e1
    have hc:=iv.cnt
    obtain ⟨t1,ht1,iv1,hu1⟩:=rg_same cells C cs hp hcs ks k 0 _ _ _ _ (t.1+1,t.2) _ hk (by omega) ⟨by show t.1+1≤2 * (s.1+1);omega,iv.old,iv.new⟩
    -- the cell
    obtain ⟨t2,ht2,iv2,hu2⟩:∃ t2,(if k=26 then keepP C n ks (spotP pk i ar wi).1 t1 else some t1)=some t2∧Iv cells cs s2 t2∧∀ m,cells.length≤m→t2.2 m=t1.2 m:=by
     by_cases h26:k=26
     ·rw [if_pos h26] at h6 ⊢
      have hnn:n.toNat < cells.length:=by
       cases hc2:cells[n.toNat]? with
       | none=>unfold keepP at h6;rw [hc2] at h6;cases h6
       | some lv=>exact (List.getElem?_eq_some_iff.1 hc2).1
      unfold keepP at h6 ⊢
      cases hc2:cells[n.toNat]? with
      | none=>rw [hc2] at h6;cases h6
      | some lv =>
       rw [hc2] at h6
       rw [pre_get hp hc2]
       simp only at h6 ⊢
       split at h6
       ·cases h6
       ·rename_i hlv
        rw [if_neg hlv,iv1.old _ hnn]
        cases hs:s1.2 n.toNat with
        | none =>
         rw [hs] at h6
         simp only at h6 ⊢
         injection h6 with h6
         subst h6
         refine ⟨_,rfl,⟨iv1.cnt,fun m hm=>?_,fun m hm=>?_⟩,fun m hm=>?_⟩
         ·simp only
          split
          ·rfl
          ·exact iv1.old m hm
         ·simp only
          rw [if_neg (by omega)]
          exact iv1.new m hm
         ·simp only
          rw [if_neg (by omega)]
        | some x =>
         rw [hs] at h6
         simp only at h6 ⊢
         split at h6
         ·rename_i hsm
          rw [if_pos hsm]
          injection h6 with h6
          subst h6
          exact ⟨t1,rfl,iv1,fun _ _=>rfl⟩
         ·cases h6
     ·rw [if_neg h26] at h6 ⊢
      injection h6 with h6
      subst h6
      exact ⟨t1,rfl,iv1,fun _ _=>rfl⟩
    have hE:=rgE_mk (e:=⟨k,n,nm,a,ks⟩) (gd_more hp.length_le (by omega) hg) ht1 hf1 hf2 ht2
    simp only at hE
    rw [hE,←hk2]
    simp only
    obtain ⟨t3,ht3,iv3,hu3⟩:=rg_same cells C cs hp hcs r pk (i+1) ar wi _ _ t2 _ hr hn iv2
    rw [ht3]
    exact ⟨t3,rfl,iv3,fun m hm=>(hu3 m hm).trans ((hu2 m hm).trans (hu1 m hm))⟩
theorem rgE_row (cells:List Int) (x:Ex) (ar wi:Nat) (s:Rg):rgF cells (one x) 26 0 ar wi s=(match rgE cells x ar wi s with | none=>none | some (s2,k)=>some (s2,[k])):=by
 have h:rgF cells (one x) 26 0 ar wi s=_:=rg_ex cells x .nil 26 0 ar wi s
 have hsp:spotP 26 0 ar wi=(ar,wi):=rfl
 rw [h,hsp]
 simp only
 cases rgE cells x ar wi s with
 | none=>rfl
 | some z=>obtain ⟨s2,k⟩:=z;rfl
theorem formP_calls {k n:Int} {kd:List Int} (hk:k=20∨k=21) (h0:(formP k n kd).2≠0):(formP k n kd).2≠4:=by
 rcases hk with rfl | rfl
 ·simp only [formP,show ¬ ((20:Int)=1) by decide,show ¬ ((20:Int)=2) by decide,show ¬ ((20:Int)=3∨(20:Int)=5) by decide,show ¬ ((20:Int)=6) by decide,show ¬ ((20:Int)=7) by decide,show ¬ (8≤(20:Int)∧(20:Int)≤12) by decide,show ¬ ((20:Int)=15∨(20:Int)=16) by decide,show ¬ ((20:Int)=17∨(20:Int)=18) by decide,show ¬ ((20:Int)=13∨(20:Int)=14) by decide,show ¬ ((20:Int)=19) by decide,if_false,if_true]
  split
  ·decide
  ·split
   ·decide
   ·split <;> decide
 ·simp only [formP,show ¬ ((21:Int)=1) by decide,show ¬ ((21:Int)=2) by decide,show ¬ ((21:Int)=3∨(21:Int)=5) by decide,show ¬ ((21:Int)=6) by decide,show ¬ ((21:Int)=7) by decide,show ¬ (8≤(21:Int)∧(21:Int)≤12) by decide,show ¬ ((21:Int)=15∨(21:Int)=16) by decide,show ¬ ((21:Int)=17∨(21:Int)=18) by decide,show ¬ ((21:Int)=13∨(21:Int)=14) by decide,show ¬ ((21:Int)=19) by decide,show ¬ ((21:Int)=20) by decide,if_false,if_true]
  split
  ·decide
  ·split <;> decide
theorem formP_q2 {n:Int} {kd:List Int} (h:(formP 21 n kd).1=kd):kd.length=2:=by
 rw [←h]
 simp only [formP,show ¬ ((21:Int)=1) by decide,show ¬ ((21:Int)=2) by decide,show ¬ ((21:Int)=3∨(21:Int)=5) by decide,show ¬ ((21:Int)=6) by decide,show ¬ ((21:Int)=7) by decide,show ¬ (8≤(21:Int)∧(21:Int)≤12) by decide,show ¬ ((21:Int)=15∨(21:Int)=16) by decide,show ¬ ((21:Int)=17∨(21:Int)=18) by decide,show ¬ ((21:Int)=13∨(21:Int)=14) by decide,show ¬ ((21:Int)=19) by decide,show ¬ ((21:Int)=20) by decide,if_false,if_true]
 split
 ·rfl
 ·split <;> rfl
theorem formP_cell {n k:Int} (h0:k≠0) (h4:k≠4):formP 26 n [k]=([k],k):=by
 have hw:wkP [k] 0=k:=by simp [wkP,h4]
 simp only [formP,show ¬ ((26:Int)=1) by decide,show ¬ ((26:Int)=2) by decide,show ¬ ((26:Int)=3∨(26:Int)=5) by decide,show ¬ ((26:Int)=6) by decide,show ¬ ((26:Int)=7) by decide,show ¬ (8≤(26:Int)∧(26:Int)≤12) by decide,show ¬ ((26:Int)=15∨(26:Int)=16) by decide,show ¬ ((26:Int)=17∨(26:Int)=18) by decide,show ¬ ((26:Int)=13∨(26:Int)=14) by decide,show ¬ ((26:Int)=19) by decide,show ¬ ((26:Int)=20) by decide,show ¬ ((26:Int)=21) by decide,if_false,if_true,hw]
def lv4 (cs:List Int):Prop:=∀ c,c ∈ cs→0≤c∧c≤4
theorem rg_hst (cells C:List Int):∀ (f:Fs) (pk:Int) (i ar wi:Nat) (rc:Int) (cs:List Int) (s s' t:Rg) (kd:List Int),rgF cells f pk i ar wi s=some (s',kd)→s'.1≤2048→(pk=21→i+f.len≤2)→ar≤wi→cells <+: cs→(hstF f pk i ar rc cs).2 <+: C→Iv cells cs s t→lv4 cs →
  ∃ t',rgF C (hstF f pk i ar rc cs).1 pk i ar wi t=some (t',kd)∧Iv cells (hstF f pk i ar rc cs).2 s' t'∧(∀ n,cells.length≤n→n < cs.length→t'.2 n=t.2 n)∧lv4 (hstF f pk i ar rc cs).2
 | ⟨none⟩,pk,i,ar,wi,rc,cs,s,s',t,kd,h,hn,hq,haw,hcc,hC,iv,hlv=>by
  simp only [rgF] at h
  injection h with h
  injection h with h1 h2
  subst h1
  subst h2
  exact ⟨t,rfl,iv,fun _ _ _=>rfl,hlv⟩
 | ⟨some ⟨k,n,nm,a,ks,r⟩⟩,pk,i,ar,wi,rc,cs,s,s',t,kd,h,hn,hq,haw,hcc,hC,iv,hlv=>by
  have h0:rgF cells ⟨some ⟨k,n,nm,a,ks,r⟩⟩ pk i ar wi s=_:=rg_ex cells ⟨k,n,nm,a,ks⟩ r pk i ar wi s
  rw [h0] at h
  have hst:hstF ⟨some ⟨k,n,nm,a,ks,r⟩⟩ pk i ar rc cs=_:=hst_cons k n nm a ks r pk i ar rc cs
  rw [hst] at hC ⊢
  cases hx:rgE cells ⟨k,n,nm,a,ks⟩ (spotP pk i ar wi).1 (spotP pk i ar wi).2 s with
  | none=>rw [hx] at h;cases h
  | some z =>
   obtain ⟨s2,k2⟩:=z
   rw [hx] at h
   simp only at h
   cases hr:rgF cells r pk (i+1) ar wi s2 with
   | none=>rw [hr] at h;cases h
   | some z =>
    obtain ⟨s3,rest⟩:=z
    rw [hr] at h
    injection h with h
    injection h with h1 h2
    subst h1
    subst h2
    have e2:=rgF_cntq cells r pk (i+1) ar wi _ _ _ hr
    have hlen:pk=21→i+(r.len+1)≤2:=hq
    have hsp:(spotH pk i ar rc).1=(((spotP pk i ar wi).1:Nat):Int):=by
     unfold spotH spotP
     by_cases h21:pk=21
     ·have:=hlen h21
      by_cases hi:i=1
      ·rw [if_pos ⟨h21,hi⟩,if_pos h21,if_neg (by omega)]
       simp
      ·rw [if_neg (fun h=>hi h.2),if_pos h21,if_pos (by omega)]
     ·rw [if_neg (fun h=>h21 h.1),if_neg h21]
    have haw2:(spotP pk i ar wi).1≤(spotP pk i ar wi).2:=by
     unfold spotP
     split
     ·simp only
      split <;> omega
     ·exact haw
    simp only at hC ⊢
    rw [hsp] at hC ⊢
    generalize (spotH pk i ar rc).2=rp at *
    generalize hap:(spotP pk i ar wi).1=ap at *
    generalize hwp:(spotP pk i ar wi).2=wp at *
    -- the part
    obtain ⟨hg,s1,kd1,hk,hl,hf1,hf2,hk2,h6⟩:=rgE_inv hx
    simp only at hk hl hf1 hf2 hk2 h6
    have e1:=rgF_cntq cells ks k 0 _ _ _ _ _ hk
    simp only at e1
    have hcnt:=iv.cnt
    have hcl:=hcc.length_le
    have hC2:(hstE ⟨k,n,nm,a,ks⟩ (ap:Int) rp cs).2 <+: C:=(hstF_pre r pk (i+1) ar rc _).trans hC
    have hwi4:wp≤4:=by
     unfold gdE at hg
     simp only [not_or] at hg
     omega
    obtain ⟨t2,ht2,iv2,hu2,hlv2⟩:∃ t2,rgE C (hstE ⟨k,n,nm,a,ks⟩ (ap:Int) rp cs).1 ap wp t=some (t2,k2)∧Iv cells (hstE ⟨k,n,nm,a,ks⟩ (ap:Int) rp cs).2 s2 t2∧(∀ m,cells.length≤m→m < cs.length→t2.2 m=t.2 m)∧lv4 (hstE ⟨k,n,nm,a,ks⟩ (ap:Int) rp cs).2:=by
     by_cases h26:k=26
     ·have hE:hstE ⟨k,n,nm,a,ks⟩ (ap:Int) rp cs=(⟨k,n,nm,a,ks⟩,cs):=by unfold hstE;rw [if_pos h26]
      rw [hE] at hC2 ⊢
      have hrow:=rgE_row cells ⟨k,n,nm,a,ks⟩ ap wp s
      rw [hx] at hrow
      simp only at hrow
      have hs2:s2.1≤2048:=by omega
      obtain ⟨t2,ht2,iv2,hu2⟩:=rg_same cells C cs (hcc.trans hC2) hcl (one ⟨k,n,nm,a,ks⟩) 26 0 ap wp s s2 t [k2] hrow hs2 iv
      rw [rgE_row] at ht2
      cases hq2:rgE C ⟨k,n,nm,a,ks⟩ ap wp t with
      | none=>rw [hq2] at ht2;cases ht2
      | some z =>
       obtain ⟨u,ku⟩:=z
       rw [hq2] at ht2
       simp only at ht2
       injection ht2 with ht2
       injection ht2 with g1 g2
       injection g2 with g2 _
       subst g1
       subst g2
       exact ⟨u,rfl,iv2,fun m hm _=>hu2 m hm,hlv⟩
     ·rw [if_neg h26] at h6
      injection h6 with h6
      subst h6
      have hq21:k=21→0+ks.len≤2:=by
       rintro rfl
       have:=formP_q2 hf2
       omega
      by_cases hop:opnH k (hgE ⟨k,n,nm,a,ks⟩ (ap:Int)) rp cs.length=true
      ·have hE:hstE ⟨k,n,nm,a,ks⟩ (ap:Int) rp cs=(⟨26,cs.length,[],0,one (hstK ⟨k,n,nm,a,ks⟩ (ap:Int) (hgE ⟨k,n,nm,a,ks⟩ (ap:Int)) (cs++[hgE ⟨k,n,nm,a,ks⟩ (ap:Int)])).1⟩,(hstK ⟨k,n,nm,a,ks⟩ (ap:Int) (hgE ⟨k,n,nm,a,ks⟩ (ap:Int)) (cs++[hgE ⟨k,n,nm,a,ks⟩ (ap:Int)])).2):=by
        unfold hstE
        rw [if_neg h26,if_pos hop]
       rw [hE] at hC2 ⊢
       simp only at hC2 ⊢
       have hh:=hgE_hstK ⟨k,n,nm,a,ks⟩ (ap:Int) (hgE ⟨k,n,nm,a,ks⟩ (ap:Int)) (cs++[hgE ⟨k,n,nm,a,ks⟩ (ap:Int)]) (ap:Int)
       have hh0:=hgE_nonneg ⟨k,n,nm,a,ks⟩ (ap:Int)
       have hh1:=hgE_leq ⟨k,n,nm,a,ks⟩ (ap:Int) (by omega)
       generalize hgE ⟨k,n,nm,a,ks⟩ (ap:Int)=h at *
       have hkk:k=20∨k=21:=by
        simp [opnH] at hop
        exact hop.1
       obtain ⟨t1,ht1,iv1,hu1,hlv1⟩:=rg_hst cells C ks k 0 ap wp h (cs++[h]) (s.1+1,s.2) s1 (t.1+2,t.2) kd1 hk (by omega) hq21 haw2 (hcc.trans (List.prefix_append _ _)) hC2 ⟨by show t.1+2≤2 * (s.1+1);omega,iv.old,fun m hm=>iv.new m (by simp at hm;omega)⟩ (fun c hc=>by
        rcases List.mem_append.1 hc with hc | hc
        ·exact hlv c hc
        ·simp at hc
         subst hc
         omega)
       have hz:rgE C (hstK ⟨k,n,nm,a,ks⟩ (ap:Int) h (cs++[h])).1 ap wp (t.1+1,t.2)=some (t1,k2):=by
        rw [hk2]
        exact rgE_mk (e:=(hstK ⟨k,n,nm,a,ks⟩ (ap:Int) h (cs++[h])).1) (gd_more (e:=⟨k,n,nm,a,ks⟩) (hcc.trans ((List.prefix_append _ _).trans ((hstF_pre _ _ _ _ _ _).trans hC2))).length_le (by show t.1+1+1≤4096;omega) hg) ht1 hf1 hf2 (by show (if k=26 then _ else _)=_;rw [if_neg h26])
       have hk24:k2≠4:=by rw [hk2];exact formP_calls hkk hf1
       have hk20:k2≠0:=by rw [hk2];exact hf1
       have hpC:cs++[h] <+: C:=(hstF_pre _ _ _ _ _ _).trans hC2
       have hgC:C[cs.length]?=some h:=pre_get hpC (by simp)
       have hlC:cs.length < C.length:=(List.getElem?_eq_some_iff.1 hgC).1
       have hnone:t1.2 cs.length=none:=(hu1 cs.length hcl (by simp)).trans (iv.new _ (Nat.le_refl _))
       have hrow:=rgE_row C (hstK ⟨k,n,nm,a,ks⟩ (ap:Int) h (cs++[h])).1 ap wp (t.1+1,t.2)
       rw [hz] at hrow
       simp only at hrow
       have hfc:=formP_cell (n:=(cs.length:Int)) hk20 hk24
       have hhead:(one (hstK ⟨k,n,nm,a,ks⟩ (ap:Int) h (cs++[h])).1).head=(hstK ⟨k,n,nm,a,ks⟩ (ap:Int) h (cs++[h])).1:=rfl
       have hkeep:keepP C (cs.length:Int) (one (hstK ⟨k,n,nm,a,ks⟩ (ap:Int) h (cs++[h])).1) ap t1=some (t1.1,fun m=>if m=cs.length then some (hstK ⟨k,n,nm,a,ks⟩ (ap:Int) h (cs++[h])).1 else t1.2 m):=by
        unfold keepP
        rw [Int.toNat_natCast,hgC]
        simp only
        rw [hhead,hh,if_neg (by omega),hnone]
       refine ⟨(t1.1,fun m=>if m=cs.length then some (hstK ⟨k,n,nm,a,ks⟩ (ap:Int) h (cs++[h])).1 else t1.2 m),?_,⟨iv1.cnt,fun m hm=>?_,fun m hm=>?_⟩,fun m hm hm2=>?_,hlv1⟩
       ·have:=rgE_mk (e:=⟨26,cs.length,[],0,one (hstK ⟨k,n,nm,a,ks⟩ (ap:Int) h (cs++[h])).1⟩) (s:=t) (ar:=ap) (wi:=wp) (cells:=C) (s1:=t1) (kd:=[k2]) (by
         unfold gdE
         simp only [not_or]
         refine ⟨by omega,by omega,by decide,?_⟩
         simp only [nuP,show ((26:Int) == 1)=false from rfl,show ((26:Int) == 2)=false from rfl,show ((26:Int) == 3)=false from rfl,show ((26:Int) == 5)=false from rfl,show ((26:Int) == 20)=false from rfl,show ((26:Int) == 21)=false from rfl,show ((26:Int) == 26)=true from rfl,if_true,Bool.false_eq_true,if_false,Bool.and_eq_false_iff,decide_eq_false_iff_not]
         omega) hrow (by rw [hfc];exact hk20) (by rw [hfc]) (by simp only [if_true];exact hkeep)
        rw [hfc] at this
        exact this
       ·simp only
        rw [if_neg (by omega)]
        exact iv1.old m hm
       ·have hl2:=(hstF_pre ks k 0 (ap:Int) h (cs++[h])).length_le
        simp only
        simp at hl2
        rw [if_neg (by show m≠cs.length;have hm:(hstF ks k 0 (ap:Int) h (cs++[h])).2.length≤m:=hm;omega)]
        exact iv1.new m hm
       ·simp only
        rw [if_neg (by omega)]
        exact hu1 m hm (by simp;omega)
      ·have hE:hstE ⟨k,n,nm,a,ks⟩ (ap:Int) rp cs=hstK ⟨k,n,nm,a,ks⟩ (ap:Int) rp cs:=by
        unfold hstE
        rw [if_neg h26,if_neg hop]
       rw [hE] at hC2 ⊢
       obtain ⟨t1,ht1,iv1,hu1,hlv1⟩:=rg_hst cells C ks k 0 ap wp rp cs (s.1+1,s.2) s1 (t.1+1,t.2) kd1 hk (by omega) hq21 haw2 hcc hC2 ⟨by show t.1+1≤2 * (s.1+1);omega,iv.old,iv.new⟩ hlv
       refine ⟨t1,?_,iv1,hu1,hlv1⟩
       rw [hk2]
       exact rgE_mk (e:=(hstK ⟨k,n,nm,a,ks⟩ (ap:Int) rp cs).1) (gd_more (e:=⟨k,n,nm,a,ks⟩) (hcc.trans ((hstF_pre _ _ _ _ _ _).trans hC2)).length_le (by omega) hg) ht1 hf1 hf2 (by show (if k=26 then _ else _)=_;rw [if_neg h26])
    have hcs2:=hstE_pre ⟨k,n,nm,a,ks⟩ (ap:Int) rp cs
    generalize hstE ⟨k,n,nm,a,ks⟩ (ap:Int) rp cs=yy at *
    obtain ⟨y,cs2⟩:=yy
    simp only at ht2 iv2 hlv2 hcs2 hC ⊢
    obtain ⟨t3,ht3,iv3,hu3,hlv3⟩:=rg_hst cells C r pk (i+1) ar wi rc cs2 _ _ t2 _ hr hn (fun h=>by have:=hlen h;omega) haw (hcc.trans hcs2) hC iv2 hlv2
    refine ⟨t3,?_,iv3,fun m hm hm2=>(hu3 m hm (Nat.lt_of_lt_of_le hm2 hcs2.length_le)).trans (hu2 m hm hm2),hlv3⟩
    rw [rg_ex,hap,hwp,ht2]
    simp only
    rw [ht3]
theorem hstF_one (e:Ex) (cs:List Int):hstF (one e) 0 0 0 0 cs=(one (hstE e 0 0 cs).1,(hstE e 0 0 cs).2):=by
 have h:hstF (one e) 0 0 0 0 cs=_:=hst_cons e.k e.n e.nm e.a e.kids .nil 0 0 0 0 cs
 have hsp:spotH 0 0 0 0=(0,0):=rfl
 rw [h,hsp]
 rfl
theorem kindP_hst {cells:List Int} {e:Ex} (h:kindP cells e≠0) (hsz:e.kids.size+1≤2048):kindP (hstE e 0 0 cells).2 (hstE e 0 0 cells).1≠0∧(hstE e 0 0 cells).1.kids.size+1≤4096:=by
 obtain ⟨hl,hlv,s,hrg,h4⟩:=kindP_inv h
 have hk0:=h
 generalize kindP cells e=kd at *
 have hrow:rgF cells (one e) 0 0 0 0 (0,fun _=>none)=some (s,[kd]):=by
  have h2:rgF cells (one e) 0 0 0 0 (0,fun _=>none)=_:=rg_ex cells e .nil 0 0 0 0 (0,fun _=>none)
  have hsp:spotP 0 0 0 0=(0,0):=rfl
  rw [h2,hsp]
  simp only
  rw [hrg]
  rfl
 have hcnt:=rgF_cntq cells (one e) 0 0 0 0 _ _ _ hrow
 have hone:(one e).size=e.kids.size+1:=by show e.kids.size+0+1=_;omega
 simp only at hcnt
 obtain ⟨t,ht,iv,-,hlv2⟩:=rg_hst cells (hstE e 0 0 cells).2 (one e) 0 0 0 0 0 cells (0,fun _=>none) s (0,fun _=>none) [kd] hrow (by omega) (fun h=>by cases h) (Nat.le_refl _) (List.prefix_refl _) (by show (hstF (one e) 0 0 0 0 cells).2 <+: _;rw [hstF_one];exact List.prefix_refl _) ⟨Nat.le_refl _,fun _ _=>rfl,fun _ _=>rfl⟩ hlv
 have ht:rgF (hstE e 0 0 cells).2 (hstF (one e) 0 0 0 0 cells).1 0 0 0 0 (0,fun _=>none)=some (t,[kd]):=ht
 have hlv2:lv4 (hstF (one e) 0 0 0 0 cells).2:=hlv2
 rw [hstF_one] at ht hlv2
 simp only at ht hlv2
 have hc2:=rgF_cntq _ _ _ _ _ _ _ _ _ ht
 have hone2:(one (hstE e 0 0 cells).1).size=(hstE e 0 0 cells).1.kids.size+1:=by show (hstE e 0 0 cells).1.kids.size+0+1=_;omega
 have hivc:=iv.cnt
 simp only at hc2
 refine ⟨?_,by omega⟩
 unfold kindP
 rw [if_neg,ht]
 ·simp only
  rw [if_neg h4]
  exact hk0
 ·rintro (h | h)
  ·have:=hstE_len256 e 0 0 cells hl
   omega
  ·simp only [List.any_eq_true,Bool.or_eq_true,decide_eq_true_eq] at h
   obtain ⟨c,hc,h⟩:=h
   have:=hlv2 c hc
   omega
def stnF:Fs→Int→Nat→Int→Bool
 | ⟨none⟩,_,_,_=>true
 | ⟨some ⟨k,n,nm,a,ks,r⟩⟩,pk,i,ar =>
  (if k=26 then true else if (0 < (if pk=21∧i=1 then ar+1 else ar)∧(k=20∨k=21))∧hgE ⟨k,n,nm,a,ks⟩ (if pk=21∧i=1 then ar+1 else ar) < (if pk=21∧i=1 then ar+1 else ar) then false else stnF ks k 0 (if pk=21∧i=1 then ar+1 else ar)) && stnF r pk (i+1) ar
def stnE (e:Ex) (ar:Int):Bool:=if e.k=26 then true else if (0 < ar∧(e.k=20∨e.k=21))∧hgE e ar < ar then false else stnF e.kids e.k 0 ar
theorem stn_cons (k n:Int) (nm:List UInt8) (a:Int) (ks r:Fs) (pk:Int) (i:Nat) (ar:Int) :
  stnF (.cons k n nm a ks r) pk i ar=(stnE ⟨k,n,nm,a,ks⟩ (if pk=21∧i=1 then ar+1 else ar) && stnF r pk (i+1) ar):=rfl
theorem spotH_same (pk:Int) (i:Nat) (ar:Int):spotH pk i ar ar=((if pk=21∧i=1 then ar+1 else ar),(if pk=21∧i=1 then ar+1 else ar)):=by
 unfold spotH
 split <;> rfl
theorem stn_ex (y:Ex) (r:Fs) (pk:Int) (i:Nat) (ar:Int):stnF (Fs.ex y r) pk i ar=(stnE y (if pk=21∧i=1 then ar+1 else ar) && stnF r pk (i+1) ar):=rfl
theorem stn_hst:∀ (f:Fs) (pk:Int) (i:Nat) (ar:Int) (cs:List Int),(hstF f pk i ar ar cs).2.length < 256→stnF (hstF f pk i ar ar cs).1 pk i ar=true
 | ⟨none⟩,pk,i,ar,cs,h=>rfl
 | ⟨some ⟨k,n,nm,a,ks,r⟩⟩,pk,i,ar,cs,h=>by
  have hst:hstF ⟨some ⟨k,n,nm,a,ks,r⟩⟩ pk i ar ar cs=_:=hst_cons k n nm a ks r pk i ar ar cs
  rw [hst,spotH_same] at h ⊢
  simp only at h ⊢
  rw [stn_ex]
  generalize (if pk=21∧i=1 then ar+1 else ar)=ap at *
  have h1:=stn_hst r pk (i+1) ar _ h
  rw [h1,Bool.and_true]
  have hl:=(hstF_pre r pk (i+1) ar ar (hstE ⟨k,n,nm,a,ks⟩ ap ap cs).2).length_le
  have hl2:(hstE ⟨k,n,nm,a,ks⟩ ap ap cs).2.length < 256:=by omega
  by_cases h26:k=26
  ·have hE:hstE ⟨k,n,nm,a,ks⟩ ap ap cs=(⟨k,n,nm,a,ks⟩,cs):=by unfold hstE;rw [if_pos h26]
   rw [hE]
   unfold stnE
   rw [if_pos h26]
  ·by_cases hop:opnH k (hgE ⟨k,n,nm,a,ks⟩ ap) ap cs.length=true
   ·unfold hstE
    rw [if_neg h26,if_pos hop]
    rfl
   ·have hE:hstE ⟨k,n,nm,a,ks⟩ ap ap cs=hstK ⟨k,n,nm,a,ks⟩ ap ap cs:=by unfold hstE;rw [if_neg h26,if_neg hop]
    have hpc:=(hstE_pre ⟨k,n,nm,a,ks⟩ ap ap cs).length_le
    rw [hE] at hl2 ⊢
    unfold stnE
    rw [hgE_hstK]
    show (if k=26 then true else if (0 < ap∧(k=20∨k=21))∧hgE ⟨k,n,nm,a,ks⟩ ap < ap then false else stnF (hstF ks k 0 ap ap cs).1 k 0 ap)=true
    rw [if_neg h26,if_neg]
    ·exact stn_hst ks k 0 ap cs hl2
    ·rintro ⟨⟨-,hk⟩,hh⟩
     apply hop
     unfold opnH
     rw [decide_eq_true hh,decide_eq_true (by omega)]
     rcases hk with rfl | rfl <;> rfl
theorem stnE_hst (e:Ex) (cs:List Int) (h:(hstE e 0 0 cs).2.length < 256):stnE (hstE e 0 0 cs).1 0=true:=by
 have h1:=stn_hst (one e) 0 0 0 cs (by rw [hstF_one];exact h)
 rw [hstF_one] at h1
 have h2:stnF (one (hstE e 0 0 cs).1) 0 0 0=(stnE (hstE e 0 0 cs).1 0 && true):=rfl
 simp only at h1
 rw [h2,Bool.and_true] at h1
 exact h1
theorem stn_idem:∀ (f:Fs) (pk:Int) (i:Nat) (ar:Int) (cs:List Int),0≤ar→stnF f pk i ar=true→hstF f pk i ar ar cs=(f,cs)
 | ⟨none⟩,pk,i,ar,cs,h0,h=>rfl
 | ⟨some ⟨k,n,nm,a,ks,r⟩⟩,pk,i,ar,cs,h0,h=>by
  have hst:hstF ⟨some ⟨k,n,nm,a,ks,r⟩⟩ pk i ar ar cs=_:=hst_cons k n nm a ks r pk i ar ar cs
  have hs:stnF ⟨some ⟨k,n,nm,a,ks,r⟩⟩ pk i ar=_:=stn_cons k n nm a ks r pk i ar
  rw [hs,Bool.and_eq_true] at h
  rw [hst,spotH_same]
  simp only
  have hap:0≤(if pk=21∧i=1 then ar+1 else ar):=by split <;> omega
  generalize (if pk=21∧i=1 then ar+1 else ar)=ap at *
  have hE:hstE ⟨k,n,nm,a,ks⟩ ap ap cs=(⟨k,n,nm,a,ks⟩,cs):=by
   unfold hstE
   by_cases h26:k=26
   ·rw [if_pos h26]
   ·have h1:=h.1
    unfold stnE at h1
    rw [if_neg h26] at h1 ⊢
    simp only at h1 ⊢
    split at h1
    ·cases h1
    ·rename_i hc
     rw [if_neg]
     ·unfold hstK
      simp only
      rw [stn_idem ks k 0 ap cs hap h1]
     ·intro hop
      simp [opnH] at hop
      have:=hgE_nonneg ⟨k,n,nm,a,ks⟩ ap
      exact hc ⟨⟨by omega,hop.1⟩,hop.2.1⟩
  rw [hE]
  simp only
  rw [stn_idem r pk (i+1) ar cs h0 h.2]
  rfl
theorem hstE_idem {e:Ex} (cs:List Int) (h:stnE e 0=true):hstE e 0 0 cs=(e,cs):=by
 have h1:=stn_idem (one e) 0 0 0 cs (Int.le_refl _) (by show (stnE e 0 && true)=true;rw [h];rfl)
 rw [hstF_one] at h1
 injection h1 with h2 h3
 have h4:(hstE e 0 0 cs).1=e:=by
  have:=congrArg Fs.head h2
  exact this
 exact Prod.ext h4 h3
end Go.Proofs.YtaihhnlfcndecaaGreatDoor

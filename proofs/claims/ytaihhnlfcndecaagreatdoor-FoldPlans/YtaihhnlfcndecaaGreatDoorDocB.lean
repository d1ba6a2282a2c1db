import Derived.Test.YtaihhnlfcndecaaGreatDoorPlnD
set_option maxRecDepth 100000
set_option maxHeartbeats 8000000
namespace Go.Proofs.YtaihhnlfcndecaaGreatDoor
set_option linter.unusedVariables false
set_option linter.unusedSimpArgs false
def docF (k n:Int)(nm:List UInt8)(len:Nat):Bool :=
 if k=1 then nm==[]&&len==0
 else if k=2 then (n==0||n==1)&&(nm==[]&&len==0)
 else if k=3\/k=5 then decide (0<=n)&&(nm==[]&&len==0)
 else if k=6\/k=7\/k=24 then n==0&&(nm==[]&&len==1)
 else if 8<=k/\k<=18 then n==0&&(nm==[]&&len==2)
 else if k=19 then n==0&&(nm==[]&&len==3)
 else if k=20 then nm==[]&&((decide (1<=n)&&decide (n<=3)&&len==2)||(decide (4<=n)&&decide (n<=10)&&len==1))
 else if k=21 then decide (1<=n)&&(decide (n<=6)&&(nm==[]&&len==2))
 else if k=22 then n==0&&(nm==[]&&len==0)
 else if k=23 then n==0&&(len==0&&nameB nm)
 else if k=25 then n==0&&nm==[]
 else if k=26 then nm==[]&&len==1
 else false
theorem rgE_inv {cells:List Int}{e:Ex}{ar wi:Nat}{s s':Rg}{k:Int}(h:rgE cells e ar wi s=some (s',k)) :
  gdE cells e ar wi s/\∃s1 kd,rgF cells e.kids e.k 0 ar wi (s.1+1,s.2)=some (s1,kd)/\kd.length=e.kids.len/\(formP e.k e.n kd).2≠0/\(formP e.k e.n kd).1=kd/\k=(formP e.k e.n kd).2/\(if e.k=26 then keepP cells e.n e.kids ar s1 else some s1)=some s':=by
 unfold rgE at h
 split at h
 ·cases h
 ·rename_i hg
  split at h
  ·cases h
  ·rename_i s1 kd hr
   split at h
   ·cases h
   ·rename_i h2
    split at h
    ·cases h
    ·rename_i s2 h3
     injection h with h
     injection h with h4 h5
     subst h4;exact ⟨hg,s1,kd,hr,rgF_len _ _ _ _ _ _ _ _ _ hr,fun h=>h2 (.inl h),Classical.not_not.1 (fun h=>h2 (.inr h)),h5.symm,h3⟩
theorem formP_kind {k n:Int}{kd:List Int}(h:(formP k n kd).2≠0):(1<=k/\k<=3)\/(5<=k/\k<=26):=by
 apply Classical.byContradiction
 intro hc
 apply h
 unfold formP
 repeat rw[if_neg (by omega)]
theorem docF_of {cells:List Int}{e:Ex}{ar wi:Nat}{s s':Rg}{k:Int}(h:rgE cells e ar wi s=some (s',k)):docF e.k e.n e.nm e.kids.len=true:=by
 obtain ⟨hg,s1,kd,-,hl,h0,h1,-,-⟩:=rgE_inv h;obtain ⟨k0,n,nm,a,f⟩:=e;unfold gdE at hg;simp only at hg hl h0 h1 ⊢;clear h;have hk:=formP_kind h0;have hlen:(formP k0 n kd).1.length=f.len:=by rw[h1,hl]
 have hc:k0=1\/k0=2\/k0=3\/k0=5\/k0=6\/k0=7\/k0=8\/k0=9\/k0=10\/k0=11\/k0=12\/k0=13\/k0=14\/k0=15\/k0=16\/k0=17\/k0=18\/k0=19\/k0=20\/k0=21\/k0=22\/k0=23\/k0=24\/k0=25\/k0=26:=by omega
 clear h0 h1 hl hk;generalize f.len=m at hlen ⊢;rcases hc with rfl|rfl|rfl|rfl|rfl|rfl|rfl|rfl|rfl|rfl|rfl|rfl|rfl|rfl|rfl|rfl|rfl|rfl|rfl|rfl|rfl|rfl|rfl|rfl|rfl <;>
  simp[nmP,nuP] at hg <;> simp[formP] at hlen <;> simp[docF,hg,<-hlen]
 ·omega
 ·have h10:n=1\/n=2\/n=3\/n=4\/n=5\/n=6\/n=7\/n=8\/n=9\/n=10:=by omega
  rcases h10 with rfl|rfl|rfl|rfl|rfl|rfl|rfl|rfl|rfl|rfl <;> simp
 ·have h10:n=1\/n=2\/n=3\/n=4\/n=5\/n=6:=by omega
  rcases h10 with rfl|rfl|rfl|rfl|rfl|rfl <;> simp
theorem docF_bad {cells:List Int}{e:Ex}{ar wi:Nat}{s:Rg}(h:docF e.k e.n e.nm e.kids.len=false):rgE cells e ar wi s=none:=by
 cases hr:rgE cells e ar wi s with
 | none=>rfl
 | some z =>
  obtain ⟨s',k⟩:=z;rw[docF_of hr] at h;cases h
theorem docF_kind {k n:Int}{nm:List UInt8}{len:Nat}(h:docF k n nm len=true):k=1\/k=2\/k=3\/k=5\/k=6\/k=7\/k=8\/k=9\/k=10\/k=11\/k=12\/k=13\/k=14\/k=15\/k=16\/k=17\/k=18\/k=19\/k=20\/k=21\/k=22\/k=23\/k=24\/k=25\/k=26:=by
 apply Classical.byContradiction
 intro hc;unfold docF at h
 repeat rw[if_neg (by omega)] at h
 cases h
theorem docF_gd {cells:List Int}{e:Ex}{ar wi:Nat}{s:Rg}(h:docF e.k e.n e.nm e.kids.len=true)(hs:s.1+1<=4096)(hw:wi<=4)(h5:e.k=5->e.n<(ar:Int))(h26:e.k=26->0<=e.n/\e.n<(cells.length:Int)):gdE cells e ar wi s:=by
 obtain ⟨k0,n,nm,a,f⟩:=e;have hc:=docF_kind h;simp only at h h5 h26 hc;unfold gdE;simp only;generalize f.len=m at h;have h1:nmP k0 nm=true/\nuP cells.length k0 n ar=true:=by
  rcases hc with rfl|rfl|rfl|rfl|rfl|rfl|rfl|rfl|rfl|rfl|rfl|rfl|rfl|rfl|rfl|rfl|rfl|rfl|rfl|rfl|rfl|rfl|rfl|rfl|rfl <;>
   simp[docF] at h <;> simp[nmP,nuP,h] <;> first|exact h5 rfl|exact h26 rfl|omega
 rw[h1.1,h1.2];simp;omega
def kndD (cells:List Int)(e:Ex)(ar wi:Nat)(s:Rg):Option (Rg × Int) :=
 match rgE cells e ar wi s with
 | none=>none
 | some (s',k)=>if k=4 then none else some (s',k)
theorem kndD_none {cells:List Int}{e:Ex}{ar wi:Nat}{s:Rg}(h:rgE cells e ar wi s=none):kndD cells e ar wi s=none:=by unfold kndD;rw[h]
theorem kndD_an {cells:List Int}{e:Ex}{ar wi:Nat}{s:Rg}{r:Dg}{g:Int}(h:rgE cells e ar wi s=anD r g)(hg:g≠4):kndD cells e ar wi s=anD r g:=by
 unfold kndD;rw[h];cases r with
 | none=>rfl
 | some s'=>simp only[anD];rw[if_neg hg]
theorem musD_knd {cells:List Int}{e:Ex}{ar wi:Nat}{s:Rg}{m:Int}(hm:m≠4):musD cells (some s) m e ar wi=(match kndD cells e ar wi s with|none=>none|some (s',k)=>if k=m then some s' else none):=by
 simp only[musD,kndD];cases rgE cells e ar wi s with
 | none=>rfl
 | some z =>
  obtain ⟨s',k⟩:=z;simp only;by_cases h4:k=4
  ·rw[if_pos h4,if_neg (by omega)]
  ·rw[if_neg h4]
theorem sameF_tr:∀ {x y:Fs} (z:Fs),sameF x y=true->sameF y z=sameF x z
 | ⟨none⟩,⟨none⟩,z,h=>rfl
 | ⟨none⟩,⟨some ⟨k',n',nm',a',ks',r'⟩⟩,z,h=>by cases h
 | ⟨some ⟨k,n,nm,a,ks,r⟩⟩,⟨none⟩,z,h=>by cases h
 | ⟨some ⟨k,n,nm,a,ks,r⟩⟩,⟨some ⟨k',n',nm',a',ks',r'⟩⟩,⟨none⟩,h=>rfl
 | ⟨some ⟨k,n,nm,a,ks,r⟩⟩,⟨some ⟨k',n',nm',a',ks',r'⟩⟩,⟨some ⟨k2,n2,nm2,a2,ks2,r2⟩⟩,h=>by
  simp only[sameF,Bool.and_eq_true,beq_iff_eq] at h;obtain ⟨⟨⟨⟨h1,h2⟩,h3⟩,h4⟩,h5⟩:=h;subst h1;subst h2;subst h3;simp only[sameF,sameF_tr ks2 h4,sameF_tr r2 h5]
theorem sameE_tr {x y:Ex}(z:Ex)(h:sameE x y=true):sameE y z=sameE x z:=by
 unfold sameE at h ⊢;simp only[Bool.and_eq_true,beq_iff_eq] at h;obtain ⟨⟨⟨h1,h2⟩,h3⟩,h4⟩:=h;rw[h1,h2,h3,sameF_tr z.kids h4]
theorem hgF_pos (ar:Int):∀ (f:Fs),0<=hgF f ar
 | ⟨none⟩=>by simp[hgF]
 | ⟨some ⟨k,n,nm,a,ks,r⟩⟩=>by
  have:=hgF_pos ar r
  simp only[hgF];exact Int.le_trans this (Int.le_max_right _ _)
theorem hgF_le (ar:Int)(h0:0<=ar):∀ (f:Fs),hgF f ar<=ar
 | ⟨none⟩=>by simpa [hgF] using h0
 | ⟨some ⟨k,n,nm,a,ks,r⟩⟩=>by
  have h1:=hgF_le ar h0 ks;have h2:=hgF_le ar h0 r;have h3:(if k=5/\n<ar then n+1 else 0)<=ar:=by split <;> omega
  simp only[hgF];generalize (if k=5/\n<ar then n+1 else 0)=z at h3 ⊢
  omega
theorem hgE_le (ar:Int)(h0:0<=ar)(e:Ex):hgE e ar<=ar:=by
 have h1:=hgF_le ar h0 e.kids;have h3:(if e.k=5/\e.n<ar then e.n+1 else 0)<=ar:=by split <;> omega
 unfold hgE;generalize (if e.k=5/\e.n<ar then e.n+1 else 0)=z at h3 ⊢
 omega
theorem hgE_pos (ar:Int)(e:Ex):0<=hgE e ar:=by
 have:=hgF_pos ar e.kids
 unfold hgE;omega
theorem kindP_inv {cells:List Int}{e:Ex}(h:kindP cells e≠0):cells.length<=256/\(∀ c,c ∈ cells->0<=c/\c<=4)/\∃s,rgE cells e 0 0 (0,fun _=>none)=some (s,kindP cells e)/\kindP cells e≠4:=by
 have h0:=h;unfold kindP at h ⊢
 split at h
 ·exact absurd rfl h
 ·rename_i h1
  rw[if_neg h1];have h2:rgF cells (one e) 0 0 0 0 (0,fun _=>none)=_:=rg_ex cells e .nil 0 0 0 0 (0,fun _=>none)
  have hsp:spotP 0 0 0 0=(0,0):=rfl;rw[hsp] at h2;simp only at h2;refine ⟨by omega,?_,?_⟩
  ·intro c hc;have h3:¬(cells.any (fun c=>decide (c<0)||decide (4<c))=true):=fun h=>h1 (.inr h)
   simp only[List.any_eq_true,not_exists,not_and,Bool.or_eq_true,decide_eq_true_eq] at h3
   have:=h3 c hc
   omega
  ·cases hx:rgE cells e 0 0 (0,fun _=>none) with
   | none=>rw[h2,hx] at h;exact absurd rfl h
   | some z =>
    obtain ⟨s,k⟩:=z;rw[h2,hx] at h ⊢;simp only[rgF] at h ⊢;by_cases h4:k=4
    ·rw[if_pos h4] at h;exact absurd rfl h
    ·rw[if_neg h4];exact ⟨s,rfl,h4⟩
theorem kindP_knd {cells:List Int}{e:Ex}(h1:cells.length<=256)(h2:∀ c,c ∈ cells->0<=c/\c<=4):kindP cells e=(match kndD cells e 0 0 (0,fun _=>none) with|none=>0|some (_,k)=>k):=by
 unfold kindP;have h3:¬(256<cells.length\/cells.any (fun c=>decide (c<0)||decide (4<c))=true):=by
  rintro (h|h)
  ·omega
  ·simp only[List.any_eq_true,Bool.or_eq_true,decide_eq_true_eq] at h;obtain ⟨c,hc,h⟩:=h
   have:=h2 c hc
   omega
 rw[if_neg h3];have h4:rgF cells (one e) 0 0 0 0 (0,fun _=>none)=_:=rg_ex cells e .nil 0 0 0 0 (0,fun _=>none)
 have hsp:spotP 0 0 0 0=(0,0):=rfl;rw[h4,hsp];unfold kndD;simp only;cases rgE cells e 0 0 (0,fun _=>none) with
 | none=>rfl
 | some z =>
  obtain ⟨s,k⟩:=z;simp only[rgF]
  split <;> rfl
theorem kindP_big {cells:List Int}{e:Ex}(h:256<cells.length):kindP cells e=0:=by unfold kindP;rw[if_pos (.inl h)]
end Go.Proofs.YtaihhnlfcndecaaGreatDoor
namespace Go.Proofs.YtaihhnlfcndecaaGreatDoor
open Go.ChangeShapes Go.WideShapes Go.ChangeAt Go.RowKit
set_option linter.unusedVariables false
set_option linter.unusedSimpArgs false
structure Kp (a b:Nat)(w w':World):Prop where
 os:w'.os=w.os
 tape:w'.tape=w.tape
 output:w'.output=w.output
 size:w.heap.size<=w'.heap.size
 block:∀ k,k<w.heap.size->k≠a->k≠b->w'.heap[k]?=w.heap[k]?
theorem Kp.refl (a b:Nat)(w:World):Kp a b w w:=⟨rfl,rfl,rfl,Nat.le_refl _,fun _ _ _ _=>rfl⟩
theorem Kp.trans {p q:Nat}{a b c:World}(h:Kp p q a b)(k:Kp p q b c):Kp p q a c :=
 ⟨k.os.trans h.os,k.tape.trans h.tape,k.output.trans h.output,Nat.le_trans h.size k.size,fun i hi hn hm=>(k.block i (Nat.lt_of_lt_of_le hi h.size) hn hm).trans (h.block i hi hn hm)⟩
theorem Kp.ofBelow {a b:Nat}{w w':World}(h:Below w.heap.size w w'):Kp a b w w':=⟨h.os,h.tape,h.output,h.size,fun k hk _ _=>h.block k hk⟩
theorem Kp.set {p q:Nat}{a w:World}(h:Kp p q a w)(r:Addr)(u:Value)(hp:a.heap.size<=r.block\/r.block=p\/r.block=q):Kp p q a (w.setCell r u) :=
 ⟨h.os,h.tape,h.output,by simpa using h.size,fun k hk hn hm=>(heap_setCell_other w r k u (fun e=>by
  rcases hp with hp|hp|hp
  ·omega
  ·exact hn (e.trans hp)
  ·exact hm (e.trans hp))).trans (h.block k hk hn hm)⟩
theorem Kp.alloc {p q:Nat}{a w:World}(h:Kp p q a w)(ob:Obj):Kp p q a (w.alloc ob):=h.trans ⟨rfl,rfl,rfl,by simp,fun k hk _ _=>Below.heap_alloc w ob k hk⟩
theorem Kp.below {a b n:Nat}{w w':World}(h:Kp a b w w')(ha:n<=a)(hb:n<=b)(hs:n<=w.heap.size):Below n w w':=⟨h.os,h.tape,h.output,h.size,fun k hk=>h.block k (by omega) (by omega) (by omega)⟩
theorem Kp.bel {p q:Nat}{w a b:World}(B:Below w.heap.size w a)(K:Kp p q a b):Kp p q w b:=(Kp.ofBelow B).trans K
abbrev Nf2 (a b:Nat):Nat->Prop:=fun i=>i≠a/\i≠b
theorem SlN.kp {a b:Nat}{w w':World}{f:Fs}{ao:Option Addr}(h:SlN w (Nf2 a b) f ao)(k:Kp a b w w'):SlN w' (Nf2 a b) f ao:=h.mono (fun i hp hl=>k.block i hl hp.1 hp.2) k.size (fun _ h _=>h)
theorem SlN.belowP {P:Nat->Prop}{w w':World}{f:Fs}{ao:Option Addr}(h:SlN w P f ao)(b:Below w.heap.size w w'):SlN w' P f ao:=h.mono (fun i _ hl=>b.block i hl) b.size (fun _ h _=>h)
def Inw (w:World)(P:Nat->Prop)(v:Value)(xs:List Int):Prop :=
 ∃ao cap,v=.slice ao xs.length cap/\(xs=[]\/∃b off,ao=some ⟨b,off,none⟩/\P b/\b<w.heap.size/\∀ j x,xs[j]?=some x->w.cell? ⟨b,off+j,none⟩=some (.int .i64 x))
theorem Inw.mono {w w':World}{P Q:Nat->Prop}{v:Value}{xs:List Int}(hb:∀ k,P k->k<w.heap.size->w'.heap[k]?=w.heap[k]?)(hs:w.heap.size<=w'.heap.size)(hq:∀ k,P k->k<w.heap.size->Q k)(h:Inw w P v xs):Inw w' Q v xs:=by
 obtain ⟨ao,cap,rfl,h⟩:=h;refine ⟨ao,cap,rfl,?_⟩;rcases h with h|⟨b,off,rfl,hp,hlt,hc⟩
 ·exact .inl h
 ·exact .inr ⟨b,off,rfl,hq b hp hlt,Nat.lt_of_lt_of_le hlt hs,fun j u hu=>(World.cell?_of_block (a:=⟨b,off+j,none⟩) (hb b hp hlt)).trans (hc j u hu)⟩
theorem Inw.kp {a b:Nat}{w w':World}{v:Value}{xs:List Int}(h:Inw w (Nf2 a b) v xs)(k:Kp a b w w'):Inw w' (Nf2 a b) v xs:=h.mono (fun i hp hl=>k.block i hl hp.1 hp.2) k.size (fun _ h _=>h)
theorem Inw.below {P:Nat->Prop}{w w':World}{v:Value}{xs:List Int}(h:Inw w P v xs)(b:Below w.heap.size w w'):Inw w' P v xs:=h.mono (fun i _ hl=>b.block i hl) b.size (fun _ h _=>h)
theorem SlN.kidP {P:Nat->Prop}{w:World}{x r:Fs}{y:Ex}{ao:Option Addr}(h:SlN w P (x.app (Fs.ex y r)) ao)(i:Nat)(hi:x.len=i):∃b off ak ck,ao=some ⟨b,off,none⟩/\w.cell? ⟨b,off+i*4,none⟩=some (.int .i64 y.k)/\w.cell? ⟨b,off+i*4+1,none⟩=some (.int .i64 y.n)/\w.cell? ⟨b,off+i*4+2,none⟩=some (stv y.nm)/\w.cell? ⟨b,off+i*4+3,none⟩=some (.slice ak y.kids.len ck)/\SlN w P y.kids ak:=by
 subst hi;obtain ⟨b,off,ak,ck,rfl,-,-,x0,x1,x2,x3,S⟩:=SlN.kidQ h;exact ⟨b,off,ak,ck,rfl,x0,x1,x2,x3,S⟩
def Fs.nv:Fs->Prop
 | ⟨none⟩=>True
 | ⟨some ⟨k,n,_,_,ks,r⟩⟩=>(k=5->0<=n)/\ks.nv/\r.nv
def Ex.nv (e:Ex):Prop:=(e.k=5->0<=e.n)/\e.kids.nv
theorem Fs.app_nv:∀ {x y:Fs},(x.app y).nv->x.nv/\y.nv
 | ⟨none⟩,y,h=>⟨trivial,h⟩
 | ⟨some ⟨k,n,nm,a,ks,r⟩⟩,y,h=>⟨⟨h.1,h.2.1,(Fs.app_nv h.2.2).1⟩,(Fs.app_nv h.2.2).2⟩
theorem rgF_nv (cells:List Int):∀ (f:Fs) (pk:Int) (i ar wi:Nat) (s s':Rg) (kd:List Int),rgF cells f pk i ar wi s=some (s',kd)->f.nv
 | ⟨none⟩,pk,i,ar,wi,s,s',kd,h=>trivial
 | ⟨some ⟨k,n,nm,a,ks,r⟩⟩,pk,i,ar,wi,s,s',kd,h=>by
  have h0:rgF cells ⟨some ⟨k,n,nm,a,ks,r⟩⟩ pk i ar wi s=_:=rg_ex cells ⟨k,n,nm,a,ks⟩ r pk i ar wi s;rw[h0] at h;cases hx:rgE cells ⟨k,n,nm,a,ks⟩ (spotP pk i ar wi).1 (spotP pk i ar wi).2 s with
  | none=>rw[hx] at h;cases h
  | some z =>
   obtain ⟨s2,k2⟩:=z;rw[hx] at h;simp only at h;cases hr:rgF cells r pk (i+1) ar wi s2 with
   | none=>rw[hr] at h;cases h
   | some z =>
    obtain ⟨s3,rest⟩:=z;have hd:=docF_of hx;obtain ⟨-,s1,kd1,hk,-⟩:=rgE_inv hx;simp only at hd hk;refine ⟨?_,rgF_nv cells ks k 0 _ _ _ _ _ hk,rgF_nv cells r pk (i+1) ar wi _ _ _ hr⟩;rintro rfl;simp[docF] at hd;omega
theorem rgE_nv {cells:List Int}{e:Ex}{ar wi:Nat}{s s':Rg}{k:Int}(h:rgE cells e ar wi s=some (s',k)):e.nv:=by
 have hd:=docF_of h;obtain ⟨-,s1,kd1,hk,-⟩:=rgE_inv h;refine ⟨?_,rgF_nv _ _ _ _ _ _ _ _ _ hk⟩;intro h5;rw[h5] at hd;simp[docF] at hd;omega
theorem hg_cons (k n:Int)(nm:List UInt8)(a:Int)(ks r:Fs)(ar:Int):hgF (.cons k n nm a ks r) ar=max (hgE ⟨k,n,nm,a,ks⟩ ar) (hgF r ar):=rfl
def HangDOk (N:Nat):Prop:=∀ (e:Ex) (ao:Option Addr) (cap:Nat) (ar:Int) (w:World),e.kids.size<N->e.kids.len<=1000000000->e.kids.short->e.nv->0<=ar->ar<=1000000000->SnA w e.kids ao ->
 Calls Tryz.prog 51 #[exN e ao cap,.int .i64 ar] w fun x w'=>x=.returned (.int .i64 (hgE e ar))/\Below w.heap.size w w'
theorem hangd_step {N:Nat}(IH:HangDOk N):HangDOk (N+1):=by
 intro e ao cap ar w hN hlen hsh hnv h0 h1 S;obtain ⟨W,hW⟩:∃W,W=hgE e ar:=⟨_,rfl⟩;rw[<-hW];have HW:Hid (W=hgE e ar):=hW;clear hW;have B0:Below w.heap.size w (w.alloc (.cells #[.int .i64 e.k,.int .i64 e.n,stv e.nm,.slice ao e.kids.len cap] 34)):=(Below.refl _ w).alloc (Nat.le_refl _) _;have E0:(w.alloc (.cells #[.int .i64 e.k,.int .i64 e.n,stv e.nm,.slice ao e.kids.len cap] 34)).heap[w.heap.size]?=some (.cells #[.int .i64 e.k,.int .i64 e.n,stv e.nm,.slice ao e.kids.len cap] 34):=heap_alloc_new w _;rw[exN_out];go_enter Tryz.func51,Tryz.ntmps51;go_upto_region 1 with fail;generalize w.alloc (.cells #[.int .i64 e.k,.int .i64 e.n,stv e.nm,.slice ao e.kids.len cap] 34)=w0 at *;obtain ⟨bx,hbx⟩:∃bx,bx=w.heap.size:=⟨_,rfl⟩;rw[<-hbx] at E0 B0 ⊢;have HB:Hid (bx=w.heap.size):=hbx;clear hbx;obtain ⟨c0,hc0⟩:∃c0:Int,c0=if e.k=5/\e.n<ar then e.n+1 else 0:=⟨_,rfl⟩
 have hcb:0<=c0/\c0<=ar:=by
  rw[hc0]
  split
  ·have:=hnv.1 (by omega)
   omega
  ·omega
 have HA0:Hid (max c0 (hgF e.kids ar)=W):=by show _=W;rw[HW.out,hc0];rfl
 clear HW;obtain ⟨p0,p1,p2,p3,pf⟩:=box4 E0;by_cases hv:e.k=5
 ·have hkb:(e.k==5)=true:=by simpa using hv
  by_cases hv2:e.n<ar
  ·have hv3:=hnv.1 hv;obtain rfl:c0=e.n+1:=by rw[hc0,if_pos ⟨hv,hv2⟩]
   clear hv hc0;go_wp2
   go_loopw [5,6] (fun v1 v5 wr=>∃(done r:Fs) (c:Int),Hid (e.kids=done.app r)/\v1=.int .i64 c/\v5=.int .i64 (done.len:Nat)/\0<=c/\c<=ar/\Hid (max c (hgF r ar)=W)/\wr.heap[bx]?=some (.cells #[.int .i64 e.k,.int .i64 e.n,stv e.nm,.slice ao e.kids.len cap] 34)/\Below bx w wr) (fun _ v5 _=>e.kids.len - (intOf v5).toNat)
   case atStart=>exact ⟨.nil,e.kids,e.n+1,rfl,rfl,by show _=Value.int .i64 ((0:Nat):Int);rfl,hcb.1,hcb.2,HA0,E0,B0⟩
   case round =>
    clear E0 B0 HA0 p0 p1 p2 p3 pf hcb;obtain ⟨done,r,c,hk,rfl,rfl,hc0,hc1,HA,E1,B1⟩:=hrel;have hlk:e.kids.len=done.len+r.len:=by rw[hk.out,Fs.len_app]
    obtain ⟨p0,p1,p2,p3,pf⟩:=box4 E1;cases r using Fs.on with
    | nil =>
     have hlt:¬(done.len:Int)<(e.kids.len:Int):=by simp only[Fs.len] at hlk;omega
     have FIN:Hid (W=c):=by show W=c;rw[<-HA.out];simp only[hgF];omega
     clear HA hlk;go_wp2;go_ret;rw[FIN.out];exact ⟨rfl,by rw[<-HB.out];exact B1⟩
    | cons kk kn km ka kks kr =>
     have hlt:(done.len:Int)<(e.kids.len:Int):=by simp only[Fs.len] at hlk;omega
     have hl3:done.len<e.kids.len:=by omega
     have hsz:e.kids.size=done.size+(kks.size+kr.size+1):=by rw[hk.out,Fs.size_app];rfl
     have hwk:(Fs.cons kk kn km ka kks kr).short:=Fs.app_short (x:=done) (by rw[<-hk.out];exact hsh)
     have hnk:(Fs.cons kk kn km ka kks kr).nv:=(Fs.app_nv (x:=done) (by rw[<-hk.out];exact hnv.2)).2
     obtain ⟨b,off,ak,ck,hao,lb1,-,x0,x1,x2,x3,SK⟩:=SlN.kidQ (by rw[<-hk.out];exact SnA.below S (by rw[<-HB.out];exact B1))
     subst hao;have hbd:=hgE_le ar h0 ⟨kk,kn,km,ka,kks⟩;have hbp:=hgE_pos ar ⟨kk,kn,km,ka,kks⟩;have HA2:Hid (max (max c (hgE ⟨kk,kn,km,ka,kks⟩ ar)) (hgF kr ar)=W):=by show _=W;rw[<-HA.out,hg_cons];generalize hgE ⟨kk,kn,km,ka,kks⟩ ar=z;generalize hgF kr ar=y;omega
     have hk2:Hid (e.kids=(done.snoc ⟨kk,kn,km,ka,kks⟩).app kr):=by show e.kids=_;rw[hk.out];unfold Fs.snoc;rw[Fs.app_assoc];rfl
     have hl2:(done.len:Int)+1=((done.snoc ⟨kk,kn,km,ka,kks⟩).len:Nat):=by rw[Fs.len_snoc];rfl
     have hcc:=IH ⟨kk,kn,km,ka,kks⟩ ak ck ar wr (by show kks.size<N;omega) hwk.2.1 hwk.2.2.1 ⟨hnk.1,hnk.2.1⟩ h0 h1 SK
     rw[exN_out] at hcc;simp only at hcc;generalize hgE ⟨kk,kn,km,ka,kks⟩ ar=c2 at *;clear HA hlk hsz hwk SK hk hnk;go_wp2_with fail;refine hcc.mono ?_;rintro x w2 ⟨rfl,b2⟩;have B2:=B1.trans (b2.mono (by have:=lt_of_block E1;omega))
     have E2:=(b2.block bx (lt_of_block E1)).trans E1;clear hcc x0 x1 x2 x3 p0 p1 p2 p3 pf b2 E1 B1;go_wp2
     go_roundw
     case rel=>exact ⟨_,kr,max c c2,hk2,rfl,by rw[<-hl2],by omega,by omega,HA2,E2,B2⟩
     case measure=>simp[intOf];omega
  ·obtain rfl:c0=0:=by rw[hc0,if_neg (fun h=>hv2 h.2)]
   clear hv hc0;go_wp2
   go_loopw [5,6] (fun v1 v5 wr=>∃(done r:Fs) (c:Int),Hid (e.kids=done.app r)/\v1=.int .i64 c/\v5=.int .i64 (done.len:Nat)/\0<=c/\c<=ar/\Hid (max c (hgF r ar)=W)/\wr.heap[bx]?=some (.cells #[.int .i64 e.k,.int .i64 e.n,stv e.nm,.slice ao e.kids.len cap] 34)/\Below bx w wr) (fun _ v5 _=>e.kids.len - (intOf v5).toNat)
   case atStart=>exact ⟨.nil,e.kids,0,rfl,rfl,by show _=Value.int .i64 ((0:Nat):Int);rfl,hcb.1,hcb.2,HA0,E0,B0⟩
   case round =>
    clear E0 B0 HA0 p0 p1 p2 p3 pf hcb;obtain ⟨done,r,c,hk,rfl,rfl,hc0,hc1,HA,E1,B1⟩:=hrel;have hlk:e.kids.len=done.len+r.len:=by rw[hk.out,Fs.len_app]
    obtain ⟨p0,p1,p2,p3,pf⟩:=box4 E1;cases r using Fs.on with
    | nil =>
     have hlt:¬(done.len:Int)<(e.kids.len:Int):=by simp only[Fs.len] at hlk;omega
     have FIN:Hid (W=c):=by show W=c;rw[<-HA.out];simp only[hgF];omega
     clear HA hlk;go_wp2;go_ret;rw[FIN.out];exact ⟨rfl,by rw[<-HB.out];exact B1⟩
    | cons kk kn km ka kks kr =>
     have hlt:(done.len:Int)<(e.kids.len:Int):=by simp only[Fs.len] at hlk;omega
     have hl3:done.len<e.kids.len:=by omega
     have hsz:e.kids.size=done.size+(kks.size+kr.size+1):=by rw[hk.out,Fs.size_app];rfl
     have hwk:(Fs.cons kk kn km ka kks kr).short:=Fs.app_short (x:=done) (by rw[<-hk.out];exact hsh)
     have hnk:(Fs.cons kk kn km ka kks kr).nv:=(Fs.app_nv (x:=done) (by rw[<-hk.out];exact hnv.2)).2
     obtain ⟨b,off,ak,ck,hao,lb1,-,x0,x1,x2,x3,SK⟩:=SlN.kidQ (by rw[<-hk.out];exact SnA.below S (by rw[<-HB.out];exact B1))
     subst hao;have hbd:=hgE_le ar h0 ⟨kk,kn,km,ka,kks⟩;have hbp:=hgE_pos ar ⟨kk,kn,km,ka,kks⟩;have HA2:Hid (max (max c (hgE ⟨kk,kn,km,ka,kks⟩ ar)) (hgF kr ar)=W):=by show _=W;rw[<-HA.out,hg_cons];generalize hgE ⟨kk,kn,km,ka,kks⟩ ar=z;generalize hgF kr ar=y;omega
     have hk2:Hid (e.kids=(done.snoc ⟨kk,kn,km,ka,kks⟩).app kr):=by show e.kids=_;rw[hk.out];unfold Fs.snoc;rw[Fs.app_assoc];rfl
     have hl2:(done.len:Int)+1=((done.snoc ⟨kk,kn,km,ka,kks⟩).len:Nat):=by rw[Fs.len_snoc];rfl
     have hcc:=IH ⟨kk,kn,km,ka,kks⟩ ak ck ar wr (by show kks.size<N;omega) hwk.2.1 hwk.2.2.1 ⟨hnk.1,hnk.2.1⟩ h0 h1 SK
     rw[exN_out] at hcc;simp only at hcc;generalize hgE ⟨kk,kn,km,ka,kks⟩ ar=c2 at *;clear HA hlk hsz hwk SK hk hnk;go_wp2_with fail;refine hcc.mono ?_;rintro x w2 ⟨rfl,b2⟩;have B2:=B1.trans (b2.mono (by have:=lt_of_block E1;omega))
     have E2:=(b2.block bx (lt_of_block E1)).trans E1;clear hcc x0 x1 x2 x3 p0 p1 p2 p3 pf b2 E1 B1;go_wp2
     go_roundw
     case rel=>exact ⟨_,kr,max c c2,hk2,rfl,by rw[<-hl2],by omega,by omega,HA2,E2,B2⟩
     case measure=>simp[intOf];omega
 ·have hkb:(e.k==5)=false:=by simpa using hv
  obtain rfl:c0=0:=by rw[hc0,if_neg (fun h=>hv h.1)]
  clear hv hc0;go_wp2
  go_loopw [5,6] (fun v1 v5 wr=>∃(done r:Fs) (c:Int),Hid (e.kids=done.app r)/\v1=.int .i64 c/\v5=.int .i64 (done.len:Nat)/\0<=c/\c<=ar/\Hid (max c (hgF r ar)=W)/\wr.heap[bx]?=some (.cells #[.int .i64 e.k,.int .i64 e.n,stv e.nm,.slice ao e.kids.len cap] 34)/\Below bx w wr) (fun _ v5 _=>e.kids.len - (intOf v5).toNat)
  case atStart=>exact ⟨.nil,e.kids,0,rfl,rfl,by show _=Value.int .i64 ((0:Nat):Int);rfl,hcb.1,hcb.2,HA0,E0,B0⟩
  case round =>
   clear E0 B0 HA0 p0 p1 p2 p3 pf hcb;obtain ⟨done,r,c,hk,rfl,rfl,hc0,hc1,HA,E1,B1⟩:=hrel;have hlk:e.kids.len=done.len+r.len:=by rw[hk.out,Fs.len_app]
   obtain ⟨p0,p1,p2,p3,pf⟩:=box4 E1;cases r using Fs.on with
   | nil =>
    have hlt:¬(done.len:Int)<(e.kids.len:Int):=by simp only[Fs.len] at hlk;omega
    have FIN:Hid (W=c):=by show W=c;rw[<-HA.out];simp only[hgF];omega
    clear HA hlk;go_wp2;go_ret;rw[FIN.out];exact ⟨rfl,by rw[<-HB.out];exact B1⟩
   | cons kk kn km ka kks kr =>
    have hlt:(done.len:Int)<(e.kids.len:Int):=by simp only[Fs.len] at hlk;omega
    have hl3:done.len<e.kids.len:=by omega
    have hsz:e.kids.size=done.size+(kks.size+kr.size+1):=by rw[hk.out,Fs.size_app];rfl
    have hwk:(Fs.cons kk kn km ka kks kr).short:=Fs.app_short (x:=done) (by rw[<-hk.out];exact hsh)
    have hnk:(Fs.cons kk kn km ka kks kr).nv:=(Fs.app_nv (x:=done) (by rw[<-hk.out];exact hnv.2)).2
    obtain ⟨b,off,ak,ck,hao,lb1,-,x0,x1,x2,x3,SK⟩:=SlN.kidQ (by rw[<-hk.out];exact SnA.below S (by rw[<-HB.out];exact B1))
    subst hao;have hbd:=hgE_le ar h0 ⟨kk,kn,km,ka,kks⟩;have hbp:=hgE_pos ar ⟨kk,kn,km,ka,kks⟩;have HA2:Hid (max (max c (hgE ⟨kk,kn,km,ka,kks⟩ ar)) (hgF kr ar)=W):=by show _=W;rw[<-HA.out,hg_cons];generalize hgE ⟨kk,kn,km,ka,kks⟩ ar=z;generalize hgF kr ar=y;omega
    have hk2:Hid (e.kids=(done.snoc ⟨kk,kn,km,ka,kks⟩).app kr):=by show e.kids=_;rw[hk.out];unfold Fs.snoc;rw[Fs.app_assoc];rfl
    have hl2:(done.len:Int)+1=((done.snoc ⟨kk,kn,km,ka,kks⟩).len:Nat):=by rw[Fs.len_snoc];rfl
    have hcc:=IH ⟨kk,kn,km,ka,kks⟩ ak ck ar wr (by show kks.size<N;omega) hwk.2.1 hwk.2.2.1 ⟨hnk.1,hnk.2.1⟩ h0 h1 SK
    rw[exN_out] at hcc;simp only at hcc;generalize hgE ⟨kk,kn,km,ka,kks⟩ ar=c2 at *;clear HA hlk hsz hwk SK hk hnk;go_wp2_with fail;refine hcc.mono ?_;rintro x w2 ⟨rfl,b2⟩;have B2:=B1.trans (b2.mono (by have:=lt_of_block E1;omega))
    have E2:=(b2.block bx (lt_of_block E1)).trans E1;clear hcc x0 x1 x2 x3 p0 p1 p2 p3 pf b2 E1 B1;go_wp2
    go_roundw
    case rel=>exact ⟨_,kr,max c c2,hk2,rfl,by rw[<-hl2],by omega,by omega,HA2,E2,B2⟩
    case measure=>simp[intOf];omega
theorem hangd_ok:∀ N,HangDOk N -- 51
 | 0=>fun e ao cap ar w h=>absurd h (Nat.not_lt_zero _)
 | N+1=>hangd_step (hangd_ok N)
def HangNOk (N:Nat):Prop:=∀ (e:Ex) (ao:Option Addr) (cap:Nat) (ar:Int) (w:World),e.kids.size<N->e.kids.len<=1000000000->e.kids.short->e.nv->0<=ar->ar<=1000000000->SnA w e.kids ao ->
 Calls Tryz.prog 80 #[exN e ao cap,.int .i64 ar] w fun x w'=>x=.returned (.int .i64 (hgE e ar))/\Below w.heap.size w w'
theorem hangn_step {N:Nat}(IH:HangNOk N):HangNOk (N+1):=by
 intro e ao cap ar w hN hlen hsh hnv h0 h1 S;obtain ⟨W,hW⟩:∃W,W=hgE e ar:=⟨_,rfl⟩;rw[<-hW];have HW:Hid (W=hgE e ar):=hW;clear hW;have B0:Below w.heap.size w (w.alloc (.cells #[.int .i64 e.k,.int .i64 e.n,stv e.nm,.slice ao e.kids.len cap] 34)):=(Below.refl _ w).alloc (Nat.le_refl _) _;have E0:(w.alloc (.cells #[.int .i64 e.k,.int .i64 e.n,stv e.nm,.slice ao e.kids.len cap] 34)).heap[w.heap.size]?=some (.cells #[.int .i64 e.k,.int .i64 e.n,stv e.nm,.slice ao e.kids.len cap] 34):=heap_alloc_new w _;rw[exN_out];go_enter Tryz.func80,Tryz.ntmps80;go_upto_region 1 with fail;generalize w.alloc (.cells #[.int .i64 e.k,.int .i64 e.n,stv e.nm,.slice ao e.kids.len cap] 34)=w0 at *;obtain ⟨bx,hbx⟩:∃bx,bx=w.heap.size:=⟨_,rfl⟩;rw[<-hbx] at E0 B0 ⊢;have HB:Hid (bx=w.heap.size):=hbx;clear hbx;obtain ⟨c0,hc0⟩:∃c0:Int,c0=if e.k=5/\e.n<ar then e.n+1 else 0:=⟨_,rfl⟩
 have hcb:0<=c0/\c0<=ar:=by
  rw[hc0]
  split
  ·have:=hnv.1 (by omega)
   omega
  ·omega
 have HA0:Hid (max c0 (hgF e.kids ar)=W):=by show _=W;rw[HW.out,hc0];rfl
 clear HW;obtain ⟨p0,p1,p2,p3,pf⟩:=box4 E0;by_cases hv:e.k=5
 ·have hkb:(e.k==5)=true:=by simpa using hv
  by_cases hv2:e.n<ar
  ·have hv3:=hnv.1 hv;obtain rfl:c0=e.n+1:=by rw[hc0,if_pos ⟨hv,hv2⟩]
   clear hv hc0;go_wp2
   go_loopw [5,23] (fun v1 v5 wr=>∃(done r:Fs) (c:Int),Hid (e.kids=done.app r)/\v1=.int .i64 c/\v5=.int .i64 (done.len:Nat)/\0<=c/\c<=ar/\Hid (max c (hgF r ar)=W)/\wr.heap[bx]?=some (.cells #[.int .i64 e.k,.int .i64 e.n,stv e.nm,.slice ao e.kids.len cap] 34)/\Below bx w wr) (fun _ v5 _=>e.kids.len - (intOf v5).toNat)
   case atStart=>exact ⟨.nil,e.kids,e.n+1,rfl,rfl,by show _=Value.int .i64 ((0:Nat):Int);rfl,hcb.1,hcb.2,HA0,E0,B0⟩
   case round =>
    clear E0 B0 HA0 p0 p1 p2 p3 pf hcb;obtain ⟨done,r,c,hk,rfl,rfl,hc0,hc1,HA,E1,B1⟩:=hrel;have hlk:e.kids.len=done.len+r.len:=by rw[hk.out,Fs.len_app]
    obtain ⟨p0,p1,p2,p3,pf⟩:=box4 E1;cases r using Fs.on with
    | nil =>
     have hlt:¬(done.len:Int)<(e.kids.len:Int):=by simp only[Fs.len] at hlk;omega
     have FIN:Hid (W=c):=by show W=c;rw[<-HA.out];simp only[hgF];omega
     clear HA hlk;go_wp2;go_ret;rw[FIN.out];exact ⟨rfl,by rw[<-HB.out];exact B1⟩
    | cons kk kn km ka kks kr =>
     have hlt:(done.len:Int)<(e.kids.len:Int):=by simp only[Fs.len] at hlk;omega
     have hl3:done.len<e.kids.len:=by omega
     have hsz:e.kids.size=done.size+(kks.size+kr.size+1):=by rw[hk.out,Fs.size_app];rfl
     have hwk:(Fs.cons kk kn km ka kks kr).short:=Fs.app_short (x:=done) (by rw[<-hk.out];exact hsh)
     have hnk:(Fs.cons kk kn km ka kks kr).nv:=(Fs.app_nv (x:=done) (by rw[<-hk.out];exact hnv.2)).2
     obtain ⟨b,off,ak,ck,hao,lb1,-,x0,x1,x2,x3,SK⟩:=SlN.kidQ (by rw[<-hk.out];exact SnA.below S (by rw[<-HB.out];exact B1))
     subst hao;have hbd:=hgE_le ar h0 ⟨kk,kn,km,ka,kks⟩;have hbp:=hgE_pos ar ⟨kk,kn,km,ka,kks⟩;have HA2:Hid (max (max c (hgE ⟨kk,kn,km,ka,kks⟩ ar)) (hgF kr ar)=W):=by show _=W;rw[<-HA.out,hg_cons];generalize hgE ⟨kk,kn,km,ka,kks⟩ ar=z;generalize hgF kr ar=y;omega
     have hk2:Hid (e.kids=(done.snoc ⟨kk,kn,km,ka,kks⟩).app kr):=by show e.kids=_;rw[hk.out];unfold Fs.snoc;rw[Fs.app_assoc];rfl
     have hl2:(done.len:Int)+1=((done.snoc ⟨kk,kn,km,ka,kks⟩).len:Nat):=by rw[Fs.len_snoc];rfl
     have hbk:=lt_of_block E1;have B3:Below wr.heap.size wr (wr.alloc (.cells #[.int .i64 kk,.int .i64 kn,stv km,.slice ak kks.len ck] 34)):=(Below.refl _ wr).alloc (Nat.le_refl _) _;have Z3:(wr.alloc (.cells #[.int .i64 kk,.int .i64 kn,stv km,.slice ak kks.len ck] 34)).heap[wr.heap.size]?=some (.cells #[.int .i64 kk,.int .i64 kn,stv km,.slice ak kks.len ck] 34):=heap_alloc_new wr _;have SK3:=SnA.below SK B3;clear HA hlk SK hk;go_upto_region 7 with fail;generalize wr.alloc (.cells #[.int .i64 kk,.int .i64 kn,stv km,.slice ak kks.len ck] 34)=w3 at *;obtain ⟨zb,hzb⟩:∃zb,zb=wr.heap.size:=⟨_,rfl⟩;rw[<-hzb] at Z3 ⊢;have HZB:Hid (zb=wr.heap.size):=hzb;have hcc:=IH ⟨kk,kn,km,ka,kks⟩ ak ck ar w3 (by show kks.size<N;omega) hwk.2.1 hwk.2.2.1 ⟨hnk.1,hnk.2.1⟩ h0 h1 SK3
     rw[exN_out] at hcc;simp only at hcc;generalize hgE ⟨kk,kn,km,ka,kks⟩ ar=c2 at *;obtain ⟨z0,z1,z2,z3,zf⟩:=box4 Z3;have hs3:=lt_of_block Z3;have B13:Below bx w w3:=B1.trans (B3.mono (by omega))
     have E3:=(B3.block bx hbk).trans E1;clear hsz hwk hnk hzb SK3 x0 x1 x2 x3 p0 p1 p2 p3 pf E1 B1 B3;go_wp2_with fail;refine hcc.mono ?_;rintro x w2 ⟨rfl,b2⟩;have B2:=B13.trans (b2.mono (by have:=lt_of_block E3;omega))
     have E2:=(b2.block bx (lt_of_block E3)).trans E3;clear hcc z0 z1 z2 z3 zf b2 E3 B13 Z3;go_wp2
     go_roundw
     case rel=>exact ⟨_,kr,max c c2,hk2,rfl,by rw[<-hl2],by omega,by omega,HA2,E2,B2⟩
     case measure=>simp[intOf];omega
  ·obtain rfl:c0=0:=by rw[hc0,if_neg (fun h=>hv2 h.2)]
   clear hv hc0;go_wp2
   go_loopw [5,23] (fun v1 v5 wr=>∃(done r:Fs) (c:Int),Hid (e.kids=done.app r)/\v1=.int .i64 c/\v5=.int .i64 (done.len:Nat)/\0<=c/\c<=ar/\Hid (max c (hgF r ar)=W)/\wr.heap[bx]?=some (.cells #[.int .i64 e.k,.int .i64 e.n,stv e.nm,.slice ao e.kids.len cap] 34)/\Below bx w wr) (fun _ v5 _=>e.kids.len - (intOf v5).toNat)
   case atStart=>exact ⟨.nil,e.kids,0,rfl,rfl,by show _=Value.int .i64 ((0:Nat):Int);rfl,hcb.1,hcb.2,HA0,E0,B0⟩
   case round =>
    clear E0 B0 HA0 p0 p1 p2 p3 pf hcb;obtain ⟨done,r,c,hk,rfl,rfl,hc0,hc1,HA,E1,B1⟩:=hrel;have hlk:e.kids.len=done.len+r.len:=by rw[hk.out,Fs.len_app]
    obtain ⟨p0,p1,p2,p3,pf⟩:=box4 E1;cases r using Fs.on with
    | nil =>
     have hlt:¬(done.len:Int)<(e.kids.len:Int):=by simp only[Fs.len] at hlk;omega
     have FIN:Hid (W=c):=by show W=c;rw[<-HA.out];simp only[hgF];omega
     clear HA hlk;go_wp2;go_ret;rw[FIN.out];exact ⟨rfl,by rw[<-HB.out];exact B1⟩
    | cons kk kn km ka kks kr =>
     have hlt:(done.len:Int)<(e.kids.len:Int):=by simp only[Fs.len] at hlk;omega
     have hl3:done.len<e.kids.len:=by omega
     have hsz:e.kids.size=done.size+(kks.size+kr.size+1):=by rw[hk.out,Fs.size_app];rfl
     have hwk:(Fs.cons kk kn km ka kks kr).short:=Fs.app_short (x:=done) (by rw[<-hk.out];exact hsh)
     have hnk:(Fs.cons kk kn km ka kks kr).nv:=(Fs.app_nv (x:=done) (by rw[<-hk.out];exact hnv.2)).2
     obtain ⟨b,off,ak,ck,hao,lb1,-,x0,x1,x2,x3,SK⟩:=SlN.kidQ (by rw[<-hk.out];exact SnA.below S (by rw[<-HB.out];exact B1))
     subst hao;have hbd:=hgE_le ar h0 ⟨kk,kn,km,ka,kks⟩;have hbp:=hgE_pos ar ⟨kk,kn,km,ka,kks⟩;have HA2:Hid (max (max c (hgE ⟨kk,kn,km,ka,kks⟩ ar)) (hgF kr ar)=W):=by show _=W;rw[<-HA.out,hg_cons];generalize hgE ⟨kk,kn,km,ka,kks⟩ ar=z;generalize hgF kr ar=y;omega
     have hk2:Hid (e.kids=(done.snoc ⟨kk,kn,km,ka,kks⟩).app kr):=by show e.kids=_;rw[hk.out];unfold Fs.snoc;rw[Fs.app_assoc];rfl
     have hl2:(done.len:Int)+1=((done.snoc ⟨kk,kn,km,ka,kks⟩).len:Nat):=by rw[Fs.len_snoc];rfl
     have hbk:=lt_of_block E1;have B3:Below wr.heap.size wr (wr.alloc (.cells #[.int .i64 kk,.int .i64 kn,stv km,.slice ak kks.len ck] 34)):=(Below.refl _ wr).alloc (Nat.le_refl _) _;have Z3:(wr.alloc (.cells #[.int .i64 kk,.int .i64 kn,stv km,.slice ak kks.len ck] 34)).heap[wr.heap.size]?=some (.cells #[.int .i64 kk,.int .i64 kn,stv km,.slice ak kks.len ck] 34):=heap_alloc_new wr _;have SK3:=SnA.below SK B3;clear HA hlk SK hk;go_upto_region 7 with fail;generalize wr.alloc (.cells #[.int .i64 kk,.int .i64 kn,stv km,.slice ak kks.len ck] 34)=w3 at *;obtain ⟨zb,hzb⟩:∃zb,zb=wr.heap.size:=⟨_,rfl⟩;rw[<-hzb] at Z3 ⊢;have HZB:Hid (zb=wr.heap.size):=hzb;have hcc:=IH ⟨kk,kn,km,ka,kks⟩ ak ck ar w3 (by show kks.size<N;omega) hwk.2.1 hwk.2.2.1 ⟨hnk.1,hnk.2.1⟩ h0 h1 SK3
     rw[exN_out] at hcc;simp only at hcc;generalize hgE ⟨kk,kn,km,ka,kks⟩ ar=c2 at *;obtain ⟨z0,z1,z2,z3,zf⟩:=box4 Z3;have hs3:=lt_of_block Z3;have B13:Below bx w w3:=B1.trans (B3.mono (by omega))
     have E3:=(B3.block bx hbk).trans E1;clear hsz hwk hnk hzb SK3 x0 x1 x2 x3 p0 p1 p2 p3 pf E1 B1 B3;go_wp2_with fail;refine hcc.mono ?_;rintro x w2 ⟨rfl,b2⟩;have B2:=B13.trans (b2.mono (by have:=lt_of_block E3;omega))
     have E2:=(b2.block bx (lt_of_block E3)).trans E3;clear hcc z0 z1 z2 z3 zf b2 E3 B13 Z3;go_wp2
     go_roundw
     case rel=>exact ⟨_,kr,max c c2,hk2,rfl,by rw[<-hl2],by omega,by omega,HA2,E2,B2⟩
     case measure=>simp[intOf];omega
 ·have hkb:(e.k==5)=false:=by simpa using hv
  obtain rfl:c0=0:=by rw[hc0,if_neg (fun h=>hv h.1)]
  clear hv hc0;go_wp2
  go_loopw [5,23] (fun v1 v5 wr=>∃(done r:Fs) (c:Int),Hid (e.kids=done.app r)/\v1=.int .i64 c/\v5=.int .i64 (done.len:Nat)/\0<=c/\c<=ar/\Hid (max c (hgF r ar)=W)/\wr.heap[bx]?=some (.cells #[.int .i64 e.k,.int .i64 e.n,stv e.nm,.slice ao e.kids.len cap] 34)/\Below bx w wr) (fun _ v5 _=>e.kids.len - (intOf v5).toNat)
  case atStart=>exact ⟨.nil,e.kids,0,rfl,rfl,by show _=Value.int .i64 ((0:Nat):Int);rfl,hcb.1,hcb.2,HA0,E0,B0⟩
  case round =>
   clear E0 B0 HA0 p0 p1 p2 p3 pf hcb;obtain ⟨done,r,c,hk,rfl,rfl,hc0,hc1,HA,E1,B1⟩:=hrel;have hlk:e.kids.len=done.len+r.len:=by rw[hk.out,Fs.len_app]
   obtain ⟨p0,p1,p2,p3,pf⟩:=box4 E1;cases r using Fs.on with
   | nil =>
    have hlt:¬(done.len:Int)<(e.kids.len:Int):=by simp only[Fs.len] at hlk;omega
    have FIN:Hid (W=c):=by show W=c;rw[<-HA.out];simp only[hgF];omega
    clear HA hlk;go_wp2;go_ret;rw[FIN.out];exact ⟨rfl,by rw[<-HB.out];exact B1⟩
   | cons kk kn km ka kks kr =>
    have hlt:(done.len:Int)<(e.kids.len:Int):=by simp only[Fs.len] at hlk;omega
    have hl3:done.len<e.kids.len:=by omega
    have hsz:e.kids.size=done.size+(kks.size+kr.size+1):=by rw[hk.out,Fs.size_app];rfl
    have hwk:(Fs.cons kk kn km ka kks kr).short:=Fs.app_short (x:=done) (by rw[<-hk.out];exact hsh)
    have hnk:(Fs.cons kk kn km ka kks kr).nv:=(Fs.app_nv (x:=done) (by rw[<-hk.out];exact hnv.2)).2
    obtain ⟨b,off,ak,ck,hao,lb1,-,x0,x1,x2,x3,SK⟩:=SlN.kidQ (by rw[<-hk.out];exact SnA.below S (by rw[<-HB.out];exact B1))
    subst hao;have hbd:=hgE_le ar h0 ⟨kk,kn,km,ka,kks⟩;have hbp:=hgE_pos ar ⟨kk,kn,km,ka,kks⟩;have HA2:Hid (max (max c (hgE ⟨kk,kn,km,ka,kks⟩ ar)) (hgF kr ar)=W):=by show _=W;rw[<-HA.out,hg_cons];generalize hgE ⟨kk,kn,km,ka,kks⟩ ar=z;generalize hgF kr ar=y;omega
    have hk2:Hid (e.kids=(done.snoc ⟨kk,kn,km,ka,kks⟩).app kr):=by show e.kids=_;rw[hk.out];unfold Fs.snoc;rw[Fs.app_assoc];rfl
    have hl2:(done.len:Int)+1=((done.snoc ⟨kk,kn,km,ka,kks⟩).len:Nat):=by rw[Fs.len_snoc];rfl
    have hbk:=lt_of_block E1;have B3:Below wr.heap.size wr (wr.alloc (.cells #[.int .i64 kk,.int .i64 kn,stv km,.slice ak kks.len ck] 34)):=(Below.refl _ wr).alloc (Nat.le_refl _) _;have Z3:(wr.alloc (.cells #[.int .i64 kk,.int .i64 kn,stv km,.slice ak kks.len ck] 34)).heap[wr.heap.size]?=some (.cells #[.int .i64 kk,.int .i64 kn,stv km,.slice ak kks.len ck] 34):=heap_alloc_new wr _;have SK3:=SnA.below SK B3;clear HA hlk SK hk;go_upto_region 7 with fail;generalize wr.alloc (.cells #[.int .i64 kk,.int .i64 kn,stv km,.slice ak kks.len ck] 34)=w3 at *;obtain ⟨zb,hzb⟩:∃zb,zb=wr.heap.size:=⟨_,rfl⟩;rw[<-hzb] at Z3 ⊢;have HZB:Hid (zb=wr.heap.size):=hzb;have hcc:=IH ⟨kk,kn,km,ka,kks⟩ ak ck ar w3 (by show kks.size<N;omega) hwk.2.1 hwk.2.2.1 ⟨hnk.1,hnk.2.1⟩ h0 h1 SK3
    rw[exN_out] at hcc;simp only at hcc;generalize hgE ⟨kk,kn,km,ka,kks⟩ ar=c2 at *;obtain ⟨z0,z1,z2,z3,zf⟩:=box4 Z3;have hs3:=lt_of_block Z3;have B13:Below bx w w3:=B1.trans (B3.mono (by omega))
    have E3:=(B3.block bx hbk).trans E1;clear hsz hwk hnk hzb SK3 x0 x1 x2 x3 p0 p1 p2 p3 pf E1 B1 B3;go_wp2_with fail;refine hcc.mono ?_;rintro x w2 ⟨rfl,b2⟩;have B2:=B13.trans (b2.mono (by have:=lt_of_block E3;omega))
    have E2:=(b2.block bx (lt_of_block E3)).trans E3;clear hcc z0 z1 z2 z3 zf b2 E3 B13 Z3;go_wp2
    go_roundw
    case rel=>exact ⟨_,kr,max c c2,hk2,rfl,by rw[<-hl2],by omega,by omega,HA2,E2,B2⟩
    case measure=>simp[intOf];omega
theorem hangn_ok:∀ N,HangNOk N -- 80
 | 0=>fun e ao cap ar w h=>absurd h (Nat.not_lt_zero _)
 | N+1=>hangn_step (hangn_ok N)
end Go.Proofs.YtaihhnlfcndecaaGreatDoor

import Derived.Test.YtnfmpocfakblmaaGreatDoorSimN
import Derived.Lib.SliceRun
import Derived.Deep.RegionLaw
set_option maxRecDepth 100000
set_option maxHeartbeats 8000000
namespace Go.Proofs.YtnfmpocfakblmaaGreatDoor
set_option linter.unusedVariables false
theorem lexL_thenG (k:Nat)(t:List UInt8)(a p:Nat)(l:List UInt8)(ts:List Tk)(c:UInt8)(m:List UInt8)(hb:∀ k t,k≠0->tks k t c.toNat=false)(h:lexL k t a p l=.inr ts) :
  ∃us,ts=us++[⟨0,0,[],p+l.length⟩]/\lexL k t a p (l++c::m)=preR us (lexL 0 [] (p+l.length) (p+l.length) (c::m)):=by
 induction l generalizing k t a p ts with
 | nil =>
  rcases shut_inr h with ⟨rfl,h1⟩|⟨hk,x,us,hp,h1,h2⟩
  ·injection h1 with h1
   exact⟨[],h1.symm,lexL_blank _ _ _ _ _ _⟩
  ·injection h1 with h1
   subst h1;refine⟨[x],h2,?_⟩;simp only[List.nil_append,List.length_nil,Nat.add_zero];rw[lexL_shut (hb k t hk)];unfold shutP;rw[if_neg hk,hp];rfl
 | cons d r ih =>
  have e1:p+(d::r).length=p+1+r.length:=by simp;omega
  rw[e1];cases ht:tks k t d.toNat
  ·rw[lexL_no ht] at h;rw[List.cons_append,lexL_no ht];rcases shut_inr h with ⟨rfl,h1⟩|⟨hk,x,us,hp,h1,h2⟩
   ·obtain⟨vs,h3,h4⟩:=ih _ _ _ _ _ h1;refine⟨vs,h3,?_⟩;rw[h4];rfl
   ·obtain⟨vs,h3,h4⟩:=ih _ _ _ _ _ h1;refine⟨x::vs,by rw[h2,h3];rfl,?_⟩;rw[h4];unfold shutP;rw[if_neg hk,hp];rfl
  ·rw[lexL_yes ht] at h;rw[List.cons_append,lexL_yes ht];exact ih _ _ _ _ _ h
theorem par_tks (c:UInt8)(hc:c=40\/c=41)(k:Nat)(t:List UInt8)(hk:k≠0):tks k t c.toNat=false:=by
 unfold tks;split
 ·exact absurd rfl hk
 ·rcases hc with rfl|rfl<;>rfl
 ·rcases hc with rfl|rfl<;>rfl
 ·rcases hc with rfl|rfl<;>rfl
 ·rfl
theorem ptok_kind {k:Nat}{t:List UInt8}{a:Nat}{x:Tk}(h:ptok k t a=.inr x):x.k≠0:=by
 unfold ptok at h;split at h
 ·unfold wrdT at h
  repeat' split at h
  all_goals first|(injection h with h;subst h;simp)|cases h
 ·unfold numT at h
  repeat' split at h
  all_goals first|(injection h with h;subst h;simp)|cases h
 ·unfold sgnT at h;split at h
  all_goals first|(injection h with h;subst h;simp)|cases h
 ·cases h
theorem lex_last (k:Nat)(t:List UInt8)(a p:Nat)(l:List UInt8)(us:List Tk)(e:Tk)(h:lexL k t a p l=.inr (us++[e])):∀ x,x ∈ us->x.k≠0:=by
 induction l generalizing k t a p us with
 | nil =>
  unfold lexL at h;rcases shut_inr h with ⟨_,h2⟩|⟨_,x,vs,hp,h2,h3⟩
  ·unfold endR at h2;injection h2 with h2
   have:us=[]:=by
    have:=congrArg List.length h2
    simp at this;exact this
   subst this;intro x hx;cases hx
  ·unfold endR at h2;injection h2 with h2
   subst h2
   have:us=[x]:=by
    have h4:us++[e]=[x]++[⟨0,0,[],p⟩]:=h3;exact List.append_inj_left' h4 rfl
   subst this;intro y hy;simp at hy;rw[hy];exact ptok_kind hp
 | cons c r ih =>
  unfold lexL at h;split at h
  ·exact ih _ _ _ _ _ h
  ·rcases shut_inr h with ⟨_,h2⟩|⟨_,x,vs,hp,h2,h3⟩
   ·exact ih _ _ _ _ _ h2
   ·cases us with
    | nil=>intro y hy;cases hy
    | cons z us =>
     rw[List.cons_append] at h3;injection h3 with h4 h5
     subst h4 h5;intro y hy;rcases List.mem_cons.1 hy with rfl|hy
     ·exact ptok_kind hp
     ·exact ih _ _ _ _ _ h2 y hy
theorem parse_text {s:List UInt8}{x:Ex}{t:List Tk}(h:parseA s=.ok x t):∃us E,s.length<=2000/\lexA s=.inr (us++[E])/\E=⟨0,0,[],s.length⟩/\us.length<=s.length/\(∀ y,y ∈ us->y.k≠0)/\partF 30000 1 0 0 (us++[E])=.ok x [E]:=by
 unfold parseA at h;cases hs:scanA s with
 | inl z=>obtain⟨e,p⟩:=z;rw[hs] at h;cases h
 | inr ts =>
  rw[hs] at h;have h:readF 30000 ts=.ok x t:=h;have hk:=scan_ok hs;obtain⟨us,h1,_⟩:=lexL_thenG 0 [] 0 0 s ts 41 [] (par_tks 41 (.inr rfl)) hk.2.1;rw[Nat.zero_add] at h1;subst h1;have hl:=lex_last _ _ _ _ _ _ _ hk.2.1;refine⟨us,_,hk.1,hk.2.1,rfl,by have:=hk.2.2.2.1;simp at this;exact this,hl,?_⟩;unfold readF at h;cases hp:partF 30000 1 0 0 (us++[⟨0,0,[],s.length⟩]) using Rs.on with
  | out=>rw[hp] at h;cases h
  | bad e a=>rw[hp] at h;cases h
  | ok y t0 =>
   rw[hp] at h;have hsf:=lq_part 30000 1 0 0 _ _ (List.suffix_refl _) y t0 hp;cases t0 with
   | nil=>cases h
   | cons z r =>
    simp only[Rs.bind] at h;by_cases hz:z.k=0
    ·rw[if_pos hz] at h;obtain⟨h1,h2⟩:=Rs.ok_inj h;subst h1;obtain⟨pre,hpre⟩:=hsf;cases r with
     | nil =>
      have h3:pre++[z]=us++[⟨0,0,[],s.length⟩]:=hpre;have h4:=List.append_inj_right' h3 rfl;rw[h4]
     | cons z2 r =>
      exfalso;have h5:z ∈ us:=by
       have h6:pre++z::(z2::r)=us++[⟨0,0,[],s.length⟩]:=hpre;have h7:(pre++z::(z2::r)).dropLast=us:=by rw[h6];simp
       rw[<-h7]
       have:pre++z::(z2::r)=(pre++[z])++(z2::r):=by simp
       rw[this,List.dropLast_append_cons];simp
      exact hl z h5 hz
    ·rw[if_neg hz] at h;cases h
open Go.ChangeShapes Go.WideShapes Go.ChangeAt Go.RowKit
set_option linter.unusedSimpArgs false
theorem heap_set4 (w:World)(b k:Nat)(b0 b1 b2 b3:Value)(h:k≠b):((((w.setCell ⟨b,0,none⟩ b0).setCell ⟨b,1,none⟩ b1).setCell ⟨b,2,none⟩ b2).setCell ⟨b,3,none⟩ b3).heap[k]?=w.heap[k]? :=
 (heap_setCell_other _ ⟨b,3,none⟩ k _ h).trans ((heap_setCell_other _ ⟨b,2,none⟩ k _ h).trans ((heap_setCell_other _ ⟨b,1,none⟩ k _ h).trans (heap_setCell_other _ ⟨b,0,none⟩ k _ h)))
theorem nil_of_len0:∀ {f:Fs},f.len=0->f=.nil
 | ⟨none⟩,_=>rfl
 | ⟨some ⟨k,n,nm,a,ks,r⟩⟩,h=>by simp[Fs.len] at h
theorem Below.toStepC {w w':World}{o:Nat->Nat}{I:Nat->Prop}(b:Below w.heap.size w w'):Step I w o w' (newLab w o 0):=⟨b.os,b.tape,b.output,b.size,fun k hk=>newLab_old hk,fun k hk _=>b.block k hk⟩
abbrev PD (P:Nat->Prop)(n0:Nat)(o:Nat->Nat):Nat->Prop:=fun k=>o k=0/\((P k/\k<n0)\/n0<=k)
theorem FcN.labD {I:Nat->Prop}{P:Nat->Prop}{w w':World}{o o':Nat->Nat}{n0:Nat}{f:Fs}{xs:List Value}(h:FcN w (PD P n0 o) f xs)(s:Step I w o w' o')(h0:¬I 0):FcN w' (PD P n0 o') f xs :=
 h.mono (fun k hp hl=>s.block k hl (by rw[hp.1];exact h0)) s.size (fun k hp hl=>⟨(s.lab k hl).trans hp.1,hp.2⟩)
theorem SlN.labD {I:Nat->Prop}{P:Nat->Prop}{w w':World}{o o':Nat->Nat}{n0:Nat}{f:Fs}{ao:Option Addr}(h:SlN w (PD P n0 o) f ao)(s:Step I w o w' o')(h0:¬I 0):SlN w' (PD P n0 o') f ao :=
 h.mono (fun k hp hl=>s.block k hl (by rw[hp.1];exact h0)) s.size (fun k hp hl=>⟨(s.lab k hl).trans hp.1,hp.2⟩)
def AccD (w:World)(o:Nat->Nat)(P:Nat->Prop)(n0:Nat)(acc:Fs)(v:Value):Prop:=∃xs,Row w o 2 34 4 v acc.len xs/\FcN w (PD P n0 o) acc xs/\∀ k,v.ownBlock=some k->n0<=k
theorem AccD.nil (w:World)(o:Nat->Nat)(P:Nat->Prop)(n0:Nat):AccD w o P n0 .nil (.slice none 0 0):=⟨[],Row.nil _ _ _ _ _,rfl,fun k hk=>by simp[Value.ownBlock] at hk⟩
theorem AccD.step {I:Nat->Prop}{P:Nat->Prop}{w w':World}{o o':Nat->Nat}{n0:Nat}{acc:Fs}{v:Value}(h:AccD w o P n0 acc v)(s:Step I w o w' o')(h0:¬I 0)(h2:¬I 2):AccD w' o' P n0 acc v:=by
 obtain⟨xs,r,f,g⟩:=h;exact⟨xs,r.step s h2,f.labD s h0,g⟩
theorem AccD.push {P:Nat->Prop}{w w2:World}{o o2:Nat->Nat}{n0 ce g2 c2:Nat}{acc:Fs}{xs:List Value}{y:Ex}{ay:Option Addr}(f:FcN w (PD P n0 o) acc xs)(S:SlN w (PD P n0 o) y.kids ay)(s:Step (fun x=>x=2) w o w2 o2)(hlo:∀ k,k<n0->o k≠2)(hw:n0<=w.heap.size)
  (r:Row w2 o2 2 34 4 (.slice (some ⟨g2,0,none⟩) (acc.len+1) c2) (acc.len+1) (xs++[.int .i64 y.k,.int .i64 y.n,stv y.nm,.slice ay y.kids.len ce])):AccD w2 o2 P n0 (acc.snoc y) (.slice (some ⟨g2,0,none⟩) (acc.len+1) c2):=by
 refine⟨_,by rw[Fs.len_snoc];exact r,(f.labD s (by decide)).app (FcN.one ce (S.labD s (by decide))),fun k hk=>?_⟩;simp[Value.ownBlock] at hk;subst hk;have h2:o2 g2=2:=r.2 g2 rfl;rcases Nat.lt_or_ge g2 n0 with h3|h3
 ·exact absurd ((s.lab g2 (by omega)).symm.trans h2) (hlo g2 h3)
 ·exact h3
theorem AccD.sl {P:Nat->Prop}{w:World}{o:Nat->Nat}{n0:Nat}{acc:Fs}{v:Value}(h:AccD w o P n0 acc v):∃ao cap,v=.slice ao acc.len cap/\SlN w (fun k=>(o k=0\/o k=2)/\((P k/\k<n0)\/n0<=k)) acc ao:=by
 obtain⟨xs,r,f,g⟩:=h;obtain⟨ao,cap,hv⟩:=r.form;refine⟨ao,cap,hv,?_⟩;rcases Nat.eq_zero_or_pos acc.len with h0|h0
 ·exact .inl (nil_of_len0 h0)
 ·obtain⟨g',cap',hv',hg,-,-,hlt,hc,-⟩:=r.pos h0;have hl:=f.len;rw[hv] at hv';injection hv' with hv1
  subst hv1;have hgn:n0<=g':=g g' (by rw[hv];rfl);refine .inr ⟨g',0,xs,rfl,⟨.inr hg,.inr hgn⟩,hlt,fun j u hu=>?_,f.mono (fun _ _ _=>rfl) (Nat.le_refl _) (fun k hp _=>⟨.inl hp.1,hp.2⟩)⟩;have hj:j<xs.length:=(List.getElem?_eq_some_iff.1 hu).1;rw[Nat.zero_add,hc j (by omega)];exact hu
def Nms (w:World)(v:Value)(b:List (List UInt8)):Prop :=
 ∃ao cap,v=.slice ao b.length cap/\b.length<=cap/\((b=[]/\ao=none)\/∃g,ao=some ⟨g,0,none⟩/\g<w.heap.size/\0<b.length/\∀ (j:Nat) (t:List UInt8),b[j]?=some t->w.cell? ⟨g,j,none⟩=some (stv t))
theorem Nms.below {w w':World}{v:Value}{b:List (List UInt8)}(h:Nms w v b)(B:Below w.heap.size w w'):Nms w' v b:=by
 obtain⟨ao,cap,rfl,hc,h1|⟨g,h1,h2,h0,h3⟩⟩:=h
 ·exact⟨ao,cap,rfl,hc,.inl h1⟩
 ·exact⟨ao,cap,rfl,hc,.inr ⟨g,h1,Nat.lt_of_lt_of_le h2 B.size,h0,fun j t hj=>(B.cell (p:=⟨g,j,none⟩) h2).trans (h3 j t hj)⟩⟩
theorem Nms.nil (w:World):Nms w (.slice none 0 0) []:=⟨none,0,rfl,Nat.le_refl _,.inl ⟨rfl,rfl⟩⟩
theorem infoStrT:(Tryz.prog.info? 9).map (fun i=>(i.zero,i.size,i.bytes))=some (some (.string ⟨#[]⟩),1,16):=by kernel_rfl
def fixL (k n:Int):List Int :=
 if k=1 then [1] else if k=2 then [2] else if k=3\/k=4 then [3] else if k=6 then [1,1] else if k=7 then [2,2]
 else if 8<=k/\k<=12 then [1,1,1] else if k=15\/k=16 then [1,1,2] else if k=17\/k=18 then [2,2,2]
 else if k=22\/k=23 then [4] else if k=24 then [3,4]
 else if k=20 then (if n=1\/n=2 then [3,3,2] else if n=3 then [3,3,1] else if n=10 then [3,3] else [3,1])
 else if k=21 then (if n=1\/n=2 then [4,2,2] else if n=3 then [4,2,1] else [4,1,1])
 else []
def ruleT (k n:Int)(len:Nat)(done:List Int):Int :=
 if k=13\/k=14 then (match done with | []=>0 | [a]=>a|_=>2)
 else if k=19 then (match done with | []=>2 | [_]=>0|_::b::_=>b)
 else if k=25 then (if done.length<len then 3 else 4)
 else (fixL k n)[done.length]?.getD 0
def mustT (m:Int)(a:Int)(r:Sum (Nat × Int) Int):Sum (Nat × Int) Int :=
 match r with
 | .inl e=>.inl e
 | .inr is=>if m≠0/\is≠m then .inl (131,a) else .inr is
def chkFs:Fs->Int->Int->List UInt8->Nat->List (List UInt8)->Nat->List Int->Sum (Nat × Int) (List Int)
 | ⟨none⟩,_,_,_,_,_,_,done=>.inr done
 | ⟨some ⟨kk,kn,km,ka,kks,kr⟩⟩,k,n,nm,len,bound,i,done =>
  match mustT (ruleT k n len done) ka (if kk=4/\¬km ∈ (if k=21/\i≠0 then bound++[nm] else bound) then .inl (130,ka) else
   match chkFs kks kk kn km kks.len (if k=21/\i≠0 then bound++[nm] else bound) 0 [] with
   | .inl e=>.inl e
   | .inr d=>.inr (ruleT kk kn kks.len d)) with
  | .inl e=>.inl e
  | .inr is=>chkFs kr k n nm len bound (i+1) (done++[is])
def chkE (e:Ex)(bound:List (List UInt8)):Sum (Nat × Int) Int :=
 if e.k=4/\¬e.nm ∈ bound then .inl (130,e.a) else
  match chkFs e.kids e.k e.n e.nm e.kids.len bound 0 [] with
  | .inl x=>.inl x
  | .inr d=>.inr (ruleT e.k e.n e.kids.len d)
theorem chk_ex (x:Ex)(r:Fs)(k n:Int)(nm:List UInt8)(len:Nat)(bound:List (List UInt8))(i:Nat)(done:List Int) :
  chkFs (.cons x.k x.n x.nm x.a x.kids r) k n nm len bound i done=(match mustT (ruleT k n len done) x.a (chkE x (if k=21/\i≠0 then bound++[nm] else bound)) with
   | .inl e=>.inl e
   | .inr is=>chkFs r k n nm len bound (i+1) (done++[is])):=rfl
def typA (e:Ex):Int × Nat × Int :=
 match writA e with
 | none=>(0,122,0)
 | some _ =>
  match chkE e [] with
  | .inl (er,a)=>(0,er,a)
  | .inr k=>(k,0,0)
theorem chkFs_er:∀ (f:Fs) (k n:Int) (nm:List UInt8) (len:Nat) (bound:List (List UInt8)) (i:Nat) (done:List Int) (er:Nat) (a:Int),chkFs f k n nm len bound i done=.inl (er,a)->er=130\/er=131
 | ⟨none⟩,k,n,nm,len,bound,i,done,er,a,h=>by simp only[chkFs] at h;cases h
 | ⟨some ⟨kk,kn,km,ka,kks,kr⟩⟩,k,n,nm,len,bound,i,done,er,a,h=>by
  simp only[chkFs] at h;by_cases hv:kk=4/\¬km ∈ (if k=21/\i≠0 then bound++[nm] else bound)
  ·rw[if_pos hv] at h;simp only[mustT,Sum.inl.injEq,Prod.mk.injEq] at h;omega
  ·rw[if_neg hv] at h;cases hc:chkFs kks kk kn km kks.len (if k=21/\i≠0 then bound++[nm] else bound) 0 [] with
   | inl x =>
    obtain⟨er2,a2⟩:=x;rw[hc] at h;simp only[mustT,Sum.inl.injEq,Prod.mk.injEq] at h
    have:=chkFs_er kks _ _ _ _ _ _ _ er2 a2 hc
    omega
   | inr d =>
    rw[hc] at h;simp only[mustT] at h;by_cases hm:ruleT k n len done≠0/\ruleT kk kn kks.len d≠ruleT k n len done
    ·rw[if_pos hm] at h;simp only[Sum.inl.injEq,Prod.mk.injEq] at h;omega
    ·rw[if_neg hm] at h;exact chkFs_er kr _ _ _ _ _ _ _ er a h
theorem chkE_er {e:Ex}{bound:List (List UInt8)}{er:Nat}{a:Int}(h:chkE e bound=.inl (er,a)):er=130\/er=131:=by
 unfold chkE at h;by_cases hv:e.k=4/\¬e.nm ∈ bound
 ·rw[if_pos hv] at h;simp only[Sum.inl.injEq,Prod.mk.injEq] at h;omega
 ·rw[if_neg hv] at h;cases hc:chkFs e.kids e.k e.n e.nm e.kids.len bound 0 [] with
  | inl x =>
   obtain⟨er2,a2⟩:=x;rw[hc] at h;simp only[Sum.inl.injEq,Prod.mk.injEq] at h
   have:=chkFs_er _ _ _ _ _ _ _ _ er2 a2 hc
   omega
  | inr d=>rw[hc] at h;cases h
def endT (k n:Int)(len:Nat):Sum (Nat × Int) (List Int)->Sum (Nat × Int) Int
 | .inl x=>.inl x
 | .inr d=>.inr (ruleT k n len d)
theorem chkE_kids (e:Ex)(b:List (List UInt8))(h:e.k≠4):chkE e b=endT e.k e.n e.kids.len (chkFs e.kids e.k e.n e.nm e.kids.len b 0 []):=by
 unfold chkE;rw[if_neg (fun h2=>h h2.1)];cases chkFs e.kids e.k e.n e.nm e.kids.len b 0 []<;>rfl
def okR (k n:Int)(len:Nat):Prop :=
 (k=13\/k=14\/k=19\/k=25)\/(k=20/\(1<=n/\n<=10)/\(fixL 20 n).length=len+1)\/(k=21/\(1<=n/\n<=6)/\(fixL 21 n).length=len+1)
  \/ ((1<=k/\k<=24/\k≠5/\k≠20/\k≠21/\k≠13/\k≠14/\k≠19)/\(fixL k 0).length=len+1)
theorem callT_rng (n:Int):(callOf n).isSome=decide (1<=n/\n<=10):=by
 by_cases h:1<=n/\n<=10
 ·have h2:n=1\/n=2\/n=3\/n=4\/n=5\/n=6\/n=7\/n=8\/n=9\/n=10:=by omega
  rcases h2 with rfl|rfl|rfl|rfl|rfl|rfl|rfl|rfl|rfl|rfl<;>rfl
 ·rw[decide_eq_false h];cases hc:callOf n with
  | none=>rfl
  | some x =>
   have h1:=List.find?_some hc;have h2:=List.mem_of_find?_eq_some hc;simp only[callsL,List.mem_cons,List.not_mem_nil,or_false] at h2;simp only[beq_iff_eq] at h1;exfalso;rcases h2 with rfl|rfl|rfl|rfl|rfl|rfl|rfl|rfl|rfl|rfl<;>simp only at h1<;>omega
theorem quantT_rng (n:Int):(quantOf n).isSome=decide (1<=n/\n<=6):=by
 by_cases h:1<=n/\n<=6
 ·have h2:n=1\/n=2\/n=3\/n=4\/n=5\/n=6:=by omega
  rcases h2 with rfl|rfl|rfl|rfl|rfl|rfl<;>rfl
 ·rw[decide_eq_false h];cases hc:quantOf n with
  | none=>rfl
  | some x =>
   have h1:=List.find?_some hc;have h2:=List.mem_of_find?_eq_some hc;simp only[quantsL,List.mem_cons,List.not_mem_nil,or_false] at h2;simp only[beq_iff_eq] at h1;exfalso;rcases h2 with rfl|rfl|rfl|rfl|rfl|rfl<;>simp only at h1<;>omega
theorem opT_rng {k:Int}(h:(opOf k).isSome=true):8<=k/\k<=18:=by
 cases hc:opOf k with
 | none=>rw[hc] at h;cases h
 | some x =>
  have h1:=List.find?_some hc;have h2:=List.mem_of_find?_eq_some hc;simp only[opsL,List.mem_cons,List.not_mem_nil,or_false] at h2;simp only[beq_iff_eq] at h1;rcases h2 with rfl|rfl|rfl|rfl|rfl|rfl|rfl|rfl|rfl|rfl|rfl<;>simp only at h1<;>omega
theorem okR_of {k n:Int}{nm:List UInt8}{m:Nat}(h:okP k n nm m):okR k n m:=by
 obtain⟨h1,-,h2,-,-,-⟩:=h;unfold kidB at h2;unfold numB at h1;by_cases a0:k=1\/k=2\/k=3\/k=4\/k=22\/k=23
 ·have e1:(k==1||k==2||k==3||k==4||k==22||k==23)=true:=by rcases a0 with rfl|rfl|rfl|rfl|rfl|rfl<;>rfl
  rw[e1,if_pos rfl] at h2
  have:m=0:=by simpa using h2
  subst this;refine .inr (.inr (.inr ⟨by omega,?_⟩));rcases a0 with rfl|rfl|rfl|rfl|rfl|rfl<;>rfl
 by_cases a1:k=6\/k=7\/k=24
 ·have:m=1:=by rcases a1 with rfl|rfl|rfl<;>(simp at h2;omega)
  subst this;refine .inr (.inr (.inr ⟨by omega,?_⟩));rcases a1 with rfl|rfl|rfl<;>rfl
 by_cases a2:k=21
 ·subst a2;have hm:m=2:=by simp at h2;omega
  have hn:(quantOf n).isSome=true:=by simpa using h1
  rw[quantT_rng] at hn;have hn2:=of_decide_eq_true hn;subst hm;refine .inr (.inr (.inl ⟨rfl,hn2,?_⟩));have h3:n=1\/n=2\/n=3\/n=4\/n=5\/n=6:=by omega
  rcases h3 with rfl|rfl|rfl|rfl|rfl|rfl<;>rfl
 by_cases a3:k=19
 ·exact .inl (by omega)
 by_cases a4:k=20
 ·subst a4;have hn:(callOf n).isSome=true:=by simpa using h1
  rw[callT_rng] at hn;have hn2:=of_decide_eq_true hn;refine .inr (.inl ⟨rfl,hn2,?_⟩);have h3:n=1\/n=2\/n=3\/n=4\/n=5\/n=6\/n=7\/n=8\/n=9\/n=10:=by omega
  rcases h3 with rfl|rfl|rfl|rfl|rfl|rfl|rfl|rfl|rfl|rfl <;>
   (simp[callOf,callsL] at h2;simp[fixL];omega)
 by_cases a5:k=25
 ·exact .inl (by omega)
 have e1:(k==1||k==2||k==3||k==4||k==22||k==23)=false:=by simp;omega
 have e2:(k==6||k==7||k==24)=false:=by simp;omega
 have e3:(k==21)=false:=by simpa using a2
 have e4:(k==19)=false:=by simpa using a3
 have e5:(k==20)=false:=by simpa using a4
 have e6:(k==25)=false:=by simpa using a5
 rw[e1,e2,e3,e4,e5,e6] at h2;simp only[Bool.false_eq_true,if_false,Bool.and_eq_true,beq_iff_eq] at h2;have hr:=opT_rng h2.1;have hm:m=2:=by omega
 subst hm;by_cases a6:k=13\/k=14
 ·exact .inl (by omega)
 refine .inr (.inr (.inr ⟨by omega,?_⟩));have h3:k=8\/k=9\/k=10\/k=11\/k=12\/k=15\/k=16\/k=17\/k=18:=by omega
 rcases h3 with rfl|rfl|rfl|rfl|rfl|rfl|rfl|rfl|rfl<;>rfl
theorem okR_kind {k n:Int}{m:Nat}(h:okR k n m):1<=k/\k<=25/\k≠5:=by
 unfold okR at h;omega
theorem below_stepT {I:Nat->Prop}{n0:Nat}{a w w':World}{o o':Nat->Nat}(b:Below n0 a w)(s:Step I w o w' o')(h:∀ k,k<n0->¬I (o k))(hn:n0<=a.heap.size):Below n0 a w' :=
 ⟨s.os.trans b.os,s.tape.trans b.tape,s.output.trans b.output,Nat.le_trans b.size s.size,fun k hk=>(s.block k (by have:=b.size;omega) (h k hk)).trans (b.block k hk)⟩
abbrev I1n:Nat->Prop:=fun k=>k=1
theorem Nms.ofRow {w:World}{o:Nat->Nat}{g cap:Nat}{b:List (List UInt8)}{n:Nat}(h:Row w o 1 9 1 (.slice (some ⟨g,0,none⟩) n cap) n (b.map fun x=>stv x))(hn:b.length=n)(h0:0<n):Nms w (.slice (some ⟨g,0,none⟩) n cap) b:=by
 subst hn;obtain⟨g',cap',e1,_,h2,_,h4,h5,_⟩:=h.pos h0;injection e1 with e1 e2 e3
 injection e1 with e1
 injection e1 with e1
 subst e1;subst e3;refine⟨_,_,rfl,h2,.inr ⟨g,rfl,h4,h0,fun j t hj=>?_⟩⟩;have hj2:j<b.length:=(List.getElem?_eq_some_iff.1 hj).1;rw[h5 j (by omega),List.getElem?_map,hj];rfl
theorem run_append_zero {P:Program}(w:World)(t ty e:TypeId)(i:TypeInfo)(ht:P.underlying t=some (.slice e))(hi:P.info? e=some i)(ao:Option Addr)(n cap:Nat)(x:Option Addr)(c:Nat)(hnc:n<=cap) :
  (Builtin.append_ #[t,t] ty #[.slice ao n cap,.slice x 0 c]).run P w=.ok (.slice ao n cap) w:=by
 have hl:∀ a:Addr,(loadCells a 0).run P w=.ok #[] w:=fun a=>by simp[loadCells,loadCellsFrom]
 cases x<;>cases ao<;>simp[Builtin.append_,run_underlying ht,sizeOf,typeInfo,hi,Builtin.lenOf,Builtin.firstCells,hnc,storeCells,hl]
theorem wpList_append_zero {P:Program}{w:World}{ops:Array Oper}{rest:List Oper}{op:Oper}{a:Act}{Q:Exit->Act->World->Prop}(hgd:op.guard=none)(s x:Operand)(t:TypeId)
  (ho:op.op=.call { callee:=.builtin .append,args:=#[s,x],argTypes:=#[t,t] }) (e:TypeId) (i:TypeInfo) (ht:P.underlying t=some (.slice e)) (hi:P.info? e=some i)
  (ao:Option Addr) (n cap:Nat) (y:Option Addr) (c:Nat) (hs:a.eval s=.slice ao n cap) (hx:a.eval x=.slice y 0 c) (hnc:n<=cap) (h:wpList P ops Q rest (a.put op.dst (.slice ao n cap)) w):wpList P ops Q (op::rest) a w:=by
 refine wpList_plain hgd fun _ hK=>?_;have hr:=run_append_zero (P:=P) w t op.type e i ht hi ao n cap y c hnc;unfold Oper.wp execOp;simp only[ho,resolve,invoke,builtin,Sem.run_bind,Sem.run_pure,Result.andThen_ok,List.map_toArray,List.map_cons,List.map_nil,hs,hx,hr];exact hK _ _ h
theorem Row.cap {w:World}{o:Nat->Nat}{i:Nat}{e:TypeId}{size:Nat}{n m cap:Nat}{ao:Option Addr}{xs:List Value}(h:Row w o i e size (.slice ao m cap) n xs):m=n/\n<=cap/\cap<=maxLen:=by
 rcases h.1.2 with ⟨hh,hk0⟩|⟨gx,cx,_,hh,_,_,hle,hm,_⟩
 ·simp only[Value.slice.injEq] at hh;obtain⟨_,rfl,rfl⟩:=hh;exact⟨hk0.symm,by omega,by unfold maxLen;omega⟩
 ·simp only[Value.slice.injEq] at hh;obtain⟨_,rfl,rfl⟩:=hh;exact⟨rfl,hle,hm⟩
theorem wpList_append_any {P:Program}{w:World}{ops:Array Oper}{rest:List Oper}{op:Oper}{a:Act}{Q:Exit->Act->World->Prop}(hgd:op.guard=none)(s x:Operand)(t:TypeId)
  (ho:op.op=.call { callee:=.builtin .append,args:=#[s,x],argTypes:=#[t,t] })
  (e:TypeId) (i:TypeInfo) (z:Value) (size bytes:Nat) (ht:P.underlying t=some (.slice e)) (hi:P.info? e=some i) (hz:i.zero=some z)
  (hsize:i.size=size) (hby:i.bytes=bytes) (hzs:z.cells.size=size) (hsz:0<size)
  (o:Nat->Nat) (lb:Nat) (v:Value) (n:Nat) (xs:List Value) (hs:a.eval s=v) (hrow:Row w o lb e size v n xs)
  (y:Option Addr) (m c:Nat) (news:List Value) (hx:a.eval x=.slice y m c) (hl:news.length=m*size) (hnews:0<m->∃ad,y=some ad/\∀ j u,news[j]?=some u->w.cell? (ad.add j)=some u) (h1:∀ u ∈ news,u.oneCell'=true)
  (h63:n+m<=maxLen) (hbytes:(n+m)*bytes<=140737488355328)
  (h:∀ ao cap w' o',Row w' o' lb e size (.slice ao (n+m) cap) (n+m) (xs++news)->Step (fun k=>k=lb) w o w' o'->wpList P ops Q rest (a.put op.dst (.slice ao (n+m) cap)) w'):wpList P ops Q (op::rest) a w:=by
 by_cases hm:0<m
 ·obtain⟨ad,rfl,hn⟩:=hnews hm;exact wpList_append_lab hgd s x t ho e i z size bytes ht hi hz hsize hby hzs hsz o lb v n xs hs hrow ad m c news hx hl hn h1 hm h63 hbytes fun g cap w' o' r st=>h _ _ _ _ r st
 ·obtain rfl:m=0:=by omega
  obtain⟨ao,cap,rfl⟩:=hrow.form;have hnil:news=[]:=List.eq_nil_of_length_eq_zero (by omega);subst hnil;refine wpList_append_zero hgd s x t ho e i ht hi ao n cap y c hs hx hrow.cap.2.1 ?_
  have:=h ao cap w o (by rw[List.append_nil];exact hrow) (Step.refl _ _ _)
  exact this
end Go.Proofs.YtnfmpocfakblmaaGreatDoor

import Derived.Test.YtaihhnlfcndecaaGreatDoorSimN
set_option maxRecDepth 100000
set_option maxHeartbeats 8000000
namespace Go.Proofs.YtaihhnlfcndecaaGreatDoor
set_option linter.unusedVariables false
theorem lexL_thenG (k:Nat)(t:List UInt8)(a p:Nat)(l:List UInt8)(ts:List Tk)(c:UInt8)(m:List UInt8)(hb:∀ k t,k≠0->tks k t c.toNat=false)(h:lexL k t a p l=.inr ts) :
  ∃us,ts=us++[⟨0,0,[],p+l.length⟩]/\lexL k t a p (l++c::m)=preR us (lexL 0 [] (p+l.length) (p+l.length) (c::m)):=by
 induction l generalizing k t a p ts with
 | nil =>
  rcases shut_inr h with ⟨rfl,h1⟩|⟨hk,x,us,hp,h1,h2⟩
  ·injection h1 with h1
   exact⟨[],h1.symm,lexL_blank _ _ _ _ _ _⟩
  ·injection h1 with h1
   subst h1;refine⟨[x],h2,?_⟩;simp only[List.nil_append,List.length_nil,Nat.add_zero];rw[lexL_shut (hb k t hk)];unfold shutP;rw[if_neg hk,hp];rfl
 | cons d r ih =>
  have e1:p+(d::r).length=p+1+r.length:=by simp;omega
  rw[e1];cases ht:tks k t d.toNat
  ·rw[lexL_no ht] at h;rw[List.cons_append,lexL_no ht];rcases shut_inr h with ⟨rfl,h1⟩|⟨hk,x,us,hp,h1,h2⟩
   ·obtain⟨vs,h3,h4⟩:=ih _ _ _ _ _ h1;refine⟨vs,h3,?_⟩;rw[h4];rfl
   ·obtain⟨vs,h3,h4⟩:=ih _ _ _ _ _ h1;refine⟨x::vs,by rw[h2,h3];rfl,?_⟩;rw[h4];unfold shutP;rw[if_neg hk,hp];rfl
  ·rw[lexL_yes ht] at h;rw[List.cons_append,lexL_yes ht];exact ih _ _ _ _ _ h
theorem par_tks (c:UInt8)(hc:c=40\/c=41)(k:Nat)(t:List UInt8)(hk:k≠0):tks k t c.toNat=false:=by
 unfold tks;split
 ·exact absurd rfl hk
 ·rcases hc with rfl|rfl<;>rfl
 ·rcases hc with rfl|rfl<;>rfl
 ·rcases hc with rfl|rfl<;>rfl
 ·rfl
theorem ptok_kind {k:Nat}{t:List UInt8}{a:Nat}{x:Tk}(h:ptok k t a=.inr x):x.k≠0:=by
 unfold ptok at h;split at h
 ·unfold wrdT at h
  repeat' split at h
  all_goals first|(injection h with h;subst h;simp)|cases h
 ·unfold numT at h
  repeat' split at h
  all_goals first|(injection h with h;subst h;simp)|cases h
 ·unfold sgnT at h;split at h
  all_goals first|(injection h with h;subst h;simp)|cases h
 ·cases h
theorem lex_last (k:Nat)(t:List UInt8)(a p:Nat)(l:List UInt8)(us:List Tk)(e:Tk)(h:lexL k t a p l=.inr (us++[e])):∀ x,x ∈ us->x.k≠0:=by
 induction l generalizing k t a p us with
 | nil =>
  unfold lexL at h;rcases shut_inr h with ⟨_,h2⟩|⟨_,x,vs,hp,h2,h3⟩
  ·unfold endR at h2;injection h2 with h2
   have:us=[]:=by
    have:=congrArg List.length h2
    simp at this;exact this
   subst this;intro x hx;cases hx
  ·unfold endR at h2;injection h2 with h2
   subst h2
   have:us=[x]:=by
    have h4:us++[e]=[x]++[⟨0,0,[],p⟩]:=h3;exact List.append_inj_left' h4 rfl
   subst this;intro y hy;simp at hy;rw[hy];exact ptok_kind hp
 | cons c r ih =>
  unfold lexL at h;split at h
  ·exact ih _ _ _ _ _ h
  ·rcases shut_inr h with ⟨_,h2⟩|⟨_,x,vs,hp,h2,h3⟩
   ·exact ih _ _ _ _ _ h2
   ·cases us with
    | nil=>intro y hy;cases hy
    | cons z us =>
     rw[List.cons_append] at h3;injection h3 with h4 h5
     subst h4 h5;intro y hy;rcases List.mem_cons.1 hy with rfl|hy
     ·exact ptok_kind hp
     ·exact ih _ _ _ _ _ h2 y hy
theorem parse_text {s:List UInt8}{x:Ex}{t:List Tk}(h:parseA s=.ok x t):∃us E,s.length<=2000/\lexA s=.inr (us++[E])/\E=⟨0,0,[],s.length⟩/\us.length<=s.length/\(∀ y,y ∈ us->y.k≠0)/\partF 30000 1 0 0 (us++[E])=.ok x [E]:=by
 unfold parseA at h;cases hs:scanA s with
 | inl z=>obtain⟨e,p⟩:=z;rw[hs] at h;cases h
 | inr ts =>
  rw[hs] at h;have h:readF 30000 ts=.ok x t:=h;have hk:=scan_ok hs;obtain⟨us,h1,_⟩:=lexL_thenG 0 [] 0 0 s ts 41 [] (par_tks 41 (.inr rfl)) hk.2.1;rw[Nat.zero_add] at h1;subst h1;have hl:=lex_last _ _ _ _ _ _ _ hk.2.1;refine⟨us,_,hk.1,hk.2.1,rfl,by have:=hk.2.2.2.1;simp at this;exact this,hl,?_⟩;unfold readF at h;cases hp:partF 30000 1 0 0 (us++[⟨0,0,[],s.length⟩]) using Rs.on with
  | out=>rw[hp] at h;cases h
  | bad e a=>rw[hp] at h;cases h
  | ok y t0 =>
   rw[hp] at h;have hsf:=lq_part 30000 1 0 0 _ _ (List.suffix_refl _) y t0 hp;cases t0 with
   | nil=>cases h
   | cons z r =>
    simp only[Rs.bind] at h;by_cases hz:z.k=0
    ·rw[if_pos hz] at h;obtain⟨h1,h2⟩:=Rs.ok_inj h;subst h1;obtain⟨pre,hpre⟩:=hsf;cases r with
     | nil =>
      have h3:pre++[z]=us++[⟨0,0,[],s.length⟩]:=hpre;have h4:=List.append_inj_right' h3 rfl;rw[h4]
     | cons z2 r =>
      exfalso;have h5:z ∈ us:=by
       have h6:pre++z::(z2::r)=us++[⟨0,0,[],s.length⟩]:=hpre;have h7:(pre++z::(z2::r)).dropLast=us:=by rw[h6];simp
       rw[<-h7]
       have:pre++z::(z2::r)=(pre++[z])++(z2::r):=by simp
       rw[this,List.dropLast_append_cons];simp
      exact hl z h5 hz
    ·rw[if_neg hz] at h;cases h
open Go.ChangeShapes Go.WideShapes Go.ChangeAt Go.RowKit
set_option linter.unusedSimpArgs false
def LFn (w:World)(P:Nat->Prop):Fs->List Value->Prop
 | ⟨none⟩,xs=>xs=[]
 | ⟨some ⟨k,n,nm,a,ks,r⟩⟩,xs=>∃b cap zs ys,xs=.int .i64 k::.int .i64 n::stv nm::.slice (some ⟨b,0,none⟩) ks.len cap::ys /\
   (P b/\b<w.heap.size/\ks.len+1<=cap/\cap<=maxLen/\(∀ j u,zs[j]?=some u->w.cell? ⟨b,0+j,none⟩=some u)/\w.cell? ⟨b,ks.len*4,none⟩=some (.int .i64 (-7))/\LFn w P ks zs)/\LFn w P r ys
def Spn (w:World)(P:Nat->Prop)(f:Fs)(b cap:Nat):Prop :=
 ∃zs,P b/\b<w.heap.size/\f.len+1<=cap/\cap<=maxLen/\(∀ j u,zs[j]?=some u->w.cell? ⟨b,0+j,none⟩=some u)/\w.cell? ⟨b,f.len*4,none⟩=some (.int .i64 (-7))/\LFn w P f zs
theorem LFn.len {w:World}{P:Nat->Prop}:∀ {f:Fs}{xs:List Value},LFn w P f xs->xs.length=f.len*4
 | ⟨none⟩,xs,h=>by
  have h:xs=[]:=h;subst h;rfl
 | ⟨some ⟨k,n,nm,a,ks,r⟩⟩,xs,h=>by
  obtain⟨b,cap,zs,ys,rfl,_,h2⟩:=h
  have:=LFn.len h2
  simp only[List.length_cons,Fs.len];omega
theorem LFn.mono {w w':World}{P Q:Nat->Prop}(hb:∀ k,P k->k<w.heap.size->w'.heap[k]?=w.heap[k]?)(hs:w.heap.size<=w'.heap.size)(hq:∀ k,P k->k<w.heap.size->Q k):∀ {f:Fs}{xs:List Value},LFn w P f xs->LFn w' Q f xs
 | ⟨none⟩,xs,h=>h
 | ⟨some ⟨k,n,nm,a,ks,r⟩⟩,xs,h=>by
  obtain⟨b,cap,zs,ys,rfl,⟨hp,hlt,h1,h2,hc,h7,h3⟩,h4⟩:=h;exact⟨b,cap,zs,ys,rfl,⟨hq b hp hlt,Nat.lt_of_lt_of_le hlt hs,h1,h2,fun j u hu=>(World.cell?_of_block (a:=⟨b,0+j,none⟩) (hb b hp hlt)).trans (hc j u hu),(World.cell?_of_block (a:=⟨b,ks.len*4,none⟩) (hb b hp hlt)).trans h7,LFn.mono hb hs hq h3⟩,LFn.mono hb hs hq h4⟩
theorem Spn.mono {w w':World}{P Q:Nat->Prop}{f:Fs}{b cap:Nat}(hb:∀ k,P k->k<w.heap.size->w'.heap[k]?=w.heap[k]?)(hs:w.heap.size<=w'.heap.size)(hq:∀ k,P k->k<w.heap.size->Q k)(h:Spn w P f b cap):Spn w' Q f b cap:=by
 obtain⟨zs,hp,hlt,h1,h2,hc,h7,h3⟩:=h;exact⟨zs,hq b hp hlt,Nat.lt_of_lt_of_le hlt hs,h1,h2,fun j u hu=>(World.cell?_of_block (a:=⟨b,0+j,none⟩) (hb b hp hlt)).trans (hc j u hu),(World.cell?_of_block (a:=⟨b,f.len*4,none⟩) (hb b hp hlt)).trans h7,h3.mono hb hs hq⟩
theorem LFn.fc {w:World}{P:Nat->Prop}:∀ {f:Fs}{xs:List Value},LFn w P f xs->FcN w P f xs
 | ⟨none⟩,xs,h=>h
 | ⟨some ⟨k,n,nm,a,ks,r⟩⟩,xs,h=>by
  obtain⟨b,cap,zs,ys,rfl,⟨hp,hlt,h1,h2,hc,h7,h3⟩,h4⟩:=h;exact⟨some ⟨b,0,none⟩,cap,ys,rfl,.inr ⟨b,0,zs,rfl,hp,hlt,hc,h3.fc⟩,h4.fc⟩
theorem Spn.sl {w:World}{P:Nat->Prop}{f:Fs}{b cap:Nat}(h:Spn w P f b cap):SnA w f (some ⟨b,0,none⟩):=by
 obtain⟨zs,hp,hlt,h1,h2,hc,h7,h3⟩:=h;exact(show SlN w P f (some ⟨b,0,none⟩) from .inr ⟨b,0,zs,rfl,hp,hlt,hc,h3.fc⟩).all
theorem LFn.app {w:World}{P:Nat->Prop}:∀ {f g:Fs}{xs ys:List Value},LFn w P f xs->LFn w P g ys->LFn w P (f.app g) (xs++ys)
 | ⟨none⟩,g,xs,ys,h,k=>by
  have h:xs=[]:=h;subst h;exact k
 | ⟨some ⟨i,n,nm,a,ks,r⟩⟩,g,xs,ys,h,k=>by
  obtain⟨b,cap,zs,us,rfl,h1,h2⟩:=h;exact⟨b,cap,zs,us++ys,rfl,h1,LFn.app h2 k⟩
theorem LFn.one {w:World}{P:Nat->Prop}{e:Ex}{b cap:Nat}(h:Spn w P e.kids b cap):LFn w P (one e) [.int .i64 e.k,.int .i64 e.n,stv e.nm,.slice (some ⟨b,0,none⟩) e.kids.len cap]:=by
 obtain⟨zs,h⟩:=h;exact⟨b,cap,zs,[],rfl,h,rfl⟩
theorem LFn.lab {I:Nat->Prop}{w w':World}{o o':Nat->Nat}{n0:Nat}{f:Fs}{xs:List Value}(h:LFn w (N0 n0 o) f xs)(s:Step I w o w' o')(h0:¬I 0):LFn w' (N0 n0 o') f xs :=
 h.mono (fun i hp hl=>s.block i hl (by rw[hp.2];exact h0)) s.size (fun i hp hl=>⟨hp.1,(s.lab i hl).trans hp.2⟩)
theorem Spn.lab {I:Nat->Prop}{w w':World}{o o':Nat->Nat}{n0 b cap:Nat}{f:Fs}(h:Spn w (N0 n0 o) f b cap)(s:Step I w o w' o')(h0:¬I 0):Spn w' (N0 n0 o') f b cap :=
 h.mono (fun i hp hl=>s.block i hl (by rw[hp.2];exact h0)) s.size (fun i hp hl=>⟨hp.1,(s.lab i hl).trans hp.2⟩)
def AccTn (w:World)(o:Nat->Nat)(n0:Nat)(acc:Fs)(v:Value):Prop:=∃xs,Row w o 2 34 4 v acc.len xs/\LFn w (N0 n0 o) acc xs
theorem AccTn.step {I:Nat->Prop}{w w':World}{o o':Nat->Nat}{n0:Nat}{acc:Fs}{v:Value}(h:AccTn w o n0 acc v)(s:Step I w o w' o')(h0:¬I 0)(h2:¬I 2):AccTn w' o' n0 acc v:=by
 obtain⟨xs,r,f⟩:=h;exact⟨xs,r.step s h2,f.lab s h0⟩
theorem AccTn.push {w w2:World}{o o2:Nat->Nat}{n0 b ce:Nat}{acc:Fs}{xs:List Value}{v2:Value}{y:Ex}(f:LFn w (N0 n0 o) acc xs)(S:Spn w (N0 n0 o) y.kids b ce)(s:Step (fun x=>x=2) w o w2 o2)
  (r:Row w2 o2 2 34 4 v2 (acc.len+1) (xs++[.int .i64 y.k,.int .i64 y.n,stv y.nm,.slice (some ⟨b,0,none⟩) y.kids.len ce])):AccTn w2 o2 n0 (acc.snoc y) v2 :=
 ⟨_,by rw[Fs.len_snoc];exact r,(f.lab s (by decide)).app (LFn.one (S.lab s (by decide)))⟩
theorem AccTn.last {w w2:World}{o o2:Nat->Nat}{n0 g cap:Nat}{acc:Fs}{xs:List Value}(f:LFn w (N0 n0 o) acc xs)(s:Step (fun x=>x=2) w o w2 o2)(ho:∀ k,k<n0->o2 k=0)
  (r:Row w2 o2 2 34 4 (.slice (some ⟨g,0,none⟩) (acc.len+1) cap) (acc.len+1) (xs++[.int .i64 (-7),.int .i64 0,.string ⟨#[]⟩,.slice none 0 0])) :
  Spn w2 (fun b=>n0<=b/\(o2 b=0\/o2 b=2)) acc g cap/\acc.len+1<=cap:=by
 obtain⟨g',cap',hv,hg,hc1,hc2,hlt,hc,_⟩:=r.pos (by omega);simp only[Value.slice.injEq,Option.some.injEq,Addr.mk.injEq,true_and,and_true] at hv;obtain⟨rfl,rfl⟩:=hv;have hl:=f.len;have f2:=f.lab s (by decide);refine⟨⟨xs,⟨?_,.inr hg⟩,hlt,hc1,hc2,fun j u hu=>?_,?_,f2.mono (fun _ _ _=>rfl) (Nat.le_refl _) (fun _ hp _=>⟨hp.1,.inl hp.2⟩)⟩,hc1⟩
 ·by_cases hn:n0<=g
  ·exact hn
  ·have:=ho g (by omega)
   omega
 ·have hj:j<xs.length:=by
   by_cases hj:j<xs.length
   ·exact hj
   ·rw[List.getElem?_eq_none (by omega)] at hu;cases hu
  rw[Nat.zero_add,hc j (by omega),List.getElem?_append_left hj];exact hu
 ·rw[hc (acc.len*4) (by omega),List.getElem?_append_right (by omega),hl,Nat.sub_self];rfl
theorem heap_set4 (w:World)(b k:Nat)(b0 b1 b2 b3:Value)(h:k≠b):((((w.setCell ⟨b,0,none⟩ b0).setCell ⟨b,1,none⟩ b1).setCell ⟨b,2,none⟩ b2).setCell ⟨b,3,none⟩ b3).heap[k]?=w.heap[k]? :=
 (heap_setCell_other _ ⟨b,3,none⟩ k _ h).trans ((heap_setCell_other _ ⟨b,2,none⟩ k _ h).trans ((heap_setCell_other _ ⟨b,1,none⟩ k _ h).trans (heap_setCell_other _ ⟨b,0,none⟩ k _ h)))
def PostLn (w:World)(e:Ex)(x:Ending)(w':World):Prop:=∃b cap,x=.returned (exN e (some ⟨b,0,none⟩) cap)/\Spn w' (Nw w.heap.size) e.kids b cap/\Below w.heap.size w w'
def LentNOk (N:Nat):Prop:=∀ (e:Ex) (ao:Option Addr) (cap:Nat) (w:World),e.kids.size<N->e.kids.len<=1000000000->e.kids.short->SnA w e.kids ao ->
 Calls Tryz.prog 38 #[exN e ao cap] w (PostLn w e)
theorem lentn_step {N:Nat}(IH:LentNOk N):LentNOk (N+1):=by
 intro e ao cap w hN hlen hsh S;obtain⟨ii,hii,hzi0,hzi1,hzi2⟩:=info_parts infoNode;obtain⟨w0,hw0⟩:∃w0,w0=((w.alloc (.cells #[.int .i64 e.k,.int .i64 e.n,stv e.nm,.slice ao e.kids.len cap] 34)).alloc (.cells #[.int .i64 0,.int .i64 0,.string ⟨#[]⟩,.slice none 0 0] 34)).alloc (.cells #[.int .i64 e.k,.int .i64 e.n,stv e.nm,.slice none 0 0] 34):=⟨_,rfl⟩
 have B0:Below w.heap.size w w0:=by rw[hw0];exact(((Below.refl _ w).alloc (Nat.le_refl _) _).alloc (by simp) _).alloc (by simp;omega) _
 obtain⟨o0,ho0⟩:∃o0:Nat->Nat,o0=fun k=>if k=w.heap.size+1+1 then 1 else if k=w.heap.size+1 then 3 else 0:=⟨_,rfl⟩
 have E0:Blk w0 o0 0 w.heap.size (.cells #[.int .i64 e.k,.int .i64 e.n,stv e.nm,.slice ao e.kids.len cap] 34):=by
  refine⟨?_,by rw[ho0];simp only;rw[if_neg (by omega),if_neg (by omega)]⟩;rw[hw0];exact(Below.heap_alloc _ _ _ (by simp;omega)).trans ((Below.heap_alloc _ _ _ (by simp)).trans (heap_alloc_new w _))
 have Z0:Blk w0 o0 3 (w.heap.size+1) (.cells #[.int .i64 0,.int .i64 0,.string ⟨#[]⟩,.slice none 0 0] 34):=by
  refine⟨?_,by rw[ho0];simp⟩;rw[hw0];refine(Below.heap_alloc _ _ _ (by simp)).trans ?_
  have:=heap_alloc_new (w.alloc (.cells #[.int .i64 e.k,.int .i64 e.n,stv e.nm,.slice ao e.kids.len cap] 34)) (.cells #[.int .i64 0,.int .i64 0,.string ⟨#[]⟩,.slice none 0 0] 34)
  simpa using this
 have O0:Blk w0 o0 1 (w.heap.size+1+1) (.cells #[.int .i64 e.k,.int .i64 e.n,stv e.nm,.slice none 0 0] 34):=by
  refine⟨?_,by rw[ho0];simp⟩;rw[hw0]
  have:=heap_alloc_new ((w.alloc (.cells #[.int .i64 e.k,.int .i64 e.n,stv e.nm,.slice ao e.kids.len cap] 34)).alloc (.cells #[.int .i64 0,.int .i64 0,.string ⟨#[]⟩,.slice none 0 0] 34)) (.cells #[.int .i64 e.k,.int .i64 e.n,stv e.nm,.slice none 0 0] 34)
  simpa using this
 have L0:∀ k,k<w.heap.size->o0 k=0:=fun k hk=>by rw[ho0];simp only;rw[if_neg (by omega),if_neg (by omega)]
 have A0:AccTn w0 o0 w.heap.size .nil (.slice none 0 0):=⟨[],Row.nil _ _ _ _ _,rfl⟩
 rw[exN_out];go_enter Tryz.func38,Tryz.ntmps38;go_upto_region 2 with fail;rw[<-hw0];clear hw0 ho0;obtain⟨n0,hn0⟩:∃n0,n0=w.heap.size:=⟨_,rfl⟩
 unfold PostLn;rw[<-hn0] at E0 Z0 O0 L0 A0 B0 ⊢;have HB:Hid (n0=w.heap.size):=hn0;clear hn0;go_wp2;go_loopw [4] (fun v wr=>∃(done r:Fs) (o:Nat->Nat) (va:Value),Hid (e.kids=done.app r)/\v=.int .i64 (done.len:Nat)/\Blk wr o 0 n0 (.cells #[.int .i64 e.k,.int .i64 e.n,stv e.nm,.slice ao e.kids.len cap] 34)/\Blk wr o 3 (n0+1) (.cells #[.int .i64 0,.int .i64 0,.string ⟨#[]⟩,.slice none 0 0] 34)/\Blk wr o 1 (n0+1+1) (.cells #[.int .i64 e.k,.int .i64 e.n,stv e.nm,va] 34)/\AccTn wr o n0 done va/\Hid (∀ k,k<n0->o k=0)/\Below n0 w wr) (fun v _=>e.kids.len-(intOf v).toNat)
 case atStart=>exact⟨.nil,e.kids,o0,.slice none 0 0,rfl,by show _=Value.int .i64 ((0:Nat):Int);rfl,E0,Z0,O0,A0,L0,B0⟩
 case round =>
  clear E0 Z0 O0 A0 L0 B0;obtain⟨done,r,o,va,hk,rfl,E1,Z1,O1,A1,L1,B1⟩:=hrel;have hlk:e.kids.len=done.len+r.len:=by rw[hk.out,Fs.len_app]
  obtain⟨p0,p1,p2,p3,pf⟩:=box4 E1.1;cases r using Fs.on with
  | nil =>
   have hl0:¬(done.len:Int)<(e.kids.len:Int):=by simp only[Fs.len] at hlk;omega
   have hdn:e.kids=done:=by rw[hk.out];clear hk hlk hl0 A1;exact app_nil' done
   have HDN:=Lib.hid hdn;obtain⟨xs,R1,F1⟩:=A1;obtain⟨a8,c8,rfl⟩:=R1.form;have b1:done.len+1<=maxLen:=by unfold maxLen;omega
   have b2:(done.len+1)*56<=140737488355328:=by omega
   have hone:∀ u ∈ [Value.int .i64 (-7),.int .i64 0,.string ⟨#[]⟩,.slice none 0 0],u.oneCell'=true:=by intro u hu;simp at hu;rcases hu with rfl|rfl|rfl|rfl<;>rfl
   have hO:=O1.lt;clear hk hlk hdn;go_upto_region 7 with fail;go_cut [41] (fun v wx=>∃(o9:Nat->Nat) (g9 c9:Nat),Blk wx o9 1 (n0+1+1) (.cells #[.int .i64 e.k,.int .i64 e.n,stv e.nm,.slice (some ⟨g9,0,none⟩) done.len c9] 34 (0,0))/\Blk wx o9 3 (n0+1) (.cells #[.int .i64 0,.int .i64 0,.string ⟨#[]⟩,.slice none 0 0] 34 (0,0))/\Spn wx (fun b=>n0<=b/\(o9 b=0\/o9 b=2)) done g9 c9/\Below n0 w wx)
   case first =>
    obtain⟨t0,t1,t2,t3,tf⟩:=box4 O1.1;have sA:=(boxStep (fun _=>False) wr o (.cells #[.int .i64 (-7),.int .i64 0,.string ⟨#[]⟩,.slice none 0 0] 34)).drew;have LA:Hid (∀ k,k<n0->newLab wr o 0 k=0):=fun k hk=>by rw[newLab_old (by have:=E1.lt;omega)];exact L1.out k hk
    have RA:=R1.step sA id;have FA:=F1.lab sA id;have OA:=O1.step sA id;have ZA:=Z1.step sA id;have BA:=below_stepB B1 sA (fun _ _=>id) (by rw[HB.out];exact Nat.le_refl _);have hnI:(done.len:Int)<=(done.len:Int)+1:=by omega
    go_region_law (refine step_append_lab rfl (.tmp 33) (.tmp 35) 32 rfl 34 ii _ 4 56 Tryz.underlying32 hii hzi0 hzi1 hzi2 rfl (by decide) (newLab wr o 0) 2 _ done.len xs (by simp[Act.eval,Act.put]) RA ⟨wr.heap.size,0,none⟩ 1 1 [Value.int .i64 (-7),.int .i64 0,.string ⟨#[]⟩,.slice none 0 0] (by simp[Act.eval,Act.put]) rfl (new_cells_at wr _ _) hone (by decide) b1 b2 ?_;intro g9 c9 w9 o9 r9 s9;have L9:∀ k,k<n0->o9 k=0:=fun k hk=>(s9.lab k (by have h1:=OA.lt;omega)).trans (LA.out k hk);have SP:=AccTn.last FA s9 L9 r9;have hc9:done.len<=c9:=(by have:=SP.2;omega);have O9:=OA.step s9 (by decide);have Z9:=ZA.step s9 (by decide);have B9:=below_stepB BA s9 (fun k hk=>by rw[LA.out k hk];decide) (by rw[HB.out];exact Nat.le_refl _);obtain⟨u0,u1,u2,u3,uf⟩:=box4 O9.1)
    all_goals
     have s10:Step (fun k=>k=1) w9 o9 (w9.setCell ⟨n0+1+1,3,none⟩ (.slice (some ⟨g9,0,none⟩) done.len c9)) o9:=setStep _ w9 o9 ⟨n0+1+1,3,none⟩ _ O9.2;have O10:=O9.set 3 (.slice (some ⟨g9,0,none⟩) done.len c9);have Z10:=Z9.step s10 (by decide);have B10:=below_stepB B9 s10 (fun k hk=>by rw[L9 k hk];decide) (by rw[HB.out];exact Nat.le_refl _);have SP10:=SP.1.mono (fun i hp hl=>s10.block i hl (by rcases hp.2 with h|h<;>omega)) s10.size (fun _ h _=>h);clear s10 SP O9 Z9 B9 L9 s9 r9 RA FA OA ZA BA LA sA;go_wp2;go_meet;exact⟨o9,g9,c9,O10,Z10,SP10,B10⟩
   case rest =>
   obtain⟨o9,g9,c9,O9,Z9,SP,B9⟩:=hcut;clear E1 Z1 O1 R1 F1 L1 B1;have SE:=SP.mono (w':=(((wc.setCell ⟨n0+1,0,none⟩ (.int .i64 e.k)).setCell ⟨n0+1,1,none⟩ (.int .i64 e.n)).setCell ⟨n0+1,2,none⟩ (stv e.nm)).setCell ⟨n0+1,3,none⟩ (.slice (some ⟨g9,0,none⟩) done.len c9)) (Q:=Nw n0) (fun i hp hl=>heap_set4 wc (n0+1) i _ _ _ _ (fun ee=>by
    have h2:=Z9.2;rw[<-ee] at h2;rcases hp.2 with h|h<;>omega)) (by simp) (fun i hp _=>hp.1)
   have BE:=(((B9.setCell (p:=⟨n0+1,0,none⟩) (Nat.le_succ _) (.int .i64 e.k)).setCell (p:=⟨n0+1,1,none⟩) (Nat.le_succ _) (.int .i64 e.n)).setCell (p:=⟨n0+1,2,none⟩) (Nat.le_succ _) (stv e.nm)).setCell (p:=⟨n0+1,3,none⟩) (Nat.le_succ _) (.slice (some ⟨g9,0,none⟩) done.len c9);have ZE:=set4k (b0:=.int .i64 e.k) (b1:=.int .i64 e.n) (b2:=stv e.nm) (b3:=.slice (some ⟨g9,0,none⟩) done.len c9) Z9.1;have HU:Hid (∃wz,wz=(((wc.setCell ⟨n0+1,0,none⟩ (.int .i64 e.k)).setCell ⟨n0+1,1,none⟩ (.int .i64 e.n)).setCell ⟨n0+1,2,none⟩ (stv e.nm)).setCell ⟨n0+1,3,none⟩ (.slice (some ⟨g9,0,none⟩) done.len c9)/\wz.cell? ⟨n0+1,0,none⟩=some (.int .i64 e.k)/\wz.cell? ⟨n0+1,1,none⟩=some (.int .i64 e.n)/\wz.cell? ⟨n0+1,2,none⟩=some (stv e.nm)/\wz.cell? ⟨n0+1,3,none⟩=some (.slice (some ⟨g9,0,none⟩) done.len c9)/\Spn wz (Nw n0) done g9 c9/\Below n0 w wz):=by
    obtain⟨u0,u1,u2,u3,-⟩:=box4 ZE;exact⟨_,rfl,u0,u1,u2,u3,SE,BE⟩
   obtain⟨u0,u1,u2,u3,uf⟩:=box4 O9.1;obtain⟨z0,z1,z2,z3,zf⟩:=box4 Z9.1;clear SE BE ZE O9 Z9 SP B9;go_wp2;obtain⟨wz,hwz,v0,v1,v2,v3,SZ,BZ⟩:=HU.out;clear HU;rw[<-hwz];clear hwz;refine bodyPost_ret (v:=exN e (some ⟨g9,0,none⟩) c9) (by simp[results,Tryz.results38,go_sem,v0,v1,v2,v3,exN,HDN.out]) rfl ⟨g9,c9,rfl,by rw[HDN.out,<-HB.out];exact SZ,by rw[<-HB.out];exact BZ⟩
  | cons kk kn km ka kks kr =>
   have hl0:(done.len:Int)<(e.kids.len:Int):=by simp only[Fs.len] at hlk;omega
   have hl1:done.len<e.kids.len:=by omega
   have hsz:e.kids.size=done.size+(kks.size+kr.size+1):=by rw[hk.out,Fs.size_app];rfl
   have hsk:(Fs.cons kk kn km ka kks kr).short:=Fs.app_short (by rw[<-hk.out];exact hsh);have hn0:n0<=wr.heap.size:=by have:=E1.lt;omega
   obtain⟨b,off,ak,ck,hao,lb1,-,x0,x1,x2,x3,SK⟩:=SlN.kidQ (by rw[<-hk.out];exact SnA.below S (by rw[<-HB.out];exact B1));subst hao;obtain⟨y,hy⟩:∃y:Ex,y=⟨kk,kn,km,ka,kks⟩:=⟨_,rfl⟩
   have hc0:=IH ⟨kk,kn,km,ka,kks⟩ ak ck wr (by show kks.size<N;omega) hsk.2.1 hsk.2.2.1 SK;have hc:Calls Tryz.prog 38 #[.agg #[.int .i64 kk,.int .i64 kn,stv km,.slice ak kks.len ck]] wr (PostLn wr y):=by rw[hy];exact hc0
   clear hc0;have hk2:Hid (e.kids=(done.snoc ⟨kk,kn,km,ka,kks⟩).app kr):=by show e.kids=_;rw[hk.out];unfold Fs.snoc;rw[Fs.app_assoc];rfl
   have HS:Hid (done.snoc ⟨kk,kn,km,ka,kks⟩=done.snoc y):=by show _=_;rw[hy]
   have hl2:(done.len:Int)+1=((done.snoc ⟨kk,kn,km,ka,kks⟩).len:Nat):=by rw[Fs.len_snoc];rfl
   clear hlk hsz hsk hy SK;go_wp2_with fail;refine hc.mono ?_;rintro x w6 ⟨bk6,ck6,rfl,S6,b6⟩;have s6:Step (fun _=>False) wr o w6 (newLab wr o 0):=((Step.refl _ wr o).labelled 0).trans (Step.ofB (newLab wr o 0) b6);have T6:Spn w6 (N0 n0 (newLab wr o 0)) y.kids bk6 ck6:=S6.mono (fun _ _ _=>rfl) (Nat.le_refl _) (fun i hp hl=>⟨Nat.le_trans hn0 hp,newLab_new hp⟩);have L6:Hid (∀ k,k<n0->newLab wr o 0 k=0):=fun k hk=>by rw[newLab_old (by omega)];exact L1.out k hk
   have E6:=E1.step s6 id;have Z6:=Z1.step s6 id;have O6:=O1.step s6 id;have A6:=A1.step s6 id id;have B6:=below_stepB B1 s6 (fun _ _=>id) (by rw[HB.out];exact Nat.le_refl _);generalize newLab wr o 0=o6 at *;clear hc S6 b6 s6 E1 Z1 O1 A1 B1 L1 x0 x1 x2 x3 p0 p1 p2 p3 pf;have s7:=boxStep (fun _=>False) w6 o6 (.cells #[.int .i64 y.k,.int .i64 y.n,stv y.nm,.slice (some ⟨bk6,0,none⟩) y.kids.len ck6] 34);have K7:=boxBlk w6 o6 #[.int .i64 y.k,.int .i64 y.n,stv y.nm,.slice (some ⟨bk6,0,none⟩) y.kids.len ck6] 34;have T7:=T6.lab s7 id;have hs6:n0<=w6.heap.size:=by have:=E6.lt;omega
   have L7:Hid (∀ k,k<n0->newLab w6 o6 0 k=0):=fun k hk=>by rw[newLab_old (by omega)];exact L6.out k hk
   have E7:=E6.step s7 id;have Z7:=Z6.step s7 id;have O7:=O6.step s7 id;have A7:=A6.step s7 id id;have B7:=below_stepB B6 s7 (fun _ _=>id) (by rw[HB.out];exact Nat.le_refl _);rw[exN_out];go_upto_region 6 with fail;generalize newLab w6 o6 0=o7 at *;generalize w6.alloc (.cells #[.int .i64 y.k,.int .i64 y.n,stv y.nm,.slice (some ⟨bk6,0,none⟩) y.kids.len ck6] 34)=w7 at *;generalize w6.heap.size=bk at *;clear s7 T6 E6 Z6 O6 A6 B6 L6;obtain⟨p0,p1,p2,p3,pf⟩:=box4 O7.1;obtain⟨q0,q1,q2,q3,qf⟩:=box4 K7.1;have s8:=boxStep (fun _=>False) w7 o7 (.cells #[.int .i64 y.k,.int .i64 y.n,stv y.nm,.slice (some ⟨bk6,0,none⟩) y.kids.len ck6] 34);have T8:=T7.lab s8 id;have L8:Hid (∀ k,k<n0->newLab w7 o7 0 k=0):=fun k hk=>by rw[newLab_old (by have:=E7.lt;omega)];exact L7.out k hk
   have E8:=E7.step s8 id;have Z8:=Z7.step s8 id;have O8:=O7.step s8 id;have A8:=A7.step s8 id id;have B8:=below_stepB B7 s8 (fun _ _=>id) (by rw[HB.out];exact Nat.le_refl _);obtain⟨xs,R8,F8⟩:=A8;obtain⟨a8,c8,rfl⟩:=R8.form;have b1:done.len+1<=maxLen:=by unfold maxLen;omega
   have b2:(done.len+1)*56<=140737488355328:=by omega
   have hone:∀ u ∈ [Value.int .i64 y.k,.int .i64 y.n,stv y.nm,.slice (some ⟨bk6,0,none⟩) y.kids.len ck6],u.oneCell'=true:=by intro u hu;simp at hu;rcases hu with rfl|rfl|rfl|rfl<;>rfl
   clear E7 Z7 O7 A7 B7 L7 T7 s8;go_wp2_with (first|(at_builtin;refine wpList_append_lab rfl (.tmp 27) (.tmp 29) 32 rfl 34 ii _ 4 56 Tryz.underlying32 hii hzi0 hzi1 hzi2 rfl (by decide) (newLab w7 o7 0) 2 _ done.len xs rfl R8 ⟨w7.heap.size,0,none⟩ 1 1 [Value.int .i64 y.k,.int .i64 y.n,stv y.nm,.slice (some ⟨bk6,0,none⟩) y.kids.len ck6] rfl rfl (new_cells_at w7 _ _) hone (by decide) b1 b2 ?_)|go_in);intro g9 c9 w9 o9 r9 s9;have A9:AccTn w9 o9 n0 (done.snoc y) (.slice (some ⟨g9,0,none⟩) (done.len+1) c9):=AccTn.push F8 T8 s9 r9;have E9:=E8.step s9 (by decide);have Z9:=Z8.step s9 (by decide);have O9:=O8.step s9 (by decide);have L9:Hid (∀ k,k<n0->o9 k=0):=fun k hk=>(s9.lab k (by have:=E8.lt;omega)).trans (L8.out k hk);have B9:=below_stepB B8 s9 (fun k hk=>by rw[L8.out k hk];decide) (by rw[HB.out];exact Nat.le_refl _);have s10:Step (fun k=>k=1) w9 o9 (w9.setCell ⟨n0+1+1,3,none⟩ (.slice (some ⟨g9,0,none⟩) (done.len+1) c9)) o9:=setStep _ w9 o9 ⟨n0+1+1,3,none⟩ _ O9.2;have A10:=A9.step s10 (by decide) (by decide);have E10:=E9.step s10 (by decide);have Z10:=Z9.step s10 (by decide);have O10:=O9.set 3 (.slice (some ⟨g9,0,none⟩) (done.len+1) c9);have B10:=below_stepB B9 s10 (fun k hk=>by rw[L9.out k hk];decide) (by rw[HB.out];exact Nat.le_refl _);obtain⟨t0,t1,t2,t3,tf⟩:=box4 O9.1;rw[<-HS.out] at A10;clear A9 E9 Z9 O9 B9 s10 E8 Z8 O8 B8 L8 T8 R8 F8 r9 s9 p0 p1 p2 p3 pf q0 q1 q2 q3 qf hk HS K7;go_wp2;go_roundw
   case rel=>exact⟨_,kr,o9,_,hk2,by rw[<-hl2],E10,Z10,O10,A10,L9,B10⟩
   case measure=>simp[intOf];omega
theorem lentn_ok:∀ N,LentNOk N -- 38
 | 0=>fun e ao cap w h=>absurd h (Nat.not_lt_zero _)
 | N+1=>lentn_step (lentn_ok N)
abbrev SpnA (w:World)(f:Fs)(b cap:Nat):Prop:=Spn w (fun _=>True) f b cap
theorem SpnA.below {w w':World}{f:Fs}{b cap:Nat}(h:SpnA w f b cap)(bb:Below w.heap.size w w'):SpnA w' f b cap:=h.mono (fun i _ hl=>bb.block i hl) bb.size (fun _ h _=>h)
theorem Spn.last {w:World}{P:Nat->Prop}{f:Fs}{b cap:Nat}(h:Spn w P f b cap):f.len+1<=cap/\cap<=maxLen/\w.cell? ⟨b,f.len*4,none⟩=some (.int .i64 (-7)):=by
 obtain⟨zs,hp,hlt,h1,h2,hc,h7,h3⟩:=h;exact⟨h1,h2,h7⟩
theorem Spn.lt {w:World}{P:Nat->Prop}{f:Fs}{b cap:Nat}(h:Spn w P f b cap):b<w.heap.size:=by
 obtain⟨zs,hp,hlt,_⟩:=h;exact hlt
theorem LFn.split {w:World}{P:Nat->Prop}:∀ {x y:Fs}{zs:List Value},LFn w P (x.app y) zs->∃zx zy,zs=zx++zy/\LFn w P x zx/\LFn w P y zy
 | ⟨none⟩,y,zs,h=>⟨[],zs,rfl,rfl,h⟩
 | ⟨some ⟨k,n,nm,a,ks,r⟩⟩,y,zs,h=>by
  obtain⟨b,cap,us,ys,rfl,h1,h2⟩:=h;obtain⟨zx,zy,rfl,h3,h4⟩:=LFn.split (x:=r) h2;exact⟨_,zy,rfl,⟨b,cap,us,zx,rfl,h1,h3⟩,h4⟩
theorem Spn.kid {w:World}{P:Nat->Prop}{x r:Fs}{k n:Int}{nm:List UInt8}{a:Int}{ks:Fs}{b cap:Nat}(h:Spn w P (x.app (.cons k n nm a ks r)) b cap) :
  ∃bk ck,w.cell? ⟨b,x.len*4,none⟩=some (.int .i64 k)/\w.cell? ⟨b,x.len*4+1,none⟩=some (.int .i64 n)/\w.cell? ⟨b,x.len*4+2,none⟩=some (stv nm)/\w.cell? ⟨b,x.len*4+3,none⟩=some (.slice (some ⟨bk,0,none⟩) ks.len ck)/\Spn w P ks bk ck:=by
 obtain⟨zs,hp,hlt,h1,h2,hc,h7,h3⟩:=h;obtain⟨zx,zy,rfl,h4,h5⟩:=LFn.split h3;have hl:=h4.len;obtain⟨bk,ck,us,ys,rfl,h6,-⟩:=h5;have hc':∀ j u,(.int .i64 k::.int .i64 n::stv nm::.slice (some ⟨bk,0,none⟩) ks.len ck::ys:List Value)[j]?=some u->w.cell? ⟨b,x.len*4+j,none⟩=some u:=fun j u hu=>by
  have:=hc (x.len*4+j) u (by rw[List.getElem?_append_right (by omega),hl,Nat.add_sub_cancel_left];exact hu)
  rw[Nat.zero_add] at this;exact this
 exact⟨bk,ck,hc' 0 _ rfl,hc' 1 _ rfl,hc' 2 _ rfl,hc' 3 _ rfl,us,h6⟩
def KeptNOk (N:Nat):Prop:=∀ (e:Ex) (b0 cap:Nat) (ao2:Option Addr) (cap2:Nat) (w:World),e.kids.size<N->e.kids.len<=1000000000->e.kids.short->SpnA w e.kids b0 cap->SnA w e.kids ao2 ->
 Calls Tryz.prog 44 #[exN e (some ⟨b0,0,none⟩) cap,exN e ao2 cap2] w fun x w'=>x=.returned (.bool true)/\Below w.heap.size w w'
theorem keptn_step {N:Nat}(IH:KeptNOk N):KeptNOk (N+1):=by
 intro e b0 cap ao2 cap2 w hN hlen hsh S S2;have B0:Below w.heap.size w ((w.alloc (.cells #[.int .i64 e.k,.int .i64 e.n,stv e.nm,.slice (some ⟨b0,0,none⟩) e.kids.len cap] 34)).alloc (.cells #[.int .i64 e.k,.int .i64 e.n,stv e.nm,.slice ao2 e.kids.len cap2] 34)):=((Below.refl _ w).alloc (Nat.le_refl _) _).alloc (by simp) _;have E0:((w.alloc (.cells #[.int .i64 e.k,.int .i64 e.n,stv e.nm,.slice (some ⟨b0,0,none⟩) e.kids.len cap] 34)).alloc (.cells #[.int .i64 e.k,.int .i64 e.n,stv e.nm,.slice ao2 e.kids.len cap2] 34)).heap[w.heap.size]?=some (.cells #[.int .i64 e.k,.int .i64 e.n,stv e.nm,.slice (some ⟨b0,0,none⟩) e.kids.len cap] 34):=(Below.heap_alloc _ _ _ (by simp)).trans (heap_alloc_new w _);have Y0:((w.alloc (.cells #[.int .i64 e.k,.int .i64 e.n,stv e.nm,.slice (some ⟨b0,0,none⟩) e.kids.len cap] 34)).alloc (.cells #[.int .i64 e.k,.int .i64 e.n,stv e.nm,.slice ao2 e.kids.len cap2] 34)).heap[w.heap.size+1]?=some (.cells #[.int .i64 e.k,.int .i64 e.n,stv e.nm,.slice ao2 e.kids.len cap2] 34):=by
  have:=heap_alloc_new (w.alloc (.cells #[.int .i64 e.k,.int .i64 e.n,stv e.nm,.slice (some ⟨b0,0,none⟩) e.kids.len cap] 34)) (.cells #[.int .i64 e.k,.int .i64 e.n,stv e.nm,.slice ao2 e.kids.len cap2] 34)
  simpa using this
 have S0:=SpnA.below S B0;have T0:=SnA.below S2 B0;rw[exN_out,exN_out];go_enter Tryz.func44,Tryz.ntmps44;go_upto_region 1 with fail;generalize (w.alloc (.cells #[.int .i64 e.k,.int .i64 e.n,stv e.nm,.slice (some ⟨b0,0,none⟩) e.kids.len cap] 34)).alloc (.cells #[.int .i64 e.k,.int .i64 e.n,stv e.nm,.slice ao2 e.kids.len cap2] 34)=w0 at *;obtain⟨bx,hbx⟩:∃bx,bx=w.heap.size:=⟨_,rfl⟩
 rw[<-hbx] at E0 Y0 B0 ⊢;have HB:Hid (bx=w.heap.size):=hbx;clear hbx S S2;obtain⟨p0,p1,p2,p3,pf⟩:=box4 E0;obtain⟨q0,q1,q2,q3,qf⟩:=box4 Y0;obtain⟨hc1,hc2,h7⟩:=S0.last;have hc1I:(e.kids.len:Int)+1<=(cap:Int):=by omega
 have hcm:cap<=9223372036854775807:=hc2;have hw1:IntKind.i64.wrap ((e.kids.len:Int)+1)=(e.kids.len:Int)+1:=by rw[IntKind.wrap_i64];omega
 have hlt1:(e.kids.len:Int)<(e.kids.len:Int)+1:=by omega
 go_upto_region 3 with fail
 go_quiet (fail)
 have bq:Below w0.heap.size w0 (w0.drewN nq):=bdr (Below.refl _ _) nq;have E0:=(bq.block _ (lt_of_block E0)).trans E0;have Y0:=(bq.block _ (lt_of_block Y0)).trans Y0;have S0:=S0.below bq;have T0:=SnA.below T0 bq;have B0:=B0.trans (bq.mono (by have:=HB.out;have:=B0.size;omega));generalize w0.drewN nq=w0 at *;clear hc1 hc2 h7 hc1I hcm hw1 hlt1 bq p0 p1 p2 p3 pf q0 q1 q2 q3 qf;go_wp2_with fail;go_loopw [5] (fun v wr=>∃(done r:Fs),Hid (e.kids=done.app r)/\v=.int .i64 (done.len:Nat)/\wr.heap[bx]?=some (.cells #[.int .i64 e.k,.int .i64 e.n,stv e.nm,.slice (some ⟨b0,0,none⟩) e.kids.len cap] 34)/\wr.heap[bx+1]?=some (.cells #[.int .i64 e.k,.int .i64 e.n,stv e.nm,.slice ao2 e.kids.len cap2] 34)/\SpnA wr e.kids b0 cap/\SnA wr e.kids ao2/\Below bx w wr) (fun v _=>e.kids.len-(intOf v).toNat)
 case atStart=>exact⟨.nil,e.kids,rfl,by show _=Value.int .i64 ((0:Nat):Int);rfl,E0,Y0,S0,T0,B0⟩
 case round =>
  clear E0 Y0 S0 T0 B0;obtain⟨done,r,hk,rfl,E1,Y1,S1,T1,B1⟩:=hrel;have hlk:e.kids.len=done.len+r.len:=by rw[hk.out,Fs.len_app]
  obtain⟨p0,p1,p2,p3,pf⟩:=box4 E1;obtain⟨q0,q1,q2,q3,qf⟩:=box4 Y1;cases r using Fs.on with
  | nil =>
   have hl0:¬(done.len:Int)<(e.kids.len:Int):=by simp only[Fs.len] at hlk;omega
   clear hlk;go_wp2;go_ret;exact⟨rfl,by rw[<-HB.out];exact B1⟩
  | cons kk kn km ka kks kr =>
   have hl0:(done.len:Int)<(e.kids.len:Int):=by simp only[Fs.len] at hlk;omega
   have hl1:done.len<e.kids.len:=by omega
   have hsz:e.kids.size=done.size+(kks.size+kr.size+1):=by rw[hk.out,Fs.size_app];rfl
   have hsk:(Fs.cons kk kn km ka kks kr).short:=Fs.app_short (by rw[<-hk.out];exact hsh);obtain⟨bk,ck,x0,x1,x2,x3,SK⟩:=Spn.kid (x:=done) (by rw[<-hk.out];exact S1);obtain⟨b',off',ak',ck',hao',lb2,-,y0,y1,y2,y3,TK⟩:=SlN.kidQ (by rw[<-hk.out];exact T1);subst hao';have lb1:b0<wr.heap.size:=S1.lt;have hc:=IH ⟨kk,kn,km,ka,kks⟩ bk ck ak' ck' wr.drew (by show kks.size<N;omega) hsk.2.1 hsk.2.2.1 (SpnA.below SK (Below.refl _ wr).drew) (SnA.below TK (Below.refl _ wr).drew);rw[exN_out,exN_out] at hc;simp only at hc;clear hlk hsz hsk SK TK;go_wp2;have k0:wr.cell? ⟨bx,3,none⟩=some (.slice (some ⟨b0,0,none⟩) e.kids.len cap)/\wr.cell? ⟨bx+1,3,none⟩=some (.slice (some ⟨b',off',none⟩) e.kids.len cap2)/\wr.cell? ⟨b0,done.len*4,none⟩=some (.int .i64 kk)/\wr.cell? ⟨b0,done.len*4+1,none⟩=some (.int .i64 kn)/\wr.cell? ⟨b0,done.len*4+2,none⟩=some (stv km)/\wr.cell? ⟨b0,done.len*4+3,none⟩=some (.slice (some ⟨bk,0,none⟩) kks.len ck)/\wr.cell? ⟨b',off'+done.len*4,none⟩=some (.int .i64 kk)/\wr.cell? ⟨b',off'+done.len*4+1,none⟩=some (.int .i64 kn)/\wr.cell? ⟨b',off'+done.len*4+2,none⟩=some (stv km)/\wr.cell? ⟨b',off'+done.len*4+3,none⟩=some (.slice ak' kks.len ck'):=⟨p3,q3,x0,x1,x2,x3,y0,y1,y2,y3⟩
   have k1:wr.drew.cell? ⟨bx,3,none⟩=some (.slice (some ⟨b0,0,none⟩) e.kids.len cap)/\wr.drew.cell? ⟨bx+1,3,none⟩=some (.slice (some ⟨b',off',none⟩) e.kids.len cap2)/\wr.drew.cell? ⟨b0,done.len*4,none⟩=some (.int .i64 kk)/\wr.drew.cell? ⟨b0,done.len*4+1,none⟩=some (.int .i64 kn)/\wr.drew.cell? ⟨b0,done.len*4+2,none⟩=some (stv km)/\wr.drew.cell? ⟨b0,done.len*4+3,none⟩=some (.slice (some ⟨bk,0,none⟩) kks.len ck)/\wr.drew.cell? ⟨b',off'+done.len*4,none⟩=some (.int .i64 kk)/\wr.drew.cell? ⟨b',off'+done.len*4+1,none⟩=some (.int .i64 kn)/\wr.drew.cell? ⟨b',off'+done.len*4+2,none⟩=some (stv km)/\wr.drew.cell? ⟨b',off'+done.len*4+3,none⟩=some (.slice ak' kks.len ck'):=k0;have lb:bx+1<wr.drew.heap.size:=lt_of_block Y1;go_region_held (fun wx=>wx.cell? ⟨bx,3,none⟩=some (.slice (some ⟨b0,0,none⟩) e.kids.len cap)/\wx.cell? ⟨bx+1,3,none⟩=some (.slice (some ⟨b',off',none⟩) e.kids.len cap2)/\wx.cell? ⟨b0,done.len*4,none⟩=some (.int .i64 kk)/\wx.cell? ⟨b0,done.len*4+1,none⟩=some (.int .i64 kn)/\wx.cell? ⟨b0,done.len*4+2,none⟩=some (stv km)/\wx.cell? ⟨b0,done.len*4+3,none⟩=some (.slice (some ⟨bk,0,none⟩) kks.len ck)/\wx.cell? ⟨b',off'+done.len*4,none⟩=some (.int .i64 kk)/\wx.cell? ⟨b',off'+done.len*4+1,none⟩=some (.int .i64 kn)/\wx.cell? ⟨b',off'+done.len*4+2,none⟩=some (stv km)/\wx.cell? ⟨b',off'+done.len*4+3,none⟩=some (.slice ak' kks.len ck')) (first|(with_reducible exact k2)|(with_reducible exact k1)|(with_reducible exact k0)) ((go_at_call 44;refine hc.mono ?_;rintro x w2 ⟨rfl,b2⟩;have k2:w2.cell? ⟨bx,3,none⟩=some (.slice (some ⟨b0,0,none⟩) e.kids.len cap)/\w2.cell? ⟨bx+1,3,none⟩=some (.slice (some ⟨b',off',none⟩) e.kids.len cap2)/\w2.cell? ⟨b0,done.len*4,none⟩=some (.int .i64 kk)/\w2.cell? ⟨b0,done.len*4+1,none⟩=some (.int .i64 kn)/\w2.cell? ⟨b0,done.len*4+2,none⟩=some (stv km)/\w2.cell? ⟨b0,done.len*4+3,none⟩=some (.slice (some ⟨bk,0,none⟩) kks.len ck)/\w2.cell? ⟨b',off'+done.len*4,none⟩=some (.int .i64 kk)/\w2.cell? ⟨b',off'+done.len*4+1,none⟩=some (.int .i64 kn)/\w2.cell? ⟨b',off'+done.len*4+2,none⟩=some (stv km)/\w2.cell? ⟨b',off'+done.len*4+3,none⟩=some (.slice ak' kks.len ck'):=⟨(b2.cell (p:=⟨bx,3,none⟩) (Nat.lt_of_succ_lt lb)).trans p3,(b2.cell (p:=⟨bx+1,3,none⟩) lb).trans q3,(b2.cell (p:=⟨b0,done.len*4,none⟩) lb1).trans x0,(b2.cell (p:=⟨b0,done.len*4+1,none⟩) lb1).trans x1,(b2.cell (p:=⟨b0,done.len*4+2,none⟩) lb1).trans x2,(b2.cell (p:=⟨b0,done.len*4+3,none⟩) lb1).trans x3,(b2.cell (p:=⟨b',off'+done.len*4,none⟩) lb2).trans y0,(b2.cell (p:=⟨b',off'+done.len*4+1,none⟩) lb2).trans y1,(b2.cell (p:=⟨b',off'+done.len*4+2,none⟩) lb2).trans y2,(b2.cell (p:=⟨b',off'+done.len*4+3,none⟩) lb2).trans y3⟩));have B2:Below bx w w2:=(B1.drew).trans (b2.mono (by have:=HB.out;have:=B1.size;show bx<=wr.heap.size;omega));have E2:=(b2.block bx (Nat.lt_of_succ_lt lb)).trans E1;have Y2:=(b2.block (bx+1) lb).trans Y1;have S2:=SpnA.below (SpnA.below S1 (Below.refl _ wr).drew) b2;have T2:=SnA.below (SnA.below T1 (Below.refl _ wr).drew) b2;have hk2:Hid (e.kids=(done.snoc ⟨kk,kn,km,ka,kks⟩).app kr):=by show e.kids=_;rw[hk.out];unfold Fs.snoc;rw[Fs.app_assoc];rfl
   have hl2:(done.len:Int)+1=((done.snoc ⟨kk,kn,km,ka,kks⟩).len:Nat):=by rw[Fs.len_snoc];rfl
   have hl3:e.kids.len-(done.len+1)<e.kids.len-done.len:=by omega
   clear k0 k1 k2 p0 p1 p2 p3 pf q0 q1 q2 q3 qf x0 x1 x2 x3 y0 y1 y2 y3 hc b2 E1 Y1 S1 T1 B1 hk;go_wp2;go_roundw
   case rel=>exact⟨_,kr,hk2,by rw[<-hl2],E2,Y2,S2,T2,B2⟩
   case measure=>simp[intOf];omega
theorem keptn_ok:∀ N,KeptNOk N -- 44
 | 0=>fun e b0 cap ao2 cap2 w h=>absurd h (Nat.not_lt_zero _)
 | N+1=>keptn_step (keptn_ok N)
def FcNC (w:World)(P:Nat->Prop):Fs->List Value->Prop
 | ⟨none⟩,xs=>xs=[]
 | ⟨some ⟨k,n,nm,a,ks,r⟩⟩,xs=>∃ao cap ys,xs=.int .i64 k::.int .i64 n::stv nm::.slice ao ks.len cap::ys /\
   ((ks=.nil/\ao=none/\cap=0)\/∃b zs cur,ao=some ⟨b,0,none⟩/\P b/\b<w.heap.size/\ks.len<=cap/\w.heap[b]?=some (.cells cur 34 (0,0))/\cur.size=cap*4/\(∀ (j:Nat) (u:Value),zs[j]?=some u->cur[j]?=some u)/\FcNC w P ks zs)/\FcNC w P r ys
def SlcN (w:World)(P:Nat->Prop)(ks:Fs)(ao:Option Addr)(cap:Nat):Prop :=
 (ks=.nil/\ao=none/\cap=0)\/∃b zs cur,ao=some ⟨b,0,none⟩/\P b/\b<w.heap.size/\ks.len<=cap/\w.heap[b]?=some (.cells cur 34 (0,0))/\cur.size=cap*4/\(∀ (j:Nat) (u:Value),zs[j]?=some u->cur[j]?=some u)/\FcNC w P ks zs
theorem FcNC.len {w:World}{P:Nat->Prop}:∀ {f:Fs}{xs:List Value},FcNC w P f xs->xs.length=f.len*4
 | ⟨none⟩,xs,h=>by
  have h:xs=[]:=h;subst h;rfl
 | ⟨some ⟨k,n,nm,a,ks,r⟩⟩,xs,h=>by
  obtain⟨ao,cap,ys,rfl,_,h2⟩:=h
  have:=FcNC.len h2
  simp only[List.length_cons,Fs.len];omega
theorem FcNC.mono {w w':World}{P Q:Nat->Prop}(hb:∀ k,P k->k<w.heap.size->w'.heap[k]?=w.heap[k]?)(hs:w.heap.size<=w'.heap.size)(hq:∀ k,P k->k<w.heap.size->Q k):∀ {f:Fs}{xs:List Value},FcNC w P f xs->FcNC w' Q f xs
 | ⟨none⟩,xs,h=>h
 | ⟨some ⟨k,n,nm,a,ks,r⟩⟩,xs,h=>by
  obtain⟨ao,cap,ys,rfl,h1,h2⟩:=h;refine⟨ao,cap,ys,rfl,?_,FcNC.mono hb hs hq h2⟩;rcases h1 with h1|⟨b,zs,cur,rfl,hp,hlt,h4,h5,h6,h7,h3⟩
  ·exact .inl h1
  ·exact .inr ⟨b,zs,cur,rfl,hq b hp hlt,Nat.lt_of_lt_of_le hlt hs,h4,(hb b hp hlt).trans h5,h6,h7,FcNC.mono hb hs hq h3⟩
theorem SlcN.mono {w w':World}{P Q:Nat->Prop}{f:Fs}{ao:Option Addr}{cap:Nat}(hb:∀ k,P k->k<w.heap.size->w'.heap[k]?=w.heap[k]?)(hs:w.heap.size<=w'.heap.size)(hq:∀ k,P k->k<w.heap.size->Q k)(h:SlcN w P f ao cap):SlcN w' Q f ao cap:=by
 rcases h with h|⟨b,zs,cur,rfl,hp,hlt,h4,h5,h6,h7,h3⟩
 ·exact .inl h
 ·exact .inr ⟨b,zs,cur,rfl,hq b hp hlt,Nat.lt_of_lt_of_le hlt hs,h4,(hb b hp hlt).trans h5,h6,h7,h3.mono hb hs hq⟩
theorem FcNC.fc {w:World}{P:Nat->Prop}:∀ {f:Fs}{xs:List Value},FcNC w P f xs->FcN w P f xs
 | ⟨none⟩,xs,h=>h
 | ⟨some ⟨k,n,nm,a,ks,r⟩⟩,xs,h=>by
  obtain⟨ao,cap,ys,rfl,h1,h2⟩:=h;refine⟨ao,cap,ys,rfl,?_,FcNC.fc h2⟩;rcases h1 with h1|⟨b,zs,cur,rfl,hp,hlt,h4,h5,h6,h7,h3⟩
  ·exact .inl h1.1
  ·exact .inr ⟨b,0,zs,rfl,hp,hlt,fun j u hu=>by rw[Nat.zero_add,cell_of_row _ b j _ _ (0,0) h5];exact h7 j u hu,FcNC.fc h3⟩
theorem SlcN.sl {w:World}{P:Nat->Prop}{f:Fs}{ao:Option Addr}{cap:Nat}(h:SlcN w P f ao cap):SlN w P f ao:=by
 rcases h with h1|⟨b,zs,cur,rfl,hp,hlt,h4,h5,h6,h7,h3⟩
 ·exact .inl h1.1
 ·exact .inr ⟨b,0,zs,rfl,hp,hlt,fun j u hu=>by rw[Nat.zero_add,cell_of_row _ b j _ _ (0,0) h5];exact h7 j u hu,h3.fc⟩
theorem FcNC.app {w:World}{P:Nat->Prop}:∀ {f g:Fs}{xs ys:List Value},FcNC w P f xs->FcNC w P g ys->FcNC w P (f.app g) (xs++ys)
 | ⟨none⟩,g,xs,ys,h,k=>by
  have h:xs=[]:=h;subst h;exact k
 | ⟨some ⟨i,n,nm,a,ks,r⟩⟩,g,xs,ys,h,k=>by
  obtain⟨ao,cap,zs,rfl,h1,h2⟩:=h;exact⟨ao,cap,zs++ys,rfl,h1,FcNC.app h2 k⟩
theorem FcNC.one {w:World}{P:Nat->Prop}{e:Ex}{ao:Option Addr}(cap:Nat)(h:SlcN w P e.kids ao cap):FcNC w P (one e) [.int .i64 e.k,.int .i64 e.n,stv e.nm,.slice ao e.kids.len cap]:=⟨ao,cap,[],rfl,h,rfl⟩
theorem SlcN.nil (w:World)(P:Nat->Prop):SlcN w P .nil none 0:=.inl ⟨rfl,rfl,rfl⟩
theorem ownCellsN {cur:Array Value}{m:Nat}{xs:List Value}(h:cur.toList.take m=xs)(j:Nat)(u:Value)(hu:xs[j]?=some u):cur[j]?=some u:=by
 rw[<-h,List.getElem?_take] at hu;split at hu
 ·simpa using hu
 ·cases hu
theorem FcNC.lab {I:Nat->Prop}{w w':World}{o o':Nat->Nat}{n0:Nat}{f:Fs}{xs:List Value}(h:FcNC w (N0 n0 o) f xs)(s:Step I w o w' o')(h0:¬I 0):FcNC w' (N0 n0 o') f xs :=
 h.mono (fun k hp hl=>s.block k hl (by rw[hp.2];exact h0)) s.size (fun k hp hl=>⟨hp.1,(s.lab k hl).trans hp.2⟩)
theorem SlcN.lab {I:Nat->Prop}{w w':World}{o o':Nat->Nat}{n0 cap:Nat}{f:Fs}{ao:Option Addr}(h:SlcN w (N0 n0 o) f ao cap)(s:Step I w o w' o')(h0:¬I 0):SlcN w' (N0 n0 o') f ao cap :=
 h.mono (fun k hp hl=>s.block k hl (by rw[hp.2];exact h0)) s.size (fun k hp hl=>⟨hp.1,(s.lab k hl).trans hp.2⟩)
theorem nil_of_len0:∀ {f:Fs},f.len=0->f=.nil
 | ⟨none⟩,_=>rfl
 | ⟨some ⟨k,n,nm,a,ks,r⟩⟩,h=>by simp[Fs.len] at h
theorem Below.toStepC {w w':World}{o:Nat->Nat}{I:Nat->Prop}(b:Below w.heap.size w w'):Step I w o w' (newLab w o 0):=⟨b.os,b.tape,b.output,b.size,fun k hk=>newLab_old hk,fun k hk _=>b.block k hk⟩
def AccCn (w:World)(o:Nat->Nat)(n0:Nat)(acc:Fs)(v:Value):Prop:=∃xs,Row w o 2 34 4 v acc.len xs/\FcNC w (N0 n0 o) acc xs/\(acc=.nil->v=.slice none 0 0)/\∀ k,v.ownBlock=some k->n0<=k
theorem AccCn.nil (w:World)(o:Nat->Nat)(n0:Nat):AccCn w o n0 .nil (.slice none 0 0):=⟨[],Row.nil _ _ _ _ _,rfl,fun _=>rfl,fun k hk=>by simp[Value.ownBlock] at hk⟩
theorem AccCn.step {I:Nat->Prop}{w w':World}{o o':Nat->Nat}{n0:Nat}{acc:Fs}{v:Value}(h:AccCn w o n0 acc v)(s:Step I w o w' o')(h0:¬I 0)(h2:¬I 2):AccCn w' o' n0 acc v:=by
 obtain⟨xs,r,f,e,g⟩:=h;exact⟨xs,r.step s h2,f.lab s h0,e,g⟩
theorem snoc_ne (f:Fs)(y:Ex):f.snoc y≠.nil:=by
 intro h
 have:=congrArg Fs.len h
 rw[Fs.len_snoc] at this;simp[Fs.len] at this
theorem AccCn.push {w w2:World}{o o2:Nat->Nat}{n0 ce g2 c2:Nat}{acc:Fs}{xs:List Value}{y:Ex}{ay:Option Addr}(f:FcNC w (N0 n0 o) acc xs)(S:SlcN w (N0 n0 o) y.kids ay ce)(s:Step (fun x=>x=2) w o w2 o2)(hlo:∀ k,k<n0->o k≠2)(hw:n0<=w.heap.size)
  (r:Row w2 o2 2 34 4 (.slice (some ⟨g2,0,none⟩) (acc.len+1) c2) (acc.len+1) (xs++[.int .i64 y.k,.int .i64 y.n,stv y.nm,.slice ay y.kids.len ce])):AccCn w2 o2 n0 (acc.snoc y) (.slice (some ⟨g2,0,none⟩) (acc.len+1) c2):=by
 refine⟨_,by rw[Fs.len_snoc];exact r,(f.lab s (by decide)).app (FcNC.one ce (S.lab s (by decide))),fun h=>absurd h (snoc_ne _ _),fun k hk=>?_⟩;simp[Value.ownBlock] at hk;subst hk;have h2:o2 g2=2:=r.2 g2 rfl;rcases Nat.lt_or_ge g2 n0 with h3|h3
 ·exact absurd ((s.lab g2 (by omega)).symm.trans h2) (hlo g2 h3)
 ·exact h3
theorem AccCn.slc {w:World}{o:Nat->Nat}{n0:Nat}{acc:Fs}{v:Value}(h:AccCn w o n0 acc v):∃ao cap,v=.slice ao acc.len cap/\SlcN w (fun k=>n0<=k/\(o k=0\/o k=2)) acc ao cap:=by
 obtain⟨xs,r,f,e,g⟩:=h;obtain⟨hlen,ho|⟨g',cap',cur,hv,-,hb,hc,hm,hsz,hcell⟩⟩:=r.1
 ·have hn:acc.len=0:=ho.2;have hnil:=nil_of_len0 hn;subst hnil;exact⟨none,0,e rfl,.inl ⟨rfl,rfl,rfl⟩⟩
 ·subst hv;have h2:o g'=2:=r.2 g' rfl;exact⟨_,cap',rfl,.inr ⟨g',xs,cur,rfl,⟨g g' rfl,.inr h2⟩,lt_of_block hb,hc,hb,hsz,fun j u hu=>ownCellsN hcell j u hu,f.mono (fun _ _ _=>rfl) (Nat.le_refl _) (fun _ hp _=>⟨hp.1,.inl hp.2⟩)⟩⟩
def PostCp (w:World)(y:Ex)(x:Ending)(w':World):Prop:=∃ao cap,x=.returned (exN y ao cap)/\SlcN w' (Nw w.heap.size) y.kids ao cap/\Below w.heap.size w w'
def sameF:Fs->Fs->Bool
 | ⟨none⟩,⟨none⟩=>true
 | ⟨some ⟨k,n,nm,_,ks,r⟩⟩,⟨some ⟨k',n',nm',_,ks',r'⟩⟩=>k==k'&&n==n'&&nm==nm'&&sameF ks ks'&&sameF r r'
 | _,_=>false
def sameE (a b:Ex):Bool:=a.k==b.k&&a.n==b.n&&a.nm==b.nm&&sameF a.kids b.kids
theorem sameF_len:∀ (x y:Fs),x.len≠y.len->sameF x y=false
 | ⟨none⟩,⟨none⟩,h=>absurd rfl h
 | ⟨none⟩,⟨some ⟨k',n',nm',a',ks',r'⟩⟩,h=>rfl
 | ⟨some ⟨k,n,nm,a,ks,r⟩⟩,⟨none⟩,h=>rfl
 | ⟨some ⟨k,n,nm,a,ks,r⟩⟩,⟨some ⟨k',n',nm',a',ks',r'⟩⟩,h=>by
  have h2:r.len≠r'.len:=fun e=>h (by simp only[Fs.len,e]);simp only[sameF,sameF_len r r' h2,Bool.and_false]
theorem sameF_self:∀ (x:Fs),sameF x x=true
 | ⟨none⟩=>rfl
 | ⟨some ⟨k,n,nm,a,ks,r⟩⟩=>by simp[sameF,sameF_self ks,sameF_self r]
def nmP (k:Int)(nm:List UInt8):Bool:=if k==23 then nameB nm else nm==[]
def nuP (nc:Nat)(k n:Int)(ar:Nat):Bool :=
 if k==1 then true else if k==2 then n==0||n==1 else if k==3 then decide (0<=n) else if k==5 then decide (0<=n)&&decide (n<(ar:Int))
 else if k==20 then decide (1<=n)&&decide (n<=10) else if k==21 then decide (1<=n)&&decide (n<=6) else if k==26 then decide (0<=n)&&decide (n<(nc:Int)) else n==0
def wkP (ks:List Int)(i:Nat):Int :=
 match ks[i]? with
 | some k=>if k=4 then 0 else k
 | none=>0
def formP (k n:Int)(ks:List Int):List Int × Int :=
 if k=1 then ([],1) else if k=2 then ([],2) else if k=3\/k=5 then ([],3) else if k=6 then ([1],1) else if k=7 then ([2],2)
 else if 8<=k/\k<=12 then ([1,1],1) else if k=15\/k=16 then ([1,1],2) else if k=17\/k=18 then ([2,2],2)
 else if k=13\/k=14 then ([wkP ks 0,wkP ks 0],2) else if k=19 then ([2,wkP ks 1,wkP ks 1],wkP ks 1)
 else if k=20 then (if n=1\/n=2 then ([3,3],2) else if n=3 then ([3,3],1) else if n=10 then ([3],3) else ([3],1))
 else if k=21 then (if n=1\/n=2 then ([4,2],2) else if n=3 then ([4,2],1) else ([4,1],1))
 else if k=26 then ([wkP ks 0],wkP ks 0) else if k=22\/k=23 then ([],4) else if k=24 then ([3],4) else if k=25 then (List.replicate ks.length 3,4) else ([],0)
def hgF:Fs->Int->Int
 | ⟨none⟩,_=>0
 | ⟨some ⟨k,n,_,_,ks,r⟩⟩,ar=>max (max (if k=5/\n<ar then n+1 else 0) (hgF ks ar)) (hgF r ar)
def hgE (e:Ex)(ar:Int):Int:=max (if e.k=5/\e.n<ar then e.n+1 else 0) (hgF e.kids ar)
abbrev Rg:=Nat × (Nat->Option Ex)
def spotP (pk:Int)(i ar wi:Nat):Nat × Nat:=if pk=21 then (if i=0 then ar else ar+1,wi+1) else (ar,wi)
def keepP (cells:List Int)(n:Int)(ks:Fs)(ar:Nat)(s:Rg):Option Rg :=
 match cells[n.toNat]? with
 | none=>none
 | some lv =>
  if (ar:Int)<lv\/lv<hgE ks.head ar then none else
  match s.2 n.toNat with
  | none=>some (s.1,fun i=>if i=n.toNat then some ks.head else s.2 i)
  | some x=>if sameE x ks.head then some s else none
def rgF (cells:List Int):Fs->Int->Nat->Nat->Nat->Rg->Option (Rg × List Int)
 | ⟨none⟩,_,_,_,_,s=>some (s,[])
 | ⟨some ⟨k,n,nm,a,ks,r⟩⟩,pk,i,ar,wi,s =>
  if 4096<s.1+1\/4<(spotP pk i ar wi).2\/nmP k nm=false\/nuP cells.length k n (spotP pk i ar wi).1=false then none else
  match rgF cells ks k 0 (spotP pk i ar wi).1 (spotP pk i ar wi).2 (s.1+1,s.2) with
  | none=>none
  | some (s1,kd) =>
   if (formP k n kd).2=0\/(formP k n kd).1≠kd then none else
   match (if k=26 then keepP cells n ks (spotP pk i ar wi).1 s1 else some s1) with
   | none=>none
   | some s2 =>
    match rgF cells r pk (i+1) ar wi s2 with
    | none=>none
    | some (s3,rest)=>some (s3,(formP k n kd).2::rest)
def kindP (cells:List Int)(e:Ex):Int :=
 if 256<cells.length\/cells.any (fun c=>decide (c<0)||decide (4<c))=true then 0 else
 match rgF cells (one e) 0 0 0 0 (0,fun _=>none) with
 | some (_,[k])=>if k=4 then 0 else k
 | _=>0
theorem rgF_len (cells:List Int):∀ (f:Fs) (pk:Int) (i ar wi:Nat) (s s':Rg) (kd:List Int),rgF cells f pk i ar wi s=some (s',kd)->kd.length=f.len
 | ⟨none⟩,pk,i,ar,wi,s,s',kd,h=>by
  simp only[rgF] at h;injection h with h
  injection h with h1 h2
  subst h2;rfl
 | ⟨some ⟨k,n,nm,a,ks,r⟩⟩,pk,i,ar,wi,s,s',kd,h=>by
  unfold rgF at h;split at h
  ·cases h
  ·split at h
   ·cases h
   ·split at h
    ·cases h
    ·split at h
     ·cases h
     ·split at h
      ·cases h
      ·rename_i s3 rest h5
       injection h with h
       injection h with h1 h2
       subst h2
       have:=rgF_len cells r pk (i+1) ar wi _ _ _ h5
       simp only[List.length_cons,Fs.len];omega
def fixL (k n:Int):List Int :=
 if k=1 then [1] else if k=2 then [2] else if k=3\/k=4 then [3] else if k=6 then [1,1] else if k=7 then [2,2]
 else if 8<=k/\k<=12 then [1,1,1] else if k=15\/k=16 then [1,1,2] else if k=17\/k=18 then [2,2,2]
 else if k=22\/k=23 then [4] else if k=24 then [3,4]
 else if k=20 then (if n=1\/n=2 then [3,3,2] else if n=3 then [3,3,1] else if n=10 then [3,3] else [3,1])
 else if k=21 then (if n=1\/n=2 then [4,2,2] else if n=3 then [4,2,1] else [4,1,1])
 else []
def ruleT (k n:Int)(len:Nat)(done:List Int):Int :=
 if k=13\/k=14 then (match done with | []=>0 | [a]=>a|_=>2)
 else if k=19 then (match done with | []=>2 | [_]=>0|_::b::_=>b)
 else if k=25 then (if done.length<len then 3 else 4)
 else (fixL k n)[done.length]?.getD 0
def mustT (m:Int)(a:Int)(r:Sum (Nat × Int) Int):Sum (Nat × Int) Int :=
 match r with
 | .inl e=>.inl e
 | .inr is=>if m≠0/\is≠m then .inl (131,a) else .inr is
def chkFs:Fs->Int->Int->List UInt8->Nat->List (List UInt8)->Nat->List Int->Sum (Nat × Int) (List Int)
 | ⟨none⟩,_,_,_,_,_,_,done=>.inr done
 | ⟨some ⟨kk,kn,km,ka,kks,kr⟩⟩,k,n,nm,len,bound,i,done =>
  match mustT (ruleT k n len done) ka (if kk=4/\¬km ∈ (if k=21/\i≠0 then bound++[nm] else bound) then .inl (130,ka) else
   match chkFs kks kk kn km kks.len (if k=21/\i≠0 then bound++[nm] else bound) 0 [] with
   | .inl e=>.inl e
   | .inr d=>.inr (ruleT kk kn kks.len d)) with
  | .inl e=>.inl e
  | .inr is=>chkFs kr k n nm len bound (i+1) (done++[is])
def chkE (e:Ex)(bound:List (List UInt8)):Sum (Nat × Int) Int :=
 if e.k=4/\¬e.nm ∈ bound then .inl (130,e.a) else
  match chkFs e.kids e.k e.n e.nm e.kids.len bound 0 [] with
  | .inl x=>.inl x
  | .inr d=>.inr (ruleT e.k e.n e.kids.len d)
theorem chk_ex (x:Ex)(r:Fs)(k n:Int)(nm:List UInt8)(len:Nat)(bound:List (List UInt8))(i:Nat)(done:List Int) :
  chkFs (.cons x.k x.n x.nm x.a x.kids r) k n nm len bound i done=(match mustT (ruleT k n len done) x.a (chkE x (if k=21/\i≠0 then bound++[nm] else bound)) with
   | .inl e=>.inl e
   | .inr is=>chkFs r k n nm len bound (i+1) (done++[is])):=rfl
def typA (e:Ex):Int × Nat × Int :=
 match writA e with
 | none=>(0,122,0)
 | some _ =>
  match chkE e [] with
  | .inl (er,a)=>(0,er,a)
  | .inr k=>(k,0,0)
theorem chkFs_er:∀ (f:Fs) (k n:Int) (nm:List UInt8) (len:Nat) (bound:List (List UInt8)) (i:Nat) (done:List Int) (er:Nat) (a:Int),chkFs f k n nm len bound i done=.inl (er,a)->er=130\/er=131
 | ⟨none⟩,k,n,nm,len,bound,i,done,er,a,h=>by simp only[chkFs] at h;cases h
 | ⟨some ⟨kk,kn,km,ka,kks,kr⟩⟩,k,n,nm,len,bound,i,done,er,a,h=>by
  simp only[chkFs] at h;by_cases hv:kk=4/\¬km ∈ (if k=21/\i≠0 then bound++[nm] else bound)
  ·rw[if_pos hv] at h;simp only[mustT,Sum.inl.injEq,Prod.mk.injEq] at h;omega
  ·rw[if_neg hv] at h;cases hc:chkFs kks kk kn km kks.len (if k=21/\i≠0 then bound++[nm] else bound) 0 [] with
   | inl x =>
    obtain⟨er2,a2⟩:=x;rw[hc] at h;simp only[mustT,Sum.inl.injEq,Prod.mk.injEq] at h
    have:=chkFs_er kks _ _ _ _ _ _ _ er2 a2 hc
    omega
   | inr d =>
    rw[hc] at h;simp only[mustT] at h;by_cases hm:ruleT k n len done≠0/\ruleT kk kn kks.len d≠ruleT k n len done
    ·rw[if_pos hm] at h;simp only[Sum.inl.injEq,Prod.mk.injEq] at h;omega
    ·rw[if_neg hm] at h;exact chkFs_er kr _ _ _ _ _ _ _ er a h
theorem chkE_er {e:Ex}{bound:List (List UInt8)}{er:Nat}{a:Int}(h:chkE e bound=.inl (er,a)):er=130\/er=131:=by
 unfold chkE at h;by_cases hv:e.k=4/\¬e.nm ∈ bound
 ·rw[if_pos hv] at h;simp only[Sum.inl.injEq,Prod.mk.injEq] at h;omega
 ·rw[if_neg hv] at h;cases hc:chkFs e.kids e.k e.n e.nm e.kids.len bound 0 [] with
  | inl x =>
   obtain⟨er2,a2⟩:=x;rw[hc] at h;simp only[Sum.inl.injEq,Prod.mk.injEq] at h
   have:=chkFs_er _ _ _ _ _ _ _ _ er2 a2 hc
   omega
  | inr d=>rw[hc] at h;cases h
def endT (k n:Int)(len:Nat):Sum (Nat × Int) (List Int)->Sum (Nat × Int) Int
 | .inl x=>.inl x
 | .inr d=>.inr (ruleT k n len d)
theorem chkE_kids (e:Ex)(b:List (List UInt8))(h:e.k≠4):chkE e b=endT e.k e.n e.kids.len (chkFs e.kids e.k e.n e.nm e.kids.len b 0 []):=by
 unfold chkE;rw[if_neg (fun h2=>h h2.1)];cases chkFs e.kids e.k e.n e.nm e.kids.len b 0 []<;>rfl
def okR (k n:Int)(len:Nat):Prop :=
 (k=13\/k=14\/k=19\/k=25)\/(k=20/\(1<=n/\n<=10)/\(fixL 20 n).length=len+1)\/(k=21/\(1<=n/\n<=6)/\(fixL 21 n).length=len+1)
  \/ ((1<=k/\k<=24/\k≠5/\k≠20/\k≠21/\k≠13/\k≠14/\k≠19)/\(fixL k 0).length=len+1)
theorem callT_rng (n:Int):(callOf n).isSome=decide (1<=n/\n<=10):=by
 by_cases h:1<=n/\n<=10
 ·have h2:n=1\/n=2\/n=3\/n=4\/n=5\/n=6\/n=7\/n=8\/n=9\/n=10:=by omega
  rcases h2 with rfl|rfl|rfl|rfl|rfl|rfl|rfl|rfl|rfl|rfl<;>rfl
 ·rw[decide_eq_false h];cases hc:callOf n with
  | none=>rfl
  | some x =>
   have h1:=List.find?_some hc;have h2:=List.mem_of_find?_eq_some hc;simp only[callsL,List.mem_cons,List.not_mem_nil,or_false] at h2;simp only[beq_iff_eq] at h1;exfalso;rcases h2 with rfl|rfl|rfl|rfl|rfl|rfl|rfl|rfl|rfl|rfl<;>simp only at h1<;>omega
theorem quantT_rng (n:Int):(quantOf n).isSome=decide (1<=n/\n<=6):=by
 by_cases h:1<=n/\n<=6
 ·have h2:n=1\/n=2\/n=3\/n=4\/n=5\/n=6:=by omega
  rcases h2 with rfl|rfl|rfl|rfl|rfl|rfl<;>rfl
 ·rw[decide_eq_false h];cases hc:quantOf n with
  | none=>rfl
  | some x =>
   have h1:=List.find?_some hc;have h2:=List.mem_of_find?_eq_some hc;simp only[quantsL,List.mem_cons,List.not_mem_nil,or_false] at h2;simp only[beq_iff_eq] at h1;exfalso;rcases h2 with rfl|rfl|rfl|rfl|rfl|rfl<;>simp only at h1<;>omega
theorem opT_rng {k:Int}(h:(opOf k).isSome=true):8<=k/\k<=18:=by
 cases hc:opOf k with
 | none=>rw[hc] at h;cases h
 | some x =>
  have h1:=List.find?_some hc;have h2:=List.mem_of_find?_eq_some hc;simp only[opsL,List.mem_cons,List.not_mem_nil,or_false] at h2;simp only[beq_iff_eq] at h1;rcases h2 with rfl|rfl|rfl|rfl|rfl|rfl|rfl|rfl|rfl|rfl|rfl<;>simp only at h1<;>omega
theorem okR_of {k n:Int}{nm:List UInt8}{m:Nat}(h:okP k n nm m):okR k n m:=by
 obtain⟨h1,-,h2,-,-,-⟩:=h;unfold kidB at h2;unfold numB at h1;by_cases a0:k=1\/k=2\/k=3\/k=4\/k=22\/k=23
 ·have e1:(k==1||k==2||k==3||k==4||k==22||k==23)=true:=by rcases a0 with rfl|rfl|rfl|rfl|rfl|rfl<;>rfl
  rw[e1,if_pos rfl] at h2
  have:m=0:=by simpa using h2
  subst this;refine .inr (.inr (.inr ⟨by omega,?_⟩));rcases a0 with rfl|rfl|rfl|rfl|rfl|rfl<;>rfl
 by_cases a1:k=6\/k=7\/k=24
 ·have:m=1:=by rcases a1 with rfl|rfl|rfl<;>(simp at h2;omega)
  subst this;refine .inr (.inr (.inr ⟨by omega,?_⟩));rcases a1 with rfl|rfl|rfl<;>rfl
 by_cases a2:k=21
 ·subst a2;have hm:m=2:=by simp at h2;omega
  have hn:(quantOf n).isSome=true:=by simpa using h1
  rw[quantT_rng] at hn;have hn2:=of_decide_eq_true hn;subst hm;refine .inr (.inr (.inl ⟨rfl,hn2,?_⟩));have h3:n=1\/n=2\/n=3\/n=4\/n=5\/n=6:=by omega
  rcases h3 with rfl|rfl|rfl|rfl|rfl|rfl<;>rfl
 by_cases a3:k=19
 ·exact .inl (by omega)
 by_cases a4:k=20
 ·subst a4;have hn:(callOf n).isSome=true:=by simpa using h1
  rw[callT_rng] at hn;have hn2:=of_decide_eq_true hn;refine .inr (.inl ⟨rfl,hn2,?_⟩);have h3:n=1\/n=2\/n=3\/n=4\/n=5\/n=6\/n=7\/n=8\/n=9\/n=10:=by omega
  rcases h3 with rfl|rfl|rfl|rfl|rfl|rfl|rfl|rfl|rfl|rfl <;>
   (simp[callOf,callsL] at h2;simp[fixL];omega)
 by_cases a5:k=25
 ·exact .inl (by omega)
 have e1:(k==1||k==2||k==3||k==4||k==22||k==23)=false:=by simp;omega
 have e2:(k==6||k==7||k==24)=false:=by simp;omega
 have e3:(k==21)=false:=by simpa using a2
 have e4:(k==19)=false:=by simpa using a3
 have e5:(k==20)=false:=by simpa using a4
 have e6:(k==25)=false:=by simpa using a5
 rw[e1,e2,e3,e4,e5,e6] at h2;simp only[Bool.false_eq_true,if_false,Bool.and_eq_true,beq_iff_eq] at h2;have hr:=opT_rng h2.1;have hm:m=2:=by omega
 subst hm;by_cases a6:k=13\/k=14
 ·exact .inl (by omega)
 refine .inr (.inr (.inr ⟨by omega,?_⟩));have h3:k=8\/k=9\/k=10\/k=11\/k=12\/k=15\/k=16\/k=17\/k=18:=by omega
 rcases h3 with rfl|rfl|rfl|rfl|rfl|rfl|rfl|rfl|rfl<;>rfl
theorem okR_kind {k n:Int}{m:Nat}(h:okR k n m):1<=k/\k<=25/\k≠5:=by
 unfold okR at h;omega
end Go.Proofs.YtaihhnlfcndecaaGreatDoor

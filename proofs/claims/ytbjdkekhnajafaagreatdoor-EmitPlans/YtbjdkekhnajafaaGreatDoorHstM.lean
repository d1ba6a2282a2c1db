import Derived.Test.YtbjdkekhnajafaaGreatDoorPrgG
set_option maxRecDepth 100000
set_option maxHeartbeats 8000000
namespace Go.Proofs.YtbjdkekhnajafaaGreatDoor
open Go.ChangeShapes Go.WideShapes Go.ChangeAt Go.RowKit
set_option linter.unusedVariables false
set_option linter.unusedSimpArgs false
theorem Wd.kp {w w':World}{rb mb:Nat}(h:Wd w)(K:Kp rb mb w w')(h1:3≠rb)(h2:3≠mb):Wd w':=by
 have hl:=h.lt;obtain⟨t,fr,h⟩:=h;exact⟨t,fr,(K.block _ hl h1 h2).trans h⟩
def iO (w:World)(n0 rb mb:Nat)(bv:Value)(c:Nat)(r:Option (Rg × Int))(x:Ending)(w':World):Prop :=
 (∃v,x=.returned (.tuple #[v,.bool r.isSome])/\∀ s k,r=some (s,k)->gQ v k)/\(∀ s k,r=some (s,k)->RD w' n0 rb mb bv c s)/\Kp rb mb w w'
def oX (N:Nat):Prop:=∀ (e:Ex) (ao:Option Addr) (cap n0 rb mb:Nat) (bv:Value) (cells:List Int) (ar wi:Nat) (s:Rg) (c:Nat) (w:World),e.kids.size<N->cu e->wi<=5->ar<=wi->cells.length<=256->rb≠mb->n0<=rb->n0<=mb->3<n0->Wd w->RD w n0 rb mb bv c s->Inw w (Lt0 n0) bv cells->SlN w (Lt0 n0) e.kids ao ->
 Calls Tryz.prog 144 #[.pointer (some ⟨rb,0,none⟩),exN e ao cap,.agg #[.int .i64 (ar:Nat),.int .i64 (wi:Nat)]] w (iO w n0 rb mb bv c (rgE cells e ar wi s))
def Bi (cells:List Int)(e:Ex)(ar:Nat)(s1:Rg)(kd:List Int):Option (Rg × Int) :=
 if (aZ e.k e.n kd).2=0\/(aZ e.k e.n kd).1≠kd then none else
  match (if e.k=26 then cT cells e.n e.kids ar s1 else some s1) with
  | none=>none
  | some s2=>some (s2,(aZ e.k e.n kd).2)
def fU (cells:List Int)(e:Ex)(ar wi:Nat)(r:Fs)(i:Nat)(s:Rg)(ds:List Int):Option (Rg × Int) :=
 match rgF cells r e.k i ar wi s with
 | none=>none
 | some (s1,kd)=>Bi cells e ar s1 (ds++kd)
theorem xQ {cells:List Int}{e:Ex}{ar wi:Nat}{s:Rg}(h:gdE cells e ar wi s):rgE cells e ar wi s=fU cells e ar wi e.kids 0 (s.1+1,s.2) []:=by
 unfold rgE fU;rw[if_neg h];rfl
theorem yh {cells:List Int}{e:Ex}{ar wi i:Nat}{s:Rg}{ds:List Int}:fU cells e ar wi .nil i s ds=Bi cells e ar s ds:=by
 unfold fU;simp only[rgF,List.append_nil]
theorem uq {cells:List Int}{e x:Ex}{r:Fs}{ar wi i:Nat}{s:Rg}{ds:List Int}:fU cells e ar wi (Fs.ex x r) i s ds=(match rgE cells x (aL e.k i ar wi).1 (aL e.k i ar wi).2 s with|none=>none|some (s2,k)=>fU cells e ar wi r (i+1) s2 (ds++[k])):=by
 unfold fU;rw[eG];cases rgE cells x (aL e.k i ar wi).1 (aL e.k i ar wi).2 s with
 | none=>rfl
 | some z =>
  obtain⟨s2,k⟩:=z;simp only;cases rgF cells r e.k (i+1) ar wi s2 with
  | none=>rfl
  | some z =>
   obtain⟨s3,rest⟩:=z;simp only[List.append_assoc,List.cons_append,List.nil_append]
theorem nI {cells:List Int}{n:Int}{ks:Fs}{ar:Nat}{s s':Rg}(h:cT cells n ks ar s=some s'):s'.1=s.1:=by
 unfold cT at h;split at h
 ·cases h
 ·split at h
  ·cases h
  ·split at h
   ·injection h with h
    rw[<-h]
   ·split at h
    ·injection h with h
     rw[<-h]
    ·cases h
theorem oh (cells:List Int):∀ (f:Fs) (pk:Int) (i ar wi:Nat) (s s':Rg) (kd:List Int),rgF cells f pk i ar wi s=some (s',kd)->s.1+f.len<=s'.1
 | ⟨none⟩,pk,i,ar,wi,s,s',kd,h=>by
  simp only[rgF] at h;injection h with h
  injection h with h1 h2
  subst h1;exact Nat.le_refl _
 | ⟨some ⟨k,n,nm,a,ks,r⟩⟩,pk,i,ar,wi,s,s',kd,h=>by
  have h0:rgF cells ⟨some ⟨k,n,nm,a,ks,r⟩⟩ pk i ar wi s=_:=eG cells ⟨k,n,nm,a,ks⟩ r pk i ar wi s;rw[h0] at h;cases hx:rgE cells ⟨k,n,nm,a,ks⟩ (aL pk i ar wi).1 (aL pk i ar wi).2 s with
  | none=>rw[hx] at h;cases h
  | some z =>
   obtain⟨s2,k2⟩:=z;rw[hx] at h;simp only at h;cases hr:rgF cells r pk (i+1) ar wi s2 with
   | none=>rw[hr] at h;cases h
   | some z =>
    obtain⟨s3,rest⟩:=z;rw[hr] at h;injection h with h
    injection h with h1 h2
    subst h1;have h3:=oh cells r pk (i+1) ar wi s2 s3 rest hr;obtain⟨-,s1,kd1,hk,-,-,-,-,hkp⟩:=dw hx;have h4:=oh cells ks k 0 _ _ _ _ _ hk;have h5:s2.1=s1.1:=by
     simp only at hkp;split at hkp
     ·exact nI hkp
     ·injection hkp with hkp
      rw[hkp]
    simp only at h4;simp only[Fs.len];omega
theorem Bm {cells:List Int}{e:Ex}{ar wi:Nat}{s s':Rg}{k:Int}(h:rgE cells e ar wi s=some (s',k)):s.1+1<=s'.1:=by
 obtain⟨-,s1,kd1,hk,-,-,-,-,hkp⟩:=dw h;have h4:=oh cells _ _ 0 _ _ _ _ _ hk;have h5:s'.1=s1.1:=by
  split at hkp
  ·exact nI hkp
  ·injection hkp with hkp
   rw[hkp]
 simp only at h4;omega
theorem Fs.snoc_nv:∀ {f:Fs}{x:Ex},f.nv->x.nv->(f.snoc x).nv
 | ⟨none⟩,x,h,k=>⟨k.1,k.2,trivial⟩
 | ⟨some ⟨i,n,nm,a,ks,r⟩⟩,x,h,k=>⟨h.1,h.2.1,Fs.snoc_nv (f:=r) h.2.2 k⟩
theorem Row.inA {w:World}{o:Nat->Nat}{i:Nat}{v:Value}{n:Nat}{ds:List Int}(h:Row w o i 3 1 v n (ds.map (Value.int .i64)))(hl:ds.length=n):InA w v ds:=by
 subst hl;rcases Nat.eq_zero_or_pos ds.length with h0|h0
 ·obtain⟨ao,cap,rfl⟩:=h.form;exact⟨ao,cap,rfl,.inl (List.eq_nil_of_length_eq_zero h0)⟩
 ·obtain⟨g,cap,rfl,-,-,-,hg,hc,-⟩:=h.pos h0;refine⟨_,cap,rfl,.inr ⟨g,0,rfl,trivial,hg,fun j x hx=>?_⟩⟩;have hj:j<ds.length:=by
   rcases Nat.lt_or_ge j ds.length with h1|h1
   ·exact h1
   ·rw[List.getElem?_eq_none h1] at hx;cases hx
  rw[Nat.zero_add,hc j (by omega)];simp[hx]
theorem Row.pks {w:World}{o:Nat->Nat}{i:Nat}{v:Value}{n:Nat}{ps:List Value}(h:Row w o i 141 1 v n ps)(hp:∀ u,u ∈ ps->∃ty x,u=.iface ty x):PKs w v n:=by
 rcases Nat.eq_zero_or_pos n with h0|h0
 ·obtain⟨ao,cap,rfl⟩:=h.form;exact⟨ao,cap,rfl,.inl h0⟩
 ·have hlen:=h.len;obtain⟨g,cap,rfl,-,-,-,hg,hc,-⟩:=h.pos h0;refine⟨_,cap,rfl,.inr ⟨g,0,rfl,hg,fun j hj=>?_⟩⟩;have hx:ps[j]?=some (ps[j]'(by omega)):=List.getElem?_eq_getElem (by omega);obtain⟨ty,u,hu⟩:=hp _ (List.mem_of_getElem? hx);refine⟨ty,u,?_⟩;rw[Nat.zero_add,hc j (by omega),hx,hu]
theorem PKs.below {w w':World}{v:Value}{n:Nat}(h:PKs w v n)(b:Below w.heap.size w w'):PKs w' v n:=by
 obtain⟨ak,ck,rfl,h⟩:=h;refine⟨ak,ck,rfl,?_⟩;rcases h with h|⟨g,off,rfl,hg,hc⟩
 ·exact .inl h
 ·refine .inr ⟨g,off,rfl,Nat.lt_of_lt_of_le hg b.size,fun j hj=>?_⟩;obtain⟨ty,u,hu⟩:=hc j hj;exact⟨ty,u,(b.cell (p:=⟨g,off+j,none⟩) hg).trans hu⟩
theorem ui (k n:Int)(ds:List Int):(aZ k n ds).1.length<=3+ds.length:=by
 have hi:∀ (P:Prop) [Decidable P] (a b:List Int × Int),a.1.length<=3+ds.length->b.1.length<=3+ds.length->(if P then a else b).1.length<=3+ds.length:=by
  intro P _ a b ha hb;split
  ·exact ha
  ·exact hb
 unfold aZ
 repeat' apply hi
 all_goals (simp<;>omega)
theorem PKs.kp {rb mb:Nat}{w w':World}{ak:Option Addr}{ck n:Nat}(h:PKs w (.slice ak n ck) n)(K:Kp rb mb w w')(hg:0<n->∀ g off,ak=some ⟨g,off,none⟩->g≠rb/\g≠mb):PKs w' (.slice ak n ck) n:=by
 obtain⟨ak',ck',he,h⟩:=h;injection he with h1 h2 h3
 subst h1;subst h3;refine⟨ak,ck,rfl,?_⟩;rcases h with h|⟨g,off,rfl,hgl,hc⟩
 ·exact .inl h
 ·rcases Nat.eq_zero_or_pos n with h0|h0
  ·exact .inl h0
  ·obtain⟨g1,g2⟩:=hg h0 g off rfl;refine .inr ⟨g,off,rfl,Nat.lt_of_lt_of_le hgl K.size,fun j hj=>?_⟩;obtain⟨ty,u,hu⟩:=hc j hj;exact⟨ty,u,(K.cell hgl g1 g2 _).trans hu⟩
theorem D9 {w:World}{b:Nat}{a0 a1 a2:Value}{t:TypeId}(h:w.heap[b]?=some (.cells #[a0,a1,a2] t (0,0)))(v:Value):(w.setCell ⟨b,2,none⟩ v).heap[b]?=some (.cells #[a0,a1,v] t (0,0)) :=
 (Blk.set (o:=fun _=>0) (i:=0) ⟨h,rfl⟩ 2 v).1
theorem yn:(Tryz.prog.info? 141).map (fun i=>(i.zero,i.size,i.bytes))=some (some .nilIface,1,16):=by kernel_rfl
theorem Kp.step {rb mb i:Nat}{a w w':World}{o o':Nat->Nat}(K:Kp rb mb a w)(s:aa (fun k=>k=i) w o w' o')(h:∀ k,k<a.heap.size->o k≠i):Kp rb mb a w' :=
 ⟨s.os.trans K.os,s.tape.trans K.tape,s.output.trans K.output,Nat.le_trans K.size s.size,fun k hk h1 h2=>(s.block k (by have:=K.size;omega) (h k hk)).trans (K.block k hk h1 h2)⟩
theorem Kp.toStep {rb mb:Nat}{w w':World}{o:Nat->Nat}(K:Kp rb mb w w')(h1:o rb=1)(h2:o mb=1):aa (fun k=>k=1) w o w' (ae w o 0) :=
 ⟨K.os,K.tape,K.output,K.size,fun k hk=>aC hk,fun k hk hn=>K.block k hk (fun e=>hn (by rw[e];exact h1)) (fun e=>hn (by rw[e];exact h2))⟩
theorem Below.toStep {w w':World}{o:Nat->Nat}{I:Nat->Prop}(b:Below w.heap.size w w'):aa I w o w' (ae w o 0):=⟨b.os,b.tape,b.output,b.size,fun k hk=>aC hk,fun k hk _=>b.block k hk⟩
theorem RD.step {w w':World}{n0 rb mb c i:Nat}{bv:Value}{s:Rg}{o o':Nat->Nat}(h:RD w n0 rb mb bv c s)(st:aa (fun k=>k=i) w o w' o')(h1:o rb≠i)(h2:o mb≠i)(h3:∀ k,k<n0->o k≠i):RD w' n0 rb mb bv c s:=by
 refine⟨(st.block _ (lt_of_block h.blk) h1).trans h.blk,?_,h.le,h.fit⟩;obtain⟨m,hm,hp⟩:=h.mp;exact⟨m,hm,hp.mono (st.block _ hp.lt h2) (fun k hk hl=>st.block k hl (h3 k hk)) st.size⟩
theorem q8 {N:Nat}(IH:oX N):oX (N+1):=by
 intro e ao cap n0 rb mb bv cells ar wi s c w hN hf hwi har hcl hne hr0 hm0 hG hWd h hn S;obtain⟨k0,n,nm,a,f⟩:=e;simp only at hN S;have hin:=hn;obtain⟨aoc,capc,hbv,-⟩:=hin;subst hbv;have hlen:=hf.len;simp only at hlen;obtain⟨Z,hZ⟩:∃Z,Z=rgE cells ⟨k0,n,nm,a,f⟩ ar wi s:=⟨_,rfl⟩
 rw[<-hZ];have HZ:Hid (Z=rgE cells ⟨k0,n,nm,a,f⟩ ar wi s):=hZ;clear hZ;obtain⟨w0,hw0⟩:∃w0,w0=(w.alloc (.cells #[.int .i64 k0,.int .i64 n,stv nm,.slice ao f.len cap] 34)).alloc (.cells #[.int .i64 (ar:Nat),.int .i64 (wi:Nat)] 200):=⟨_,rfl⟩
 have B0:Below w.heap.size w w0:=by rw[hw0];exact((Below.refl _ w).alloc (Nat.le_refl _) _).alloc (by simp) _
 have E0:w0.heap[w.heap.size]?=some (.cells #[.int .i64 k0,.int .i64 n,stv nm,.slice ao f.len cap] 34):=by
  rw[hw0];exact(Below.heap_alloc _ _ _ (by simp)).trans (heap_alloc_new w _)
 have T0:w0.heap[w.heap.size+1]?=some (.cells #[.int .i64 (ar:Nat),.int .i64 (wi:Nat)] 200):=by
  rw[hw0]
  have:=heap_alloc_new (w.alloc (.cells #[.int .i64 k0,.int .i64 n,stv nm,.slice ao f.len cap] 34)) (.cells #[.int .i64 (ar:Nat),.int .i64 (wi:Nat)] 200)
  simpa using this
 have R0:=h.below B0;have hrl:=lt_of_block h.blk;have hml:=h.ltm;have KK:Kp rb mb w w0:=Kp.ofBelow B0;rw[ah];go_enter Tryz.func144,Tryz.ntmps144;go_upto_region 1 with fail;rw[<-hw0];obtain⟨bx,hbx⟩:∃bx,bx=w.heap.size:=⟨_,rfl⟩
 rw[<-hbx] at E0 T0 ⊢;have HBX:Hid (bx=w.heap.size):=hbx;have hb1:bx≠rb:=by omega
 have hb2:bx≠mb:=by omega
 have hs1:bx+1≠rb:=by omega
 have hs2:bx+1≠mb:=by omega
 have hn0w:n0<=w.heap.size:=by omega
 clear hbx hw0 hrl hml h;obtain⟨r0,r1,r2,rf⟩:=it R0.blk;have hs:=R0.le;have F1:=D9 R0.blk (.int .i64 ((s.1:Int)+1));have K1:=KK.set ⟨rb,2,none⟩ (.int .i64 ((s.1:Int)+1)) (.inr (.inl rfl));have E1:=(heap_setCell_other w0 ⟨rb,2,none⟩ bx (.int .i64 ((s.1:Int)+1)) hb1).trans E0;have T1:=(heap_setCell_other w0 ⟨rb,2,none⟩ (bx+1) (.int .i64 ((s.1:Int)+1)) hs1).trans T0;have M1:∃m,m+c<=s.1/\MpN (w0.setCell ⟨rb,2,none⟩ (.int .i64 ((s.1:Int)+1))) (Lt0 n0) mb m s.2:=by
  obtain⟨m,hm,hp⟩:=R0.mp;exact⟨m,hm,hp.mono (heap_setCell_other w0 _ _ _ (Ne.symm hne)) (fun k hk hl=>heap_setCell_other w0 _ k _ (by have hk:k<n0:=hk;show k≠rb;omega)) (by simp)⟩
 have hfit:=R0.fit;clear B0 E0 T0 KK R0;go_upto_region 2 with fail;generalize w0.setCell ⟨rb,2,none⟩ (.int .i64 ((s.1:Int)+1))=w1 at *;clear r0 r1 r2 rf;obtain⟨r0,r1,r2,rf⟩:=it F1;obtain⟨p0,p1,p2,p3,pf⟩:=aI E1;obtain⟨t0,t1,tf⟩:=eY T1;have BAD:∀ {w2:World},Z=none->Below w1.heap.size w1 w2->Hid (iO w n0 rb mb (.slice aoc cells.length capc) c Z (.returned (.tuple #[.nilIface,.bool false])) w2):=by
  intro w2 hz b2;rw[hz];exact⟨⟨_,rfl,fun s k h=>(by cases h)⟩,fun s k h=>(by cases h),K1.trans (Kp.ofBelow b2)⟩
 by_cases hq1:4096<s.1+1
 ·have HR:=BAD (by rw[HZ.out];exact fR (fun hg=>hg (.inl hq1))) (Below.refl _ w1);have hI:(4096:Int)<(s.1:Int)+1:=by omega
  clear BAD HZ M1 E1 T1 F1 K1;go_wp2;exact bodyPost_ret (v:=.tuple #[.nilIface,.bool false]) (by simp[results,Tryz.results144,go_sem]) rfl HR.out
 have hI:¬(4096:Int)<(s.1:Int)+1:=by omega
 by_cases hq2:4<wi
 ·have HR:=BAD (by rw[HZ.out];exact fR (fun hg=>hg (.inr (.inl hq2)))) (Below.refl _ w1);have hJ:(4:Int)<(wi:Int):=by omega
  clear BAD HZ M1 E1 T1 F1 K1;go_wp2;exact bodyPost_ret (v:=.tuple #[.nilIface,.bool false]) (by simp[results,Tryz.results144,go_sem]) rfl HR.out
 have hJ:¬(4:Int)<(wi:Int):=by omega
 have hWd1:Wd w1:=hWd.kp K1 (by omega) (by omega);have c1:=pX ⟨k0,n,nm,a,f⟩ ao cap w1 hWd1 hf.nm;rw[ah] at c1;simp only at c1;go_wp2_with fail;refine c1.mono ?_;rintro z w2 ⟨rfl,b2⟩;have F2:=(b2.block _ (lt_of_block F1)).trans F1;have E2:=(b2.block _ (lt_of_block E1)).trans E1;have T2:=(b2.block _ (lt_of_block T1)).trans T1;cases hnmP:nmP k0 nm with
 | false =>
  have HR:=BAD (by rw[HZ.out];exact fR (fun hg=>hg (.inr (.inr (.inl hnmP))))) b2;clear c1 BAD HZ M1 E1 T1 F1 K1 p0 p1 p2 p3 pf t0 t1 tf r0 r1 r2 rf;obtain⟨p0,p1,p2,p3,pf⟩:=aI E2;obtain⟨t0,t1,tf⟩:=eY T2;clear E2 T2 F2;go_wp2;exact bodyPost_ret (v:=.tuple #[.nilIface,.bool false]) (by simp[results,Tryz.results144,go_sem]) rfl HR.out
 | true =>
 have c2:=mS ⟨k0,n,nm,a,f⟩ ao cap ar wi rb cells.length w2 aoc capc _ _ F2;rw[ah] at c2;simp only at c2;clear c1 p0 p1 p2 p3 pf t0 t1 tf r0 r1 r2 rf;obtain⟨p0,p1,p2,p3,pf⟩:=aI E2;obtain⟨t0,t1,tf⟩:=eY T2;go_wp2_with fail;refine c2.mono ?_;rintro z w3 ⟨rfl,b3⟩;have b13:Below w1.heap.size w1 w3:=b2.trans (b3.mono b2.size);have F3:=(b3.block _ (lt_of_block F2)).trans F2;have E3:=(b3.block _ (lt_of_block E2)).trans E2;have T3:=(b3.block _ (lt_of_block T2)).trans T2;clear c2 p0 p1 p2 p3 pf t0 t1 tf F2 E2 T2;cases hnuP:nuP cells.length k0 n ar with
 | false =>
  have HR:=BAD (by rw[HZ.out];exact fR (fun hg=>hg (.inr (.inr (.inr hnuP))))) b13;obtain⟨p0,p1,p2,p3,pf⟩:=aI E3;obtain⟨t0,t1,tf⟩:=eY T3;clear BAD HZ M1 E1 T1 F1 K1 E3 T3 F3;go_wp2;exact bodyPost_ret (v:=.tuple #[.nilIface,.bool false]) (by simp[results,Tryz.results144,go_sem]) rfl HR.out
 | true =>
 have hgd:gdE cells ⟨k0,n,nm,a,f⟩ ar wi s:=by
  rintro (h|h|h|h)
  ·omega
  ·omega
  ·simp only at h;rw[hnmP] at h;cases h
  ·simp only at h;rw[hnuP] at h;cases h
 have HZ2:Hid (fU cells ⟨k0,n,nm,a,f⟩ ar wi f 0 (s.1+1,s.2) []=Z):=(HZ.out.trans (xQ hgd)).symm;have K3:=K1.trans (Kp.ofBelow b13);have R3:RD w3 n0 rb mb (.slice aoc cells.length capc) (c+1) (s.1+1,s.2):=by
  refine⟨F3,?_,by show s.1+1<=4096;omega,hfit⟩;obtain⟨m,hm,hp⟩:=M1;exact⟨m,by show m+(c+1)<=s.1+1;omega,hp.mono (b13.block _ hp.lt) (fun k _ hl=>b13.block k hl) b13.size⟩
 have hnum:Hid (nuP cells.length k0 n ar=true):=hnuP;clear BAD HZ M1 E1 T1 F1 K1 F3 b2 b3 b13 hgd hnmP hnuP hWd1;obtain⟨o3,ho3⟩:∃o3:Nat->Nat,o3=fun k=>if k=rb\/k=mb then 1 else 0:=⟨_,rfl⟩
 have or3:o3 rb=1:=by rw[ho3];simp
 have om3:o3 mb=1:=by rw[ho3];simp
 have ol3:∀ k,k≠rb->k≠mb->o3 k=0:=fun k h1 h2=>by rw[ho3];simp[h1,h2]
 have ob3:∀ k,o3 k<=1:=fun k=>by rw[ho3];simp only;split<;>omega
 have BE3:Blk w3 o3 0 bx (.cells #[.int .i64 k0,.int .i64 n,stv nm,.slice ao f.len cap] 34 (0,0)):=⟨E3,ol3 _ hb1 hb2⟩
 have BT3:Blk w3 o3 0 (bx+1) (.cells #[.int .i64 (ar:Nat),.int .i64 (wi:Nat)] 200 (0,0)):=⟨T3,ol3 _ hs1 hs2⟩
 have L3:Hid (∀ k,k<w.heap.size->o3 k<=1):=fun k _=>ob3 k;clear ho3 ol3 ob3 E3 T3;have hbig:f.len<=1000000000:=hlen;obtain⟨ip,hip,hzp0,hzp1,hzp2⟩:=aH yn;obtain⟨ii,hii,hzi0,hzi1,hzi2⟩:=aH tw;obtain⟨p0,p1,p2,p3,pf⟩:=aI BE3.1;go_wp2;go_loopw [8,9,47] (fun v8 v9 v47 wr=>∃(d r:Fs) (o:Nat->Nat) (ps:List Value) (ds:List Int) (s1:Rg),Hid (f=d.app r)/\v47=.int .i64 (d.len:Nat)/\Row wr o 2 141 1 v8 d.len ps/\Hid (∀ u,u ∈ ps->∃ty x,u=.iface ty x)/\Row wr o 3 3 1 v9 d.len (ds.map (Value.int .i64))/\ds.length=d.len/\d.len<=s1.1/\Hid d.nv/\RD wr n0 rb mb (.slice aoc cells.length capc) (c+1) s1/\o rb=1/\o mb=1/\Blk wr o 0 bx (.cells #[.int .i64 k0,.int .i64 n,stv nm,.slice ao f.len cap] 34 (0,0))/\Blk wr o 0 (bx+1) (.cells #[.int .i64 (ar:Nat),.int .i64 (wi:Nat)] 200 (0,0))/\Hid (∀ k,k<w.heap.size->o k<=1)/\Kp rb mb w wr/\Hid (fU cells ⟨k0,n,nm,a,f⟩ ar wi r d.len s1 ds=Z)) (fun _ _ v47 _=>f.len-(intOf v47).toNat)
 case atStart=>exact⟨.nil,f,o3,[],[],_,rfl,by show _=Value.int .i64 ((0:Nat):Int);rfl,Row.nil _ _ _ _ _,fun u hu=>(by cases hu),Row.nil _ _ _ _ _,rfl,Nat.zero_le _,trivial,R3,or3,om3,BE3,BT3,L3,K3,HZ2.out⟩
 case round =>
  clear BE3 BT3 L3 R3 K3 HZ2 or3 om3 p0 p1 p2 p3 pf;obtain⟨d,r,o,ps,ds,s1,hk,rfl,R8,hps,R9,hdl,hds,hnv,RD1,or1,om1,BE1,BT1,L1,K1,HA⟩:=hrel;have hlk:f.len=d.len+r.len:=by rw[hk.out,Fs.len_app]
  obtain⟨p0,p1,p2,p3,pf⟩:=aI BE1.1;obtain⟨t0,t1,tf⟩:=eY BT1.1;cases r using Fs.on with
  | nil =>
   have hlt:¬(d.len:Int)<(f.len:Int):=by simp only[Fs.len] at hlk;omega
   have HA2:Hid (Bi cells ⟨k0,n,nm,a,f⟩ ar s1 ds=Z):=by show _=Z;rw[<-HA.out];exact yh.symm
   clear HA;have hfd:Hid (f=d):=by show f=d;rw[hk.out];exact jv d
   have hfl:Hid (d.len=f.len):=by show d.len=f.len;rw[hfd.out]
   have HDL:Hid (ds.length=d.len):=hdl;have hle:=RD1.le;have I9:=R9.inA hdl;have P8:=R8.pks hps.out;obtain⟨a9,c9,rfl⟩:=R9.form;obtain⟨a8,c8,rfl⟩:=R8.form;have HQ8:Hid (0<d.len->∀ g of,a8=some ⟨g,of,none⟩->g≠rb/\g≠mb):=by
    intro hd g of ha;obtain⟨g',cap',he,ho,-⟩:=R8.pos hd;injection he with he
    rw[ha] at he;injection he with he
    injection he with he1 he2
    subst he1;exact⟨fun h=>(by rw[h,or1] at ho;cases ho),fun h=>(by rw[h,om1] at ho;cases ho)⟩
   have E1:=BE1.1;have T1:=BT1.1;have S1:SlN wr (Lt0 n0) f ao:=S.mono (fun i hp hl=>K1.block i hl (by have hp:i<n0:=hp;omega) (by have hp:i<n0:=hp;omega)) K1.size (fun _ h _=>h);have N1:Inw wr (Lt0 n0) (.slice aoc cells.length capc) cells:=hn.mono (fun i hp hl=>K1.block i hl (by have hp:i<n0:=hp;omega) (by have hp:i<n0:=hp;omega)) K1.size (fun _ h _=>h);have c1:=yM k0 n nm a f ao cap wr _ ds I9 (by omega);rw[ah] at c1;simp only at c1;clear R8 R9 BE1 BT1 or1 om1 L1 hps hlk hdl;obtain⟨pp,hpp⟩:∃pp,pp=aZ k0 n ds:=⟨_,rfl⟩
   rw[<-hpp] at c1;have HP:Hid (pp=aZ k0 n ds):=hpp;clear hpp;obtain⟨xs,is⟩:=pp;go_wp2_with fail;refine c1.mono ?_;rintro z w2 ⟨lv,rfl,L2,b2⟩;simp only at L2;obtain⟨al,cl,hlv,hlx⟩:=L2;have L2:Inw w2 (Nw wr.heap.size) lv xs:=⟨al,cl,hlv,hlx⟩
   subst hlv;clear hlx;have RDb1:rb<w2.heap.size:=Nat.lt_of_lt_of_le (lt_of_block RD1.blk) b2.size;have RDb2:mb<w2.heap.size:=Nat.lt_of_lt_of_le RD1.ltm b2.size;have b3:Below wr.heap.size wr (w2.alloc (.cells #[.slice al xs.length cl,.int .i64 is] 252)):=b2.alloc b2.size _;have b23:Below w2.heap.size w2 (w2.alloc (.cells #[.slice al xs.length cl,.int .i64 is] 252)):=(Below.refl _ w2).alloc (Nat.le_refl _) _;have X3:(w2.alloc (.cells #[.slice al xs.length cl,.int .i64 is] 252)).heap[w2.heap.size]?=some (.cells #[.slice al xs.length cl,.int .i64 is] 252 (0,0)):=heap_alloc_new w2 _;have L3:=L2.below b23;have I93:=I9.below b3;have P83:=P8.below b3;have E3:=(b3.block _ (lt_of_block E1)).trans E1;have T3:=(b3.block _ (lt_of_block T1)).trans T1;have RD3:=RD1.below b3;have S3:=S1.belowP b3;have N3:=N1.below b3;have K3:=K1.trans (Kp.ofBelow b3);clear c1 p0 p1 p2 p3 pf t0 t1 tf E1 T1 RD1 S1 N1 K1 I9 P8 L2 b2 b3 b23;go_upto_region 15 with fail;generalize w2.alloc (.cells #[.slice al xs.length cl,.int .i64 is] 252)=w3 at *;have hfb1:w2.heap.size≠rb:=by have:=RDb1;omega
   have hfb2:w2.heap.size≠mb:=by have:=RDb2;omega
   clear RDb1 RDb2;generalize w2.heap.size=fb at *;obtain⟨p0,p1,p2,p3,pf⟩:=aI E3;obtain⟨t0,t1,tf⟩:=eY T3;obtain⟨y0,y1,yf⟩:=eY X3;have HFIN:Hid (Z=if is=0\/xs≠ds then none else match (if k0=26 then cT cells n f ar s1 else some s1) with|none=>none|some s2=>some (s2,is)):=by
    show Z=_;rw[<-HA2.out];unfold Bi;simp only;rw[<-HP.out]
   clear HA2;have BAD:∀ {w4:World},Z=none->Kp rb mb w3 w4->Hid (iO w n0 rb mb (.slice aoc cells.length capc) c Z (.returned (.tuple #[.nilIface,.bool false])) w4):=by
    intro w4 hz k4;rw[hz];exact⟨⟨_,rfl,fun s k h=>(by cases h)⟩,fun s k h=>(by cases h),K3.trans k4⟩
   have hxl:Hid (xs.length<=1000000000):=by
    show xs.length<=1000000000;have h1:=ui k0 n ds;rw[<-HP.out] at h1;have h2:=HDL.out;simp only at h1;omega
   by_cases his:is=0
   ·have hb0:(is==0)=true:=by simpa using his
    have HR:=BAD (by rw[HFIN.out,if_pos (.inl his)]) (Kp.refl _ _ w3);clear BAD HFIN HP RD3 S3 N3 K3 I93 P83 L3 E3 T3 X3 his;go_wp2;exact bodyPost_ret (v:=.tuple #[.nilIface,.bool false]) (by simp[results,Tryz.results144,go_sem]) rfl HR.out
   have hb0:(is==0)=false:=by simpa using his
   have c2:=wC w3 _ _ xs ds (L3.mono (fun _ _ _=>rfl) (Nat.le_refl _) (fun _ _ _=>trivial)) I93 (hxl.out);obtain⟨sm,hsm⟩:∃sm,sm=decide (xs=ds):=⟨_,rfl⟩
   rw[<-hsm] at c2;have HSM:Hid (sm=decide (xs=ds)):=hsm;clear hsm;go_wp2_with fail;refine c2.mono ?_;rintro z w4 ⟨rfl,b4⟩;have E4:=(b4.block _ (lt_of_block E3)).trans E3;have T4:=(b4.block _ (lt_of_block T3)).trans T3;have X4:=(b4.block _ (lt_of_block X3)).trans X3;have RD4:=RD3.below b4;have S4:=S3.belowP b4;have N4:=N3.below b4;have P84:=P83.below b4;have K4:=K3.trans (Kp.ofBelow b4);cases sm with
   | false =>
    have hxd:xs≠ds:=of_decide_eq_false HSM.out.symm;have HR:=BAD (by rw[HFIN.out,if_pos (.inr hxd)]) (Kp.ofBelow b4);clear c2 BAD HFIN HP RD3 S3 N3 K3 I93 P83 L3 E3 T3 X3 his hxd p0 p1 p2 p3 pf t0 t1 tf y0 y1 yf E4 T4 X4 RD4 S4 N4 P84 K4 b4 HSM;go_wp2;exact bodyPost_ret (v:=.tuple #[.nilIface,.bool false]) (by simp[results,Tryz.results144,go_sem]) rfl HR.out
   | true =>
   have hxd:xs=ds:=of_decide_eq_true HSM.out.symm;have HFIN2:Hid (Z=match (if k0=26 then cT cells n f ar s1 else some s1) with|none=>none|some s2=>some (s2,is)):=by show Z=_;rw[HFIN.out,if_neg (by rintro (h|h);exact his h;exact h hxd)]
   have hnk:Hid ((k0=17\/k0=18\/k0=21->d.len=2)/\(k0=19->d.len=3)/\(k0=24\/k0=26->d.len=1)):=by
    have hx:d.len=(aZ k0 n ds).1.length:=by rw[<-HP.out];show d.len=xs.length;rw[hxd,HDL.out]
    refine⟨?_,?_,?_⟩
    ·rintro (rfl|rfl|rfl)
     ·rw[hx];rfl
     ·rw[hx];rfl
     ·rw[hx,mj];unfold qfP;split
      ·rfl
      ·split<;>rfl
    ·rintro rfl;rw[hx];rfl
    ·rintro (rfl|rfl)
     ·rw[hx];rfl
     ·rw[hx];rfl
   have LAID:∀ w5,PKs w5 (.slice a8 d.len c8) d.len->Calls Tryz.prog 220 #[.agg #[.int .i64 k0,.int .i64 n,stv nm,.slice ao f.len cap],.agg #[.int .i64 is],.slice a8 d.len c8,.int .i64 (ar:Nat)] w5 fun x w'=>(∃v,x=.returned v/\gQ v is)/\Below w5.heap.size w5 w':=fun w5 hp=>Cd k0 n nm f ao cap is _ d.len ar w5 hp hnk.out.1 hnk.out.2.1 hnk.out.2.2;clear c2 BAD HFIN HP RD3 S3 N3 K3 I93 P83 L3 E3 T3 X3 his hxd p0 p1 p2 p3 pf t0 t1 tf y0 y1 yf b4 HSM;obtain⟨p0,p1,p2,p3,pf⟩:=aI E4;obtain⟨t0,t1,tf⟩:=eY T4;obtain⟨y0,y1,yf⟩:=eY X4;by_cases h26:k0=26
   ·subst h26;have hd1:=hnk.out.2.2 (.inr rfl);obtain⟨x,hx⟩:=sr (hfl.out.symm.trans hd1);have hnu:=hnum.out;have hin:0<=n/\n<(cells.length:Int):=by simp[nuP] at hnu;omega
    obtain⟨i,rfl⟩:∃i:Nat,n=(i:Nat):=⟨n.toNat,by omega⟩
    have hxnv:x.nv:=by
     have:=hnv.out
     rw[<-hfd.out,hx] at this;exact⟨this.1,this.2.1⟩
    have hfx:cu x:=cu.kid (e:=⟨26,(i:Nat),nm,a,f⟩) (d:=.nil) hf hx;have S4x:SlN w4 (Lt0 n0) (Fs.ex x .nil) ao:=by rw[<-hx];exact S4
    have c3:=AA 26 i nm x ao cap n0 rb mb _ cells ar wi s1 w4 (by omega) hcl hfx hxnv (by omega) (by omega) hne hm0 c RD4 N4 S4x;have hl1:f.len=1:=by rw[hx];rfl
    have hk26:Hid (Z=match cT cells (i:Nat) (Fs.ex x .nil) ar s1 with|none=>none|some s2=>some (s2,is)):=by show Z=_;rw[HFIN2.out,if_pos rfl,hx]
    rw[<-hl1] at c3;generalize cT cells (i:Nat) (Fs.ex x .nil) ar s1=R at *;have HD1:Hid (d.len=1):=hd1;clear HFIN2 S4 N4 S4x hxnv hfx hnu hin hl1 hx hd1 hnum hfd;go_wp2_with fail;refine c3.mono ?_;rintro z w5 ⟨rfl,hR5,K5⟩;have KW5:=K4.trans K5;have P85:=P84.kp K5 HQ8.out;have E5:=(K5.block _ (lt_of_block E4) hb1 hb2).trans E4;have T5:=(K5.block _ (lt_of_block T4) hs1 hs2).trans T4;have X5:=(K5.block _ (lt_of_block X4) hfb1 hfb2).trans X4;clear c3 K4 K5 P84 E4 T4 X4 RD4 p0 p1 p2 p3 pf t0 t1 tf y0 y1 yf;obtain⟨p0,p1,p2,p3,pf⟩:=aI E5;obtain⟨t0,t1,tf⟩:=eY T5;obtain⟨y0,y1,yf⟩:=eY X5;cases R with
    | none =>
     have HR:Hid (iO w n0 rb mb (.slice aoc cells.length capc) c Z (.returned (.tuple #[.nilIface,.bool false])) w5):=by
      have hz:Z=none:=hk26.out;rw[hz];exact⟨⟨_,rfl,fun s k h=>(by cases h)⟩,fun s k h=>(by cases h),KW5⟩
     clear hk26 LAID hR5 KW5 P85 E5 T5 X5 hnk;simp only[Option.isSome_none];go_wp2;exact bodyPost_ret (v:=.tuple #[.nilIface,.bool false]) (by simp[results,Tryz.results144,go_sem]) rfl HR.out
    | some s2 =>
     have RD5:=hR5 s2 rfl;have HFIN3:Hid (Z=some (s2,is)):=hk26.out;have c4:=LAID w5 P85;clear hk26 LAID hR5 hnk;simp only[Option.isSome_some];go_wp2_with fail;refine c4.mono ?_;rintro z w6 ⟨⟨v,rfl,hv⟩,b6⟩;have HR:Hid (iO w n0 rb mb (.slice aoc cells.length capc) c Z (.returned (.tuple #[v,.bool true])) w6):=by
      rw[HFIN3.out];refine⟨⟨v,rfl,fun s k h=>?_⟩,fun s k h=>?_,KW5.trans (Kp.ofBelow b6)⟩
      ·injection h with h
       injection h with h1 h2
       rw[<-h2];exact hv
      ·injection h with h
       injection h with h1 h2
       rw[<-h1];exact RD5.below b6
     clear c4 HFIN3 hv b6 RD5 KW5 P85 E5 T5 X5 p0 p1 p2 p3 pf t0 t1 tf y0 y1 yf;go_wp2;exact bodyPost_ret (v:=.tuple #[v,.bool true]) (by simp[results,Tryz.results144,go_sem]) rfl HR.out
   ·have hb26:(k0==26)=false:=by simpa using h26
    have HFIN3:Hid (Z=some (s1,is)):=by show Z=_;rw[HFIN2.out,if_neg h26]
    have c3:=LAID w4 P84;clear HFIN2 LAID h26 hnk S4 N4;go_wp2_with fail;refine c3.mono ?_;rintro z w5 ⟨⟨v,rfl,hv⟩,b5⟩;have HR:Hid (iO w n0 rb mb (.slice aoc cells.length capc) c Z (.returned (.tuple #[v,.bool true])) w5):=by
     rw[HFIN3.out];refine⟨⟨v,rfl,fun s k h=>?_⟩,fun s k h=>?_,K4.trans (Kp.ofBelow b5)⟩
     ·injection h with h
      injection h with h1 h2
      rw[<-h2];exact hv
     ·injection h with h
      injection h with h1 h2
      rw[<-h1];exact(RD4.below b5).less
    clear c3 HFIN3 hv b5 RD4 K4 P84 E4 T4 X4 p0 p1 p2 p3 pf t0 t1 tf y0 y1 yf;go_wp2;exact bodyPost_ret (v:=.tuple #[v,.bool true]) (by simp[results,Tryz.results144,go_sem]) rfl HR.out
  | cons kk kn km ka kks kr =>
   have hlt:(d.len:Int)<(f.len:Int):=by simp only[Fs.len] at hlk;omega
   have hl3:d.len<f.len:=by omega
   have hsz:f.size=d.size+(kks.size+kr.size+1):=by rw[hk.out,Fs.size_app];rfl
   have hfk:cu ⟨kk,kn,km,ka,kks⟩:=hf.kid (d:=d) (r:=kr) hk.out;have S1:SlN wr (Lt0 n0) f ao:=S.mono (fun i hp hl=>K1.block i hl (by have hp:i<n0:=hp;omega) (by have hp:i<n0:=hp;omega)) K1.size (fun _ h _=>h);have N1:Inw wr (Lt0 n0) (.slice aoc cells.length capc) cells:=hn.mono (fun i hp hl=>K1.block i hl (by have hp:i<n0:=hp;omega) (by have hp:i<n0:=hp;omega)) K1.size (fun _ h _=>h);have hWd1:Wd wr:=hWd.kp K1 (by omega) (by omega);obtain⟨b,off,ak,ck,hao,lb1,-,x0,x1,x2,x3,SK⟩:=SlN.kidQ (by rw[<-hk.out];exact S1);subst hao;have hk2:Hid (f=(d.snoc ⟨kk,kn,km,ka,kks⟩).app kr):=by show f=_;rw[hk.out];unfold Fs.snoc;rw[Fs.app_assoc];rfl
   have hl2:(d.len:Int)+1=((d.snoc ⟨kk,kn,km,ka,kks⟩).len:Nat):=by rw[Fs.len_snoc];rfl
   have HA2:Hid ((match rgE cells ⟨kk,kn,km,ka,kks⟩ (aL k0 d.len ar wi).1 (aL k0 d.len ar wi).2 s1 with|none=>none|some (s2,k)=>fU cells ⟨k0,n,nm,a,f⟩ ar wi kr (d.len+1) s2 (ds++[k]))=Z):=by show _=Z;rw[<-HA.out];exact(uq (e:=⟨k0,n,nm,a,f⟩) (x:=⟨kk,kn,km,ka,kks⟩)).symm
   have hsp1:(aL k0 d.len ar wi).2<=5/\(aL k0 d.len ar wi).1<=(aL k0 d.len ar wi).2:=by
    unfold aL;split
    ·simp only;split<;>omega
    ·simp only;omega
   -- the kid's box
   have s2:=aO (fun _=>False) wr o (.cells #[.int .i64 kk,.int .i64 kn,stv km,.slice ak kks.len ck] 34);have b2:Below wr.heap.size wr (wr.alloc (.cells #[.int .i64 kk,.int .i64 kn,stv km,.slice ak kks.len ck] 34)):=(Below.refl _ wr).alloc (Nat.le_refl _) _;have X2:(wr.alloc (.cells #[.int .i64 kk,.int .i64 kn,stv km,.slice ak kks.len ck] 34)).heap[wr.heap.size]?=some (.cells #[.int .i64 kk,.int .i64 kn,stv km,.slice ak kks.len ck] 34):=heap_alloc_new wr _;have RD2:=RD1.below b2;have R82:=R8.step s2 id;have R92:=R9.step s2 id;have BE2:=BE1.step s2 id;have BT2:=BT1.step s2 id;have hrw:rb<wr.heap.size:=lt_of_block RD1.blk;have hmw:mb<wr.heap.size:=RD1.ltm;have or2:ae wr o 0 rb=1:=(aC hrw).trans or1;have om2:ae wr o 0 mb=1:=(aC hmw).trans om1;have L2:Hid (∀ k,k<w.heap.size->ae wr o 0 k<=1):=fun k hk=>by rw[aC (by have:=K1.size;omega)];exact L1.out k hk
   have K2:=K1.trans (Kp.ofBelow b2);have N2:=N1.below b2;have SK2:=SK.belowP b2;have hWd2:=hWd1.below b2;obtain⟨xb,hxb⟩:∃xb,xb=wr.heap.size:=⟨_,rfl⟩
   have hx1:xb≠rb:=by omega
   have hx2:xb≠mb:=by omega
   clear HA R8 R9 BE1 BT1 or1 om1 L1 K1 RD1 S1 N1 SK hWd1 s2 hk p0 p1 p2 p3 pf t0 t1 tf;go_upto_region 9 with fail;generalize ae wr o 0=o2 at *;generalize wr.alloc (.cells #[.int .i64 kk,.int .i64 kn,stv km,.slice ak kks.len ck] 34)=w2 at *;rw[<-hxb] at X2 ⊢;clear hxb b2 x0 x1 x2 x3;obtain⟨p0,p1,p2,p3,pf⟩:=aI BE2.1;obtain⟨t0,t1,tf⟩:=eY BT2.1;obtain⟨z0,z1,z2,z3,zf⟩:=aI X2;have hbl:=BE2.lt;have htl:=BT2.lt;have hxl:=lt_of_block X2;have bdT:Below w2.heap.size w2 w2.drew:=⟨rfl,rfl,rfl,Nat.le_refl _,fun _ _=>rfl⟩
   have c9:=Ac ⟨k0,n,nm,a,f⟩ (some ⟨b,off,none⟩) cap ar wi d.len w2.drew (by omega) (by omega) (by omega);rw[ah] at c9;simp only at c9;have hrk:=fun k2 (h:∃s2,rgE cells ⟨kk,kn,km,ka,kks⟩ (aL k0 d.len ar wi).1 (aL k0 d.len ar wi).2 s1=some (s2,k2))=>h;clear hrk;have hcnt:Hid (∀ s2 k,rgE cells ⟨kk,kn,km,ka,kks⟩ (aL k0 d.len ar wi).1 (aL k0 d.len ar wi).2 s1=some (s2,k)->s1.1+1<=s2.1/\(d.snoc ⟨kk,kn,km,ka,kks⟩).nv):=fun s2 k h=>⟨Bm h,Fs.snoc_nv hnv.out (xo h)⟩;have c10:=fun (w3:World) (b3:Below w2.drew.heap.size w2.drew w3)=>IH ⟨kk,kn,km,ka,kks⟩ ak ck n0 rb mb (.slice aoc cells.length capc) cells (aL k0 d.len ar wi).1 (aL k0 d.len ar wi).2 s1 (c+1) w3 (by show kks.size<N;omega) hfk hsp1.1 hsp1.2 hcl hne hr0 hm0 hG ((hWd2.below bdT).below b3) ((RD2.below bdT).below b3) ((N2.below bdT).below b3) ((SK2.belowP bdT).belowP b3);simp only[ah] at c10;generalize rgE cells ⟨kk,kn,km,ka,kks⟩ (aL k0 d.len ar wi).1 (aL k0 d.len ar wi).2 s1=rr at *;generalize (aL k0 d.len ar wi).1=sA at *;generalize (aL k0 d.len ar wi).2=sB at *;clear hWd2 N2 SK2 hsz hfk hsp1 hlk;go_upto_region 9 with fail;go_cut [12,13] (fun v12 v13 wx=>∃v,v12=v/\v13=.bool rr.isSome/\(∀ s k,rr=some (s,k)->gQ v k)/\(∀ s k,rr=some (s,k)->RD wx n0 rb mb (.slice aoc cells.length capc) (c+1) s)/\Kp rb mb w2 wx)
   case first =>
    go_wp2_with fail;go_region_held3 (fun wx=>wx.cell? ⟨bx,0,none⟩=some (.int .i64 k0)/\wx.cell? ⟨bx,1,none⟩=some (.int .i64 n)/\wx.cell? ⟨bx,2,none⟩=some (stv nm)/\wx.cell? ⟨bx,3,none⟩=some (.slice (some ⟨b,off,none⟩) f.len cap)/\wx.cell? ⟨bx+1,0,none⟩=some (.int .i64 (ar:Nat))/\wx.cell? ⟨bx+1,1,none⟩=some (.int .i64 (wi:Nat))/\wx.cell? ⟨xb,0,none⟩=some (.int .i64 kk)/\wx.cell? ⟨xb,1,none⟩=some (.int .i64 kn)/\wx.cell? ⟨xb,2,none⟩=some (stv km)/\wx.cell? ⟨xb,3,none⟩=some (.slice ak kks.len ck))
     (first|exact KA|go_keep)
     (first
      | (go_at_call 216;refine c9.mono ?_;rintro z w3 ⟨rfl,B3⟩;have KA:w3.cell? ⟨bx,0,none⟩=some (.int .i64 k0)/\w3.cell? ⟨bx,1,none⟩=some (.int .i64 n)/\w3.cell? ⟨bx,2,none⟩=some (stv nm)/\w3.cell? ⟨bx,3,none⟩=some (.slice (some ⟨b,off,none⟩) f.len cap)/\w3.cell? ⟨bx+1,0,none⟩=some (.int .i64 (ar:Nat))/\w3.cell? ⟨bx+1,1,none⟩=some (.int .i64 (wi:Nat))/\w3.cell? ⟨xb,0,none⟩=some (.int .i64 kk)/\w3.cell? ⟨xb,1,none⟩=some (.int .i64 kn)/\w3.cell? ⟨xb,2,none⟩=some (stv km)/\w3.cell? ⟨xb,3,none⟩=some (.slice ak kks.len ck):=⟨(B3.cell (p:=⟨bx,0,none⟩) hbl).trans p0,(B3.cell (p:=⟨bx,1,none⟩) hbl).trans p1,(B3.cell (p:=⟨bx,2,none⟩) hbl).trans p2,(B3.cell (p:=⟨bx,3,none⟩) hbl).trans p3,(B3.cell (p:=⟨bx+1,0,none⟩) htl).trans t0,(B3.cell (p:=⟨bx+1,1,none⟩) htl).trans t1,(B3.cell (p:=⟨xb,0,none⟩) hxl).trans z0,(B3.cell (p:=⟨xb,1,none⟩) hxl).trans z1,(B3.cell (p:=⟨xb,2,none⟩) hxl).trans z2,(B3.cell (p:=⟨xb,3,none⟩) hxl).trans z3⟩)
      | (go_at_call 144;refine(c10 _ B3).mono ?_;rintro z w4 ⟨⟨v,rfl,hv⟩,hR4,K4⟩;have KA4:w4.cell? ⟨bx,0,none⟩=some (.int .i64 k0)/\w4.cell? ⟨bx,1,none⟩=some (.int .i64 n)/\w4.cell? ⟨bx,2,none⟩=some (stv nm)/\w4.cell? ⟨bx,3,none⟩=some (.slice (some ⟨b,off,none⟩) f.len cap)/\w4.cell? ⟨bx+1,0,none⟩=some (.int .i64 (ar:Nat))/\w4.cell? ⟨bx+1,1,none⟩=some (.int .i64 (wi:Nat))/\w4.cell? ⟨xb,0,none⟩=some (.int .i64 kk)/\w4.cell? ⟨xb,1,none⟩=some (.int .i64 kn)/\w4.cell? ⟨xb,2,none⟩=some (stv km)/\w4.cell? ⟨xb,3,none⟩=some (.slice ak kks.len ck):=⟨(K4.cell (Nat.lt_of_lt_of_le hbl B3.size) hb1 hb2 _).trans KA.1,(K4.cell (Nat.lt_of_lt_of_le hbl B3.size) hb1 hb2 _).trans KA.2.1,(K4.cell (Nat.lt_of_lt_of_le hbl B3.size) hb1 hb2 _).trans KA.2.2.1,(K4.cell (Nat.lt_of_lt_of_le hbl B3.size) hb1 hb2 _).trans KA.2.2.2.1,(K4.cell (Nat.lt_of_lt_of_le htl B3.size) hs1 hs2 _).trans KA.2.2.2.2.1,(K4.cell (Nat.lt_of_lt_of_le htl B3.size) hs1 hs2 _).trans KA.2.2.2.2.2.1,(K4.cell (Nat.lt_of_lt_of_le hxl B3.size) hx1 hx2 _).trans KA.2.2.2.2.2.2.1,(K4.cell (Nat.lt_of_lt_of_le hxl B3.size) hx1 hx2 _).trans KA.2.2.2.2.2.2.2.1,(K4.cell (Nat.lt_of_lt_of_le hxl B3.size) hx1 hx2 _).trans KA.2.2.2.2.2.2.2.2.1,(K4.cell (Nat.lt_of_lt_of_le hxl B3.size) hx1 hx2 _).trans KA.2.2.2.2.2.2.2.2.2⟩;have KA:=KA4))
    have HM:Hid (Kp rb mb w2 w4):=(Kp.ofBelow (bdT.trans B3)).trans K4;clear KA KA4 c9 c10;go_wp2;go_meet;exact⟨v,rfl,rfl,hv,hR4,HM.out⟩
   case rest =>
    obtain⟨v,rfl,rfl,hv,hR4,K4⟩:=hcut;have KW4:=K2.trans K4;clear c9 c10 p0 p1 p2 p3 pf t0 t1 tf z0 z1 z2 z3 zf;cases hrr:rr with
    | none =>
     have HR:Hid (iO w n0 rb mb (.slice aoc cells.length capc) c Z (.returned (.tuple #[.nilIface,.bool false])) wc):=by
      have hz:Z=none:=by rw[<-HA2.out,hrr]
      rw[hz];exact⟨⟨_,rfl,fun s k h=>(by cases h)⟩,fun s k h=>(by cases h),KW4⟩
     clear HA2 hv hR4 K4 KW4 hcnt R82 R92 BE2 BT2 L2 RD2 X2;simp only[Option.isSome_none];go_wp2;exact bodyPost_ret (v:=.tuple #[.nilIface,.bool false]) (by simp[results,Tryz.results144,go_sem]) rfl HR.out
    | some zz =>
     obtain⟨s2,k⟩:=zz;have hct:=(hcnt.out s2 k hrr).1;have hnv2:Hid (d.snoc ⟨kk,kn,km,ka,kks⟩).nv:=(hcnt.out s2 k hrr).2;obtain⟨ty,vx,rfl,he⟩:=hv s2 k hrr;have RD4:=hR4 s2 k hrr;have HA3:Hid (fU cells ⟨k0,n,nm,a,f⟩ ar wi kr (d.len+1) s2 (ds++[k])=Z):=by show _=Z;rw[<-HA2.out,hrr]
     have s4:=K4.toStep or2 om2;have hrw2:rb<w2.heap.size:=lt_of_block RD2.blk;have hmw2:mb<w2.heap.size:=RD2.ltm;have R84:=R82.step s4 (by decide);have R94:=R92.step s4 (by decide);have BE4:=BE2.step s4 (by decide);have BT4:=BT2.step s4 (by decide);have or4:ae w2 o2 0 rb=1:=(aC hrw2).trans or2;have om4:ae w2 o2 0 mb=1:=(aC hmw2).trans om2;have L4:Hid (∀ k,k<w.heap.size->ae w2 o2 0 k<=1):=fun k hk=>by rw[aC (by have:=K2.size;omega)];exact L2.out k hk
     simp only[Option.isSome_some];clear HA2 hv hR4 K4 hcnt R82 R92 BE2 BT2 L2 RD2 X2 hrr s4 K2 or2 om2 bdT;generalize ae w2 o2 0=o4 at *
     -- the part goes behind the others
     have s5:=aO (fun _=>False) wc o4 (.cells #[.iface ty vx] 141);have b5:Below wc.heap.size wc (wc.alloc (.cells #[.iface ty vx] 141)):=(Below.refl _ wc).alloc (Nat.le_refl _) _;have R85:=R84.step s5 id;have R95:=R94.step s5 id;have BE5:=BE4.step s5 id;have BT5:=BT4.step s5 id;have RD5:=RD4.below b5;have hrwc:rb<wc.heap.size:=lt_of_block RD4.blk;have hmwc:mb<wc.heap.size:=RD4.ltm;have or5:ae wc o4 0 rb=1:=(aC hrwc).trans or4;have om5:ae wc o4 0 mb=1:=(aC hmwc).trans om4;have L5:Hid (∀ k,k<w.heap.size->ae wc o4 0 k<=1):=fun k hk=>by rw[aC (by have:=KW4.size;omega)];exact L4.out k hk
     have KW5:=KW4.trans (Kp.ofBelow b5);have hone:∀ u ∈ [Value.iface ty vx],u.oneCell'=true:=by intro u hu;simp at hu;subst hu;rfl
     have q1:d.len+1<=maxLen:=by unfold maxLen;omega
     have q2:(d.len+1)*16<=140737488355328:=by omega
     clear R84 R94 BE4 BT4 RD4 or4 om4 L4 KW4 s5 b5;go_wp2_with (first|(at_builtin;refine aB rfl (.tmp 64) (.tmp 66) 249 rfl 141 ip .nilIface 1 16 Tryz.underlying249 hip hzp0 hzp1 hzp2 rfl (by decide) (ae wc o4 0) 2 _ d.len ps rfl R85 ⟨wc.heap.size,0,none⟩ 1 1 [.iface ty vx] rfl rfl (cL wc _ _) hone (by decide) q1 q2 ?_)|go_in);intro g8 c8 w6 o6 R86 s6;have hz5:(wc.alloc (.cells #[.iface ty vx] 141)).heap.size=wc.heap.size+1:=by simp
     have hne2:∀ k,k<w.heap.size->ae wc o4 0 k≠2:=fun k hk=>by have:=L5.out k hk;omega
     have R96:=R95.step s6 (by decide);have BE6:=BE5.step s6 (by decide);have BT6:=BT5.step s6 (by decide);have RD6:=RD5.step s6 (by rw[or5];decide) (by rw[om5];decide) (fun k hk=>hne2 k (by omega));have or6:o6 rb=1:=(s6.lab rb (by omega)).trans or5;have om6:o6 mb=1:=(s6.lab mb (by omega)).trans om5;have L6:Hid (∀ k,k<w.heap.size->o6 k<=1):=fun k hk=>by rw[s6.lab k (by have:=KW5.size;omega)];exact L5.out k hk
     have KW6:=KW5.step s6 hne2;clear R85 R95 BE5 BT5 RD5 or5 om5 L5 KW5 s6 hne2 hz5 hone q2 hrwc hmwc;generalize ae wc o4 0=o5 at *;have c11:=fun w=>px k w;go_wp2_with fail;refine(c11 _).mono ?_;rintro z w7 ⟨rfl,b7⟩;have s7:=Below.toStep (I:=fun _=>False) (o:=o6) b7;have R87:=R86.step s7 id;have R97:=R96.step s7 id;have BE7:=BE6.step s7 id;have BT7:=BT6.step s7 id;have RD7:=RD6.below b7;have hrw6:rb<w6.heap.size:=lt_of_block RD6.blk;have hmw6:mb<w6.heap.size:=RD6.ltm;have or7:ae w6 o6 0 rb=1:=(aC hrw6).trans or6;have om7:ae w6 o6 0 mb=1:=(aC hmw6).trans om6;have L7:Hid (∀ k,k<w.heap.size->ae w6 o6 0 k<=1):=fun k hk=>by rw[aC (by have:=KW6.size;omega)];exact L6.out k hk
     have KW7:=KW6.trans (Kp.ofBelow b7);clear R86 R96 BE6 BT6 RD6 or6 om6 L6 KW6 s7 b7 c11 he hrw6 hmw6;generalize ae w6 o6 0=o7 at *;have s8:=aO (fun _=>False) w7 o7 (.cells #[.int .i64 k] 3);have b8:Below w7.heap.size w7 (w7.alloc (.cells #[.int .i64 k] 3)):=(Below.refl _ w7).alloc (Nat.le_refl _) _;have R88:=R87.step s8 id;have R98:=R97.step s8 id;have BE8:=BE7.step s8 id;have BT8:=BT7.step s8 id;have RD8:=RD7.below b8;have hrw7:rb<w7.heap.size:=lt_of_block RD7.blk;have hmw7:mb<w7.heap.size:=RD7.ltm;have or8:ae w7 o7 0 rb=1:=(aC hrw7).trans or7;have om8:ae w7 o7 0 mb=1:=(aC hmw7).trans om7;have L8:Hid (∀ k,k<w.heap.size->ae w7 o7 0 k<=1):=fun k hk=>by rw[aC (by have:=KW7.size;omega)];exact L7.out k hk
     have KW8:=KW7.trans (Kp.ofBelow b8);have hone:∀ u ∈ [Value.int .i64 k],u.oneCell'=true:=by intro u hu;simp at hu;subst hu;rfl
     have q2:(d.len+1)*8<=140737488355328:=by omega
     have hz8:(w7.alloc (.cells #[.int .i64 k] 3)).heap.size=w7.heap.size+1:=by simp
     clear R87 R97 BE7 BT7 RD7 or7 om7 L7 KW7 s8 b8;go_wp2_with (first|(at_builtin;refine aB rfl (.tmp 68) (.tmp 71) 35 rfl 3 ii (.int .i64 0) 1 8 Tryz.underlying35 hii hzi0 hzi1 hzi2 rfl (by decide) (ae w7 o7 0) 3 _ d.len (ds.map (Value.int .i64)) rfl R98 ⟨w7.heap.size,0,none⟩ 1 1 [.int .i64 k] rfl rfl (cL w7 _ _) hone (by decide) q1 q2 ?_)|go_in);intro g9 c9 w9 o9 R99 s9;have hne3:∀ k,k<w.heap.size->ae w7 o7 0 k≠3:=fun k hk=>by have:=L8.out k hk;omega
     have R89:=R88.step s9 (by decide);have BE9:=BE8.step s9 (by decide);have BT9:=BT8.step s9 (by decide);have RD9:=RD8.step s9 (by rw[or8];decide) (by rw[om8];decide) (fun k hk=>hne3 k (by omega));have or9:o9 rb=1:=(s9.lab rb (by omega)).trans or8;have om9:o9 mb=1:=(s9.lab mb (by omega)).trans om8;have L9:Hid (∀ k,k<w.heap.size->o9 k<=1):=fun k hk=>by rw[s9.lab k (by have:=KW8.size;omega)];exact L8.out k hk
     have KW9:=KW8.step s9 hne3;have hps2:Hid (∀ u,u ∈ ps++[Value.iface ty vx]->∃ty x,u=.iface ty x):=by
      intro u hu;rcases List.mem_append.1 hu with h|h
      ·exact hps.out u h
      ·simp at h;exact⟨ty,vx,h⟩
     have hls:(d.snoc ⟨kk,kn,km,ka,kks⟩).len=d.len+1:=Fs.len_snoc _ _;have R99b:Row w9 o9 3 3 1 (.slice (some ⟨g9,0,none⟩) (d.len+1) c9) (d.snoc ⟨kk,kn,km,ka,kks⟩).len ((ds++[k]).map (Value.int .i64)):=by rw[hls,List.map_append];exact R99
     have R89b:Row w9 o9 2 141 1 (.slice (some ⟨g8,0,none⟩) (d.len+1) c8) (d.snoc ⟨kk,kn,km,ka,kks⟩).len (ps++[.iface ty vx]):=by rw[hls];exact R89
     have hdl2:(ds++[k]).length=(d.snoc ⟨kk,kn,km,ka,kks⟩).len:=by rw[hls];simp[hdl]
     have hds2:(d.snoc ⟨kk,kn,km,ka,kks⟩).len<=s2.1:=by rw[hls];omega
     have HA4:Hid (fU cells ⟨k0,n,nm,a,f⟩ ar wi kr (d.snoc ⟨kk,kn,km,ka,kks⟩).len s2 (ds++[k])=Z):=by rw[hls];exact HA3
     clear R88 R98 BE8 BT8 RD8 or8 om8 L8 KW8 s9 hne3 hz8 hone R99 R89 HA3 hps hls;go_wp2;go_roundw
     case rel=>exact⟨_,kr,o9,_,_,s2,hk2,by rw[<-hl2],R89b,hps2,R99b,hdl2,hds2,hnv2,RD9,or9,om9,BE9,BT9,L9,KW9,HA4⟩
     case measure=>simp[intOf];omega
theorem pY:∀ N,oX N -- 144
 | 0=>fun e ao cap n0 rb mb bv cells ar wi s c w h=>absurd h (Nat.not_lt_zero _)
 | N+1=>q8 (pY N)
theorem jQ {cells:List Int}{e:Ex}(h:bO cells e≠0):cells.length<=256/\(∀ c,c ∈ cells->0<=c/\c<=4)/\∃s,rgE cells e 0 0 (0,fun _=>none)=some (s,bO cells e)/\bO cells e≠4:=by
 have h0:=h;unfold bO at h ⊢;split at h
 ·exact absurd rfl h
 ·rename_i h1
  rw[if_neg h1];have h2:rgF cells (one e) 0 0 0 0 (0,fun _=>none)=_:=eG cells e .nil 0 0 0 0 (0,fun _=>none);have hsp:aL 0 0 0 0=(0,0):=rfl;rw[hsp] at h2;simp only at h2;refine⟨by omega,?_,?_⟩
  ·intro c hc;have h3:¬(cells.any (fun c=>decide (c<0)||decide (4<c))=true):=fun h=>h1 (.inr h);simp only[List.any_eq_true,not_exists,not_and,Bool.or_eq_true,decide_eq_true_eq] at h3
   have:=h3 c hc
   omega
  ·cases hx:rgE cells e 0 0 (0,fun _=>none) with
   | none=>rw[h2,hx] at h;exact absurd rfl h
   | some z =>
    obtain⟨s,k⟩:=z;rw[h2,hx] at h ⊢;simp only[rgF] at h ⊢;by_cases h4:k=4
    ·rw[if_pos h4] at h;exact absurd rfl h
    ·rw[if_neg h4];exact⟨s,rfl,h4⟩
theorem np {cells:List Int}{e:Ex}(h1:cells.length<=256)(h2:∀ c,c ∈ cells->0<=c/\c<=4):bO cells e=(match cM cells e 0 0 (0,fun _=>none) with|none=>0|some (_,k)=>k):=by
 unfold bO;have h3:¬(256<cells.length\/cells.any (fun c=>decide (c<0)||decide (4<c))=true):=by
  rintro (h|h)
  ·omega
  ·simp only[List.any_eq_true,Bool.or_eq_true,decide_eq_true_eq] at h;obtain⟨c,hc,h⟩:=h
   have:=h2 c hc
   omega
 rw[if_neg h3];have h4:rgF cells (one e) 0 0 0 0 (0,fun _=>none)=_:=eG cells e .nil 0 0 0 0 (0,fun _=>none);have hsp:aL 0 0 0 0=(0,0):=rfl;rw[h4,hsp];unfold cM;simp only;cases rgE cells e 0 0 (0,fun _=>none) with
 | none=>rfl
 | some z =>
  obtain⟨s,k⟩:=z;simp only[rgF];split<;>rfl
theorem nD {cells:List Int}{e:Ex}(h:256<cells.length):bO cells e=0:=by unfold bO;rw[if_pos (.inl h)]
end Go.Proofs.YtbjdkekhnajafaaGreatDoor

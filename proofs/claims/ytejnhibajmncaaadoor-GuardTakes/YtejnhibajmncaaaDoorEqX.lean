import Derived.Test.YtejnhibajmncaaaDoorEqU
set_option maxRecDepth 100000
set_option maxHeartbeats 8000000
namespace Go.Proofs.YtejnhibajmncaaaDoor
set_option linter.unusedVariables false
set_option linter.unusedSimpArgs false
structure Rl (K:Nat->Int)(u:Nat)(s:Em)(d:Dp):Prop where
 ok:okQ s
 ul:u<=s.dp
 ws:d.ws=s.ws
 cs:d.cs=s.cs
 ns:d.ns=s.ns
 kl:d.ks.length=s.ks.length
 ks:∀ i,i<s.ks.length->(d.ks.getD i 0=0/\s.ks.getD i 0=1)\/(d.ks.getD i 0=K i/\s.ks.getD i 0=K i)
 h:d.h=(u:Int)
 top:d.top=(s.dp:Int)
 lg:d.lg=false
def Ry (K:Nat->Int)(u:Nat)(s:Em)(d:Dp):Prop:=(okQ s->Rl K u s d)/\(¬okQ s->d.lg=true)
theorem Ry.step {K:Nat->Int}{u v:Nat}{s t:Em}{d e:Dp}(h:Ry K u s d)(q:Qle s t)(k:d.lg=true->e.lg=true)(r:Rl K u s d->Ry K v t e):Ry K v t e:=by
 by_cases o:okQ s
 ·exact r (h.1 o)
 ·exact⟨fun o'=>absurd (q.ok o') o,fun _=>k (h.2 o)⟩
theorem Ry.of {K:Nat->Int}{u:Nat}{s:Em}{d:Dp}(h:Rl K u s d):Ry K u s d:=⟨fun _=>h,fun n=>absurd h.ok n⟩
theorem ry_lay {K:Nat->Int}{u:Nat}{s:Em}{d:Dp}(op a a' b:Nat)(h:Ry K u s d)(ha:okQ s->a'=a):Ry K u (s.lay op a b) (d.puts op a' b):=by
 refine h.step (qle_lay s op a b) (dle_puts d op a' b).lg (fun r=>?_);rw[ha r.ok];unfold Dp.puts;rw[r.ws];by_cases hl:32768<=s.ws.length
 ·rw[if_pos hl];exact⟨fun o=>by have:=o.1;simp[Em.lay] at this;omega,fun _=>rfl⟩
 ·rw[if_neg hl];refine Ry.of ⟨⟨by simp[Em.lay];omega,r.ok.2⟩,r.ul,?_,r.cs,r.ns,r.kl,r.ks,r.h,r.top,r.lg⟩;simp[Em.lay]
def Em.up (s:Em)(u:Nat):Em:=⟨s.ws,s.cs,s.ns,s.ks,max s.dp (u+1)⟩
theorem push_up (s:Em)(op a b u:Nat):s.push op a b u=(s.lay op a b).up u:=rfl
theorem qle_up (s:Em)(u:Nat):Qle s (s.up u):=⟨Nat.le_refl _,by simp only[Em.up];omega⟩
theorem ry_up {K:Nat->Int}{u:Nat}{s:Em}{d:Dp}(h:Ry K u s d):Ry K (u+1) (s.up u) (d.grows 1):=by
 refine h.step (qle_up s u) (dle_grows d 1 1 (by omega) (by omega)).lg (fun r=>?_);have e1:max d.top (d.h+1)=((max s.dp (u+1):Nat):Int):=by rw[r.top,r.h];omega
 by_cases hm:max s.dp (u+1)<=1024
 ·refine Ry.of ⟨⟨r.ok.1,hm⟩,by simp only[Em.up];omega,r.ws,r.cs,r.ns,r.kl,r.ks,?_,?_,?_⟩
  ·simp only[Dp.grows];rw[r.h];omega
  ·simp only[Dp.grows];exact e1
  ·simp only[Dp.grows,r.lg,e1];simp;omega
 ·refine⟨fun o=>absurd o.2 hm,fun _=>?_⟩;simp only[Dp.grows,e1];simp;right;omega
theorem ry_down {K:Nat->Int}{u:Nat}{s:Em}{d:Dp}(v:Nat)(x:Int)(h:Ry K u s d)(hv:v<=u)(hx:x=(v:Int)-(u:Int)):Ry K v s (d.grows x):=by
 refine h.step (Qle.refl s) (fun h=>by simp[Dp.grows,h]) (fun r=>?_);have hu:=r.ul;have hd:=r.ok.2;have e1:max d.top (d.h+x)=(s.dp:Int):=by rw[r.top,r.h];omega
 refine Ry.of ⟨r.ok,by omega,r.ws,r.cs,r.ns,r.kl,r.ks,?_,?_,?_⟩
 ·simp only[Dp.grows];rw[r.h];omega
 ·simp only[Dp.grows];exact e1
 ·simp only[Dp.grows,r.lg,e1];simp;omega
theorem ry_push {K:Nat->Int}{u:Nat}{s:Em}{d:Dp}(op a a' b:Nat)(h:Ry K u s d)(ha:okQ s->a'=a):Ry K (u+1) (s.push op a b u) ((d.puts op a' b).grows 1):=by
 rw[push_up];exact ry_up (ry_lay op a a' b h ha)
theorem ry_kc {K:Nat->Int}{u:Nat}{s:Em}{d:Dp}(n:Int)(h:Ry K u s d):Ry K u (s.kc n) (d.kI n):=by
 refine h.step (qle_kc s n) (dle_kI d n).lg (fun r=>?_);exact Ry.of ⟨r.ok,r.ul,r.ws,by simp only[Em.kc,Dp.kI,r.cs],r.ns,r.kl,r.ks,r.h,r.top,r.lg⟩
theorem ry_kn {K:Nat->Int}{u:Nat}{s:Em}{d:Dp}(n:List UInt8)(h:Ry K u s d):Ry K u (s.kn n) (d.kN n):=by
 refine h.step (qle_kn s n) (dle_kN d n).lg (fun r=>?_);exact Ry.of ⟨r.ok,r.ul,r.ws,r.cs,by simp only[Em.kn,Dp.kN,r.ns],r.kl,r.ks,r.h,r.top,r.lg⟩
theorem ry_con {K:Nat->Int}{u:Nat}{s:Em}{d:Dp}(n:Int)(kd:Nat)(h:Ry K u s d):Ry K (u+1) (s.con n kd u) (d.val n kd) :=
 ry_push 1 _ _ kd (ry_kc n h) (fun o=>by rw[(h.1 o).cs])
theorem ry_land {K:Nat->Int}{u:Nat}{s:Em}{d:Dp}(i i':Nat)(h:Ry K u s d)(hi:okQ s->i'=i):Ry K u (s.land i) (d.lands i'):=by
 refine h.step (qle_land s i) (dle_lands d i').lg (fun r=>?_);rw[hi r.ok];unfold Dp.lands;rw[if_neg (by rw[r.lg];decide),r.ws];exact Ry.of ⟨⟨by simp[Em.land];exact r.ok.1,r.ok.2⟩,r.ul,rfl,r.cs,r.ns,r.kl,r.ks,r.h,r.top,r.lg⟩
theorem getD_set {l:List Int}{i j:Nat}{k x:Int}:(l.set i k).getD j x=if i=j/\i<l.length then k else l.getD j x:=by
 rw[List.getD_eq_getElem?_getD,List.getD_eq_getElem?_getD,List.getElem?_set];by_cases e:i=j
 ·subst e;by_cases hl:i<l.length
  ·rw[if_pos rfl,if_pos hl,if_pos ⟨rfl,hl⟩];rfl
  ·rw[if_pos rfl,if_neg hl,if_neg (fun h=>hl h.2),List.getElem?_eq_none (by omega)]
 ·rw[if_neg e,if_neg (fun h=>e h.1)]
theorem ry_cel {K:Nat->Int}{u:Nat}{s:Em}{d:Dp}(i:Nat)(k:Int)(h:Ry K u s d)(hk:k=K i):Ry K u (s.cel i k) (d.cel i k):=by
 refine h.step (qle_cel s i k) (dle_cel d i k).lg (fun r=>?_);subst hk;have hkl:=r.kl;unfold Dp.cel;by_cases h0:d.ks.getD i 0=0
 ·rw[if_pos h0];refine Ry.of ⟨r.ok,r.ul,r.ws,r.cs,r.ns,by simp[Em.cel];exact r.kl,fun j hj=>?_,r.h,r.top,r.lg⟩;simp only[Em.cel,List.length_set] at hj ⊢;rw[getD_set,getD_set];by_cases e:i=j
  ·subst e;rw[if_pos ⟨rfl,by omega⟩,if_pos ⟨rfl,by omega⟩];exact .inr ⟨rfl,rfl⟩
  ·rw[if_neg (fun h=>e h.1),if_neg (fun h=>e h.1)];exact r.ks j hj
 ·rw[if_neg h0];refine Ry.of ⟨r.ok,r.ul,r.ws,r.cs,r.ns,by simp[Em.cel];exact r.kl,fun j hj=>?_,r.h,r.top,r.lg⟩;simp only[Em.cel,List.length_set] at hj ⊢;rw[getD_set];by_cases e:i=j
  ·subst e;rw[if_pos ⟨rfl,hj⟩];rcases r.ks i hj with h1|h1
   ·exact absurd h1.1 h0
   ·exact .inr ⟨h1.1,rfl⟩
  ·rw[if_neg (fun h=>e h.1)];exact r.ks j hj
theorem at1_of {K:Nat->Int}{u:Nat}{s t:Em}{d:Dp}(h:Ry K u s d)(q:Qle s t)(hl:s.ws.length+1<=t.ws.length)(o:okQ t):d.at1=s.ws.length:=by
 have r:=h.1 (q.ok o);unfold Dp.at1;rw[r.ws,if_neg (by have:=o.1;omega)]
theorem len_of {K:Nat->Int}{u:Nat}{s t:Em}{d:Dp}(h:Ry K u s d)(q:Qle s t)(o:okQ t):d.ws.length=s.ws.length:=by
 rw[(h.1 (q.ok o)).ws]
structure Rp (K:Nat->Int)(b:Nat)(t:Tr)(d:Td):Prop where
 q:Qtr t
 k:∀ ar s,s.lg=true->(d ar s).lg=true
 r:∀ ar u s e,Ry K u s e->Ry K (u+b) (t ar u s) (d ar e)
def Rps (K:Nat->Int):List Tr->List Td->Int->Nat->Prop
 | [],[],_,_=>True
 | t::T,d::D,pk,i=>Rp K (if pk=21/\i=0 then 0 else 1) t d/\Rps K T D pk (i+1)
 | _,_,_,_=>False
theorem ry_seq {K:Nat->Int}(ar u pk:Int)(hp:pk≠21):∀ (T:List Tr) (D:List Td) (i j ar u:Nat) (s:Em) (e:Dp),Rps K T D pk i->Ry K (u+j) s e->Ry K (u+j+T.length) (seqT T j ar u s) (kidsD D ar e)
 | [],[],_,_,_,_,_,_,_,h=>h
 | t::T,d::D,i,j,ar,u,s,e,hT,h=>by
  have h1:=hT.1.r ar (u+j) s e h;rw[if_neg (fun h=>hp h.1)] at h1;have h2:=ry_seq 0 0 pk hp T D (i+1) (j+1) ar u _ _ hT.2 h1;simp only[List.length_cons,seqT,kidsD];rw[show u+j+(T.length+1)=u+(j+1)+T.length by omega];exact h2
 | [],d::D,_,_,_,_,_,_,h,_=>by simp[Rps] at h
 | t::T,[],_,_,_,_,_,_,h,_=>by simp[Rps] at h
theorem rps_get {K:Nat->Int}{pk:Int}:∀ (T:List Tr) (D:List Td) (i j:Nat),Rps K T D pk i->j<T.length->Rp K (if pk=21/\i+j=0 then 0 else 1) (T.getD j noT) (D.getD j noD)
 | t::T,d::D,i,0,h,_=>h.1
 | t::T,d::D,i,j+1,h,hj=>by
  have:=rps_get T D (i+1) j h.2 (by simpa using hj)
  rw[show i+1+j=i+(j+1) by omega] at this;simpa using this
 | [],_,_,_,_,h=>by simp at h
 | t::T,[],_,_,h,_=>by simp[Rps] at h
theorem rps_len {K:Nat->Int}{pk:Int}:∀ (T:List Tr) (D:List Td) (i:Nat),Rps K T D pk i->D.length=T.length
 | [],[],_,_=>rfl
 | t::T,d::D,i,h=>by simp only[List.length_cons,rps_len T D (i+1) h.2]
 | [],d::D,_,h=>by simp[Rps] at h
 | t::T,[],_,h=>by simp[Rps] at h
theorem ry_clr {K:Nat->Int}{u:Nat}(h:Nat):∀ (l:List Int) (i:Nat) (s:Em) (e:Dp),Ry K u s e->Ry K u (clrs h l i s) (clrD h l i e)
 | [],_,_,_,r=>r
 | x::l,i,s,e,r=>by
  unfold clrs clrD;refine r.step ?_ ?_ (fun q=>?_)
  ·split
   ·exact(qle_lay s 19 i 0).trans (qgr_clrs h l (i+1) _)
   ·exact qgr_clrs h l (i+1) s
  ·intro hl;rw[if_pos hl];exact hl
  ·by_cases hx:x=(h:Int)
   ·rw[if_pos hx,if_neg (by rw[q.lg];decide),if_pos hx];exact ry_clr h l (i+1) _ _ (ry_lay 19 i i 0 r (fun _=>rfl))
   ·rw[if_neg hx,if_neg (by rw[q.lg];decide),if_neg hx];exact ry_clr h l (i+1) _ _ r
theorem lay_len (s:Em)(op a b:Nat):(s.lay op a b).ws.length=s.ws.length+1:=by simp[Em.lay]
theorem con_len (s:Em)(n:Int)(kd u:Nat):(s.con n kd u).ws.length=s.ws.length+1:=by simp[Em.con,Em.push,Em.kc]
theorem ry_cho {K:Nat->Int}(k:Int){t0 t1 t2:Tr}{d0 d1 d2:Td}(h0:Rp K 1 t0 d0)(h1:Rp K 1 t1 d1)(h2:k≠17->k≠18->Rp K 1 t2 d2)(ar u:Nat)(s:Em)(e:Dp)(h:Ry K u s e) :
  Ry K (u+1) ((t0 ar u s).fork (if k=18 then 15 else 14) (t1 ar u) (fun x=>if k=17 then x.con 0 2 u else if k=18 then x.con 1 2 u else t2 ar u x)) (choD k d0 d1 d2 ar e):=by
 unfold Em.fork choD
 dsimp only
 generalize hop:(if k=18 then 15 else 14)=op;have ra:=h0.r ar u s e h;generalize t0 ar u s=A at ra ⊢;generalize d0 ar e=a at ra ⊢;have rb:Ry K u (A.lay op 0 0) ((a.puts op 0 0).grows (-1)):=ry_down u (-1) (ry_lay op 0 0 0 ra (fun _=>rfl)) (by omega) (by omega);have rc:=h1.r ar u _ _ rb;have qc:=h1.q ar u (A.lay op 0 0);generalize t1 ar u (A.lay op 0 0)=C at rc qc ⊢;generalize d1 ar ((a.puts op 0 0).grows (-1))=c at rc ⊢;have rd:Ry K u (C.lay 13 0 0) ((c.puts 13 0 0).grows (-1)):=ry_down u (-1) (ry_lay 13 0 0 0 rc (fun _=>rfl)) (by omega) (by omega);have hA:=lay_len A op 0 0;have hqc:=qc.ws;have re:=ry_land A.ws.length a.at1 rd (fun o=>at1_of ra (((qle_lay A op 0 0).trans qc).trans (qle_lay C 13 0 0)) (by rw[lay_len];omega) o);have qe:Qle C ((C.lay 13 0 0).land A.ws.length):=(qle_lay C 13 0 0).trans (qle_land _ _);have le:C.ws.length+1<=((C.lay 13 0 0).land A.ws.length).ws.length:=by simp[Em.land,Em.lay]
 generalize (C.lay 13 0 0).land A.ws.length=E at re qe le ⊢;generalize ((c.puts 13 0 0).grows (-1)).lands a.at1=e' at re ⊢;have hf:Ry K (u+1) (if k=17 then E.con 0 2 u else if k=18 then E.con 1 2 u else t2 ar u E) (if k=17 then e'.val 0 2 else if k=18 then e'.val 1 2 else d2 ar e')/\Qle E (if k=17 then E.con 0 2 u else if k=18 then E.con 1 2 u else t2 ar u E):=by
  by_cases k17:k=17
  ·rw[if_pos k17,if_pos k17];exact⟨ry_con 0 2 re,qle_con _ _ _ _⟩
  ·rw[if_neg k17,if_neg k17];by_cases k18:k=18
   ·rw[if_pos k18,if_pos k18];exact⟨ry_con 1 2 re,qle_con _ _ _ _⟩
   ·rw[if_neg k18,if_neg k18];exact⟨(h2 k17 k18).r ar u _ _ re,(h2 k17 k18).q ar u E⟩
 exact ry_land _ _ hf.1 (fun o=>at1_of rc (qe.trans hf.2) (Nat.le_trans le hf.2.ws) o)
theorem ry_celD {K:Nat->Int}(n:Nat)(kd:Int)(hkd:kd=K n){t0:Tr}{d0:Td}(h0:Rp K 1 t0 d0)(ar u:Nat)(s:Em)(e:Dp)(h:Ry K u s e) :
  Ry K (u+1) (((t0 ar u ((s.cel n kd).lay 17 n 0)).lay 18 n 0).land s.ws.length) (clxD n kd d0 ar e):=by
 unfold clxD;have rc:=ry_cel n kd h hkd;have ra:=ry_lay 17 n n 0 rc (fun _=>rfl);have rb:=h0.r ar u _ _ ra;have qb:=h0.q ar u ((s.cel n kd).lay 17 n 0);have hA:=lay_len (s.cel n kd) 17 n 0;have hw:(s.cel n kd).ws.length=s.ws.length:=rfl;have hq:=qb.ws;refine ry_land _ _ (ry_lay 18 n n 0 rb (fun _=>rfl)) (fun o=>?_);show _=(s.cel n kd).ws.length;exact at1_of rc (((qle_lay _ _ _ _).trans qb).trans (qle_lay _ _ _ _)) (by rw[lay_len];omega) o
theorem ry_end {K:Nat->Int}(n:Int)(hn:n=1\/n=2)(g i g' i':Nat)(u:Nat)(X:Em)(e:Dp)(h:Ry K (u+1) X e)(hg:okQ X->g'=g/\i'=i) :
  Ry K (u+1) (((((((X.lay (if n=2 then 14 else 15) g 0).lay 25 0 0).con (if n=2 then 1 else 0) 2 u).lay 13 0 0).land i).con (if n=2 then 0 else 1) 2 u).land ((((X.lay (if n=2 then 14 else 15) g 0).lay 25 0 0).con (if n=2 then 1 else 0) 2 u).ws.length)) (endD n g' i' e):=by
 unfold endD
 dsimp only
 generalize (if n=2 then 14 else 15)=op;generalize (if n=2 then (1:Int) else 0)=x;generalize (if n=2 then (0:Int) else 1)=y;have ra:Ry K u (X.lay op g 0) ((e.puts op g' 0).grows (-1)):=ry_down u (-1) (ry_lay op g g' 0 h (fun o=>(hg o).1)) (by omega) (by omega);have rb:=ry_con x 2 (ry_lay 25 0 0 0 ra (fun _=>rfl));have qx:Qle X (((X.lay op g 0).lay 25 0 0).con x 2 u):=((qle_lay _ _ _ _).trans (qle_lay _ _ _ _)).trans (qle_con _ _ _ _);generalize ((X.lay op g 0).lay 25 0 0).con x 2 u=C at rb qx ⊢;generalize (((e.puts op g' 0).grows (-1)).puts 25 0 0).val x 2=c at rb ⊢;have rd:Ry K u (C.lay 13 0 0) ((c.puts 13 0 0).grows (-1)):=ry_down u (-1) (ry_lay 13 0 0 0 rb (fun _=>rfl)) (by omega) (by omega);have re:=ry_land i i' rd (fun o=>(hg ((qx.trans (qle_lay C 13 0 0)).ok o)).2);have rf:=ry_con y 2 re;refine ry_land _ _ rf (fun o=>at1_of rb (((qle_lay C 13 0 0).trans (qle_land _ _)).trans (qle_con _ _ _ _)) ?_ o);rw[con_len];simp[Em.land,Em.lay]
theorem ry_mid {K:Nat->Int}(n:Int)(hn:3<=n)(g g' u v:Nat)(X:Em)(e:Dp)(h:Ry K (v+1) X e)(hv:v=if 5<=n then u+2 else u+1)(hg:okQ X->g'=g) :
  Ry K v (if n=3 then ((X.lay 14 g 0).con 1 1 (u+1)).lay 6 0 0 else if n=4 then X.lay 6 0 0 else X.lay 26 (n-5).toNat 0) (midD n g' e):=by
 unfold midD;by_cases h3:n=3
 ·rw[if_pos h3,if_pos h3];rw[if_neg (by omega)] at hv;subst hv;have ra:Ry K (u+1) (X.lay 14 g 0) ((e.puts 14 g' 0).grows (-1)):=ry_down (u+1) (-1) (ry_lay 14 g g' 0 h hg) (by omega) (by omega);exact ry_down (u+1) (-1) (ry_lay 6 0 0 0 (ry_con 1 1 ra) (fun _=>rfl)) (by omega) (by omega)
 ·rw[if_neg h3,if_neg h3];by_cases h4:n=4
  ·rw[if_pos h4,if_pos h4];exact ry_down v (-1) (ry_lay 6 0 0 0 h (fun _=>rfl)) (by omega) (by omega)
  ·rw[if_neg h4,if_neg h4];exact ry_down v (-1) (ry_lay 26 _ _ 0 h (fun _=>rfl)) (by omega) (by omega)
theorem qle_mid (n:Int)(g u:Nat)(X:Em):Qle X (if n=3 then ((X.lay 14 g 0).con 1 1 (u+1)).lay 6 0 0 else if n=4 then X.lay 6 0 0 else X.lay 26 (n-5).toNat 0):=by
 split
 ·exact((qle_lay _ _ _ _).trans (qle_con _ _ _ _)).trans (qle_lay _ _ _ _)
 split
 ·exact qle_lay _ _ _ _
 ·exact qle_lay _ _ _ _
theorem ry_fin {K:Nat->Int}(n:Int)(hn:3<=n)(g i g' i' u v:Nat)(X:Em)(e:Dp)(h:Ry K (v+1) X e)(hv:v=if 5<=n then u+2 else u+1)(hg:okQ X->g'=g/\i'=i) :
  Ry K (u+1) (if 5<=n then (((if n=3 then ((X.lay 14 g 0).con 1 1 (u+1)).lay 6 0 0 else if n=4 then X.lay 6 0 0 else X.lay 26 (n-5).toNat 0).lay 13 g 0).land i).lay 27 0 0
   else ((if n=3 then ((X.lay 14 g 0).con 1 1 (u+1)).lay 6 0 0 else if n=4 then X.lay 6 0 0 else X.lay 26 (n-5).toNat 0).lay 13 g 0).land i) (finD n g' i' e):=by
 unfold finD
 dsimp only
 have rm:=ry_mid n hn g g' u v X e h hv (fun o=>(hg o).1);have qm:=qle_mid n g u X;generalize (if n=3 then ((X.lay 14 g 0).con 1 1 (u+1)).lay 6 0 0 else if n=4 then X.lay 6 0 0 else X.lay 26 (n-5).toNat 0)=M at rm qm ⊢;generalize midD n g' e=m at rm ⊢;have rl:=ry_land i i' (ry_lay 13 g g' 0 rm (fun o=>(hg (qm.ok o)).1)) (fun o=>(hg ((qm.trans (qle_lay M 13 g 0)).ok o)).2);by_cases h5:5<=n
 ·rw[if_pos h5] at hv;rw[if_pos h5,if_pos h5];subst hv;exact ry_down (u+1) (-1) (ry_lay 27 0 0 0 rl (fun _=>rfl)) (by omega) (by omega)
 ·rw[if_neg h5] at hv;rw[if_neg h5,if_neg h5];subst hv;exact rl
theorem ry_pre {K:Nat->Int}(n:Int)(u:Nat)(s:Em)(e:Dp)(h:Ry K u s e) :
  Ry K (if 5<=n then u+2 else if 3<=n then u+1 else u) (if 5<=n then (s.con 0 1 u).con 0 2 (u+1) else if 3<=n then s.con 0 1 u else s) (preD n e):=by
 unfold preD
 dsimp only
 by_cases h5:5<=n
 ·rw[if_pos h5,if_pos h5,if_pos h5,if_pos (by omega)];exact ry_con 0 2 (ry_con 0 1 h)
 ·rw[if_neg h5,if_neg h5,if_neg h5];by_cases h3:3<=n
  ·rw[if_pos h3,if_pos h3,if_pos h3];exact ry_con 0 1 h
  ·rw[if_neg h3,if_neg h3,if_neg h3];exact h
theorem ry_qua {K:Nat->Int}(lv:List Int)(n:Int)(hn:1<=n/\n<=6){t0 t1:Tr}{d0 d1:Td}(h0:Rp K 0 t0 d0)(h1:Rp K 1 t1 d1)(ar u:Nat)(s:Em)(e:Dp)(h:Ry K u s e) :
  Ry K (u+1) (qua lv n t0 t1 ar u s) (quaD lv n d0 d1 ar e):=by
 have qq:∀ X:Em,Qle X (qua lv n (fun _ _ s=>s) t1 ar u X):=fun X=>qgr_qua lv n (a:=fun _ _ s=>s) (fun _ _=>Qgr.id) h1.q ar u X;have hx:qua lv n t0 t1 ar u s=qua lv n (fun _ _ s=>s) t1 ar u (t0 ar u s):=rfl;rw[hx];unfold quaD
 dsimp only
 have ra:=h0.r ar u s e h;rw[Nat.add_zero] at ra;generalize t0 ar u s=A at ra ⊢;generalize d0 ar e=a at ra ⊢;have rb:=ry_pre n u A a ra;have hq:=qq A;unfold qua srch gath bdy Em.fork at hq ⊢
 dsimp only at hq ⊢
 by_cases hn2:n=1\/n=2
 ·rw[if_neg (show ¬5<=n by omega),if_neg (show ¬3<=n by omega),if_neg (show ¬5<=n by omega),if_neg (show ¬3<=n by omega)] at rb;have hR:Ry K (u+1) (((((((t1 (ar+1) u (clrs (ar+1) lv 0 (A.lay 24 0 0))).lay (if n=2 then 14 else 15) A.ws.length 0).lay 25 0 0).con (if n=2 then 1 else 0) 2 u).lay 13 0 0).land A.ws.length).con (if n=2 then 0 else 1) 2 u |>.land ((((t1 (ar+1) u (clrs (ar+1) lv 0 (A.lay 24 0 0))).lay (if n=2 then 14 else 15) A.ws.length 0).lay 25 0 0).con (if n=2 then 1 else 0) 2 u).ws.length)
    (if (preD n a).lg then preD n a else if n=1\/n=2 then endD n (preD n a).ws.length (preD n a).at1 (d1 (ar+1) (clrD (ar+1) lv 0 ((preD n a).puts 24 0 0))) else finD n (preD n a).ws.length (preD n a).at1 (d1 (ar+1) (clrD (ar+1) lv 0 ((preD n a).puts 24 0 0)))):=by
   refine rb.step ?_ (fun hl=>by rw[if_pos hl];exact hl) (fun q=>?_)
   ·rcases hn2 with e1|e1<;>subst e1<;>simpa using hq
   ·rw[if_neg (show ¬(preD n a).lg=true by rw[q.lg];decide),if_pos hn2];have rc:=ry_clr (ar+1) lv 0 _ _ (ry_lay 24 0 0 0 rb (fun _=>rfl));have qc:=(qle_lay A 24 0 0).trans (qgr_clrs (ar+1) lv 0 (A.lay 24 0 0));have lc:A.ws.length+1<=(clrs (ar+1) lv 0 (A.lay 24 0 0)).ws.length:=by
     have:=(qgr_clrs (ar+1) lv 0 (A.lay 24 0 0)).ws
     rw[lay_len] at this;exact this
    have rd:=h1.r (ar+1) u _ _ rc;have qd:=h1.q (ar+1) u (clrs (ar+1) lv 0 (A.lay 24 0 0));exact ry_end n hn2 _ _ _ _ u _ _ rd (fun o=>⟨len_of rb (qc.trans qd) o,at1_of rb (qc.trans qd) (Nat.le_trans lc qd.ws) o⟩)
  rcases hn2 with e1|e1
  ·subst e1;simpa using hR
  ·subst e1;simpa using hR
 ·have h3:3<=n:=by omega
  have h1':¬n=1:=by omega
  have h2':¬n=2:=by omega
  simp only[h1',h2',if_false] at hq ⊢;obtain⟨v,hv⟩:∃v,v=if 5<=n then u+2 else u+1:=⟨_,rfl⟩
  obtain⟨B,hB⟩:∃B,B=(if 5<=n then (A.con 0 1 u).con 0 2 (u+1) else if 3<=n then A.con 0 1 u else A):=⟨_,rfl⟩
  have hv':(if 5<=n then u+2 else if 3<=n then u+1 else u)=v:=by rw[hv,if_pos h3]
  rw[hv',<-hB] at rb;have hR:Ry K (u+1) (if 5<=n then (((if n=3 then (((t1 (ar+1) v (clrs (ar+1) lv 0 (B.lay 24 0 0))).lay 14 B.ws.length 0).con 1 1 (u+1)).lay 6 0 0 else if n=4 then (t1 (ar+1) v (clrs (ar+1) lv 0 (B.lay 24 0 0))).lay 6 0 0 else (t1 (ar+1) v (clrs (ar+1) lv 0 (B.lay 24 0 0))).lay 26 (n-5).toNat 0).lay 13 B.ws.length 0).land B.ws.length).lay 27 0 0
    else ((if n=3 then (((t1 (ar+1) v (clrs (ar+1) lv 0 (B.lay 24 0 0))).lay 14 B.ws.length 0).con 1 1 (u+1)).lay 6 0 0 else if n=4 then (t1 (ar+1) v (clrs (ar+1) lv 0 (B.lay 24 0 0))).lay 6 0 0 else (t1 (ar+1) v (clrs (ar+1) lv 0 (B.lay 24 0 0))).lay 26 (n-5).toNat 0).lay 13 B.ws.length 0).land B.ws.length)
    (if (preD n a).lg then preD n a else finD n (preD n a).ws.length (preD n a).at1 (d1 (ar+1) (clrD (ar+1) lv 0 ((preD n a).puts 24 0 0)))):=by
   have qc:=(qle_lay B 24 0 0).trans (qgr_clrs (ar+1) lv 0 (B.lay 24 0 0));have qd:=h1.q (ar+1) v (clrs (ar+1) lv 0 (B.lay 24 0 0));refine rb.step ?_ (fun hl=>by rw[if_pos hl];exact hl) (fun q=>?_)
   ·have qm:=((((qc.trans qd).trans (qle_mid n B.ws.length u _)).trans (qle_lay _ 13 B.ws.length 0)).trans (qle_land _ B.ws.length))
    split
    ·exact qm.trans (qle_lay _ _ _ _)
    ·exact qm
   ·rw[if_neg (show ¬(preD n a).lg=true by rw[q.lg];decide)];have rc:=ry_clr (ar+1) lv 0 _ _ (ry_lay 24 0 0 0 rb (fun _=>rfl));have lc:B.ws.length+1<=(clrs (ar+1) lv 0 (B.lay 24 0 0)).ws.length:=by
     have:=(qgr_clrs (ar+1) lv 0 (B.lay 24 0 0)).ws
     rw[lay_len] at this;exact this
    have rd:=h1.r (ar+1) v _ _ rc;exact ry_fin n h3 _ _ _ _ u v _ _ rd hv (fun o=>⟨len_of rb (qc.trans qd) o,at1_of rb (qc.trans qd) (Nat.le_trans lc qd.ws) o⟩)
  have hn6:n=3\/n=4\/n=5\/n=6:=by omega
  rcases hn6 with e1|e1|e1|e1<;>subst e1<;>simp at hv hB<;>subst hv<;>subst hB<;>simpa using hR
def skF (K:Nat->Int):Fs->Int->Nat->Prop
 | ⟨none⟩,_,_=>True
 | ⟨some ⟨k,n,nm,a,ks,r⟩⟩,pk,i=>((22<=k/\k<=25) ↔ (pk=21/\i=0))/\(k=26->(kdF ks).getD 0 0=K n.toNat)/\skF K ks k 0/\skF K r pk (i+1)
def skE (K:Nat->Int)(e:Ex):Prop:=¬(22<=e.k/\e.k<=25)/\(e.k=26->(kdF e.kids).getD 0 0=K e.n.toNat)/\skF K e.kids e.k 0
theorem kdF_lenq:∀ f:Fs,(kdF f).length=f.len
 | ⟨none⟩=>rfl
 | ⟨some ⟨k,n,nm,a,ks,r⟩⟩=>by simp only[kdF,Fs.len,List.length_cons,kdF_lenq r]
theorem emF_len (lv:List Int):∀ f:Fs,(emF lv f).length=f.len
 | ⟨none⟩=>rfl
 | ⟨some ⟨k,n,nm,a,ks,r⟩⟩=>by simp only[emF,Fs.len,List.length_cons,emF_len lv r]
theorem doc_lenq {k n:Int}{nm:List UInt8}{len:Nat}(h:docF k n nm len=true):(k=6\/k=7\/k=24->len=1)/\(8<=k->k<=18->len=2)/\(k=19->len=3)/\(k=20->1<=len/\len<=2)/\(k=21->len=2/\1<=n/\n<=6)/\(k=22\/k=23->len=0)/\(k=26->len=1)/\(k=1\/k=2\/k=3\/(5<=k/\k<=26)):=by
 unfold docF at h;refine⟨fun e=>?_,fun e1 e2=>?_,fun e=>?_,fun e=>?_,fun e=>?_,fun e=>?_,fun e=>?_,?_⟩
 ·rcases e with rfl|rfl|rfl<;>simp at h<;>omega
 ·rw[if_neg (by omega),if_neg (by omega),if_neg (by omega),if_neg (by omega),if_pos (by omega)] at h;simp at h;omega
 ·subst e;simp at h;omega
 ·subst e;simp at h;omega
 ·subst e;simp at h;omega
 ·rcases e with rfl|rfl<;>simp at h<;>omega
 ·subst e;simp at h;omega
 ·apply Classical.byContradiction;intro hc
  repeat rw[if_neg (by omega)] at h
  cases h
theorem ry_par (K:Nat->Int)(lv:List Int)(nc:Nat)(k n:Int)(nm:List UInt8)(kk:List Int)(T:List Tr)(D:List Td)(len b:Nat)(hN:docF k n nm len=true)(hT:Rps K T D k 0)(hl:T.length=len)(hkk:kk.length=len)(hb:b=if 22<=k/\k<=25 then 0 else 1)(hc:k=26->kk.getD 0 0=K n.toNat)(hq:Qtr (prt lv k n nm kk T))(hk:∀ ar s,s.lg=true->(parD lv k n nm kk D ar s).lg=true) :
  Rp K b (prt lv k n nm kk T) (parD lv k n nm kk D):=by
 refine⟨hq,hk,fun ar u s e h=>h.step (hq ar u s) (hk ar e) (fun r=>?_)⟩;subst hb;have hDl:=rps_len T D 0 hT;obtain⟨l1,l2,l3,l4,l5,l6,l7,l8⟩:=doc_lenq hN;have kseq:k≠21->Ry K (u+T.length) (seqT T 0 ar u s) (kidsD D ar e):=fun hk=>by
  have:=ry_seq 0 0 k hk T D 0 0 ar u s e hT h
  rw[Nat.add_zero] at this;exact this
 have kget:∀ j,j<T.length->k≠21->Rp K 1 (T.getD j noT) (D.getD j noD):=fun j hj hk=>by
  have:=rps_get T D 0 j hT hj
  rw[if_neg (fun h=>hk h.1)] at this;exact this
 have hlg:¬(e.lg=true):=by rw[r.lg];decide
 by_cases hs:22<=k/\k<=25
 ·unfold prt parD;rw[if_pos hs,if_pos hs,if_neg (by omega),if_neg (by omega),if_neg (by omega),if_neg (by omega),if_neg (by omega),if_neg (by omega),if_neg (by omega),if_neg (by omega),if_neg (by omega),Nat.add_zero];have hseq:=kseq (by omega);generalize seqT T 0 ar u s=A at hseq ⊢;unfold setD opr
  dsimp only
  generalize kidsD D ar e=a at hseq ⊢;rw[if_neg (by omega),if_neg (by omega),if_neg (by omega),if_neg (by omega),if_neg (by omega)];by_cases e22:k=22
  ·subst e22;have h0:=l6 (.inl rfl);rw[if_neg (by omega),if_neg (by omega),if_pos rfl];exact ry_down u _ (ry_lay 20 0 0 0 hseq (fun _=>rfl)) (by omega) (by omega)
  ·by_cases e23:k=23
   ·subst e23;have h0:=l6 (.inr rfl);rw[if_pos rfl,if_neg (by omega),if_pos rfl];exact ry_down u _ (ry_lay 21 _ _ 0 (ry_kn nm hseq) (fun o=>by rw[(hseq.1 o).ns])) (by omega) (by omega)
   ·rw[if_neg e23,if_neg e22,if_neg e23];by_cases e24:k=24
    ·subst e24;rw[if_neg (by omega),if_pos rfl];exact ry_down u _ (ry_lay 22 0 0 0 hseq (fun _=>rfl)) (by omega) (by omega)
    ·have e25:k=25:=by omega
     subst e25;rw[if_pos rfl,if_neg (by omega)];exact ry_down u _ (ry_lay 23 kk.length D.length 0 hseq (fun _=>by omega)) (by omega) (by omega)
 ·unfold prt parD;rw[if_neg hs,if_neg hs,if_neg hlg];by_cases e1:k=1
  ·rw[if_pos e1,if_pos e1];exact ry_con n 1 h
  rw[if_neg e1,if_neg e1];by_cases e2:k=2
  ·rw[if_pos e2,if_pos e2];exact ry_con n 2 h
  rw[if_neg e2,if_neg e2];by_cases e3:k=3
  ·rw[if_pos e3,if_pos e3];exact ry_push 2 _ _ 0 (ry_kc n h) (fun o=>by rw[(h.1 o).cs])
  rw[if_neg e3,if_neg e3];by_cases e5:k=5
  ·rw[if_pos e5,if_pos e5];exact ry_push 3 _ _ 0 h (fun _=>rfl)
  rw[if_neg e5,if_neg e5];by_cases e6:6<=k/\k<=12
  ·rw[if_neg (by omega),if_neg (by omega),if_neg (by omega),if_neg (by omega),if_neg (by omega),if_pos e6];have hseq:=kseq (by omega);unfold opr;rw[if_neg (by omega),if_neg (by omega),if_neg (by omega),if_neg (by omega),if_neg (by omega),if_neg (by omega),if_neg (by omega)];by_cases e67:k=6\/k=7
   ·have:=l1 (by omega)
    rw[if_pos e67];exact ry_down (u+1) _ (ry_lay (barN k) 0 0 0 hseq (fun _=>rfl)) (by omega) (by omega)
   ·have:=l2 (by omega) (by omega)
    rw[if_neg e67];exact ry_down (u+1) _ (ry_lay (barN k) 0 0 0 hseq (fun _=>rfl)) (by omega) (by omega)
  rw[if_neg e6];by_cases e13:13<=k/\k<=16
  ·rw[if_neg (by omega),if_neg (by omega),if_neg (by omega),if_neg (by omega),if_neg (by omega),if_pos e13];have hseq:=kseq (by omega)
   have:=l2 (by omega) (by omega)
   unfold opr cmpD;by_cases k13:k=13
   ·rw[if_pos k13,if_pos k13];exact ry_down (u+1) _ (ry_lay 11 0 0 _ hseq (fun _=>rfl)) (by omega) (by omega)
   rw[if_neg k13,if_neg k13];by_cases k14:k=14
   ·rw[if_pos k14,if_pos k14];exact ry_down (u+1) _ (ry_lay 5 0 0 0 (ry_lay 11 0 0 _ hseq (fun _=>rfl)) (fun _=>rfl)) (by omega) (by omega)
   rw[if_neg k14,if_neg k14];by_cases k15:k=15
   ·rw[if_pos k15,if_pos k15];exact ry_down (u+1) _ (ry_lay 12 0 0 0 hseq (fun _=>rfl)) (by omega) (by omega)
   rw[if_neg k15,if_neg k15,if_pos (by omega)];exact ry_down (u+1) _ (ry_lay 12 0 0 1 hseq (fun _=>rfl)) (by omega) (by omega)
  rw[if_neg e13];by_cases e20:k=20
  ·rw[if_neg (by omega),if_neg (by omega),if_neg (by omega),if_neg (by omega),if_neg (by omega),if_pos e20];have hseq:=kseq (by omega)
   have:=l4 e20
   unfold opr;rw[if_neg (by omega),if_neg (by omega),if_neg (by omega),if_neg (by omega),if_pos e20];exact ry_down (u+1) _ (ry_lay 16 _ _ 0 hseq (fun _=>rfl)) (by omega) (by omega)
  rw[if_neg e20];by_cases e26:k=26
  ·rw[if_neg (by omega),if_neg (by omega),if_neg (by omega),if_pos e26,if_pos e26]
   have:=l7 e26
   exact ry_celD n.toNat _ (hc e26) (kget 0 (by omega) (by omega)) ar u s e h
  rw[if_neg e26];by_cases e21:k=21
  ·rw[if_neg (by omega),if_neg (by omega),if_neg (by omega),if_neg e26,if_pos e21,if_pos e21];have h5:=l5 e21;have g0:=rps_get T D 0 0 hT (by omega);have g1:=rps_get T D 0 1 hT (by omega);rw[if_pos ⟨e21,rfl⟩] at g0;rw[if_neg (by omega)] at g1;exact ry_qua lv n h5.2 g0 g1 ar u s e h
  rw[if_neg e21];have hk3:k=17\/k=18\/k=19:=by omega
  have g0:=kget 0 (by rcases hk3 with e|e|e<;>first|(have:=l2 (by omega) (by omega);omega)|(have:=l3 e;omega)) (by omega);have g1:=kget 1 (by rcases hk3 with e|e|e<;>first|(have:=l2 (by omega) (by omega);omega)|(have:=l3 e;omega)) (by omega);have hcho:=ry_cho k g0 g1 (fun h1 h2=>kget 2 (by have:=l3 (by omega);omega) (by omega)) ar u s e h;rcases hk3 with e|e|e<;>subst e<;>simpa using hcho
theorem rps_F (K:Nat->Int)(lv:List Int)(nc:Nat):∀ (f:Fs) (pk:Int) (i:Nat),skF K f pk i->okF nc f->Rps K (emF lv f) (deF lv f) pk i
 | ⟨none⟩,_,_,_,_=>trivial
 | ⟨some ⟨k,n,nm,a,ks,r⟩⟩,pk,i,h,ho=>by
  obtain⟨h1,h2,h3,h4⟩:=h;refine⟨?_,rps_F K lv nc r pk (i+1) h4 ho.2.2⟩;refine ry_par K lv nc k n nm (kdF ks) (emF lv ks) (deF lv ks) ks.len _ ho.1.1 (rps_F K lv nc ks k 0 h3 ho.2.1) (emF_len lv ks) (kdF_lenq ks) ?_ h2 (qtr_prt lv k n nm (kdF ks) (qtr_emF lv ks)) (fun ar s=>(dle_par lv k n nm (kdF ks) (deF lv ks) ks (tls_deF lv ks) ar s).lg);by_cases hs:22<=k/\k<=25
  ·rw[if_pos hs,if_pos (h1.1 hs)]
  ·rw[if_neg hs,if_neg (fun h=>hs (h1.2 h))]
theorem rp_E (K:Nat->Int)(lv:List Int)(nc:Nat)(e:Ex)(h:skE K e)(ho:okE nc e):Rp K 1 (emE lv e) (deE lv e) :=
 ry_par K lv nc e.k e.n e.nm (kdF e.kids) (emF lv e.kids) (deF lv e.kids) e.kids.len 1 ho.1.1 (rps_F K lv nc e.kids e.k 0 h.2.2 ho.2) (emF_len lv e.kids) (kdF_lenq e.kids) (by rw[if_neg h.1]) h.2.1 (qtr_prt lv e.k e.n e.nm (kdF e.kids) (qtr_emF lv e.kids)) (fun ar s=>(dle_deE lv e ar s).lg)
def de0 (lv:List Int):Dp:=⟨[],[],[],List.replicate lv.length 0,0,0,false⟩
def deA (lv:List Int)(e:Ex):Dp:=(deE lv e 0 (de0 lv)).puts 0 0 0
theorem ry_A (K:Nat->Int)(lv:List Int)(nc:Nat)(e:Ex)(h:skE K e)(ho:okE nc e):Ry K 1 (emA lv e) (deA lv e):=by
 have h0:Ry K 0 (em0 lv) (de0 lv):=by
  refine Ry.of ⟨⟨by simp[em0],by simp[em0]⟩,Nat.zero_le _,rfl,rfl,rfl,by simp[de0,em0],fun i hi=>?_,rfl,rfl,rfl⟩;simp only[em0,List.length_replicate] at hi
  left
  simp only[de0,em0];simp[hi,List.getD_eq_getElem?_getD,List.getElem?_replicate]
 exact ry_lay 0 0 0 0 ((rp_E K lv nc e h ho).r 0 0 _ _ h0) (fun _=>rfl)
open Go.ChangeShapes Go.WideShapes Go.ChangeAt Go.RowKit
theorem len_one {f:Fs}(h:f.len=1):∃x,f=Fs.ex x .nil:=by
 cases f using Fs.on with
 | nil=>simp[Fs.len] at h
 | cons k n nm a ks r =>
  cases r using Fs.on with
  | nil=>exact⟨⟨k,n,nm,a,ks⟩,rfl⟩
  | cons=>simp[Fs.len] at h
theorem len_two {f:Fs}(h:f.len=2):∃x y,f=Fs.ex x (Fs.ex y .nil):=by
 cases f using Fs.on with
 | nil=>simp[Fs.len] at h
 | cons k n nm a ks r =>
  obtain⟨y,rfl⟩:=len_one (f:=r) (by simp[Fs.len] at h;exact h);exact⟨⟨k,n,nm,a,ks⟩,y,rfl⟩
theorem len_three {f:Fs}(h:f.len=3):∃x y z,f=Fs.ex x (Fs.ex y (Fs.ex z .nil)):=by
 cases f using Fs.on with
 | nil=>simp[Fs.len] at h
 | cons k n nm a ks r =>
  obtain⟨y,z,rfl⟩:=len_two (f:=r) (by simp[Fs.len] at h;exact h);exact⟨⟨k,n,nm,a,ks⟩,y,z,rfl⟩
theorem doc_len {k n:Int}{nm:List UInt8}{len:Nat}(h:docF k n nm len=true):(k=19->len=3)/\(k=26->len=1)/\(8<=k->k<=18->len=2)/\(k=21->len=2/\1<=n/\n<=6)/\(k=20->1<=n/\n<=10)/\(k=5\/k=3->0<=n)/\(k=22\/k=23->len=0)/\(k=1\/k=2\/k=3\/k=5->len=0):=by
 unfold docF at h;refine⟨fun e=>?_,fun e=>?_,fun e1 e2=>?_,fun e=>?_,fun e=>?_,fun e=>?_,fun e=>?_,fun e=>?_⟩
 ·subst e;simp at h;omega
 ·subst e;simp at h;omega
 ·rw[if_neg (by omega),if_neg (by omega),if_neg (by omega),if_neg (by omega),if_pos (by omega)] at h;simp at h;omega
 ·subst e;simp at h;omega
 ·subst e;simp at h;omega
 ·rcases e with rfl|rfl<;>simp at h<;>omega
 ·rcases e with rfl|rfl<;>simp at h<;>omega
 ·rcases e with rfl|rfl|rfl|rfl<;>simp at h<;>omega
theorem ekid0 {P:Nat->Prop}{w:World}{y:Ex}{r:Fs}{ao:Option Addr}(h:SlN w P (Fs.ex y r) ao):∃b off ak ck,ao=some ⟨b,off,none⟩/\w.cell? ⟨b,off,none⟩=some (.int .i64 y.k)/\w.cell? ⟨b,off+1,none⟩=some (.int .i64 y.n)/\w.cell? ⟨b,off+2,none⟩=some (stv y.nm)/\w.cell? ⟨b,off+3,none⟩=some (.slice ak y.kids.len ck)/\SlN w P y.kids ak:=by
 obtain⟨b,off,ak,ck,h1,h2,h3,h4,h5,h6⟩:=SlN.kidP (x:=.nil) (r:=r) (y:=y) h 0 rfl;exact⟨b,off,ak,ck,h1,h2,h3,h4,h5,h6⟩
theorem ekid1 {P:Nat->Prop}{w:World}{x y:Ex}{r:Fs}{ao:Option Addr}(h:SlN w P (Fs.ex x (Fs.ex y r)) ao):∃b off ak ck,ao=some ⟨b,off,none⟩/\w.cell? ⟨b,off+4,none⟩=some (.int .i64 y.k)/\w.cell? ⟨b,off+5,none⟩=some (.int .i64 y.n)/\w.cell? ⟨b,off+6,none⟩=some (stv y.nm)/\w.cell? ⟨b,off+7,none⟩=some (.slice ak y.kids.len ck)/\SlN w P y.kids ak:=by
 obtain⟨b,off,ak,ck,h1,h2,h3,h4,h5,h6⟩:=SlN.kidP (x:=one x) (r:=r) (y:=y) h 1 rfl;exact⟨b,off,ak,ck,h1,h2,h3,h4,h5,h6⟩
theorem cells4e {w:World}{b:Nat}{x0 x1 x2 x3:Value}{t:TypeId}(h:w.heap[b]?=some (.cells #[x0,x1,x2,x3] t)):(w.cell? ⟨b,0,none⟩=some x0/\w.cell? ⟨b,1,none⟩=some x1/\w.cell? ⟨b,2,none⟩=some x2/\w.cell? ⟨b,3,none⟩=some x3)/\∀ j,w.frozen? ⟨b,j,none⟩=false:=by
 refine⟨⟨?_,?_,?_,?_⟩,fun j=>?_⟩<;>simp[World.cell?,World.frozen?,h]
theorem okF_ex {nc:Nat}{x:Ex}{r:Fs}(h:okF nc (Fs.ex x r)):okE nc x/\okF nc r:=⟨⟨h.1,h.2.1⟩,h.2.2⟩
theorem esize_ex (x:Ex)(r:Fs):(Fs.ex x r).size=x.kids.size+r.size+1:=rfl
theorem kdF_ex (x:Ex)(r:Fs):kdF (Fs.ex x r)=kdE x::kdF r:=rfl
theorem kdF_len:∀ (f:Fs),(kdF f).length=f.len
 | ⟨none⟩=>rfl
 | ⟨some ⟨k,n,nm,a,ks,r⟩⟩=>by simp only[kdF,Fs.len,List.length_cons];rw[kdF_len r]
theorem kdF_bd {nc:Nat}:∀ {f:Fs},okF nc f->∀ v ∈ kdF f,1<=v/\v<=3
 | ⟨none⟩,_=>fun v hv=>by simp[kdF] at hv
 | ⟨some ⟨k,n,nm,a,ks,r⟩⟩,h=>fun v hv=>by
  have h1:=kdF_bd h.2.1;have hl:=kdF_len ks;have hd:=doc_len h.1.1;simp only[kdF,List.mem_cons] at hv;rcases hv with rfl|hv
  ·unfold kdN;split
   ·omega
   ·split
    ·omega
    ·split
     ·rename_i e
      have:=hd.1 e
      have hlt:1<(kdF ks).length:=by omega
      rw[List.getD_eq_getElem?_getD,List.getElem?_eq_getElem hlt];exact h1 _ (List.getElem_mem hlt)
     ·split
      ·rename_i e
       have:=hd.2.1 e
       have hlt:0<(kdF ks).length:=by omega
       rw[List.getD_eq_getElem?_getD,List.getElem?_eq_getElem hlt];exact h1 _ (List.getElem_mem hlt)
      ·split
       ·unfold cakN;split;omega;split<;>omega
       ·split
        ·unfold qukN;split<;>omega
        ·omega
  ·exact kdF_bd h.2.2 v hv
theorem kdE_bd {nc:Nat}{e:Ex}(h:okE nc e):1<=kdE e/\kdE e<=3:=kdF_bd (f:=one e) (show okF nc (one e) from ⟨h.1,h.2,trivial⟩) (kdE e) (by simp[kdF,one,kdE])
theorem skF_at0 {K:Nat->Int}{x:Ex}{r:Fs}{pk:Int}(hp:pk≠21)(h:skF K (Fs.ex x r) pk 0):skE K x:=⟨fun hs=>hp (h.1.1 hs).1,h.2.1,h.2.2.1⟩
theorem skF_at1 {K:Nat->Int}{x y:Ex}{r:Fs}{pk:Int}(hp:pk≠21)(h:skF K (Fs.ex x (Fs.ex y r)) pk 0):skE K y:=⟨fun hs=>hp (h.2.2.2.1.1 hs).1,h.2.2.2.2.1,h.2.2.2.2.2.1⟩
theorem giveT_cak (n:Int)(h:1<=n/\n<=10):giveT n=cakN n:=by
 have hc:n=1\/n=2\/n=3\/n=4\/n=5\/n=6\/n=7\/n=8\/n=9\/n=10:=by omega
 rcases hc with rfl|rfl|rfl|rfl|rfl|rfl|rfl|rfl|rfl|rfl<;>rfl
theorem wholeT_quk (n:Int)(h:1<=n/\n<=6):wholeT n=qukN n:=by
 have hc:n=1\/n=2\/n=3\/n=4\/n=5\/n=6:=by omega
 rcases hc with rfl|rfl|rfl|rfl|rfl|rfl<;>rfl
theorem kindq_c (K:Nat->Int)(nc N:Nat):∀ (e:Ex) (ao:Option Addr) (cap:Nat) (w:World),e.kids.size<N->okE nc e->skE K e->SnA w e.kids ao ->
  Calls Tryd.prog 48 #[exN e ao cap] w fun r w'=>r=.returned (.int .i64 (kdE e))/\Below w.heap.size w w':=by
 induction N with
 | zero=>intro e ao cap w hs;omega
 | succ N ih =>
  intro e ao cap w hs ho hsk S;obtain⟨k,n,nm,a,ks⟩:=e;obtain⟨⟨hd,-,-⟩,hk⟩:=ho;obtain⟨hsk1,-,hsk2⟩:=hsk;simp only at hs hd hk S hsk1 hsk2;rw[exN_out];simp only;have hdl:=doc_len hd;by_cases h19:k=19
  ·subst h19;have hlen:ks.len=3:=hdl.1 rfl;rw[hlen];obtain⟨x,y,z,hks⟩:=len_three hlen;have S':=S;rw[hks] at S' hk hs hsk2;obtain⟨w1,hw1⟩:∃w1,w1=w.alloc (.cells #[.int .i64 19,.int .i64 n,stv nm,.slice ao 3 cap] 24):=⟨_,rfl⟩
   obtain⟨g,hg⟩:∃g,g=w.heap.size:=⟨_,rfl⟩
   have B1:Below w.heap.size w w1:=by rw[hw1];exact b1 _ _
   have C1:w1.heap[g]?=some (.cells #[.int .i64 19,.int .i64 n,stv nm,.slice ao 3 cap] 24):=by rw[hw1,hg];exact heap_alloc_new _ _
   obtain⟨⟨c0,c1,c2,c3⟩,-⟩:=cells4e C1;have HG:=Lib.hid hg;have HB:=Lib.hid B1;obtain⟨b,off,ak,ck,rfl,x0,x1,x2,x3,Sy⟩:=ekid1 (S'.below B1);have hv:kdE ⟨19,n,nm,a,ks⟩=kdE y:=by simp only[kdE,hks,kdF_ex];simp[kdN]
   rw[hv];have HC:=ih y ak ck w1 (by simp only[esize_ex] at hs;omega) (okF_ex (okF_ex hk).2).1 (skF_at1 (by omega) hsk2) Sy;rw[exN_out] at HC;clear B1 S S' hks hk hs hg C1 hv hdl hd hsk1 hsk2;go_enter Tryd.func48,Tryd.ntmps48;go_upto_region 1 with fail;rw[<-hw1,<-HG.out];clear hw1;go_wp2_with fail;refine HC.mono ?_;rintro r w2 ⟨rfl,B2⟩;go_wp2;go_ret;exact⟨rfl,HB.out.trans (B2.mono HB.out.size)⟩
  by_cases h26:k=26
  ·subst h26;have hlen:ks.len=1:=hdl.2.1 rfl;rw[hlen];obtain⟨x,hks⟩:=len_one hlen;have S':=S;rw[hks] at S' hk hs hsk2;obtain⟨w1,hw1⟩:∃w1,w1=w.alloc (.cells #[.int .i64 26,.int .i64 n,stv nm,.slice ao 1 cap] 24):=⟨_,rfl⟩
   obtain⟨g,hg⟩:∃g,g=w.heap.size:=⟨_,rfl⟩
   have B1:Below w.heap.size w w1:=by rw[hw1];exact b1 _ _
   have C1:w1.heap[g]?=some (.cells #[.int .i64 26,.int .i64 n,stv nm,.slice ao 1 cap] 24):=by rw[hw1,hg];exact heap_alloc_new _ _
   obtain⟨⟨c0,c1,c2,c3⟩,-⟩:=cells4e C1;have HG:=Lib.hid hg;have HB:=Lib.hid B1;obtain⟨b,off,ak,ck,rfl,x0,x1,x2,x3,Sy⟩:=ekid0 (S'.below B1);have hv:kdE ⟨26,n,nm,a,ks⟩=kdE x:=by simp only[kdE,hks,kdF_ex];simp[kdN]
   rw[hv];have HC:=ih x ak ck w1 (by simp only[esize_ex] at hs;omega) (okF_ex hk).1 (skF_at0 (by omega) hsk2) Sy;rw[exN_out] at HC;clear B1 S S' hks hk hs hg C1 hv hdl hd hsk1 hsk2;go_enter Tryd.func48,Tryd.ntmps48;go_upto_region 1 with fail;rw[<-hw1,<-HG.out];clear hw1;go_wp2_with fail;refine HC.mono ?_;rintro r w2 ⟨rfl,B2⟩;go_wp2;go_ret;exact⟨rfl,HB.out.trans (B2.mono HB.out.size)⟩
  by_cases h20:k=20
  ·subst h20;have hv:kdE ⟨20,n,nm,a,ks⟩=cakN n:=by simp[kdE,kdN]
   rw[hv];obtain⟨w1,hw1⟩:∃w1,w1=w.alloc (.cells #[.int .i64 20,.int .i64 n,stv nm,.slice ao ks.len cap] 24):=⟨_,rfl⟩
   obtain⟨g,hg⟩:∃g,g=w.heap.size:=⟨_,rfl⟩
   have B1:Below w.heap.size w w1:=by rw[hw1];exact b1 _ _
   have C1:w1.heap[g]?=some (.cells #[.int .i64 20,.int .i64 n,stv nm,.slice ao ks.len cap] 24):=by rw[hw1,hg];exact heap_alloc_new _ _
   obtain⟨⟨c0,c1,c2,c3⟩,-⟩:=cells4e C1;have HG:=Lib.hid hg;have HB:=Lib.hid B1;have HC:=gives_q n w1;rw[giveT_cak n (hdl.2.2.2.2.1 rfl)] at HC;clear B1 S hk hs hg C1 hv hdl hd hsk1 hsk2;go_enter Tryd.func48,Tryd.ntmps48;go_upto_region 1 with fail;rw[<-hw1,<-HG.out];clear hw1;go_wp2_with fail;refine HC.mono ?_;rintro r w2 ⟨rfl,hww⟩;subst hww;go_wp2;go_ret;exact⟨rfl,HB.out⟩
  by_cases h21:k=21
  ·subst h21;have hv:kdE ⟨21,n,nm,a,ks⟩=qukN n:=by simp[kdE,kdN]
   rw[hv];obtain⟨w1,hw1⟩:∃w1,w1=w.alloc (.cells #[.int .i64 21,.int .i64 n,stv nm,.slice ao ks.len cap] 24):=⟨_,rfl⟩
   obtain⟨g,hg⟩:∃g,g=w.heap.size:=⟨_,rfl⟩
   have B1:Below w.heap.size w w1:=by rw[hw1];exact b1 _ _
   have C1:w1.heap[g]?=some (.cells #[.int .i64 21,.int .i64 n,stv nm,.slice ao ks.len cap] 24):=by rw[hw1,hg];exact heap_alloc_new _ _
   obtain⟨⟨c0,c1,c2,c3⟩,-⟩:=cells4e C1;have HG:=Lib.hid hg;have HB:=Lib.hid B1;have HC:=whole_q n w1;rw[wholeT_quk n (hdl.2.2.2.1 rfl).2] at HC;clear B1 S hk hs hg C1 hv hdl hd hsk1 hsk2;go_enter Tryd.func48,Tryd.ntmps48;go_upto_region 1 with fail;rw[<-hw1,<-HG.out];clear hw1;go_wp2_with fail;refine HC.mono ?_;rintro r w2 ⟨rfl,hww⟩;subst hww;go_wp2;go_ret;exact⟨rfl,HB.out⟩
  have hc:k=1\/k=2\/k=3\/k=5\/k=6\/k=7\/k=8\/k=9\/k=10\/k=11\/k=12\/k=13\/k=14\/k=15\/k=16\/k=17\/k=18:=by
   have:=docF_kind hd
   omega
  obtain⟨w1,hw1⟩:∃w1,w1=w.alloc (.cells #[.int .i64 k,.int .i64 n,stv nm,.slice ao ks.len cap] 24):=⟨_,rfl⟩
  obtain⟨g,hg⟩:∃g,g=w.heap.size:=⟨_,rfl⟩
  have B1:Below w.heap.size w w1:=by rw[hw1];exact b1 _ _
  have C1:w1.heap[g]?=some (.cells #[.int .i64 k,.int .i64 n,stv nm,.slice ao ks.len cap] 24):=by rw[hw1,hg];exact heap_alloc_new _ _
  obtain⟨⟨c0,c1,c2,c3⟩,-⟩:=cells4e C1;have HG:=Lib.hid hg;have HB:=Lib.hid B1;clear B1 S hk hs hg C1 hd hdl ih h19 h26 h20 h21 hsk1 hsk2;rcases hc with rfl|rfl|rfl|rfl|rfl|rfl|rfl|rfl|rfl|rfl|rfl|rfl|rfl|rfl|rfl|rfl|rfl 
  all_goals
   go_enter Tryd.func48,Tryd.ntmps48;go_upto_region 1 with fail;rw[<-hw1,<-HG.out];clear hw1;go_wp2;go_ret;exact⟨rfl,HB.out⟩
theorem stepN {I:Nat->Prop}{w w':World}(o:Nat->Nat)(b:Below w.heap.size w w'):Step I w o w' (newLab w o 0):=⟨b.os,b.tape,b.output,b.size,fun k hk=>newLab_old hk,fun k hk _=>b.block k hk⟩
theorem al2 (w:World)(a b:Obj):((w.alloc a).alloc b).heap[w.heap.size]?=some a/\((w.alloc a).alloc b).heap[w.heap.size+1]?=some b/\((w.alloc a).alloc b).heap.size=w.heap.size+2/\Below w.heap.size w ((w.alloc a).alloc b):=by
 refine⟨(heap_alloc_old _ _ (by simp)).trans (heap_alloc_new _ _),?_,by simp,((Below.refl _ w).alloc (Nat.le_refl _) _).alloc (by simp) _⟩
 have:=heap_alloc_new (w.alloc a) b
 rw[World.size_alloc] at this;exact this
abbrev pt0 (b:Nat):Value:=.pointer (some ⟨b,0,none⟩)
theorem not0:¬I17 0:=by decide
abbrev Nd4 (w:World)(b j:Nat)(y:Ex)(ak:Option Addr)(ck:Nat):Prop:=w.cell? ⟨b,j,none⟩=some (.int .i64 y.k)/\w.cell? ⟨b,j+1,none⟩=some (.int .i64 y.n)/\w.cell? ⟨b,j+2,none⟩=some (stv y.nm)/\w.cell? ⟨b,j+3,none⟩=some (.slice ak y.kids.len ck)
theorem Nd4.block {w w':World}{b j:Nat}{y:Ex}{ak:Option Addr}{ck:Nat}(h:Nd4 w b j y ak ck)(e:w'.heap[b]?=w.heap[b]?):Nd4 w' b j y ak ck :=
 ⟨(World.cell?_of_block (a:=⟨b,j,none⟩) e).trans h.1,(World.cell?_of_block (a:=⟨b,j+1,none⟩) e).trans h.2.1,(World.cell?_of_block (a:=⟨b,j+2,none⟩) e).trans h.2.2.1,(World.cell?_of_block (a:=⟨b,j+3,none⟩) e).trans h.2.2.2⟩
theorem kidO {w:World}{o:Nat->Nat}{x r:Fs}{y:Ex}{ao:Option Addr}(h:SnO w o (x.app (Fs.ex y r)) ao)(i:Nat)(hi:x.len=i):∃b off ak ck,ao=some ⟨b,off,none⟩/\Nd4 w b (off+i*4) y ak ck/\SnO w o y.kids ak/\∀ {I:Nat->Prop}{w':World}{o':Nat->Nat},Step I w o w' o'->¬I 0->Nd4 w' b (off+i*4) y ak ck:=by
 subst hi;obtain⟨b,off,ak,ck,rfl,hlt,hp,x0,x1,x2,x3,S⟩:=SlN.kidQ h;have N:Nd4 w b (off+x.len*4) y ak ck:=⟨x0,x1,x2,x3⟩
 exact⟨b,off,ak,ck,rfl,N,S,fun x hi=>N.block (x.block b hlt (by rw[hp];exact hi))⟩
theorem doc_nm {k n:Int}{nm:List UInt8}{len:Nat}(h:docF k n nm len=true):nm.length<=12:=by
 have hk:=docF_kind h;unfold docF at h;rcases hk with rfl|rfl|rfl|rfl|rfl|rfl|rfl|rfl|rfl|rfl|rfl|rfl|rfl|rfl|rfl|rfl|rfl|rfl|rfl|rfl|rfl|rfl|rfl|rfl|rfl
 all_goals first
 | (simp at h;have h2:nm=[]:=(by first|exact h.1|exact h.2.1|exact h.2.2.1|exact h.2|exact h);rw[h2];simp;done)
 | (
  simp at h;have h2:=h.2.2;unfold nameB at h2;split at h2
  ·cases h2
  ·simp only[Bool.and_eq_true,decide_eq_true_eq] at h2;simp;omega)
theorem app_exE:∀ (d:Fs) (y:Ex) (r:Fs),d.app (Fs.ex y r)=(d.snoc y).app r
 | ⟨none⟩,y,r=>rfl
 | ⟨some ⟨k,n,nm,a,ks,t⟩⟩,y,r=>by
  have h:=app_exE t y r;simp only[Fs.app,Fs.snoc] at h ⊢;rw[h]
theorem okF_app {nc:Nat}:∀ {d r:Fs},okF nc (d.app r)->okF nc r
 | ⟨none⟩,r,h=>h
 | ⟨some ⟨k,n,nm,a,ks,t⟩⟩,r,h=>okF_app (d:=t) h.2.2
theorem len_size:∀ (f:Fs),f.len<=f.size
 | ⟨none⟩=>Nat.le_refl _
 | ⟨some ⟨k,n,nm,a,ks,r⟩⟩=>by have:=len_size r;simp only[Fs.len,Fs.size];omega
def DX (w:World)(o:Nat->Nat)(p4:Value)(lv:List Int):Prop :=
 ∃ao cap,p4=.slice ao lv.length cap/\(lv=[]\/∃b off,ao=some ⟨b,off,none⟩/\o b=0/\b<w.heap.size/\∀ j x,lv[j]?=some x->w.cell? ⟨b,off+j,none⟩=some (.int .i64 x))
theorem DX.step {I:Nat->Prop}{w w':World}{o o':Nat->Nat}{p4:Value}{lv:List Int}(h:DX w o p4 lv)(x:Step I w o w' o')(hi:¬I 0):DX w' o' p4 lv:=by
 obtain⟨ao,cap,h6,h7⟩:=h;refine⟨ao,cap,h6,?_⟩;rcases h7 with h7|⟨b,off,e1,e2,e3,e4⟩
 ·exact .inl h7
 ·exact .inr ⟨b,off,e1,(x.lab b e3).trans e2,Nat.lt_of_lt_of_le e3 x.size,fun j y hy=>(World.cell?_of_block (a:=⟨b,off+j,none⟩) (x.block b e3 (by rw[e2];exact hi))).trans (e4 j y hy)⟩
def PartD (K:Nat->Int)(nc N:Nat):Prop:=∀ (e:Ex) (ao:Option Addr) (cap ar:Nat) (w:World) (o:Nat->Nat) (rb:Nat) (p0 p1 p2 p3 p4:Value) (lv:List Int) (s:Dp) (m:Nat),
 e.kids.size<N->okE nc e->skE K e->lv.length=nc->nc<=256->ar+e.kids.size<=1000000->e.kids.size<=100000->SnO w o e.kids ao->s.ks.length=nc->s.sz m->m+(17*e.kids.size+16)<=100000000->DX w o p4 lv->DW w o rb p0 p1 p2 p3 p4 s ->
 Calls Tryd.prog 14 #[pt0 rb,exN e ao cap,.int .i64 (ar:Nat)] w (PosD w o rb p0 p1 p2 p3 p4 (deE lv e ar s) (.tuple #[]))
theorem headD {w:World}{o:Nat->Nat}{rb:Nat}{p0 p1 p2 p3 p4:Value}{s:Dp}{lv:List Int}{ks:Fs}{ao:Option Addr}(c:Array Value)(h:DW w o rb p0 p1 p2 p3 p4 s)(X:DX w o p4 lv)(S:SnO w o ks ao) :
  ∃w1 o1 g,w1=w.alloc (.cells c 24)/\Hid (g=w.heap.size)/\Blk w1 o1 0 g (.cells c 24)/\DW w1 o1 rb p0 p1 p2 p3 p4 s/\DX w1 o1 p4 lv/\SnO w1 o1 ks ao/\Step I17 w o w1 o1 :=
 have s0:∀ {I:Nat->Prop},Step I w o (w.alloc (.cells c 24)) (newLab w o 0):=fun {I}=>stepN o (b1 _ _)
 ⟨_,newLab w o 0,w.heap.size,rfl,rfl,⟨heap_alloc_new _ _,newLab_new (Nat.le_refl _)⟩,h.step (s0 (I:=fun _=>False)) noF,X.step (s0 (I:=fun _=>False)) id,S.stepO (s0 (I:=fun _=>False)) id,s0⟩
theorem keepB {w1:World}{o1:Nat->Nat}{g:Nat}{x0 x1 x2 x3:Value}(h:Blk w1 o1 0 g (.cells #[x0,x1,x2,x3] 24)):Hid (∀ w' o',Step I17 w1 o1 w' o'->w'.cell? ⟨g,0,none⟩=some x0/\w'.cell? ⟨g,1,none⟩=some x1/\w'.cell? ⟨g,2,none⟩=some x2/\w'.cell? ⟨g,3,none⟩=some x3) :=
 fun w' o' S=>(cells4e (h.step S not0).1).1
theorem DW.cl {w:World}{o:Nat->Nat}{rb:Nat}{p0 p1 p2 p3 p4:Value}{s:Dp}(h:DW w o rb p0 p1 p2 p3 p4 s):w.cell? ⟨rb,11,none⟩=some (.bool s.lg)/\w.cell? ⟨rb,4,none⟩=some p4:=by
 obtain⟨wl,vc,vn,vk,vw,q0,-⟩:=h;obtain⟨⟨c4,c5,c6,c7,c8,c9,c10,c11⟩,cf⟩:=cells12 q0.1;exact⟨c11,c4⟩
theorem deE_lg {lv:List Int}{e:Ex}{ar:Nat}{s:Dp}(h:¬(22<=e.k/\e.k<=25))(hl:s.lg=true):deE lv e ar s=s:=by
 unfold deE parD;rw[if_neg h,if_pos hl]
theorem kidsD_lg {K:Nat->Int}{pk:Int}{lv:List Int}{ar:Nat}{s:Dp}(hp:pk≠21)(hl:s.lg=true):∀ (f:Fs) (i:Nat),skF K f pk i->kidsD (deF lv f) ar s=s
 | ⟨none⟩,i,h=>rfl
 | ⟨some ⟨k,n,nm,a,ks,r⟩⟩,i,h=>by
  have e1:deF lv ⟨some ⟨k,n,nm,a,ks,r⟩⟩=deE lv ⟨k,n,nm,a,ks⟩::deF lv r:=rfl;rw[e1,kidsD,deE_lg (fun hs=>hp (h.1.1 hs).1) hl,kidsD_lg hp hl r (i+1) h.2.2.2]
theorem kids_d (K:Nat->Int)(nc N:Nat)(HP:PartD K nc N)(k n:Int)(nm:List UInt8)(a:Int)(ks:Fs)(ao:Option Addr)(cap ar:Nat)(w:World)(o:Nat->Nat)(rb:Nat)(p0 p1 p2 p3 p4:Value)(lv:List Int)(s:Dp)(m:Nat)
  (hN:ks.size<=N) (ho:okF nc ks) (h21:k≠21) (hsk:skF K ks k 0) (hlv:lv.length=nc) (hnc:nc<=256) (har:ar+ks.size<=1000000) (hsz:ks.size<=100000) (S:SnO w o ks ao) (hks:s.ks.length=nc) (hz:s.sz m) (hm:m+17*ks.size<=100000000) (X:DX w o p4 lv) (h:DW w o rb p0 p1 p2 p3 p4 s) :
  Calls Tryd.prog 27 #[pt0 rb,exN ⟨k,n,nm,a,ks⟩ ao cap,.int .i64 (ar:Nat)] w (PosD w o rb p0 p1 p2 p3 p4 (kidsD (deF lv ks) ar s) (.tuple #[])):=by
 obtain⟨w1,o1,g,hw1,HG,B1,E1,X1,SN1,S0⟩:=headD #[.int .i64 k,.int .i64 n,stv nm,.slice ao ks.len cap] h X S;have KK:=keepB B1;have hlz:=len_size ks;obtain⟨W,hW⟩:∃W,W=kidsD (deF lv ks) ar s:=⟨_,rfl⟩
 have HW:Hid (W=kidsD (deF lv ks) ar s):=hW;rw[<-hW];clear hW B1 h X S;rw[exN_out];obtain⟨c0,c1,c2,c3⟩:=KK.out _ _ (Step.refl I17 w1 o1);obtain⟨l1,-⟩:=E1.cl;simp only;go_enter Tryd.func27,Tryd.ntmps27;go_upto_region 1 with fail;rw[<-hw1,<-HG.out];clear hw1;go_wp2_with fail;go_loopw [6] (fun vi wr=>∃(d r:Fs) (s':Dp) (o':Nat->Nat),Hid (ks=d.app r)/\vi=.int .i64 (d.len:Nat)/\DW wr o' rb p0 p1 p2 p3 p4 s'/\Step I17 w1 o1 wr o'/\Dle (17*d.size) s s'/\Hid (W=kidsD (deF lv r) ar s')/\Hid (skF K r k d.len)) (fun vi _=>ks.len-(intOf vi).toNat)
 case atStart=>exact⟨.nil,ks,s,o1,rfl,by show _=Value.int .i64 ((0:Nat):Int);rfl,E1,Step.refl _ _ _,Dle.refl s,HW,hsk⟩
 case round =>
  clear HW E1 c0 c1 c2 c3 l1 hsk;obtain⟨d,r,s',o',HK,rfl,E2,S2,g2,HW,HS⟩:=hrel;obtain⟨c0,c1,c2,c3⟩:=KK.out _ _ S2;obtain⟨l1,-⟩:=E2.cl;have hlk:ks.len=d.len+r.len:=by rw[HK.out,Fs.len_app]
  have hsk:ks.size=d.size+r.size:=by rw[HK.out,Fs.size_app]
  have hld:=len_size d;cases r using Fs.on with
  | nil =>
   have hkI:¬(d.len:Int)<(ks.len:Int):=by simp only[Fs.len] at hlk;omega
   have HW2:Hid (W=s'):=HW.out;clear HW HK hlk hsk hld hlz KK g2;go_wp2
   go_end0
   exact⟨rfl,o',by rw[HW2.out];exact E2,S0.trans S2⟩
  | cons kk kn km ka kks kr =>
   have hkI:(d.len:Int)<(ks.len:Int):=by simp only[Fs.len] at hlk;omega
   by_cases hlg:s'.lg=true
   ·have HW2:Hid (W=s'):=by show _=_;rw[HW.out];exact kidsD_lg h21 hlg _ _ HS.out
    rw[hlg] at l1;clear HW HK hlk hsk hld hlz KK g2 HS;go_wp2
    go_end0
    exact⟨rfl,o',by rw[HW2.out];exact E2,S0.trans S2⟩
   ·have hlf:s'.lg=false:=by simpa using hlg
    rw[hlf] at l1;obtain⟨y,hy⟩:∃y:Ex,y=⟨kk,kn,km,ka,kks⟩:=⟨_,rfl⟩
    have hcy:Fs.cons kk kn km ka kks kr=Fs.ex y kr:=by rw[hy];rfl
    rw[hcy] at HK HW HS hlk hsk;have hly:(Fs.ex y kr).len=kr.len+1:=rfl;rw[hly] at hlk;rw[esize_ex] at hsk;have oky:okE nc y:=by
     rw[HK.out] at ho;exact(okF_ex (okF_app ho)).1
    have SNk:=SN1.stepO S2 not0;rw[HK.out] at SNk;obtain⟨b,off,ak,ck,rfl,NN,Sy,NK⟩:=kidO (x:=d) SNk d.len rfl;obtain⟨x0,x1,x2,x3⟩:=NN;have HC:=HP y ak ck ar wr o' rb p0 p1 p2 p3 p4 lv s' (m+17*d.size) (by omega) oky ⟨fun hs=>h21 (HS.out.1.1 hs).1,HS.out.2.1,HS.out.2.2.1⟩ hlv hnc (by omega) (by omega) Sy (g2.ks.trans hks) (g2.sz m hz) (by omega) (X1.step S2 not0) E2;have gy:=dle_deE lv y ar s';have HWn:Hid (W=kidsD (deF lv kr) ar (deE lv y ar s')):=HW.out;have HSn:Hid (skF K kr k (d.len+1)):=HS.out.2.2.2;have HKn:Hid (ks=(d.snoc y).app kr):=by show _=_;rw[HK.out,app_exE]
    have HDN:Hid ((d.snoc y).len=d.len+1):=Fs.len_snoc d y;have HDS:Hid ((d.snoc y).size=d.size+(y.kids.size+1)):=by show _=_;unfold Fs.snoc;rw[Fs.size_app];rfl
    rw[exN_out] at HC;have HLK:=Lib.hid hlk;clear hy hcy hly SNk NK Sy HW HK HS E2 hsk hlk hlf hlg KK;go_wp2_with (first|(go_at_call 14;refine HC.mono ?_;rintro z w5 ⟨rfl,o5,E5,S5⟩));go_roundw
    case rel=>(try ((repeat apply Exists.intro);refine⟨?_,rfl⟩));exact⟨d.snoc y,kr,_,o5,HKn,by rw[HDN.out];go_num,E5,S2.trans S5,by rw[HDS.out];exact(g2.trans gy).le (by omega),HWn,by rw[HDN.out];exact HSn⟩
    case measure=>have hlk:=HLK.out;simp[intOf];omega
theorem pval_d (k n:Int)(nm:List UInt8)(a:Int)(ks:Fs)(ao:Option Addr)(cap ar:Nat)(w:World)(o:Nat->Nat)(rb:Nat)(p0 p1 p2 p3 p4:Value)(lv:List Int)(s:Dp)(m:Nat)(kd:Nat)(hk:(k=1/\kd=1)\/(k=2/\kd=2))(hlf:s.lg=false)(S:SnO w o ks ao)(hz:s.sz m)(hm:m+2<=100000000)(X:DX w o p4 lv)(h:DW w o rb p0 p1 p2 p3 p4 s) :
  Calls Tryd.prog 14 #[pt0 rb,exN ⟨k,n,nm,a,ks⟩ ao cap,.int .i64 (ar:Nat)] w (PosD w o rb p0 p1 p2 p3 p4 (s.val n kd) (.tuple #[])):=by
 obtain⟨w1,o1,g,hw1,HG,B1,E1,X1,SN1,S0⟩:=headD #[.int .i64 k,.int .i64 n,stv nm,.slice ao ks.len cap] h X S;have KK:=keepB B1;obtain⟨c0,c1,c2,c3⟩:=KK.out _ _ (Step.refl I17 w1 o1);obtain⟨l1,-⟩:=E1.cl;have T1:=Step.refl I17 w1 o1;clear B1 h X S;rw[exN_out];simp only;rw[hlf] at l1;have H1:=value_c w1 o1 rb p0 p1 p2 p3 p4 s n kd m hz hm E1;clear KK E1 X1 SN1;rcases hk with ⟨rfl,rfl⟩|⟨rfl,rfl⟩
 all_goals
  first|rw[show ((1:Nat):Int)=1 from rfl] at H1|rw[show ((2:Nat):Int)=2 from rfl] at H1
  go_enter Tryd.func14,Tryd.ntmps14;go_upto_region 1 with fail;rw[<-hw1,<-HG.out];clear hw1;go_wp2_with fail;refine H1.mono ?_;rintro e w2 ⟨rfl,o2,E2,S2⟩;go_wp2
  go_end0
  exact⟨rfl,o2,E2,S0.trans S2⟩
theorem pvtx_d (k n:Int)(nm:List UInt8)(a:Int)(ks:Fs)(ao:Option Addr)(cap ar:Nat)(w:World)(o:Nat->Nat)(rb:Nat)(p0 p1 p2 p3 p4:Value)(lv:List Int)(s:Dp)(m:Nat)(hk:k=3)(hlf:s.lg=false)(S:SnO w o ks ao)(hz:s.sz m)(hm:m+2<=100000000)(X:DX w o p4 lv)(h:DW w o rb p0 p1 p2 p3 p4 s) :
  Calls Tryd.prog 14 #[pt0 rb,exN ⟨k,n,nm,a,ks⟩ ao cap,.int .i64 (ar:Nat)] w (PosD w o rb p0 p1 p2 p3 p4 (((s.kI n).puts 2 (s.cs.idxOf n) 0).grows 1) (.tuple #[])):=by
 obtain⟨w1,o1,g,hw1,HG,B1,E1,X1,SN1,S0⟩:=headD #[.int .i64 k,.int .i64 n,stv nm,.slice ao ks.len cap] h X S;have KK:=keepB B1;obtain⟨c0,c1,c2,c3⟩:=KK.out _ _ (Step.refl I17 w1 o1);obtain⟨l1,-⟩:=E1.cl;have T1:=Step.refl I17 w1 o1;clear B1 h X S;rw[exN_out];simp only;rw[hlf] at l1;subst hk;go_enter Tryd.func14,Tryd.ntmps14;go_upto_region 1 with fail;rw[<-hw1,<-HG.out];clear hw1;have H1:=k_c w1 o1 rb p0 p1 p2 p3 p4 s n (by have:=hz.c;omega) E1;go_wp2_with fail;refine H1.mono ?_;rintro e w2 ⟨rfl,o2,E2,S2⟩;have T2:=T1.trans S2;clear H1 S2;clear c0 c1 c2 c3;obtain⟨c0,c1,c2,c3⟩:=KK.out _ _ T2;have H2:=puts_c w2 o2 rb p0 p1 p2 p3 p4 (s.kI n) 2 (s.cs.idxOf n) 0 E2;go_wp2_with fail;refine H2.mono ?_;rintro e w3 ⟨rfl,o3,E3,S3⟩;have T3:=T2.trans S3;clear H2 S3;clear c0 c1 c2 c3;obtain⟨c0,c1,c2,c3⟩:=KK.out _ _ T3;have H3:=grows_c w3 o3 rb p0 p1 p2 p3 p4 ((s.kI n).puts 2 (s.cs.idxOf n) 0) (1) _ ((dle_puts _ 2 (s.cs.idxOf n) 0).sz _ ((dle_kI s n).sz m hz)) (by omega) (by omega) E3;go_wp2_with fail;refine H3.mono ?_;rintro e w4 ⟨rfl,o4,E4,S4⟩;have T4:=T3.trans S4;clear H3 S4;clear c0 c1 c2 c3;obtain⟨c0,c1,c2,c3⟩:=KK.out _ _ T4;go_wp2
 go_end0
 exact⟨rfl,o4,E4,S0.trans T4⟩
theorem pvar_d (k n:Int)(nm:List UInt8)(a:Int)(ks:Fs)(ao:Option Addr)(cap ar:Nat)(w:World)(o:Nat->Nat)(rb:Nat)(p0 p1 p2 p3 p4:Value)(lv:List Int)(s:Dp)(m:Nat)(hk:k=5)(hn:0<=n)(hlf:s.lg=false)(S:SnO w o ks ao)(hz:s.sz m)(hm:m+2<=100000000)(X:DX w o p4 lv)(h:DW w o rb p0 p1 p2 p3 p4 s) :
  Calls Tryd.prog 14 #[pt0 rb,exN ⟨k,n,nm,a,ks⟩ ao cap,.int .i64 (ar:Nat)] w (PosD w o rb p0 p1 p2 p3 p4 ((s.puts 3 n.toNat 0).grows 1) (.tuple #[])):=by
 obtain⟨n0,hn0⟩:∃n0:Nat,(n0:Int)=n:=⟨n.toNat,by omega⟩
 subst hn0;rw[Int.toNat_natCast];obtain⟨w1,o1,g,hw1,HG,B1,E1,X1,SN1,S0⟩:=headD #[.int .i64 k,.int .i64 (n0:Nat),stv nm,.slice ao ks.len cap] h X S;have KK:=keepB B1;obtain⟨c0,c1,c2,c3⟩:=KK.out _ _ (Step.refl I17 w1 o1);obtain⟨l1,-⟩:=E1.cl;have T1:=Step.refl I17 w1 o1;clear B1 h X S;rw[exN_out];simp only;rw[hlf] at l1;subst hk;go_enter Tryd.func14,Tryd.ntmps14;go_upto_region 1 with fail;rw[<-hw1,<-HG.out];clear hw1;have H1:=puts_c w1 o1 rb p0 p1 p2 p3 p4 (s) 3 n0 0 E1;go_wp2_with fail;refine H1.mono ?_;rintro e w2 ⟨rfl,o2,E2,S2⟩;have T2:=T1.trans S2;clear H1 S2;clear c0 c1 c2 c3;obtain⟨c0,c1,c2,c3⟩:=KK.out _ _ T2;have H2:=grows_c w2 o2 rb p0 p1 p2 p3 p4 (s.puts 3 n0 0) (1) _ ((dle_puts s 3 n0 0).sz m hz) (by omega) (by omega) E2;go_wp2_with fail;refine H2.mono ?_;rintro e w3 ⟨rfl,o3,E3,S3⟩;have T3:=T2.trans S3;clear H2 S3;clear c0 c1 c2 c3;obtain⟨c0,c1,c2,c3⟩:=KK.out _ _ T3;go_wp2
 go_end0
 exact⟨rfl,o3,E3,S0.trans T3⟩
theorem simple_d (k:Int)(hk:6<=k/\k<=12)(w:World):Calls Tryd.prog 28 #[.int .i64 k] w fun e w'=>e=.returned (.tuple #[.int .i64 (barN k:Nat),.int .i64 (if k=6\/k=7 then 0 else 1)])/\w'=w:=by
 have hc:k=6\/k=7\/k=8\/k=9\/k=10\/k=11\/k=12:=by omega
 rcases hc with rfl|rfl|rfl|rfl|rfl|rfl|rfl
 all_goals
  go_enter Tryd.func28,Tryd.ntmps28;go_wp2;go_ret2;exact⟨rfl,rfl⟩
theorem dle_kidsz (lv:List Int)(ks:Fs)(ar:Nat)(s:Dp):Dle (17*ks.size) s (kidsD (deF lv ks) ar s):=by
 obtain⟨-,c,hc,hk⟩:=dle_kids _ ks (tls_deF lv ks);exact(hk ar s).le (by omega)
theorem pops_d (K:Nat->Int)(nc N:Nat)(HP:PartD K nc N)(k n:Int)(nm:List UInt8)(a:Int)(ks:Fs)(ao:Option Addr)(cap ar:Nat)(w:World)(o:Nat->Nat)(rb:Nat)(p0 p1 p2 p3 p4:Value)(lv:List Int)(s:Dp)(m:Nat)(hk:6<=k/\k<=12)(hN:ks.size<=N)(ho:okE nc ⟨k,n,nm,a,ks⟩)(hsk:skF K ks k 0)(hlv:lv.length=nc)(hnc:nc<=256)(har:ar+ks.size<=1000000)(hsz:ks.size<=100000)(S:SnO w o ks ao)(hks:s.ks.length=nc)(hz:s.sz m)(hm:m+(17*ks.size+16)<=100000000)(X:DX w o p4 lv)(h:DW w o rb p0 p1 p2 p3 p4 s)(hlf:s.lg=false) :
  Calls Tryd.prog 14 #[pt0 rb,exN ⟨k,n,nm,a,ks⟩ ao cap,.int .i64 (ar:Nat)] w (PosD w o rb p0 p1 p2 p3 p4 (((kidsD (deF lv ks) ar s).puts (barN k) 0 0).grows (if k=6\/k=7 then 0 else -1)) (.tuple #[])):=by
 have h21:k≠21:=by omega
 have hsim:=simple_d k hk;obtain⟨q,hq⟩:∃q,q=barN k:=⟨_,rfl⟩
 obtain⟨l,hl⟩:∃l:Int,l=if k=6\/k=7 then 0 else 1:=⟨_,rfl⟩
 have hl1:(if k=6\/k=7 then 0 else -1)=-l:=by rw[hl];split<;>rfl
 have hl2:0<=l/\l<=1:=by rw[hl];split<;>omega
 rw[hl1,<-hq];rw[<-hq,<-hl] at hsim;clear hl1 hl hq;obtain⟨w1,o1,g,hw1,HG,B1,E1,X1,SN1,S0⟩:=headD #[.int .i64 k,.int .i64 n,stv nm,.slice ao ks.len cap] h X S;have KK:=keepB B1;obtain⟨c0,c1,c2,c3⟩:=KK.out _ _ (Step.refl I17 w1 o1);obtain⟨l1,-⟩:=E1.cl;have T1:=Step.refl I17 w1 o1;clear B1 h X S;rw[exN_out];simp only;rw[hlf] at l1;have H1:=kids_d K nc N HP k n nm a ks ao cap ar w1 o1 rb p0 p1 p2 p3 p4 lv s m hN ho.2 h21 hsk hlv hnc har hsz (SN1.stepO T1 not0) hks hz (by omega) (X1.step T1 not0) E1;rw[exN_out] at H1;simp only at H1;have zA:=((dle_kidsz lv ks ar s).sz m hz)
 generalize kidsD (deF lv ks) ar s=A at *;clear hsk ho HP SN1 X1 E1;have hc:k=6\/k=7\/k=8\/k=9\/k=10\/k=11\/k=12:=by omega
 clear hk h21;rcases hc with rfl|rfl|rfl|rfl|rfl|rfl|rfl
 all_goals
  go_enter Tryd.func14,Tryd.ntmps14;go_upto_region 1 with fail;rw[<-hw1,<-HG.out];clear hw1;go_wp2_with fail;refine H1.mono ?_;rintro e w2 ⟨rfl,o2,E2,S2⟩;clear H1 c0 c1 c2 c3;obtain⟨c0,c1,c2,c3⟩:=KK.out _ _ S2;have H2:=hsim w2;go_wp2_with fail;refine H2.mono ?_;rintro e w3 ⟨rfl,hw3⟩;subst hw3;clear H2 hsim;have H3:=puts_c w3 o2 rb p0 p1 p2 p3 p4 A q 0 0 E2;go_wp2_with fail;refine H3.mono ?_;rintro e w4 ⟨rfl,o4,E4,S4⟩;clear H3 c0 c1 c2 c3;have H4:=grows_c w4 o4 rb p0 p1 p2 p3 p4 _ (-l) _ ((dle_puts A q 0 0).sz _ zA) (by omega) (by omega) E4;go_wp2_with fail;refine H4.mono ?_;rintro e w5 ⟨rfl,o5,E5,S5⟩;go_wp2
  go_end0
  exact⟨rfl,o5,E5,((S0.trans S2).trans S4).trans S5⟩
theorem pcal_d (K:Nat->Int)(nc N:Nat)(HP:PartD K nc N)(k n:Int)(nm:List UInt8)(a:Int)(ks:Fs)(ao:Option Addr)(cap ar:Nat)(w:World)(o:Nat->Nat)(rb:Nat)(p0 p1 p2 p3 p4:Value)(lv:List Int)(s:Dp)(m:Nat)(hk:k=20)(hn:0<=n)(hN:ks.size<=N)(ho:okE nc ⟨k,n,nm,a,ks⟩)(hsk:skF K ks k 0)(hlv:lv.length=nc)(hnc:nc<=256)(har:ar+ks.size<=1000000)(hsz:ks.size<=100000)(S:SnO w o ks ao)(hks:s.ks.length=nc)(hz:s.sz m)(hm:m+(17*ks.size+16)<=100000000)(X:DX w o p4 lv)(h:DW w o rb p0 p1 p2 p3 p4 s)(hlf:s.lg=false) :
  Calls Tryd.prog 14 #[pt0 rb,exN ⟨k,n,nm,a,ks⟩ ao cap,.int .i64 (ar:Nat)] w (PosD w o rb p0 p1 p2 p3 p4 (((kidsD (deF lv ks) ar s).puts 16 n.toNat 0).grows (1-(ks.len:Int))) (.tuple #[])):=by
 have h21:k≠21:=by omega
 obtain⟨n0,hn0⟩:∃n0:Nat,(n0:Int)=n:=⟨n.toNat,by omega⟩
 subst hn0;rw[Int.toNat_natCast];obtain⟨w1,o1,g,hw1,HG,B1,E1,X1,SN1,S0⟩:=headD #[.int .i64 k,.int .i64 (n0:Nat),stv nm,.slice ao ks.len cap] h X S;have KK:=keepB B1;obtain⟨c0,c1,c2,c3⟩:=KK.out _ _ (Step.refl I17 w1 o1);obtain⟨l1,-⟩:=E1.cl;have T1:=Step.refl I17 w1 o1;clear B1 h X S;rw[exN_out];simp only;rw[hlf] at l1;have H1:=kids_d K nc N HP k n0 nm a ks ao cap ar w1 o1 rb p0 p1 p2 p3 p4 lv s m hN ho.2 h21 hsk hlv hnc har hsz (SN1.stepO T1 not0) hks hz (by omega) (X1.step T1 not0) E1;rw[exN_out] at H1;simp only at H1;have zA:=((dle_kidsz lv ks ar s).sz m hz)
 have hlz:=len_size ks;generalize kidsD (deF lv ks) ar s=A at *;generalize ks.len=le at *;clear hsk ho HP SN1 X1 E1 h21;subst hk;go_enter Tryd.func14,Tryd.ntmps14;go_upto_region 1 with fail;rw[<-hw1,<-HG.out];clear hw1;go_wp2_with fail;refine H1.mono ?_;rintro e w2 ⟨rfl,o2,E2,S2⟩;clear H1 c0 c1 c2 c3;obtain⟨c0,c1,c2,c3⟩:=KK.out _ _ S2;have H3:=puts_c w2 o2 rb p0 p1 p2 p3 p4 A 16 n0 0 E2;go_wp2_with fail;refine H3.mono ?_;rintro e w4 ⟨rfl,o4,E4,S4⟩;clear H3 c0 c1 c2 c3;obtain⟨c0,c1,c2,c3⟩:=KK.out _ _ (S2.trans S4);have H4:=grows_c w4 o4 rb p0 p1 p2 p3 p4 _ (1-(le:Int)) _ ((dle_puts A 16 n0 0).sz _ zA) (by omega) (by omega) E4;go_wp2_with fail;refine H4.mono ?_;rintro e w5 ⟨rfl,o5,E5,S5⟩;go_wp2
 go_end0
 exact⟨rfl,o5,E5,((S0.trans S2).trans S4).trans S5⟩
theorem pcmp_d (K:Nat->Int)(nc N:Nat)(HP:PartD K nc N)(k n:Int)(nm:List UInt8)(a:Int)(ks:Fs)(ao:Option Addr)(cap ar:Nat)(w:World)(o:Nat->Nat)(rb:Nat)(p0 p1 p2 p3 p4:Value)(lv:List Int)(s:Dp)(m:Nat)(hk:13<=k/\k<=16)(hN:ks.size<=N)(ho:okE nc ⟨k,n,nm,a,ks⟩)(hsk:skF K ks k 0)(hlv:lv.length=nc)(hnc:nc<=256)(har:ar+ks.size<=1000000)(hsz:ks.size<=100000)(S:SnO w o ks ao)(hks:s.ks.length=nc)(hz:s.sz m)(hm:m+(17*ks.size+16)<=100000000)(X:DX w o p4 lv)(h:DW w o rb p0 p1 p2 p3 p4 s) :
  Calls Tryd.prog 29 #[pt0 rb,exN ⟨k,n,nm,a,ks⟩ ao cap,.int .i64 (ar:Nat)] w (PosD w o rb p0 p1 p2 p3 p4 ((cmpD k (kdF ks) (kidsD (deF lv ks) ar s)).grows (-1)) (.tuple #[])):=by
 have h21:k≠21:=by omega
 have hl2:ks.len=2:=(doc_lenq ho.1.1).2.1 (by simp only;omega) (by simp only;omega);obtain⟨x,y,hxy⟩:=len_two hl2;obtain⟨w1,o1,g,hw1,HG,B1,E1,X1,SN1,S0⟩:=headD #[.int .i64 k,.int .i64 n,stv nm,.slice ao ks.len cap] h X S;have KK:=keepB B1;obtain⟨c0,c1,c2,c3⟩:=KK.out _ _ (Step.refl I17 w1 o1);obtain⟨l1,-⟩:=E1.cl;have T1:=Step.refl I17 w1 o1;clear B1 h X S;rw[exN_out];simp only;have H1:=kids_d K nc N HP k n nm a ks ao cap ar w1 o1 rb p0 p1 p2 p3 p4 lv s m hN ho.2 h21 hsk hlv hnc har hsz (SN1.stepO T1 not0) hks hz (by omega) (X1.step T1 not0) E1;rw[exN_out] at H1;simp only at H1;have zA:=((dle_kidsz lv ks ar s).sz m hz)
 have zC:=(dle_cmp k (kdF ks) (kidsD (deF lv ks) ar s)).sz _ zA;generalize kidsD (deF lv ks) ar s=A at *;have SN1':=SN1;rw[hxy] at SN1';obtain⟨b,off,ak,ck,hao,NN,Sy,NK⟩:=kidO (x:=.nil) SN1' 0 rfl;have hkd:(kdF ks).getD 0 0=kdE x:=by rw[hxy];rfl
 have hx:okE nc x/\x.kids.size<N+1:=⟨by have:=ho.2;simp only at this;rw[hxy] at this;exact(okF_ex this).1,by rw[hxy,esize_ex] at hN;omega⟩
 have hsx:skE K x:=by rw[hxy] at hsk;exact skF_at0 h21 hsk
 have hkb:=kdE_bd hx.1;have HQ:∀ w' o',Step I17 w1 o1 w' o'->_:=fun w' o' T=>kindq_c K nc (N+1) x ak ck w' hx.2 hx.1 hsx (Sy.stepO T not0).all;obtain⟨kx,hkx⟩:∃kx:Nat,(kx:Int)=kdE x:=⟨(kdE x).toNat,by omega⟩
 have ekx:((kdF ks).getD 0 0).toNat=kx:=by rw[hkd,<-hkx,Int.toNat_natCast]
 unfold cmpD at zC ⊢;rw[ekx] at zC ⊢;rw[<-hkx] at HQ;have hc:k=13\/k=14\/k=15\/k=16:=by omega
 subst hao;rw[hl2] at hw1 H1 KK c3 ⊢;clear hk h21 hkd ekx hkx hkb hx hsx hsk ho HP SN1 X1 E1 hxy SN1' Sy NN;rcases hc with rfl|rfl|rfl|rfl
 ·go_enter Tryd.func29,Tryd.ntmps29;go_upto_region 1 with fail;rw[<-hw1,<-HG.out];clear hw1;go_wp2_with fail;refine H1.mono ?_;rintro e w2 ⟨rfl,o2,E2,S2⟩;clear H1 c0 c1 c2 c3;obtain⟨c0,c1,c2,c3⟩:=KK.out _ _ S2;obtain⟨x0,x1,x2,x3⟩:Nd4 w2 b off x ak ck:=NK S2 not0;have H2:=HQ _ _ S2;rw[exN_out] at H2;go_wp2_with fail;refine H2.mono ?_;rintro e w3 ⟨rfl,B3⟩;have E3:=E2.step (Step.ofBelow (I:=fun _=>False) o2 B3) noF;have S3:=S2.trans (Step.ofBelow (I:=I17) o2 B3);clear H2 HQ c0 c1 c2 c3 x0 x1 x2 x3 KK;have H3:=puts_c w3 o2 rb p0 p1 p2 p3 p4 A 11 0 kx E3;go_wp2_with fail;refine H3.mono ?_;rintro e w4 ⟨rfl,o4,E4,S4⟩;clear H3;have H4:=grows_c w4 o4 rb p0 p1 p2 p3 p4 _ (-1) _ zC (by omega) (by omega) E4;go_wp2_with fail;refine H4.mono ?_;rintro e w5 ⟨rfl,o5,E5,S5⟩;go_wp2
  go_end0
  exact⟨rfl,o5,E5,((S0.trans S3).trans S4).trans S5⟩
 ·go_enter Tryd.func29,Tryd.ntmps29;go_upto_region 1 with fail;rw[<-hw1,<-HG.out];clear hw1;go_wp2_with fail;refine H1.mono ?_;rintro e w2 ⟨rfl,o2,E2,S2⟩;clear H1 c0 c1 c2 c3;obtain⟨c0,c1,c2,c3⟩:=KK.out _ _ S2;obtain⟨x0,x1,x2,x3⟩:Nd4 w2 b off x ak ck:=NK S2 not0;have H2:=HQ _ _ S2;rw[exN_out] at H2;go_wp2_with fail;refine H2.mono ?_;rintro e w3 ⟨rfl,B3⟩;have E3:=E2.step (Step.ofBelow (I:=fun _=>False) o2 B3) noF;have S3:=S2.trans (Step.ofBelow (I:=I17) o2 B3);clear H2 HQ c0 c1 c2 c3 x0 x1 x2 x3 KK;have H3:=puts_c w3 o2 rb p0 p1 p2 p3 p4 A 11 0 kx E3;go_wp2_with fail;refine H3.mono ?_;rintro e w4 ⟨rfl,o4,E4,S4⟩;clear H3;have H5:=puts_c w4 o4 rb p0 p1 p2 p3 p4 _ 5 0 0 E4;go_wp2_with fail;refine H5.mono ?_;rintro e w6 ⟨rfl,o6,E6,S6⟩;clear H5;have H4:=grows_c w6 o6 rb p0 p1 p2 p3 p4 _ (-1) _ zC (by omega) (by omega) E6;go_wp2_with fail;refine H4.mono ?_;rintro e w5 ⟨rfl,o5,E5,S5⟩;go_wp2
  go_end0
  exact⟨rfl,o5,E5,(((S0.trans S3).trans S4).trans S6).trans S5⟩
 ·go_enter Tryd.func29,Tryd.ntmps29;go_upto_region 1 with fail;rw[<-hw1,<-HG.out];clear hw1;go_wp2_with fail;refine H1.mono ?_;rintro e w2 ⟨rfl,o2,E2,S2⟩;clear H1 c0 c1 c2 c3;obtain⟨c0,c1,c2,c3⟩:=KK.out _ _ S2;have H3:=puts_c w2 o2 rb p0 p1 p2 p3 p4 A 12 0 0 E2;go_wp2_with fail;refine H3.mono ?_;rintro e w4 ⟨rfl,o4,E4,S4⟩;clear H3;have H4:=grows_c w4 o4 rb p0 p1 p2 p3 p4 _ (-1) _ zC (by omega) (by omega) E4;go_wp2_with fail;refine H4.mono ?_;rintro e w5 ⟨rfl,o5,E5,S5⟩;go_wp2
  go_end0
  exact⟨rfl,o5,E5,((S0.trans S2).trans S4).trans S5⟩
 ·go_enter Tryd.func29,Tryd.ntmps29;go_upto_region 1 with fail;rw[<-hw1,<-HG.out];clear hw1;go_wp2_with fail;refine H1.mono ?_;rintro e w2 ⟨rfl,o2,E2,S2⟩;clear H1 c0 c1 c2 c3;obtain⟨c0,c1,c2,c3⟩:=KK.out _ _ S2;have H3:=puts_c w2 o2 rb p0 p1 p2 p3 p4 A 12 0 1 E2;go_wp2_with fail;refine H3.mono ?_;rintro e w4 ⟨rfl,o4,E4,S4⟩;clear H3;have H4:=grows_c w4 o4 rb p0 p1 p2 p3 p4 _ (-1) _ zC (by omega) (by omega) E4;go_wp2_with fail;refine H4.mono ?_;rintro e w5 ⟨rfl,o5,E5,S5⟩;go_wp2
  go_end0
  exact⟨rfl,o5,E5,((S0.trans S2).trans S4).trans S5⟩
end Go.Proofs.YtejnhibajmncaaaDoor

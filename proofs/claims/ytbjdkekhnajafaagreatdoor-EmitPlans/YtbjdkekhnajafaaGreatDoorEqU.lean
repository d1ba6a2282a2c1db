import Derived.Test.YtbjdkekhnajafaaGreatDoorEqM
set_option maxRecDepth 100000
set_option maxHeartbeats 8000000
namespace Go.Proofs.YtbjdkekhnajafaaGreatDoor
set_option linter.unusedVariables false
set_option linter.unusedSimpArgs false
structure Dp where
 ws:List Wo
 cs:List Int
 ns:List (List UInt8)
 ks:List Int
 h:Int
 top:Int
 lg:Bool
def Dp.puts (s:Dp)(op a b:Nat):Dp:=if 32768<=s.ws.length then { s with lg:=true } else { s with ws:=s.ws++[⟨op,a,b⟩] }
def Dp.at1 (s:Dp):Nat:=if 32768<=s.ws.length then 0 else s.ws.length
def Dp.grows (s:Dp)(n:Int):Dp:={ s with h:=s.h+n,top:=max s.top (s.h+n),lg:=s.lg||decide (1024<max s.top (s.h+n)) }
def Dp.kI (s:Dp)(n:Int):Dp:={ s with cs:=if n ∈ s.cs then s.cs else s.cs++[n] }
def Dp.kN (s:Dp)(x:List UInt8):Dp:={ s with ns:=if x ∈ s.ns then s.ns else s.ns++[x] }
def Dp.val (s:Dp)(n:Int)(kd:Nat):Dp:=((s.kI n).puts 1 (s.cs.idxOf n) kd).grows 1
def Dp.lands (s:Dp)(i:Nat):Dp:=if s.lg then s else { s with ws:=s.ws.modify i (fun x=>x.to s.ws.length) }
def Dp.cel (s:Dp)(i:Nat)(k:Int):Dp:=if s.ks.getD i 0=0 then { s with ks:=s.ks.set i k } else s
abbrev Td:=Nat->Dp->Dp
abbrev noD:Td:=fun _ s=>s
def cR:List Td->Nat->Dp->Dp
 | [],_,s=>s
 | t::r,ar,s=>cR r ar (t ar s)
def uP (k:Int)(kk:List Int)(s:Dp):Dp :=
 if k=13 then s.puts 11 0 (kk.getD 0 0).toNat else if k=14 then (s.puts 11 0 (kk.getD 0 0).toNat).puts 5 0 0 else if k=15 then s.puts 12 0 0 else s.puts 12 0 1
def ya (k:Int)(t0 t1 t2:Td):Td:=fun ar s =>
 let a:=t0 ar s
 let c:=t1 ar ((a.puts (if k=18 then 15 else 14) 0 0).grows (-1))
 let e:=((c.puts 13 0 0).grows (-1)).lands a.at1
 (if k=17 then e.val 0 2 else if k=18 then e.val 1 2 else t2 ar e).lands c.at1
def rL (n:Nat)(kd:Int)(t0:Td):Td:=fun ar s =>
 ((t0 ar ((s.cel n kd).puts 17 n 0)).puts 18 n 0).lands (s.cel n kd).at1
def vI (k:Int)(nm:List UInt8)(T:List Td):Td:=fun ar s =>
 let a:=cR T ar s
 (if k=22 then a.puts 20 0 0 else if k=23 then (a.kN nm).puts 21 (a.ns.idxOf nm) 0 else if k=24 then a.puts 22 0 0 else a.puts 23 T.length 0).grows (-(T.length:Int))
def fB (h:Nat):List Int->Nat->Dp->Dp
 | [],_,s=>s
 | l::r,i,s=>if s.lg then s else fB h r (i+1) (if l=(h:Int) then s.puts 19 i 0 else s)
def oS (n:Int)(loop next:Nat)(e:Dp):Dp :=
 let c:=(((e.puts (if n=2 then 14 else 15) loop 0).grows (-1)).puts 25 0 0).val (if n=2 then 1 else 0) 2
 ((((c.puts 13 0 0).grows (-1)).lands next).val (if n=2 then 0 else 1) 2).lands c.at1
def eF (n:Int)(a:Dp):Dp :=
 let b:=if 3<=n then a.val 0 1 else a
 if 5<=n then b.val 0 2 else b
def mJ (n:Int)(loop:Nat)(e:Dp):Dp :=
 if n=3 then ((((e.puts 14 loop 0).grows (-1)).val 1 1).puts 6 0 0).grows (-1) else if n=4 then (e.puts 6 0 0).grows (-1) else (e.puts 26 (n-5).toNat 0).grows (-1)
def mI (n:Int)(loop next:Nat)(e:Dp):Dp :=
 let g:=((mJ n loop e).puts 13 loop 0).lands next
 if 5<=n then (g.puts 27 0 0).grows (-1) else g
def iF (lv:List Int)(n:Int)(t0 t1:Td):Td:=fun ar s =>
 let b:=eF n (t0 ar s)
 if b.lg then b else
 let e:=t1 (ar+1) (fB (ar+1) lv 0 (b.puts 24 0 0))
 if n=1\/n=2 then oS n b.ws.length b.at1 e else mI n b.ws.length b.at1 e
def lm (lv:List Int)(k n:Int)(nm:List UInt8)(kk:List Int)(T:List Td):Td:=fun ar s =>
 if 22<=k/\k<=25 then vI k nm T ar s else if s.lg then s
 else if k=1 then s.val n 1 else if k=2 then s.val n 2 else if k=3 then ((s.kI n).puts 2 (s.cs.idxOf n) 0).grows 1 else if k=5 then (s.puts 3 n.toNat 0).grows 1
 else if 6<=k/\k<=12 then ((cR T ar s).puts (fx k) 0 0).grows (if k=6\/k=7 then 0 else -1)
 else if 13<=k/\k<=16 then (uP k kk (cR T ar s)).grows (-1)
 else if k=20 then ((cR T ar s).puts 16 n.toNat 0).grows (1-(T.length:Int))
 else if k=26 then rL n.toNat (kk.getD 0 0) (T.getD 0 noD) ar s
 else if k=21 then iF lv n (T.getD 0 noD) (T.getD 1 noD) ar s
 else ya k (T.getD 0 noD) (T.getD 1 noD) (T.getD 2 noD) ar s
def deF (lv:List Int):Fs->List Td
 | ⟨none⟩=>[]
 | ⟨some ⟨k,n,nm,_,ks,r⟩⟩=>lm lv k n nm (kdF ks) (deF lv ks)::deF lv r
def deE (lv:List Int)(e:Ex):Td:=lm lv e.k e.n e.nm (kdF e.kids) (deF lv e.kids)
theorem oY (lv:List Int):∀ f:Fs,(deF lv f).length=f.len
 | ⟨none⟩=>rfl
 | ⟨some ⟨k,n,nm,a,ks,r⟩⟩=>by simp only[deF,Fs.len,List.length_cons,oY lv r]
structure Dp.sz (m:Nat)(s:Dp):Prop where
 c:s.cs.length<=m
 n:s.ns.length<=m
 h1:-(m:Int)<=s.h
 h2:s.h<=(m:Int)
 t1:-(m:Int)<=s.top
 t2:s.top<=(m:Int)
structure Dle (c:Nat)(s t:Dp):Prop where
 sz:∀ m,s.sz m->t.sz (m+c)
 w1:s.ws.length<=32768->t.ws.length<=32768
 w2:s.ws.length<=t.ws.length
 ks:t.ks.length=s.ks.length
 lg:s.lg=true->t.lg=true
theorem Dp.sz.mono {m m':Nat}{s:Dp}(h:s.sz m)(k:m<=m'):s.sz m':=by
 obtain⟨a,b,c,d,e,f⟩:=h;constructor<;>omega
theorem Dle.refl (s:Dp):Dle 0 s s:=⟨fun m h=>h,id,Nat.le_refl _,rfl,id⟩
theorem Dle.trans {a b:Nat}{x y z:Dp}(h:Dle a x y)(k:Dle b y z):Dle (a+b) x z:=⟨fun m q=>(k.sz _ (h.sz m q)).mono (by omega),fun q=>k.w1 (h.w1 q),Nat.le_trans h.w2 k.w2,k.ks.trans h.ks,fun q=>k.lg (h.lg q)⟩
theorem Dle.le {a b:Nat}{x y:Dp}(h:Dle a x y)(k:a<=b):Dle b x y:=⟨fun m q=>(h.sz m q).mono (by omega),h.w1,h.w2,h.ks,h.lg⟩
theorem aq (s:Dp)(op a b:Nat):Dle 0 s (s.puts op a b):=by
 unfold Dp.puts;split
 ·exact⟨fun m h=>⟨h.c,h.n,h.h1,h.h2,h.t1,h.t2⟩,id,Nat.le_refl _,rfl,fun _=>rfl⟩
 ·exact⟨fun m h=>⟨h.c,h.n,h.h1,h.h2,h.t1,h.t2⟩,fun _=>by simp;omega,by simp,rfl,id⟩
theorem aP (s:Dp)(n:Int)(c:Nat)(h1:-(c:Int)<=n)(h2:n<=(c:Int)):Dle c s (s.grows n):=by
 refine⟨fun m h=>?_,id,Nat.le_refl _,rfl,fun h=>by simp[Dp.grows,h]⟩;obtain⟨a,b,d,e,f,g⟩:=h;constructor<;>simp only[Dp.grows]<;>omega
theorem lS (s:Dp)(n:Int):Dle 1 s (s.kI n):=by
 refine⟨fun m h=>?_,id,Nat.le_refl _,rfl,id⟩;obtain⟨a,b,d,e,f,g⟩:=h;constructor<;>simp only[Dp.kI]
 ·split<;>(try simp)<;>omega
 all_goals omega
theorem qK (s:Dp)(n:List UInt8):Dle 1 s (s.kN n):=by
 refine⟨fun m h=>?_,id,Nat.le_refl _,rfl,id⟩;obtain⟨a,b,d,e,f,g⟩:=h;constructor<;>simp only[Dp.kN]
 ·omega
 ·split<;>(try simp)<;>omega
 all_goals omega
theorem bP (s:Dp)(n:Int)(kd:Nat):Dle 2 s (s.val n kd):=(((lS s n).trans (aq _ 1 _ kd)).trans (aP _ 1 1 (by omega) (by omega))).le (by omega)
theorem aY (s:Dp)(i:Nat):Dle 0 s (s.lands i):=by
 unfold Dp.lands;split
 ·exact Dle.refl s
 ·exact⟨fun m h=>⟨h.c,h.n,h.h1,h.h2,h.t1,h.t2⟩,fun h=>by simp;omega,by simp,rfl,id⟩
theorem ow (s:Dp)(i:Nat)(k:Int):Dle 0 s (s.cel i k):=by
 unfold Dp.cel;split
 ·exact⟨fun m h=>⟨h.c,h.n,h.h1,h.h2,h.t1,h.t2⟩,id,Nat.le_refl _,by simp,id⟩
 ·exact Dle.refl s
theorem fa (h:Nat):∀ (l:List Int) (i:Nat) (s:Dp),Dle 0 s (fB h l i s)
 | [],_,s=>Dle.refl s
 | x::r,i,s=>by
  unfold fB;split
  ·exact Dle.refl s
  ·split
   ·exact(aq s 19 i 0).trans (fa h r (i+1) _)
   ·exact fa h r (i+1) s
def Tle (c:Nat)(t:Td):Prop:=∀ ar s,Dle c s (t ar s)
theorem Bn (n:Int)(loop next:Nat)(e:Dp):Dle 6 e (oS n loop next e) :=
 ((((((((aq e _ loop 0).trans (aP _ (-1) 1 (by omega) (by omega))).trans (aq _ 25 0 0)).trans (bP _ _ 2)).trans (aq _ 13 0 0)).trans (aP _ (-1) 1 (by omega) (by omega))).trans (aY _ _)).trans (bP _ _ 2)).trans (aY _ _)
theorem ig (n:Int)(a:Dp):Dle 4 a (eF n a):=by
 unfold eF
 dsimp only
 split<;>split
 ·exact(bP _ _ _).trans (bP _ _ _)
 ·exact((bP _ _ _)).le (by omega)
 ·exact((bP _ _ _)).le (by omega)
 ·exact(Dle.refl _).le (by omega)
theorem kT (n:Int)(loop:Nat)(e:Dp):Dle 4 e (mJ n loop e):=by
 unfold mJ;split
 ·exact((((aq e 14 loop 0).trans (aP _ (-1) 1 (by omega) (by omega))).trans (bP _ 1 1)).trans (aq _ 6 0 0)).trans (aP _ (-1) 1 (by omega) (by omega))
 ·split
  ·exact((aq e _ _ 0).trans (aP _ (-1) 1 (by omega) (by omega))).le (by omega)
  ·exact((aq e _ _ 0).trans (aP _ (-1) 1 (by omega) (by omega))).le (by omega)
theorem Bb (n:Int)(loop next:Nat)(e:Dp):Dle 5 e (mI n loop next e):=by
 unfold mI
 dsimp only
 have h:=((kT n loop e).trans (aq _ 13 loop 0)).trans (aY _ next);split
 ·exact((h.trans (aq _ 27 0 0)).trans (aP _ (-1) 1 (by omega) (by omega))).le (by omega)
 ·exact h.le (by omega)
theorem Bt (lv:List Int)(n:Int){t0 t1:Td}{a b:Nat}(h0:Tle a t0)(h1:Tle b t1):Tle (a+b+10) (iF lv n t0 t1):=fun ar s=>by
 unfold iF
 dsimp only
 have hb:=(h0 ar s).trans (ig n _);split
 ·exact hb.le (by omega)
 ·have he:=((hb.trans (aq _ 24 0 0)).trans (fa (ar+1) lv 0 _)).trans (h1 (ar+1) _);split
  ·exact(he.trans (Bn n _ _ _)).le (by omega)
  ·exact(he.trans (Bb n _ _ _)).le (by omega)
theorem AK (k:Int){t0 t1 t2:Td}{a b c:Nat}(h0:Tle a t0)(h1:Tle b t1)(h2:Tle c t2):Tle (a+b+c+4) (ya k t0 t1 t2):=fun ar s=>by
 unfold ya
 dsimp only
 generalize (if k=18 then 15 else 14)=op;have he:=((((((h0 ar s).trans (aq _ op 0 0)).trans (aP _ (-1) 1 (by omega) (by omega))).trans (h1 ar _)).trans (aq _ 13 0 0)).trans (aP _ (-1) 1 (by omega) (by omega))).trans (aY _ (t0 ar s).at1);split
 ·exact((he.trans (bP _ _ _)).trans (aY _ _)).le (by omega)
 ·split
  ·exact((he.trans (bP _ _ _)).trans (aY _ _)).le (by omega)
  ·exact((he.trans (h2 ar _)).trans (aY _ _)).le (by omega)
theorem yl (n:Nat)(kd:Int){t0:Td}{a:Nat}(h0:Tle a t0):Tle a (rL n kd t0):=fun ar s=>by
 unfold rL;exact((((ow s n kd).trans (aq _ 17 n 0)).trans (h0 ar _)).trans ((aq _ 18 n 0).trans (aY _ _))).le (by omega)
def Tls:List Td->Fs->Prop
 | [],⟨none⟩=>True
 | t::T,⟨some ⟨_,_,_,_,ks,r⟩⟩=>Tle (17*ks.size+16) t/\Tls T r
 | _,_=>False
theorem ly:∀ (T:List Td) (f:Fs),Tls T f->T.length=f.len/\∃c,c+f.len=17*f.size/\Tle c (fun ar s=>cR T ar s)
 | [],⟨none⟩,_=>⟨rfl,0,rfl,fun ar s=>Dle.refl s⟩
 | t::T,⟨some ⟨k,n,nm,a,ks,r⟩⟩,h=>by
  obtain⟨hl,c,hc,hk⟩:=ly T r h.2;refine⟨by simp only[List.length_cons,Fs.len,hl],17*ks.size+16+c,by simp only[Fs.len,Fs.size];omega,fun ar s=>?_⟩;exact(h.1 ar s).trans (hk ar _)
 | [],⟨some ⟨k,n,nm,a,ks,r⟩⟩,h=>by simp[Tls] at h
 | t::T,⟨none⟩,h=>by simp[Tls] at h
theorem AO:∀ (T:List Td) (f:Fs),Tls T f->∃a b c,Tle a (T.getD 0 noD)/\Tle b (T.getD 1 noD)/\Tle c (T.getD 2 noD)/\a+b+c+min f.len 3<=17*f.size
 | [],⟨none⟩,_=>⟨0,0,0,fun _ s=>Dle.refl s,fun _ s=>Dle.refl s,fun _ s=>Dle.refl s,by simp[Fs.len]⟩
 | [t],⟨some ⟨k,n,nm,a,ks,⟨none⟩⟩⟩,h=>⟨_,0,0,h.1,fun _ s=>Dle.refl s,fun _ s=>Dle.refl s,by simp only[Fs.len,Fs.size];omega⟩
 | [t,u],⟨some ⟨k,n,nm,a,ks,⟨some ⟨k',n',nm',a',ks',⟨none⟩⟩⟩⟩⟩,h=>⟨_,_,0,h.1,h.2.1,fun _ s=>Dle.refl s,by simp only[Fs.len,Fs.size];omega⟩
 | t::u::v::T,⟨some ⟨k,n,nm,a,ks,⟨some ⟨k',n',nm',a',ks',⟨some ⟨k2,n2,nm2,a2,ks2,r⟩⟩⟩⟩⟩⟩,h=>⟨_,_,_,h.1,h.2.1,h.2.2.1,by simp only[Fs.len,Fs.size];omega⟩
 | [],⟨some ⟨k,n,nm,a,ks,r⟩⟩,h=>by simp[Tls] at h
 | t::T,⟨none⟩,h=>by simp[Tls] at h
 | [t],⟨some ⟨k,n,nm,a,ks,⟨some ⟨k',n',nm',a',ks',r⟩⟩⟩⟩,h=>by simp[Tls] at h
 | t::u::T,⟨some ⟨k,n,nm,a,ks,⟨none⟩⟩⟩,h=>by simp[Tls] at h
 | [t,u],⟨some ⟨k,n,nm,a,ks,⟨some ⟨k',n',nm',a',ks',⟨some ⟨k2,n2,nm2,a2,ks2,r⟩⟩⟩⟩⟩⟩,h=>by simp[Tls] at h
 | t::u::v::T,⟨some ⟨k,n,nm,a,ks,⟨some ⟨k',n',nm',a',ks',⟨none⟩⟩⟩⟩⟩,h=>by simp[Tls] at h
theorem sO (k:Int)(kk:List Int)(s:Dp):Dle 0 s (uP k kk s):=by
 unfold uP;split
 ·exact aq _ _ _ _
 split
 ·exact(aq _ _ _ _).trans (aq _ _ _ _)
 split
 ·exact aq _ _ _ _
 ·exact aq _ _ _ _
theorem oH (lv:List Int)(k n:Int)(nm:List UInt8)(kk:List Int)(T:List Td)(f:Fs)(h:Tls T f):Tle (17*f.size+16) (lm lv k n nm kk T):=fun ar s=>by
 obtain⟨hl,c,hc,hk⟩:=ly T f h;obtain⟨a,b,d,g0,g1,g2,hg⟩:=AO T f h;have hkd:=hk ar s
 dsimp only at hkd
 unfold lm;split
 ·unfold vI
  dsimp only
  split
  ·exact((hkd.trans (aq _ _ _ _)).trans (aP _ _ T.length (by omega) (by omega))).le (by omega)
  split
  ·exact(((hkd.trans (qK _ nm)).trans (aq _ _ _ _)).trans (aP _ _ T.length (by omega) (by omega))).le (by omega)
  split
  ·exact((hkd.trans (aq _ _ _ _)).trans (aP _ _ T.length (by omega) (by omega))).le (by omega)
  ·exact((hkd.trans (aq _ _ _ _)).trans (aP _ _ T.length (by omega) (by omega))).le (by omega)
 split
 ·exact(Dle.refl s).le (by omega)
 split
 ·exact(bP _ _ _).le (by omega)
 split
 ·exact(bP _ _ _).le (by omega)
 split
 ·exact(((lS s n).trans (aq _ _ _ _)).trans (aP _ 1 1 (by omega) (by omega))).le (by omega)
 split
 ·exact((aq s _ _ _).trans (aP _ 1 1 (by omega) (by omega))).le (by omega)
 split
 ·refine((hkd.trans (aq _ _ _ _)).trans (aP _ _ 1 ?_ ?_)).le (by omega)<;>split<;>omega
 split
 ·exact((hkd.trans (sO k kk _)).trans (aP _ (-1) 1 (by omega) (by omega))).le (by omega)
 split
 ·exact((hkd.trans (aq _ _ _ _)).trans (aP _ _ (T.length+1) (by omega) (by omega))).le (by omega)
 split
 ·exact(yl n.toNat _ g0 ar s).le (by omega)
 split
 ·exact(Bt lv n g0 g1 ar s).le (by omega)
 ·exact(AK k g0 g1 g2 ar s).le (by omega)
theorem jE (lv:List Int):∀ (f:Fs),Tls (deF lv f) f
 | ⟨none⟩=>trivial
 | ⟨some ⟨k,n,nm,a,ks,r⟩⟩=>⟨oH lv k n nm (kdF ks) (deF lv ks) ks (jE lv ks),jE lv r⟩
theorem bQ (lv:List Int)(e:Ex):Tle (17*e.kids.size+16) (deE lv e):=oH lv e.k e.n e.nm (kdF e.kids) (deF lv e.kids) e.kids (jE lv e.kids)
open Go.ChangeShapes Go.WideShapes Go.ChangeAt Go.RowKit
def fX (x:Wo):List Value:=[.int .i64 (x.op:Nat),.int .i64 (x.a:Nat),.int .i64 (x.b:Nat)]
def iI:List Wo->List Value
 | []=>[]
 | x::r=>fX x++iI r
theorem pJ:∀ l m:List Wo,iI (l++m)=iI l++iI m
 | [],m=>rfl
 | x::l,m=>by rw[List.cons_append,iI,pJ l m,iI,List.append_assoc]
theorem nT:∀ (l:List Wo) (i j:Nat) (x:Wo),l[i]?=some x->j<3->(iI l)[i*3+j]?=(fX x)[j]?
 | [],i,j,x,h,_=>by simp at h
 | y::l,0,j,x,h,hj=>by
  simp at h;subst h;rw[iI,List.getElem?_append_left (by simp[fX];omega)]
  congr 1
  omega
 | y::l,i+1,j,x,h,hj=>by
  have h':l[i]?=some x:=by simpa using h
  rw[iI,List.getElem?_append_right (by simp[fX];omega),<-nT l i j x h' hj]
  congr 1
  simp[fX];omega
structure DW (w:World)(o:Nat->Nat)(rb:Nat)(p0 p1 p2 p3 p4:Value)(s:Dp):Prop where
 wl:s.ws.length<=32768
 mem:∃vc vn vk vw,Blk w o 1 rb (.cells #[p0,p1,p2,p3,p4,vc,vn,vk,vw,.int .i64 s.h,.int .i64 s.top,.bool s.lg] 80) /\
  Row w o 2 85 3 vw s.ws.length (iI s.ws)/\Row w o 3 3 1 vc s.cs.length (eiV s.cs)/\Row w o 4 9 1 vn s.ns.length (esV s.ns)/\Row w o 5 3 1 vk s.ks.length (eiV s.ks)
theorem DW.step {I:Nat->Prop}{w w':World}{o o':Nat->Nat}{rb:Nat}{p0 p1 p2 p3 p4:Value}{s:Dp}(h:DW w o rb p0 p1 p2 p3 p4 s)(x:aa I w o w' o')(hi:∀ k,I17 k->¬I k):DW w' o' rb p0 p1 p2 p3 p4 s:=by
 obtain⟨a,vc,vn,vk,vw,q0,q1,q2,q3,q4⟩:=h;exact⟨a,vc,vn,vk,vw,q0.step x (hi 1 (by decide)),q1.step x (hi 2 (by decide)),q2.step x (hi 3 (by decide)),q3.step x (hi 4 (by decide)),q4.step x (hi 5 (by decide))⟩
theorem bV {w:World}{b:Nat}{x0 x1 x2 x3 x4 x5 x6 x7 x8 x9 xa xb:Value}{t:TypeId}(h:w.heap[b]?=some (.cells #[x0,x1,x2,x3,x4,x5,x6,x7,x8,x9,xa,xb] t (0,0))):(w.cell? ⟨b,4,none⟩=some x4/\w.cell? ⟨b,5,none⟩=some x5/\w.cell? ⟨b,6,none⟩=some x6/\w.cell? ⟨b,7,none⟩=some x7/\w.cell? ⟨b,8,none⟩=some x8/\w.cell? ⟨b,9,none⟩=some x9/\w.cell? ⟨b,10,none⟩=some xa/\w.cell? ⟨b,11,none⟩=some xb)/\∀ j,w.frozen? ⟨b,j,none⟩=false:=by
 refine⟨⟨?_,?_,?_,?_,?_,?_,?_,?_⟩,fun j=>frozen_of_row w b j _ t h⟩<;>(rw[cell_of_row w b _ _ t (0,0) h];rfl)
def cH (w:World)(o:Nat->Nat)(rb:Nat)(p0 p1 p2 p3 p4:Value)(s:Dp)(v:Value)(e:Ending)(w':World):Prop:=e=.returned v/\∃o',DW w' o' rb p0 p1 p2 p3 p4 s/\aa I17 w o w' o'
theorem Ak:(Tryz.prog.info? 85).map (fun i=>(i.zero,i.size,i.bytes))=some (some (.agg #[.int .i64 0,.int .i64 0,.int .i64 0]),3,24):=by kernel_rfl
theorem aS (w:World)(o:Nat->Nat)(rb:Nat)(p0 p1 p2 p3 p4:Value)(s:Dp)(op a b:Nat)(hM:DW w o rb p0 p1 p2 p3 p4 s) :
  Calls Tryz.prog 41 #[.pointer (some ⟨rb,0,none⟩),.int .i64 (op:Nat),.int .i64 (a:Nat),.int .i64 (b:Nat)] w (cH w o rb p0 p1 p2 p3 p4 (s.puts op a b) (.int .i64 (s.at1:Nat))):=by
 obtain⟨wl,vc,vn,vk,vw,q0,q1,q2,q3,q4⟩:=hM;obtain⟨⟨c4,c5,c6,c7,c8,c9,c10,c11⟩,cf⟩:=bV q0.1;obtain⟨aw,cw,rfl⟩:=q1.form;by_cases hl:32768<=s.ws.length
 ·have e1:s.puts op a b={ s with lg:=true }:=by unfold Dp.puts;rw[if_pos hl]
  have e2:s.at1=0:=by unfold Dp.at1;rw[if_pos hl]
  rw[e1,e2];have hlI:(32768:Int)<=(s.ws.length:Int):=by omega
  have f11:=cf 11;have T:aa (fun k=>k=1) w o (w.setCell ⟨rb,11,none⟩ (.bool true)) o:=(aa.refl _ w o).setCell ⟨rb,11,none⟩ _ q0.2;have HZ:Hid (DW (w.setCell ⟨rb,11,none⟩ (.bool true)) o rb p0 p1 p2 p3 p4 { s with lg:=true }/\aa I17 w o (w.setCell ⟨rb,11,none⟩ (.bool true)) o) :=
   ⟨⟨wl,vc,vn,vk,_,q0.set 11 (.bool true),q1.step T (by decide),q2.step T (by decide),q3.step T (by decide),q4.step T (by decide)⟩,T.mono (cC (by decide))⟩
  clear q0 q1 q2 q3 q4 T e1 e2 cf hl;go_enter Tryz.func41,Tryz.ntmps41;go_wp2;go_ret;exact⟨rfl,o,HZ.out⟩
 ·have e1:s.puts op a b={ s with ws:=s.ws++[⟨op,a,b⟩] }:=by unfold Dp.puts;rw[if_neg hl]
  have e2:s.at1=s.ws.length:=by unfold Dp.at1;rw[if_neg hl]
  rw[e1,e2];have hlI:¬(32768:Int)<=(s.ws.length:Int):=by omega
  obtain⟨ii,i1,i2,i3,i4⟩:=aH Ak;have HL:=Lib.hid hl;have q0h:=Lib.hid q0;have q2h:=Lib.hid q2;have q3h:=Lib.hid q3;have q4h:=Lib.hid q4;clear q0 q2 q3 q4 e1 e2 hl;go_enter Tryz.func41,Tryz.ntmps41;go_wp2_with (first|(at_builtin;refine aB rfl _ _ 78 rfl 85 ii (.agg #[.int .i64 0,.int .i64 0,.int .i64 0]) 3 24 Tryz.underlying78 i1 i2 i3 i4 rfl (by decide) o 2 _ s.ws.length (iI s.ws) rfl (q1.step (aa.ofBelow (I:=fun _=>False) o (b1 _ _)) id) ⟨w.heap.size,0,none⟩ 1 1 [.int .i64 (op:Nat),.int .i64 (a:Nat),.int .i64 (b:Nat)] rfl rfl ?hn1 ?hn2 (by decide) ?hn4 ?hn5 ?_)|go_in)
  case hn2=>exact⟨rfl,rfl,rfl⟩
  case hn4=>have:=HL.out;unfold maxLen;omega
  case hn5=>have:=HL.out;omega
  intro g2 cap2 w2 o2 R2 S2;have S1:∀ {I:Nat->Prop},aa I w o (w.alloc (.cells #[.int .i64 (op:Nat),.int .i64 (a:Nat),.int .i64 (b:Nat)] 85)) o:=fun {I}=>aa.ofBelow (I:=I) o (b1 _ _);have S12:=(S1 (I:=fun k=>k=2)).trans S2;have k0:=q0h.out.step S12 (by decide);have T:aa (fun k=>k=1) w2 o2 (w2.setCell ⟨rb,8,none⟩ (.slice (some ⟨g2,0,none⟩) (s.ws.length+1) cap2)) o2:=(aa.refl _ w2 o2).setCell ⟨rb,8,none⟩ _ k0.2;have R3:=R2.step T (by decide);have hll:(s.ws++[(⟨op,a,b⟩:Wo)]).length=s.ws.length+1:=by simp
  have HZ:Hid (DW (w2.setCell ⟨rb,8,none⟩ (.slice (some ⟨g2,0,none⟩) (s.ws.length+1) cap2)) o2 rb p0 p1 p2 p3 p4 { s with ws:=s.ws++[⟨op,a,b⟩] }/\aa I17 w o (w2.setCell ⟨rb,8,none⟩ (.slice (some ⟨g2,0,none⟩) (s.ws.length+1) cap2)) o2):=by
   have hl:=HL.out;refine⟨⟨by simp only[hll];omega,vc,vn,vk,_,k0.set 8 _,?_,(q2h.out.step S12 (by decide)).step T (by decide),(q3h.out.step S12 (by decide)).step T (by decide),(q4h.out.step S12 (by decide)).step T (by decide)⟩,(S12.mono (cC (by decide))).trans (T.mono (cC (by decide)))⟩;simp only[hll,pJ];exact R3
  obtain⟨⟨d4,d5,d6,d7,d8,d9,d10,d11⟩,df⟩:=bV k0.1;have f8:=df 8;have hz:DW (w2.setCell ⟨rb,8,none⟩ (.slice (some ⟨g2,0,none⟩) (s.ws.length+1) cap2)) o2 rb p0 p1 p2 p3 p4 { s with ws:=s.ws++[⟨op,a,b⟩] }:=HZ.out.1;have hc8:=k0.set 8 (.slice (some ⟨g2,0,none⟩) (s.ws.length+1) cap2);obtain⟨⟨-,-,-,-,m8,-,-,-⟩,-⟩:=bV hc8.1;have hsub:((s.ws.length+1:Nat):Int)-1=(s.ws.length:Int):=by omega
  clear q0h q2h q3h q4h S1 S12 S2 k0 T R3 R2 q1 hz hc8 hll df cf d4 d5 d6 d7 d9 d10 d11;go_wp2;go_ret;exact⟨by first|rfl|(simp;done)|(congr 1;simp),o2,HZ.out⟩
theorem bh (w:World)(o:Nat->Nat)(rb:Nat)(p0 p1 p2 p3 p4:Value)(s:Dp)(n:Int)(m:Nat)(hz:s.sz m)(hm:m<=1000000000)(hn:-1000000000<=n/\n<=1000000000)(hM:DW w o rb p0 p1 p2 p3 p4 s) :
  Calls Tryz.prog 77 #[.pointer (some ⟨rb,0,none⟩),.int .i64 n] w (cH w o rb p0 p1 p2 p3 p4 (s.grows n) (.tuple #[])):=by
 obtain⟨wl,vc,vn,vk,vw,q0,q1,q2,q3,q4⟩:=hM;obtain⟨-,-,z1,z2,z3,z4⟩:=hz;obtain⟨x,hx⟩:∃x,x=s.h+n:=⟨_,rfl⟩
 obtain⟨T,hT⟩:∃T,T=max s.top x:=⟨_,rfl⟩
 have e1:s.grows n={ s with h:=x,top:=T,lg:=s.lg||decide (1024<T) }:=by rw[hT,hx];rfl
 rw[e1];have HMX:Hid ((if s.top<x then x else s.top)=T):=by show _=_;rw[hT];split<;>omega
 have HMY:Hid (max s.top x=T):=hT.symm;have HMZ:Hid (s.h+n=x):=hx.symm;have d1:∀ wx:World,aa (fun _=>False) wx o wx.drew o:=fun wx=>(aa.refl _ wx o).drew;have T1:aa (fun k=>k=1) w o (w.setCell ⟨rb,9,none⟩ (.int .i64 x)) o:=(aa.refl _ w o).setCell _ _ q0.2;have T2:=(T1.setCell ⟨rb,10,none⟩ (.int .i64 T) q0.2).drew;have r0:=q0.set 9 (.int .i64 x);have r1:=(r0.set 10 (.int .i64 T)).step (d1 _) id;obtain⟨⟨c4,c5,c6,c7,c8,c9,c10,c11⟩,cf⟩:=bV q0.1;obtain⟨⟨k4,k5,k6,k7,k8,k9,k10,k11⟩,kf⟩:=bV r0.1;obtain⟨⟨t4,t5,t6,t7,t8,t9,t10,t11⟩,tf⟩:=bV r1.1;have cf9:=cf 9;have kf10:=kf 10;have tf11:=tf 11;have HF0:Hid (¬1024<T->DW ((w.setCell ⟨rb,9,none⟩ (.int .i64 x)).setCell ⟨rb,10,none⟩ (.int .i64 T)).drew o rb p0 p1 p2 p3 p4 { s with h:=x,top:=T,lg:=s.lg||decide (1024<T) }):=fun hb=>by
  refine⟨wl,vc,vn,vk,vw,?_,q1.step T2 (by decide),q2.step T2 (by decide),q3.step T2 (by decide),q4.step T2 (by decide)⟩;simp only[decide_eq_false hb,Bool.or_false];exact r1
 have T3:=T2.setCell ⟨rb,11,none⟩ (.bool true) q0.2;have HF1:Hid (1024<T->DW (((w.setCell ⟨rb,9,none⟩ (.int .i64 x)).setCell ⟨rb,10,none⟩ (.int .i64 T)).drew.setCell ⟨rb,11,none⟩ (.bool true)) o rb p0 p1 p2 p3 p4 { s with h:=x,top:=T,lg:=s.lg||decide (1024<T) }):=fun hb=>by
  refine⟨wl,vc,vn,vk,vw,?_,q1.step T3 (by decide),q2.step T3 (by decide),q3.step T3 (by decide),q4.step T3 (by decide)⟩;simp only[decide_eq_true hb,Bool.or_true];exact r1.set 11 _
 have HT:=Lib.hid (And.intro (T2.mono (cC (by decide))) (T3.mono (cC (by decide))));clear hT hx e1 T1 T2 T3 r0 r1 q0 q1 q2 q3 q4 d1 cf kf tf k4 k5 k6 k7 k8 k11 t4 t5 t6 t7 t8 t9 c4 c5 c6 c7 c8 c10;go_enter Tryz.func77,Tryz.ntmps77;go_upto_region 1 with fail;rw[HMZ.out];generalize w.setCell ⟨rb,9,none⟩ (.int .i64 x)=wA at *;go_region
 all_goals
  first|rw[HMX.out] | rw[HMY.out]
  generalize (wA.setCell ⟨rb,10,none⟩ (.int .i64 T)).drew=wB at *;by_cases hb:1024<T
  ·have F:=HF1.out hb;have G:=HT.out.2;clear HF0 HF1 HT HMX HMY HMZ;go_wp2
   go_end0
   exact⟨rfl,o,F,G⟩
  ·have F:=HF0.out hb;have G:=HT.out.1;clear HF0 HF1 HT HMX HMY HMZ;go_wp2
   go_end0
   exact⟨rfl,o,F,G⟩
theorem k_c (w:World)(o:Nat->Nat)(rb:Nat)(p0 p1 p2 p3 p4:Value)(s:Dp)(n:Int)(hl:s.cs.length<=100000000)(hM:DW w o rb p0 p1 p2 p3 p4 s) :
  Calls Tryz.prog 76 #[.pointer (some ⟨rb,0,none⟩),.int .i64 n] w (cH w o rb p0 p1 p2 p3 p4 (s.kI n) (.int .i64 (s.cs.idxOf n:Nat))):=by
 have hM':=hM;obtain⟨wl,vc,vn,vk,vw,q0,q1,q2,q3,q4⟩:=hM;obtain⟨⟨c4,c5,c6,c7,c8,c9,c10,c11⟩,cf⟩:=bV q0.1;obtain⟨ii,i1,i2,i3,i4⟩:=aH oi;obtain⟨ao,cap,rfl⟩:=q2.form;have HC:Hid (∀ j,j<s.cs.length->∃g,ao=some ⟨g,0,none⟩/\w.cell? ⟨g,j,none⟩=some (.int .i64 (s.cs.getD j 0))):=fun j hj=>by
  obtain⟨g,cap',e,-,-,-,-,hc,-⟩:=q2.pos (by omega);injection e with e1 e2 e3
  refine⟨g,e1,?_⟩;rw[hc j (by omega)];simp[eiV,hj,List.getD_eq_getElem?_getD]
 have q1h:=Lib.hid q1;have q3h:=Lib.hid q3;have q4h:=Lib.hid q4;have q0h:=Lib.hid q0;have HM:=Lib.hid hM';clear q0 q1 q3 q4 hM' c4 c6 c7 c8 c9 c10 c11 cf;go_enter Tryz.func76,Tryz.ntmps76;go_wp2_with fail;go_loopw [5] (fun v wr=>∃i:Nat,v=.int .i64 (i:Nat)/\i<=s.cs.length/\Hid (n ∉ s.cs.take i)/\wr=w) (fun v _=>s.cs.length-(intOf v).toNat)
 case atStart=>exact⟨0,by go_num,by omega,by show _ ∉ _;simp,rfl⟩
 case round =>
  obtain⟨i,rfl,hi,HN,rfl⟩:=hrel;by_cases hlt:i<s.cs.length
  ·have hkI:(i:Int)<(s.cs.length:Int):=by omega
   obtain⟨g,rfl,cg⟩:=HC.out i hlt;have hget:s.cs.getD i 0=s.cs[i]:=by simp[List.getD_eq_getElem?_getD,hlt]
   by_cases he:s.cs.getD i 0=n
   ·have hin:n ∈ s.cs:=by rw[<-he,hget];exact List.getElem_mem hlt
    have hix:s.cs.idxOf n=i:=by
     have h1:s.cs=s.cs.take i++s.cs.drop i:=(List.take_append_drop i s.cs).symm;rw[h1,List.idxOf_append,if_neg HN.out,List.drop_eq_getElem_cons hlt,<-hget,he];simp;omega
    have e1:s.kI n=s:=by unfold Dp.kI;rw[if_pos hin]
    rw[e1,hix];rw[he] at cg;clear HC q0h q1h q3h q4h he hget hin hix e1 q2 HN;go_wp2;go_ret;exact⟨rfl,o,HM.out,aa.refl _ _ _⟩
   ·have HN2:Hid (n ∉ s.cs.take (i+1)):=by
     show _ ∉ _;rw[List.take_succ_eq_append_getElem hlt];intro hm;rcases List.mem_append.1 hm with hm|hm
     ·exact HN.out hm
     ·simp at hm;exact he (by rw[hget,hm])
    generalize s.cs.getD i 0=y at *;clear HC q0h q1h q3h q4h hget q2 HN;go_wp2;go_roundw
    case rel=>(try ((repeat apply Exists.intro);refine⟨?_,rfl⟩));exact⟨i+1,by go_num,by omega,HN2,by trivial⟩
    case measure=>simp[intOf];omega
  ·have hkI:¬(i:Int)<(s.cs.length:Int):=by omega
   obtain rfl:i=s.cs.length:=by omega
   have hin:n ∉ s.cs:=by have:=HN.out;rwa [List.take_length] at this
   have HX:Hid (s.kI n={ s with cs:=s.cs++[n] }/\s.cs.idxOf n=s.cs.length):=⟨by unfold Dp.kI;rw[if_neg hin],jd hin⟩
   have hn1:s.cs.length+1<=maxLen:=by unfold maxLen;omega
   have hn2:(s.cs.length+1)*8<=140737488355328:=by omega
   have pr:=q2.step (aa.ofBelow (I:=fun _=>False) o (b1 wr (.cells #[.int .i64 n] 3))) id;clear HC HN hin;go_wp2_with (first|(at_builtin;refine aB rfl _ _ 35 rfl 3 ii (.int .i64 0) 1 8 Tryz.underlying35 i1 i2 i3 i4 rfl (by decide) o 3 (.slice ao s.cs.length cap) s.cs.length (eiV s.cs) rfl pr ⟨wr.heap.size,0,none⟩ 1 1 [.int .i64 n] rfl rfl (cL _ _ _) (ge _ rfl) (by decide) hn1 hn2 ?_)|go_in);intro g1 cp w2 o2 R2 S2;have s2:aa (fun k=>k=3) wr o w2 o2:=(aa.ofBelow o (b1 wr _)).trans S2;have r0:=q0h.out.step s2 (by decide);obtain⟨⟨d4,d5,d6,d7,d8,d9,d10,d11⟩,df⟩:=bV r0.1;have df5:=df 5;have s3:aa (fun k=>k=1) w2 o2 (w2.setCell ⟨rb,5,none⟩ (.slice (some ⟨g1,0,none⟩) (s.cs.length+1) cp)) o2:=bT _ w2 o2 ⟨rb,5,none⟩ _ r0.2;have HF:Hid (DW (w2.setCell ⟨rb,5,none⟩ (.slice (some ⟨g1,0,none⟩) (s.cs.length+1) cp)) o2 rb p0 p1 p2 p3 p4 (s.kI n)/\aa I17 wr o (w2.setCell ⟨rb,5,none⟩ (.slice (some ⟨g1,0,none⟩) (s.cs.length+1) cp)) o2):=by
    rw[HX.out.1];refine⟨⟨wl,_,vn,vk,vw,r0.set 5 _,(q1h.out.step s2 (by decide)).step s3 (by decide),?_,(q3h.out.step s2 (by decide)).step s3 (by decide),(q4h.out.step s2 (by decide)).step s3 (by decide)⟩,(s2.mono (cC (by decide))).trans (s3.mono (cC (by decide)))⟩
    have:=R2.step s3 (by decide)
    have e:(s.cs++[n]).length=s.cs.length+1:=by simp
    have e2:eiV (s.cs++[n])=eiV s.cs++[.int .i64 n]:=by simp[eiV]
    simp only[e,e2];exact this
   have rz:=r0.set 5 (.slice (some ⟨g1,0,none⟩) (s.cs.length+1) cp);obtain⟨⟨-,m5,-,-,-,-,-,-⟩,-⟩:=bV rz.1;have HI:Hid (s.cs.idxOf n=s.cs.length):=HX.out.2;have hsub:((s.cs.length+1:Nat):Int)-1=(s.cs.length:Int):=by omega
   clear s2 s3 R2 S2 pr r0 rz q0h q1h q3h q4h q2 HX d4 d6 d7 d8 d9 d10 d11 df HM;go_wp2;go_ret;exact⟨by rw[HI.out];first|rfl|(simp;done)|(congr 1;simp),o2,HF.out⟩
theorem s_c (w:World)(o:Nat->Nat)(rb:Nat)(p0 p1 p2 p3 p4:Value)(s:Dp)(n:List UInt8)(hk:n.length<=maxLen)(hl:s.ns.length<=100000000)(hM:DW w o rb p0 p1 p2 p3 p4 s) :
  Calls Tryz.prog 212 #[.pointer (some ⟨rb,0,none⟩),stv n] w (cH w o rb p0 p1 p2 p3 p4 (s.kN n) (.int .i64 (s.ns.idxOf n:Nat))):=by
 have hM':=hM;obtain⟨wl,vc,vn,vk,vw,q0,q1,q2,q3,q4⟩:=hM;obtain⟨⟨c4,c5,c6,c7,c8,c9,c10,c11⟩,cf⟩:=bV q0.1;obtain⟨ii,i1,i2,i3,i4⟩:=aH rJ;obtain⟨ao,cap,rfl⟩:=q3.form;have HC:Hid (∀ j,j<s.ns.length->∃g,ao=some ⟨g,0,none⟩/\w.cell? ⟨g,j,none⟩=some (stv (s.ns.getD j []))):=fun j hj=>by
  obtain⟨g,cap',e,-,-,-,-,hc,-⟩:=q3.pos (by omega);injection e with e1 e2 e3
  refine⟨g,e1,?_⟩;rw[hc j (by omega)];simp[esV,hj,List.getD_eq_getElem?_getD]
 have q1h:=Lib.hid q1;have q2h:=Lib.hid q2;have q4h:=Lib.hid q4;have q0h:=Lib.hid q0;have HM:=Lib.hid hM';clear q0 q1 q2 q4 hM' c4 c5 c7 c8 c9 c10 c11 cf;go_enter Tryz.func212,Tryz.ntmps212;go_wp2_with fail;go_loopw [5] (fun v wr=>∃i:Nat,v=.int .i64 (i:Nat)/\i<=s.ns.length/\Hid (n ∉ s.ns.take i)/\wr=w) (fun v _=>s.ns.length-(intOf v).toNat)
 case atStart=>exact⟨0,by go_num,by omega,by show _ ∉ _;simp,rfl⟩
 case round =>
  obtain⟨i,rfl,hi,HN,rfl⟩:=hrel;by_cases hlt:i<s.ns.length
  ·have hkI:(i:Int)<(s.ns.length:Int):=by omega
   obtain⟨g,rfl,cg⟩:=HC.out i hlt;have hget:s.ns.getD i []=s.ns[i]:=by simp[List.getD_eq_getElem?_getD,hlt]
   by_cases he:s.ns.getD i []=n
   ·have hin:n ∈ s.ns:=by rw[<-he,hget];exact List.getElem_mem hlt
    have hix:s.ns.idxOf n=i:=by
     have h1:s.ns=s.ns.take i++s.ns.drop i:=(List.take_append_drop i s.ns).symm;rw[h1,List.idxOf_append,if_neg HN.out,List.drop_eq_getElem_cons hlt,<-hget,he];simp;omega
    have e1:s.kN n=s:=by unfold Dp.kN;rw[if_pos hin]
    rw[e1,hix];rw[he] at cg;clear HC q0h q1h q2h q4h he hget hin hix e1 q3 HN;go_wp2;go_ret;exact⟨rfl,o,HM.out,aa.refl _ _ _⟩
   ·have HN2:Hid (n ∉ s.ns.take (i+1)):=by
     show _ ∉ _;rw[List.take_succ_eq_append_getElem hlt];intro hm;rcases List.mem_append.1 hm with hm|hm
     ·exact HN.out hm
     ·simp at hm;exact he (by rw[hget,hm])
    generalize s.ns.getD i []=y at *;have hyn2:(y==n)=false:=by simpa using he
    clear HC q0h q1h q2h q4h hget q3 HN;go_wp2;go_roundw
    case rel=>(try ((repeat apply Exists.intro);refine⟨?_,rfl⟩));exact⟨i+1,by go_num,by omega,HN2,by trivial⟩
    case measure=>simp[intOf];omega
  ·have hkI:¬(i:Int)<(s.ns.length:Int):=by omega
   obtain rfl:i=s.ns.length:=by omega
   have hin:n ∉ s.ns:=by have:=HN.out;rwa [List.take_length] at this
   have HX:Hid (s.kN n={ s with ns:=s.ns++[n] }/\s.ns.idxOf n=s.ns.length):=⟨by unfold Dp.kN;rw[if_neg hin],jd hin⟩
   have hn1:s.ns.length+1<=maxLen:=by unfold maxLen;omega
   have hn2:(s.ns.length+1)*16<=140737488355328:=by omega
   have pr:=q3.step (aa.ofBelow (I:=fun _=>False) o (b1 wr (.cells #[stv n] 9))) id;clear HC HN hin;go_wp2_with (first|(at_builtin;refine aB rfl _ _ 40 rfl 9 ii (.string ⟨#[]⟩) 1 16 Tryz.underlying40 i1 i2 i3 i4 rfl (by decide) o 4 (.slice ao s.ns.length cap) s.ns.length (esV s.ns) rfl pr ⟨wr.heap.size,0,none⟩ 1 1 [stv n] rfl rfl (cL _ _ _) (ge _ rfl) (by decide) hn1 hn2 ?_)|go_in);intro g1 cp w2 o2 R2 S2;have s2:aa (fun k=>k=4) wr o w2 o2:=(aa.ofBelow o (b1 wr _)).trans S2;have r0:=q0h.out.step s2 (by decide);obtain⟨⟨d4,d5,d6,d7,d8,d9,d10,d11⟩,df⟩:=bV r0.1;have df5:=df 6;have s3:aa (fun k=>k=1) w2 o2 (w2.setCell ⟨rb,6,none⟩ (.slice (some ⟨g1,0,none⟩) (s.ns.length+1) cp)) o2:=bT _ w2 o2 ⟨rb,6,none⟩ _ r0.2;have HF:Hid (DW (w2.setCell ⟨rb,6,none⟩ (.slice (some ⟨g1,0,none⟩) (s.ns.length+1) cp)) o2 rb p0 p1 p2 p3 p4 (s.kN n)/\aa I17 wr o (w2.setCell ⟨rb,6,none⟩ (.slice (some ⟨g1,0,none⟩) (s.ns.length+1) cp)) o2):=by
    rw[HX.out.1];refine⟨⟨wl,vc,_,vk,vw,r0.set 6 _,(q1h.out.step s2 (by decide)).step s3 (by decide),(q2h.out.step s2 (by decide)).step s3 (by decide),?_,(q4h.out.step s2 (by decide)).step s3 (by decide)⟩,(s2.mono (cC (by decide))).trans (s3.mono (cC (by decide)))⟩
    have:=R2.step s3 (by decide)
    have e:(s.ns++[n]).length=s.ns.length+1:=by simp
    have e2:esV (s.ns++[n])=esV s.ns++[stv n]:=by simp[esV]
    simp only[e,e2];exact this
   have rz:=r0.set 6 (.slice (some ⟨g1,0,none⟩) (s.ns.length+1) cp);obtain⟨⟨-,-,m6,-,-,-,-,-⟩,-⟩:=bV rz.1;have HI:Hid (s.ns.idxOf n=s.ns.length):=HX.out.2;have hsub:((s.ns.length+1:Nat):Int)-1=(s.ns.length:Int):=by omega
   clear s2 s3 R2 S2 pr r0 rz q0h q1h q2h q4h q3 HX d4 d5 d7 d8 d9 d10 d11 df HM;go_wp2;go_ret;exact⟨by rw[HI.out];first|rfl|(simp;done)|(congr 1;simp),o2,HF.out⟩
theorem du (w:World)(o:Nat->Nat)(rb:Nat)(p0 p1 p2 p3 p4:Value)(s:Dp)(n:Int)(kd m:Nat)(hz:s.sz m)(hm:m+2<=100000000)(hM:DW w o rb p0 p1 p2 p3 p4 s) :
  Calls Tryz.prog 75 #[.pointer (some ⟨rb,0,none⟩),.int .i64 n,.int .i64 (kd:Nat)] w (cH w o rb p0 p1 p2 p3 p4 (s.val n kd) (.tuple #[])):=by
 have H1:=k_c w o rb p0 p1 p2 p3 p4 s n (by have:=hz.c;omega) hM;have hz2:=(aq (s.kI n) 1 (s.cs.idxOf n) kd).sz _ ((lS s n).sz m hz);clear hM;go_enter Tryz.func75,Tryz.ntmps75;go_wp2_with (first|(go_at_call 76;refine H1.mono ?_;rintro e w2 ⟨rfl,o2,E2,S2⟩;have H2:=aS w2 o2 rb p0 p1 p2 p3 p4 (s.kI n) 1 (s.cs.idxOf n) kd E2)|(go_at_call 41;refine H2.mono ?_;rintro e w3 ⟨rfl,o3,E3,S3⟩;have H3:=bh w3 o3 rb p0 p1 p2 p3 p4 _ 1 _ hz2 (by omega) (by omega) E3)|(go_at_call 77;refine H3.mono ?_;rintro e w4 ⟨rfl,o4,E4,S4⟩))
 go_end0
 exact⟨rfl,o4,E4,(S2.trans S3).trans S4⟩
theorem qz:∀ {l:List Wo}{i j:Nat}{x:Wo}{u:Value} (hi:i<l.length),(j=1\/j=2)->(fX l[i]).set j u=fX x->(iI l).set (i*3+j) u=iI (l.set i x)
 | y::l,0,j,x,u,_,hj,h=>by
  have h':(fX y).set j u=fX x:=h;simp only[iI,List.set_cons_zero,Nat.zero_mul,Nat.zero_add];rw[List.set_append_left _ _ (by simp[fX];omega),h']
 | y::l,i+1,j,x,u,hi,hj,h=>by
  have hi':i<l.length:=by simpa using hi
  have h':(fX l[i]).set j u=fX x:=h;simp only[iI,List.set_cons_succ];rw[List.set_append_right _ _ (by simp[fX];omega),<-qz hi' hj h']
  congr 2
  simp[fX];omega
theorem db (w:World)(o:Nat->Nat)(rb:Nat)(p0 p1 p2 p3 p4:Value)(s:Dp)(i:Nat)(hi:s.lg=false->i<s.ws.length)(hM:DW w o rb p0 p1 p2 p3 p4 s) :
  Calls Tryz.prog 138 #[.pointer (some ⟨rb,0,none⟩),.int .i64 (i:Nat)] w (cH w o rb p0 p1 p2 p3 p4 (s.lands i) (.tuple #[])):=by
 have hM':=hM;obtain⟨wl,vc,vn,vk,vw,q0,q1,q2,q3,q4⟩:=hM;obtain⟨⟨c4,c5,c6,c7,c8,c9,c10,c11⟩,cf⟩:=bV q0.1;by_cases hlg:s.lg=true
 ·have e1:s.lands i=s:=by unfold Dp.lands;rw[if_pos hlg]
  rw[e1];rw[hlg] at c11;have HM:=Lib.hid hM';clear q0 q1 q2 q3 q4 hM' e1 hi;go_enter Tryz.func138,Tryz.ntmps138;go_wp2
  go_end0
  exact⟨rfl,o,HM.out,aa.refl _ _ _⟩
 ·have hlf:s.lg=false:=by simpa using hlg
  have hil:=hi hlf;have e1:s.lands i={ s with ws:=s.ws.set i ((s.ws[i]).to s.ws.length) }:=by unfold Dp.lands;rw[if_neg hlg,nH hil]
  rw[e1];rw[hlf] at c11;obtain⟨g,cap,rfl,og,-,-,hgl,hc,hf⟩:=q1.pos (by omega);have hat:∀ j,j<3->w.cell? ⟨g,i*3+j,none⟩=(fX s.ws[i])[j]?:=fun j hj=>by
   rw[hc (i*3+j) (by omega),nT s.ws i j s.ws[i] (List.getElem?_eq_getElem hil) hj]
  have f1:=hf (i*3+1);have f2:=hf (i*3+2);have d1:∀ wx:World,aa (fun _=>False) wx o wx.drew o:=fun wx=>(aa.refl _ wx o).drew;have HS:Hid (∀ j,j=1\/j=2->(fX s.ws[i]).set j (.int .i64 (s.ws.length:Nat))=fX ((s.ws[i]).to s.ws.length)->DW (w.setCell ⟨g,i*3+j,none⟩ (.int .i64 (s.ws.length:Nat))).drew o rb p0 p1 p2 p3 p4 { s with ws:=s.ws.set i ((s.ws[i]).to s.ws.length) }/\aa I17 w o (w.setCell ⟨g,i*3+j,none⟩ (.int .i64 (s.ws.length:Nat))).drew o):=fun j hj he=>by
   have T:aa (fun k=>k=2) w o (w.setCell ⟨g,i*3+j,none⟩ (.int .i64 (s.ws.length:Nat))).drew o:=((aa.refl _ w o).setCell _ _ og).drew;refine⟨⟨by simp;exact wl,vc,vn,vk,_,q0.step T (by decide),?_,q2.step T (by decide),q3.step T (by decide),q4.step T (by decide)⟩,T.mono (cC (by decide))⟩;have r1:=(q1.store (i*3+j) (.int .i64 (s.ws.length:Nat))).step (d1 _) id;have e3:(s.ws.set i ((s.ws[i]).to s.ws.length)).length=s.ws.length:=by simp
   simp only[e3];rw[<-qz hil hj he];exact r1
  have hiI:(i:Int)<(s.ws.length:Int):=by omega
  obtain⟨⟨op,oa,ob⟩,hx⟩:∃x,x=s.ws[i]:=⟨_,rfl⟩
  rw[<-hx] at hat HS ⊢;have x0:w.cell? ⟨g,i*3,none⟩=some (.int .i64 (op:Nat)):=hat 0 (by omega);have x1:w.cell? ⟨g,i*3+1,none⟩=some (.int .i64 (oa:Nat)):=hat 1 (by omega);have x2:w.cell? ⟨g,i*3+2,none⟩=some (.int .i64 (ob:Nat)):=hat 2 (by omega);by_cases ho:op=17
  ·subst ho;have F:=Lib.hid (HS.out 2 (.inr rfl) rfl);clear HS q0 q1 q2 q3 q4 hM' e1 hi hc hf hat d1 hx c5 c6 c7 c9 c10 cf;go_enter Tryz.func138,Tryz.ntmps138;go_upto_region 2 with fail;go_region
   all_goals
    go_end0
    exact⟨rfl,o,F.out⟩
  ·have hop:((op:Int)==17)=false:=by simp;omega
   have hto:(⟨op,oa,ob⟩:Wo).to s.ws.length=⟨op,s.ws.length,ob⟩:=by unfold Wo.to;rw[if_neg ho]
   have F:=Lib.hid (HS.out 1 (.inl rfl) (by rw[hto];rfl));clear HS q0 q1 q2 q3 q4 hM' e1 hi hc hf hat d1 hx c5 c6 c7 c9 c10 cf hto;go_enter Tryz.func138,Tryz.ntmps138;go_upto_region 3 with fail;go_region
   all_goals
    go_end0
    exact⟨rfl,o,F.out⟩
end Go.Proofs.YtbjdkekhnajafaaGreatDoor

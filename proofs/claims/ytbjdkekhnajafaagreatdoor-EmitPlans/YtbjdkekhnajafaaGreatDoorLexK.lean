import Derived.Test.YtbjdkekhnajafaaGreatDoorLexS
import Derived.Deep.MidRow
import Derived.Deep.CutBlock
import Derived.Deep.DeepCutAuto
import Derived.Laws.ResultCell
import Derived.WalkLawsBesides
import Derived.Deep.RegionHeld3
import Derived.Lib.AppendStr
import Derived.RegionTactic
import Derived.ChangeAlike
import Derived.BigRegion
import Derived.Shelf.Strconv.Itoa3
import Derived.Lib.ItoaLen
import Derived.Lib.SmallJoins
import Derived.Lib.Small
import Derived.Lib.AppendIntMem
import Derived.Deep.RegionHeld
set_option maxRecDepth 100000
set_option maxHeartbeats 8000000
namespace Go.Proofs.YtbjdkekhnajafaaGreatDoor
open Go.ChangeShapes Go.WideShapes Go.ChangeAt Go.RowKit
set_option linter.unusedVariables false
theorem vg:(Tryz.prog.info? 73).map (fun i=>(i.zero,i.size,i.bytes))=some (some (.agg #[.int .i64 0,.int .i64 0,.string ⟨#[]⟩,.int .i64 0]),4,40):=by kernel_rfl
def cB (ts:List Tk):List Value:=ts.flatMap fun x=>[.int .i64 (x.k:Nat),.int .i64 x.n,.string ⟨x.t.toArray⟩,.int .i64 (x.a:Nat)]
theorem ke (ts:List Tk)(x:Tk):cB (ts++[x])=cB ts++[.int .i64 (x.k:Nat),.int .i64 x.n,.string ⟨x.t.toArray⟩,.int .i64 (x.a:Nat)]:=by
 simp[cB]
def lP:List Tk->Res->Res
 | [],X=>X
 | x::r,X=>iU x (lP r X)
theorem vK (ts:List Tk)(x:Tk)(X:Res):lP (ts++[x]) X=lP ts (iU x X):=by
 induction ts with
 | nil=>rfl
 | cons y r ih=>simp only[List.cons_append,lP,ih]
theorem xS (ts:List Tk)(e:Nat × Nat):lP ts (.inl e)=.inl e:=by
 induction ts with
 | nil=>rfl
 | cons y r ih=>simp only[lP,ih];rfl
theorem xp (ts us:List Tk):lP ts (.inr us)=.inr (ts++us):=by
 induction ts with
 | nil=>rfl
 | cons y r ih=>simp only[lP,ih];rfl
theorem qu {k:Nat}{t:List UInt8}{a e:Nat}(h:fO k t a=.inl e):e=110\/e=111\/e=112:=by
 unfold fO at h;split at h
 ·unfold fs at h
  repeat' split at h
  all_goals first|(injection h with h;omega)|cases h
 ·unfold gq at h
  repeat' split at h
  all_goals first|(injection h with h;omega)|cases h
 ·unfold mM at h;split at h
  all_goals first|(injection h with h;omega)|cases h
 ·injection h with h
  omega
def AX (w w':World)(v:Value)(er at0:Int)(R:Res):Prop :=
 (∃e p,R=.inl (e,p)/\v=.slice none 0 0/\er=(e:Nat)/\at0=(p:Nat))\/(∃ts,R=.inr ts/\er=0/\at0=0/\w'.ownsRow w.heap.size 73 4 v ts.length (cB ts))
theorem Row.fresh {I:Nat->Prop}{w w':World}{o':Nat->Nat}{i:Nat}{e:TypeId}{size:Nat}{v:Value}{n:Nat}{xs:List Value}(r:Row w' o' (i+1) e size v n xs)(s:aa I w (fun _=>0) w' o'):w'.ownsRow w.heap.size e size v n xs:=by
 refine⟨r.1.1,?_⟩;rcases r.1.2 with h|⟨g,cap,cur,rfl,hb,rest⟩
 ·exact .inl h
 ·refine .inr ⟨g,cap,cur,rfl,?_,rest⟩;by_cases hg:g<w.heap.size
  ·have h1:=s.lab g hg;have h2:=r.2 g rfl;omega
  ·omega
theorem bdr {B:Nat}{w w':World}(h:Below B w w')(n:Nat):Below B w (w'.drewN n):=⟨h.os,h.tape,h.output,h.size,h.block⟩
structure au (rb:Nat)(w w':World):Prop where
 os:w'.os=w.os
 tape:w'.tape=w.tape
 output:w'.output=w.output
 size:w.heap.size<=w'.heap.size
 block:∀ k,k<w.heap.size->k≠rb->w'.heap[k]?=w.heap[k]?
theorem au.refl (rb:Nat)(w:World):au rb w w:=⟨rfl,rfl,rfl,Nat.le_refl _,fun _ _ _=>rfl⟩
theorem au.trans {rb:Nat}{a b c:World}(h:au rb a b)(k:au rb b c):au rb a c :=
 ⟨k.os.trans h.os,k.tape.trans h.tape,k.output.trans h.output,Nat.le_trans h.size k.size,fun i hi hn=>(k.block i (Nat.lt_of_lt_of_le hi h.size) hn).trans (h.block i hi hn)⟩
theorem au.ofBelow {rb:Nat}{w w':World}(h:Below w.heap.size w w'):au rb w w':=⟨h.os,h.tape,h.output,h.size,fun k hk _=>h.block k hk⟩
theorem au.alloc {rb:Nat}{a w:World}(h:au rb a w)(ob:Obj):au rb a (w.alloc ob) :=
 h.trans ⟨rfl,rfl,rfl,by simp,fun k hk _=>Below.heap_alloc w ob k hk⟩
theorem au.drew {rb:Nat}{a w:World}(h:au rb a w):au rb a w.drew:=⟨h.os,h.tape,h.output,h.size,h.block⟩
theorem au.set {rb:Nat}{a w:World}(h:au rb a w)(p:Addr)(u:Value)(hp:a.heap.size<=p.block\/p.block=rb):au rb a (w.setCell p u) :=
 ⟨h.os,h.tape,h.output,by simpa using h.size,fun k hk hn=>(heap_setCell_other w p k u (fun e=>by
  rcases hp with hp|hp
  ·omega
  ·exact hn (e.trans hp))).trans (h.block k hk hn)⟩
theorem au.below {rb n:Nat}{w w':World}(h:au rb w w')(hn:n<=rb)(hs:rb<w.heap.size):Below n w w':=⟨h.os,h.tape,h.output,h.size,fun k hk=>h.block k (by omega) (by omega)⟩
theorem au.cell {rb:Nat}{w w':World}(h:au rb w w'){b:Nat}(hb:b<w.heap.size)(hn:b≠rb)(j:Nat):w'.cell? ⟨b,j,none⟩=w.cell? ⟨b,j,none⟩:=World.cell?_of_block (a:=⟨b,j,none⟩) (h.block b hb hn)
abbrev stv (t:List UInt8):Value:=.string ⟨t.toArray⟩
def Fc (w:World)(P:Nat->Prop):Fs->List Value->Prop
 | ⟨none⟩,xs=>xs=[]
 | ⟨some ⟨k,n,nm,a,ks,r⟩⟩,xs=>∃ao cap ys,xs=.int .i64 k::.int .i64 n::stv nm::.slice ao ks.len cap::.int .i64 a::ys /\
   (ks=.nil\/∃b off zs,ao=some ⟨b,off,none⟩/\P b/\b<w.heap.size/\(∀ j u,zs[j]?=some u->w.cell? ⟨b,off+j,none⟩=some u)/\Fc w P ks zs)/\Fc w P r ys
def Sl (w:World)(P:Nat->Prop)(ks:Fs)(ao:Option Addr):Prop :=
 ks=.nil\/∃b off zs,ao=some ⟨b,off,none⟩/\P b/\b<w.heap.size/\(∀ j u,zs[j]?=some u->w.cell? ⟨b,off+j,none⟩=some u)/\Fc w P ks zs
def exV (e:Ex)(ao:Option Addr)(cap:Nat):Value:=.agg #[.int .i64 e.k,.int .i64 e.n,stv e.nm,.slice ao e.kids.len cap,.int .i64 e.a]
theorem Fc.len {w:World}{P:Nat->Prop}:∀ {f:Fs}{xs:List Value},Fc w P f xs->xs.length=f.len*5
 | ⟨none⟩,xs,h=>by
  have h:xs=[]:=h;subst h;rfl
 | ⟨some ⟨k,n,nm,a,ks,r⟩⟩,xs,h=>by
  obtain⟨ao,cap,ys,rfl,_,h2⟩:=h
  have:=Fc.len h2
  simp only[List.length_cons,Fs.len];omega
theorem Fc.mono {w w':World}{P Q:Nat->Prop}(hb:∀ k,P k->k<w.heap.size->w'.heap[k]?=w.heap[k]?)(hs:w.heap.size<=w'.heap.size)(hq:∀ k,P k->k<w.heap.size->Q k):∀ {f:Fs}{xs:List Value},Fc w P f xs->Fc w' Q f xs
 | ⟨none⟩,xs,h=>h
 | ⟨some ⟨k,n,nm,a,ks,r⟩⟩,xs,h=>by
  obtain⟨ao,cap,ys,rfl,h1,h2⟩:=h;refine⟨ao,cap,ys,rfl,?_,Fc.mono hb hs hq h2⟩;rcases h1 with h1|⟨b,off,zs,rfl,hp,hlt,hc,h3⟩
  ·exact .inl h1
  ·exact .inr ⟨b,off,zs,rfl,hq b hp hlt,Nat.lt_of_lt_of_le hlt hs,fun j u hu=>(World.cell?_of_block (a:=⟨b,off+j,none⟩) (hb b hp hlt)).trans (hc j u hu),Fc.mono hb hs hq h3⟩
theorem Sl.mono {w w':World}{P Q:Nat->Prop}{f:Fs}{ao:Option Addr}(hb:∀ k,P k->k<w.heap.size->w'.heap[k]?=w.heap[k]?)(hs:w.heap.size<=w'.heap.size)(hq:∀ k,P k->k<w.heap.size->Q k)(h:Sl w P f ao):Sl w' Q f ao:=by
 rcases h with h|⟨b,off,zs,rfl,hp,hlt,hc,h3⟩
 ·exact .inl h
 ·exact .inr ⟨b,off,zs,rfl,hq b hp hlt,Nat.lt_of_lt_of_le hlt hs,fun j u hu=>(World.cell?_of_block (a:=⟨b,off+j,none⟩) (hb b hp hlt)).trans (hc j u hu),h3.mono hb hs hq⟩
theorem Fc.app {w:World}{P:Nat->Prop}:∀ {f g:Fs}{xs ys:List Value},Fc w P f xs->Fc w P g ys->Fc w P (f.app g) (xs++ys)
 | ⟨none⟩,g,xs,ys,h,k=>by
  have h:xs=[]:=h;subst h;exact k
 | ⟨some ⟨i,n,nm,a,ks,r⟩⟩,g,xs,ys,h,k=>by
  obtain⟨ao,cap,zs,rfl,h1,h2⟩:=h;exact⟨ao,cap,zs++ys,rfl,h1,Fc.app h2 k⟩
theorem Fc.one {w:World}{P:Nat->Prop}{e:Ex}{ao:Option Addr}(cap:Nat)(h:Sl w P e.kids ao):Fc w P (one e) [.int .i64 e.k,.int .i64 e.n,stv e.nm,.slice ao e.kids.len cap,.int .i64 e.a]:=⟨ao,cap,[],rfl,h,rfl⟩
theorem Sl.of {w:World}{P:Nat->Prop}{f:Fs}{b:Nat}{xs:List Value}(hp:P b)(hlt:b<w.heap.size)(hc:∀ j u,xs[j]?=some u->w.cell? ⟨b,0+j,none⟩=some u)(h:Fc w P f xs):Sl w P f (some ⟨b,0,none⟩):=.inr ⟨b,0,xs,rfl,hp,hlt,hc,h⟩
theorem Sl.nil (w:World)(P:Nat->Prop)(ao:Option Addr):Sl w P .nil ao:=.inl rfl
theorem lZ:∀ (l:List Tk) (i:Nat) (x:Tk),l[i]?=some x->(cB l)[i*4]?=some (.int .i64 (x.k:Nat))/\(cB l)[i*4+1]?=some (.int .i64 x.n)/\(cB l)[i*4+2]?=some (stv x.t)/\(cB l)[i*4+3]?=some (.int .i64 (x.a:Nat))
 | [],i,x,h=>by simp at h
 | p::r,0,x,h=>by
  simp at h;subst h;exact⟨rfl,rfl,rfl,rfl⟩
 | p::r,i+1,x,h=>by
  have e:cB (p::r)=.int .i64 (p.k:Nat)::.int .i64 p.n::stv p.t::.int .i64 (p.a:Nat)::cB r:=rfl;have e1:(i+1)*4=i*4+1+1+1+1:=by omega
  have ih:=lZ r i x (by simpa using h);rw[e,e1];exact ih
abbrev Nw (n:Nat):Nat->Prop:=fun b=>n<=b
theorem Sl.keepN {rb n:Nat}{w w':World}{f:Fs}{ao:Option Addr}(h:Sl w (Nw n) f ao)(k:au rb w w')(hn:rb<n):Sl w' (Nw n) f ao:=h.mono (fun i hp hl=>k.block i hl (by have hp:n<=i:=hp;omega)) k.size (fun _ h _=>h)
theorem Sl.setN {n:Nat}{w:World}{f:Fs}{ao:Option Addr}(h:Sl w (Nw n) f ao)(p:Addr)(v:Value)(hp:p.block<n):Sl (w.setCell p v) (Nw n) f ao:=h.mono (fun i hp hl=>heap_setCell_other w p i v (by have hp:n<=i:=hp;omega)) (by simp) (fun _ h _=>h)
theorem Sl.allocN {n:Nat}{w:World}{f:Fs}{ao:Option Addr}(h:Sl w (Nw n) f ao)(ob:Obj):Sl (w.alloc ob) (Nw n) f ao:=h.mono (fun i hp hl=>Below.heap_alloc w ob i hl) (by simp) (fun _ h _=>h)
theorem Sl.low {n m:Nat}{w:World}{f:Fs}{ao:Option Addr}(h:Sl w (Nw n) f ao)(hm:m<=n):Sl w (Nw m) f ao:=h.mono (fun i hp hl=>rfl) (Nat.le_refl _) (fun i h _=>Nat.le_trans hm h)
theorem Fc.allocN {n:Nat}{w:World}{f:Fs}{xs:List Value}(h:Fc w (Nw n) f xs)(ob:Obj):Fc (w.alloc ob) (Nw n) f xs:=h.mono (fun i hp hl=>Below.heap_alloc w ob i hl) (by simp) (fun _ h _=>h)
theorem Blk.cells5 {w:World}{o:Nat->Nat}{i b:Nat}{a0 a1 a2 a3 a4:Value}{t:TypeId}(h:Blk w o i b (.cells #[a0,a1,a2,a3,a4] t (0,0))) :
  w.cell? ⟨b,0,none⟩=some a0/\w.cell? ⟨b,1,none⟩=some a1/\w.cell? ⟨b,2,none⟩=some a2/\w.cell? ⟨b,3,none⟩=some a3/\w.cell? ⟨b,4,none⟩=some a4/\∀ j,w.frozen? ⟨b,j,none⟩=false:=by
 refine⟨?_,?_,?_,?_,?_,fun j=>frozen_of_row w b j _ t h.1⟩<;>simp[cell_of_row w b _ _ t (0,0) h.1]
theorem Blk.cells2 {w:World}{o:Nat->Nat}{i b:Nat}{a0 a1:Value}{t:TypeId}(h:Blk w o i b (.cells #[a0,a1] t (0,0))) :
  w.cell? ⟨b,0,none⟩=some a0/\w.cell? ⟨b,1,none⟩=some a1/\∀ j,w.frozen? ⟨b,j,none⟩=false:=by
 refine⟨?_,?_,fun j=>frozen_of_row w b j _ t h.1⟩<;>simp[cell_of_row w b _ _ t (0,0) h.1]
def dS (t:Int):Option (List UInt8 × Nat × Nat × Nat × Nat):=eE.find? fun x=>(x.2.1:Int)==t
def fm (t:Int):Option (List UInt8 × Nat × Nat):=dG.find? fun x=>(x.2.1:Int)==t
def fG (t:Int):Option (List UInt8 × Nat):=dv.find? fun x=>(x.2:Int)==t
set_option linter.unusedSimpArgs false
def bm (k:Int):Bool:=k==22||k==23||k==24||k==25
def dd (k:Int):Nat:=if k==19||k==21 then 0 else if k==7 then 3 else if k==6 then 7 else match dS k with|some x=>x.2.2.1|none=>8
def bS (k n:Int):Bool:=if k==1||k==3 then decide (0<=n) else if k==2 then n==0||n==1 else if k==20 then (fm n).isSome else if k==21 then (fG n).isSome else n==0
def cr (k:Int)(nm:List UInt8):Bool:=if k==4||k==23||k==21 then aX nm else nm==[]
def aR (k n:Int)(m:Nat):Bool:=if k==1||k==2||k==3||k==4||k==22||k==23 then (m:Int)==0 else if k==6||k==7||k==24 then (m:Int)==1 else if k==21 then (m:Int)==2 else if k==19 then (m:Int)==3 else if k==20 then (match fm n with|some x=>(m:Int)==(x.2.2:Nat)|none=>(m:Int)==0) else if k==25 then true else (dS k).isSome&&(m:Int)==2
theorem bne {k:Int}{c:Int}(h:k≠c):(k==c)=false:=by rw[beq_eq_false_iff_ne];exact h
theorem wH {w:World}{b:Nat}{a0 a1 a2 a3 b0 b1 b2 b3:Value}{t:TypeId}(h:w.heap[b]?=some (.cells #[a0,a1,a2,a3] t (0,0))):((((w.setCell ⟨b,0,none⟩ b0).setCell ⟨b,1,none⟩ b1).setCell ⟨b,2,none⟩ b2).setCell ⟨b,3,none⟩ b3).heap[b]?=some (.cells #[b0,b1,b2,b3] t (0,0)):=by
 have h0:Blk w (fun _=>0) 0 b (.cells #[a0,a1,a2,a3] t (0,0)):=⟨h,rfl⟩
 exact((((h0.set 0 b0).set 1 b1).set 2 b2).set 3 b3).1
abbrev exZ:Obj:=.cells #[.int .i64 0,.int .i64 0,.string ⟨#[]⟩,.slice none 0 0,.int .i64 0] 25
theorem bH {w:World}{b:Nat}{a0 a1 a2 a3 a4:Value}(b0 b1 b2 b3 b4:Value){t:TypeId}(h:w.heap[b]?=some (.cells #[a0,a1,a2,a3,a4] t (0,0))):(((((w.setCell ⟨b,0,none⟩ b0).setCell ⟨b,1,none⟩ b1).setCell ⟨b,2,none⟩ b2).setCell ⟨b,3,none⟩ b3).setCell ⟨b,4,none⟩ b4).heap[b]?=some (.cells #[b0,b1,b2,b3,b4] t (0,0)):=by
 have h0:Blk w (fun _=>0) 0 b (.cells #[a0,a1,a2,a3,a4] t (0,0)):=⟨h,rfl⟩
 exact(((((h0.set 0 b0).set 1 b1).set 2 b2).set 3 b3).set 4 b4).1
theorem au.set5 {rb:Nat}{a w:World}(h:au rb a w){b:Nat}(hb:a.heap.size<=b)(b0 b1 b2 b3 b4:Value):au rb a (((((w.setCell ⟨b,0,none⟩ b0).setCell ⟨b,1,none⟩ b1).setCell ⟨b,2,none⟩ b2).setCell ⟨b,3,none⟩ b3).setCell ⟨b,4,none⟩ b4):=((((h.set ⟨b,0,none⟩ b0 (.inl hb)).set ⟨b,1,none⟩ b1 (.inl hb)).set ⟨b,2,none⟩ b2 (.inl hb)).set ⟨b,3,none⟩ b3 (.inl hb)).set ⟨b,4,none⟩ b4 (.inl hb)
theorem Sl.set5 {n:Nat}{w:World}{f:Fs}{ao:Option Addr}(h:Sl w (Nw n) f ao){b:Nat}(hb:b<n)(b0 b1 b2 b3 b4:Value):Sl (((((w.setCell ⟨b,0,none⟩ b0).setCell ⟨b,1,none⟩ b1).setCell ⟨b,2,none⟩ b2).setCell ⟨b,3,none⟩ b3).setCell ⟨b,4,none⟩ b4) (Nw n) f ao:=((((h.setN ⟨b,0,none⟩ b0 hb).setN ⟨b,1,none⟩ b1 hb).setN ⟨b,2,none⟩ b2 hb).setN ⟨b,3,none⟩ b3 hb).setN ⟨b,4,none⟩ b4 hb
theorem ai {w:World}{b:Nat}{a0 a1 a2 a3 a4:Value}{t:TypeId}(h:w.heap[b]?=some (.cells #[a0,a1,a2,a3,a4] t (0,0))) :
  w.cell? ⟨b,0,none⟩=some a0/\w.cell? ⟨b,1,none⟩=some a1/\w.cell? ⟨b,2,none⟩=some a2/\w.cell? ⟨b,3,none⟩=some a3/\w.cell? ⟨b,4,none⟩=some a4/\∀ j,w.frozen? ⟨b,j,none⟩=false:=Blk.cells5 (o:=fun _=>0) (i:=0) ⟨h,rfl⟩
theorem au.blk {rb:Nat}{w w':World}(k:au rb w w'){b:Nat}{ob:Obj}(h:w.heap[b]?=some ob)(hb:b≠rb):w'.heap[b]?=some ob:=(k.block b (lt_of_block h) hb).trans h
theorem Sl.fresh {w:World}{n:Nat}{f:Fs}(xs:List Value)(t:TypeId)(h:Fc w (Nw n) f xs)(hn:n<=w.heap.size):Sl (w.alloc (.cells xs.toArray t)) (Nw n) f (some ⟨w.heap.size,0,none⟩):=by
 refine Sl.of hn (by simp) (fun j u hu=>?_) (h.allocN _);rw[Nat.zero_add];rw[cell_of_row _ w.heap.size j _ t (0,0) (heap_alloc_new w _)];simpa using hu
theorem am (e:Ex)(ao:Option Addr)(cap:Nat):exV e ao cap=.agg #[.int .i64 e.k,.int .i64 e.n,stv e.nm,.slice ao e.kids.len cap,.int .i64 e.a]:=rfl
def xT (w:World)(n0:Nat)(acc:Fs)(g cap:Nat)(xs:List Value):Prop :=
 n0<=g/\w.ownsRow 0 25 5 (.slice (some ⟨g,0,none⟩) acc.len cap) acc.len xs/\Fc w (fun b=>n0<=b/\b≠g) acc xs
def Acc (w:World)(n0:Nat)(acc:Fs)(v:Value):Prop:=∃g cap xs,v=.slice (some ⟨g,0,none⟩) acc.len cap/\xT w n0 acc g cap xs
def jZ (g:Nat):Nat->Nat:=fun b=>if b=g then 1 else 0
theorem xT.row {w:World}{n0:Nat}{acc:Fs}{g cap:Nat}{xs:List Value}(h:xT w n0 acc g cap xs):Row w (jZ g) 1 25 5 (.slice (some ⟨g,0,none⟩) acc.len cap) acc.len xs :=
 ⟨h.2.1,fun k hk=>by simp[Value.ownBlock] at hk;subst hk;simp[jZ]⟩
theorem Acc.one {w:World}{n0:Nat}{e:Ex}{ao:Option Addr}(cap:Nat)(h:Sl w (Nw n0) e.kids ao)(hn:n0<=w.heap.size) :
  Acc (w.alloc (.cells #[.int .i64 e.k,.int .i64 e.n,stv e.nm,.slice ao e.kids.len cap,.int .i64 e.a] 25)) n0 (one e) (.slice (some ⟨w.heap.size,0,none⟩) 1 1):=by
 refine⟨w.heap.size,1,_,rfl,hn,World.ownsRow_lit w _ 1 (Nat.zero_le _) (by unfold maxLen;omega) (by simp),?_⟩;exact(Fc.one cap h).mono (fun i hp hl=>Below.heap_alloc w _ i hl) (by simp) (fun i hp hl=>⟨hp,Nat.ne_of_lt hl⟩)
theorem Acc.keep {rb n0:Nat}{w w':World}{acc:Fs}{v:Value}(h:Acc w n0 acc v)(k:au rb w w')(hn:rb<n0):Acc w' n0 acc v:=by
 obtain⟨g,cap,xs,rfl,hg,ho,hf⟩:=h;have r:Row w (fun b=>if b=rb then 7 else 1) 1 25 5 (.slice (some ⟨g,0,none⟩) acc.len cap) acc.len xs:=⟨ho,fun j hj=>by simp[Value.ownBlock] at hj;subst hj;show (if g=rb then 7 else 1)=1;rw[if_neg (by omega)]⟩
 have s:aa (fun x=>x=7) w (fun b=>if b=rb then 7 else 1) w' (fun b=>if b=rb then 7 else 1):=⟨k.os,k.tape,k.output,k.size,fun _ _=>rfl,fun j hj hn=>k.block j hj (fun e=>hn (by simp[e]))⟩
 exact⟨g,cap,xs,rfl,hg,(r.step s (by decide)).1,hf.mono (fun i hp hl=>k.block i hl (by have:=hp.1;omega)) k.size (fun _ h _=>h)⟩
theorem Acc.sl {w:World}{n0:Nat}{acc:Fs}{v:Value}(h:Acc w n0 acc v):∃ao cap,v=.slice ao acc.len cap/\Sl w (Nw n0) acc ao:=by
 obtain⟨g,cap,xs,rfl,h⟩:=h;refine⟨_,cap,rfl,?_⟩;by_cases h0:0<acc.len
 ·obtain⟨g',cap',hv,_,_,_,hlt,hc,_⟩:=h.row.pos h0;simp only[Value.slice.injEq,Option.some.injEq,Addr.mk.injEq,true_and,and_true] at hv;obtain⟨rfl,rfl⟩:=hv;have hl:=h.row.len;refine Sl.of h.1 hlt (fun j u hu=>?_) (h.2.2.mono (fun _ _ _=>rfl) (Nat.le_refl _) (fun _ hp _=>hp.1));rw[Nat.zero_add,hc j ?_]
  ·exact hu
  ·rw[<-hl];by_cases hj:j<xs.length
   ·exact hj
   ·rw[List.getElem?_eq_none (by omega)] at hu;cases hu
 ·refine .inl ?_;cases acc using Fs.on with
  | nil=>rfl
  | cons k n nm a ks r=>simp[Fs.len] at h0
theorem au.step1 {rb g:Nat}{a w w2:World}{o2:Nat->Nat}(K:au rb a w)(s:aa (fun x=>x=1) w (jZ g) w2 o2)(hg:a.heap.size<=g):au rb a w2 :=
 ⟨s.os.trans K.os,s.tape.trans K.tape,s.output.trans K.output,Nat.le_trans K.size s.size,fun k hk hn=>(s.block k (Nat.lt_of_lt_of_le hk K.size) (by unfold jZ;rw[if_neg (by omega)];decide)).trans (K.block k hk hn)⟩
theorem Acc.push {w w2:World}{o2:Nat->Nat}{n0 n1 g cap g2 c2:Nat}{acc:Fs}{xs:List Value}{e:Ex}{ao:Option Addr}{ce:Nat}(h:xT w n0 acc g cap xs)(S:Sl w (Nw n1) e.kids ao)(hn1:g<n1)(hw:n0<=w.heap.size)
  (s:aa (fun x=>x=1) w (jZ g) w2 o2) (r:Row w2 o2 1 25 5 (.slice (some ⟨g2,0,none⟩) (acc.len+1) c2) (acc.len+1) (xs++[.int .i64 e.k,.int .i64 e.n,stv e.nm,.slice ao e.kids.len ce,.int .i64 e.a])) :
  Acc w2 n0 (acc.snoc e) (.slice (some ⟨g2,0,none⟩) (acc.len+1) c2):=by
 have hl:(acc.snoc e).len=acc.len+1:=Fs.len_snoc acc e;have h2:o2 g2=1:=r.2 g2 rfl;have hlt2:g2<w2.heap.size:=r.lt rfl;have hg2:n0<=g2:=by
  by_cases hlt:g2<w.heap.size
  ·have:=(s.lab g2 hlt).symm.trans h2
   unfold jZ at this;by_cases e:g2=g
   ·rw[e];exact h.1
   ·rw[if_neg e] at this;cases this
  ·omega
 have hb:∀ k,(n0<=k/\k≠g)->k<w.heap.size->w2.heap[k]?=w.heap[k]?:=fun k hk hl=>s.block k hl (by unfold jZ;rw[if_neg hk.2];decide);have hq:∀ k,(n0<=k/\k≠g)->k<w.heap.size->(n0<=k/\k≠g2):=fun k hk hl=>⟨hk.1,fun e=>by
  have:=(s.lab k hl).symm.trans (e ▸ h2)
  unfold jZ at this;rw[if_neg hk.2] at this;cases this⟩
 refine⟨g2,c2,xs++[.int .i64 e.k,.int .i64 e.n,stv e.nm,.slice ao e.kids.len ce,.int .i64 e.a],by rw[hl],hg2,by rw[hl];exact r.1,?_⟩;have F1:=h.2.2.mono hb s.size hq;have S1:Sl w2 (fun b=>n0<=b/\b≠g2) e.kids ao:=S.mono (fun k hk hl=>hb k ⟨by have hk:n1<=k:=hk;have:=h.1;omega,by have hk:n1<=k:=hk;omega⟩ hl) s.size (fun k hk hl=>hq k ⟨by have hk:n1<=k:=hk;have:=h.1;omega,by have hk:n1<=k:=hk;omega⟩ hl);exact F1.app (Fc.one ce S1)
theorem lr:(Tryz.prog.info? 25).map (fun i=>(i.zero,i.size,i.bytes))=some (some (.agg #[.int .i64 0,.int .i64 0,.string ⟨#[]⟩,.slice none 0 0,.int .i64 0]),5,64):=by kernel_rfl
def hFs:Fs->Bool->Nat->Option Nat
 | ⟨none⟩,_,c=>some c
 | ⟨some ⟨k,n,nm,a,ks,r⟩⟩,first,c =>
  if bm k != first then none
  else if 2000<c+1 then none
  else if bS k n&&cr k nm&&aR k n ks.len then
   match hFs ks (k==21) (c+1) with
   | none=>none
   | some c'=>hFs r false c'
  else none
def hE (e:Ex)(c:Nat):Option Nat:=if 2000<c+1 then none else if bS e.k e.n&&cr e.k e.nm&&aR e.k e.n e.kids.len then hFs e.kids (e.k==21) (c+1) else none
def Fs.size:Fs->Nat
 | ⟨none⟩=>0
 | ⟨some ⟨_,_,_,_,ks,r⟩⟩=>ks.size+r.size+1
def Fs.short:Fs->Prop
 | ⟨none⟩=>True
 | ⟨some ⟨_,_,nm,_,ks,r⟩⟩=>nm.length<=maxLen/\ks.len<=1000000000/\ks.short/\r.short
theorem Fs.size_app:∀ (x y:Fs),(x.app y).size=x.size+y.size
 | ⟨none⟩,y=>by simp[Fs.app,Fs.size]
 | ⟨some ⟨k,n,nm,a,ks,r⟩⟩,y=>by simp only[Fs.app,Fs.size];rw[Fs.size_app r y];omega
theorem Fs.app_short:∀ {x y:Fs},(x.app y).short->y.short
 | ⟨none⟩,y,h=>h
 | ⟨some ⟨k,n,nm,a,ks,r⟩⟩,y,h=>Fs.app_short h.2.2.2
theorem rD:∀ (f:Fs) (b:Bool) (c c':Nat),c<=2000->hFs f b c=some c'->c'<=2000
 | ⟨none⟩,b,c,c',h,e=>by
  unfold hFs at e;injection e with e
  omega
 | ⟨some ⟨k,n,nm,a,ks,r⟩⟩,b,c,c',h,e=>by
  unfold hFs at e;split at e
  ·cases e
  ·split at e
   ·cases e
   ·split at e
    ·split at e
     ·cases e
     ·rename_i c2 h2
      exact rD r false c2 c' (rD ks _ (c+1) c2 (by omega) h2) e
    ·cases e
theorem Ef {e:Ex}{c c':Nat}(h:hE e c=some c'):c'<=2000:=by
 unfold hE at h;split at h
 ·cases h
 ·split at h
  ·exact rD _ _ _ _ (by omega) h
  ·cases h
theorem Fs.app_assoc:∀ (x y z:Fs),(x.app y).app z=x.app (y.app z)
 | ⟨none⟩,y,z=>rfl
 | ⟨some ⟨k,n,nm,a,ks,r⟩⟩,y,z=>by simp only[Fs.app];rw[Fs.app_assoc r y z]
theorem Fc.split {w:World}{P:Nat->Prop}:∀ {x y:Fs}{zs:List Value},Fc w P (x.app y) zs->∃zx zy,zs=zx++zy/\Fc w P x zx/\Fc w P y zy
 | ⟨none⟩,y,zs,h=>⟨[],zs,rfl,rfl,h⟩
 | ⟨some ⟨k,n,nm,a,ks,r⟩⟩,y,zs,h=>by
  obtain⟨ao,cap,ys,rfl,h1,h2⟩:=h;obtain⟨zx,zy,rfl,h3,h4⟩:=Fc.split h2;exact⟨_,zy,rfl,⟨ao,cap,zx,rfl,h1,h3⟩,h4⟩
abbrev Nf (fb:Nat):Nat->Prop:=fun b=>b≠fb
theorem Sl.keepF {fb:Nat}{w w':World}{f:Fs}{ao:Option Addr}(h:Sl w (Nf fb) f ao)(k:au fb w w'):Sl w' (Nf fb) f ao:=h.mono (fun i hp hl=>k.block i hl hp) k.size (fun _ h _=>h)
theorem gz {P:Program}(w:World)(t u ty e:TypeId)(i:TypeInfo)(ht:P.underlying t=some (.slice e))(hu:P.underlying u=some .string)(hi:P.info? e=some i)(hz:i.zero=some (.int .u8 0))
  (hsize:i.size=1) (hby:i.bytes=1) (v:Value) (n:Nat) (xs:List Value) (hown:w.ownsRow 0 e 1 v n xs) (s:ByteArray) (h63:n+s.size<=maxLen) (hbytes:n+s.size<=140737488355328) :
  ∃v' w',(Builtin.append_ #[t,u] ty #[v,.string s]).run P w=.ok v' w'/\w'.ownsRow 0 e 1 v' (n+s.size) (xs++Go.Lib.strCells s)/\w.grownBy w' v.ownBlock /\
   (v'.ownBlock=v.ownBlock\/∃k,v'.ownBlock=some k/\w.heap.size<=k):=by
 obtain⟨v',w',hr,ho,hg,h4⟩:=Go.Lib.run_append_own_string (P:=P) w 0 t u ty e i ht hu hi hz hsize hby v n xs hown s h63 hbytes (Nat.zero_le _);refine⟨v',w',hr,ho,hg,?_⟩;have h63':n+s.size<=9223372036854775807:=by simp only[maxLen] at h63;omega
 rcases hown.2 with ⟨rfl,rfl⟩|⟨g,cap,cur,rfl,hbg,hgb,hnc,hcm,hcs,htake⟩
 ·by_cases hm:s.size=0
  ·have h5:=h4.2 ⟨rfl,hm⟩;subst h5;exact .inl rfl
  ·have hr':=run_append_nil_string (P:=P) w t u ty e i (.int .u8 0) ht hu hi hz s (by omega) (by omega) (by rw[hby];omega);rw[hr'] at hr;injection hr with e1 e2
   subst e1;exact .inr ⟨_,rfl,Nat.le_refl _⟩
 ·by_cases hroom:n+s.size<=cap
  ·have hcs':cur.size=cap:=by simpa using hcs
   have hr':=Go.Lib.run_append_room_string (P:=P) w t u ty e i ht hu hi hsize g n cap cur hgb s hroom (by omega);rw[hr'] at hr;injection hr with e1 e2
   subst e1;exact .inl rfl
  ·have holds:∀ j u,xs[j]?=some u->w.cell? ((⟨g,0,none⟩:Addr).add j)=some u:=hown.cells (g:=g) rfl;have hr':=Go.Lib.run_append_grow_string (P:=P) w t u ty e i (.int .u8 0) ht hu hi hz ⟨g,0,none⟩ n cap xs (by rw[hsize];simpa using hown.1) holds s (by omega) (by omega) (by rw[hby];exact growslice_fits (by omega) (by omega));rw[hr'] at hr;injection hr with e1 e2
   subst e1;exact .inr ⟨_,rfl,Nat.le_refl _⟩
theorem jg {P:Program}{w:World}{ops:Array Oper}{rest:List Oper}{op:Oper}{a:Act}{Q:Exit->Act->World->Prop}(hgd:op.guard=none)(sl x:Operand)(t u:TypeId)
  (ho:op.op=.call { callee:=.builtin .append,args:=#[sl,x],argTypes:=#[t,u] })
  (e:TypeId) (i:TypeInfo) (ht:P.underlying t=some (.slice e)) (hu:P.underlying u=some .string) (hi:P.info? e=some i) (hz:i.zero=some (.int .u8 0)) (hsize:i.size=1) (hby:i.bytes=1)
  (o:Nat->Nat) (lb:Nat) (v:Value) (n:Nat) (xs:List Value) (hs:a.eval sl=v) (hrow:Row w o lb e 1 v n xs) (s:ByteArray) (hx:a.eval x=.string s) (h63:n+s.size<=maxLen) (hbytes:n+s.size<=140737488355328)
  (h:∀ v' w' o',Row w' o' lb e 1 v' (n+s.size) (xs++Go.Lib.strCells s)->aa (fun k=>k=lb) w o w' o'->wpList P ops Q rest (a.put op.dst v') w'):wpList P ops Q (op::rest) a w:=by
 refine wpList_plain hgd fun _ hK=>?_;obtain⟨v',w',hr,h2,h3,h4⟩:=gz (P:=P) w t u op.type e i ht hu hi hz hsize hby v n xs hrow.1 s h63 hbytes;unfold Oper.wp execOp;simp only[ho,resolve,invoke,builtin,Sem.run_bind,Sem.run_pure,Result.andThen_ok,List.map_toArray,List.map_cons,List.map_nil,hs,hx,hr];have hst:aa (fun k=>k=lb) w o w' (ae w o lb):=aa.appended h3 rfl hrow.2;have hrow':Row w' (ae w o lb) lb e 1 v' (n+s.size) (xs++Go.Lib.strCells s):=by
  refine⟨h2,fun k hk=>?_⟩;rcases h4 with h4|⟨k',h4,hk'⟩
  ·rw[h4] at hk;rw[aC (hrow.lt hk)];exact hrow.2 k hk
  ·rw[h4] at hk;injection hk with hk
   subst hk;exact ax hk'
 exact hK _ _ (h v' w' _ hrow' hst)
def byL (t:List UInt8):List Value:=t.map fun b=>Value.int .u8 b.toNat
theorem Br (s t:List UInt8):byL s++Go.Lib.strCells ⟨t.toArray⟩=byL (s++t):=by simp[byL,Go.Lib.strCells]
theorem fF (t:List UInt8):(ByteArray.mk t.toArray).size=t.length:=by simp[ByteArray.size]
abbrev I12:Nat->Prop:=fun k=>k=1\/k=2
theorem DB:(Tryz.prog.info? 5).map (fun i=>(i.zero,i.size,i.bytes))=some (some (.int .u8 0),1,1):=by kernel_rfl
structure St where
 t:List UInt8
 a:Nat
 m:Nat
 b:Nat
 n:Nat
def St.lay (s:St)(x:List UInt8):St:=⟨s.t++x,s.a,s.m,s.b,s.n⟩
def St.ent (s:St):St:=⟨s.t,s.a+1,max s.m (s.a+1),s.b,s.n⟩
def St.lea (s:St):St:=⟨s.t,s.a-1,s.m,s.b,s.n⟩
def St.qent (s:St):St:=⟨s.t,s.a,s.m,s.b+1,max s.n (s.b+1)⟩
def St.qlea (s:St):St:=⟨s.t,s.a,s.m,s.b-1,s.n⟩
def fV (n:Int):List UInt8:=match fG n with|some x=>x.1|none=>[]
def gm (n:Int):List UInt8:=match fm n with|some x=>x.1|none=>[]
abbrev Sep:=Nat->List UInt8 × Nat
def eT:Sep:=fun i=>(if i=0 then [] else [44,32],0)
def ifS:Sep:=fun i=>(if i=0 then [105,102,32] else if i=1 then [32,116,104,101,110,32] else [32,101,108,115,101,32],0)
def quS (n:Int)(nm:List UInt8):Sep:=fun i=>(if i=0 then fV n++[32]++nm++[32,105,110,32] else [58,32],0)
def opS (k:Int):Sep:=fun i=>match dS k with|some x=>if i=0 then ([],x.2.2.2.1) else ([32]++x.1++[32],x.2.2.2.2)|none=>([],0)
def rE (k n:Int)(nm:List UInt8)(K:Sep->St->St)(s:St):St :=
 if k=1 then s.lay (Go.Lib.itoa n)
 else if k=2 then s.lay (Go.Lib.formatBool (n==1))
 else if k=3 then (s.lay [64]).lay (Go.Lib.itoa n)
 else if k=4\/k=23 then s.lay nm
 else if k=22 then s.lay [118,101,114,116,105,99,101,115]
 else K (opS k) s
def j9 (x y:List UInt8)(K:Sep->St->St)(s:St):St:=((K eT (s.ent.lay x)).lay y).lea
def kw (k n:Int)(nm:List UInt8)(K:Sep->St->St)(s:St):St :=
 if k=7 then (K (fun _=>([110,111,116,32],3)) s.ent).lea
 else if k=6 then (K (fun _=>([45],7)) s.ent).lea
 else if k=19 then (K ifS s.ent).lea
 else if k=21 then ((K (quS n nm) s.ent.qent).qlea).lea
 else if k=20 then j9 [40] [41] K (s.lay (gm n))
 else if k=24 then j9 [40] [41] K (s.lay [97,114,111,117,110,100])
 else if k=25 then j9 [123] [125] K s
 else rE k n nm K s
def wE (k n:Int)(nm:List UInt8)(asked:Nat)(K:Sep->St->St)(s:St):St :=
 if dd k<asked then ((kw k n nm K (s.ent.lay [40])).lay [41]).lea else kw k n nm K s
def wFs:Fs->Sep->Nat->St->St
 | ⟨none⟩,_,_,s=>s
 | ⟨some ⟨k,n,nm,a,ks,r⟩⟩,f,i,s=>wFs r f (i+1) (wE k n nm (f i).2 (fun g s=>wFs ks g 0 s) (s.lay (f i).1))
def wEx (e:Ex)(asked:Nat)(s:St):St:=wE e.k e.n e.nm asked (fun g s=>wFs e.kids g 0 s) s
theorem vL (n:Int):(fV n).length<=5:=by
 unfold fV;split
 ·rename_i x h
  have hm:=List.mem_of_find?_eq_some h
  have:∀ x ∈ dv,x.1.length<=5:=by decide
  exact this x hm
 ·simp
theorem uW (n:Int):(gm n).length<=10:=by
 unfold gm;split
 ·rename_i x h
  have hm:=List.mem_of_find?_eq_some h
  have:∀ x ∈ dG,x.1.length<=10:=by decide
  exact this x hm
 ·simp
abbrev L0 (o:Nat->Nat):Nat->Prop:=fun b=>o b=0
theorem Sl.stp {w w':World}{o o':Nat->Nat}{f:Fs}{ao:Option Addr}(h:Sl w (L0 o) f ao)(s:aa I12 w o w' o'):Sl w' (L0 o') f ao :=
 h.mono (fun i hp hl=>s.block i hl (fun hi=>by rcases hi with hi|hi<;>(have hp:o i=0:=hp;omega))) s.size (fun i hp hl=>(s.lab i hl).trans hp)
theorem Blk.stp {w w':World}{o o':Nat->Nat}{b:Nat}{ob:Obj}(h:Blk w o 0 b ob)(s:aa I12 w o w' o'):Blk w' o' 0 b ob:=h.step s (by simp[I12])
theorem aa.ofB {I:Nat->Prop}{w w':World}(o:Nat->Nat)(b:Below w.heap.size w w'):aa I w o w' o:=⟨b.os,b.tape,b.output,b.size,fun _ _=>rfl,fun k hk _=>b.block k hk⟩
theorem aO (I:Nat->Prop)(w:World)(o:Nat->Nat)(ob:Obj):aa I w o (w.alloc ob) (ae w o 0):=((aa.refl I w o).labelled 0).alloc ob
theorem fC (w:World)(o:Nat->Nat)(cs:Array Value)(t:TypeId):Blk (w.alloc (.cells cs t)) (ae w o 0) 0 w.heap.size (.cells cs t (0,0)):=⟨heap_alloc_new w _,ax (Nat.le_refl _)⟩
def okP (k n:Int)(nm:List UInt8)(m:Nat):Prop:=bS k n=true/\cr k nm=true/\aR k n m=true/\nm.length<=12/\-9223372036854775808<=n/\n<=9223372036854775807
def Fs.okA:Fs->Prop
 | ⟨none⟩=>True
 | ⟨some ⟨k,n,nm,_,ks,r⟩⟩=>okP k n nm ks.len/\ks.okA/\r.okA
def Ex.okA (e:Ex):Prop:=okP e.k e.n e.nm e.kids.len/\e.kids.okA
def Fs.ex (x:Ex)(r:Fs):Fs:=.cons x.k x.n x.nm x.a x.kids r
theorem lu {x:Ex}{r:Fs}(h:(Fs.ex x r).okA):x.okA/\r.okA:=⟨⟨h.1,h.2.1⟩,h.2.2⟩
theorem oe (x:Ex)(r:Fs):(Fs.ex x r).size=x.kids.size+r.size+1:=rfl
theorem Cz (x:Ex)(r:Fs):(Fs.ex x r).len=r.len+1:=rfl
theorem sr:∀ {f:Fs},f.len=1->∃x,f=Fs.ex x .nil
 | ⟨none⟩,h=>by cases h
 | ⟨some ⟨k,n,nm,a,ks,⟨none⟩⟩⟩,h=>⟨⟨k,n,nm,a,ks⟩,rfl⟩
 | ⟨some ⟨_,_,_,_,_,(⟨some ⟨_,_,_,_,_,_⟩⟩)⟩⟩,h=>by simp[Fs.len] at h
theorem fQ:∀ {f:Fs},f.len=2->∃x y,f=Fs.ex x (Fs.ex y .nil)
 | ⟨none⟩,h=>by cases h
 | ⟨some ⟨k,n,nm,a,ks,r⟩⟩,h=>by
  obtain⟨y,rfl⟩:=sr (f:=r) (by simp only[Fs.len] at h;omega);exact⟨⟨k,n,nm,a,ks⟩,y,rfl⟩
theorem zL:∀ {f:Fs},f.len=3->∃x y z,f=Fs.ex x (Fs.ex y (Fs.ex z .nil))
 | ⟨none⟩,h=>by cases h
 | ⟨some ⟨k,n,nm,a,ks,r⟩⟩,h=>by
  obtain⟨y,z,rfl⟩:=fQ (f:=r) (by simp only[Fs.len] at h;omega);exact⟨⟨k,n,nm,a,ks⟩,y,z,rfl⟩
theorem Sl.kidP {w:World}{P:Nat->Prop}{x r:Fs}{y:Ex}{ao:Option Addr}(h:Sl w P (x.app (Fs.ex y r)) ao)(i:Nat)(hi:x.len=i):∃b off ak ck,ao=some ⟨b,off,none⟩/\w.cell? ⟨b,off+i*5,none⟩=some (.int .i64 y.k)/\w.cell? ⟨b,off+i*5+1,none⟩=some (.int .i64 y.n)/\w.cell? ⟨b,off+i*5+2,none⟩=some (stv y.nm)/\w.cell? ⟨b,off+i*5+3,none⟩=some (.slice ak y.kids.len ck)/\w.cell? ⟨b,off+i*5+4,none⟩=some (.int .i64 y.a)/\Sl w P y.kids ak:=by
 subst hi;rcases h with h|⟨b,off,zs,rfl,hp,hlt,hc,hf⟩
 ·cases x using Fs.on with
  | nil=>cases h
  | cons k n nm a ks r=>cases h
 ·obtain⟨zx,zy,rfl,h3,h4⟩:=Fc.split hf;have hl:=h3.len;obtain⟨ak,ck,ys,rfl,h5,h6⟩:=h4;have hc':∀ j u,(.int .i64 y.k::.int .i64 y.n::stv y.nm::.slice ak y.kids.len ck::.int .i64 y.a::ys:List Value)[j]?=some u->w.cell? ⟨b,off+x.len*5+j,none⟩=some u:=fun j u hu=>by
   have:=hc (x.len*5+j) u (by rw[List.getElem?_append_right (by omega),hl,Nat.add_sub_cancel_left];exact hu)
   rw[Nat.add_assoc];exact this
  exact⟨b,off,ak,ck,rfl,hc' 0 _ rfl,hc' 1 _ rfl,hc' 2 _ rfl,hc' 3 _ rfl,hc' 4 _ rfl,h5⟩
def ez:List (List UInt8)->List UInt8->Nat->Int->Int
 | [],_,_,d=>d
 | b::r,nm,i,d=>ez r nm (i+1) (if b=nm then (i:Int) else d)
def iu (pk:Int)(pn:List UInt8)(i:Nat)(bd:List (List UInt8)):List (List UInt8):=if pk=21/\i=1 then bd++[pn] else bd
def ofF:Fs->Int->List UInt8->Nat->List (List UInt8)->Fs
 | ⟨none⟩,_,_,_,_=>.nil
 | ⟨some ⟨k,n,nm,a,ks,r⟩⟩,pk,pn,i,bd =>
  if k=4 then .cons 5 (ez (iu pk pn i bd) nm 0 n) [] 0 .nil (ofF r pk pn (i+1) bd)
  else .cons k n (if k=23 then nm else []) 0 (ofF ks k nm 0 (iu pk pn i bd)) (ofF r pk pn (i+1) bd)
def ofE (e:Ex)(bd:List (List UInt8)):Ex :=
 if e.k=4 then ⟨5,ez bd e.nm 0 e.n,[],0,.nil⟩ else ⟨e.k,e.n,if e.k=23 then e.nm else [],0,ofF e.kids e.k e.nm 0 bd⟩
theorem tb (k n:Int)(nm:List UInt8)(a:Int)(ks r:Fs)(pk:Int)(pn:List UInt8)(i:Nat)(bd:List (List UInt8)) :
  ofF (.cons k n nm a ks r) pk pn i bd=Fs.ex (ofE ⟨k,n,nm,a,ks⟩ (iu pk pn i bd)) (ofF r pk pn (i+1) bd):=by
 conv=>lhs;unfold ofF
 unfold ofE;simp only;split<;>rfl
theorem od:∀ (f:Fs) (pk:Int) (pn:List UInt8) (i:Nat) (bd:List (List UInt8)),(ofF f pk pn i bd).len=f.len
 | ⟨none⟩,pk,pn,i,bd=>rfl
 | ⟨some ⟨k,n,nm,a,ks,r⟩⟩,pk,pn,i,bd=>by
  have h:=tb k n nm a ks r pk pn i bd;show (ofF (.cons k n nm a ks r) pk pn i bd).len=r.len+1;rw[h];show (ofF r pk pn (i+1) bd).len+1=_;rw[od r pk pn (i+1) bd]
theorem jX:∀ (f:Fs) (pk:Int) (pn:List UInt8) (i:Nat) (bd:List (List UInt8)),f.short->(ofF f pk pn i bd).short
 | ⟨none⟩,pk,pn,i,bd,h=>trivial
 | ⟨some ⟨k,n,nm,a,ks,r⟩⟩,pk,pn,i,bd,h=>by
  have h2:=jX r pk pn (i+1) bd h.2.2.2;have h1:=jX ks k nm 0 (iu pk pn i bd) h.2.2.1;unfold ofF;split
  ·exact⟨by simp,by show 0<=_;omega,trivial,h2⟩
  ·refine⟨?_,by rw[od];exact h.2.1,h1,h2⟩;split
   ·exact h.1
   ·simp
theorem zZ (e:Ex)(bd:List (List UInt8)):(ofE e bd).kids.len<=e.kids.len:=by
 unfold ofE;split
 ·show 0<=_;omega
 ·rw[od];exact Nat.le_refl _
theorem vr (e:Ex)(bd:List (List UInt8))(h:e.kids.short):(ofE e bd).kids.short:=by
 unfold ofE;split
 ·trivial
 ·exact jX _ _ _ _ _ h
theorem CV (e:Ex)(bd:List (List UInt8))(h:e.nm.length<=maxLen):(ofE e bd).nm.length<=maxLen:=by
 unfold ofE;split
 ·simp
 ·simp only;split
  ·exact h
  ·simp
theorem Sl.kidQ {P:Nat->Prop}{w:World}{x r:Fs}{k n:Int}{nm:List UInt8}{a:Int}{ks:Fs}{ao:Option Addr}(h:Sl w P (x.app (.cons k n nm a ks r)) ao):∃b off ak ck,ao=some ⟨b,off,none⟩/\b<w.heap.size/\P b/\w.cell? ⟨b,off+x.len*5,none⟩=some (.int .i64 k)/\w.cell? ⟨b,off+x.len*5+1,none⟩=some (.int .i64 n)/\w.cell? ⟨b,off+x.len*5+2,none⟩=some (stv nm)/\w.cell? ⟨b,off+x.len*5+3,none⟩=some (.slice ak ks.len ck)/\w.cell? ⟨b,off+x.len*5+4,none⟩=some (.int .i64 a)/\Sl w P ks ak:=by
 rcases h with h|⟨b,off,zs,rfl,hp,hlt,hc,hf⟩
 ·cases x using Fs.on with
  | nil=>cases h
  | cons k n nm a ks r=>cases h
 ·obtain⟨zx,zy,rfl,h3,h4⟩:=Fc.split hf;have hl:=h3.len;obtain⟨ak,ck,ys,rfl,h5,h6⟩:=h4;have hc':∀ j u,(.int .i64 k::.int .i64 n::stv nm::.slice ak ks.len ck::.int .i64 a::ys:List Value)[j]?=some u->w.cell? ⟨b,off+x.len*5+j,none⟩=some u:=fun j u hu=>by
   have:=hc (x.len*5+j) u (by rw[List.getElem?_append_right (by omega),hl,Nat.add_sub_cancel_left];exact hu)
   rw[Nat.add_assoc];exact this
  exact⟨b,off,ak,ck,rfl,hlt,hp,hc' 0 _ rfl,hc' 1 _ rfl,hc' 2 _ rfl,hc' 3 _ rfl,hc' 4 _ rfl,h5⟩
abbrev SlA (w:World)(f:Fs)(ao:Option Addr):Prop:=Sl w (fun _=>True) f ao
theorem uC {x:Tk}{X:Res}{e:Nat × Nat}(h:iU x X=.inl e):X=.inl e:=by
 cases X with
 | inl e'=>exact h
 | inr l=>cases h
theorem uw {x:Tk}{X:Res}{ts:List Tk}(h:iU x X=.inr ts):∃us,X=.inr us/\ts=x::us:=by
 cases X with
 | inl e=>cases h
 | inr l =>
  refine⟨l,rfl,?_⟩;injection h with h
  exact h.symm
theorem jc {k:Nat}{t:List UInt8}{a e q:Nat}{X:Res}(h:de k t a X=.inl (e,q)):(k≠0/\fO k t a=.inl e/\q=a)\/(X=.inl (e,q)/\(k=0\/∃x,fO k t a=.inr x)):=by
 unfold de at h;by_cases hk:k=0
 ·rw[if_pos hk] at h;exact .inr ⟨h,.inl hk⟩
 ·rw[if_neg hk] at h;cases hp:fO k t a with
  | inl e' =>
   rw[hp] at h;simp only at h;injection h with h
   injection h with h1 h2
   exact .inl ⟨hk,by rw[h1],h2.symm⟩
  | inr x =>
   rw[hp] at h;exact .inr ⟨uC h,.inr ⟨x,rfl⟩⟩
theorem cE {k:Nat}{t:List UInt8}{a:Nat}{X:Res}{ts:List Tk}(h:de k t a X=.inr ts):(k=0/\X=.inr ts)\/(k≠0/\∃x us,fO k t a=.inr x/\X=.inr us/\ts=x::us):=by
 unfold de at h;by_cases hk:k=0
 ·rw[if_pos hk] at h;exact .inl ⟨hk,h⟩
 ·rw[if_neg hk] at h;cases hp:fO k t a with
  | inl e'=>rw[hp] at h;cases h
  | inr x =>
   rw[hp] at h;obtain⟨us,h1,h2⟩:=uw h;exact .inr ⟨hk,x,us,rfl,h1,h2⟩
theorem uU (k:Nat)(t:List UInt8)(a p:Nat)(l:List UInt8)(e q:Nat)(h:bN k t a p l=.inl (e,q)):(k≠0/\q=a)\/(p<=q/\q<p+l.length):=by
 induction l generalizing k t a p with
 | nil =>
  rcases jc h with ⟨h1,_,h2⟩|⟨h1,_⟩
  ·exact .inl ⟨h1,h2⟩
  ·cases h1
 | cons c r ih =>
  simp only[List.length_cons];cases ht:tks k t c.toNat
  ·rw[dk ht] at h;rcases jc h with ⟨h1,_,h2⟩|⟨h1,_⟩
   ·exact .inl ⟨h1,h2⟩
   ·rcases ih _ _ _ _ h1 with ⟨_,h2⟩|⟨h2,h3⟩
    ·exact .inr ⟨by omega,by omega⟩
    ·exact .inr ⟨by omega,by omega⟩
  ·rw[cY ht] at h;rcases ih _ _ _ _ h with h2|⟨h2,h3⟩
   ·exact .inl h2
   ·exact .inr ⟨by omega,by omega⟩
theorem wP (k:Nat)(t:List UInt8)(a p:Nat)(l:List UInt8)(e q:Nat)(h:bN k t a p l=.inl (e,q)):e=110\/e=111\/e=112:=by
 induction l generalizing k t a p with
 | nil =>
  rcases jc h with ⟨h1,h2,_⟩|⟨h1,_⟩
  ·exact qu h2
  ·cases h1
 | cons c r ih =>
  cases ht:tks k t c.toNat
  ·rw[dk ht] at h;rcases jc h with ⟨h1,h2,_⟩|⟨h1,_⟩
   ·exact qu h2
   ·exact ih _ _ _ _ h1
  ·rw[cY ht] at h;exact ih _ _ _ _ h
theorem rj {l:List UInt8}(h:l.length<=2000):ey l=mH l:=by
 unfold ey;rw[if_neg (by omega)]
theorem yP {l:List UInt8}{e q:Nat}(h:ey l=.inl (e,q))(he:e≠113):l.length<=2000/\mH l=.inl (e,q)/\q<l.length/\(e=110\/e=111\/e=112):=by
 unfold ey at h;split at h
 ·injection h with h
  injection h with h1 h2
  omega
 ·refine⟨by omega,h,?_,wP _ _ _ _ _ _ _ h⟩;rcases uU _ _ _ _ _ _ _ h with ⟨h1,_⟩|⟨_,h1⟩
  ·exact absurd rfl h1
  ·omega
theorem qF {k:Nat}{t:List UInt8}{a:Nat}{x:Tk}(h:fO k t a=.inr x):x.a=a/\∀ a',fO k t a'=.inr ⟨x.k,x.n,x.t,a'⟩:=by
 unfold fO at h ⊢;split at h
 ·unfold fs at h ⊢;split at h
  ·rename_i h1
   injection h with h
   subst h;exact⟨rfl,fun a'=>by rw[if_pos h1]⟩
  ·rename_i h1
   split at h
   ·rename_i h2
    injection h with h
    subst h;exact⟨rfl,fun a'=>by rw[if_neg h1,if_pos h2]⟩
   ·cases h
 ·unfold gq at h ⊢;cases ha:Lib.atoiAll t with
  | ok v =>
   rw[ha] at h;simp only at h ⊢;split at h
   ·cases h
   ·rename_i h1
    injection h with h
    subst h;exact⟨rfl,fun a'=>by rw[if_neg h1]⟩
  | _=>rw[ha] at h;cases h
 ·unfold mM at h ⊢;split at h
  ·cases h
  ·rename_i h1
   injection h with h
   subst h;exact⟨rfl,fun a'=>by rw[if_neg h1]⟩
 ·cases h
theorem ss (k:Nat)(t:List UInt8)(a p:Nat)(l:List UInt8)(ts:List Tk)(h:bN k t a p l=.inr ts)(ha:a<=p):∀ x,x ∈ ts->x.a<=p+l.length:=by
 induction l generalizing k t a p ts with
 | nil =>
  intro x hx;rcases cE h with ⟨rfl,h1⟩|⟨hk,y,us,hp,h1,h2⟩
  ·injection h1 with h1
   subst h1;simp at hx;subst hx;exact Nat.le_refl _
  ·injection h1 with h1
   subst h1 h2;simp at hx;rcases hx with rfl|rfl
   ·have:=(qF hp).1
    simp;omega
   ·exact Nat.le_refl _
 | cons c r ih =>
  have e1:p+(c::r).length=p+1+r.length:=by simp;omega
  rw[e1];cases ht:tks k t c.toNat
  ·rw[dk ht] at h;rcases cE h with ⟨rfl,h1⟩|⟨hk,y,us,hp,h1,h2⟩
   ·exact ih _ _ _ _ _ h1 (by omega)
   ·subst h2;intro x hx;rcases List.mem_cons.1 hx with rfl|hx
    ·have:=(qF hp).1
     omega
    ·exact ih _ _ _ _ _ h1 (by omega) x hx
  ·rw[cY ht] at h;exact ih _ _ _ _ _ h (by omega)
theorem vQ (k:Nat)(t:List UInt8)(a p:Nat)(l:List UInt8)(ts:List Tk)(h:bN k t a p l=.inr ts):ts.length<=l.length+2/\0<ts.length/\(k=0->ts.length<=l.length+1):=by
 induction l generalizing k t a p ts with
 | nil =>
  rcases cE h with ⟨rfl,h1⟩|⟨hk,y,us,hp,h1,h2⟩
  ·injection h1 with h1
   subst h1;simp
  ·injection h1 with h1
   subst h1 h2;simp[hk]
 | cons c r ih =>
  simp only[List.length_cons];cases ht:tks k t c.toNat
  ·rw[dk ht] at h;rcases cE h with ⟨rfl,h1⟩|⟨hk,y,us,hp,h1,h2⟩
   ·have:=ih _ _ _ _ _ h1
    exact⟨by omega,by omega,fun _=>by omega⟩
   ·subst h2
    have:=ih _ _ _ _ _ h1
    simp only[List.length_cons];exact⟨by omega,by omega,fun h=>absurd h hk⟩
  ·rw[cY ht] at h
   have:=ih _ _ _ _ _ h
   exact⟨by omega,by omega,fun h=>by have:=this.2.2 h;omega⟩
theorem jt {l:List UInt8}{ts:List Tk}(h:ey l=.inr ts):l.length<=2000/\mH l=.inr ts/\ts.length<=2001/\ts.length<=l.length+1/\0<ts.length/\(∀ x,x ∈ ts->x.a<=l.length):=by
 unfold ey at h;split at h
 ·cases h
 ·have h1:=vQ _ _ _ _ _ _ h;have h2:=ss _ _ _ _ _ _ h (Nat.le_refl _);have h3:=h1.2.2 rfl;exact⟨by omega,h,by omega,h3,h1.2.1,fun x hx=>by have:=h2 x hx;omega⟩
theorem oW {l:List UInt8}{e q:Nat}(h:ey l=.inl (e,q)):e≠0:=by
 by_cases he:e=113
 ·omega
 ·have:=(yP h he).2.2.2
  omega
end Go.Proofs.YtbjdkekhnajafaaGreatDoor

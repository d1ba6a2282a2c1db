import Derived.Lib.AtoiAll
import Derived.WalkKit
import Derived.ProofKit
import Derived.OpenShut
import Derived.Deep.QuietTactic
import Derived.BigQuiet
import Derived.Test.YtbjdkekhnajafaaGreatDoorRows
import Derived.Shelf.Strconv.ErrVarAll
import Derived.Ground.NamesProg
import Derived.Lib.OthersKept
import Derived.Deep.MidRow
import Derived.Deep.CutBlock
import Derived.Deep.DeepCutAuto
import Derived.Laws.ResultCell
import Derived.WalkLawsBesides
import Derived.Deep.RegionHeld3
import Derived.Lib.AppendStr
import Derived.RegionTactic
import Derived.ChangeAlike
import Derived.BigRegion
import Derived.Shelf.Strconv.Itoa3
import Derived.Lib.ItoaLen
import Derived.Lib.SmallJoins
import Derived.Lib.Small
import Derived.Lib.AppendIntMem
import Derived.Deep.RegionHeld
import Derived.Laws.BytesArg
import Derived.Lib.SliceRun
import Derived.Deep.RegionLaw
set_option maxRecDepth 100000
set_option maxHeartbeats 8000000
namespace Go.Proofs.YtbjdkekhnajafaaGreatDoor
set_option linter.unusedVariables false
def blk (r:Nat):Bool:=r==32||r==9||r==10||r==13
def sml (r:Nat):Bool:=decide (97<=r)&&decide (r<=122)
def ltr (r:Nat):Bool:=sml r||(decide (65<=r)&&decide (r<=90))
def dig (r:Nat):Bool:=decide (48<=r)&&decide (r<=57)
def sgn (r:Nat):Bool:=r==40||r==41||r==123||r==125||r==44||r==58||r==64||r==43||r==45||r==42||r==47||r==37||r==61||r==33||r==60
def cls (r:Nat):Nat:=if blk r then 0 else if ltr r then 1 else if dig r then 2 else if sgn r then 3 else 4
def tks (k:Nat)(t:List UInt8)(r:Nat):Bool :=
 match k with
 | 0=>blk r
 | 1=>ltr r||dig r||r==95
 | 2=>dig r
 | 3=>r==61&&(t==[33]||t==[60])
 | _=>false
def iH:List (List UInt8) :=
 [[97,108,108],[97,110,100],[97,114,111,117,110,100],[98,108,111,99,107],[98,111,116,116,108,101,110,101,99,107],[99,111,110,110,101,99,116,101,100],[99,111,117,110,116],[100,101,103,114,101,101],[101,108,115,101],
  [102,97,108,115,101],[105,102],[105,110],[108,101,97,115,116],[109,97,120],[109,105,110],[109,111,115,116],[110,111,116],[111,114],
  [114,101,112],[115,105,122,101],[115,111,109,101],[115,117,109],[116,104,101,110],[116,111,116,97,108],[116,114,117,101],[118,97,108,117,101],[118,101,114,116,105,99,101,115]]
def ez (t:List UInt8):Bool:=iH.contains t
def inn (c:UInt8):Bool:=sml c.toNat||dig c.toNat||c.toNat==95
def aX (t:List UInt8):Bool :=
 match t with
 | []=>false
 | c::r=>decide(r.length<12)&&sml c.toNat&&r.all inn&&!wordB t
structure Tk where
 k:Nat
 n:Int
 t:List UInt8
 a:Nat
abbrev Res:=Sum (Nat × Nat) (List Tk)
def iU (x:Tk):Res->Res
 | .inl e=>.inl e
 | .inr l=>.inr(x::l)
def gO (t:List UInt8)(a:Nat):Sum Nat Tk :=
 match Lib.atoiAll t with
 | .ok v=>if t.head?=some 48/\t≠[48] then .inl 111 else .inr⟨1,v,[],a⟩
 | _=>.inl 111
def fs (t:List UInt8)(a:Nat):Sum Nat Tk:=if ez t then .inr ⟨3,0,t,a⟩ else if aX t then .inr ⟨2,0,t,a⟩ else .inl 112
def mR (t:List UInt8)(a:Nat):Sum Nat Tk:=if t=[33] then .inl 110 else .inr ⟨4,0,t,a⟩
def fM (k:Nat)(t:List UInt8)(a:Nat):Sum Nat Tk :=
 match k with
 | 1=>fs t a
 | 2=>gO t a
 | 3=>mR t a
 | _=>.inl 110
def de (k:Nat)(t:List UInt8)(a:Nat)(X:Res):Res :=
 if k=0 then X else match fM k t a with
  | .inl e=>.inl(e,a)
  | .inr x=>iU x X
def pL (p:Nat):Res:=.inr [⟨0,0,[],p⟩]
def bN (k:Nat)(t:List UInt8)(a p:Nat):List UInt8->Res
 | []=>de k t a(pL p)
 | c::r=>if tks k t c.toNat then bN k(t++[c]) a(p+1) r else de k t a(bN(cls c.toNat) [c] p(p+1) r)
def mH (l:List UInt8):Res:=bN 0 [] 0 0 l
def et (l:List UInt8):Res:=if 2000<l.length then .inl (113,0) else mH l
theorem vy (t:List UInt8)(a p:Nat)(l:List UInt8):bN 4 t a p l=.inl (110,a):=by
 cases l with
 | nil=>rfl
 | cons c r=>rfl
theorem qk (k:Nat)(t:List UInt8)(a p:Nat):bN k t a p []=de k t a (pL p):=rfl
theorem cY {k:Nat}{t:List UInt8}{a p:Nat}{c:UInt8}{r:List UInt8}(h:tks k t c.toNat=true):bN k t a p (c::r)=bN k (t++[c]) a (p+1) r:=by
 simp only[bN,h,if_true]
theorem di {k:Nat}{t:List UInt8}{a p:Nat}{c:UInt8}{r:List UInt8}(h:tks k t c.toNat=false):bN k t a p (c::r)=de k t a (bN (cls c.toNat) [c] p (p+1) r):=by
 simp[bN,h]
theorem iG (t t':List UInt8)(a a' p:Nat)(l:List UInt8):bN 0 t a p l=bN 0 t' a' p l:=by
 induction l generalizing t t' p with
 | nil=>rfl
 | cons c r ih =>
  by_cases h:blk c.toNat=true
  ·rw[cY(by exact h),cY(by exact h)];exact ih _ _ _
  ·have h':blk c.toNat=false:=by simpa using h
   rw[di(by exact h'),di(by exact h')];rfl
theorem mX {k:Nat}{t:List UInt8}{a p:Nat}{c:UInt8}{r:List UInt8}(h:tks k t c.toNat=false):bN k t a p (c::r)=de k t a (bN 0 [] p p (c::r)):=by
 rw[di h]
 congr 1
 by_cases hb:blk c.toNat=true
 ·rw[cY(k:=0)(by exact hb)];have hc:cls c.toNat=0:=by simp[cls,hb]
  rw[hc];exact iG _ _ _ _ _ _
 ·have h':blk c.toNat=false:=by simpa using hb
  rw[di(k:=0)(by exact h')];rfl
theorem wu (k:Nat)(t:List UInt8)(a p:Nat)(u l:List UInt8)(hk:∀ j (h:j<u.length),tks k (t++u.take j) (u[j]).toNat=true)(hl:∀ c r,l=c::r->tks k (t++u) c.toNat=false) :
  bN k t a p(u++l)=de k(t++u) a(bN 0 [](p+u.length)(p+u.length) l):=by
 induction u generalizing t p with
 | nil =>
  simp only[List.nil_append,List.append_nil,List.length_nil,Nat.add_zero] at hl ⊢;cases l with
  | nil=>rw[qk,qk];rfl
  | cons c r=>exact mX(hl c r rfl)
 | cons c r ih =>
  have h0:=hk 0(by simp);simp only[List.take_zero,List.append_nil,List.getElem_cons_zero] at h0;rw[List.cons_append,cY h0,ih(t++[c])(p+1)(fun j h=>?_)(fun c' r' e=>?_)]
  ·have e1:p+1+r.length=p+(c::r).length:=by simp;omega
   rw[e1,List.append_assoc];rfl
  ·have:=hk(j+1)(by simp;omega)
   simpa [List.append_assoc] using this
  ·have:=hl c' r' e
   simpa [List.append_assoc] using this
structure Nd (α:Type) where
 k:Int
 n:Int
 nm:List UInt8
 a:Int
 kids:α
 rest:α
structure Fs where
 v:Option(Nd Fs)
abbrev Fs.nil:Fs:=⟨none⟩
abbrev Fs.cons (k n:Int)(nm:List UInt8)(a:Int)(ks r:Fs):Fs:=⟨some ⟨k,n,nm,a,ks,r⟩⟩
theorem Fs.on {P:Fs->Prop}(f:Fs)(nil:P .nil)(cons:∀ k n nm a ks r,P (.cons k n nm a ks r)):P f:=by
 obtain⟨v⟩:=f;cases v with
 | none=>exact nil
 | some z=>obtain⟨k,n,nm,a,ks,r⟩:=z;exact cons k n nm a ks r
structure Ex where
 k:Int
 n:Int
 nm:List UInt8
 a:Int
 kids:Fs
def Fs.len:Fs->Nat
 | ⟨none⟩=>0
 | ⟨some⟨_,_,_,_,_,r⟩⟩=>r.len+1
def Fs.app:Fs->Fs->Fs
 | ⟨none⟩,y=>y
 | ⟨some⟨k,n,nm,a,ks,r⟩⟩,y=>.cons k n nm a ks(r.app y)
def one (e:Ex):Fs:=.cons e.k e.n e.nm e.a e.kids .nil
def Fs.snoc (f:Fs)(e:Ex):Fs:=f.app (one e)
theorem Fs.len_app:∀ (x y:Fs),(x.app y).len=x.len+y.len
 | ⟨none⟩,y=>by simp[Fs.app,Fs.len]
 | ⟨some⟨k,n,nm,a,ks,r⟩⟩,y=>by simp only[Fs.app,Fs.len];rw[Fs.len_app r y];omega
theorem Fs.len_snoc (x:Fs)(e:Ex):(x.snoc e).len=x.len+1:=by unfold Fs.snoc;rw[Fs.len_app];rfl
def da:Ex:=⟨0,0,[],0,.nil⟩
def Fs.head:Fs->Ex
 | ⟨none⟩=>da
 | ⟨some⟨k,n,nm,a,ks,_⟩⟩=>⟨k,n,nm,a,ks⟩
structure Rs (α:Type) where
 v:Option(Sum(Nat × Nat)(α × List Tk))
abbrev Rs.out {α:Type}:Rs α:=⟨none⟩
abbrev Rs.bad {α:Type}(e a:Nat):Rs α:=⟨some (.inl (e,a))⟩
abbrev Rs.ok {α:Type}(x:α)(t:List Tk):Rs α:=⟨some (.inr (x,t))⟩
theorem Rs.on {α:Type}{P:Rs α->Prop}(R:Rs α)(out:P .out)(bad:∀ e a,P (.bad e a))(ok:∀ x t,P (.ok x t)):P R:=by
 obtain⟨v⟩:=R
 match v with
 | none=>exact out
 | some(.inl(e,a))=>exact bad e a
 | some(.inr(x,t))=>exact ok x t
theorem Rs.ok_inj {α:Type}{x y:α}{t u:List Tk}(h:Rs.ok x t=Rs.ok y u):x=y/\t=u:=by simpa using h
def Rs.bind {α β:Type}:Rs α->(α->List Tk->Rs β)->Rs β
 | ⟨none⟩,_=>.out
 | ⟨some(.inl(e,a))⟩,_=>.bad e a
 | ⟨some(.inr(x,ts))⟩,f=>f x ts
abbrev Rdr:=Nat->Nat->Nat->List Tk->Rs Ex
def aW (s:List UInt8):List Tk->Rs Nat
 | []=>.out
 | x::r=>if x.t=s then .ok x.a r else .bad 120 x.a
def dO (k:Nat):List Tk->Rs Tk
 | []=>.out
 | x::r=>if x.k=k then .ok x r else .bad 120 x.a
def aG (s:List UInt8)(o:Nat):List Tk->Rs Nat
 | []=>.out
 | x::r=>if x.t=s then(if o=64 then .bad 121 x.a else .ok x.a r) else .bad 120 x.a
def eB:List (List UInt8 × Nat × Nat × Nat × Nat) :=
 [([111,114],18,1,1,2),([97,110,100],17,2,2,3),([61],13,4,5,5),([33,61],14,4,5,5),([60],15,4,5,5),([60,61],16,4,5,5),([43],8,5,5,6),([45],9,5,5,6),([42],10,6,6,7),([47],11,6,6,7),([37],12,6,6,7)]
def vv (t:List UInt8)(row:Nat):Option (List UInt8 × Nat × Nat × Nat × Nat):=eB.find? fun x=>x.1==t&&x.2.2.1==row
def dy:List (List UInt8 × Nat × Nat) :=
 [([99,111,110,110,101,99,116,101,100],1,2),([98,108,111,99,107],2,2),([98,111,116,116,108,101,110,101,99,107],3,2),([115,105,122,101],4,1),([116,111,116,97,108],5,1),([108,101,97,115,116],6,1),([109,111,115,116],7,1),([118,97,108,117,101],8,1),([100,101,103,114,101,101],9,1),([114,101,112],10,1)]
def lp (t:List UInt8):Option (List UInt8 × Nat × Nat):=dy.find? fun x=>x.1==t
def dx:List (List UInt8 × Nat) :=
 [([97,108,108],1),([115,111,109,101],2),([99,111,117,110,116],3),([115,117,109],4),([109,105,110],5),([109,97,120],6)]
def jC (t:List UInt8):Option (List UInt8 × Nat):=dx.find? fun x=>x.1==t
def cU (rec:Rdr):Nat->Nat->Nat->Nat->Ex->List Tk->Rs Ex
 | 0,_,_,_,_,_=>.out
 | m+1,row,o,q,left,ts =>
  match ts with
  | []=>.out
  | x::r =>
   match vv x.t row with
   | none=>.ok left ts
   | some(_,k,_,l,rt)=>(rec rt o q r).bind fun right t2=>if row<l then .ok⟨(k:Nat),0,[],x.a,(one left).snoc right⟩ t2 else cU rec m row o q⟨(k:Nat),0,[],x.a,(one left).snoc right⟩ t2
def dc (rec:Rdr)(s:List UInt8)(k:Int)(row o q:Nat)(ts:List Tk):Rs Ex :=
 match ts with
 | []=>.out
 | x::r=>if x.t=s then(if o=64 then .bad 121 x.a else(rec row(o+1) q r).bind fun kid t2=>.ok⟨k,0,[],x.a,one kid⟩ t2) else rec(row+1) o q ts
def fu (rec:Rdr):Nat->Nat->Nat->Fs->List Tk->Rs Fs
 | 0,_,_,acc,ts=>.ok acc ts
 | j+1,o,q,acc,ts=>(aW [44] ts).bind fun _ t1=>(rec 1 o q t1).bind fun e t2=>fu rec j o q(acc.snoc e) t2
def eH (rec:Rdr)(many o q:Nat)(ts:List Tk):Rs Fs :=
 (aG [40] o ts).bind fun _ t1=>(rec 1(o+1) q t1).bind fun e t2=>(fu rec(many-1)(o+1) q(one e) t2).bind fun ks t3=>(aW [41] t3).bind fun _ t4=>.ok ks t4
def dw (rec:Rdr)(o q:Nat)(ts:List Tk):Rs Ex :=
 (aG [105,102] o ts).bind fun a t1=>(rec 1(o+1) q t1).bind fun x t2=>(aW [116,104,101,110] t2).bind fun _ t3=>(rec 1(o+1) q t3).bind fun y t4=>(aW [101,108,115,101] t4).bind fun _ t5=>(rec 1(o+1) q t5).bind fun z t6=>.ok⟨19,0,[],a,((one x).snoc y).snoc z⟩ t6
def fP (rec:Rdr):Nat->Nat->Nat->Fs->List Tk->Rs Fs
 | 0,_,_,_,_=>.out
 | m+1,o,q,acc,ts =>
  match ts with
  | []=>.out
  | x::r=>if x.t=[44] then(rec 1 o q r).bind fun e t2=>fP rec m o q(acc.snoc e) t2 else .ok acc ts
def jQ (rec:Rdr)(m o q:Nat)(ts:List Tk):Rs Fs :=
 match ts with
 | []=>.out
 | x::r=>if x.t=[125] then .ok .nil ts else(rec 1 o q ts).bind fun e t1=>fP rec m o q(one e) t1
def eW (rec:Rdr)(m o q:Nat)(ts:List Tk):Rs Ex :=
 match ts with
 | []=>.out
 | x::r =>
  if x.k=2 then .ok⟨23,0,x.t,x.a,.nil⟩ r
  else if x.t=[118,101,114,116,105,99,101,115] then .ok⟨22,0,[],x.a,.nil⟩ r
  else if x.t=[97,114,111,117,110,100] then(eH rec 1 o q r).bind fun ks t=>.ok⟨24,0,[],x.a,ks⟩ t
  else(aG [123] o ts).bind fun a t1=>(jQ rec m(o+1) q t1).bind fun ks t2=>(aW [125] t2).bind fun _ t3=>.ok⟨25,0,[],a,ks⟩ t3
def dq (rec:Rdr)(m:Nat)(s:List UInt8)(n o q:Nat)(ts:List Tk):Rs Ex :=
 match ts with
 | []=>.out
 | x::r =>
  if q=4 then .bad 121 x.a
  else(aG s o ts).bind fun a t1=>(dO 2 t1).bind fun y t2=>(aW [105,110] t2).bind fun _ t3=>(eW rec m(o+1)(q+1) t3).bind fun e t4=>(aW [58] t4).bind fun _ t5=>(rec 1(o+1)(q+1) t5).bind fun b t6=>.ok⟨21,(n:Nat),y.t,a,(one e).snoc b⟩ t6
def cA (rec:Rdr)(m o q:Nat)(ts:List Tk):Rs Ex :=
 match ts with
 | []=>.out
 | x::r =>
  if x.k=1 then .ok⟨1,x.n,[],x.a,.nil⟩ r
  else if x.k=2 then .ok⟨4,0,x.t,x.a,.nil⟩ r
  else if x.t=[102,97,108,115,101] then .ok⟨2,0,[],x.a,.nil⟩ r
  else if x.t=[116,114,117,101] then .ok⟨2,1,[],x.a,.nil⟩ r
  else if x.t=[64] then(dO 1 r).bind fun y t1=>.ok⟨3,y.n,[],x.a,.nil⟩ t1
  else if x.t=[40] then(eH rec 1 o q ts).bind fun ks t1=>.ok ks.head t1
  else if x.t=[105,102] then dw rec o q ts
  else match lp x.t with
   | some(_,n,many)=>(eH rec many o q r).bind fun ks t1=>.ok⟨20,(n:Nat),[],x.a,ks⟩ t1
   | none =>
    match jC x.t with
    | some(_,n)=>dq rec m x.t n o q ts
    | none=>.bad 120 x.a
def cO:Nat->Rdr
 | 0,_,_,_,_=>.out
 | n+1,row,o,q,ts =>
  if row=3 then dc(cO n) [110,111,116] 7 3 o q ts
  else if row=7 then dc(cO n) [45] 6 7 o q ts
  else if row=8 then cA(cO n) n o q ts
  else(cO n(row+1) o q ts).bind fun l t=>cU(cO n) n row o q l t
def fd (n:Nat)(ts:List Tk):Rs Ex :=
 (cO n 1 0 0 ts).bind fun e t =>
  match t with
  | []=>.out
  | x::_=>if x.k=0 then .ok e t else .bad 120 x.a
open Go.ChangeShapes Go.WideShapes Go.ChangeAt Go.RowKit
structure aa (I:Nat->Prop)(w:World)(o:Nat->Nat)(w':World)(o':Nat->Nat):Prop where
 os:w'.os=w.os
 tape:w'.tape=w.tape
 output:w'.output=w.output
 size:w.heap.size<=w'.heap.size
 lab:∀ k,k<w.heap.size->o' k=o k
 block:∀ k,k<w.heap.size->¬I(o k)->w'.heap[k]?=w.heap[k]?
theorem aa.refl (I:Nat->Prop)(w:World)(o:Nat->Nat):aa I w o w o:=⟨rfl,rfl,rfl,Nat.le_refl _,fun _ _=>rfl,fun _ _ _=>rfl⟩
theorem aa.trans {I:Nat->Prop}{a b c:World}{o o' o'':Nat->Nat}(h:aa I a o b o')(k:aa I b o' c o''):aa I a o c o'' :=
 ⟨k.os.trans h.os,k.tape.trans h.tape,k.output.trans h.output,Nat.le_trans h.size k.size,fun i hi=>(k.lab i(Nat.lt_of_lt_of_le hi h.size)).trans(h.lab i hi),
  fun i hi hn=>(k.block i(Nat.lt_of_lt_of_le hi h.size)(by rw[h.lab i hi];exact hn)).trans(h.block i hi hn)⟩
theorem aa.mono {I J:Nat->Prop}{a b:World}{o o':Nat->Nat}(h:aa I a o b o')(hij:∀ i,I i->J i):aa J a o b o' :=
 ⟨h.os,h.tape,h.output,h.size,h.lab,fun k hk hn=>h.block k hk(fun x=>hn(hij _ x))⟩
theorem aa.alloc {I:Nat->Prop}{a w:World}{o o':Nat->Nat}(h:aa I a o w o')(ob:Obj):aa I a o (w.alloc ob) o' :=
 h.trans⟨rfl,rfl,rfl,by simp,fun _ _=>rfl,fun k hk _=>Below.heap_alloc w ob k hk⟩
theorem aa.drewN {I:Nat->Prop}{a w:World}{o o':Nat->Nat}(h:aa I a o w o')(n:Nat):aa I a o (w.drewN n) o' :=
 ⟨h.os,h.tape,h.output,h.size,h.lab,h.block⟩
theorem aa.drew {I:Nat->Prop}{a w:World}{o o':Nat->Nat}(h:aa I a o w o'):aa I a o w.drew o' :=
 ⟨h.os,h.tape,h.output,h.size,h.lab,h.block⟩
theorem aa.setCell {I:Nat->Prop}{a w:World}{o o':Nat->Nat}(h:aa I a o w o')(p:Addr)(u:Value)(hp:I (o' p.block)):aa I a o (w.setCell p u) o' :=
 h.trans⟨rfl,rfl,rfl,by simp,fun _ _=>rfl,fun k hk hn=>heap_setCell_other w p k u(fun e=>hn(by rw[e];exact hp))⟩
def ae (w:World)(o:Nat->Nat)(i:Nat):Nat->Nat:=fun k=>if k<w.heap.size then o k else i
theorem aC {w:World}{o:Nat->Nat}{i k:Nat}(h:k<w.heap.size):ae w o i k=o k:=by simp[ae,h]
theorem ax {w:World}{o:Nat->Nat}{i k:Nat}(h:w.heap.size<=k):ae w o i k=i:=by simp[ae,Nat.not_lt.2 h]
theorem aa.labelled {I:Nat->Prop}{a w:World}{o o':Nat->Nat}(h:aa I a o w o')(i:Nat):aa I a o w (ae w o' i) :=
 h.trans⟨rfl,rfl,rfl,Nat.le_refl _,fun k hk=>aC hk,fun _ _ _=>rfl⟩
def Row (w:World)(o:Nat->Nat)(i:Nat)(e:TypeId)(size:Nat)(v:Value)(n:Nat)(xs:List Value):Prop :=
 w.ownsRow 0 e size v n xs/\∀ k,v.ownBlock=some k->o k=i
def Blk (w:World)(o:Nat->Nat)(i:Nat)(b:Nat)(ob:Obj):Prop:=w.heap[b]?=some ob/\o b=i
theorem Blk.lt {w:World}{o:Nat->Nat}{i b:Nat}{ob:Obj}(h:Blk w o i b ob):b<w.heap.size:=lt_of_block h.1
theorem Blk.step {I:Nat->Prop}{w w':World}{o o':Nat->Nat}{i b:Nat}{ob:Obj}(h:Blk w o i b ob)(s:aa I w o w' o')(hi:¬I i):Blk w' o' i b ob :=
 ⟨(s.block b h.lt(by rw[h.2];exact hi)).trans h.1,(s.lab b h.lt).trans h.2⟩
theorem Row.lt {w:World}{o:Nat->Nat}{i:Nat}{e:TypeId}{size:Nat}{v:Value}{n:Nat}{xs:List Value}(h:Row w o i e size v n xs){k:Nat}(hk:v.ownBlock=some k):k<w.heap.size:=(h.1.lt k hk).2
theorem Row.step {I:Nat->Prop}{w w':World}{o o':Nat->Nat}{i:Nat}{e:TypeId}{size:Nat}{v:Value}{n:Nat}{xs:List Value}(h:Row w o i e size v n xs)(s:aa I w o w' o')(hi:¬I i):Row w' o' i e size v n xs:=by
 refine⟨⟨h.1.1,?_⟩,fun k hk=>(s.lab k(h.lt hk)).trans(h.2 k hk)⟩;rcases h.1.2 with hn|⟨g,cap,cur,rfl,hb,hgg,rest⟩
 ·exact .inl hn
 ·refine .inr⟨g,cap,cur,rfl,hb,?_,rest⟩;rw[s.block g(lt_of_block hgg)(by rw[h.2 g rfl];exact hi)];exact hgg
theorem Row.nil (w:World)(o:Nat->Nat)(i:Nat)(e:TypeId)(size:Nat):Row w o i e size (.slice none 0 0) 0 []:=⟨World.ownsRow_nil _ _ _ _,fun k hk=>by simp[Value.ownBlock] at hk⟩
theorem Row.len {w:World}{o:Nat->Nat}{i:Nat}{e:TypeId}{size:Nat}{v:Value}{n:Nat}{xs:List Value}(h:Row w o i e size v n xs):xs.length=n*size:=h.1.1
theorem Row.form {w:World}{o:Nat->Nat}{i:Nat}{e:TypeId}{size:Nat}{v:Value}{n:Nat}{xs:List Value}(h:Row w o i e size v n xs):∃ao cap,v=.slice ao n cap:=by
 rcases h.1.2 with⟨rfl,rfl⟩|⟨g,cap,cur,rfl,_⟩
 ·exact⟨_,_,rfl⟩
 ·exact⟨_,_,rfl⟩
theorem Row.pos {w:World}{o:Nat->Nat}{i:Nat}{e:TypeId}{size:Nat}{v:Value}{n:Nat}{xs:List Value}(h:Row w o i e size v n xs)(hn:0<n) :
  ∃g cap,v=.slice(some⟨g,0,none⟩) n cap/\o g=i/\n<=cap/\cap<=maxLen/\g<w.heap.size/\(∀ j,j<n*size->w.cell?⟨g,j,none⟩=xs[j]?)/\(∀ j,w.frozen?⟨g,j,none⟩=false):=by
 rcases h.1.2 with⟨rfl,rfl⟩|⟨g,cap,cur,rfl,_,hg,hc,hm,_⟩
 ·omega
 ·exact⟨g,cap,rfl,h.2 g rfl,hc,hm,lt_of_block hg,fun j hj=>h.1.cellAt j hj,fun j=>h.1.frozenAt j⟩
theorem Row.store {w:World}{o:Nat->Nat}{i:Nat}{e:TypeId}{size:Nat}{g n cap:Nat}{xs:List Value}(h:Row w o i e size (.slice (some ⟨g,0,none⟩) n cap) n xs)(j:Nat)(u:Value) :
  Row(w.setCell⟨g,j,none⟩ u) o i e size(.slice(some⟨g,0,none⟩) n cap) n(xs.set j u):=⟨(h.1.stored j u).1,h.2⟩
theorem ft {P:Program}(w:World)(t ty e:TypeId)(i:TypeInfo)(z:Value)(size bytes:Nat)(ht:P.underlying t=some (.slice e))(hi:P.info? e=some i)(hz:i.zero=some z)
  (hsize:i.size=size)(hby:i.bytes=bytes)(hzs:z.cells.size=size)(hsz:0<size)
  (v:Value)(n:Nat)(xs:List Value)(hown:w.ownsRow 0 e size v n xs)
  (a:Addr)(m c:Nat)(news:List Value)(hl:news.length=m*size)(hnews:∀ j u,news[j]?=some u->w.cell?(a.add j)=some u)(h1:∀ u ∈ news,u.oneCell'=true)
  (h63:n+m<=maxLen)(hbytes:(n+m)*bytes<=140737488355328)(hm:0<m) :
  ∃v' w',(Builtin.append_ #[t,t] ty #[v,.slice(some a) m c]).run P w=.ok v' w'/\w'.ownsRow 0 e size v'(n+m)(xs++news)/\w.grownBy w' v.ownBlock /\
   (v'.ownBlock=v.ownBlock\/∃k,v'.ownBlock=some k/\w.heap.size<=k):=by
 obtain⟨v',w',hr,ho,hg,_⟩:=run_append_own(P:=P) w 0 t ty e i z size bytes ht hi hz hsize hby hzs hsz v n xs hown a m c news hl hnews h1 h63 hbytes(Nat.zero_le _);refine⟨v',w',hr,ho,hg,?_⟩;subst hsize;subst hby;have h63':n+m<=9223372036854775807:=by simp only[maxLen] at h63;omega
 rcases hown.2 with⟨rfl,rfl⟩|⟨g,cap,cur,rfl,hbg,hgb,hnc,hcm,hcs,htake⟩
 ·have hr':=run_append_nil(P:=P) w t ty e i z ht hi hz a m c news hl hnews hm(by omega)(by have hb:=hbytes;simp only[Nat.zero_add] at hb;omega);rw[hr'] at hr;injection hr with e1 e2
  subst e1;exact .inr⟨_,rfl,Nat.le_refl _⟩
 ·by_cases hroom:n+m<=cap
  ·have hfit:n*i.size+news.length<=cur.size:=by rw[hl,hcs,<-Nat.add_mul];exact Nat.mul_le_mul_right _ hroom
   have hr':=run_append_room(P:=P) w t ty e i ht hi g n cap cur hgb a m c news hl hnews h1 hroom hfit;rw[hr'] at hr;injection hr with e1 e2
   subst e1;exact .inl rfl
  ·have holds:∀ j u,xs[j]?=some u->w.cell?((⟨g,0,none⟩:Addr).add j)=some u:=hown.cells(g:=g) rfl;have hr':=run_append_grow(P:=P) w t ty e i z ht hi hz⟨g,0,none⟩ n cap xs hown.1 holds a m c news hl hnews(by omega)(by omega)(growslice_fits(by omega) hbytes);rw[hr'] at hr;injection hr with e1 e2
   subst e1;exact .inr⟨_,rfl,Nat.le_refl _⟩
theorem aa.appended {I:Nat->Prop}{w w':World}{o:Nat->Nat}{i:Nat}{row:Option Nat}(hg:w.grownBy w' row)(hi:I i)(hr:∀ k,row=some k->o k=i):aa I w o w' (ae w o i) :=
 ⟨hg.os,hg.tape,hg.output,hg.size,fun k hk=>aC hk,fun k hk hn=>hg.block k hk(fun e=>hn(by rw[hr k e.symm];exact hi))⟩
theorem aB {P:Program}{w:World}{ops:Array Oper}{rest:List Oper}{op:Oper}{a:Act}{Q:Exit->Act->World->Prop}(hgd:op.guard=none)(s x:Operand)(t:TypeId)
  (ho:op.op=.call { callee:=.builtin .append,args:=#[s,x],argTypes:=#[t,t] })
  (e:TypeId)(i:TypeInfo)(z:Value)(size bytes:Nat)(ht:P.underlying t=some(.slice e))(hi:P.info? e=some i)(hz:i.zero=some z)
  (hsize:i.size=size)(hby:i.bytes=bytes)(hzs:z.cells.size=size)(hsz:0<size)
  (o:Nat->Nat)(lb:Nat)(v:Value)(n:Nat)(xs:List Value)(hs:a.eval s=v)(hrow:Row w o lb e size v n xs)
  (ad:Addr)(m c:Nat)(news:List Value)(hx:a.eval x=.slice(some ad) m c)(hl:news.length=m*size)(hnews:∀ j u,news[j]?=some u->w.cell?(ad.add j)=some u)(h1:∀ u ∈ news,u.oneCell'=true)
  (hm:0<m)(h63:n+m<=maxLen)(hbytes:(n+m)*bytes<=140737488355328)
  (h:∀ g cap w' o',Row w' o' lb e size(.slice(some⟨g,0,none⟩)(n+m) cap)(n+m)(xs++news)->aa(fun k=>k=lb) w o w' o'->wpList P ops Q rest(a.put op.dst(.slice(some⟨g,0,none⟩)(n+m) cap)) w'):wpList P ops Q(op::rest) a w:=by
 refine wpList_plain hgd fun _ hK=>?_;obtain⟨v',w',hr,h2,h3,h4⟩:=ft(P:=P) w t op.type e i z size bytes ht hi hz hsize hby hzs hsz v n xs hrow.1 ad m c news hl hnews h1 h63 hbytes hm;unfold Oper.wp execOp;simp only[ho,resolve,invoke,builtin,Sem.run_bind,Sem.run_pure,Result.andThen_ok,List.map_toArray,List.map_cons,List.map_nil,hs,hx,hr];have hst:aa(fun k=>k=lb) w o w'(ae w o lb):=aa.appended h3 rfl hrow.2;have hrow':Row w'(ae w o lb) lb e size v'(n+m)(xs++news):=by
  refine⟨h2,fun k hk=>?_⟩;rcases h4 with h4|⟨k',h4,hk'⟩
  ·rw[h4] at hk;rw[aC(hrow.lt hk)];exact hrow.2 k hk
  ·rw[h4] at hk;injection hk with hk
   subst hk;exact ax hk'
 obtain⟨g,cap,rfl,_⟩:=hrow'.pos(by omega);exact hK _ _(h g cap w' _ hrow' hst)
theorem aa.below {I:Nat->Prop}{w w':World}{o o':Nat->Nat}(s:aa I w o w' o')(h0:∀ k,k<w.heap.size->¬I (o k)):Below w.heap.size w w' :=
 ⟨s.os,s.tape,s.output,s.size,fun k hk=>s.block k hk(h0 k hk)⟩
theorem cZ {P:Program}{w:World}{ops:Array Oper}{op:Oper}{a:Act}{K:Act->World->Prop}{Q:Exit->Act->World->Prop}{E:Prop}(hgd:op.guard=none)(s x:Operand)(t:TypeId)
  (ho:op.op=.call { callee:=.builtin .append,args:=#[s,x],argTypes:=#[t,t] })
  (e:TypeId)(i:TypeInfo)(z:Value)(size bytes:Nat)(ht:P.underlying t=some(.slice e))(hi:P.info? e=some i)(hz:i.zero=some z)
  (hsize:i.size=size)(hby:i.bytes=bytes)(hzs:z.cells.size=size)(hsz:0<size)
  (o:Nat->Nat)(lb:Nat)(v:Value)(n:Nat)(xs:List Value)(hs:a.eval s=v)(hrow:Row w o lb e size v n xs)
  (ad:Addr)(m c:Nat)(news:List Value)(hx:a.eval x=.slice(some ad) m c)(hl:news.length=m*size)(hnews:∀ j u,news[j]?=some u->w.cell?(ad.add j)=some u)(h1:∀ u ∈ news,u.oneCell'=true)
  (hm:0<m)(h63:n+m<=maxLen)(hbytes:(n+m)*bytes<=140737488355328)
  (h:∀ g cap w' o',Row w' o' lb e size(.slice(some⟨g,0,none⟩)(n+m) cap)(n+m)(xs++news)->aa(fun k=>k=lb) w o w' o'->K(a.put op.dst(.slice(some⟨g,0,none⟩)(n+m) cap)) w') :
  if Region.wanted op(yielded ops a.tmps)=true then Oper.wp P op a w K Q else E:=by
 have hw:Region.wanted op(yielded ops a.tmps)=true:=by simp[Region.wanted,hgd]
 rw[if_pos hw];obtain⟨v',w',hr,h2,h3,h4⟩:=ft(P:=P) w t op.type e i z size bytes ht hi hz hsize hby hzs hsz v n xs hrow.1 ad m c news hl hnews h1 h63 hbytes hm;unfold Oper.wp execOp;simp only[ho,resolve,invoke,builtin,Sem.run_bind,Sem.run_pure,Result.andThen_ok,List.map_toArray,List.map_cons,List.map_nil,hs,hx,hr];have hst:aa(fun k=>k=lb) w o w'(ae w o lb):=aa.appended h3 rfl hrow.2;have hrow':Row w'(ae w o lb) lb e size v'(n+m)(xs++news):=by
  refine⟨h2,fun k hk=>?_⟩;rcases h4 with h4|⟨k',h4,hk'⟩
  ·rw[h4] at hk;rw[aC(hrow.lt hk)];exact hrow.2 k hk
  ·rw[h4] at hk;injection hk with hk
   subst hk;exact ax hk'
 obtain⟨g,cap,rfl,_⟩:=hrow'.pos(by omega);exact h g cap w' _ hrow' hst
theorem cJ (w:World)(x:Value)(t:TypeId):∀ j u,[x][j]?=some u->(w.alloc (.cells #[x] t)).cell? ((⟨w.heap.size,0,none⟩:Addr).add j)=some u:=by
 intro j u hj
 match j,hj with
 | 0,hj=>simp at hj;subst hj;simp[Addr.add]
theorem ro {w:World}{s:Nat}(hs:w.heap.size=s)(x:Value)(t:TypeId):∀ j u,[x][j]?=some u->(w.alloc (.cells #[x] t)).cell? ((⟨s,0,none⟩:Addr).add j)=some u:=by
 subst hs;exact cJ w x t
theorem mO {w:World}{base:Nat}{e:TypeId}{size:Nat}{v:Value}{n:Nat}{xs:List Value}(h:w.ownsRow base e size v n xs):w.ownsRow 0 e size v n xs:=by
 refine⟨h.1,?_⟩;rcases h.2 with hn|⟨g,cap,cur,h1,h2,rest⟩
 ·exact .inl hn
 ·exact .inr⟨g,cap,cur,h1,Nat.zero_le _,rest⟩
theorem kZ {k:IntKind}{a b:Int}(h:a=b):Ending.returned (.int k a)=.returned (.int k b):=by rw[h]
theorem br {a b:Bool}(h:a=b):Ending.returned (.bool a)=.returned (.bool b):=by rw[h]
theorem ma (r:Nat)(w:World)(hr:r<=2147483647) :
  Calls Tryz.prog 165 #[.int .i32(r:Nat)] w fun e w'=>e=.returned(.bool(sml r))/\w'=w:=by
 by_cases h1:97<=r
 ·have g1:(97:Int)<=(r:Int):=by omega
  by_cases h2:r<=122
  ·have g2:(r:Int)<=122:=by omega
   have e0:sml r=true:=by simp[sml,h1,h2]
   rw[e0];clear e0;go_enter Tryz.func165,Tryz.ntmps165;go_wp2;go_ret;exact⟨rfl,rfl⟩
  ·have g2:¬(r:Int)<=122:=by omega
   have g3:decide((r:Int)<=122)=false:=decide_eq_false g2;have e0:sml r=false:=by simp[sml];omega
   rw[e0];clear e0;go_enter Tryz.func165,Tryz.ntmps165;go_wp2;go_ret;exact⟨rfl,rfl⟩
 ·have g1:¬(97:Int)<=(r:Int):=by omega
  have e0:sml r=false:=by simp[sml];omega
  rw[e0];clear e0;go_enter Tryz.func165,Tryz.ntmps165;go_wp2;go_ret;exact⟨rfl,rfl⟩
theorem ub (r:Nat)(w:World)(hr:r<=2147483647) :
  Calls Tryz.prog 166 #[.int .i32(r:Nat)] w fun e w'=>e=.returned(.bool(dig r))/\w'=w:=by
 by_cases h1:48<=r
 ·have g1:(48:Int)<=(r:Int):=by omega
  by_cases h2:r<=57
  ·have g2:(r:Int)<=57:=by omega
   have e0:dig r=true:=by simp[dig,h1,h2]
   rw[e0];clear e0;go_enter Tryz.func166,Tryz.ntmps166;go_wp2;go_ret;exact⟨rfl,rfl⟩
  ·have g2:¬(r:Int)<=57:=by omega
   have g3:decide((r:Int)<=57)=false:=decide_eq_false g2;have e0:dig r=false:=by simp[dig];omega
   rw[e0];clear e0;go_enter Tryz.func166,Tryz.ntmps166;go_wp2;go_ret;exact⟨rfl,rfl⟩
 ·have g1:¬(48:Int)<=(r:Int):=by omega
  have e0:dig r=false:=by simp[dig];omega
  rw[e0];clear e0;go_enter Tryz.func166,Tryz.ntmps166;go_wp2;go_ret;exact⟨rfl,rfl⟩
theorem wF {s t:ByteArray}(h:s≠t):(s.toList==t.toList)=false:=by
 rw[beq_eq_false_iff_ne,ByteArray.toList_eq,ByteArray.toList_eq];exact fun e=>h(ByteArray.ext(Array.toList_inj.1 e))
theorem lu {s:ByteArray}(h:¬s.size=0):s.toList.isEmpty=false:=by
 rw[ByteArray.toList_eq,List.isEmpty_eq_false_iff];intro e;have h2:s.data.size=0:=by rw[<-Array.length_toList,e];rfl
 exact h h2
theorem mh {s t:ByteArray}:s.data.toList=t.data.toList ↔ s=t :=
 ⟨fun e=>ByteArray.ext(Array.toList_inj.1 e),fun e=>by rw[e]⟩
theorem b0 (w:World):Below w.heap.size w w:=Below.refl _ _
theorem b1 (w:World)(o:Obj):Below w.heap.size w (w.alloc o):=(Below.refl _ w).alloc (Nat.le_refl _) _
def wd (k:Nat):ByteArray:=⟨(iH.getD k []).toArray⟩
def a7:Array Value:=#[.string (wd 0),.string (wd 1),.string (wd 2),.string (wd 3),.string (wd 4),.string (wd 5),.string (wd 6),.string (wd 7),.string (wd 8),.string (wd 9),.string (wd 10),.string (wd 11),.string (wd 12),.string (wd 13),.string (wd 14),.string (wd 15),.string (wd 16),.string (wd 17),.string (wd 18),.string (wd 19),.string (wd 20),.string (wd 21),.string (wd 22),.string (wd 23),.string (wd 24),.string (wd 25),.string (wd 26)]
theorem wix0 (w:World):(Instr.index 270 (.agg a7) (.int .i64 0)).run Tryz.prog w=.ok (.string (wd 0)) w:=by kernel_rfl
theorem wix1 (w:World):(Instr.index 270 (.agg a7) (.int .i64 1)).run Tryz.prog w=.ok (.string (wd 1)) w:=by kernel_rfl
theorem wix2 (w:World):(Instr.index 270 (.agg a7) (.int .i64 2)).run Tryz.prog w=.ok (.string (wd 2)) w:=by kernel_rfl
theorem wix3 (w:World):(Instr.index 270 (.agg a7) (.int .i64 3)).run Tryz.prog w=.ok (.string (wd 3)) w:=by kernel_rfl
theorem wix4 (w:World):(Instr.index 270 (.agg a7) (.int .i64 4)).run Tryz.prog w=.ok (.string (wd 4)) w:=by kernel_rfl
theorem wix5 (w:World):(Instr.index 270 (.agg a7) (.int .i64 5)).run Tryz.prog w=.ok (.string (wd 5)) w:=by kernel_rfl
theorem wix6 (w:World):(Instr.index 270 (.agg a7) (.int .i64 6)).run Tryz.prog w=.ok (.string (wd 6)) w:=by kernel_rfl
theorem wix7 (w:World):(Instr.index 270 (.agg a7) (.int .i64 7)).run Tryz.prog w=.ok (.string (wd 7)) w:=by kernel_rfl
theorem wix8 (w:World):(Instr.index 270 (.agg a7) (.int .i64 8)).run Tryz.prog w=.ok (.string (wd 8)) w:=by kernel_rfl
theorem wix9 (w:World):(Instr.index 270 (.agg a7) (.int .i64 9)).run Tryz.prog w=.ok (.string (wd 9)) w:=by kernel_rfl
theorem DZ (w:World):(Instr.index 270 (.agg a7) (.int .i64 10)).run Tryz.prog w=.ok (.string (wd 10)) w:=by kernel_rfl
theorem DC (w:World):(Instr.index 270 (.agg a7) (.int .i64 11)).run Tryz.prog w=.ok (.string (wd 11)) w:=by kernel_rfl
theorem Ep (w:World):(Instr.index 270 (.agg a7) (.int .i64 12)).run Tryz.prog w=.ok (.string (wd 12)) w:=by kernel_rfl
theorem Ez (w:World):(Instr.index 270 (.agg a7) (.int .i64 13)).run Tryz.prog w=.ok (.string (wd 13)) w:=by kernel_rfl
theorem D7 (w:World):(Instr.index 270 (.agg a7) (.int .i64 14)).run Tryz.prog w=.ok (.string (wd 14)) w:=by kernel_rfl
theorem Es (w:World):(Instr.index 270 (.agg a7) (.int .i64 15)).run Tryz.prog w=.ok (.string (wd 15)) w:=by kernel_rfl
theorem D0 (w:World):(Instr.index 270 (.agg a7) (.int .i64 16)).run Tryz.prog w=.ok (.string (wd 16)) w:=by kernel_rfl
theorem Eb (w:World):(Instr.index 270 (.agg a7) (.int .i64 17)).run Tryz.prog w=.ok (.string (wd 17)) w:=by kernel_rfl
theorem DU (w:World):(Instr.index 270 (.agg a7) (.int .i64 18)).run Tryz.prog w=.ok (.string (wd 18)) w:=by kernel_rfl
theorem DF (w:World):(Instr.index 270 (.agg a7) (.int .i64 19)).run Tryz.prog w=.ok (.string (wd 19)) w:=by kernel_rfl
theorem D5 (w:World):(Instr.index 270 (.agg a7) (.int .i64 20)).run Tryz.prog w=.ok (.string (wd 20)) w:=by kernel_rfl
theorem Ea (w:World):(Instr.index 270 (.agg a7) (.int .i64 21)).run Tryz.prog w=.ok (.string (wd 21)) w:=by kernel_rfl
theorem Ev (w:World):(Instr.index 270 (.agg a7) (.int .i64 22)).run Tryz.prog w=.ok (.string (wd 22)) w:=by kernel_rfl
theorem En (w:World):(Instr.index 270 (.agg a7) (.int .i64 23)).run Tryz.prog w=.ok (.string (wd 23)) w:=by kernel_rfl
theorem EA (w:World):(Instr.index 270 (.agg a7) (.int .i64 24)).run Tryz.prog w=.ok (.string (wd 24)) w:=by kernel_rfl
theorem DJ (w:World):(Instr.index 270 (.agg a7) (.int .i64 25)).run Tryz.prog w=.ok (.string (wd 25)) w:=by kernel_rfl
theorem Ew (w:World):(Instr.index 270 (.agg a7) (.int .i64 26)).run Tryz.prog w=.ok (.string (wd 26)) w:=by kernel_rfl
theorem vY (k:Nat)(hk:k<27)(w:World):(Instr.index 270 (.agg a7) (.int .i64 (k:Nat))).run Tryz.prog w=.ok (.string (wd k)) w:=by
 match k,hk with
 | 0,_=>exact wix0 w
 | 1,_=>exact wix1 w
 | 2,_=>exact wix2 w
 | 3,_=>exact wix3 w
 | 4,_=>exact wix4 w
 | 5,_=>exact wix5 w
 | 6,_=>exact wix6 w
 | 7,_=>exact wix7 w
 | 8,_=>exact wix8 w
 | 9,_=>exact wix9 w
 | 10,_=>exact DZ w
 | 11,_=>exact DC w
 | 12,_=>exact Ep w
 | 13,_=>exact Ez w
 | 14,_=>exact D7 w
 | 15,_=>exact Es w
 | 16,_=>exact D0 w
 | 17,_=>exact Eb w
 | 18,_=>exact DU w
 | 19,_=>exact DF w
 | 20,_=>exact D5 w
 | 21,_=>exact Ea w
 | 22,_=>exact Ev w
 | 23,_=>exact En w
 | 24,_=>exact EA w
 | 25,_=>exact DJ w
 | 26,_=>exact Ew w
 | n+27,h=>omega
def Wd (w:World):Prop:=∃t fr,w.heap[3]?=some (.cells a7 t fr)
theorem Wd.lt {w:World}(h:Wd w):3<w.heap.size:=by
 obtain⟨t,fr,h⟩:=h;exact lt_of_block h
theorem Wd.below {w w':World}(h:Wd w)(b:Below w.heap.size w w'):Wd w':=by
 have hl:=h.lt;obtain⟨t,fr,h⟩:=h;exact⟨t,fr,(b.block _ hl).trans h⟩
theorem nO {t:List UInt8}(k:Nat)(hk:k<27)(h:t=iH.getD k []):ez t=true:=by
 subst h;have hl:iH.length=27:=rfl;unfold ez;rw[List.contains_iff_mem];simp only[List.getD,List.getElem?_eq_getElem(by omega:k<iH.length),Option.getD_some];exact List.getElem_mem _
theorem pY {t:List UInt8}(h:∀ k,k<27->¬t=iH.getD k []):ez t=false:=by
 rw[<-Bool.not_eq_true];unfold ez;rw[List.contains_iff_mem,List.mem_iff_getElem];rintro⟨k,hk,e⟩;have hl:iH.length=27:=rfl;refine h k(by omega) ?_;simp only[List.getD,List.getElem?_eq_getElem hk,Option.getD_some];exact e.symm
theorem uy:(Tryz.prog.info? 270).map (·.size)=some a7.size:=by kernel_rfl
theorem BY (s:ByteArray)(w:World)(hW:Wd w)(hs:s.size<=maxLen) :
  Calls Tryz.prog 167 #[.string s] w fun e w'=>e=.returned(.bool(ez s.data.toList))/\w'=w:=by
 obtain⟨tt,fr,hg⟩:=hW;have IX:Hid(∀ k:Nat,k<27->(Instr.index 270(.agg a7)(.int .i64(k:Nat))).run Tryz.prog w=.ok(.string(wd k)) w):=fun k hk=>vY k hk w;have hsz:=uy;generalize a7=cs at *;go_enter Tryz.func167,Tryz.ntmps167;go_wp2_with(refine wpList_load_row rfl 270 _ rfl 3 rfl tt _ fr _ hg Tryz.underlying270 rfl hsz ?_);go_loopw [6](fun v wr=>∃k:Nat,k<=27/\v=.int .i64(k:Nat)/\(∀ j,j<k->s≠wd j)/\wr=w)(fun v _=>27-(intOf v).toNat)
 case atStart=>exact⟨0,by omega,by go_num,fun j hj=>by omega,rfl⟩
 case round =>
  obtain⟨k,hk,rfl,hin,rfl⟩:=hrel;by_cases hlt:k<27
  ·have ix:=IX.out k hlt;have hkI:(k:Int)<27:=by omega
   by_cases he:s=wd k
   ·have fin:ez s.data.toList=true:=nO k hlt(by rw[he];rfl);rw[<-he] at ix;clear he IX;go_wp2;go_ret;exact⟨by rw[fin];rfl,rfl⟩
   ·have hin':∀ j,j<k+1->s≠wd j:=fun j hj=>by
     by_cases e:j=k
     ·subst e;exact he
     ·exact hin j(by omega)
    have heb:=wF he;generalize wd k=t at ix he heb;clear IX hin;go_wp2;go_roundw
    case rel=>(try((repeat apply Exists.intro);refine⟨?_,rfl⟩));exact⟨k+1,by omega,by go_num,hin',by trivial⟩
    case measure=>simp[intOf];omega
  ·obtain rfl:k=27:=by omega
   clear IX;have fin:ez s.data.toList=false:=pY fun j hj e=>hin j hj(mh.1(by rw[e];rfl));go_wp2;go_ret;exact⟨by rw[fin];rfl,rfl⟩
def nmc (j:Nat)(c:UInt8):Bool:=sml c.toNat||(j != 0&&(dig c.toNat||c.toNat==95))
theorem dJ (l:List UInt8):aX l=true ↔ 0<l.length/\l.length<=12/\(∀ j (h:j<l.length),nmc j l[j]=true)/\ez l=false:=by
 cases l with
 | nil=>simp[aX]
 | cons c r =>
  simp only[aX,Bool.and_eq_true,decide_eq_true_eq,List.all_eq_true,Bool.not_eq_true',List.length_cons];constructor
  ·rintro⟨⟨⟨h1,h2⟩,h3⟩,h4⟩;refine⟨by omega,by omega,fun j h=>?_,h4⟩;cases j with
   | zero=>simp[nmc,h2]
   | succ j =>
    have:=h3(r[j]'(by omega))(List.getElem_mem _)
    simp only[inn] at this;simp[nmc];simpa [Bool.or_eq_true,or_assoc] using this
  ·rintro⟨h1,h2,h3,h4⟩;refine⟨⟨⟨by omega,?_⟩,fun x hx=>?_⟩,h4⟩
   ·have:=h3 0(by omega)
    simpa [nmc] using this
   ·obtain⟨j,hj,rfl⟩:=List.mem_iff_getElem.1 hx
    have:=h3(j+1)(by omega)
    simp only[nmc,List.getElem_cons_succ] at this;simp only[inn];simpa [Bool.or_eq_true,or_assoc] using this
theorem gT {l:List UInt8}(j:Nat)(h:j<l.length)(hn:nmc j l[j]=false):aX l=false:=by
 rw[<-Bool.not_eq_true,dJ];rintro⟨_,_,h3,_⟩
 have:=h3 j h
 rw[hn] at this;cases this
theorem wD (j:Nat)(c:UInt8)(h:128<=c.toNat):nmc j c=false:=by
 simp[nmc,sml,dig];omega
theorem bL (s:ByteArray)(j:Nat)(h:j<s.size)(h':j<s.data.toList.length):s.data.toList[j]=s[j]:=by
 rw[Array.getElem_toList];rfl
theorem bR (s:ByteArray):s.data.toList.length=s.size:=Array.length_toList
theorem Cj (s:ByteArray)(w:World)(hW:Wd w)(hs:s.size<=maxLen) :
  Calls Tryz.prog 101 #[.string s] w fun e w'=>e=.returned(.bool(aX s.data.toList))/\Below w.heap.size w w':=by
 have hs':=hs;unfold maxLen at hs;have hln:=bR s;by_cases h0:s.size=0
 ·have e0:s=⟨#[]⟩:=by
   apply ByteArray.ext;exact Array.eq_empty_of_size_eq_zero h0
  subst e0;have fin:aX(⟨#[]⟩:ByteArray).data.toList=false:=rfl;rw[fin];clear fin h0 hln;go_enter Tryz.func101,Tryz.ntmps101;go_wp2;go_ret;exact⟨rfl,b0 _⟩
 ·by_cases h12:12<s.size
  ·have fin:aX s.data.toList=false:=by rw[<-Bool.not_eq_true,dJ];rintro⟨_,h,_⟩;omega
   rw[fin];clear fin hln;have hne:=lu h0;have h12I:(12:Int)<(s.size:Int):=by omega
   go_enter Tryz.func101,Tryz.ntmps101;go_wp2;go_ret;exact⟨by simp,b0 _⟩
  ·have hne:=lu h0;have h12I:¬(12:Int)<(s.size:Int):=by omega
   have HL:Hid(s.data.toList.length=s.size):=hln;clear hln;go_enter Tryz.func101,Tryz.ntmps101;go_wp2;go_loopw [3](fun _ wr=>∃pos:Nat,wr.heap[w.heap.size]?=some(.stringIter s pos)/\pos<=s.size/\(∀ j(h:j<s.data.toList.length),j<pos->nmc j s.data.toList[j]=true)/\Below w.heap.size w wr)(fun _ wr=>s.size-wr.iterPos w.heap.size)
   case atStart=>exact⟨0,World.iter_heap w s 0,by omega,fun j _ h=>by omega,b1 _ _⟩
   case round =>
    obtain⟨pos,hit,hps,hin,hbw⟩:=hrel;by_cases hp:pos<s.size
    ·have hpl:pos<s.data.toList.length:=by have:=HL.out;omega
     by_cases ha:(s[pos]'hp).toNat<128
     ·have hnx:∀ ty,(Instr.next(.pointer(some⟨w.heap.size,0,none⟩)) true ty).run Tryz.prog wr=_:=fun ty=>Lib.run_next_ascii_at wr w.heap.size s pos ty hit hp ha;have hit2:=Lib.iterAt_heap wr w.heap.size s pos(pos+1) hit;have hbw2:=Lib.below_iterAt hbw(k:=w.heap.size)(by omega) s(pos+1);have hex:nmc pos s.data.toList[pos]=nmc pos s[pos]:=by rw[bL s pos hp hpl]
      have hgo:nmc pos s[pos]=true->∀ j(h:j<s.data.toList.length),j<pos+1->nmc j s.data.toList[j]=true:=fun hx j h hj=>by
       by_cases e:j=pos
       ·subst e;rw[hex];exact hx
       ·exact hin j h(by omega)
      have hno:nmc pos s[pos]=false->aX s.data.toList=false:=fun hx=>gT pos hpl(by rw[hex];exact hx);have hme:s.size-(wr.iterAt w.heap.size s(pos+1)).iterPos w.heap.size<s.size-wr.iterPos w.heap.size:=by
       simp only[World.iterPos,hit2,hit];omega
      clear hit hbw hin hex;have hwz:w.heap.size=w.heap.size:=rfl;generalize wr.iterAt w.heap.size s(pos+1)=w2 at *;have hnm:nmc pos s[pos]=(sml(s[pos]).toNat||(pos != 0&&(dig(s[pos]).toNat||(s[pos]).toNat==95))):=rfl;rw[hnm] at hgo hno;clear hnm;generalize hrn:(s[pos]'hp).toNat=r at *;have hr:r<=2147483647:=by omega
      clear hrn;have HG:Hid(((sml r||(pos != 0&&(dig r||r==95)))=true->∀ j(h:j<s.data.toList.length),j<pos+1->nmc j s.data.toList[j]=true)/\((sml r||(pos != 0&&(dig r||r==95)))=false->aX s.data.toList=false)):=⟨hgo,hno⟩
      clear hgo hno;cases h1:sml r
      ·by_cases hz:pos=0
       ·have fin:aX s.data.toList=false:=HG.out.2(by simp[h1,hz]);subst hz;clear HG hme;go_wp2_with(go_at_call 165;refine(ma r _ hr).mono ?_;rw[h1];rintro e w1⟨rfl,rfl⟩);go_ret;exact⟨by rw[fin];rfl,hbw2⟩
       ·have hz':¬(pos:Int)=0:=by omega
        cases h2:dig r
        ·by_cases h3:r=95
         ·have RL:=HG.out.1(by simp[h3,hz]);clear HG;subst h3;go_wp2_with(first|(go_at_call 165;refine(ma 95 _ hr).mono ?_;rw[h1];rintro e w1⟨rfl,rfl⟩)|(go_at_call 166;refine(ub 95 _ hr).mono ?_;rw[h2];rintro e w1⟨rfl,rfl⟩));go_roundw
          case rel=>(try((repeat apply Exists.intro);refine⟨?_,rfl⟩));exact⟨pos+1,hit2,by omega,RL,hbw2⟩
          case measure=>exact hme
         ·have fin:aX s.data.toList=false:=HG.out.2(by simp[h1,h2,h3]);have h3':¬(r:Int)=95:=by omega
          have h3b:((r:Int) != 95)=true:=by simpa using h3'
          clear HG hme;go_wp2_with(first|(go_at_call 165;refine(ma r _ hr).mono ?_;rw[h1];rintro e w1⟨rfl,rfl⟩)|(go_at_call 166;refine(ub r _ hr).mono ?_;rw[h2];rintro e w1⟨rfl,rfl⟩));go_ret;exact⟨by rw[fin];rfl,hbw2⟩
        ·have RL:=HG.out.1(by simp[h2,hz]);clear HG;go_wp2_with(first|(go_at_call 165;refine(ma r _ hr).mono ?_;rw[h1];rintro e w1⟨rfl,rfl⟩)|(go_at_call 166;refine(ub r _ hr).mono ?_;rw[h2];rintro e w1⟨rfl,rfl⟩));go_roundw
         case rel=>(try((repeat apply Exists.intro);refine⟨?_,rfl⟩));exact⟨pos+1,hit2,by omega,RL,hbw2⟩
         case measure=>exact hme
      ·have RL:=HG.out.1(by simp[h1]);clear HG;go_wp2_with(go_at_call 165;refine(ma r _ hr).mono ?_;rw[h1];rintro e w1⟨rfl,rfl⟩);go_roundw
       case rel=>(try((repeat apply Exists.intro);refine⟨?_,rfl⟩));exact⟨pos+1,hit2,by omega,RL,hbw2⟩
       case measure=>exact hme
     ·have fin:aX s.data.toList=false:=gT pos hpl(by rw[bL s pos hp hpl];exact wD _ _(by omega));have hnx:∀ ty,(Instr.next(.pointer(some⟨w.heap.size,0,none⟩)) true ty).run Tryz.prog wr=_:=fun ty=>Lib.run_next_any_at wr w.heap.size s pos ty hit hp;have hbw2:=Lib.below_iterAt hbw(k:=w.heap.size)(by omega) s(pos+(Utf8.decode s pos).2);have hr:=decode_le s pos;have hr2:=(decode_high s pos hp(by omega)).1;generalize wr.iterAt w.heap.size s(pos+(Utf8.decode s pos).2)=w2 at *;generalize(Utf8.decode s pos).1=r at *;have h1:sml r=false:=by simp[sml];omega
      have h2:dig r=false:=by simp[dig];omega
      have h3':¬(r:Int)=95:=by omega
      have h3b:((r:Int) != 95)=true:=by simpa using h3'
      clear hit hbw hin ha;by_cases hz:pos=0
      ·subst hz;go_wp2_with(go_at_call 165;refine(ma r _ hr).mono ?_;rw[h1];rintro e w1⟨rfl,rfl⟩);go_ret;exact⟨by rw[fin];rfl,hbw2⟩
      ·have hz':¬(pos:Int)=0:=by omega
       go_wp2_with(first|(go_at_call 165;refine(ma r _ hr).mono ?_;rw[h1];rintro e w1⟨rfl,rfl⟩)|(go_at_call 166;refine(ub r _ hr).mono ?_;rw[h2];rintro e w1⟨rfl,rfl⟩));go_ret;exact⟨by rw[fin];rfl,hbw2⟩
    ·have hnx:∀ ty,(Instr.next(.pointer(some⟨w.heap.size,0,none⟩)) true ty).run Tryz.prog wr=_:=fun ty=>Lib.run_next_end_at wr w.heap.size s pos ty hit hp;have hW2:=hW.below hbw;have fin:aX s.data.toList=!wordB s.data.toList:=by
      have hl:=HL.out;cases hw:ez s.data.toList
      ·exact(dJ _).2⟨by omega,by omega,fun j h=>hin j h(by omega),hw⟩
      ·show _=false;rw[<-Bool.not_eq_true,dJ];rintro⟨_,_,_,h⟩;rw[hw] at h;cases h
     clear hin hit;go_wp2_with(go_at_call 167;refine(BY s _ hW2 hs').mono ?_;rintro e w1⟨rfl,rfl⟩);go_ret;exact⟨by rw[fin];rfl,hbw⟩
abbrev tka (x:Tk):Array Value:=#[.int .i64 (x.k:Nat),.int .i64 x.n,.string ⟨x.t.toArray⟩,.int .i64 (x.a:Nat)]
theorem nN (t:ByteArray):(⟨t.data.toList.toArray⟩:ByteArray)=t:=by cases t;simp
theorem pg {w:World}{b:Nat}{a0 a1 a2 a3:Value}{t:TypeId}(v0 v1 v2 v3:Value)(h:w.heap[b]?=some (.cells #[a0,a1,a2,a3] t (0,0))) :
  ((((w.setCell⟨b,0,none⟩ v0).setCell⟨b,1,none⟩ v1).setCell⟨b,2,none⟩ v2).setCell⟨b,3,none⟩ v3).heap[b]?=some(.cells #[v0,v1,v2,v3] t(0,0)):=by
 have h0:=heap_setCell_same w b 0 _ t v0 h;have h1:=heap_setCell_same _ b 1 _ t v1 h0;have h2:=heap_setCell_same _ b 2 _ t v2 h1;have h3:=heap_setCell_same _ b 3 _ t v3 h2;simpa using h3
theorem b2 (w:World)(A B:Obj):Below w.heap.size w ((w.alloc A).alloc B):=(b1 _ _).trans ((b1 _ _).mono (by simp))
theorem kt {w w1:World}{b:Nat}(v0 v1 v2 v3:Value)(h:Below w.heap.size w w1)(hb:w.heap.size<=b) :
  Below w.heap.size w((((w1.setCell⟨b,0,none⟩ v0).setCell⟨b,1,none⟩ v1).setCell⟨b,2,none⟩ v2).setCell⟨b,3,none⟩ v3) :=
 ((((h.setCell(p:=⟨b,0,none⟩) hb v0).setCell(p:=⟨b,1,none⟩) hb v1).setCell(p:=⟨b,2,none⟩) hb v2).setCell(p:=⟨b,3,none⟩) hb v3)
theorem AC (t:ByteArray)(h:0<t.size):t.data.toList.head?=some t[0]:=by
 have hl:0<t.data.toList.length:=by rw[bR];exact h
 rw[List.head?_eq_getElem?,List.getElem?_eq_getElem hl,bL t 0 h hl]
theorem Blk.set {w:World}{o:Nat->Nat}{i b:Nat}{cs:Array Value}{t:TypeId}(h:Blk w o i b (.cells cs t (0,0)))(j:Nat)(u:Value):Blk (w.setCell ⟨b,j,none⟩ u) o i b (.cells (cs.setIfInBounds j u) t (0,0)) :=
 ⟨heap_setCell_same w b j cs t u h.1,h.2⟩
theorem bU (I:Nat->Prop)(w:World)(o:Nat->Nat)(p:Addr)(u:Value)(hp:I (o p.block)):aa I w o (w.setCell p u) o:=(aa.refl I w o).setCell p u hp
theorem dL (I:Nat->Prop)(w:World)(o:Nat->Nat)(ob:Obj):aa I w o (w.alloc ob) o:=(aa.refl I w o).alloc ob
theorem ud:(Tryz.prog.info? 3).map (fun i=>(i.zero,i.size,i.bytes))=some (some (.int .i64 0),1,8):=by kernel_rfl
theorem Blk.cells4 {w:World}{o:Nat->Nat}{i b:Nat}{a0 a1 a2 a3:Value}{t:TypeId}(h:Blk w o i b (.cells #[a0,a1,a2,a3] t (0,0))) :
  w.cell?⟨b,0,none⟩=some a0/\w.cell?⟨b,1,none⟩=some a1/\w.cell?⟨b,2,none⟩=some a2/\w.cell?⟨b,3,none⟩=some a3/\∀ j,w.frozen?⟨b,j,none⟩=false:=by
 refine⟨?_,?_,?_,?_,fun j=>frozen_of_row w b j _ t h.1⟩<;>simp[cell_of_row w b _ _ t(0,0) h.1]
theorem jD (s:ByteArray)(a b:Nat):(s.extract a b).data.toList=(s.data.toList.drop a).take (b-a):=by
 rw[ByteArray.data_extract,Array.toList_extract,List.extract_eq_take_drop]
theorem rB (s:ByteArray)(a b:Nat):s.extract a b=⟨((s.data.toList.drop a).take (b-a)).toArray⟩:=by
 rw[<-jD,nN]
theorem je (l:List UInt8)(pos:Nat)(h:pos<l.length):l.drop pos=l[pos]::l.drop (pos+1):=List.drop_eq_getElem_cons h
theorem aa.ofBelow {I:Nat->Prop}{w w':World}(o:Nat->Nat)(h:Below w.heap.size w w'):aa I w o w' o:=⟨h.os,h.tape,h.output,h.size,fun _ _=>rfl,fun k hk _=>h.block k hk⟩
theorem aH {P:Program}{t:TypeId}{z:Option Value}{s b:Nat}(h:(P.info? t).map (fun i=>(i.zero,i.size,i.bytes))=some (z,s,b)):∃i,P.info? t=some i/\i.zero=z/\i.size=s/\i.bytes=b:=by
 cases hi:P.info? t with
 | none=>rw[hi] at h;cases h
 | some i =>
  rw[hi] at h;injection h with h
  exact⟨i,rfl,(congrArg(·.1) h),(congrArg(·.2.1) h),(congrArg(·.2.2) h)⟩
theorem kh {w:World}{s:Nat}(hs:w.heap.size=s)(x y z q:Value)(t:TypeId):∀ j u,[x,y,z,q][j]?=some u->(w.alloc (.cells #[x,y,z,q] t)).cell? ((⟨s,0,none⟩:Addr).add j)=some u:=by
 subst hs;intro j u hj
 match j,hj with
 | 0,hj=>simp at hj;subst hj;simp[Addr.add]
 | 1,hj=>simp at hj;subst hj;simp[Addr.add]
 | 2,hj=>simp at hj;subst hj;simp[Addr.add]
 | 3,hj=>simp at hj;subst hj;simp[Addr.add]
theorem um:(Tryz.prog.info? 73).map (fun i=>(i.zero,i.size,i.bytes))=some (some (.agg #[.int .i64 0,.int .i64 0,.string ⟨#[]⟩,.int .i64 0]),4,40):=by kernel_rfl
def cB (ts:List Tk):List Value:=ts.flatMap fun x=>[.int .i64 (x.k:Nat),.int .i64 x.n,.string ⟨x.t.toArray⟩,.int .i64 (x.a:Nat)]
theorem j8 (ts:List Tk)(x:Tk):cB (ts++[x])=cB ts++[.int .i64 (x.k:Nat),.int .i64 x.n,.string ⟨x.t.toArray⟩,.int .i64 (x.a:Nat)]:=by
 simp[cB]
def lm:List Tk->Res->Res
 | [],X=>X
 | x::r,X=>iU x(lm r X)
theorem vA (ts:List Tk)(x:Tk)(X:Res):lm (ts++[x]) X=lm ts (iU x X):=by
 induction ts with
 | nil=>rfl
 | cons y r ih=>simp only[List.cons_append,lm,ih]
theorem ye (ts:List Tk)(e:Nat × Nat):lm ts (.inl e)=.inl e:=by
 induction ts with
 | nil=>rfl
 | cons y r ih=>simp only[lm,ih];rfl
theorem yl (ts us:List Tk):lm ts (.inr us)=.inr (ts++us):=by
 induction ts with
 | nil=>rfl
 | cons y r ih=>simp only[lm,ih];rfl
theorem px {k:Nat}{t:List UInt8}{a e:Nat}(h:fM k t a=.inl e):e=110\/e=111\/e=112:=by
 unfold fM at h;split at h
 ·unfold fs at h
  repeat' split at h
  all_goals first|(injection h with h;omega)|cases h
 ·unfold gO at h
  repeat' split at h
  all_goals first|(injection h with h;omega)|cases h
 ·unfold mR at h;split at h
  all_goals first|(injection h with h;omega)|cases h
 ·injection h with h
  omega
def zG (w w':World)(v:Value)(er at0:Int)(R:Res):Prop :=
 (∃e p,R=.inl(e,p)/\v=.slice none 0 0/\er=(e:Nat)/\at0=(p:Nat))\/(∃ts,R=.inr ts/\er=0/\at0=0/\w'.ownsRow w.heap.size 73 4 v ts.length(cB ts))
theorem Row.fresh {I:Nat->Prop}{w w':World}{o':Nat->Nat}{i:Nat}{e:TypeId}{size:Nat}{v:Value}{n:Nat}{xs:List Value}(r:Row w' o' (i+1) e size v n xs)(s:aa I w (fun _=>0) w' o'):w'.ownsRow w.heap.size e size v n xs:=by
 refine⟨r.1.1,?_⟩;rcases r.1.2 with h|⟨g,cap,cur,rfl,hb,rest⟩
 ·exact .inl h
 ·refine .inr⟨g,cap,cur,rfl,?_,rest⟩;by_cases hg:g<w.heap.size
  ·have h1:=s.lab g hg;have h2:=r.2 g rfl;omega
  ·omega
theorem bdr {B:Nat}{w w':World}(h:Below B w w')(n:Nat):Below B w (w'.drewN n):=⟨h.os,h.tape,h.output,h.size,h.block⟩
structure au (rb:Nat)(w w':World):Prop where
 os:w'.os=w.os
 tape:w'.tape=w.tape
 output:w'.output=w.output
 size:w.heap.size<=w'.heap.size
 block:∀ k,k<w.heap.size->k≠rb->w'.heap[k]?=w.heap[k]?
theorem au.refl (rb:Nat)(w:World):au rb w w:=⟨rfl,rfl,rfl,Nat.le_refl _,fun _ _ _=>rfl⟩
theorem au.trans {rb:Nat}{a b c:World}(h:au rb a b)(k:au rb b c):au rb a c :=
 ⟨k.os.trans h.os,k.tape.trans h.tape,k.output.trans h.output,Nat.le_trans h.size k.size,fun i hi hn=>(k.block i(Nat.lt_of_lt_of_le hi h.size) hn).trans(h.block i hi hn)⟩
theorem au.ofBelow {rb:Nat}{w w':World}(h:Below w.heap.size w w'):au rb w w':=⟨h.os,h.tape,h.output,h.size,fun k hk _=>h.block k hk⟩
theorem au.alloc {rb:Nat}{a w:World}(h:au rb a w)(ob:Obj):au rb a (w.alloc ob) :=
 h.trans⟨rfl,rfl,rfl,by simp,fun k hk _=>Below.heap_alloc w ob k hk⟩
theorem au.drew {rb:Nat}{a w:World}(h:au rb a w):au rb a w.drew:=⟨h.os,h.tape,h.output,h.size,h.block⟩
theorem au.set {rb:Nat}{a w:World}(h:au rb a w)(p:Addr)(u:Value)(hp:a.heap.size<=p.block\/p.block=rb):au rb a (w.setCell p u) :=
 ⟨h.os,h.tape,h.output,by simpa using h.size,fun k hk hn=>(heap_setCell_other w p k u(fun e=>by
  rcases hp with hp|hp
  ·omega
  ·exact hn(e.trans hp))).trans(h.block k hk hn)⟩
theorem au.below {rb n:Nat}{w w':World}(h:au rb w w')(hn:n<=rb)(hs:rb<w.heap.size):Below n w w':=⟨h.os,h.tape,h.output,h.size,fun k hk=>h.block k (by omega) (by omega)⟩
theorem au.cell {rb:Nat}{w w':World}(h:au rb w w'){b:Nat}(hb:b<w.heap.size)(hn:b≠rb)(j:Nat):w'.cell? ⟨b,j,none⟩=w.cell? ⟨b,j,none⟩:=World.cell?_of_block (a:=⟨b,j,none⟩) (h.block b hb hn)
abbrev stv (t:List UInt8):Value:=.string ⟨t.toArray⟩
def Fc (w:World)(P:Nat->Prop):Fs->List Value->Prop
 | ⟨none⟩,xs=>xs=[]
 | ⟨some⟨k,n,nm,a,ks,r⟩⟩,xs=>∃ao cap ys,xs=.int .i64 k::.int .i64 n::stv nm::.slice ao ks.len cap::.int .i64 a::ys /\
   (ks=.nil\/∃b off zs,ao=some⟨b,off,none⟩/\P b/\b<w.heap.size/\(∀ j u,zs[j]?=some u->w.cell?⟨b,off+j,none⟩=some u)/\Fc w P ks zs)/\Fc w P r ys
def Sl (w:World)(P:Nat->Prop)(ks:Fs)(ao:Option Addr):Prop :=
 ks=.nil\/∃b off zs,ao=some⟨b,off,none⟩/\P b/\b<w.heap.size/\(∀ j u,zs[j]?=some u->w.cell?⟨b,off+j,none⟩=some u)/\Fc w P ks zs
def exV (e:Ex)(ao:Option Addr)(cap:Nat):Value:=.agg #[.int .i64 e.k,.int .i64 e.n,stv e.nm,.slice ao e.kids.len cap,.int .i64 e.a]
theorem Fc.len {w:World}{P:Nat->Prop}:∀ {f:Fs}{xs:List Value},Fc w P f xs->xs.length=f.len*5
 | ⟨none⟩,xs,h=>by
  have h:xs=[]:=h;subst h;rfl
 | ⟨some⟨k,n,nm,a,ks,r⟩⟩,xs,h=>by
  obtain⟨ao,cap,ys,rfl,_,h2⟩:=h
  have:=Fc.len h2
  simp only[List.length_cons,Fs.len];omega
theorem Fc.mono {w w':World}{P Q:Nat->Prop}(hb:∀ k,P k->k<w.heap.size->w'.heap[k]?=w.heap[k]?)(hs:w.heap.size<=w'.heap.size)(hq:∀ k,P k->k<w.heap.size->Q k):∀ {f:Fs}{xs:List Value},Fc w P f xs->Fc w' Q f xs
 | ⟨none⟩,xs,h=>h
 | ⟨some⟨k,n,nm,a,ks,r⟩⟩,xs,h=>by
  obtain⟨ao,cap,ys,rfl,h1,h2⟩:=h;refine⟨ao,cap,ys,rfl,?_,Fc.mono hb hs hq h2⟩;rcases h1 with h1|⟨b,off,zs,rfl,hp,hlt,hc,h3⟩
  ·exact .inl h1
  ·exact .inr⟨b,off,zs,rfl,hq b hp hlt,Nat.lt_of_lt_of_le hlt hs,fun j u hu=>(World.cell?_of_block(a:=⟨b,off+j,none⟩)(hb b hp hlt)).trans(hc j u hu),Fc.mono hb hs hq h3⟩
theorem Sl.mono {w w':World}{P Q:Nat->Prop}{f:Fs}{ao:Option Addr}(hb:∀ k,P k->k<w.heap.size->w'.heap[k]?=w.heap[k]?)(hs:w.heap.size<=w'.heap.size)(hq:∀ k,P k->k<w.heap.size->Q k)(h:Sl w P f ao):Sl w' Q f ao:=by
 rcases h with h|⟨b,off,zs,rfl,hp,hlt,hc,h3⟩
 ·exact .inl h
 ·exact .inr⟨b,off,zs,rfl,hq b hp hlt,Nat.lt_of_lt_of_le hlt hs,fun j u hu=>(World.cell?_of_block(a:=⟨b,off+j,none⟩)(hb b hp hlt)).trans(hc j u hu),h3.mono hb hs hq⟩
theorem Fc.app {w:World}{P:Nat->Prop}:∀ {f g:Fs}{xs ys:List Value},Fc w P f xs->Fc w P g ys->Fc w P (f.app g) (xs++ys)
 | ⟨none⟩,g,xs,ys,h,k=>by
  have h:xs=[]:=h;subst h;exact k
 | ⟨some⟨i,n,nm,a,ks,r⟩⟩,g,xs,ys,h,k=>by
  obtain⟨ao,cap,zs,rfl,h1,h2⟩:=h;exact⟨ao,cap,zs++ys,rfl,h1,Fc.app h2 k⟩
theorem Fc.one {w:World}{P:Nat->Prop}{e:Ex}{ao:Option Addr}(cap:Nat)(h:Sl w P e.kids ao):Fc w P (one e) [.int .i64 e.k,.int .i64 e.n,stv e.nm,.slice ao e.kids.len cap,.int .i64 e.a]:=⟨ao,cap,[],rfl,h,rfl⟩
theorem Sl.of {w:World}{P:Nat->Prop}{f:Fs}{b:Nat}{xs:List Value}(hp:P b)(hlt:b<w.heap.size)(hc:∀ j u,xs[j]?=some u->w.cell? ⟨b,0+j,none⟩=some u)(h:Fc w P f xs):Sl w P f (some ⟨b,0,none⟩):=.inr ⟨b,0,xs,rfl,hp,hlt,hc,h⟩
theorem Sl.nil (w:World)(P:Nat->Prop)(ao:Option Addr):Sl w P .nil ao:=.inl rfl
theorem lS:∀ (l:List Tk) (i:Nat) (x:Tk),l[i]?=some x->(cB l)[i*4]?=some (.int .i64 (x.k:Nat))/\(cB l)[i*4+1]?=some (.int .i64 x.n)/\(cB l)[i*4+2]?=some (stv x.t)/\(cB l)[i*4+3]?=some (.int .i64 (x.a:Nat))
 | [],i,x,h=>by simp at h
 | p::r,0,x,h=>by
  simp at h;subst h;exact⟨rfl,rfl,rfl,rfl⟩
 | p::r,i+1,x,h=>by
  have e:cB(p::r)=.int .i64(p.k:Nat)::.int .i64 p.n::stv p.t::.int .i64(p.a:Nat)::cB r:=rfl;have e1:(i+1)*4=i*4+1+1+1+1:=by omega
  have ih:=lS r i x(by simpa using h);rw[e,e1];exact ih
abbrev Nw (n:Nat):Nat->Prop:=fun b=>n<=b
theorem Sl.keepN {rb n:Nat}{w w':World}{f:Fs}{ao:Option Addr}(h:Sl w (Nw n) f ao)(k:au rb w w')(hn:rb<n):Sl w' (Nw n) f ao:=h.mono (fun i hp hl=>k.block i hl (by have hp:n<=i:=hp;omega)) k.size (fun _ h _=>h)
theorem Sl.setN {n:Nat}{w:World}{f:Fs}{ao:Option Addr}(h:Sl w (Nw n) f ao)(p:Addr)(v:Value)(hp:p.block<n):Sl (w.setCell p v) (Nw n) f ao:=h.mono (fun i hp hl=>heap_setCell_other w p i v (by have hp:n<=i:=hp;omega)) (by simp) (fun _ h _=>h)
theorem Sl.allocN {n:Nat}{w:World}{f:Fs}{ao:Option Addr}(h:Sl w (Nw n) f ao)(ob:Obj):Sl (w.alloc ob) (Nw n) f ao:=h.mono (fun i hp hl=>Below.heap_alloc w ob i hl) (by simp) (fun _ h _=>h)
theorem Sl.low {n m:Nat}{w:World}{f:Fs}{ao:Option Addr}(h:Sl w (Nw n) f ao)(hm:m<=n):Sl w (Nw m) f ao:=h.mono (fun i hp hl=>rfl) (Nat.le_refl _) (fun i h _=>Nat.le_trans hm h)
theorem Fc.allocN {n:Nat}{w:World}{f:Fs}{xs:List Value}(h:Fc w (Nw n) f xs)(ob:Obj):Fc (w.alloc ob) (Nw n) f xs:=h.mono (fun i hp hl=>Below.heap_alloc w ob i hl) (by simp) (fun _ h _=>h)
theorem Blk.cells5 {w:World}{o:Nat->Nat}{i b:Nat}{a0 a1 a2 a3 a4:Value}{t:TypeId}(h:Blk w o i b (.cells #[a0,a1,a2,a3,a4] t (0,0))) :
  w.cell?⟨b,0,none⟩=some a0/\w.cell?⟨b,1,none⟩=some a1/\w.cell?⟨b,2,none⟩=some a2/\w.cell?⟨b,3,none⟩=some a3/\w.cell?⟨b,4,none⟩=some a4/\∀ j,w.frozen?⟨b,j,none⟩=false:=by
 refine⟨?_,?_,?_,?_,?_,fun j=>frozen_of_row w b j _ t h.1⟩<;>simp[cell_of_row w b _ _ t(0,0) h.1]
theorem Blk.cells2 {w:World}{o:Nat->Nat}{i b:Nat}{a0 a1:Value}{t:TypeId}(h:Blk w o i b (.cells #[a0,a1] t (0,0))) :
  w.cell?⟨b,0,none⟩=some a0/\w.cell?⟨b,1,none⟩=some a1/\∀ j,w.frozen?⟨b,j,none⟩=false:=by
 refine⟨?_,?_,fun j=>frozen_of_row w b j _ t h.1⟩<;>simp[cell_of_row w b _ _ t(0,0) h.1]
def dU (t:Int):Option (List UInt8 × Nat × Nat × Nat × Nat):=eB.find? fun x=>(x.2.1:Int)==t
def fm (t:Int):Option (List UInt8 × Nat × Nat):=dy.find? fun x=>(x.2.1:Int)==t
def fQ (t:Int):Option (List UInt8 × Nat):=dx.find? fun x=>(x.2:Int)==t
set_option linter.unusedSimpArgs false
def bm (k:Int):Bool:=k==22||k==23||k==24||k==25
def dd (k:Int):Nat:=if k==19||k==21 then 0 else if k==7 then 3 else if k==6 then 7 else match dU k with|some x=>x.2.2.1|none=>8
def bS (k n:Int):Bool:=if k==1||k==3 then decide (0<=n) else if k==2 then n==0||n==1 else if k==20 then (fm n).isSome else if k==21 then (fQ n).isSome else n==0
def cu (k:Int)(nm:List UInt8):Bool:=if k==4||k==23||k==21 then aX nm else nm==[]
def aR (k n:Int)(m:Nat):Bool:=if k==1||k==2||k==3||k==4||k==22||k==23 then (m:Int)==0 else if k==6||k==7||k==24 then (m:Int)==1 else if k==21 then (m:Int)==2 else if k==19 then (m:Int)==3 else if k==20 then (match fm n with|some x=>(m:Int)==(x.2.2:Nat)|none=>(m:Int)==0) else if k==25 then true else (dU k).isSome&&(m:Int)==2
theorem bne {k:Int}{c:Int}(h:k≠c):(k==c)=false:=by rw[beq_eq_false_iff_ne];exact h
theorem wG {w:World}{b:Nat}{a0 a1 a2 a3 b0 b1 b2 b3:Value}{t:TypeId}(h:w.heap[b]?=some (.cells #[a0,a1,a2,a3] t (0,0))):((((w.setCell ⟨b,0,none⟩ b0).setCell ⟨b,1,none⟩ b1).setCell ⟨b,2,none⟩ b2).setCell ⟨b,3,none⟩ b3).heap[b]?=some (.cells #[b0,b1,b2,b3] t (0,0)):=by
 have h0:Blk w(fun _=>0) 0 b(.cells #[a0,a1,a2,a3] t(0,0)):=⟨h,rfl⟩
 exact((((h0.set 0 b0).set 1 b1).set 2 b2).set 3 b3).1
abbrev exZ:Obj:=.cells #[.int .i64 0,.int .i64 0,.string ⟨#[]⟩,.slice none 0 0,.int .i64 0] 25
theorem bG {w:World}{b:Nat}{a0 a1 a2 a3 a4:Value}(b0 b1 b2 b3 b4:Value){t:TypeId}(h:w.heap[b]?=some (.cells #[a0,a1,a2,a3,a4] t (0,0))):(((((w.setCell ⟨b,0,none⟩ b0).setCell ⟨b,1,none⟩ b1).setCell ⟨b,2,none⟩ b2).setCell ⟨b,3,none⟩ b3).setCell ⟨b,4,none⟩ b4).heap[b]?=some (.cells #[b0,b1,b2,b3,b4] t (0,0)):=by
 have h0:Blk w(fun _=>0) 0 b(.cells #[a0,a1,a2,a3,a4] t(0,0)):=⟨h,rfl⟩
 exact(((((h0.set 0 b0).set 1 b1).set 2 b2).set 3 b3).set 4 b4).1
theorem au.set5 {rb:Nat}{a w:World}(h:au rb a w){b:Nat}(hb:a.heap.size<=b)(b0 b1 b2 b3 b4:Value):au rb a (((((w.setCell ⟨b,0,none⟩ b0).setCell ⟨b,1,none⟩ b1).setCell ⟨b,2,none⟩ b2).setCell ⟨b,3,none⟩ b3).setCell ⟨b,4,none⟩ b4):=((((h.set ⟨b,0,none⟩ b0 (.inl hb)).set ⟨b,1,none⟩ b1 (.inl hb)).set ⟨b,2,none⟩ b2 (.inl hb)).set ⟨b,3,none⟩ b3 (.inl hb)).set ⟨b,4,none⟩ b4 (.inl hb)
theorem Sl.set5 {n:Nat}{w:World}{f:Fs}{ao:Option Addr}(h:Sl w (Nw n) f ao){b:Nat}(hb:b<n)(b0 b1 b2 b3 b4:Value):Sl (((((w.setCell ⟨b,0,none⟩ b0).setCell ⟨b,1,none⟩ b1).setCell ⟨b,2,none⟩ b2).setCell ⟨b,3,none⟩ b3).setCell ⟨b,4,none⟩ b4) (Nw n) f ao:=((((h.setN ⟨b,0,none⟩ b0 hb).setN ⟨b,1,none⟩ b1 hb).setN ⟨b,2,none⟩ b2 hb).setN ⟨b,3,none⟩ b3 hb).setN ⟨b,4,none⟩ b4 hb
theorem am {w:World}{b:Nat}{a0 a1 a2 a3 a4:Value}{t:TypeId}(h:w.heap[b]?=some (.cells #[a0,a1,a2,a3,a4] t (0,0))) :
  w.cell?⟨b,0,none⟩=some a0/\w.cell?⟨b,1,none⟩=some a1/\w.cell?⟨b,2,none⟩=some a2/\w.cell?⟨b,3,none⟩=some a3/\w.cell?⟨b,4,none⟩=some a4/\∀ j,w.frozen?⟨b,j,none⟩=false:=Blk.cells5(o:=fun _=>0)(i:=0)⟨h,rfl⟩
theorem au.blk {rb:Nat}{w w':World}(k:au rb w w'){b:Nat}{ob:Obj}(h:w.heap[b]?=some ob)(hb:b≠rb):w'.heap[b]?=some ob:=(k.block b (lt_of_block h) hb).trans h
theorem Sl.fresh {w:World}{n:Nat}{f:Fs}(xs:List Value)(t:TypeId)(h:Fc w (Nw n) f xs)(hn:n<=w.heap.size):Sl (w.alloc (.cells xs.toArray t)) (Nw n) f (some ⟨w.heap.size,0,none⟩):=by
 refine Sl.of hn(by simp)(fun j u hu=>?_)(h.allocN _);rw[Nat.zero_add];rw[cell_of_row _ w.heap.size j _ t(0,0)(heap_alloc_new w _)];simpa using hu
theorem aq (e:Ex)(ao:Option Addr)(cap:Nat):exV e ao cap=.agg #[.int .i64 e.k,.int .i64 e.n,stv e.nm,.slice ao e.kids.len cap,.int .i64 e.a]:=rfl
def xm (w:World)(n0:Nat)(acc:Fs)(g cap:Nat)(xs:List Value):Prop :=
 n0<=g/\w.ownsRow 0 25 5(.slice(some⟨g,0,none⟩) acc.len cap) acc.len xs/\Fc w(fun b=>n0<=b/\b≠g) acc xs
def Acc (w:World)(n0:Nat)(acc:Fs)(v:Value):Prop:=∃g cap xs,v=.slice (some ⟨g,0,none⟩) acc.len cap/\xm w n0 acc g cap xs
def j7 (g:Nat):Nat->Nat:=fun b=>if b=g then 1 else 0
theorem xm.row {w:World}{n0:Nat}{acc:Fs}{g cap:Nat}{xs:List Value}(h:xm w n0 acc g cap xs):Row w (j7 g) 1 25 5 (.slice (some ⟨g,0,none⟩) acc.len cap) acc.len xs :=
 ⟨h.2.1,fun k hk=>by simp[Value.ownBlock] at hk;subst hk;simp[j7]⟩
theorem Acc.one {w:World}{n0:Nat}{e:Ex}{ao:Option Addr}(cap:Nat)(h:Sl w (Nw n0) e.kids ao)(hn:n0<=w.heap.size) :
  Acc(w.alloc(.cells #[.int .i64 e.k,.int .i64 e.n,stv e.nm,.slice ao e.kids.len cap,.int .i64 e.a] 25)) n0(one e)(.slice(some⟨w.heap.size,0,none⟩) 1 1):=by
 refine⟨w.heap.size,1,_,rfl,hn,World.ownsRow_lit w _ 1(Nat.zero_le _)(by unfold maxLen;omega)(by simp),?_⟩;exact(Fc.one cap h).mono(fun i hp hl=>Below.heap_alloc w _ i hl)(by simp)(fun i hp hl=>⟨hp,Nat.ne_of_lt hl⟩)
theorem Acc.keep {rb n0:Nat}{w w':World}{acc:Fs}{v:Value}(h:Acc w n0 acc v)(k:au rb w w')(hn:rb<n0):Acc w' n0 acc v:=by
 obtain⟨g,cap,xs,rfl,hg,ho,hf⟩:=h;have r:Row w(fun b=>if b=rb then 7 else 1) 1 25 5(.slice(some⟨g,0,none⟩) acc.len cap) acc.len xs:=⟨ho,fun j hj=>by simp[Value.ownBlock] at hj;subst hj;show(if g=rb then 7 else 1)=1;rw[if_neg(by omega)]⟩
 have s:aa(fun x=>x=7) w(fun b=>if b=rb then 7 else 1) w'(fun b=>if b=rb then 7 else 1):=⟨k.os,k.tape,k.output,k.size,fun _ _=>rfl,fun j hj hn=>k.block j hj(fun e=>hn(by simp[e]))⟩
 exact⟨g,cap,xs,rfl,hg,(r.step s(by decide)).1,hf.mono(fun i hp hl=>k.block i hl(by have:=hp.1;omega)) k.size(fun _ h _=>h)⟩
theorem Acc.sl {w:World}{n0:Nat}{acc:Fs}{v:Value}(h:Acc w n0 acc v):∃ao cap,v=.slice ao acc.len cap/\Sl w (Nw n0) acc ao:=by
 obtain⟨g,cap,xs,rfl,h⟩:=h;refine⟨_,cap,rfl,?_⟩;by_cases h0:0<acc.len
 ·obtain⟨g',cap',hv,_,_,_,hlt,hc,_⟩:=h.row.pos h0;simp only[Value.slice.injEq,Option.some.injEq,Addr.mk.injEq,true_and,and_true] at hv;obtain⟨rfl,rfl⟩:=hv;have hl:=h.row.len;refine Sl.of h.1 hlt(fun j u hu=>?_)(h.2.2.mono(fun _ _ _=>rfl)(Nat.le_refl _)(fun _ hp _=>hp.1));rw[Nat.zero_add,hc j ?_]
  ·exact hu
  ·rw[<-hl];by_cases hj:j<xs.length
   ·exact hj
   ·rw[List.getElem?_eq_none(by omega)] at hu;cases hu
 ·refine .inl ?_;cases acc using Fs.on with
  | nil=>rfl
  | cons k n nm a ks r=>simp[Fs.len] at h0
theorem au.step1 {rb g:Nat}{a w w2:World}{o2:Nat->Nat}(K:au rb a w)(s:aa (fun x=>x=1) w (j7 g) w2 o2)(hg:a.heap.size<=g):au rb a w2 :=
 ⟨s.os.trans K.os,s.tape.trans K.tape,s.output.trans K.output,Nat.le_trans K.size s.size,fun k hk hn=>(s.block k(Nat.lt_of_lt_of_le hk K.size)(by unfold j7;rw[if_neg(by omega)];decide)).trans(K.block k hk hn)⟩
theorem Acc.push {w w2:World}{o2:Nat->Nat}{n0 n1 g cap g2 c2:Nat}{acc:Fs}{xs:List Value}{e:Ex}{ao:Option Addr}{ce:Nat}(h:xm w n0 acc g cap xs)(S:Sl w (Nw n1) e.kids ao)(hn1:g<n1)(hw:n0<=w.heap.size)
  (s:aa(fun x=>x=1) w(j7 g) w2 o2)(r:Row w2 o2 1 25 5(.slice(some⟨g2,0,none⟩)(acc.len+1) c2)(acc.len+1)(xs++[.int .i64 e.k,.int .i64 e.n,stv e.nm,.slice ao e.kids.len ce,.int .i64 e.a])) :
  Acc w2 n0(acc.snoc e)(.slice(some⟨g2,0,none⟩)(acc.len+1) c2):=by
 have hl:(acc.snoc e).len=acc.len+1:=Fs.len_snoc acc e;have h2:o2 g2=1:=r.2 g2 rfl;have hlt2:g2<w2.heap.size:=r.lt rfl;have hg2:n0<=g2:=by
  by_cases hlt:g2<w.heap.size
  ·have:=(s.lab g2 hlt).symm.trans h2
   unfold j7 at this;by_cases e:g2=g
   ·rw[e];exact h.1
   ·rw[if_neg e] at this;cases this
  ·omega
 have hb:∀ k,(n0<=k/\k≠g)->k<w.heap.size->w2.heap[k]?=w.heap[k]?:=fun k hk hl=>s.block k hl(by unfold j7;rw[if_neg hk.2];decide);have hq:∀ k,(n0<=k/\k≠g)->k<w.heap.size->(n0<=k/\k≠g2):=fun k hk hl=>⟨hk.1,fun e=>by
  have:=(s.lab k hl).symm.trans(e ▸ h2)
  unfold j7 at this;rw[if_neg hk.2] at this;cases this⟩
 refine⟨g2,c2,xs++[.int .i64 e.k,.int .i64 e.n,stv e.nm,.slice ao e.kids.len ce,.int .i64 e.a],by rw[hl],hg2,by rw[hl];exact r.1,?_⟩;have F1:=h.2.2.mono hb s.size hq;have S1:Sl w2(fun b=>n0<=b/\b≠g2) e.kids ao:=S.mono(fun k hk hl=>hb k⟨by have hk:n1<=k:=hk;have:=h.1;omega,by have hk:n1<=k:=hk;omega⟩ hl) s.size(fun k hk hl=>hq k⟨by have hk:n1<=k:=hk;have:=h.1;omega,by have hk:n1<=k:=hk;omega⟩ hl);exact F1.app(Fc.one ce S1)
theorem lr:(Tryz.prog.info? 25).map (fun i=>(i.zero,i.size,i.bytes))=some (some (.agg #[.int .i64 0,.int .i64 0,.string ⟨#[]⟩,.slice none 0 0,.int .i64 0]),5,64):=by kernel_rfl
def hFs:Fs->Bool->Nat->Option Nat
 | ⟨none⟩,_,c=>some c
 | ⟨some⟨k,n,nm,a,ks,r⟩⟩,first,c =>
  if bm k != first then none
  else if 2000<c+1 then none
  else if bS k n&&cu k nm&&aR k n ks.len then
   match hFs ks(k==21)(c+1) with
   | none=>none
   | some c'=>hFs r false c'
  else none
def hE (e:Ex)(c:Nat):Option Nat:=if 2000<c+1 then none else if bS e.k e.n&&cu e.k e.nm&&aR e.k e.n e.kids.len then hFs e.kids (e.k==21) (c+1) else none
def Fs.size:Fs->Nat
 | ⟨none⟩=>0
 | ⟨some⟨_,_,_,_,ks,r⟩⟩=>ks.size+r.size+1
def Fs.short:Fs->Prop
 | ⟨none⟩=>True
 | ⟨some⟨_,_,nm,_,ks,r⟩⟩=>nm.length<=maxLen/\ks.len<=1000000000/\ks.short/\r.short
theorem Fs.size_app:∀ (x y:Fs),(x.app y).size=x.size+y.size
 | ⟨none⟩,y=>by simp[Fs.app,Fs.size]
 | ⟨some⟨k,n,nm,a,ks,r⟩⟩,y=>by simp only[Fs.app,Fs.size];rw[Fs.size_app r y];omega
theorem Fs.app_short:∀ {x y:Fs},(x.app y).short->y.short
 | ⟨none⟩,y,h=>h
 | ⟨some⟨k,n,nm,a,ks,r⟩⟩,y,h=>Fs.app_short h.2.2.2
theorem q8:∀ (f:Fs) (b:Bool) (c c':Nat),c<=2000->hFs f b c=some c'->c'<=2000
 | ⟨none⟩,b,c,c',h,e=>by
  unfold hFs at e;injection e with e
  omega
 | ⟨some⟨k,n,nm,a,ks,r⟩⟩,b,c,c',h,e=>by
  unfold hFs at e;split at e
  ·cases e
  ·split at e
   ·cases e
   ·split at e
    ·split at e
     ·cases e
     ·rename_i c2 h2
      exact q8 r false c2 c'(q8 ks _(c+1) c2(by omega) h2) e
    ·cases e
theorem DR {e:Ex}{c c':Nat}(h:hE e c=some c'):c'<=2000:=by
 unfold hE at h;split at h
 ·cases h
 ·split at h
  ·exact q8 _ _ _ _(by omega) h
  ·cases h
theorem Fs.app_assoc:∀ (x y z:Fs),(x.app y).app z=x.app (y.app z)
 | ⟨none⟩,y,z=>rfl
 | ⟨some⟨k,n,nm,a,ks,r⟩⟩,y,z=>by simp only[Fs.app];rw[Fs.app_assoc r y z]
theorem Fc.split {w:World}{P:Nat->Prop}:∀ {x y:Fs}{zs:List Value},Fc w P (x.app y) zs->∃zx zy,zs=zx++zy/\Fc w P x zx/\Fc w P y zy
 | ⟨none⟩,y,zs,h=>⟨[],zs,rfl,rfl,h⟩
 | ⟨some⟨k,n,nm,a,ks,r⟩⟩,y,zs,h=>by
  obtain⟨ao,cap,ys,rfl,h1,h2⟩:=h;obtain⟨zx,zy,rfl,h3,h4⟩:=Fc.split h2;exact⟨_,zy,rfl,⟨ao,cap,zx,rfl,h1,h3⟩,h4⟩
abbrev Nf (fb:Nat):Nat->Prop:=fun b=>b≠fb
theorem Sl.keepF {fb:Nat}{w w':World}{f:Fs}{ao:Option Addr}(h:Sl w (Nf fb) f ao)(k:au fb w w'):Sl w' (Nf fb) f ao:=h.mono (fun i hp hl=>k.block i hl hp) k.size (fun _ h _=>h)
theorem gM {P:Program}(w:World)(t u ty e:TypeId)(i:TypeInfo)(ht:P.underlying t=some (.slice e))(hu:P.underlying u=some .string)(hi:P.info? e=some i)(hz:i.zero=some (.int .u8 0))
  (hsize:i.size=1)(hby:i.bytes=1)(v:Value)(n:Nat)(xs:List Value)(hown:w.ownsRow 0 e 1 v n xs)(s:ByteArray)(h63:n+s.size<=maxLen)(hbytes:n+s.size<=140737488355328) :
  ∃v' w',(Builtin.append_ #[t,u] ty #[v,.string s]).run P w=.ok v' w'/\w'.ownsRow 0 e 1 v'(n+s.size)(xs++Go.Lib.strCells s)/\w.grownBy w' v.ownBlock /\
   (v'.ownBlock=v.ownBlock\/∃k,v'.ownBlock=some k/\w.heap.size<=k):=by
 obtain⟨v',w',hr,ho,hg,h4⟩:=Go.Lib.run_append_own_string(P:=P) w 0 t u ty e i ht hu hi hz hsize hby v n xs hown s h63 hbytes(Nat.zero_le _);refine⟨v',w',hr,ho,hg,?_⟩;have h63':n+s.size<=9223372036854775807:=by simp only[maxLen] at h63;omega
 rcases hown.2 with⟨rfl,rfl⟩|⟨g,cap,cur,rfl,hbg,hgb,hnc,hcm,hcs,htake⟩
 ·by_cases hm:s.size=0
  ·have h5:=h4.2⟨rfl,hm⟩;subst h5;exact .inl rfl
  ·have hr':=run_append_nil_string(P:=P) w t u ty e i(.int .u8 0) ht hu hi hz s(by omega)(by omega)(by rw[hby];omega);rw[hr'] at hr;injection hr with e1 e2
   subst e1;exact .inr⟨_,rfl,Nat.le_refl _⟩
 ·by_cases hroom:n+s.size<=cap
  ·have hcs':cur.size=cap:=by simpa using hcs
   have hr':=Go.Lib.run_append_room_string(P:=P) w t u ty e i ht hu hi hsize g n cap cur hgb s hroom(by omega);rw[hr'] at hr;injection hr with e1 e2
   subst e1;exact .inl rfl
  ·have holds:∀ j u,xs[j]?=some u->w.cell?((⟨g,0,none⟩:Addr).add j)=some u:=hown.cells(g:=g) rfl;have hr':=Go.Lib.run_append_grow_string(P:=P) w t u ty e i(.int .u8 0) ht hu hi hz⟨g,0,none⟩ n cap xs(by rw[hsize];simpa using hown.1) holds s(by omega)(by omega)(by rw[hby];exact growslice_fits(by omega)(by omega));rw[hr'] at hr;injection hr with e1 e2
   subst e1;exact .inr⟨_,rfl,Nat.le_refl _⟩
theorem jB {P:Program}{w:World}{ops:Array Oper}{rest:List Oper}{op:Oper}{a:Act}{Q:Exit->Act->World->Prop}(hgd:op.guard=none)(sl x:Operand)(t u:TypeId)
  (ho:op.op=.call { callee:=.builtin .append,args:=#[sl,x],argTypes:=#[t,u] })
  (e:TypeId)(i:TypeInfo)(ht:P.underlying t=some(.slice e))(hu:P.underlying u=some .string)(hi:P.info? e=some i)(hz:i.zero=some(.int .u8 0))(hsize:i.size=1)(hby:i.bytes=1)
  (o:Nat->Nat)(lb:Nat)(v:Value)(n:Nat)(xs:List Value)(hs:a.eval sl=v)(hrow:Row w o lb e 1 v n xs)(s:ByteArray)(hx:a.eval x=.string s)(h63:n+s.size<=maxLen)(hbytes:n+s.size<=140737488355328)
  (h:∀ v' w' o',Row w' o' lb e 1 v'(n+s.size)(xs++Go.Lib.strCells s)->aa(fun k=>k=lb) w o w' o'->wpList P ops Q rest(a.put op.dst v') w'):wpList P ops Q(op::rest) a w:=by
 refine wpList_plain hgd fun _ hK=>?_;obtain⟨v',w',hr,h2,h3,h4⟩:=gM(P:=P) w t u op.type e i ht hu hi hz hsize hby v n xs hrow.1 s h63 hbytes;unfold Oper.wp execOp;simp only[ho,resolve,invoke,builtin,Sem.run_bind,Sem.run_pure,Result.andThen_ok,List.map_toArray,List.map_cons,List.map_nil,hs,hx,hr];have hst:aa(fun k=>k=lb) w o w'(ae w o lb):=aa.appended h3 rfl hrow.2;have hrow':Row w'(ae w o lb) lb e 1 v'(n+s.size)(xs++Go.Lib.strCells s):=by
  refine⟨h2,fun k hk=>?_⟩;rcases h4 with h4|⟨k',h4,hk'⟩
  ·rw[h4] at hk;rw[aC(hrow.lt hk)];exact hrow.2 k hk
  ·rw[h4] at hk;injection hk with hk
   subst hk;exact ax hk'
 exact hK _ _(h v' w' _ hrow' hst)
def byL (t:List UInt8):List Value:=t.map fun b=>Value.int .u8 b.toNat
theorem Bt (s t:List UInt8):byL s++Go.Lib.strCells ⟨t.toArray⟩=byL (s++t):=by simp[byL,Go.Lib.strCells]
theorem fF (t:List UInt8):(ByteArray.mk t.toArray).size=t.length:=by simp[ByteArray.size]
abbrev I12:Nat->Prop:=fun k=>k=1\/k=2
theorem Dr:(Tryz.prog.info? 5).map (fun i=>(i.zero,i.size,i.bytes))=some (some (.int .u8 0),1,1):=by kernel_rfl
structure St where
 t:List UInt8
 a:Nat
 m:Nat
 b:Nat
 n:Nat
def St.lay (s:St)(x:List UInt8):St:=⟨s.t++x,s.a,s.m,s.b,s.n⟩
def St.ent (s:St):St:=⟨s.t,s.a+1,max s.m (s.a+1),s.b,s.n⟩
def St.lea (s:St):St:=⟨s.t,s.a-1,s.m,s.b,s.n⟩
def St.qent (s:St):St:=⟨s.t,s.a,s.m,s.b+1,max s.n (s.b+1)⟩
def St.qlea (s:St):St:=⟨s.t,s.a,s.m,s.b-1,s.n⟩
def fU (n:Int):List UInt8:=match fQ n with|some x=>x.1|none=>[]
def gq (n:Int):List UInt8:=match fm n with|some x=>x.1|none=>[]
abbrev Sep:=Nat->List UInt8 × Nat
def eT:Sep:=fun i=>(if i=0 then [] else [44,32],0)
def ifS:Sep:=fun i=>(if i=0 then [105,102,32] else if i=1 then [32,116,104,101,110,32] else [32,101,108,115,101,32],0)
def quS (n:Int)(nm:List UInt8):Sep:=fun i=>(if i=0 then fU n++[32]++nm++[32,105,110,32] else [58,32],0)
def opS (k:Int):Sep:=fun i=>match dU k with|some x=>if i=0 then ([],x.2.2.2.1) else ([32]++x.1++[32],x.2.2.2.2)|none=>([],0)
def ru (k n:Int)(nm:List UInt8)(K:Sep->St->St)(s:St):St :=
 if k=1 then s.lay(Go.Lib.itoa n)
 else if k=2 then s.lay(Go.Lib.formatBool(n==1))
 else if k=3 then(s.lay [64]).lay(Go.Lib.itoa n)
 else if k=4\/k=23 then s.lay nm
 else if k=22 then s.lay [118,101,114,116,105,99,101,115]
 else K(opS k) s
def ko (x y:List UInt8)(K:Sep->St->St)(s:St):St:=((K eT (s.ent.lay x)).lay y).lea
def ke (k n:Int)(nm:List UInt8)(K:Sep->St->St)(s:St):St :=
 if k=7 then(K(fun _=>([110,111,116,32],3)) s.ent).lea
 else if k=6 then(K(fun _=>([45],7)) s.ent).lea
 else if k=19 then(K ifS s.ent).lea
 else if k=21 then((K(quS n nm) s.ent.qent).qlea).lea
 else if k=20 then ko [40] [41] K(s.lay(gq n))
 else if k=24 then ko [40] [41] K(s.lay [97,114,111,117,110,100])
 else if k=25 then ko [123] [125] K s
 else ru k n nm K s
def wE (k n:Int)(nm:List UInt8)(asked:Nat)(K:Sep->St->St)(s:St):St :=
 if dd k<asked then((ke k n nm K(s.ent.lay [40])).lay [41]).lea else ke k n nm K s
def wFs:Fs->Sep->Nat->St->St
 | ⟨none⟩,_,_,s=>s
 | ⟨some⟨k,n,nm,a,ks,r⟩⟩,f,i,s=>wFs r f(i+1)(wE k n nm(f i).2(fun g s=>wFs ks g 0 s)(s.lay(f i).1))
def wEx (e:Ex)(asked:Nat)(s:St):St:=wE e.k e.n e.nm asked (fun g s=>wFs e.kids g 0 s) s
theorem ux (n:Int):(fU n).length<=5:=by
 unfold fU;split
 ·rename_i x h
  have hm:=List.mem_of_find?_eq_some h
  have:∀ x ∈ dx,x.1.length<=5:=by decide
  exact this x hm
 ·simp
theorem uR (n:Int):(gq n).length<=10:=by
 unfold gq;split
 ·rename_i x h
  have hm:=List.mem_of_find?_eq_some h
  have:∀ x ∈ dy,x.1.length<=10:=by decide
  exact this x hm
 ·simp
abbrev L0 (o:Nat->Nat):Nat->Prop:=fun b=>o b=0
theorem Sl.stp {w w':World}{o o':Nat->Nat}{f:Fs}{ao:Option Addr}(h:Sl w (L0 o) f ao)(s:aa I12 w o w' o'):Sl w' (L0 o') f ao :=
 h.mono(fun i hp hl=>s.block i hl(fun hi=>by rcases hi with hi|hi<;>(have hp:o i=0:=hp;omega))) s.size(fun i hp hl=>(s.lab i hl).trans hp)
theorem Blk.stp {w w':World}{o o':Nat->Nat}{b:Nat}{ob:Obj}(h:Blk w o 0 b ob)(s:aa I12 w o w' o'):Blk w' o' 0 b ob:=h.step s (by simp[I12])
theorem aa.ofB {I:Nat->Prop}{w w':World}(o:Nat->Nat)(b:Below w.heap.size w w'):aa I w o w' o:=⟨b.os,b.tape,b.output,b.size,fun _ _=>rfl,fun k hk _=>b.block k hk⟩
theorem aO (I:Nat->Prop)(w:World)(o:Nat->Nat)(ob:Obj):aa I w o (w.alloc ob) (ae w o 0):=((aa.refl I w o).labelled 0).alloc ob
theorem fE (w:World)(o:Nat->Nat)(cs:Array Value)(t:TypeId):Blk (w.alloc (.cells cs t)) (ae w o 0) 0 w.heap.size (.cells cs t (0,0)):=⟨heap_alloc_new w _,ax (Nat.le_refl _)⟩
def okP (k n:Int)(nm:List UInt8)(m:Nat):Prop:=bS k n=true/\cu k nm=true/\aR k n m=true/\nm.length<=12/\-9223372036854775808<=n/\n<=9223372036854775807
def Fs.okA:Fs->Prop
 | ⟨none⟩=>True
 | ⟨some⟨k,n,nm,_,ks,r⟩⟩=>okP k n nm ks.len/\ks.okA/\r.okA
def Ex.okA (e:Ex):Prop:=okP e.k e.n e.nm e.kids.len/\e.kids.okA
def Fs.ex (x:Ex)(r:Fs):Fs:=.cons x.k x.n x.nm x.a x.kids r
theorem mi {x:Ex}{r:Fs}(h:(Fs.ex x r).okA):x.okA/\r.okA:=⟨⟨h.1,h.2.1⟩,h.2.2⟩
theorem nZ (x:Ex)(r:Fs):(Fs.ex x r).size=x.kids.size+r.size+1:=rfl
theorem CP (x:Ex)(r:Fs):(Fs.ex x r).len=r.len+1:=rfl
theorem qX:∀ {f:Fs},f.len=1->∃x,f=Fs.ex x .nil
 | ⟨none⟩,h=>by cases h
 | ⟨some⟨k,n,nm,a,ks,⟨none⟩⟩⟩,h=>⟨⟨k,n,nm,a,ks⟩,rfl⟩
 | ⟨some⟨_,_,_,_,_,(⟨some⟨_,_,_,_,_,_⟩⟩)⟩⟩,h=>by simp[Fs.len] at h
theorem fI:∀ {f:Fs},f.len=2->∃x y,f=Fs.ex x (Fs.ex y .nil)
 | ⟨none⟩,h=>by cases h
 | ⟨some⟨k,n,nm,a,ks,r⟩⟩,h=>by
  obtain⟨y,rfl⟩:=qX(f:=r)(by simp only[Fs.len] at h;omega);exact⟨⟨k,n,nm,a,ks⟩,y,rfl⟩
theorem Bg:∀ {f:Fs},f.len=3->∃x y z,f=Fs.ex x (Fs.ex y (Fs.ex z .nil))
 | ⟨none⟩,h=>by cases h
 | ⟨some⟨k,n,nm,a,ks,r⟩⟩,h=>by
  obtain⟨y,z,rfl⟩:=fI(f:=r)(by simp only[Fs.len] at h;omega);exact⟨⟨k,n,nm,a,ks⟩,y,z,rfl⟩
theorem Sl.kidP {w:World}{P:Nat->Prop}{x r:Fs}{y:Ex}{ao:Option Addr}(h:Sl w P (x.app (Fs.ex y r)) ao)(i:Nat)(hi:x.len=i):∃b off ak ck,ao=some ⟨b,off,none⟩/\w.cell? ⟨b,off+i*5,none⟩=some (.int .i64 y.k)/\w.cell? ⟨b,off+i*5+1,none⟩=some (.int .i64 y.n)/\w.cell? ⟨b,off+i*5+2,none⟩=some (stv y.nm)/\w.cell? ⟨b,off+i*5+3,none⟩=some (.slice ak y.kids.len ck)/\w.cell? ⟨b,off+i*5+4,none⟩=some (.int .i64 y.a)/\Sl w P y.kids ak:=by
 subst hi;rcases h with h|⟨b,off,zs,rfl,hp,hlt,hc,hf⟩
 ·cases x using Fs.on with
  | nil=>cases h
  | cons k n nm a ks r=>cases h
 ·obtain⟨zx,zy,rfl,h3,h4⟩:=Fc.split hf;have hl:=h3.len;obtain⟨ak,ck,ys,rfl,h5,h6⟩:=h4;have hc':∀ j u,(.int .i64 y.k::.int .i64 y.n::stv y.nm::.slice ak y.kids.len ck::.int .i64 y.a::ys:List Value)[j]?=some u->w.cell?⟨b,off+x.len*5+j,none⟩=some u:=fun j u hu=>by
   have:=hc(x.len*5+j) u(by rw[List.getElem?_append_right(by omega),hl,Nat.add_sub_cancel_left];exact hu)
   rw[Nat.add_assoc];exact this
  exact⟨b,off,ak,ck,rfl,hc' 0 _ rfl,hc' 1 _ rfl,hc' 2 _ rfl,hc' 3 _ rfl,hc' 4 _ rfl,h5⟩
def ew:List (List UInt8)->List UInt8->Nat->Int->Int
 | [],_,_,d=>d
 | b::r,nm,i,d=>ew r nm(i+1)(if b=nm then(i:Int) else d)
def iu (pk:Int)(pn:List UInt8)(i:Nat)(bd:List (List UInt8)):List (List UInt8):=if pk=21/\i=1 then bd++[pn] else bd
def ofF:Fs->Int->List UInt8->Nat->List (List UInt8)->Fs
 | ⟨none⟩,_,_,_,_=>.nil
 | ⟨some⟨k,n,nm,a,ks,r⟩⟩,pk,pn,i,bd =>
  if k=4 then .cons 5(ew(iu pk pn i bd) nm 0 n) [] 0 .nil(ofF r pk pn(i+1) bd)
  else .cons k n(if k=23 then nm else []) 0(ofF ks k nm 0(iu pk pn i bd))(ofF r pk pn(i+1) bd)
def ofE (e:Ex)(bd:List (List UInt8)):Ex :=
 if e.k=4 then⟨5,ew bd e.nm 0 e.n,[],0,.nil⟩ else⟨e.k,e.n,if e.k=23 then e.nm else [],0,ofF e.kids e.k e.nm 0 bd⟩
theorem tH (k n:Int)(nm:List UInt8)(a:Int)(ks r:Fs)(pk:Int)(pn:List UInt8)(i:Nat)(bd:List (List UInt8)) :
  ofF(.cons k n nm a ks r) pk pn i bd=Fs.ex(ofE⟨k,n,nm,a,ks⟩(iu pk pn i bd))(ofF r pk pn(i+1) bd):=by
 conv=>lhs;unfold ofF
 unfold ofE;simp only;split<;>rfl
theorem oT:∀ (f:Fs) (pk:Int) (pn:List UInt8) (i:Nat) (bd:List (List UInt8)),(ofF f pk pn i bd).len=f.len
 | ⟨none⟩,pk,pn,i,bd=>rfl
 | ⟨some⟨k,n,nm,a,ks,r⟩⟩,pk,pn,i,bd=>by
  have h:=tH k n nm a ks r pk pn i bd
  show(ofF(.cons k n nm a ks r) pk pn i bd).len=r.len+1
  rw[h]
  show(ofF r pk pn(i+1) bd).len+1=_
  rw[oT r pk pn(i+1) bd]
theorem jW:∀ (f:Fs) (pk:Int) (pn:List UInt8) (i:Nat) (bd:List (List UInt8)),f.short->(ofF f pk pn i bd).short
 | ⟨none⟩,pk,pn,i,bd,h=>trivial
 | ⟨some⟨k,n,nm,a,ks,r⟩⟩,pk,pn,i,bd,h=>by
  have h2:=jW r pk pn(i+1) bd h.2.2.2;have h1:=jW ks k nm 0(iu pk pn i bd) h.2.2.1;unfold ofF;split
  ·exact⟨by simp,by show 0<=_;omega,trivial,h2⟩
  ·refine⟨?_,by rw[oT];exact h.2.1,h1,h2⟩;split
   ·exact h.1
   ·simp
theorem zZ (e:Ex)(bd:List (List UInt8)):(ofE e bd).kids.len<=e.kids.len:=by
 unfold ofE;split
 ·show 0<=_;omega
 ·rw[oT];exact Nat.le_refl _
theorem vI (e:Ex)(bd:List (List UInt8))(h:e.kids.short):(ofE e bd).kids.short:=by
 unfold ofE;split
 ·trivial
 ·exact jW _ _ _ _ _ h
theorem Dt (e:Ex)(bd:List (List UInt8))(h:e.nm.length<=maxLen):(ofE e bd).nm.length<=maxLen:=by
 unfold ofE;split
 ·simp
 ·simp only;split
  ·exact h
  ·simp
theorem Sl.kidQ {P:Nat->Prop}{w:World}{x r:Fs}{k n:Int}{nm:List UInt8}{a:Int}{ks:Fs}{ao:Option Addr}(h:Sl w P (x.app (.cons k n nm a ks r)) ao):∃b off ak ck,ao=some ⟨b,off,none⟩/\b<w.heap.size/\P b/\w.cell? ⟨b,off+x.len*5,none⟩=some (.int .i64 k)/\w.cell? ⟨b,off+x.len*5+1,none⟩=some (.int .i64 n)/\w.cell? ⟨b,off+x.len*5+2,none⟩=some (stv nm)/\w.cell? ⟨b,off+x.len*5+3,none⟩=some (.slice ak ks.len ck)/\w.cell? ⟨b,off+x.len*5+4,none⟩=some (.int .i64 a)/\Sl w P ks ak:=by
 rcases h with h|⟨b,off,zs,rfl,hp,hlt,hc,hf⟩
 ·cases x using Fs.on with
  | nil=>cases h
  | cons k n nm a ks r=>cases h
 ·obtain⟨zx,zy,rfl,h3,h4⟩:=Fc.split hf;have hl:=h3.len;obtain⟨ak,ck,ys,rfl,h5,h6⟩:=h4;have hc':∀ j u,(.int .i64 k::.int .i64 n::stv nm::.slice ak ks.len ck::.int .i64 a::ys:List Value)[j]?=some u->w.cell?⟨b,off+x.len*5+j,none⟩=some u:=fun j u hu=>by
   have:=hc(x.len*5+j) u(by rw[List.getElem?_append_right(by omega),hl,Nat.add_sub_cancel_left];exact hu)
   rw[Nat.add_assoc];exact this
  exact⟨b,off,ak,ck,rfl,hlt,hp,hc' 0 _ rfl,hc' 1 _ rfl,hc' 2 _ rfl,hc' 3 _ rfl,hc' 4 _ rfl,h5⟩
abbrev SlA (w:World)(f:Fs)(ao:Option Addr):Prop:=Sl w (fun _=>True) f ao
theorem uH {x:Tk}{X:Res}{e:Nat × Nat}(h:iU x X=.inl e):X=.inl e:=by
 cases X with
 | inl e'=>exact h
 | inr l=>cases h
theorem vR {x:Tk}{X:Res}{ts:List Tk}(h:iU x X=.inr ts):∃us,X=.inr us/\ts=x::us:=by
 cases X with
 | inl e=>cases h
 | inr l =>
  refine⟨l,rfl,?_⟩;injection h with h
  exact h.symm
theorem js {k:Nat}{t:List UInt8}{a e q:Nat}{X:Res}(h:de k t a X=.inl (e,q)):(k≠0/\fM k t a=.inl e/\q=a)\/(X=.inl (e,q)/\(k=0\/∃x,fM k t a=.inr x)):=by
 unfold de at h;by_cases hk:k=0
 ·rw[if_pos hk] at h;exact .inr⟨h,.inl hk⟩
 ·rw[if_neg hk] at h;cases hp:fM k t a with
  | inl e' =>
   rw[hp] at h;simp only at h;injection h with h
   injection h with h1 h2
   exact .inl⟨hk,by rw[h1],h2.symm⟩
  | inr x =>
   rw[hp] at h;exact .inr⟨uH h,.inr⟨x,rfl⟩⟩
theorem cD {k:Nat}{t:List UInt8}{a:Nat}{X:Res}{ts:List Tk}(h:de k t a X=.inr ts):(k=0/\X=.inr ts)\/(k≠0/\∃x us,fM k t a=.inr x/\X=.inr us/\ts=x::us):=by
 unfold de at h;by_cases hk:k=0
 ·rw[if_pos hk] at h;exact .inl⟨hk,h⟩
 ·rw[if_neg hk] at h;cases hp:fM k t a with
  | inl e'=>rw[hp] at h;cases h
  | inr x =>
   rw[hp] at h;obtain⟨us,h1,h2⟩:=vR h;exact .inr⟨hk,x,us,rfl,h1,h2⟩
theorem wa (k:Nat)(t:List UInt8)(a p:Nat)(l:List UInt8)(e q:Nat)(h:bN k t a p l=.inl (e,q)):(k≠0/\q=a)\/(p<=q/\q<p+l.length):=by
 induction l generalizing k t a p with
 | nil =>
  rcases js h with⟨h1,_,h2⟩|⟨h1,_⟩
  ·exact .inl⟨h1,h2⟩
  ·cases h1
 | cons c r ih =>
  simp only[List.length_cons];cases ht:tks k t c.toNat
  ·rw[di ht] at h;rcases js h with⟨h1,_,h2⟩|⟨h1,_⟩
   ·exact .inl⟨h1,h2⟩
   ·rcases ih _ _ _ _ h1 with⟨_,h2⟩|⟨h2,h3⟩
    ·exact .inr⟨by omega,by omega⟩
    ·exact .inr⟨by omega,by omega⟩
  ·rw[cY ht] at h;rcases ih _ _ _ _ h with h2|⟨h2,h3⟩
   ·exact .inl h2
   ·exact .inr⟨by omega,by omega⟩
theorem yc (k:Nat)(t:List UInt8)(a p:Nat)(l:List UInt8)(e q:Nat)(h:bN k t a p l=.inl (e,q)):e=110\/e=111\/e=112:=by
 induction l generalizing k t a p with
 | nil =>
  rcases js h with⟨h1,h2,_⟩|⟨h1,_⟩
  ·exact px h2
  ·cases h1
 | cons c r ih =>
  cases ht:tks k t c.toNat
  ·rw[di ht] at h;rcases js h with⟨h1,h2,_⟩|⟨h1,_⟩
   ·exact px h2
   ·exact ih _ _ _ _ h1
  ·rw[cY ht] at h;exact ih _ _ _ _ h
theorem rq {l:List UInt8}(h:l.length<=2000):et l=mH l:=by
 unfold et;rw[if_neg(by omega)]
theorem xC {l:List UInt8}{e q:Nat}(h:et l=.inl (e,q))(he:e≠113):l.length<=2000/\mH l=.inl (e,q)/\q<l.length/\(e=110\/e=111\/e=112):=by
 unfold et at h;split at h
 ·injection h with h
  injection h with h1 h2
  omega
 ·refine⟨by omega,h,?_,yc _ _ _ _ _ _ _ h⟩;rcases wa _ _ _ _ _ _ _ h with⟨h1,_⟩|⟨_,h1⟩
  ·exact absurd rfl h1
  ·omega
theorem pI {k:Nat}{t:List UInt8}{a:Nat}{x:Tk}(h:fM k t a=.inr x):x.a=a/\∀ a',fM k t a'=.inr ⟨x.k,x.n,x.t,a'⟩:=by
 unfold fM at h ⊢;split at h
 ·unfold fs at h ⊢;split at h
  ·rename_i h1
   injection h with h
   subst h;exact⟨rfl,fun a'=>by rw[if_pos h1]⟩
  ·rename_i h1
   split at h
   ·rename_i h2
    injection h with h
    subst h;exact⟨rfl,fun a'=>by rw[if_neg h1,if_pos h2]⟩
   ·cases h
 ·unfold gO at h ⊢;cases ha:Lib.atoiAll t with
  | ok v =>
   rw[ha] at h;simp only at h ⊢;split at h
   ·cases h
   ·rename_i h1
    injection h with h
    subst h;exact⟨rfl,fun a'=>by rw[if_neg h1]⟩
  | _=>rw[ha] at h;cases h
 ·unfold mR at h ⊢;split at h
  ·cases h
  ·rename_i h1
   injection h with h
   subst h;exact⟨rfl,fun a'=>by rw[if_neg h1]⟩
 ·cases h
theorem qR (k:Nat)(t:List UInt8)(a p:Nat)(l:List UInt8)(ts:List Tk)(h:bN k t a p l=.inr ts)(ha:a<=p):∀ x,x ∈ ts->x.a<=p+l.length:=by
 induction l generalizing k t a p ts with
 | nil =>
  intro x hx;rcases cD h with⟨rfl,h1⟩|⟨hk,y,us,hp,h1,h2⟩
  ·injection h1 with h1
   subst h1;simp at hx;subst hx;exact Nat.le_refl _
  ·injection h1 with h1
   subst h1 h2;simp at hx;rcases hx with rfl|rfl
   ·have:=(pI hp).1
    simp;omega
   ·exact Nat.le_refl _
 | cons c r ih =>
  have e1:p+(c::r).length=p+1+r.length:=by simp;omega
  rw[e1];cases ht:tks k t c.toNat
  ·rw[di ht] at h;rcases cD h with⟨rfl,h1⟩|⟨hk,y,us,hp,h1,h2⟩
   ·exact ih _ _ _ _ _ h1(by omega)
   ·subst h2;intro x hx;rcases List.mem_cons.1 hx with rfl|hx
    ·have:=(pI hp).1
     omega
    ·exact ih _ _ _ _ _ h1(by omega) x hx
  ·rw[cY ht] at h;exact ih _ _ _ _ _ h(by omega)
theorem wk (k:Nat)(t:List UInt8)(a p:Nat)(l:List UInt8)(ts:List Tk)(h:bN k t a p l=.inr ts):ts.length<=l.length+2/\0<ts.length/\(k=0->ts.length<=l.length+1):=by
 induction l generalizing k t a p ts with
 | nil =>
  rcases cD h with⟨rfl,h1⟩|⟨hk,y,us,hp,h1,h2⟩
  ·injection h1 with h1
   subst h1;simp
  ·injection h1 with h1
   subst h1 h2;simp[hk]
 | cons c r ih =>
  simp only[List.length_cons];cases ht:tks k t c.toNat
  ·rw[di ht] at h;rcases cD h with⟨rfl,h1⟩|⟨hk,y,us,hp,h1,h2⟩
   ·have:=ih _ _ _ _ _ h1
    exact⟨by omega,by omega,fun _=>by omega⟩
   ·subst h2
    have:=ih _ _ _ _ _ h1
    simp only[List.length_cons];exact⟨by omega,by omega,fun h=>absurd h hk⟩
  ·rw[cY ht] at h
   have:=ih _ _ _ _ _ h
   exact⟨by omega,by omega,fun h=>by have:=this.2.2 h;omega⟩
theorem iZ {l:List UInt8}{ts:List Tk}(h:et l=.inr ts):l.length<=2000/\mH l=.inr ts/\ts.length<=2001/\ts.length<=l.length+1/\0<ts.length/\(∀ x,x ∈ ts->x.a<=l.length):=by
 unfold et at h;split at h
 ·cases h
 ·have h1:=wk _ _ _ _ _ _ h;have h2:=qR _ _ _ _ _ _ h(Nat.le_refl _);have h3:=h1.2.2 rfl;exact⟨by omega,h,by omega,h3,h1.2.1,fun x hx=>by have:=h2 x hx;omega⟩
theorem ow {l:List UInt8}{e q:Nat}(h:et l=.inl (e,q)):e≠0:=by
 by_cases he:e=113
 ·omega
 ·have:=(xC h he).2.2.2
  omega
def WFT (ts:List Tk):Prop:=∃e,ts.getLast?=some e/\e.k=0/\e.t=[]
theorem WFT.tail {x:Tk}{r:List Tk}(h:WFT (x::r))(hx:x.t≠[]\/x.k≠0):WFT r:=by
 obtain⟨e,h1,h2,h3⟩:=h;cases r with
 | nil =>
  simp at h1;subst h1;rcases hx with hx|hx
  ·exact absurd h3 hx
  ·exact absurd h2 hx
 | cons y l=>exact⟨e,by rw[List.getLast?_cons_cons] at h1;exact h1,h2,h3⟩
theorem WFT.ne {ts:List Tk}(h:WFT ts):ts≠[]:=by
 obtain⟨e,h1,_⟩:=h;intro e2;subst e2;cases h1
def dG {α:Type}(b:Nat)(r:Rs α):Prop :=
 match r with
 | ⟨none⟩=>False
 | ⟨some(.inl(_,_))⟩=>True
 | ⟨some(.inr(_,t))⟩=>WFT t/\t.length<b
theorem dG.bind {α β:Type}{b c:Nat}{r:Rs α}{f:α->List Tk->Rs β}(h:dG b r)(hf:∀ x t,WFT t->t.length<b->dG c (f x t)):dG c (r.bind f):=by
 cases r using Rs.on with
 | out=>exact h.elim
 | bad e a=>exact trivial
 | ok x t=>exact hf x t h.1 h.2
theorem eg {s:List UInt8}(hs:s≠[]){ts:List Tk}(h:WFT ts):dG ts.length (aW s ts):=by
 cases ts with
 | nil=>exact absurd rfl h.ne
 | cons x r =>
  simp only[aW];by_cases hx:x.t=s
  ·rw[if_pos hx];exact⟨h.tail(.inl(by rw[hx];exact hs)),by simp⟩
  ·rw[if_neg hx];exact trivial
theorem nL {k:Nat}(hk:k≠0){ts:List Tk}(h:WFT ts):dG ts.length (dO k ts):=by
 cases ts with
 | nil=>exact absurd rfl h.ne
 | cons x r =>
  simp only[dO];by_cases hx:x.k=k
  ·rw[if_pos hx];exact⟨h.tail(.inr(by rw[hx];exact hk)),by simp⟩
  ·rw[if_neg hx];exact trivial
theorem fK {s:List UInt8}(hs:s≠[])(o:Nat){ts:List Tk}(h:WFT ts):dG ts.length (aG s o ts):=by
 cases ts with
 | nil=>exact absurd rfl h.ne
 | cons x r =>
  simp only[aG];by_cases hx:x.t=s
  ·rw[if_pos hx];by_cases ho:o=64
   ·rw[if_pos ho];exact trivial
   ·rw[if_neg ho];exact⟨h.tail(.inl(by rw[hx];exact hs)),by simp⟩
  ·rw[if_neg hx];exact trivial
section
variable {rec:Rdr}{n:Nat}
theorem dH (H:∀ row o q ts,row<=8->WFT ts->10*ts.length+(9-row)<=n->dG ts.length (rec row o q ts)){o q:Nat}{ts:List Tk}(h:WFT ts)(hn:10*ts.length+8<=n):dG ts.length (rec 1 o q ts):=H 1 o q ts (by omega) h (by omega)
theorem lU (H:∀ row o q ts,row<=8->WFT ts->10*ts.length+(9-row)<=n->dG ts.length (rec row o q ts)):∀ (j:Nat) (o q:Nat) (acc:Fs) (ts:List Tk) (b:Nat),WFT ts->10*ts.length+8<=n->ts.length<b->dG b (fu rec j o q acc ts)
 | 0,o,q,acc,ts,b,h,hn,hb=>⟨h,hb⟩
 | j+1,o,q,acc,ts,b,h,hn,hb=>by
  unfold fu;refine(eg(by simp) h).bind fun _ t1 h1 l1=>?_;refine(dH H h1(by omega)).bind fun e t2 h2 l2=>?_;exact lU H j o q _ t2 b h2(by omega)(by omega)
theorem jK (H:∀ row o q ts,row<=8->WFT ts->10*ts.length+(9-row)<=n->dG ts.length (rec row o q ts))(many o q:Nat){ts:List Tk}(h:WFT ts)(hn:10*ts.length<=n):dG ts.length (eH rec many o q ts):=by
 unfold eH;refine(fK(by simp) o h).bind fun _ t1 h1 l1=>?_;refine(dH H h1(by omega)).bind fun e t2 h2 l2=>?_;refine(lU H(many-1)(o+1) q _ t2(t2.length+1) h2(by omega)(by omega)).bind fun ks t3 h3 l3=>?_;refine(eg(by simp) h3).bind fun _ t4 h4 l4=>?_;exact⟨h4,by omega⟩
theorem pN (H:∀ row o q ts,row<=8->WFT ts->10*ts.length+(9-row)<=n->dG ts.length (rec row o q ts))(o q:Nat){ts:List Tk}(h:WFT ts)(hn:10*ts.length<=n):dG ts.length (dw rec o q ts):=by
 unfold dw;refine(fK(by simp) o h).bind fun _ t1 h1 l1=>?_;refine(dH H h1(by omega)).bind fun e t2 h2 l2=>?_;refine(eg(by simp) h2).bind fun _ t3 h3 l3=>?_;refine(dH H h3(by omega)).bind fun e t4 h4 l4=>?_;refine(eg(by simp) h4).bind fun _ t5 h5 l5=>?_;refine(dH H h5(by omega)).bind fun e t6 h6 l6=>?_;exact⟨h6,by omega⟩
theorem nu (H:∀ row o q ts,row<=8->WFT ts->10*ts.length+(9-row)<=n->dG ts.length (rec row o q ts)):∀ (m:Nat) (o q:Nat) (acc:Fs) (ts:List Tk) (b:Nat),WFT ts->10*ts.length+8<=n->ts.length<m->ts.length<b->dG b (fP rec m o q acc ts)
 | 0,o,q,acc,ts,b,h,hn,hm,hb=>by omega
 | m+1,o,q,acc,ts,b,h,hn,hm,hb=>by
  cases ts with
  | nil=>exact absurd rfl h.ne
  | cons x r =>
   unfold fP;simp only[List.length_cons] at hn hm hb;by_cases hx:x.t=[44]
   ·simp only[hx,if_true];have hr:=h.tail(.inl(by rw[hx];simp));refine(dH H hr(by omega)).bind fun e t2 h2 l2=>?_;exact nu H m o q _ t2 b h2(by omega)(by omega)(by omega)
   ·simp only[hx,if_false];exact⟨h,by simpa using hb⟩
theorem yX (H:∀ row o q ts,row<=8->WFT ts->10*ts.length+(9-row)<=n->dG ts.length (rec row o q ts))(m o q:Nat){ts:List Tk}(h:WFT ts)(hn:10*ts.length+8<=n)(hm:ts.length<m):dG (ts.length+1) (jQ rec m o q ts):=by
 cases ts with
 | nil=>exact absurd rfl h.ne
 | cons x r =>
  unfold jQ;by_cases hx:x.t=[125]
  ·simp only[hx,if_true];exact⟨h,by omega⟩
  ·simp only[hx,if_false];refine(dH H h hn).bind fun e t1 h1 l1=>?_;exact nu H m o q _ t1 _ h1(by omega)(by omega)(by omega)
theorem wO (H:∀ row o q ts,row<=8->WFT ts->10*ts.length+(9-row)<=n->dG ts.length (rec row o q ts))(m o q:Nat){ts:List Tk}(h:WFT ts)(hn:10*ts.length<=n)(hm:ts.length<m):dG ts.length (eW rec m o q ts):=by
 cases ts with
 | nil=>exact absurd rfl h.ne
 | cons x r =>
  unfold eW;simp only[List.length_cons] at hn hm;by_cases hk:x.k=2
  ·simp only[hk,if_true];exact⟨h.tail(.inr(by rw[hk];decide)),by simp⟩
  simp only[hk,if_false];by_cases hv:x.t=[118,101,114,116,105,99,101,115]
  ·simp only[hv,if_true];exact⟨h.tail(.inl(by rw[hv];simp)),by simp⟩
  simp only[hv,if_false];by_cases ha:x.t=[97,114,111,117,110,100]
  ·simp only[ha,if_true];have hr:=h.tail(.inl(by rw[ha];simp));refine(jK H 1 o q hr(by omega)).bind fun ks t h1 l1=>?_;exact⟨h1,by simp;omega⟩
  simp only[ha,if_false];refine(fK(by simp) o h).bind fun a t1 h1 l1=>?_;simp only[List.length_cons] at l1;refine(yX H m(o+1) q h1(by omega)(by omega)).bind fun ks t2 h2 l2=>?_;refine(eg(by simp) h2).bind fun _ t3 h3 l3=>?_;exact⟨h3,by simp;omega⟩
theorem rX (H:∀ row o q ts,row<=8->WFT ts->10*ts.length+(9-row)<=n->dG ts.length (rec row o q ts))(m:Nat){s:List UInt8}(hs:s≠[])(k o q:Nat){ts:List Tk}(h:WFT ts)(hn:10*ts.length<=n)(hm:ts.length<m):dG ts.length (dq rec m s k o q ts):=by
 cases ts with
 | nil=>exact absurd rfl h.ne
 | cons x r =>
  unfold dq;by_cases h4:q=4
  ·simp only[h4,if_true];exact trivial
  simp only[h4,if_false];refine(fK hs o h).bind fun _ t1 h1 l1=>?_;refine(nL(by decide) h1).bind fun _ t2 h2 l2=>?_;refine(eg(by simp) h2).bind fun _ t3 h3 l3=>?_;refine(wO H m(o+1)(q+1) h3(by omega)(by omega)).bind fun e t4 h4 l4=>?_;refine(eg(by simp) h4).bind fun _ t5 h5 l5=>?_;refine(dH H h5(by omega)).bind fun e t6 h6 l6=>?_;exact⟨h6,by omega⟩
theorem uO (H:∀ row o q ts,row<=8->WFT ts->10*ts.length+(9-row)<=n->dG ts.length (rec row o q ts))(m o q:Nat){ts:List Tk}(h:WFT ts)(hn:10*ts.length<=n)(hm:ts.length<m):dG ts.length (cA rec m o q ts):=by
 cases ts with
 | nil=>exact absurd rfl h.ne
 | cons x r =>
  unfold cA;have hl:r.length<(x::r).length:=by simp
  simp only;by_cases h1:x.k=1
  ·simp only[h1,if_true];exact⟨h.tail(.inr(by rw[h1];decide)),hl⟩
  simp only[h1,if_false];by_cases h2:x.k=2
  ·simp only[h2,if_true];exact⟨h.tail(.inr(by rw[h2];decide)),hl⟩
  simp only[h2,if_false];by_cases h3:x.t=[102,97,108,115,101]
  ·simp only[h3,if_true];exact⟨h.tail(.inl(by rw[h3];simp)),hl⟩
  simp only[h3,if_false];by_cases h4:x.t=[116,114,117,101]
  ·simp only[h4,if_true];exact⟨h.tail(.inl(by rw[h4];simp)),hl⟩
  simp only[h4,if_false];by_cases h5:x.t=[64]
  ·simp only[h5,if_true];have hr:=h.tail(.inl(by rw[h5];simp));refine(nL(by decide) hr).bind fun _ t2 k2 l2=>?_;exact⟨k2,by omega⟩
  simp only[h5,if_false];by_cases h6:x.t=[40]
  ·simp only[h6,if_true];refine(jK H 1 o q h hn).bind fun ks t1 k1 l1=>?_;exact⟨k1,l1⟩
  simp only[h6,if_false];by_cases h7:x.t=[105,102]
  ·simp only[h7,if_true];exact pN H o q h hn
  simp only[h7,if_false];cases hc:lp x.t with
  | some z =>
   obtain⟨a,k,many⟩:=z;have hx:x.t≠[]:=fun e=>by rw[e] at hc;cases hc
   have hr:=h.tail(.inl hx);simp only[List.length_cons] at hn;refine(jK H many o q hr(by omega)).bind fun ks t1 k1 l1=>?_;exact⟨k1,by omega⟩
  | none =>
   cases hq:jC x.t with
   | some z =>
    obtain⟨a,k⟩:=z;have hx:x.t≠[]:=fun e=>by rw[e] at hq;cases hq
    exact rX H m hx k o q h hn hm
   | none=>exact trivial
theorem nM (H:∀ row o q ts,row<=8->WFT ts->10*ts.length+(9-row)<=n->dG ts.length (rec row o q ts)){s:List UInt8}(hs:s≠[])(k:Int)(row o q:Nat)(hrow:row<=7){ts:List Tk}(h:WFT ts)(hn:10*ts.length+(8-row)<=n):dG ts.length (dc rec s k row o q ts):=by
 cases ts with
 | nil=>exact absurd rfl h.ne
 | cons x r =>
  unfold dc;by_cases hx:x.t=s
  ·simp only[hx,if_true];by_cases ho:o=64
   ·simp only[ho,if_true];exact trivial
   ·simp only[ho,if_false];have hr:=h.tail(.inl(by rw[hx];exact hs));simp only[List.length_cons] at hn;refine(H row(o+1) q r(by omega) hr(by omega)).bind fun e t2 h2 l2=>?_;exact⟨h2,by simp;omega⟩
  ·simp only[hx,if_false];exact H(row+1) o q _(by omega) h(by omega)
theorem ki (H:∀ row o q ts,row<=8->WFT ts->10*ts.length+(9-row)<=n->dG ts.length (rec row o q ts)):∀ (m row o q:Nat) (left:Ex) (ts:List Tk) (b:Nat),WFT ts->10*ts.length+8<=n->ts.length<m->ts.length<b->dG b (cU rec m row o q left ts)
 | 0,row,o,q,left,ts,b,h,hn,hm,hb=>by omega
 | m+1,row,o,q,left,ts,b,h,hn,hm,hb=>by
  cases ts with
  | nil=>exact absurd rfl h.ne
  | cons x r =>
   unfold cU;simp only;cases hz:vv x.t row with
   | none=>exact⟨h,hb⟩
   | some z =>
    obtain⟨zt,zk,zr,zl,zz⟩:=z;have hx:x.t≠[]:=fun e=>by
     have h1:=List.mem_of_find?_eq_some hz;have h2:=List.find?_some hz;simp at h2;have h3:=h2.1;rw[e] at h3;simp only[eB,List.mem_cons,List.not_mem_nil,or_false,Prod.mk.injEq] at h1;rcases h1 with⟨h,_⟩|⟨h,_⟩|⟨h,_⟩|⟨h,_⟩|⟨h,_⟩|⟨h,_⟩|⟨h,_⟩|⟨h,_⟩|⟨h,_⟩|⟨h,_⟩|⟨h,_⟩<;>(rw[h3] at h;cases h)
    have hz8:zz<=8:=by
     have h1:=List.mem_of_find?_eq_some hz;simp only[eB,List.mem_cons,List.not_mem_nil,or_false,Prod.mk.injEq] at h1;rcases h1 with h|h|h|h|h|h|h|h|h|h|h<;>(have:=h.2.2.2.2;omega)
    have hr:=h.tail(.inl hx);simp only[List.length_cons] at hn hm hb;refine(H zz o q r hz8 hr(by omega)).bind fun e t2 h2 l2=>?_;by_cases hlt:row<zl
    ·simp only[hlt,if_true];exact⟨h2,by omega⟩
    ·simp only[hlt,if_false];exact ki H m row o q _ t2 b h2(by omega)(by omega)(by omega)
end
theorem nd:∀ (n row o q:Nat) (ts:List Tk),row<=8->WFT ts->10*ts.length+(9-row)<=n->dG ts.length (cO n row o q ts)
 | 0,row,o,q,ts,hr,h,hn=>by
  have:=List.length_pos_iff.2 h.ne
  omega
 | n+1,row,o,q,ts,hr,h,hn=>by
  have H:=nd n;have hp:=List.length_pos_iff.2 h.ne;unfold cO;by_cases h3:row=3
  ·simp only[h3,if_true];exact nM H(by simp) 7 3 o q(by omega) h(by omega)
  simp only[h3,if_false];by_cases h7:row=7
  ·simp only[h7,if_true];exact nM H(by simp) 6 7 o q(by omega) h(by omega)
  simp only[h7,if_false];by_cases h8:row=8
  ·simp only[h8,if_true];exact uO H n o q h(by omega)(by omega)
  simp only[h8,if_false];refine(H(row+1) o q ts(by omega) h(by omega)).bind fun l t h1 l1=>?_;exact ki H n row o q l t _ h1(by omega)(by omega) l1
theorem uN {n:Nat}{ts:List Tk}(h:WFT ts)(hn:10*ts.length+8<=n):fd n ts≠.out:=by
 intro e;have F:dG ts.length(fd n ts)\/fd n ts≠.out:=by
  refine .inr ?_
  have:=nd n 1 0 0 ts(by omega) h(by omega)
  unfold fd;cases hr:cO n 1 0 0 ts using Rs.on with
  | out=>rw[hr] at this;exact this.elim
  | bad e a=>intro h;cases h
  | ok x t =>
   rw[hr] at this;cases t with
   | nil=>exact absurd rfl this.1.ne
   | cons y l =>
    simp only[Rs.bind];by_cases hy:y.k=0
    ·simp[hy]
    ·simp[hy]
 rcases F with F|F
 ·rw[e] at F;exact F
 ·exact F e
theorem tX (k:Nat)(t:List UInt8)(a p:Nat)(l:List UInt8)(ts:List Tk)(h:bN k t a p l=.inr ts):WFT ts:=by
 induction l generalizing k t a p ts with
 | nil =>
  unfold bN at h;rcases cD h with⟨_,h2⟩|⟨_,x,us,_,h2,rfl⟩
  ·unfold pL at h2;injection h2 with h2;subst h2;exact⟨_,rfl,rfl,rfl⟩
  ·unfold pL at h2;injection h2 with h2;subst h2;exact⟨_,rfl,rfl,rfl⟩
 | cons c r ih =>
  unfold bN at h;split at h
  ·exact ih _ _ _ _ _ h
  ·rcases cD h with⟨_,h2⟩|⟨_,x,us,_,h2,rfl⟩
   ·exact ih _ _ _ _ _ h2
   ·have:=ih _ _ _ _ _ h2
    obtain⟨e,h1,h3⟩:=this;cases us with
    | nil=>cases h1
    | cons y l=>exact⟨e,by rw[List.getLast?_cons_cons];exact h1,h3⟩
def dZ (l:List UInt8):Rs Ex :=
 match et l with
 | .inl(e,p)=>.bad e p
 | .inr ts=>fd 30000 ts
theorem rh (l:List UInt8):dZ l≠.out:=by
 unfold dZ;cases h:et l with
 | inl x=>obtain⟨e,p⟩:=x;intro h;cases h
 | inr ts =>
  have hs:=iZ h;exact uN(tX _ _ _ _ _ _ hs.2.1)(by omega)
def Lq {α:Type}(b:List Tk)(r:Rs α):Prop:=∀ x t,r=.ok x t->t <:+ b
theorem Lq.bind {α β:Type}{b:List Tk}{r:Rs α}{f:α->List Tk->Rs β}(h:Lq b r)(hf:∀ x t,t <:+ b->Lq b (f x t)):Lq b (r.bind f):=by
 cases r using Rs.on with
 | out=>intro x t e;cases e
 | bad e a=>intro x t e;cases e
 | ok x t=>exact hf x t(h x t rfl)
theorem Lq.bad {α:Type}(b:List Tk)(e a:Nat):Lq b (.bad e a:Rs α):=fun x t h=>by cases h
theorem Lq.out {α:Type}(b:List Tk):Lq b (.out:Rs α):=fun x t h=>by cases h
theorem Lq.ok {α:Type}{b:List Tk}(x:α){t:List Tk}(h:t <:+ b):Lq b (.ok x t):=fun y u e=>by
 obtain⟨_,e⟩:=Rs.ok_inj e;subst e;exact h
theorem fG (s:List UInt8){b:List Tk}{ts:List Tk}(h:ts <:+ b):Lq b (aW s ts):=by
 cases ts with
 | nil=>exact Lq.out _
 | cons x r =>
  simp only[aW];split
  ·exact Lq.ok _((List.suffix_cons x r).trans h)
  ·exact Lq.bad _ _ _
theorem tS (k:Nat){b:List Tk}{ts:List Tk}(h:ts <:+ b):Lq b (dO k ts):=by
 cases ts with
 | nil=>exact Lq.out _
 | cons x r =>
  simp only[dO];split
  ·exact Lq.ok _((List.suffix_cons x r).trans h)
  ·exact Lq.bad _ _ _
theorem jv (s:List UInt8)(o:Nat){b:List Tk}{ts:List Tk}(h:ts <:+ b):Lq b (aG s o ts):=by
 cases ts with
 | nil=>exact Lq.out _
 | cons x r =>
  simp only[aG];split
  ·split
   ·exact Lq.bad _ _ _
   ·exact Lq.ok _((List.suffix_cons x r).trans h)
  ·exact Lq.bad _ _ _
section
variable {rec:Rdr}
theorem qC (H:∀ row o q ts b,ts <:+ b->Lq b (rec row o q ts)):∀ (j:Nat) (o q:Nat) (acc:Fs) (ts:List Tk) (b:List Tk),ts <:+ b->Lq b (fu rec j o q acc ts)
 | 0,o,q,acc,ts,b,h=>Lq.ok _ h
 | j+1,o,q,acc,ts,b,h=>by
  unfold fu;exact(fG _ h).bind fun _ t1 h1=>(H _ _ _ _ _ h1).bind fun e t2 h2=>qC H j o q _ t2 b h2
theorem oK (H:∀ row o q ts b,ts <:+ b->Lq b (rec row o q ts))(many o q:Nat){b:List Tk}{ts:List Tk}(h:ts <:+ b):Lq b (eH rec many o q ts):=by
 unfold eH;exact(jv _ _ h).bind fun _ t1 h1=>(H _ _ _ _ _ h1).bind fun e t2 h2=>(qC H _ _ _ _ t2 b h2).bind fun ks t3 h3=>(fG _ h3).bind fun _ t4 h4=>Lq.ok _ h4
theorem vC (H:∀ row o q ts b,ts <:+ b->Lq b (rec row o q ts))(o q:Nat){b:List Tk}{ts:List Tk}(h:ts <:+ b):Lq b (dw rec o q ts):=by
 unfold dw;exact(jv _ _ h).bind fun _ t1 h1=>(H _ _ _ _ _ h1).bind fun e t2 h2=>(fG _ h2).bind fun _ t3 h3=>(H _ _ _ _ _ h3).bind fun e t4 h4=>(fG _ h4).bind fun _ t5 h5=>(H _ _ _ _ _ h5).bind fun e t6 h6=>Lq.ok _ h6
theorem tq (H:∀ row o q ts b,ts <:+ b->Lq b (rec row o q ts)):∀ (m:Nat) (o q:Nat) (acc:Fs) (ts:List Tk) (b:List Tk),ts <:+ b->Lq b (fP rec m o q acc ts)
 | 0,o,q,acc,ts,b,h=>Lq.out _
 | m+1,o,q,acc,[],b,h=>Lq.out _
 | m+1,o,q,acc,x::r,b,h=>by
  unfold fP;simp only;split
  ·exact(H _ _ _ _ _((List.suffix_cons x r).trans h)).bind fun e t2 h2=>tq H m o q _ t2 b h2
  ·exact Lq.ok _ h
theorem Ca (H:∀ row o q ts b,ts <:+ b->Lq b (rec row o q ts))(m o q:Nat){b:List Tk}{ts:List Tk}(h:ts <:+ b):Lq b (jQ rec m o q ts):=by
 cases ts with
 | nil=>exact Lq.out _
 | cons x r =>
  unfold jQ;simp only;split
  ·exact Lq.ok _ h
  ·exact(H _ _ _ _ _ h).bind fun e t1 h1=>tq H m o q _ t1 b h1
theorem Cu (H:∀ row o q ts b,ts <:+ b->Lq b (rec row o q ts))(m o q:Nat){b:List Tk}{ts:List Tk}(h:ts <:+ b):Lq b (eW rec m o q ts):=by
 cases ts with
 | nil=>exact Lq.out _
 | cons x r =>
  have hr:r <:+ b:=(List.suffix_cons x r).trans h;unfold eW;simp only;split
  ·exact Lq.ok _ hr
  ·split
   ·exact Lq.ok _ hr
   ·split
    ·exact(oK H 1 o q hr).bind fun ks t h1=>Lq.ok _ h1
    ·exact(jv _ _ h).bind fun _ t1 h1=>(Ca H m _ q h1).bind fun ks t2 h2=>(fG _ h2).bind fun _ t3 h3=>Lq.ok _ h3
theorem yW (H:∀ row o q ts b,ts <:+ b->Lq b (rec row o q ts))(m:Nat)(s:List UInt8)(k o q:Nat){b:List Tk}{ts:List Tk}(h:ts <:+ b):Lq b (dq rec m s k o q ts):=by
 cases ts with
 | nil=>exact Lq.out _
 | cons x r =>
  unfold dq;simp only;split
  ·exact Lq.bad _ _ _
  ·exact(jv _ _ h).bind fun _ t1 h1=>(tS _ h1).bind fun _ t2 h2=>(fG _ h2).bind fun _ t3 h3=>(Cu H m _ _ h3).bind fun _ t4 h4=>(fG _ h4).bind fun _ t5 h5=>(H _ _ _ _ _ h5).bind fun e t6 h6=>Lq.ok _ h6
theorem zL (H:∀ row o q ts b,ts <:+ b->Lq b (rec row o q ts))(m o q:Nat){b:List Tk}{ts:List Tk}(h:ts <:+ b):Lq b (cA rec m o q ts):=by
 cases ts with
 | nil=>exact Lq.out _
 | cons x r =>
  have hr:r <:+ b:=(List.suffix_cons x r).trans h;unfold cA;simp only;split
  ·exact Lq.ok _ hr
  ·split
   ·exact Lq.ok _ hr
   ·split
    ·exact Lq.ok _ hr
    ·split
     ·exact Lq.ok _ hr
     ·split
      ·exact(tS _ hr).bind fun _ t h1=>Lq.ok _ h1
      ·split
       ·exact(oK H 1 o q h).bind fun ks t h1=>Lq.ok _ h1
       ·split
        ·exact vC H o q h
        ·split
         ·exact(oK H _ o q hr).bind fun ks t h1=>Lq.ok _ h1
         ·split
          ·exact yW H m _ _ o q h
          ·exact Lq.bad _ _ _
theorem tQ (H:∀ row o q ts b,ts <:+ b->Lq b (rec row o q ts))(s:List UInt8)(k:Int)(row o q:Nat){b:List Tk}{ts:List Tk}(h:ts <:+ b):Lq b (dc rec s k row o q ts):=by
 cases ts with
 | nil=>exact Lq.out _
 | cons x r =>
  have hr:r <:+ b:=(List.suffix_cons x r).trans h;unfold dc;simp only;split
  ·split
   ·exact Lq.bad _ _ _
   ·exact(H _ _ _ _ _ hr).bind fun e t2 h2=>Lq.ok _ h2
  ·exact H _ _ _ _ _ h
theorem nD (H:∀ row o q ts b,ts <:+ b->Lq b (rec row o q ts)):∀ (m row o q:Nat) (left:Ex) (ts:List Tk) (b:List Tk),ts <:+ b->Lq b (cU rec m row o q left ts)
 | 0,row,o,q,left,ts,b,h=>Lq.out _
 | m+1,row,o,q,left,[],b,h=>Lq.out _
 | m+1,row,o,q,left,x::r,b,h=>by
  have hr:r <:+ b:=(List.suffix_cons x r).trans h;unfold cU;simp only;split
  ·exact Lq.ok _ h
  ·refine(H _ _ _ _ _ hr).bind fun e t2 h2=>?_;split
   ·exact Lq.ok _ h2
   ·exact nD H m row o q _ t2 b h2
end
theorem tm:∀ (n row o q:Nat) (ts:List Tk) (b:List Tk),ts <:+ b->Lq b (cO n row o q ts)
 | 0,row,o,q,ts,b,h=>Lq.out _
 | n+1,row,o,q,ts,b,h=>by
  have H:=tm n;unfold cO;split
  ·exact tQ H _ _ _ _ _ h
  ·split
   ·exact tQ H _ _ _ _ _ h
   ·split
    ·exact zL H n o q h
    ·exact(H _ _ _ _ _ h).bind fun l t h1=>nD H n row o q l t b h1
section
variable {g d:Nat}{v v':List Tk}
variable {rec:Rdr}
end
theorem dj (w:World)(xs:List Value)(t:TypeId):∀ j u,xs[j]?=some u->(w.alloc (.cells xs.toArray t)).cell? ((⟨w.heap.size,0,none⟩:Addr).add j)=some u:=fun j u hu=>by
 rw[show(⟨w.heap.size,0,none⟩:Addr).add j=⟨w.heap.size,j,none⟩ by simp only[Addr.add];split<;>simp_all];rw[cell_of_row _ w.heap.size j _ t(0,0)(heap_alloc_new w _)];simpa using hu
theorem ej (w:World)(b k:Nat)(b0 b1 b2 b3 b4:Value)(h:k≠b):(((((w.setCell ⟨b,0,none⟩ b0).setCell ⟨b,1,none⟩ b1).setCell ⟨b,2,none⟩ b2).setCell ⟨b,3,none⟩ b3).setCell ⟨b,4,none⟩ b4).heap[k]?=w.heap[k]? :=
 (heap_setCell_other _⟨b,4,none⟩ k b4 h).trans((heap_setCell_other _⟨b,3,none⟩ k b3 h).trans((heap_setCell_other _⟨b,2,none⟩ k b2 h).trans((heap_setCell_other _⟨b,1,none⟩ k b1 h).trans(heap_setCell_other w⟨b,0,none⟩ k b0 h))))
def Fs.plc:Fs->Prop
 | ⟨none⟩=>True
 | ⟨some⟨_,_,_,a,ks,r⟩⟩=>0<=a/\a<=1000000000/\ks.plc/\r.plc
abbrev N0 (n0:Nat)(o:Nat->Nat):Nat->Prop:=fun b=>n0<=b/\o b=0
def jX (w:World)(o:Nat->Nat)(n0:Nat)(acc:Fs)(v:Value):Prop:=∃xs,Row w o 2 25 5 v acc.len xs/\Fc w (N0 n0 o) acc xs
theorem Fc.lab {I:Nat->Prop}{w w':World}{o o':Nat->Nat}{n0:Nat}{f:Fs}{xs:List Value}(h:Fc w (N0 n0 o) f xs)(s:aa I w o w' o')(h0:¬I 0):Fc w' (N0 n0 o') f xs :=
 h.mono(fun i hp hl=>s.block i hl(by rw[hp.2];exact h0)) s.size(fun i hp hl=>⟨hp.1,(s.lab i hl).trans hp.2⟩)
theorem Sl.lab {I:Nat->Prop}{w w':World}{o o':Nat->Nat}{n0:Nat}{f:Fs}{ao:Option Addr}(h:Sl w (N0 n0 o) f ao)(s:aa I w o w' o')(h0:¬I 0):Sl w' (N0 n0 o') f ao :=
 h.mono(fun i hp hl=>s.block i hl(by rw[hp.2];exact h0)) s.size(fun i hp hl=>⟨hp.1,(s.lab i hl).trans hp.2⟩)
theorem jX.step {I:Nat->Prop}{w w':World}{o o':Nat->Nat}{n0:Nat}{acc:Fs}{v:Value}(h:jX w o n0 acc v)(s:aa I w o w' o')(h0:¬I 0)(h2:¬I 2):jX w' o' n0 acc v:=by
 obtain⟨xs,r,f⟩:=h;exact⟨xs,r.step s h2,f.lab s h0⟩
theorem jX.push {w w2:World}{o o2:Nat->Nat}{n0:Nat}{acc:Fs}{xs:List Value}{v2:Value}{y:Ex}{ao:Option Addr}{ce:Nat}(f:Fc w (N0 n0 o) acc xs)(S:Sl w (N0 n0 o) y.kids ao)(s:aa (fun x=>x=2) w o w2 o2)
  (r:Row w2 o2 2 25 5 v2(acc.len+1)(xs++[.int .i64 y.k,.int .i64 y.n,stv y.nm,.slice ao y.kids.len ce,.int .i64 y.a])):jX w2 o2 n0(acc.snoc y) v2 :=
 ⟨_,by rw[Fs.len_snoc];exact r,(f.lab s(by decide)).app(Fc.one ce(S.lab s(by decide)))⟩
theorem aJ {I:Nat->Prop}{n0:Nat}{a w w':World}{o o':Nat->Nat}(b:Below n0 a w)(s:aa I w o w' o')(h:∀ k,k<n0->¬I (o k))(hn:n0<=a.heap.size):Below n0 a w' :=
 ⟨s.os.trans b.os,s.tape.trans b.tape,s.output.trans b.output,Nat.le_trans b.size s.size,fun k hk=>(s.block k(by have:=b.size;omega)(h k hk)).trans(b.block k hk)⟩
theorem jG:∀ (x:Fs),x.app .nil=x
 | ⟨none⟩=>rfl
 | ⟨some⟨k,n,nm,a,ks,r⟩⟩=>by simp only[Fs.app];rw[jG r]
def FcN (w:World)(P:Nat->Prop):Fs->List Value->Prop
 | ⟨none⟩,xs=>xs=[]
 | ⟨some⟨k,n,nm,a,ks,r⟩⟩,xs=>∃ao cap ys,xs=.int .i64 k::.int .i64 n::stv nm::.slice ao ks.len cap::ys /\
   (ks=.nil\/∃b off zs,ao=some⟨b,off,none⟩/\P b/\b<w.heap.size/\(∀ j u,zs[j]?=some u->w.cell?⟨b,off+j,none⟩=some u)/\FcN w P ks zs)/\FcN w P r ys
def SlN (w:World)(P:Nat->Prop)(ks:Fs)(ao:Option Addr):Prop :=
 ks=.nil\/∃b off zs,ao=some⟨b,off,none⟩/\P b/\b<w.heap.size/\(∀ j u,zs[j]?=some u->w.cell?⟨b,off+j,none⟩=some u)/\FcN w P ks zs
def exN (e:Ex)(ao:Option Addr)(cap:Nat):Value:=.agg #[.int .i64 e.k,.int .i64 e.n,stv e.nm,.slice ao e.kids.len cap]
theorem ah (e:Ex)(ao:Option Addr)(cap:Nat):exN e ao cap=.agg #[.int .i64 e.k,.int .i64 e.n,stv e.nm,.slice ao e.kids.len cap]:=rfl
theorem FcN.len {w:World}{P:Nat->Prop}:∀ {f:Fs}{xs:List Value},FcN w P f xs->xs.length=f.len*4
 | ⟨none⟩,xs,h=>by
  have h:xs=[]:=h;subst h;rfl
 | ⟨some⟨k,n,nm,a,ks,r⟩⟩,xs,h=>by
  obtain⟨ao,cap,ys,rfl,_,h2⟩:=h
  have:=FcN.len h2
  simp only[List.length_cons,Fs.len];omega
theorem FcN.mono {w w':World}{P Q:Nat->Prop}(hb:∀ k,P k->k<w.heap.size->w'.heap[k]?=w.heap[k]?)(hs:w.heap.size<=w'.heap.size)(hq:∀ k,P k->k<w.heap.size->Q k):∀ {f:Fs}{xs:List Value},FcN w P f xs->FcN w' Q f xs
 | ⟨none⟩,xs,h=>h
 | ⟨some⟨k,n,nm,a,ks,r⟩⟩,xs,h=>by
  obtain⟨ao,cap,ys,rfl,h1,h2⟩:=h;refine⟨ao,cap,ys,rfl,?_,FcN.mono hb hs hq h2⟩;rcases h1 with h1|⟨b,off,zs,rfl,hp,hlt,hc,h3⟩
  ·exact .inl h1
  ·exact .inr⟨b,off,zs,rfl,hq b hp hlt,Nat.lt_of_lt_of_le hlt hs,fun j u hu=>(World.cell?_of_block(a:=⟨b,off+j,none⟩)(hb b hp hlt)).trans(hc j u hu),FcN.mono hb hs hq h3⟩
theorem SlN.mono {w w':World}{P Q:Nat->Prop}{f:Fs}{ao:Option Addr}(hb:∀ k,P k->k<w.heap.size->w'.heap[k]?=w.heap[k]?)(hs:w.heap.size<=w'.heap.size)(hq:∀ k,P k->k<w.heap.size->Q k)(h:SlN w P f ao):SlN w' Q f ao:=by
 rcases h with h|⟨b,off,zs,rfl,hp,hlt,hc,h3⟩
 ·exact .inl h
 ·exact .inr⟨b,off,zs,rfl,hq b hp hlt,Nat.lt_of_lt_of_le hlt hs,fun j u hu=>(World.cell?_of_block(a:=⟨b,off+j,none⟩)(hb b hp hlt)).trans(hc j u hu),h3.mono hb hs hq⟩
theorem FcN.app {w:World}{P:Nat->Prop}:∀ {f g:Fs}{xs ys:List Value},FcN w P f xs->FcN w P g ys->FcN w P (f.app g) (xs++ys)
 | ⟨none⟩,g,xs,ys,h,k=>by
  have h:xs=[]:=h;subst h;exact k
 | ⟨some⟨i,n,nm,a,ks,r⟩⟩,g,xs,ys,h,k=>by
  obtain⟨ao,cap,zs,rfl,h1,h2⟩:=h;exact⟨ao,cap,zs++ys,rfl,h1,FcN.app h2 k⟩
theorem FcN.one {w:World}{P:Nat->Prop}{e:Ex}{ao:Option Addr}(cap:Nat)(h:SlN w P e.kids ao):FcN w P (one e) [.int .i64 e.k,.int .i64 e.n,stv e.nm,.slice ao e.kids.len cap]:=⟨ao,cap,[],rfl,h,rfl⟩
theorem SlN.nil (w:World)(P:Nat->Prop)(ao:Option Addr):SlN w P .nil ao:=.inl rfl
theorem FcN.split {w:World}{P:Nat->Prop}:∀ {x y:Fs}{zs:List Value},FcN w P (x.app y) zs->∃zx zy,zs=zx++zy/\FcN w P x zx/\FcN w P y zy
 | ⟨none⟩,y,zs,h=>⟨[],zs,rfl,rfl,h⟩
 | ⟨some⟨k,n,nm,a,ks,r⟩⟩,y,zs,h=>by
  obtain⟨ao,cap,ys,rfl,h1,h2⟩:=h;obtain⟨zx,zy,rfl,h3,h4⟩:=FcN.split h2;exact⟨_,zy,rfl,⟨ao,cap,zx,rfl,h1,h3⟩,h4⟩
theorem SlN.kidQ {P:Nat->Prop}{w:World}{x r:Fs}{k n:Int}{nm:List UInt8}{a:Int}{ks:Fs}{ao:Option Addr}(h:SlN w P (x.app (.cons k n nm a ks r)) ao):∃b off ak ck,ao=some ⟨b,off,none⟩/\b<w.heap.size/\P b/\w.cell? ⟨b,off+x.len*4,none⟩=some (.int .i64 k)/\w.cell? ⟨b,off+x.len*4+1,none⟩=some (.int .i64 n)/\w.cell? ⟨b,off+x.len*4+2,none⟩=some (stv nm)/\w.cell? ⟨b,off+x.len*4+3,none⟩=some (.slice ak ks.len ck)/\SlN w P ks ak:=by
 rcases h with h|⟨b,off,zs,rfl,hp,hlt,hc,hf⟩
 ·cases x using Fs.on with
  | nil=>cases h
  | cons k n nm a ks r=>cases h
 ·obtain⟨zx,zy,rfl,h3,h4⟩:=FcN.split hf;have hl:=h3.len;obtain⟨ak,ck,ys,rfl,h5,h6⟩:=h4;have hc':∀ j u,(.int .i64 k::.int .i64 n::stv nm::.slice ak ks.len ck::ys:List Value)[j]?=some u->w.cell?⟨b,off+x.len*4+j,none⟩=some u:=fun j u hu=>by
   have:=hc(x.len*4+j) u(by rw[List.getElem?_append_right(by omega),hl,Nat.add_sub_cancel_left];exact hu)
   rw[Nat.add_assoc];exact this
  exact⟨b,off,ak,ck,rfl,hlt,hp,hc' 0 _ rfl,hc' 1 _ rfl,hc' 2 _ rfl,hc' 3 _ rfl,h5⟩
abbrev SnA (w:World)(f:Fs)(ao:Option Addr):Prop:=SlN w (fun _=>True) f ao
theorem SnA.below {w w':World}{f:Fs}{ao:Option Addr}(h:SnA w f ao)(b:Below w.heap.size w w'):SnA w' f ao:=h.mono (fun i _ hl=>b.block i hl) b.size (fun _ h _=>h)
theorem SlN.all {w:World}{P:Nat->Prop}{f:Fs}{ao:Option Addr}(h:SlN w P f ao):SnA w f ao:=h.mono (fun _ _ _=>rfl) (Nat.le_refl _) (fun _ _ _=>trivial)
theorem aI {w:World}{b:Nat}{a0 a1 a2 a3:Value}{t:TypeId}(h:w.heap[b]?=some (.cells #[a0,a1,a2,a3] t (0,0))):w.cell? ⟨b,0,none⟩=some a0/\w.cell? ⟨b,1,none⟩=some a1/\w.cell? ⟨b,2,none⟩=some a2/\w.cell? ⟨b,3,none⟩=some a3/\∀ j,w.frozen? ⟨b,j,none⟩=false:=by
 refine⟨?_,?_,?_,?_,fun j=>frozen_of_row w b j _ t h⟩<;>simp[cell_of_row w b _ _ t(0,0) h]
theorem pR:(Tryz.prog.info? 34).map (fun i=>(i.zero,i.size,i.bytes))=some (some (.agg #[.int .i64 0,.int .i64 0,.string ⟨#[]⟩,.slice none 0 0]),4,56):=by kernel_rfl
def wL (w:World)(y:Ex)(x:Ending)(w':World):Prop:=∃ao cap,x=.returned (exN y ao cap)/\SlN w' (Nw w.heap.size) y.kids ao/\Below w.heap.size w w'
def Fs.rng:Fs->Prop
 | ⟨none⟩=>True
 | ⟨some⟨_,n,_,_,ks,r⟩⟩=>-9223372036854775808<=n/\n<=9223372036854775807/\ks.rng/\r.rng
structure Ex.fit (e:Ex):Prop where
 nm:e.nm.length<=maxLen
 sh:e.kids.short
 len:e.kids.len<=1000000000
 n1:-9223372036854775808<=e.n
 n2:e.n<=9223372036854775807
 rng:e.kids.rng
theorem uE {t:List UInt8}(h:aX t=true):t.length<=12:=by
 cases t with
 | nil=>simp
 | cons c r =>
  simp only[aX,Bool.and_eq_true,decide_eq_true_eq] at h
  have:=h.1.1.1
  simp only[List.length_cons];omega
theorem jx {k:Int}{nm:List UInt8}(h:cu k nm=true):nm.length<=12:=by
 unfold cu at h;split at h
 ·exact uE h
 ·have:nm=[]:=by simpa using h
  rw[this];simp
theorem xo {k n:Int}{nm:List UInt8}{m:Nat}(h:(bS k n&&cu k nm&&aR k n m)=true)(h1:-9223372036854775808<=n)(h2:n<=9223372036854775807):okP k n nm m:=by
 simp only[Bool.and_eq_true] at h;exact⟨h.1.1,h.1.2,h.2,jx h.1.2,h1,h2⟩
theorem rQ:∀ (f:Fs) (b:Bool) (c c':Nat),f.rng->hFs f b c=some c'->f.okA/\c'=c+f.size
 | ⟨none⟩,b,c,c',hr,h=>by
  unfold hFs at h;injection h with h
  exact⟨trivial,h.symm⟩
 | ⟨some⟨k,n,nm,a,ks,r⟩⟩,b,c,c',hr,h=>by
  unfold hFs at h;split at h
  ·cases h
  ·split at h
   ·cases h
   ·split at h
    ·rename_i hk
     split at h
     ·cases h
     ·rename_i c2 h2
      obtain⟨o1,e1⟩:=rQ ks _(c+1) c2 hr.2.2.1 h2;obtain⟨o2,e2⟩:=rQ r false c2 c' hr.2.2.2 h;exact⟨⟨xo hk hr.1 hr.2.1,o1,o2⟩,by simp only[Fs.size];omega⟩
    ·cases h
theorem DP {e:Ex}{c c':Nat}(hf:e.fit)(h:hE e c=some c'):e.okA/\c'=c+1+e.kids.size/\c'<=2000:=by
 have hle:=DR h;unfold hE at h;split at h
 ·cases h
 ·split at h
  ·rename_i hk
   obtain⟨o1,e1⟩:=rQ e.kids _(c+1) c' hf.rng h;exact⟨⟨xo hk hf.n1 hf.n2,o1⟩,e1,hle⟩
  ·cases h
def s0:St:=⟨[],0,0,0,0⟩
def pZ (s:St):Bool:=!(decide (2000<s.t.length)||decide (64<s.m)||decide (4<s.n))
def fx (e:Ex):Option (List UInt8) :=
 if bm e.k then none
 else match hE e 0 with
  | none=>none
  | some _=>if pZ(wEx e 0 s0) then some(wEx e 0 s0).t else none
abbrev SlT (w:World)(f:Fs)(ao:Option Addr):Prop:=Sl w (fun _=>True) f ao
theorem SlT.below {w w':World}{f:Fs}{ao:Option Addr}(h:SlT w f ao)(b:Below w.heap.size w w'):SlT w' f ao:=h.mono (fun i _ hl=>b.block i hl) b.size (fun _ h _=>h)
theorem Sl.all {P:Nat->Prop}{w:World}{f:Fs}{ao:Option Addr}(h:Sl w P f ao):SlT w f ao:=h.mono (fun i _ hl=>rfl) (Nat.le_refl _) (fun _ _ _=>trivial)
theorem yt {w:World}{o:Nat->Nat}{i:Nat}{v:Value}{l:List UInt8}(h:Row w o i 5 1 v l.length (byL l)) :
  (convert 180 9 v).run Tryz.prog w=.ok(stv l) w:=by
 rcases Nat.eq_zero_or_pos l.length with h0|h0
 ·obtain rfl:l=[]:=List.length_eq_zero_iff.1 h0;obtain⟨ao,cap,rfl⟩:=h.form;cases ao with
  | none=>exact run_convert_bytes_nil(P:=Tryz.prog) w 180 5 Tryz.underlying180 Tryz.underlying5 _ _ 9 Tryz.underlying9
  | some a=>exact run_convert_bytes_back w 180 9 5 a cap [] Tryz.underlying180 Tryz.underlying5 Tryz.underlying9(fun j hj=>by simp at hj)
 ·obtain⟨g,cap,rfl,-,-,-,-,hc,-⟩:=h.pos h0;refine run_convert_bytes_back w 180 9 5⟨g,0,none⟩ cap l Tryz.underlying180 Tryz.underlying5 Tryz.underlying9(fun j hj=>?_)
  have:=hc j(by omega)
  rw[show(⟨g,0,none⟩:Addr).add j=⟨g,j,none⟩ by simp[Addr.add];intro h;exact h.symm,this];simp[byL,hj]
def DI (w:World)(r:Option (List UInt8))(x:Ending)(w':World):Prop:=x=.returned (.tuple #[stv (r.getD []),.int .i64 (if r.isSome then 0 else 122)])/\Below w.heap.size w w'
def CZ (rec:Rdr)(o q:Nat)(ts:List Tk):Rs Ex:=(aG [40] o ts).bind fun _ t1=>(rec 1 (o+1) q t1).bind fun e t2=>(aW [41] t2).bind fun _ t4=>.ok e t4
theorem xV (rec:Rdr)(o q:Nat)(ts:List Tk):((eH rec 1 o q ts).bind fun ks t1=>.ok ks.head t1)=CZ rec o q ts:=by
 unfold eH CZ;cases aG [40] o ts using Rs.on with
 | out=>rfl
 | bad e a=>rfl
 | ok a t1 =>
  show(((rec 1(o+1) q t1).bind fun e t2=>(fu rec 0(o+1) q(one e) t2).bind fun ks t3=>(aW [41] t3).bind fun _ t4=>.ok ks t4).bind fun ks t1=>.ok ks.head t1)=(rec 1(o+1) q t1).bind fun e t2=>(aW [41] t2).bind fun _ t4=>.ok e t4
  cases rec 1(o+1) q t1 using Rs.on with
  | out=>rfl
  | bad e a=>rfl
  | ok e t2 =>
   show(((aW [41] t2).bind fun _ t4=>Rs.ok(one e) t4).bind fun ks t1=>.ok ks.head t1)=(aW [41] t2).bind fun _ t4=>.ok e t4
   cases aW [41] t2 using Rs.on with
   | out=>rfl
   | bad e a=>rfl
   | ok a t4=>rfl
section
variable {g d:Nat}{v v':List Tk}{rec:Rdr}
end
theorem rp (k:Nat)(t:List UInt8)(a p:Nat)(l:List UInt8)(ts:List Tk)(c:UInt8)(m:List UInt8)(hb:∀ k t,k≠0->tks k t c.toNat=false)(h:bN k t a p l=.inr ts) :
  ∃us,ts=us++[⟨0,0,[],p+l.length⟩]/\bN k t a p(l++c::m)=lm us(bN 0 [](p+l.length)(p+l.length)(c::m)):=by
 induction l generalizing k t a p ts with
 | nil =>
  rcases cD h with⟨rfl,h1⟩|⟨hk,x,us,hp,h1,h2⟩
  ·injection h1 with h1
   exact⟨[],h1.symm,iG _ _ _ _ _ _⟩
  ·injection h1 with h1
   subst h1;refine⟨[x],h2,?_⟩;simp only[List.nil_append,List.length_nil,Nat.add_zero];rw[mX(hb k t hk)];unfold de;rw[if_neg hk,hp];rfl
 | cons d r ih =>
  have e1:p+(d::r).length=p+1+r.length:=by simp;omega
  rw[e1];cases ht:tks k t d.toNat
  ·rw[di ht] at h;rw[List.cons_append,di ht];rcases cD h with⟨rfl,h1⟩|⟨hk,x,us,hp,h1,h2⟩
   ·obtain⟨vs,h3,h4⟩:=ih _ _ _ _ _ h1;refine⟨vs,h3,?_⟩;rw[h4];rfl
   ·obtain⟨vs,h3,h4⟩:=ih _ _ _ _ _ h1;refine⟨x::vs,by rw[h2,h3];rfl,?_⟩;rw[h4];unfold de;rw[if_neg hk,hp];rfl
  ·rw[cY ht] at h;rw[List.cons_append,cY ht];exact ih _ _ _ _ _ h
theorem Bm (c:UInt8)(hc:c=40\/c=41)(k:Nat)(t:List UInt8)(hk:k≠0):tks k t c.toNat=false:=by
 unfold tks;split
 ·exact absurd rfl hk
 ·rcases hc with rfl|rfl<;>rfl
 ·rcases hc with rfl|rfl<;>rfl
 ·rcases hc with rfl|rfl<;>rfl
 ·rfl
theorem nj {k:Nat}{t:List UInt8}{a:Nat}{x:Tk}(h:fM k t a=.inr x):x.k≠0:=by
 unfold fM at h;split at h
 ·unfold fs at h
  repeat' split at h
  all_goals first|(injection h with h;subst h;simp)|cases h
 ·unfold gO at h
  repeat' split at h
  all_goals first|(injection h with h;subst h;simp)|cases h
 ·unfold mR at h;split at h
  all_goals first|(injection h with h;subst h;simp)|cases h
 ·cases h
theorem xJ (k:Nat)(t:List UInt8)(a p:Nat)(l:List UInt8)(us:List Tk)(e:Tk)(h:bN k t a p l=.inr (us++[e])):∀ x,x ∈ us->x.k≠0:=by
 induction l generalizing k t a p us with
 | nil =>
  unfold bN at h;rcases cD h with⟨_,h2⟩|⟨_,x,vs,hp,h2,h3⟩
  ·unfold pL at h2;injection h2 with h2
   have:us=[]:=by
    have:=congrArg List.length h2
    simp at this;exact this
   subst this;intro x hx;cases hx
  ·unfold pL at h2;injection h2 with h2
   subst h2
   have:us=[x]:=by
    have h4:us++[e]=[x]++[⟨0,0,[],p⟩]:=h3;exact List.append_inj_left' h4 rfl
   subst this;intro y hy;simp at hy;rw[hy];exact nj hp
 | cons c r ih =>
  unfold bN at h;split at h
  ·exact ih _ _ _ _ _ h
  ·rcases cD h with⟨_,h2⟩|⟨_,x,vs,hp,h2,h3⟩
   ·exact ih _ _ _ _ _ h2
   ·cases us with
    | nil=>intro y hy;cases hy
    | cons z us =>
     rw[List.cons_append] at h3;injection h3 with h4 h5
     subst h4 h5;intro y hy;rcases List.mem_cons.1 hy with rfl|hy
     ·exact nj hp
     ·exact ih _ _ _ _ _ h2 y hy
theorem rg {s:List UInt8}{x:Ex}{t:List Tk}(h:dZ s=.ok x t):∃us E,s.length<=2000/\mH s=.inr (us++[E])/\E=⟨0,0,[],s.length⟩/\us.length<=s.length/\(∀ y,y ∈ us->y.k≠0)/\cO 30000 1 0 0 (us++[E])=.ok x [E]:=by
 unfold dZ at h;cases hs:et s with
 | inl z=>obtain⟨e,p⟩:=z;rw[hs] at h;cases h
 | inr ts =>
  rw[hs] at h;have h:fd 30000 ts=.ok x t:=h;have hk:=iZ hs;obtain⟨us,h1,_⟩:=rp 0 [] 0 0 s ts 41 [](Bm 41(.inr rfl)) hk.2.1;rw[Nat.zero_add] at h1;subst h1;have hl:=xJ _ _ _ _ _ _ _ hk.2.1;refine⟨us,_,hk.1,hk.2.1,rfl,by have:=hk.2.2.2.1;simp at this;exact this,hl,?_⟩;unfold fd at h;cases hp:cO 30000 1 0 0(us++[⟨0,0,[],s.length⟩]) using Rs.on with
  | out=>rw[hp] at h;cases h
  | bad e a=>rw[hp] at h;cases h
  | ok y t0 =>
   rw[hp] at h;have hsf:=tm 30000 1 0 0 _ _(List.suffix_refl _) y t0 hp;cases t0 with
   | nil=>cases h
   | cons z r =>
    simp only[Rs.bind] at h;by_cases hz:z.k=0
    ·rw[if_pos hz] at h;obtain⟨h1,h2⟩:=Rs.ok_inj h;subst h1;obtain⟨pre,hpre⟩:=hsf;cases r with
     | nil =>
      have h3:pre++[z]=us++[⟨0,0,[],s.length⟩]:=hpre;have h4:=List.append_inj_right' h3 rfl;rw[h4]
     | cons z2 r =>
      exfalso;have h5:z ∈ us:=by
       have h6:pre++z::(z2::r)=us++[⟨0,0,[],s.length⟩]:=hpre;have h7:(pre++z::(z2::r)).dropLast=us:=by rw[h6];simp
       rw[<-h7]
       have:pre++z::(z2::r)=(pre++[z])++(z2::r):=by simp
       rw[this,List.dropLast_append_cons];simp
      exact hl z h5 hz
    ·rw[if_neg hz] at h;cases h
def LFn (w:World)(P:Nat->Prop):Fs->List Value->Prop
 | ⟨none⟩,xs=>xs=[]
 | ⟨some⟨k,n,nm,a,ks,r⟩⟩,xs=>∃b cap zs ys,xs=.int .i64 k::.int .i64 n::stv nm::.slice(some⟨b,0,none⟩) ks.len cap::ys /\
   (P b/\b<w.heap.size/\ks.len+1<=cap/\cap<=maxLen/\(∀ j u,zs[j]?=some u->w.cell?⟨b,0+j,none⟩=some u)/\w.cell?⟨b,ks.len*4,none⟩=some(.int .i64(-7))/\LFn w P ks zs)/\LFn w P r ys
def Spn (w:World)(P:Nat->Prop)(f:Fs)(b cap:Nat):Prop :=
 ∃zs,P b/\b<w.heap.size/\f.len+1<=cap/\cap<=maxLen/\(∀ j u,zs[j]?=some u->w.cell?⟨b,0+j,none⟩=some u)/\w.cell?⟨b,f.len*4,none⟩=some(.int .i64(-7))/\LFn w P f zs
theorem LFn.len {w:World}{P:Nat->Prop}:∀ {f:Fs}{xs:List Value},LFn w P f xs->xs.length=f.len*4
 | ⟨none⟩,xs,h=>by
  have h:xs=[]:=h;subst h;rfl
 | ⟨some⟨k,n,nm,a,ks,r⟩⟩,xs,h=>by
  obtain⟨b,cap,zs,ys,rfl,_,h2⟩:=h
  have:=LFn.len h2
  simp only[List.length_cons,Fs.len];omega
theorem LFn.mono {w w':World}{P Q:Nat->Prop}(hb:∀ k,P k->k<w.heap.size->w'.heap[k]?=w.heap[k]?)(hs:w.heap.size<=w'.heap.size)(hq:∀ k,P k->k<w.heap.size->Q k):∀ {f:Fs}{xs:List Value},LFn w P f xs->LFn w' Q f xs
 | ⟨none⟩,xs,h=>h
 | ⟨some⟨k,n,nm,a,ks,r⟩⟩,xs,h=>by
  obtain⟨b,cap,zs,ys,rfl,⟨hp,hlt,h1,h2,hc,h7,h3⟩,h4⟩:=h;exact⟨b,cap,zs,ys,rfl,⟨hq b hp hlt,Nat.lt_of_lt_of_le hlt hs,h1,h2,fun j u hu=>(World.cell?_of_block(a:=⟨b,0+j,none⟩)(hb b hp hlt)).trans(hc j u hu),(World.cell?_of_block(a:=⟨b,ks.len*4,none⟩)(hb b hp hlt)).trans h7,LFn.mono hb hs hq h3⟩,LFn.mono hb hs hq h4⟩
theorem Spn.mono {w w':World}{P Q:Nat->Prop}{f:Fs}{b cap:Nat}(hb:∀ k,P k->k<w.heap.size->w'.heap[k]?=w.heap[k]?)(hs:w.heap.size<=w'.heap.size)(hq:∀ k,P k->k<w.heap.size->Q k)(h:Spn w P f b cap):Spn w' Q f b cap:=by
 obtain⟨zs,hp,hlt,h1,h2,hc,h7,h3⟩:=h;exact⟨zs,hq b hp hlt,Nat.lt_of_lt_of_le hlt hs,h1,h2,fun j u hu=>(World.cell?_of_block(a:=⟨b,0+j,none⟩)(hb b hp hlt)).trans(hc j u hu),(World.cell?_of_block(a:=⟨b,f.len*4,none⟩)(hb b hp hlt)).trans h7,h3.mono hb hs hq⟩
theorem LFn.fc {w:World}{P:Nat->Prop}:∀ {f:Fs}{xs:List Value},LFn w P f xs->FcN w P f xs
 | ⟨none⟩,xs,h=>h
 | ⟨some⟨k,n,nm,a,ks,r⟩⟩,xs,h=>by
  obtain⟨b,cap,zs,ys,rfl,⟨hp,hlt,h1,h2,hc,h7,h3⟩,h4⟩:=h;exact⟨some⟨b,0,none⟩,cap,ys,rfl,.inr⟨b,0,zs,rfl,hp,hlt,hc,h3.fc⟩,h4.fc⟩
theorem Spn.sl {w:World}{P:Nat->Prop}{f:Fs}{b cap:Nat}(h:Spn w P f b cap):SnA w f (some ⟨b,0,none⟩):=by
 obtain⟨zs,hp,hlt,h1,h2,hc,h7,h3⟩:=h;exact(show SlN w P f(some⟨b,0,none⟩) from .inr⟨b,0,zs,rfl,hp,hlt,hc,h3.fc⟩).all
theorem LFn.app {w:World}{P:Nat->Prop}:∀ {f g:Fs}{xs ys:List Value},LFn w P f xs->LFn w P g ys->LFn w P (f.app g) (xs++ys)
 | ⟨none⟩,g,xs,ys,h,k=>by
  have h:xs=[]:=h;subst h;exact k
 | ⟨some⟨i,n,nm,a,ks,r⟩⟩,g,xs,ys,h,k=>by
  obtain⟨b,cap,zs,us,rfl,h1,h2⟩:=h;exact⟨b,cap,zs,us++ys,rfl,h1,LFn.app h2 k⟩
theorem LFn.one {w:World}{P:Nat->Prop}{e:Ex}{b cap:Nat}(h:Spn w P e.kids b cap):LFn w P (one e) [.int .i64 e.k,.int .i64 e.n,stv e.nm,.slice (some ⟨b,0,none⟩) e.kids.len cap]:=by
 obtain⟨zs,h⟩:=h;exact⟨b,cap,zs,[],rfl,h,rfl⟩
theorem LFn.lab {I:Nat->Prop}{w w':World}{o o':Nat->Nat}{n0:Nat}{f:Fs}{xs:List Value}(h:LFn w (N0 n0 o) f xs)(s:aa I w o w' o')(h0:¬I 0):LFn w' (N0 n0 o') f xs :=
 h.mono(fun i hp hl=>s.block i hl(by rw[hp.2];exact h0)) s.size(fun i hp hl=>⟨hp.1,(s.lab i hl).trans hp.2⟩)
theorem Spn.lab {I:Nat->Prop}{w w':World}{o o':Nat->Nat}{n0 b cap:Nat}{f:Fs}(h:Spn w (N0 n0 o) f b cap)(s:aa I w o w' o')(h0:¬I 0):Spn w' (N0 n0 o') f b cap :=
 h.mono(fun i hp hl=>s.block i hl(by rw[hp.2];exact h0)) s.size(fun i hp hl=>⟨hp.1,(s.lab i hl).trans hp.2⟩)
def gi (w:World)(o:Nat->Nat)(n0:Nat)(acc:Fs)(v:Value):Prop:=∃xs,Row w o 2 34 4 v acc.len xs/\LFn w (N0 n0 o) acc xs
theorem gi.step {I:Nat->Prop}{w w':World}{o o':Nat->Nat}{n0:Nat}{acc:Fs}{v:Value}(h:gi w o n0 acc v)(s:aa I w o w' o')(h0:¬I 0)(h2:¬I 2):gi w' o' n0 acc v:=by
 obtain⟨xs,r,f⟩:=h;exact⟨xs,r.step s h2,f.lab s h0⟩
theorem gi.push {w w2:World}{o o2:Nat->Nat}{n0 b ce:Nat}{acc:Fs}{xs:List Value}{v2:Value}{y:Ex}(f:LFn w (N0 n0 o) acc xs)(S:Spn w (N0 n0 o) y.kids b ce)(s:aa (fun x=>x=2) w o w2 o2)
  (r:Row w2 o2 2 34 4 v2(acc.len+1)(xs++[.int .i64 y.k,.int .i64 y.n,stv y.nm,.slice(some⟨b,0,none⟩) y.kids.len ce])):gi w2 o2 n0(acc.snoc y) v2 :=
 ⟨_,by rw[Fs.len_snoc];exact r,(f.lab s(by decide)).app(LFn.one(S.lab s(by decide)))⟩
theorem gi.last {w w2:World}{o o2:Nat->Nat}{n0 g cap:Nat}{acc:Fs}{xs:List Value}(f:LFn w (N0 n0 o) acc xs)(s:aa (fun x=>x=2) w o w2 o2)(ho:∀ k,k<n0->o2 k=0)
  (r:Row w2 o2 2 34 4(.slice(some⟨g,0,none⟩)(acc.len+1) cap)(acc.len+1)(xs++[.int .i64(-7),.int .i64 0,.string⟨#[]⟩,.slice none 0 0])) :
  Spn w2(fun b=>n0<=b/\(o2 b=0\/o2 b=2)) acc g cap/\acc.len+1<=cap:=by
 obtain⟨g',cap',hv,hg,hc1,hc2,hlt,hc,_⟩:=r.pos(by omega);simp only[Value.slice.injEq,Option.some.injEq,Addr.mk.injEq,true_and,and_true] at hv;obtain⟨rfl,rfl⟩:=hv;have hl:=f.len;have f2:=f.lab s(by decide);refine⟨⟨xs,⟨?_,.inr hg⟩,hlt,hc1,hc2,fun j u hu=>?_,?_,f2.mono(fun _ _ _=>rfl)(Nat.le_refl _)(fun _ hp _=>⟨hp.1,.inl hp.2⟩)⟩,hc1⟩
 ·by_cases hn:n0<=g
  ·exact hn
  ·have:=ho g(by omega)
   omega
 ·have hj:j<xs.length:=by
   by_cases hj:j<xs.length
   ·exact hj
   ·rw[List.getElem?_eq_none(by omega)] at hu;cases hu
  rw[Nat.zero_add,hc j(by omega),List.getElem?_append_left hj];exact hu
 ·rw[hc(acc.len*4)(by omega),List.getElem?_append_right(by omega),hl,Nat.sub_self];rfl
theorem nC (w:World)(b k:Nat)(b0 b1 b2 b3:Value)(h:k≠b):((((w.setCell ⟨b,0,none⟩ b0).setCell ⟨b,1,none⟩ b1).setCell ⟨b,2,none⟩ b2).setCell ⟨b,3,none⟩ b3).heap[k]?=w.heap[k]? :=
 (heap_setCell_other _⟨b,3,none⟩ k _ h).trans((heap_setCell_other _⟨b,2,none⟩ k _ h).trans((heap_setCell_other _⟨b,1,none⟩ k _ h).trans(heap_setCell_other _⟨b,0,none⟩ k _ h)))
def q7 (w:World)(e:Ex)(x:Ending)(w':World):Prop:=∃b cap,x=.returned (exN e (some ⟨b,0,none⟩) cap)/\Spn w' (Nw w.heap.size) e.kids b cap/\Below w.heap.size w w'
def ov (N:Nat):Prop:=∀ (e:Ex) (ao:Option Addr) (cap:Nat) (w:World),e.kids.size<N->e.kids.len<=1000000000->e.kids.short->SnA w e.kids ao ->
 Calls Tryz.prog 43 #[exN e ao cap] w(q7 w e)
theorem ss {N:Nat}(IH:ov N):ov (N+1):=by
 intro e ao cap w hN hlen hsh S;obtain⟨ii,hii,hzi0,hzi1,hzi2⟩:=aH pR;obtain⟨w0,hw0⟩:∃w0,w0=((w.alloc(.cells #[.int .i64 e.k,.int .i64 e.n,stv e.nm,.slice ao e.kids.len cap] 34)).alloc(.cells #[.int .i64 0,.int .i64 0,.string⟨#[]⟩,.slice none 0 0] 34)).alloc(.cells #[.int .i64 e.k,.int .i64 e.n,stv e.nm,.slice none 0 0] 34):=⟨_,rfl⟩
 have B0:Below w.heap.size w w0:=by rw[hw0];exact(((Below.refl _ w).alloc(Nat.le_refl _) _).alloc(by simp) _).alloc(by simp;omega) _
 obtain⟨o0,ho0⟩:∃o0:Nat->Nat,o0=fun k=>if k=w.heap.size+1+1 then 1 else if k=w.heap.size+1 then 3 else 0:=⟨_,rfl⟩
 have E0:Blk w0 o0 0 w.heap.size(.cells #[.int .i64 e.k,.int .i64 e.n,stv e.nm,.slice ao e.kids.len cap] 34):=by
  refine⟨?_,by rw[ho0];simp only;rw[if_neg(by omega),if_neg(by omega)]⟩;rw[hw0];exact(Below.heap_alloc _ _ _(by simp;omega)).trans((Below.heap_alloc _ _ _(by simp)).trans(heap_alloc_new w _))
 have Z0:Blk w0 o0 3(w.heap.size+1)(.cells #[.int .i64 0,.int .i64 0,.string⟨#[]⟩,.slice none 0 0] 34):=by
  refine⟨?_,by rw[ho0];simp⟩;rw[hw0];refine(Below.heap_alloc _ _ _(by simp)).trans ?_
  have:=heap_alloc_new(w.alloc(.cells #[.int .i64 e.k,.int .i64 e.n,stv e.nm,.slice ao e.kids.len cap] 34))(.cells #[.int .i64 0,.int .i64 0,.string⟨#[]⟩,.slice none 0 0] 34)
  simpa using this
 have O0:Blk w0 o0 1(w.heap.size+1+1)(.cells #[.int .i64 e.k,.int .i64 e.n,stv e.nm,.slice none 0 0] 34):=by
  refine⟨?_,by rw[ho0];simp⟩;rw[hw0]
  have:=heap_alloc_new((w.alloc(.cells #[.int .i64 e.k,.int .i64 e.n,stv e.nm,.slice ao e.kids.len cap] 34)).alloc(.cells #[.int .i64 0,.int .i64 0,.string⟨#[]⟩,.slice none 0 0] 34))(.cells #[.int .i64 e.k,.int .i64 e.n,stv e.nm,.slice none 0 0] 34)
  simpa using this
 have L0:∀ k,k<w.heap.size->o0 k=0:=fun k hk=>by rw[ho0];simp only;rw[if_neg(by omega),if_neg(by omega)]
 have A0:gi w0 o0 w.heap.size .nil(.slice none 0 0):=⟨[],Row.nil _ _ _ _ _,rfl⟩
 rw[ah];go_enter Tryz.func43,Tryz.ntmps43;go_upto_region 2 with fail;rw[<-hw0];clear hw0 ho0;obtain⟨n0,hn0⟩:∃n0,n0=w.heap.size:=⟨_,rfl⟩
 unfold q7;rw[<-hn0] at E0 Z0 O0 L0 A0 B0 ⊢;have HB:Hid(n0=w.heap.size):=hn0;clear hn0;go_wp2;go_loopw [4](fun v wr=>∃(done r:Fs)(o:Nat->Nat)(va:Value),Hid(e.kids=done.app r)/\v=.int .i64(done.len:Nat)/\Blk wr o 0 n0(.cells #[.int .i64 e.k,.int .i64 e.n,stv e.nm,.slice ao e.kids.len cap] 34)/\Blk wr o 3(n0+1)(.cells #[.int .i64 0,.int .i64 0,.string⟨#[]⟩,.slice none 0 0] 34)/\Blk wr o 1(n0+1+1)(.cells #[.int .i64 e.k,.int .i64 e.n,stv e.nm,va] 34)/\gi wr o n0 done va/\Hid(∀ k,k<n0->o k=0)/\Below n0 w wr)(fun v _=>e.kids.len-(intOf v).toNat)
 case atStart=>exact⟨.nil,e.kids,o0,.slice none 0 0,rfl,by show _=Value.int .i64((0:Nat):Int);rfl,E0,Z0,O0,A0,L0,B0⟩
 case round =>
  clear E0 Z0 O0 A0 L0 B0;obtain⟨done,r,o,va,hk,rfl,E1,Z1,O1,A1,L1,B1⟩:=hrel;have hlk:e.kids.len=done.len+r.len:=by rw[hk.out,Fs.len_app]
  obtain⟨p0,p1,p2,p3,pf⟩:=aI E1.1;cases r using Fs.on with
  | nil =>
   have hl0:¬(done.len:Int)<(e.kids.len:Int):=by simp only[Fs.len] at hlk;omega
   have hdn:e.kids=done:=by rw[hk.out];clear hk hlk hl0 A1;exact jG done
   have HDN:=Lib.hid hdn;obtain⟨xs,R1,F1⟩:=A1;obtain⟨a8,c8,rfl⟩:=R1.form;have b1:done.len+1<=maxLen:=by unfold maxLen;omega
   have b2:(done.len+1)*56<=140737488355328:=by omega
   have hone:∀ u ∈ [Value.int .i64(-7),.int .i64 0,.string⟨#[]⟩,.slice none 0 0],u.oneCell'=true:=by intro u hu;simp at hu;rcases hu with rfl|rfl|rfl|rfl<;>rfl
   have hO:=O1.lt;clear hk hlk hdn;go_upto_region 7 with fail;go_cut [41](fun v wx=>∃(o9:Nat->Nat)(g9 c9:Nat),Blk wx o9 1(n0+1+1)(.cells #[.int .i64 e.k,.int .i64 e.n,stv e.nm,.slice(some⟨g9,0,none⟩) done.len c9] 34(0,0))/\Blk wx o9 3(n0+1)(.cells #[.int .i64 0,.int .i64 0,.string⟨#[]⟩,.slice none 0 0] 34(0,0))/\Spn wx(fun b=>n0<=b/\(o9 b=0\/o9 b=2)) done g9 c9/\Below n0 w wx)
   case first =>
    obtain⟨t0,t1,t2,t3,tf⟩:=aI O1.1;have sA:=(aO(fun _=>False) wr o(.cells #[.int .i64(-7),.int .i64 0,.string⟨#[]⟩,.slice none 0 0] 34)).drew;have LA:Hid(∀ k,k<n0->ae wr o 0 k=0):=fun k hk=>by rw[aC(by have:=E1.lt;omega)];exact L1.out k hk
    have RA:=R1.step sA id;have FA:=F1.lab sA id;have OA:=O1.step sA id;have ZA:=Z1.step sA id;have BA:=aJ B1 sA(fun _ _=>id)(by rw[HB.out];exact Nat.le_refl _);have hnI:(done.len:Int)<=(done.len:Int)+1:=by omega
    go_region_law(refine cZ rfl(.tmp 33)(.tmp 35) 32 rfl 34 ii _ 4 56 Tryz.underlying32 hii hzi0 hzi1 hzi2 rfl(by decide)(ae wr o 0) 2 _ done.len xs(by simp[Act.eval,Act.put]) RA⟨wr.heap.size,0,none⟩ 1 1 [Value.int .i64(-7),.int .i64 0,.string⟨#[]⟩,.slice none 0 0](by simp[Act.eval,Act.put]) rfl(dj wr _ _) hone(by decide) b1 b2 ?_;intro g9 c9 w9 o9 r9 s9;have L9:∀ k,k<n0->o9 k=0:=fun k hk=>(s9.lab k(by have h1:=OA.lt;omega)).trans(LA.out k hk);have SP:=gi.last FA s9 L9 r9;have hc9:done.len<=c9:=(by have:=SP.2;omega);have O9:=OA.step s9(by decide);have Z9:=ZA.step s9(by decide);have B9:=aJ BA s9(fun k hk=>by rw[LA.out k hk];decide)(by rw[HB.out];exact Nat.le_refl _);obtain⟨u0,u1,u2,u3,uf⟩:=aI O9.1)
    all_goals
     have s10:aa(fun k=>k=1) w9 o9(w9.setCell⟨n0+1+1,3,none⟩(.slice(some⟨g9,0,none⟩) done.len c9)) o9:=bU _ w9 o9⟨n0+1+1,3,none⟩ _ O9.2;have O10:=O9.set 3(.slice(some⟨g9,0,none⟩) done.len c9);have Z10:=Z9.step s10(by decide);have B10:=aJ B9 s10(fun k hk=>by rw[L9 k hk];decide)(by rw[HB.out];exact Nat.le_refl _);have SP10:=SP.1.mono(fun i hp hl=>s10.block i hl(by rcases hp.2 with h|h<;>omega)) s10.size(fun _ h _=>h);clear s10 SP O9 Z9 B9 L9 s9 r9 RA FA OA ZA BA LA sA;go_wp2;go_meet;exact⟨o9,g9,c9,O10,Z10,SP10,B10⟩
   case rest =>
   obtain⟨o9,g9,c9,O9,Z9,SP,B9⟩:=hcut;clear E1 Z1 O1 R1 F1 L1 B1;have SE:=SP.mono(w':=(((wc.setCell⟨n0+1,0,none⟩(.int .i64 e.k)).setCell⟨n0+1,1,none⟩(.int .i64 e.n)).setCell⟨n0+1,2,none⟩(stv e.nm)).setCell⟨n0+1,3,none⟩(.slice(some⟨g9,0,none⟩) done.len c9))(Q:=Nw n0)(fun i hp hl=>nC wc(n0+1) i _ _ _ _(fun ee=>by
    have h2:=Z9.2;rw[<-ee] at h2;rcases hp.2 with h|h<;>omega))(by simp)(fun i hp _=>hp.1)
   have BE:=(((B9.setCell(p:=⟨n0+1,0,none⟩)(Nat.le_succ _)(.int .i64 e.k)).setCell(p:=⟨n0+1,1,none⟩)(Nat.le_succ _)(.int .i64 e.n)).setCell(p:=⟨n0+1,2,none⟩)(Nat.le_succ _)(stv e.nm)).setCell(p:=⟨n0+1,3,none⟩)(Nat.le_succ _)(.slice(some⟨g9,0,none⟩) done.len c9);have ZE:=wG(b0:=.int .i64 e.k)(b1:=.int .i64 e.n)(b2:=stv e.nm)(b3:=.slice(some⟨g9,0,none⟩) done.len c9) Z9.1;have HU:Hid(∃wz,wz=(((wc.setCell⟨n0+1,0,none⟩(.int .i64 e.k)).setCell⟨n0+1,1,none⟩(.int .i64 e.n)).setCell⟨n0+1,2,none⟩(stv e.nm)).setCell⟨n0+1,3,none⟩(.slice(some⟨g9,0,none⟩) done.len c9)/\wz.cell?⟨n0+1,0,none⟩=some(.int .i64 e.k)/\wz.cell?⟨n0+1,1,none⟩=some(.int .i64 e.n)/\wz.cell?⟨n0+1,2,none⟩=some(stv e.nm)/\wz.cell?⟨n0+1,3,none⟩=some(.slice(some⟨g9,0,none⟩) done.len c9)/\Spn wz(Nw n0) done g9 c9/\Below n0 w wz):=by
    obtain⟨u0,u1,u2,u3,-⟩:=aI ZE;exact⟨_,rfl,u0,u1,u2,u3,SE,BE⟩
   obtain⟨u0,u1,u2,u3,uf⟩:=aI O9.1;obtain⟨z0,z1,z2,z3,zf⟩:=aI Z9.1;clear SE BE ZE O9 Z9 SP B9;go_wp2;obtain⟨wz,hwz,v0,v1,v2,v3,SZ,BZ⟩:=HU.out;clear HU;rw[<-hwz];clear hwz;refine bodyPost_ret(v:=exN e(some⟨g9,0,none⟩) c9)(by simp[results,Tryz.results43,go_sem,v0,v1,v2,v3,exN,HDN.out]) rfl⟨g9,c9,rfl,by rw[HDN.out,<-HB.out];exact SZ,by rw[<-HB.out];exact BZ⟩
  | cons kk kn km ka kks kr =>
   have hl0:(done.len:Int)<(e.kids.len:Int):=by simp only[Fs.len] at hlk;omega
   have hl1:done.len<e.kids.len:=by omega
   have hsz:e.kids.size=done.size+(kks.size+kr.size+1):=by rw[hk.out,Fs.size_app];rfl
   have hsk:(Fs.cons kk kn km ka kks kr).short:=Fs.app_short(by rw[<-hk.out];exact hsh);have hn0:n0<=wr.heap.size:=by have:=E1.lt;omega
   obtain⟨b,off,ak,ck,hao,lb1,-,x0,x1,x2,x3,SK⟩:=SlN.kidQ(by rw[<-hk.out];exact SnA.below S(by rw[<-HB.out];exact B1));subst hao;obtain⟨y,hy⟩:∃y:Ex,y=⟨kk,kn,km,ka,kks⟩:=⟨_,rfl⟩
   have hc0:=IH⟨kk,kn,km,ka,kks⟩ ak ck wr(by show kks.size<N;omega) hsk.2.1 hsk.2.2.1 SK;have hc:Calls Tryz.prog 43 #[.agg #[.int .i64 kk,.int .i64 kn,stv km,.slice ak kks.len ck]] wr(q7 wr y):=by rw[hy];exact hc0
   clear hc0;have hk2:Hid(e.kids=(done.snoc⟨kk,kn,km,ka,kks⟩).app kr):=by show e.kids=_;rw[hk.out];unfold Fs.snoc;rw[Fs.app_assoc];rfl
   have HS:Hid(done.snoc⟨kk,kn,km,ka,kks⟩=done.snoc y):=by show _=_;rw[hy]
   have hl2:(done.len:Int)+1=((done.snoc⟨kk,kn,km,ka,kks⟩).len:Nat):=by rw[Fs.len_snoc];rfl
   clear hlk hsz hsk hy SK;go_wp2_with fail;refine hc.mono ?_;rintro x w6⟨bk6,ck6,rfl,S6,b6⟩;have s6:aa(fun _=>False) wr o w6(ae wr o 0):=((aa.refl _ wr o).labelled 0).trans(aa.ofB(ae wr o 0) b6);have T6:Spn w6(N0 n0(ae wr o 0)) y.kids bk6 ck6:=S6.mono(fun _ _ _=>rfl)(Nat.le_refl _)(fun i hp hl=>⟨Nat.le_trans hn0 hp,ax hp⟩);have L6:Hid(∀ k,k<n0->ae wr o 0 k=0):=fun k hk=>by rw[aC(by omega)];exact L1.out k hk
   have E6:=E1.step s6 id;have Z6:=Z1.step s6 id;have O6:=O1.step s6 id;have A6:=A1.step s6 id id;have B6:=aJ B1 s6(fun _ _=>id)(by rw[HB.out];exact Nat.le_refl _);generalize ae wr o 0=o6 at *;clear hc S6 b6 s6 E1 Z1 O1 A1 B1 L1 x0 x1 x2 x3 p0 p1 p2 p3 pf;have s7:=aO(fun _=>False) w6 o6(.cells #[.int .i64 y.k,.int .i64 y.n,stv y.nm,.slice(some⟨bk6,0,none⟩) y.kids.len ck6] 34);have K7:=fE w6 o6 #[.int .i64 y.k,.int .i64 y.n,stv y.nm,.slice(some⟨bk6,0,none⟩) y.kids.len ck6] 34;have T7:=T6.lab s7 id;have hs6:n0<=w6.heap.size:=by have:=E6.lt;omega
   have L7:Hid(∀ k,k<n0->ae w6 o6 0 k=0):=fun k hk=>by rw[aC(by omega)];exact L6.out k hk
   have E7:=E6.step s7 id;have Z7:=Z6.step s7 id;have O7:=O6.step s7 id;have A7:=A6.step s7 id id;have B7:=aJ B6 s7(fun _ _=>id)(by rw[HB.out];exact Nat.le_refl _);rw[ah];go_upto_region 6 with fail;generalize ae w6 o6 0=o7 at *;generalize w6.alloc(.cells #[.int .i64 y.k,.int .i64 y.n,stv y.nm,.slice(some⟨bk6,0,none⟩) y.kids.len ck6] 34)=w7 at *;generalize w6.heap.size=bk at *;clear s7 T6 E6 Z6 O6 A6 B6 L6;obtain⟨p0,p1,p2,p3,pf⟩:=aI O7.1;obtain⟨q0,q1,q2,q3,qf⟩:=aI K7.1;have s8:=aO(fun _=>False) w7 o7(.cells #[.int .i64 y.k,.int .i64 y.n,stv y.nm,.slice(some⟨bk6,0,none⟩) y.kids.len ck6] 34);have T8:=T7.lab s8 id;have L8:Hid(∀ k,k<n0->ae w7 o7 0 k=0):=fun k hk=>by rw[aC(by have:=E7.lt;omega)];exact L7.out k hk
   have E8:=E7.step s8 id;have Z8:=Z7.step s8 id;have O8:=O7.step s8 id;have A8:=A7.step s8 id id;have B8:=aJ B7 s8(fun _ _=>id)(by rw[HB.out];exact Nat.le_refl _);obtain⟨xs,R8,F8⟩:=A8;obtain⟨a8,c8,rfl⟩:=R8.form;have b1:done.len+1<=maxLen:=by unfold maxLen;omega
   have b2:(done.len+1)*56<=140737488355328:=by omega
   have hone:∀ u ∈ [Value.int .i64 y.k,.int .i64 y.n,stv y.nm,.slice(some⟨bk6,0,none⟩) y.kids.len ck6],u.oneCell'=true:=by intro u hu;simp at hu;rcases hu with rfl|rfl|rfl|rfl<;>rfl
   clear E7 Z7 O7 A7 B7 L7 T7 s8;go_wp2_with(first|(at_builtin;refine aB rfl(.tmp 27)(.tmp 29) 32 rfl 34 ii _ 4 56 Tryz.underlying32 hii hzi0 hzi1 hzi2 rfl(by decide)(ae w7 o7 0) 2 _ done.len xs rfl R8⟨w7.heap.size,0,none⟩ 1 1 [Value.int .i64 y.k,.int .i64 y.n,stv y.nm,.slice(some⟨bk6,0,none⟩) y.kids.len ck6] rfl rfl(dj w7 _ _) hone(by decide) b1 b2 ?_)|go_in);intro g9 c9 w9 o9 r9 s9;have A9:gi w9 o9 n0(done.snoc y)(.slice(some⟨g9,0,none⟩)(done.len+1) c9):=gi.push F8 T8 s9 r9;have E9:=E8.step s9(by decide);have Z9:=Z8.step s9(by decide);have O9:=O8.step s9(by decide);have L9:Hid(∀ k,k<n0->o9 k=0):=fun k hk=>(s9.lab k(by have:=E8.lt;omega)).trans(L8.out k hk);have B9:=aJ B8 s9(fun k hk=>by rw[L8.out k hk];decide)(by rw[HB.out];exact Nat.le_refl _);have s10:aa(fun k=>k=1) w9 o9(w9.setCell⟨n0+1+1,3,none⟩(.slice(some⟨g9,0,none⟩)(done.len+1) c9)) o9:=bU _ w9 o9⟨n0+1+1,3,none⟩ _ O9.2;have A10:=A9.step s10(by decide)(by decide);have E10:=E9.step s10(by decide);have Z10:=Z9.step s10(by decide);have O10:=O9.set 3(.slice(some⟨g9,0,none⟩)(done.len+1) c9);have B10:=aJ B9 s10(fun k hk=>by rw[L9.out k hk];decide)(by rw[HB.out];exact Nat.le_refl _);obtain⟨t0,t1,t2,t3,tf⟩:=aI O9.1;rw[<-HS.out] at A10;clear A9 E9 Z9 O9 B9 s10 E8 Z8 O8 B8 L8 T8 R8 F8 r9 s9 p0 p1 p2 p3 pf q0 q1 q2 q3 qf hk HS K7;go_wp2;go_roundw
   case rel=>exact⟨_,kr,o9,_,hk2,by rw[<-hl2],E10,Z10,O10,A10,L9,B10⟩
   case measure=>simp[intOf];omega
theorem qh:∀ N,ov N -- 43
 | 0=>fun e ao cap w h=>absurd h(Nat.not_lt_zero _)
 | N+1=>ss(qh N)
theorem pS:∀ {f:Fs},f.len=0->f=.nil
 | ⟨none⟩,_=>rfl
 | ⟨some⟨k,n,nm,a,ks,r⟩⟩,h=>by simp[Fs.len] at h
theorem Below.toStepC {w w':World}{o:Nat->Nat}{I:Nat->Prop}(b:Below w.heap.size w w'):aa I w o w' (ae w o 0):=⟨b.os,b.tape,b.output,b.size,fun k hk=>aC hk,fun k hk _=>b.block k hk⟩
abbrev PD (P:Nat->Prop)(n0:Nat)(o:Nat->Nat):Nat->Prop:=fun k=>o k=0/\((P k/\k<n0)\/n0<=k)
theorem FcN.labD {I:Nat->Prop}{P:Nat->Prop}{w w':World}{o o':Nat->Nat}{n0:Nat}{f:Fs}{xs:List Value}(h:FcN w (PD P n0 o) f xs)(s:aa I w o w' o')(h0:¬I 0):FcN w' (PD P n0 o') f xs :=
 h.mono(fun k hp hl=>s.block k hl(by rw[hp.1];exact h0)) s.size(fun k hp hl=>⟨(s.lab k hl).trans hp.1,hp.2⟩)
theorem SlN.labD {I:Nat->Prop}{P:Nat->Prop}{w w':World}{o o':Nat->Nat}{n0:Nat}{f:Fs}{ao:Option Addr}(h:SlN w (PD P n0 o) f ao)(s:aa I w o w' o')(h0:¬I 0):SlN w' (PD P n0 o') f ao :=
 h.mono(fun k hp hl=>s.block k hl(by rw[hp.1];exact h0)) s.size(fun k hp hl=>⟨(s.lab k hl).trans hp.1,hp.2⟩)
def jM (w:World)(o:Nat->Nat)(P:Nat->Prop)(n0:Nat)(acc:Fs)(v:Value):Prop:=∃xs,Row w o 2 34 4 v acc.len xs/\FcN w (PD P n0 o) acc xs/\∀ k,v.ownBlock=some k->n0<=k
theorem jM.nil (w:World)(o:Nat->Nat)(P:Nat->Prop)(n0:Nat):jM w o P n0 .nil (.slice none 0 0):=⟨[],Row.nil _ _ _ _ _,rfl,fun k hk=>by simp[Value.ownBlock] at hk⟩
theorem jM.step {I:Nat->Prop}{P:Nat->Prop}{w w':World}{o o':Nat->Nat}{n0:Nat}{acc:Fs}{v:Value}(h:jM w o P n0 acc v)(s:aa I w o w' o')(h0:¬I 0)(h2:¬I 2):jM w' o' P n0 acc v:=by
 obtain⟨xs,r,f,g⟩:=h;exact⟨xs,r.step s h2,f.labD s h0,g⟩
theorem jM.push {P:Nat->Prop}{w w2:World}{o o2:Nat->Nat}{n0 ce g2 c2:Nat}{acc:Fs}{xs:List Value}{y:Ex}{ay:Option Addr}(f:FcN w (PD P n0 o) acc xs)(S:SlN w (PD P n0 o) y.kids ay)(s:aa (fun x=>x=2) w o w2 o2)(hlo:∀ k,k<n0->o k≠2)(hw:n0<=w.heap.size)
  (r:Row w2 o2 2 34 4(.slice(some⟨g2,0,none⟩)(acc.len+1) c2)(acc.len+1)(xs++[.int .i64 y.k,.int .i64 y.n,stv y.nm,.slice ay y.kids.len ce])):jM w2 o2 P n0(acc.snoc y)(.slice(some⟨g2,0,none⟩)(acc.len+1) c2):=by
 refine⟨_,by rw[Fs.len_snoc];exact r,(f.labD s(by decide)).app(FcN.one ce(S.labD s(by decide))),fun k hk=>?_⟩;simp[Value.ownBlock] at hk;subst hk;have h2:o2 g2=2:=r.2 g2 rfl;rcases Nat.lt_or_ge g2 n0 with h3|h3
 ·exact absurd((s.lab g2(by omega)).symm.trans h2)(hlo g2 h3)
 ·exact h3
theorem jM.sl {P:Nat->Prop}{w:World}{o:Nat->Nat}{n0:Nat}{acc:Fs}{v:Value}(h:jM w o P n0 acc v):∃ao cap,v=.slice ao acc.len cap/\SlN w (fun k=>(o k=0\/o k=2)/\((P k/\k<n0)\/n0<=k)) acc ao:=by
 obtain⟨xs,r,f,g⟩:=h;obtain⟨ao,cap,hv⟩:=r.form;refine⟨ao,cap,hv,?_⟩;rcases Nat.eq_zero_or_pos acc.len with h0|h0
 ·exact .inl(pS h0)
 ·obtain⟨g',cap',hv',hg,-,-,hlt,hc,-⟩:=r.pos h0;have hl:=f.len;rw[hv] at hv';injection hv' with hv1
  subst hv1;have hgn:n0<=g':=g g'(by rw[hv];rfl);refine .inr⟨g',0,xs,rfl,⟨.inr hg,.inr hgn⟩,hlt,fun j u hu=>?_,f.mono(fun _ _ _=>rfl)(Nat.le_refl _)(fun k hp _=>⟨.inl hp.1,hp.2⟩)⟩;have hj:j<xs.length:=(List.getElem?_eq_some_iff.1 hu).1;rw[Nat.zero_add,hc j(by omega)];exact hu
def Nms (w:World)(v:Value)(b:List (List UInt8)):Prop :=
 ∃ao cap,v=.slice ao b.length cap/\b.length<=cap/\((b=[]/\ao=none)\/∃g,ao=some⟨g,0,none⟩/\g<w.heap.size/\0<b.length/\∀ (j:Nat)(t:List UInt8),b[j]?=some t->w.cell?⟨g,j,none⟩=some(stv t))
theorem Nms.below {w w':World}{v:Value}{b:List (List UInt8)}(h:Nms w v b)(B:Below w.heap.size w w'):Nms w' v b:=by
 obtain⟨ao,cap,rfl,hc,h1|⟨g,h1,h2,h0,h3⟩⟩:=h
 ·exact⟨ao,cap,rfl,hc,.inl h1⟩
 ·exact⟨ao,cap,rfl,hc,.inr⟨g,h1,Nat.lt_of_lt_of_le h2 B.size,h0,fun j t hj=>(B.cell(p:=⟨g,j,none⟩) h2).trans(h3 j t hj)⟩⟩
theorem Nms.nil (w:World):Nms w (.slice none 0 0) []:=⟨none,0,rfl,Nat.le_refl _,.inl ⟨rfl,rfl⟩⟩
theorem ql:(Tryz.prog.info? 9).map (fun i=>(i.zero,i.size,i.bytes))=some (some (.string ⟨#[]⟩),1,16):=by kernel_rfl
def fY (k n:Int):List Int :=
 if k=1 then [1] else if k=2 then [2] else if k=3\/k=4 then [3] else if k=6 then [1,1] else if k=7 then [2,2]
 else if 8<=k/\k<=12 then [1,1,1] else if k=15\/k=16 then [1,1,2] else if k=17\/k=18 then [2,2,2]
 else if k=22\/k=23 then [4] else if k=24 then [3,4]
 else if k=20 then(if n=1\/n=2 then [3,3,2] else if n=3 then [3,3,1] else if n=10 then [3,3] else [3,1])
 else if k=21 then(if n=1\/n=2 then [4,2,2] else if n=3 then [4,2,1] else [4,1,1])
 else []
def bJ (k n:Int)(len:Nat)(done:List Int):Int :=
 if k=13\/k=14 then(match done with | []=>0 | [a]=>a|_=>2)
 else if k=19 then(match done with | []=>2 | [_]=>0|_::b::_=>b)
 else if k=25 then(if done.length<len then 3 else 4)
 else(fY k n)[done.length]?.getD 0
def eb (m:Int)(a:Int)(r:Sum (Nat × Int) Int):Sum (Nat × Int) Int :=
 match r with
 | .inl e=>.inl e
 | .inr is=>if m≠0/\is≠m then .inl(131,a) else .inr is
def ch:Fs->Int->Int->List UInt8->Nat->List (List UInt8)->Nat->List Int->Sum (Nat × Int) (List Int)
 | ⟨none⟩,_,_,_,_,_,_,done=>.inr done
 | ⟨some⟨kk,kn,km,ka,kks,kr⟩⟩,k,n,nm,len,bound,i,done =>
  match eb(bJ k n len done) ka(if kk=4/\¬km ∈ (if k=21/\i≠0 then bound++[nm] else bound) then .inl(130,ka) else
   match ch kks kk kn km kks.len(if k=21/\i≠0 then bound++[nm] else bound) 0 [] with
   | .inl e=>.inl e
   | .inr d=>.inr(bJ kk kn kks.len d)) with
  | .inl e=>.inl e
  | .inr is=>ch kr k n nm len bound(i+1)(done++[is])
def bK (e:Ex)(bound:List (List UInt8)):Sum (Nat × Int) Int :=
 if e.k=4/\¬e.nm ∈ bound then .inl(130,e.a) else
  match ch e.kids e.k e.n e.nm e.kids.len bound 0 [] with
  | .inl x=>.inl x
  | .inr d=>.inr(bJ e.k e.n e.kids.len d)
theorem oB (x:Ex)(r:Fs)(k n:Int)(nm:List UInt8)(len:Nat)(bound:List (List UInt8))(i:Nat)(done:List Int) :
  ch(.cons x.k x.n x.nm x.a x.kids r) k n nm len bound i done=(match eb(bJ k n len done) x.a(bK x(if k=21/\i≠0 then bound++[nm] else bound)) with
   | .inl e=>.inl e
   | .inr is=>ch r k n nm len bound(i+1)(done++[is])):=rfl
def md (e:Ex):Int × Nat × Int :=
 match fx e with
 | none=>(0,122,0)
 | some _ =>
  match bK e [] with
  | .inl(er,a)=>(0,er,a)
  | .inr k=>(k,0,0)
theorem lZ:∀ (f:Fs) (k n:Int) (nm:List UInt8) (len:Nat) (bound:List (List UInt8)) (i:Nat) (done:List Int) (er:Nat) (a:Int),ch f k n nm len bound i done=.inl (er,a)->er=130\/er=131
 | ⟨none⟩,k,n,nm,len,bound,i,done,er,a,h=>by simp only[ch] at h;cases h
 | ⟨some⟨kk,kn,km,ka,kks,kr⟩⟩,k,n,nm,len,bound,i,done,er,a,h=>by
  simp only[ch] at h;by_cases hv:kk=4/\¬km ∈ (if k=21/\i≠0 then bound++[nm] else bound)
  ·rw[if_pos hv] at h;simp only[eb,Sum.inl.injEq,Prod.mk.injEq] at h;omega
  ·rw[if_neg hv] at h;cases hc:ch kks kk kn km kks.len(if k=21/\i≠0 then bound++[nm] else bound) 0 [] with
   | inl x =>
    obtain⟨er2,a2⟩:=x;rw[hc] at h;simp only[eb,Sum.inl.injEq,Prod.mk.injEq] at h
    have:=lZ kks _ _ _ _ _ _ _ er2 a2 hc
    omega
   | inr d =>
    rw[hc] at h;simp only[eb] at h;by_cases hm:bJ k n len done≠0/\bJ kk kn kks.len d≠bJ k n len done
    ·rw[if_pos hm] at h;simp only[Sum.inl.injEq,Prod.mk.injEq] at h;omega
    ·rw[if_neg hm] at h;exact lZ kr _ _ _ _ _ _ _ er a h
theorem tN {e:Ex}{bound:List (List UInt8)}{er:Nat}{a:Int}(h:bK e bound=.inl (er,a)):er=130\/er=131:=by
 unfold bK at h;by_cases hv:e.k=4/\¬e.nm ∈ bound
 ·rw[if_pos hv] at h;simp only[Sum.inl.injEq,Prod.mk.injEq] at h;omega
 ·rw[if_neg hv] at h;cases hc:ch e.kids e.k e.n e.nm e.kids.len bound 0 [] with
  | inl x =>
   obtain⟨er2,a2⟩:=x;rw[hc] at h;simp only[Sum.inl.injEq,Prod.mk.injEq] at h
   have:=lZ _ _ _ _ _ _ _ _ er2 a2 hc
   omega
  | inr d=>rw[hc] at h;cases h
def nV (k n:Int)(len:Nat):Sum (Nat × Int) (List Int)->Sum (Nat × Int) Int
 | .inl x=>.inl x
 | .inr d=>.inr(bJ k n len d)
theorem eo (e:Ex)(b:List (List UInt8))(h:e.k≠4):bK e b=nV e.k e.n e.kids.len (ch e.kids e.k e.n e.nm e.kids.len b 0 []):=by
 unfold bK;rw[if_neg(fun h2=>h h2.1)];cases ch e.kids e.k e.n e.nm e.kids.len b 0 []<;>rfl
def okR (k n:Int)(len:Nat):Prop :=
 (k=13\/k=14\/k=19\/k=25)\/(k=20/\(1<=n/\n<=10)/\(fY 20 n).length=len+1)\/(k=21/\(1<=n/\n<=6)/\(fY 21 n).length=len+1)
  \/ ((1<=k/\k<=24/\k≠5/\k≠20/\k≠21/\k≠13/\k≠14/\k≠19)/\(fY k 0).length=len+1)
theorem vK (n:Int):(fm n).isSome=decide (1<=n/\n<=10):=by
 by_cases h:1<=n/\n<=10
 ·have h2:n=1\/n=2\/n=3\/n=4\/n=5\/n=6\/n=7\/n=8\/n=9\/n=10:=by omega
  rcases h2 with rfl|rfl|rfl|rfl|rfl|rfl|rfl|rfl|rfl|rfl<;>rfl
 ·rw[decide_eq_false h];cases hc:fm n with
  | none=>rfl
  | some x =>
   have h1:=List.find?_some hc;have h2:=List.mem_of_find?_eq_some hc;simp only[dy,List.mem_cons,List.not_mem_nil,or_false] at h2;simp only[beq_iff_eq] at h1;exfalso;rcases h2 with rfl|rfl|rfl|rfl|rfl|rfl|rfl|rfl|rfl|rfl<;>simp only at h1<;>omega
theorem q9 (n:Int):(fQ n).isSome=decide (1<=n/\n<=6):=by
 by_cases h:1<=n/\n<=6
 ·have h2:n=1\/n=2\/n=3\/n=4\/n=5\/n=6:=by omega
  rcases h2 with rfl|rfl|rfl|rfl|rfl|rfl<;>rfl
 ·rw[decide_eq_false h];cases hc:fQ n with
  | none=>rfl
  | some x =>
   have h1:=List.find?_some hc;have h2:=List.mem_of_find?_eq_some hc;simp only[dx,List.mem_cons,List.not_mem_nil,or_false] at h2;simp only[beq_iff_eq] at h1;exfalso;rcases h2 with rfl|rfl|rfl|rfl|rfl|rfl<;>simp only at h1<;>omega
theorem AN {k:Int}(h:(dU k).isSome=true):8<=k/\k<=18:=by
 cases hc:dU k with
 | none=>rw[hc] at h;cases h
 | some x =>
  have h1:=List.find?_some hc;have h2:=List.mem_of_find?_eq_some hc;simp only[eB,List.mem_cons,List.not_mem_nil,or_false] at h2;simp only[beq_iff_eq] at h1;rcases h2 with rfl|rfl|rfl|rfl|rfl|rfl|rfl|rfl|rfl|rfl|rfl<;>simp only at h1<;>omega
theorem xK {k n:Int}{nm:List UInt8}{m:Nat}(h:okP k n nm m):okR k n m:=by
 obtain⟨h1,-,h2,-,-,-⟩:=h;unfold aR at h2;unfold bS at h1;by_cases a0:k=1\/k=2\/k=3\/k=4\/k=22\/k=23
 ·have e1:(k==1||k==2||k==3||k==4||k==22||k==23)=true:=by rcases a0 with rfl|rfl|rfl|rfl|rfl|rfl<;>rfl
  rw[e1,if_pos rfl] at h2
  have:m=0:=by simpa using h2
  subst this;refine .inr(.inr(.inr⟨by omega,?_⟩));rcases a0 with rfl|rfl|rfl|rfl|rfl|rfl<;>rfl
 by_cases a1:k=6\/k=7\/k=24
 ·have:m=1:=by rcases a1 with rfl|rfl|rfl<;>(simp at h2;omega)
  subst this;refine .inr(.inr(.inr⟨by omega,?_⟩));rcases a1 with rfl|rfl|rfl<;>rfl
 by_cases a2:k=21
 ·subst a2;have hm:m=2:=by simp at h2;omega
  have hn:(fQ n).isSome=true:=by simpa using h1
  rw[q9] at hn;have hn2:=of_decide_eq_true hn;subst hm;refine .inr(.inr(.inl⟨rfl,hn2,?_⟩));have h3:n=1\/n=2\/n=3\/n=4\/n=5\/n=6:=by omega
  rcases h3 with rfl|rfl|rfl|rfl|rfl|rfl<;>rfl
 by_cases a3:k=19
 ·exact .inl(by omega)
 by_cases a4:k=20
 ·subst a4;have hn:(fm n).isSome=true:=by simpa using h1
  rw[vK] at hn;have hn2:=of_decide_eq_true hn;refine .inr(.inl⟨rfl,hn2,?_⟩);have h3:n=1\/n=2\/n=3\/n=4\/n=5\/n=6\/n=7\/n=8\/n=9\/n=10:=by omega
  rcases h3 with rfl|rfl|rfl|rfl|rfl|rfl|rfl|rfl|rfl|rfl <;>
   (simp[fm,dy] at h2;simp[fY];omega)
 by_cases a5:k=25
 ·exact .inl(by omega)
 have e1:(k==1||k==2||k==3||k==4||k==22||k==23)=false:=by simp;omega
 have e2:(k==6||k==7||k==24)=false:=by simp;omega
 have e3:(k==21)=false:=by simpa using a2
 have e4:(k==19)=false:=by simpa using a3
 have e5:(k==20)=false:=by simpa using a4
 have e6:(k==25)=false:=by simpa using a5
 rw[e1,e2,e3,e4,e5,e6] at h2;simp only[Bool.false_eq_true,if_false,Bool.and_eq_true,beq_iff_eq] at h2;have hr:=AN h2.1;have hm:m=2:=by omega
 subst hm;by_cases a6:k=13\/k=14
 ·exact .inl(by omega)
 refine .inr(.inr(.inr⟨by omega,?_⟩));have h3:k=8\/k=9\/k=10\/k=11\/k=12\/k=15\/k=16\/k=17\/k=18:=by omega
 rcases h3 with rfl|rfl|rfl|rfl|rfl|rfl|rfl|rfl|rfl<;>rfl
theorem xL {k n:Int}{m:Nat}(h:okR k n m):1<=k/\k<=25/\k≠5:=by
 unfold okR at h;omega
theorem j9 {I:Nat->Prop}{n0:Nat}{a w w':World}{o o':Nat->Nat}(b:Below n0 a w)(s:aa I w o w' o')(h:∀ k,k<n0->¬I (o k))(hn:n0<=a.heap.size):Below n0 a w' :=
 ⟨s.os.trans b.os,s.tape.trans b.tape,s.output.trans b.output,Nat.le_trans b.size s.size,fun k hk=>(s.block k(by have:=b.size;omega)(h k hk)).trans(b.block k hk)⟩
abbrev I1n:Nat->Prop:=fun k=>k=1
theorem Nms.ofRow {w:World}{o:Nat->Nat}{g cap:Nat}{b:List (List UInt8)}{n:Nat}(h:Row w o 1 9 1 (.slice (some ⟨g,0,none⟩) n cap) n (b.map fun x=>stv x))(hn:b.length=n)(h0:0<n):Nms w (.slice (some ⟨g,0,none⟩) n cap) b:=by
 subst hn;obtain⟨g',cap',e1,_,h2,_,h4,h5,_⟩:=h.pos h0;injection e1 with e1 e2 e3
 injection e1 with e1
 injection e1 with e1
 subst e1;subst e3;refine⟨_,_,rfl,h2,.inr⟨g,rfl,h4,h0,fun j t hj=>?_⟩⟩;have hj2:j<b.length:=(List.getElem?_eq_some_iff.1 hj).1;rw[h5 j(by omega),List.getElem?_map,hj];rfl
theorem kL {P:Program}(w:World)(t ty e:TypeId)(i:TypeInfo)(ht:P.underlying t=some (.slice e))(hi:P.info? e=some i)(ao:Option Addr)(n cap:Nat)(x:Option Addr)(c:Nat)(hnc:n<=cap) :
  (Builtin.append_ #[t,t] ty #[.slice ao n cap,.slice x 0 c]).run P w=.ok(.slice ao n cap) w:=by
 have hl:∀ a:Addr,(loadCells a 0).run P w=.ok #[] w:=fun a=>by simp[loadCells,loadCellsFrom]
 cases x<;>cases ao<;>simp[Builtin.append_,run_underlying ht,sizeOf,typeInfo,hi,Builtin.lenOf,Builtin.firstCells,hnc,storeCells,hl]
theorem iO {P:Program}{w:World}{ops:Array Oper}{rest:List Oper}{op:Oper}{a:Act}{Q:Exit->Act->World->Prop}(hgd:op.guard=none)(s x:Operand)(t:TypeId)
  (ho:op.op=.call { callee:=.builtin .append,args:=#[s,x],argTypes:=#[t,t] })(e:TypeId)(i:TypeInfo)(ht:P.underlying t=some(.slice e))(hi:P.info? e=some i)
  (ao:Option Addr)(n cap:Nat)(y:Option Addr)(c:Nat)(hs:a.eval s=.slice ao n cap)(hx:a.eval x=.slice y 0 c)(hnc:n<=cap)(h:wpList P ops Q rest(a.put op.dst(.slice ao n cap)) w):wpList P ops Q(op::rest) a w:=by
 refine wpList_plain hgd fun _ hK=>?_;have hr:=kL(P:=P) w t op.type e i ht hi ao n cap y c hnc;unfold Oper.wp execOp;simp only[ho,resolve,invoke,builtin,Sem.run_bind,Sem.run_pure,Result.andThen_ok,List.map_toArray,List.map_cons,List.map_nil,hs,hx,hr];exact hK _ _ h
theorem Row.cap {w:World}{o:Nat->Nat}{i:Nat}{e:TypeId}{size:Nat}{n m cap:Nat}{ao:Option Addr}{xs:List Value}(h:Row w o i e size (.slice ao m cap) n xs):m=n/\n<=cap/\cap<=maxLen:=by
 rcases h.1.2 with⟨hh,hk0⟩|⟨gx,cx,_,hh,_,_,hle,hm,_⟩
 ·simp only[Value.slice.injEq] at hh;obtain⟨_,rfl,rfl⟩:=hh;exact⟨hk0.symm,by omega,by unfold maxLen;omega⟩
 ·simp only[Value.slice.injEq] at hh;obtain⟨_,rfl,rfl⟩:=hh;exact⟨rfl,hle,hm⟩
theorem fe {P:Program}{w:World}{ops:Array Oper}{rest:List Oper}{op:Oper}{a:Act}{Q:Exit->Act->World->Prop}(hgd:op.guard=none)(s x:Operand)(t:TypeId)
  (ho:op.op=.call { callee:=.builtin .append,args:=#[s,x],argTypes:=#[t,t] })
  (e:TypeId)(i:TypeInfo)(z:Value)(size bytes:Nat)(ht:P.underlying t=some(.slice e))(hi:P.info? e=some i)(hz:i.zero=some z)
  (hsize:i.size=size)(hby:i.bytes=bytes)(hzs:z.cells.size=size)(hsz:0<size)
  (o:Nat->Nat)(lb:Nat)(v:Value)(n:Nat)(xs:List Value)(hs:a.eval s=v)(hrow:Row w o lb e size v n xs)
  (y:Option Addr)(m c:Nat)(news:List Value)(hx:a.eval x=.slice y m c)(hl:news.length=m*size)(hnews:0<m->∃ad,y=some ad/\∀ j u,news[j]?=some u->w.cell?(ad.add j)=some u)(h1:∀ u ∈ news,u.oneCell'=true)
  (h63:n+m<=maxLen)(hbytes:(n+m)*bytes<=140737488355328)
  (h:∀ ao cap w' o',Row w' o' lb e size(.slice ao(n+m) cap)(n+m)(xs++news)->aa(fun k=>k=lb) w o w' o'->wpList P ops Q rest(a.put op.dst(.slice ao(n+m) cap)) w'):wpList P ops Q(op::rest) a w:=by
 by_cases hm:0<m
 ·obtain⟨ad,rfl,hn⟩:=hnews hm;exact aB hgd s x t ho e i z size bytes ht hi hz hsize hby hzs hsz o lb v n xs hs hrow ad m c news hx hl hn h1 hm h63 hbytes fun g cap w' o' r st=>h _ _ _ _ r st
 ·obtain rfl:m=0:=by omega
  obtain⟨ao,cap,rfl⟩:=hrow.form;have hnil:news=[]:=List.eq_nil_of_length_eq_zero(by omega);subst hnil;refine iO hgd s x t ho e i ht hi ao n cap y c hs hx hrow.cap.2.1 ?_
  have:=h ao cap w o(by rw[List.append_nil];exact hrow)(aa.refl _ _ _)
  exact this
end Go.Proofs.YtbjdkekhnajafaaGreatDoor

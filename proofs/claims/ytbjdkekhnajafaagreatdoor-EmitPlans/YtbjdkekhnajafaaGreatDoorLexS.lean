import Derived.Lib.AtoiAll
import Derived.WalkKit
import Derived.ProofKit
import Derived.OpenShut
import Derived.Deep.QuietTactic
import Derived.BigQuiet
import Derived.Test.YtbjdkekhnajafaaGreatDoorRows
import Derived.Shelf.Strconv.ErrVarAll
import Derived.Ground.NamesProg
import Derived.Lib.OthersKept
set_option maxRecDepth 100000
set_option maxHeartbeats 8000000
namespace Go.Proofs.YtbjdkekhnajafaaGreatDoor
set_option linter.unusedVariables false
def blk (r:Nat):Bool:=r==32||r==9||r==10||r==13
def sml (r:Nat):Bool:=decide (97<=r)&&decide (r<=122)
def ltr (r:Nat):Bool:=sml r||(decide (65<=r)&&decide (r<=90))
def dig (r:Nat):Bool:=decide (48<=r)&&decide (r<=57)
def sgn (r:Nat):Bool:=r==40||r==41||r==123||r==125||r==44||r==58||r==64||r==43||r==45||r==42||r==47||r==37||r==61||r==33||r==60
def cls (r:Nat):Nat:=if blk r then 0 else if ltr r then 1 else if dig r then 2 else if sgn r then 3 else 4
def tks (k:Nat)(t:List UInt8)(r:Nat):Bool :=
 match k with
 | 0=>blk r
 | 1=>ltr r||dig r||r==95
 | 2=>dig r
 | 3=>r==61&&(t==[33]||t==[60])
 | _=>false
def iT:List (List UInt8) :=
 [[97,108,108],[97,110,100],[97,114,111,117,110,100],[98,108,111,99,107],[98,111,116,116,108,101,110,101,99,107],[99,111,110,110,101,99,116,101,100],[99,111,117,110,116],[100,101,103,114,101,101],[101,108,115,101],
  [102,97,108,115,101],[105,102],[105,110],[108,101,97,115,116],[109,97,120],[109,105,110],[109,111,115,116],[110,111,116],[111,114],
  [114,101,112],[115,105,122,101],[115,111,109,101],[115,117,109],[116,104,101,110],[116,111,116,97,108],[116,114,117,101],[118,97,108,117,101],[118,101,114,116,105,99,101,115]]
def ew (t:List UInt8):Bool:=iT.contains t
def inn (c:UInt8):Bool:=sml c.toNat||dig c.toNat||c.toNat==95
def aX (t:List UInt8):Bool :=
 match t with
 | []=>false
 | c::r=>decide (r.length<12)&&sml c.toNat&&r.all inn&&!wordB t
structure Tk where
 k:Nat
 n:Int
 t:List UInt8
 a:Nat
abbrev Res:=Sum (Nat × Nat) (List Tk)
def iU (x:Tk):Res->Res
 | .inl e=>.inl e
 | .inr l=>.inr (x::l)
def gq (t:List UInt8)(a:Nat):Sum Nat Tk :=
 match Lib.atoiAll t with
 | .ok v=>if t.head?=some 48/\t≠[48] then .inl 111 else .inr ⟨1,v,[],a⟩
 | _=>.inl 111
def fs (t:List UInt8)(a:Nat):Sum Nat Tk:=if ew t then .inr ⟨3,0,t,a⟩ else if aX t then .inr ⟨2,0,t,a⟩ else .inl 112
def mM (t:List UInt8)(a:Nat):Sum Nat Tk:=if t=[33] then .inl 110 else .inr ⟨4,0,t,a⟩
def fO (k:Nat)(t:List UInt8)(a:Nat):Sum Nat Tk :=
 match k with
 | 1=>fs t a
 | 2=>gq t a
 | 3=>mM t a
 | _=>.inl 110
def de (k:Nat)(t:List UInt8)(a:Nat)(X:Res):Res :=
 if k=0 then X else match fO k t a with
  | .inl e=>.inl (e,a)
  | .inr x=>iU x X
def qp (p:Nat):Res:=.inr [⟨0,0,[],p⟩]
def bN (k:Nat)(t:List UInt8)(a p:Nat):List UInt8->Res
 | []=>de k t a (qp p)
 | c::r=>if tks k t c.toNat then bN k (t++[c]) a (p+1) r else de k t a (bN (cls c.toNat) [c] p (p+1) r)
def mH (l:List UInt8):Res:=bN 0 [] 0 0 l
def ey (l:List UInt8):Res:=if 2000<l.length then .inl (113,0) else mH l
theorem ux (t:List UInt8)(a p:Nat)(l:List UInt8):bN 4 t a p l=.inl (110,a):=by
 cases l with
 | nil=>rfl
 | cons c r=>rfl
theorem qD (k:Nat)(t:List UInt8)(a p:Nat):bN k t a p []=de k t a (qp p):=rfl
theorem cY {k:Nat}{t:List UInt8}{a p:Nat}{c:UInt8}{r:List UInt8}(h:tks k t c.toNat=true):bN k t a p (c::r)=bN k (t++[c]) a (p+1) r:=by
 simp only[bN,h,if_true]
theorem dk {k:Nat}{t:List UInt8}{a p:Nat}{c:UInt8}{r:List UInt8}(h:tks k t c.toNat=false):bN k t a p (c::r)=de k t a (bN (cls c.toNat) [c] p (p+1) r):=by
 simp[bN,h]
theorem iE (t t':List UInt8)(a a' p:Nat)(l:List UInt8):bN 0 t a p l=bN 0 t' a' p l:=by
 induction l generalizing t t' p with
 | nil=>rfl
 | cons c r ih =>
  by_cases h:blk c.toNat=true
  ·rw[cY (by exact h),cY (by exact h)];exact ih _ _ _
  ·have h':blk c.toNat=false:=by simpa using h
   rw[dk (by exact h'),dk (by exact h')];rfl
theorem nO {k:Nat}{t:List UInt8}{a p:Nat}{c:UInt8}{r:List UInt8}(h:tks k t c.toNat=false):bN k t a p (c::r)=de k t a (bN 0 [] p p (c::r)):=by
 rw[dk h]
 congr 1
 by_cases hb:blk c.toNat=true
 ·rw[cY (k:=0) (by exact hb)];have hc:cls c.toNat=0:=by simp[cls,hb]
  rw[hc];exact iE _ _ _ _ _ _
 ·have h':blk c.toNat=false:=by simpa using hb
  rw[dk (k:=0) (by exact h')];rfl
theorem xA (k:Nat)(t:List UInt8)(a p:Nat)(u l:List UInt8)(hk:∀ j (h:j<u.length),tks k (t++u.take j) (u[j]).toNat=true)(hl:∀ c r,l=c::r->tks k (t++u) c.toNat=false) :
  bN k t a p (u++l)=de k (t++u) a (bN 0 [] (p+u.length) (p+u.length) l):=by
 induction u generalizing t p with
 | nil =>
  simp only[List.nil_append,List.append_nil,List.length_nil,Nat.add_zero] at hl ⊢;cases l with
  | nil=>rw[qD,qD];rfl
  | cons c r=>exact nO (hl c r rfl)
 | cons c r ih =>
  have h0:=hk 0 (by simp);simp only[List.take_zero,List.append_nil,List.getElem_cons_zero] at h0;rw[List.cons_append,cY h0,ih (t++[c]) (p+1) (fun j h=>?_) (fun c' r' e=>?_)]
  ·have e1:p+1+r.length=p+(c::r).length:=by simp;omega
   rw[e1,List.append_assoc];rfl
  ·have:=hk (j+1) (by simp;omega)
   simpa [List.append_assoc] using this
  ·have:=hl c' r' e
   simpa [List.append_assoc] using this
structure Nd (α:Type) where
 k:Int
 n:Int
 nm:List UInt8
 a:Int
 kids:α
 rest:α
structure Fs where
 v:Option (Nd Fs)
abbrev Fs.nil:Fs:=⟨none⟩
abbrev Fs.cons (k n:Int)(nm:List UInt8)(a:Int)(ks r:Fs):Fs:=⟨some ⟨k,n,nm,a,ks,r⟩⟩
theorem Fs.on {P:Fs->Prop}(f:Fs)(nil:P .nil)(cons:∀ k n nm a ks r,P (.cons k n nm a ks r)):P f:=by
 obtain⟨v⟩:=f;cases v with
 | none=>exact nil
 | some z=>obtain⟨k,n,nm,a,ks,r⟩:=z;exact cons k n nm a ks r
structure Ex where
 k:Int
 n:Int
 nm:List UInt8
 a:Int
 kids:Fs
def Fs.len:Fs->Nat
 | ⟨none⟩=>0
 | ⟨some ⟨_,_,_,_,_,r⟩⟩=>r.len+1
def Fs.app:Fs->Fs->Fs
 | ⟨none⟩,y=>y
 | ⟨some ⟨k,n,nm,a,ks,r⟩⟩,y=>.cons k n nm a ks (r.app y)
def one (e:Ex):Fs:=.cons e.k e.n e.nm e.a e.kids .nil
def Fs.snoc (f:Fs)(e:Ex):Fs:=f.app (one e)
theorem Fs.len_app:∀ (x y:Fs),(x.app y).len=x.len+y.len
 | ⟨none⟩,y=>by simp[Fs.app,Fs.len]
 | ⟨some ⟨k,n,nm,a,ks,r⟩⟩,y=>by simp only[Fs.app,Fs.len];rw[Fs.len_app r y];omega
theorem Fs.len_snoc (x:Fs)(e:Ex):(x.snoc e).len=x.len+1:=by unfold Fs.snoc;rw[Fs.len_app];rfl
def da:Ex:=⟨0,0,[],0,.nil⟩
def Fs.head:Fs->Ex
 | ⟨none⟩=>da
 | ⟨some ⟨k,n,nm,a,ks,_⟩⟩=>⟨k,n,nm,a,ks⟩
structure Rs (α:Type) where
 v:Option (Sum (Nat × Nat) (α × List Tk))
abbrev Rs.out {α:Type}:Rs α:=⟨none⟩
abbrev Rs.bad {α:Type}(e a:Nat):Rs α:=⟨some (.inl (e,a))⟩
abbrev Rs.ok {α:Type}(x:α)(t:List Tk):Rs α:=⟨some (.inr (x,t))⟩
theorem Rs.on {α:Type}{P:Rs α->Prop}(R:Rs α)(out:P .out)(bad:∀ e a,P (.bad e a))(ok:∀ x t,P (.ok x t)):P R:=by
 obtain⟨v⟩:=R
 match v with
 | none=>exact out
 | some (.inl (e,a))=>exact bad e a
 | some (.inr (x,t))=>exact ok x t
theorem Rs.ok_inj {α:Type}{x y:α}{t u:List Tk}(h:Rs.ok x t=Rs.ok y u):x=y/\t=u:=by simpa using h
def Rs.bind {α β:Type}:Rs α->(α->List Tk->Rs β)->Rs β
 | ⟨none⟩,_=>.out
 | ⟨some (.inl (e,a))⟩,_=>.bad e a
 | ⟨some (.inr (x,ts))⟩,f=>f x ts
abbrev Rdr:=Nat->Nat->Nat->List Tk->Rs Ex
def aW (s:List UInt8):List Tk->Rs Nat
 | []=>.out
 | x::r=>if x.t=s then .ok x.a r else .bad 120 x.a
def dX (k:Nat):List Tk->Rs Tk
 | []=>.out
 | x::r=>if x.k=k then .ok x r else .bad 120 x.a
def aG (s:List UInt8)(o:Nat):List Tk->Rs Nat
 | []=>.out
 | x::r=>if x.t=s then (if o=64 then .bad 121 x.a else .ok x.a r) else .bad 120 x.a
def eE:List (List UInt8 × Nat × Nat × Nat × Nat) :=
 [([111,114],18,1,1,2),([97,110,100],17,2,2,3),([61],13,4,5,5),([33,61],14,4,5,5),([60],15,4,5,5),([60,61],16,4,5,5),([43],8,5,5,6),([45],9,5,5,6),([42],10,6,6,7),([47],11,6,6,7),([37],12,6,6,7)]
def vu (t:List UInt8)(row:Nat):Option (List UInt8 × Nat × Nat × Nat × Nat):=eE.find? fun x=>x.1==t&&x.2.2.1==row
def dG:List (List UInt8 × Nat × Nat) :=
 [([99,111,110,110,101,99,116,101,100],1,2),([98,108,111,99,107],2,2),([98,111,116,116,108,101,110,101,99,107],3,2),([115,105,122,101],4,1),([116,111,116,97,108],5,1),([108,101,97,115,116],6,1),([109,111,115,116],7,1),([118,97,108,117,101],8,1),([100,101,103,114,101,101],9,1),([114,101,112],10,1)]
def mE (t:List UInt8):Option (List UInt8 × Nat × Nat):=dG.find? fun x=>x.1==t
def dv:List (List UInt8 × Nat) :=
 [([97,108,108],1),([115,111,109,101],2),([99,111,117,110,116],3),([115,117,109],4),([109,105,110],5),([109,97,120],6)]
def iX (t:List UInt8):Option (List UInt8 × Nat):=dv.find? fun x=>x.1==t
def cW (rec:Rdr):Nat->Nat->Nat->Nat->Ex->List Tk->Rs Ex
 | 0,_,_,_,_,_=>.out
 | m+1,row,o,q,left,ts =>
  match ts with
  | []=>.out
  | x::r =>
   match vu x.t row with
   | none=>.ok left ts
   | some (_,k,_,l,rt)=>(rec rt o q r).bind fun right t2=>if row<l then .ok ⟨(k:Nat),0,[],x.a,(one left).snoc right⟩ t2 else cW rec m row o q ⟨(k:Nat),0,[],x.a,(one left).snoc right⟩ t2
def dc (rec:Rdr)(s:List UInt8)(k:Int)(row o q:Nat)(ts:List Tk):Rs Ex :=
 match ts with
 | []=>.out
 | x::r=>if x.t=s then (if o=64 then .bad 121 x.a else (rec row (o+1) q r).bind fun kid t2=>.ok ⟨k,0,[],x.a,one kid⟩ t2) else rec (row+1) o q ts
def fA (rec:Rdr):Nat->Nat->Nat->Fs->List Tk->Rs Fs
 | 0,_,_,acc,ts=>.ok acc ts
 | j+1,o,q,acc,ts=>(aW [44] ts).bind fun _ t1=>(rec 1 o q t1).bind fun e t2=>fA rec j o q (acc.snoc e) t2
def eH (rec:Rdr)(many o q:Nat)(ts:List Tk):Rs Fs :=
 (aG [40] o ts).bind fun _ t1=>(rec 1 (o+1) q t1).bind fun e t2=>(fA rec (many-1) (o+1) q (one e) t2).bind fun ks t3=>(aW [41] t3).bind fun _ t4=>.ok ks t4
def dx (rec:Rdr)(o q:Nat)(ts:List Tk):Rs Ex :=
 (aG [105,102] o ts).bind fun a t1=>(rec 1 (o+1) q t1).bind fun x t2=>(aW [116,104,101,110] t2).bind fun _ t3=>(rec 1 (o+1) q t3).bind fun y t4=>(aW [101,108,115,101] t4).bind fun _ t5=>(rec 1 (o+1) q t5).bind fun z t6=>.ok ⟨19,0,[],a,((one x).snoc y).snoc z⟩ t6
def fE (rec:Rdr):Nat->Nat->Nat->Fs->List Tk->Rs Fs
 | 0,_,_,_,_=>.out
 | m+1,o,q,acc,ts =>
  match ts with
  | []=>.out
  | x::r=>if x.t=[44] then (rec 1 o q r).bind fun e t2=>fE rec m o q (acc.snoc e) t2 else .ok acc ts
def jR (rec:Rdr)(m o q:Nat)(ts:List Tk):Rs Fs :=
 match ts with
 | []=>.out
 | x::r=>if x.t=[125] then .ok .nil ts else (rec 1 o q ts).bind fun e t1=>fE rec m o q (one e) t1
def eV (rec:Rdr)(m o q:Nat)(ts:List Tk):Rs Ex :=
 match ts with
 | []=>.out
 | x::r =>
  if x.k=2 then .ok ⟨23,0,x.t,x.a,.nil⟩ r
  else if x.t=[118,101,114,116,105,99,101,115] then .ok ⟨22,0,[],x.a,.nil⟩ r
  else if x.t=[97,114,111,117,110,100] then (eH rec 1 o q r).bind fun ks t=>.ok ⟨24,0,[],x.a,ks⟩ t
  else (aG [123] o ts).bind fun a t1=>(jR rec m (o+1) q t1).bind fun ks t2=>(aW [125] t2).bind fun _ t3=>.ok ⟨25,0,[],a,ks⟩ t3
def dq (rec:Rdr)(m:Nat)(s:List UInt8)(n o q:Nat)(ts:List Tk):Rs Ex :=
 match ts with
 | []=>.out
 | x::r =>
  if q=4 then .bad 121 x.a
  else (aG s o ts).bind fun a t1=>(dX 2 t1).bind fun y t2=>(aW [105,110] t2).bind fun _ t3=>(eV rec m (o+1) (q+1) t3).bind fun e t4=>(aW [58] t4).bind fun _ t5=>(rec 1 (o+1) (q+1) t5).bind fun b t6=>.ok ⟨21,(n:Nat),y.t,a,(one e).snoc b⟩ t6
def cA (rec:Rdr)(m o q:Nat)(ts:List Tk):Rs Ex :=
 match ts with
 | []=>.out
 | x::r =>
  if x.k=1 then .ok ⟨1,x.n,[],x.a,.nil⟩ r
  else if x.k=2 then .ok ⟨4,0,x.t,x.a,.nil⟩ r
  else if x.t=[102,97,108,115,101] then .ok ⟨2,0,[],x.a,.nil⟩ r
  else if x.t=[116,114,117,101] then .ok ⟨2,1,[],x.a,.nil⟩ r
  else if x.t=[64] then (dX 1 r).bind fun y t1=>.ok ⟨3,y.n,[],x.a,.nil⟩ t1
  else if x.t=[40] then (eH rec 1 o q ts).bind fun ks t1=>.ok ks.head t1
  else if x.t=[105,102] then dx rec o q ts
  else match mE x.t with
   | some (_,n,many)=>(eH rec many o q r).bind fun ks t1=>.ok ⟨20,(n:Nat),[],x.a,ks⟩ t1
   | none =>
    match iX x.t with
    | some (_,n)=>dq rec m x.t n o q ts
    | none=>.bad 120 x.a
def cP:Nat->Rdr
 | 0,_,_,_,_=>.out
 | n+1,row,o,q,ts =>
  if row=3 then dc (cP n) [110,111,116] 7 3 o q ts
  else if row=7 then dc (cP n) [45] 6 7 o q ts
  else if row=8 then cA (cP n) n o q ts
  else (cP n (row+1) o q ts).bind fun l t=>cW (cP n) n row o q l t
def fh (n:Nat)(ts:List Tk):Rs Ex :=
 (cP n 1 0 0 ts).bind fun e t =>
  match t with
  | []=>.out
  | x::_=>if x.k=0 then .ok e t else .bad 120 x.a
open Go.ChangeShapes Go.WideShapes Go.ChangeAt Go.RowKit
structure aa (I:Nat->Prop)(w:World)(o:Nat->Nat)(w':World)(o':Nat->Nat):Prop where
 os:w'.os=w.os
 tape:w'.tape=w.tape
 output:w'.output=w.output
 size:w.heap.size<=w'.heap.size
 lab:∀ k,k<w.heap.size->o' k=o k
 block:∀ k,k<w.heap.size->¬I (o k)->w'.heap[k]?=w.heap[k]?
theorem aa.refl (I:Nat->Prop)(w:World)(o:Nat->Nat):aa I w o w o:=⟨rfl,rfl,rfl,Nat.le_refl _,fun _ _=>rfl,fun _ _ _=>rfl⟩
theorem aa.trans {I:Nat->Prop}{a b c:World}{o o' o'':Nat->Nat}(h:aa I a o b o')(k:aa I b o' c o''):aa I a o c o'' :=
 ⟨k.os.trans h.os,k.tape.trans h.tape,k.output.trans h.output,Nat.le_trans h.size k.size,fun i hi=>(k.lab i (Nat.lt_of_lt_of_le hi h.size)).trans (h.lab i hi),
  fun i hi hn=>(k.block i (Nat.lt_of_lt_of_le hi h.size) (by rw[h.lab i hi];exact hn)).trans (h.block i hi hn)⟩
theorem aa.mono {I J:Nat->Prop}{a b:World}{o o':Nat->Nat}(h:aa I a o b o')(hij:∀ i,I i->J i):aa J a o b o' :=
 ⟨h.os,h.tape,h.output,h.size,h.lab,fun k hk hn=>h.block k hk (fun x=>hn (hij _ x))⟩
theorem aa.alloc {I:Nat->Prop}{a w:World}{o o':Nat->Nat}(h:aa I a o w o')(ob:Obj):aa I a o (w.alloc ob) o' :=
 h.trans ⟨rfl,rfl,rfl,by simp,fun _ _=>rfl,fun k hk _=>Below.heap_alloc w ob k hk⟩
theorem aa.drewN {I:Nat->Prop}{a w:World}{o o':Nat->Nat}(h:aa I a o w o')(n:Nat):aa I a o (w.drewN n) o' :=
 ⟨h.os,h.tape,h.output,h.size,h.lab,h.block⟩
theorem aa.drew {I:Nat->Prop}{a w:World}{o o':Nat->Nat}(h:aa I a o w o'):aa I a o w.drew o' :=
 ⟨h.os,h.tape,h.output,h.size,h.lab,h.block⟩
theorem aa.setCell {I:Nat->Prop}{a w:World}{o o':Nat->Nat}(h:aa I a o w o')(p:Addr)(u:Value)(hp:I (o' p.block)):aa I a o (w.setCell p u) o' :=
 h.trans ⟨rfl,rfl,rfl,by simp,fun _ _=>rfl,fun k hk hn=>heap_setCell_other w p k u (fun e=>hn (by rw[e];exact hp))⟩
def ae (w:World)(o:Nat->Nat)(i:Nat):Nat->Nat:=fun k=>if k<w.heap.size then o k else i
theorem aC {w:World}{o:Nat->Nat}{i k:Nat}(h:k<w.heap.size):ae w o i k=o k:=by simp[ae,h]
theorem ax {w:World}{o:Nat->Nat}{i k:Nat}(h:w.heap.size<=k):ae w o i k=i:=by simp[ae,Nat.not_lt.2 h]
theorem aa.labelled {I:Nat->Prop}{a w:World}{o o':Nat->Nat}(h:aa I a o w o')(i:Nat):aa I a o w (ae w o' i) :=
 h.trans ⟨rfl,rfl,rfl,Nat.le_refl _,fun k hk=>aC hk,fun _ _ _=>rfl⟩
def Row (w:World)(o:Nat->Nat)(i:Nat)(e:TypeId)(size:Nat)(v:Value)(n:Nat)(xs:List Value):Prop :=
 w.ownsRow 0 e size v n xs/\∀ k,v.ownBlock=some k->o k=i
def Blk (w:World)(o:Nat->Nat)(i:Nat)(b:Nat)(ob:Obj):Prop:=w.heap[b]?=some ob/\o b=i
theorem Blk.lt {w:World}{o:Nat->Nat}{i b:Nat}{ob:Obj}(h:Blk w o i b ob):b<w.heap.size:=lt_of_block h.1
theorem Blk.step {I:Nat->Prop}{w w':World}{o o':Nat->Nat}{i b:Nat}{ob:Obj}(h:Blk w o i b ob)(s:aa I w o w' o')(hi:¬I i):Blk w' o' i b ob :=
 ⟨(s.block b h.lt (by rw[h.2];exact hi)).trans h.1,(s.lab b h.lt).trans h.2⟩
theorem Row.lt {w:World}{o:Nat->Nat}{i:Nat}{e:TypeId}{size:Nat}{v:Value}{n:Nat}{xs:List Value}(h:Row w o i e size v n xs){k:Nat}(hk:v.ownBlock=some k):k<w.heap.size:=(h.1.lt k hk).2
theorem Row.step {I:Nat->Prop}{w w':World}{o o':Nat->Nat}{i:Nat}{e:TypeId}{size:Nat}{v:Value}{n:Nat}{xs:List Value}(h:Row w o i e size v n xs)(s:aa I w o w' o')(hi:¬I i):Row w' o' i e size v n xs:=by
 refine⟨⟨h.1.1,?_⟩,fun k hk=>(s.lab k (h.lt hk)).trans (h.2 k hk)⟩;rcases h.1.2 with hn|⟨g,cap,cur,rfl,hb,hgg,rest⟩
 ·exact .inl hn
 ·refine .inr ⟨g,cap,cur,rfl,hb,?_,rest⟩;rw[s.block g (lt_of_block hgg) (by rw[h.2 g rfl];exact hi)];exact hgg
theorem Row.nil (w:World)(o:Nat->Nat)(i:Nat)(e:TypeId)(size:Nat):Row w o i e size (.slice none 0 0) 0 []:=⟨World.ownsRow_nil _ _ _ _,fun k hk=>by simp[Value.ownBlock] at hk⟩
theorem Row.len {w:World}{o:Nat->Nat}{i:Nat}{e:TypeId}{size:Nat}{v:Value}{n:Nat}{xs:List Value}(h:Row w o i e size v n xs):xs.length=n*size:=h.1.1
theorem Row.form {w:World}{o:Nat->Nat}{i:Nat}{e:TypeId}{size:Nat}{v:Value}{n:Nat}{xs:List Value}(h:Row w o i e size v n xs):∃ao cap,v=.slice ao n cap:=by
 rcases h.1.2 with ⟨rfl,rfl⟩|⟨g,cap,cur,rfl,_⟩
 ·exact⟨_,_,rfl⟩
 ·exact⟨_,_,rfl⟩
theorem Row.pos {w:World}{o:Nat->Nat}{i:Nat}{e:TypeId}{size:Nat}{v:Value}{n:Nat}{xs:List Value}(h:Row w o i e size v n xs)(hn:0<n) :
  ∃g cap,v=.slice (some ⟨g,0,none⟩) n cap/\o g=i/\n<=cap/\cap<=maxLen/\g<w.heap.size/\(∀ j,j<n*size->w.cell? ⟨g,j,none⟩=xs[j]?)/\(∀ j,w.frozen? ⟨g,j,none⟩=false):=by
 rcases h.1.2 with ⟨rfl,rfl⟩|⟨g,cap,cur,rfl,_,hg,hc,hm,_⟩
 ·omega
 ·exact⟨g,cap,rfl,h.2 g rfl,hc,hm,lt_of_block hg,fun j hj=>h.1.cellAt j hj,fun j=>h.1.frozenAt j⟩
theorem Row.store {w:World}{o:Nat->Nat}{i:Nat}{e:TypeId}{size:Nat}{g n cap:Nat}{xs:List Value}(h:Row w o i e size (.slice (some ⟨g,0,none⟩) n cap) n xs)(j:Nat)(u:Value) :
  Row (w.setCell ⟨g,j,none⟩ u) o i e size (.slice (some ⟨g,0,none⟩) n cap) n (xs.set j u):=⟨(h.1.stored j u).1,h.2⟩
theorem fw {P:Program}(w:World)(t ty e:TypeId)(i:TypeInfo)(z:Value)(size bytes:Nat)(ht:P.underlying t=some (.slice e))(hi:P.info? e=some i)(hz:i.zero=some z)
  (hsize:i.size=size) (hby:i.bytes=bytes) (hzs:z.cells.size=size) (hsz:0<size)
  (v:Value) (n:Nat) (xs:List Value) (hown:w.ownsRow 0 e size v n xs)
  (a:Addr) (m c:Nat) (news:List Value) (hl:news.length=m*size) (hnews:∀ j u,news[j]?=some u->w.cell? (a.add j)=some u) (h1:∀ u ∈ news,u.oneCell'=true)
  (h63:n+m<=maxLen) (hbytes:(n+m)*bytes<=140737488355328) (hm:0<m) :
  ∃v' w',(Builtin.append_ #[t,t] ty #[v,.slice (some a) m c]).run P w=.ok v' w'/\w'.ownsRow 0 e size v' (n+m) (xs++news)/\w.grownBy w' v.ownBlock /\
   (v'.ownBlock=v.ownBlock\/∃k,v'.ownBlock=some k/\w.heap.size<=k):=by
 obtain⟨v',w',hr,ho,hg,_⟩:=run_append_own (P:=P) w 0 t ty e i z size bytes ht hi hz hsize hby hzs hsz v n xs hown a m c news hl hnews h1 h63 hbytes (Nat.zero_le _);refine⟨v',w',hr,ho,hg,?_⟩;subst hsize;subst hby;have h63':n+m<=9223372036854775807:=by simp only[maxLen] at h63;omega
 rcases hown.2 with ⟨rfl,rfl⟩|⟨g,cap,cur,rfl,hbg,hgb,hnc,hcm,hcs,htake⟩
 ·have hr':=run_append_nil (P:=P) w t ty e i z ht hi hz a m c news hl hnews hm (by omega) (by have hb:=hbytes;simp only[Nat.zero_add] at hb;omega);rw[hr'] at hr;injection hr with e1 e2
  subst e1;exact .inr ⟨_,rfl,Nat.le_refl _⟩
 ·by_cases hroom:n+m<=cap
  ·have hfit:n*i.size+news.length<=cur.size:=by rw[hl,hcs,<-Nat.add_mul];exact Nat.mul_le_mul_right _ hroom
   have hr':=run_append_room (P:=P) w t ty e i ht hi g n cap cur hgb a m c news hl hnews h1 hroom hfit;rw[hr'] at hr;injection hr with e1 e2
   subst e1;exact .inl rfl
  ·have holds:∀ j u,xs[j]?=some u->w.cell? ((⟨g,0,none⟩:Addr).add j)=some u:=hown.cells (g:=g) rfl;have hr':=run_append_grow (P:=P) w t ty e i z ht hi hz ⟨g,0,none⟩ n cap xs hown.1 holds a m c news hl hnews (by omega) (by omega) (growslice_fits (by omega) hbytes);rw[hr'] at hr;injection hr with e1 e2
   subst e1;exact .inr ⟨_,rfl,Nat.le_refl _⟩
theorem aa.appended {I:Nat->Prop}{w w':World}{o:Nat->Nat}{i:Nat}{row:Option Nat}(hg:w.grownBy w' row)(hi:I i)(hr:∀ k,row=some k->o k=i):aa I w o w' (ae w o i) :=
 ⟨hg.os,hg.tape,hg.output,hg.size,fun k hk=>aC hk,fun k hk hn=>hg.block k hk (fun e=>hn (by rw[hr k e.symm];exact hi))⟩
theorem aB {P:Program}{w:World}{ops:Array Oper}{rest:List Oper}{op:Oper}{a:Act}{Q:Exit->Act->World->Prop}(hgd:op.guard=none)(s x:Operand)(t:TypeId)
  (ho:op.op=.call { callee:=.builtin .append,args:=#[s,x],argTypes:=#[t,t] })
  (e:TypeId) (i:TypeInfo) (z:Value) (size bytes:Nat) (ht:P.underlying t=some (.slice e)) (hi:P.info? e=some i) (hz:i.zero=some z)
  (hsize:i.size=size) (hby:i.bytes=bytes) (hzs:z.cells.size=size) (hsz:0<size)
  (o:Nat->Nat) (lb:Nat) (v:Value) (n:Nat) (xs:List Value) (hs:a.eval s=v) (hrow:Row w o lb e size v n xs)
  (ad:Addr) (m c:Nat) (news:List Value) (hx:a.eval x=.slice (some ad) m c) (hl:news.length=m*size) (hnews:∀ j u,news[j]?=some u->w.cell? (ad.add j)=some u) (h1:∀ u ∈ news,u.oneCell'=true)
  (hm:0<m) (h63:n+m<=maxLen) (hbytes:(n+m)*bytes<=140737488355328)
  (h:∀ g cap w' o',Row w' o' lb e size (.slice (some ⟨g,0,none⟩) (n+m) cap) (n+m) (xs++news)->aa (fun k=>k=lb) w o w' o'->wpList P ops Q rest (a.put op.dst (.slice (some ⟨g,0,none⟩) (n+m) cap)) w'):wpList P ops Q (op::rest) a w:=by
 refine wpList_plain hgd fun _ hK=>?_;obtain⟨v',w',hr,h2,h3,h4⟩:=fw (P:=P) w t op.type e i z size bytes ht hi hz hsize hby hzs hsz v n xs hrow.1 ad m c news hl hnews h1 h63 hbytes hm;unfold Oper.wp execOp;simp only[ho,resolve,invoke,builtin,Sem.run_bind,Sem.run_pure,Result.andThen_ok,List.map_toArray,List.map_cons,List.map_nil,hs,hx,hr];have hst:aa (fun k=>k=lb) w o w' (ae w o lb):=aa.appended h3 rfl hrow.2;have hrow':Row w' (ae w o lb) lb e size v' (n+m) (xs++news):=by
  refine⟨h2,fun k hk=>?_⟩;rcases h4 with h4|⟨k',h4,hk'⟩
  ·rw[h4] at hk;rw[aC (hrow.lt hk)];exact hrow.2 k hk
  ·rw[h4] at hk;injection hk with hk
   subst hk;exact ax hk'
 obtain⟨g,cap,rfl,_⟩:=hrow'.pos (by omega);exact hK _ _ (h g cap w' _ hrow' hst)
theorem aa.below {I:Nat->Prop}{w w':World}{o o':Nat->Nat}(s:aa I w o w' o')(h0:∀ k,k<w.heap.size->¬I (o k)):Below w.heap.size w w' :=
 ⟨s.os,s.tape,s.output,s.size,fun k hk=>s.block k hk (h0 k hk)⟩
theorem cX {P:Program}{w:World}{ops:Array Oper}{op:Oper}{a:Act}{K:Act->World->Prop}{Q:Exit->Act->World->Prop}{E:Prop}(hgd:op.guard=none)(s x:Operand)(t:TypeId)
  (ho:op.op=.call { callee:=.builtin .append,args:=#[s,x],argTypes:=#[t,t] })
  (e:TypeId) (i:TypeInfo) (z:Value) (size bytes:Nat) (ht:P.underlying t=some (.slice e)) (hi:P.info? e=some i) (hz:i.zero=some z)
  (hsize:i.size=size) (hby:i.bytes=bytes) (hzs:z.cells.size=size) (hsz:0<size)
  (o:Nat->Nat) (lb:Nat) (v:Value) (n:Nat) (xs:List Value) (hs:a.eval s=v) (hrow:Row w o lb e size v n xs)
  (ad:Addr) (m c:Nat) (news:List Value) (hx:a.eval x=.slice (some ad) m c) (hl:news.length=m*size) (hnews:∀ j u,news[j]?=some u->w.cell? (ad.add j)=some u) (h1:∀ u ∈ news,u.oneCell'=true)
  (hm:0<m) (h63:n+m<=maxLen) (hbytes:(n+m)*bytes<=140737488355328)
  (h:∀ g cap w' o',Row w' o' lb e size (.slice (some ⟨g,0,none⟩) (n+m) cap) (n+m) (xs++news)->aa (fun k=>k=lb) w o w' o'->K (a.put op.dst (.slice (some ⟨g,0,none⟩) (n+m) cap)) w') :
  if Region.wanted op (yielded ops a.tmps)=true then Oper.wp P op a w K Q else E:=by
 have hw:Region.wanted op (yielded ops a.tmps)=true:=by simp[Region.wanted,hgd]
 rw[if_pos hw];obtain⟨v',w',hr,h2,h3,h4⟩:=fw (P:=P) w t op.type e i z size bytes ht hi hz hsize hby hzs hsz v n xs hrow.1 ad m c news hl hnews h1 h63 hbytes hm;unfold Oper.wp execOp;simp only[ho,resolve,invoke,builtin,Sem.run_bind,Sem.run_pure,Result.andThen_ok,List.map_toArray,List.map_cons,List.map_nil,hs,hx,hr];have hst:aa (fun k=>k=lb) w o w' (ae w o lb):=aa.appended h3 rfl hrow.2;have hrow':Row w' (ae w o lb) lb e size v' (n+m) (xs++news):=by
  refine⟨h2,fun k hk=>?_⟩;rcases h4 with h4|⟨k',h4,hk'⟩
  ·rw[h4] at hk;rw[aC (hrow.lt hk)];exact hrow.2 k hk
  ·rw[h4] at hk;injection hk with hk
   subst hk;exact ax hk'
 obtain⟨g,cap,rfl,_⟩:=hrow'.pos (by omega);exact h g cap w' _ hrow' hst
theorem cL (w:World)(x:Value)(t:TypeId):∀ j u,[x][j]?=some u->(w.alloc (.cells #[x] t)).cell? ((⟨w.heap.size,0,none⟩:Addr).add j)=some u:=by
 intro j u hj
 match j,hj with
 | 0,hj=>simp at hj;subst hj;simp[Addr.add]
theorem qW {w:World}{s:Nat}(hs:w.heap.size=s)(x:Value)(t:TypeId):∀ j u,[x][j]?=some u->(w.alloc (.cells #[x] t)).cell? ((⟨s,0,none⟩:Addr).add j)=some u:=by
 subst hs;exact cL w x t
theorem mG {w:World}{base:Nat}{e:TypeId}{size:Nat}{v:Value}{n:Nat}{xs:List Value}(h:w.ownsRow base e size v n xs):w.ownsRow 0 e size v n xs:=by
 refine⟨h.1,?_⟩;rcases h.2 with hn|⟨g,cap,cur,h1,h2,rest⟩
 ·exact .inl hn
 ·exact .inr ⟨g,cap,cur,h1,Nat.zero_le _,rest⟩
theorem kX {k:IntKind}{a b:Int}(h:a=b):Ending.returned (.int k a)=.returned (.int k b):=by rw[h]
theorem bC {a b:Bool}(h:a=b):Ending.returned (.bool a)=.returned (.bool b):=by rw[h]
theorem mB (r:Nat)(w:World)(hr:r<=2147483647) :
  Calls Tryz.prog 165 #[.int .i32 (r:Nat)] w fun e w'=>e=.returned (.bool (sml r))/\w'=w:=by
 by_cases h1:97<=r
 ·have g1:(97:Int)<=(r:Int):=by omega
  by_cases h2:r<=122
  ·have g2:(r:Int)<=122:=by omega
   have e0:sml r=true:=by simp[sml,h1,h2]
   rw[e0];clear e0;go_enter Tryz.func165,Tryz.ntmps165;go_wp2;go_ret;exact⟨rfl,rfl⟩
  ·have g2:¬(r:Int)<=122:=by omega
   have g3:decide ((r:Int)<=122)=false:=decide_eq_false g2;have e0:sml r=false:=by simp[sml];omega
   rw[e0];clear e0;go_enter Tryz.func165,Tryz.ntmps165;go_wp2;go_ret;exact⟨rfl,rfl⟩
 ·have g1:¬(97:Int)<=(r:Int):=by omega
  have e0:sml r=false:=by simp[sml];omega
  rw[e0];clear e0;go_enter Tryz.func165,Tryz.ntmps165;go_wp2;go_ret;exact⟨rfl,rfl⟩
theorem sX (r:Nat)(w:World)(hr:r<=2147483647) :
  Calls Tryz.prog 166 #[.int .i32 (r:Nat)] w fun e w'=>e=.returned (.bool (dig r))/\w'=w:=by
 by_cases h1:48<=r
 ·have g1:(48:Int)<=(r:Int):=by omega
  by_cases h2:r<=57
  ·have g2:(r:Int)<=57:=by omega
   have e0:dig r=true:=by simp[dig,h1,h2]
   rw[e0];clear e0;go_enter Tryz.func166,Tryz.ntmps166;go_wp2;go_ret;exact⟨rfl,rfl⟩
  ·have g2:¬(r:Int)<=57:=by omega
   have g3:decide ((r:Int)<=57)=false:=decide_eq_false g2;have e0:dig r=false:=by simp[dig];omega
   rw[e0];clear e0;go_enter Tryz.func166,Tryz.ntmps166;go_wp2;go_ret;exact⟨rfl,rfl⟩
 ·have g1:¬(48:Int)<=(r:Int):=by omega
  have e0:dig r=false:=by simp[dig];omega
  rw[e0];clear e0;go_enter Tryz.func166,Tryz.ntmps166;go_wp2;go_ret;exact⟨rfl,rfl⟩
theorem yd {s t:ByteArray}(h:s≠t):(s.toList==t.toList)=false:=by
 rw[beq_eq_false_iff_ne,ByteArray.toList_eq,ByteArray.toList_eq];exact fun e=>h (ByteArray.ext (Array.toList_inj.1 e))
theorem lj {s:ByteArray}(h:¬s.size=0):s.toList.isEmpty=false:=by
 rw[ByteArray.toList_eq,List.isEmpty_eq_false_iff];intro e;have h2:s.data.size=0:=by rw[<-Array.length_toList,e];rfl
 exact h h2
theorem mv {s t:ByteArray}:s.data.toList=t.data.toList ↔ s=t :=
 ⟨fun e=>ByteArray.ext (Array.toList_inj.1 e),fun e=>by rw[e]⟩
theorem b0 (w:World):Below w.heap.size w w:=Below.refl _ _
theorem b1 (w:World)(o:Obj):Below w.heap.size w (w.alloc o):=(Below.refl _ w).alloc (Nat.le_refl _) _
def wd (k:Nat):ByteArray:=⟨(iT.getD k []).toArray⟩
def a7:Array Value:=#[.string (wd 0),.string (wd 1),.string (wd 2),.string (wd 3),.string (wd 4),.string (wd 5),.string (wd 6),.string (wd 7),.string (wd 8),.string (wd 9),.string (wd 10),.string (wd 11),.string (wd 12),.string (wd 13),.string (wd 14),.string (wd 15),.string (wd 16),.string (wd 17),.string (wd 18),.string (wd 19),.string (wd 20),.string (wd 21),.string (wd 22),.string (wd 23),.string (wd 24),.string (wd 25),.string (wd 26)]
theorem wix0 (w:World):(Instr.index 270 (.agg a7) (.int .i64 0)).run Tryz.prog w=.ok (.string (wd 0)) w:=by kernel_rfl
theorem wix1 (w:World):(Instr.index 270 (.agg a7) (.int .i64 1)).run Tryz.prog w=.ok (.string (wd 1)) w:=by kernel_rfl
theorem wix2 (w:World):(Instr.index 270 (.agg a7) (.int .i64 2)).run Tryz.prog w=.ok (.string (wd 2)) w:=by kernel_rfl
theorem wix3 (w:World):(Instr.index 270 (.agg a7) (.int .i64 3)).run Tryz.prog w=.ok (.string (wd 3)) w:=by kernel_rfl
theorem wix4 (w:World):(Instr.index 270 (.agg a7) (.int .i64 4)).run Tryz.prog w=.ok (.string (wd 4)) w:=by kernel_rfl
theorem wix5 (w:World):(Instr.index 270 (.agg a7) (.int .i64 5)).run Tryz.prog w=.ok (.string (wd 5)) w:=by kernel_rfl
theorem wix6 (w:World):(Instr.index 270 (.agg a7) (.int .i64 6)).run Tryz.prog w=.ok (.string (wd 6)) w:=by kernel_rfl
theorem wix7 (w:World):(Instr.index 270 (.agg a7) (.int .i64 7)).run Tryz.prog w=.ok (.string (wd 7)) w:=by kernel_rfl
theorem wix8 (w:World):(Instr.index 270 (.agg a7) (.int .i64 8)).run Tryz.prog w=.ok (.string (wd 8)) w:=by kernel_rfl
theorem wix9 (w:World):(Instr.index 270 (.agg a7) (.int .i64 9)).run Tryz.prog w=.ok (.string (wd 9)) w:=by kernel_rfl
theorem Ez (w:World):(Instr.index 270 (.agg a7) (.int .i64 10)).run Tryz.prog w=.ok (.string (wd 10)) w:=by kernel_rfl
theorem Ew (w:World):(Instr.index 270 (.agg a7) (.int .i64 11)).run Tryz.prog w=.ok (.string (wd 11)) w:=by kernel_rfl
theorem DZ (w:World):(Instr.index 270 (.agg a7) (.int .i64 12)).run Tryz.prog w=.ok (.string (wd 12)) w:=by kernel_rfl
theorem DM (w:World):(Instr.index 270 (.agg a7) (.int .i64 13)).run Tryz.prog w=.ok (.string (wd 13)) w:=by kernel_rfl
theorem Et (w:World):(Instr.index 270 (.agg a7) (.int .i64 14)).run Tryz.prog w=.ok (.string (wd 14)) w:=by kernel_rfl
theorem DO (w:World):(Instr.index 270 (.agg a7) (.int .i64 15)).run Tryz.prog w=.ok (.string (wd 15)) w:=by kernel_rfl
theorem EB (w:World):(Instr.index 270 (.agg a7) (.int .i64 16)).run Tryz.prog w=.ok (.string (wd 16)) w:=by kernel_rfl
theorem DE (w:World):(Instr.index 270 (.agg a7) (.int .i64 17)).run Tryz.prog w=.ok (.string (wd 17)) w:=by kernel_rfl
theorem Ej (w:World):(Instr.index 270 (.agg a7) (.int .i64 18)).run Tryz.prog w=.ok (.string (wd 18)) w:=by kernel_rfl
theorem Es (w:World):(Instr.index 270 (.agg a7) (.int .i64 19)).run Tryz.prog w=.ok (.string (wd 19)) w:=by kernel_rfl
theorem D0 (w:World):(Instr.index 270 (.agg a7) (.int .i64 20)).run Tryz.prog w=.ok (.string (wd 20)) w:=by kernel_rfl
theorem Eb (w:World):(Instr.index 270 (.agg a7) (.int .i64 21)).run Tryz.prog w=.ok (.string (wd 21)) w:=by kernel_rfl
theorem DR (w:World):(Instr.index 270 (.agg a7) (.int .i64 22)).run Tryz.prog w=.ok (.string (wd 22)) w:=by kernel_rfl
theorem Eh (w:World):(Instr.index 270 (.agg a7) (.int .i64 23)).run Tryz.prog w=.ok (.string (wd 23)) w:=by kernel_rfl
theorem D7 (w:World):(Instr.index 270 (.agg a7) (.int .i64 24)).run Tryz.prog w=.ok (.string (wd 24)) w:=by kernel_rfl
theorem El (w:World):(Instr.index 270 (.agg a7) (.int .i64 25)).run Tryz.prog w=.ok (.string (wd 25)) w:=by kernel_rfl
theorem DG (w:World):(Instr.index 270 (.agg a7) (.int .i64 26)).run Tryz.prog w=.ok (.string (wd 26)) w:=by kernel_rfl
theorem uH (k:Nat)(hk:k<27)(w:World):(Instr.index 270 (.agg a7) (.int .i64 (k:Nat))).run Tryz.prog w=.ok (.string (wd k)) w:=by
 match k,hk with
 | 0,_=>exact wix0 w
 | 1,_=>exact wix1 w
 | 2,_=>exact wix2 w
 | 3,_=>exact wix3 w
 | 4,_=>exact wix4 w
 | 5,_=>exact wix5 w
 | 6,_=>exact wix6 w
 | 7,_=>exact wix7 w
 | 8,_=>exact wix8 w
 | 9,_=>exact wix9 w
 | 10,_=>exact Ez w
 | 11,_=>exact Ew w
 | 12,_=>exact DZ w
 | 13,_=>exact DM w
 | 14,_=>exact Et w
 | 15,_=>exact DO w
 | 16,_=>exact EB w
 | 17,_=>exact DE w
 | 18,_=>exact Ej w
 | 19,_=>exact Es w
 | 20,_=>exact D0 w
 | 21,_=>exact Eb w
 | 22,_=>exact DR w
 | 23,_=>exact Eh w
 | 24,_=>exact D7 w
 | 25,_=>exact El w
 | 26,_=>exact DG w
 | n+27,h=>omega
def Wd (w:World):Prop:=∃t fr,w.heap[3]?=some (.cells a7 t fr)
theorem Wd.lt {w:World}(h:Wd w):3<w.heap.size:=by
 obtain⟨t,fr,h⟩:=h;exact lt_of_block h
theorem Wd.below {w w':World}(h:Wd w)(b:Below w.heap.size w w'):Wd w':=by
 have hl:=h.lt;obtain⟨t,fr,h⟩:=h;exact⟨t,fr,(b.block _ hl).trans h⟩
theorem nh {t:List UInt8}(k:Nat)(hk:k<27)(h:t=iT.getD k []):ew t=true:=by
 subst h;have hl:iT.length=27:=rfl;unfold ew;rw[List.contains_iff_mem];simp only[List.getD,List.getElem?_eq_getElem (by omega:k<iT.length),Option.getD_some];exact List.getElem_mem _
theorem pO {t:List UInt8}(h:∀ k,k<27->¬t=iT.getD k []):ew t=false:=by
 rw[<-Bool.not_eq_true];unfold ew;rw[List.contains_iff_mem,List.mem_iff_getElem];rintro ⟨k,hk,e⟩;have hl:iT.length=27:=rfl;refine h k (by omega) ?_;simp only[List.getD,List.getElem?_eq_getElem hk,Option.getD_some];exact e.symm
theorem vA:(Tryz.prog.info? 270).map (·.size)=some a7.size:=by kernel_rfl
theorem Cf (s:ByteArray)(w:World)(hW:Wd w)(hs:s.size<=maxLen) :
  Calls Tryz.prog 167 #[.string s] w fun e w'=>e=.returned (.bool (ew s.data.toList))/\w'=w:=by
 obtain⟨tt,fr,hg⟩:=hW;have IX:Hid (∀ k:Nat,k<27->(Instr.index 270 (.agg a7) (.int .i64 (k:Nat))).run Tryz.prog w=.ok (.string (wd k)) w):=fun k hk=>uH k hk w;have hsz:=vA;generalize a7=cs at *;go_enter Tryz.func167,Tryz.ntmps167;go_wp2_with (refine wpList_load_row rfl 270 _ rfl 3 rfl tt _ fr _ hg Tryz.underlying270 rfl hsz ?_);go_loopw [6] (fun v wr=>∃k:Nat,k<=27/\v=.int .i64 (k:Nat)/\(∀ j,j<k->s≠wd j)/\wr=w) (fun v _=>27-(intOf v).toNat)
 case atStart=>exact⟨0,by omega,by go_num,fun j hj=>by omega,rfl⟩
 case round =>
  obtain⟨k,hk,rfl,hin,rfl⟩:=hrel;by_cases hlt:k<27
  ·have ix:=IX.out k hlt;have hkI:(k:Int)<27:=by omega
   by_cases he:s=wd k
   ·have fin:ew s.data.toList=true:=nh k hlt (by rw[he];rfl);rw[<-he] at ix;clear he IX;go_wp2;go_ret;exact⟨by rw[fin];rfl,rfl⟩
   ·have hin':∀ j,j<k+1->s≠wd j:=fun j hj=>by
     by_cases e:j=k
     ·subst e;exact he
     ·exact hin j (by omega)
    have heb:=yd he;generalize wd k=t at ix he heb;clear IX hin;go_wp2;go_roundw
    case rel=>(try ((repeat apply Exists.intro);refine⟨?_,rfl⟩));exact⟨k+1,by omega,by go_num,hin',by trivial⟩
    case measure=>simp[intOf];omega
  ·obtain rfl:k=27:=by omega
   clear IX;have fin:ew s.data.toList=false:=pO fun j hj e=>hin j hj (mv.1 (by rw[e];rfl));go_wp2;go_ret;exact⟨by rw[fin];rfl,rfl⟩
def nmc (j:Nat)(c:UInt8):Bool:=sml c.toNat||(j != 0&&(dig c.toNat||c.toNat==95))
theorem dL (l:List UInt8):aX l=true ↔ 0<l.length/\l.length<=12/\(∀ j (h:j<l.length),nmc j l[j]=true)/\ew l=false:=by
 cases l with
 | nil=>simp[aX]
 | cons c r =>
  simp only[aX,Bool.and_eq_true,decide_eq_true_eq,List.all_eq_true,Bool.not_eq_true',List.length_cons];constructor
  ·rintro ⟨⟨⟨h1,h2⟩,h3⟩,h4⟩;refine⟨by omega,by omega,fun j h=>?_,h4⟩;cases j with
   | zero=>simp[nmc,h2]
   | succ j =>
    have:=h3 (r[j]'(by omega)) (List.getElem_mem _)
    simp only[inn] at this;simp[nmc];simpa [Bool.or_eq_true,or_assoc] using this
  ·rintro ⟨h1,h2,h3,h4⟩;refine⟨⟨⟨by omega,?_⟩,fun x hx=>?_⟩,h4⟩
   ·have:=h3 0 (by omega)
    simpa [nmc] using this
   ·obtain⟨j,hj,rfl⟩:=List.mem_iff_getElem.1 hx
    have:=h3 (j+1) (by omega)
    simp only[nmc,List.getElem_cons_succ] at this;simp only[inn];simpa [Bool.or_eq_true,or_assoc] using this
theorem gW {l:List UInt8}(j:Nat)(h:j<l.length)(hn:nmc j l[j]=false):aX l=false:=by
 rw[<-Bool.not_eq_true,dL];rintro ⟨_,_,h3,_⟩
 have:=h3 j h
 rw[hn] at this;cases this
theorem wD (j:Nat)(c:UInt8)(h:128<=c.toNat):nmc j c=false:=by
 simp[nmc,sml,dig];omega
theorem bL (s:ByteArray)(j:Nat)(h:j<s.size)(h':j<s.data.toList.length):s.data.toList[j]=s[j]:=by
 rw[Array.getElem_toList];rfl
theorem bR (s:ByteArray):s.data.toList.length=s.size:=Array.length_toList
theorem Ca (s:ByteArray)(w:World)(hW:Wd w)(hs:s.size<=maxLen) :
  Calls Tryz.prog 101 #[.string s] w fun e w'=>e=.returned (.bool (aX s.data.toList))/\Below w.heap.size w w':=by
 have hs':=hs;unfold maxLen at hs;have hln:=bR s;by_cases h0:s.size=0
 ·have e0:s=⟨#[]⟩:=by
   apply ByteArray.ext;exact Array.eq_empty_of_size_eq_zero h0
  subst e0;have fin:aX (⟨#[]⟩:ByteArray).data.toList=false:=rfl;rw[fin];clear fin h0 hln;go_enter Tryz.func101,Tryz.ntmps101;go_wp2;go_ret;exact⟨rfl,b0 _⟩
 ·by_cases h12:12<s.size
  ·have fin:aX s.data.toList=false:=by rw[<-Bool.not_eq_true,dL];rintro ⟨_,h,_⟩;omega
   rw[fin];clear fin hln;have hne:=lj h0;have h12I:(12:Int)<(s.size:Int):=by omega
   go_enter Tryz.func101,Tryz.ntmps101;go_wp2;go_ret;exact⟨by simp,b0 _⟩
  ·have hne:=lj h0;have h12I:¬(12:Int)<(s.size:Int):=by omega
   have HL:Hid (s.data.toList.length=s.size):=hln;clear hln;go_enter Tryz.func101,Tryz.ntmps101;go_wp2;go_loopw [3] (fun _ wr=>∃pos:Nat,wr.heap[w.heap.size]?=some (.stringIter s pos)/\pos<=s.size/\(∀ j (h:j<s.data.toList.length),j<pos->nmc j s.data.toList[j]=true)/\Below w.heap.size w wr) (fun _ wr=>s.size-wr.iterPos w.heap.size)
   case atStart=>exact⟨0,World.iter_heap w s 0,by omega,fun j _ h=>by omega,b1 _ _⟩
   case round =>
    obtain⟨pos,hit,hps,hin,hbw⟩:=hrel;by_cases hp:pos<s.size
    ·have hpl:pos<s.data.toList.length:=by have:=HL.out;omega
     by_cases ha:(s[pos]'hp).toNat<128
     ·have hnx:∀ ty,(Instr.next (.pointer (some ⟨w.heap.size,0,none⟩)) true ty).run Tryz.prog wr=_:=fun ty=>Lib.run_next_ascii_at wr w.heap.size s pos ty hit hp ha;have hit2:=Lib.iterAt_heap wr w.heap.size s pos (pos+1) hit;have hbw2:=Lib.below_iterAt hbw (k:=w.heap.size) (by omega) s (pos+1);have hex:nmc pos s.data.toList[pos]=nmc pos s[pos]:=by rw[bL s pos hp hpl]
      have hgo:nmc pos s[pos]=true->∀ j (h:j<s.data.toList.length),j<pos+1->nmc j s.data.toList[j]=true:=fun hx j h hj=>by
       by_cases e:j=pos
       ·subst e;rw[hex];exact hx
       ·exact hin j h (by omega)
      have hno:nmc pos s[pos]=false->aX s.data.toList=false:=fun hx=>gW pos hpl (by rw[hex];exact hx);have hme:s.size-(wr.iterAt w.heap.size s (pos+1)).iterPos w.heap.size<s.size-wr.iterPos w.heap.size:=by
       simp only[World.iterPos,hit2,hit];omega
      clear hit hbw hin hex;have hwz:w.heap.size=w.heap.size:=rfl;generalize wr.iterAt w.heap.size s (pos+1)=w2 at *;have hnm:nmc pos s[pos]=(sml (s[pos]).toNat||(pos != 0&&(dig (s[pos]).toNat||(s[pos]).toNat==95))):=rfl;rw[hnm] at hgo hno;clear hnm;generalize hrn:(s[pos]'hp).toNat=r at *;have hr:r<=2147483647:=by omega
      clear hrn;have HG:Hid (((sml r||(pos != 0&&(dig r||r==95)))=true->∀ j (h:j<s.data.toList.length),j<pos+1->nmc j s.data.toList[j]=true)/\((sml r||(pos != 0&&(dig r||r==95)))=false->aX s.data.toList=false)):=⟨hgo,hno⟩
      clear hgo hno;cases h1:sml r
      ·by_cases hz:pos=0
       ·have fin:aX s.data.toList=false:=HG.out.2 (by simp[h1,hz]);subst hz;clear HG hme;go_wp2_with (go_at_call 165;refine(mB r _ hr).mono ?_;rw[h1];rintro e w1 ⟨rfl,rfl⟩);go_ret;exact⟨by rw[fin];rfl,hbw2⟩
       ·have hz':¬(pos:Int)=0:=by omega
        cases h2:dig r
        ·by_cases h3:r=95
         ·have RL:=HG.out.1 (by simp[h3,hz]);clear HG;subst h3;go_wp2_with (first|(go_at_call 165;refine(mB 95 _ hr).mono ?_;rw[h1];rintro e w1 ⟨rfl,rfl⟩)|(go_at_call 166;refine(sX 95 _ hr).mono ?_;rw[h2];rintro e w1 ⟨rfl,rfl⟩));go_roundw
          case rel=>(try ((repeat apply Exists.intro);refine⟨?_,rfl⟩));exact⟨pos+1,hit2,by omega,RL,hbw2⟩
          case measure=>exact hme
         ·have fin:aX s.data.toList=false:=HG.out.2 (by simp[h1,h2,h3]);have h3':¬(r:Int)=95:=by omega
          have h3b:((r:Int) != 95)=true:=by simpa using h3'
          clear HG hme;go_wp2_with (first|(go_at_call 165;refine(mB r _ hr).mono ?_;rw[h1];rintro e w1 ⟨rfl,rfl⟩)|(go_at_call 166;refine(sX r _ hr).mono ?_;rw[h2];rintro e w1 ⟨rfl,rfl⟩));go_ret;exact⟨by rw[fin];rfl,hbw2⟩
        ·have RL:=HG.out.1 (by simp[h2,hz]);clear HG;go_wp2_with (first|(go_at_call 165;refine(mB r _ hr).mono ?_;rw[h1];rintro e w1 ⟨rfl,rfl⟩)|(go_at_call 166;refine(sX r _ hr).mono ?_;rw[h2];rintro e w1 ⟨rfl,rfl⟩));go_roundw
         case rel=>(try ((repeat apply Exists.intro);refine⟨?_,rfl⟩));exact⟨pos+1,hit2,by omega,RL,hbw2⟩
         case measure=>exact hme
      ·have RL:=HG.out.1 (by simp[h1]);clear HG;go_wp2_with (go_at_call 165;refine(mB r _ hr).mono ?_;rw[h1];rintro e w1 ⟨rfl,rfl⟩);go_roundw
       case rel=>(try ((repeat apply Exists.intro);refine⟨?_,rfl⟩));exact⟨pos+1,hit2,by omega,RL,hbw2⟩
       case measure=>exact hme
     ·have fin:aX s.data.toList=false:=gW pos hpl (by rw[bL s pos hp hpl];exact wD _ _ (by omega));have hnx:∀ ty,(Instr.next (.pointer (some ⟨w.heap.size,0,none⟩)) true ty).run Tryz.prog wr=_:=fun ty=>Lib.run_next_any_at wr w.heap.size s pos ty hit hp;have hbw2:=Lib.below_iterAt hbw (k:=w.heap.size) (by omega) s (pos+(Utf8.decode s pos).2);have hr:=decode_le s pos;have hr2:=(decode_high s pos hp (by omega)).1;generalize wr.iterAt w.heap.size s (pos+(Utf8.decode s pos).2)=w2 at *;generalize (Utf8.decode s pos).1=r at *;have h1:sml r=false:=by simp[sml];omega
      have h2:dig r=false:=by simp[dig];omega
      have h3':¬(r:Int)=95:=by omega
      have h3b:((r:Int) != 95)=true:=by simpa using h3'
      clear hit hbw hin ha;by_cases hz:pos=0
      ·subst hz;go_wp2_with (go_at_call 165;refine(mB r _ hr).mono ?_;rw[h1];rintro e w1 ⟨rfl,rfl⟩);go_ret;exact⟨by rw[fin];rfl,hbw2⟩
      ·have hz':¬(pos:Int)=0:=by omega
       go_wp2_with (first|(go_at_call 165;refine(mB r _ hr).mono ?_;rw[h1];rintro e w1 ⟨rfl,rfl⟩)|(go_at_call 166;refine(sX r _ hr).mono ?_;rw[h2];rintro e w1 ⟨rfl,rfl⟩));go_ret;exact⟨by rw[fin];rfl,hbw2⟩
    ·have hnx:∀ ty,(Instr.next (.pointer (some ⟨w.heap.size,0,none⟩)) true ty).run Tryz.prog wr=_:=fun ty=>Lib.run_next_end_at wr w.heap.size s pos ty hit hp;have hW2:=hW.below hbw;have fin:aX s.data.toList=!wordB s.data.toList:=by
      have hl:=HL.out;cases hw:ew s.data.toList
      ·exact(dL _).2 ⟨by omega,by omega,fun j h=>hin j h (by omega),hw⟩
      ·show _=false;rw[<-Bool.not_eq_true,dL];rintro ⟨_,_,_,h⟩;rw[hw] at h;cases h
     clear hin hit;go_wp2_with (go_at_call 167;refine(Cf s _ hW2 hs').mono ?_;rintro e w1 ⟨rfl,rfl⟩);go_ret;exact⟨by rw[fin];rfl,hbw⟩
abbrev tka (x:Tk):Array Value:=#[.int .i64 (x.k:Nat),.int .i64 x.n,.string ⟨x.t.toArray⟩,.int .i64 (x.a:Nat)]
theorem nj (t:ByteArray):(⟨t.data.toList.toArray⟩:ByteArray)=t:=by cases t;simp
theorem pu {w:World}{b:Nat}{a0 a1 a2 a3:Value}{t:TypeId}(v0 v1 v2 v3:Value)(h:w.heap[b]?=some (.cells #[a0,a1,a2,a3] t (0,0))) :
  ((((w.setCell ⟨b,0,none⟩ v0).setCell ⟨b,1,none⟩ v1).setCell ⟨b,2,none⟩ v2).setCell ⟨b,3,none⟩ v3).heap[b]?=some (.cells #[v0,v1,v2,v3] t (0,0)):=by
 have h0:=heap_setCell_same w b 0 _ t v0 h;have h1:=heap_setCell_same _ b 1 _ t v1 h0;have h2:=heap_setCell_same _ b 2 _ t v2 h1;have h3:=heap_setCell_same _ b 3 _ t v3 h2;simpa using h3
theorem b2 (w:World)(A B:Obj):Below w.heap.size w ((w.alloc A).alloc B):=(b1 _ _).trans ((b1 _ _).mono (by simp))
theorem ku {w w1:World}{b:Nat}(v0 v1 v2 v3:Value)(h:Below w.heap.size w w1)(hb:w.heap.size<=b) :
  Below w.heap.size w ((((w1.setCell ⟨b,0,none⟩ v0).setCell ⟨b,1,none⟩ v1).setCell ⟨b,2,none⟩ v2).setCell ⟨b,3,none⟩ v3) :=
 ((((h.setCell (p:=⟨b,0,none⟩) hb v0).setCell (p:=⟨b,1,none⟩) hb v1).setCell (p:=⟨b,2,none⟩) hb v2).setCell (p:=⟨b,3,none⟩) hb v3)
theorem zg (t:ByteArray)(h:0<t.size):t.data.toList.head?=some t[0]:=by
 have hl:0<t.data.toList.length:=by rw[bR];exact h
 rw[List.head?_eq_getElem?,List.getElem?_eq_getElem hl,bL t 0 h hl]
theorem Blk.set {w:World}{o:Nat->Nat}{i b:Nat}{cs:Array Value}{t:TypeId}(h:Blk w o i b (.cells cs t (0,0)))(j:Nat)(u:Value):Blk (w.setCell ⟨b,j,none⟩ u) o i b (.cells (cs.setIfInBounds j u) t (0,0)) :=
 ⟨heap_setCell_same w b j cs t u h.1,h.2⟩
theorem bT (I:Nat->Prop)(w:World)(o:Nat->Nat)(p:Addr)(u:Value)(hp:I (o p.block)):aa I w o (w.setCell p u) o:=(aa.refl I w o).setCell p u hp
theorem dK (I:Nat->Prop)(w:World)(o:Nat->Nat)(ob:Obj):aa I w o (w.alloc ob) o:=(aa.refl I w o).alloc ob
theorem tw:(Tryz.prog.info? 3).map (fun i=>(i.zero,i.size,i.bytes))=some (some (.int .i64 0),1,8):=by kernel_rfl
theorem Blk.cells4 {w:World}{o:Nat->Nat}{i b:Nat}{a0 a1 a2 a3:Value}{t:TypeId}(h:Blk w o i b (.cells #[a0,a1,a2,a3] t (0,0))) :
  w.cell? ⟨b,0,none⟩=some a0/\w.cell? ⟨b,1,none⟩=some a1/\w.cell? ⟨b,2,none⟩=some a2/\w.cell? ⟨b,3,none⟩=some a3/\∀ j,w.frozen? ⟨b,j,none⟩=false:=by
 refine⟨?_,?_,?_,?_,fun j=>frozen_of_row w b j _ t h.1⟩<;>simp[cell_of_row w b _ _ t (0,0) h.1]
theorem jD (s:ByteArray)(a b:Nat):(s.extract a b).data.toList=(s.data.toList.drop a).take (b-a):=by
 rw[ByteArray.data_extract,Array.toList_extract,List.extract_eq_take_drop]
theorem qZ (s:ByteArray)(a b:Nat):s.extract a b=⟨((s.data.toList.drop a).take (b-a)).toArray⟩:=by
 rw[<-jD,nj]
theorem jx (l:List UInt8)(pos:Nat)(h:pos<l.length):l.drop pos=l[pos]::l.drop (pos+1):=List.drop_eq_getElem_cons h
theorem aa.ofBelow {I:Nat->Prop}{w w':World}(o:Nat->Nat)(h:Below w.heap.size w w'):aa I w o w' o:=⟨h.os,h.tape,h.output,h.size,fun _ _=>rfl,fun k hk _=>h.block k hk⟩
theorem aH {P:Program}{t:TypeId}{z:Option Value}{s b:Nat}(h:(P.info? t).map (fun i=>(i.zero,i.size,i.bytes))=some (z,s,b)):∃i,P.info? t=some i/\i.zero=z/\i.size=s/\i.bytes=b:=by
 cases hi:P.info? t with
 | none=>rw[hi] at h;cases h
 | some i =>
  rw[hi] at h;injection h with h
  exact⟨i,rfl,(congrArg (·.1) h),(congrArg (·.2.1) h),(congrArg (·.2.2) h)⟩
theorem kG {w:World}{s:Nat}(hs:w.heap.size=s)(x y z q:Value)(t:TypeId):∀ j u,[x,y,z,q][j]?=some u->(w.alloc (.cells #[x,y,z,q] t)).cell? ((⟨s,0,none⟩:Addr).add j)=some u:=by
 subst hs;intro j u hj
 match j,hj with
 | 0,hj=>simp at hj;subst hj;simp[Addr.add]
 | 1,hj=>simp at hj;subst hj;simp[Addr.add]
 | 2,hj=>simp at hj;subst hj;simp[Addr.add]
 | 3,hj=>simp at hj;subst hj;simp[Addr.add]
end Go.Proofs.YtbjdkekhnajafaaGreatDoor

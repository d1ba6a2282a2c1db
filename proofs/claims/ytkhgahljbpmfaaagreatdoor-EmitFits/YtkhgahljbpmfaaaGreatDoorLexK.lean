import Derived.Lib.AtoiAll
import Derived.WalkKit
import Derived.ProofKit
import Derived.OpenShut
import Derived.Deep.QuietTactic
import Derived.BigQuiet
import Derived.Test.YtkhgahljbpmfaaaGreatDoorRows
import Derived.Shelf.Strconv.ErrVarAll
import Derived.Ground.NamesProg
import Derived.Lib.OthersKept
import Derived.Deep.MidRow
import Derived.Deep.CutBlock
import Derived.Deep.DeepCutAuto
import Derived.Laws.ResultCell
import Derived.WalkLawsBesides
import Derived.Deep.RegionHeld3
import Derived.Lib.AppendStr
import Derived.RegionTactic
import Derived.ChangeAlike
import Derived.BigRegion
import Derived.Shelf.Strconv.Itoa3
import Derived.Lib.ItoaLen
import Derived.Lib.SmallJoins
import Derived.Lib.Small
import Derived.Lib.AppendIntMem
import Derived.Deep.RegionHeld
set_option maxRecDepth 100000
set_option maxHeartbeats 8000000
namespace Go.Proofs.YtkhgahljbpmfaaaGreatDoor
set_option linter.unusedVariables false
def blk (r:Nat):Bool:=r==32||r==9||r==10||r==13
def sml (r:Nat):Bool:=decide (97<=r)&&decide (r<=122)
def ltr (r:Nat):Bool:=sml r||(decide (65<=r)&&decide (r<=90))
def dig (r:Nat):Bool:=decide (48<=r)&&decide (r<=57)
def sgn (r:Nat):Bool:=r==40||r==41||r==123||r==125||r==44||r==58||r==64||r==43||r==45||r==42||r==47||r==37||r==61||r==33||r==60
def cls (r:Nat):Nat:=if blk r then 0 else if ltr r then 1 else if dig r then 2 else if sgn r then 3 else 4
def tks (k:Nat)(t:List UInt8)(r:Nat):Bool :=
 match k with
 | 0=>blk r
 | 1=>ltr r||dig r||r==95
 | 2=>dig r
 | 3=>r==61&&(t==[33]||t==[60])
 | _=>false
def wordsL:List (List UInt8) :=
 [[97,108,108],[97,110,100],[97,114,111,117,110,100],[98,108,111,99,107],[98,111,116,116,108,101,110,101,99,107],[99,111,110,110,101,99,116,101,100],[99,111,117,110,116],[100,101,103,114,101,101],[101,108,115,101],
  [102,97,108,115,101],[105,102],[105,110],[108,101,97,115,116],[109,97,120],[109,105,110],[109,111,115,116],[110,111,116],[111,114],
  [114,101,112],[115,105,122,101],[115,111,109,101],[115,117,109],[116,104,101,110],[116,111,116,97,108],[116,114,117,101],[118,97,108,117,101],[118,101,114,116,105,99,101,115]]
def wordB (t:List UInt8):Bool:=wordsL.contains t
def inn (c:UInt8):Bool:=sml c.toNat||dig c.toNat||c.toNat==95
def nameB (t:List UInt8):Bool :=
 match t with
 | []=>false
 | c::r=>decide (r.length<12)&&sml c.toNat&&r.all inn&&!wordB t
structure Tk where
 k:Nat
 n:Int
 t:List UInt8
 a:Nat
abbrev Res:=Sum (Nat × Nat) (List Tk)
def consR (x:Tk):Res->Res
 | .inl e=>.inl e
 | .inr l=>.inr (x::l)
def numT (t:List UInt8)(a:Nat):Sum Nat Tk :=
 match Lib.atoiAll t with
 | .ok v=>if t.head?=some 48/\t≠[48] then .inl 111 else .inr ⟨1,v,[],a⟩
 | _=>.inl 111
def wrdT (t:List UInt8)(a:Nat):Sum Nat Tk:=if wordB t then .inr ⟨3,0,t,a⟩ else if nameB t then .inr ⟨2,0,t,a⟩ else .inl 112
def sgnT (t:List UInt8)(a:Nat):Sum Nat Tk:=if t=[33] then .inl 110 else .inr ⟨4,0,t,a⟩
def ptok (k:Nat)(t:List UInt8)(a:Nat):Sum Nat Tk :=
 match k with
 | 1=>wrdT t a
 | 2=>numT t a
 | 3=>sgnT t a
 | _=>.inl 110
def shutP (k:Nat)(t:List UInt8)(a:Nat)(X:Res):Res :=
 if k=0 then X else match ptok k t a with
  | .inl e=>.inl (e,a)
  | .inr x=>consR x X
def endR (p:Nat):Res:=.inr [⟨0,0,[],p⟩]
def lexL (k:Nat)(t:List UInt8)(a p:Nat):List UInt8->Res
 | []=>shutP k t a (endR p)
 | c::r=>if tks k t c.toNat then lexL k (t++[c]) a (p+1) r else shutP k t a (lexL (cls c.toNat) [c] p (p+1) r)
def lexA (l:List UInt8):Res:=lexL 0 [] 0 0 l
def scanA (l:List UInt8):Res:=if 2000<l.length then .inl (113,0) else lexA l
theorem lexL_four (t:List UInt8)(a p:Nat)(l:List UInt8):lexL 4 t a p l=.inl (110,a):=by
 cases l with
 | nil=>rfl
 | cons c r=>rfl
theorem lexL_nil (k:Nat)(t:List UInt8)(a p:Nat):lexL k t a p []=shutP k t a (endR p):=rfl
theorem lexL_yes {k:Nat}{t:List UInt8}{a p:Nat}{c:UInt8}{r:List UInt8}(h:tks k t c.toNat=true):lexL k t a p (c::r)=lexL k (t++[c]) a (p+1) r:=by
 simp only[lexL,h,if_true]
theorem lexL_no {k:Nat}{t:List UInt8}{a p:Nat}{c:UInt8}{r:List UInt8}(h:tks k t c.toNat=false):lexL k t a p (c::r)=shutP k t a (lexL (cls c.toNat) [c] p (p+1) r):=by
 simp[lexL,h]
theorem lexL_blank (t t':List UInt8)(a a' p:Nat)(l:List UInt8):lexL 0 t a p l=lexL 0 t' a' p l:=by
 induction l generalizing t t' p with
 | nil=>rfl
 | cons c r ih =>
  by_cases h:blk c.toNat=true
  ·rw[lexL_yes (by exact h),lexL_yes (by exact h)];exact ih _ _ _
  ·have h':blk c.toNat=false:=by simpa using h
   rw[lexL_no (by exact h'),lexL_no (by exact h')];rfl
theorem lexL_shut {k:Nat}{t:List UInt8}{a p:Nat}{c:UInt8}{r:List UInt8}(h:tks k t c.toNat=false):lexL k t a p (c::r)=shutP k t a (lexL 0 [] p p (c::r)):=by
 rw[lexL_no h]
 congr 1
 by_cases hb:blk c.toNat=true
 ·rw[lexL_yes (k:=0) (by exact hb)];have hc:cls c.toNat=0:=by simp[cls,hb]
  rw[hc];exact lexL_blank _ _ _ _ _ _
 ·have h':blk c.toNat=false:=by simpa using hb
  rw[lexL_no (k:=0) (by exact h')];rfl
theorem lexL_end (k:Nat)(t:List UInt8)(a p:Nat)(u l:List UInt8)(hk:∀ j (h:j<u.length),tks k (t++u.take j) (u[j]).toNat=true)(hl:∀ c r,l=c::r->tks k (t++u) c.toNat=false) :
  lexL k t a p (u++l)=shutP k (t++u) a (lexL 0 [] (p+u.length) (p+u.length) l):=by
 induction u generalizing t p with
 | nil =>
  simp only[List.nil_append,List.append_nil,List.length_nil,Nat.add_zero] at hl ⊢;cases l with
  | nil=>rw[lexL_nil,lexL_nil];rfl
  | cons c r=>exact lexL_shut (hl c r rfl)
 | cons c r ih =>
  have h0:=hk 0 (by simp);simp only[List.take_zero,List.append_nil,List.getElem_cons_zero] at h0;rw[List.cons_append,lexL_yes h0,ih (t++[c]) (p+1) (fun j h=>?_) (fun c' r' e=>?_)]
  ·have e1:p+1+r.length=p+(c::r).length:=by simp;omega
   rw[e1,List.append_assoc];rfl
  ·have:=hk (j+1) (by simp;omega)
   simpa [List.append_assoc] using this
  ·have:=hl c' r' e
   simpa [List.append_assoc] using this
structure Nd (α:Type) where
 k:Int
 n:Int
 nm:List UInt8
 a:Int
 kids:α
 rest:α
structure Fs where
 v:Option (Nd Fs)
abbrev Fs.nil:Fs:=⟨none⟩
abbrev Fs.cons (k n:Int)(nm:List UInt8)(a:Int)(ks r:Fs):Fs:=⟨some ⟨k,n,nm,a,ks,r⟩⟩
theorem Fs.on {P:Fs->Prop}(f:Fs)(nil:P .nil)(cons:∀ k n nm a ks r,P (.cons k n nm a ks r)):P f:=by
 obtain⟨v⟩:=f;cases v with
 | none=>exact nil
 | some z=>obtain⟨k,n,nm,a,ks,r⟩:=z;exact cons k n nm a ks r
structure Ex where
 k:Int
 n:Int
 nm:List UInt8
 a:Int
 kids:Fs
def Fs.len:Fs->Nat
 | ⟨none⟩=>0
 | ⟨some ⟨_,_,_,_,_,r⟩⟩=>r.len+1
def Fs.app:Fs->Fs->Fs
 | ⟨none⟩,y=>y
 | ⟨some ⟨k,n,nm,a,ks,r⟩⟩,y=>.cons k n nm a ks (r.app y)
def one (e:Ex):Fs:=.cons e.k e.n e.nm e.a e.kids .nil
def Fs.snoc (f:Fs)(e:Ex):Fs:=f.app (one e)
theorem Fs.len_app:∀ (x y:Fs),(x.app y).len=x.len+y.len
 | ⟨none⟩,y=>by simp[Fs.app,Fs.len]
 | ⟨some ⟨k,n,nm,a,ks,r⟩⟩,y=>by simp only[Fs.app,Fs.len];rw[Fs.len_app r y];omega
theorem Fs.len_snoc (x:Fs)(e:Ex):(x.snoc e).len=x.len+1:=by unfold Fs.snoc;rw[Fs.len_app];rfl
def noEx:Ex:=⟨0,0,[],0,.nil⟩
def Fs.head:Fs->Ex
 | ⟨none⟩=>noEx
 | ⟨some ⟨k,n,nm,a,ks,_⟩⟩=>⟨k,n,nm,a,ks⟩
structure Rs (α:Type) where
 v:Option (Sum (Nat × Nat) (α × List Tk))
abbrev Rs.out {α:Type}:Rs α:=⟨none⟩
abbrev Rs.bad {α:Type}(e a:Nat):Rs α:=⟨some (.inl (e,a))⟩
abbrev Rs.ok {α:Type}(x:α)(t:List Tk):Rs α:=⟨some (.inr (x,t))⟩
theorem Rs.on {α:Type}{P:Rs α->Prop}(R:Rs α)(out:P .out)(bad:∀ e a,P (.bad e a))(ok:∀ x t,P (.ok x t)):P R:=by
 obtain⟨v⟩:=R
 match v with
 | none=>exact out
 | some (.inl (e,a))=>exact bad e a
 | some (.inr (x,t))=>exact ok x t
theorem Rs.ok_inj {α:Type}{x y:α}{t u:List Tk}(h:Rs.ok x t=Rs.ok y u):x=y/\t=u:=by simpa using h
def Rs.bind {α β:Type}:Rs α->(α->List Tk->Rs β)->Rs β
 | ⟨none⟩,_=>.out
 | ⟨some (.inl (e,a))⟩,_=>.bad e a
 | ⟨some (.inr (x,ts))⟩,f=>f x ts
abbrev Rdr:=Nat->Nat->Nat->List Tk->Rs Ex
def passT (s:List UInt8):List Tk->Rs Nat
 | []=>.out
 | x::r=>if x.t=s then .ok x.a r else .bad 120 x.a
def passK (k:Nat):List Tk->Rs Tk
 | []=>.out
 | x::r=>if x.k=k then .ok x r else .bad 120 x.a
def enterT (s:List UInt8)(o:Nat):List Tk->Rs Nat
 | []=>.out
 | x::r=>if x.t=s then (if o=64 then .bad 121 x.a else .ok x.a r) else .bad 120 x.a
def opsL:List (List UInt8 × Nat × Nat × Nat × Nat) :=
 [([111,114],18,1,1,2),([97,110,100],17,2,2,3),([61],13,4,5,5),([33,61],14,4,5,5),([60],15,4,5,5),([60,61],16,4,5,5),([43],8,5,5,6),([45],9,5,5,6),([42],10,6,6,7),([47],11,6,6,7),([37],12,6,6,7)]
def opAt (t:List UInt8)(row:Nat):Option (List UInt8 × Nat × Nat × Nat × Nat):=opsL.find? fun x=>x.1==t&&x.2.2.1==row
def callsL:List (List UInt8 × Nat × Nat) :=
 [([99,111,110,110,101,99,116,101,100],1,2),([98,108,111,99,107],2,2),([98,111,116,116,108,101,110,101,99,107],3,2),([115,105,122,101],4,1),([116,111,116,97,108],5,1),([108,101,97,115,116],6,1),([109,111,115,116],7,1),([118,97,108,117,101],8,1),([100,101,103,114,101,101],9,1),([114,101,112],10,1)]
def callAt (t:List UInt8):Option (List UInt8 × Nat × Nat):=callsL.find? fun x=>x.1==t
def quantsL:List (List UInt8 × Nat) :=
 [([97,108,108],1),([115,111,109,101],2),([99,111,117,110,116],3),([115,117,109],4),([109,105,110],5),([109,97,120],6)]
def quantAt (t:List UInt8):Option (List UInt8 × Nat):=quantsL.find? fun x=>x.1==t
def chainL (rec:Rdr):Nat->Nat->Nat->Nat->Ex->List Tk->Rs Ex
 | 0,_,_,_,_,_=>.out
 | m+1,row,o,q,left,ts =>
  match ts with
  | []=>.out
  | x::r =>
   match opAt x.t row with
   | none=>.ok left ts
   | some (_,k,_,l,rt)=>(rec rt o q r).bind fun right t2=>if row<l then .ok ⟨(k:Nat),0,[],x.a,(one left).snoc right⟩ t2 else chainL rec m row o q ⟨(k:Nat),0,[],x.a,(one left).snoc right⟩ t2
def prefR (rec:Rdr)(s:List UInt8)(k:Int)(row o q:Nat)(ts:List Tk):Rs Ex :=
 match ts with
 | []=>.out
 | x::r=>if x.t=s then (if o=64 then .bad 121 x.a else (rec row (o+1) q r).bind fun kid t2=>.ok ⟨k,0,[],x.a,one kid⟩ t2) else rec (row+1) o q ts
def argsL (rec:Rdr):Nat->Nat->Nat->Fs->List Tk->Rs Fs
 | 0,_,_,acc,ts=>.ok acc ts
 | j+1,o,q,acc,ts=>(passT [44] ts).bind fun _ t1=>(rec 1 o q t1).bind fun e t2=>argsL rec j o q (acc.snoc e) t2
def argsR (rec:Rdr)(many o q:Nat)(ts:List Tk):Rs Fs :=
 (enterT [40] o ts).bind fun _ t1=>(rec 1 (o+1) q t1).bind fun e t2=>(argsL rec (many-1) (o+1) q (one e) t2).bind fun ks t3=>(passT [41] t3).bind fun _ t4=>.ok ks t4
def choiceR (rec:Rdr)(o q:Nat)(ts:List Tk):Rs Ex :=
 (enterT [105,102] o ts).bind fun a t1=>(rec 1 (o+1) q t1).bind fun x t2=>(passT [116,104,101,110] t2).bind fun _ t3=>(rec 1 (o+1) q t3).bind fun y t4=>(passT [101,108,115,101] t4).bind fun _ t5=>(rec 1 (o+1) q t5).bind fun z t6=>.ok ⟨19,0,[],a,((one x).snoc y).snoc z⟩ t6
def memL (rec:Rdr):Nat->Nat->Nat->Fs->List Tk->Rs Fs
 | 0,_,_,_,_=>.out
 | m+1,o,q,acc,ts =>
  match ts with
  | []=>.out
  | x::r=>if x.t=[44] then (rec 1 o q r).bind fun e t2=>memL rec m o q (acc.snoc e) t2 else .ok acc ts
def memR (rec:Rdr)(m o q:Nat)(ts:List Tk):Rs Fs :=
 match ts with
 | []=>.out
 | x::r=>if x.t=[125] then .ok .nil ts else (rec 1 o q ts).bind fun e t1=>memL rec m o q (one e) t1
def setR (rec:Rdr)(m o q:Nat)(ts:List Tk):Rs Ex :=
 match ts with
 | []=>.out
 | x::r =>
  if x.k=2 then .ok ⟨23,0,x.t,x.a,.nil⟩ r
  else if x.t=[118,101,114,116,105,99,101,115] then .ok ⟨22,0,[],x.a,.nil⟩ r
  else if x.t=[97,114,111,117,110,100] then (argsR rec 1 o q r).bind fun ks t=>.ok ⟨24,0,[],x.a,ks⟩ t
  else (enterT [123] o ts).bind fun a t1=>(memR rec m (o+1) q t1).bind fun ks t2=>(passT [125] t2).bind fun _ t3=>.ok ⟨25,0,[],a,ks⟩ t3
def quantR (rec:Rdr)(m:Nat)(s:List UInt8)(n o q:Nat)(ts:List Tk):Rs Ex :=
 match ts with
 | []=>.out
 | x::r =>
  if q=4 then .bad 121 x.a
  else (enterT s o ts).bind fun a t1=>(passK 2 t1).bind fun y t2=>(passT [105,110] t2).bind fun _ t3=>(setR rec m (o+1) (q+1) t3).bind fun e t4=>(passT [58] t4).bind fun _ t5=>(rec 1 (o+1) (q+1) t5).bind fun b t6=>.ok ⟨21,(n:Nat),y.t,a,(one e).snoc b⟩ t6
def atomR (rec:Rdr)(m o q:Nat)(ts:List Tk):Rs Ex :=
 match ts with
 | []=>.out
 | x::r =>
  if x.k=1 then .ok ⟨1,x.n,[],x.a,.nil⟩ r
  else if x.k=2 then .ok ⟨4,0,x.t,x.a,.nil⟩ r
  else if x.t=[102,97,108,115,101] then .ok ⟨2,0,[],x.a,.nil⟩ r
  else if x.t=[116,114,117,101] then .ok ⟨2,1,[],x.a,.nil⟩ r
  else if x.t=[64] then (passK 1 r).bind fun y t1=>.ok ⟨3,y.n,[],x.a,.nil⟩ t1
  else if x.t=[40] then (argsR rec 1 o q ts).bind fun ks t1=>.ok ks.head t1
  else if x.t=[105,102] then choiceR rec o q ts
  else match callAt x.t with
   | some (_,n,many)=>(argsR rec many o q r).bind fun ks t1=>.ok ⟨20,(n:Nat),[],x.a,ks⟩ t1
   | none =>
    match quantAt x.t with
    | some (_,n)=>quantR rec m x.t n o q ts
    | none=>.bad 120 x.a
def partF:Nat->Rdr
 | 0,_,_,_,_=>.out
 | n+1,row,o,q,ts =>
  if row=3 then prefR (partF n) [110,111,116] 7 3 o q ts
  else if row=7 then prefR (partF n) [45] 6 7 o q ts
  else if row=8 then atomR (partF n) n o q ts
  else (partF n (row+1) o q ts).bind fun l t=>chainL (partF n) n row o q l t
def readF (n:Nat)(ts:List Tk):Rs Ex :=
 (partF n 1 0 0 ts).bind fun e t =>
  match t with
  | []=>.out
  | x::_=>if x.k=0 then .ok e t else .bad 120 x.a
open Go.ChangeShapes Go.WideShapes Go.ChangeAt Go.RowKit
structure Step (I:Nat->Prop)(w:World)(o:Nat->Nat)(w':World)(o':Nat->Nat):Prop where
 os:w'.os=w.os
 tape:w'.tape=w.tape
 output:w'.output=w.output
 size:w.heap.size<=w'.heap.size
 lab:∀ k,k<w.heap.size->o' k=o k
 block:∀ k,k<w.heap.size->¬I (o k)->w'.heap[k]?=w.heap[k]?
theorem Step.refl (I:Nat->Prop)(w:World)(o:Nat->Nat):Step I w o w o:=⟨rfl,rfl,rfl,Nat.le_refl _,fun _ _=>rfl,fun _ _ _=>rfl⟩
theorem Step.trans {I:Nat->Prop}{a b c:World}{o o' o'':Nat->Nat}(h:Step I a o b o')(k:Step I b o' c o''):Step I a o c o'' :=
 ⟨k.os.trans h.os,k.tape.trans h.tape,k.output.trans h.output,Nat.le_trans h.size k.size,fun i hi=>(k.lab i (Nat.lt_of_lt_of_le hi h.size)).trans (h.lab i hi),
  fun i hi hn=>(k.block i (Nat.lt_of_lt_of_le hi h.size) (by rw[h.lab i hi];exact hn)).trans (h.block i hi hn)⟩
theorem Step.mono {I J:Nat->Prop}{a b:World}{o o':Nat->Nat}(h:Step I a o b o')(hij:∀ i,I i->J i):Step J a o b o' :=
 ⟨h.os,h.tape,h.output,h.size,h.lab,fun k hk hn=>h.block k hk (fun x=>hn (hij _ x))⟩
theorem Step.alloc {I:Nat->Prop}{a w:World}{o o':Nat->Nat}(h:Step I a o w o')(ob:Obj):Step I a o (w.alloc ob) o' :=
 h.trans ⟨rfl,rfl,rfl,by simp,fun _ _=>rfl,fun k hk _=>Below.heap_alloc w ob k hk⟩
theorem Step.drewN {I:Nat->Prop}{a w:World}{o o':Nat->Nat}(h:Step I a o w o')(n:Nat):Step I a o (w.drewN n) o' :=
 ⟨h.os,h.tape,h.output,h.size,h.lab,h.block⟩
theorem Step.drew {I:Nat->Prop}{a w:World}{o o':Nat->Nat}(h:Step I a o w o'):Step I a o w.drew o' :=
 ⟨h.os,h.tape,h.output,h.size,h.lab,h.block⟩
theorem Step.setCell {I:Nat->Prop}{a w:World}{o o':Nat->Nat}(h:Step I a o w o')(p:Addr)(u:Value)(hp:I (o' p.block)):Step I a o (w.setCell p u) o' :=
 h.trans ⟨rfl,rfl,rfl,by simp,fun _ _=>rfl,fun k hk hn=>heap_setCell_other w p k u (fun e=>hn (by rw[e];exact hp))⟩
def newLab (w:World)(o:Nat->Nat)(i:Nat):Nat->Nat:=fun k=>if k<w.heap.size then o k else i
theorem newLab_old {w:World}{o:Nat->Nat}{i k:Nat}(h:k<w.heap.size):newLab w o i k=o k:=by simp[newLab,h]
theorem newLab_new {w:World}{o:Nat->Nat}{i k:Nat}(h:w.heap.size<=k):newLab w o i k=i:=by simp[newLab,Nat.not_lt.2 h]
theorem Step.labelled {I:Nat->Prop}{a w:World}{o o':Nat->Nat}(h:Step I a o w o')(i:Nat):Step I a o w (newLab w o' i) :=
 h.trans ⟨rfl,rfl,rfl,Nat.le_refl _,fun k hk=>newLab_old hk,fun _ _ _=>rfl⟩
def Row (w:World)(o:Nat->Nat)(i:Nat)(e:TypeId)(size:Nat)(v:Value)(n:Nat)(xs:List Value):Prop :=
 w.ownsRow 0 e size v n xs/\∀ k,v.ownBlock=some k->o k=i
def Blk (w:World)(o:Nat->Nat)(i:Nat)(b:Nat)(ob:Obj):Prop:=w.heap[b]?=some ob/\o b=i
theorem Blk.lt {w:World}{o:Nat->Nat}{i b:Nat}{ob:Obj}(h:Blk w o i b ob):b<w.heap.size:=lt_of_block h.1
theorem Blk.step {I:Nat->Prop}{w w':World}{o o':Nat->Nat}{i b:Nat}{ob:Obj}(h:Blk w o i b ob)(s:Step I w o w' o')(hi:¬I i):Blk w' o' i b ob :=
 ⟨(s.block b h.lt (by rw[h.2];exact hi)).trans h.1,(s.lab b h.lt).trans h.2⟩
theorem Row.lt {w:World}{o:Nat->Nat}{i:Nat}{e:TypeId}{size:Nat}{v:Value}{n:Nat}{xs:List Value}(h:Row w o i e size v n xs){k:Nat}(hk:v.ownBlock=some k):k<w.heap.size:=(h.1.lt k hk).2
theorem Row.step {I:Nat->Prop}{w w':World}{o o':Nat->Nat}{i:Nat}{e:TypeId}{size:Nat}{v:Value}{n:Nat}{xs:List Value}(h:Row w o i e size v n xs)(s:Step I w o w' o')(hi:¬I i):Row w' o' i e size v n xs:=by
 refine⟨⟨h.1.1,?_⟩,fun k hk=>(s.lab k (h.lt hk)).trans (h.2 k hk)⟩;rcases h.1.2 with hn|⟨g,cap,cur,rfl,hb,hgg,rest⟩
 ·exact .inl hn
 ·refine .inr ⟨g,cap,cur,rfl,hb,?_,rest⟩;rw[s.block g (lt_of_block hgg) (by rw[h.2 g rfl];exact hi)];exact hgg
theorem Row.nil (w:World)(o:Nat->Nat)(i:Nat)(e:TypeId)(size:Nat):Row w o i e size (.slice none 0 0) 0 []:=⟨World.ownsRow_nil _ _ _ _,fun k hk=>by simp[Value.ownBlock] at hk⟩
theorem Row.len {w:World}{o:Nat->Nat}{i:Nat}{e:TypeId}{size:Nat}{v:Value}{n:Nat}{xs:List Value}(h:Row w o i e size v n xs):xs.length=n*size:=h.1.1
theorem Row.form {w:World}{o:Nat->Nat}{i:Nat}{e:TypeId}{size:Nat}{v:Value}{n:Nat}{xs:List Value}(h:Row w o i e size v n xs):∃ao cap,v=.slice ao n cap:=by
 rcases h.1.2 with ⟨rfl,rfl⟩|⟨g,cap,cur,rfl,_⟩
 ·exact⟨_,_,rfl⟩
 ·exact⟨_,_,rfl⟩
theorem Row.pos {w:World}{o:Nat->Nat}{i:Nat}{e:TypeId}{size:Nat}{v:Value}{n:Nat}{xs:List Value}(h:Row w o i e size v n xs)(hn:0<n) :
  ∃g cap,v=.slice (some ⟨g,0,none⟩) n cap/\o g=i/\n<=cap/\cap<=maxLen/\g<w.heap.size/\(∀ j,j<n*size->w.cell? ⟨g,j,none⟩=xs[j]?)/\(∀ j,w.frozen? ⟨g,j,none⟩=false):=by
 rcases h.1.2 with ⟨rfl,rfl⟩|⟨g,cap,cur,rfl,_,hg,hc,hm,_⟩
 ·omega
 ·exact⟨g,cap,rfl,h.2 g rfl,hc,hm,lt_of_block hg,fun j hj=>h.1.cellAt j hj,fun j=>h.1.frozenAt j⟩
theorem Row.store {w:World}{o:Nat->Nat}{i:Nat}{e:TypeId}{size:Nat}{g n cap:Nat}{xs:List Value}(h:Row w o i e size (.slice (some ⟨g,0,none⟩) n cap) n xs)(j:Nat)(u:Value) :
  Row (w.setCell ⟨g,j,none⟩ u) o i e size (.slice (some ⟨g,0,none⟩) n cap) n (xs.set j u):=⟨(h.1.stored j u).1,h.2⟩
theorem run_append_where {P:Program}(w:World)(t ty e:TypeId)(i:TypeInfo)(z:Value)(size bytes:Nat)(ht:P.underlying t=some (.slice e))(hi:P.info? e=some i)(hz:i.zero=some z)
  (hsize:i.size=size) (hby:i.bytes=bytes) (hzs:z.cells.size=size) (hsz:0<size)
  (v:Value) (n:Nat) (xs:List Value) (hown:w.ownsRow 0 e size v n xs)
  (a:Addr) (m c:Nat) (news:List Value) (hl:news.length=m*size) (hnews:∀ j u,news[j]?=some u->w.cell? (a.add j)=some u) (h1:∀ u ∈ news,u.oneCell'=true)
  (h63:n+m<=maxLen) (hbytes:(n+m)*bytes<=140737488355328) (hm:0<m) :
  ∃v' w',(Builtin.append_ #[t,t] ty #[v,.slice (some a) m c]).run P w=.ok v' w'/\w'.ownsRow 0 e size v' (n+m) (xs++news)/\w.grownBy w' v.ownBlock /\
   (v'.ownBlock=v.ownBlock\/∃k,v'.ownBlock=some k/\w.heap.size<=k):=by
 obtain⟨v',w',hr,ho,hg,_⟩:=run_append_own (P:=P) w 0 t ty e i z size bytes ht hi hz hsize hby hzs hsz v n xs hown a m c news hl hnews h1 h63 hbytes (Nat.zero_le _);refine⟨v',w',hr,ho,hg,?_⟩;subst hsize;subst hby;have h63':n+m<=9223372036854775807:=by simp only[maxLen] at h63;omega
 rcases hown.2 with ⟨rfl,rfl⟩|⟨g,cap,cur,rfl,hbg,hgb,hnc,hcm,hcs,htake⟩
 ·have hr':=run_append_nil (P:=P) w t ty e i z ht hi hz a m c news hl hnews hm (by omega) (by have hb:=hbytes;simp only[Nat.zero_add] at hb;omega);rw[hr'] at hr;injection hr with e1 e2
  subst e1;exact .inr ⟨_,rfl,Nat.le_refl _⟩
 ·by_cases hroom:n+m<=cap
  ·have hfit:n*i.size+news.length<=cur.size:=by rw[hl,hcs,<-Nat.add_mul];exact Nat.mul_le_mul_right _ hroom
   have hr':=run_append_room (P:=P) w t ty e i ht hi g n cap cur hgb a m c news hl hnews h1 hroom hfit;rw[hr'] at hr;injection hr with e1 e2
   subst e1;exact .inl rfl
  ·have holds:∀ j u,xs[j]?=some u->w.cell? ((⟨g,0,none⟩:Addr).add j)=some u:=hown.cells (g:=g) rfl;have hr':=run_append_grow (P:=P) w t ty e i z ht hi hz ⟨g,0,none⟩ n cap xs hown.1 holds a m c news hl hnews (by omega) (by omega) (growslice_fits (by omega) hbytes);rw[hr'] at hr;injection hr with e1 e2
   subst e1;exact .inr ⟨_,rfl,Nat.le_refl _⟩
theorem Step.appended {I:Nat->Prop}{w w':World}{o:Nat->Nat}{i:Nat}{row:Option Nat}(hg:w.grownBy w' row)(hi:I i)(hr:∀ k,row=some k->o k=i):Step I w o w' (newLab w o i) :=
 ⟨hg.os,hg.tape,hg.output,hg.size,fun k hk=>newLab_old hk,fun k hk hn=>hg.block k hk (fun e=>hn (by rw[hr k e.symm];exact hi))⟩
theorem wpList_append_lab {P:Program}{w:World}{ops:Array Oper}{rest:List Oper}{op:Oper}{a:Act}{Q:Exit->Act->World->Prop}(hgd:op.guard=none)(s x:Operand)(t:TypeId)
  (ho:op.op=.call { callee:=.builtin .append,args:=#[s,x],argTypes:=#[t,t] })
  (e:TypeId) (i:TypeInfo) (z:Value) (size bytes:Nat) (ht:P.underlying t=some (.slice e)) (hi:P.info? e=some i) (hz:i.zero=some z)
  (hsize:i.size=size) (hby:i.bytes=bytes) (hzs:z.cells.size=size) (hsz:0<size)
  (o:Nat->Nat) (lb:Nat) (v:Value) (n:Nat) (xs:List Value) (hs:a.eval s=v) (hrow:Row w o lb e size v n xs)
  (ad:Addr) (m c:Nat) (news:List Value) (hx:a.eval x=.slice (some ad) m c) (hl:news.length=m*size) (hnews:∀ j u,news[j]?=some u->w.cell? (ad.add j)=some u) (h1:∀ u ∈ news,u.oneCell'=true)
  (hm:0<m) (h63:n+m<=maxLen) (hbytes:(n+m)*bytes<=140737488355328)
  (h:∀ g cap w' o',Row w' o' lb e size (.slice (some ⟨g,0,none⟩) (n+m) cap) (n+m) (xs++news)->Step (fun k=>k=lb) w o w' o'->wpList P ops Q rest (a.put op.dst (.slice (some ⟨g,0,none⟩) (n+m) cap)) w'):wpList P ops Q (op::rest) a w:=by
 refine wpList_plain hgd fun _ hK=>?_;obtain⟨v',w',hr,h2,h3,h4⟩:=run_append_where (P:=P) w t op.type e i z size bytes ht hi hz hsize hby hzs hsz v n xs hrow.1 ad m c news hl hnews h1 h63 hbytes hm;unfold Oper.wp execOp;simp only[ho,resolve,invoke,builtin,Sem.run_bind,Sem.run_pure,Result.andThen_ok,List.map_toArray,List.map_cons,List.map_nil,hs,hx,hr];have hst:Step (fun k=>k=lb) w o w' (newLab w o lb):=Step.appended h3 rfl hrow.2;have hrow':Row w' (newLab w o lb) lb e size v' (n+m) (xs++news):=by
  refine⟨h2,fun k hk=>?_⟩;rcases h4 with h4|⟨k',h4,hk'⟩
  ·rw[h4] at hk;rw[newLab_old (hrow.lt hk)];exact hrow.2 k hk
  ·rw[h4] at hk;injection hk with hk
   subst hk;exact newLab_new hk'
 obtain⟨g,cap,rfl,_⟩:=hrow'.pos (by omega);exact hK _ _ (h g cap w' _ hrow' hst)
theorem Step.below {I:Nat->Prop}{w w':World}{o o':Nat->Nat}(s:Step I w o w' o')(h0:∀ k,k<w.heap.size->¬I (o k)):Below w.heap.size w w' :=
 ⟨s.os,s.tape,s.output,s.size,fun k hk=>s.block k hk (h0 k hk)⟩
theorem step_append_lab {P:Program}{w:World}{ops:Array Oper}{op:Oper}{a:Act}{K:Act->World->Prop}{Q:Exit->Act->World->Prop}{E:Prop}(hgd:op.guard=none)(s x:Operand)(t:TypeId)
  (ho:op.op=.call { callee:=.builtin .append,args:=#[s,x],argTypes:=#[t,t] })
  (e:TypeId) (i:TypeInfo) (z:Value) (size bytes:Nat) (ht:P.underlying t=some (.slice e)) (hi:P.info? e=some i) (hz:i.zero=some z)
  (hsize:i.size=size) (hby:i.bytes=bytes) (hzs:z.cells.size=size) (hsz:0<size)
  (o:Nat->Nat) (lb:Nat) (v:Value) (n:Nat) (xs:List Value) (hs:a.eval s=v) (hrow:Row w o lb e size v n xs)
  (ad:Addr) (m c:Nat) (news:List Value) (hx:a.eval x=.slice (some ad) m c) (hl:news.length=m*size) (hnews:∀ j u,news[j]?=some u->w.cell? (ad.add j)=some u) (h1:∀ u ∈ news,u.oneCell'=true)
  (hm:0<m) (h63:n+m<=maxLen) (hbytes:(n+m)*bytes<=140737488355328)
  (h:∀ g cap w' o',Row w' o' lb e size (.slice (some ⟨g,0,none⟩) (n+m) cap) (n+m) (xs++news)->Step (fun k=>k=lb) w o w' o'->K (a.put op.dst (.slice (some ⟨g,0,none⟩) (n+m) cap)) w') :
  if Region.wanted op (yielded ops a.tmps)=true then Oper.wp P op a w K Q else E:=by
 have hw:Region.wanted op (yielded ops a.tmps)=true:=by simp[Region.wanted,hgd]
 rw[if_pos hw];obtain⟨v',w',hr,h2,h3,h4⟩:=run_append_where (P:=P) w t op.type e i z size bytes ht hi hz hsize hby hzs hsz v n xs hrow.1 ad m c news hl hnews h1 h63 hbytes hm;unfold Oper.wp execOp;simp only[ho,resolve,invoke,builtin,Sem.run_bind,Sem.run_pure,Result.andThen_ok,List.map_toArray,List.map_cons,List.map_nil,hs,hx,hr];have hst:Step (fun k=>k=lb) w o w' (newLab w o lb):=Step.appended h3 rfl hrow.2;have hrow':Row w' (newLab w o lb) lb e size v' (n+m) (xs++news):=by
  refine⟨h2,fun k hk=>?_⟩;rcases h4 with h4|⟨k',h4,hk'⟩
  ·rw[h4] at hk;rw[newLab_old (hrow.lt hk)];exact hrow.2 k hk
  ·rw[h4] at hk;injection hk with hk
   subst hk;exact newLab_new hk'
 obtain⟨g,cap,rfl,_⟩:=hrow'.pos (by omega);exact h g cap w' _ hrow' hst
theorem new_one (w:World)(x:Value)(t:TypeId):∀ j u,[x][j]?=some u->(w.alloc (.cells #[x] t)).cell? ((⟨w.heap.size,0,none⟩:Addr).add j)=some u:=by
 intro j u hj
 match j,hj with
 | 0,hj=>simp at hj;subst hj;simp[Addr.add]
theorem ownsRow_base0 {w:World}{base:Nat}{e:TypeId}{size:Nat}{v:Value}{n:Nat}{xs:List Value}(h:w.ownsRow base e size v n xs):w.ownsRow 0 e size v n xs:=by
 refine⟨h.1,?_⟩;rcases h.2 with hn|⟨g,cap,cur,h1,h2,rest⟩
 ·exact .inl hn
 ·exact .inr ⟨g,cap,cur,h1,Nat.zero_le _,rest⟩
theorem ret_int {k:IntKind}{a b:Int}(h:a=b):Ending.returned (.int k a)=.returned (.int k b):=by rw[h]
theorem ret_bool {a b:Bool}(h:a=b):Ending.returned (.bool a)=.returned (.bool b):=by rw[h]
theorem sml_c (r:Nat)(w:World)(hr:r<=2147483647) :
  Calls Tryz.prog 142 #[.int .i32 (r:Nat)] w fun e w'=>e=.returned (.bool (sml r))/\w'=w:=by
 by_cases h1:97<=r
 ·have g1:(97:Int)<=(r:Int):=by omega
  by_cases h2:r<=122
  ·have g2:(r:Int)<=122:=by omega
   have e0:sml r=true:=by simp[sml,h1,h2]
   rw[e0];clear e0;go_enter Tryz.func142,Tryz.ntmps142;go_wp2;go_ret;exact⟨rfl,rfl⟩
  ·have g2:¬(r:Int)<=122:=by omega
   have g3:decide ((r:Int)<=122)=false:=decide_eq_false g2;have e0:sml r=false:=by simp[sml];omega
   rw[e0];clear e0;go_enter Tryz.func142,Tryz.ntmps142;go_wp2;go_ret;exact⟨rfl,rfl⟩
 ·have g1:¬(97:Int)<=(r:Int):=by omega
  have e0:sml r=false:=by simp[sml];omega
  rw[e0];clear e0;go_enter Tryz.func142,Tryz.ntmps142;go_wp2;go_ret;exact⟨rfl,rfl⟩
theorem dig_c (r:Nat)(w:World)(hr:r<=2147483647) :
  Calls Tryz.prog 143 #[.int .i32 (r:Nat)] w fun e w'=>e=.returned (.bool (dig r))/\w'=w:=by
 by_cases h1:48<=r
 ·have g1:(48:Int)<=(r:Int):=by omega
  by_cases h2:r<=57
  ·have g2:(r:Int)<=57:=by omega
   have e0:dig r=true:=by simp[dig,h1,h2]
   rw[e0];clear e0;go_enter Tryz.func143,Tryz.ntmps143;go_wp2;go_ret;exact⟨rfl,rfl⟩
  ·have g2:¬(r:Int)<=57:=by omega
   have g3:decide ((r:Int)<=57)=false:=decide_eq_false g2;have e0:dig r=false:=by simp[dig];omega
   rw[e0];clear e0;go_enter Tryz.func143,Tryz.ntmps143;go_wp2;go_ret;exact⟨rfl,rfl⟩
 ·have g1:¬(48:Int)<=(r:Int):=by omega
  have e0:dig r=false:=by simp[dig];omega
  rw[e0];clear e0;go_enter Tryz.func143,Tryz.ntmps143;go_wp2;go_ret;exact⟨rfl,rfl⟩
theorem str_ne {s t:ByteArray}(h:s≠t):(s.toList==t.toList)=false:=by
 rw[beq_eq_false_iff_ne,ByteArray.toList_eq,ByteArray.toList_eq];exact fun e=>h (ByteArray.ext (Array.toList_inj.1 e))
theorem str_full {s:ByteArray}(h:¬s.size=0):s.toList.isEmpty=false:=by
 rw[ByteArray.toList_eq,List.isEmpty_eq_false_iff];intro e;have h2:s.data.size=0:=by rw[<-Array.length_toList,e];rfl
 exact h h2
theorem bytes_eq {s t:ByteArray}:s.data.toList=t.data.toList ↔ s=t :=
 ⟨fun e=>ByteArray.ext (Array.toList_inj.1 e),fun e=>by rw[e]⟩
theorem b0 (w:World):Below w.heap.size w w:=Below.refl _ _
theorem b1 (w:World)(o:Obj):Below w.heap.size w (w.alloc o):=(Below.refl _ w).alloc (Nat.le_refl _) _
def wd (k:Nat):ByteArray:=⟨(wordsL.getD k []).toArray⟩
def wordsA:Array Value:=#[.string (wd 0),.string (wd 1),.string (wd 2),.string (wd 3),.string (wd 4),.string (wd 5),.string (wd 6),.string (wd 7),.string (wd 8),.string (wd 9),.string (wd 10),.string (wd 11),.string (wd 12),.string (wd 13),.string (wd 14),.string (wd 15),.string (wd 16),.string (wd 17),.string (wd 18),.string (wd 19),.string (wd 20),.string (wd 21),.string (wd 22),.string (wd 23),.string (wd 24),.string (wd 25),.string (wd 26)]
theorem wix0 (w:World):(Instr.index 229 (.agg wordsA) (.int .i64 0)).run Tryz.prog w=.ok (.string (wd 0)) w:=by kernel_rfl
theorem wix1 (w:World):(Instr.index 229 (.agg wordsA) (.int .i64 1)).run Tryz.prog w=.ok (.string (wd 1)) w:=by kernel_rfl
theorem wix2 (w:World):(Instr.index 229 (.agg wordsA) (.int .i64 2)).run Tryz.prog w=.ok (.string (wd 2)) w:=by kernel_rfl
theorem wix3 (w:World):(Instr.index 229 (.agg wordsA) (.int .i64 3)).run Tryz.prog w=.ok (.string (wd 3)) w:=by kernel_rfl
theorem wix4 (w:World):(Instr.index 229 (.agg wordsA) (.int .i64 4)).run Tryz.prog w=.ok (.string (wd 4)) w:=by kernel_rfl
theorem wix5 (w:World):(Instr.index 229 (.agg wordsA) (.int .i64 5)).run Tryz.prog w=.ok (.string (wd 5)) w:=by kernel_rfl
theorem wix6 (w:World):(Instr.index 229 (.agg wordsA) (.int .i64 6)).run Tryz.prog w=.ok (.string (wd 6)) w:=by kernel_rfl
theorem wix7 (w:World):(Instr.index 229 (.agg wordsA) (.int .i64 7)).run Tryz.prog w=.ok (.string (wd 7)) w:=by kernel_rfl
theorem wix8 (w:World):(Instr.index 229 (.agg wordsA) (.int .i64 8)).run Tryz.prog w=.ok (.string (wd 8)) w:=by kernel_rfl
theorem wix9 (w:World):(Instr.index 229 (.agg wordsA) (.int .i64 9)).run Tryz.prog w=.ok (.string (wd 9)) w:=by kernel_rfl
theorem wix10 (w:World):(Instr.index 229 (.agg wordsA) (.int .i64 10)).run Tryz.prog w=.ok (.string (wd 10)) w:=by kernel_rfl
theorem wix11 (w:World):(Instr.index 229 (.agg wordsA) (.int .i64 11)).run Tryz.prog w=.ok (.string (wd 11)) w:=by kernel_rfl
theorem wix12 (w:World):(Instr.index 229 (.agg wordsA) (.int .i64 12)).run Tryz.prog w=.ok (.string (wd 12)) w:=by kernel_rfl
theorem wix13 (w:World):(Instr.index 229 (.agg wordsA) (.int .i64 13)).run Tryz.prog w=.ok (.string (wd 13)) w:=by kernel_rfl
theorem wix14 (w:World):(Instr.index 229 (.agg wordsA) (.int .i64 14)).run Tryz.prog w=.ok (.string (wd 14)) w:=by kernel_rfl
theorem wix15 (w:World):(Instr.index 229 (.agg wordsA) (.int .i64 15)).run Tryz.prog w=.ok (.string (wd 15)) w:=by kernel_rfl
theorem wix16 (w:World):(Instr.index 229 (.agg wordsA) (.int .i64 16)).run Tryz.prog w=.ok (.string (wd 16)) w:=by kernel_rfl
theorem wix17 (w:World):(Instr.index 229 (.agg wordsA) (.int .i64 17)).run Tryz.prog w=.ok (.string (wd 17)) w:=by kernel_rfl
theorem wix18 (w:World):(Instr.index 229 (.agg wordsA) (.int .i64 18)).run Tryz.prog w=.ok (.string (wd 18)) w:=by kernel_rfl
theorem wix19 (w:World):(Instr.index 229 (.agg wordsA) (.int .i64 19)).run Tryz.prog w=.ok (.string (wd 19)) w:=by kernel_rfl
theorem wix20 (w:World):(Instr.index 229 (.agg wordsA) (.int .i64 20)).run Tryz.prog w=.ok (.string (wd 20)) w:=by kernel_rfl
theorem wix21 (w:World):(Instr.index 229 (.agg wordsA) (.int .i64 21)).run Tryz.prog w=.ok (.string (wd 21)) w:=by kernel_rfl
theorem wix22 (w:World):(Instr.index 229 (.agg wordsA) (.int .i64 22)).run Tryz.prog w=.ok (.string (wd 22)) w:=by kernel_rfl
theorem wix23 (w:World):(Instr.index 229 (.agg wordsA) (.int .i64 23)).run Tryz.prog w=.ok (.string (wd 23)) w:=by kernel_rfl
theorem wix24 (w:World):(Instr.index 229 (.agg wordsA) (.int .i64 24)).run Tryz.prog w=.ok (.string (wd 24)) w:=by kernel_rfl
theorem wix25 (w:World):(Instr.index 229 (.agg wordsA) (.int .i64 25)).run Tryz.prog w=.ok (.string (wd 25)) w:=by kernel_rfl
theorem wix26 (w:World):(Instr.index 229 (.agg wordsA) (.int .i64 26)).run Tryz.prog w=.ok (.string (wd 26)) w:=by kernel_rfl
theorem wordsA_at (k:Nat)(hk:k<27)(w:World):(Instr.index 229 (.agg wordsA) (.int .i64 (k:Nat))).run Tryz.prog w=.ok (.string (wd k)) w:=by
 match k,hk with
 | 0,_=>exact wix0 w
 | 1,_=>exact wix1 w
 | 2,_=>exact wix2 w
 | 3,_=>exact wix3 w
 | 4,_=>exact wix4 w
 | 5,_=>exact wix5 w
 | 6,_=>exact wix6 w
 | 7,_=>exact wix7 w
 | 8,_=>exact wix8 w
 | 9,_=>exact wix9 w
 | 10,_=>exact wix10 w
 | 11,_=>exact wix11 w
 | 12,_=>exact wix12 w
 | 13,_=>exact wix13 w
 | 14,_=>exact wix14 w
 | 15,_=>exact wix15 w
 | 16,_=>exact wix16 w
 | 17,_=>exact wix17 w
 | 18,_=>exact wix18 w
 | 19,_=>exact wix19 w
 | 20,_=>exact wix20 w
 | 21,_=>exact wix21 w
 | 22,_=>exact wix22 w
 | 23,_=>exact wix23 w
 | 24,_=>exact wix24 w
 | 25,_=>exact wix25 w
 | 26,_=>exact wix26 w
 | n+27,h=>omega
def Wd (w:World):Prop:=∃t fr,w.heap[3]?=some (.cells wordsA t fr)
theorem Wd.lt {w:World}(h:Wd w):3<w.heap.size:=by
 obtain⟨t,fr,h⟩:=h;exact lt_of_block h
theorem Wd.below {w w':World}(h:Wd w)(b:Below w.heap.size w w'):Wd w':=by
 have hl:=h.lt;obtain⟨t,fr,h⟩:=h;exact⟨t,fr,(b.block _ hl).trans h⟩
theorem wordB_yes {t:List UInt8}(k:Nat)(hk:k<27)(h:t=wordsL.getD k []):wordB t=true:=by
 subst h;have hl:wordsL.length=27:=rfl;unfold wordB;rw[List.contains_iff_mem];simp only[List.getD,List.getElem?_eq_getElem (by omega:k<wordsL.length),Option.getD_some];exact List.getElem_mem _
theorem wordB_no {t:List UInt8}(h:∀ k,k<27->¬t=wordsL.getD k []):wordB t=false:=by
 rw[<-Bool.not_eq_true];unfold wordB;rw[List.contains_iff_mem,List.mem_iff_getElem];rintro ⟨k,hk,e⟩;have hl:wordsL.length=27:=rfl;refine h k (by omega) ?_;simp only[List.getD,List.getElem?_eq_getElem hk,Option.getD_some];exact e.symm
theorem wordsInfo:(Tryz.prog.info? 229).map (·.size)=some wordsA.size:=by kernel_rfl
theorem word_c (s:ByteArray)(w:World)(hW:Wd w)(hs:s.size<=maxLen) :
  Calls Tryz.prog 144 #[.string s] w fun e w'=>e=.returned (.bool (wordB s.data.toList))/\w'=w:=by
 obtain⟨tt,fr,hg⟩:=hW;have IX:Hid (∀ k:Nat,k<27->(Instr.index 229 (.agg wordsA) (.int .i64 (k:Nat))).run Tryz.prog w=.ok (.string (wd k)) w):=fun k hk=>wordsA_at k hk w;have hsz:=wordsInfo;generalize wordsA=cs at *;go_enter Tryz.func144,Tryz.ntmps144;go_wp2_with (refine wpList_load_row rfl 229 _ rfl 3 rfl tt _ fr _ hg Tryz.underlying229 rfl hsz ?_);go_loopw [6] (fun v wr=>∃k:Nat,k<=27/\v=.int .i64 (k:Nat)/\(∀ j,j<k->s≠wd j)/\wr=w) (fun v _=>27-(intOf v).toNat)
 case atStart=>exact⟨0,by omega,by go_num,fun j hj=>by omega,rfl⟩
 case round =>
  obtain⟨k,hk,rfl,hin,rfl⟩:=hrel;by_cases hlt:k<27
  ·have ix:=IX.out k hlt;have hkI:(k:Int)<27:=by omega
   by_cases he:s=wd k
   ·have fin:wordB s.data.toList=true:=wordB_yes k hlt (by rw[he];rfl);rw[<-he] at ix;clear he IX;go_wp2;go_ret;exact⟨by rw[fin];rfl,rfl⟩
   ·have hin':∀ j,j<k+1->s≠wd j:=fun j hj=>by
     by_cases e:j=k
     ·subst e;exact he
     ·exact hin j (by omega)
    have heb:=str_ne he;generalize wd k=t at ix he heb;clear IX hin;go_wp2;go_roundw
    case rel=>(try ((repeat apply Exists.intro);refine⟨?_,rfl⟩));exact⟨k+1,by omega,by go_num,hin',by trivial⟩
    case measure=>simp[intOf];omega
  ·obtain rfl:k=27:=by omega
   clear IX;have fin:wordB s.data.toList=false:=wordB_no fun j hj e=>hin j hj (bytes_eq.1 (by rw[e];rfl));go_wp2;go_ret;exact⟨by rw[fin];rfl,rfl⟩
def nmc (j:Nat)(c:UInt8):Bool:=sml c.toNat||(j != 0&&(dig c.toNat||c.toNat==95))
theorem nameB_iff (l:List UInt8):nameB l=true ↔ 0<l.length/\l.length<=12/\(∀ j (h:j<l.length),nmc j l[j]=true)/\wordB l=false:=by
 cases l with
 | nil=>simp[nameB]
 | cons c r =>
  simp only[nameB,Bool.and_eq_true,decide_eq_true_eq,List.all_eq_true,Bool.not_eq_true',List.length_cons];constructor
  ·rintro ⟨⟨⟨h1,h2⟩,h3⟩,h4⟩;refine⟨by omega,by omega,fun j h=>?_,h4⟩;cases j with
   | zero=>simp[nmc,h2]
   | succ j =>
    have:=h3 (r[j]'(by omega)) (List.getElem_mem _)
    simp only[inn] at this;simp[nmc];simpa [Bool.or_eq_true,or_assoc] using this
  ·rintro ⟨h1,h2,h3,h4⟩;refine⟨⟨⟨by omega,?_⟩,fun x hx=>?_⟩,h4⟩
   ·have:=h3 0 (by omega)
    simpa [nmc] using this
   ·obtain⟨j,hj,rfl⟩:=List.mem_iff_getElem.1 hx
    have:=h3 (j+1) (by omega)
    simp only[nmc,List.getElem_cons_succ] at this;simp only[inn];simpa [Bool.or_eq_true,or_assoc] using this
theorem nameB_not {l:List UInt8}(j:Nat)(h:j<l.length)(hn:nmc j l[j]=false):nameB l=false:=by
 rw[<-Bool.not_eq_true,nameB_iff];rintro ⟨_,_,h3,_⟩
 have:=h3 j h
 rw[hn] at this;cases this
theorem nmc_high (j:Nat)(c:UInt8)(h:128<=c.toNat):nmc j c=false:=by
 simp[nmc,sml,dig];omega
theorem data_get (s:ByteArray)(j:Nat)(h:j<s.size)(h':j<s.data.toList.length):s.data.toList[j]=s[j]:=by
 rw[Array.getElem_toList];rfl
theorem data_len (s:ByteArray):s.data.toList.length=s.size:=Array.length_toList
theorem name_c (s:ByteArray)(w:World)(hW:Wd w)(hs:s.size<=maxLen) :
  Calls Tryz.prog 89 #[.string s] w fun e w'=>e=.returned (.bool (nameB s.data.toList))/\Below w.heap.size w w':=by
 have hs':=hs;unfold maxLen at hs;have hln:=data_len s;by_cases h0:s.size=0
 ·have e0:s=⟨#[]⟩:=by
   apply ByteArray.ext;exact Array.eq_empty_of_size_eq_zero h0
  subst e0;have fin:nameB (⟨#[]⟩:ByteArray).data.toList=false:=rfl;rw[fin];clear fin h0 hln;go_enter Tryz.func89,Tryz.ntmps89;go_wp2;go_ret;exact⟨rfl,b0 _⟩
 ·by_cases h12:12<s.size
  ·have fin:nameB s.data.toList=false:=by rw[<-Bool.not_eq_true,nameB_iff];rintro ⟨_,h,_⟩;omega
   rw[fin];clear fin hln;have hne:=str_full h0;have h12I:(12:Int)<(s.size:Int):=by omega
   go_enter Tryz.func89,Tryz.ntmps89;go_wp2;go_ret;exact⟨by simp,b0 _⟩
  ·have hne:=str_full h0;have h12I:¬(12:Int)<(s.size:Int):=by omega
   have HL:Hid (s.data.toList.length=s.size):=hln;clear hln;go_enter Tryz.func89,Tryz.ntmps89;go_wp2;go_loopw [3] (fun _ wr=>∃pos:Nat,wr.heap[w.heap.size]?=some (.stringIter s pos)/\pos<=s.size/\(∀ j (h:j<s.data.toList.length),j<pos->nmc j s.data.toList[j]=true)/\Below w.heap.size w wr) (fun _ wr=>s.size-wr.iterPos w.heap.size)
   case atStart=>exact⟨0,World.iter_heap w s 0,by omega,fun j _ h=>by omega,b1 _ _⟩
   case round =>
    obtain⟨pos,hit,hps,hin,hbw⟩:=hrel;by_cases hp:pos<s.size
    ·have hpl:pos<s.data.toList.length:=by have:=HL.out;omega
     by_cases ha:(s[pos]'hp).toNat<128
     ·have hnx:∀ ty,(Instr.next (.pointer (some ⟨w.heap.size,0,none⟩)) true ty).run Tryz.prog wr=_:=fun ty=>Lib.run_next_ascii_at wr w.heap.size s pos ty hit hp ha;have hit2:=Lib.iterAt_heap wr w.heap.size s pos (pos+1) hit;have hbw2:=Lib.below_iterAt hbw (k:=w.heap.size) (by omega) s (pos+1);have hex:nmc pos s.data.toList[pos]=nmc pos s[pos]:=by rw[data_get s pos hp hpl]
      have hgo:nmc pos s[pos]=true->∀ j (h:j<s.data.toList.length),j<pos+1->nmc j s.data.toList[j]=true:=fun hx j h hj=>by
       by_cases e:j=pos
       ·subst e;rw[hex];exact hx
       ·exact hin j h (by omega)
      have hno:nmc pos s[pos]=false->nameB s.data.toList=false:=fun hx=>nameB_not pos hpl (by rw[hex];exact hx);have hme:s.size-(wr.iterAt w.heap.size s (pos+1)).iterPos w.heap.size<s.size-wr.iterPos w.heap.size:=by
       simp only[World.iterPos,hit2,hit];omega
      clear hit hbw hin hex;have hwz:w.heap.size=w.heap.size:=rfl;generalize wr.iterAt w.heap.size s (pos+1)=w2 at *;have hnm:nmc pos s[pos]=(sml (s[pos]).toNat||(pos != 0&&(dig (s[pos]).toNat||(s[pos]).toNat==95))):=rfl;rw[hnm] at hgo hno;clear hnm;generalize hrn:(s[pos]'hp).toNat=r at *;have hr:r<=2147483647:=by omega
      clear hrn;have HG:Hid (((sml r||(pos != 0&&(dig r||r==95)))=true->∀ j (h:j<s.data.toList.length),j<pos+1->nmc j s.data.toList[j]=true)/\((sml r||(pos != 0&&(dig r||r==95)))=false->nameB s.data.toList=false)):=⟨hgo,hno⟩
      clear hgo hno;cases h1:sml r
      ·by_cases hz:pos=0
       ·have fin:nameB s.data.toList=false:=HG.out.2 (by simp[h1,hz]);subst hz;clear HG hme;go_wp2_with (go_at_call 142;refine(sml_c r _ hr).mono ?_;rw[h1];rintro e w1 ⟨rfl,rfl⟩);go_ret;exact⟨by rw[fin];rfl,hbw2⟩
       ·have hz':¬(pos:Int)=0:=by omega
        cases h2:dig r
        ·by_cases h3:r=95
         ·have RL:=HG.out.1 (by simp[h3,hz]);clear HG;subst h3;go_wp2_with (first|(go_at_call 142;refine(sml_c 95 _ hr).mono ?_;rw[h1];rintro e w1 ⟨rfl,rfl⟩)|(go_at_call 143;refine(dig_c 95 _ hr).mono ?_;rw[h2];rintro e w1 ⟨rfl,rfl⟩));go_roundw
          case rel=>(try ((repeat apply Exists.intro);refine⟨?_,rfl⟩));exact⟨pos+1,hit2,by omega,RL,hbw2⟩
          case measure=>exact hme
         ·have fin:nameB s.data.toList=false:=HG.out.2 (by simp[h1,h2,h3]);have h3':¬(r:Int)=95:=by omega
          have h3b:((r:Int) != 95)=true:=by simpa using h3'
          clear HG hme;go_wp2_with (first|(go_at_call 142;refine(sml_c r _ hr).mono ?_;rw[h1];rintro e w1 ⟨rfl,rfl⟩)|(go_at_call 143;refine(dig_c r _ hr).mono ?_;rw[h2];rintro e w1 ⟨rfl,rfl⟩));go_ret;exact⟨by rw[fin];rfl,hbw2⟩
        ·have RL:=HG.out.1 (by simp[h2,hz]);clear HG;go_wp2_with (first|(go_at_call 142;refine(sml_c r _ hr).mono ?_;rw[h1];rintro e w1 ⟨rfl,rfl⟩)|(go_at_call 143;refine(dig_c r _ hr).mono ?_;rw[h2];rintro e w1 ⟨rfl,rfl⟩));go_roundw
         case rel=>(try ((repeat apply Exists.intro);refine⟨?_,rfl⟩));exact⟨pos+1,hit2,by omega,RL,hbw2⟩
         case measure=>exact hme
      ·have RL:=HG.out.1 (by simp[h1]);clear HG;go_wp2_with (go_at_call 142;refine(sml_c r _ hr).mono ?_;rw[h1];rintro e w1 ⟨rfl,rfl⟩);go_roundw
       case rel=>(try ((repeat apply Exists.intro);refine⟨?_,rfl⟩));exact⟨pos+1,hit2,by omega,RL,hbw2⟩
       case measure=>exact hme
     ·have fin:nameB s.data.toList=false:=nameB_not pos hpl (by rw[data_get s pos hp hpl];exact nmc_high _ _ (by omega));have hnx:∀ ty,(Instr.next (.pointer (some ⟨w.heap.size,0,none⟩)) true ty).run Tryz.prog wr=_:=fun ty=>Lib.run_next_any_at wr w.heap.size s pos ty hit hp;have hbw2:=Lib.below_iterAt hbw (k:=w.heap.size) (by omega) s (pos+(Utf8.decode s pos).2);have hr:=decode_le s pos;have hr2:=(decode_high s pos hp (by omega)).1;generalize wr.iterAt w.heap.size s (pos+(Utf8.decode s pos).2)=w2 at *;generalize (Utf8.decode s pos).1=r at *;have h1:sml r=false:=by simp[sml];omega
      have h2:dig r=false:=by simp[dig];omega
      have h3':¬(r:Int)=95:=by omega
      have h3b:((r:Int) != 95)=true:=by simpa using h3'
      clear hit hbw hin ha;by_cases hz:pos=0
      ·subst hz;go_wp2_with (go_at_call 142;refine(sml_c r _ hr).mono ?_;rw[h1];rintro e w1 ⟨rfl,rfl⟩);go_ret;exact⟨by rw[fin];rfl,hbw2⟩
      ·have hz':¬(pos:Int)=0:=by omega
       go_wp2_with (first|(go_at_call 142;refine(sml_c r _ hr).mono ?_;rw[h1];rintro e w1 ⟨rfl,rfl⟩)|(go_at_call 143;refine(dig_c r _ hr).mono ?_;rw[h2];rintro e w1 ⟨rfl,rfl⟩));go_ret;exact⟨by rw[fin];rfl,hbw2⟩
    ·have hnx:∀ ty,(Instr.next (.pointer (some ⟨w.heap.size,0,none⟩)) true ty).run Tryz.prog wr=_:=fun ty=>Lib.run_next_end_at wr w.heap.size s pos ty hit hp;have hW2:=hW.below hbw;have fin:nameB s.data.toList=!wordB s.data.toList:=by
      have hl:=HL.out;cases hw:wordB s.data.toList
      ·exact(nameB_iff _).2 ⟨by omega,by omega,fun j h=>hin j h (by omega),hw⟩
      ·show _=false;rw[<-Bool.not_eq_true,nameB_iff];rintro ⟨_,_,_,h⟩;rw[hw] at h;cases h
     clear hin hit;go_wp2_with (go_at_call 144;refine(word_c s _ hW2 hs').mono ?_;rintro e w1 ⟨rfl,rfl⟩);go_ret;exact⟨by rw[fin];rfl,hbw⟩
abbrev tka (x:Tk):Array Value:=#[.int .i64 (x.k:Nat),.int .i64 x.n,.string ⟨x.t.toArray⟩,.int .i64 (x.a:Nat)]
theorem back_text (t:ByteArray):(⟨t.data.toList.toArray⟩:ByteArray)=t:=by cases t;simp
theorem set4 {w:World}{b:Nat}{a0 a1 a2 a3:Value}{t:TypeId}(v0 v1 v2 v3:Value)(h:w.heap[b]?=some (.cells #[a0,a1,a2,a3] t (0,0))) :
  ((((w.setCell ⟨b,0,none⟩ v0).setCell ⟨b,1,none⟩ v1).setCell ⟨b,2,none⟩ v2).setCell ⟨b,3,none⟩ v3).heap[b]?=some (.cells #[v0,v1,v2,v3] t (0,0)):=by
 have h0:=heap_setCell_same w b 0 _ t v0 h;have h1:=heap_setCell_same _ b 1 _ t v1 h0;have h2:=heap_setCell_same _ b 2 _ t v2 h1;have h3:=heap_setCell_same _ b 3 _ t v3 h2;simpa using h3
theorem b2 (w:World)(A B:Obj):Below w.heap.size w ((w.alloc A).alloc B):=(b1 _ _).trans ((b1 _ _).mono (by simp))
theorem bset4 {w w1:World}{b:Nat}(v0 v1 v2 v3:Value)(h:Below w.heap.size w w1)(hb:w.heap.size<=b) :
  Below w.heap.size w ((((w1.setCell ⟨b,0,none⟩ v0).setCell ⟨b,1,none⟩ v1).setCell ⟨b,2,none⟩ v2).setCell ⟨b,3,none⟩ v3) :=
 ((((h.setCell (p:=⟨b,0,none⟩) hb v0).setCell (p:=⟨b,1,none⟩) hb v1).setCell (p:=⟨b,2,none⟩) hb v2).setCell (p:=⟨b,3,none⟩) hb v3)
theorem head_at (t:ByteArray)(h:0<t.size):t.data.toList.head?=some t[0]:=by
 have hl:0<t.data.toList.length:=by rw[data_len];exact h
 rw[List.head?_eq_getElem?,List.getElem?_eq_getElem hl,data_get t 0 h hl]
theorem Blk.set {w:World}{o:Nat->Nat}{i b:Nat}{cs:Array Value}{t:TypeId}(h:Blk w o i b (.cells cs t (0,0)))(j:Nat)(u:Value):Blk (w.setCell ⟨b,j,none⟩ u) o i b (.cells (cs.setIfInBounds j u) t (0,0)) :=
 ⟨heap_setCell_same w b j cs t u h.1,h.2⟩
theorem setStep (I:Nat->Prop)(w:World)(o:Nat->Nat)(p:Addr)(u:Value)(hp:I (o p.block)):Step I w o (w.setCell p u) o:=(Step.refl I w o).setCell p u hp
theorem allocStep (I:Nat->Prop)(w:World)(o:Nat->Nat)(ob:Obj):Step I w o (w.alloc ob) o:=(Step.refl I w o).alloc ob
theorem infoInt:(Tryz.prog.info? 3).map (fun i=>(i.zero,i.size,i.bytes))=some (some (.int .i64 0),1,8):=by kernel_rfl
theorem Blk.cells4 {w:World}{o:Nat->Nat}{i b:Nat}{a0 a1 a2 a3:Value}{t:TypeId}(h:Blk w o i b (.cells #[a0,a1,a2,a3] t (0,0))) :
  w.cell? ⟨b,0,none⟩=some a0/\w.cell? ⟨b,1,none⟩=some a1/\w.cell? ⟨b,2,none⟩=some a2/\w.cell? ⟨b,3,none⟩=some a3/\∀ j,w.frozen? ⟨b,j,none⟩=false:=by
 refine⟨?_,?_,?_,?_,fun j=>frozen_of_row w b j _ t h.1⟩<;>simp[cell_of_row w b _ _ t (0,0) h.1]
theorem ext_list (s:ByteArray)(a b:Nat):(s.extract a b).data.toList=(s.data.toList.drop a).take (b-a):=by
 rw[ByteArray.data_extract,Array.toList_extract,List.extract_eq_take_drop]
theorem ext_eq (s:ByteArray)(a b:Nat):s.extract a b=⟨((s.data.toList.drop a).take (b-a)).toArray⟩:=by
 rw[<-ext_list,back_text]
theorem drop_at (l:List UInt8)(pos:Nat)(h:pos<l.length):l.drop pos=l[pos]::l.drop (pos+1):=List.drop_eq_getElem_cons h
theorem Step.ofBelow {I:Nat->Prop}{w w':World}(o:Nat->Nat)(h:Below w.heap.size w w'):Step I w o w' o:=⟨h.os,h.tape,h.output,h.size,fun _ _=>rfl,fun k hk _=>h.block k hk⟩
theorem info_parts {P:Program}{t:TypeId}{z:Option Value}{s b:Nat}(h:(P.info? t).map (fun i=>(i.zero,i.size,i.bytes))=some (z,s,b)):∃i,P.info? t=some i/\i.zero=z/\i.size=s/\i.bytes=b:=by
 cases hi:P.info? t with
 | none=>rw[hi] at h;cases h
 | some i =>
  rw[hi] at h;injection h with h
  exact⟨i,rfl,(congrArg (·.1) h),(congrArg (·.2.1) h),(congrArg (·.2.2) h)⟩
theorem new_four_at {w:World}{s:Nat}(hs:w.heap.size=s)(x y z q:Value)(t:TypeId):∀ j u,[x,y,z,q][j]?=some u->(w.alloc (.cells #[x,y,z,q] t)).cell? ((⟨s,0,none⟩:Addr).add j)=some u:=by
 subst hs;intro j u hj
 match j,hj with
 | 0,hj=>simp at hj;subst hj;simp[Addr.add]
 | 1,hj=>simp at hj;subst hj;simp[Addr.add]
 | 2,hj=>simp at hj;subst hj;simp[Addr.add]
 | 3,hj=>simp at hj;subst hj;simp[Addr.add]
theorem infoToken:(Tryz.prog.info? 67).map (fun i=>(i.zero,i.size,i.bytes))=some (some (.agg #[.int .i64 0,.int .i64 0,.string ⟨#[]⟩,.int .i64 0]),4,40):=by kernel_rfl
def tcells (ts:List Tk):List Value:=ts.flatMap fun x=>[.int .i64 (x.k:Nat),.int .i64 x.n,.string ⟨x.t.toArray⟩,.int .i64 (x.a:Nat)]
theorem tcells_more (ts:List Tk)(x:Tk):tcells (ts++[x])=tcells ts++[.int .i64 (x.k:Nat),.int .i64 x.n,.string ⟨x.t.toArray⟩,.int .i64 (x.a:Nat)]:=by
 simp[tcells]
def preR:List Tk->Res->Res
 | [],X=>X
 | x::r,X=>consR x (preR r X)
theorem preR_more (ts:List Tk)(x:Tk)(X:Res):preR (ts++[x]) X=preR ts (consR x X):=by
 induction ts with
 | nil=>rfl
 | cons y r ih=>simp only[List.cons_append,preR,ih]
theorem preR_inl (ts:List Tk)(e:Nat × Nat):preR ts (.inl e)=.inl e:=by
 induction ts with
 | nil=>rfl
 | cons y r ih=>simp only[preR,ih];rfl
theorem preR_inr (ts us:List Tk):preR ts (.inr us)=.inr (ts++us):=by
 induction ts with
 | nil=>rfl
 | cons y r ih=>simp only[preR,ih];rfl
theorem ptok_err {k:Nat}{t:List UInt8}{a e:Nat}(h:ptok k t a=.inl e):e=110\/e=111\/e=112:=by
 unfold ptok at h;split at h
 ·unfold wrdT at h
  repeat' split at h
  all_goals first|(injection h with h;omega)|cases h
 ·unfold numT at h
  repeat' split at h
  all_goals first|(injection h with h;omega)|cases h
 ·unfold sgnT at h;split at h
  all_goals first|(injection h with h;omega)|cases h
 ·injection h with h
  omega
def ScanOut (w w':World)(v:Value)(er at0:Int)(R:Res):Prop :=
 (∃e p,R=.inl (e,p)/\v=.slice none 0 0/\er=(e:Nat)/\at0=(p:Nat))\/(∃ts,R=.inr ts/\er=0/\at0=0/\w'.ownsRow w.heap.size 67 4 v ts.length (tcells ts))
theorem Row.fresh {I:Nat->Prop}{w w':World}{o':Nat->Nat}{i:Nat}{e:TypeId}{size:Nat}{v:Value}{n:Nat}{xs:List Value}(r:Row w' o' (i+1) e size v n xs)(s:Step I w (fun _=>0) w' o'):w'.ownsRow w.heap.size e size v n xs:=by
 refine⟨r.1.1,?_⟩;rcases r.1.2 with h|⟨g,cap,cur,rfl,hb,rest⟩
 ·exact .inl h
 ·refine .inr ⟨g,cap,cur,rfl,?_,rest⟩;by_cases hg:g<w.heap.size
  ·have h1:=s.lab g hg;have h2:=r.2 g rfl;omega
  ·omega
theorem bdr {B:Nat}{w w':World}(h:Below B w w')(n:Nat):Below B w (w'.drewN n):=⟨h.os,h.tape,h.output,h.size,h.block⟩
structure Keep (rb:Nat)(w w':World):Prop where
 os:w'.os=w.os
 tape:w'.tape=w.tape
 output:w'.output=w.output
 size:w.heap.size<=w'.heap.size
 block:∀ k,k<w.heap.size->k≠rb->w'.heap[k]?=w.heap[k]?
theorem Keep.refl (rb:Nat)(w:World):Keep rb w w:=⟨rfl,rfl,rfl,Nat.le_refl _,fun _ _ _=>rfl⟩
theorem Keep.trans {rb:Nat}{a b c:World}(h:Keep rb a b)(k:Keep rb b c):Keep rb a c :=
 ⟨k.os.trans h.os,k.tape.trans h.tape,k.output.trans h.output,Nat.le_trans h.size k.size,fun i hi hn=>(k.block i (Nat.lt_of_lt_of_le hi h.size) hn).trans (h.block i hi hn)⟩
theorem Keep.ofBelow {rb:Nat}{w w':World}(h:Below w.heap.size w w'):Keep rb w w':=⟨h.os,h.tape,h.output,h.size,fun k hk _=>h.block k hk⟩
theorem Keep.alloc {rb:Nat}{a w:World}(h:Keep rb a w)(ob:Obj):Keep rb a (w.alloc ob) :=
 h.trans ⟨rfl,rfl,rfl,by simp,fun k hk _=>Below.heap_alloc w ob k hk⟩
theorem Keep.drew {rb:Nat}{a w:World}(h:Keep rb a w):Keep rb a w.drew:=⟨h.os,h.tape,h.output,h.size,h.block⟩
theorem Keep.set {rb:Nat}{a w:World}(h:Keep rb a w)(p:Addr)(u:Value)(hp:a.heap.size<=p.block\/p.block=rb):Keep rb a (w.setCell p u) :=
 ⟨h.os,h.tape,h.output,by simpa using h.size,fun k hk hn=>(heap_setCell_other w p k u (fun e=>by
  rcases hp with hp|hp
  ·omega
  ·exact hn (e.trans hp))).trans (h.block k hk hn)⟩
theorem Keep.below {rb n:Nat}{w w':World}(h:Keep rb w w')(hn:n<=rb)(hs:rb<w.heap.size):Below n w w':=⟨h.os,h.tape,h.output,h.size,fun k hk=>h.block k (by omega) (by omega)⟩
theorem Keep.cell {rb:Nat}{w w':World}(h:Keep rb w w'){b:Nat}(hb:b<w.heap.size)(hn:b≠rb)(j:Nat):w'.cell? ⟨b,j,none⟩=w.cell? ⟨b,j,none⟩:=World.cell?_of_block (a:=⟨b,j,none⟩) (h.block b hb hn)
abbrev stv (t:List UInt8):Value:=.string ⟨t.toArray⟩
def Fc (w:World)(P:Nat->Prop):Fs->List Value->Prop
 | ⟨none⟩,xs=>xs=[]
 | ⟨some ⟨k,n,nm,a,ks,r⟩⟩,xs=>∃ao cap ys,xs=.int .i64 k::.int .i64 n::stv nm::.slice ao ks.len cap::.int .i64 a::ys /\
   (ks=.nil\/∃b off zs,ao=some ⟨b,off,none⟩/\P b/\b<w.heap.size/\(∀ j u,zs[j]?=some u->w.cell? ⟨b,off+j,none⟩=some u)/\Fc w P ks zs)/\Fc w P r ys
def Sl (w:World)(P:Nat->Prop)(ks:Fs)(ao:Option Addr):Prop :=
 ks=.nil\/∃b off zs,ao=some ⟨b,off,none⟩/\P b/\b<w.heap.size/\(∀ j u,zs[j]?=some u->w.cell? ⟨b,off+j,none⟩=some u)/\Fc w P ks zs
def exV (e:Ex)(ao:Option Addr)(cap:Nat):Value:=.agg #[.int .i64 e.k,.int .i64 e.n,stv e.nm,.slice ao e.kids.len cap,.int .i64 e.a]
theorem Fc.len {w:World}{P:Nat->Prop}:∀ {f:Fs}{xs:List Value},Fc w P f xs->xs.length=f.len*5
 | ⟨none⟩,xs,h=>by
  have h:xs=[]:=h;subst h;rfl
 | ⟨some ⟨k,n,nm,a,ks,r⟩⟩,xs,h=>by
  obtain⟨ao,cap,ys,rfl,_,h2⟩:=h
  have:=Fc.len h2
  simp only[List.length_cons,Fs.len];omega
theorem Fc.mono {w w':World}{P Q:Nat->Prop}(hb:∀ k,P k->k<w.heap.size->w'.heap[k]?=w.heap[k]?)(hs:w.heap.size<=w'.heap.size)(hq:∀ k,P k->k<w.heap.size->Q k):∀ {f:Fs}{xs:List Value},Fc w P f xs->Fc w' Q f xs
 | ⟨none⟩,xs,h=>h
 | ⟨some ⟨k,n,nm,a,ks,r⟩⟩,xs,h=>by
  obtain⟨ao,cap,ys,rfl,h1,h2⟩:=h;refine⟨ao,cap,ys,rfl,?_,Fc.mono hb hs hq h2⟩;rcases h1 with h1|⟨b,off,zs,rfl,hp,hlt,hc,h3⟩
  ·exact .inl h1
  ·exact .inr ⟨b,off,zs,rfl,hq b hp hlt,Nat.lt_of_lt_of_le hlt hs,fun j u hu=>(World.cell?_of_block (a:=⟨b,off+j,none⟩) (hb b hp hlt)).trans (hc j u hu),Fc.mono hb hs hq h3⟩
theorem Sl.mono {w w':World}{P Q:Nat->Prop}{f:Fs}{ao:Option Addr}(hb:∀ k,P k->k<w.heap.size->w'.heap[k]?=w.heap[k]?)(hs:w.heap.size<=w'.heap.size)(hq:∀ k,P k->k<w.heap.size->Q k)(h:Sl w P f ao):Sl w' Q f ao:=by
 rcases h with h|⟨b,off,zs,rfl,hp,hlt,hc,h3⟩
 ·exact .inl h
 ·exact .inr ⟨b,off,zs,rfl,hq b hp hlt,Nat.lt_of_lt_of_le hlt hs,fun j u hu=>(World.cell?_of_block (a:=⟨b,off+j,none⟩) (hb b hp hlt)).trans (hc j u hu),h3.mono hb hs hq⟩
theorem Fc.app {w:World}{P:Nat->Prop}:∀ {f g:Fs}{xs ys:List Value},Fc w P f xs->Fc w P g ys->Fc w P (f.app g) (xs++ys)
 | ⟨none⟩,g,xs,ys,h,k=>by
  have h:xs=[]:=h;subst h;exact k
 | ⟨some ⟨i,n,nm,a,ks,r⟩⟩,g,xs,ys,h,k=>by
  obtain⟨ao,cap,zs,rfl,h1,h2⟩:=h;exact⟨ao,cap,zs++ys,rfl,h1,Fc.app h2 k⟩
theorem Fc.one {w:World}{P:Nat->Prop}{e:Ex}{ao:Option Addr}(cap:Nat)(h:Sl w P e.kids ao):Fc w P (one e) [.int .i64 e.k,.int .i64 e.n,stv e.nm,.slice ao e.kids.len cap,.int .i64 e.a]:=⟨ao,cap,[],rfl,h,rfl⟩
theorem Sl.of {w:World}{P:Nat->Prop}{f:Fs}{b:Nat}{xs:List Value}(hp:P b)(hlt:b<w.heap.size)(hc:∀ j u,xs[j]?=some u->w.cell? ⟨b,0+j,none⟩=some u)(h:Fc w P f xs):Sl w P f (some ⟨b,0,none⟩):=.inr ⟨b,0,xs,rfl,hp,hlt,hc,h⟩
theorem Sl.nil (w:World)(P:Nat->Prop)(ao:Option Addr):Sl w P .nil ao:=.inl rfl
theorem tkcells_at:∀ (l:List Tk) (i:Nat) (x:Tk),l[i]?=some x->(tcells l)[i*4]?=some (.int .i64 (x.k:Nat))/\(tcells l)[i*4+1]?=some (.int .i64 x.n)/\(tcells l)[i*4+2]?=some (stv x.t)/\(tcells l)[i*4+3]?=some (.int .i64 (x.a:Nat))
 | [],i,x,h=>by simp at h
 | p::r,0,x,h=>by
  simp at h;subst h;exact⟨rfl,rfl,rfl,rfl⟩
 | p::r,i+1,x,h=>by
  have e:tcells (p::r)=.int .i64 (p.k:Nat)::.int .i64 p.n::stv p.t::.int .i64 (p.a:Nat)::tcells r:=rfl;have e1:(i+1)*4=i*4+1+1+1+1:=by omega
  have ih:=tkcells_at r i x (by simpa using h);rw[e,e1];exact ih
abbrev Nw (n:Nat):Nat->Prop:=fun b=>n<=b
theorem Sl.keepN {rb n:Nat}{w w':World}{f:Fs}{ao:Option Addr}(h:Sl w (Nw n) f ao)(k:Keep rb w w')(hn:rb<n):Sl w' (Nw n) f ao:=h.mono (fun i hp hl=>k.block i hl (by have hp:n<=i:=hp;omega)) k.size (fun _ h _=>h)
theorem Sl.setN {n:Nat}{w:World}{f:Fs}{ao:Option Addr}(h:Sl w (Nw n) f ao)(p:Addr)(v:Value)(hp:p.block<n):Sl (w.setCell p v) (Nw n) f ao:=h.mono (fun i hp hl=>heap_setCell_other w p i v (by have hp:n<=i:=hp;omega)) (by simp) (fun _ h _=>h)
theorem Sl.allocN {n:Nat}{w:World}{f:Fs}{ao:Option Addr}(h:Sl w (Nw n) f ao)(ob:Obj):Sl (w.alloc ob) (Nw n) f ao:=h.mono (fun i hp hl=>Below.heap_alloc w ob i hl) (by simp) (fun _ h _=>h)
theorem Sl.low {n m:Nat}{w:World}{f:Fs}{ao:Option Addr}(h:Sl w (Nw n) f ao)(hm:m<=n):Sl w (Nw m) f ao:=h.mono (fun i hp hl=>rfl) (Nat.le_refl _) (fun i h _=>Nat.le_trans hm h)
theorem Fc.allocN {n:Nat}{w:World}{f:Fs}{xs:List Value}(h:Fc w (Nw n) f xs)(ob:Obj):Fc (w.alloc ob) (Nw n) f xs:=h.mono (fun i hp hl=>Below.heap_alloc w ob i hl) (by simp) (fun _ h _=>h)
theorem Blk.cells5 {w:World}{o:Nat->Nat}{i b:Nat}{a0 a1 a2 a3 a4:Value}{t:TypeId}(h:Blk w o i b (.cells #[a0,a1,a2,a3,a4] t (0,0))) :
  w.cell? ⟨b,0,none⟩=some a0/\w.cell? ⟨b,1,none⟩=some a1/\w.cell? ⟨b,2,none⟩=some a2/\w.cell? ⟨b,3,none⟩=some a3/\w.cell? ⟨b,4,none⟩=some a4/\∀ j,w.frozen? ⟨b,j,none⟩=false:=by
 refine⟨?_,?_,?_,?_,?_,fun j=>frozen_of_row w b j _ t h.1⟩<;>simp[cell_of_row w b _ _ t (0,0) h.1]
theorem Blk.cells2 {w:World}{o:Nat->Nat}{i b:Nat}{a0 a1:Value}{t:TypeId}(h:Blk w o i b (.cells #[a0,a1] t (0,0))) :
  w.cell? ⟨b,0,none⟩=some a0/\w.cell? ⟨b,1,none⟩=some a1/\∀ j,w.frozen? ⟨b,j,none⟩=false:=by
 refine⟨?_,?_,fun j=>frozen_of_row w b j _ t h.1⟩<;>simp[cell_of_row w b _ _ t (0,0) h.1]
def opOf (t:Int):Option (List UInt8 × Nat × Nat × Nat × Nat):=opsL.find? fun x=>(x.2.1:Int)==t
def callOf (t:Int):Option (List UInt8 × Nat × Nat):=callsL.find? fun x=>(x.2.1:Int)==t
def quantOf (t:Int):Option (List UInt8 × Nat):=quantsL.find? fun x=>(x.2:Int)==t
set_option linter.unusedSimpArgs false
def isSetK (k:Int):Bool:=k==22||k==23||k==24||k==25
def rowOf (k:Int):Nat:=if k==19||k==21 then 0 else if k==7 then 3 else if k==6 then 7 else match opOf k with|some x=>x.2.2.1|none=>8
def numB (k n:Int):Bool:=if k==1||k==3 then decide (0<=n) else if k==2 then n==0||n==1 else if k==20 then (callOf n).isSome else if k==21 then (quantOf n).isSome else n==0
def namB (k:Int)(nm:List UInt8):Bool:=if k==4||k==23||k==21 then nameB nm else nm==[]
def kidB (k n:Int)(m:Nat):Bool:=if k==1||k==2||k==3||k==4||k==22||k==23 then (m:Int)==0 else if k==6||k==7||k==24 then (m:Int)==1 else if k==21 then (m:Int)==2 else if k==19 then (m:Int)==3 else if k==20 then (match callOf n with|some x=>(m:Int)==(x.2.2:Nat)|none=>(m:Int)==0) else if k==25 then true else (opOf k).isSome&&(m:Int)==2
theorem bne {k:Int}{c:Int}(h:k≠c):(k==c)=false:=by rw[beq_eq_false_iff_ne];exact h
theorem set4k {w:World}{b:Nat}{a0 a1 a2 a3 b0 b1 b2 b3:Value}{t:TypeId}(h:w.heap[b]?=some (.cells #[a0,a1,a2,a3] t (0,0))):((((w.setCell ⟨b,0,none⟩ b0).setCell ⟨b,1,none⟩ b1).setCell ⟨b,2,none⟩ b2).setCell ⟨b,3,none⟩ b3).heap[b]?=some (.cells #[b0,b1,b2,b3] t (0,0)):=by
 have h0:Blk w (fun _=>0) 0 b (.cells #[a0,a1,a2,a3] t (0,0)):=⟨h,rfl⟩
 exact((((h0.set 0 b0).set 1 b1).set 2 b2).set 3 b3).1
abbrev exZ:Obj:=.cells #[.int .i64 0,.int .i64 0,.string ⟨#[]⟩,.slice none 0 0,.int .i64 0] 25
theorem set5k {w:World}{b:Nat}{a0 a1 a2 a3 a4:Value}(b0 b1 b2 b3 b4:Value){t:TypeId}(h:w.heap[b]?=some (.cells #[a0,a1,a2,a3,a4] t (0,0))):(((((w.setCell ⟨b,0,none⟩ b0).setCell ⟨b,1,none⟩ b1).setCell ⟨b,2,none⟩ b2).setCell ⟨b,3,none⟩ b3).setCell ⟨b,4,none⟩ b4).heap[b]?=some (.cells #[b0,b1,b2,b3,b4] t (0,0)):=by
 have h0:Blk w (fun _=>0) 0 b (.cells #[a0,a1,a2,a3,a4] t (0,0)):=⟨h,rfl⟩
 exact(((((h0.set 0 b0).set 1 b1).set 2 b2).set 3 b3).set 4 b4).1
theorem Keep.set5 {rb:Nat}{a w:World}(h:Keep rb a w){b:Nat}(hb:a.heap.size<=b)(b0 b1 b2 b3 b4:Value):Keep rb a (((((w.setCell ⟨b,0,none⟩ b0).setCell ⟨b,1,none⟩ b1).setCell ⟨b,2,none⟩ b2).setCell ⟨b,3,none⟩ b3).setCell ⟨b,4,none⟩ b4):=((((h.set ⟨b,0,none⟩ b0 (.inl hb)).set ⟨b,1,none⟩ b1 (.inl hb)).set ⟨b,2,none⟩ b2 (.inl hb)).set ⟨b,3,none⟩ b3 (.inl hb)).set ⟨b,4,none⟩ b4 (.inl hb)
theorem Sl.set5 {n:Nat}{w:World}{f:Fs}{ao:Option Addr}(h:Sl w (Nw n) f ao){b:Nat}(hb:b<n)(b0 b1 b2 b3 b4:Value):Sl (((((w.setCell ⟨b,0,none⟩ b0).setCell ⟨b,1,none⟩ b1).setCell ⟨b,2,none⟩ b2).setCell ⟨b,3,none⟩ b3).setCell ⟨b,4,none⟩ b4) (Nw n) f ao:=((((h.setN ⟨b,0,none⟩ b0 hb).setN ⟨b,1,none⟩ b1 hb).setN ⟨b,2,none⟩ b2 hb).setN ⟨b,3,none⟩ b3 hb).setN ⟨b,4,none⟩ b4 hb
theorem box5 {w:World}{b:Nat}{a0 a1 a2 a3 a4:Value}{t:TypeId}(h:w.heap[b]?=some (.cells #[a0,a1,a2,a3,a4] t (0,0))) :
  w.cell? ⟨b,0,none⟩=some a0/\w.cell? ⟨b,1,none⟩=some a1/\w.cell? ⟨b,2,none⟩=some a2/\w.cell? ⟨b,3,none⟩=some a3/\w.cell? ⟨b,4,none⟩=some a4/\∀ j,w.frozen? ⟨b,j,none⟩=false:=Blk.cells5 (o:=fun _=>0) (i:=0) ⟨h,rfl⟩
theorem Keep.blk {rb:Nat}{w w':World}(k:Keep rb w w'){b:Nat}{ob:Obj}(h:w.heap[b]?=some ob)(hb:b≠rb):w'.heap[b]?=some ob:=(k.block b (lt_of_block h) hb).trans h
theorem Sl.fresh {w:World}{n:Nat}{f:Fs}(xs:List Value)(t:TypeId)(h:Fc w (Nw n) f xs)(hn:n<=w.heap.size):Sl (w.alloc (.cells xs.toArray t)) (Nw n) f (some ⟨w.heap.size,0,none⟩):=by
 refine Sl.of hn (by simp) (fun j u hu=>?_) (h.allocN _);rw[Nat.zero_add];rw[cell_of_row _ w.heap.size j _ t (0,0) (heap_alloc_new w _)];simpa using hu
theorem exV_out (e:Ex)(ao:Option Addr)(cap:Nat):exV e ao cap=.agg #[.int .i64 e.k,.int .i64 e.n,stv e.nm,.slice ao e.kids.len cap,.int .i64 e.a]:=rfl
def AccG (w:World)(n0:Nat)(acc:Fs)(g cap:Nat)(xs:List Value):Prop :=
 n0<=g/\w.ownsRow 0 25 5 (.slice (some ⟨g,0,none⟩) acc.len cap) acc.len xs/\Fc w (fun b=>n0<=b/\b≠g) acc xs
def Acc (w:World)(n0:Nat)(acc:Fs)(v:Value):Prop:=∃g cap xs,v=.slice (some ⟨g,0,none⟩) acc.len cap/\AccG w n0 acc g cap xs
def lab1 (g:Nat):Nat->Nat:=fun b=>if b=g then 1 else 0
theorem AccG.row {w:World}{n0:Nat}{acc:Fs}{g cap:Nat}{xs:List Value}(h:AccG w n0 acc g cap xs):Row w (lab1 g) 1 25 5 (.slice (some ⟨g,0,none⟩) acc.len cap) acc.len xs :=
 ⟨h.2.1,fun k hk=>by simp[Value.ownBlock] at hk;subst hk;simp[lab1]⟩
theorem Acc.one {w:World}{n0:Nat}{e:Ex}{ao:Option Addr}(cap:Nat)(h:Sl w (Nw n0) e.kids ao)(hn:n0<=w.heap.size) :
  Acc (w.alloc (.cells #[.int .i64 e.k,.int .i64 e.n,stv e.nm,.slice ao e.kids.len cap,.int .i64 e.a] 25)) n0 (one e) (.slice (some ⟨w.heap.size,0,none⟩) 1 1):=by
 refine⟨w.heap.size,1,_,rfl,hn,World.ownsRow_lit w _ 1 (Nat.zero_le _) (by unfold maxLen;omega) (by simp),?_⟩;exact(Fc.one cap h).mono (fun i hp hl=>Below.heap_alloc w _ i hl) (by simp) (fun i hp hl=>⟨hp,Nat.ne_of_lt hl⟩)
theorem Acc.keep {rb n0:Nat}{w w':World}{acc:Fs}{v:Value}(h:Acc w n0 acc v)(k:Keep rb w w')(hn:rb<n0):Acc w' n0 acc v:=by
 obtain⟨g,cap,xs,rfl,hg,ho,hf⟩:=h;have r:Row w (fun b=>if b=rb then 7 else 1) 1 25 5 (.slice (some ⟨g,0,none⟩) acc.len cap) acc.len xs:=⟨ho,fun j hj=>by simp[Value.ownBlock] at hj;subst hj;show (if g=rb then 7 else 1)=1;rw[if_neg (by omega)]⟩
 have s:Step (fun x=>x=7) w (fun b=>if b=rb then 7 else 1) w' (fun b=>if b=rb then 7 else 1):=⟨k.os,k.tape,k.output,k.size,fun _ _=>rfl,fun j hj hn=>k.block j hj (fun e=>hn (by simp[e]))⟩
 exact⟨g,cap,xs,rfl,hg,(r.step s (by decide)).1,hf.mono (fun i hp hl=>k.block i hl (by have:=hp.1;omega)) k.size (fun _ h _=>h)⟩
theorem Acc.sl {w:World}{n0:Nat}{acc:Fs}{v:Value}(h:Acc w n0 acc v):∃ao cap,v=.slice ao acc.len cap/\Sl w (Nw n0) acc ao:=by
 obtain⟨g,cap,xs,rfl,h⟩:=h;refine⟨_,cap,rfl,?_⟩;by_cases h0:0<acc.len
 ·obtain⟨g',cap',hv,_,_,_,hlt,hc,_⟩:=h.row.pos h0;simp only[Value.slice.injEq,Option.some.injEq,Addr.mk.injEq,true_and,and_true] at hv;obtain⟨rfl,rfl⟩:=hv;have hl:=h.row.len;refine Sl.of h.1 hlt (fun j u hu=>?_) (h.2.2.mono (fun _ _ _=>rfl) (Nat.le_refl _) (fun _ hp _=>hp.1));rw[Nat.zero_add,hc j ?_]
  ·exact hu
  ·rw[<-hl];by_cases hj:j<xs.length
   ·exact hj
   ·rw[List.getElem?_eq_none (by omega)] at hu;cases hu
 ·refine .inl ?_;cases acc using Fs.on with
  | nil=>rfl
  | cons k n nm a ks r=>simp[Fs.len] at h0
theorem Keep.step1 {rb g:Nat}{a w w2:World}{o2:Nat->Nat}(K:Keep rb a w)(s:Step (fun x=>x=1) w (lab1 g) w2 o2)(hg:a.heap.size<=g):Keep rb a w2 :=
 ⟨s.os.trans K.os,s.tape.trans K.tape,s.output.trans K.output,Nat.le_trans K.size s.size,fun k hk hn=>(s.block k (Nat.lt_of_lt_of_le hk K.size) (by unfold lab1;rw[if_neg (by omega)];decide)).trans (K.block k hk hn)⟩
theorem Acc.push {w w2:World}{o2:Nat->Nat}{n0 n1 g cap g2 c2:Nat}{acc:Fs}{xs:List Value}{e:Ex}{ao:Option Addr}{ce:Nat}(h:AccG w n0 acc g cap xs)(S:Sl w (Nw n1) e.kids ao)(hn1:g<n1)(hw:n0<=w.heap.size)
  (s:Step (fun x=>x=1) w (lab1 g) w2 o2) (r:Row w2 o2 1 25 5 (.slice (some ⟨g2,0,none⟩) (acc.len+1) c2) (acc.len+1) (xs++[.int .i64 e.k,.int .i64 e.n,stv e.nm,.slice ao e.kids.len ce,.int .i64 e.a])) :
  Acc w2 n0 (acc.snoc e) (.slice (some ⟨g2,0,none⟩) (acc.len+1) c2):=by
 have hl:(acc.snoc e).len=acc.len+1:=Fs.len_snoc acc e;have h2:o2 g2=1:=r.2 g2 rfl;have hlt2:g2<w2.heap.size:=r.lt rfl;have hg2:n0<=g2:=by
  by_cases hlt:g2<w.heap.size
  ·have:=(s.lab g2 hlt).symm.trans h2
   unfold lab1 at this;by_cases e:g2=g
   ·rw[e];exact h.1
   ·rw[if_neg e] at this;cases this
  ·omega
 have hb:∀ k,(n0<=k/\k≠g)->k<w.heap.size->w2.heap[k]?=w.heap[k]?:=fun k hk hl=>s.block k hl (by unfold lab1;rw[if_neg hk.2];decide);have hq:∀ k,(n0<=k/\k≠g)->k<w.heap.size->(n0<=k/\k≠g2):=fun k hk hl=>⟨hk.1,fun e=>by
  have:=(s.lab k hl).symm.trans (e ▸ h2)
  unfold lab1 at this;rw[if_neg hk.2] at this;cases this⟩
 refine⟨g2,c2,xs++[.int .i64 e.k,.int .i64 e.n,stv e.nm,.slice ao e.kids.len ce,.int .i64 e.a],by rw[hl],hg2,by rw[hl];exact r.1,?_⟩;have F1:=h.2.2.mono hb s.size hq;have S1:Sl w2 (fun b=>n0<=b/\b≠g2) e.kids ao:=S.mono (fun k hk hl=>hb k ⟨by have hk:n1<=k:=hk;have:=h.1;omega,by have hk:n1<=k:=hk;omega⟩ hl) s.size (fun k hk hl=>hq k ⟨by have hk:n1<=k:=hk;have:=h.1;omega,by have hk:n1<=k:=hk;omega⟩ hl);exact F1.app (Fc.one ce S1)
theorem infoExpr:(Tryz.prog.info? 25).map (fun i=>(i.zero,i.size,i.bytes))=some (some (.agg #[.int .i64 0,.int .i64 0,.string ⟨#[]⟩,.slice none 0 0,.int .i64 0]),5,64):=by kernel_rfl
def hFs:Fs->Bool->Nat->Option Nat
 | ⟨none⟩,_,c=>some c
 | ⟨some ⟨k,n,nm,a,ks,r⟩⟩,first,c =>
  if isSetK k != first then none
  else if 2000<c+1 then none
  else if numB k n&&namB k nm&&kidB k n ks.len then
   match hFs ks (k==21) (c+1) with
   | none=>none
   | some c'=>hFs r false c'
  else none
def hE (e:Ex)(c:Nat):Option Nat:=if 2000<c+1 then none else if numB e.k e.n&&namB e.k e.nm&&kidB e.k e.n e.kids.len then hFs e.kids (e.k==21) (c+1) else none
def Fs.size:Fs->Nat
 | ⟨none⟩=>0
 | ⟨some ⟨_,_,_,_,ks,r⟩⟩=>ks.size+r.size+1
def Fs.short:Fs->Prop
 | ⟨none⟩=>True
 | ⟨some ⟨_,_,nm,_,ks,r⟩⟩=>nm.length<=maxLen/\ks.len<=1000000000/\ks.short/\r.short
theorem Fs.size_app:∀ (x y:Fs),(x.app y).size=x.size+y.size
 | ⟨none⟩,y=>by simp[Fs.app,Fs.size]
 | ⟨some ⟨k,n,nm,a,ks,r⟩⟩,y=>by simp only[Fs.app,Fs.size];rw[Fs.size_app r y];omega
theorem Fs.app_short:∀ {x y:Fs},(x.app y).short->y.short
 | ⟨none⟩,y,h=>h
 | ⟨some ⟨k,n,nm,a,ks,r⟩⟩,y,h=>Fs.app_short h.2.2.2
theorem hFs_le:∀ (f:Fs) (b:Bool) (c c':Nat),c<=2000->hFs f b c=some c'->c'<=2000
 | ⟨none⟩,b,c,c',h,e=>by
  unfold hFs at e;injection e with e
  omega
 | ⟨some ⟨k,n,nm,a,ks,r⟩⟩,b,c,c',h,e=>by
  unfold hFs at e;split at e
  ·cases e
  ·split at e
   ·cases e
   ·split at e
    ·split at e
     ·cases e
     ·rename_i c2 h2
      exact hFs_le r false c2 c' (hFs_le ks _ (c+1) c2 (by omega) h2) e
    ·cases e
theorem hE_le {e:Ex}{c c':Nat}(h:hE e c=some c'):c'<=2000:=by
 unfold hE at h;split at h
 ·cases h
 ·split at h
  ·exact hFs_le _ _ _ _ (by omega) h
  ·cases h
theorem Fs.app_assoc:∀ (x y z:Fs),(x.app y).app z=x.app (y.app z)
 | ⟨none⟩,y,z=>rfl
 | ⟨some ⟨k,n,nm,a,ks,r⟩⟩,y,z=>by simp only[Fs.app];rw[Fs.app_assoc r y z]
theorem Fc.split {w:World}{P:Nat->Prop}:∀ {x y:Fs}{zs:List Value},Fc w P (x.app y) zs->∃zx zy,zs=zx++zy/\Fc w P x zx/\Fc w P y zy
 | ⟨none⟩,y,zs,h=>⟨[],zs,rfl,rfl,h⟩
 | ⟨some ⟨k,n,nm,a,ks,r⟩⟩,y,zs,h=>by
  obtain⟨ao,cap,ys,rfl,h1,h2⟩:=h;obtain⟨zx,zy,rfl,h3,h4⟩:=Fc.split h2;exact⟨_,zy,rfl,⟨ao,cap,zx,rfl,h1,h3⟩,h4⟩
abbrev Nf (fb:Nat):Nat->Prop:=fun b=>b≠fb
theorem Sl.keepF {fb:Nat}{w w':World}{f:Fs}{ao:Option Addr}(h:Sl w (Nf fb) f ao)(k:Keep fb w w'):Sl w' (Nf fb) f ao:=h.mono (fun i hp hl=>k.block i hl hp) k.size (fun _ h _=>h)
theorem run_append_where_str {P:Program}(w:World)(t u ty e:TypeId)(i:TypeInfo)(ht:P.underlying t=some (.slice e))(hu:P.underlying u=some .string)(hi:P.info? e=some i)(hz:i.zero=some (.int .u8 0))
  (hsize:i.size=1) (hby:i.bytes=1) (v:Value) (n:Nat) (xs:List Value) (hown:w.ownsRow 0 e 1 v n xs) (s:ByteArray) (h63:n+s.size<=maxLen) (hbytes:n+s.size<=140737488355328) :
  ∃v' w',(Builtin.append_ #[t,u] ty #[v,.string s]).run P w=.ok v' w'/\w'.ownsRow 0 e 1 v' (n+s.size) (xs++Go.Lib.strCells s)/\w.grownBy w' v.ownBlock /\
   (v'.ownBlock=v.ownBlock\/∃k,v'.ownBlock=some k/\w.heap.size<=k):=by
 obtain⟨v',w',hr,ho,hg,h4⟩:=Go.Lib.run_append_own_string (P:=P) w 0 t u ty e i ht hu hi hz hsize hby v n xs hown s h63 hbytes (Nat.zero_le _);refine⟨v',w',hr,ho,hg,?_⟩;have h63':n+s.size<=9223372036854775807:=by simp only[maxLen] at h63;omega
 rcases hown.2 with ⟨rfl,rfl⟩|⟨g,cap,cur,rfl,hbg,hgb,hnc,hcm,hcs,htake⟩
 ·by_cases hm:s.size=0
  ·have h5:=h4.2 ⟨rfl,hm⟩;subst h5;exact .inl rfl
  ·have hr':=run_append_nil_string (P:=P) w t u ty e i (.int .u8 0) ht hu hi hz s (by omega) (by omega) (by rw[hby];omega);rw[hr'] at hr;injection hr with e1 e2
   subst e1;exact .inr ⟨_,rfl,Nat.le_refl _⟩
 ·by_cases hroom:n+s.size<=cap
  ·have hcs':cur.size=cap:=by simpa using hcs
   have hr':=Go.Lib.run_append_room_string (P:=P) w t u ty e i ht hu hi hsize g n cap cur hgb s hroom (by omega);rw[hr'] at hr;injection hr with e1 e2
   subst e1;exact .inl rfl
  ·have holds:∀ j u,xs[j]?=some u->w.cell? ((⟨g,0,none⟩:Addr).add j)=some u:=hown.cells (g:=g) rfl;have hr':=Go.Lib.run_append_grow_string (P:=P) w t u ty e i (.int .u8 0) ht hu hi hz ⟨g,0,none⟩ n cap xs (by rw[hsize];simpa using hown.1) holds s (by omega) (by omega) (by rw[hby];exact growslice_fits (by omega) (by omega));rw[hr'] at hr;injection hr with e1 e2
   subst e1;exact .inr ⟨_,rfl,Nat.le_refl _⟩
theorem wpList_append_str {P:Program}{w:World}{ops:Array Oper}{rest:List Oper}{op:Oper}{a:Act}{Q:Exit->Act->World->Prop}(hgd:op.guard=none)(sl x:Operand)(t u:TypeId)
  (ho:op.op=.call { callee:=.builtin .append,args:=#[sl,x],argTypes:=#[t,u] })
  (e:TypeId) (i:TypeInfo) (ht:P.underlying t=some (.slice e)) (hu:P.underlying u=some .string) (hi:P.info? e=some i) (hz:i.zero=some (.int .u8 0)) (hsize:i.size=1) (hby:i.bytes=1)
  (o:Nat->Nat) (lb:Nat) (v:Value) (n:Nat) (xs:List Value) (hs:a.eval sl=v) (hrow:Row w o lb e 1 v n xs) (s:ByteArray) (hx:a.eval x=.string s) (h63:n+s.size<=maxLen) (hbytes:n+s.size<=140737488355328)
  (h:∀ v' w' o',Row w' o' lb e 1 v' (n+s.size) (xs++Go.Lib.strCells s)->Step (fun k=>k=lb) w o w' o'->wpList P ops Q rest (a.put op.dst v') w'):wpList P ops Q (op::rest) a w:=by
 refine wpList_plain hgd fun _ hK=>?_;obtain⟨v',w',hr,h2,h3,h4⟩:=run_append_where_str (P:=P) w t u op.type e i ht hu hi hz hsize hby v n xs hrow.1 s h63 hbytes;unfold Oper.wp execOp;simp only[ho,resolve,invoke,builtin,Sem.run_bind,Sem.run_pure,Result.andThen_ok,List.map_toArray,List.map_cons,List.map_nil,hs,hx,hr];have hst:Step (fun k=>k=lb) w o w' (newLab w o lb):=Step.appended h3 rfl hrow.2;have hrow':Row w' (newLab w o lb) lb e 1 v' (n+s.size) (xs++Go.Lib.strCells s):=by
  refine⟨h2,fun k hk=>?_⟩;rcases h4 with h4|⟨k',h4,hk'⟩
  ·rw[h4] at hk;rw[newLab_old (hrow.lt hk)];exact hrow.2 k hk
  ·rw[h4] at hk;injection hk with hk
   subst hk;exact newLab_new hk'
 exact hK _ _ (h v' w' _ hrow' hst)
def byL (t:List UInt8):List Value:=t.map fun b=>Value.int .u8 b.toNat
theorem byL_app (s t:List UInt8):byL s++Go.Lib.strCells ⟨t.toArray⟩=byL (s++t):=by simp[byL,Go.Lib.strCells]
theorem size_mk (t:List UInt8):(ByteArray.mk t.toArray).size=t.length:=by simp[ByteArray.size]
abbrev I12:Nat->Prop:=fun k=>k=1\/k=2
theorem infoU8:(Tryz.prog.info? 5).map (fun i=>(i.zero,i.size,i.bytes))=some (some (.int .u8 0),1,1):=by kernel_rfl
structure St where
 t:List UInt8
 a:Nat
 m:Nat
 b:Nat
 n:Nat
def St.lay (s:St)(x:List UInt8):St:=⟨s.t++x,s.a,s.m,s.b,s.n⟩
def St.ent (s:St):St:=⟨s.t,s.a+1,max s.m (s.a+1),s.b,s.n⟩
def St.lea (s:St):St:=⟨s.t,s.a-1,s.m,s.b,s.n⟩
def St.qent (s:St):St:=⟨s.t,s.a,s.m,s.b+1,max s.n (s.b+1)⟩
def St.qlea (s:St):St:=⟨s.t,s.a,s.m,s.b-1,s.n⟩
def qword (n:Int):List UInt8:=match quantOf n with|some x=>x.1|none=>[]
def cword (n:Int):List UInt8:=match callOf n with|some x=>x.1|none=>[]
abbrev Sep:=Nat->List UInt8 × Nat
def comS:Sep:=fun i=>(if i=0 then [] else [44,32],0)
def ifS:Sep:=fun i=>(if i=0 then [105,102,32] else if i=1 then [32,116,104,101,110,32] else [32,101,108,115,101,32],0)
def quS (n:Int)(nm:List UInt8):Sep:=fun i=>(if i=0 then qword n++[32]++nm++[32,105,110,32] else [58,32],0)
def opS (k:Int):Sep:=fun i=>match opOf k with|some x=>if i=0 then ([],x.2.2.2.1) else ([32]++x.1++[32],x.2.2.2.2)|none=>([],0)
def wPlain (k n:Int)(nm:List UInt8)(K:Sep->St->St)(s:St):St :=
 if k=1 then s.lay (Go.Lib.itoa n)
 else if k=2 then s.lay (Go.Lib.formatBool (n==1))
 else if k=3 then (s.lay [64]).lay (Go.Lib.itoa n)
 else if k=4\/k=23 then s.lay nm
 else if k=22 then s.lay [118,101,114,116,105,99,101,115]
 else K (opS k) s
def wList (x y:List UInt8)(K:Sep->St->St)(s:St):St:=((K comS (s.ent.lay x)).lay y).lea
def wNode (k n:Int)(nm:List UInt8)(K:Sep->St->St)(s:St):St :=
 if k=7 then (K (fun _=>([110,111,116,32],3)) s.ent).lea
 else if k=6 then (K (fun _=>([45],7)) s.ent).lea
 else if k=19 then (K ifS s.ent).lea
 else if k=21 then ((K (quS n nm) s.ent.qent).qlea).lea
 else if k=20 then wList [40] [41] K (s.lay (cword n))
 else if k=24 then wList [40] [41] K (s.lay [97,114,111,117,110,100])
 else if k=25 then wList [123] [125] K s
 else wPlain k n nm K s
def wE (k n:Int)(nm:List UInt8)(asked:Nat)(K:Sep->St->St)(s:St):St :=
 if rowOf k<asked then ((wNode k n nm K (s.ent.lay [40])).lay [41]).lea else wNode k n nm K s
def wFs:Fs->Sep->Nat->St->St
 | ⟨none⟩,_,_,s=>s
 | ⟨some ⟨k,n,nm,a,ks,r⟩⟩,f,i,s=>wFs r f (i+1) (wE k n nm (f i).2 (fun g s=>wFs ks g 0 s) (s.lay (f i).1))
def wEx (e:Ex)(asked:Nat)(s:St):St:=wE e.k e.n e.nm asked (fun g s=>wFs e.kids g 0 s) s
theorem qword_len (n:Int):(qword n).length<=5:=by
 unfold qword;split
 ·rename_i x h
  have hm:=List.mem_of_find?_eq_some h
  have:∀ x ∈ quantsL,x.1.length<=5:=by decide
  exact this x hm
 ·simp
theorem cword_len (n:Int):(cword n).length<=10:=by
 unfold cword;split
 ·rename_i x h
  have hm:=List.mem_of_find?_eq_some h
  have:∀ x ∈ callsL,x.1.length<=10:=by decide
  exact this x hm
 ·simp
abbrev L0 (o:Nat->Nat):Nat->Prop:=fun b=>o b=0
theorem Sl.stp {w w':World}{o o':Nat->Nat}{f:Fs}{ao:Option Addr}(h:Sl w (L0 o) f ao)(s:Step I12 w o w' o'):Sl w' (L0 o') f ao :=
 h.mono (fun i hp hl=>s.block i hl (fun hi=>by rcases hi with hi|hi<;>(have hp:o i=0:=hp;omega))) s.size (fun i hp hl=>(s.lab i hl).trans hp)
theorem Blk.stp {w w':World}{o o':Nat->Nat}{b:Nat}{ob:Obj}(h:Blk w o 0 b ob)(s:Step I12 w o w' o'):Blk w' o' 0 b ob:=h.step s (by simp[I12])
theorem Step.ofB {I:Nat->Prop}{w w':World}(o:Nat->Nat)(b:Below w.heap.size w w'):Step I w o w' o:=⟨b.os,b.tape,b.output,b.size,fun _ _=>rfl,fun k hk _=>b.block k hk⟩
theorem boxStep (I:Nat->Prop)(w:World)(o:Nat->Nat)(ob:Obj):Step I w o (w.alloc ob) (newLab w o 0):=((Step.refl I w o).labelled 0).alloc ob
theorem boxBlk (w:World)(o:Nat->Nat)(cs:Array Value)(t:TypeId):Blk (w.alloc (.cells cs t)) (newLab w o 0) 0 w.heap.size (.cells cs t (0,0)):=⟨heap_alloc_new w _,newLab_new (Nat.le_refl _)⟩
def okP (k n:Int)(nm:List UInt8)(m:Nat):Prop:=numB k n=true/\namB k nm=true/\kidB k n m=true/\nm.length<=12/\-9223372036854775808<=n/\n<=9223372036854775807
def Fs.okA:Fs->Prop
 | ⟨none⟩=>True
 | ⟨some ⟨k,n,nm,_,ks,r⟩⟩=>okP k n nm ks.len/\ks.okA/\r.okA
def Ex.okA (e:Ex):Prop:=okP e.k e.n e.nm e.kids.len/\e.kids.okA
def Fs.ex (x:Ex)(r:Fs):Fs:=.cons x.k x.n x.nm x.a x.kids r
theorem okA_ex {x:Ex}{r:Fs}(h:(Fs.ex x r).okA):x.okA/\r.okA:=⟨⟨h.1,h.2.1⟩,h.2.2⟩
theorem size_ex (x:Ex)(r:Fs):(Fs.ex x r).size=x.kids.size+r.size+1:=rfl
theorem len_ex (x:Ex)(r:Fs):(Fs.ex x r).len=r.len+1:=rfl
theorem len1:∀ {f:Fs},f.len=1->∃x,f=Fs.ex x .nil
 | ⟨none⟩,h=>by cases h
 | ⟨some ⟨k,n,nm,a,ks,⟨none⟩⟩⟩,h=>⟨⟨k,n,nm,a,ks⟩,rfl⟩
 | ⟨some ⟨_,_,_,_,_,(⟨some ⟨_,_,_,_,_,_⟩⟩)⟩⟩,h=>by simp[Fs.len] at h
theorem len2:∀ {f:Fs},f.len=2->∃x y,f=Fs.ex x (Fs.ex y .nil)
 | ⟨none⟩,h=>by cases h
 | ⟨some ⟨k,n,nm,a,ks,r⟩⟩,h=>by
  obtain⟨y,rfl⟩:=len1 (f:=r) (by simp only[Fs.len] at h;omega);exact⟨⟨k,n,nm,a,ks⟩,y,rfl⟩
theorem len3:∀ {f:Fs},f.len=3->∃x y z,f=Fs.ex x (Fs.ex y (Fs.ex z .nil))
 | ⟨none⟩,h=>by cases h
 | ⟨some ⟨k,n,nm,a,ks,r⟩⟩,h=>by
  obtain⟨y,z,rfl⟩:=len2 (f:=r) (by simp only[Fs.len] at h;omega);exact⟨⟨k,n,nm,a,ks⟩,y,z,rfl⟩
theorem Sl.kidP {w:World}{P:Nat->Prop}{x r:Fs}{y:Ex}{ao:Option Addr}(h:Sl w P (x.app (Fs.ex y r)) ao)(i:Nat)(hi:x.len=i):∃b off ak ck,ao=some ⟨b,off,none⟩/\w.cell? ⟨b,off+i*5,none⟩=some (.int .i64 y.k)/\w.cell? ⟨b,off+i*5+1,none⟩=some (.int .i64 y.n)/\w.cell? ⟨b,off+i*5+2,none⟩=some (stv y.nm)/\w.cell? ⟨b,off+i*5+3,none⟩=some (.slice ak y.kids.len ck)/\w.cell? ⟨b,off+i*5+4,none⟩=some (.int .i64 y.a)/\Sl w P y.kids ak:=by
 subst hi;rcases h with h|⟨b,off,zs,rfl,hp,hlt,hc,hf⟩
 ·cases x using Fs.on with
  | nil=>cases h
  | cons k n nm a ks r=>cases h
 ·obtain⟨zx,zy,rfl,h3,h4⟩:=Fc.split hf;have hl:=h3.len;obtain⟨ak,ck,ys,rfl,h5,h6⟩:=h4;have hc':∀ j u,(.int .i64 y.k::.int .i64 y.n::stv y.nm::.slice ak y.kids.len ck::.int .i64 y.a::ys:List Value)[j]?=some u->w.cell? ⟨b,off+x.len*5+j,none⟩=some u:=fun j u hu=>by
   have:=hc (x.len*5+j) u (by rw[List.getElem?_append_right (by omega),hl,Nat.add_sub_cancel_left];exact hu)
   rw[Nat.add_assoc];exact this
  exact⟨b,off,ak,ck,rfl,hc' 0 _ rfl,hc' 1 _ rfl,hc' 2 _ rfl,hc' 3 _ rfl,hc' 4 _ rfl,h5⟩
def lastI:List (List UInt8)->List UInt8->Nat->Int->Int
 | [],_,_,d=>d
 | b::r,nm,i,d=>lastI r nm (i+1) (if b=nm then (i:Int) else d)
def innB (pk:Int)(pn:List UInt8)(i:Nat)(bd:List (List UInt8)):List (List UInt8):=if pk=21/\i=1 then bd++[pn] else bd
def ofF:Fs->Int->List UInt8->Nat->List (List UInt8)->Fs
 | ⟨none⟩,_,_,_,_=>.nil
 | ⟨some ⟨k,n,nm,a,ks,r⟩⟩,pk,pn,i,bd =>
  if k=4 then .cons 5 (lastI (innB pk pn i bd) nm 0 n) [] 0 .nil (ofF r pk pn (i+1) bd)
  else .cons k n (if k=23 then nm else []) 0 (ofF ks k nm 0 (innB pk pn i bd)) (ofF r pk pn (i+1) bd)
def ofE (e:Ex)(bd:List (List UInt8)):Ex :=
 if e.k=4 then ⟨5,lastI bd e.nm 0 e.n,[],0,.nil⟩ else ⟨e.k,e.n,if e.k=23 then e.nm else [],0,ofF e.kids e.k e.nm 0 bd⟩
theorem of_cons (k n:Int)(nm:List UInt8)(a:Int)(ks r:Fs)(pk:Int)(pn:List UInt8)(i:Nat)(bd:List (List UInt8)) :
  ofF (.cons k n nm a ks r) pk pn i bd=Fs.ex (ofE ⟨k,n,nm,a,ks⟩ (innB pk pn i bd)) (ofF r pk pn (i+1) bd):=by
 conv=>lhs;unfold ofF
 unfold ofE;simp only;split<;>rfl
theorem ofF_len:∀ (f:Fs) (pk:Int) (pn:List UInt8) (i:Nat) (bd:List (List UInt8)),(ofF f pk pn i bd).len=f.len
 | ⟨none⟩,pk,pn,i,bd=>rfl
 | ⟨some ⟨k,n,nm,a,ks,r⟩⟩,pk,pn,i,bd=>by
  have h:=of_cons k n nm a ks r pk pn i bd;show (ofF (.cons k n nm a ks r) pk pn i bd).len=r.len+1;rw[h];show (ofF r pk pn (i+1) bd).len+1=_;rw[ofF_len r pk pn (i+1) bd]
theorem ofF_short:∀ (f:Fs) (pk:Int) (pn:List UInt8) (i:Nat) (bd:List (List UInt8)),f.short->(ofF f pk pn i bd).short
 | ⟨none⟩,pk,pn,i,bd,h=>trivial
 | ⟨some ⟨k,n,nm,a,ks,r⟩⟩,pk,pn,i,bd,h=>by
  have h2:=ofF_short r pk pn (i+1) bd h.2.2.2;have h1:=ofF_short ks k nm 0 (innB pk pn i bd) h.2.2.1;unfold ofF;split
  ·exact⟨by simp,by show 0<=_;omega,trivial,h2⟩
  ·refine⟨?_,by rw[ofF_len];exact h.2.1,h1,h2⟩;split
   ·exact h.1
   ·simp
theorem ofE_len (e:Ex)(bd:List (List UInt8)):(ofE e bd).kids.len<=e.kids.len:=by
 unfold ofE;split
 ·show 0<=_;omega
 ·rw[ofF_len];exact Nat.le_refl _
theorem ofE_short (e:Ex)(bd:List (List UInt8))(h:e.kids.short):(ofE e bd).kids.short:=by
 unfold ofE;split
 ·trivial
 ·exact ofF_short _ _ _ _ _ h
theorem ofE_nm (e:Ex)(bd:List (List UInt8))(h:e.nm.length<=maxLen):(ofE e bd).nm.length<=maxLen:=by
 unfold ofE;split
 ·simp
 ·simp only;split
  ·exact h
  ·simp
theorem Sl.kidQ {P:Nat->Prop}{w:World}{x r:Fs}{k n:Int}{nm:List UInt8}{a:Int}{ks:Fs}{ao:Option Addr}(h:Sl w P (x.app (.cons k n nm a ks r)) ao):∃b off ak ck,ao=some ⟨b,off,none⟩/\b<w.heap.size/\P b/\w.cell? ⟨b,off+x.len*5,none⟩=some (.int .i64 k)/\w.cell? ⟨b,off+x.len*5+1,none⟩=some (.int .i64 n)/\w.cell? ⟨b,off+x.len*5+2,none⟩=some (stv nm)/\w.cell? ⟨b,off+x.len*5+3,none⟩=some (.slice ak ks.len ck)/\w.cell? ⟨b,off+x.len*5+4,none⟩=some (.int .i64 a)/\Sl w P ks ak:=by
 rcases h with h|⟨b,off,zs,rfl,hp,hlt,hc,hf⟩
 ·cases x using Fs.on with
  | nil=>cases h
  | cons k n nm a ks r=>cases h
 ·obtain⟨zx,zy,rfl,h3,h4⟩:=Fc.split hf;have hl:=h3.len;obtain⟨ak,ck,ys,rfl,h5,h6⟩:=h4;have hc':∀ j u,(.int .i64 k::.int .i64 n::stv nm::.slice ak ks.len ck::.int .i64 a::ys:List Value)[j]?=some u->w.cell? ⟨b,off+x.len*5+j,none⟩=some u:=fun j u hu=>by
   have:=hc (x.len*5+j) u (by rw[List.getElem?_append_right (by omega),hl,Nat.add_sub_cancel_left];exact hu)
   rw[Nat.add_assoc];exact this
  exact⟨b,off,ak,ck,rfl,hlt,hp,hc' 0 _ rfl,hc' 1 _ rfl,hc' 2 _ rfl,hc' 3 _ rfl,hc' 4 _ rfl,h5⟩
abbrev SlA (w:World)(f:Fs)(ao:Option Addr):Prop:=Sl w (fun _=>True) f ao
theorem consR_inl {x:Tk}{X:Res}{e:Nat × Nat}(h:consR x X=.inl e):X=.inl e:=by
 cases X with
 | inl e'=>exact h
 | inr l=>cases h
theorem consR_inr {x:Tk}{X:Res}{ts:List Tk}(h:consR x X=.inr ts):∃us,X=.inr us/\ts=x::us:=by
 cases X with
 | inl e=>cases h
 | inr l =>
  refine⟨l,rfl,?_⟩;injection h with h
  exact h.symm
theorem shut_inl {k:Nat}{t:List UInt8}{a e q:Nat}{X:Res}(h:shutP k t a X=.inl (e,q)):(k≠0/\ptok k t a=.inl e/\q=a)\/(X=.inl (e,q)/\(k=0\/∃x,ptok k t a=.inr x)):=by
 unfold shutP at h;by_cases hk:k=0
 ·rw[if_pos hk] at h;exact .inr ⟨h,.inl hk⟩
 ·rw[if_neg hk] at h;cases hp:ptok k t a with
  | inl e' =>
   rw[hp] at h;simp only at h;injection h with h
   injection h with h1 h2
   exact .inl ⟨hk,by rw[h1],h2.symm⟩
  | inr x =>
   rw[hp] at h;exact .inr ⟨consR_inl h,.inr ⟨x,rfl⟩⟩
theorem shut_inr {k:Nat}{t:List UInt8}{a:Nat}{X:Res}{ts:List Tk}(h:shutP k t a X=.inr ts):(k=0/\X=.inr ts)\/(k≠0/\∃x us,ptok k t a=.inr x/\X=.inr us/\ts=x::us):=by
 unfold shutP at h;by_cases hk:k=0
 ·rw[if_pos hk] at h;exact .inl ⟨hk,h⟩
 ·rw[if_neg hk] at h;cases hp:ptok k t a with
  | inl e'=>rw[hp] at h;cases h
  | inr x =>
   rw[hp] at h;obtain⟨us,h1,h2⟩:=consR_inr h;exact .inr ⟨hk,x,us,rfl,h1,h2⟩
theorem err_place (k:Nat)(t:List UInt8)(a p:Nat)(l:List UInt8)(e q:Nat)(h:lexL k t a p l=.inl (e,q)):(k≠0/\q=a)\/(p<=q/\q<p+l.length):=by
 induction l generalizing k t a p with
 | nil =>
  rcases shut_inl h with ⟨h1,_,h2⟩|⟨h1,_⟩
  ·exact .inl ⟨h1,h2⟩
  ·cases h1
 | cons c r ih =>
  simp only[List.length_cons];cases ht:tks k t c.toNat
  ·rw[lexL_no ht] at h;rcases shut_inl h with ⟨h1,_,h2⟩|⟨h1,_⟩
   ·exact .inl ⟨h1,h2⟩
   ·rcases ih _ _ _ _ h1 with ⟨_,h2⟩|⟨h2,h3⟩
    ·exact .inr ⟨by omega,by omega⟩
    ·exact .inr ⟨by omega,by omega⟩
  ·rw[lexL_yes ht] at h;rcases ih _ _ _ _ h with h2|⟨h2,h3⟩
   ·exact .inl h2
   ·exact .inr ⟨by omega,by omega⟩
theorem err_kind (k:Nat)(t:List UInt8)(a p:Nat)(l:List UInt8)(e q:Nat)(h:lexL k t a p l=.inl (e,q)):e=110\/e=111\/e=112:=by
 induction l generalizing k t a p with
 | nil =>
  rcases shut_inl h with ⟨h1,h2,_⟩|⟨h1,_⟩
  ·exact ptok_err h2
  ·cases h1
 | cons c r ih =>
  cases ht:tks k t c.toNat
  ·rw[lexL_no ht] at h;rcases shut_inl h with ⟨h1,h2,_⟩|⟨h1,_⟩
   ·exact ptok_err h2
   ·exact ih _ _ _ _ h1
  ·rw[lexL_yes ht] at h;exact ih _ _ _ _ h
theorem scan_short {l:List UInt8}(h:l.length<=2000):scanA l=lexA l:=by
 unfold scanA;rw[if_neg (by omega)]
theorem scan_err {l:List UInt8}{e q:Nat}(h:scanA l=.inl (e,q))(he:e≠113):l.length<=2000/\lexA l=.inl (e,q)/\q<l.length/\(e=110\/e=111\/e=112):=by
 unfold scanA at h;split at h
 ·injection h with h
  injection h with h1 h2
  omega
 ·refine⟨by omega,h,?_,err_kind _ _ _ _ _ _ _ h⟩;rcases err_place _ _ _ _ _ _ _ h with ⟨h1,_⟩|⟨_,h1⟩
  ·exact absurd rfl h1
  ·omega
theorem ptok_inr {k:Nat}{t:List UInt8}{a:Nat}{x:Tk}(h:ptok k t a=.inr x):x.a=a/\∀ a',ptok k t a'=.inr ⟨x.k,x.n,x.t,a'⟩:=by
 unfold ptok at h ⊢;split at h
 ·unfold wrdT at h ⊢;split at h
  ·rename_i h1
   injection h with h
   subst h;exact⟨rfl,fun a'=>by rw[if_pos h1]⟩
  ·rename_i h1
   split at h
   ·rename_i h2
    injection h with h
    subst h;exact⟨rfl,fun a'=>by rw[if_neg h1,if_pos h2]⟩
   ·cases h
 ·unfold numT at h ⊢;cases ha:Lib.atoiAll t with
  | ok v =>
   rw[ha] at h;simp only at h ⊢;split at h
   ·cases h
   ·rename_i h1
    injection h with h
    subst h;exact⟨rfl,fun a'=>by rw[if_neg h1]⟩
  | _=>rw[ha] at h;cases h
 ·unfold sgnT at h ⊢;split at h
  ·cases h
  ·rename_i h1
   injection h with h
   subst h;exact⟨rfl,fun a'=>by rw[if_neg h1]⟩
 ·cases h
theorem tok_places (k:Nat)(t:List UInt8)(a p:Nat)(l:List UInt8)(ts:List Tk)(h:lexL k t a p l=.inr ts)(ha:a<=p):∀ x,x ∈ ts->x.a<=p+l.length:=by
 induction l generalizing k t a p ts with
 | nil =>
  intro x hx;rcases shut_inr h with ⟨rfl,h1⟩|⟨hk,y,us,hp,h1,h2⟩
  ·injection h1 with h1
   subst h1;simp at hx;subst hx;exact Nat.le_refl _
  ·injection h1 with h1
   subst h1 h2;simp at hx;rcases hx with rfl|rfl
   ·have:=(ptok_inr hp).1
    simp;omega
   ·exact Nat.le_refl _
 | cons c r ih =>
  have e1:p+(c::r).length=p+1+r.length:=by simp;omega
  rw[e1];cases ht:tks k t c.toNat
  ·rw[lexL_no ht] at h;rcases shut_inr h with ⟨rfl,h1⟩|⟨hk,y,us,hp,h1,h2⟩
   ·exact ih _ _ _ _ _ h1 (by omega)
   ·subst h2;intro x hx;rcases List.mem_cons.1 hx with rfl|hx
    ·have:=(ptok_inr hp).1
     omega
    ·exact ih _ _ _ _ _ h1 (by omega) x hx
  ·rw[lexL_yes ht] at h;exact ih _ _ _ _ _ h (by omega)
theorem tok_count (k:Nat)(t:List UInt8)(a p:Nat)(l:List UInt8)(ts:List Tk)(h:lexL k t a p l=.inr ts):ts.length<=l.length+2/\0<ts.length/\(k=0->ts.length<=l.length+1):=by
 induction l generalizing k t a p ts with
 | nil =>
  rcases shut_inr h with ⟨rfl,h1⟩|⟨hk,y,us,hp,h1,h2⟩
  ·injection h1 with h1
   subst h1;simp
  ·injection h1 with h1
   subst h1 h2;simp[hk]
 | cons c r ih =>
  simp only[List.length_cons];cases ht:tks k t c.toNat
  ·rw[lexL_no ht] at h;rcases shut_inr h with ⟨rfl,h1⟩|⟨hk,y,us,hp,h1,h2⟩
   ·have:=ih _ _ _ _ _ h1
    exact⟨by omega,by omega,fun _=>by omega⟩
   ·subst h2
    have:=ih _ _ _ _ _ h1
    simp only[List.length_cons];exact⟨by omega,by omega,fun h=>absurd h hk⟩
  ·rw[lexL_yes ht] at h
   have:=ih _ _ _ _ _ h
   exact⟨by omega,by omega,fun h=>by have:=this.2.2 h;omega⟩
theorem scan_ok {l:List UInt8}{ts:List Tk}(h:scanA l=.inr ts):l.length<=2000/\lexA l=.inr ts/\ts.length<=2001/\ts.length<=l.length+1/\0<ts.length/\(∀ x,x ∈ ts->x.a<=l.length):=by
 unfold scanA at h;split at h
 ·cases h
 ·have h1:=tok_count _ _ _ _ _ _ h;have h2:=tok_places _ _ _ _ _ _ h (Nat.le_refl _);have h3:=h1.2.2 rfl;exact⟨by omega,h,by omega,h3,h1.2.1,fun x hx=>by have:=h2 x hx;omega⟩
theorem scan_err_pos {l:List UInt8}{e q:Nat}(h:scanA l=.inl (e,q)):e≠0:=by
 by_cases he:e=113
 ·omega
 ·have:=(scan_err h he).2.2.2
  omega
end Go.Proofs.YtkhgahljbpmfaaaGreatDoor

import Derived.Lib.AtoiAll
import Derived.WalkKit
import Derived.ProofKit
import Derived.OpenShut
import Derived.Deep.QuietTactic
import Derived.BigQuiet
import Derived.Test.YtkhgahljbpmfaaaGreatDoorRows
import Derived.Shelf.Strconv.ErrVarAll
import Derived.Ground.NamesProg
import Derived.Lib.OthersKept
import Derived.Deep.MidRow
import Derived.Deep.CutBlock
import Derived.Deep.DeepCutAuto
import Derived.Laws.ResultCell
import Derived.WalkLawsBesides
import Derived.Deep.RegionHeld3
import Derived.Lib.AppendStr
import Derived.RegionTactic
import Derived.ChangeAlike
import Derived.BigRegion
import Derived.Shelf.Strconv.Itoa3
import Derived.Lib.ItoaLen
import Derived.Lib.SmallJoins
import Derived.Lib.Small
import Derived.Lib.AppendIntMem
import Derived.Deep.RegionHeld
import Derived.Laws.BytesArg
import Derived.Lib.SliceRun
import Derived.Deep.RegionLaw
set_option maxRecDepth 100000
set_option maxHeartbeats 8000000
namespace Go.Proofs.YtkhgahljbpmfaaaGreatDoor
set_option linter.unusedVariables false
def blk (r:Nat):Bool:=r==32||r==9||r==10||r==13
def sml (r:Nat):Bool:=decide (97<=r)&&decide (r<=122)
def ltr (r:Nat):Bool:=sml r||(decide (65<=r)&&decide (r<=90))
def dig (r:Nat):Bool:=decide (48<=r)&&decide (r<=57)
def sgn (r:Nat):Bool:=r==40||r==41||r==123||r==125||r==44||r==58||r==64||r==43||r==45||r==42||r==47||r==37||r==61||r==33||r==60
def cls (r:Nat):Nat:=if blk r then 0 else if ltr r then 1 else if dig r then 2 else if sgn r then 3 else 4
def tks (k:Nat)(t:List UInt8)(r:Nat):Bool :=
 match k with
 | 0=>blk r
 | 1=>ltr r||dig r||r==95
 | 2=>dig r
 | 3=>r==61&&(t==[33]||t==[60])
 | _=>false
def lR:List (List UInt8) :=
 [[97,108,108],[97,110,100],[97,114,111,117,110,100],[98,108,111,99,107],[98,111,116,116,108,101,110,101,99,107],[99,111,110,110,101,99,116,101,100],[99,111,117,110,116],[100,101,103,114,101,101],[101,108,115,101],
  [102,97,108,115,101],[105,102],[105,110],[108,101,97,115,116],[109,97,120],[109,105,110],[109,111,115,116],[110,111,116],[111,114],
  [114,101,112],[115,105,122,101],[115,111,109,101],[115,117,109],[116,104,101,110],[116,111,116,97,108],[116,114,117,101],[118,97,108,117,101],[118,101,114,116,105,99,101,115]]
def iF (t:List UInt8):Bool:=lR.contains t
def inn (c:UInt8):Bool:=sml c.toNat||dig c.toNat||c.toNat==95
def eH (t:List UInt8):Bool :=
 match t with
 | []=>false
 | c::r=>decide (r.length<12)&&sml c.toNat&&r.all inn&&!wordB t
structure Tk where
 k:Nat
 n:Int
 t:List UInt8
 a:Nat
abbrev Res:=Sum (Nat × Nat) (List Tk)
def mh (x:Tk):Res->Res
 | .inl e=>.inl e
 | .inr l=>.inr (x::l)
def kL (t:List UInt8)(a:Nat):Sum Nat Tk :=
 match J9 t with
 | .ok v=>if t.head?=G1 48/\t≠[48] then .inl 111 else .inr ⟨1,v,[],a⟩
 | _=>.inl 111
def jA (t:List UInt8)(a:Nat):Sum Nat Tk:=if iF t then .inr ⟨3,0,t,a⟩ else if eH t then .inr ⟨2,0,t,a⟩ else .inl 112
def pF (t:List UInt8)(a:Nat):Sum Nat Tk:=if t=[33] then .inl 110 else .inr ⟨4,0,t,a⟩
def jS (k:Nat)(t:List UInt8)(a:Nat):Sum Nat Tk :=
 match k with
 | 1=>jA t a
 | 2=>kL t a
 | 3=>pF t a
 | _=>.inl 110
def ge (k:Nat)(t:List UInt8)(a:Nat)(X:Res):Res :=
 if k=0 then X else match jS k t a with
  | .inl e=>.inl (e,a)
  | .inr x=>mh x X
def tE (p:Nat):Res:=.inr [⟨0,0,[],p⟩]
def fg (k:Nat)(t:List UInt8)(a p:Nat):List UInt8->Res
 | []=>ge k t a (tE p)
 | c::r=>if tks k t c.toNat then fg k (t++[c]) a (p+1) r else ge k t a (fg (cls c.toNat) [c] p (p+1) r)
def pJ (l:List UInt8):Res:=fg 0 [] 0 0 l
def iE (l:List UInt8):Res:=if 2000<l.length then .inl (113,0) else pJ l
theorem yL (t:List UInt8)(a p:Nat)(l:List UInt8):fg 4 t a p l=.inl (110,a):=by
 cases l with
 | nil=>rfl
 | Js c r=>rfl
theorem tb (k:Nat)(t:List UInt8)(a p:Nat):fg k t a p []=ge k t a (tE p):=rfl
theorem fY {k:Nat}{t:List UInt8}{a p:Nat}{c:UInt8}{r:List UInt8}(h:tks k t c.toNat=true):fg k t a p (c::r)=fg k (t++[c]) a (p+1) r:=by
 simp only[fg,h,if_true]
theorem gi {k:Nat}{t:List UInt8}{a p:Nat}{c:UInt8}{r:List UInt8}(h:tks k t c.toNat=false):fg k t a p (c::r)=ge k t a (fg (cls c.toNat) [c] p (p+1) r):=by
 simp[fg,h]
theorem lU (t t':List UInt8)(a a' p:Nat)(l:List UInt8):fg 0 t a p l=fg 0 t' a' p l:=by
 induction l generalizing t t' p with
 | nil=>rfl
 | Js c r ih =>
  by_cases h:blk c.toNat=true
  ·rw[fY (by exact h),fY (by exact h)];exact ih _ _ _
  ·have h':blk c.toNat=false:=by simpa using h
   rw[gi (by exact h'),gi (by exact h')];rfl
theorem pW {k:Nat}{t:List UInt8}{a p:Nat}{c:UInt8}{r:List UInt8}(h:tks k t c.toNat=false):fg k t a p (c::r)=ge k t a (fg 0 [] p p (c::r)):=by
 rw[gi h]
 congr 1
 by_cases hb:blk c.toNat=true
 ·rw[fY (k:=0) (by exact hb)];have hc:cls c.toNat=0:=by simp[cls,hb]
  rw[hc];exact lU _ _ _ _ _ _
 ·have h':blk c.toNat=false:=by simpa using hb
  rw[gi (k:=0) (by exact h')];rfl
theorem zY (k:Nat)(t:List UInt8)(a p:Nat)(u l:List UInt8)(hk:∀ j (h:j<u.length),tks k (t++u.take j) (u[j]).toNat=true)(hl:∀ c r,l=c::r->tks k (t++u) c.toNat=false) :
  fg k t a p (u++l)=ge k (t++u) a (fg 0 [] (p+u.length) (p+u.length) l):=by
 induction u generalizing t p with
 | nil =>
  simp only[I1,J1,I8,Is] at hl ⊢;cases l with
  | nil=>rw[tb,tb];rfl
  | Js c r=>exact pW (hl c r rfl)
 | Js c r ih =>
  have h0:=hk 0 (by simp);simp only[List.take_zero,J1,Hr] at h0;rw[Jh,fY h0,ih (t++[c]) (p+1) (λj h=>?_) (λc' r' e=>?_)]
  ·have e1:p+1+r.length=p+(c::r).length:=by simp;omega
   rw[e1,JL];rfl
  ·have:=hk (j+1) (by simp;omega)
   simpa [JL] using this
  ·have:=hl c' r' e
   simpa [JL] using this
structure Nd (α:Type) where
 k:Int
 n:Int
 nm:List UInt8
 a:Int
 kids:α
 rest:α
structure Fs where
 v:Option (Nd Fs)
abbrev Fs.nil:Fs:=⟨G0⟩
abbrev Fs.cons (k n:Int)(nm:List UInt8)(a:Int)(ks r:Fs):Fs:=⟨G1 ⟨k,n,nm,a,ks,r⟩⟩
theorem Fs.on {P:Fs->Prop}(f:Fs)(nil:P .nil)(Js:∀ k n nm a ks r,P (.cons k n nm a ks r)):P f:=by
 obtain⟨v⟩:=f;cases v with
 | none=>exact nil
 | some z=>obtain⟨k,n,nm,a,ks,r⟩:=z;exact Js k n nm a ks r
structure Ex where
 k:Int
 n:Int
 nm:List UInt8
 a:Int
 kids:Fs
def Fs.len:Fs->Nat
 | ⟨G0⟩=>0
 | ⟨G1 ⟨_,_,_,_,_,r⟩⟩=>r.len+1
def Fs.app:Fs->Fs->Fs
 | ⟨G0⟩,y=>y
 | ⟨G1 ⟨k,n,nm,a,ks,r⟩⟩,y=>.cons k n nm a ks (r.app y)
def one (e:Ex):Fs:=.cons e.k e.n e.nm e.a e.kids .nil
def Fs.snoc (f:Fs)(e:Ex):Fs:=f.app (one e)
theorem Fs.len_app:∀ (x y:Fs),(x.app y).len=x.len+y.len
 | ⟨G0⟩,y=>by simp[Fs.app,Fs.len]
 | ⟨G1 ⟨k,n,nm,a,ks,r⟩⟩,y=>by simp only[Fs.app,Fs.len];rw[Fs.len_app r y];omega
theorem Fs.len_snoc (x:Fs)(e:Ex):(x.snoc e).len=x.len+1:=by unfold Fs.snoc;rw[Fs.len_app];rfl
def f6:Ex:=⟨0,0,[],0,.nil⟩
def Fs.head:Fs->Ex
 | ⟨G0⟩=>f6
 | ⟨G1 ⟨k,n,nm,a,ks,_⟩⟩=>⟨k,n,nm,a,ks⟩
structure Rs (α:Type) where
 v:Option (Sum (Nat × Nat) (α × List Tk))
abbrev Rs.out {α:Type}:Rs α:=⟨G0⟩
abbrev Rs.bad {α:Type}(e a:Nat):Rs α:=⟨G1 (.inl (e,a))⟩
abbrev Rs.ok {α:Type}(x:α)(t:List Tk):Rs α:=⟨G1 (.inr (x,t))⟩
theorem Rs.on {α:Type}{P:Rs α->Prop}(R:Rs α)(out:P .out)(bad:∀ e a,P (.bad e a))(ok:∀ x t,P (.ok x t)):P R:=by
 obtain⟨v⟩:=R
 match v with
 | none=>exact out
 | some (.inl (e,a))=>exact bad e a
 | some (.inr (x,t))=>exact ok x t
theorem Rs.ok_inj {α:Type}{x y:α}{t u:List Tk}(h:Rs.ok x t=Rs.ok y u):x=y/\t=u:=by simpa using h
def Rs.bind {α β:Type}:Rs α->(α->List Tk->Rs β)->Rs β
 | ⟨G0⟩,_=>.out
 | ⟨G1 (.inl (e,a))⟩,_=>.bad e a
 | ⟨G1 (.inr (x,ts))⟩,f=>f x ts
abbrev Rdr:=Nat->Nat->Nat->List Tk->Rs Ex
def eI (s:List UInt8):List Tk->Rs Nat
 | []=>.out
 | x::r=>if x.t=s then .ok x.a r else .bad 120 x.a
def il (k:Nat):List Tk->Rs Tk
 | []=>.out
 | x::r=>if x.k=k then .ok x r else .bad 120 x.a
def el (s:List UInt8)(o:Nat):List Tk->Rs Nat
 | []=>.out
 | x::r=>if x.t=s then (if o=64 then .bad 121 x.a else .ok x.a r) else .bad 120 x.a
def iO:List (List UInt8 × Nat × Nat × Nat × Nat) :=
 [([111,114],18,1,1,2),([97,110,100],17,2,2,3),([61],13,4,5,5),([33,61],14,4,5,5),([60],15,4,5,5),([60,61],16,4,5,5),([43],8,5,5,6),([45],9,5,5,6),([42],10,6,6,7),([47],11,6,6,7),([37],12,6,6,7)]
def yB (t:List UInt8)(row:Nat):Option (List UInt8 × Nat × Nat × Nat × Nat):=iO.find? λx=>x.1==t&&x.2.2.1==row
def gQ:List (List UInt8 × Nat × Nat) :=
 [([99,111,110,110,101,99,116,101,100],1,2),([98,108,111,99,107],2,2),([98,111,116,116,108,101,110,101,99,107],3,2),([115,105,122,101],4,1),([116,111,116,97,108],5,1),([108,101,97,115,116],6,1),([109,111,115,116],7,1),([118,97,108,117,101],8,1),([100,101,103,114,101,101],9,1),([114,101,112],10,1)]
def oj (t:List UInt8):Option (List UInt8 × Nat × Nat):=gQ.find? λx=>x.1==t
def gO:List (List UInt8 × Nat) :=
 [([97,108,108],1),([115,111,109,101],2),([99,111,117,110,116],3),([115,117,109],4),([109,105,110],5),([109,97,120],6)]
def ma (t:List UInt8):Option (List UInt8 × Nat):=gO.find? λx=>x.1==t
def fW (rec:Rdr):Nat->Nat->Nat->Nat->Ex->List Tk->Rs Ex
 | 0,_,_,_,_,_=>.out
 | m+1,row,o,q,left,ts =>
  match ts with
  | []=>.out
  | x::r =>
   match yB x.t row with
   | none=>.ok left ts
   | some (_,k,_,l,rt)=>(rec rt o q r).bind λright t2=>if row<l then .ok ⟨(k:Nat),0,[],x.a,(one left).snoc right⟩ t2 else fW rec m row o q ⟨(k:Nat),0,[],x.a,(one left).snoc right⟩ t2
def f9 (rec:Rdr)(s:List UInt8)(k:Int)(row o q:Nat)(ts:List Tk):Rs Ex :=
 match ts with
 | []=>.out
 | x::r=>if x.t=s then (if o=64 then .bad 121 x.a else (rec row (o+1) q r).bind λkid t2=>.ok ⟨k,0,[],x.a,one kid⟩ t2) else rec (row+1) o q ts
def jB (rec:Rdr):Nat->Nat->Nat->Fs->List Tk->Rs Fs
 | 0,_,_,acc,ts=>.ok acc ts
 | j+1,o,q,acc,ts=>(eI [44] ts).bind λ_ t1=>(rec 1 o q t1).bind λe t2=>jB rec j o q (acc.snoc e) t2
def iP (rec:Rdr)(many o q:Nat)(ts:List Tk):Rs Fs :=
 (el [40] o ts).bind λ_ t1=>(rec 1 (o+1) q t1).bind λe t2=>(jB rec (many-1) (o+1) q (one e) t2).bind λks t3=>(eI [41] t3).bind λ_ t4=>.ok ks t4
def gP (rec:Rdr)(o q:Nat)(ts:List Tk):Rs Ex :=
 (el [105,102] o ts).bind λa t1=>(rec 1 (o+1) q t1).bind λx t2=>(eI [116,104,101,110] t2).bind λ_ t3=>(rec 1 (o+1) q t3).bind λy t4=>(eI [101,108,115,101] t4).bind λ_ t5=>(rec 1 (o+1) q t5).bind λz t6=>.ok ⟨19,0,[],a,((one x).snoc y).snoc z⟩ t6
def jW (rec:Rdr):Nat->Nat->Nat->Fs->List Tk->Rs Fs
 | 0,_,_,_,_=>.out
 | m+1,o,q,acc,ts =>
  match ts with
  | []=>.out
  | x::r=>if x.t=[44] then (rec 1 o q r).bind λe t2=>jW rec m o q (acc.snoc e) t2 else .ok acc ts
def mQ (rec:Rdr)(m o q:Nat)(ts:List Tk):Rs Fs :=
 match ts with
 | []=>.out
 | x::r=>if x.t=[125] then .ok .nil ts else (rec 1 o q ts).bind λe t1=>jW rec m o q (one e) t1
def iZ (rec:Rdr)(m o q:Nat)(ts:List Tk):Rs Ex :=
 match ts with
 | []=>.out
 | x::r =>
  if x.k=2 then .ok ⟨23,0,x.t,x.a,.nil⟩ r
  else if x.t=[118,101,114,116,105,99,101,115] then .ok ⟨22,0,[],x.a,.nil⟩ r
  else if x.t=[97,114,111,117,110,100] then (iP rec 1 o q r).bind λks t=>.ok ⟨24,0,[],x.a,ks⟩ t
  else (el [123] o ts).bind λa t1=>(mQ rec m (o+1) q t1).bind λks t2=>(eI [125] t2).bind λ_ t3=>.ok ⟨25,0,[],a,ks⟩ t3
def gz (rec:Rdr)(m:Nat)(s:List UInt8)(n o q:Nat)(ts:List Tk):Rs Ex :=
 match ts with
 | []=>.out
 | x::r =>
  if q=4 then .bad 121 x.a
  else (el s o ts).bind λa t1=>(il 2 t1).bind λy t2=>(eI [105,110] t2).bind λ_ t3=>(iZ rec m (o+1) (q+1) t3).bind λe t4=>(eI [58] t4).bind λ_ t5=>(rec 1 (o+1) (q+1) t5).bind λb t6=>.ok ⟨21,(n:Nat),y.t,a,(one e).snoc b⟩ t6
def fB (rec:Rdr)(m o q:Nat)(ts:List Tk):Rs Ex :=
 match ts with
 | []=>.out
 | x::r =>
  if x.k=1 then .ok ⟨1,x.n,[],x.a,.nil⟩ r
  else if x.k=2 then .ok ⟨4,0,x.t,x.a,.nil⟩ r
  else if x.t=[102,97,108,115,101] then .ok ⟨2,0,[],x.a,.nil⟩ r
  else if x.t=[116,114,117,101] then .ok ⟨2,1,[],x.a,.nil⟩ r
  else if x.t=[64] then (il 1 r).bind λy t1=>.ok ⟨3,y.n,[],x.a,.nil⟩ t1
  else if x.t=[40] then (iP rec 1 o q ts).bind λks t1=>.ok ks.head t1
  else if x.t=[105,102] then gP rec o q ts
  else match oj x.t with
   | some (_,n,many)=>(iP rec many o q r).bind λks t1=>.ok ⟨20,(n:Nat),[],x.a,ks⟩ t1
   | none =>
    match ma x.t with
    | some (_,n)=>gz rec m x.t n o q ts
    | none=>.bad 120 x.a
def fN:Nat->Rdr
 | 0,_,_,_,_=>.out
 | n+1,row,o,q,ts =>
  if row=3 then f9 (fN n) [110,111,116] 7 3 o q ts
  else if row=7 then f9 (fN n) [45] 6 7 o q ts
  else if row=8 then fB (fN n) n o q ts
  else (fN n (row+1) o q ts).bind λl t=>fW (fN n) n row o q l t
def jh (n:Nat)(ts:List Tk):Rs Ex :=
 (fN n 1 0 0 ts).bind λe t =>
  match t with
  | []=>.out
  | x::_=>if x.k=0 then .ok e t else .bad 120 x.a
open Option renaming none->G0,some->G1
open Nat renaming le_refl->G4,lt_of_lt_of_le->Hh,le_trans->In,not_lt_zero->Ir,add_zero->Is,le_succ->Iv,zero_add->Ix,zero_le->JI,add_sub_cancel_left->JR,eq_zero_or_pos->JY,lt_or_ge->Kc,sub_self->Kk
open Go.Proofs.Tryz renaming prog->G5,underlying9->Je,underlying147->JV,underlying5->KL
open Go renaming World->G9,lt_of_block->Ha,bodyPost_ret->Hb,heap_alloc_new->Hc,Value->He,results->Hk,heap_setCell_other->Hl,Calls->Hn,maxLen->Hu,Addr->Hw,cell_of_row->If,TypeId->Il,heap_setCell_same->IJ,frozen_of_row->IK,Ending->Ja,Program->JT
open List renaming getElem?_eq_getElem->Hd,getElem_cons_zero->Hr,getElem_cons_succ->Hs,length_cons->Hy,getElem?_eq_none->Ie,mem_of_find?_eq_some->Ii,suffix_cons->Iz,getElem?_map->ID,getElem?_append_right->IF,not_mem_nil->IP,mem_cons->IR,getElem_mem->IU,getElem?_append_left->IV,nil_append->I1,length_nil->I8,drop_eq_getElem_cons->Jd,cons_append->Jh,find?_some->Jm,eq_nil_of_length_eq_zero->Jt,append_assoc->JL,append_nil->J1,map_toArray->KM
open Go.RowKit renaming Below->Hf,intOf->Ih
open Go.Lib renaming hid->Hg,itoa->I6,atoiAll->J9,strCells->Kq,formatBool->KB
open Go.RowKit.Below renaming refl->Hi,heap_alloc->Hj
open Bool renaming and_eq_true->Ia,not_eq_true->Jc,or_eq_true->Jn,true_and->JM
open Go.World renaming cell?_of_block->Ho
open Go.Value renaming int->Hp,ownBlock->JQ
open Exists renaming intro->Hv
open Go.Instr renaming index->Iq
open Go.Act renaming put->IQ,eval->Ks
open Go.Value.slice renaming injEq->IS
open Prod.mk renaming injEq->Jf
open Option.some renaming injEq->Ji
open Go.ByteArray renaming toList_eq->Jl
open Go.AllReadyH renaming cons->Js
open Go.Ending renaming returned->Jx
open Go.Addr renaming add->JA
open Go.Maps renaming size->Kb
open Go.Result renaming andThen_ok->Kx
open Go.ChangeShapes Go.WideShapes Go.ChangeAt Go.RowKit
structure as (I:Nat->Prop)(w:G9)(o:Nat->Nat)(w':G9)(o':Nat->Nat):Prop where
 os:w'.os=w.os
 tape:w'.tape=w.tape
 output:w'.output=w.output
 Kb:w.heap.size<=w'.heap.size
 lab:∀ k,k<w.heap.size->o' k=o k
 block:∀ k,k<w.heap.size->¬I (o k)->w'.heap[k]?=w.heap[k]?
theorem as.refl (I:Nat->Prop)(w:G9)(o:Nat->Nat):as I w o w o:=⟨rfl,rfl,rfl,G4 _,λ_ _=>rfl,λ_ _ _=>rfl⟩
theorem as.trans {I:Nat->Prop}{a b c:G9}{o o' o'':Nat->Nat}(h:as I a o b o')(k:as I b o' c o''):as I a o c o'' :=
 ⟨k.os.trans h.os,k.tape.trans h.tape,k.output.trans h.output,In h.size k.size,λi hi=>(k.lab i (Hh hi h.size)).trans (h.lab i hi),
  λi hi hn=>(k.block i (Hh hi h.size) (by rw[h.lab i hi];exact hn)).trans (h.block i hi hn)⟩
theorem as.mono {I J:Nat->Prop}{a b:G9}{o o':Nat->Nat}(h:as I a o b o')(hij:∀ i,I i->J i):as J a o b o' :=
 ⟨h.os,h.tape,h.output,h.size,h.lab,λk hk hn=>h.block k hk (λx=>hn (hij _ x))⟩
theorem as.alloc {I:Nat->Prop}{a w:G9}{o o':Nat->Nat}(h:as I a o w o')(ob:Obj):as I a o (w.alloc ob) o' :=
 h.trans ⟨rfl,rfl,rfl,by simp,λ_ _=>rfl,λk hk _=>Hj w ob k hk⟩
theorem as.drewN {I:Nat->Prop}{a w:G9}{o o':Nat->Nat}(h:as I a o w o')(n:Nat):as I a o (w.drewN n) o' :=
 ⟨h.os,h.tape,h.output,h.size,h.lab,h.block⟩
theorem as.drew {I:Nat->Prop}{a w:G9}{o o':Nat->Nat}(h:as I a o w o'):as I a o w.drew o' :=
 ⟨h.os,h.tape,h.output,h.size,h.lab,h.block⟩
theorem as.setCell {I:Nat->Prop}{a w:G9}{o o':Nat->Nat}(h:as I a o w o')(p:Hw)(u:He)(hp:I (o' p.block)):as I a o (w.setCell p u) o' :=
 h.trans ⟨rfl,rfl,rfl,by simp,λ_ _=>rfl,λk hk hn=>Hl w p k u (λe=>hn (by rw[e];exact hp))⟩
def dQ (w:G9)(o:Nat->Nat)(i:Nat):Nat->Nat:=λk=>if k<w.heap.size then o k else i
theorem ed {w:G9}{o:Nat->Nat}{i k:Nat}(h:k<w.heap.size):dQ w o i k=o k:=by simp[dQ,h]
theorem dY {w:G9}{o:Nat->Nat}{i k:Nat}(h:w.heap.size<=k):dQ w o i k=i:=by simp[dQ,Nat.not_lt.2 h]
theorem as.labelled {I:Nat->Prop}{a w:G9}{o o':Nat->Nat}(h:as I a o w o')(i:Nat):as I a o w (dQ w o' i) :=
 h.trans ⟨rfl,rfl,rfl,G4 _,λk hk=>ed hk,λ_ _ _=>rfl⟩
def Row (w:G9)(o:Nat->Nat)(i:Nat)(e:Il)(Kb:Nat)(v:He)(n:Nat)(xs:List He):Prop :=
 w.ownsRow 0 e Kb v n xs/\∀ k,v.ownBlock=G1 k->o k=i
def Blk (w:G9)(o:Nat->Nat)(i:Nat)(b:Nat)(ob:Obj):Prop:=w.heap[b]?=G1 ob/\o b=i
theorem Blk.lt {w:G9}{o:Nat->Nat}{i b:Nat}{ob:Obj}(h:Blk w o i b ob):b<w.heap.size:=Ha h.1
theorem Blk.step {I:Nat->Prop}{w w':G9}{o o':Nat->Nat}{i b:Nat}{ob:Obj}(h:Blk w o i b ob)(s:as I w o w' o')(hi:¬I i):Blk w' o' i b ob :=
 ⟨(s.block b h.lt (by rw[h.2];exact hi)).trans h.1,(s.lab b h.lt).trans h.2⟩
theorem Row.lt {w:G9}{o:Nat->Nat}{i:Nat}{e:Il}{Kb:Nat}{v:He}{n:Nat}{xs:List He}(h:Row w o i e Kb v n xs){k:Nat}(hk:v.ownBlock=G1 k):k<w.heap.size:=(h.1.lt k hk).2
theorem Row.step {I:Nat->Prop}{w w':G9}{o o':Nat->Nat}{i:Nat}{e:Il}{Kb:Nat}{v:He}{n:Nat}{xs:List He}(h:Row w o i e Kb v n xs)(s:as I w o w' o')(hi:¬I i):Row w' o' i e Kb v n xs:=by
 refine⟨⟨h.1.1,?_⟩,λk hk=>(s.lab k (h.lt hk)).trans (h.2 k hk)⟩;rcases h.1.2 with hn|⟨g,cap,cur,rfl,hb,hgg,rest⟩
 ·exact .inl hn
 ·refine .inr ⟨g,cap,cur,rfl,hb,?_,rest⟩;rw[s.block g (Ha hgg) (by rw[h.2 g rfl];exact hi)];exact hgg
theorem Row.nil (w:G9)(o:Nat->Nat)(i:Nat)(e:Il)(Kb:Nat):Row w o i e Kb (.slice G0 0 0) 0 []:=⟨World.ownsRow_nil _ _ _ _,λk hk=>by simp[JQ] at hk⟩
theorem Row.len {w:G9}{o:Nat->Nat}{i:Nat}{e:Il}{Kb:Nat}{v:He}{n:Nat}{xs:List He}(h:Row w o i e Kb v n xs):xs.length=n*Kb:=h.1.1
theorem Row.form {w:G9}{o:Nat->Nat}{i:Nat}{e:Il}{Kb:Nat}{v:He}{n:Nat}{xs:List He}(h:Row w o i e Kb v n xs):∃ao cap,v=.slice ao n cap:=by
 rcases h.1.2 with ⟨rfl,rfl⟩|⟨g,cap,cur,rfl,_⟩
 ·exact⟨_,_,rfl⟩
 ·exact⟨_,_,rfl⟩
theorem Row.pos {w:G9}{o:Nat->Nat}{i:Nat}{e:Il}{Kb:Nat}{v:He}{n:Nat}{xs:List He}(h:Row w o i e Kb v n xs)(hn:0<n) :
  ∃g cap,v=.slice (G1 ⟨g,0,G0⟩) n cap/\o g=i/\n<=cap/\cap<=Hu/\g<w.heap.size/\(∀ j,j<n*Kb->w.cell? ⟨g,j,G0⟩=xs[j]?)/\(∀ j,w.frozen? ⟨g,j,G0⟩=false):=by
 rcases h.1.2 with ⟨rfl,rfl⟩|⟨g,cap,cur,rfl,_,hg,hc,hm,_⟩
 ·omega
 ·exact⟨g,cap,rfl,h.2 g rfl,hc,hm,Ha hg,λj hj=>h.1.cellAt j hj,λj=>h.1.frozenAt j⟩
theorem Row.store {w:G9}{o:Nat->Nat}{i:Nat}{e:Il}{Kb:Nat}{g n cap:Nat}{xs:List He}(h:Row w o i e Kb (.slice (G1 ⟨g,0,G0⟩) n cap) n xs)(j:Nat)(u:He) :
  Row (w.setCell ⟨g,j,G0⟩ u) o i e Kb (.slice (G1 ⟨g,0,G0⟩) n cap) n (xs.set j u):=⟨(h.1.stored j u).1,h.2⟩
theorem jy {P:JT}(w:G9)(t ty e:Il)(i:TypeInfo)(z:He)(Kb bytes:Nat)(ht:P.underlying t=G1 (.slice e))(hi:P.info? e=G1 i)(hz:i.zero=G1 z)
  (hsize:i.size=Kb) (hby:i.bytes=bytes) (hzs:z.cells.size=Kb) (hsz:0<Kb)
  (v:He) (n:Nat) (xs:List He) (hown:w.ownsRow 0 e Kb v n xs)
  (a:Hw) (m c:Nat) (news:List He) (hl:news.length=m*Kb) (hnews:∀ j u,news[j]?=G1 u->w.cell? (a.add j)=G1 u) (h1:∀ u ∈ news,u.oneCell'=true)
  (h63:n+m<=Hu) (hbytes:(n+m)*bytes<=140737488355328) (hm:0<m) :
  ∃v' w',(Builtin.append_ #[t,t] ty #[v,.slice (G1 a) m c]).run P w=.ok v' w'/\w'.ownsRow 0 e Kb v' (n+m) (xs++news)/\w.grownBy w' v.ownBlock /\
   (v'.ownBlock=v.ownBlock\/∃k,v'.ownBlock=G1 k/\w.heap.size<=k):=by
 obtain⟨v',w',hr,ho,hg,_⟩:=run_append_own (P:=P) w 0 t ty e i z Kb bytes ht hi hz hsize hby hzs hsz v n xs hown a m c news hl hnews h1 h63 hbytes (JI _);refine⟨v',w',hr,ho,hg,?_⟩;subst hsize;subst hby;have h63':n+m<=9223372036854775807:=by simp only[Hu] at h63;omega
 rcases hown.2 with ⟨rfl,rfl⟩|⟨g,cap,cur,rfl,hbg,hgb,hnc,hcm,hcs,htake⟩
 ·have hr':=run_append_nil (P:=P) w t ty e i z ht hi hz a m c news hl hnews hm (by omega) (by have hb:=hbytes;simp only[Ix] at hb;omega);rw[hr'] at hr;injection hr with e1 e2
  subst e1;exact .inr ⟨_,rfl,G4 _⟩
 ·by_cases hroom:n+m<=cap
  ·have hfit:n*i.size+news.length<=cur.size:=by rw[hl,hcs,<-Nat.add_mul];exact Nat.mul_le_mul_right _ hroom
   have hr':=run_append_room (P:=P) w t ty e i ht hi g n cap cur hgb a m c news hl hnews h1 hroom hfit;rw[hr'] at hr;injection hr with e1 e2
   subst e1;exact .inl rfl
  ·have holds:∀ j u,xs[j]?=G1 u->w.cell? ((⟨g,0,G0⟩:Hw).add j)=G1 u:=hown.cells (g:=g) rfl;have hr':=run_append_grow (P:=P) w t ty e i z ht hi hz ⟨g,0,G0⟩ n cap xs hown.1 holds a m c news hl hnews (by omega) (by omega) (growslice_fits (by omega) hbytes);rw[hr'] at hr;injection hr with e1 e2
   subst e1;exact .inr ⟨_,rfl,G4 _⟩
theorem as.appended {I:Nat->Prop}{w w':G9}{o:Nat->Nat}{i:Nat}{row:Option Nat}(hg:w.grownBy w' row)(hi:I i)(hr:∀ k,row=G1 k->o k=i):as I w o w' (dQ w o i) :=
 ⟨hg.os,hg.tape,hg.output,hg.size,λk hk=>ed hk,λk hk hn=>hg.block k hk (λe=>hn (by rw[hr k e.symm];exact hi))⟩
theorem eb {P:JT}{w:G9}{ops:Array Oper}{rest:List Oper}{op:Oper}{a:Act}{Q:Exit->Act->G9->Prop}(hgd:op.guard=G0)(s x:Operand)(t:Il)
  (ho:op.op=.call { callee:=.builtin .append,args:=#[s,x],argTypes:=#[t,t] })
  (e:Il) (i:TypeInfo) (z:He) (Kb bytes:Nat) (ht:P.underlying t=G1 (.slice e)) (hi:P.info? e=G1 i) (hz:i.zero=G1 z)
  (hsize:i.size=Kb) (hby:i.bytes=bytes) (hzs:z.cells.size=Kb) (hsz:0<Kb)
  (o:Nat->Nat) (lb:Nat) (v:He) (n:Nat) (xs:List He) (hs:a.eval s=v) (hrow:Row w o lb e Kb v n xs)
  (ad:Hw) (m c:Nat) (news:List He) (hx:a.eval x=.slice (G1 ad) m c) (hl:news.length=m*Kb) (hnews:∀ j u,news[j]?=G1 u->w.cell? (ad.add j)=G1 u) (h1:∀ u ∈ news,u.oneCell'=true)
  (hm:0<m) (h63:n+m<=Hu) (hbytes:(n+m)*bytes<=140737488355328)
  (h:∀ g cap w' o',Row w' o' lb e Kb (.slice (G1 ⟨g,0,G0⟩) (n+m) cap) (n+m) (xs++news)->as (λk=>k=lb) w o w' o'->wpList P ops Q rest (a.put op.dst (.slice (G1 ⟨g,0,G0⟩) (n+m) cap)) w'):wpList P ops Q (op::rest) a w:=by
 refine wpList_plain hgd λ_ hK=>?_;obtain⟨v',w',hr,h2,h3,h4⟩:=jy (P:=P) w t op.type e i z Kb bytes ht hi hz hsize hby hzs hsz v n xs hrow.1 ad m c news hl hnews h1 h63 hbytes hm;unfold Oper.wp execOp;simp only[ho,resolve,invoke,builtin,Sem.run_bind,Sem.run_pure,Kx,KM,List.map_cons,List.map_nil,hs,hx,hr];have hst:as (λk=>k=lb) w o w' (dQ w o lb):=as.appended h3 rfl hrow.2;have hrow':Row w' (dQ w o lb) lb e Kb v' (n+m) (xs++news):=by
  refine⟨h2,λk hk=>?_⟩;rcases h4 with h4|⟨k',h4,hk'⟩
  ·rw[h4] at hk;rw[ed (hrow.lt hk)];exact hrow.2 k hk
  ·rw[h4] at hk;injection hk with hk
   subst hk;exact dY hk'
 obtain⟨g,cap,rfl,_⟩:=hrow'.pos (by omega);exact hK _ _ (h g cap w' _ hrow' hst)
theorem as.below {I:Nat->Prop}{w w':G9}{o o':Nat->Nat}(s:as I w o w' o')(h0:∀ k,k<w.heap.size->¬I (o k)):Hf w.heap.size w w' :=
 ⟨s.os,s.tape,s.output,s.size,λk hk=>s.block k hk (h0 k hk)⟩
theorem fZ {P:JT}{w:G9}{ops:Array Oper}{op:Oper}{a:Act}{K:Act->G9->Prop}{Q:Exit->Act->G9->Prop}{E:Prop}(hgd:op.guard=G0)(s x:Operand)(t:Il)
  (ho:op.op=.call { callee:=.builtin .append,args:=#[s,x],argTypes:=#[t,t] })
  (e:Il) (i:TypeInfo) (z:He) (Kb bytes:Nat) (ht:P.underlying t=G1 (.slice e)) (hi:P.info? e=G1 i) (hz:i.zero=G1 z)
  (hsize:i.size=Kb) (hby:i.bytes=bytes) (hzs:z.cells.size=Kb) (hsz:0<Kb)
  (o:Nat->Nat) (lb:Nat) (v:He) (n:Nat) (xs:List He) (hs:a.eval s=v) (hrow:Row w o lb e Kb v n xs)
  (ad:Hw) (m c:Nat) (news:List He) (hx:a.eval x=.slice (G1 ad) m c) (hl:news.length=m*Kb) (hnews:∀ j u,news[j]?=G1 u->w.cell? (ad.add j)=G1 u) (h1:∀ u ∈ news,u.oneCell'=true)
  (hm:0<m) (h63:n+m<=Hu) (hbytes:(n+m)*bytes<=140737488355328)
  (h:∀ g cap w' o',Row w' o' lb e Kb (.slice (G1 ⟨g,0,G0⟩) (n+m) cap) (n+m) (xs++news)->as (λk=>k=lb) w o w' o'->K (a.put op.dst (.slice (G1 ⟨g,0,G0⟩) (n+m) cap)) w') :
  if Region.wanted op (yielded ops a.tmps)=true then Oper.wp P op a w K Q else E:=by
 have hw:Region.wanted op (yielded ops a.tmps)=true:=by simp[Region.wanted,hgd]
 rw[if_pos hw];obtain⟨v',w',hr,h2,h3,h4⟩:=jy (P:=P) w t op.type e i z Kb bytes ht hi hz hsize hby hzs hsz v n xs hrow.1 ad m c news hl hnews h1 h63 hbytes hm;unfold Oper.wp execOp;simp only[ho,resolve,invoke,builtin,Sem.run_bind,Sem.run_pure,Kx,KM,List.map_cons,List.map_nil,hs,hx,hr];have hst:as (λk=>k=lb) w o w' (dQ w o lb):=as.appended h3 rfl hrow.2;have hrow':Row w' (dQ w o lb) lb e Kb v' (n+m) (xs++news):=by
  refine⟨h2,λk hk=>?_⟩;rcases h4 with h4|⟨k',h4,hk'⟩
  ·rw[h4] at hk;rw[ed (hrow.lt hk)];exact hrow.2 k hk
  ·rw[h4] at hk;injection hk with hk
   subst hk;exact dY hk'
 obtain⟨g,cap,rfl,_⟩:=hrow'.pos (by omega);exact h g cap w' _ hrow' hst
theorem fM (w:G9)(x:He)(t:Il):∀ j u,[x][j]?=G1 u->(w.alloc (.cells #[x] t)).cell? ((⟨w.heap.size,0,G0⟩:Hw).add j)=G1 u:=by
 intro j u hj
 match j,hj with
 | 0,hj=>simp at hj;subst hj;simp[JA]
theorem uP {w:G9}{s:Nat}(hs:w.heap.size=s)(x:He)(t:Il):∀ j u,[x][j]?=G1 u->(w.alloc (.cells #[x] t)).cell? ((⟨s,0,G0⟩:Hw).add j)=G1 u:=by
 subst hs;exact fM w x t
theorem pM {w:G9}{base:Nat}{e:Il}{Kb:Nat}{v:He}{n:Nat}{xs:List He}(h:w.ownsRow base e Kb v n xs):w.ownsRow 0 e Kb v n xs:=by
 refine⟨h.1,?_⟩;rcases h.2 with hn|⟨g,cap,cur,h1,h2,rest⟩
 ·exact .inl hn
 ·exact .inr ⟨g,cap,cur,h1,JI _,rest⟩
theorem nY {k:IntKind}{a b:Int}(h:a=b):Jx (.int k a)=.returned (.int k b):=by rw[h]
theorem eS {a b:Bool}(h:a=b):Jx (.bool a)=.returned (.bool b):=by rw[h]
theorem pC (r:Nat)(w:G9)(hr:r<=2147483647) :
  Hn G5 142 #[.int .i32 (r:Nat)] w λe w'=>e=.returned (.bool (sml r))/\w'=w:=by
 by_cases h1:97<=r
 ·have g1:(97:Int)<=(r:Int):=by omega
  by_cases h2:r<=122
  ·have g2:(r:Int)<=122:=by omega
   have e0:sml r=true:=by simp[sml,h1,h2]
   rw[e0];clear e0;go_enter Tryz.func142,Tryz.ntmps142;go_wp2;go_ret;exact⟨rfl,rfl⟩
  ·have g2:¬(r:Int)<=122:=by omega
   have g3:decide ((r:Int)<=122)=false:=decide_eq_false g2;have e0:sml r=false:=by simp[sml];omega
   rw[e0];clear e0;go_enter Tryz.func142,Tryz.ntmps142;go_wp2;go_ret;exact⟨rfl,rfl⟩
 ·have g1:¬(97:Int)<=(r:Int):=by omega
  have e0:sml r=false:=by simp[sml];omega
  rw[e0];clear e0;go_enter Tryz.func142,Tryz.ntmps142;go_wp2;go_ret;exact⟨rfl,rfl⟩
theorem xd (r:Nat)(w:G9)(hr:r<=2147483647) :
  Hn G5 143 #[.int .i32 (r:Nat)] w λe w'=>e=.returned (.bool (dig r))/\w'=w:=by
 by_cases h1:48<=r
 ·have g1:(48:Int)<=(r:Int):=by omega
  by_cases h2:r<=57
  ·have g2:(r:Int)<=57:=by omega
   have e0:dig r=true:=by simp[dig,h1,h2]
   rw[e0];clear e0;go_enter Tryz.func143,Tryz.ntmps143;go_wp2;go_ret;exact⟨rfl,rfl⟩
  ·have g2:¬(r:Int)<=57:=by omega
   have g3:decide ((r:Int)<=57)=false:=decide_eq_false g2;have e0:dig r=false:=by simp[dig];omega
   rw[e0];clear e0;go_enter Tryz.func143,Tryz.ntmps143;go_wp2;go_ret;exact⟨rfl,rfl⟩
 ·have g1:¬(48:Int)<=(r:Int):=by omega
  have e0:dig r=false:=by simp[dig];omega
  rw[e0];clear e0;go_enter Tryz.func143,Tryz.ntmps143;go_wp2;go_ret;exact⟨rfl,rfl⟩
theorem AL {s t:ByteArray}(h:s≠t):(s.toList==t.toList)=false:=by
 rw[beq_eq_false_iff_ne,Jl,Jl];exact λe=>h (ByteArray.ext (Array.toList_inj.1 e))
theorem oJ {s:ByteArray}(h:¬s.size=0):s.toList.isEmpty=false:=by
 rw[Jl,List.isEmpty_eq_false_iff];intro e;have h2:s.data.size=0:=by rw[<-Array.length_toList,e];rfl
 exact h h2
theorem oF {s t:ByteArray}:s.data.toList=t.data.toList ↔ s=t :=
 ⟨λe=>ByteArray.ext (Array.toList_inj.1 e),λe=>by rw[e]⟩
theorem b0 (w:G9):Hf w.heap.size w w:=Hi _ _
theorem b1 (w:G9)(o:Obj):Hf w.heap.size w (w.alloc o):=(Hi _ w).alloc (G4 _) _
def wd (k:Nat):ByteArray:=⟨(lR.getD k []).toArray⟩
def eL:Array He:=#[.string (wd 0),.string (wd 1),.string (wd 2),.string (wd 3),.string (wd 4),.string (wd 5),.string (wd 6),.string (wd 7),.string (wd 8),.string (wd 9),.string (wd 10),.string (wd 11),.string (wd 12),.string (wd 13),.string (wd 14),.string (wd 15),.string (wd 16),.string (wd 17),.string (wd 18),.string (wd 19),.string (wd 20),.string (wd 21),.string (wd 22),.string (wd 23),.string (wd 24),.string (wd 25),.string (wd 26)]
theorem wix0 (w:G9):(Iq 229 (.agg eL) (.int .i64 0)).run G5 w=.ok (.string (wd 0)) w:=by kernel_rfl
theorem wix1 (w:G9):(Iq 229 (.agg eL) (.int .i64 1)).run G5 w=.ok (.string (wd 1)) w:=by kernel_rfl
theorem wix2 (w:G9):(Iq 229 (.agg eL) (.int .i64 2)).run G5 w=.ok (.string (wd 2)) w:=by kernel_rfl
theorem wix3 (w:G9):(Iq 229 (.agg eL) (.int .i64 3)).run G5 w=.ok (.string (wd 3)) w:=by kernel_rfl
theorem wix4 (w:G9):(Iq 229 (.agg eL) (.int .i64 4)).run G5 w=.ok (.string (wd 4)) w:=by kernel_rfl
theorem wix5 (w:G9):(Iq 229 (.agg eL) (.int .i64 5)).run G5 w=.ok (.string (wd 5)) w:=by kernel_rfl
theorem wix6 (w:G9):(Iq 229 (.agg eL) (.int .i64 6)).run G5 w=.ok (.string (wd 6)) w:=by kernel_rfl
theorem wix7 (w:G9):(Iq 229 (.agg eL) (.int .i64 7)).run G5 w=.ok (.string (wd 7)) w:=by kernel_rfl
theorem wix8 (w:G9):(Iq 229 (.agg eL) (.int .i64 8)).run G5 w=.ok (.string (wd 8)) w:=by kernel_rfl
theorem wix9 (w:G9):(Iq 229 (.agg eL) (.int .i64 9)).run G5 w=.ok (.string (wd 9)) w:=by kernel_rfl
theorem Gn (w:G9):(Iq 229 (.agg eL) (.int .i64 10)).run G5 w=.ok (.string (wd 10)) w:=by kernel_rfl
theorem GL (w:G9):(Iq 229 (.agg eL) (.int .i64 11)).run G5 w=.ok (.string (wd 11)) w:=by kernel_rfl
theorem Gs (w:G9):(Iq 229 (.agg eL) (.int .i64 12)).run G5 w=.ok (.string (wd 12)) w:=by kernel_rfl
theorem GX (w:G9):(Iq 229 (.agg eL) (.int .i64 13)).run G5 w=.ok (.string (wd 13)) w:=by kernel_rfl
theorem GS (w:G9):(Iq 229 (.agg eL) (.int .i64 14)).run G5 w=.ok (.string (wd 14)) w:=by kernel_rfl
theorem Gz (w:G9):(Iq 229 (.agg eL) (.int .i64 15)).run G5 w=.ok (.string (wd 15)) w:=by kernel_rfl
theorem Gx (w:G9):(Iq 229 (.agg eL) (.int .i64 16)).run G5 w=.ok (.string (wd 16)) w:=by kernel_rfl
theorem Gg (w:G9):(Iq 229 (.agg eL) (.int .i64 17)).run G5 w=.ok (.string (wd 17)) w:=by kernel_rfl
theorem Gv (w:G9):(Iq 229 (.agg eL) (.int .i64 18)).run G5 w=.ok (.string (wd 18)) w:=by kernel_rfl
theorem Gc (w:G9):(Iq 229 (.agg eL) (.int .i64 19)).run G5 w=.ok (.string (wd 19)) w:=by kernel_rfl
theorem GG (w:G9):(Iq 229 (.agg eL) (.int .i64 20)).run G5 w=.ok (.string (wd 20)) w:=by kernel_rfl
theorem Gk (w:G9):(Iq 229 (.agg eL) (.int .i64 21)).run G5 w=.ok (.string (wd 21)) w:=by kernel_rfl
theorem F7 (w:G9):(Iq 229 (.agg eL) (.int .i64 22)).run G5 w=.ok (.string (wd 22)) w:=by kernel_rfl
theorem F4 (w:G9):(Iq 229 (.agg eL) (.int .i64 23)).run G5 w=.ok (.string (wd 23)) w:=by kernel_rfl
theorem Gp (w:G9):(Iq 229 (.agg eL) (.int .i64 24)).run G5 w=.ok (.string (wd 24)) w:=by kernel_rfl
theorem FV (w:G9):(Iq 229 (.agg eL) (.int .i64 25)).run G5 w=.ok (.string (wd 25)) w:=by kernel_rfl
theorem GI (w:G9):(Iq 229 (.agg eL) (.int .i64 26)).run G5 w=.ok (.string (wd 26)) w:=by kernel_rfl
theorem ym (k:Nat)(hk:k<27)(w:G9):(Iq 229 (.agg eL) (.int .i64 (k:Nat))).run G5 w=.ok (.string (wd k)) w:=by
 match k,hk with
 | 0,_=>exact wix0 w
 | 1,_=>exact wix1 w
 | 2,_=>exact wix2 w
 | 3,_=>exact wix3 w
 | 4,_=>exact wix4 w
 | 5,_=>exact wix5 w
 | 6,_=>exact wix6 w
 | 7,_=>exact wix7 w
 | 8,_=>exact wix8 w
 | 9,_=>exact wix9 w
 | 10,_=>exact Gn w
 | 11,_=>exact GL w
 | 12,_=>exact Gs w
 | 13,_=>exact GX w
 | 14,_=>exact GS w
 | 15,_=>exact Gz w
 | 16,_=>exact Gx w
 | 17,_=>exact Gg w
 | 18,_=>exact Gv w
 | 19,_=>exact Gc w
 | 20,_=>exact GG w
 | 21,_=>exact Gk w
 | 22,_=>exact F7 w
 | 23,_=>exact F4 w
 | 24,_=>exact Gp w
 | 25,_=>exact FV w
 | 26,_=>exact GI w
 | n+27,h=>omega
def Wd (w:G9):Prop:=∃t fr,w.heap[3]?=G1 (.cells eL t fr)
theorem Wd.lt {w:G9}(h:Wd w):3<w.heap.size:=by
 obtain⟨t,fr,h⟩:=h;exact Ha h
theorem Wd.below {w w':G9}(h:Wd w)(b:Hf w.heap.size w w'):Wd w':=by
 have hl:=h.lt;obtain⟨t,fr,h⟩:=h;exact⟨t,fr,(b.block _ hl).trans h⟩
theorem qD {t:List UInt8}(k:Nat)(hk:k<27)(h:t=lR.getD k []):iF t=true:=by
 subst h;have hl:lR.length=27:=rfl;unfold iF;rw[List.contains_iff_mem];simp only[List.getD,Hd (by omega:k<lR.length),Option.getD_some];exact IU _
theorem sv {t:List UInt8}(h:∀ k,k<27->¬t=lR.getD k []):iF t=false:=by
 rw[<-Jc];unfold iF;rw[List.contains_iff_mem,List.mem_iff_getElem];rintro ⟨k,hk,e⟩;have hl:lR.length=27:=rfl;refine h k (by omega) ?_;simp only[List.getD,Hd hk,Option.getD_some];exact e.symm
theorem xG:(Tryz.prog.info? 229).map (·.size)=G1 eL.size:=by kernel_rfl
theorem Ff (s:ByteArray)(w:G9)(hW:Wd w)(hs:s.size<=Hu) :
  Hn G5 144 #[.string s] w λe w'=>e=.returned (.bool (iF s.data.toList))/\w'=w:=by
 obtain⟨tt,fr,hg⟩:=hW;have IX:Hid (∀ k:Nat,k<27->(Iq 229 (.agg eL) (.int .i64 (k:Nat))).run G5 w=.ok (.string (wd k)) w):=λk hk=>ym k hk w;have hsz:=xG;generalize eL=cs at *;go_enter Tryz.func144,Tryz.ntmps144;go_wp2_with (refine wpList_load_row rfl 229 _ rfl 3 rfl tt _ fr _ hg Tryz.underlying229 rfl hsz ?_);go_loopw [6] (λv wr=>∃k:Nat,k<=27/\v=.int .i64 (k:Nat)/\(∀ j,j<k->s≠wd j)/\wr=w) (λv _=>27-(Ih v).toNat)
 case atStart=>exact⟨0,by omega,by go_num,λj hj=>by omega,rfl⟩
 case round =>
  obtain⟨k,hk,rfl,hin,rfl⟩:=hrel;by_cases hlt:k<27
  ·have ix:=IX.out k hlt;have hkI:(k:Int)<27:=by omega
   by_cases he:s=wd k
   ·have fin:iF s.data.toList=true:=qD k hlt (by rw[he];rfl);rw[<-he] at ix;clear he IX;go_wp2;go_ret;exact⟨by rw[fin];rfl,rfl⟩
   ·have hin':∀ j,j<k+1->s≠wd j:=λj hj=>by
     by_cases e:j=k
     ·subst e;exact he
     ·exact hin j (by omega)
    have heb:=AL he;generalize wd k=t at ix he heb;clear IX hin;go_wp2;go_roundw
    case rel=>(try ((repeat apply Hv);refine⟨?_,rfl⟩));exact⟨k+1,by omega,by go_num,hin',by trivial⟩
    case measure=>simp[Ih];omega
  ·obtain rfl:k=27:=by omega
   clear IX;have fin:iF s.data.toList=false:=sv λj hj e=>hin j hj (oF.1 (by rw[e];rfl));go_wp2;go_ret;exact⟨by rw[fin];rfl,rfl⟩
def nmc (j:Nat)(c:UInt8):Bool:=sml c.toNat||(j != 0&&(dig c.toNat||c.toNat==95))
theorem gU (l:List UInt8):eH l=true ↔ 0<l.length/\l.length<=12/\(∀ j (h:j<l.length),nmc j l[j]=true)/\iF l=false:=by
 cases l with
 | nil=>simp[eH]
 | Js c r =>
  simp only[eH,Ia,decide_eq_true_eq,List.all_eq_true,Bool.not_eq_true',Hy];constructor
  ·rintro ⟨⟨⟨h1,h2⟩,h3⟩,h4⟩;refine⟨by omega,by omega,λj h=>?_,h4⟩;cases j with
   | zero=>simp[nmc,h2]
   | succ j =>
    have:=h3 (r[j]'(by omega)) (IU _)
    simp only[inn] at this;simp[nmc];simpa [Jn,or_assoc] using this
  ·rintro ⟨h1,h2,h3,h4⟩;refine⟨⟨⟨by omega,?_⟩,λx hx=>?_⟩,h4⟩
   ·have:=h3 0 (by omega)
    simpa [nmc] using this
   ·obtain⟨j,hj,rfl⟩:=List.mem_iff_getElem.1 hx
    have:=h3 (j+1) (by omega)
    simp only[nmc,Hs] at this;simp only[inn];simpa [Jn,or_assoc] using this
theorem lh {l:List UInt8}(j:Nat)(h:j<l.length)(hn:nmc j l[j]=false):eH l=false:=by
 rw[<-Jc,gU];rintro ⟨_,_,h3,_⟩
 have:=h3 j h
 rw[hn] at this;cases this
theorem y7 (j:Nat)(c:UInt8)(h:128<=c.toNat):nmc j c=false:=by
 simp[nmc,sml,dig];omega
theorem fd (s:ByteArray)(j:Nat)(h:j<s.size)(h':j<s.data.toList.length):s.data.toList[j]=s[j]:=by
 rw[Array.getElem_toList];rfl
theorem fk (s:ByteArray):s.data.toList.length=s.size:=Array.length_toList
theorem Es (s:ByteArray)(w:G9)(hW:Wd w)(hs:s.size<=Hu) :
  Hn G5 89 #[.string s] w λe w'=>e=.returned (.bool (eH s.data.toList))/\Hf w.heap.size w w':=by
 have hs':=hs;unfold Hu at hs;have hln:=fk s;by_cases h0:s.size=0
 ·have e0:s=⟨#[]⟩:=by
   apply ByteArray.ext;exact Array.eq_empty_of_size_eq_zero h0
  subst e0;have fin:eH (⟨#[]⟩:ByteArray).data.toList=false:=rfl;rw[fin];clear fin h0 hln;go_enter Tryz.func89,Tryz.ntmps89;go_wp2;go_ret;exact⟨rfl,b0 _⟩
 ·by_cases h12:12<s.size
  ·have fin:eH s.data.toList=false:=by rw[<-Jc,gU];rintro ⟨_,h,_⟩;omega
   rw[fin];clear fin hln;have hne:=oJ h0;have h12I:(12:Int)<(s.size:Int):=by omega
   go_enter Tryz.func89,Tryz.ntmps89;go_wp2;go_ret;exact⟨by simp,b0 _⟩
  ·have hne:=oJ h0;have h12I:¬(12:Int)<(s.size:Int):=by omega
   have HL:Hid (s.data.toList.length=s.size):=hln;clear hln;go_enter Tryz.func89,Tryz.ntmps89;go_wp2;go_loopw [3] (λ_ wr=>∃pos:Nat,wr.heap[w.heap.size]?=G1 (.stringIter s pos)/\pos<=s.size/\(∀ j (h:j<s.data.toList.length),j<pos->nmc j s.data.toList[j]=true)/\Hf w.heap.size w wr) (λ_ wr=>s.size-wr.iterPos w.heap.size)
   case atStart=>exact⟨0,World.iter_heap w s 0,by omega,λj _ h=>by omega,b1 _ _⟩
   case round =>
    obtain⟨pos,hit,hps,hin,hbw⟩:=hrel;by_cases hp:pos<s.size
    ·have hpl:pos<s.data.toList.length:=by have:=HL.out;omega
     by_cases ha:(s[pos]'hp).toNat<128
     ·have hnx:∀ ty,(Instr.next (.pointer (G1 ⟨w.heap.size,0,G0⟩)) true ty).run G5 wr=_:=λty=>Lib.run_next_ascii_at wr w.heap.size s pos ty hit hp ha;have hit2:=Lib.iterAt_heap wr w.heap.size s pos (pos+1) hit;have hbw2:=Lib.below_iterAt hbw (k:=w.heap.size) (by omega) s (pos+1);have hex:nmc pos s.data.toList[pos]=nmc pos s[pos]:=by rw[fd s pos hp hpl]
      have hgo:nmc pos s[pos]=true->∀ j (h:j<s.data.toList.length),j<pos+1->nmc j s.data.toList[j]=true:=λhx j h hj=>by
       by_cases e:j=pos
       ·subst e;rw[hex];exact hx
       ·exact hin j h (by omega)
      have hno:nmc pos s[pos]=false->eH s.data.toList=false:=λhx=>lh pos hpl (by rw[hex];exact hx);have hme:s.size-(wr.iterAt w.heap.size s (pos+1)).iterPos w.heap.size<s.size-wr.iterPos w.heap.size:=by
       simp only[World.iterPos,hit2,hit];omega
      clear hit hbw hin hex;have hwz:w.heap.size=w.heap.size:=rfl;generalize wr.iterAt w.heap.size s (pos+1)=w2 at *;have hnm:nmc pos s[pos]=(sml (s[pos]).toNat||(pos != 0&&(dig (s[pos]).toNat||(s[pos]).toNat==95))):=rfl;rw[hnm] at hgo hno;clear hnm;generalize hrn:(s[pos]'hp).toNat=r at *;have hr:r<=2147483647:=by omega
      clear hrn;have HG:Hid (((sml r||(pos != 0&&(dig r||r==95)))=true->∀ j (h:j<s.data.toList.length),j<pos+1->nmc j s.data.toList[j]=true)/\((sml r||(pos != 0&&(dig r||r==95)))=false->eH s.data.toList=false)):=⟨hgo,hno⟩;clear hgo hno;cases h1:sml r
      ·by_cases hz:pos=0
       ·have fin:eH s.data.toList=false:=HG.out.2 (by simp[h1,hz]);subst hz;clear HG hme;go_wp2_with (go_at_call 142;refine(pC r _ hr).mono ?_;rw[h1];rintro e w1 ⟨rfl,rfl⟩);go_ret;exact⟨by rw[fin];rfl,hbw2⟩
       ·have hz':¬(pos:Int)=0:=by omega
        cases h2:dig r
        ·by_cases h3:r=95
         ·have RL:=HG.out.1 (by simp[h3,hz]);clear HG;subst h3;go_wp2_with (first|(go_at_call 142;refine(pC 95 _ hr).mono ?_;rw[h1];rintro e w1 ⟨rfl,rfl⟩)|(go_at_call 143;refine(xd 95 _ hr).mono ?_;rw[h2];rintro e w1 ⟨rfl,rfl⟩));go_roundw
          case rel=>(try ((repeat apply Hv);refine⟨?_,rfl⟩));exact⟨pos+1,hit2,by omega,RL,hbw2⟩
          case measure=>exact hme
         ·have fin:eH s.data.toList=false:=HG.out.2 (by simp[h1,h2,h3]);have h3':¬(r:Int)=95:=by omega
          have h3b:((r:Int) != 95)=true:=by simpa using h3'
          clear HG hme;go_wp2_with (first|(go_at_call 142;refine(pC r _ hr).mono ?_;rw[h1];rintro e w1 ⟨rfl,rfl⟩)|(go_at_call 143;refine(xd r _ hr).mono ?_;rw[h2];rintro e w1 ⟨rfl,rfl⟩));go_ret;exact⟨by rw[fin];rfl,hbw2⟩
        ·have RL:=HG.out.1 (by simp[h2,hz]);clear HG;go_wp2_with (first|(go_at_call 142;refine(pC r _ hr).mono ?_;rw[h1];rintro e w1 ⟨rfl,rfl⟩)|(go_at_call 143;refine(xd r _ hr).mono ?_;rw[h2];rintro e w1 ⟨rfl,rfl⟩));go_roundw
         case rel=>(try ((repeat apply Hv);refine⟨?_,rfl⟩));exact⟨pos+1,hit2,by omega,RL,hbw2⟩
         case measure=>exact hme
      ·have RL:=HG.out.1 (by simp[h1]);clear HG;go_wp2_with (go_at_call 142;refine(pC r _ hr).mono ?_;rw[h1];rintro e w1 ⟨rfl,rfl⟩);go_roundw
       case rel=>(try ((repeat apply Hv);refine⟨?_,rfl⟩));exact⟨pos+1,hit2,by omega,RL,hbw2⟩
       case measure=>exact hme
     ·have fin:eH s.data.toList=false:=lh pos hpl (by rw[fd s pos hp hpl];exact y7 _ _ (by omega));have hnx:∀ ty,(Instr.next (.pointer (G1 ⟨w.heap.size,0,G0⟩)) true ty).run G5 wr=_:=λty=>Lib.run_next_any_at wr w.heap.size s pos ty hit hp;have hbw2:=Lib.below_iterAt hbw (k:=w.heap.size) (by omega) s (pos+(Utf8.decode s pos).2);have hr:=decode_le s pos;have hr2:=(decode_high s pos hp (by omega)).1;generalize wr.iterAt w.heap.size s (pos+(Utf8.decode s pos).2)=w2 at *;generalize (Utf8.decode s pos).1=r at *;have h1:sml r=false:=by simp[sml];omega
      have h2:dig r=false:=by simp[dig];omega
      have h3':¬(r:Int)=95:=by omega
      have h3b:((r:Int) != 95)=true:=by simpa using h3'
      clear hit hbw hin ha;by_cases hz:pos=0
      ·subst hz;go_wp2_with (go_at_call 142;refine(pC r _ hr).mono ?_;rw[h1];rintro e w1 ⟨rfl,rfl⟩);go_ret;exact⟨by rw[fin];rfl,hbw2⟩
      ·have hz':¬(pos:Int)=0:=by omega
       go_wp2_with (first|(go_at_call 142;refine(pC r _ hr).mono ?_;rw[h1];rintro e w1 ⟨rfl,rfl⟩)|(go_at_call 143;refine(xd r _ hr).mono ?_;rw[h2];rintro e w1 ⟨rfl,rfl⟩));go_ret;exact⟨by rw[fin];rfl,hbw2⟩
    ·have hnx:∀ ty,(Instr.next (.pointer (G1 ⟨w.heap.size,0,G0⟩)) true ty).run G5 wr=_:=λty=>Lib.run_next_end_at wr w.heap.size s pos ty hit hp;have hW2:=hW.below hbw;have fin:eH s.data.toList=!wordB s.data.toList:=by
      have hl:=HL.out;cases hw:iF s.data.toList
      ·exact(gU _).2 ⟨by omega,by omega,λj h=>hin j h (by omega),hw⟩
      ·show _=false;rw[<-Jc,gU];rintro ⟨_,_,_,h⟩;rw[hw] at h;cases h
     clear hin hit;go_wp2_with (go_at_call 144;refine(Ff s _ hW2 hs').mono ?_;rintro e w1 ⟨rfl,rfl⟩);go_ret;exact⟨by rw[fin];rfl,hbw⟩
abbrev tka (x:Tk):Array He:=#[.int .i64 (x.k:Nat),.int .i64 x.n,.string ⟨x.t.toArray⟩,.int .i64 (x.a:Nat)]
theorem pT (t:ByteArray):(⟨t.data.toList.toArray⟩:ByteArray)=t:=by cases t;simp
theorem tu {w:G9}{b:Nat}{a0 a1 a2 a3:He}{t:Il}(v0 v1 v2 v3:He)(h:w.heap[b]?=G1 (.cells #[a0,a1,a2,a3] t (0,0))) :
  ((((w.setCell ⟨b,0,G0⟩ v0).setCell ⟨b,1,G0⟩ v1).setCell ⟨b,2,G0⟩ v2).setCell ⟨b,3,G0⟩ v3).heap[b]?=G1 (.cells #[v0,v1,v2,v3] t (0,0)):=by
 have h0:=IJ w b 0 _ t v0 h;have h1:=IJ _ b 1 _ t v1 h0;have h2:=IJ _ b 2 _ t v2 h1;have h3:=IJ _ b 3 _ t v3 h2;simpa using h3
theorem b2 (w:G9)(A B:Obj):Hf w.heap.size w ((w.alloc A).alloc B):=(b1 _ _).trans ((b1 _ _).mono (by simp))
theorem ny {w w1:G9}{b:Nat}(v0 v1 v2 v3:He)(h:Hf w.heap.size w w1)(hb:w.heap.size<=b) :
  Hf w.heap.size w ((((w1.setCell ⟨b,0,G0⟩ v0).setCell ⟨b,1,G0⟩ v1).setCell ⟨b,2,G0⟩ v2).setCell ⟨b,3,G0⟩ v3) :=
 ((((h.setCell (p:=⟨b,0,G0⟩) hb v0).setCell (p:=⟨b,1,G0⟩) hb v1).setCell (p:=⟨b,2,G0⟩) hb v2).setCell (p:=⟨b,3,G0⟩) hb v3)
theorem CT (t:ByteArray)(h:0<t.size):t.data.toList.head?=G1 t[0]:=by
 have hl:0<t.data.toList.length:=by rw[fk];exact h
 rw[List.head?_eq_getElem?,Hd hl,fd t 0 h hl]
theorem Blk.set {w:G9}{o:Nat->Nat}{i b:Nat}{cs:Array He}{t:Il}(h:Blk w o i b (.cells cs t (0,0)))(j:Nat)(u:He):Blk (w.setCell ⟨b,j,G0⟩ u) o i b (.cells (cs.setIfInBounds j u) t (0,0)) :=
 ⟨IJ w b j cs t u h.1,h.2⟩
theorem fo (I:Nat->Prop)(w:G9)(o:Nat->Nat)(p:Hw)(u:He)(hp:I (o p.block)):as I w o (w.setCell p u) o:=(as.refl I w o).setCell p u hp
theorem gV (I:Nat->Prop)(w:G9)(o:Nat->Nat)(ob:Obj):as I w o (w.alloc ob) o:=(as.refl I w o).alloc ob
theorem vH:(Tryz.prog.info? 3).map (λi=>(i.zero,i.size,i.bytes))=G1 (G1 (.int .i64 0),1,8):=by kernel_rfl
theorem Blk.cells4 {w:G9}{o:Nat->Nat}{i b:Nat}{a0 a1 a2 a3:He}{t:Il}(h:Blk w o i b (.cells #[a0,a1,a2,a3] t (0,0))) :
  w.cell? ⟨b,0,G0⟩=G1 a0/\w.cell? ⟨b,1,G0⟩=G1 a1/\w.cell? ⟨b,2,G0⟩=G1 a2/\w.cell? ⟨b,3,G0⟩=G1 a3/\∀ j,w.frozen? ⟨b,j,G0⟩=false:=by
 refine⟨?_,?_,?_,?_,λj=>IK w b j _ t h.1⟩<;>simp[If w b _ _ t (0,0) h.1]
theorem mJ (s:ByteArray)(a b:Nat):(s.extract a b).data.toList=(s.data.toList.drop a).take (b-a):=by
 rw[ByteArray.data_extract,Array.toList_extract,List.extract_eq_take_drop]
theorem uR (s:ByteArray)(a b:Nat):s.extract a b=⟨((s.data.toList.drop a).take (b-a)).toArray⟩:=by
 rw[<-mJ,pT]
theorem mD (l:List UInt8)(pos:Nat)(h:pos<l.length):l.drop pos=l[pos]::l.drop (pos+1):=Jd h
theorem as.ofBelow {I:Nat->Prop}{w w':G9}(o:Nat->Nat)(h:Hf w.heap.size w w'):as I w o w' o:=⟨h.os,h.tape,h.output,h.size,λ_ _=>rfl,λk hk _=>h.block k hk⟩
theorem eo {P:JT}{t:Il}{z:Option He}{s b:Nat}(h:(P.info? t).map (λi=>(i.zero,i.size,i.bytes))=G1 (z,s,b)):∃i,P.info? t=G1 i/\i.zero=z/\i.size=s/\i.bytes=b:=by
 cases hi:P.info? t with
 | none=>rw[hi] at h;cases h
 | some i =>
  rw[hi] at h;injection h with h
  exact⟨i,rfl,(congrArg (·.1) h),(congrArg (·.2.1) h),(congrArg (·.2.2) h)⟩
theorem nz {w:G9}{s:Nat}(hs:w.heap.size=s)(x y z q:He)(t:Il):∀ j u,[x,y,z,q][j]?=G1 u->(w.alloc (.cells #[x,y,z,q] t)).cell? ((⟨s,0,G0⟩:Hw).add j)=G1 u:=by
 subst hs;intro j u hj
 match j,hj with
 | 0,hj=>simp at hj;subst hj;simp[JA]
 | 1,hj=>simp at hj;subst hj;simp[JA]
 | 2,hj=>simp at hj;subst hj;simp[JA]
 | 3,hj=>simp at hj;subst hj;simp[JA]
theorem ya:(Tryz.prog.info? 67).map (λi=>(i.zero,i.size,i.bytes))=G1 (G1 (.agg #[.int .i64 0,.int .i64 0,.string ⟨#[]⟩,.int .i64 0]),4,40):=by kernel_rfl
def fD (ts:List Tk):List He:=ts.flatMap λx=>[.int .i64 (x.k:Nat),.int .i64 x.n,.string ⟨x.t.toArray⟩,.int .i64 (x.a:Nat)]
theorem nj (ts:List Tk)(x:Tk):fD (ts++[x])=fD ts++[.int .i64 (x.k:Nat),.int .i64 x.n,.string ⟨x.t.toArray⟩,.int .i64 (x.a:Nat)]:=by
 simp[fD]
def pc:List Tk->Res->Res
 | [],X=>X
 | x::r,X=>mh x (pc r X)
theorem yQ (ts:List Tk)(x:Tk)(X:Res):pc (ts++[x]) X=pc ts (mh x X):=by
 induction ts with
 | nil=>rfl
 | Js y r ih=>simp only[Jh,pc,ih]
theorem AZ (ts:List Tk)(e:Nat × Nat):pc ts (.inl e)=.inl e:=by
 induction ts with
 | nil=>rfl
 | Js y r ih=>simp only[pc,ih];rfl
theorem AA (ts us:List Tk):pc ts (.inr us)=.inr (ts++us):=by
 induction ts with
 | nil=>rfl
 | Js y r ih=>simp only[pc,ih];rfl
theorem ta {k:Nat}{t:List UInt8}{a e:Nat}(h:jS k t a=.inl e):e=110\/e=111\/e=112:=by
 unfold jS at h;split at h
 ·unfold jA at h
  repeat' split at h
  all_goals first|(injection h with h;omega)|cases h
 ·unfold kL at h
  repeat' split at h
  all_goals first|(injection h with h;omega)|cases h
 ·unfold pF at h;split at h
  all_goals first|(injection h with h;omega)|cases h
 ·injection h with h
  omega
def DQ (w w':G9)(v:He)(er at0:Int)(R:Res):Prop :=
 (∃e p,R=.inl (e,p)/\v=.slice G0 0 0/\er=(e:Nat)/\at0=(p:Nat))\/(∃ts,R=.inr ts/\er=0/\at0=0/\w'.ownsRow w.heap.size 67 4 v ts.length (fD ts))
theorem Row.fresh {I:Nat->Prop}{w w':G9}{o':Nat->Nat}{i:Nat}{e:Il}{Kb:Nat}{v:He}{n:Nat}{xs:List He}(r:Row w' o' (i+1) e Kb v n xs)(s:as I w (λ_=>0) w' o'):w'.ownsRow w.heap.size e Kb v n xs:=by
 refine⟨r.1.1,?_⟩;rcases r.1.2 with h|⟨g,cap,cur,rfl,hb,rest⟩
 ·exact .inl h
 ·refine .inr ⟨g,cap,cur,rfl,?_,rest⟩;by_cases hg:g<w.heap.size
  ·have h1:=s.lab g hg;have h2:=r.2 g rfl;omega
  ·omega
theorem bdr {B:Nat}{w w':G9}(h:Hf B w w')(n:Nat):Hf B w (w'.drewN n):=⟨h.os,h.tape,h.output,h.size,h.block⟩
structure dX (rb:Nat)(w w':G9):Prop where
 os:w'.os=w.os
 tape:w'.tape=w.tape
 output:w'.output=w.output
 Kb:w.heap.size<=w'.heap.size
 block:∀ k,k<w.heap.size->k≠rb->w'.heap[k]?=w.heap[k]?
theorem dX.refl (rb:Nat)(w:G9):dX rb w w:=⟨rfl,rfl,rfl,G4 _,λ_ _ _=>rfl⟩
theorem dX.trans {rb:Nat}{a b c:G9}(h:dX rb a b)(k:dX rb b c):dX rb a c :=
 ⟨k.os.trans h.os,k.tape.trans h.tape,k.output.trans h.output,In h.size k.size,λi hi hn=>(k.block i (Hh hi h.size) hn).trans (h.block i hi hn)⟩
theorem dX.ofBelow {rb:Nat}{w w':G9}(h:Hf w.heap.size w w'):dX rb w w':=⟨h.os,h.tape,h.output,h.size,λk hk _=>h.block k hk⟩
theorem dX.alloc {rb:Nat}{a w:G9}(h:dX rb a w)(ob:Obj):dX rb a (w.alloc ob) :=
 h.trans ⟨rfl,rfl,rfl,by simp,λk hk _=>Hj w ob k hk⟩
theorem dX.drew {rb:Nat}{a w:G9}(h:dX rb a w):dX rb a w.drew:=⟨h.os,h.tape,h.output,h.size,h.block⟩
theorem dX.set {rb:Nat}{a w:G9}(h:dX rb a w)(p:Hw)(u:He)(hp:a.heap.size<=p.block\/p.block=rb):dX rb a (w.setCell p u) :=
 ⟨h.os,h.tape,h.output,by simpa using h.size,λk hk hn=>(Hl w p k u (λe=>by
  rcases hp with hp|hp
  ·omega
  ·exact hn (e.trans hp))).trans (h.block k hk hn)⟩
theorem dX.below {rb n:Nat}{w w':G9}(h:dX rb w w')(hn:n<=rb)(hs:rb<w.heap.size):Hf n w w':=⟨h.os,h.tape,h.output,h.size,λk hk=>h.block k (by omega) (by omega)⟩
theorem dX.cell {rb:Nat}{w w':G9}(h:dX rb w w'){b:Nat}(hb:b<w.heap.size)(hn:b≠rb)(j:Nat):w'.cell? ⟨b,j,G0⟩=w.cell? ⟨b,j,G0⟩:=Ho (a:=⟨b,j,G0⟩) (h.block b hb hn)
abbrev stv (t:List UInt8):He:=.string ⟨t.toArray⟩
def Fc (w:G9)(P:Nat->Prop):Fs->List He->Prop
 | ⟨G0⟩,xs=>xs=[]
 | ⟨G1 ⟨k,n,nm,a,ks,r⟩⟩,xs=>∃ao cap ys,xs=.int .i64 k::.int .i64 n::stv nm::.slice ao ks.len cap::.int .i64 a::ys /\
   (ks=.nil\/∃b off zs,ao=G1 ⟨b,off,G0⟩/\P b/\b<w.heap.size/\(∀ j u,zs[j]?=G1 u->w.cell? ⟨b,off+j,G0⟩=G1 u)/\Fc w P ks zs)/\Fc w P r ys
def Sl (w:G9)(P:Nat->Prop)(ks:Fs)(ao:Option Hw):Prop :=
 ks=.nil\/∃b off zs,ao=G1 ⟨b,off,G0⟩/\P b/\b<w.heap.size/\(∀ j u,zs[j]?=G1 u->w.cell? ⟨b,off+j,G0⟩=G1 u)/\Fc w P ks zs
def exV (e:Ex)(ao:Option Hw)(cap:Nat):He:=.agg #[.int .i64 e.k,.int .i64 e.n,stv e.nm,.slice ao e.kids.len cap,.int .i64 e.a]
theorem Fc.len {w:G9}{P:Nat->Prop}:∀ {f:Fs}{xs:List He},Fc w P f xs->xs.length=f.len*5
 | ⟨G0⟩,xs,h=>by
  have h:xs=[]:=h;subst h;rfl
 | ⟨G1 ⟨k,n,nm,a,ks,r⟩⟩,xs,h=>by
  obtain⟨ao,cap,ys,rfl,_,h2⟩:=h
  have:=Fc.len h2
  simp only[Hy,Fs.len];omega
theorem Fc.mono {w w':G9}{P Q:Nat->Prop}(hb:∀ k,P k->k<w.heap.size->w'.heap[k]?=w.heap[k]?)(hs:w.heap.size<=w'.heap.size)(hq:∀ k,P k->k<w.heap.size->Q k):∀ {f:Fs}{xs:List He},Fc w P f xs->Fc w' Q f xs
 | ⟨G0⟩,xs,h=>h
 | ⟨G1 ⟨k,n,nm,a,ks,r⟩⟩,xs,h=>by
  obtain⟨ao,cap,ys,rfl,h1,h2⟩:=h;refine⟨ao,cap,ys,rfl,?_,Fc.mono hb hs hq h2⟩;rcases h1 with h1|⟨b,off,zs,rfl,hp,hlt,hc,h3⟩
  ·exact .inl h1
  ·exact .inr ⟨b,off,zs,rfl,hq b hp hlt,Hh hlt hs,λj u hu=>(Ho (a:=⟨b,off+j,G0⟩) (hb b hp hlt)).trans (hc j u hu),Fc.mono hb hs hq h3⟩
theorem Sl.mono {w w':G9}{P Q:Nat->Prop}{f:Fs}{ao:Option Hw}(hb:∀ k,P k->k<w.heap.size->w'.heap[k]?=w.heap[k]?)(hs:w.heap.size<=w'.heap.size)(hq:∀ k,P k->k<w.heap.size->Q k)(h:Sl w P f ao):Sl w' Q f ao:=by
 rcases h with h|⟨b,off,zs,rfl,hp,hlt,hc,h3⟩
 ·exact .inl h
 ·exact .inr ⟨b,off,zs,rfl,hq b hp hlt,Hh hlt hs,λj u hu=>(Ho (a:=⟨b,off+j,G0⟩) (hb b hp hlt)).trans (hc j u hu),h3.mono hb hs hq⟩
theorem Fc.app {w:G9}{P:Nat->Prop}:∀ {f g:Fs}{xs ys:List He},Fc w P f xs->Fc w P g ys->Fc w P (f.app g) (xs++ys)
 | ⟨G0⟩,g,xs,ys,h,k=>by
  have h:xs=[]:=h;subst h;exact k
 | ⟨G1 ⟨i,n,nm,a,ks,r⟩⟩,g,xs,ys,h,k=>by
  obtain⟨ao,cap,zs,rfl,h1,h2⟩:=h;exact⟨ao,cap,zs++ys,rfl,h1,Fc.app h2 k⟩
theorem Fc.one {w:G9}{P:Nat->Prop}{e:Ex}{ao:Option Hw}(cap:Nat)(h:Sl w P e.kids ao):Fc w P (one e) [.int .i64 e.k,.int .i64 e.n,stv e.nm,.slice ao e.kids.len cap,.int .i64 e.a]:=⟨ao,cap,[],rfl,h,rfl⟩
theorem Sl.of {w:G9}{P:Nat->Prop}{f:Fs}{b:Nat}{xs:List He}(hp:P b)(hlt:b<w.heap.size)(hc:∀ j u,xs[j]?=G1 u->w.cell? ⟨b,0+j,G0⟩=G1 u)(h:Fc w P f xs):Sl w P f (G1 ⟨b,0,G0⟩):=.inr ⟨b,0,xs,rfl,hp,hlt,hc,h⟩
theorem Sl.nil (w:G9)(P:Nat->Prop)(ao:Option Hw):Sl w P .nil ao:=.inl rfl
theorem oU:∀ (l:List Tk) (i:Nat) (x:Tk),l[i]?=G1 x->(fD l)[i*4]?=G1 (.int .i64 (x.k:Nat))/\(fD l)[i*4+1]?=G1 (.int .i64 x.n)/\(fD l)[i*4+2]?=G1 (stv x.t)/\(fD l)[i*4+3]?=G1 (.int .i64 (x.a:Nat))
 | [],i,x,h=>by simp at h
 | p::r,0,x,h=>by
  simp at h;subst h;exact⟨rfl,rfl,rfl,rfl⟩
 | p::r,i+1,x,h=>by
  have e:fD (p::r)=.int .i64 (p.k:Nat)::.int .i64 p.n::stv p.t::.int .i64 (p.a:Nat)::fD r:=rfl;have e1:(i+1)*4=i*4+1+1+1+1:=by omega
  have ih:=oU r i x (by simpa using h);rw[e,e1];exact ih
abbrev Nw (n:Nat):Nat->Prop:=λb=>n<=b
theorem Sl.keepN {rb n:Nat}{w w':G9}{f:Fs}{ao:Option Hw}(h:Sl w (Nw n) f ao)(k:dX rb w w')(hn:rb<n):Sl w' (Nw n) f ao:=h.mono (λi hp hl=>k.block i hl (by have hp:n<=i:=hp;omega)) k.size (λ_ h _=>h)
theorem Sl.setN {n:Nat}{w:G9}{f:Fs}{ao:Option Hw}(h:Sl w (Nw n) f ao)(p:Hw)(v:He)(hp:p.block<n):Sl (w.setCell p v) (Nw n) f ao:=h.mono (λi hp hl=>Hl w p i v (by have hp:n<=i:=hp;omega)) (by simp) (λ_ h _=>h)
theorem Sl.allocN {n:Nat}{w:G9}{f:Fs}{ao:Option Hw}(h:Sl w (Nw n) f ao)(ob:Obj):Sl (w.alloc ob) (Nw n) f ao:=h.mono (λi hp hl=>Hj w ob i hl) (by simp) (λ_ h _=>h)
theorem Sl.low {n m:Nat}{w:G9}{f:Fs}{ao:Option Hw}(h:Sl w (Nw n) f ao)(hm:m<=n):Sl w (Nw m) f ao:=h.mono (λi hp hl=>rfl) (G4 _) (λi h _=>In hm h)
theorem Fc.allocN {n:Nat}{w:G9}{f:Fs}{xs:List He}(h:Fc w (Nw n) f xs)(ob:Obj):Fc (w.alloc ob) (Nw n) f xs:=h.mono (λi hp hl=>Hj w ob i hl) (by simp) (λ_ h _=>h)
theorem Blk.cells5 {w:G9}{o:Nat->Nat}{i b:Nat}{a0 a1 a2 a3 a4:He}{t:Il}(h:Blk w o i b (.cells #[a0,a1,a2,a3,a4] t (0,0))) :
  w.cell? ⟨b,0,G0⟩=G1 a0/\w.cell? ⟨b,1,G0⟩=G1 a1/\w.cell? ⟨b,2,G0⟩=G1 a2/\w.cell? ⟨b,3,G0⟩=G1 a3/\w.cell? ⟨b,4,G0⟩=G1 a4/\∀ j,w.frozen? ⟨b,j,G0⟩=false:=by
 refine⟨?_,?_,?_,?_,?_,λj=>IK w b j _ t h.1⟩<;>simp[If w b _ _ t (0,0) h.1]
theorem Blk.cells2 {w:G9}{o:Nat->Nat}{i b:Nat}{a0 a1:He}{t:Il}(h:Blk w o i b (.cells #[a0,a1] t (0,0))) :
  w.cell? ⟨b,0,G0⟩=G1 a0/\w.cell? ⟨b,1,G0⟩=G1 a1/\∀ j,w.frozen? ⟨b,j,G0⟩=false:=by
 refine⟨?_,?_,λj=>IK w b j _ t h.1⟩<;>simp[If w b _ _ t (0,0) h.1]
def gZ (t:Int):Option (List UInt8 × Nat × Nat × Nat × Nat):=iO.find? λx=>(x.2.1:Int)==t
def jw (t:Int):Option (List UInt8 × Nat × Nat):=gQ.find? λx=>(x.2.1:Int)==t
def jP (t:Int):Option (List UInt8 × Nat):=gO.find? λx=>(x.2:Int)==t
abbrev zNv (k n:Int)(nm:List UInt8)(a:Option Hw)(l c:Nat):Obj:=.cells #[.int .i64 k,.int .i64 n,stv nm,.slice a l c] 34
abbrev zEv (k n:Int)(nm:List UInt8)(a:Option Hw)(l c:Nat)(p:Int):Obj:=.cells #[.int .i64 k,.int .i64 n,stv nm,.slice a l c,.int .i64 p] 25
abbrev zNd (e:Ex)(a:Option Hw)(c:Nat):Obj:=.cells #[.int .i64 e.k,.int .i64 e.n,stv e.nm,.slice a e.kids.len c] 34
abbrev zEx (e:Ex)(a:Option Hw)(c:Nat):Obj:=.cells #[.int .i64 e.k,.int .i64 e.n,stv e.nm,.slice a e.kids.len c,.int .i64 e.a] 25
abbrev zPl (e:Ex)(a:Option Hw)(c:Nat)(b:Option Hw)(l d:Nat):Obj:=.cells #[.int .i64 e.k,.int .i64 e.n,stv e.nm,.slice a e.kids.len c,.slice b l d] 37
theorem exq {α:Type _}(x:α):∃y,y=x:=⟨x,rfl⟩
set_option linter.unusedSimpArgs false
def eQ (k:Int):Bool:=k==22||k==23||k==24||k==25
def gh (k:Int):Nat:=if k==19||k==21 then 0 else if k==7 then 3 else if k==6 then 7 else match gZ k with|some x=>x.2.2.1|none=>8
def fl (k n:Int):Bool:=if k==1||k==3 then decide (0<=n) else if k==2 then n==0||n==1 else if k==20 then (jw n).isSome else if k==21 then (jP n).isSome else n==0
def fy (k:Int)(nm:List UInt8):Bool:=if k==4||k==23||k==21 then eH nm else nm==[]
def eB (k n:Int)(m:Nat):Bool:=if k==1||k==2||k==3||k==4||k==22||k==23 then (m:Int)==0 else if k==6||k==7||k==24 then (m:Int)==1 else if k==21 then (m:Int)==2 else if k==19 then (m:Int)==3 else if k==20 then (match jw n with|some x=>(m:Int)==(x.2.2:Nat)|none=>(m:Int)==0) else if k==25 then true else (gZ k).isSome&&(m:Int)==2
theorem bne {k:Int}{c:Int}(h:k≠c):(k==c)=false:=by rw[beq_eq_false_iff_ne];exact h
theorem zv {w:G9}{b:Nat}{a0 a1 a2 a3 b0 b1 b2 b3:He}{t:Il}(h:w.heap[b]?=G1 (.cells #[a0,a1,a2,a3] t (0,0))):((((w.setCell ⟨b,0,G0⟩ b0).setCell ⟨b,1,G0⟩ b1).setCell ⟨b,2,G0⟩ b2).setCell ⟨b,3,G0⟩ b3).heap[b]?=G1 (.cells #[b0,b1,b2,b3] t (0,0)):=by
 have h0:Blk w (λ_=>0) 0 b (.cells #[a0,a1,a2,a3] t (0,0)):=⟨h,rfl⟩;exact((((h0.set 0 b0).set 1 b1).set 2 b2).set 3 b3).1
abbrev exZ:Obj:=.cells #[.int .i64 0,.int .i64 0,.string ⟨#[]⟩,.slice G0 0 0,.int .i64 0] 25
theorem eX {w:G9}{b:Nat}{a0 a1 a2 a3 a4:He}(b0 b1 b2 b3 b4:He){t:Il}(h:w.heap[b]?=G1 (.cells #[a0,a1,a2,a3,a4] t (0,0))):(((((w.setCell ⟨b,0,G0⟩ b0).setCell ⟨b,1,G0⟩ b1).setCell ⟨b,2,G0⟩ b2).setCell ⟨b,3,G0⟩ b3).setCell ⟨b,4,G0⟩ b4).heap[b]?=G1 (.cells #[b0,b1,b2,b3,b4] t (0,0)):=by
 have h0:Blk w (λ_=>0) 0 b (.cells #[a0,a1,a2,a3,a4] t (0,0)):=⟨h,rfl⟩;exact(((((h0.set 0 b0).set 1 b1).set 2 b2).set 3 b3).set 4 b4).1
theorem dX.set5 {rb:Nat}{a w:G9}(h:dX rb a w){b:Nat}(hb:a.heap.size<=b)(b0 b1 b2 b3 b4:He):dX rb a (((((w.setCell ⟨b,0,G0⟩ b0).setCell ⟨b,1,G0⟩ b1).setCell ⟨b,2,G0⟩ b2).setCell ⟨b,3,G0⟩ b3).setCell ⟨b,4,G0⟩ b4):=((((h.set ⟨b,0,G0⟩ b0 (.inl hb)).set ⟨b,1,G0⟩ b1 (.inl hb)).set ⟨b,2,G0⟩ b2 (.inl hb)).set ⟨b,3,G0⟩ b3 (.inl hb)).set ⟨b,4,G0⟩ b4 (.inl hb)
theorem Sl.set5 {n:Nat}{w:G9}{f:Fs}{ao:Option Hw}(h:Sl w (Nw n) f ao){b:Nat}(hb:b<n)(b0 b1 b2 b3 b4:He):Sl (((((w.setCell ⟨b,0,G0⟩ b0).setCell ⟨b,1,G0⟩ b1).setCell ⟨b,2,G0⟩ b2).setCell ⟨b,3,G0⟩ b3).setCell ⟨b,4,G0⟩ b4) (Nw n) f ao:=((((h.setN ⟨b,0,G0⟩ b0 hb).setN ⟨b,1,G0⟩ b1 hb).setN ⟨b,2,G0⟩ b2 hb).setN ⟨b,3,G0⟩ b3 hb).setN ⟨b,4,G0⟩ b4 hb
theorem dS {w:G9}{b:Nat}{a0 a1 a2 a3 a4:He}{t:Il}(h:w.heap[b]?=G1 (.cells #[a0,a1,a2,a3,a4] t (0,0))) :
  w.cell? ⟨b,0,G0⟩=G1 a0/\w.cell? ⟨b,1,G0⟩=G1 a1/\w.cell? ⟨b,2,G0⟩=G1 a2/\w.cell? ⟨b,3,G0⟩=G1 a3/\w.cell? ⟨b,4,G0⟩=G1 a4/\∀ j,w.frozen? ⟨b,j,G0⟩=false:=Blk.cells5 (o:=λ_=>0) (i:=0) ⟨h,rfl⟩
theorem dX.blk {rb:Nat}{w w':G9}(k:dX rb w w'){b:Nat}{ob:Obj}(h:w.heap[b]?=G1 ob)(hb:b≠rb):w'.heap[b]?=G1 ob:=(k.block b (Ha h) hb).trans h
theorem Sl.fresh {w:G9}{n:Nat}{f:Fs}(xs:List He)(t:Il)(h:Fc w (Nw n) f xs)(hn:n<=w.heap.size):Sl (w.alloc (.cells xs.toArray t)) (Nw n) f (G1 ⟨w.heap.size,0,G0⟩):=by
 refine Sl.of hn (by simp) (λj u hu=>?_) (h.allocN _);rw[Ix];rw[If _ w.heap.size j _ t (0,0) (Hc w _)];simpa using hu
theorem dU (e:Ex)(ao:Option Hw)(cap:Nat):exV e ao cap=.agg #[.int .i64 e.k,.int .i64 e.n,stv e.nm,.slice ao e.kids.len cap,.int .i64 e.a]:=rfl
def Bc (w:G9)(n0:Nat)(acc:Fs)(g cap:Nat)(xs:List He):Prop :=
 n0<=g/\w.ownsRow 0 25 5 (.slice (G1 ⟨g,0,G0⟩) acc.len cap) acc.len xs/\Fc w (λb=>n0<=b/\b≠g) acc xs
def Acc (w:G9)(n0:Nat)(acc:Fs)(v:He):Prop:=∃g cap xs,v=.slice (G1 ⟨g,0,G0⟩) acc.len cap/\Bc w n0 acc g cap xs
def mP (g:Nat):Nat->Nat:=λb=>if b=g then 1 else 0
theorem Bc.row {w:G9}{n0:Nat}{acc:Fs}{g cap:Nat}{xs:List He}(h:Bc w n0 acc g cap xs):Row w (mP g) 1 25 5 (.slice (G1 ⟨g,0,G0⟩) acc.len cap) acc.len xs :=
 ⟨h.2.1,λk hk=>by simp[JQ] at hk;subst hk;simp[mP]⟩
theorem Acc.one {w:G9}{n0:Nat}{e:Ex}{ao:Option Hw}(cap:Nat)(h:Sl w (Nw n0) e.kids ao)(hn:n0<=w.heap.size) :
  Acc (w.alloc (.cells #[.int .i64 e.k,.int .i64 e.n,stv e.nm,.slice ao e.kids.len cap,.int .i64 e.a] 25)) n0 (one e) (.slice (G1 ⟨w.heap.size,0,G0⟩) 1 1):=by
 refine⟨w.heap.size,1,_,rfl,hn,World.ownsRow_lit w _ 1 (JI _) (by unfold Hu;omega) (by simp),?_⟩;exact(Fc.one cap h).mono (λi hp hl=>Hj w _ i hl) (by simp) (λi hp hl=>⟨hp,Nat.ne_of_lt hl⟩)
theorem Acc.keep {rb n0:Nat}{w w':G9}{acc:Fs}{v:He}(h:Acc w n0 acc v)(k:dX rb w w')(hn:rb<n0):Acc w' n0 acc v:=by
 obtain⟨g,cap,xs,rfl,hg,ho,hf⟩:=h;have r:Row w (λb=>if b=rb then 7 else 1) 1 25 5 (.slice (G1 ⟨g,0,G0⟩) acc.len cap) acc.len xs:=⟨ho,λj hj=>by simp[JQ] at hj;subst hj;show (if g=rb then 7 else 1)=1;rw[if_neg (by omega)]⟩;have s:as (λx=>x=7) w (λb=>if b=rb then 7 else 1) w' (λb=>if b=rb then 7 else 1):=⟨k.os,k.tape,k.output,k.size,λ_ _=>rfl,λj hj hn=>k.block j hj (λe=>hn (by simp[e]))⟩;exact⟨g,cap,xs,rfl,hg,(r.step s (by decide)).1,hf.mono (λi hp hl=>k.block i hl (by have:=hp.1;omega)) k.size (λ_ h _=>h)⟩
theorem Acc.sl {w:G9}{n0:Nat}{acc:Fs}{v:He}(h:Acc w n0 acc v):∃ao cap,v=.slice ao acc.len cap/\Sl w (Nw n0) acc ao:=by
 obtain⟨g,cap,xs,rfl,h⟩:=h;refine⟨_,cap,rfl,?_⟩;by_cases h0:0<acc.len
 ·obtain⟨g',cap',hv,_,_,_,hlt,hc,_⟩:=h.row.pos h0;simp only[IS,Ji,Addr.mk.injEq,JM,and_true] at hv;obtain⟨rfl,rfl⟩:=hv;have hl:=h.row.len;refine Sl.of h.1 hlt (λj u hu=>?_) (h.2.2.mono (λ_ _ _=>rfl) (G4 _) (λ_ hp _=>hp.1));rw[Ix,hc j ?_]
  ·exact hu
  ·rw[<-hl];by_cases hj:j<xs.length
   ·exact hj
   ·rw[Ie (by omega)] at hu;cases hu
 ·refine .inl ?_;cases acc using Fs.on with
  | nil=>rfl
  | Js k n nm a ks r=>simp[Fs.len] at h0
theorem dX.step1 {rb g:Nat}{a w w2:G9}{o2:Nat->Nat}(K:dX rb a w)(s:as (λx=>x=1) w (mP g) w2 o2)(hg:a.heap.size<=g):dX rb a w2 :=
 ⟨s.os.trans K.os,s.tape.trans K.tape,s.output.trans K.output,In K.size s.size,λk hk hn=>(s.block k (Hh hk K.size) (by unfold mP;rw[if_neg (by omega)];decide)).trans (K.block k hk hn)⟩
theorem Acc.push {w w2:G9}{o2:Nat->Nat}{n0 n1 g cap g2 c2:Nat}{acc:Fs}{xs:List He}{e:Ex}{ao:Option Hw}{ce:Nat}(h:Bc w n0 acc g cap xs)(S:Sl w (Nw n1) e.kids ao)(hn1:g<n1)(hw:n0<=w.heap.size)
  (s:as (λx=>x=1) w (mP g) w2 o2) (r:Row w2 o2 1 25 5 (.slice (G1 ⟨g2,0,G0⟩) (acc.len+1) c2) (acc.len+1) (xs++[.int .i64 e.k,.int .i64 e.n,stv e.nm,.slice ao e.kids.len ce,.int .i64 e.a])) :
  Acc w2 n0 (acc.snoc e) (.slice (G1 ⟨g2,0,G0⟩) (acc.len+1) c2):=by
 have hl:(acc.snoc e).len=acc.len+1:=Fs.len_snoc acc e;have h2:o2 g2=1:=r.2 g2 rfl;have hlt2:g2<w2.heap.size:=r.lt rfl;have hg2:n0<=g2:=by
  by_cases hlt:g2<w.heap.size
  ·have:=(s.lab g2 hlt).symm.trans h2
   unfold mP at this;by_cases e:g2=g
   ·rw[e];exact h.1
   ·rw[if_neg e] at this;cases this
  ·omega
 have hb:∀ k,(n0<=k/\k≠g)->k<w.heap.size->w2.heap[k]?=w.heap[k]?:=λk hk hl=>s.block k hl (by unfold mP;rw[if_neg hk.2];decide);have hq:∀ k,(n0<=k/\k≠g)->k<w.heap.size->(n0<=k/\k≠g2):=λk hk hl=>⟨hk.1,λe=>by
  have:=(s.lab k hl).symm.trans (e ▸ h2)
  unfold mP at this;rw[if_neg hk.2] at this;cases this⟩
 refine⟨g2,c2,xs++[.int .i64 e.k,.int .i64 e.n,stv e.nm,.slice ao e.kids.len ce,.int .i64 e.a],by rw[hl],hg2,by rw[hl];exact r.1,?_⟩;have F1:=h.2.2.mono hb s.size hq;have S1:Sl w2 (λb=>n0<=b/\b≠g2) e.kids ao:=S.mono (λk hk hl=>hb k ⟨by have hk:n1<=k:=hk;have:=h.1;omega,by have hk:n1<=k:=hk;omega⟩ hl) s.size (λk hk hl=>hq k ⟨by have hk:n1<=k:=hk;have:=h.1;omega,by have hk:n1<=k:=hk;omega⟩ hl);exact F1.app (Fc.one ce S1)
theorem pB:(Tryz.prog.info? 25).map (λi=>(i.zero,i.size,i.bytes))=G1 (G1 (.agg #[.int .i64 0,.int .i64 0,.string ⟨#[]⟩,.slice G0 0 0,.int .i64 0]),5,64):=by kernel_rfl
def hFs:Fs->Bool->Nat->Option Nat
 | ⟨G0⟩,_,c=>G1 c
 | ⟨G1 ⟨k,n,nm,a,ks,r⟩⟩,first,c =>
  if eQ k != first then G0
  else if 2000<c+1 then G0
  else if fl k n&&fy k nm&&eB k n ks.len then
   match hFs ks (k==21) (c+1) with
   | none=>G0
   | some c'=>hFs r false c'
  else G0
def hE (e:Ex)(c:Nat):Option Nat:=if 2000<c+1 then G0 else if fl e.k e.n&&fy e.k e.nm&&eB e.k e.n e.kids.len then hFs e.kids (e.k==21) (c+1) else G0
def Fs.size:Fs->Nat
 | ⟨G0⟩=>0
 | ⟨G1 ⟨_,_,_,_,ks,r⟩⟩=>ks.size+r.size+1
def Fs.short:Fs->Prop
 | ⟨G0⟩=>True
 | ⟨G1 ⟨_,_,nm,_,ks,r⟩⟩=>nm.length<=Hu/\ks.len<=1000000000/\ks.short/\r.short
theorem Fs.size_app:∀ (x y:Fs),(x.app y).size=x.size+y.size
 | ⟨G0⟩,y=>by simp[Fs.app,Fs.size]
 | ⟨G1 ⟨k,n,nm,a,ks,r⟩⟩,y=>by simp only[Fs.app,Fs.size];rw[Fs.size_app r y];omega
theorem Fs.app_short:∀ {x y:Fs},(x.app y).short->y.short
 | ⟨G0⟩,y,h=>h
 | ⟨G1 ⟨k,n,nm,a,ks,r⟩⟩,y,h=>Fs.app_short h.2.2.2
theorem uH:∀ (f:Fs) (b:Bool) (c c':Nat),c<=2000->hFs f b c=G1 c'->c'<=2000
 | ⟨G0⟩,b,c,c',h,e=>by
  unfold hFs at e;injection e with e
  omega
 | ⟨G1 ⟨k,n,nm,a,ks,r⟩⟩,b,c,c',h,e=>by
  unfold hFs at e;split at e
  ·cases e
  ·split at e
   ·cases e
   ·split at e
    ·split at e
     ·cases e
     ·rename_i c2 h2
      exact uH r false c2 c' (uH ks _ (c+1) c2 (by omega) h2) e
    ·cases e
theorem FW {e:Ex}{c c':Nat}(h:hE e c=G1 c'):c'<=2000:=by
 unfold hE at h;split at h
 ·cases h
 ·split at h
  ·exact uH _ _ _ _ (by omega) h
  ·cases h
theorem Fs.app_assoc:∀ (x y z:Fs),(x.app y).app z=x.app (y.app z)
 | ⟨G0⟩,y,z=>rfl
 | ⟨G1 ⟨k,n,nm,a,ks,r⟩⟩,y,z=>by simp only[Fs.app];rw[Fs.app_assoc r y z]
theorem Fc.split {w:G9}{P:Nat->Prop}:∀ {x y:Fs}{zs:List He},Fc w P (x.app y) zs->∃zx zy,zs=zx++zy/\Fc w P x zx/\Fc w P y zy
 | ⟨G0⟩,y,zs,h=>⟨[],zs,rfl,rfl,h⟩
 | ⟨G1 ⟨k,n,nm,a,ks,r⟩⟩,y,zs,h=>by
  obtain⟨ao,cap,ys,rfl,h1,h2⟩:=h;obtain⟨zx,zy,rfl,h3,h4⟩:=Fc.split h2;exact⟨_,zy,rfl,⟨ao,cap,zx,rfl,h1,h3⟩,h4⟩
abbrev Nf (fb:Nat):Nat->Prop:=λb=>b≠fb
theorem Sl.keepF {fb:Nat}{w w':G9}{f:Fs}{ao:Option Hw}(h:Sl w (Nf fb) f ao)(k:dX fb w w'):Sl w' (Nf fb) f ao:=h.mono (λi hp hl=>k.block i hl hp) k.size (λ_ h _=>h)
theorem kG {P:JT}(w:G9)(t u ty e:Il)(i:TypeInfo)(ht:P.underlying t=G1 (.slice e))(hu:P.underlying u=G1 .string)(hi:P.info? e=G1 i)(hz:i.zero=G1 (.int .u8 0))
  (hsize:i.size=1) (hby:i.bytes=1) (v:He) (n:Nat) (xs:List He) (hown:w.ownsRow 0 e 1 v n xs) (s:ByteArray) (h63:n+s.size<=Hu) (hbytes:n+s.size<=140737488355328) :
  ∃v' w',(Builtin.append_ #[t,u] ty #[v,.string s]).run P w=.ok v' w'/\w'.ownsRow 0 e 1 v' (n+s.size) (xs++Kq s)/\w.grownBy w' v.ownBlock /\
   (v'.ownBlock=v.ownBlock\/∃k,v'.ownBlock=G1 k/\w.heap.size<=k):=by
 obtain⟨v',w',hr,ho,hg,h4⟩:=Go.Lib.run_append_own_string (P:=P) w 0 t u ty e i ht hu hi hz hsize hby v n xs hown s h63 hbytes (JI _);refine⟨v',w',hr,ho,hg,?_⟩;have h63':n+s.size<=9223372036854775807:=by simp only[Hu] at h63;omega
 rcases hown.2 with ⟨rfl,rfl⟩|⟨g,cap,cur,rfl,hbg,hgb,hnc,hcm,hcs,htake⟩
 ·by_cases hm:s.size=0
  ·have h5:=h4.2 ⟨rfl,hm⟩;subst h5;exact .inl rfl
  ·have hr':=run_append_nil_string (P:=P) w t u ty e i (.int .u8 0) ht hu hi hz s (by omega) (by omega) (by rw[hby];omega);rw[hr'] at hr;injection hr with e1 e2
   subst e1;exact .inr ⟨_,rfl,G4 _⟩
 ·by_cases hroom:n+s.size<=cap
  ·have hcs':cur.size=cap:=by simpa using hcs
   have hr':=Go.Lib.run_append_room_string (P:=P) w t u ty e i ht hu hi hsize g n cap cur hgb s hroom (by omega);rw[hr'] at hr;injection hr with e1 e2
   subst e1;exact .inl rfl
  ·have holds:∀ j u,xs[j]?=G1 u->w.cell? ((⟨g,0,G0⟩:Hw).add j)=G1 u:=hown.cells (g:=g) rfl;have hr':=Go.Lib.run_append_grow_string (P:=P) w t u ty e i (.int .u8 0) ht hu hi hz ⟨g,0,G0⟩ n cap xs (by rw[hsize];simpa using hown.1) holds s (by omega) (by omega) (by rw[hby];exact growslice_fits (by omega) (by omega));rw[hr'] at hr;injection hr with e1 e2
   subst e1;exact .inr ⟨_,rfl,G4 _⟩
theorem mH {P:JT}{w:G9}{ops:Array Oper}{rest:List Oper}{op:Oper}{a:Act}{Q:Exit->Act->G9->Prop}(hgd:op.guard=G0)(sl x:Operand)(t u:Il)
  (ho:op.op=.call { callee:=.builtin .append,args:=#[sl,x],argTypes:=#[t,u] })
  (e:Il) (i:TypeInfo) (ht:P.underlying t=G1 (.slice e)) (hu:P.underlying u=G1 .string) (hi:P.info? e=G1 i) (hz:i.zero=G1 (.int .u8 0)) (hsize:i.size=1) (hby:i.bytes=1)
  (o:Nat->Nat) (lb:Nat) (v:He) (n:Nat) (xs:List He) (hs:a.eval sl=v) (hrow:Row w o lb e 1 v n xs) (s:ByteArray) (hx:a.eval x=.string s) (h63:n+s.size<=Hu) (hbytes:n+s.size<=140737488355328)
  (h:∀ v' w' o',Row w' o' lb e 1 v' (n+s.size) (xs++Kq s)->as (λk=>k=lb) w o w' o'->wpList P ops Q rest (a.put op.dst v') w'):wpList P ops Q (op::rest) a w:=by
 refine wpList_plain hgd λ_ hK=>?_;obtain⟨v',w',hr,h2,h3,h4⟩:=kG (P:=P) w t u op.type e i ht hu hi hz hsize hby v n xs hrow.1 s h63 hbytes;unfold Oper.wp execOp;simp only[ho,resolve,invoke,builtin,Sem.run_bind,Sem.run_pure,Kx,KM,List.map_cons,List.map_nil,hs,hx,hr];have hst:as (λk=>k=lb) w o w' (dQ w o lb):=as.appended h3 rfl hrow.2;have hrow':Row w' (dQ w o lb) lb e 1 v' (n+s.size) (xs++Kq s):=by
  refine⟨h2,λk hk=>?_⟩;rcases h4 with h4|⟨k',h4,hk'⟩
  ·rw[h4] at hk;rw[ed (hrow.lt hk)];exact hrow.2 k hk
  ·rw[h4] at hk;injection hk with hk
   subst hk;exact dY hk'
 exact hK _ _ (h v' w' _ hrow' hst)
def byL (t:List UInt8):List He:=t.map λb=>Hp .u8 b.toNat
theorem DL (s t:List UInt8):byL s++Kq ⟨t.toArray⟩=byL (s++t):=by simp[byL,Kq]
theorem jV (t:List UInt8):(ByteArray.mk t.toArray).size=t.length:=by simp[ByteArray.size]
abbrev I12:Nat->Prop:=λk=>k=1\/k=2
theorem Eo:(Tryz.prog.info? 5).map (λi=>(i.zero,i.size,i.bytes))=G1 (G1 (.int .u8 0),1,1):=by kernel_rfl
structure St where
 t:List UInt8
 a:Nat
 m:Nat
 b:Nat
 n:Nat
def St.lay (s:St)(x:List UInt8):St:=⟨s.t++x,s.a,s.m,s.b,s.n⟩
def St.ent (s:St):St:=⟨s.t,s.a+1,max s.m (s.a+1),s.b,s.n⟩
def St.lea (s:St):St:=⟨s.t,s.a-1,s.m,s.b,s.n⟩
def St.qent (s:St):St:=⟨s.t,s.a,s.m,s.b+1,max s.n (s.b+1)⟩
def St.qlea (s:St):St:=⟨s.t,s.a,s.m,s.b-1,s.n⟩
def jX (n:Int):List UInt8:=match jP n with|some x=>x.1|none=>[]
def kj (n:Int):List UInt8:=match jw n with|some x=>x.1|none=>[]
abbrev Sep:=Nat->List UInt8 × Nat
def jc:Sep:=λi=>(if i=0 then [] else [44,32],0)
def ifS:Sep:=λi=>(if i=0 then [105,102,32] else if i=1 then [32,116,104,101,110,32] else [32,101,108,115,101,32],0)
def quS (n:Int)(nm:List UInt8):Sep:=λi=>(if i=0 then jX n++[32]++nm++[32,105,110,32] else [58,32],0)
def opS (k:Int):Sep:=λi=>match gZ k with|some x=>if i=0 then ([],x.2.2.2.1) else ([32]++x.1++[32],x.2.2.2.2)|none=>([],0)
def tR (k n:Int)(nm:List UInt8)(K:Sep->St->St)(s:St):St :=
 if k=1 then s.lay (I6 n)
 else if k=2 then s.lay (KB (n==1))
 else if k=3 then (s.lay [64]).lay (I6 n)
 else if k=4\/k=23 then s.lay nm
 else if k=22 then s.lay [118,101,114,116,105,99,101,115]
 else K (opS k) s
def nD (x y:List UInt8)(K:Sep->St->St)(s:St):St:=((K jc (s.ent.lay x)).lay y).lea
def nA (k n:Int)(nm:List UInt8)(K:Sep->St->St)(s:St):St :=
 if k=7 then (K (λ_=>([110,111,116,32],3)) s.ent).lea
 else if k=6 then (K (λ_=>([45],7)) s.ent).lea
 else if k=19 then (K ifS s.ent).lea
 else if k=21 then ((K (quS n nm) s.ent.qent).qlea).lea
 else if k=20 then nD [40] [41] K (s.lay (kj n))
 else if k=24 then nD [40] [41] K (s.lay [97,114,111,117,110,100])
 else if k=25 then nD [123] [125] K s
 else tR k n nm K s
def wE (k n:Int)(nm:List UInt8)(asked:Nat)(K:Sep->St->St)(s:St):St :=
 if gh k<asked then ((nA k n nm K (s.ent.lay [40])).lay [41]).lea else nA k n nm K s
def wFs:Fs->Sep->Nat->St->St
 | ⟨G0⟩,_,_,s=>s
 | ⟨G1 ⟨k,n,nm,a,ks,r⟩⟩,f,i,s=>wFs r f (i+1) (wE k n nm (f i).2 (λg s=>wFs ks g 0 s) (s.lay (f i).1))
def wEx (e:Ex)(asked:Nat)(s:St):St:=wE e.k e.n e.nm asked (λg s=>wFs e.kids g 0 s) s
theorem xC (n:Int):(jX n).length<=5:=by
 unfold jX;split
 ·rename_i x h
  have hm:=Ii h
  have:∀ x ∈ gO,x.1.length<=5:=by decide
  exact this x hm
 ·simp
theorem yr (n:Int):(kj n).length<=10:=by
 unfold kj;split
 ·rename_i x h
  have hm:=Ii h
  have:∀ x ∈ gQ,x.1.length<=10:=by decide
  exact this x hm
 ·simp
abbrev L0 (o:Nat->Nat):Nat->Prop:=λb=>o b=0
theorem Sl.stp {w w':G9}{o o':Nat->Nat}{f:Fs}{ao:Option Hw}(h:Sl w (L0 o) f ao)(s:as I12 w o w' o'):Sl w' (L0 o') f ao :=
 h.mono (λi hp hl=>s.block i hl (λhi=>by rcases hi with hi|hi<;>(have hp:o i=0:=hp;omega))) s.size (λi hp hl=>(s.lab i hl).trans hp)
theorem Blk.stp {w w':G9}{o o':Nat->Nat}{b:Nat}{ob:Obj}(h:Blk w o 0 b ob)(s:as I12 w o w' o'):Blk w' o' 0 b ob:=h.step s (by simp[I12])
theorem as.ofB {I:Nat->Prop}{w w':G9}(o:Nat->Nat)(b:Hf w.heap.size w w'):as I w o w' o:=⟨b.os,b.tape,b.output,b.size,λ_ _=>rfl,λk hk _=>b.block k hk⟩
theorem ez (I:Nat->Prop)(w:G9)(o:Nat->Nat)(ob:Obj):as I w o (w.alloc ob) (dQ w o 0):=((as.refl I w o).labelled 0).alloc ob
theorem jK (w:G9)(o:Nat->Nat)(cs:Array He)(t:Il):Blk (w.alloc (.cells cs t)) (dQ w o 0) 0 w.heap.size (.cells cs t (0,0)):=⟨Hc w _,dY (G4 _)⟩
def okP (k n:Int)(nm:List UInt8)(m:Nat):Prop:=fl k n=true/\fy k nm=true/\eB k n m=true/\nm.length<=12/\-9223372036854775808<=n/\n<=9223372036854775807
def Fs.okA:Fs->Prop
 | ⟨G0⟩=>True
 | ⟨G1 ⟨k,n,nm,_,ks,r⟩⟩=>okP k n nm ks.len/\ks.okA/\r.okA
def Ex.okA (e:Ex):Prop:=okP e.k e.n e.nm e.kids.len/\e.kids.okA
def Fs.ex (x:Ex)(r:Fs):Fs:=.cons x.k x.n x.nm x.a x.kids r
theorem py {x:Ex}{r:Fs}(h:(Fs.ex x r).okA):x.okA/\r.okA:=⟨⟨h.1,h.2.1⟩,h.2.2⟩
theorem qM (x:Ex)(r:Fs):(Fs.ex x r).size=x.kids.size+r.size+1:=rfl
theorem EG (x:Ex)(r:Fs):(Fs.ex x r).len=r.len+1:=rfl
theorem uy:∀ {f:Fs},f.len=1->∃x,f=Fs.ex x .nil
 | ⟨G0⟩,h=>by cases h
 | ⟨G1 ⟨k,n,nm,a,ks,⟨G0⟩⟩⟩,h=>⟨⟨k,n,nm,a,ks⟩,rfl⟩
 | ⟨G1 ⟨_,_,_,_,_,(⟨G1 ⟨_,_,_,_,_,_⟩⟩)⟩⟩,h=>by simp[Fs.len] at h
theorem jG:∀ {f:Fs},f.len=2->∃x y,f=Fs.ex x (Fs.ex y .nil)
 | ⟨G0⟩,h=>by cases h
 | ⟨G1 ⟨k,n,nm,a,ks,r⟩⟩,h=>by
  obtain⟨y,rfl⟩:=uy (f:=r) (by simp only[Fs.len] at h;omega);exact⟨⟨k,n,nm,a,ks⟩,y,rfl⟩
theorem CS:∀ {f:Fs},f.len=3->∃x y z,f=Fs.ex x (Fs.ex y (Fs.ex z .nil))
 | ⟨G0⟩,h=>by cases h
 | ⟨G1 ⟨k,n,nm,a,ks,r⟩⟩,h=>by
  obtain⟨y,z,rfl⟩:=jG (f:=r) (by simp only[Fs.len] at h;omega);exact⟨⟨k,n,nm,a,ks⟩,y,z,rfl⟩
theorem Sl.kidP {w:G9}{P:Nat->Prop}{x r:Fs}{y:Ex}{ao:Option Hw}(h:Sl w P (x.app (Fs.ex y r)) ao)(i:Nat)(hi:x.len=i):∃b off ak ck,ao=G1 ⟨b,off,G0⟩/\w.cell? ⟨b,off+i*5,G0⟩=G1 (.int .i64 y.k)/\w.cell? ⟨b,off+i*5+1,G0⟩=G1 (.int .i64 y.n)/\w.cell? ⟨b,off+i*5+2,G0⟩=G1 (stv y.nm)/\w.cell? ⟨b,off+i*5+3,G0⟩=G1 (.slice ak y.kids.len ck)/\w.cell? ⟨b,off+i*5+4,G0⟩=G1 (.int .i64 y.a)/\Sl w P y.kids ak:=by
 subst hi;rcases h with h|⟨b,off,zs,rfl,hp,hlt,hc,hf⟩
 ·cases x using Fs.on with
  | nil=>cases h
  | Js k n nm a ks r=>cases h
 ·obtain⟨zx,zy,rfl,h3,h4⟩:=Fc.split hf;have hl:=h3.len;obtain⟨ak,ck,ys,rfl,h5,h6⟩:=h4;have hc':∀ j u,(.int .i64 y.k::.int .i64 y.n::stv y.nm::.slice ak y.kids.len ck::.int .i64 y.a::ys:List He)[j]?=G1 u->w.cell? ⟨b,off+x.len*5+j,G0⟩=G1 u:=λj u hu=>by
   have:=hc (x.len*5+j) u (by rw[IF (by omega),hl,JR];exact hu)
   rw[Nat.add_assoc];exact this
  exact⟨b,off,ak,ck,rfl,hc' 0 _ rfl,hc' 1 _ rfl,hc' 2 _ rfl,hc' 3 _ rfl,hc' 4 _ rfl,h5⟩
def iG:List (List UInt8)->List UInt8->Nat->Int->Int
 | [],_,_,d=>d
 | b::r,nm,i,d=>iG r nm (i+1) (if b=nm then (i:Int) else d)
def ly (pk:Int)(pn:List UInt8)(i:Nat)(bd:List (List UInt8)):List (List UInt8):=if pk=21/\i=1 then bd++[pn] else bd
def ofF:Fs->Int->List UInt8->Nat->List (List UInt8)->Fs
 | ⟨G0⟩,_,_,_,_=>.nil
 | ⟨G1 ⟨k,n,nm,a,ks,r⟩⟩,pk,pn,i,bd =>
  if k=4 then .cons 5 (iG (ly pk pn i bd) nm 0 n) [] 0 .nil (ofF r pk pn (i+1) bd)
  else .cons k n (if k=23 then nm else []) 0 (ofF ks k nm 0 (ly pk pn i bd)) (ofF r pk pn (i+1) bd)
def ofE (e:Ex)(bd:List (List UInt8)):Ex :=
 if e.k=4 then ⟨5,iG bd e.nm 0 e.n,[],0,.nil⟩ else ⟨e.k,e.n,if e.k=23 then e.nm else [],0,ofF e.kids e.k e.nm 0 bd⟩
theorem vI (k n:Int)(nm:List UInt8)(a:Int)(ks r:Fs)(pk:Int)(pn:List UInt8)(i:Nat)(bd:List (List UInt8)) :
  ofF (.cons k n nm a ks r) pk pn i bd=Fs.ex (ofE ⟨k,n,nm,a,ks⟩ (ly pk pn i bd)) (ofF r pk pn (i+1) bd):=by
 conv=>lhs;unfold ofF
 unfold ofE;simp only;split<;>rfl
theorem qO:∀ (f:Fs) (pk:Int) (pn:List UInt8) (i:Nat) (bd:List (List UInt8)),(ofF f pk pn i bd).len=f.len
 | ⟨G0⟩,pk,pn,i,bd=>rfl
 | ⟨G1 ⟨k,n,nm,a,ks,r⟩⟩,pk,pn,i,bd=>by
  have h:=vI k n nm a ks r pk pn i bd;show (ofF (.cons k n nm a ks r) pk pn i bd).len=r.len+1;rw[h];show (ofF r pk pn (i+1) bd).len+1=_;rw[qO r pk pn (i+1) bd]
theorem na:∀ (f:Fs) (pk:Int) (pn:List UInt8) (i:Nat) (bd:List (List UInt8)),f.short->(ofF f pk pn i bd).short
 | ⟨G0⟩,pk,pn,i,bd,h=>trivial
 | ⟨G1 ⟨k,n,nm,a,ks,r⟩⟩,pk,pn,i,bd,h=>by
  have h2:=na r pk pn (i+1) bd h.2.2.2;have h1:=na ks k nm 0 (ly pk pn i bd) h.2.2.1;unfold ofF;split
  ·exact⟨by simp,by show 0<=_;omega,trivial,h2⟩
  ·refine⟨?_,by rw[qO];exact h.2.1,h1,h2⟩;split
   ·exact h.1
   ·simp
theorem Cd (e:Ex)(bd:List (List UInt8)):(ofE e bd).kids.len<=e.kids.len:=by
 unfold ofE;split
 ·show 0<=_;omega
 ·rw[qO];exact G4 _
theorem xO (e:Ex)(bd:List (List UInt8))(h:e.kids.short):(ofE e bd).kids.short:=by
 unfold ofE;split
 ·trivial
 ·exact na _ _ _ _ _ h
theorem Fx (e:Ex)(bd:List (List UInt8))(h:e.nm.length<=Hu):(ofE e bd).nm.length<=Hu:=by
 unfold ofE;split
 ·simp
 ·simp only;split
  ·exact h
  ·simp
theorem Sl.kidQ {P:Nat->Prop}{w:G9}{x r:Fs}{k n:Int}{nm:List UInt8}{a:Int}{ks:Fs}{ao:Option Hw}(h:Sl w P (x.app (.cons k n nm a ks r)) ao):∃b off ak ck,ao=G1 ⟨b,off,G0⟩/\b<w.heap.size/\P b/\w.cell? ⟨b,off+x.len*5,G0⟩=G1 (.int .i64 k)/\w.cell? ⟨b,off+x.len*5+1,G0⟩=G1 (.int .i64 n)/\w.cell? ⟨b,off+x.len*5+2,G0⟩=G1 (stv nm)/\w.cell? ⟨b,off+x.len*5+3,G0⟩=G1 (.slice ak ks.len ck)/\w.cell? ⟨b,off+x.len*5+4,G0⟩=G1 (.int .i64 a)/\Sl w P ks ak:=by
 rcases h with h|⟨b,off,zs,rfl,hp,hlt,hc,hf⟩
 ·cases x using Fs.on with
  | nil=>cases h
  | Js k n nm a ks r=>cases h
 ·obtain⟨zx,zy,rfl,h3,h4⟩:=Fc.split hf;have hl:=h3.len;obtain⟨ak,ck,ys,rfl,h5,h6⟩:=h4;have hc':∀ j u,(.int .i64 k::.int .i64 n::stv nm::.slice ak ks.len ck::.int .i64 a::ys:List He)[j]?=G1 u->w.cell? ⟨b,off+x.len*5+j,G0⟩=G1 u:=λj u hu=>by
   have:=hc (x.len*5+j) u (by rw[IF (by omega),hl,JR];exact hu)
   rw[Nat.add_assoc];exact this
  exact⟨b,off,ak,ck,rfl,hlt,hp,hc' 0 _ rfl,hc' 1 _ rfl,hc' 2 _ rfl,hc' 3 _ rfl,hc' 4 _ rfl,h5⟩
abbrev SlA (w:G9)(f:Fs)(ao:Option Hw):Prop:=Sl w (λ_=>True) f ao
theorem xI {x:Tk}{X:Res}{e:Nat × Nat}(h:mh x X=.inl e):X=.inl e:=by
 cases X with
 | inl e'=>exact h
 | inr l=>cases h
theorem yH {x:Tk}{X:Res}{ts:List Tk}(h:mh x X=.inr ts):∃us,X=.inr us/\ts=x::us:=by
 cases X with
 | inl e=>cases h
 | inr l =>
  refine⟨l,rfl,?_⟩;injection h with h
  exact h.symm
theorem mg {k:Nat}{t:List UInt8}{a e q:Nat}{X:Res}(h:ge k t a X=.inl (e,q)):(k≠0/\jS k t a=.inl e/\q=a)\/(X=.inl (e,q)/\(k=0\/∃x,jS k t a=.inr x)):=by
 unfold ge at h;by_cases hk:k=0
 ·rw[if_pos hk] at h;exact .inr ⟨h,.inl hk⟩
 ·rw[if_neg hk] at h;cases hp:jS k t a with
  | inl e' =>
   rw[hp] at h;simp only at h;injection h with h
   injection h with h1 h2
   exact .inl ⟨hk,by rw[h1],h2.symm⟩
  | inr x =>
   rw[hp] at h;exact .inr ⟨xI h,.inr ⟨x,rfl⟩⟩
theorem fF {k:Nat}{t:List UInt8}{a:Nat}{X:Res}{ts:List Tk}(h:ge k t a X=.inr ts):(k=0/\X=.inr ts)\/(k≠0/\∃x us,jS k t a=.inr x/\X=.inr us/\ts=x::us):=by
 unfold ge at h;by_cases hk:k=0
 ·rw[if_pos hk] at h;exact .inl ⟨hk,h⟩
 ·rw[if_neg hk] at h;cases hp:jS k t a with
  | inl e'=>rw[hp] at h;cases h
  | inr x =>
   rw[hp] at h;obtain⟨us,h1,h2⟩:=yH h;exact .inr ⟨hk,x,us,rfl,h1,h2⟩
theorem yR (k:Nat)(t:List UInt8)(a p:Nat)(l:List UInt8)(e q:Nat)(h:fg k t a p l=.inl (e,q)):(k≠0/\q=a)\/(p<=q/\q<p+l.length):=by
 induction l generalizing k t a p with
 | nil =>
  rcases mg h with ⟨h1,_,h2⟩|⟨h1,_⟩
  ·exact .inl ⟨h1,h2⟩
  ·cases h1
 | Js c r ih =>
  simp only[Hy];cases ht:tks k t c.toNat
  ·rw[gi ht] at h;rcases mg h with ⟨h1,_,h2⟩|⟨h1,_⟩
   ·exact .inl ⟨h1,h2⟩
   ·rcases ih _ _ _ _ h1 with ⟨_,h2⟩|⟨h2,h3⟩
    ·exact .inr ⟨by omega,by omega⟩
    ·exact .inr ⟨by omega,by omega⟩
  ·rw[fY ht] at h;rcases ih _ _ _ _ h with h2|⟨h2,h3⟩
   ·exact .inl h2
   ·exact .inr ⟨by omega,by omega⟩
theorem Ae (k:Nat)(t:List UInt8)(a p:Nat)(l:List UInt8)(e q:Nat)(h:fg k t a p l=.inl (e,q)):e=110\/e=111\/e=112:=by
 induction l generalizing k t a p with
 | nil =>
  rcases mg h with ⟨h1,h2,_⟩|⟨h1,_⟩
  ·exact ta h2
  ·cases h1
 | Js c r ih =>
  cases ht:tks k t c.toNat
  ·rw[gi ht] at h;rcases mg h with ⟨h1,h2,_⟩|⟨h1,_⟩
   ·exact ta h2
   ·exact ih _ _ _ _ h1
  ·rw[fY ht] at h;exact ih _ _ _ _ h
theorem uC {l:List UInt8}(h:l.length<=2000):iE l=pJ l:=by
 unfold iE;rw[if_neg (by omega)]
theorem Bp {l:List UInt8}{e q:Nat}(h:iE l=.inl (e,q))(he:e≠113):l.length<=2000/\pJ l=.inl (e,q)/\q<l.length/\(e=110\/e=111\/e=112):=by
 unfold iE at h;split at h
 ·injection h with h
  injection h with h1 h2
  omega
 ·refine⟨by omega,h,?_,Ae _ _ _ _ _ _ _ h⟩;rcases yR _ _ _ _ _ _ _ h with ⟨h1,_⟩|⟨_,h1⟩
  ·exact absurd rfl h1
  ·omega
theorem tB {k:Nat}{t:List UInt8}{a:Nat}{x:Tk}(h:jS k t a=.inr x):x.a=a/\∀ a',jS k t a'=.inr ⟨x.k,x.n,x.t,a'⟩:=by
 unfold jS at h ⊢;split at h
 ·unfold jA at h ⊢;split at h
  ·rename_i h1
   injection h with h
   subst h;exact⟨rfl,λa'=>by rw[if_pos h1]⟩
  ·rename_i h1
   split at h
   ·rename_i h2
    injection h with h
    subst h;exact⟨rfl,λa'=>by rw[if_neg h1,if_pos h2]⟩
   ·cases h
 ·unfold kL at h ⊢;cases ha:J9 t with
  | ok v =>
   rw[ha] at h;simp only at h ⊢;split at h
   ·cases h
   ·rename_i h1
    injection h with h
    subst h;exact⟨rfl,λa'=>by rw[if_neg h1]⟩
  | _=>rw[ha] at h;cases h
 ·unfold pF at h ⊢;split at h
  ·cases h
  ·rename_i h1
   injection h with h
   subst h;exact⟨rfl,λa'=>by rw[if_neg h1]⟩
 ·cases h
theorem uQ (k:Nat)(t:List UInt8)(a p:Nat)(l:List UInt8)(ts:List Tk)(h:fg k t a p l=.inr ts)(ha:a<=p):∀ x,x ∈ ts->x.a<=p+l.length:=by
 induction l generalizing k t a p ts with
 | nil =>
  intro x hx;rcases fF h with ⟨rfl,h1⟩|⟨hk,y,us,hp,h1,h2⟩
  ·injection h1 with h1
   subst h1;simp at hx;subst hx;exact G4 _
  ·injection h1 with h1
   subst h1 h2;simp at hx;rcases hx with rfl|rfl
   ·have:=(tB hp).1
    simp;omega
   ·exact G4 _
 | Js c r ih =>
  have e1:p+(c::r).length=p+1+r.length:=by simp;omega
  rw[e1];cases ht:tks k t c.toNat
  ·rw[gi ht] at h;rcases fF h with ⟨rfl,h1⟩|⟨hk,y,us,hp,h1,h2⟩
   ·exact ih _ _ _ _ _ h1 (by omega)
   ·subst h2;intro x hx;rcases List.mem_cons.1 hx with rfl|hx
    ·have:=(tB hp).1
     omega
    ·exact ih _ _ _ _ _ h1 (by omega) x hx
  ·rw[fY ht] at h;exact ih _ _ _ _ _ h (by omega)
theorem xJ (k:Nat)(t:List UInt8)(a p:Nat)(l:List UInt8)(ts:List Tk)(h:fg k t a p l=.inr ts):ts.length<=l.length+2/\0<ts.length/\(k=0->ts.length<=l.length+1):=by
 induction l generalizing k t a p ts with
 | nil =>
  rcases fF h with ⟨rfl,h1⟩|⟨hk,y,us,hp,h1,h2⟩
  ·injection h1 with h1
   subst h1;simp
  ·injection h1 with h1
   subst h1 h2;simp[hk]
 | Js c r ih =>
  simp only[Hy];cases ht:tks k t c.toNat
  ·rw[gi ht] at h;rcases fF h with ⟨rfl,h1⟩|⟨hk,y,us,hp,h1,h2⟩
   ·have:=ih _ _ _ _ _ h1
    exact⟨by omega,by omega,λ_=>by omega⟩
   ·subst h2
    have:=ih _ _ _ _ _ h1
    simp only[Hy];exact⟨by omega,by omega,λh=>absurd h hk⟩
  ·rw[fY ht] at h
   have:=ih _ _ _ _ _ h
   exact⟨by omega,by omega,λh=>by have:=this.2.2 h;omega⟩
theorem l9 {l:List UInt8}{ts:List Tk}(h:iE l=.inr ts):l.length<=2000/\pJ l=.inr ts/\ts.length<=2001/\ts.length<=l.length+1/\0<ts.length/\(∀ x,x ∈ ts->x.a<=l.length):=by
 unfold iE at h;split at h
 ·cases h
 ·have h1:=xJ _ _ _ _ _ _ h;have h2:=uQ _ _ _ _ _ _ h (G4 _);have h3:=h1.2.2 rfl;exact⟨by omega,h,by omega,h3,h1.2.1,λx hx=>by have:=h2 x hx;omega⟩
theorem qZ {l:List UInt8}{e q:Nat}(h:iE l=.inl (e,q)):e≠0:=by
 by_cases he:e=113
 ·omega
 ·have:=(Bp h he).2.2.2
  omega
def WFT (ts:List Tk):Prop:=∃e,ts.getLast?=G1 e/\e.k=0/\e.t=[]
theorem WFT.tail {x:Tk}{r:List Tk}(h:WFT (x::r))(hx:x.t≠[]\/x.k≠0):WFT r:=by
 obtain⟨e,h1,h2,h3⟩:=h;cases r with
 | nil =>
  simp at h1;subst h1;rcases hx with hx|hx
  ·exact absurd h3 hx
  ·exact absurd h2 hx
 | Js y l=>exact⟨e,by rw[List.getLast?_cons_cons] at h1;exact h1,h2,h3⟩
theorem WFT.ne {ts:List Tk}(h:WFT ts):ts≠[]:=by
 obtain⟨e,h1,_⟩:=h;intro e2;subst e2;cases h1
def gR {α:Type}(b:Nat)(r:Rs α):Prop :=
 match r with
 | ⟨G0⟩=>False
 | ⟨G1 (.inl (_,_))⟩=>True
 | ⟨G1 (.inr (_,t))⟩=>WFT t/\t.length<b
theorem gR.bind {α β:Type}{b c:Nat}{r:Rs α}{f:α->List Tk->Rs β}(h:gR b r)(hf:∀ x t,WFT t->t.length<b->gR c (f x t)):gR c (r.bind f):=by
 cases r using Rs.on with
 | out=>exact h.elim
 | bad e a=>exact trivial
 | ok x t=>exact hf x t h.1 h.2
theorem iy {s:List UInt8}(hs:s≠[]){ts:List Tk}(h:WFT ts):gR ts.length (eI s ts):=by
 cases ts with
 | nil=>exact absurd rfl h.ne
 | Js x r =>
  simp only[eI];by_cases hx:x.t=s
  ·rw[if_pos hx];exact⟨h.tail (.inl (by rw[hx];exact hs)),by simp⟩
  ·rw[if_neg hx];exact trivial
theorem qh {k:Nat}(hk:k≠0){ts:List Tk}(h:WFT ts):gR ts.length (il k ts):=by
 cases ts with
 | nil=>exact absurd rfl h.ne
 | Js x r =>
  simp only[il];by_cases hx:x.k=k
  ·rw[if_pos hx];exact⟨h.tail (.inr (by rw[hx];exact hk)),by simp⟩
  ·rw[if_neg hx];exact trivial
theorem jI {s:List UInt8}(hs:s≠[])(o:Nat){ts:List Tk}(h:WFT ts):gR ts.length (el s o ts):=by
 cases ts with
 | nil=>exact absurd rfl h.ne
 | Js x r =>
  simp only[el];by_cases hx:x.t=s
  ·rw[if_pos hx];by_cases ho:o=64
   ·rw[if_pos ho];exact trivial
   ·rw[if_neg ho];exact⟨h.tail (.inl (by rw[hx];exact hs)),by simp⟩
  ·rw[if_neg hx];exact trivial
section
variable {rec:Rdr}{n:Nat}
theorem gT (H:∀ row o q ts,row<=8->WFT ts->10*ts.length+(9-row)<=n->gR ts.length (rec row o q ts)){o q:Nat}{ts:List Tk}(h:WFT ts)(hn:10*ts.length+8<=n):gR ts.length (rec 1 o q ts):=H 1 o q ts (by omega) h (by omega)
theorem pj (H:∀ row o q ts,row<=8->WFT ts->10*ts.length+(9-row)<=n->gR ts.length (rec row o q ts)):∀ (j:Nat) (o q:Nat) (acc:Fs) (ts:List Tk) (b:Nat),WFT ts->10*ts.length+8<=n->ts.length<b->gR b (jB rec j o q acc ts)
 | 0,o,q,acc,ts,b,h,hn,hb=>⟨h,hb⟩
 | j+1,o,q,acc,ts,b,h,hn,hb=>by
  unfold jB;refine(iy (by simp) h).bind λ_ t1 h1 l1=>?_;refine(gT H h1 (by omega)).bind λe t2 h2 l2=>?_;exact pj H j o q _ t2 b h2 (by omega) (by omega)
theorem m7 (H:∀ row o q ts,row<=8->WFT ts->10*ts.length+(9-row)<=n->gR ts.length (rec row o q ts))(many o q:Nat){ts:List Tk}(h:WFT ts)(hn:10*ts.length<=n):gR ts.length (iP rec many o q ts):=by
 unfold iP;refine(jI (by simp) o h).bind λ_ t1 h1 l1=>?_;refine(gT H h1 (by omega)).bind λe t2 h2 l2=>?_;refine(pj H (many-1) (o+1) q _ t2 (t2.length+1) h2 (by omega) (by omega)).bind λks t3 h3 l3=>?_;refine(iy (by simp) h3).bind λ_ t4 h4 l4=>?_;exact⟨h4,by omega⟩
theorem ti (H:∀ row o q ts,row<=8->WFT ts->10*ts.length+(9-row)<=n->gR ts.length (rec row o q ts))(o q:Nat){ts:List Tk}(h:WFT ts)(hn:10*ts.length<=n):gR ts.length (gP rec o q ts):=by
 unfold gP;refine(jI (by simp) o h).bind λ_ t1 h1 l1=>?_;refine(gT H h1 (by omega)).bind λe t2 h2 l2=>?_;refine(iy (by simp) h2).bind λ_ t3 h3 l3=>?_;refine(gT H h3 (by omega)).bind λe t4 h4 l4=>?_;refine(iy (by simp) h4).bind λ_ t5 h5 l5=>?_;refine(gT H h5 (by omega)).bind λe t6 h6 l6=>?_;exact⟨h6,by omega⟩
theorem qA (H:∀ row o q ts,row<=8->WFT ts->10*ts.length+(9-row)<=n->gR ts.length (rec row o q ts)):∀ (m:Nat) (o q:Nat) (acc:Fs) (ts:List Tk) (b:Nat),WFT ts->10*ts.length+8<=n->ts.length<m->ts.length<b->gR b (jW rec m o q acc ts)
 | 0,o,q,acc,ts,b,h,hn,hm,hb=>by omega
 | m+1,o,q,acc,ts,b,h,hn,hm,hb=>by
  cases ts with
  | nil=>exact absurd rfl h.ne
  | Js x r =>
   unfold jW;simp only[Hy] at hn hm hb;by_cases hx:x.t=[44]
   ·simp only[hx,if_true];have hr:=h.tail (.inl (by rw[hx];simp));refine(gT H hr (by omega)).bind λe t2 h2 l2=>?_;exact qA H m o q _ t2 b h2 (by omega) (by omega) (by omega)
   ·simp only[hx,if_false];exact⟨h,by simpa using hb⟩
theorem AK (H:∀ row o q ts,row<=8->WFT ts->10*ts.length+(9-row)<=n->gR ts.length (rec row o q ts))(m o q:Nat){ts:List Tk}(h:WFT ts)(hn:10*ts.length+8<=n)(hm:ts.length<m):gR (ts.length+1) (mQ rec m o q ts):=by
 cases ts with
 | nil=>exact absurd rfl h.ne
 | Js x r =>
  unfold mQ;by_cases hx:x.t=[125]
  ·simp only[hx,if_true];exact⟨h,by omega⟩
  ·simp only[hx,if_false];refine(gT H h hn).bind λe t1 h1 l1=>?_;exact qA H m o q _ t1 _ h1 (by omega) (by omega) (by omega)
theorem AJ (H:∀ row o q ts,row<=8->WFT ts->10*ts.length+(9-row)<=n->gR ts.length (rec row o q ts))(m o q:Nat){ts:List Tk}(h:WFT ts)(hn:10*ts.length<=n)(hm:ts.length<m):gR ts.length (iZ rec m o q ts):=by
 cases ts with
 | nil=>exact absurd rfl h.ne
 | Js x r =>
  unfold iZ;simp only[Hy] at hn hm;by_cases hk:x.k=2
  ·simp only[hk,if_true];exact⟨h.tail (.inr (by rw[hk];decide)),by simp⟩
  simp only[hk,if_false];by_cases hv:x.t=[118,101,114,116,105,99,101,115]
  ·simp only[hv,if_true];exact⟨h.tail (.inl (by rw[hv];simp)),by simp⟩
  simp only[hv,if_false];by_cases ha:x.t=[97,114,111,117,110,100]
  ·simp only[ha,if_true];have hr:=h.tail (.inl (by rw[ha];simp));refine(m7 H 1 o q hr (by omega)).bind λks t h1 l1=>?_;exact⟨h1,by simp;omega⟩
  simp only[ha,if_false];refine(jI (by simp) o h).bind λa t1 h1 l1=>?_;simp only[Hy] at l1;refine(AK H m (o+1) q h1 (by omega) (by omega)).bind λks t2 h2 l2=>?_;refine(iy (by simp) h2).bind λ_ t3 h3 l3=>?_;exact⟨h3,by simp;omega⟩
theorem uY (H:∀ row o q ts,row<=8->WFT ts->10*ts.length+(9-row)<=n->gR ts.length (rec row o q ts))(m:Nat){s:List UInt8}(hs:s≠[])(k o q:Nat){ts:List Tk}(h:WFT ts)(hn:10*ts.length<=n)(hm:ts.length<m):gR ts.length (gz rec m s k o q ts):=by
 cases ts with
 | nil=>exact absurd rfl h.ne
 | Js x r =>
  unfold gz;by_cases h4:q=4
  ·simp only[h4,if_true];exact trivial
  simp only[h4,if_false];refine(jI hs o h).bind λ_ t1 h1 l1=>?_;refine(qh (by decide) h1).bind λ_ t2 h2 l2=>?_;refine(iy (by simp) h2).bind λ_ t3 h3 l3=>?_;refine(AJ H m (o+1) (q+1) h3 (by omega) (by omega)).bind λe t4 h4 l4=>?_;refine(iy (by simp) h4).bind λ_ t5 h5 l5=>?_;refine(gT H h5 (by omega)).bind λe t6 h6 l6=>?_;exact⟨h6,by omega⟩
theorem yI (H:∀ row o q ts,row<=8->WFT ts->10*ts.length+(9-row)<=n->gR ts.length (rec row o q ts))(m o q:Nat){ts:List Tk}(h:WFT ts)(hn:10*ts.length<=n)(hm:ts.length<m):gR ts.length (fB rec m o q ts):=by
 cases ts with
 | nil=>exact absurd rfl h.ne
 | Js x r =>
  unfold fB;have hl:r.length<(x::r).length:=by simp
  simp only;by_cases h1:x.k=1
  ·simp only[h1,if_true];exact⟨h.tail (.inr (by rw[h1];decide)),hl⟩
  simp only[h1,if_false];by_cases h2:x.k=2
  ·simp only[h2,if_true];exact⟨h.tail (.inr (by rw[h2];decide)),hl⟩
  simp only[h2,if_false];by_cases h3:x.t=[102,97,108,115,101]
  ·simp only[h3,if_true];exact⟨h.tail (.inl (by rw[h3];simp)),hl⟩
  simp only[h3,if_false];by_cases h4:x.t=[116,114,117,101]
  ·simp only[h4,if_true];exact⟨h.tail (.inl (by rw[h4];simp)),hl⟩
  simp only[h4,if_false];by_cases h5:x.t=[64]
  ·simp only[h5,if_true];have hr:=h.tail (.inl (by rw[h5];simp));refine(qh (by decide) hr).bind λ_ t2 k2 l2=>?_;exact⟨k2,by omega⟩
  simp only[h5,if_false];by_cases h6:x.t=[40]
  ·simp only[h6,if_true];refine(m7 H 1 o q h hn).bind λks t1 k1 l1=>?_;exact⟨k1,l1⟩
  simp only[h6,if_false];by_cases h7:x.t=[105,102]
  ·simp only[h7,if_true];exact ti H o q h hn
  simp only[h7,if_false];cases hc:oj x.t with
  | some z =>
   obtain⟨a,k,many⟩:=z;have hx:x.t≠[]:=λe=>by rw[e] at hc;cases hc
   have hr:=h.tail (.inl hx);simp only[Hy] at hn;refine(m7 H many o q hr (by omega)).bind λks t1 k1 l1=>?_;exact⟨k1,by omega⟩
  | none =>
   cases hq:ma x.t with
   | some z =>
    obtain⟨a,k⟩:=z;have hx:x.t≠[]:=λe=>by rw[e] at hq;cases hq
    exact uY H m hx k o q h hn hm
   | none=>exact trivial
theorem pV (H:∀ row o q ts,row<=8->WFT ts->10*ts.length+(9-row)<=n->gR ts.length (rec row o q ts)){s:List UInt8}(hs:s≠[])(k:Int)(row o q:Nat)(hrow:row<=7){ts:List Tk}(h:WFT ts)(hn:10*ts.length+(8-row)<=n):gR ts.length (f9 rec s k row o q ts):=by
 cases ts with
 | nil=>exact absurd rfl h.ne
 | Js x r =>
  unfold f9;by_cases hx:x.t=s
  ·simp only[hx,if_true];by_cases ho:o=64
   ·simp only[ho,if_true];exact trivial
   ·simp only[ho,if_false];have hr:=h.tail (.inl (by rw[hx];exact hs));simp only[Hy] at hn;refine(H row (o+1) q r (by omega) hr (by omega)).bind λe t2 h2 l2=>?_;exact⟨h2,by simp;omega⟩
  ·simp only[hx,if_false];exact H (row+1) o q _ (by omega) h (by omega)
theorem nr (H:∀ row o q ts,row<=8->WFT ts->10*ts.length+(9-row)<=n->gR ts.length (rec row o q ts)):∀ (m row o q:Nat) (left:Ex) (ts:List Tk) (b:Nat),WFT ts->10*ts.length+8<=n->ts.length<m->ts.length<b->gR b (fW rec m row o q left ts)
 | 0,row,o,q,left,ts,b,h,hn,hm,hb=>by omega
 | m+1,row,o,q,left,ts,b,h,hn,hm,hb=>by
  cases ts with
  | nil=>exact absurd rfl h.ne
  | Js x r =>
   unfold fW;simp only;cases hz:yB x.t row with
   | none=>exact⟨h,hb⟩
   | some z =>
    obtain⟨zt,zk,zr,zl,zz⟩:=z;have hx:x.t≠[]:=λe=>by
     have h1:=Ii hz;have h2:=Jm hz;simp at h2;have h3:=h2.1;rw[e] at h3;simp only[iO,IR,IP,or_false,Jf] at h1;rcases h1 with ⟨h,_⟩|⟨h,_⟩|⟨h,_⟩|⟨h,_⟩|⟨h,_⟩|⟨h,_⟩|⟨h,_⟩|⟨h,_⟩|⟨h,_⟩|⟨h,_⟩|⟨h,_⟩<;>(rw[h3] at h;cases h)
    have hz8:zz<=8:=by
     have h1:=Ii hz;simp only[iO,IR,IP,or_false,Jf] at h1;rcases h1 with h|h|h|h|h|h|h|h|h|h|h<;>(have:=h.2.2.2.2;omega)
    have hr:=h.tail (.inl hx);simp only[Hy] at hn hm hb;refine(H zz o q r hz8 hr (by omega)).bind λe t2 h2 l2=>?_;by_cases hlt:row<zl
    ·simp only[hlt,if_true];exact⟨h2,by omega⟩
    ·simp only[hlt,if_false];exact nr H m row o q _ t2 b h2 (by omega) (by omega) (by omega)
end
theorem qg:∀ (n row o q:Nat) (ts:List Tk),row<=8->WFT ts->10*ts.length+(9-row)<=n->gR ts.length (fN n row o q ts)
 | 0,row,o,q,ts,hr,h,hn=>by
  have:=List.length_pos_iff.2 h.ne
  omega
 | n+1,row,o,q,ts,hr,h,hn=>by
  have H:=qg n;have hp:=List.length_pos_iff.2 h.ne;unfold fN;by_cases h3:row=3
  ·simp only[h3,if_true];exact pV H (by simp) 7 3 o q (by omega) h (by omega)
  simp only[h3,if_false];by_cases h7:row=7
  ·simp only[h7,if_true];exact pV H (by simp) 6 7 o q (by omega) h (by omega)
  simp only[h7,if_false];by_cases h8:row=8
  ·simp only[h8,if_true];exact yI H n o q h (by omega) (by omega)
  simp only[h8,if_false];refine(H (row+1) o q ts (by omega) h (by omega)).bind λl t h1 l1=>?_;exact nr H n row o q l t _ h1 (by omega) (by omega) l1
theorem yG {n:Nat}{ts:List Tk}(h:WFT ts)(hn:10*ts.length+8<=n):jh n ts≠.out:=by
 intro e;have F:gR ts.length (jh n ts)\/jh n ts≠.out:=by
  refine .inr ?_
  have:=qg n 1 0 0 ts (by omega) h (by omega)
  unfold jh;cases hr:fN n 1 0 0 ts using Rs.on with
  | out=>rw[hr] at this;exact this.elim
  | bad e a=>intro h;cases h
  | ok x t =>
   rw[hr] at this;cases t with
   | nil=>exact absurd rfl this.1.ne
   | Js y l =>
    simp only[Rs.bind];by_cases hy:y.k=0
    ·simp[hy]
    ·simp[hy]
 rcases F with F|F
 ·rw[e] at F;exact F
 ·exact F e
theorem xh (k:Nat)(t:List UInt8)(a p:Nat)(l:List UInt8)(ts:List Tk)(h:fg k t a p l=.inr ts):WFT ts:=by
 induction l generalizing k t a p ts with
 | nil =>
  unfold fg at h;rcases fF h with ⟨_,h2⟩|⟨_,x,us,_,h2,rfl⟩
  ·unfold tE at h2;injection h2 with h2;subst h2;exact⟨_,rfl,rfl,rfl⟩
  ·unfold tE at h2;injection h2 with h2;subst h2;exact⟨_,rfl,rfl,rfl⟩
 | Js c r ih =>
  unfold fg at h;split at h
  ·exact ih _ _ _ _ _ h
  ·rcases fF h with ⟨_,h2⟩|⟨_,x,us,_,h2,rfl⟩
   ·exact ih _ _ _ _ _ h2
   ·have:=ih _ _ _ _ _ h2
    obtain⟨e,h1,h3⟩:=this;cases us with
    | nil=>cases h1
    | Js y l=>exact⟨e,by rw[List.getLast?_cons_cons];exact h1,h3⟩
def ic (l:List UInt8):Rs Ex :=
 match iE l with
 | .inl (e,p)=>.bad e p
 | .inr ts=>jh 30000 ts
theorem ug (l:List UInt8):ic l≠.out:=by
 unfold ic;cases h:iE l with
 | inl x=>obtain⟨e,p⟩:=x;intro h;cases h
 | inr ts =>
  have hs:=l9 h;exact yG (xh _ _ _ _ _ _ hs.2.1) (by omega)
def Lq {α:Type}(b:List Tk)(r:Rs α):Prop:=∀ x t,r=.ok x t->t <:+ b
theorem Lq.bind {α β:Type}{b:List Tk}{r:Rs α}{f:α->List Tk->Rs β}(h:Lq b r)(hf:∀ x t,t <:+ b->Lq b (f x t)):Lq b (r.bind f):=by
 cases r using Rs.on with
 | out=>intro x t e;cases e
 | bad e a=>intro x t e;cases e
 | ok x t=>exact hf x t (h x t rfl)
theorem Lq.bad {α:Type}(b:List Tk)(e a:Nat):Lq b (.bad e a:Rs α):=λx t h=>by cases h
theorem Lq.out {α:Type}(b:List Tk):Lq b (.out:Rs α):=λx t h=>by cases h
theorem Lq.ok {α:Type}{b:List Tk}(x:α){t:List Tk}(h:t <:+ b):Lq b (.ok x t):=λy u e=>by
 obtain⟨_,e⟩:=Rs.ok_inj e;subst e;exact h
theorem jM (s:List UInt8){b:List Tk}{ts:List Tk}(h:ts <:+ b):Lq b (eI s ts):=by
 cases ts with
 | nil=>exact Lq.out _
 | Js x r =>
  simp only[eI];split
  ·exact Lq.ok _ ((Iz x r).trans h)
  ·exact Lq.bad _ _ _
theorem vS (k:Nat){b:List Tk}{ts:List Tk}(h:ts <:+ b):Lq b (il k ts):=by
 cases ts with
 | nil=>exact Lq.out _
 | Js x r =>
  simp only[il];split
  ·exact Lq.ok _ ((Iz x r).trans h)
  ·exact Lq.bad _ _ _
theorem mq (s:List UInt8)(o:Nat){b:List Tk}{ts:List Tk}(h:ts <:+ b):Lq b (el s o ts):=by
 cases ts with
 | nil=>exact Lq.out _
 | Js x r =>
  simp only[el];split
  ·split
   ·exact Lq.bad _ _ _
   ·exact Lq.ok _ ((Iz x r).trans h)
  ·exact Lq.bad _ _ _
section
variable {rec:Rdr}
theorem tH (H:∀ row o q ts b,ts <:+ b->Lq b (rec row o q ts)):∀ (j:Nat) (o q:Nat) (acc:Fs) (ts:List Tk) (b:List Tk),ts <:+ b->Lq b (jB rec j o q acc ts)
 | 0,o,q,acc,ts,b,h=>Lq.ok _ h
 | j+1,o,q,acc,ts,b,h=>by
  unfold jB;exact(jM _ h).bind λ_ t1 h1=>(H _ _ _ _ _ h1).bind λe t2 h2=>tH H j o q _ t2 b h2
theorem ry (H:∀ row o q ts b,ts <:+ b->Lq b (rec row o q ts))(many o q:Nat){b:List Tk}{ts:List Tk}(h:ts <:+ b):Lq b (iP rec many o q ts):=by
 unfold iP;exact(mq _ _ h).bind λ_ t1 h1=>(H _ _ _ _ _ h1).bind λe t2 h2=>(tH H _ _ _ _ t2 b h2).bind λks t3 h3=>(jM _ h3).bind λ_ t4 h4=>Lq.ok _ h4
theorem xT (H:∀ row o q ts b,ts <:+ b->Lq b (rec row o q ts))(o q:Nat){b:List Tk}{ts:List Tk}(h:ts <:+ b):Lq b (gP rec o q ts):=by
 unfold gP;exact(mq _ _ h).bind λ_ t1 h1=>(H _ _ _ _ _ h1).bind λe t2 h2=>(jM _ h2).bind λ_ t3 h3=>(H _ _ _ _ _ h3).bind λe t4 h4=>(jM _ h4).bind λ_ t5 h5=>(H _ _ _ _ _ h5).bind λe t6 h6=>Lq.ok _ h6
theorem vY (H:∀ row o q ts b,ts <:+ b->Lq b (rec row o q ts)):∀ (m:Nat) (o q:Nat) (acc:Fs) (ts:List Tk) (b:List Tk),ts <:+ b->Lq b (jW rec m o q acc ts)
 | 0,o,q,acc,ts,b,h=>Lq.out _
 | m+1,o,q,acc,[],b,h=>Lq.out _
 | m+1,o,q,acc,x::r,b,h=>by
  unfold jW;simp only;split
  ·exact(H _ _ _ _ _ ((Iz x r).trans h)).bind λe t2 h2=>vY H m o q _ t2 b h2
  ·exact Lq.ok _ h
theorem FL (H:∀ row o q ts b,ts <:+ b->Lq b (rec row o q ts))(m o q:Nat){b:List Tk}{ts:List Tk}(h:ts <:+ b):Lq b (mQ rec m o q ts):=by
 cases ts with
 | nil=>exact Lq.out _
 | Js x r =>
  unfold mQ;simp only;split
  ·exact Lq.ok _ h
  ·exact(H _ _ _ _ _ h).bind λe t1 h1=>vY H m o q _ t1 b h1
theorem FM (H:∀ row o q ts b,ts <:+ b->Lq b (rec row o q ts))(m o q:Nat){b:List Tk}{ts:List Tk}(h:ts <:+ b):Lq b (iZ rec m o q ts):=by
 cases ts with
 | nil=>exact Lq.out _
 | Js x r =>
  have hr:r <:+ b:=(Iz x r).trans h;unfold iZ;simp only;split
  ·exact Lq.ok _ hr
  ·split
   ·exact Lq.ok _ hr
   ·split
    ·exact(ry H 1 o q hr).bind λks t h1=>Lq.ok _ h1
    ·exact(mq _ _ h).bind λ_ t1 h1=>(FL H m _ q h1).bind λks t2 h2=>(jM _ h2).bind λ_ t3 h3=>Lq.ok _ h3
theorem z8 (H:∀ row o q ts b,ts <:+ b->Lq b (rec row o q ts))(m:Nat)(s:List UInt8)(k o q:Nat){b:List Tk}{ts:List Tk}(h:ts <:+ b):Lq b (gz rec m s k o q ts):=by
 cases ts with
 | nil=>exact Lq.out _
 | Js x r =>
  unfold gz;simp only;split
  ·exact Lq.bad _ _ _
  ·exact(mq _ _ h).bind λ_ t1 h1=>(vS _ h1).bind λ_ t2 h2=>(jM _ h2).bind λ_ t3 h3=>(FM H m _ _ h3).bind λ_ t4 h4=>(jM _ h4).bind λ_ t5 h5=>(H _ _ _ _ _ h5).bind λe t6 h6=>Lq.ok _ h6
theorem CW (H:∀ row o q ts b,ts <:+ b->Lq b (rec row o q ts))(m o q:Nat){b:List Tk}{ts:List Tk}(h:ts <:+ b):Lq b (fB rec m o q ts):=by
 cases ts with
 | nil=>exact Lq.out _
 | Js x r =>
  have hr:r <:+ b:=(Iz x r).trans h;unfold fB;simp only;split
  ·exact Lq.ok _ hr
  ·split
   ·exact Lq.ok _ hr
   ·split
    ·exact Lq.ok _ hr
    ·split
     ·exact Lq.ok _ hr
     ·split
      ·exact(vS _ hr).bind λ_ t h1=>Lq.ok _ h1
      ·split
       ·exact(ry H 1 o q h).bind λks t h1=>Lq.ok _ h1
       ·split
        ·exact xT H o q h
        ·split
         ·exact(ry H _ o q hr).bind λks t h1=>Lq.ok _ h1
         ·split
          ·exact z8 H m _ _ o q h
          ·exact Lq.bad _ _ _
theorem we (H:∀ row o q ts b,ts <:+ b->Lq b (rec row o q ts))(s:List UInt8)(k:Int)(row o q:Nat){b:List Tk}{ts:List Tk}(h:ts <:+ b):Lq b (f9 rec s k row o q ts):=by
 cases ts with
 | nil=>exact Lq.out _
 | Js x r =>
  have hr:r <:+ b:=(Iz x r).trans h;unfold f9;simp only;split
  ·split
   ·exact Lq.bad _ _ _
   ·exact(H _ _ _ _ _ hr).bind λe t2 h2=>Lq.ok _ h2
  ·exact H _ _ _ _ _ h
theorem qG (H:∀ row o q ts b,ts <:+ b->Lq b (rec row o q ts)):∀ (m row o q:Nat) (left:Ex) (ts:List Tk) (b:List Tk),ts <:+ b->Lq b (fW rec m row o q left ts)
 | 0,row,o,q,left,ts,b,h=>Lq.out _
 | m+1,row,o,q,left,[],b,h=>Lq.out _
 | m+1,row,o,q,left,x::r,b,h=>by
  have hr:r <:+ b:=(Iz x r).trans h;unfold fW;simp only;split
  ·exact Lq.ok _ h
  ·refine(H _ _ _ _ _ hr).bind λe t2 h2=>?_;split
   ·exact Lq.ok _ h2
   ·exact qG H m row o q _ t2 b h2
end
theorem vX:∀ (n row o q:Nat) (ts:List Tk) (b:List Tk),ts <:+ b->Lq b (fN n row o q ts)
 | 0,row,o,q,ts,b,h=>Lq.out _
 | n+1,row,o,q,ts,b,h=>by
  have H:=vX n;unfold fN;split
  ·exact we H _ _ _ _ _ h
  ·split
   ·exact we H _ _ _ _ _ h
   ·split
    ·exact CW H n o q h
    ·exact(H _ _ _ _ _ h).bind λl t h1=>qG H n row o q l t b h1
section
variable {g d:Nat}{v v':List Tk}
variable {rec:Rdr}
end
theorem gj (w:G9)(xs:List He)(t:Il):∀ j u,xs[j]?=G1 u->(w.alloc (.cells xs.toArray t)).cell? ((⟨w.heap.size,0,G0⟩:Hw).add j)=G1 u:=λj u hu=>by
 rw[show (⟨w.heap.size,0,G0⟩:Hw).add j=⟨w.heap.size,j,G0⟩ by simp only[JA];split<;>simp_all];rw[If _ w.heap.size j _ t (0,0) (Hc w _)];simpa using hu
theorem ir (w:G9)(b k:Nat)(b0 b1 b2 b3 b4:He)(h:k≠b):(((((w.setCell ⟨b,0,G0⟩ b0).setCell ⟨b,1,G0⟩ b1).setCell ⟨b,2,G0⟩ b2).setCell ⟨b,3,G0⟩ b3).setCell ⟨b,4,G0⟩ b4).heap[k]?=w.heap[k]? :=
 (Hl _ ⟨b,4,G0⟩ k b4 h).trans ((Hl _ ⟨b,3,G0⟩ k b3 h).trans ((Hl _ ⟨b,2,G0⟩ k b2 h).trans ((Hl _ ⟨b,1,G0⟩ k b1 h).trans (Hl w ⟨b,0,G0⟩ k b0 h))))
def Fs.plc:Fs->Prop
 | ⟨G0⟩=>True
 | ⟨G1 ⟨_,_,_,a,ks,r⟩⟩=>0<=a/\a<=1000000000/\ks.plc/\r.plc
abbrev N0 (n0:Nat)(o:Nat->Nat):Nat->Prop:=λb=>n0<=b/\o b=0
def m4 (w:G9)(o:Nat->Nat)(n0:Nat)(acc:Fs)(v:He):Prop:=∃xs,Row w o 2 25 5 v acc.len xs/\Fc w (N0 n0 o) acc xs
theorem Fc.lab {I:Nat->Prop}{w w':G9}{o o':Nat->Nat}{n0:Nat}{f:Fs}{xs:List He}(h:Fc w (N0 n0 o) f xs)(s:as I w o w' o')(h0:¬I 0):Fc w' (N0 n0 o') f xs :=
 h.mono (λi hp hl=>s.block i hl (by rw[hp.2];exact h0)) s.size (λi hp hl=>⟨hp.1,(s.lab i hl).trans hp.2⟩)
theorem Sl.lab {I:Nat->Prop}{w w':G9}{o o':Nat->Nat}{n0:Nat}{f:Fs}{ao:Option Hw}(h:Sl w (N0 n0 o) f ao)(s:as I w o w' o')(h0:¬I 0):Sl w' (N0 n0 o') f ao :=
 h.mono (λi hp hl=>s.block i hl (by rw[hp.2];exact h0)) s.size (λi hp hl=>⟨hp.1,(s.lab i hl).trans hp.2⟩)
theorem m4.step {I:Nat->Prop}{w w':G9}{o o':Nat->Nat}{n0:Nat}{acc:Fs}{v:He}(h:m4 w o n0 acc v)(s:as I w o w' o')(h0:¬I 0)(h2:¬I 2):m4 w' o' n0 acc v:=by
 obtain⟨xs,r,f⟩:=h;exact⟨xs,r.step s h2,f.lab s h0⟩
theorem m4.push {w w2:G9}{o o2:Nat->Nat}{n0:Nat}{acc:Fs}{xs:List He}{v2:He}{y:Ex}{ao:Option Hw}{ce:Nat}(f:Fc w (N0 n0 o) acc xs)(S:Sl w (N0 n0 o) y.kids ao)(s:as (λx=>x=2) w o w2 o2)
  (r:Row w2 o2 2 25 5 v2 (acc.len+1) (xs++[.int .i64 y.k,.int .i64 y.n,stv y.nm,.slice ao y.kids.len ce,.int .i64 y.a])):m4 w2 o2 n0 (acc.snoc y) v2 :=
 ⟨_,by rw[Fs.len_snoc];exact r,(f.lab s (by decide)).app (Fc.one ce (S.lab s (by decide)))⟩
theorem eq {I:Nat->Prop}{n0:Nat}{a w w':G9}{o o':Nat->Nat}(b:Hf n0 a w)(s:as I w o w' o')(h:∀ k,k<n0->¬I (o k))(hn:n0<=a.heap.size):Hf n0 a w' :=
 ⟨s.os.trans b.os,s.tape.trans b.tape,s.output.trans b.output,In b.size s.size,λk hk=>(s.block k (by have:=b.size;omega) (h k hk)).trans (b.block k hk)⟩
theorem mB:∀ (x:Fs),x.app .nil=x
 | ⟨G0⟩=>rfl
 | ⟨G1 ⟨k,n,nm,a,ks,r⟩⟩=>by simp only[Fs.app];rw[mB r]
def FcN (w:G9)(P:Nat->Prop):Fs->List He->Prop
 | ⟨G0⟩,xs=>xs=[]
 | ⟨G1 ⟨k,n,nm,a,ks,r⟩⟩,xs=>∃ao cap ys,xs=.int .i64 k::.int .i64 n::stv nm::.slice ao ks.len cap::ys /\
   (ks=.nil\/∃b off zs,ao=G1 ⟨b,off,G0⟩/\P b/\b<w.heap.size/\(∀ j u,zs[j]?=G1 u->w.cell? ⟨b,off+j,G0⟩=G1 u)/\FcN w P ks zs)/\FcN w P r ys
def SlN (w:G9)(P:Nat->Prop)(ks:Fs)(ao:Option Hw):Prop :=
 ks=.nil\/∃b off zs,ao=G1 ⟨b,off,G0⟩/\P b/\b<w.heap.size/\(∀ j u,zs[j]?=G1 u->w.cell? ⟨b,off+j,G0⟩=G1 u)/\FcN w P ks zs
def exN (e:Ex)(ao:Option Hw)(cap:Nat):He:=.agg #[.int .i64 e.k,.int .i64 e.n,stv e.nm,.slice ao e.kids.len cap]
theorem dR (e:Ex)(ao:Option Hw)(cap:Nat):exN e ao cap=.agg #[.int .i64 e.k,.int .i64 e.n,stv e.nm,.slice ao e.kids.len cap]:=rfl
theorem FcN.len {w:G9}{P:Nat->Prop}:∀ {f:Fs}{xs:List He},FcN w P f xs->xs.length=f.len*4
 | ⟨G0⟩,xs,h=>by
  have h:xs=[]:=h;subst h;rfl
 | ⟨G1 ⟨k,n,nm,a,ks,r⟩⟩,xs,h=>by
  obtain⟨ao,cap,ys,rfl,_,h2⟩:=h
  have:=FcN.len h2
  simp only[Hy,Fs.len];omega
theorem FcN.mono {w w':G9}{P Q:Nat->Prop}(hb:∀ k,P k->k<w.heap.size->w'.heap[k]?=w.heap[k]?)(hs:w.heap.size<=w'.heap.size)(hq:∀ k,P k->k<w.heap.size->Q k):∀ {f:Fs}{xs:List He},FcN w P f xs->FcN w' Q f xs
 | ⟨G0⟩,xs,h=>h
 | ⟨G1 ⟨k,n,nm,a,ks,r⟩⟩,xs,h=>by
  obtain⟨ao,cap,ys,rfl,h1,h2⟩:=h;refine⟨ao,cap,ys,rfl,?_,FcN.mono hb hs hq h2⟩;rcases h1 with h1|⟨b,off,zs,rfl,hp,hlt,hc,h3⟩
  ·exact .inl h1
  ·exact .inr ⟨b,off,zs,rfl,hq b hp hlt,Hh hlt hs,λj u hu=>(Ho (a:=⟨b,off+j,G0⟩) (hb b hp hlt)).trans (hc j u hu),FcN.mono hb hs hq h3⟩
theorem SlN.mono {w w':G9}{P Q:Nat->Prop}{f:Fs}{ao:Option Hw}(hb:∀ k,P k->k<w.heap.size->w'.heap[k]?=w.heap[k]?)(hs:w.heap.size<=w'.heap.size)(hq:∀ k,P k->k<w.heap.size->Q k)(h:SlN w P f ao):SlN w' Q f ao:=by
 rcases h with h|⟨b,off,zs,rfl,hp,hlt,hc,h3⟩
 ·exact .inl h
 ·exact .inr ⟨b,off,zs,rfl,hq b hp hlt,Hh hlt hs,λj u hu=>(Ho (a:=⟨b,off+j,G0⟩) (hb b hp hlt)).trans (hc j u hu),h3.mono hb hs hq⟩
theorem FcN.app {w:G9}{P:Nat->Prop}:∀ {f g:Fs}{xs ys:List He},FcN w P f xs->FcN w P g ys->FcN w P (f.app g) (xs++ys)
 | ⟨G0⟩,g,xs,ys,h,k=>by
  have h:xs=[]:=h;subst h;exact k
 | ⟨G1 ⟨i,n,nm,a,ks,r⟩⟩,g,xs,ys,h,k=>by
  obtain⟨ao,cap,zs,rfl,h1,h2⟩:=h;exact⟨ao,cap,zs++ys,rfl,h1,FcN.app h2 k⟩
theorem FcN.one {w:G9}{P:Nat->Prop}{e:Ex}{ao:Option Hw}(cap:Nat)(h:SlN w P e.kids ao):FcN w P (one e) [.int .i64 e.k,.int .i64 e.n,stv e.nm,.slice ao e.kids.len cap]:=⟨ao,cap,[],rfl,h,rfl⟩
theorem SlN.nil (w:G9)(P:Nat->Prop)(ao:Option Hw):SlN w P .nil ao:=.inl rfl
theorem FcN.split {w:G9}{P:Nat->Prop}:∀ {x y:Fs}{zs:List He},FcN w P (x.app y) zs->∃zx zy,zs=zx++zy/\FcN w P x zx/\FcN w P y zy
 | ⟨G0⟩,y,zs,h=>⟨[],zs,rfl,rfl,h⟩
 | ⟨G1 ⟨k,n,nm,a,ks,r⟩⟩,y,zs,h=>by
  obtain⟨ao,cap,ys,rfl,h1,h2⟩:=h;obtain⟨zx,zy,rfl,h3,h4⟩:=FcN.split h2;exact⟨_,zy,rfl,⟨ao,cap,zx,rfl,h1,h3⟩,h4⟩
theorem SlN.kidQ {P:Nat->Prop}{w:G9}{x r:Fs}{k n:Int}{nm:List UInt8}{a:Int}{ks:Fs}{ao:Option Hw}(h:SlN w P (x.app (.cons k n nm a ks r)) ao):∃b off ak ck,ao=G1 ⟨b,off,G0⟩/\b<w.heap.size/\P b/\w.cell? ⟨b,off+x.len*4,G0⟩=G1 (.int .i64 k)/\w.cell? ⟨b,off+x.len*4+1,G0⟩=G1 (.int .i64 n)/\w.cell? ⟨b,off+x.len*4+2,G0⟩=G1 (stv nm)/\w.cell? ⟨b,off+x.len*4+3,G0⟩=G1 (.slice ak ks.len ck)/\SlN w P ks ak:=by
 rcases h with h|⟨b,off,zs,rfl,hp,hlt,hc,hf⟩
 ·cases x using Fs.on with
  | nil=>cases h
  | Js k n nm a ks r=>cases h
 ·obtain⟨zx,zy,rfl,h3,h4⟩:=FcN.split hf;have hl:=h3.len;obtain⟨ak,ck,ys,rfl,h5,h6⟩:=h4;have hc':∀ j u,(.int .i64 k::.int .i64 n::stv nm::.slice ak ks.len ck::ys:List He)[j]?=G1 u->w.cell? ⟨b,off+x.len*4+j,G0⟩=G1 u:=λj u hu=>by
   have:=hc (x.len*4+j) u (by rw[IF (by omega),hl,JR];exact hu)
   rw[Nat.add_assoc];exact this
  exact⟨b,off,ak,ck,rfl,hlt,hp,hc' 0 _ rfl,hc' 1 _ rfl,hc' 2 _ rfl,hc' 3 _ rfl,h5⟩
abbrev SnA (w:G9)(f:Fs)(ao:Option Hw):Prop:=SlN w (λ_=>True) f ao
theorem SnA.below {w w':G9}{f:Fs}{ao:Option Hw}(h:SnA w f ao)(b:Hf w.heap.size w w'):SnA w' f ao:=h.mono (λi _ hl=>b.block i hl) b.size (λ_ h _=>h)
theorem SlN.all {w:G9}{P:Nat->Prop}{f:Fs}{ao:Option Hw}(h:SlN w P f ao):SnA w f ao:=h.mono (λ_ _ _=>rfl) (G4 _) (λ_ _ _=>trivial)
theorem ep {w:G9}{b:Nat}{a0 a1 a2 a3:He}{t:Il}(h:w.heap[b]?=G1 (.cells #[a0,a1,a2,a3] t (0,0))):w.cell? ⟨b,0,G0⟩=G1 a0/\w.cell? ⟨b,1,G0⟩=G1 a1/\w.cell? ⟨b,2,G0⟩=G1 a2/\w.cell? ⟨b,3,G0⟩=G1 a3/\∀ j,w.frozen? ⟨b,j,G0⟩=false:=by
 refine⟨?_,?_,?_,?_,λj=>IK w b j _ t h⟩<;>simp[If w b _ _ t (0,0) h]
theorem sj:(Tryz.prog.info? 34).map (λi=>(i.zero,i.size,i.bytes))=G1 (G1 (.agg #[.int .i64 0,.int .i64 0,.string ⟨#[]⟩,.slice G0 0 0]),4,56):=by kernel_rfl
def Bg (w:G9)(y:Ex)(x:Ja)(w':G9):Prop:=∃ao cap,x=.returned (exN y ao cap)/\SlN w' (Nw w.heap.size) y.kids ao/\Hf w.heap.size w w'
def Fs.rng:Fs->Prop
 | ⟨G0⟩=>True
 | ⟨G1 ⟨_,n,_,_,ks,r⟩⟩=>-9223372036854775808<=n/\n<=9223372036854775807/\ks.rng/\r.rng
structure Ex.fit (e:Ex):Prop where
 nm:e.nm.length<=Hu
 sh:e.kids.short
 len:e.kids.len<=1000000000
 n1:-9223372036854775808<=e.n
 n2:e.n<=9223372036854775807
 rng:e.kids.rng
theorem xl {t:List UInt8}(h:eH t=true):t.length<=12:=by
 cases t with
 | nil=>simp
 | Js c r =>
  simp only[eH,Ia,decide_eq_true_eq] at h
  have:=h.1.1.1
  simp only[Hy];omega
theorem mE {k:Int}{nm:List UInt8}(h:fy k nm=true):nm.length<=12:=by
 unfold fy at h;split at h
 ·exact xl h
 ·have:nm=[]:=by simpa using h
  rw[this];simp
theorem Au {k n:Int}{nm:List UInt8}{m:Nat}(h:(fl k n&&fy k nm&&eB k n m)=true)(h1:-9223372036854775808<=n)(h2:n<=9223372036854775807):okP k n nm m:=by
 simp only[Ia] at h;exact⟨h.1.1,h.1.2,h.2,mE h.1.2,h1,h2⟩
theorem uN:∀ (f:Fs) (b:Bool) (c c':Nat),f.rng->hFs f b c=G1 c'->f.okA/\c'=c+f.size
 | ⟨G0⟩,b,c,c',hr,h=>by
  unfold hFs at h;injection h with h
  exact⟨trivial,h.symm⟩
 | ⟨G1 ⟨k,n,nm,a,ks,r⟩⟩,b,c,c',hr,h=>by
  unfold hFs at h;split at h
  ·cases h
  ·split at h
   ·cases h
   ·split at h
    ·rename_i hk
     split at h
     ·cases h
     ·rename_i c2 h2
      obtain⟨o1,e1⟩:=uN ks _ (c+1) c2 hr.2.2.1 h2;obtain⟨o2,e2⟩:=uN r false c2 c' hr.2.2.2 h;exact⟨⟨Au hk hr.1 hr.2.1,o1,o2⟩,by simp only[Fs.size];omega⟩
    ·cases h
theorem Gm {e:Ex}{c c':Nat}(hf:e.fit)(h:hE e c=G1 c'):e.okA/\c'=c+1+e.kids.size/\c'<=2000:=by
 have hle:=FW h;unfold hE at h;split at h
 ·cases h
 ·split at h
  ·rename_i hk
   obtain⟨o1,e1⟩:=uN e.kids _ (c+1) c' hf.rng h;exact⟨⟨Au hk hf.n1 hf.n2,o1⟩,e1,hle⟩
  ·cases h
def s0:St:=⟨[],0,0,0,0⟩
def sS (s:St):Bool:=!(decide (2000<s.t.length)||decide (64<s.m)||decide (4<s.n))
def jC (e:Ex):Option (List UInt8) :=
 if eQ e.k then G0
 else match hE e 0 with
  | none=>G0
  | some _=>if sS (wEx e 0 s0) then G1 (wEx e 0 s0).t else G0
abbrev SlT (w:G9)(f:Fs)(ao:Option Hw):Prop:=Sl w (λ_=>True) f ao
theorem SlT.below {w w':G9}{f:Fs}{ao:Option Hw}(h:SlT w f ao)(b:Hf w.heap.size w w'):SlT w' f ao:=h.mono (λi _ hl=>b.block i hl) b.size (λ_ h _=>h)
theorem Sl.all {P:Nat->Prop}{w:G9}{f:Fs}{ao:Option Hw}(h:Sl w P f ao):SlT w f ao:=h.mono (λi _ hl=>rfl) (G4 _) (λ_ _ _=>trivial)
theorem AM {w:G9}{o:Nat->Nat}{i:Nat}{v:He}{l:List UInt8}(h:Row w o i 5 1 v l.length (byL l)) :
  (convert 147 9 v).run G5 w=.ok (stv l) w:=by
 rcases JY l.length with h0|h0
 ·obtain rfl:l=[]:=List.length_eq_zero_iff.1 h0;obtain⟨ao,cap,rfl⟩:=h.form;cases ao with
  | none=>exact run_convert_bytes_nil (P:=G5) w 147 5 JV KL _ _ 9 Je
  | some a=>exact run_convert_bytes_back w 147 9 5 a cap [] JV KL Je (λj hj=>by simp at hj)
 ·obtain⟨g,cap,rfl,-,-,-,-,hc,-⟩:=h.pos h0;refine run_convert_bytes_back w 147 9 5 ⟨g,0,G0⟩ cap l JV KL Je (λj hj=>?_)
  have:=hc j (by omega)
  rw[show (⟨g,0,G0⟩:Hw).add j=⟨g,j,G0⟩ by simp[JA];intro h;exact h.symm,this];simp[byL,hj]
def GJ (w:G9)(r:Option (List UInt8))(x:Ja)(w':G9):Prop:=x=.returned (.tuple #[stv (r.getD []),.int .i64 (if r.isSome then 0 else 122)])/\Hf w.heap.size w w'
def FN (rec:Rdr)(o q:Nat)(ts:List Tk):Rs Ex:=(el [40] o ts).bind λ_ t1=>(rec 1 (o+1) q t1).bind λe t2=>(eI [41] t2).bind λ_ t4=>.ok e t4
theorem Bt (rec:Rdr)(o q:Nat)(ts:List Tk):((iP rec 1 o q ts).bind λks t1=>.ok ks.head t1)=FN rec o q ts:=by
 unfold iP FN;cases el [40] o ts using Rs.on with
 | out=>rfl
 | bad e a=>rfl
 | ok a t1 =>
  show (((rec 1 (o+1) q t1).bind λe t2=>(jB rec 0 (o+1) q (one e) t2).bind λks t3=>(eI [41] t3).bind λ_ t4=>.ok ks t4).bind λks t1=>.ok ks.head t1)=(rec 1 (o+1) q t1).bind λe t2=>(eI [41] t2).bind λ_ t4=>.ok e t4;cases rec 1 (o+1) q t1 using Rs.on with
  | out=>rfl
  | bad e a=>rfl
  | ok e t2 =>
   show (((eI [41] t2).bind λ_ t4=>Rs.ok (one e) t4).bind λks t1=>.ok ks.head t1)=(eI [41] t2).bind λ_ t4=>.ok e t4;cases eI [41] t2 using Rs.on with
   | out=>rfl
   | bad e a=>rfl
   | ok a t4=>rfl
section
variable {g d:Nat}{v v':List Tk}{rec:Rdr}
end
theorem vd (k:Nat)(t:List UInt8)(a p:Nat)(l:List UInt8)(ts:List Tk)(c:UInt8)(m:List UInt8)(hb:∀ k t,k≠0->tks k t c.toNat=false)(h:fg k t a p l=.inr ts) :
  ∃us,ts=us++[⟨0,0,[],p+l.length⟩]/\fg k t a p (l++c::m)=pc us (fg 0 [] (p+l.length) (p+l.length) (c::m)):=by
 induction l generalizing k t a p ts with
 | nil =>
  rcases fF h with ⟨rfl,h1⟩|⟨hk,x,us,hp,h1,h2⟩
  ·injection h1 with h1
   exact⟨[],h1.symm,lU _ _ _ _ _ _⟩
  ·injection h1 with h1
   subst h1;refine⟨[x],h2,?_⟩;simp only[I1,I8,Is];rw[pW (hb k t hk)];unfold ge;rw[if_neg hk,hp];rfl
 | Js d r ih =>
  have e1:p+(d::r).length=p+1+r.length:=by simp;omega
  rw[e1];cases ht:tks k t d.toNat
  ·rw[gi ht] at h;rw[Jh,gi ht];rcases fF h with ⟨rfl,h1⟩|⟨hk,x,us,hp,h1,h2⟩
   ·obtain⟨vs,h3,h4⟩:=ih _ _ _ _ _ h1;refine⟨vs,h3,?_⟩;rw[h4];rfl
   ·obtain⟨vs,h3,h4⟩:=ih _ _ _ _ _ h1;refine⟨x::vs,by rw[h2,h3];rfl,?_⟩;rw[h4];unfold ge;rw[if_neg hk,hp];rfl
  ·rw[fY ht] at h;rw[Jh,fY ht];exact ih _ _ _ _ _ h
theorem Ci (c:UInt8)(hc:c=40\/c=41)(k:Nat)(t:List UInt8)(hk:k≠0):tks k t c.toNat=false:=by
 unfold tks;split
 ·exact absurd rfl hk
 ·rcases hc with rfl|rfl<;>rfl
 ·rcases hc with rfl|rfl<;>rfl
 ·rcases hc with rfl|rfl<;>rfl
 ·rfl
theorem qo {k:Nat}{t:List UInt8}{a:Nat}{x:Tk}(h:jS k t a=.inr x):x.k≠0:=by
 unfold jS at h;split at h
 ·unfold jA at h
  repeat' split at h
  all_goals first|(injection h with h;subst h;simp)|cases h
 ·unfold kL at h
  repeat' split at h
  all_goals first|(injection h with h;subst h;simp)|cases h
 ·unfold pF at h;split at h
  all_goals first|(injection h with h;subst h;simp)|cases h
 ·cases h
theorem AQ (k:Nat)(t:List UInt8)(a p:Nat)(l:List UInt8)(us:List Tk)(e:Tk)(h:fg k t a p l=.inr (us++[e])):∀ x,x ∈ us->x.k≠0:=by
 induction l generalizing k t a p us with
 | nil =>
  unfold fg at h;rcases fF h with ⟨_,h2⟩|⟨_,x,vs,hp,h2,h3⟩
  ·unfold tE at h2;injection h2 with h2
   have:us=[]:=by
    have:=congrArg List.length h2
    simp at this;exact this
   subst this;intro x hx;cases hx
  ·unfold tE at h2;injection h2 with h2
   subst h2
   have:us=[x]:=by
    have h4:us++[e]=[x]++[⟨0,0,[],p⟩]:=h3;exact List.append_inj_left' h4 rfl
   subst this;intro y hy;simp at hy;rw[hy];exact qo hp
 | Js c r ih =>
  unfold fg at h;split at h
  ·exact ih _ _ _ _ _ h
  ·rcases fF h with ⟨_,h2⟩|⟨_,x,vs,hp,h2,h3⟩
   ·exact ih _ _ _ _ _ h2
   ·cases us with
    | nil=>intro y hy;cases hy
    | Js z us =>
     rw[Jh] at h3;injection h3 with h4 h5
     subst h4 h5;intro y hy;rcases List.mem_cons.1 hy with rfl|hy
     ·exact qo hp
     ·exact ih _ _ _ _ _ h2 y hy
theorem uO {s:List UInt8}{x:Ex}{t:List Tk}(h:ic s=.ok x t):∃us E,s.length<=2000/\pJ s=.inr (us++[E])/\E=⟨0,0,[],s.length⟩/\us.length<=s.length/\(∀ y,y ∈ us->y.k≠0)/\fN 30000 1 0 0 (us++[E])=.ok x [E]:=by
 unfold ic at h;cases hs:iE s with
 | inl z=>obtain⟨e,p⟩:=z;rw[hs] at h;cases h
 | inr ts =>
  rw[hs] at h;have h:jh 30000 ts=.ok x t:=h;have hk:=l9 hs;obtain⟨us,h1,_⟩:=vd 0 [] 0 0 s ts 41 [] (Ci 41 (.inr rfl)) hk.2.1;rw[Ix] at h1;subst h1;have hl:=AQ _ _ _ _ _ _ _ hk.2.1;refine⟨us,_,hk.1,hk.2.1,rfl,by have:=hk.2.2.2.1;simp at this;exact this,hl,?_⟩;unfold jh at h;cases hp:fN 30000 1 0 0 (us++[⟨0,0,[],s.length⟩]) using Rs.on with
  | out=>rw[hp] at h;cases h
  | bad e a=>rw[hp] at h;cases h
  | ok y t0 =>
   rw[hp] at h;have hsf:=vX 30000 1 0 0 _ _ (List.suffix_refl _) y t0 hp;cases t0 with
   | nil=>cases h
   | Js z r =>
    simp only[Rs.bind] at h;by_cases hz:z.k=0
    ·rw[if_pos hz] at h;obtain⟨h1,h2⟩:=Rs.ok_inj h;subst h1;obtain⟨pre,hpre⟩:=hsf;cases r with
     | nil =>
      have h3:pre++[z]=us++[⟨0,0,[],s.length⟩]:=hpre;have h4:=List.append_inj_right' h3 rfl;rw[h4]
     | Js z2 r =>
      exfalso;have h5:z ∈ us:=by
       have h6:pre++z::(z2::r)=us++[⟨0,0,[],s.length⟩]:=hpre;have h7:(pre++z::(z2::r)).dropLast=us:=by rw[h6];simp
       rw[<-h7]
       have:pre++z::(z2::r)=(pre++[z])++(z2::r):=by simp
       rw[this,List.dropLast_append_cons];simp
      exact hl z h5 hz
    ·rw[if_neg hz] at h;cases h
def LFn (w:G9)(P:Nat->Prop):Fs->List He->Prop
 | ⟨G0⟩,xs=>xs=[]
 | ⟨G1 ⟨k,n,nm,a,ks,r⟩⟩,xs=>∃b cap c d,xs=.int .i64 k::.int .i64 n::stv nm::.slice (G1 ⟨b,0,G0⟩) ks.len cap::d /\
   (P b/\b<w.heap.size/\ks.len+1<=cap/\cap<=Hu/\(∀ j u,c[j]?=G1 u->w.cell? ⟨b,0+j,G0⟩=G1 u)/\w.cell? ⟨b,ks.len*4,G0⟩=G1 (.int .i64 (-7))/\LFn w P ks c)/\LFn w P r d
def Spn (w:G9)(P:Nat->Prop)(f:Fs)(b cap:Nat):Prop :=
 ∃a,P b/\b<w.heap.size/\f.len+1<=cap/\cap<=Hu/\(∀ j u,a[j]?=G1 u->w.cell? ⟨b,0+j,G0⟩=G1 u)/\w.cell? ⟨b,f.len*4,G0⟩=G1 (.int .i64 (-7))/\LFn w P f a
theorem LFn.len {w:G9}{P:Nat->Prop}:∀ {f:Fs}{xs:List He},LFn w P f xs->xs.length=f.len*4
 | ⟨G0⟩,xs,h=>by
  have h:xs=[]:=h;subst h;rfl
 | ⟨G1 ⟨k,n,nm,a,ks,r⟩⟩,xs,h=>by
  obtain⟨b,cap,c,d,rfl,_,h2⟩:=h
  have:=LFn.len h2
  simp only[Hy,Fs.len];omega
theorem LFn.mono {w w':G9}{P Q:Nat->Prop}(d:∀ k,P k->k<w.heap.size->w'.heap[k]?=w.heap[k]?)(e:w.heap.size<=w'.heap.size)(g:∀ k,P k->k<w.heap.size->Q k):∀ {f:Fs}{xs:List He},LFn w P f xs->LFn w' Q f xs
 | ⟨G0⟩,xs,h=>h
 | ⟨G1 ⟨k,n,nm,a,ks,r⟩⟩,xs,h=>by
  obtain⟨b,cap,l,m,rfl,⟨i,c,h1,h2,p,q,t⟩,s⟩:=h;exact⟨b,cap,l,m,rfl,⟨g b i c,Hh c e,h1,h2,λj u o=>(Ho (a:=⟨b,0+j,G0⟩) (d b i c)).trans (p j u o),(Ho (a:=⟨b,ks.len*4,G0⟩) (d b i c)).trans q,LFn.mono d e g t⟩,LFn.mono d e g s⟩
theorem Spn.mono {w w':G9}{P Q:Nat->Prop}{f:Fs}{b cap:Nat}(e:∀ k,P k->k<w.heap.size->w'.heap[k]?=w.heap[k]?)(g:w.heap.size<=w'.heap.size)(i:∀ k,P k->k<w.heap.size->Q k)(h:Spn w P f b cap):Spn w' Q f b cap:=by
 obtain⟨l,d,c,h1,h2,n,o,p⟩:=h;exact⟨l,i b d c,Hh c g,h1,h2,λj u m=>(Ho (a:=⟨b,0+j,G0⟩) (e b d c)).trans (n j u m),(Ho (a:=⟨b,f.len*4,G0⟩) (e b d c)).trans o,p.mono e g i⟩
theorem LFn.fc {w:G9}{P:Nat->Prop}:∀ {f:Fs}{xs:List He},LFn w P f xs->FcN w P f xs
 | ⟨G0⟩,xs,h=>h
 | ⟨G1 ⟨k,n,nm,a,ks,r⟩⟩,xs,h=>by
  obtain⟨b,cap,d,e,rfl,⟨g,c,h1,h2,i,m,l⟩,j⟩:=h;exact⟨G1 ⟨b,0,G0⟩,cap,e,rfl,.inr ⟨b,0,d,rfl,g,c,i,l.fc⟩,j.fc⟩
theorem Spn.sl {w:G9}{P:Nat->Prop}{f:Fs}{b cap:Nat}(h:Spn w P f b cap):SnA w f (G1 ⟨b,0,G0⟩):=by
 obtain⟨c,d,a,h1,h2,e,i,g⟩:=h;exact(show SlN w P f (G1 ⟨b,0,G0⟩) from .inr ⟨b,0,c,rfl,d,a,e,g.fc⟩).all
theorem LFn.app {w:G9}{P:Nat->Prop}:∀ {f g:Fs}{xs c:List He},LFn w P f xs->LFn w P g c->LFn w P (f.app g) (xs++c)
 | ⟨G0⟩,g,xs,c,h,k=>by
  have h:xs=[]:=h;subst h;exact k
 | ⟨G1 ⟨i,n,nm,a,ks,r⟩⟩,g,xs,c,h,k=>by
  obtain⟨b,cap,d,e,rfl,h1,h2⟩:=h;exact⟨b,cap,d,e++c,rfl,h1,LFn.app h2 k⟩
theorem LFn.one {w:G9}{P:Nat->Prop}{e:Ex}{b cap:Nat}(h:Spn w P e.kids b cap):LFn w P (one e) [.int .i64 e.k,.int .i64 e.n,stv e.nm,.slice (G1 ⟨b,0,G0⟩) e.kids.len cap]:=by
 obtain⟨a,h⟩:=h;exact⟨b,cap,a,[],rfl,h,rfl⟩
theorem LFn.lab {I:Nat->Prop}{w w':G9}{o o':Nat->Nat}{n0:Nat}{f:Fs}{xs:List He}(h:LFn w (N0 n0 o) f xs)(s:as I w o w' o')(c:¬I 0):LFn w' (N0 n0 o') f xs :=
 h.mono (λi a b=>s.block i b (by rw[a.2];exact c)) s.size (λi a b=>⟨a.1,(s.lab i b).trans a.2⟩)
theorem Spn.lab {I:Nat->Prop}{w w':G9}{o o':Nat->Nat}{n0 b cap:Nat}{f:Fs}(h:Spn w (N0 n0 o) f b cap)(s:as I w o w' o')(d:¬I 0):Spn w' (N0 n0 o') f b cap :=
 h.mono (λi a c=>s.block i c (by rw[a.2];exact d)) s.size (λi a c=>⟨a.1,(s.lab i c).trans a.2⟩)
def kF (w:G9)(o:Nat->Nat)(n0:Nat)(a:Fs)(v:He):Prop:=∃xs,Row w o 2 34 4 v a.len xs/\LFn w (N0 n0 o) a xs
theorem kF.step {I:Nat->Prop}{w w':G9}{o o':Nat->Nat}{n0:Nat}{a:Fs}{v:He}(h:kF w o n0 a v)(s:as I w o w' o')(b:¬I 0)(h2:¬I 2):kF w' o' n0 a v:=by
 obtain⟨xs,r,f⟩:=h;exact⟨xs,r.step s h2,f.lab s b⟩
theorem kF.push {w w2:G9}{o c:Nat->Nat}{n0 b d:Nat}{a:Fs}{xs:List He}{v2:He}{y:Ex}(f:LFn w (N0 n0 o) a xs)(S:Spn w (N0 n0 o) y.kids b d)(s:as (λx=>x=2) w o w2 c)
  (r:Row w2 c 2 34 4 v2 (a.len+1) (xs++[.int .i64 y.k,.int .i64 y.n,stv y.nm,.slice (G1 ⟨b,0,G0⟩) y.kids.len d])):kF w2 c n0 (a.snoc y) v2 :=
 ⟨_,by rw[Fs.len_snoc];exact r,(f.lab s (by decide)).app (LFn.one (S.lab s (by decide)))⟩
theorem kF.last {w w2:G9}{o c:Nat->Nat}{n0 g cap:Nat}{a:Fs}{xs:List He}(f:LFn w (N0 n0 o) a xs)(s:as (λx=>x=2) w o w2 c)(t:∀ k,k<n0->c k=0)
  (r:Row w2 c 2 34 4 (.slice (G1 ⟨g,0,G0⟩) (a.len+1) cap) (a.len+1) (xs++[.int .i64 (-7),.int .i64 0,.string ⟨#[]⟩,.slice G0 0 0])) :
  Spn w2 (λb=>n0<=b/\(c b=0\/c b=2)) a g cap/\a.len+1<=cap:=by
 obtain⟨B,q,m,z,d,l,h,p,_⟩:=r.pos (by omega);simp only[IS,Ji,Addr.mk.injEq,JM,and_true] at m;obtain⟨rfl,rfl⟩:=m;have y:=f.len;have A:=f.lab s (by decide);refine⟨⟨xs,⟨?_,.inr z⟩,h,d,l,λj u e=>?_,?_,A.mono (λ_ _ _=>rfl) (G4 _) (λ_ n _=>⟨n.1,.inl n.2⟩)⟩,d⟩
 ·by_cases v:n0<=g
  ·exact v
  ·have:=t g (by omega)
   omega
 ·have i:j<xs.length:=by
   by_cases i:j<xs.length
   ·exact i
   ·rw[Ie (by omega)] at e;cases e
  rw[Ix,p j (by omega),IV i];exact e
 ·rw[p (a.len*4) (by omega),IF (by omega),y,Kk];rfl
theorem pY (w:G9)(b k:Nat)(b0 b1 b2 b3:He)(h:k≠b):((((w.setCell ⟨b,0,G0⟩ b0).setCell ⟨b,1,G0⟩ b1).setCell ⟨b,2,G0⟩ b2).setCell ⟨b,3,G0⟩ b3).heap[k]?=w.heap[k]? :=
 (Hl _ ⟨b,3,G0⟩ k _ h).trans ((Hl _ ⟨b,2,G0⟩ k _ h).trans ((Hl _ ⟨b,1,G0⟩ k _ h).trans (Hl _ ⟨b,0,G0⟩ k _ h)))
def ui (w:G9)(e:Ex)(x:Ja)(w':G9):Prop:=∃b cap,x=.returned (exN e (G1 ⟨b,0,G0⟩) cap)/\Spn w' (Nw w.heap.size) e.kids b cap/\Hf w.heap.size w w'
def rh (N:Nat):Prop:=∀ (e:Ex) (ao:Option Hw) (cap:Nat) (w:G9),e.kids.size<N->e.kids.len<=1000000000->e.kids.short->SnA w e.kids ao ->
 Hn G5 37 #[exN e ao cap] w (ui w e)
theorem vy {N:Nat}(IH:rh N):rh (N+1):=by
 intro e ao cap w hN aq aj S;obtain⟨ii,ac,J,I,H⟩:=eo sj;obtain⟨w0,q⟩:∃w0,w0=((w.alloc (.cells #[.int .i64 e.k,.int .i64 e.n,stv e.nm,.slice ao e.kids.len cap] 34)).alloc (.cells #[.int .i64 0,.int .i64 0,.string ⟨#[]⟩,.slice G0 0 0] 34)).alloc (.cells #[.int .i64 e.k,.int .i64 e.n,stv e.nm,.slice G0 0 0] 34):=⟨_,rfl⟩;have B0:Hf w.heap.size w w0:=by rw[q];exact(((Hi _ w).alloc (G4 _) _).alloc (by simp) _).alloc (by simp;omega) _
 obtain⟨o0,z⟩:∃o0:Nat->Nat,o0=λk=>if k=w.heap.size+1+1 then 1 else if k=w.heap.size+1 then 3 else 0:=⟨_,rfl⟩;have E0:Blk w0 o0 0 w.heap.size (.cells #[.int .i64 e.k,.int .i64 e.n,stv e.nm,.slice ao e.kids.len cap] 34):=by
  refine⟨?_,by rw[z];simp only;rw[if_neg (by omega),if_neg (by omega)]⟩;rw[q];exact(Hj _ _ _ (by simp;omega)).trans ((Hj _ _ _ (by simp)).trans (Hc w _))
 have Z0:Blk w0 o0 3 (w.heap.size+1) (.cells #[.int .i64 0,.int .i64 0,.string ⟨#[]⟩,.slice G0 0 0] 34):=by
  refine⟨?_,by rw[z];simp⟩;rw[q];refine(Hj _ _ _ (by simp)).trans ?_
  have:=Hc (w.alloc (.cells #[.int .i64 e.k,.int .i64 e.n,stv e.nm,.slice ao e.kids.len cap] 34)) (.cells #[.int .i64 0,.int .i64 0,.string ⟨#[]⟩,.slice G0 0 0] 34)
  simpa using this
 have O0:Blk w0 o0 1 (w.heap.size+1+1) (.cells #[.int .i64 e.k,.int .i64 e.n,stv e.nm,.slice G0 0 0] 34):=by
  refine⟨?_,by rw[z];simp⟩;rw[q]
  have:=Hc ((w.alloc (.cells #[.int .i64 e.k,.int .i64 e.n,stv e.nm,.slice ao e.kids.len cap] 34)).alloc (.cells #[.int .i64 0,.int .i64 0,.string ⟨#[]⟩,.slice G0 0 0] 34)) (.cells #[.int .i64 e.k,.int .i64 e.n,stv e.nm,.slice G0 0 0] 34)
  simpa using this
 have L0:∀ k,k<w.heap.size->o0 k=0:=λk a=>by rw[z];simp only;rw[if_neg (by omega),if_neg (by omega)]
 have A0:kF w0 o0 w.heap.size .nil (.slice G0 0 0):=⟨[],Row.nil _ _ _ _ _,rfl⟩;rw[dR];go_enter Tryz.func37,Tryz.ntmps37;go_upto_region 2 with fail;rw[<-q];clear q z;obtain⟨n0,A⟩:∃n0,n0=w.heap.size:=⟨_,rfl⟩;unfold ui;rw[<-A] at E0 Z0 O0 L0 A0 B0 ⊢;have C:Hid (n0=w.heap.size):=A;clear A;go_wp2;go_loopw [4] (λv wr=>∃(done r:Fs) (o:Nat->Nat) (va:He),Hid (e.kids=done.app r)/\v=.int .i64 (done.len:Nat)/\Blk wr o 0 n0 (.cells #[.int .i64 e.k,.int .i64 e.n,stv e.nm,.slice ao e.kids.len cap] 34)/\Blk wr o 3 (n0+1) (.cells #[.int .i64 0,.int .i64 0,.string ⟨#[]⟩,.slice G0 0 0] 34)/\Blk wr o 1 (n0+1+1) (.cells #[.int .i64 e.k,.int .i64 e.n,stv e.nm,va] 34)/\kF wr o n0 done va/\Hid (∀ k,k<n0->o k=0)/\Hf n0 w wr) (λv _=>e.kids.len-(Ih v).toNat)
 case atStart=>exact⟨.nil,e.kids,o0,.slice G0 0 0,rfl,by show _=Hp .i64 ((0:Nat):Int);rfl,E0,Z0,O0,A0,L0,B0⟩
 case round =>
  clear E0 Z0 O0 A0 L0 B0;obtain⟨done,r,o,va,a,rfl,E1,Z1,O1,A1,L1,B1⟩:=hrel;have B:e.kids.len=done.len+r.len:=by rw[a.out,Fs.len_app]
  obtain⟨p0,p1,p2,p3,pf⟩:=ep E1.1;cases r using Fs.on with
  | nil =>
   have ab:¬(done.len:Int)<(e.kids.len:Int):=by simp only[Fs.len] at B;omega
   have ad:e.kids=done:=by rw[a.out];clear a B ab A1;exact mB done
   have ag:=Hg ad;obtain⟨xs,R1,F1⟩:=A1;obtain⟨a8,c8,rfl⟩:=R1.form;have b1:done.len+1<=Hu:=by unfold Hu;omega
   have b2:(done.len+1)*56<=140737488355328:=by omega
   have t:∀ u ∈ [Hp .i64 (-7),.int .i64 0,.string ⟨#[]⟩,.slice G0 0 0],u.oneCell'=true:=by intro u hu;simp at hu;rcases hu with rfl|rfl|rfl|rfl<;>rfl
   have hO:=O1.lt;clear a B ad;go_upto_region 7 with fail;go_cut [41] (λv wx=>∃(g:Nat->Nat) (f c9:Nat),Blk wx g 1 (n0+1+1) (.cells #[.int .i64 e.k,.int .i64 e.n,stv e.nm,.slice (G1 ⟨f,0,G0⟩) done.len c9] 34 (0,0))/\Blk wx g 3 (n0+1) (.cells #[.int .i64 0,.int .i64 0,.string ⟨#[]⟩,.slice G0 0 0] 34 (0,0))/\Spn wx (λb=>n0<=b/\(g b=0\/g b=2)) done f c9/\Hf n0 w wx)
   case first =>
    obtain⟨t0,t1,t2,t3,tf⟩:=ep O1.1;have X:=(ez (λ_=>False) wr o (.cells #[.int .i64 (-7),.int .i64 0,.string ⟨#[]⟩,.slice G0 0 0] 34)).drew;have LA:Hid (∀ k,k<n0->dQ wr o 0 k=0):=λk a=>by rw[ed (by have:=E1.lt;omega)];exact L1.out k a
    have RA:=R1.step X id;have FA:=F1.lab X id;have OA:=O1.step X id;have ZA:=Z1.step X id;have BA:=eq B1 X (λ_ _=>id) (by rw[C.out];exact G4 _);have av:(done.len:Int)<=(done.len:Int)+1:=by omega
    go_region_law (refine fZ rfl (.tmp 33) (.tmp 35) 32 rfl 34 ii _ 4 56 Tryz.underlying32 ac J I H rfl (by decide) (dQ wr o 0) 2 _ done.len xs (by simp[Ks,IQ]) RA ⟨wr.heap.size,0,G0⟩ 1 1 [Hp .i64 (-7),.int .i64 0,.string ⟨#[]⟩,.slice G0 0 0] (by simp[Ks,IQ]) rfl (gj wr _ _) t (by decide) b1 b2 ?_;intro f c9 G g r9 m;have L9:∀ k,k<n0->g k=0:=λk a=>(m.lab k (by have h1:=OA.lt;omega)).trans (LA.out k a);have SP:=kF.last FA m L9 r9;have ax:done.len<=c9:=(by have:=SP.2;omega);have s:=OA.step m (by decide);have D:=ZA.step m (by decide);have L:=eq BA m (λk a=>by rw[LA.out k a];decide) (by rw[C.out];exact G4 _);obtain⟨u0,u1,u2,u3,uf⟩:=ep s.1)
    all_goals
     have c:as (λk=>k=1) G g (G.setCell ⟨n0+1+1,3,G0⟩ (.slice (G1 ⟨f,0,G0⟩) done.len c9)) g:=fo _ G g ⟨n0+1+1,3,G0⟩ _ s.2;have V:=s.set 3 (.slice (G1 ⟨f,0,G0⟩) done.len c9);have U:=D.step c (by decide);have W:=eq L c (λk a=>by rw[L9 k a];decide) (by rw[C.out];exact G4 _);have af:=SP.1.mono (λi K hl=>c.block i hl (by rcases K.2 with h|h<;>omega)) c.size (λ_ h _=>h);clear c SP s D L L9 m r9 RA FA OA ZA BA LA X;go_wp2;go_meet;exact⟨g,f,c9,V,U,af,W⟩
   case rest =>
   obtain⟨g,f,c9,s,D,SP,L⟩:=hcut;clear E1 Z1 O1 R1 F1 L1 B1;have SE:=SP.mono (w':=(((wc.setCell ⟨n0+1,0,G0⟩ (.int .i64 e.k)).setCell ⟨n0+1,1,G0⟩ (.int .i64 e.n)).setCell ⟨n0+1,2,G0⟩ (stv e.nm)).setCell ⟨n0+1,3,G0⟩ (.slice (G1 ⟨f,0,G0⟩) done.len c9)) (Q:=Nw n0) (λi K hl=>pY wc (n0+1) i _ _ _ _ (λee=>by
    have h2:=D.2;rw[<-ee] at h2;rcases K.2 with h|h<;>omega)) (by simp) (λi K _=>K.1)
   have BE:=(((L.setCell (p:=⟨n0+1,0,G0⟩) (Iv _) (.int .i64 e.k)).setCell (p:=⟨n0+1,1,G0⟩) (Iv _) (.int .i64 e.n)).setCell (p:=⟨n0+1,2,G0⟩) (Iv _) (stv e.nm)).setCell (p:=⟨n0+1,3,G0⟩) (Iv _) (.slice (G1 ⟨f,0,G0⟩) done.len c9);have ZE:=zv (b0:=.int .i64 e.k) (b1:=.int .i64 e.n) (b2:=stv e.nm) (b3:=.slice (G1 ⟨f,0,G0⟩) done.len c9) D.1;have HU:Hid (∃F,F=(((wc.setCell ⟨n0+1,0,G0⟩ (.int .i64 e.k)).setCell ⟨n0+1,1,G0⟩ (.int .i64 e.n)).setCell ⟨n0+1,2,G0⟩ (stv e.nm)).setCell ⟨n0+1,3,G0⟩ (.slice (G1 ⟨f,0,G0⟩) done.len c9)/\F.cell? ⟨n0+1,0,G0⟩=G1 (.int .i64 e.k)/\F.cell? ⟨n0+1,1,G0⟩=G1 (.int .i64 e.n)/\F.cell? ⟨n0+1,2,G0⟩=G1 (stv e.nm)/\F.cell? ⟨n0+1,3,G0⟩=G1 (.slice (G1 ⟨f,0,G0⟩) done.len c9)/\Spn F (Nw n0) done f c9/\Hf n0 w F):=by
    obtain⟨u0,u1,u2,u3,-⟩:=ep ZE;exact⟨_,rfl,u0,u1,u2,u3,SE,BE⟩
   obtain⟨u0,u1,u2,u3,uf⟩:=ep s.1;obtain⟨z0,z1,z2,z3,zf⟩:=ep D.1;clear SE BE ZE s D SP L;go_wp2;obtain⟨F,aa,v0,v1,v2,v3,SZ,BZ⟩:=HU.out;clear HU;rw[<-aa];clear aa;refine Hb (v:=exN e (G1 ⟨f,0,G0⟩) c9) (by simp[Hk,Tryz.results37,go_sem,v0,v1,v2,v3,exN,ag.out]) rfl ⟨f,c9,rfl,by rw[ag.out,<-C.out];exact SZ,by rw[<-C.out];exact BZ⟩
  | Js R kn P Z d kr =>
   have ab:(done.len:Int)<(e.kids.len:Int):=by simp only[Fs.len] at B;omega
   have aw:done.len<e.kids.len:=by omega
   have ai:e.kids.size=done.size+(d.size+kr.size+1):=by rw[a.out,Fs.size_app];rfl
   have T:(Fs.cons R kn P Z d kr).short:=Fs.app_short (by rw[<-a.out];exact aj);have A:n0<=wr.heap.size:=by have:=E1.lt;omega
   obtain⟨b,off,ak,ck,an,ar,-,x0,x1,x2,x3,SK⟩:=SlN.kidQ (by rw[<-a.out];exact SnA.below S (by rw[<-C.out];exact B1));subst an;obtain⟨y,hy⟩:∃y:Ex,y=⟨R,kn,P,Z,d⟩:=⟨_,rfl⟩;have ae:=IH ⟨R,kn,P,Z,d⟩ ak ck wr (by show d.size<N;omega) T.2.1 T.2.2.1 SK;have hc:Hn G5 37 #[.agg #[.int .i64 R,.int .i64 kn,stv P,.slice ak d.len ck]] wr (ui wr y):=by rw[hy];exact ae
   clear ae;have am:Hid (e.kids=(done.snoc ⟨R,kn,P,Z,d⟩).app kr):=by show e.kids=_;rw[a.out];unfold Fs.snoc;rw[Fs.app_assoc];rfl
   have HS:Hid (done.snoc ⟨R,kn,P,Z,d⟩=done.snoc y):=by show _=_;rw[hy]
   have al:(done.len:Int)+1=((done.snoc ⟨R,kn,P,Z,d⟩).len:Nat):=by rw[Fs.len_snoc];rfl
   clear B ai T hy SK;go_wp2_with fail;refine hc.mono ?_;rintro x E ⟨l,j,rfl,S6,b6⟩;have Y:as (λ_=>False) wr o E (dQ wr o 0):=((as.refl _ wr o).labelled 0).trans (as.ofB (dQ wr o 0) b6);have T6:Spn E (N0 n0 (dQ wr o 0)) y.kids l j:=S6.mono (λ_ _ _=>rfl) (G4 _) (λi K hl=>⟨In A K,dY K⟩);have L6:Hid (∀ k,k<n0->dQ wr o 0 k=0):=λk a=>by rw[ed (by omega)];exact L1.out k a
   have E6:=E1.step Y id;have Z6:=Z1.step Y id;have O6:=O1.step Y id;have A6:=A1.step Y id id;have B6:=eq B1 Y (λ_ _=>id) (by rw[C.out];exact G4 _);generalize dQ wr o 0=o6 at *;clear hc S6 b6 Y E1 Z1 O1 A1 B1 L1 x0 x1 x2 x3 p0 p1 p2 p3 pf;have O:=ez (λ_=>False) E o6 (.cells #[.int .i64 y.k,.int .i64 y.n,stv y.nm,.slice (G1 ⟨l,0,G0⟩) y.kids.len j] 34);have K7:=jK E o6 #[.int .i64 y.k,.int .i64 y.n,stv y.nm,.slice (G1 ⟨l,0,G0⟩) y.kids.len j] 34;have T7:=T6.lab O id;have au:n0<=E.heap.size:=by have:=E6.lt;omega
   have L7:Hid (∀ k,k<n0->dQ E o6 0 k=0):=λk a=>by rw[ed (by omega)];exact L6.out k a
   have E7:=E6.step O id;have Z7:=Z6.step O id;have O7:=O6.step O id;have A7:=A6.step O id id;have B7:=eq B6 O (λ_ _=>id) (by rw[C.out];exact G4 _);rw[dR];go_upto_region 6 with fail;generalize dQ E o6 0=o7 at *;generalize E.alloc (.cells #[.int .i64 y.k,.int .i64 y.n,stv y.nm,.slice (G1 ⟨l,0,G0⟩) y.kids.len j] 34)=w7 at *;generalize E.heap.size=bk at *;clear O T6 E6 Z6 O6 A6 B6 L6;obtain⟨p0,p1,p2,p3,pf⟩:=ep O7.1;obtain⟨q0,q1,q2,q3,qf⟩:=ep K7.1;have M:=ez (λ_=>False) w7 o7 (.cells #[.int .i64 y.k,.int .i64 y.n,stv y.nm,.slice (G1 ⟨l,0,G0⟩) y.kids.len j] 34);have T8:=T7.lab M id;have L8:Hid (∀ k,k<n0->dQ w7 o7 0 k=0):=λk a=>by rw[ed (by have:=E7.lt;omega)];exact L7.out k a
   have E8:=E7.step M id;have Z8:=Z7.step M id;have O8:=O7.step M id;have A8:=A7.step M id id;have B8:=eq B7 M (λ_ _=>id) (by rw[C.out];exact G4 _);obtain⟨xs,R8,F8⟩:=A8;obtain⟨a8,c8,rfl⟩:=R8.form;have b1:done.len+1<=Hu:=by unfold Hu;omega
   have b2:(done.len+1)*56<=140737488355328:=by omega
   have t:∀ u ∈ [Hp .i64 y.k,.int .i64 y.n,stv y.nm,.slice (G1 ⟨l,0,G0⟩) y.kids.len j],u.oneCell'=true:=by intro u hu;simp at hu;rcases hu with rfl|rfl|rfl|rfl<;>rfl
   clear E7 Z7 O7 A7 B7 L7 T7 M;go_wp2_with (first|(at_builtin;refine eb rfl (.tmp 27) (.tmp 29) 32 rfl 34 ii _ 4 56 Tryz.underlying32 ac J I H rfl (by decide) (dQ w7 o7 0) 2 _ done.len xs rfl R8 ⟨w7.heap.size,0,G0⟩ 1 1 [Hp .i64 y.k,.int .i64 y.n,stv y.nm,.slice (G1 ⟨l,0,G0⟩) y.kids.len j] rfl rfl (gj w7 _ _) t (by decide) b1 b2 ?_)|go_in);intro f c9 G g r9 m;have A9:kF G g n0 (done.snoc y) (.slice (G1 ⟨f,0,G0⟩) (done.len+1) c9):=kF.push F8 T8 m r9;have E9:=E8.step m (by decide);have D:=Z8.step m (by decide);have s:=O8.step m (by decide);have L9:Hid (∀ k,k<n0->g k=0):=λk a=>(m.lab k (by have:=E8.lt;omega)).trans (L8.out k a);have L:=eq B8 m (λk a=>by rw[L8.out k a];decide) (by rw[C.out];exact G4 _);have c:as (λk=>k=1) G g (G.setCell ⟨n0+1+1,3,G0⟩ (.slice (G1 ⟨f,0,G0⟩) (done.len+1) c9)) g:=fo _ G g ⟨n0+1+1,3,G0⟩ _ s.2;have ah:=A9.step c (by decide) (by decide);have ap:=E9.step c (by decide);have U:=D.step c (by decide);have V:=s.set 3 (.slice (G1 ⟨f,0,G0⟩) (done.len+1) c9);have W:=eq L c (λk a=>by rw[L9.out k a];decide) (by rw[C.out];exact G4 _);obtain⟨t0,t1,t2,t3,tf⟩:=ep s.1;rw[<-HS.out] at ah;clear A9 E9 D s L c E8 Z8 O8 B8 L8 T8 R8 F8 r9 m p0 p1 p2 p3 pf q0 q1 q2 q3 qf a HS K7;go_wp2;go_roundw
   case rel=>exact⟨_,kr,g,_,am,by rw[<-al],ap,U,V,ah,L9,W⟩
   case measure=>simp[Ih];omega
theorem tI:∀ N,rh N -- 37
 | 0=>λe ao cap w h=>absurd h (Ir _)
 | N+1=>vy (tI N)
theorem sL:∀ {f:Fs},f.len=0->f=.nil
 | ⟨G0⟩,_=>rfl
 | ⟨G1 ⟨k,n,nm,a,ks,r⟩⟩,h=>by simp[Fs.len] at h
theorem Below.toStepC {w w':G9}{o:Nat->Nat}{I:Nat->Prop}(b:Hf w.heap.size w w'):as I w o w' (dQ w o 0):=⟨b.os,b.tape,b.output,b.size,λk hk=>ed hk,λk hk _=>b.block k hk⟩
abbrev PD (P:Nat->Prop)(n0:Nat)(o:Nat->Nat):Nat->Prop:=λk=>o k=0/\((P k/\k<n0)\/n0<=k)
theorem FcN.labD {I:Nat->Prop}{P:Nat->Prop}{w w':G9}{o o':Nat->Nat}{n0:Nat}{f:Fs}{xs:List He}(h:FcN w (PD P n0 o) f xs)(s:as I w o w' o')(h0:¬I 0):FcN w' (PD P n0 o') f xs :=
 h.mono (λk hp hl=>s.block k hl (by rw[hp.1];exact h0)) s.size (λk hp hl=>⟨(s.lab k hl).trans hp.1,hp.2⟩)
theorem SlN.labD {I:Nat->Prop}{P:Nat->Prop}{w w':G9}{o o':Nat->Nat}{n0:Nat}{f:Fs}{ao:Option Hw}(h:SlN w (PD P n0 o) f ao)(s:as I w o w' o')(h0:¬I 0):SlN w' (PD P n0 o') f ao :=
 h.mono (λk hp hl=>s.block k hl (by rw[hp.1];exact h0)) s.size (λk hp hl=>⟨(s.lab k hl).trans hp.1,hp.2⟩)
def ng (w:G9)(o:Nat->Nat)(P:Nat->Prop)(n0:Nat)(acc:Fs)(v:He):Prop:=∃xs,Row w o 2 34 4 v acc.len xs/\FcN w (PD P n0 o) acc xs/\∀ k,v.ownBlock=G1 k->n0<=k
theorem ng.nil (w:G9)(o:Nat->Nat)(P:Nat->Prop)(n0:Nat):ng w o P n0 .nil (.slice G0 0 0):=⟨[],Row.nil _ _ _ _ _,rfl,λk hk=>by simp[JQ] at hk⟩
theorem ng.step {I:Nat->Prop}{P:Nat->Prop}{w w':G9}{o o':Nat->Nat}{n0:Nat}{acc:Fs}{v:He}(h:ng w o P n0 acc v)(s:as I w o w' o')(h0:¬I 0)(h2:¬I 2):ng w' o' P n0 acc v:=by
 obtain⟨xs,r,f,g⟩:=h;exact⟨xs,r.step s h2,f.labD s h0,g⟩
theorem ng.push {P:Nat->Prop}{w w2:G9}{o o2:Nat->Nat}{n0 ce g2 c2:Nat}{acc:Fs}{xs:List He}{y:Ex}{ay:Option Hw}(f:FcN w (PD P n0 o) acc xs)(S:SlN w (PD P n0 o) y.kids ay)(s:as (λx=>x=2) w o w2 o2)(hlo:∀ k,k<n0->o k≠2)(hw:n0<=w.heap.size)
  (r:Row w2 o2 2 34 4 (.slice (G1 ⟨g2,0,G0⟩) (acc.len+1) c2) (acc.len+1) (xs++[.int .i64 y.k,.int .i64 y.n,stv y.nm,.slice ay y.kids.len ce])):ng w2 o2 P n0 (acc.snoc y) (.slice (G1 ⟨g2,0,G0⟩) (acc.len+1) c2):=by
 refine⟨_,by rw[Fs.len_snoc];exact r,(f.labD s (by decide)).app (FcN.one ce (S.labD s (by decide))),λk hk=>?_⟩;simp[JQ] at hk;subst hk;have h2:o2 g2=2:=r.2 g2 rfl;rcases Kc g2 n0 with h3|h3
 ·exact absurd ((s.lab g2 (by omega)).symm.trans h2) (hlo g2 h3)
 ·exact h3
theorem ng.sl {P:Nat->Prop}{w:G9}{o:Nat->Nat}{n0:Nat}{acc:Fs}{v:He}(h:ng w o P n0 acc v):∃ao cap,v=.slice ao acc.len cap/\SlN w (λk=>(o k=0\/o k=2)/\((P k/\k<n0)\/n0<=k)) acc ao:=by
 obtain⟨xs,r,f,g⟩:=h;obtain⟨ao,cap,hv⟩:=r.form;refine⟨ao,cap,hv,?_⟩;rcases JY acc.len with h0|h0
 ·exact .inl (sL h0)
 ·obtain⟨g',cap',hv',hg,-,-,hlt,hc,-⟩:=r.pos h0;have hl:=f.len;rw[hv] at hv';injection hv' with hv1
  subst hv1;have hgn:n0<=g':=g g' (by rw[hv];rfl);refine .inr ⟨g',0,xs,rfl,⟨.inr hg,.inr hgn⟩,hlt,λj u hu=>?_,f.mono (λ_ _ _=>rfl) (G4 _) (λk hp _=>⟨.inl hp.1,hp.2⟩)⟩;have hj:j<xs.length:=(List.getElem?_eq_some_iff.1 hu).1;rw[Ix,hc j (by omega)];exact hu
def Nms (w:G9)(v:He)(b:List (List UInt8)):Prop :=
 ∃ao cap,v=.slice ao b.length cap/\b.length<=cap/\((b=[]/\ao=G0)\/∃g,ao=G1 ⟨g,0,G0⟩/\g<w.heap.size/\0<b.length/\∀ (j:Nat) (t:List UInt8),b[j]?=G1 t->w.cell? ⟨g,j,G0⟩=G1 (stv t))
theorem Nms.below {w w':G9}{v:He}{b:List (List UInt8)}(h:Nms w v b)(B:Hf w.heap.size w w'):Nms w' v b:=by
 obtain⟨ao,cap,rfl,hc,h1|⟨g,h1,h2,h0,h3⟩⟩:=h
 ·exact⟨ao,cap,rfl,hc,.inl h1⟩
 ·exact⟨ao,cap,rfl,hc,.inr ⟨g,h1,Hh h2 B.size,h0,λj t hj=>(B.cell (p:=⟨g,j,G0⟩) h2).trans (h3 j t hj)⟩⟩
theorem Nms.nil (w:G9):Nms w (.slice G0 0 0) []:=⟨G0,0,rfl,G4 _,.inl ⟨rfl,rfl⟩⟩
theorem tg:(Tryz.prog.info? 9).map (λi=>(i.zero,i.size,i.bytes))=G1 (G1 (.string ⟨#[]⟩),1,16):=by kernel_rfl
def j9 (k n:Int):List Int :=
 if k=1 then [1] else if k=2 then [2] else if k=3\/k=4 then [3] else if k=6 then [1,1] else if k=7 then [2,2]
 else if 8<=k/\k<=12 then [1,1,1] else if k=15\/k=16 then [1,1,2] else if k=17\/k=18 then [2,2,2]
 else if k=22\/k=23 then [4] else if k=24 then [3,4]
 else if k=20 then (if n=1\/n=2 then [3,3,2] else if n=3 then [3,3,1] else if n=10 then [3,3] else [3,1])
 else if k=21 then (if n=1\/n=2 then [4,2,2] else if n=3 then [4,2,1] else [4,1,1])
 else []
def eZ (k n:Int)(len:Nat)(done:List Int):Int :=
 if k=13\/k=14 then (match done with | []=>0 | [a]=>a|_=>2)
 else if k=19 then (match done with | []=>2 | [_]=>0|_::b::_=>b)
 else if k=25 then (if done.length<len then 3 else 4)
 else (j9 k n)[done.length]?.getD 0
def io (m:Int)(a:Int)(r:Sum (Nat × Int) Int):Sum (Nat × Int) Int :=
 match r with
 | .inl e=>.inl e
 | .inr is=>if m≠0/\is≠m then .inl (131,a) else .inr is
def fv:Fs->Int->Int->List UInt8->Nat->List (List UInt8)->Nat->List Int->Sum (Nat × Int) (List Int)
 | ⟨G0⟩,_,_,_,_,_,_,done=>.inr done
 | ⟨G1 ⟨kk,kn,km,ka,kks,kr⟩⟩,k,n,nm,len,bound,i,done =>
  match io (eZ k n len done) ka (if kk=4/\¬km ∈ (if k=21/\i≠0 then bound++[nm] else bound) then .inl (130,ka) else
   match fv kks kk kn km kks.len (if k=21/\i≠0 then bound++[nm] else bound) 0 [] with
   | .inl e=>.inl e
   | .inr d=>.inr (eZ kk kn kks.len d)) with
  | .inl e=>.inl e
  | .inr is=>fv kr k n nm len bound (i+1) (done++[is])
def fa (e:Ex)(bound:List (List UInt8)):Sum (Nat × Int) Int :=
 if e.k=4/\¬e.nm ∈ bound then .inl (130,e.a) else
  match fv e.kids e.k e.n e.nm e.kids.len bound 0 [] with
  | .inl x=>.inl x
  | .inr d=>.inr (eZ e.k e.n e.kids.len d)
theorem ri (x:Ex)(r:Fs)(k n:Int)(nm:List UInt8)(len:Nat)(bound:List (List UInt8))(i:Nat)(done:List Int) :
  fv (.cons x.k x.n x.nm x.a x.kids r) k n nm len bound i done=(match io (eZ k n len done) x.a (fa x (if k=21/\i≠0 then bound++[nm] else bound)) with
   | .inl e=>.inl e
   | .inr is=>fv r k n nm len bound (i+1) (done++[is])):=rfl
def pu (e:Ex):Int × Nat × Int :=
 match jC e with
 | none=>(0,122,0)
 | some _ =>
  match fa e [] with
  | .inl (er,a)=>(0,er,a)
  | .inr k=>(k,0,0)
theorem oV:∀ (f:Fs) (k n:Int) (nm:List UInt8) (len:Nat) (bound:List (List UInt8)) (i:Nat) (done:List Int) (er:Nat) (a:Int),fv f k n nm len bound i done=.inl (er,a)->er=130\/er=131
 | ⟨G0⟩,k,n,nm,len,bound,i,done,er,a,h=>by simp only[fv] at h;cases h
 | ⟨G1 ⟨kk,kn,km,ka,kks,kr⟩⟩,k,n,nm,len,bound,i,done,er,a,h=>by
  simp only[fv] at h;by_cases hv:kk=4/\¬km ∈ (if k=21/\i≠0 then bound++[nm] else bound)
  ·rw[if_pos hv] at h;simp only[io,Sum.inl.injEq,Jf] at h;omega
  ·rw[if_neg hv] at h;cases hc:fv kks kk kn km kks.len (if k=21/\i≠0 then bound++[nm] else bound) 0 [] with
   | inl x =>
    obtain⟨er2,a2⟩:=x;rw[hc] at h;simp only[io,Sum.inl.injEq,Jf] at h
    have:=oV kks _ _ _ _ _ _ _ er2 a2 hc
    omega
   | inr d =>
    rw[hc] at h;simp only[io] at h;by_cases hm:eZ k n len done≠0/\eZ kk kn kks.len d≠eZ k n len done
    ·rw[if_pos hm] at h;simp only[Sum.inl.injEq,Jf] at h;omega
    ·rw[if_neg hm] at h;exact oV kr _ _ _ _ _ _ _ er a h
theorem wa {e:Ex}{bound:List (List UInt8)}{er:Nat}{a:Int}(h:fa e bound=.inl (er,a)):er=130\/er=131:=by
 unfold fa at h;by_cases hv:e.k=4/\¬e.nm ∈ bound
 ·rw[if_pos hv] at h;simp only[Sum.inl.injEq,Jf] at h;omega
 ·rw[if_neg hv] at h;cases hc:fv e.kids e.k e.n e.nm e.kids.len bound 0 [] with
  | inl x =>
   obtain⟨er2,a2⟩:=x;rw[hc] at h;simp only[Sum.inl.injEq,Jf] at h
   have:=oV _ _ _ _ _ _ _ _ er2 a2 hc
   omega
  | inr d=>rw[hc] at h;cases h
def rn (k n:Int)(len:Nat):Sum (Nat × Int) (List Int)->Sum (Nat × Int) Int
 | .inl x=>.inl x
 | .inr d=>.inr (eZ k n len d)
theorem iu (e:Ex)(b:List (List UInt8))(h:e.k≠4):fa e b=rn e.k e.n e.kids.len (fv e.kids e.k e.n e.nm e.kids.len b 0 []):=by
 unfold fa;rw[if_neg (λh2=>h h2.1)];cases fv e.kids e.k e.n e.nm e.kids.len b 0 []<;>rfl
def okR (k n:Int)(len:Nat):Prop :=
 (k=13\/k=14\/k=19\/k=25)\/(k=20/\(1<=n/\n<=10)/\(j9 20 n).length=len+1)\/(k=21/\(1<=n/\n<=6)/\(j9 21 n).length=len+1)
  \/ ((1<=k/\k<=24/\k≠5/\k≠20/\k≠21/\k≠13/\k≠14/\k≠19)/\(j9 k 0).length=len+1)
theorem yt (n:Int):(jw n).isSome=decide (1<=n/\n<=10):=by
 by_cases h:1<=n/\n<=10
 ·have h2:n=1\/n=2\/n=3\/n=4\/n=5\/n=6\/n=7\/n=8\/n=9\/n=10:=by omega
  rcases h2 with rfl|rfl|rfl|rfl|rfl|rfl|rfl|rfl|rfl|rfl<;>rfl
 ·rw[decide_eq_false h];cases hc:jw n with
  | none=>rfl
  | some x =>
   have h1:=Jm hc;have h2:=Ii hc;simp only[gQ,IR,IP,or_false] at h2;simp only[beq_iff_eq] at h1;exfalso;rcases h2 with rfl|rfl|rfl|rfl|rfl|rfl|rfl|rfl|rfl|rfl<;>simp only at h1<;>omega
theorem vh (n:Int):(jP n).isSome=decide (1<=n/\n<=6):=by
 by_cases h:1<=n/\n<=6
 ·have h2:n=1\/n=2\/n=3\/n=4\/n=5\/n=6:=by omega
  rcases h2 with rfl|rfl|rfl|rfl|rfl|rfl<;>rfl
 ·rw[decide_eq_false h];cases hc:jP n with
  | none=>rfl
  | some x =>
   have h1:=Jm hc;have h2:=Ii hc;simp only[gO,IR,IP,or_false] at h2;simp only[beq_iff_eq] at h1;exfalso;rcases h2 with rfl|rfl|rfl|rfl|rfl|rfl<;>simp only at h1<;>omega
theorem DH {k:Int}(h:(gZ k).isSome=true):8<=k/\k<=18:=by
 cases hc:gZ k with
 | none=>rw[hc] at h;cases h
 | some x =>
  have h1:=Jm hc;have h2:=Ii hc;simp only[iO,IR,IP,or_false] at h2;simp only[beq_iff_eq] at h1;rcases h2 with rfl|rfl|rfl|rfl|rfl|rfl|rfl|rfl|rfl|rfl|rfl<;>simp only at h1<;>omega
theorem zi {k n:Int}{nm:List UInt8}{m:Nat}(h:okP k n nm m):okR k n m:=by
 obtain⟨h1,-,h2,-,-,-⟩:=h;unfold eB at h2;unfold fl at h1;by_cases a0:k=1\/k=2\/k=3\/k=4\/k=22\/k=23
 ·have e1:(k==1||k==2||k==3||k==4||k==22||k==23)=true:=by rcases a0 with rfl|rfl|rfl|rfl|rfl|rfl<;>rfl
  rw[e1,if_pos rfl] at h2
  have:m=0:=by simpa using h2
  subst this;refine .inr (.inr (.inr ⟨by omega,?_⟩));rcases a0 with rfl|rfl|rfl|rfl|rfl|rfl<;>rfl
 by_cases a1:k=6\/k=7\/k=24
 ·have:m=1:=by rcases a1 with rfl|rfl|rfl<;>(simp at h2;omega)
  subst this;refine .inr (.inr (.inr ⟨by omega,?_⟩));rcases a1 with rfl|rfl|rfl<;>rfl
 by_cases a2:k=21
 ·subst a2;have hm:m=2:=by simp at h2;omega
  have hn:(jP n).isSome=true:=by simpa using h1
  rw[vh] at hn;have hn2:=of_decide_eq_true hn;subst hm;refine .inr (.inr (.inl ⟨rfl,hn2,?_⟩));have h3:n=1\/n=2\/n=3\/n=4\/n=5\/n=6:=by omega
  rcases h3 with rfl|rfl|rfl|rfl|rfl|rfl<;>rfl
 by_cases a3:k=19
 ·exact .inl (by omega)
 by_cases a4:k=20
 ·subst a4;have hn:(jw n).isSome=true:=by simpa using h1
  rw[yt] at hn;have hn2:=of_decide_eq_true hn;refine .inr (.inl ⟨rfl,hn2,?_⟩);have h3:n=1\/n=2\/n=3\/n=4\/n=5\/n=6\/n=7\/n=8\/n=9\/n=10:=by omega
  rcases h3 with rfl|rfl|rfl|rfl|rfl|rfl|rfl|rfl|rfl|rfl <;>
   (simp[jw,gQ] at h2;simp[j9];omega)
 by_cases a5:k=25
 ·exact .inl (by omega)
 have e1:(k==1||k==2||k==3||k==4||k==22||k==23)=false:=by simp;omega
 have e2:(k==6||k==7||k==24)=false:=by simp;omega
 have e3:(k==21)=false:=by simpa using a2
 have e4:(k==19)=false:=by simpa using a3
 have e5:(k==20)=false:=by simpa using a4
 have e6:(k==25)=false:=by simpa using a5
 rw[e1,e2,e3,e4,e5,e6] at h2;simp only[Bool.false_eq_true,if_false,Ia,beq_iff_eq] at h2;have hr:=DH h2.1;have hm:m=2:=by omega
 subst hm;by_cases a6:k=13\/k=14
 ·exact .inl (by omega)
 refine .inr (.inr (.inr ⟨by omega,?_⟩));have h3:k=8\/k=9\/k=10\/k=11\/k=12\/k=15\/k=16\/k=17\/k=18:=by omega
 rcases h3 with rfl|rfl|rfl|rfl|rfl|rfl|rfl|rfl|rfl<;>rfl
theorem Ah {k n:Int}{m:Nat}(h:okR k n m):1<=k/\k<=25/\k≠5:=by
 unfold okR at h;omega
theorem np {I:Nat->Prop}{n0:Nat}{a w w':G9}{o o':Nat->Nat}(b:Hf n0 a w)(s:as I w o w' o')(h:∀ k,k<n0->¬I (o k))(hn:n0<=a.heap.size):Hf n0 a w' :=
 ⟨s.os.trans b.os,s.tape.trans b.tape,s.output.trans b.output,In b.size s.size,λk hk=>(s.block k (by have:=b.size;omega) (h k hk)).trans (b.block k hk)⟩
abbrev I1n:Nat->Prop:=λk=>k=1
theorem Nms.ofRow {w:G9}{o:Nat->Nat}{g cap:Nat}{b:List (List UInt8)}{n:Nat}(h:Row w o 1 9 1 (.slice (G1 ⟨g,0,G0⟩) n cap) n (b.map λx=>stv x))(hn:b.length=n)(h0:0<n):Nms w (.slice (G1 ⟨g,0,G0⟩) n cap) b:=by
 subst hn;obtain⟨g',cap',e1,_,h2,_,h4,h5,_⟩:=h.pos h0;injection e1 with e1 e2 e3
 injection e1 with e1
 injection e1 with e1
 subst e1;subst e3;refine⟨_,_,rfl,h2,.inr ⟨g,rfl,h4,h0,λj t hj=>?_⟩⟩;have hj2:j<b.length:=(List.getElem?_eq_some_iff.1 hj).1;rw[h5 j (by omega),ID,hj];rfl
theorem nG {P:JT}(w:G9)(t ty e:Il)(i:TypeInfo)(ht:P.underlying t=G1 (.slice e))(hi:P.info? e=G1 i)(ao:Option Hw)(n cap:Nat)(x:Option Hw)(c:Nat)(hnc:n<=cap) :
  (Builtin.append_ #[t,t] ty #[.slice ao n cap,.slice x 0 c]).run P w=.ok (.slice ao n cap) w:=by
 have hl:∀ a:Hw,(loadCells a 0).run P w=.ok #[] w:=λa=>by simp[loadCells,loadCellsFrom]
 cases x<;>cases ao<;>simp[Builtin.append_,run_underlying ht,sizeOf,typeInfo,hi,Builtin.lenOf,Builtin.firstCells,hnc,storeCells,hl]
theorem lE {P:JT}{w:G9}{ops:Array Oper}{rest:List Oper}{op:Oper}{a:Act}{Q:Exit->Act->G9->Prop}(hgd:op.guard=G0)(s x:Operand)(t:Il)
  (ho:op.op=.call { callee:=.builtin .append,args:=#[s,x],argTypes:=#[t,t] }) (e:Il) (i:TypeInfo) (ht:P.underlying t=G1 (.slice e)) (hi:P.info? e=G1 i)
  (ao:Option Hw) (n cap:Nat) (y:Option Hw) (c:Nat) (hs:a.eval s=.slice ao n cap) (hx:a.eval x=.slice y 0 c) (hnc:n<=cap) (h:wpList P ops Q rest (a.put op.dst (.slice ao n cap)) w):wpList P ops Q (op::rest) a w:=by
 refine wpList_plain hgd λ_ hK=>?_;have hr:=nG (P:=P) w t op.type e i ht hi ao n cap y c hnc;unfold Oper.wp execOp;simp only[ho,resolve,invoke,builtin,Sem.run_bind,Sem.run_pure,Kx,KM,List.map_cons,List.map_nil,hs,hx,hr];exact hK _ _ h
theorem Row.cap {w:G9}{o:Nat->Nat}{i:Nat}{e:Il}{Kb:Nat}{n m cap:Nat}{ao:Option Hw}{xs:List He}(h:Row w o i e Kb (.slice ao m cap) n xs):m=n/\n<=cap/\cap<=Hu:=by
 rcases h.1.2 with ⟨hh,hk0⟩|⟨gx,cx,_,hh,_,_,hle,hm,_⟩
 ·simp only[IS] at hh;obtain⟨_,rfl,rfl⟩:=hh;exact⟨hk0.symm,by omega,by unfold Hu;omega⟩
 ·simp only[IS] at hh;obtain⟨_,rfl,rfl⟩:=hh;exact⟨rfl,hle,hm⟩
theorem jg {P:JT}{w:G9}{ops:Array Oper}{rest:List Oper}{op:Oper}{a:Act}{Q:Exit->Act->G9->Prop}(hgd:op.guard=G0)(s x:Operand)(t:Il)
  (ho:op.op=.call { callee:=.builtin .append,args:=#[s,x],argTypes:=#[t,t] })
  (e:Il) (i:TypeInfo) (z:He) (Kb bytes:Nat) (ht:P.underlying t=G1 (.slice e)) (hi:P.info? e=G1 i) (hz:i.zero=G1 z)
  (hsize:i.size=Kb) (hby:i.bytes=bytes) (hzs:z.cells.size=Kb) (hsz:0<Kb)
  (o:Nat->Nat) (lb:Nat) (v:He) (n:Nat) (xs:List He) (hs:a.eval s=v) (hrow:Row w o lb e Kb v n xs)
  (y:Option Hw) (m c:Nat) (news:List He) (hx:a.eval x=.slice y m c) (hl:news.length=m*Kb) (hnews:0<m->∃ad,y=G1 ad/\∀ j u,news[j]?=G1 u->w.cell? (ad.add j)=G1 u) (h1:∀ u ∈ news,u.oneCell'=true)
  (h63:n+m<=Hu) (hbytes:(n+m)*bytes<=140737488355328)
  (h:∀ ao cap w' o',Row w' o' lb e Kb (.slice ao (n+m) cap) (n+m) (xs++news)->as (λk=>k=lb) w o w' o'->wpList P ops Q rest (a.put op.dst (.slice ao (n+m) cap)) w'):wpList P ops Q (op::rest) a w:=by
 by_cases hm:0<m
 ·obtain⟨ad,rfl,hn⟩:=hnews hm;exact eb hgd s x t ho e i z Kb bytes ht hi hz hsize hby hzs hsz o lb v n xs hs hrow ad m c news hx hl hn h1 hm h63 hbytes λg cap w' o' r st=>h _ _ _ _ r st
 ·obtain rfl:m=0:=by omega
  obtain⟨ao,cap,rfl⟩:=hrow.form;have hnil:news=[]:=Jt (by omega);subst hnil;refine lE hgd s x t ho e i ht hi ao n cap y c hs hx hrow.cap.2.1 ?_
  have:=h ao cap w o (by rw[J1];exact hrow) (as.refl _ _ _)
  exact this
end Go.Proofs.YtkhgahljbpmfaaaGreatDoor

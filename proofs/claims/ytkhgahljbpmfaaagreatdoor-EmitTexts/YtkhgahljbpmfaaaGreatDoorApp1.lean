import Derived.Lib.AtoiAll
import Derived.WalkKit
import Derived.ProofKit
import Derived.OpenShut
import Derived.Deep.QuietTactic
import Derived.BigQuiet
import Derived.Test.YtkhgahljbpmfaaaGreatDoorRows
import Derived.Shelf.Strconv.ErrVarAll
import Derived.Ground.NamesProg
import Derived.Lib.OthersKept
import Derived.Deep.MidRow
import Derived.Deep.CutBlock
import Derived.Deep.DeepCutAuto
import Derived.Laws.ResultCell
import Derived.WalkLawsBesides
import Derived.Deep.RegionHeld3
import Derived.Lib.AppendStr
import Derived.RegionTactic
import Derived.ChangeAlike
import Derived.BigRegion
import Derived.Shelf.Strconv.Itoa3
import Derived.Lib.ItoaLen
import Derived.Lib.SmallJoins
import Derived.Lib.Small
import Derived.Lib.AppendIntMem
import Derived.Deep.RegionHeld
import Derived.Laws.BytesArg
import Derived.Lib.SliceRun
import Derived.Deep.RegionLaw
set_option maxRecDepth 100000
set_option maxHeartbeats 8000000
namespace Go.Proofs.YtkhgahljbpmfaaaGreatDoor
open Option renaming none->GA,some->GB
open Nat renaming le_refl->GC,lt_of_lt_of_le->GM,le_trans->Hn,not_lt_zero->Hr,add_zero->Hs,le_succ->Hv,zero_add->Hx,zero_le->Jh,add_sub_cancel_left->Jp,eq_zero_or_pos->Jw,lt_or_ge->JJ,sub_self->JR
open Go.Proofs.Tryz renaming prog->GD,underlying9->IL,underlying147->Jt,underlying5->Kb
open Go renaming World->GE,lt_of_block->GF,bodyPost_ret->GG,heap_alloc_new->GH,Value->GJ,heap_setCell_other->GP,Calls->GR,maxLen->GY,Addr->G1,cell_of_row->Hf,TypeId->Hl,heap_setCell_same->Ij,frozen_of_row->Ik,Ending->IG,Program->Jr
open List renaming getElem?_eq_getElem->GI,getElem_cons_zero->GV,getElem_cons_succ->GW,length_cons->G5,getElem?_eq_none->He,mem_of_find?_eq_some->Hi,suffix_cons->Hz,getElem?_map->Ie,getElem?_append_right->Ig,not_mem_nil->Io,mem_cons->Iq,getElem_mem->It,getElem?_append_left->Iu,nil_append->Iy,length_nil->IF,drop_eq_getElem_cons->IK,cons_append->IP,find?_some->IU,eq_nil_of_length_eq_zero->I1,append_assoc->Jk,append_nil->Jz,map_toArray->Kc
open Go.RowKit renaming Below->GK,intOf->Hh
open Go.Lib renaming hid->GL,itoa->ID,atoiAll->JG,strCells->JW,formatBool->J7
open Go.RowKit.Below renaming refl->GN,heap_alloc->GO
open Bool renaming and_eq_true->Ha,not_eq_true->IJ,or_eq_true->IV
open Go.World renaming cell?_of_block->GS
open Go.Value renaming int->GT,ownBlock->Jo
open Exists renaming intro->G0
open Go.Instr renaming index->Hq
open Go.Act renaming put->Ip,eval->JY
open Go.Value.slice renaming injEq->Ir
open Prod.mk renaming injEq->IM
open Option.some renaming injEq->IQ
open Go.ByteArray renaming toList_eq->IT
open Go.Ending renaming returned->I5
open Go.Addr renaming add->I8
open Go.Result renaming andThen_ok->J4
set_option linter.unusedVariables false
def blk (r:Nat):Bool:=r==32||r==9||r==10||r==13
def sml (r:Nat):Bool:=decide (97<=r)&&decide (r<=122)
def ltr (r:Nat):Bool:=sml r||(decide (65<=r)&&decide (r<=90))
def dig (r:Nat):Bool:=decide (48<=r)&&decide (r<=57)
def sgn (r:Nat):Bool:=r==40||r==41||r==123||r==125||r==44||r==58||r==64||r==43||r==45||r==42||r==47||r==37||r==61||r==33||r==60
def cls (r:Nat):Nat:=if blk r then 0 else if ltr r then 1 else if dig r then 2 else if sgn r then 3 else 4
def tks (k:Nat)(t:List UInt8)(r:Nat):Bool :=
 match k with
 | 0=>blk r
 | 1=>ltr r||dig r||r==95
 | 2=>dig r
 | 3=>r==61&&(t==[33]||t==[60])
 | _=>false
def lN:List (List UInt8) :=
 [[97,108,108],[97,110,100],[97,114,111,117,110,100],[98,108,111,99,107],[98,111,116,116,108,101,110,101,99,107],[99,111,110,110,101,99,116,101,100],[99,111,117,110,116],[100,101,103,114,101,101],[101,108,115,101],
  [102,97,108,115,101],[105,102],[105,110],[108,101,97,115,116],[109,97,120],[109,105,110],[109,111,115,116],[110,111,116],[111,114],
  [114,101,112],[115,105,122,101],[115,111,109,101],[115,117,109],[116,104,101,110],[116,111,116,97,108],[116,114,117,101],[118,97,108,117,101],[118,101,114,116,105,99,101,115]]
def gS (t:List UInt8):Bool:=lN.contains t
def inn (c:UInt8):Bool:=sml c.toNat||dig c.toNat||c.toNat==95
def eE (t:List UInt8):Bool :=
 match t with
 | []=>false
 | c::r=>decide (r.length<12)&&sml c.toNat&&r.all inn&&!gS t
structure Tk where
 k:Nat
 n:Int
 t:List UInt8
 a:Nat
abbrev Res:=Sum (Nat × Nat) (List Tk)
def mv (x:Tk):Res->Res
 | .inl e=>.inl e
 | .inr l=>.inr (x::l)
def kK (t:List UInt8)(a:Nat):Sum Nat Tk :=
 match JG t with
 | .ok v=>if t.head?=GB 48/\t≠[48] then .inl 111 else .inr ⟨1,v,[],a⟩
 | _=>.inl 111
def jz (t:List UInt8)(a:Nat):Sum Nat Tk:=if gS t then .inr ⟨3,0,t,a⟩ else if eE t then .inr ⟨2,0,t,a⟩ else .inl 112
def pL (t:List UInt8)(a:Nat):Sum Nat Tk:=if t=[33] then .inl 110 else .inr ⟨4,0,t,a⟩
def jO (k:Nat)(t:List UInt8)(a:Nat):Sum Nat Tk :=
 match k with
 | 1=>jz t a
 | 2=>kK t a
 | 3=>pL t a
 | _=>.inl 110
def ge (k:Nat)(t:List UInt8)(a:Nat)(X:Res):Res :=
 if k=0 then X else match jO k t a with
  | .inl e=>.inl (e,a)
  | .inr x=>mv x X
def tD (p:Nat):Res:=.inr [⟨0,0,[],p⟩]
def eZ (k:Nat)(t:List UInt8)(a p:Nat):List UInt8->Res
 | []=>ge k t a (tD p)
 | c::r=>if tks k t c.toNat then eZ k (t++[c]) a (p+1) r else ge k t a (eZ (cls c.toNat) [c] p (p+1) r)
def pJ (l:List UInt8):Res:=eZ 0 [] 0 0 l
def iy (l:List UInt8):Res:=if 2000<l.length then .inl (113,0) else pJ l
theorem xi (t:List UInt8)(a p:Nat)(l:List UInt8):eZ 4 t a p l=.inl (110,a):=by
 cases l with
 | nil=>rfl
 | cons c r=>rfl
theorem tm (k:Nat)(t:List UInt8)(a p:Nat):eZ k t a p []=ge k t a (tD p):=rfl
theorem fV {k:Nat}{t:List UInt8}{a p:Nat}{c:UInt8}{r:List UInt8}(h:tks k t c.toNat=true):eZ k t a p (c::r)=eZ k (t++[c]) a (p+1) r:=by
 simp only[eZ,h,if_true]
theorem gj {k:Nat}{t:List UInt8}{a p:Nat}{c:UInt8}{r:List UInt8}(h:tks k t c.toNat=false):eZ k t a p (c::r)=ge k t a (eZ (cls c.toNat) [c] p (p+1) r):=by
 simp[eZ,h]
theorem lP (t b:List UInt8)(a f p:Nat)(l:List UInt8):eZ 0 t a p l=eZ 0 b f p l:=by
 induction l generalizing t b p with
 | nil=>rfl
 | cons c r e =>
  by_cases h:blk c.toNat=true
  ·rw[fV (by exact h),fV (by exact h)];exact e _ _ _
  ·have d:blk c.toNat=false:=by simpa using h
   rw[gj (by exact d),gj (by exact d)];rfl
theorem qb {k:Nat}{t:List UInt8}{a p:Nat}{c:UInt8}{r:List UInt8}(h:tks k t c.toNat=false):eZ k t a p (c::r)=ge k t a (eZ 0 [] p p (c::r)):=by
 rw[gj h]
 congr 1
 by_cases b:blk c.toNat=true
 ·rw[fV (k:=0) (by exact b)];have d:cls c.toNat=0:=by simp[cls,b]
  rw[d];exact lP _ _ _ _ _ _
 ·have e:blk c.toNat=false:=by simpa using b
  rw[gj (k:=0) (by exact e)];rfl
theorem AT (k:Nat)(t:List UInt8)(a p:Nat)(u l:List UInt8)(d:∀ j (h:j<u.length),tks k (t++u.take j) (u[j]).toNat=true)(b:∀ c r,l=c::r->tks k (t++u) c.toNat=false) :
  eZ k t a p (u++l)=ge k (t++u) a (eZ 0 [] (p+u.length) (p+u.length) l):=by
 induction u generalizing t p with
 | nil =>
  simp only[Iy,Jz,IF,Hs] at b ⊢;cases l with
  | nil=>rw[tm,tm];rfl
  | cons c r=>exact qb (b c r rfl)
 | cons c r i =>
  have f:=d 0 (by simp);simp only[List.take_zero,Jz,GV] at f;rw[IP,fV f,i (t++[c]) (p+1) (λj h=>?_) (λc' g e=>?_)]
  ·have m:p+1+r.length=p+(c::r).length:=by simp;omega
   rw[m,Jk];rfl
  ·have:=d (j+1) (by simp;omega)
   simpa [Jk] using this
  ·have:=b c' g e
   simpa [Jk] using this
structure Nd (α:Type) where
 k:Int
 n:Int
 nm:List UInt8
 a:Int
 kids:α
 rest:α
structure Fs where
 v:Option (Nd Fs)
abbrev Fs.nil:Fs:=⟨GA⟩
abbrev Fs.cons (k n:Int)(nm:List UInt8)(a:Int)(ks r:Fs):Fs:=⟨GB ⟨k,n,nm,a,ks,r⟩⟩
theorem Fs.on {P:Fs->Prop}(f:Fs)(nil:P .nil)(cons:∀ k n nm a ks r,P (.cons k n nm a ks r)):P f:=by
 obtain⟨v⟩:=f;cases v with
 | none=>exact nil
 | some z=>obtain⟨k,n,nm,a,ks,r⟩:=z;exact cons k n nm a ks r
structure Ex where
 k:Int
 n:Int
 nm:List UInt8
 a:Int
 kids:Fs
def Fs.len:Fs->Nat
 | ⟨GA⟩=>0
 | ⟨GB ⟨_,_,_,_,_,r⟩⟩=>r.len+1
def Fs.app:Fs->Fs->Fs
 | ⟨GA⟩,y=>y
 | ⟨GB ⟨k,n,nm,a,ks,r⟩⟩,y=>.cons k n nm a ks (r.app y)
def one (e:Ex):Fs:=.cons e.k e.n e.nm e.a e.kids .nil
def Fs.snoc (f:Fs)(e:Ex):Fs:=f.app (one e)
theorem Fs.len_app:∀ (x y:Fs),(x.app y).len=x.len+y.len
 | ⟨GA⟩,y=>by simp[Fs.app,Fs.len]
 | ⟨GB ⟨k,n,nm,a,ks,r⟩⟩,y=>by simp only[Fs.app,Fs.len];rw[Fs.len_app r y];omega
theorem Fs.len_snoc (x:Fs)(e:Ex):(x.snoc e).len=x.len+1:=by unfold Fs.snoc;rw[Fs.len_app];rfl
def fN:Ex:=⟨0,0,[],0,.nil⟩
def Fs.head:Fs->Ex
 | ⟨GA⟩=>fN
 | ⟨GB ⟨k,n,nm,a,ks,_⟩⟩=>⟨k,n,nm,a,ks⟩
structure Rs (α:Type) where
 v:Option (Sum (Nat × Nat) (α × List Tk))
abbrev Rs.out {α:Type}:Rs α:=⟨GA⟩
abbrev Rs.bad {α:Type}(e a:Nat):Rs α:=⟨GB (.inl (e,a))⟩
abbrev Rs.ok {α:Type}(x:α)(t:List Tk):Rs α:=⟨GB (.inr (x,t))⟩
theorem Rs.on {α:Type}{P:Rs α->Prop}(R:Rs α)(out:P .out)(bad:∀ e a,P (.bad e a))(ok:∀ x t,P (.ok x t)):P R:=by
 obtain⟨v⟩:=R
 match v with
 | none=>exact out
 | some (.inl (e,a))=>exact bad e a
 | some (.inr (x,t))=>exact ok x t
theorem Rs.ok_inj {α:Type}{x y:α}{t u:List Tk}(h:Rs.ok x t=Rs.ok y u):x=y/\t=u:=by simpa using h
def Rs.bind {α β:Type}:Rs α->(α->List Tk->Rs β)->Rs β
 | ⟨GA⟩,_=>.out
 | ⟨GB (.inl (e,a))⟩,_=>.bad e a
 | ⟨GB (.inr (x,ts))⟩,f=>f x ts
abbrev Rdr:=Nat->Nat->Nat->List Tk->Rs Ex
def eD (s:List UInt8):List Tk->Rs Nat
 | []=>.out
 | x::r=>if x.t=s then .ok x.a r else .bad 120 x.a
def hH (k:Nat):List Tk->Rs Tk
 | []=>.out
 | x::r=>if x.k=k then .ok x r else .bad 120 x.a
def ej (s:List UInt8)(o:Nat):List Tk->Rs Nat
 | []=>.out
 | x::r=>if x.t=s then (if o=64 then .bad 121 x.a else .ok x.a r) else .bad 120 x.a
def iJ:List (List UInt8 × Nat × Nat × Nat × Nat) :=
 [([111,114],18,1,1,2),([97,110,100],17,2,2,3),([61],13,4,5,5),([33,61],14,4,5,5),([60],15,4,5,5),([60,61],16,4,5,5),([43],8,5,5,6),([45],9,5,5,6),([42],10,6,6,7),([47],11,6,6,7),([37],12,6,6,7)]
def xT (t:List UInt8)(row:Nat):Option (List UInt8 × Nat × Nat × Nat × Nat):=iJ.find? λx=>x.1==t&&x.2.2.1==row
def gX:List (List UInt8 × Nat × Nat) :=
 [([99,111,110,110,101,99,116,101,100],1,2),([98,108,111,99,107],2,2),([98,111,116,116,108,101,110,101,99,107],3,2),([115,105,122,101],4,1),([116,111,116,97,108],5,1),([108,101,97,115,116],6,1),([109,111,115,116],7,1),([118,97,108,117,101],8,1),([100,101,103,114,101,101],9,1),([114,101,112],10,1)]
def pg (t:List UInt8):Option (List UInt8 × Nat × Nat):=gX.find? λx=>x.1==t
def gL:List (List UInt8 × Nat) :=
 [([97,108,108],1),([115,111,109,101],2),([99,111,117,110,116],3),([115,117,109],4),([109,105,110],5),([109,97,120],6)]
def mu (t:List UInt8):Option (List UInt8 × Nat):=gL.find? λx=>x.1==t
def fR (rec:Rdr):Nat->Nat->Nat->Nat->Ex->List Tk->Rs Ex
 | 0,_,_,_,_,_=>.out
 | m+1,row,o,q,left,ts =>
  match ts with
  | []=>.out
  | x::r =>
   match xT x.t row with
   | none=>.ok left ts
   | some (_,k,_,l,b)=>(rec b o q r).bind λright t2=>if row<l then .ok ⟨(k:Nat),0,[],x.a,(one left).snoc right⟩ t2 else fR rec m row o q ⟨(k:Nat),0,[],x.a,(one left).snoc right⟩ t2
def fX (rec:Rdr)(s:List UInt8)(k:Int)(row o q:Nat)(ts:List Tk):Rs Ex :=
 match ts with
 | []=>.out
 | x::r=>if x.t=s then (if o=64 then .bad 121 x.a else (rec row (o+1) q r).bind λkid t2=>.ok ⟨k,0,[],x.a,one kid⟩ t2) else rec (row+1) o q ts
def jy (rec:Rdr):Nat->Nat->Nat->Fs->List Tk->Rs Fs
 | 0,_,_,a,ts=>.ok a ts
 | j+1,o,q,a,ts=>(eD [44] ts).bind λ_ t1=>(rec 1 o q t1).bind λe t2=>jy rec j o q (a.snoc e) t2
def iK (rec:Rdr)(a o q:Nat)(ts:List Tk):Rs Fs :=
 (ej [40] o ts).bind λ_ t1=>(rec 1 (o+1) q t1).bind λe t2=>(jy rec (a-1) (o+1) q (one e) t2).bind λks t3=>(eD [41] t3).bind λ_ t4=>.ok ks t4
def gM (rec:Rdr)(o q:Nat)(ts:List Tk):Rs Ex :=
 (ej [105,102] o ts).bind λa t1=>(rec 1 (o+1) q t1).bind λx t2=>(eD [116,104,101,110] t2).bind λ_ t3=>(rec 1 (o+1) q t3).bind λy t4=>(eD [101,108,115,101] t4).bind λ_ t5=>(rec 1 (o+1) q t5).bind λz b=>.ok ⟨19,0,[],a,((one x).snoc y).snoc z⟩ b
def jW (rec:Rdr):Nat->Nat->Nat->Fs->List Tk->Rs Fs
 | 0,_,_,_,_=>.out
 | m+1,o,q,a,ts =>
  match ts with
  | []=>.out
  | x::r=>if x.t=[44] then (rec 1 o q r).bind λe t2=>jW rec m o q (a.snoc e) t2 else .ok a ts
def nf (rec:Rdr)(m o q:Nat)(ts:List Tk):Rs Fs :=
 match ts with
 | []=>.out
 | x::r=>if x.t=[125] then .ok .nil ts else (rec 1 o q ts).bind λe t1=>jW rec m o q (one e) t1
def iV (rec:Rdr)(m o q:Nat)(ts:List Tk):Rs Ex :=
 match ts with
 | []=>.out
 | x::r =>
  if x.k=2 then .ok ⟨23,0,x.t,x.a,.nil⟩ r
  else if x.t=[118,101,114,116,105,99,101,115] then .ok ⟨22,0,[],x.a,.nil⟩ r
  else if x.t=[97,114,111,117,110,100] then (iK rec 1 o q r).bind λks t=>.ok ⟨24,0,[],x.a,ks⟩ t
  else (ej [123] o ts).bind λa t1=>(nf rec m (o+1) q t1).bind λks t2=>(eD [125] t2).bind λ_ t3=>.ok ⟨25,0,[],a,ks⟩ t3
def gu (rec:Rdr)(m:Nat)(s:List UInt8)(n o q:Nat)(ts:List Tk):Rs Ex :=
 match ts with
 | []=>.out
 | x::r =>
  if q=4 then .bad 121 x.a
  else (ej s o ts).bind λa t1=>(hH 2 t1).bind λy t2=>(eD [105,110] t2).bind λ_ t3=>(iV rec m (o+1) (q+1) t3).bind λe t4=>(eD [58] t4).bind λ_ t5=>(rec 1 (o+1) (q+1) t5).bind λb c=>.ok ⟨21,(n:Nat),y.t,a,(one e).snoc b⟩ c
def fv (rec:Rdr)(m o q:Nat)(ts:List Tk):Rs Ex :=
 match ts with
 | []=>.out
 | x::r =>
  if x.k=1 then .ok ⟨1,x.n,[],x.a,.nil⟩ r
  else if x.k=2 then .ok ⟨4,0,x.t,x.a,.nil⟩ r
  else if x.t=[102,97,108,115,101] then .ok ⟨2,0,[],x.a,.nil⟩ r
  else if x.t=[116,114,117,101] then .ok ⟨2,1,[],x.a,.nil⟩ r
  else if x.t=[64] then (hH 1 r).bind λy t1=>.ok ⟨3,y.n,[],x.a,.nil⟩ t1
  else if x.t=[40] then (iK rec 1 o q ts).bind λks t1=>.ok ks.head t1
  else if x.t=[105,102] then gM rec o q ts
  else match pg x.t with
   | some (_,n,b)=>(iK rec b o q r).bind λks t1=>.ok ⟨20,(n:Nat),[],x.a,ks⟩ t1
   | none =>
    match mu x.t with
    | some (_,n)=>gu rec m x.t n o q ts
    | none=>.bad 120 x.a
def fL:Nat->Rdr
 | 0,_,_,_,_=>.out
 | n+1,row,o,q,ts =>
  if row=3 then fX (fL n) [110,111,116] 7 3 o q ts
  else if row=7 then fX (fL n) [45] 6 7 o q ts
  else if row=8 then fv (fL n) n o q ts
  else (fL n (row+1) o q ts).bind λl t=>fR (fL n) n row o q l t
def jj (n:Nat)(ts:List Tk):Rs Ex :=
 (fL n 1 0 0 ts).bind λe t =>
  match t with
  | []=>.out
  | x::_=>if x.k=0 then .ok e t else .bad 120 x.a
open Go.ChangeShapes Go.WideShapes Go.ChangeAt Go.RowKit
structure dQ (I:Nat->Prop)(w:GE)(o:Nat->Nat)(w':GE)(o':Nat->Nat):Prop where
 os:w'.os=w.os
 tape:w'.tape=w.tape
 output:w'.output=w.output
 size:w.heap.size<=w'.heap.size
 lab:∀ k,k<w.heap.size->o' k=o k
 block:∀ k,k<w.heap.size->¬I (o k)->w'.heap[k]?=w.heap[k]?
theorem dQ.refl (I:Nat->Prop)(w:GE)(o:Nat->Nat):dQ I w o w o:=⟨rfl,rfl,rfl,GC _,λ_ _=>rfl,λ_ _ _=>rfl⟩
theorem dQ.trans {I:Nat->Prop}{a b c:GE}{o o' e:Nat->Nat}(h:dQ I a o b o')(k:dQ I b o' c e):dQ I a o c e :=
 ⟨k.os.trans h.os,k.tape.trans h.tape,k.output.trans h.output,Hn h.size k.size,λi d=>(k.lab i (GM d h.size)).trans (h.lab i d),
  λi d f=>(k.block i (GM d h.size) (by rw[h.lab i d];exact f)).trans (h.block i d f)⟩
theorem dQ.mono {I J:Nat->Prop}{a b:GE}{o o':Nat->Nat}(h:dQ I a o b o')(c:∀ i,I i->J i):dQ J a o b o' :=
 ⟨h.os,h.tape,h.output,h.size,h.lab,λk e d=>h.block k e (λx=>d (c _ x))⟩
theorem dQ.alloc {I:Nat->Prop}{a w:GE}{o o':Nat->Nat}(h:dQ I a o w o')(b:Obj):dQ I a o (w.alloc b) o' :=
 h.trans ⟨rfl,rfl,rfl,by simp,λ_ _=>rfl,λk c _=>GO w b k c⟩
theorem dQ.drewN {I:Nat->Prop}{a w:GE}{o o':Nat->Nat}(h:dQ I a o w o')(n:Nat):dQ I a o (w.drewN n) o' :=
 ⟨h.os,h.tape,h.output,h.size,h.lab,h.block⟩
theorem dQ.drew {I:Nat->Prop}{a w:GE}{o o':Nat->Nat}(h:dQ I a o w o'):dQ I a o w.drew o' :=
 ⟨h.os,h.tape,h.output,h.size,h.lab,h.block⟩
theorem dQ.setCell {I:Nat->Prop}{a w:GE}{o o':Nat->Nat}(h:dQ I a o w o')(p:G1)(u:GJ)(b:I (o' p.block)):dQ I a o (w.setCell p u) o' :=
 h.trans ⟨rfl,rfl,rfl,by simp,λ_ _=>rfl,λk d c=>GP w p k u (λe=>c (by rw[e];exact b))⟩
def dR (w:GE)(o:Nat->Nat)(i:Nat):Nat->Nat:=λk=>if k<w.heap.size then o k else i
theorem ed {w:GE}{o:Nat->Nat}{i k:Nat}(h:k<w.heap.size):dR w o i k=o k:=by simp[dR,h]
theorem dY {w:GE}{o:Nat->Nat}{i k:Nat}(h:w.heap.size<=k):dR w o i k=i:=by simp[dR,Nat.not_lt.2 h]
theorem dQ.labelled {I:Nat->Prop}{a w:GE}{o o':Nat->Nat}(h:dQ I a o w o')(i:Nat):dQ I a o w (dR w o' i) :=
 h.trans ⟨rfl,rfl,rfl,GC _,λk b=>ed b,λ_ _ _=>rfl⟩
def Row (w:GE)(o:Nat->Nat)(i:Nat)(e:Hl)(size:Nat)(v:GJ)(n:Nat)(xs:List GJ):Prop :=
 w.ownsRow 0 e size v n xs/\∀ k,v.ownBlock=GB k->o k=i
def Blk (w:GE)(o:Nat->Nat)(i:Nat)(b:Nat)(a:Obj):Prop:=w.heap[b]?=GB a/\o b=i
theorem Blk.lt {w:GE}{o:Nat->Nat}{i b:Nat}{a:Obj}(h:Blk w o i b a):b<w.heap.size:=GF h.1
theorem Blk.step {I:Nat->Prop}{w w':GE}{o o':Nat->Nat}{i b:Nat}{a:Obj}(h:Blk w o i b a)(s:dQ I w o w' o')(c:¬I i):Blk w' o' i b a :=
 ⟨(s.block b h.lt (by rw[h.2];exact c)).trans h.1,(s.lab b h.lt).trans h.2⟩
theorem Row.lt {w:GE}{o:Nat->Nat}{i:Nat}{e:Hl}{size:Nat}{v:GJ}{n:Nat}{xs:List GJ}(h:Row w o i e size v n xs){k:Nat}(a:v.ownBlock=GB k):k<w.heap.size:=(h.1.lt k a).2
theorem Row.step {I:Nat->Prop}{w w':GE}{o o':Nat->Nat}{i:Nat}{e:Hl}{size:Nat}{v:GJ}{n:Nat}{xs:List GJ}(h:Row w o i e size v n xs)(s:dQ I w o w' o')(f:¬I i):Row w' o' i e size v n xs:=by
 refine⟨⟨h.1.1,?_⟩,λk c=>(s.lab k (h.lt c)).trans (h.2 k c)⟩;rcases h.1.2 with d|⟨g,cap,b,rfl,j,a,rest⟩
 ·exact .inl d
 ·refine .inr ⟨g,cap,b,rfl,j,?_,rest⟩;rw[s.block g (GF a) (by rw[h.2 g rfl];exact f)];exact a
theorem Row.nil (w:GE)(o:Nat->Nat)(i:Nat)(e:Hl)(size:Nat):Row w o i e size (.slice GA 0 0) 0 []:=⟨World.ownsRow_nil _ _ _ _,λk a=>by simp[Jo] at a⟩
theorem Row.len {w:GE}{o:Nat->Nat}{i:Nat}{e:Hl}{size:Nat}{v:GJ}{n:Nat}{xs:List GJ}(h:Row w o i e size v n xs):xs.length=n*size:=h.1.1
theorem Row.form {w:GE}{o:Nat->Nat}{i:Nat}{e:Hl}{size:Nat}{v:GJ}{n:Nat}{xs:List GJ}(h:Row w o i e size v n xs):∃ao cap,v=.slice ao n cap:=by
 rcases h.1.2 with ⟨rfl,rfl⟩|⟨g,cap,a,rfl,_⟩
 ·exact⟨_,_,rfl⟩
 ·exact⟨_,_,rfl⟩
theorem Row.pos {w:GE}{o:Nat->Nat}{i:Nat}{e:Hl}{size:Nat}{v:GJ}{n:Nat}{xs:List GJ}(h:Row w o i e size v n xs)(k:0<n) :
  ∃g cap,v=.slice (GB ⟨g,0,GA⟩) n cap/\o g=i/\n<=cap/\cap<=GY/\g<w.heap.size/\(∀ j,j<n*size->w.cell? ⟨g,j,GA⟩=xs[j]?)/\(∀ j,w.frozen? ⟨g,j,GA⟩=false):=by
 rcases h.1.2 with ⟨rfl,rfl⟩|⟨g,cap,f,rfl,_,c,d,a,_⟩
 ·omega
 ·exact⟨g,cap,rfl,h.2 g rfl,d,a,GF c,λj b=>h.1.cellAt j b,λj=>h.1.frozenAt j⟩
theorem Row.store {w:GE}{o:Nat->Nat}{i:Nat}{e:Hl}{size:Nat}{g n cap:Nat}{xs:List GJ}(h:Row w o i e size (.slice (GB ⟨g,0,GA⟩) n cap) n xs)(j:Nat)(u:GJ) :
  Row (w.setCell ⟨g,j,GA⟩ u) o i e size (.slice (GB ⟨g,0,GA⟩) n cap) n (xs.set j u):=⟨(h.1.stored j u).1,h.2⟩
theorem jt {P:Jr}(w:GE)(t s e:Hl)(i:TypeInfo)(z:GJ)(size f:Nat)(E:P.underlying t=GB (.slice e))(F:P.info? e=GB i)(H:i.zero=GB z)
  (l:i.size=size) (A:i.bytes=f) (G:z.cells.size=size) (J:0<size)
  (v:GJ) (n:Nat) (xs:List GJ) (h:w.ownsRow 0 e size v n xs)
  (a:G1) (m c:Nat) (news:List GJ) (x:news.length=m*size) (b:∀ j u,news[j]?=GB u->w.cell? (a.add j)=GB u) (h1:∀ u ∈ news,u.oneCell'=true)
  (B:n+m<=GY) (d:(n+m)*f<=140737488355328) (R:0<m) :
  ∃v' w',(Builtin.append_ #[t,t] s #[v,.slice (GB a) m c]).run P w=.ok v' w'/\w'.ownsRow 0 e size v' (n+m) (xs++news)/\w.grownBy w' v.ownBlock /\
   (v'.ownBlock=v.ownBlock\/∃k,v'.ownBlock=GB k/\w.heap.size<=k):=by
 obtain⟨v',w',q,O,S,_⟩:=run_append_own (P:=P) w 0 t s e i z size f E F H l A G J v n xs h a m c news x b h1 B d (Jh _);refine⟨v',w',q,O,S,?_⟩;subst l;subst A;have M:n+m<=9223372036854775807:=by simp only[GY] at B;omega
 rcases h.2 with ⟨rfl,rfl⟩|⟨g,cap,D,rfl,U,K,Q,T,L,I⟩
 ·have p:=run_append_nil (P:=P) w t s e i z E F H a m c news x b R (by omega) (by have V:=d;simp only[Hx] at V;omega);rw[p] at q;injection q with C N
  subst C;exact .inr ⟨_,rfl,GC _⟩
 ·by_cases o:n+m<=cap
  ·have y:n*i.size+news.length<=D.size:=by rw[x,L,<-Nat.add_mul];exact Nat.mul_le_mul_right _ o
   have p:=run_append_room (P:=P) w t s e i E F g n cap D K a m c news x b h1 o y;rw[p] at q;injection q with C N
   subst C;exact .inl rfl
  ·have r:∀ j u,xs[j]?=GB u->w.cell? ((⟨g,0,GA⟩:G1).add j)=GB u:=h.cells (g:=g) rfl;have p:=run_append_grow (P:=P) w t s e i z E F H ⟨g,0,GA⟩ n cap xs h.1 r a m c news x b (by omega) (by omega) (growslice_fits (by omega) d);rw[p] at q;injection q with C N
   subst C;exact .inr ⟨_,rfl,GC _⟩
theorem dQ.appended {I:Nat->Prop}{w w':GE}{o:Nat->Nat}{i:Nat}{row:Option Nat}(a:w.grownBy w' row)(f:I i)(c:∀ k,row=GB k->o k=i):dQ I w o w' (dR w o i) :=
 ⟨a.os,a.tape,a.output,a.size,λk b=>ed b,λk b d=>a.block k b (λe=>d (by rw[c k e.symm];exact f))⟩
theorem eb {P:Jr}{w:GE}{A:Array Oper}{rest:List Oper}{op:Oper}{a:Act}{Q:Exit->Act->GE->Prop}(G:op.guard=GA)(s x:Operand)(t:Hl)
  (R:op.op=.call { callee:=.builtin .append,args:=#[s,x],argTypes:=#[t,t] })
  (e:Hl) (i:TypeInfo) (z:GJ) (size b:Nat) (M:P.underlying t=GB (.slice e)) (U:P.info? e=GB i) (K:i.zero=GB z)
  (q:i.size=size) (H:i.bytes=b) (C:z.cells.size=size) (D:0<size)
  (o:Nat->Nat) (p:Nat) (v:GJ) (n:Nat) (xs:List GJ) (N:a.eval s=v) (d:Row w o p e size v n xs)
  (J:G1) (m c:Nat) (news:List GJ) (L:a.eval x=.slice (GB J) m c) (T:news.length=m*size) (r:∀ j u,news[j]?=GB u->w.cell? (J.add j)=GB u) (h1:∀ u ∈ news,u.oneCell'=true)
  (S:0<m) (I:n+m<=GY) (l:(n+m)*b<=140737488355328)
  (h:∀ g cap w' o',Row w' o' p e size (.slice (GB ⟨g,0,GA⟩) (n+m) cap) (n+m) (xs++news)->dQ (λk=>k=p) w o w' o'->wpList P A Q rest (a.put op.dst (.slice (GB ⟨g,0,GA⟩) (n+m) cap)) w'):wpList P A Q (op::rest) a w:=by
 refine wpList_plain G λ_ V=>?_;obtain⟨v',w',O,h2,W,B⟩:=jt (P:=P) w t op.type e i z size b M U K q H C D v n xs d.1 J m c news T r h1 I l S;unfold Oper.wp execOp;simp only[R,resolve,invoke,builtin,Sem.run_bind,Sem.run_pure,J4,Kc,List.map_cons,List.map_nil,N,L,O];have E:dQ (λk=>k=p) w o w' (dR w o p):=dQ.appended W rfl d.2;have f:Row w' (dR w o p) p e size v' (n+m) (xs++news):=by
  refine⟨h2,λk y=>?_⟩;rcases B with B|⟨X,B,F⟩
  ·rw[B] at y;rw[ed (d.lt y)];exact d.2 k y
  ·rw[B] at y;injection y with y
   subst y;exact dY F
 obtain⟨g,cap,rfl,_⟩:=f.pos (by omega);exact V _ _ (h g cap w' _ f E)
theorem dQ.below {I:Nat->Prop}{w w':GE}{o o':Nat->Nat}(s:dQ I w o w' o')(b:∀ k,k<w.heap.size->¬I (o k)):GK w.heap.size w w' :=
 ⟨s.os,s.tape,s.output,s.size,λk a=>s.block k a (b k a)⟩
theorem fT {P:Jr}{w:GE}{A:Array Oper}{op:Oper}{a:Act}{K:Act->GE->Prop}{Q:Exit->Act->GE->Prop}{E:Prop}(H:op.guard=GA)(s x:Operand)(t:Hl)
  (U:op.op=.call { callee:=.builtin .append,args:=#[s,x],argTypes:=#[t,t] })
  (e:Hl) (i:TypeInfo) (z:GJ) (size b:Nat) (R:P.underlying t=GB (.slice e)) (X:P.info? e=GB i) (M:i.zero=GB z)
  (q:i.size=size) (I:i.bytes=b) (C:z.cells.size=size) (D:0<size)
  (o:Nat->Nat) (p:Nat) (v:GJ) (n:Nat) (xs:List GJ) (S:a.eval s=v) (d:Row w o p e size v n xs)
  (L:G1) (m c:Nat) (news:List GJ) (N:a.eval x=.slice (GB L) m c) (W:news.length=m*size) (r:∀ j u,news[j]?=GB u->w.cell? (L.add j)=GB u) (h1:∀ u ∈ news,u.oneCell'=true)
  (V:0<m) (J:n+m<=GY) (l:(n+m)*b<=140737488355328)
  (h:∀ g cap w' o',Row w' o' p e size (.slice (GB ⟨g,0,GA⟩) (n+m) cap) (n+m) (xs++news)->dQ (λk=>k=p) w o w' o'->K (a.put op.dst (.slice (GB ⟨g,0,GA⟩) (n+m) cap)) w') :
  if Region.wanted op (yielded A a.tmps)=true then Oper.wp P op a w K Q else E:=by
 have O:Region.wanted op (yielded A a.tmps)=true:=by simp[Region.wanted,H]
 rw[if_pos O];obtain⟨v',w',T,h2,Y,B⟩:=jt (P:=P) w t op.type e i z size b R X M q I C D v n xs d.1 L m c news W r h1 J l V;unfold Oper.wp execOp;simp only[U,resolve,invoke,builtin,Sem.run_bind,Sem.run_pure,J4,Kc,List.map_cons,List.map_nil,S,N,T];have F:dQ (λk=>k=p) w o w' (dR w o p):=dQ.appended Y rfl d.2;have f:Row w' (dR w o p) p e size v' (n+m) (xs++news):=by
  refine⟨h2,λk y=>?_⟩;rcases B with B|⟨Z,B,G⟩
  ·rw[B] at y;rw[ed (d.lt y)];exact d.2 k y
  ·rw[B] at y;injection y with y
   subst y;exact dY G
 obtain⟨g,cap,rfl,_⟩:=f.pos (by omega);exact h g cap w' _ f F
theorem fG (w:GE)(x:GJ)(t:Hl):∀ j u,[x][j]?=GB u->(w.alloc (.cells #[x] t)).cell? ((⟨w.heap.size,0,GA⟩:G1).add j)=GB u:=by
 intro j u a
 match j,a with
 | 0,a=>simp at a;subst a;simp[I8]
theorem uV {w:GE}{s:Nat}(a:w.heap.size=s)(x:GJ)(t:Hl):∀ j u,[x][j]?=GB u->(w.alloc (.cells #[x] t)).cell? ((⟨s,0,GA⟩:G1).add j)=GB u:=by
 subst a;exact fG w x t
theorem pP {w:GE}{a:Nat}{e:Hl}{size:Nat}{v:GJ}{n:Nat}{xs:List GJ}(h:w.ownsRow a e size v n xs):w.ownsRow 0 e size v n xs:=by
 refine⟨h.1,?_⟩;rcases h.2 with c|⟨g,cap,b,h1,h2,rest⟩
 ·exact .inl c
 ·exact .inr ⟨g,cap,b,h1,Jh _,rest⟩
theorem nY {k:IntKind}{a b:Int}(h:a=b):I5 (.int k a)=.returned (.int k b):=by rw[h]
theorem eO {a b:Bool}(h:a=b):I5 (.bool a)=.returned (.bool b):=by rw[h]
theorem oT (r:Nat)(w:GE)(a:r<=2147483647) :
  GR GD 142 #[.int .i32 (r:Nat)] w λe w'=>e=.returned (.bool (sml r))/\w'=w:=by
 by_cases h1:97<=r
 ·have g1:(97:Int)<=(r:Int):=by omega
  by_cases h2:r<=122
  ·have g2:(r:Int)<=122:=by omega
   have e0:sml r=true:=by simp[sml,h1,h2]
   rw[e0];clear e0;go_enter Tryz.func142,Tryz.ntmps142;go_wp2;go_ret;exact⟨rfl,rfl⟩
  ·have g2:¬(r:Int)<=122:=by omega
   have e0:sml r=false:=by simp[sml];omega
   rw[e0];clear e0;go_enter Tryz.func142,Tryz.ntmps142;go_wp2;go_ret;exact⟨rfl,rfl⟩
 ·have g1:¬(97:Int)<=(r:Int):=by omega
  have e0:sml r=false:=by simp[sml];omega
  rw[e0];clear e0;go_enter Tryz.func142,Tryz.ntmps142;go_wp2;go_ret;exact⟨rfl,rfl⟩
theorem vQ (r:Nat)(w:GE)(a:r<=2147483647) :
  GR GD 143 #[.int .i32 (r:Nat)] w λe w'=>e=.returned (.bool (dig r))/\w'=w:=by
 by_cases h1:48<=r
 ·have g1:(48:Int)<=(r:Int):=by omega
  by_cases h2:r<=57
  ·have g2:(r:Int)<=57:=by omega
   have e0:dig r=true:=by simp[dig,h1,h2]
   rw[e0];clear e0;go_enter Tryz.func143,Tryz.ntmps143;go_wp2;go_ret;exact⟨rfl,rfl⟩
  ·have g2:¬(r:Int)<=57:=by omega
   have e0:dig r=false:=by simp[dig];omega
   rw[e0];clear e0;go_enter Tryz.func143,Tryz.ntmps143;go_wp2;go_ret;exact⟨rfl,rfl⟩
 ·have g1:¬(48:Int)<=(r:Int):=by omega
  have e0:dig r=false:=by simp[dig];omega
  rw[e0];clear e0;go_enter Tryz.func143,Tryz.ntmps143;go_wp2;go_ret;exact⟨rfl,rfl⟩
theorem zM {s t:ByteArray}(h:s≠t):(s.toList==t.toList)=false:=by
 rw[beq_eq_false_iff_ne,IT,IT];exact λe=>h (ByteArray.ext (Array.toList_inj.1 e))
theorem pm {s:ByteArray}(h:¬s.size=0):s.toList.isEmpty=false:=by
 rw[IT,List.isEmpty_eq_false_iff];intro e;have h2:s.data.size=0:=by rw[<-Array.length_toList,e];rfl
 exact h h2
theorem oi {s t:ByteArray}:s.data.toList=t.data.toList ↔ s=t :=
 ⟨λe=>ByteArray.ext (Array.toList_inj.1 e),λe=>by rw[e]⟩
theorem b0 (w:GE):GK w.heap.size w w:=GN _ _
theorem b1 (w:GE)(o:Obj):GK w.heap.size w (w.alloc o):=(GN _ w).alloc (GC _) _
def wd (k:Nat):ByteArray:=⟨(lN.getD k []).toArray⟩
def eH:Array GJ:=#[.string (wd 0),.string (wd 1),.string (wd 2),.string (wd 3),.string (wd 4),.string (wd 5),.string (wd 6),.string (wd 7),.string (wd 8),.string (wd 9),.string (wd 10),.string (wd 11),.string (wd 12),.string (wd 13),.string (wd 14),.string (wd 15),.string (wd 16),.string (wd 17),.string (wd 18),.string (wd 19),.string (wd 20),.string (wd 21),.string (wd 22),.string (wd 23),.string (wd 24),.string (wd 25),.string (wd 26)]
theorem wix0 (w:GE):(Hq 229 (.agg eH) (.int .i64 0)).run GD w=.ok (.string (wd 0)) w:=by kernel_rfl
theorem wix1 (w:GE):(Hq 229 (.agg eH) (.int .i64 1)).run GD w=.ok (.string (wd 1)) w:=by kernel_rfl
theorem wix2 (w:GE):(Hq 229 (.agg eH) (.int .i64 2)).run GD w=.ok (.string (wd 2)) w:=by kernel_rfl
theorem wix3 (w:GE):(Hq 229 (.agg eH) (.int .i64 3)).run GD w=.ok (.string (wd 3)) w:=by kernel_rfl
theorem wix4 (w:GE):(Hq 229 (.agg eH) (.int .i64 4)).run GD w=.ok (.string (wd 4)) w:=by kernel_rfl
theorem wix5 (w:GE):(Hq 229 (.agg eH) (.int .i64 5)).run GD w=.ok (.string (wd 5)) w:=by kernel_rfl
theorem wix6 (w:GE):(Hq 229 (.agg eH) (.int .i64 6)).run GD w=.ok (.string (wd 6)) w:=by kernel_rfl
theorem wix7 (w:GE):(Hq 229 (.agg eH) (.int .i64 7)).run GD w=.ok (.string (wd 7)) w:=by kernel_rfl
theorem wix8 (w:GE):(Hq 229 (.agg eH) (.int .i64 8)).run GD w=.ok (.string (wd 8)) w:=by kernel_rfl
theorem wix9 (w:GE):(Hq 229 (.agg eH) (.int .i64 9)).run GD w=.ok (.string (wd 9)) w:=by kernel_rfl
theorem Gp (w:GE):(Hq 229 (.agg eH) (.int .i64 10)).run GD w=.ok (.string (wd 10)) w:=by kernel_rfl
theorem FJ (w:GE):(Hq 229 (.agg eH) (.int .i64 11)).run GD w=.ok (.string (wd 11)) w:=by kernel_rfl
theorem FC (w:GE):(Hq 229 (.agg eH) (.int .i64 12)).run GD w=.ok (.string (wd 12)) w:=by kernel_rfl
theorem Gy (w:GE):(Hq 229 (.agg eH) (.int .i64 13)).run GD w=.ok (.string (wd 13)) w:=by kernel_rfl
theorem F9 (w:GE):(Hq 229 (.agg eH) (.int .i64 14)).run GD w=.ok (.string (wd 14)) w:=by kernel_rfl
theorem Fx (w:GE):(Hq 229 (.agg eH) (.int .i64 15)).run GD w=.ok (.string (wd 15)) w:=by kernel_rfl
theorem FG (w:GE):(Hq 229 (.agg eH) (.int .i64 16)).run GD w=.ok (.string (wd 16)) w:=by kernel_rfl
theorem Fz (w:GE):(Hq 229 (.agg eH) (.int .i64 17)).run GD w=.ok (.string (wd 17)) w:=by kernel_rfl
theorem Ge (w:GE):(Hq 229 (.agg eH) (.int .i64 18)).run GD w=.ok (.string (wd 18)) w:=by kernel_rfl
theorem FQ (w:GE):(Hq 229 (.agg eH) (.int .i64 19)).run GD w=.ok (.string (wd 19)) w:=by kernel_rfl
theorem Gi (w:GE):(Hq 229 (.agg eH) (.int .i64 20)).run GD w=.ok (.string (wd 20)) w:=by kernel_rfl
theorem FP (w:GE):(Hq 229 (.agg eH) (.int .i64 21)).run GD w=.ok (.string (wd 21)) w:=by kernel_rfl
theorem FR (w:GE):(Hq 229 (.agg eH) (.int .i64 22)).run GD w=.ok (.string (wd 22)) w:=by kernel_rfl
theorem Gx (w:GE):(Hq 229 (.agg eH) (.int .i64 23)).run GD w=.ok (.string (wd 23)) w:=by kernel_rfl
theorem F5 (w:GE):(Hq 229 (.agg eH) (.int .i64 24)).run GD w=.ok (.string (wd 24)) w:=by kernel_rfl
theorem Fw (w:GE):(Hq 229 (.agg eH) (.int .i64 25)).run GD w=.ok (.string (wd 25)) w:=by kernel_rfl
theorem FE (w:GE):(Hq 229 (.agg eH) (.int .i64 26)).run GD w=.ok (.string (wd 26)) w:=by kernel_rfl
theorem yB (k:Nat)(a:k<27)(w:GE):(Hq 229 (.agg eH) (.int .i64 k)).run GD w=.ok (.string (wd k)) w:=by
 match k,a with
 | 0,_=>exact wix0 w
 | 1,_=>exact wix1 w
 | 2,_=>exact wix2 w
 | 3,_=>exact wix3 w
 | 4,_=>exact wix4 w
 | 5,_=>exact wix5 w
 | 6,_=>exact wix6 w
 | 7,_=>exact wix7 w
 | 8,_=>exact wix8 w
 | 9,_=>exact wix9 w
 | 10,_=>exact Gp w
 | 11,_=>exact FJ w
 | 12,_=>exact FC w
 | 13,_=>exact Gy w
 | 14,_=>exact F9 w
 | 15,_=>exact Fx w
 | 16,_=>exact FG w
 | 17,_=>exact Fz w
 | 18,_=>exact Ge w
 | 19,_=>exact FQ w
 | 20,_=>exact Gi w
 | 21,_=>exact FP w
 | 22,_=>exact FR w
 | 23,_=>exact Gx w
 | 24,_=>exact F5 w
 | 25,_=>exact Fw w
 | 26,_=>exact FE w
 | n+27,h=>omega
def Wd (w:GE):Prop:=∃t a,w.heap[3]?=GB (.cells eH t a)
theorem Wd.lt {w:GE}(h:Wd w):3<w.heap.size:=by
 obtain⟨t,a,h⟩:=h;exact GF h
theorem Wd.below {w w':GE}(h:Wd w)(b:GK w.heap.size w w'):Wd w':=by
 have a:=h.lt;obtain⟨t,c,h⟩:=h;exact⟨t,c,(b.block _ a).trans h⟩
theorem ql {t:List UInt8}(k:Nat)(b:k<27)(h:t=lN.getD k []):gS t=true:=by
 subst h;have a:lN.length=27:=rfl;unfold gS;rw[List.contains_iff_mem];simp only[List.getD,GI (by omega:k<lN.length),Option.getD_some];exact It _
theorem rR {t:List UInt8}(h:∀ k,k<27->¬t=lN.getD k []):gS t=false:=by
 rw[<-IJ];unfold gS;rw[List.contains_iff_mem,List.mem_iff_getElem];rintro ⟨k,a,e⟩;have b:lN.length=27:=rfl;refine h k (by omega) ?_;simp only[List.getD,GI a,Option.getD_some];exact e.symm
theorem xd:(Tryz.prog.info? 229).map (·.size)=GB eH.size:=by kernel_rfl
theorem D9 (s:ByteArray)(w:GE)(q:Wd w)(u:s.size<=GY) :
  GR GD 144 #[.string s] w λe w'=>e=.returned (.bool (gS s.data.toList))/\w'=w:=by
 obtain⟨n,r,p⟩:=q;have f:Hid (∀ k:Nat,k<27->(Hq 229 (.agg eH) (.int .i64 k)).run GD w=.ok (.string (wd k)) w):=λk m=>yB k m w;have g:=xd;generalize eH=cs at *;go_enter Tryz.func144,Tryz.ntmps144;go_wp2_with (refine wpList_load_row rfl 229 _ rfl 3 rfl n _ r _ p Tryz.underlying229 rfl g ?_);go_loopw [6] (λv wr=>∃k:Nat,k<=27/\v=.int .i64 k/\(∀ j,j<k->s≠wd j)/\wr=w) (λv _=>27-(Hh v).toNat)
 case atStart=>exact⟨0,by omega,by go_num,λj h=>by omega,rfl⟩
 case round =>
  obtain⟨k,m,rfl,a,rfl⟩:=hrel;by_cases c:k<27
  ·have l:=f.out k c;by_cases b:s=wd k
   ·have fin:gS s.data.toList=true:=ql k c (by rw[b];rfl);rw[<-b] at l;clear b f;go_wp2;go_ret;exact⟨by rw[fin];rfl,rfl⟩
   ·have d:∀ j,j<k+1->s≠wd j:=λj h=>by
     by_cases e:j=k
     ·subst e;exact b
     ·exact a j (by omega)
    have i:=zM b;generalize wd k=t at l b i;clear f a;go_wp2;go_roundw
    case rel=>(try ((repeat apply G0);refine⟨?_,rfl⟩));exact⟨k+1,by omega,by go_num,d,by trivial⟩
    case measure=>simp[Hh];omega
  ·obtain rfl:k=27:=by omega
   clear f;have fin:gS s.data.toList=false:=rR λj h e=>a j h (oi.1 (by rw[e];rfl));go_wp2;go_ret;exact⟨by rw[fin];rfl,rfl⟩
def nmc (j:Nat)(c:UInt8):Bool:=sml c.toNat||(j != 0&&(dig c.toNat||c.toNat==95))
theorem gV (l:List UInt8):eE l=true ↔ 0<l.length/\l.length<=12/\(∀ j (h:j<l.length),nmc j l[j]=true)/\gS l=false:=by
 cases l with
 | nil=>simp[eE]
 | cons c r =>
  simp only[eE,Ha,decide_eq_true_eq,List.all_eq_true,Bool.not_eq_true',G5];constructor
  ·rintro ⟨⟨⟨h1,h2⟩,a⟩,b⟩;refine⟨by omega,by omega,λj h=>?_,b⟩;cases j with
   | zero=>simp[nmc,h2]
   | succ j =>
    have:=a (r[j]'(by omega)) (It _)
    simp only[inn] at this;simp[nmc];simpa [IV,or_assoc] using this
  ·rintro ⟨h1,h2,a,b⟩;refine⟨⟨⟨by omega,?_⟩,λx d=>?_⟩,b⟩
   ·have:=a 0 (by omega)
    simpa [nmc] using this
   ·obtain⟨j,e,rfl⟩:=List.mem_iff_getElem.1 d
    have:=a (j+1) (by omega)
    simp only[nmc,GW] at this;simp only[inn];simpa [IV,or_assoc] using this
theorem kW {l:List UInt8}(j:Nat)(h:j<l.length)(a:nmc j l[j]=false):eE l=false:=by
 rw[<-IJ,gV];rintro ⟨_,_,b,_⟩
 have:=b j h
 rw[a] at this;cases this
theorem yZ (j:Nat)(c:UInt8)(h:128<=c.toNat):nmc j c=false:=by
 simp[nmc,sml,dig];omega
theorem eX (s:ByteArray)(j:Nat)(h:j<s.size)(a:j<s.data.toList.length):s.data.toList[j]=s[j]:=by
 rw[Array.getElem_toList];rfl
theorem fh (s:ByteArray):s.data.toList.length=s.size:=Array.length_toList
theorem EF (s:ByteArray)(w:GE)(hW:Wd w)(hs:s.size<=GY) :
  GR GD 89 #[.string s] w λe w'=>e=.returned (.bool (eE s.data.toList))/\GK w.heap.size w w':=by
 have hs':=hs;unfold GY at hs;have hln:=fh s;by_cases h0:s.size=0
 ·have e0:s=⟨#[]⟩:=by
   apply ByteArray.ext;exact Array.eq_empty_of_size_eq_zero h0
  subst e0;have fin:eE (⟨#[]⟩:ByteArray).data.toList=false:=rfl;rw[fin];clear fin h0 hln;go_enter Tryz.func89,Tryz.ntmps89;go_wp2;go_ret;exact⟨rfl,b0 _⟩
 ·by_cases h12:12<s.size
  ·have fin:eE s.data.toList=false:=by rw[<-IJ,gV];rintro ⟨_,h,_⟩;omega
   rw[fin];clear fin hln;have hne:=pm h0;have h12I:(12:Int)<(s.size:Int):=by omega
   go_enter Tryz.func89,Tryz.ntmps89;go_wp2;go_ret;exact⟨by simp,b0 _⟩
  ·have hne:=pm h0;have h12I:¬(12:Int)<(s.size:Int):=by omega
   have HL:Hid (s.data.toList.length=s.size):=hln;clear hln;go_enter Tryz.func89,Tryz.ntmps89;go_wp2;go_loopw [3] (λ_ wr=>∃pos:Nat,wr.heap[w.heap.size]?=GB (.stringIter s pos)/\pos<=s.size/\(∀ j (h:j<s.data.toList.length),j<pos->nmc j s.data.toList[j]=true)/\GK w.heap.size w wr) (λ_ wr=>s.size-wr.iterPos w.heap.size)
   case atStart=>exact⟨0,World.iter_heap w s 0,by omega,λj _ h=>by omega,b1 _ _⟩
   case round =>
    obtain⟨pos,hit,hps,hin,hbw⟩:=hrel;by_cases hp:pos<s.size
    ·have hpl:pos<s.data.toList.length:=by have:=HL.out;omega
     by_cases ha:(s[pos]'hp).toNat<128
     ·have hnx:∀ ty,(Instr.next (.pointer (GB ⟨w.heap.size,0,GA⟩)) true ty).run GD wr=_:=λty=>Lib.run_next_ascii_at wr w.heap.size s pos ty hit hp ha;have hit2:=Lib.iterAt_heap wr w.heap.size s pos (pos+1) hit;have hbw2:=Lib.below_iterAt hbw (k:=w.heap.size) (by omega) s (pos+1);have hex:nmc pos s.data.toList[pos]=nmc pos s[pos]:=by rw[eX s pos hp hpl]
      have hgo:nmc pos s[pos]=true->∀ j (h:j<s.data.toList.length),j<pos+1->nmc j s.data.toList[j]=true:=λhx j h hj=>by
       by_cases e:j=pos
       ·subst e;rw[hex];exact hx
       ·exact hin j h (by omega)
      have hno:nmc pos s[pos]=false->eE s.data.toList=false:=λhx=>kW pos hpl (by rw[hex];exact hx);have hme:s.size-(wr.iterAt w.heap.size s (pos+1)).iterPos w.heap.size<s.size-wr.iterPos w.heap.size:=by
       simp only[World.iterPos,hit2,hit];omega
      clear hit hbw hin hex;have hwz:w.heap.size=w.heap.size:=rfl;generalize wr.iterAt w.heap.size s (pos+1)=w2 at *;have hnm:nmc pos s[pos]=(sml (s[pos]).toNat||(pos != 0&&(dig (s[pos]).toNat||(s[pos]).toNat==95))):=rfl;rw[hnm] at hgo hno;clear hnm;generalize hrn:(s[pos]'hp).toNat=r at *;have hr:r<=2147483647:=by omega
      clear hrn;have HG:Hid (((sml r||(pos != 0&&(dig r||r==95)))=true->∀ j (h:j<s.data.toList.length),j<pos+1->nmc j s.data.toList[j]=true)/\((sml r||(pos != 0&&(dig r||r==95)))=false->eE s.data.toList=false)):=⟨hgo,hno⟩;clear hgo hno;cases h1:sml r
      ·by_cases hz:pos=0
       ·have fin:eE s.data.toList=false:=HG.out.2 (by simp[h1,hz]);subst hz;clear HG hme;go_wp2_with (go_at_call 142;refine(oT r _ hr).mono ?_;rw[h1];rintro e w1 ⟨rfl,rfl⟩);go_ret;exact⟨by rw[fin];rfl,hbw2⟩
       ·have hz':¬(pos:Int)=0:=by omega
        cases h2:dig r
        ·by_cases h3:r=95
         ·have RL:=HG.out.1 (by simp[h3,hz]);clear HG;subst h3;go_wp2_with (first|(go_at_call 142;refine(oT 95 _ hr).mono ?_;rw[h1];rintro e w1 ⟨rfl,rfl⟩)|(go_at_call 143;refine(vQ 95 _ hr).mono ?_;rw[h2];rintro e w1 ⟨rfl,rfl⟩));go_roundw
          case rel=>(try ((repeat apply G0);refine⟨?_,rfl⟩));exact⟨pos+1,hit2,by omega,RL,hbw2⟩
          case measure=>exact hme
         ·have fin:eE s.data.toList=false:=HG.out.2 (by simp[h1,h2,h3]);have h3':¬(r:Int)=95:=by omega
          have h3b:((r:Int) != 95)=true:=by simpa using h3'
          clear HG hme;go_wp2_with (first|(go_at_call 142;refine(oT r _ hr).mono ?_;rw[h1];rintro e w1 ⟨rfl,rfl⟩)|(go_at_call 143;refine(vQ r _ hr).mono ?_;rw[h2];rintro e w1 ⟨rfl,rfl⟩));go_ret;exact⟨by rw[fin];rfl,hbw2⟩
        ·have RL:=HG.out.1 (by simp[h2,hz]);clear HG;go_wp2_with (first|(go_at_call 142;refine(oT r _ hr).mono ?_;rw[h1];rintro e w1 ⟨rfl,rfl⟩)|(go_at_call 143;refine(vQ r _ hr).mono ?_;rw[h2];rintro e w1 ⟨rfl,rfl⟩));go_roundw
         case rel=>(try ((repeat apply G0);refine⟨?_,rfl⟩));exact⟨pos+1,hit2,by omega,RL,hbw2⟩
         case measure=>exact hme
      ·have RL:=HG.out.1 (by simp[h1]);clear HG;go_wp2_with (go_at_call 142;refine(oT r _ hr).mono ?_;rw[h1];rintro e w1 ⟨rfl,rfl⟩);go_roundw
       case rel=>(try ((repeat apply G0);refine⟨?_,rfl⟩));exact⟨pos+1,hit2,by omega,RL,hbw2⟩
       case measure=>exact hme
     ·have fin:eE s.data.toList=false:=kW pos hpl (by rw[eX s pos hp hpl];exact yZ _ _ (by omega));have hnx:∀ ty,(Instr.next (.pointer (GB ⟨w.heap.size,0,GA⟩)) true ty).run GD wr=_:=λty=>Lib.run_next_any_at wr w.heap.size s pos ty hit hp;have hbw2:=Lib.below_iterAt hbw (k:=w.heap.size) (by omega) s (pos+(Utf8.decode s pos).2);have hr:=decode_le s pos;have hr2:=(decode_high s pos hp (by omega)).1;generalize wr.iterAt w.heap.size s (pos+(Utf8.decode s pos).2)=w2 at *;generalize (Utf8.decode s pos).1=r at *;have h1:sml r=false:=by simp[sml];omega
      have h2:dig r=false:=by simp[dig];omega
      have h3':¬(r:Int)=95:=by omega
      have h3b:((r:Int) != 95)=true:=by simpa using h3'
      clear hit hbw hin ha;by_cases hz:pos=0
      ·subst hz;go_wp2_with (go_at_call 142;refine(oT r _ hr).mono ?_;rw[h1];rintro e w1 ⟨rfl,rfl⟩);go_ret;exact⟨by rw[fin];rfl,hbw2⟩
      ·have hz':¬(pos:Int)=0:=by omega
       go_wp2_with (first|(go_at_call 142;refine(oT r _ hr).mono ?_;rw[h1];rintro e w1 ⟨rfl,rfl⟩)|(go_at_call 143;refine(vQ r _ hr).mono ?_;rw[h2];rintro e w1 ⟨rfl,rfl⟩));go_ret;exact⟨by rw[fin];rfl,hbw2⟩
    ·have hnx:∀ ty,(Instr.next (.pointer (GB ⟨w.heap.size,0,GA⟩)) true ty).run GD wr=_:=λty=>Lib.run_next_end_at wr w.heap.size s pos ty hit hp;have hW2:=hW.below hbw;have fin:eE s.data.toList=!gS s.data.toList:=by
      have hl:=HL.out;cases hw:gS s.data.toList
      ·exact(gV _).2 ⟨by omega,by omega,λj h=>hin j h (by omega),hw⟩
      ·show _=false;rw[<-IJ,gV];rintro ⟨_,_,_,h⟩;rw[hw] at h;cases h
     clear hin hit;go_wp2_with (go_at_call 144;refine(D9 s _ hW2 hs').mono ?_;rintro e w1 ⟨rfl,rfl⟩);go_ret;exact⟨by rw[fin];rfl,hbw⟩
abbrev tka (x:Tk):Array GJ:=#[.int .i64 (x.k:Nat),.int .i64 x.n,.string ⟨x.t.toArray⟩,.int .i64 (x.a:Nat)]
theorem pU (t:ByteArray):(⟨t.data.toList.toArray⟩:ByteArray)=t:=by cases t;simp
theorem sP {w:GE}{b:Nat}{a0 a1 a2 a3:GJ}{t:Hl}(v0 v1 v2 v3:GJ)(h:w.heap[b]?=GB (.cells #[a0,a1,a2,a3] t (0,0))) :
  ((((w.setCell ⟨b,0,GA⟩ v0).setCell ⟨b,1,GA⟩ v1).setCell ⟨b,2,GA⟩ v2).setCell ⟨b,3,GA⟩ v3).heap[b]?=GB (.cells #[v0,v1,v2,v3] t (0,0)):=by
 have h0:=Ij w b 0 _ t v0 h;have h1:=Ij _ b 1 _ t v1 h0;have h2:=Ij _ b 2 _ t v2 h1;have h3:=Ij _ b 3 _ t v3 h2;simpa using h3
theorem b2 (w:GE)(A B:Obj):GK w.heap.size w ((w.alloc A).alloc B):=(b1 _ _).trans ((b1 _ _).mono (by simp))
theorem nr {w w1:GE}{b:Nat}(v0 v1 v2 v3:GJ)(h:GK w.heap.size w w1)(hb:w.heap.size<=b) :
  GK w.heap.size w ((((w1.setCell ⟨b,0,GA⟩ v0).setCell ⟨b,1,GA⟩ v1).setCell ⟨b,2,GA⟩ v2).setCell ⟨b,3,GA⟩ v3) :=
 ((((h.setCell (p:=⟨b,0,GA⟩) hb v0).setCell (p:=⟨b,1,GA⟩) hb v1).setCell (p:=⟨b,2,GA⟩) hb v2).setCell (p:=⟨b,3,GA⟩) hb v3)
theorem CQ (t:ByteArray)(h:0<t.size):t.data.toList.head?=GB t[0]:=by
 have hl:0<t.data.toList.length:=by rw[fh];exact h
 rw[List.head?_eq_getElem?,GI hl,eX t 0 h hl]
theorem Blk.set {w:GE}{o:Nat->Nat}{i b:Nat}{cs:Array GJ}{t:Hl}(h:Blk w o i b (.cells cs t (0,0)))(j:Nat)(u:GJ):Blk (w.setCell ⟨b,j,GA⟩ u) o i b (.cells (cs.setIfInBounds j u) t (0,0)) :=
 ⟨Ij w b j cs t u h.1,h.2⟩
theorem fj (I:Nat->Prop)(w:GE)(o:Nat->Nat)(p:G1)(u:GJ)(a:I (o p.block)):dQ I w o (w.setCell p u) o:=(dQ.refl I w o).setCell p u a
theorem gU (I:Nat->Prop)(w:GE)(o:Nat->Nat)(a:Obj):dQ I w o (w.alloc a) o:=(dQ.refl I w o).alloc a
theorem wQ:(Tryz.prog.info? 3).map (λi=>(i.zero,i.size,i.bytes))=GB (GB (.int .i64 0),1,8):=by kernel_rfl
theorem Blk.cells4 {w:GE}{o:Nat->Nat}{i b:Nat}{a0 a1 a2 a3:GJ}{t:Hl}(h:Blk w o i b (.cells #[a0,a1,a2,a3] t (0,0))) :
  w.cell? ⟨b,0,GA⟩=GB a0/\w.cell? ⟨b,1,GA⟩=GB a1/\w.cell? ⟨b,2,GA⟩=GB a2/\w.cell? ⟨b,3,GA⟩=GB a3/\∀ j,w.frozen? ⟨b,j,GA⟩=false:=by
 refine⟨?_,?_,?_,?_,λj=>Ik w b j _ t h.1⟩<;>simp[Hf w b _ _ t (0,0) h.1]
theorem lT (s:ByteArray)(a b:Nat):(s.extract a b).data.toList=(s.data.toList.drop a).take (b-a):=by
 rw[ByteArray.data_extract,Array.toList_extract,List.extract_eq_take_drop]
theorem tK (s:ByteArray)(a b:Nat):s.extract a b=⟨((s.data.toList.drop a).take (b-a)).toArray⟩:=by
 rw[<-lT,pU]
theorem mx (l:List UInt8)(pos:Nat)(h:pos<l.length):l.drop pos=l[pos]::l.drop (pos+1):=IK h
theorem dQ.ofBelow {I:Nat->Prop}{w w':GE}(o:Nat->Nat)(h:GK w.heap.size w w'):dQ I w o w' o:=⟨h.os,h.tape,h.output,h.size,λ_ _=>rfl,λk a _=>h.block k a⟩
theorem ek {P:Jr}{t:Hl}{z:Option GJ}{s b:Nat}(h:(P.info? t).map (λi=>(i.zero,i.size,i.bytes))=GB (z,s,b)):∃i,P.info? t=GB i/\i.zero=z/\i.size=s/\i.bytes=b:=by
 cases a:P.info? t with
 | none=>rw[a] at h;cases h
 | some i =>
  rw[a] at h;injection h with h
  exact⟨i,rfl,(congrArg (·.1) h),(congrArg (·.2.1) h),(congrArg (·.2.2) h)⟩
theorem nA {w:GE}{s:Nat}(b:w.heap.size=s)(x y z q:GJ)(t:Hl):∀ j u,[x,y,z,q][j]?=GB u->(w.alloc (.cells #[x,y,z,q] t)).cell? ((⟨s,0,GA⟩:G1).add j)=GB u:=by
 subst b;intro j u a
 match j,a with
 | 0,a=>simp at a;subst a;simp[I8]
 | 1,a=>simp at a;subst a;simp[I8]
 | 2,a=>simp at a;subst a;simp[I8]
 | 3,a=>simp at a;subst a;simp[I8]
theorem yv:(Tryz.prog.info? 67).map (λi=>(i.zero,i.size,i.bytes))=GB (GB (.agg #[.int .i64 0,.int .i64 0,.string ⟨#[]⟩,.int .i64 0]),4,40):=by kernel_rfl
def fw (ts:List Tk):List GJ:=ts.flatMap λx=>[.int .i64 (x.k:Nat),.int .i64 x.n,.string ⟨x.t.toArray⟩,.int .i64 (x.a:Nat)]
theorem nE (ts:List Tk)(x:Tk):fw (ts++[x])=fw ts++[.int .i64 (x.k:Nat),.int .i64 x.n,.string ⟨x.t.toArray⟩,.int .i64 (x.a:Nat)]:=by
 simp[fw]
def om:List Tk->Res->Res
 | [],X=>X
 | x::r,X=>mv x (om r X)
theorem yp (ts:List Tk)(x:Tk)(X:Res):om (ts++[x]) X=om ts (mv x X):=by
 induction ts with
 | nil=>rfl
 | cons y r a=>simp only[IP,om,a]
theorem zl (ts:List Tk)(e:Nat × Nat):om ts (.inl e)=.inl e:=by
 induction ts with
 | nil=>rfl
 | cons y r a=>simp only[om,a];rfl
theorem AK (ts a:List Tk):om ts (.inr a)=.inr (ts++a):=by
 induction ts with
 | nil=>rfl
 | cons y r b=>simp only[om,b];rfl
theorem tB {k:Nat}{t:List UInt8}{a e:Nat}(h:jO k t a=.inl e):e=110\/e=111\/e=112:=by
 unfold jO at h;split at h
 ·unfold jz at h
  repeat' split at h
  all_goals first|(injection h with h;omega)|cases h
 ·unfold kK at h
  repeat' split at h
  all_goals first|(injection h with h;omega)|cases h
 ·unfold pL at h;split at h
  all_goals first|(injection h with h;omega)|cases h
 ·injection h with h
  omega
def Dy (w w':GE)(v:GJ)(er a:Int)(R:Res):Prop :=
 (∃e p,R=.inl (e,p)/\v=.slice GA 0 0/\er=(e:Nat)/\a=(p:Nat))\/(∃ts,R=.inr ts/\er=0/\a=0/\w'.ownsRow w.heap.size 67 4 v ts.length (fw ts))
theorem Row.fresh {I:Nat->Prop}{w w':GE}{o':Nat->Nat}{i:Nat}{e:Hl}{size:Nat}{v:GJ}{n:Nat}{xs:List GJ}(r:Row w' o' (i+1) e size v n xs)(s:dQ I w (λ_=>0) w' o'):w'.ownsRow w.heap.size e size v n xs:=by
 refine⟨r.1.1,?_⟩;rcases r.1.2 with h|⟨g,cap,a,rfl,c,rest⟩
 ·exact .inl h
 ·refine .inr ⟨g,cap,a,rfl,?_,rest⟩;by_cases b:g<w.heap.size
  ·have h1:=s.lab g b;have h2:=r.2 g rfl;omega
  ·omega
theorem bdr {B:Nat}{w w':GE}(h:GK B w w')(n:Nat):GK B w (w'.drewN n):=⟨h.os,h.tape,h.output,h.size,h.block⟩
structure dX (rb:Nat)(w w':GE):Prop where
 os:w'.os=w.os
 tape:w'.tape=w.tape
 output:w'.output=w.output
 size:w.heap.size<=w'.heap.size
 block:∀ k,k<w.heap.size->k≠rb->w'.heap[k]?=w.heap[k]?
theorem dX.refl (rb:Nat)(w:GE):dX rb w w:=⟨rfl,rfl,rfl,GC _,λ_ _ _=>rfl⟩
theorem dX.trans {rb:Nat}{a b c:GE}(h:dX rb a b)(k:dX rb b c):dX rb a c :=
 ⟨k.os.trans h.os,k.tape.trans h.tape,k.output.trans h.output,Hn h.size k.size,λi e d=>(k.block i (GM e h.size) d).trans (h.block i e d)⟩
theorem dX.ofBelow {rb:Nat}{w w':GE}(h:GK w.heap.size w w'):dX rb w w':=⟨h.os,h.tape,h.output,h.size,λk a _=>h.block k a⟩
theorem dX.alloc {rb:Nat}{a w:GE}(h:dX rb a w)(b:Obj):dX rb a (w.alloc b) :=
 h.trans ⟨rfl,rfl,rfl,by simp,λk c _=>GO w b k c⟩
theorem dX.drew {rb:Nat}{a w:GE}(h:dX rb a w):dX rb a w.drew:=⟨h.os,h.tape,h.output,h.size,h.block⟩
theorem dX.set {rb:Nat}{a w:GE}(h:dX rb a w)(p:G1)(u:GJ)(b:a.heap.size<=p.block\/p.block=rb):dX rb a (w.setCell p u) :=
 ⟨h.os,h.tape,h.output,by simpa using h.size,λk d c=>(GP w p k u (λe=>by
  rcases b with b|b
  ·omega
  ·exact c (e.trans b))).trans (h.block k d c)⟩
theorem dX.below {rb n:Nat}{w w':GE}(h:dX rb w w')(b:n<=rb)(a:rb<w.heap.size):GK n w w':=⟨h.os,h.tape,h.output,h.size,λk c=>h.block k (by omega) (by omega)⟩
theorem dX.cell {rb:Nat}{w w':GE}(h:dX rb w w'){b:Nat}(d:b<w.heap.size)(c:b≠rb)(j:Nat):w'.cell? ⟨b,j,GA⟩=w.cell? ⟨b,j,GA⟩:=GS (a:=⟨b,j,GA⟩) (h.block b d c)
abbrev stv (t:List UInt8):GJ:=.string ⟨t.toArray⟩
def Fc (w:GE)(P:Nat->Prop):Fs->List GJ->Prop
 | ⟨GA⟩,xs=>xs=[]
 | ⟨GB ⟨k,n,nm,a,ks,r⟩⟩,xs=>∃ao cap d,xs=.int .i64 k::.int .i64 n::stv nm::.slice ao ks.len cap::.int .i64 a::d /\
   (ks=.nil\/∃b off c,ao=GB ⟨b,off,GA⟩/\P b/\b<w.heap.size/\(∀ j u,c[j]?=GB u->w.cell? ⟨b,off+j,GA⟩=GB u)/\Fc w P ks c)/\Fc w P r d
def Sl (w:GE)(P:Nat->Prop)(ks:Fs)(ao:Option G1):Prop :=
 ks=.nil\/∃b off a,ao=GB ⟨b,off,GA⟩/\P b/\b<w.heap.size/\(∀ j u,a[j]?=GB u->w.cell? ⟨b,off+j,GA⟩=GB u)/\Fc w P ks a
def exV (e:Ex)(ao:Option G1)(cap:Nat):GJ:=.agg #[.int .i64 e.k,.int .i64 e.n,stv e.nm,.slice ao e.kids.len cap,.int .i64 e.a]
theorem Fc.len {w:GE}{P:Nat->Prop}:∀ {f:Fs}{xs:List GJ},Fc w P f xs->xs.length=f.len*5
 | ⟨GA⟩,xs,h=>by
  have h:=h;subst h;rfl
 | ⟨GB ⟨k,n,nm,a,ks,r⟩⟩,xs,h=>by
  obtain⟨ao,cap,b,rfl,_,h2⟩:=h
  have:=Fc.len h2
  simp only[G5,Fs.len];omega
theorem Fc.mono {w w':GE}{P Q:Nat->Prop}(g:∀ k,P k->k<w.heap.size->w'.heap[k]?=w.heap[k]?)(d:w.heap.size<=w'.heap.size)(e:∀ k,P k->k<w.heap.size->Q k):∀ {f:Fs}{xs:List GJ},Fc w P f xs->Fc w' Q f xs
 | ⟨GA⟩,xs,h=>h
 | ⟨GB ⟨k,n,nm,a,ks,r⟩⟩,xs,h=>by
  obtain⟨ao,cap,m,rfl,h1,h2⟩:=h;refine⟨ao,cap,m,rfl,?_,Fc.mono g d e h2⟩;rcases h1 with h1|⟨b,off,l,rfl,i,c,p,q⟩
  ·exact .inl h1
  ·exact .inr ⟨b,off,l,rfl,e b i c,GM c d,λj u o=>(GS (a:=⟨b,off+j,GA⟩) (g b i c)).trans (p j u o),Fc.mono g d e q⟩
theorem Sl.mono {w w':GE}{P Q:Nat->Prop}{f:Fs}{ao:Option G1}(i:∀ k,P k->k<w.heap.size->w'.heap[k]?=w.heap[k]?)(d:w.heap.size<=w'.heap.size)(e:∀ k,P k->k<w.heap.size->Q k)(h:Sl w P f ao):Sl w' Q f ao:=by
 rcases h with h|⟨b,off,l,rfl,g,c,n,o⟩
 ·exact .inl h
 ·exact .inr ⟨b,off,l,rfl,e b g c,GM c d,λj u m=>(GS (a:=⟨b,off+j,GA⟩) (i b g c)).trans (n j u m),o.mono i d e⟩
theorem Fc.app {w:GE}{P:Nat->Prop}:∀ {f g:Fs}{xs b:List GJ},Fc w P f xs->Fc w P g b->Fc w P (f.app g) (xs++b)
 | ⟨GA⟩,g,xs,b,h,k=>by
  have h:=h;subst h;exact k
 | ⟨GB ⟨i,n,nm,a,ks,r⟩⟩,g,xs,b,h,k=>by
  obtain⟨ao,cap,c,rfl,h1,h2⟩:=h;exact⟨ao,cap,c++b,rfl,h1,Fc.app h2 k⟩
theorem Fc.one {w:GE}{P:Nat->Prop}{e:Ex}{ao:Option G1}(cap:Nat)(h:Sl w P e.kids ao):Fc w P (one e) [.int .i64 e.k,.int .i64 e.n,stv e.nm,.slice ao e.kids.len cap,.int .i64 e.a]:=⟨ao,cap,[],rfl,h,rfl⟩
theorem Sl.of {w:GE}{P:Nat->Prop}{f:Fs}{b:Nat}{xs:List GJ}(c:P b)(a:b<w.heap.size)(d:∀ j u,xs[j]?=GB u->w.cell? ⟨b,0+j,GA⟩=GB u)(h:Fc w P f xs):Sl w P f (GB ⟨b,0,GA⟩):=.inr ⟨b,0,xs,rfl,c,a,d,h⟩
theorem Sl.nil (w:GE)(P:Nat->Prop)(ao:Option G1):Sl w P .nil ao:=.inl rfl
theorem oQ:∀ (l:List Tk) (i:Nat) (x:Tk),l[i]?=GB x->(fw l)[i*4]?=GB (.int .i64 (x.k:Nat))/\(fw l)[i*4+1]?=GB (.int .i64 x.n)/\(fw l)[i*4+2]?=GB (stv x.t)/\(fw l)[i*4+3]?=GB (.int .i64 (x.a:Nat))
 | [],i,x,h=>by simp at h
 | p::r,0,x,h=>by
  simp at h;subst h;exact⟨rfl,rfl,rfl,rfl⟩
 | p::r,i+1,x,h=>by
  have e:fw (p::r)=.int .i64 (p.k:Nat)::.int .i64 p.n::stv p.t::.int .i64 (p.a:Nat)::fw r:=rfl;have c:(i+1)*4=i*4+1+1+1+1:=by omega
  have b:=oQ r i x (by simpa using h);rw[e,c];exact b
abbrev Nw (n:Nat):Nat->Prop:=λb=>n<=b
theorem Sl.keepN {rb n:Nat}{w w':GE}{f:Fs}{ao:Option G1}(h:Sl w (Nw n) f ao)(k:dX rb w w')(c:rb<n):Sl w' (Nw n) f ao:=h.mono (λi a b=>k.block i b (by have a:n<=i:=a;omega)) k.size (λ_ h _=>h)
theorem Sl.setN {n:Nat}{w:GE}{f:Fs}{ao:Option G1}(h:Sl w (Nw n) f ao)(p:G1)(v:GJ)(a:p.block<n):Sl (w.setCell p v) (Nw n) f ao:=h.mono (λi a b=>GP w p i v (by have a:n<=i:=a;omega)) (by simp) (λ_ h _=>h)
theorem Sl.allocN {n:Nat}{w:GE}{f:Fs}{ao:Option G1}(h:Sl w (Nw n) f ao)(a:Obj):Sl (w.alloc a) (Nw n) f ao:=h.mono (λi c b=>GO w a i b) (by simp) (λ_ h _=>h)
theorem Sl.low {n m:Nat}{w:GE}{f:Fs}{ao:Option G1}(h:Sl w (Nw n) f ao)(a:m<=n):Sl w (Nw m) f ao:=h.mono (λi b c=>rfl) (GC _) (λi h _=>Hn a h)
theorem Fc.allocN {n:Nat}{w:GE}{f:Fs}{xs:List GJ}(h:Fc w (Nw n) f xs)(a:Obj):Fc (w.alloc a) (Nw n) f xs:=h.mono (λi c b=>GO w a i b) (by simp) (λ_ h _=>h)
theorem Blk.cells5 {w:GE}{o:Nat->Nat}{i b:Nat}{a0 a1 a2 a3 a4:GJ}{t:Hl}(h:Blk w o i b (.cells #[a0,a1,a2,a3,a4] t (0,0))) :
  w.cell? ⟨b,0,GA⟩=GB a0/\w.cell? ⟨b,1,GA⟩=GB a1/\w.cell? ⟨b,2,GA⟩=GB a2/\w.cell? ⟨b,3,GA⟩=GB a3/\w.cell? ⟨b,4,GA⟩=GB a4/\∀ j,w.frozen? ⟨b,j,GA⟩=false:=by
 refine⟨?_,?_,?_,?_,?_,λj=>Ik w b j _ t h.1⟩<;>simp[Hf w b _ _ t (0,0) h.1]
theorem Blk.cells2 {w:GE}{o:Nat->Nat}{i b:Nat}{a0 a1:GJ}{t:Hl}(h:Blk w o i b (.cells #[a0,a1] t (0,0))) :
  w.cell? ⟨b,0,GA⟩=GB a0/\w.cell? ⟨b,1,GA⟩=GB a1/\∀ j,w.frozen? ⟨b,j,GA⟩=false:=by
 refine⟨?_,?_,λj=>Ik w b j _ t h.1⟩<;>simp[Hf w b _ _ t (0,0) h.1]
def ig (t:Int):Option (List UInt8 × Nat × Nat × Nat × Nat):=iJ.find? λx=>(x.2.1:Int)==t
def jo (t:Int):Option (List UInt8 × Nat × Nat):=gX.find? λx=>(x.2.1:Int)==t
def jI (t:Int):Option (List UInt8 × Nat):=gL.find? λx=>(x.2:Int)==t
abbrev zNv (k n:Int)(nm:List UInt8)(a:Option G1)(l c:Nat):Obj:=.cells #[.int .i64 k,.int .i64 n,stv nm,.slice a l c] 34
abbrev zEv (k n:Int)(nm:List UInt8)(a:Option G1)(l c:Nat)(p:Int):Obj:=.cells #[.int .i64 k,.int .i64 n,stv nm,.slice a l c,.int .i64 p] 25
abbrev zNd (e:Ex)(a:Option G1)(c:Nat):Obj:=.cells #[.int .i64 e.k,.int .i64 e.n,stv e.nm,.slice a e.kids.len c] 34
abbrev zEx (e:Ex)(a:Option G1)(c:Nat):Obj:=.cells #[.int .i64 e.k,.int .i64 e.n,stv e.nm,.slice a e.kids.len c,.int .i64 e.a] 25
abbrev zPl (e:Ex)(a:Option G1)(c:Nat)(b:Option G1)(l d:Nat):Obj:=.cells #[.int .i64 e.k,.int .i64 e.n,stv e.nm,.slice a e.kids.len c,.slice b l d] 37
theorem exq {α:Type _}(x:α):∃y,y=x:=⟨x,rfl⟩
set_option linter.unusedSimpArgs false
def eM (k:Int):Bool:=k==22||k==23||k==24||k==25
def fY (k:Int):Nat:=if k==19||k==21 then 0 else if k==7 then 3 else if k==6 then 7 else match ig k with|some x=>x.2.2.1|none=>8
def fi (k n:Int):Bool:=if k==1||k==3 then decide (0<=n) else if k==2 then n==0||n==1 else if k==20 then (jo n).isSome else if k==21 then (jI n).isSome else n==0
def ft (k:Int)(nm:List UInt8):Bool:=if k==4||k==23||k==21 then eE nm else nm==[]
def ew (k n:Int)(m:Nat):Bool:=if k==1||k==2||k==3||k==4||k==22||k==23 then (m:Int)==0 else if k==6||k==7||k==24 then (m:Int)==1 else if k==21 then (m:Int)==2 else if k==19 then (m:Int)==3 else if k==20 then (match jo n with|some x=>(m:Int)==(x.2.2:Nat)|none=>(m:Int)==0) else if k==25 then true else (ig k).isSome&&(m:Int)==2
theorem bne {k:Int}{c:Int}(h:k≠c):(k==c)=false:=by rw[beq_eq_false_iff_ne];exact h
theorem yU {w:GE}{b:Nat}{a0 a1 a2 a3 b0 b1 b2 b3:GJ}{t:Hl}(h:w.heap[b]?=GB (.cells #[a0,a1,a2,a3] t (0,0))):((((w.setCell ⟨b,0,GA⟩ b0).setCell ⟨b,1,GA⟩ b1).setCell ⟨b,2,GA⟩ b2).setCell ⟨b,3,GA⟩ b3).heap[b]?=GB (.cells #[b0,b1,b2,b3] t (0,0)):=by
 have a:Blk w (λ_=>0) 0 b (.cells #[a0,a1,a2,a3] t (0,0)):=⟨h,rfl⟩;exact((((a.set 0 b0).set 1 b1).set 2 b2).set 3 b3).1
abbrev exZ:Obj:=.cells #[.int .i64 0,.int .i64 0,.string ⟨#[]⟩,.slice GA 0 0,.int .i64 0] 25
theorem eT {w:GE}{b:Nat}{a0 a1 a2 a3 a4:GJ}(b0 b1 b2 b3 a:GJ){t:Hl}(h:w.heap[b]?=GB (.cells #[a0,a1,a2,a3,a4] t (0,0))):(((((w.setCell ⟨b,0,GA⟩ b0).setCell ⟨b,1,GA⟩ b1).setCell ⟨b,2,GA⟩ b2).setCell ⟨b,3,GA⟩ b3).setCell ⟨b,4,GA⟩ a).heap[b]?=GB (.cells #[b0,b1,b2,b3,a] t (0,0)):=by
 have c:Blk w (λ_=>0) 0 b (.cells #[a0,a1,a2,a3,a4] t (0,0)):=⟨h,rfl⟩;exact(((((c.set 0 b0).set 1 b1).set 2 b2).set 3 b3).set 4 a).1
theorem dX.set5 {rb:Nat}{a w:GE}(h:dX rb a w){b:Nat}(c:a.heap.size<=b)(b0 b1 b2 b3 d:GJ):dX rb a (((((w.setCell ⟨b,0,GA⟩ b0).setCell ⟨b,1,GA⟩ b1).setCell ⟨b,2,GA⟩ b2).setCell ⟨b,3,GA⟩ b3).setCell ⟨b,4,GA⟩ d):=((((h.set ⟨b,0,GA⟩ b0 (.inl c)).set ⟨b,1,GA⟩ b1 (.inl c)).set ⟨b,2,GA⟩ b2 (.inl c)).set ⟨b,3,GA⟩ b3 (.inl c)).set ⟨b,4,GA⟩ d (.inl c)
theorem Sl.set5 {n:Nat}{w:GE}{f:Fs}{ao:Option G1}(h:Sl w (Nw n) f ao){b:Nat}(a:b<n)(b0 b1 b2 b3 c:GJ):Sl (((((w.setCell ⟨b,0,GA⟩ b0).setCell ⟨b,1,GA⟩ b1).setCell ⟨b,2,GA⟩ b2).setCell ⟨b,3,GA⟩ b3).setCell ⟨b,4,GA⟩ c) (Nw n) f ao:=((((h.setN ⟨b,0,GA⟩ b0 a).setN ⟨b,1,GA⟩ b1 a).setN ⟨b,2,GA⟩ b2 a).setN ⟨b,3,GA⟩ b3 a).setN ⟨b,4,GA⟩ c a
theorem dT {w:GE}{b:Nat}{a0 a1 a2 a3 a4:GJ}{t:Hl}(h:w.heap[b]?=GB (.cells #[a0,a1,a2,a3,a4] t (0,0))) :
  w.cell? ⟨b,0,GA⟩=GB a0/\w.cell? ⟨b,1,GA⟩=GB a1/\w.cell? ⟨b,2,GA⟩=GB a2/\w.cell? ⟨b,3,GA⟩=GB a3/\w.cell? ⟨b,4,GA⟩=GB a4/\∀ j,w.frozen? ⟨b,j,GA⟩=false:=Blk.cells5 (o:=λ_=>0) (i:=0) ⟨h,rfl⟩
theorem dX.blk {rb:Nat}{w w':GE}(k:dX rb w w'){b:Nat}{a:Obj}(h:w.heap[b]?=GB a)(c:b≠rb):w'.heap[b]?=GB a:=(k.block b (GF h) c).trans h
theorem Sl.fresh {w:GE}{n:Nat}{f:Fs}(xs:List GJ)(t:Hl)(h:Fc w (Nw n) f xs)(b:n<=w.heap.size):Sl (w.alloc (.cells xs.toArray t)) (Nw n) f (GB ⟨w.heap.size,0,GA⟩):=by
 refine Sl.of b (by simp) (λj u a=>?_) (h.allocN _);rw[Hx];rw[Hf _ w.heap.size j _ t (0,0) (GH w _)];simpa using a
theorem dU (e:Ex)(ao:Option G1)(cap:Nat):exV e ao cap=.agg #[.int .i64 e.k,.int .i64 e.n,stv e.nm,.slice ao e.kids.len cap,.int .i64 e.a]:=rfl
def Bq (w:GE)(n0:Nat)(c:Fs)(g cap:Nat)(xs:List GJ):Prop :=
 n0<=g/\w.ownsRow 0 25 5 (.slice (GB ⟨g,0,GA⟩) c.len cap) c.len xs/\Fc w (λb=>n0<=b/\b≠g) c xs
def Acc (w:GE)(n0:Nat)(a:Fs)(v:GJ):Prop:=∃g cap xs,v=.slice (GB ⟨g,0,GA⟩) a.len cap/\Bq w n0 a g cap xs
def mT (g:Nat):Nat->Nat:=λb=>if b=g then 1 else 0
theorem Bq.row {w:GE}{n0:Nat}{a:Fs}{g cap:Nat}{xs:List GJ}(h:Bq w n0 a g cap xs):Row w (mT g) 1 25 5 (.slice (GB ⟨g,0,GA⟩) a.len cap) a.len xs :=
 ⟨h.2.1,λk b=>by simp[Jo] at b;subst b;simp[mT]⟩
theorem Acc.one {w:GE}{n0:Nat}{e:Ex}{ao:Option G1}(cap:Nat)(h:Sl w (Nw n0) e.kids ao)(c:n0<=w.heap.size) :
  Acc (w.alloc (zEx e ao cap)) n0 (one e) (.slice (GB ⟨w.heap.size,0,GA⟩) 1 1):=by
 refine⟨w.heap.size,1,_,rfl,c,World.ownsRow_lit w _ 1 (Jh _) (by unfold GY;omega) (by simp),?_⟩;exact(Fc.one cap h).mono (λi b a=>GO w _ i a) (by simp) (λi b a=>⟨b,Nat.ne_of_lt a⟩)
theorem Acc.keep {rb n0:Nat}{w w':GE}{a:Fs}{v:GJ}(h:Acc w n0 a v)(k:dX rb w w')(d:rb<n0):Acc w' n0 a v:=by
 obtain⟨g,cap,xs,rfl,n,l,o⟩:=h;have r:Row w (λb=>if b=rb then 7 else 1) 1 25 5 (.slice (GB ⟨g,0,GA⟩) a.len cap) a.len xs:=⟨l,λj c=>by simp[Jo] at c;subst c;show (if g=rb then 7 else 1)=1;rw[if_neg (by omega)]⟩;have s:dQ (λx=>x=7) w (λb=>if b=rb then 7 else 1) w' (λb=>if b=rb then 7 else 1):=⟨k.os,k.tape,k.output,k.size,λ_ _=>rfl,λj c d=>k.block j c (λe=>d (by simp[e]))⟩;exact⟨g,cap,xs,rfl,n,(r.step s (by decide)).1,o.mono (λi f m=>k.block i m (by have:=f.1;omega)) k.size (λ_ h _=>h)⟩
theorem Acc.sl {w:GE}{n0:Nat}{b:Fs}{v:GJ}(h:Acc w n0 b v):∃ao cap,v=.slice ao b.len cap/\Sl w (Nw n0) b ao:=by
 obtain⟨g,cap,xs,rfl,h⟩:=h;refine⟨_,cap,rfl,?_⟩;by_cases f:0<b.len
 ·obtain⟨q,i,e,_,_,_,d,p,_⟩:=h.row.pos f;simp only[Ir,IQ,Addr.mk.injEq,true_and,and_true] at e;obtain⟨rfl,rfl⟩:=e;have m:=h.row.len;refine Sl.of h.1 d (λj u c=>?_) (h.2.2.mono (λ_ _ _=>rfl) (GC _) (λ_ l _=>l.1));rw[Hx,p j ?_]
  ·exact c
  ·rw[<-m];by_cases o:j<xs.length
   ·exact o
   ·rw[He (by omega)] at c;cases c
 ·refine .inl ?_;cases b using Fs.on with
  | nil=>rfl
  | cons k n nm a ks r=>simp[Fs.len] at f
theorem dX.step1 {rb g:Nat}{a w w2:GE}{c:Nat->Nat}(K:dX rb a w)(s:dQ (λx=>x=1) w (mT g) w2 c)(e:a.heap.size<=g):dX rb a w2 :=
 ⟨s.os.trans K.os,s.tape.trans K.tape,s.output.trans K.output,Hn K.size s.size,λk b d=>(s.block k (GM b K.size) (by unfold mT;rw[if_neg (by omega)];decide)).trans (K.block k b d)⟩
theorem Acc.push {w w2:GE}{f:Nat->Nat}{n0 n1 g cap g2 c2:Nat}{b:Fs}{xs:List GJ}{e:Ex}{ao:Option G1}{l:Nat}(h:Bq w n0 b g cap xs)(S:Sl w (Nw n1) e.kids ao)(q:g<n1)(v:n0<=w.heap.size)
  (s:dQ (λx=>x=1) w (mT g) w2 f) (r:Row w2 f 1 25 5 (.slice (GB ⟨g2,0,GA⟩) (b.len+1) c2) (b.len+1) (xs++[.int .i64 e.k,.int .i64 e.n,stv e.nm,.slice ao e.kids.len l,.int .i64 e.a])) :
  Acc w2 n0 (b.snoc e) (.slice (GB ⟨g2,0,GA⟩) (b.len+1) c2):=by
 have d:=Fs.len_snoc b e;have h2:=r.2 g2 rfl;have j:n0<=g2:=by
  by_cases i:g2<w.heap.size
  ·have:=(s.lab g2 i).symm.trans h2
   unfold mT at this;by_cases e:g2=g
   ·rw[e];exact h.1
   ·rw[if_neg e] at this;cases this
  ·omega
 have p:∀ k,(n0<=k/\k≠g)->k<w.heap.size->w2.heap[k]?=w.heap[k]?:=λk c d=>s.block k d (by unfold mT;rw[if_neg c.2];decide);have m:∀ k,(n0<=k/\k≠g)->k<w.heap.size->(n0<=k/\k≠g2):=λk c d=>⟨c.1,λe=>by
  have:=(s.lab k d).symm.trans (e ▸ h2)
  unfold mT at this;rw[if_neg c.2] at this;cases this⟩
 refine⟨g2,c2,xs++[.int .i64 e.k,.int .i64 e.n,stv e.nm,.slice ao e.kids.len l,.int .i64 e.a],by rw[d],j,by rw[d];exact r.1,?_⟩;have u:=h.2.2.mono p s.size m;have t:=S.mono (λk c d=>p k ⟨by have c:n1<=k:=c;have:=h.1;omega,by have c:n1<=k:=c;omega⟩ d) s.size (λk c d=>m k ⟨by have c:n1<=k:=c;have:=h.1;omega,by have c:n1<=k:=c;omega⟩ d);exact u.app (Fc.one l t)
theorem oG:(Tryz.prog.info? 25).map (λi=>(i.zero,i.size,i.bytes))=GB (GB (.agg #[.int .i64 0,.int .i64 0,.string ⟨#[]⟩,.slice GA 0 0,.int .i64 0]),5,64):=by kernel_rfl
def hFs:Fs->Bool->Nat->Option Nat
 | ⟨GA⟩,_,c=>GB c
 | ⟨GB ⟨k,n,nm,a,ks,r⟩⟩,first,c =>
  if eM k != first then GA
  else if 2000<c+1 then GA
  else if fi k n&&ft k nm&&ew k n ks.len then
   match hFs ks (k==21) (c+1) with
   | none=>GA
   | some c'=>hFs r false c'
  else GA
def hE (e:Ex)(c:Nat):Option Nat:=if 2000<c+1 then GA else if fi e.k e.n&&ft e.k e.nm&&ew e.k e.n e.kids.len then hFs e.kids (e.k==21) (c+1) else GA
def Fs.size:Fs->Nat
 | ⟨GA⟩=>0
 | ⟨GB ⟨_,_,_,_,ks,r⟩⟩=>ks.size+r.size+1
def Fs.short:Fs->Prop
 | ⟨GA⟩=>True
 | ⟨GB ⟨_,_,nm,_,ks,r⟩⟩=>nm.length<=GY/\ks.len<=1000000000/\ks.short/\r.short
theorem Fs.size_app:∀ (x y:Fs),(x.app y).size=x.size+y.size
 | ⟨GA⟩,y=>by simp[Fs.app,Fs.size]
 | ⟨GB ⟨k,n,nm,a,ks,r⟩⟩,y=>by simp only[Fs.app,Fs.size];rw[Fs.size_app r y];omega
theorem Fs.app_short:∀ {x y:Fs},(x.app y).short->y.short
 | ⟨GA⟩,y,h=>h
 | ⟨GB ⟨k,n,nm,a,ks,r⟩⟩,y,h=>Fs.app_short h.2.2.2
theorem vl:∀ (f:Fs) (b:Bool) (c c':Nat),c<=2000->hFs f b c=GB c'->c'<=2000
 | ⟨GA⟩,b,c,c',h,e=>by
  unfold hFs at e;injection e with e
  omega
 | ⟨GB ⟨k,n,nm,a,ks,r⟩⟩,b,c,c',h,e=>by
  unfold hFs at e;split at e
  ·cases e
  ·split at e
   ·cases e
   ·split at e
    ·split at e
     ·cases e
     ·rename_i c2 h2
      exact vl r false c2 c' (vl ks _ (c+1) c2 (by omega) h2) e
    ·cases e
theorem Gu {e:Ex}{c c':Nat}(h:hE e c=GB c'):c'<=2000:=by
 unfold hE at h;split at h
 ·cases h
 ·split at h
  ·exact vl _ _ _ _ (by omega) h
  ·cases h
theorem Fs.app_assoc:∀ (x y z:Fs),(x.app y).app z=x.app (y.app z)
 | ⟨GA⟩,y,z=>rfl
 | ⟨GB ⟨k,n,nm,a,ks,r⟩⟩,y,z=>by simp only[Fs.app];rw[Fs.app_assoc r y z]
theorem Fc.split {w:GE}{P:Nat->Prop}:∀ {x y:Fs}{b:List GJ},Fc w P (x.app y) b->∃d c,b=d++c/\Fc w P x d/\Fc w P y c
 | ⟨GA⟩,y,b,h=>⟨[],b,rfl,rfl,h⟩
 | ⟨GB ⟨k,n,nm,a,ks,r⟩⟩,y,b,h=>by
  obtain⟨ao,cap,g,rfl,h1,h2⟩:=h;obtain⟨d,c,rfl,f,e⟩:=Fc.split h2;exact⟨_,c,rfl,⟨ao,cap,d,rfl,h1,f⟩,e⟩
abbrev Nf (a:Nat):Nat->Prop:=λb=>b≠a
theorem Sl.keepF {a:Nat}{w w':GE}{f:Fs}{ao:Option G1}(h:Sl w (Nf a) f ao)(k:dX a w w'):Sl w' (Nf a) f ao:=h.mono (λi b c=>k.block i c b) k.size (λ_ h _=>h)
theorem kL {P:Jr}(w:GE)(t u p e:Hl)(i:TypeInfo)(z:P.underlying t=GB (.slice e))(y:P.underlying u=GB .string)(A:P.info? e=GB i)(B:i.zero=GB (.int .u8 0))
  (b:i.size=1) (o:i.bytes=1) (v:GJ) (n:Nat) (xs:List GJ) (c:w.ownsRow 0 e 1 v n xs) (s:ByteArray) (q:n+s.size<=GY) (f:n+s.size<=140737488355328) :
  ∃v' w',(Builtin.append_ #[t,u] p #[v,.string s]).run P w=.ok v' w'/\w'.ownsRow 0 e 1 v' (n+s.size) (xs++JW s)/\w.grownBy w' v.ownBlock /\
   (v'.ownBlock=v.ownBlock\/∃k,v'.ownBlock=GB k/\w.heap.size<=k):=by
 obtain⟨v',w',l,I,L,O⟩:=Go.Lib.run_append_own_string (P:=P) w 0 t u p e i z y A B b o v n xs c s q f (Jh _);refine⟨v',w',l,I,L,?_⟩;have G:n+s.size<=9223372036854775807:=by simp only[GY] at q;omega
 rcases c.2 with ⟨rfl,rfl⟩|⟨g,cap,x,rfl,N,D,J,M,E,C⟩
 ·by_cases K:s.size=0
  ·have h5:=O.2 ⟨rfl,K⟩;subst h5;exact .inl rfl
  ·have d:=run_append_nil_string (P:=P) w t u p e i (.int .u8 0) z y A B s (by omega) (by omega) (by rw[o];omega);rw[d] at l;injection l with r H
   subst r;exact .inr ⟨_,rfl,GC _⟩
 ·by_cases h:n+s.size<=cap
  ·have F:x.size=cap:=by simpa using E
   have d:=Go.Lib.run_append_room_string (P:=P) w t u p e i z y A b g n cap x D s h (by omega);rw[d] at l;injection l with r H
   subst r;exact .inl rfl
  ·have m:∀ j u,xs[j]?=GB u->w.cell? ((⟨g,0,GA⟩:G1).add j)=GB u:=c.cells (g:=g) rfl;have d:=Go.Lib.run_append_grow_string (P:=P) w t u p e i (.int .u8 0) z y A B ⟨g,0,GA⟩ n cap xs (by rw[b];simpa using c.1) m s (by omega) (by omega) (by rw[o];exact growslice_fits (by omega) (by omega));rw[d] at l;injection l with r H
   subst r;exact .inr ⟨_,rfl,GC _⟩
theorem mo {P:Jr}{w:GE}{m:Array Oper}{rest:List Oper}{op:Oper}{a:Act}{Q:Exit->Act->GE->Prop}(y:op.guard=GA)(sl x:Operand)(t u:Hl)
  (H:op.op=.call { callee:=.builtin .append,args:=#[sl,x],argTypes:=#[t,u] })
  (e:Hl) (i:TypeInfo) (E:P.underlying t=GB (.slice e)) (D:P.underlying u=GB .string) (I:P.info? e=GB i) (B:i.zero=GB (.int .u8 0)) (g:i.size=1) (z:i.bytes=1)
  (o:Nat->Nat) (f:Nat) (v:GJ) (n:Nat) (xs:List GJ) (F:a.eval sl=v) (c:Row w o f e 1 v n xs) (s:ByteArray) (C:a.eval x=.string s) (A:n+s.size<=GY) (d:n+s.size<=140737488355328)
  (h:∀ v' w' o',Row w' o' f e 1 v' (n+s.size) (xs++JW s)->dQ (λk=>k=f) w o w' o'->wpList P m Q rest (a.put op.dst v') w'):wpList P m Q (op::rest) a w:=by
 refine wpList_plain y λ_ J=>?_;obtain⟨v',w',G,h2,K,p⟩:=kL (P:=P) w t u op.type e i E D I B g z v n xs c.1 s A d;unfold Oper.wp execOp;simp only[H,resolve,invoke,builtin,Sem.run_bind,Sem.run_pure,J4,Kc,List.map_cons,List.map_nil,F,C,G];have q:dQ (λk=>k=f) w o w' (dR w o f):=dQ.appended K rfl c.2;have j:Row w' (dR w o f) f e 1 v' (n+s.size) (xs++JW s):=by
  refine⟨h2,λk l=>?_⟩;rcases p with p|⟨L,p,r⟩
  ·rw[p] at l;rw[ed (c.lt l)];exact c.2 k l
  ·rw[p] at l;injection l with l
   subst l;exact dY r
 exact J _ _ (h v' w' _ j q)
def byL (t:List UInt8):List GJ:=t.map λb=>GT .u8 b.toNat
theorem Cw (s t:List UInt8):byL s++JW ⟨t.toArray⟩=byL (s++t):=by simp[byL,JW]
theorem jF (t:List UInt8):(ByteArray.mk t.toArray).size=t.length:=by simp[ByteArray.size]
abbrev I12:Nat->Prop:=λk=>k=1\/k=2
theorem Ev:(Tryz.prog.info? 5).map (λi=>(i.zero,i.size,i.bytes))=GB (GB (.int .u8 0),1,1):=by kernel_rfl
structure St where
 t:List UInt8
 a:Nat
 m:Nat
 b:Nat
 n:Nat
def St.lay (s:St)(x:List UInt8):St:=⟨s.t++x,s.a,s.m,s.b,s.n⟩
def St.ent (s:St):St:=⟨s.t,s.a+1,max s.m (s.a+1),s.b,s.n⟩
def St.lea (s:St):St:=⟨s.t,s.a-1,s.m,s.b,s.n⟩
def St.qent (s:St):St:=⟨s.t,s.a,s.m,s.b+1,max s.n (s.b+1)⟩
def St.qlea (s:St):St:=⟨s.t,s.a,s.m,s.b-1,s.n⟩
def jS (n:Int):List UInt8:=match jI n with|some x=>x.1|none=>[]
def kw (n:Int):List UInt8:=match jo n with|some x=>x.1|none=>[]
abbrev Sep:=Nat->List UInt8 × Nat
def iX:Sep:=λi=>(if i=0 then [] else [44,32],0)
def ifS:Sep:=λi=>(if i=0 then [105,102,32] else if i=1 then [32,116,104,101,110,32] else [32,101,108,115,101,32],0)
def quS (n:Int)(nm:List UInt8):Sep:=λi=>(if i=0 then jS n++[32]++nm++[32,105,110,32] else [58,32],0)
def opS (k:Int):Sep:=λi=>match ig k with|some x=>if i=0 then ([],x.2.2.2.1) else ([32]++x.1++[32],x.2.2.2.2)|none=>([],0)
def tJ (k n:Int)(nm:List UInt8)(K:Sep->St->St)(s:St):St :=
 if k=1 then s.lay (ID n)
 else if k=2 then s.lay (J7 (n==1))
 else if k=3 then (s.lay [64]).lay (ID n)
 else if k=4\/k=23 then s.lay nm
 else if k=22 then s.lay [118,101,114,116,105,99,101,115]
 else K (opS k) s
def nz (x y:List UInt8)(K:Sep->St->St)(s:St):St:=((K iX (s.ent.lay x)).lay y).lea
def ny (k n:Int)(nm:List UInt8)(K:Sep->St->St)(s:St):St :=
 if k=7 then (K (λ_=>([110,111,116,32],3)) s.ent).lea
 else if k=6 then (K (λ_=>([45],7)) s.ent).lea
 else if k=19 then (K ifS s.ent).lea
 else if k=21 then ((K (quS n nm) s.ent.qent).qlea).lea
 else if k=20 then nz [40] [41] K (s.lay (kw n))
 else if k=24 then nz [40] [41] K (s.lay [97,114,111,117,110,100])
 else if k=25 then nz [123] [125] K s
 else tJ k n nm K s
def wE (k n:Int)(nm:List UInt8)(asked:Nat)(K:Sep->St->St)(s:St):St :=
 if fY k<asked then ((ny k n nm K (s.ent.lay [40])).lay [41]).lea else ny k n nm K s
def wFs:Fs->Sep->Nat->St->St
 | ⟨GA⟩,_,_,s=>s
 | ⟨GB ⟨k,n,nm,a,ks,r⟩⟩,f,i,s=>wFs r f (i+1) (wE k n nm (f i).2 (λg s=>wFs ks g 0 s) (s.lay (f i).1))
def wEx (e:Ex)(asked:Nat)(s:St):St:=wE e.k e.n e.nm asked (λg s=>wFs e.kids g 0 s) s
theorem xm (n:Int):(jS n).length<=5:=by
 unfold jS;split
 ·rename_i x h
  have a:=Hi h
  have:∀ x ∈ gL,x.1.length<=5:=by decide
  exact this x a
 ·simp
theorem yi (n:Int):(kw n).length<=10:=by
 unfold kw;split
 ·rename_i x h
  have a:=Hi h
  have:∀ x ∈ gX,x.1.length<=10:=by decide
  exact this x a
 ·simp
abbrev L0 (o:Nat->Nat):Nat->Prop:=λb=>o b=0
theorem Sl.stp {w w':GE}{o o':Nat->Nat}{f:Fs}{ao:Option G1}(h:Sl w (L0 o) f ao)(s:dQ I12 w o w' o'):Sl w' (L0 o') f ao :=
 h.mono (λi a b=>s.block i b (λc=>by rcases c with c|c<;>(have a:o i=0:=a;omega))) s.size (λi a b=>(s.lab i b).trans a)
theorem Blk.stp {w w':GE}{o o':Nat->Nat}{b:Nat}{a:Obj}(h:Blk w o 0 b a)(s:dQ I12 w o w' o'):Blk w' o' 0 b a:=h.step s (by simp[I12])
theorem dQ.ofB {I:Nat->Prop}{w w':GE}(o:Nat->Nat)(b:GK w.heap.size w w'):dQ I w o w' o:=⟨b.os,b.tape,b.output,b.size,λ_ _=>rfl,λk a _=>b.block k a⟩
theorem et (I:Nat->Prop)(w:GE)(o:Nat->Nat)(a:Obj):dQ I w o (w.alloc a) (dR w o 0):=((dQ.refl I w o).labelled 0).alloc a
theorem jE (w:GE)(o:Nat->Nat)(cs:Array GJ)(t:Hl):Blk (w.alloc (.cells cs t)) (dR w o 0) 0 w.heap.size (.cells cs t (0,0)):=⟨GH w _,dY (GC _)⟩
def okP (k n:Int)(nm:List UInt8)(m:Nat):Prop:=fi k n=true/\ft k nm=true/\ew k n m=true/\nm.length<=12/\-9223372036854775808<=n/\n<=9223372036854775807
def Fs.okA:Fs->Prop
 | ⟨GA⟩=>True
 | ⟨GB ⟨k,n,nm,_,ks,r⟩⟩=>okP k n nm ks.len/\ks.okA/\r.okA
def Ex.okA (e:Ex):Prop:=okP e.k e.n e.nm e.kids.len/\e.kids.okA
def Fs.ex (x:Ex)(r:Fs):Fs:=.cons x.k x.n x.nm x.a x.kids r
theorem pD {x:Ex}{r:Fs}(h:(Fs.ex x r).okA):x.okA/\r.okA:=⟨⟨h.1,h.2.1⟩,h.2.2⟩
theorem qL (x:Ex)(r:Fs):(Fs.ex x r).size=x.kids.size+r.size+1:=rfl
theorem Fq (x:Ex)(r:Fs):(Fs.ex x r).len=r.len+1:=rfl
theorem ub:∀ {f:Fs},f.len=1->∃x,f=Fs.ex x .nil
 | ⟨GA⟩,h=>by cases h
 | ⟨GB ⟨k,n,nm,a,ks,⟨GA⟩⟩⟩,h=>⟨⟨k,n,nm,a,ks⟩,rfl⟩
 | ⟨GB ⟨_,_,_,_,_,(⟨GB ⟨_,_,_,_,_,_⟩⟩)⟩⟩,h=>by simp[Fs.len] at h
theorem jP:∀ {f:Fs},f.len=2->∃x y,f=Fs.ex x (Fs.ex y .nil)
 | ⟨GA⟩,h=>by cases h
 | ⟨GB ⟨k,n,nm,a,ks,r⟩⟩,h=>by
  obtain⟨y,rfl⟩:=ub (f:=r) (by simp only[Fs.len] at h;omega);exact⟨⟨k,n,nm,a,ks⟩,y,rfl⟩
theorem Db:∀ {f:Fs},f.len=3->∃x y z,f=Fs.ex x (Fs.ex y (Fs.ex z .nil))
 | ⟨GA⟩,h=>by cases h
 | ⟨GB ⟨k,n,nm,a,ks,r⟩⟩,h=>by
  obtain⟨y,z,rfl⟩:=jP (f:=r) (by simp only[Fs.len] at h;omega);exact⟨⟨k,n,nm,a,ks⟩,y,z,rfl⟩
theorem Sl.kidP {w:GE}{P:Nat->Prop}{x r:Fs}{y:Ex}{ao:Option G1}(h:Sl w P (x.app (Fs.ex y r)) ao)(i:Nat)(l:x.len=i):∃b off ak ck,ao=GB ⟨b,off,GA⟩/\w.cell? ⟨b,off+i*5,GA⟩=GB (.int .i64 y.k)/\w.cell? ⟨b,off+i*5+1,GA⟩=GB (.int .i64 y.n)/\w.cell? ⟨b,off+i*5+2,GA⟩=GB (stv y.nm)/\w.cell? ⟨b,off+i*5+3,GA⟩=GB (.slice ak y.kids.len ck)/\w.cell? ⟨b,off+i*5+4,GA⟩=GB (.int .i64 y.a)/\Sl w P y.kids ak:=by
 subst l;rcases h with h|⟨b,off,v,rfl,z,f,o,m⟩
 ·cases x using Fs.on with
  | nil=>cases h
  | cons k n nm a ks r=>cases h
 ·obtain⟨t,s,rfl,q,p⟩:=Fc.split m;have g:=q.len;obtain⟨ak,ck,d,rfl,h5,A⟩:=p;have c:∀ j u,(.int .i64 y.k::.int .i64 y.n::stv y.nm::.slice ak y.kids.len ck::.int .i64 y.a::d:List GJ)[j]?=GB u->w.cell? ⟨b,off+x.len*5+j,GA⟩=GB u:=λj u e=>by
   have:=o (x.len*5+j) u (by rw[Ig (by omega),g,Jp];exact e)
   rw[Nat.add_assoc];exact this
  exact⟨b,off,ak,ck,rfl,c 0 _ rfl,c 1 _ rfl,c 2 _ rfl,c 3 _ rfl,c 4 _ rfl,h5⟩
def ik:List (List UInt8)->List UInt8->Nat->Int->Int
 | [],_,_,d=>d
 | b::r,nm,i,d=>ik r nm (i+1) (if b=nm then (i:Int) else d)
def js (pk:Int)(c:List UInt8)(i:Nat)(b:List (List UInt8)):List (List UInt8):=if pk=21/\i=1 then b++[c] else b
def ofF:Fs->Int->List UInt8->Nat->List (List UInt8)->Fs
 | ⟨GA⟩,_,_,_,_=>.nil
 | ⟨GB ⟨k,n,nm,a,ks,r⟩⟩,pk,b,i,c =>
  if k=4 then .cons 5 (ik (js pk b i c) nm 0 n) [] 0 .nil (ofF r pk b (i+1) c)
  else .cons k n (if k=23 then nm else []) 0 (ofF ks k nm 0 (js pk b i c)) (ofF r pk b (i+1) c)
def ofE (e:Ex)(b:List (List UInt8)):Ex :=
 if e.k=4 then ⟨5,ik b e.nm 0 e.n,[],0,.nil⟩ else ⟨e.k,e.n,if e.k=23 then e.nm else [],0,ofF e.kids e.k e.nm 0 b⟩
theorem wg (k n:Int)(nm:List UInt8)(a:Int)(ks r:Fs)(pk:Int)(b:List UInt8)(i:Nat)(c:List (List UInt8)) :
  ofF (.cons k n nm a ks r) pk b i c=Fs.ex (ofE ⟨k,n,nm,a,ks⟩ (js pk b i c)) (ofF r pk b (i+1) c):=by
 conv=>lhs;unfold ofF
 unfold ofE;simp only;split<;>rfl
theorem rg:∀ (f:Fs) (pk:Int) (b:List UInt8) (i:Nat) (c:List (List UInt8)),(ofF f pk b i c).len=f.len
 | ⟨GA⟩,pk,b,i,c=>rfl
 | ⟨GB ⟨k,n,nm,a,ks,r⟩⟩,pk,b,i,c=>by
  have h:=wg k n nm a ks r pk b i c;show (ofF (.cons k n nm a ks r) pk b i c).len=r.len+1;rw[h];show (ofF r pk b (i+1) c).len+1=_;rw[rg r pk b (i+1) c]
theorem mL:∀ (f:Fs) (pk:Int) (b:List UInt8) (i:Nat) (c:List (List UInt8)),f.short->(ofF f pk b i c).short
 | ⟨GA⟩,pk,b,i,c,h=>trivial
 | ⟨GB ⟨k,n,nm,a,ks,r⟩⟩,pk,b,i,c,h=>by
  have h2:=mL r pk b (i+1) c h.2.2.2;have h1:=mL ks k nm 0 (js pk b i c) h.2.2.1;unfold ofF;split
  ·exact⟨by simp,by show 0<=_;omega,trivial,h2⟩
  ·refine⟨?_,by rw[rg];exact h.2.1,h1,h2⟩;split
   ·exact h.1
   ·simp
theorem vU (e:Ex)(a:List (List UInt8)):(ofE e a).kids.len<=e.kids.len:=by
 unfold ofE;split
 ·show 0<=_;omega
 ·rw[rg];exact GC _
theorem qx (e:Ex)(a:List (List UInt8))(h:e.kids.short):(ofE e a).kids.short:=by
 unfold ofE;split
 ·trivial
 ·exact mL _ _ _ _ _ h
theorem Ap (e:Ex)(a:List (List UInt8))(h:e.nm.length<=GY):(ofE e a).nm.length<=GY:=by
 unfold ofE;split
 ·simp
 ·simp only;split
  ·exact h
  ·simp
theorem Sl.kidQ {P:Nat->Prop}{w:GE}{x r:Fs}{k n:Int}{nm:List UInt8}{a:Int}{ks:Fs}{ao:Option G1}(h:Sl w P (x.app (.cons k n nm a ks r)) ao):∃b off ak ck,ao=GB ⟨b,off,GA⟩/\b<w.heap.size/\P b/\w.cell? ⟨b,off+x.len*5,GA⟩=GB (.int .i64 k)/\w.cell? ⟨b,off+x.len*5+1,GA⟩=GB (.int .i64 n)/\w.cell? ⟨b,off+x.len*5+2,GA⟩=GB (stv nm)/\w.cell? ⟨b,off+x.len*5+3,GA⟩=GB (.slice ak ks.len ck)/\w.cell? ⟨b,off+x.len*5+4,GA⟩=GB (.int .i64 a)/\Sl w P ks ak:=by
 rcases h with h|⟨b,off,t,rfl,g,d,m,l⟩
 ·cases x using Fs.on with
  | nil=>cases h
  | cons k n nm a ks r=>cases h
 ·obtain⟨s,q,rfl,p,o⟩:=Fc.split l;have i:=p.len;obtain⟨ak,ck,e,rfl,h5,v⟩:=o;have c:∀ j u,(.int .i64 k::.int .i64 n::stv nm::.slice ak ks.len ck::.int .i64 a::e:List GJ)[j]?=GB u->w.cell? ⟨b,off+x.len*5+j,GA⟩=GB u:=λj u f=>by
   have:=m (x.len*5+j) u (by rw[Ig (by omega),i,Jp];exact f)
   rw[Nat.add_assoc];exact this
  exact⟨b,off,ak,ck,rfl,d,g,c 0 _ rfl,c 1 _ rfl,c 2 _ rfl,c 3 _ rfl,c 4 _ rfl,h5⟩
abbrev SlA (w:GE)(f:Fs)(ao:Option G1):Prop:=Sl w (λ_=>True) f ao
theorem xh {x:Tk}{X:Res}{e:Nat × Nat}(h:mv x X=.inl e):X=.inl e:=by
 cases X with
 | inl a=>exact h
 | inr l=>cases h
theorem yu {x:Tk}{X:Res}{ts:List Tk}(h:mv x X=.inr ts):∃a,X=.inr a/\ts=x::a:=by
 cases X with
 | inl e=>cases h
 | inr l =>
  refine⟨l,rfl,?_⟩;injection h with h
  exact h.symm
theorem mm {k:Nat}{t:List UInt8}{a e q:Nat}{X:Res}(h:ge k t a X=.inl (e,q)):(k≠0/\jO k t a=.inl e/\q=a)\/(X=.inl (e,q)/\(k=0\/∃x,jO k t a=.inr x)):=by
 unfold ge at h;by_cases b:k=0
 ·rw[if_pos b] at h;exact .inr ⟨h,.inl b⟩
 ·rw[if_neg b] at h;cases c:jO k t a with
  | inl d =>
   rw[c] at h;simp only at h;injection h with h
   injection h with h1 h2
   exact .inl ⟨b,by rw[h1],h2.symm⟩
  | inr x =>
   rw[c] at h;exact .inr ⟨xh h,.inr ⟨x,rfl⟩⟩
theorem fA {k:Nat}{t:List UInt8}{a:Nat}{X:Res}{ts:List Tk}(h:ge k t a X=.inr ts):(k=0/\X=.inr ts)\/(k≠0/\∃x b,jO k t a=.inr x/\X=.inr b/\ts=x::b):=by
 unfold ge at h;by_cases c:k=0
 ·rw[if_pos c] at h;exact .inl ⟨c,h⟩
 ·rw[if_neg c] at h;cases d:jO k t a with
  | inl e=>rw[d] at h;cases h
  | inr x =>
   rw[d] at h;obtain⟨b,h1,h2⟩:=yu h;exact .inr ⟨c,x,b,rfl,h1,h2⟩
theorem xv (k:Nat)(t:List UInt8)(a p:Nat)(l:List UInt8)(e q:Nat)(h:eZ k t a p l=.inl (e,q)):(k≠0/\q=a)\/(p<=q/\q<p+l.length):=by
 induction l generalizing k t a p with
 | nil =>
  rcases mm h with ⟨h1,_,h2⟩|⟨h1,_⟩
  ·exact .inl ⟨h1,h2⟩
  ·cases h1
 | cons c r b =>
  simp only[G5];cases d:tks k t c.toNat
  ·rw[gj d] at h;rcases mm h with ⟨h1,_,h2⟩|⟨h1,_⟩
   ·exact .inl ⟨h1,h2⟩
   ·rcases b _ _ _ _ h1 with ⟨_,h2⟩|⟨h2,f⟩
    ·exact .inr ⟨by omega,by omega⟩
    ·exact .inr ⟨by omega,by omega⟩
  ·rw[fV d] at h;rcases b _ _ _ _ h with h2|⟨h2,f⟩
   ·exact .inl h2
   ·exact .inr ⟨by omega,by omega⟩
theorem AA (k:Nat)(t:List UInt8)(a p:Nat)(l:List UInt8)(e q:Nat)(h:eZ k t a p l=.inl (e,q)):e=110\/e=111\/e=112:=by
 induction l generalizing k t a p with
 | nil =>
  rcases mm h with ⟨h1,h2,_⟩|⟨h1,_⟩
  ·exact tB h2
  ·cases h1
 | cons c r b =>
  cases d:tks k t c.toNat
  ·rw[gj d] at h;rcases mm h with ⟨h1,h2,_⟩|⟨h1,_⟩
   ·exact tB h2
   ·exact b _ _ _ _ h1
  ·rw[fV d] at h;exact b _ _ _ _ h
theorem uk {l:List UInt8}(h:l.length<=2000):iy l=pJ l:=by
 unfold iy;rw[if_neg (by omega)]
theorem Bs {l:List UInt8}{e q:Nat}(h:iy l=.inl (e,q))(a:e≠113):l.length<=2000/\pJ l=.inl (e,q)/\q<l.length/\(e=110\/e=111\/e=112):=by
 unfold iy at h;split at h
 ·injection h with h
  injection h with h1 h2
  omega
 ·refine⟨by omega,h,?_,AA _ _ _ _ _ _ _ h⟩;rcases xv _ _ _ _ _ _ _ h with ⟨h1,_⟩|⟨_,h1⟩
  ·exact absurd rfl h1
  ·omega
theorem te {k:Nat}{t:List UInt8}{a:Nat}{x:Tk}(h:jO k t a=.inr x):x.a=a/\∀ b,jO k t b=.inr ⟨x.k,x.n,x.t,b⟩:=by
 unfold jO at h ⊢;split at h
 ·unfold jz at h ⊢;split at h
  ·rename_i h1
   injection h with h
   subst h;exact⟨rfl,λb=>by rw[if_pos h1]⟩
  ·rename_i h1
   split at h
   ·rename_i h2
    injection h with h
    subst h;exact⟨rfl,λb=>by rw[if_neg h1,if_pos h2]⟩
   ·cases h
 ·unfold kK at h ⊢;cases c:JG t with
  | ok v =>
   rw[c] at h;simp only at h ⊢;split at h
   ·cases h
   ·rename_i h1
    injection h with h
    subst h;exact⟨rfl,λb=>by rw[if_neg h1]⟩
  | _=>rw[c] at h;cases h
 ·unfold pL at h ⊢;split at h
  ·cases h
  ·rename_i h1
   injection h with h
   subst h;exact⟨rfl,λb=>by rw[if_neg h1]⟩
 ·cases h
theorem tU (k:Nat)(t:List UInt8)(a p:Nat)(l:List UInt8)(ts:List Tk)(h:eZ k t a p l=.inr ts)(m:a<=p):∀ x,x ∈ ts->x.a<=p+l.length:=by
 induction l generalizing k t a p ts with
 | nil =>
  intro x b;rcases fA h with ⟨rfl,h1⟩|⟨i,y,g,e,h1,h2⟩
  ·injection h1 with h1
   subst h1;simp at b;subst b;exact GC _
  ·injection h1 with h1
   subst h1 h2;simp at b;rcases b with rfl|rfl
   ·have:=(te e).1
    simp;omega
   ·exact GC _
 | cons c r d =>
  have j:p+(c::r).length=p+1+r.length:=by simp;omega
  rw[j];cases f:tks k t c.toNat
  ·rw[gj f] at h;rcases fA h with ⟨rfl,h1⟩|⟨i,y,g,e,h1,h2⟩
   ·exact d _ _ _ _ _ h1 (by omega)
   ·subst h2;intro x b;rcases List.mem_cons.1 b with rfl|b
    ·have:=(te e).1
     omega
    ·exact d _ _ _ _ _ h1 (by omega) x b
  ·rw[fV f] at h;exact d _ _ _ _ _ h (by omega)
theorem xp (k:Nat)(t:List UInt8)(a p:Nat)(l:List UInt8)(ts:List Tk)(h:eZ k t a p l=.inr ts):ts.length<=l.length+2/\0<ts.length/\(k=0->ts.length<=l.length+1):=by
 induction l generalizing k t a p ts with
 | nil =>
  rcases fA h with ⟨rfl,h1⟩|⟨d,y,f,g,h1,h2⟩
  ·injection h1 with h1
   subst h1;simp
  ·injection h1 with h1
   subst h1 h2;simp[d]
 | cons c r b =>
  simp only[G5];cases e:tks k t c.toNat
  ·rw[gj e] at h;rcases fA h with ⟨rfl,h1⟩|⟨d,y,f,g,h1,h2⟩
   ·have:=b _ _ _ _ _ h1
    exact⟨by omega,by omega,λ_=>by omega⟩
   ·subst h2
    have:=b _ _ _ _ _ h1
    simp only[G5];exact⟨by omega,by omega,λh=>absurd h d⟩
  ·rw[fV e] at h
   have:=b _ _ _ _ _ h
   exact⟨by omega,by omega,λh=>by have:=this.2.2 h;omega⟩
theorem lY {l:List UInt8}{ts:List Tk}(h:iy l=.inr ts):l.length<=2000/\pJ l=.inr ts/\ts.length<=2001/\ts.length<=l.length+1/\0<ts.length/\(∀ x,x ∈ ts->x.a<=l.length):=by
 unfold iy at h;split at h
 ·cases h
 ·have h1:=xp _ _ _ _ _ _ h;have h2:=tU _ _ _ _ _ _ h (GC _);have c:=h1.2.2 rfl;exact⟨by omega,h,by omega,c,h1.2.1,λx b=>by have:=h2 x b;omega⟩
theorem qR {l:List UInt8}{e q:Nat}(h:iy l=.inl (e,q)):e≠0:=by
 by_cases a:e=113
 ·omega
 ·have:=(Bs h a).2.2.2
  omega
def WFT (ts:List Tk):Prop:=∃e,ts.getLast?=GB e/\e.k=0/\e.t=[]
theorem WFT.tail {x:Tk}{r:List Tk}(h:WFT (x::r))(a:x.t≠[]\/x.k≠0):WFT r:=by
 obtain⟨e,h1,h2,b⟩:=h;cases r with
 | nil =>
  simp at h1;subst h1;rcases a with a|a
  ·exact absurd b a
  ·exact absurd h2 a
 | cons y l=>exact⟨e,by rw[List.getLast?_cons_cons] at h1;exact h1,h2,b⟩
theorem WFT.ne {ts:List Tk}(h:WFT ts):ts≠[]:=by
 obtain⟨e,h1,_⟩:=h;intro a;subst a;cases h1
def gP {α:Type}(b:Nat)(r:Rs α):Prop :=
 match r with
 | ⟨GA⟩=>False
 | ⟨GB (.inl (_,_))⟩=>True
 | ⟨GB (.inr (_,t))⟩=>WFT t/\t.length<b
theorem gP.bind {α β:Type}{b c:Nat}{r:Rs α}{f:α->List Tk->Rs β}(h:gP b r)(d:∀ x t,WFT t->t.length<b->gP c (f x t)):gP c (r.bind f):=by
 cases r using Rs.on with
 | out=>exact h.elim
 | bad e a=>exact trivial
 | ok x t=>exact d x t h.1 h.2
theorem it {s:List UInt8}(b:s≠[]){ts:List Tk}(h:WFT ts):gP ts.length (eD s ts):=by
 cases ts with
 | nil=>exact absurd rfl h.ne
 | cons x r =>
  simp only[eD];by_cases a:x.t=s
  ·rw[if_pos a];exact⟨h.tail (.inl (by rw[a];exact b)),by simp⟩
  ·rw[if_neg a];exact trivial
theorem pT {k:Nat}(b:k≠0){ts:List Tk}(h:WFT ts):gP ts.length (hH k ts):=by
 cases ts with
 | nil=>exact absurd rfl h.ne
 | cons x r =>
  simp only[hH];by_cases a:x.k=k
  ·rw[if_pos a];exact⟨h.tail (.inr (by rw[a];exact b)),by simp⟩
  ·rw[if_neg a];exact trivial
theorem jL {s:List UInt8}(c:s≠[])(o:Nat){ts:List Tk}(h:WFT ts):gP ts.length (ej s o ts):=by
 cases ts with
 | nil=>exact absurd rfl h.ne
 | cons x r =>
  simp only[ej];by_cases a:x.t=s
  ·rw[if_pos a];by_cases b:o=64
   ·rw[if_pos b];exact trivial
   ·rw[if_neg b];exact⟨h.tail (.inl (by rw[a];exact c)),by simp⟩
  ·rw[if_neg a];exact trivial
section
variable {rec:Rdr}{n:Nat}
theorem gR (H:∀ row o q ts,row<=8->WFT ts->10*ts.length+(9-row)<=n->gP ts.length (rec row o q ts)){o q:Nat}{ts:List Tk}(h:WFT ts)(a:10*ts.length+8<=n):gP ts.length (rec 1 o q ts):=H 1 o q ts (by omega) h (by omega)
theorem ot (H:∀ row o q ts,row<=8->WFT ts->10*ts.length+(9-row)<=n->gP ts.length (rec row o q ts)):∀ (j:Nat) (o q:Nat) (a:Fs) (ts:List Tk) (b:Nat),WFT ts->10*ts.length+8<=n->ts.length<b->gP b (jy rec j o q a ts)
 | 0,o,q,a,ts,b,h,d,c=>⟨h,c⟩
 | j+1,o,q,a,ts,b,h,d,c=>by
  unfold jy;refine(it (by simp) h).bind λ_ t1 h1 g=>?_;refine(gR H h1 (by omega)).bind λe t2 h2 f=>?_;exact ot H j o q _ t2 b h2 (by omega) (by omega)
theorem mW (H:∀ row o q ts,row<=8->WFT ts->10*ts.length+(9-row)<=n->gP ts.length (rec row o q ts))(a o q:Nat){ts:List Tk}(h:WFT ts)(j:10*ts.length<=n):gP ts.length (iK rec a o q ts):=by
 unfold iK;refine(jL (by simp) o h).bind λ_ t1 h1 i=>?_;refine(gR H h1 (by omega)).bind λe t2 h2 g=>?_;refine(ot H (a-1) (o+1) q _ t2 (t2.length+1) h2 (by omega) (by omega)).bind λks t3 c f=>?_;refine(it (by simp) c).bind λ_ t4 b d=>?_;exact⟨b,by omega⟩
theorem sH (H:∀ row o q ts,row<=8->WFT ts->10*ts.length+(9-row)<=n->gP ts.length (rec row o q ts))(o q:Nat){ts:List Tk}(h:WFT ts)(m:10*ts.length<=n):gP ts.length (gM rec o q ts):=by
 unfold gM;refine(jL (by simp) o h).bind λ_ t1 h1 l=>?_;refine(gR H h1 (by omega)).bind λe t2 h2 k=>?_;refine(it (by simp) h2).bind λ_ t3 c j=>?_;refine(gR H c (by omega)).bind λe t4 b i=>?_;refine(it (by simp) b).bind λ_ t5 h5 g=>?_;refine(gR H h5 (by omega)).bind λe d a f=>?_;exact⟨a,by omega⟩
theorem qj (H:∀ row o q ts,row<=8->WFT ts->10*ts.length+(9-row)<=n->gP ts.length (rec row o q ts)):∀ (m:Nat) (o q:Nat) (a:Fs) (ts:List Tk) (b:Nat),WFT ts->10*ts.length+8<=n->ts.length<m->ts.length<b->gP b (jW rec m o q a ts)
 | 0,o,q,a,ts,b,h,f,g,d=>by omega
 | m+1,o,q,a,ts,b,h,f,g,d=>by
  cases ts with
  | nil=>exact absurd rfl h.ne
  | cons x r =>
   unfold jW;simp only[G5] at f g d;by_cases c:x.t=[44]
   ·simp only[c,if_true];have i:=h.tail (.inl (by rw[c];simp));refine(gR H i (by omega)).bind λe t2 h2 j=>?_;exact qj H m o q _ t2 b h2 (by omega) (by omega) (by omega)
   ·simp only[c,if_false];exact⟨h,by simpa using d⟩
theorem Bn (H:∀ row o q ts,row<=8->WFT ts->10*ts.length+(9-row)<=n->gP ts.length (rec row o q ts))(m o q:Nat){ts:List Tk}(h:WFT ts)(b:10*ts.length+8<=n)(d:ts.length<m):gP (ts.length+1) (nf rec m o q ts):=by
 cases ts with
 | nil=>exact absurd rfl h.ne
 | cons x r =>
  unfold nf;by_cases a:x.t=[125]
  ·simp only[a,if_true];exact⟨h,by omega⟩
  ·simp only[a,if_false];refine(gR H h b).bind λe t1 h1 c=>?_;exact qj H m o q _ t1 _ h1 (by omega) (by omega) (by omega)
theorem AW (H:∀ row o q ts,row<=8->WFT ts->10*ts.length+(9-row)<=n->gP ts.length (rec row o q ts))(m o q:Nat){ts:List Tk}(h:WFT ts)(g:10*ts.length<=n)(i:ts.length<m):gP ts.length (iV rec m o q ts):=by
 cases ts with
 | nil=>exact absurd rfl h.ne
 | cons x r =>
  unfold iV;simp only[G5] at g i;by_cases c:x.k=2
  ·simp only[c,if_true];exact⟨h.tail (.inr (by rw[c];decide)),by simp⟩
  simp only[c,if_false];by_cases b:x.t=[118,101,114,116,105,99,101,115]
  ·simp only[b,if_true];exact⟨h.tail (.inl (by rw[b];simp)),by simp⟩
  simp only[b,if_false];by_cases d:x.t=[97,114,111,117,110,100]
  ·simp only[d,if_true];have f:=h.tail (.inl (by rw[d];simp));refine(mW H 1 o q f (by omega)).bind λks t h1 e=>?_;exact⟨h1,by simp;omega⟩
  simp only[d,if_false];refine(jL (by simp) o h).bind λa t1 h1 e=>?_;simp only[G5] at e;refine(Bn H m (o+1) q h1 (by omega) (by omega)).bind λks t2 h2 p=>?_;refine(it (by simp) h2).bind λ_ t3 j l=>?_;exact⟨j,by simp;omega⟩
theorem tM (H:∀ row o q ts,row<=8->WFT ts->10*ts.length+(9-row)<=n->gP ts.length (rec row o q ts))(m:Nat){s:List UInt8}(b:s≠[])(k o q:Nat){ts:List Tk}(h:WFT ts)(u:10*ts.length<=n)(v:ts.length<m):gP ts.length (gu rec m s k o q ts):=by
 cases ts with
 | nil=>exact absurd rfl h.ne
 | cons x r =>
  unfold gu;by_cases a:q=4
  ·simp only[a,if_true];exact trivial
  simp only[a,if_false];refine(jL b o h).bind λ_ t1 h1 t=>?_;refine(pT (by decide) h1).bind λ_ t2 h2 p=>?_;refine(it (by simp) h2).bind λ_ t3 d l=>?_;refine(AW H m (o+1) (q+1) d (by omega) (by omega)).bind λe t4 a j=>?_;refine(it (by simp) a).bind λ_ t5 h5 i=>?_;refine(gR H h5 (by omega)).bind λe f c g=>?_;exact⟨c,by omega⟩
theorem xD (H:∀ row o q ts,row<=8->WFT ts->10*ts.length+(9-row)<=n->gP ts.length (rec row o q ts))(m o q:Nat){ts:List Tk}(h:WFT ts)(c:10*ts.length<=n)(A:ts.length<m):gP ts.length (fv rec m o q ts):=by
 cases ts with
 | nil=>exact absurd rfl h.ne
 | cons x r =>
  unfold fv;have d:r.length<(x::r).length:=by simp
  simp only;by_cases h1:x.k=1
  ·simp only[h1,if_true];exact⟨h.tail (.inr (by rw[h1];decide)),d⟩
  simp only[h1,if_false];by_cases h2:x.k=2
  ·simp only[h2,if_true];exact⟨h.tail (.inr (by rw[h2];decide)),d⟩
  simp only[h2,if_false];by_cases l:x.t=[102,97,108,115,101]
  ·simp only[l,if_true];exact⟨h.tail (.inl (by rw[l];simp)),d⟩
  simp only[l,if_false];by_cases j:x.t=[116,114,117,101]
  ·simp only[j,if_true];exact⟨h.tail (.inl (by rw[j];simp)),d⟩
  simp only[j,if_false];by_cases h5:x.t=[64]
  ·simp only[h5,if_true];have i:=h.tail (.inl (by rw[h5];simp));refine(pT (by decide) i).bind λ_ t2 y B=>?_;exact⟨y,by omega⟩
  simp only[h5,if_false];by_cases w:x.t=[40]
  ·simp only[w,if_true];refine(mW H 1 o q h c).bind λks t1 f p=>?_;exact⟨f,p⟩
  simp only[w,if_false];by_cases v:x.t=[105,102]
  ·simp only[v,if_true];exact sH H o q h c
  simp only[v,if_false];cases u:pg x.t with
  | some z =>
   obtain⟨a,k,b⟩:=z;have g:x.t≠[]:=λe=>by rw[e] at u;cases u
   have i:=h.tail (.inl g);simp only[G5] at c;refine(mW H b o q i (by omega)).bind λks t1 f p=>?_;exact⟨f,by omega⟩
  | none =>
   cases s:mu x.t with
   | some z =>
    obtain⟨a,k⟩:=z;have g:x.t≠[]:=λe=>by rw[e] at s;cases s
    exact tM H m g k o q h c A
   | none=>exact trivial
theorem qg (H:∀ row o q ts,row<=8->WFT ts->10*ts.length+(9-row)<=n->gP ts.length (rec row o q ts)){s:List UInt8}(d:s≠[])(k:Int)(row o q:Nat)(b:row<=7){ts:List Tk}(h:WFT ts)(g:10*ts.length+(8-row)<=n):gP ts.length (fX rec s k row o q ts):=by
 cases ts with
 | nil=>exact absurd rfl h.ne
 | cons x r =>
  unfold fX;by_cases a:x.t=s
  ·simp only[a,if_true];by_cases c:o=64
   ·simp only[c,if_true];exact trivial
   ·simp only[c,if_false];have f:=h.tail (.inl (by rw[a];exact d));simp only[G5] at g;refine(H row (o+1) q r (by omega) f (by omega)).bind λe t2 h2 i=>?_;exact⟨h2,by simp;omega⟩
  ·simp only[a,if_false];exact H (row+1) o q _ (by omega) h (by omega)
theorem nk (H:∀ row o q ts,row<=8->WFT ts->10*ts.length+(9-row)<=n->gP ts.length (rec row o q ts)):∀ (m row o q:Nat) (left:Ex) (ts:List Tk) (b:Nat),WFT ts->10*ts.length+8<=n->ts.length<m->ts.length<b->gP b (fR rec m row o q left ts)
 | 0,row,o,q,left,ts,b,h,i,j,f=>by omega
 | m+1,row,o,q,left,ts,b,h,i,j,f=>by
  cases ts with
  | nil=>exact absurd rfl h.ne
  | cons x r =>
   unfold fR;simp only;cases d:xT x.t row with
   | none=>exact⟨h,f⟩
   | some z =>
    obtain⟨u,w,v,l,g⟩:=z;have p:x.t≠[]:=λe=>by
     have h1:=Hi d;have h2:=IU d;simp at h2;have k:=h2.1;rw[e] at k;simp only[iJ,Iq,Io,or_false,IM] at h1;rcases h1 with ⟨h,_⟩|⟨h,_⟩|⟨h,_⟩|⟨h,_⟩|⟨h,_⟩|⟨h,_⟩|⟨h,_⟩|⟨h,_⟩|⟨h,_⟩|⟨h,_⟩|⟨h,_⟩<;>(rw[k] at h;cases h)
    have c:g<=8:=by
     have h1:=Hi d;simp only[iJ,Iq,Io,or_false,IM] at h1;rcases h1 with h|h|h|h|h|h|h|h|h|h|h<;>(have:=h.2.2.2.2;omega)
    have s:=h.tail (.inl p);simp only[G5] at i j f;refine(H g o q r c s (by omega)).bind λe t2 h2 y=>?_;by_cases a:row<l
    ·simp only[a,if_true];exact⟨h2,by omega⟩
    ·simp only[a,if_false];exact nk H m row o q _ t2 b h2 (by omega) (by omega) (by omega)
end
theorem qJ:∀ (n row o q:Nat) (ts:List Tk),row<=8->WFT ts->10*ts.length+(9-row)<=n->gP ts.length (fL n row o q ts)
 | 0,row,o,q,ts,e,h,f=>by
  have:=List.length_pos_iff.2 h.ne
  omega
 | n+1,row,o,q,ts,e,h,f=>by
  have H:=qJ n;have g:=List.length_pos_iff.2 h.ne;unfold fL;by_cases c:row=3
  ·simp only[c,if_true];exact qg H (by simp) 7 3 o q (by omega) h (by omega)
  simp only[c,if_false];by_cases b:row=7
  ·simp only[b,if_true];exact qg H (by simp) 6 7 o q (by omega) h (by omega)
  simp only[b,if_false];by_cases a:row=8
  ·simp only[a,if_true];exact xD H n o q h (by omega) (by omega)
  simp only[a,if_false];refine(H (row+1) o q ts (by omega) h (by omega)).bind λl t h1 d=>?_;exact nk H n row o q l t _ h1 (by omega) (by omega) d
theorem xO {n:Nat}{ts:List Tk}(h:WFT ts)(d:10*ts.length+8<=n):jj n ts≠.out:=by
 intro e;have F:gP ts.length (jj n ts)\/jj n ts≠.out:=by
  refine .inr ?_
  have:=qJ n 1 0 0 ts (by omega) h (by omega)
  unfold jj;cases c:fL n 1 0 0 ts using Rs.on with
  | out=>rw[c] at this;exact this.elim
  | bad e a=>intro h;cases h
  | ok x t =>
   rw[c] at this;cases t with
   | nil=>exact absurd rfl this.1.ne
   | cons y l =>
    simp only[Rs.bind];by_cases b:y.k=0
    ·simp[b]
    ·simp[b]
 rcases F with F|F
 ·rw[e] at F;exact F
 ·exact F e
theorem wa (k:Nat)(t:List UInt8)(a p:Nat)(l:List UInt8)(ts:List Tk)(h:eZ k t a p l=.inr ts):WFT ts:=by
 induction l generalizing k t a p ts with
 | nil =>
  unfold eZ at h;rcases fA h with ⟨_,h2⟩|⟨_,x,d,_,h2,rfl⟩
  ·unfold tD at h2;injection h2 with h2;subst h2;exact⟨_,rfl,rfl,rfl⟩
  ·unfold tD at h2;injection h2 with h2;subst h2;exact⟨_,rfl,rfl,rfl⟩
 | cons c r b =>
  unfold eZ at h;split at h
  ·exact b _ _ _ _ _ h
  ·rcases fA h with ⟨_,h2⟩|⟨_,x,d,_,h2,rfl⟩
   ·exact b _ _ _ _ _ h2
   ·have:=b _ _ _ _ _ h2
    obtain⟨e,h1,f⟩:=this;cases d with
    | nil=>cases h1
    | cons y l=>exact⟨e,by rw[List.getLast?_cons_cons];exact h1,f⟩
def fZ (l:List UInt8):Rs Ex :=
 match iy l with
 | .inl (e,p)=>.bad e p
 | .inr ts=>jj 30000 ts
theorem tW (l:List UInt8):fZ l≠.out:=by
 unfold fZ;cases h:iy l with
 | inl x=>obtain⟨e,p⟩:=x;intro h;cases h
 | inr ts =>
  have a:=lY h;exact xO (wa _ _ _ _ _ _ a.2.1) (by omega)
def Lq {α:Type}(b:List Tk)(r:Rs α):Prop:=∀ x t,r=.ok x t->t <:+ b
theorem Lq.bind {α β:Type}{b:List Tk}{r:Rs α}{f:α->List Tk->Rs β}(h:Lq b r)(c:∀ x t,t <:+ b->Lq b (f x t)):Lq b (r.bind f):=by
 cases r using Rs.on with
 | out=>intro x t e;cases e
 | bad e a=>intro x t e;cases e
 | ok x t=>exact c x t (h x t rfl)
theorem Lq.bad {α:Type}(b:List Tk)(e a:Nat):Lq b (.bad e a:Rs α):=λx t h=>by cases h
theorem Lq.out {α:Type}(b:List Tk):Lq b (.out:Rs α):=λx t h=>by cases h
theorem Lq.ok {α:Type}{b:List Tk}(x:α){t:List Tk}(h:t <:+ b):Lq b (.ok x t):=λy u e=>by
 obtain⟨_,e⟩:=Rs.ok_inj e;subst e;exact h
theorem jK (s:List UInt8){b:List Tk}{ts:List Tk}(h:ts <:+ b):Lq b (eD s ts):=by
 cases ts with
 | nil=>exact Lq.out _
 | cons x r =>
  simp only[eD];split
  ·exact Lq.ok _ ((Hz x r).trans h)
  ·exact Lq.bad _ _ _
theorem wA (k:Nat){b:List Tk}{ts:List Tk}(h:ts <:+ b):Lq b (hH k ts):=by
 cases ts with
 | nil=>exact Lq.out _
 | cons x r =>
  simp only[hH];split
  ·exact Lq.ok _ ((Hz x r).trans h)
  ·exact Lq.bad _ _ _
theorem mt (s:List UInt8)(o:Nat){b:List Tk}{ts:List Tk}(h:ts <:+ b):Lq b (ej s o ts):=by
 cases ts with
 | nil=>exact Lq.out _
 | cons x r =>
  simp only[ej];split
  ·split
   ·exact Lq.bad _ _ _
   ·exact Lq.ok _ ((Hz x r).trans h)
  ·exact Lq.bad _ _ _
section
variable {rec:Rdr}
theorem sN (H:∀ row o q ts b,ts <:+ b->Lq b (rec row o q ts)):∀ (j:Nat) (o q:Nat) (a:Fs) (ts:List Tk) (b:List Tk),ts <:+ b->Lq b (jy rec j o q a ts)
 | 0,o,q,a,ts,b,h=>Lq.ok _ h
 | j+1,o,q,a,ts,b,h=>by
  unfold jy;exact(jK _ h).bind λ_ t1 h1=>(H _ _ _ _ _ h1).bind λe t2 h2=>sN H j o q _ t2 b h2
theorem rh (H:∀ row o q ts b,ts <:+ b->Lq b (rec row o q ts))(a o q:Nat){b:List Tk}{ts:List Tk}(h:ts <:+ b):Lq b (iK rec a o q ts):=by
 unfold iK;exact(mt _ _ h).bind λ_ t1 h1=>(H _ _ _ _ _ h1).bind λe t2 h2=>(sN H _ _ _ _ t2 b h2).bind λks t3 d=>(jK _ d).bind λ_ t4 c=>Lq.ok _ c
theorem xL (H:∀ row o q ts b,ts <:+ b->Lq b (rec row o q ts))(o q:Nat){b:List Tk}{ts:List Tk}(h:ts <:+ b):Lq b (gM rec o q ts):=by
 unfold gM;exact(mt _ _ h).bind λ_ t1 h1=>(H _ _ _ _ _ h1).bind λe t2 h2=>(jK _ h2).bind λ_ t3 d=>(H _ _ _ _ _ d).bind λe t4 c=>(jK _ c).bind λ_ t5 h5=>(H _ _ _ _ _ h5).bind λe f a=>Lq.ok _ a
theorem vL (H:∀ row o q ts b,ts <:+ b->Lq b (rec row o q ts)):∀ (m:Nat) (o q:Nat) (a:Fs) (ts:List Tk) (b:List Tk),ts <:+ b->Lq b (jW rec m o q a ts)
 | 0,o,q,a,ts,b,h=>Lq.out _
 | m+1,o,q,a,[],b,h=>Lq.out _
 | m+1,o,q,a,x::r,b,h=>by
  unfold jW;simp only;split
  ·exact(H _ _ _ _ _ ((Hz x r).trans h)).bind λe t2 h2=>vL H m o q _ t2 b h2
  ·exact Lq.ok _ h
theorem Et (H:∀ row o q ts b,ts <:+ b->Lq b (rec row o q ts))(m o q:Nat){b:List Tk}{ts:List Tk}(h:ts <:+ b):Lq b (nf rec m o q ts):=by
 cases ts with
 | nil=>exact Lq.out _
 | cons x r =>
  unfold nf;simp only;split
  ·exact Lq.ok _ h
  ·exact(H _ _ _ _ _ h).bind λe t1 h1=>vL H m o q _ t1 b h1
theorem Eh (H:∀ row o q ts b,ts <:+ b->Lq b (rec row o q ts))(m o q:Nat){b:List Tk}{ts:List Tk}(h:ts <:+ b):Lq b (iV rec m o q ts):=by
 cases ts with
 | nil=>exact Lq.out _
 | cons x r =>
  have a:r <:+ b:=(Hz x r).trans h;unfold iV;simp only;split
  ·exact Lq.ok _ a
  ·split
   ·exact Lq.ok _ a
   ·split
    ·exact(rh H 1 o q a).bind λks t h1=>Lq.ok _ h1
    ·exact(mt _ _ h).bind λ_ t1 h1=>(Et H m _ q h1).bind λks t2 h2=>(jK _ h2).bind λ_ t3 c=>Lq.ok _ c
theorem Ak (H:∀ row o q ts b,ts <:+ b->Lq b (rec row o q ts))(m:Nat)(s:List UInt8)(k o q:Nat){b:List Tk}{ts:List Tk}(h:ts <:+ b):Lq b (gu rec m s k o q ts):=by
 cases ts with
 | nil=>exact Lq.out _
 | cons x r =>
  unfold gu;simp only;split
  ·exact Lq.bad _ _ _
  ·exact(mt _ _ h).bind λ_ t1 h1=>(wA _ h1).bind λ_ t2 h2=>(jK _ h2).bind λ_ t3 d=>(Eh H m _ _ d).bind λ_ t4 c=>(jK _ c).bind λ_ t5 h5=>(H _ _ _ _ _ h5).bind λe f a=>Lq.ok _ a
theorem Cc (H:∀ row o q ts b,ts <:+ b->Lq b (rec row o q ts))(m o q:Nat){b:List Tk}{ts:List Tk}(h:ts <:+ b):Lq b (fv rec m o q ts):=by
 cases ts with
 | nil=>exact Lq.out _
 | cons x r =>
  have a:r <:+ b:=(Hz x r).trans h;unfold fv;simp only;split
  ·exact Lq.ok _ a
  ·split
   ·exact Lq.ok _ a
   ·split
    ·exact Lq.ok _ a
    ·split
     ·exact Lq.ok _ a
     ·split
      ·exact(wA _ a).bind λ_ t h1=>Lq.ok _ h1
      ·split
       ·exact(rh H 1 o q h).bind λks t h1=>Lq.ok _ h1
       ·split
        ·exact xL H o q h
        ·split
         ·exact(rh H _ o q a).bind λks t h1=>Lq.ok _ h1
         ·split
          ·exact Ak H m _ _ o q h
          ·exact Lq.bad _ _ _
theorem vu (H:∀ row o q ts b,ts <:+ b->Lq b (rec row o q ts))(s:List UInt8)(k:Int)(row o q:Nat){b:List Tk}{ts:List Tk}(h:ts <:+ b):Lq b (fX rec s k row o q ts):=by
 cases ts with
 | nil=>exact Lq.out _
 | cons x r =>
  have a:r <:+ b:=(Hz x r).trans h;unfold fX;simp only;split
  ·split
   ·exact Lq.bad _ _ _
   ·exact(H _ _ _ _ _ a).bind λe t2 h2=>Lq.ok _ h2
  ·exact H _ _ _ _ _ h
theorem qy (H:∀ row o q ts b,ts <:+ b->Lq b (rec row o q ts)):∀ (m row o q:Nat) (left:Ex) (ts:List Tk) (b:List Tk),ts <:+ b->Lq b (fR rec m row o q left ts)
 | 0,row,o,q,left,ts,b,h=>Lq.out _
 | m+1,row,o,q,left,[],b,h=>Lq.out _
 | m+1,row,o,q,left,x::r,b,h=>by
  have a:r <:+ b:=(Hz x r).trans h;unfold fR;simp only;split
  ·exact Lq.ok _ h
  ·refine(H _ _ _ _ _ a).bind λe t2 h2=>?_;split
   ·exact Lq.ok _ h2
   ·exact qy H m row o q _ t2 b h2
end
theorem vy:∀ (n row o q:Nat) (ts:List Tk) (b:List Tk),ts <:+ b->Lq b (fL n row o q ts)
 | 0,row,o,q,ts,b,h=>Lq.out _
 | n+1,row,o,q,ts,b,h=>by
  have H:=vy n;unfold fL;split
  ·exact vu H _ _ _ _ _ h
  ·split
   ·exact vu H _ _ _ _ _ h
   ·split
    ·exact Cc H n o q h
    ·exact(H _ _ _ _ _ h).bind λl t h1=>qy H n row o q l t b h1
section
variable {g d:Nat}{v v':List Tk}
variable {rec:Rdr}
end
theorem gm (w:GE)(xs:List GJ)(t:Hl):∀ j u,xs[j]?=GB u->(w.alloc (.cells xs.toArray t)).cell? ((⟨w.heap.size,0,GA⟩:G1).add j)=GB u:=λj u a=>by
 rw[show (⟨w.heap.size,0,GA⟩:G1).add j=⟨w.heap.size,j,GA⟩ by simp only[I8];split<;>simp_all];rw[Hf _ w.heap.size j _ t (0,0) (GH w _)];simpa using a
theorem im (w:GE)(b k:Nat)(b0 b1 b2 b3 a:GJ)(h:k≠b):(((((w.setCell ⟨b,0,GA⟩ b0).setCell ⟨b,1,GA⟩ b1).setCell ⟨b,2,GA⟩ b2).setCell ⟨b,3,GA⟩ b3).setCell ⟨b,4,GA⟩ a).heap[k]?=w.heap[k]? :=
 (GP _ ⟨b,4,GA⟩ k a h).trans ((GP _ ⟨b,3,GA⟩ k b3 h).trans ((GP _ ⟨b,2,GA⟩ k b2 h).trans ((GP _ ⟨b,1,GA⟩ k b1 h).trans (GP w ⟨b,0,GA⟩ k b0 h))))
def Fs.plc:Fs->Prop
 | ⟨GA⟩=>True
 | ⟨GB ⟨_,_,_,a,ks,r⟩⟩=>0<=a/\a<=1000000000/\ks.plc/\r.plc
abbrev N0 (n0:Nat)(o:Nat->Nat):Nat->Prop:=λb=>n0<=b/\o b=0
def na (w:GE)(o:Nat->Nat)(n0:Nat)(a:Fs)(v:GJ):Prop:=∃xs,Row w o 2 25 5 v a.len xs/\Fc w (N0 n0 o) a xs
theorem Fc.lab {I:Nat->Prop}{w w':GE}{o o':Nat->Nat}{n0:Nat}{f:Fs}{xs:List GJ}(h:Fc w (N0 n0 o) f xs)(s:dQ I w o w' o')(c:¬I 0):Fc w' (N0 n0 o') f xs :=
 h.mono (λi a b=>s.block i b (by rw[a.2];exact c)) s.size (λi a b=>⟨a.1,(s.lab i b).trans a.2⟩)
theorem Sl.lab {I:Nat->Prop}{w w':GE}{o o':Nat->Nat}{n0:Nat}{f:Fs}{ao:Option G1}(h:Sl w (N0 n0 o) f ao)(s:dQ I w o w' o')(c:¬I 0):Sl w' (N0 n0 o') f ao :=
 h.mono (λi a b=>s.block i b (by rw[a.2];exact c)) s.size (λi a b=>⟨a.1,(s.lab i b).trans a.2⟩)
theorem na.step {I:Nat->Prop}{w w':GE}{o o':Nat->Nat}{n0:Nat}{a:Fs}{v:GJ}(h:na w o n0 a v)(s:dQ I w o w' o')(b:¬I 0)(h2:¬I 2):na w' o' n0 a v:=by
 obtain⟨xs,r,f⟩:=h;exact⟨xs,r.step s h2,f.lab s b⟩
theorem na.push {w w2:GE}{o c:Nat->Nat}{n0:Nat}{b:Fs}{xs:List GJ}{v2:GJ}{y:Ex}{ao:Option G1}{d:Nat}(f:Fc w (N0 n0 o) b xs)(S:Sl w (N0 n0 o) y.kids ao)(s:dQ (λx=>x=2) w o w2 c)
  (r:Row w2 c 2 25 5 v2 (b.len+1) (xs++[.int .i64 y.k,.int .i64 y.n,stv y.nm,.slice ao y.kids.len d,.int .i64 y.a])):na w2 c n0 (b.snoc y) v2 :=
 ⟨_,by rw[Fs.len_snoc];exact r,(f.lab s (by decide)).app (Fc.one d (S.lab s (by decide)))⟩
theorem en {I:Nat->Prop}{n0:Nat}{a w w':GE}{o o':Nat->Nat}(b:GK n0 a w)(s:dQ I w o w' o')(h:∀ k,k<n0->¬I (o k))(d:n0<=a.heap.size):GK n0 a w' :=
 ⟨s.os.trans b.os,s.tape.trans b.tape,s.output.trans b.output,Hn b.size s.size,λk c=>(s.block k (by have:=b.size;omega) (h k c)).trans (b.block k c)⟩
theorem lZ:∀ (x:Fs),x.app .nil=x
 | ⟨GA⟩=>rfl
 | ⟨GB ⟨k,n,nm,a,ks,r⟩⟩=>by simp only[Fs.app];rw[lZ r]
def FcN (w:GE)(P:Nat->Prop):Fs->List GJ->Prop
 | ⟨GA⟩,xs=>xs=[]
 | ⟨GB ⟨k,n,nm,a,ks,r⟩⟩,xs=>∃ao cap d,xs=.int .i64 k::.int .i64 n::stv nm::.slice ao ks.len cap::d /\
   (ks=.nil\/∃b off c,ao=GB ⟨b,off,GA⟩/\P b/\b<w.heap.size/\(∀ j u,c[j]?=GB u->w.cell? ⟨b,off+j,GA⟩=GB u)/\FcN w P ks c)/\FcN w P r d
def SlN (w:GE)(P:Nat->Prop)(ks:Fs)(ao:Option G1):Prop :=
 ks=.nil\/∃b off a,ao=GB ⟨b,off,GA⟩/\P b/\b<w.heap.size/\(∀ j u,a[j]?=GB u->w.cell? ⟨b,off+j,GA⟩=GB u)/\FcN w P ks a
def exN (e:Ex)(ao:Option G1)(cap:Nat):GJ:=.agg #[.int .i64 e.k,.int .i64 e.n,stv e.nm,.slice ao e.kids.len cap]
theorem dS (e:Ex)(ao:Option G1)(cap:Nat):exN e ao cap=.agg #[.int .i64 e.k,.int .i64 e.n,stv e.nm,.slice ao e.kids.len cap]:=rfl
theorem FcN.len {w:GE}{P:Nat->Prop}:∀ {f:Fs}{xs:List GJ},FcN w P f xs->xs.length=f.len*4
 | ⟨GA⟩,xs,h=>by
  have h:=h;subst h;rfl
 | ⟨GB ⟨k,n,nm,a,ks,r⟩⟩,xs,h=>by
  obtain⟨ao,cap,b,rfl,_,h2⟩:=h
  have:=FcN.len h2
  simp only[G5,Fs.len];omega
theorem FcN.mono {w w':GE}{P Q:Nat->Prop}(g:∀ k,P k->k<w.heap.size->w'.heap[k]?=w.heap[k]?)(d:w.heap.size<=w'.heap.size)(e:∀ k,P k->k<w.heap.size->Q k):∀ {f:Fs}{xs:List GJ},FcN w P f xs->FcN w' Q f xs
 | ⟨GA⟩,xs,h=>h
 | ⟨GB ⟨k,n,nm,a,ks,r⟩⟩,xs,h=>by
  obtain⟨ao,cap,m,rfl,h1,h2⟩:=h;refine⟨ao,cap,m,rfl,?_,FcN.mono g d e h2⟩;rcases h1 with h1|⟨b,off,l,rfl,i,c,p,q⟩
  ·exact .inl h1
  ·exact .inr ⟨b,off,l,rfl,e b i c,GM c d,λj u o=>(GS (a:=⟨b,off+j,GA⟩) (g b i c)).trans (p j u o),FcN.mono g d e q⟩
theorem SlN.mono {w w':GE}{P Q:Nat->Prop}{f:Fs}{ao:Option G1}(i:∀ k,P k->k<w.heap.size->w'.heap[k]?=w.heap[k]?)(d:w.heap.size<=w'.heap.size)(e:∀ k,P k->k<w.heap.size->Q k)(h:SlN w P f ao):SlN w' Q f ao:=by
 rcases h with h|⟨b,off,l,rfl,g,c,n,o⟩
 ·exact .inl h
 ·exact .inr ⟨b,off,l,rfl,e b g c,GM c d,λj u m=>(GS (a:=⟨b,off+j,GA⟩) (i b g c)).trans (n j u m),o.mono i d e⟩
theorem FcN.app {w:GE}{P:Nat->Prop}:∀ {f g:Fs}{xs b:List GJ},FcN w P f xs->FcN w P g b->FcN w P (f.app g) (xs++b)
 | ⟨GA⟩,g,xs,b,h,k=>by
  have h:=h;subst h;exact k
 | ⟨GB ⟨i,n,nm,a,ks,r⟩⟩,g,xs,b,h,k=>by
  obtain⟨ao,cap,c,rfl,h1,h2⟩:=h;exact⟨ao,cap,c++b,rfl,h1,FcN.app h2 k⟩
theorem FcN.one {w:GE}{P:Nat->Prop}{e:Ex}{ao:Option G1}(cap:Nat)(h:SlN w P e.kids ao):FcN w P (one e) [.int .i64 e.k,.int .i64 e.n,stv e.nm,.slice ao e.kids.len cap]:=⟨ao,cap,[],rfl,h,rfl⟩
theorem SlN.nil (w:GE)(P:Nat->Prop)(ao:Option G1):SlN w P .nil ao:=.inl rfl
theorem FcN.split {w:GE}{P:Nat->Prop}:∀ {x y:Fs}{b:List GJ},FcN w P (x.app y) b->∃d c,b=d++c/\FcN w P x d/\FcN w P y c
 | ⟨GA⟩,y,b,h=>⟨[],b,rfl,rfl,h⟩
 | ⟨GB ⟨k,n,nm,a,ks,r⟩⟩,y,b,h=>by
  obtain⟨ao,cap,g,rfl,h1,h2⟩:=h;obtain⟨d,c,rfl,f,e⟩:=FcN.split h2;exact⟨_,c,rfl,⟨ao,cap,d,rfl,h1,f⟩,e⟩
theorem SlN.kidQ {P:Nat->Prop}{w:GE}{x r:Fs}{k n:Int}{nm:List UInt8}{a:Int}{ks:Fs}{ao:Option G1}(h:SlN w P (x.app (.cons k n nm a ks r)) ao):∃b off ak ck,ao=GB ⟨b,off,GA⟩/\b<w.heap.size/\P b/\w.cell? ⟨b,off+x.len*4,GA⟩=GB (.int .i64 k)/\w.cell? ⟨b,off+x.len*4+1,GA⟩=GB (.int .i64 n)/\w.cell? ⟨b,off+x.len*4+2,GA⟩=GB (stv nm)/\w.cell? ⟨b,off+x.len*4+3,GA⟩=GB (.slice ak ks.len ck)/\SlN w P ks ak:=by
 rcases h with h|⟨b,off,t,rfl,g,d,m,l⟩
 ·cases x using Fs.on with
  | nil=>cases h
  | cons k n nm a ks r=>cases h
 ·obtain⟨s,q,rfl,p,o⟩:=FcN.split l;have i:=p.len;obtain⟨ak,ck,e,rfl,h5,v⟩:=o;have c:∀ j u,(.int .i64 k::.int .i64 n::stv nm::.slice ak ks.len ck::e:List GJ)[j]?=GB u->w.cell? ⟨b,off+x.len*4+j,GA⟩=GB u:=λj u f=>by
   have:=m (x.len*4+j) u (by rw[Ig (by omega),i,Jp];exact f)
   rw[Nat.add_assoc];exact this
  exact⟨b,off,ak,ck,rfl,d,g,c 0 _ rfl,c 1 _ rfl,c 2 _ rfl,c 3 _ rfl,h5⟩
abbrev SnA (w:GE)(f:Fs)(ao:Option G1):Prop:=SlN w (λ_=>True) f ao
theorem SnA.below {w w':GE}{f:Fs}{ao:Option G1}(h:SnA w f ao)(b:GK w.heap.size w w'):SnA w' f ao:=h.mono (λi _ a=>b.block i a) b.size (λ_ h _=>h)
theorem SlN.all {w:GE}{P:Nat->Prop}{f:Fs}{ao:Option G1}(h:SlN w P f ao):SnA w f ao:=h.mono (λ_ _ _=>rfl) (GC _) (λ_ _ _=>trivial)
theorem el {w:GE}{b:Nat}{a0 a1 a2 a3:GJ}{t:Hl}(h:w.heap[b]?=GB (.cells #[a0,a1,a2,a3] t (0,0))):w.cell? ⟨b,0,GA⟩=GB a0/\w.cell? ⟨b,1,GA⟩=GB a1/\w.cell? ⟨b,2,GA⟩=GB a2/\w.cell? ⟨b,3,GA⟩=GB a3/\∀ j,w.frozen? ⟨b,j,GA⟩=false:=by
 refine⟨?_,?_,?_,?_,λj=>Ik w b j _ t h⟩<;>simp[Hf w b _ _ t (0,0) h]
theorem tC:(Tryz.prog.info? 34).map (λi=>(i.zero,i.size,i.bytes))=GB (GB (.agg #[.int .i64 0,.int .i64 0,.string ⟨#[]⟩,.slice GA 0 0]),4,56):=by kernel_rfl
def zU (w:GE)(y:Ex)(x:IG)(w':GE):Prop:=∃ao cap,x=.returned (exN y ao cap)/\SlN w' (Nw w.heap.size) y.kids ao/\GK w.heap.size w w'
def Fs.rng:Fs->Prop
 | ⟨GA⟩=>True
 | ⟨GB ⟨_,n,_,_,ks,r⟩⟩=>-9223372036854775808<=n/\n<=9223372036854775807/\ks.rng/\r.rng
structure Ex.fit (e:Ex):Prop where
 nm:e.nm.length<=GY
 sh:e.kids.short
 len:e.kids.len<=1000000000
 n1:-9223372036854775808<=e.n
 n2:e.n<=9223372036854775807
 rng:e.kids.rng
theorem yD {t:List UInt8}(h:eE t=true):t.length<=12:=by
 cases t with
 | nil=>simp
 | cons c r =>
  simp only[eE,Ha,decide_eq_true_eq] at h
  have:=h.1.1.1
  simp only[G5];omega
theorem mz {k:Int}{nm:List UInt8}(h:ft k nm=true):nm.length<=12:=by
 unfold ft at h;split at h
 ·exact yD h
 ·have:nm=[]:=by simpa using h
  rw[this];simp
theorem zI {k n:Int}{nm:List UInt8}{m:Nat}(h:(fi k n&&ft k nm&&ew k n m)=true)(h1:-9223372036854775808<=n)(h2:n<=9223372036854775807):okP k n nm m:=by
 simp only[Ha] at h;exact⟨h.1.1,h.1.2,h.2,mz h.1.2,h1,h2⟩
theorem uy:∀ (f:Fs) (b:Bool) (c c':Nat),f.rng->hFs f b c=GB c'->f.okA/\c'=c+f.size
 | ⟨GA⟩,b,c,c',d,h=>by
  unfold hFs at h;injection h with h
  exact⟨trivial,h.symm⟩
 | ⟨GB ⟨k,n,nm,a,ks,r⟩⟩,b,c,c',d,h=>by
  unfold hFs at h;split at h
  ·cases h
  ·split at h
   ·cases h
   ·split at h
    ·rename_i i
     split at h
     ·cases h
     ·rename_i c2 h2
      obtain⟨g,l⟩:=uy ks _ (c+1) c2 d.2.2.1 h2;obtain⟨e,j⟩:=uy r false c2 c' d.2.2.2 h;exact⟨⟨zI i d.1 d.2.1,g,e⟩,by simp only[Fs.size];omega⟩
    ·cases h
theorem FO {e:Ex}{c c':Nat}(b:e.fit)(h:hE e c=GB c'):e.okA/\c'=c+1+e.kids.size/\c'<=2000:=by
 have a:=Gu h;unfold hE at h;split at h
 ·cases h
 ·split at h
  ·rename_i f
   obtain⟨d,g⟩:=uy e.kids _ (c+1) c' b.rng h;exact⟨⟨zI f b.n1 b.n2,d⟩,g,a⟩
  ·cases h
def s0:St:=⟨[],0,0,0,0⟩
def sw (s:St):Bool:=!(decide (2000<s.t.length)||decide (64<s.m)||decide (4<s.n))
def jw (e:Ex):Option (List UInt8) :=
 if eM e.k then GA
 else match hE e 0 with
  | none=>GA
  | some _=>if sw (wEx e 0 s0) then GB (wEx e 0 s0).t else GA
abbrev SlT (w:GE)(f:Fs)(ao:Option G1):Prop:=Sl w (λ_=>True) f ao
theorem SlT.below {w w':GE}{f:Fs}{ao:Option G1}(h:SlT w f ao)(b:GK w.heap.size w w'):SlT w' f ao:=h.mono (λi _ a=>b.block i a) b.size (λ_ h _=>h)
theorem Sl.all {P:Nat->Prop}{w:GE}{f:Fs}{ao:Option G1}(h:Sl w P f ao):SlT w f ao:=h.mono (λi _ a=>rfl) (GC _) (λ_ _ _=>trivial)
theorem Bu {w:GE}{o:Nat->Nat}{i:Nat}{v:GJ}{l:List UInt8}(h:Row w o i 5 1 v l.length (byL l)) :
  (convert 147 9 v).run GD w=.ok (stv l) w:=by
 rcases Jw l.length with c|c
 ·obtain rfl:l=[]:=List.length_eq_zero_iff.1 c;obtain⟨ao,cap,rfl⟩:=h.form;cases ao with
  | none=>exact run_convert_bytes_nil (P:=GD) w 147 5 Jt Kb _ _ 9 IL
  | some a=>exact run_convert_bytes_back w 147 9 5 a cap [] Jt Kb IL (λj b=>by simp at b)
 ·obtain⟨g,cap,rfl,-,-,-,-,d,-⟩:=h.pos c;refine run_convert_bytes_back w 147 9 5 ⟨g,0,GA⟩ cap l Jt Kb IL (λj b=>?_)
  have:=d j (by omega)
  rw[show (⟨g,0,GA⟩:G1).add j=⟨g,j,GA⟩ by simp[I8];intro h;exact h.symm,this];simp[byL,b]
def F6 (w:GE)(r:Option (List UInt8))(x:IG)(w':GE):Prop:=x=.returned (.tuple #[stv (r.getD []),.int .i64 (if r.isSome then 0 else 122)])/\GK w.heap.size w w'
def Fr (rec:Rdr)(o q:Nat)(ts:List Tk):Rs Ex:=(ej [40] o ts).bind λ_ t1=>(rec 1 (o+1) q t1).bind λe t2=>(eD [41] t2).bind λ_ t4=>.ok e t4
theorem zT (rec:Rdr)(o q:Nat)(ts:List Tk):((iK rec 1 o q ts).bind λks t1=>.ok ks.head t1)=Fr rec o q ts:=by
 unfold iK Fr;cases ej [40] o ts using Rs.on with
 | out=>rfl
 | bad e a=>rfl
 | ok a t1 =>
  show (((rec 1 (o+1) q t1).bind λe t2=>(jy rec 0 (o+1) q (one e) t2).bind λks t3=>(eD [41] t3).bind λ_ t4=>.ok ks t4).bind λks t1=>.ok ks.head t1)=(rec 1 (o+1) q t1).bind λe t2=>(eD [41] t2).bind λ_ t4=>.ok e t4;cases rec 1 (o+1) q t1 using Rs.on with
  | out=>rfl
  | bad e a=>rfl
  | ok e t2 =>
   show (((eD [41] t2).bind λ_ t4=>Rs.ok (one e) t4).bind λks t1=>.ok ks.head t1)=(eD [41] t2).bind λ_ t4=>.ok e t4;cases eD [41] t2 using Rs.on with
   | out=>rfl
   | bad e a=>rfl
   | ok a t4=>rfl
section
variable {g d:Nat}{v v':List Tk}{rec:Rdr}
end
theorem tR (k:Nat)(t:List UInt8)(a p:Nat)(l:List UInt8)(ts:List Tk)(c:UInt8)(m:List UInt8)(q:∀ k t,k≠0->tks k t c.toNat=false)(h:eZ k t a p l=.inr ts) :
  ∃b,ts=b++[⟨0,0,[],p+l.length⟩]/\eZ k t a p (l++c::m)=om b (eZ 0 [] (p+l.length) (p+l.length) (c::m)):=by
 induction l generalizing k t a p ts with
 | nil =>
  rcases fA h with ⟨rfl,h1⟩|⟨f,x,b,j,h1,h2⟩
  ·injection h1 with h1
   exact⟨[],h1.symm,lP _ _ _ _ _ _⟩
  ·injection h1 with h1
   subst h1;refine⟨[x],h2,?_⟩;simp only[Iy,IF,Hs];rw[qb (q k t f)];unfold ge;rw[if_neg f,j];rfl
 | cons d r i =>
  have s:p+(d::r).length=p+1+r.length:=by simp;omega
  rw[s];cases e:tks k t d.toNat
  ·rw[gj e] at h;rw[IP,gj e];rcases fA h with ⟨rfl,h1⟩|⟨f,x,b,j,h1,h2⟩
   ·obtain⟨g,o,n⟩:=i _ _ _ _ _ h1;refine⟨g,o,?_⟩;rw[n];rfl
   ·obtain⟨g,o,n⟩:=i _ _ _ _ _ h1;refine⟨x::g,by rw[h2,o];rfl,?_⟩;rw[n];unfold ge;rw[if_neg f,j];rfl
  ·rw[fV e] at h;rw[IP,fV e];exact i _ _ _ _ _ h
theorem CM (c:UInt8)(a:c=40\/c=41)(k:Nat)(t:List UInt8)(b:k≠0):tks k t c.toNat=false:=by
 unfold tks;split
 ·exact absurd rfl b
 ·rcases a with rfl|rfl<;>rfl
 ·rcases a with rfl|rfl<;>rfl
 ·rcases a with rfl|rfl<;>rfl
 ·rfl
theorem qm {k:Nat}{t:List UInt8}{a:Nat}{x:Tk}(h:jO k t a=.inr x):x.k≠0:=by
 unfold jO at h;split at h
 ·unfold jz at h
  repeat' split at h
  all_goals first|(injection h with h;subst h;simp)|cases h
 ·unfold kK at h
  repeat' split at h
  all_goals first|(injection h with h;subst h;simp)|cases h
 ·unfold pL at h;split at h
  all_goals first|(injection h with h;subst h;simp)|cases h
 ·cases h
theorem Bi (k:Nat)(t:List UInt8)(a p:Nat)(l:List UInt8)(b:List Tk)(e:Tk)(h:eZ k t a p l=.inr (b++[e])):∀ x,x ∈ b->x.k≠0:=by
 induction l generalizing k t a p b with
 | nil =>
  unfold eZ at h;rcases fA h with ⟨_,h2⟩|⟨_,x,m,i,h2,f⟩
  ·unfold tD at h2;injection h2 with h2
   have:b=[]:=by
    have:=congrArg List.length h2
    simp at this;exact this
   subst this;intro x n;cases n
  ·unfold tD at h2;injection h2 with h2
   subst h2
   have:b=[x]:=by
    have j:=f;exact List.append_inj_left' j rfl
   subst this;intro y d;simp at d;rw[d];exact qm i
 | cons c r g =>
  unfold eZ at h;split at h
  ·exact g _ _ _ _ _ h
  ·rcases fA h with ⟨_,h2⟩|⟨_,x,m,i,h2,f⟩
   ·exact g _ _ _ _ _ h2
   ·cases b with
    | nil=>intro y d;cases d
    | cons z b =>
     rw[IP] at f;injection f with j h5
     subst j h5;intro y d;rcases List.mem_cons.1 d with rfl|d
     ·exact qm i
     ·exact g _ _ _ _ _ h2 y d
theorem uD {s:List UInt8}{x:Ex}{t:List Tk}(h:fZ s=.ok x t):∃b E,s.length<=2000/\pJ s=.inr (b++[E])/\E=⟨0,0,[],s.length⟩/\b.length<=s.length/\(∀ y,y ∈ b->y.k≠0)/\fL 30000 1 0 0 (b++[E])=.ok x [E]:=by
 unfold fZ at h;cases l:iy s with
 | inl z=>obtain⟨e,p⟩:=z;rw[l] at h;cases h
 | inr ts =>
  rw[l] at h;have h:jj 30000 ts=.ok x t:=h;have f:=lY l;obtain⟨b,h1,_⟩:=tR 0 [] 0 0 s ts 41 [] (CM 41 (.inr rfl)) f.2.1;rw[Hx] at h1;subst h1;have m:=Bi _ _ _ _ _ _ _ f.2.1;refine⟨b,_,f.1,f.2.1,rfl,by have:=f.2.2.2.1;simp at this;exact this,m,?_⟩;unfold jj at h;cases g:fL 30000 1 0 0 (b++[⟨0,0,[],s.length⟩]) using Rs.on with
  | out=>rw[g] at h;cases h
  | bad e a=>rw[g] at h;cases h
  | ok y t0 =>
   rw[g] at h;have j:=vy 30000 1 0 0 _ _ (List.suffix_refl _) y t0 g;cases t0 with
   | nil=>cases h
   | cons z r =>
    simp only[Rs.bind] at h;by_cases i:z.k=0
    ·rw[if_pos i] at h;obtain⟨h1,h2⟩:=Rs.ok_inj h;subst h1;obtain⟨c,d⟩:=j;cases r with
     | nil =>
      have u:=d;have q:=List.append_inj_right' u rfl;rw[q]
     | cons z2 r =>
      exfalso;have h5:z ∈ b:=by
       have o:=d;have n:(c++z::(z2::r)).dropLast=b:=by rw[o];simp
       rw[<-n]
       have:c++z::(z2::r)=(c++[z])++(z2::r):=by simp
       rw[this,List.dropLast_append_cons];simp
      exact m z h5 i
    ·rw[if_neg i] at h;cases h
def LFn (w:GE)(P:Nat->Prop):Fs->List GJ->Prop
 | ⟨GA⟩,xs=>xs=[]
 | ⟨GB ⟨k,n,nm,a,ks,r⟩⟩,xs=>∃b cap c d,xs=.int .i64 k::.int .i64 n::stv nm::.slice (GB ⟨b,0,GA⟩) ks.len cap::d /\
   (P b/\b<w.heap.size/\ks.len+1<=cap/\cap<=GY/\(∀ j u,c[j]?=GB u->w.cell? ⟨b,0+j,GA⟩=GB u)/\w.cell? ⟨b,ks.len*4,GA⟩=GB (.int .i64 (-7))/\LFn w P ks c)/\LFn w P r d
def Spn (w:GE)(P:Nat->Prop)(f:Fs)(b cap:Nat):Prop :=
 ∃a,P b/\b<w.heap.size/\f.len+1<=cap/\cap<=GY/\(∀ j u,a[j]?=GB u->w.cell? ⟨b,0+j,GA⟩=GB u)/\w.cell? ⟨b,f.len*4,GA⟩=GB (.int .i64 (-7))/\LFn w P f a
theorem LFn.len {w:GE}{P:Nat->Prop}:∀ {f:Fs}{xs:List GJ},LFn w P f xs->xs.length=f.len*4
 | ⟨GA⟩,xs,h=>by
  have h:xs=[]:=h;subst h;rfl
 | ⟨GB ⟨k,n,nm,a,ks,r⟩⟩,xs,h=>by
  obtain⟨b,cap,c,d,rfl,_,h2⟩:=h
  have:=LFn.len h2
  simp only[G5,Fs.len];omega
theorem LFn.mono {w w':GE}{P Q:Nat->Prop}(d:∀ k,P k->k<w.heap.size->w'.heap[k]?=w.heap[k]?)(e:w.heap.size<=w'.heap.size)(g:∀ k,P k->k<w.heap.size->Q k):∀ {f:Fs}{xs:List GJ},LFn w P f xs->LFn w' Q f xs
 | ⟨GA⟩,xs,h=>h
 | ⟨GB ⟨k,n,nm,a,ks,r⟩⟩,xs,h=>by
  obtain⟨b,cap,l,m,rfl,⟨i,c,h1,h2,p,q,t⟩,s⟩:=h;exact⟨b,cap,l,m,rfl,⟨g b i c,GM c e,h1,h2,λj u o=>(GS (a:=⟨b,0+j,GA⟩) (d b i c)).trans (p j u o),(GS (a:=⟨b,ks.len*4,GA⟩) (d b i c)).trans q,LFn.mono d e g t⟩,LFn.mono d e g s⟩
theorem Spn.mono {w w':GE}{P Q:Nat->Prop}{f:Fs}{b cap:Nat}(e:∀ k,P k->k<w.heap.size->w'.heap[k]?=w.heap[k]?)(g:w.heap.size<=w'.heap.size)(i:∀ k,P k->k<w.heap.size->Q k)(h:Spn w P f b cap):Spn w' Q f b cap:=by
 obtain⟨l,d,c,h1,h2,n,o,p⟩:=h;exact⟨l,i b d c,GM c g,h1,h2,λj u m=>(GS (a:=⟨b,0+j,GA⟩) (e b d c)).trans (n j u m),(GS (a:=⟨b,f.len*4,GA⟩) (e b d c)).trans o,p.mono e g i⟩
theorem LFn.fc {w:GE}{P:Nat->Prop}:∀ {f:Fs}{xs:List GJ},LFn w P f xs->FcN w P f xs
 | ⟨GA⟩,xs,h=>h
 | ⟨GB ⟨k,n,nm,a,ks,r⟩⟩,xs,h=>by
  obtain⟨b,cap,d,e,rfl,⟨g,c,h1,h2,i,m,l⟩,j⟩:=h;exact⟨GB ⟨b,0,GA⟩,cap,e,rfl,.inr ⟨b,0,d,rfl,g,c,i,l.fc⟩,j.fc⟩
theorem Spn.sl {w:GE}{P:Nat->Prop}{f:Fs}{b cap:Nat}(h:Spn w P f b cap):SnA w f (GB ⟨b,0,GA⟩):=by
 obtain⟨c,d,a,h1,h2,e,i,g⟩:=h;exact(show SlN w P f (GB ⟨b,0,GA⟩) from .inr ⟨b,0,c,rfl,d,a,e,g.fc⟩).all
theorem LFn.app {w:GE}{P:Nat->Prop}:∀ {f g:Fs}{xs c:List GJ},LFn w P f xs->LFn w P g c->LFn w P (f.app g) (xs++c)
 | ⟨GA⟩,g,xs,c,h,k=>by
  have h:xs=[]:=h;subst h;exact k
 | ⟨GB ⟨i,n,nm,a,ks,r⟩⟩,g,xs,c,h,k=>by
  obtain⟨b,cap,d,e,rfl,h1,h2⟩:=h;exact⟨b,cap,d,e++c,rfl,h1,LFn.app h2 k⟩
theorem LFn.one {w:GE}{P:Nat->Prop}{e:Ex}{b cap:Nat}(h:Spn w P e.kids b cap):LFn w P (one e) [.int .i64 e.k,.int .i64 e.n,stv e.nm,.slice (GB ⟨b,0,GA⟩) e.kids.len cap]:=by
 obtain⟨a,h⟩:=h;exact⟨b,cap,a,[],rfl,h,rfl⟩
theorem LFn.lab {I:Nat->Prop}{w w':GE}{o o':Nat->Nat}{n0:Nat}{f:Fs}{xs:List GJ}(h:LFn w (N0 n0 o) f xs)(s:dQ I w o w' o')(c:¬I 0):LFn w' (N0 n0 o') f xs :=
 h.mono (λi a b=>s.block i b (by rw[a.2];exact c)) s.size (λi a b=>⟨a.1,(s.lab i b).trans a.2⟩)
theorem Spn.lab {I:Nat->Prop}{w w':GE}{o o':Nat->Nat}{n0 b cap:Nat}{f:Fs}(h:Spn w (N0 n0 o) f b cap)(s:dQ I w o w' o')(d:¬I 0):Spn w' (N0 n0 o') f b cap :=
 h.mono (λi a c=>s.block i c (by rw[a.2];exact d)) s.size (λi a c=>⟨a.1,(s.lab i c).trans a.2⟩)
def kH (w:GE)(o:Nat->Nat)(n0:Nat)(a:Fs)(v:GJ):Prop:=∃xs,Row w o 2 34 4 v a.len xs/\LFn w (N0 n0 o) a xs
theorem kH.step {I:Nat->Prop}{w w':GE}{o o':Nat->Nat}{n0:Nat}{a:Fs}{v:GJ}(h:kH w o n0 a v)(s:dQ I w o w' o')(b:¬I 0)(h2:¬I 2):kH w' o' n0 a v:=by
 obtain⟨xs,r,f⟩:=h;exact⟨xs,r.step s h2,f.lab s b⟩
theorem kH.push {w w2:GE}{o c:Nat->Nat}{n0 b d:Nat}{a:Fs}{xs:List GJ}{v2:GJ}{y:Ex}(f:LFn w (N0 n0 o) a xs)(S:Spn w (N0 n0 o) y.kids b d)(s:dQ (λx=>x=2) w o w2 c)
  (r:Row w2 c 2 34 4 v2 (a.len+1) (xs++[.int .i64 y.k,.int .i64 y.n,stv y.nm,.slice (GB ⟨b,0,GA⟩) y.kids.len d])):kH w2 c n0 (a.snoc y) v2 :=
 ⟨_,by rw[Fs.len_snoc];exact r,(f.lab s (by decide)).app (LFn.one (S.lab s (by decide)))⟩
theorem kH.last {w w2:GE}{o c:Nat->Nat}{n0 g cap:Nat}{a:Fs}{xs:List GJ}(f:LFn w (N0 n0 o) a xs)(s:dQ (λx=>x=2) w o w2 c)(t:∀ k,k<n0->c k=0)
  (r:Row w2 c 2 34 4 (.slice (GB ⟨g,0,GA⟩) (a.len+1) cap) (a.len+1) (xs++[.int .i64 (-7),.int .i64 0,.string ⟨#[]⟩,.slice GA 0 0])) :
  Spn w2 (λb=>n0<=b/\(c b=0\/c b=2)) a g cap/\a.len+1<=cap:=by
 obtain⟨B,q,m,z,d,l,h,p,_⟩:=r.pos (by omega);simp only[Ir,IQ,Addr.mk.injEq,true_and,and_true] at m;obtain⟨rfl,rfl⟩:=m;have y:=f.len;have A:=f.lab s (by decide);refine⟨⟨xs,⟨?_,.inr z⟩,h,d,l,λj u e=>?_,?_,A.mono (λ_ _ _=>rfl) (GC _) (λ_ n _=>⟨n.1,.inl n.2⟩)⟩,d⟩
 ·by_cases v:n0<=g
  ·exact v
  ·have:=t g (by omega)
   omega
 ·have i:j<xs.length:=by
   by_cases i:j<xs.length
   ·exact i
   ·rw[He (by omega)] at e;cases e
  rw[Hx,p j (by omega),Iu i];exact e
 ·rw[p (a.len*4) (by omega),Ig (by omega),y,JR];rfl
theorem qB (w:GE)(b k:Nat)(b0 b1 b2 b3:GJ)(h:k≠b):((((w.setCell ⟨b,0,GA⟩ b0).setCell ⟨b,1,GA⟩ b1).setCell ⟨b,2,GA⟩ b2).setCell ⟨b,3,GA⟩ b3).heap[k]?=w.heap[k]? :=
 (GP _ ⟨b,3,GA⟩ k _ h).trans ((GP _ ⟨b,2,GA⟩ k _ h).trans ((GP _ ⟨b,1,GA⟩ k _ h).trans (GP _ ⟨b,0,GA⟩ k _ h)))
def ui (w:GE)(e:Ex)(x:IG)(w':GE):Prop:=∃b cap,x=.returned (exN e (GB ⟨b,0,GA⟩) cap)/\Spn w' (Nw w.heap.size) e.kids b cap/\GK w.heap.size w w'
def rM (N:Nat):Prop:=∀ (e:Ex) (ao:Option G1) (cap:Nat) (w:GE),e.kids.size<N->e.kids.len<=1000000000->e.kids.short->SnA w e.kids ao ->
 GR GD 37 #[exN e ao cap] w (ui w e)
theorem vj {N:Nat}(IH:rM N):rM (N+1):=by
 intro e ao cap w hN aq aj S;obtain⟨ii,ac,J,I,H⟩:=ek tC;obtain⟨w0,q⟩:∃w0,w0=((w.alloc (.cells #[.int .i64 e.k,.int .i64 e.n,stv e.nm,.slice ao e.kids.len cap] 34)).alloc (.cells #[.int .i64 0,.int .i64 0,.string ⟨#[]⟩,.slice GA 0 0] 34)).alloc (.cells #[.int .i64 e.k,.int .i64 e.n,stv e.nm,.slice GA 0 0] 34):=⟨_,rfl⟩;have B0:GK w.heap.size w w0:=by rw[q];exact(((GN _ w).alloc (GC _) _).alloc (by simp) _).alloc (by simp;omega) _
 obtain⟨o0,z⟩:∃o0:Nat->Nat,o0=λk=>if k=w.heap.size+1+1 then 1 else if k=w.heap.size+1 then 3 else 0:=⟨_,rfl⟩;have E0:Blk w0 o0 0 w.heap.size (.cells #[.int .i64 e.k,.int .i64 e.n,stv e.nm,.slice ao e.kids.len cap] 34):=by
  refine⟨?_,by rw[z];simp only;rw[if_neg (by omega),if_neg (by omega)]⟩;rw[q];exact(GO _ _ _ (by simp;omega)).trans ((GO _ _ _ (by simp)).trans (GH w _))
 have Z0:Blk w0 o0 3 (w.heap.size+1) (.cells #[.int .i64 0,.int .i64 0,.string ⟨#[]⟩,.slice GA 0 0] 34):=by
  refine⟨?_,by rw[z];simp⟩;rw[q];refine(GO _ _ _ (by simp)).trans ?_
  have:=GH (w.alloc (.cells #[.int .i64 e.k,.int .i64 e.n,stv e.nm,.slice ao e.kids.len cap] 34)) (.cells #[.int .i64 0,.int .i64 0,.string ⟨#[]⟩,.slice GA 0 0] 34)
  simpa using this
 have O0:Blk w0 o0 1 (w.heap.size+1+1) (.cells #[.int .i64 e.k,.int .i64 e.n,stv e.nm,.slice GA 0 0] 34):=by
  refine⟨?_,by rw[z];simp⟩;rw[q]
  have:=GH ((w.alloc (.cells #[.int .i64 e.k,.int .i64 e.n,stv e.nm,.slice ao e.kids.len cap] 34)).alloc (.cells #[.int .i64 0,.int .i64 0,.string ⟨#[]⟩,.slice GA 0 0] 34)) (.cells #[.int .i64 e.k,.int .i64 e.n,stv e.nm,.slice GA 0 0] 34)
  simpa using this
 have L0:∀ k,k<w.heap.size->o0 k=0:=λk a=>by rw[z];simp only;rw[if_neg (by omega),if_neg (by omega)]
 have A0:kH w0 o0 w.heap.size .nil (.slice GA 0 0):=⟨[],Row.nil _ _ _ _ _,rfl⟩;rw[dS];go_enter Tryz.func37,Tryz.ntmps37;go_upto_region 2 with fail;rw[<-q];clear q z;obtain⟨n0,A⟩:∃n0,n0=w.heap.size:=⟨_,rfl⟩;unfold ui;rw[<-A] at E0 Z0 O0 L0 A0 B0 ⊢;have C:Hid (n0=w.heap.size):=A;clear A;go_wp2;go_loopw [4] (λv wr=>∃(done r:Fs) (o:Nat->Nat) (va:GJ),Hid (e.kids=done.app r)/\v=.int .i64 (done.len:Nat)/\Blk wr o 0 n0 (.cells #[.int .i64 e.k,.int .i64 e.n,stv e.nm,.slice ao e.kids.len cap] 34)/\Blk wr o 3 (n0+1) (.cells #[.int .i64 0,.int .i64 0,.string ⟨#[]⟩,.slice GA 0 0] 34)/\Blk wr o 1 (n0+1+1) (.cells #[.int .i64 e.k,.int .i64 e.n,stv e.nm,va] 34)/\kH wr o n0 done va/\Hid (∀ k,k<n0->o k=0)/\GK n0 w wr) (λv _=>e.kids.len-(Hh v).toNat)
 case atStart=>exact⟨.nil,e.kids,o0,.slice GA 0 0,rfl,by show _=GT .i64 ((0:Nat):Int);rfl,E0,Z0,O0,A0,L0,B0⟩
 case round =>
  clear E0 Z0 O0 A0 L0 B0;obtain⟨done,r,o,va,a,rfl,E1,Z1,O1,A1,L1,B1⟩:=hrel;have B:e.kids.len=done.len+r.len:=by rw[a.out,Fs.len_app]
  obtain⟨p0,p1,p2,p3,pf⟩:=el E1.1;cases r using Fs.on with
  | nil =>
   have ab:¬(done.len:Int)<(e.kids.len:Int):=by simp only[Fs.len] at B;omega
   have ad:e.kids=done:=by rw[a.out];clear a B ab A1;exact lZ done
   have ag:=GL ad;obtain⟨xs,R1,F1⟩:=A1;obtain⟨a8,c8,rfl⟩:=R1.form;have b1:done.len+1<=GY:=by unfold GY;omega
   have b2:(done.len+1)*56<=140737488355328:=by omega
   have t:∀ u ∈ [GT .i64 (-7),.int .i64 0,.string ⟨#[]⟩,.slice GA 0 0],u.oneCell'=true:=by intro u hu;simp at hu;rcases hu with rfl|rfl|rfl|rfl<;>rfl
   have hO:=O1.lt;clear a B ad;go_upto_region 7 with fail;go_cut [41] (λv wx=>∃(g:Nat->Nat) (f c9:Nat),Blk wx g 1 (n0+1+1) (.cells #[.int .i64 e.k,.int .i64 e.n,stv e.nm,.slice (GB ⟨f,0,GA⟩) done.len c9] 34 (0,0))/\Blk wx g 3 (n0+1) (.cells #[.int .i64 0,.int .i64 0,.string ⟨#[]⟩,.slice GA 0 0] 34 (0,0))/\Spn wx (λb=>n0<=b/\(g b=0\/g b=2)) done f c9/\GK n0 w wx)
   case first =>
    obtain⟨t0,t1,t2,t3,tf⟩:=el O1.1;have X:=(et (λ_=>False) wr o (.cells #[.int .i64 (-7),.int .i64 0,.string ⟨#[]⟩,.slice GA 0 0] 34)).drew;have LA:Hid (∀ k,k<n0->dR wr o 0 k=0):=λk a=>by rw[ed (by have:=E1.lt;omega)];exact L1.out k a
    have RA:=R1.step X id;have FA:=F1.lab X id;have OA:=O1.step X id;have ZA:=Z1.step X id;have BA:=en B1 X (λ_ _=>id) (by rw[C.out];exact GC _);have av:(done.len:Int)<=(done.len:Int)+1:=by omega
    go_region_law (refine fT rfl (.tmp 33) (.tmp 35) 32 rfl 34 ii _ 4 56 Tryz.underlying32 ac J I H rfl (by decide) (dR wr o 0) 2 _ done.len xs (by simp[JY,Ip]) RA ⟨wr.heap.size,0,GA⟩ 1 1 [GT .i64 (-7),.int .i64 0,.string ⟨#[]⟩,.slice GA 0 0] (by simp[JY,Ip]) rfl (gm wr _ _) t (by decide) b1 b2 ?_;intro f c9 G g r9 m;have L9:∀ k,k<n0->g k=0:=λk a=>(m.lab k (by have h1:=OA.lt;omega)).trans (LA.out k a);have SP:=kH.last FA m L9 r9;have ax:done.len<=c9:=(by have:=SP.2;omega);have s:=OA.step m (by decide);have D:=ZA.step m (by decide);have L:=en BA m (λk a=>by rw[LA.out k a];decide) (by rw[C.out];exact GC _);obtain⟨u0,u1,u2,u3,uf⟩:=el s.1)
    all_goals
     have c:dQ (λk=>k=1) G g (G.setCell ⟨n0+1+1,3,GA⟩ (.slice (GB ⟨f,0,GA⟩) done.len c9)) g:=fj _ G g ⟨n0+1+1,3,GA⟩ _ s.2;have V:=s.set 3 (.slice (GB ⟨f,0,GA⟩) done.len c9);have U:=D.step c (by decide);have W:=en L c (λk a=>by rw[L9 k a];decide) (by rw[C.out];exact GC _);have af:=SP.1.mono (λi K hl=>c.block i hl (by rcases K.2 with h|h<;>omega)) c.size (λ_ h _=>h);clear c SP s D L L9 m r9 RA FA OA ZA BA LA X;go_wp2;go_meet;exact⟨g,f,c9,V,U,af,W⟩
   case rest =>
   obtain⟨g,f,c9,s,D,SP,L⟩:=hcut;clear E1 Z1 O1 R1 F1 L1 B1;have SE:=SP.mono (w':=(((wc.setCell ⟨n0+1,0,GA⟩ (.int .i64 e.k)).setCell ⟨n0+1,1,GA⟩ (.int .i64 e.n)).setCell ⟨n0+1,2,GA⟩ (stv e.nm)).setCell ⟨n0+1,3,GA⟩ (.slice (GB ⟨f,0,GA⟩) done.len c9)) (Q:=Nw n0) (λi K hl=>qB wc (n0+1) i _ _ _ _ (λee=>by
    have h2:=D.2;rw[<-ee] at h2;rcases K.2 with h|h<;>omega)) (by simp) (λi K _=>K.1)
   have BE:=(((L.setCell (p:=⟨n0+1,0,GA⟩) (Hv _) (.int .i64 e.k)).setCell (p:=⟨n0+1,1,GA⟩) (Hv _) (.int .i64 e.n)).setCell (p:=⟨n0+1,2,GA⟩) (Hv _) (stv e.nm)).setCell (p:=⟨n0+1,3,GA⟩) (Hv _) (.slice (GB ⟨f,0,GA⟩) done.len c9);have ZE:=yU (b0:=.int .i64 e.k) (b1:=.int .i64 e.n) (b2:=stv e.nm) (b3:=.slice (GB ⟨f,0,GA⟩) done.len c9) D.1;have HU:Hid (∃F,F=(((wc.setCell ⟨n0+1,0,GA⟩ (.int .i64 e.k)).setCell ⟨n0+1,1,GA⟩ (.int .i64 e.n)).setCell ⟨n0+1,2,GA⟩ (stv e.nm)).setCell ⟨n0+1,3,GA⟩ (.slice (GB ⟨f,0,GA⟩) done.len c9)/\F.cell? ⟨n0+1,0,GA⟩=GB (.int .i64 e.k)/\F.cell? ⟨n0+1,1,GA⟩=GB (.int .i64 e.n)/\F.cell? ⟨n0+1,2,GA⟩=GB (stv e.nm)/\F.cell? ⟨n0+1,3,GA⟩=GB (.slice (GB ⟨f,0,GA⟩) done.len c9)/\Spn F (Nw n0) done f c9/\GK n0 w F):=by
    obtain⟨u0,u1,u2,u3,-⟩:=el ZE;exact⟨_,rfl,u0,u1,u2,u3,SE,BE⟩
   obtain⟨u0,u1,u2,u3,uf⟩:=el s.1;obtain⟨z0,z1,z2,z3,zf⟩:=el D.1;clear SE BE ZE s D SP L;go_wp2;obtain⟨F,aa,v0,v1,v2,v3,SZ,BZ⟩:=HU.out;clear HU;rw[<-aa];clear aa;refine GG (v:=exN e (GB ⟨f,0,GA⟩) c9) (by simp[results,Tryz.results37,go_sem,v0,v1,v2,v3,exN,ag.out]) rfl ⟨f,c9,rfl,by rw[ag.out,<-C.out];exact SZ,by rw[<-C.out];exact BZ⟩
  | cons R kn P Z d kr =>
   have ab:(done.len:Int)<(e.kids.len:Int):=by simp only[Fs.len] at B;omega
   have aw:done.len<e.kids.len:=by omega
   have ai:e.kids.size=done.size+(d.size+kr.size+1):=by rw[a.out,Fs.size_app];rfl
   have T:(Fs.cons R kn P Z d kr).short:=Fs.app_short (by rw[<-a.out];exact aj);have A:n0<=wr.heap.size:=by have:=E1.lt;omega
   obtain⟨b,off,ak,ck,an,ar,-,x0,x1,x2,x3,SK⟩:=SlN.kidQ (by rw[<-a.out];exact SnA.below S (by rw[<-C.out];exact B1));subst an;obtain⟨y,hy⟩:∃y:Ex,y=⟨R,kn,P,Z,d⟩:=⟨_,rfl⟩;have ae:=IH ⟨R,kn,P,Z,d⟩ ak ck wr (by show d.size<N;omega) T.2.1 T.2.2.1 SK;have hc:GR GD 37 #[.agg #[.int .i64 R,.int .i64 kn,stv P,.slice ak d.len ck]] wr (ui wr y):=by rw[hy];exact ae
   clear ae;have am:Hid (e.kids=(done.snoc ⟨R,kn,P,Z,d⟩).app kr):=by show e.kids=_;rw[a.out];unfold Fs.snoc;rw[Fs.app_assoc];rfl
   have HS:Hid (done.snoc ⟨R,kn,P,Z,d⟩=done.snoc y):=by show _=_;rw[hy]
   have al:(done.len:Int)+1=((done.snoc ⟨R,kn,P,Z,d⟩).len:Nat):=by rw[Fs.len_snoc];rfl
   clear B ai T hy SK;go_wp2_with fail;refine hc.mono ?_;rintro x E ⟨l,j,rfl,S6,b6⟩;have Y:dQ (λ_=>False) wr o E (dR wr o 0):=((dQ.refl _ wr o).labelled 0).trans (dQ.ofB (dR wr o 0) b6);have T6:Spn E (N0 n0 (dR wr o 0)) y.kids l j:=S6.mono (λ_ _ _=>rfl) (GC _) (λi K hl=>⟨Hn A K,dY K⟩);have L6:Hid (∀ k,k<n0->dR wr o 0 k=0):=λk a=>by rw[ed (by omega)];exact L1.out k a
   have E6:=E1.step Y id;have Z6:=Z1.step Y id;have O6:=O1.step Y id;have A6:=A1.step Y id id;have B6:=en B1 Y (λ_ _=>id) (by rw[C.out];exact GC _);generalize dR wr o 0=o6 at *;clear hc S6 b6 Y E1 Z1 O1 A1 B1 L1 x0 x1 x2 x3 p0 p1 p2 p3 pf;have O:=et (λ_=>False) E o6 (.cells #[.int .i64 y.k,.int .i64 y.n,stv y.nm,.slice (GB ⟨l,0,GA⟩) y.kids.len j] 34);have K7:=jE E o6 #[.int .i64 y.k,.int .i64 y.n,stv y.nm,.slice (GB ⟨l,0,GA⟩) y.kids.len j] 34;have T7:=T6.lab O id;have au:n0<=E.heap.size:=by have:=E6.lt;omega
   have L7:Hid (∀ k,k<n0->dR E o6 0 k=0):=λk a=>by rw[ed (by omega)];exact L6.out k a
   have E7:=E6.step O id;have Z7:=Z6.step O id;have O7:=O6.step O id;have A7:=A6.step O id id;have B7:=en B6 O (λ_ _=>id) (by rw[C.out];exact GC _);rw[dS];go_upto_region 6 with fail;generalize dR E o6 0=o7 at *;generalize E.alloc (.cells #[.int .i64 y.k,.int .i64 y.n,stv y.nm,.slice (GB ⟨l,0,GA⟩) y.kids.len j] 34)=w7 at *;generalize E.heap.size=bk at *;clear O T6 E6 Z6 O6 A6 B6 L6;obtain⟨p0,p1,p2,p3,pf⟩:=el O7.1;obtain⟨q0,q1,q2,q3,qf⟩:=el K7.1;have M:=et (λ_=>False) w7 o7 (.cells #[.int .i64 y.k,.int .i64 y.n,stv y.nm,.slice (GB ⟨l,0,GA⟩) y.kids.len j] 34);have T8:=T7.lab M id;have L8:Hid (∀ k,k<n0->dR w7 o7 0 k=0):=λk a=>by rw[ed (by have:=E7.lt;omega)];exact L7.out k a
   have E8:=E7.step M id;have Z8:=Z7.step M id;have O8:=O7.step M id;have A8:=A7.step M id id;have B8:=en B7 M (λ_ _=>id) (by rw[C.out];exact GC _);obtain⟨xs,R8,F8⟩:=A8;obtain⟨a8,c8,rfl⟩:=R8.form;have b1:done.len+1<=GY:=by unfold GY;omega
   have b2:(done.len+1)*56<=140737488355328:=by omega
   have t:∀ u ∈ [GT .i64 y.k,.int .i64 y.n,stv y.nm,.slice (GB ⟨l,0,GA⟩) y.kids.len j],u.oneCell'=true:=by intro u hu;simp at hu;rcases hu with rfl|rfl|rfl|rfl<;>rfl
   clear E7 Z7 O7 A7 B7 L7 T7 M;go_wp2_with (first|(at_builtin;refine eb rfl (.tmp 27) (.tmp 29) 32 rfl 34 ii _ 4 56 Tryz.underlying32 ac J I H rfl (by decide) (dR w7 o7 0) 2 _ done.len xs rfl R8 ⟨w7.heap.size,0,GA⟩ 1 1 [GT .i64 y.k,.int .i64 y.n,stv y.nm,.slice (GB ⟨l,0,GA⟩) y.kids.len j] rfl rfl (gm w7 _ _) t (by decide) b1 b2 ?_)|go_in);intro f c9 G g r9 m;have A9:kH G g n0 (done.snoc y) (.slice (GB ⟨f,0,GA⟩) (done.len+1) c9):=kH.push F8 T8 m r9;have E9:=E8.step m (by decide);have D:=Z8.step m (by decide);have s:=O8.step m (by decide);have L9:Hid (∀ k,k<n0->g k=0):=λk a=>(m.lab k (by have:=E8.lt;omega)).trans (L8.out k a);have L:=en B8 m (λk a=>by rw[L8.out k a];decide) (by rw[C.out];exact GC _);have c:dQ (λk=>k=1) G g (G.setCell ⟨n0+1+1,3,GA⟩ (.slice (GB ⟨f,0,GA⟩) (done.len+1) c9)) g:=fj _ G g ⟨n0+1+1,3,GA⟩ _ s.2;have ah:=A9.step c (by decide) (by decide);have ap:=E9.step c (by decide);have U:=D.step c (by decide);have V:=s.set 3 (.slice (GB ⟨f,0,GA⟩) (done.len+1) c9);have W:=en L c (λk a=>by rw[L9.out k a];decide) (by rw[C.out];exact GC _);obtain⟨t0,t1,t2,t3,tf⟩:=el s.1;rw[<-HS.out] at ah;clear A9 E9 D s L c E8 Z8 O8 B8 L8 T8 R8 F8 r9 m p0 p1 p2 p3 pf q0 q1 q2 q3 qf a HS K7;go_wp2;go_roundw
   case rel=>exact⟨_,kr,g,_,am,by rw[<-al],ap,U,V,ah,L9,W⟩
   case measure=>simp[Hh];omega
theorem sq:∀ N,rM N -- 37
 | 0=>λe ao cap w h=>absurd h (Hr _)
 | N+1=>vj (sq N)
theorem td:∀ {f:Fs},f.len=0->f=.nil
 | ⟨GA⟩,_=>rfl
 | ⟨GB ⟨k,n,nm,a,ks,r⟩⟩,h=>by simp[Fs.len] at h
theorem Below.toStepC {w w':GE}{o:Nat->Nat}{I:Nat->Prop}(b:GK w.heap.size w w'):dQ I w o w' (dR w o 0):=⟨b.os,b.tape,b.output,b.size,λk a=>ed a,λk a _=>b.block k a⟩
abbrev PD (P:Nat->Prop)(n0:Nat)(o:Nat->Nat):Nat->Prop:=λk=>o k=0/\((P k/\k<n0)\/n0<=k)
theorem FcN.labD {I:Nat->Prop}{P:Nat->Prop}{w w':GE}{o o':Nat->Nat}{n0:Nat}{f:Fs}{xs:List GJ}(h:FcN w (PD P n0 o) f xs)(s:dQ I w o w' o')(c:¬I 0):FcN w' (PD P n0 o') f xs :=
 h.mono (λk a b=>s.block k b (by rw[a.1];exact c)) s.size (λk a b=>⟨(s.lab k b).trans a.1,a.2⟩)
theorem SlN.labD {I:Nat->Prop}{P:Nat->Prop}{w w':GE}{o o':Nat->Nat}{n0:Nat}{f:Fs}{ao:Option G1}(h:SlN w (PD P n0 o) f ao)(s:dQ I w o w' o')(c:¬I 0):SlN w' (PD P n0 o') f ao :=
 h.mono (λk a b=>s.block k b (by rw[a.1];exact c)) s.size (λk a b=>⟨(s.lab k b).trans a.1,a.2⟩)
def ng (w:GE)(o:Nat->Nat)(P:Nat->Prop)(n0:Nat)(a:Fs)(v:GJ):Prop:=∃xs,Row w o 2 34 4 v a.len xs/\FcN w (PD P n0 o) a xs/\∀ k,v.ownBlock=GB k->n0<=k
theorem ng.nil (w:GE)(o:Nat->Nat)(P:Nat->Prop)(n0:Nat):ng w o P n0 .nil (.slice GA 0 0):=⟨[],Row.nil _ _ _ _ _,rfl,λk a=>by simp[Jo] at a⟩
theorem ng.step {I:Nat->Prop}{P:Nat->Prop}{w w':GE}{o o':Nat->Nat}{n0:Nat}{a:Fs}{v:GJ}(h:ng w o P n0 a v)(s:dQ I w o w' o')(b:¬I 0)(h2:¬I 2):ng w' o' P n0 a v:=by
 obtain⟨xs,r,f,g⟩:=h;exact⟨xs,r.step s h2,f.labD s b,g⟩
theorem ng.push {P:Nat->Prop}{w w2:GE}{o b:Nat->Nat}{n0 g g2 c2:Nat}{a:Fs}{xs:List GJ}{y:Ex}{h:Option G1}(f:FcN w (PD P n0 o) a xs)(S:SlN w (PD P n0 o) y.kids h)(s:dQ (λx=>x=2) w o w2 b)(c:∀ k,k<n0->o k≠2)(i:n0<=w.heap.size)
  (r:Row w2 b 2 34 4 (.slice (GB ⟨g2,0,GA⟩) (a.len+1) c2) (a.len+1) (xs++[.int .i64 y.k,.int .i64 y.n,stv y.nm,.slice h y.kids.len g])):ng w2 b P n0 (a.snoc y) (.slice (GB ⟨g2,0,GA⟩) (a.len+1) c2):=by
 refine⟨_,by rw[Fs.len_snoc];exact r,(f.labD s (by decide)).app (FcN.one g (S.labD s (by decide))),λk e=>?_⟩;simp[Jo] at e;subst e;have h2:=r.2 g2 rfl;rcases JJ g2 n0 with d|d
 ·exact absurd ((s.lab g2 (by omega)).symm.trans h2) (c g2 d)
 ·exact d
theorem ng.sl {P:Nat->Prop}{w:GE}{o:Nat->Nat}{n0:Nat}{b:Fs}{v:GJ}(h:ng w o P n0 b v):∃ao cap,v=.slice ao b.len cap/\SlN w (λk=>(o k=0\/o k=2)/\((P k/\k<n0)\/n0<=k)) b ao:=by
 obtain⟨xs,r,f,g⟩:=h;obtain⟨ao,cap,e⟩:=r.form;refine⟨ao,cap,e,?_⟩;rcases Jw b.len with m|m
 ·exact .inl (td m)
 ·obtain⟨n,s,c,t,-,-,i,x,-⟩:=r.pos m;have y:=f.len;rw[e] at c;injection c with d
  subst d;have l:=g n (by rw[e];rfl);refine .inr ⟨n,0,xs,rfl,⟨.inr t,.inr l⟩,i,λj u p=>?_,f.mono (λ_ _ _=>rfl) (GC _) (λk q _=>⟨.inl q.1,q.2⟩)⟩;have z:j<xs.length:=(List.getElem?_eq_some_iff.1 p).1;rw[Hx,x j (by omega)];exact p
def Nms (w:GE)(v:GJ)(b:List (List UInt8)):Prop :=
 ∃ao cap,v=.slice ao b.length cap/\b.length<=cap/\((b=[]/\ao=GA)\/∃g,ao=GB ⟨g,0,GA⟩/\g<w.heap.size/\0<b.length/\∀ (j:Nat) (t:List UInt8),b[j]?=GB t->w.cell? ⟨g,j,GA⟩=GB (stv t))
theorem Nms.below {w w':GE}{v:GJ}{b:List (List UInt8)}(h:Nms w v b)(B:GK w.heap.size w w'):Nms w' v b:=by
 obtain⟨ao,cap,rfl,a,h1|⟨g,h1,h2,e,d⟩⟩:=h
 ·exact⟨ao,cap,rfl,a,.inl h1⟩
 ·exact⟨ao,cap,rfl,a,.inr ⟨g,h1,GM h2 B.size,e,λj t c=>(B.cell (p:=⟨g,j,GA⟩) h2).trans (d j t c)⟩⟩
theorem Nms.nil (w:GE):Nms w (.slice GA 0 0) []:=⟨GA,0,rfl,GC _,.inl ⟨rfl,rfl⟩⟩
theorem sj:(Tryz.prog.info? 9).map (λi=>(i.zero,i.size,i.bytes))=GB (GB (.string ⟨#[]⟩),1,16):=by kernel_rfl
def jX (k n:Int):List Int :=
 if k=1 then [1] else if k=2 then [2] else if k=3\/k=4 then [3] else if k=6 then [1,1] else if k=7 then [2,2]
 else if 8<=k/\k<=12 then [1,1,1] else if k=15\/k=16 then [1,1,2] else if k=17\/k=18 then [2,2,2]
 else if k=22\/k=23 then [4] else if k=24 then [3,4]
 else if k=20 then (if n=1\/n=2 then [3,3,2] else if n=3 then [3,3,1] else if n=10 then [3,3] else [3,1])
 else if k=21 then (if n=1\/n=2 then [4,2,2] else if n=3 then [4,2,1] else [4,1,1])
 else []
def eV (k n:Int)(len:Nat)(done:List Int):Int :=
 if k=13\/k=14 then (match done with | []=>0 | [a]=>a|_=>2)
 else if k=19 then (match done with | []=>2 | [_]=>0|_::b::_=>b)
 else if k=25 then (if done.length<len then 3 else 4)
 else (jX k n)[done.length]?.getD 0
def ij (m:Int)(a:Int)(r:Sum (Nat × Int) Int):Sum (Nat × Int) Int :=
 match r with
 | .inl e=>.inl e
 | .inr is=>if m≠0/\is≠m then .inl (131,a) else .inr is
def fu:Fs->Int->Int->List UInt8->Nat->List (List UInt8)->Nat->List Int->Sum (Nat × Int) (List Int)
 | ⟨GA⟩,_,_,_,_,_,_,done=>.inr done
 | ⟨GB ⟨f,kn,g,h,c,j⟩⟩,k,n,nm,len,b,i,done =>
  match ij (eV k n len done) h (if f=4/\¬g ∈ (if k=21/\i≠0 then b++[nm] else b) then .inl (130,h) else
   match fu c f kn g c.len (if k=21/\i≠0 then b++[nm] else b) 0 [] with
   | .inl e=>.inl e
   | .inr d=>.inr (eV f kn c.len d)) with
  | .inl e=>.inl e
  | .inr is=>fu j k n nm len b (i+1) (done++[is])
def eW (e:Ex)(b:List (List UInt8)):Sum (Nat × Int) Int :=
 if e.k=4/\¬e.nm ∈ b then .inl (130,e.a) else
  match fu e.kids e.k e.n e.nm e.kids.len b 0 [] with
  | .inl x=>.inl x
  | .inr d=>.inr (eV e.k e.n e.kids.len d)
theorem ri (x:Ex)(r:Fs)(k n:Int)(nm:List UInt8)(len:Nat)(b:List (List UInt8))(i:Nat)(done:List Int) :
  fu (.cons x.k x.n x.nm x.a x.kids r) k n nm len b i done=(match ij (eV k n len done) x.a (eW x (if k=21/\i≠0 then b++[nm] else b)) with
   | .inl e=>.inl e
   | .inr is=>fu r k n nm len b (i+1) (done++[is])):=rfl
def lA (e:Ex):Int × Nat × Int :=
 match jw e with
 | none=>(0,122,0)
 | some _ =>
  match eW e [] with
  | .inl (er,a)=>(0,er,a)
  | .inr k=>(k,0,0)
theorem pv:∀ (f:Fs) (k n:Int) (nm:List UInt8) (len:Nat) (b:List (List UInt8)) (i:Nat) (done:List Int) (er:Nat) (a:Int),fu f k n nm len b i done=.inl (er,a)->er=130\/er=131
 | ⟨GA⟩,k,n,nm,len,b,i,done,er,a,h=>by simp only[fu] at h;cases h
 | ⟨GB ⟨e,kn,l,q,c,p⟩⟩,k,n,nm,len,b,i,done,er,a,h=>by
  simp only[fu] at h;by_cases m:e=4/\¬l ∈ (if k=21/\i≠0 then b++[nm] else b)
  ·rw[if_pos m] at h;simp only[ij,Sum.inl.injEq,IM] at h;omega
  ·rw[if_neg m] at h;cases g:fu c e kn l c.len (if k=21/\i≠0 then b++[nm] else b) 0 [] with
   | inl x =>
    obtain⟨j,a2⟩:=x;rw[g] at h;simp only[ij,Sum.inl.injEq,IM] at h
    have:=pv c _ _ _ _ _ _ _ j a2 g
    omega
   | inr d =>
    rw[g] at h;simp only[ij] at h;by_cases o:eV k n len done≠0/\eV e kn c.len d≠eV k n len done
    ·rw[if_pos o] at h;simp only[Sum.inl.injEq,IM] at h;omega
    ·rw[if_neg o] at h;exact pv p _ _ _ _ _ _ _ er a h
theorem vA {e:Ex}{b:List (List UInt8)}{er:Nat}{a:Int}(h:eW e b=.inl (er,a)):er=130\/er=131:=by
 unfold eW at h;by_cases g:e.k=4/\¬e.nm ∈ b
 ·rw[if_pos g] at h;simp only[Sum.inl.injEq,IM] at h;omega
 ·rw[if_neg g] at h;cases c:fu e.kids e.k e.n e.nm e.kids.len b 0 [] with
  | inl x =>
   obtain⟨f,a2⟩:=x;rw[c] at h;simp only[Sum.inl.injEq,IM] at h
   have:=pv _ _ _ _ _ _ _ _ f a2 c
   omega
  | inr d=>rw[c] at h;cases h
def qT (k n:Int)(len:Nat):Sum (Nat × Int) (List Int)->Sum (Nat × Int) Int
 | .inl x=>.inl x
 | .inr d=>.inr (eV k n len d)
theorem io (e:Ex)(b:List (List UInt8))(h:e.k≠4):eW e b=qT e.k e.n e.kids.len (fu e.kids e.k e.n e.nm e.kids.len b 0 []):=by
 unfold eW;rw[if_neg (λh2=>h h2.1)];cases fu e.kids e.k e.n e.nm e.kids.len b 0 []<;>rfl
def okR (k n:Int)(len:Nat):Prop :=
 (k=13\/k=14\/k=19\/k=25)\/(k=20/\(1<=n/\n<=10)/\(jX 20 n).length=len+1)\/(k=21/\(1<=n/\n<=6)/\(jX 21 n).length=len+1)
  \/ ((1<=k/\k<=24/\k≠5/\k≠20/\k≠21/\k≠13/\k≠14/\k≠19)/\(jX k 0).length=len+1)
theorem xw (n:Int):(jo n).isSome=decide (1<=n/\n<=10):=by
 by_cases h:1<=n/\n<=10
 ·have h2:n=1\/n=2\/n=3\/n=4\/n=5\/n=6\/n=7\/n=8\/n=9\/n=10:=by omega
  rcases h2 with rfl|rfl|rfl|rfl|rfl|rfl|rfl|rfl|rfl|rfl<;>rfl
 ·rw[decide_eq_false h];cases a:jo n with
  | none=>rfl
  | some x =>
   have h1:=IU a;have h2:=Hi a;simp only[gX,Iq,Io,or_false] at h2;simp only[beq_iff_eq] at h1;exfalso;rcases h2 with rfl|rfl|rfl|rfl|rfl|rfl|rfl|rfl|rfl|rfl<;>simp only at h1<;>omega
theorem uC (n:Int):(jI n).isSome=decide (1<=n/\n<=6):=by
 by_cases h:1<=n/\n<=6
 ·have h2:n=1\/n=2\/n=3\/n=4\/n=5\/n=6:=by omega
  rcases h2 with rfl|rfl|rfl|rfl|rfl|rfl<;>rfl
 ·rw[decide_eq_false h];cases a:jI n with
  | none=>rfl
  | some x =>
   have h1:=IU a;have h2:=Hi a;simp only[gL,Iq,Io,or_false] at h2;simp only[beq_iff_eq] at h1;exfalso;rcases h2 with rfl|rfl|rfl|rfl|rfl|rfl<;>simp only at h1<;>omega
theorem Cv {k:Int}(h:(ig k).isSome=true):8<=k/\k<=18:=by
 cases a:ig k with
 | none=>rw[a] at h;cases h
 | some x =>
  have h1:=IU a;have h2:=Hi a;simp only[iJ,Iq,Io,or_false] at h2;simp only[beq_iff_eq] at h1;rcases h2 with rfl|rfl|rfl|rfl|rfl|rfl|rfl|rfl|rfl|rfl|rfl<;>simp only at h1<;>omega
theorem zY {k n:Int}{nm:List UInt8}{m:Nat}(h:okP k n nm m):okR k n m:=by
 obtain⟨h1,-,h2,-,-,-⟩:=h;unfold ew at h2;unfold fi at h1;by_cases a0:k=1\/k=2\/k=3\/k=4\/k=22\/k=23
 ·have d:(k==1||k==2||k==3||k==4||k==22||k==23)=true:=by rcases a0 with rfl|rfl|rfl|rfl|rfl|rfl<;>rfl
  rw[d,if_pos rfl] at h2
  have:m=0:=by simpa using h2
  subst this;refine .inr (.inr (.inr ⟨by omega,?_⟩));rcases a0 with rfl|rfl|rfl|rfl|rfl|rfl<;>rfl
 by_cases a1:k=6\/k=7\/k=24
 ·have:m=1:=by rcases a1 with rfl|rfl|rfl<;>(simp at h2;omega)
  subst this;refine .inr (.inr (.inr ⟨by omega,?_⟩));rcases a1 with rfl|rfl|rfl<;>rfl
 by_cases a2:k=21
 ·subst a2;have c:m=2:=by simp at h2;omega
  have a:(jI n).isSome=true:=by simpa using h1
  rw[uC] at a;have hn2:=of_decide_eq_true a;subst c;refine .inr (.inr (.inl ⟨rfl,hn2,?_⟩));have b:n=1\/n=2\/n=3\/n=4\/n=5\/n=6:=by omega
  rcases b with rfl|rfl|rfl|rfl|rfl|rfl<;>rfl
 by_cases a3:k=19
 ·exact .inl (by omega)
 by_cases a4:k=20
 ·subst a4;have a:(jo n).isSome=true:=by simpa using h1
  rw[xw] at a;have hn2:=of_decide_eq_true a;refine .inr (.inl ⟨rfl,hn2,?_⟩);have b:n=1\/n=2\/n=3\/n=4\/n=5\/n=6\/n=7\/n=8\/n=9\/n=10:=by omega
  rcases b with rfl|rfl|rfl|rfl|rfl|rfl|rfl|rfl|rfl|rfl <;>
   (simp[jo,gX] at h2;simp[jX];omega)
 by_cases a5:k=25
 ·exact .inl (by omega)
 have d:(k==1||k==2||k==3||k==4||k==22||k==23)=false:=by simp;omega
 have i:(k==6||k==7||k==24)=false:=by simp;omega
 have g:(k==21)=false:=by simpa using a2
 have e4:(k==19)=false:=by simpa using a3
 have f:(k==20)=false:=by simpa using a4
 have e:(k==25)=false:=by simpa using a5
 rw[d,i,g,e4,f,e] at h2;simp only[Bool.false_eq_true,if_false,Ha,beq_iff_eq] at h2;have j:=Cv h2.1;have c:m=2:=by omega
 subst c;by_cases l:k=13\/k=14
 ·exact .inl (by omega)
 refine .inr (.inr (.inr ⟨by omega,?_⟩));have b:k=8\/k=9\/k=10\/k=11\/k=12\/k=15\/k=16\/k=17\/k=18:=by omega
 rcases b with rfl|rfl|rfl|rfl|rfl|rfl|rfl|rfl|rfl<;>rfl
theorem Bk {k n:Int}{m:Nat}(h:okR k n m):1<=k/\k<=25/\k≠5:=by
 unfold okR at h;omega
theorem nD {I:Nat->Prop}{n0:Nat}{a w w':GE}{o o':Nat->Nat}(b:GK n0 a w)(s:dQ I w o w' o')(h:∀ k,k<n0->¬I (o k))(d:n0<=a.heap.size):GK n0 a w' :=
 ⟨s.os.trans b.os,s.tape.trans b.tape,s.output.trans b.output,Hn b.size s.size,λk c=>(s.block k (by have:=b.size;omega) (h k c)).trans (b.block k c)⟩
abbrev I1n:Nat->Prop:=λk=>k=1
theorem Nms.ofRow {w:GE}{o:Nat->Nat}{g cap:Nat}{b:List (List UInt8)}{n:Nat}(h:Row w o 1 9 1 (.slice (GB ⟨g,0,GA⟩) n cap) n (b.map λx=>stv x))(f:b.length=n)(d:0<n):Nms w (.slice (GB ⟨g,0,GA⟩) n cap) b:=by
 subst f;obtain⟨m,e,a,_,h2,_,k,h5,_⟩:=h.pos d;injection a with a p l
 injection a with a
 injection a with a
 subst a;subst l;refine⟨_,_,rfl,h2,.inr ⟨g,rfl,k,d,λj t c=>?_⟩⟩;have i:j<b.length:=(List.getElem?_eq_some_iff.1 c).1;rw[h5 j (by omega),Ie,c];rfl
theorem nI {P:Jr}(w:GE)(t d e:Hl)(i:TypeInfo)(f:P.underlying t=GB (.slice e))(h:P.info? e=GB i)(ao:Option G1)(n cap:Nat)(x:Option G1)(c:Nat)(b:n<=cap) :
  (Builtin.append_ #[t,t] d #[.slice ao n cap,.slice x 0 c]).run P w=.ok (.slice ao n cap) w:=by
 have g:∀ a:G1,(loadCells a 0).run P w=.ok #[] w:=λa=>by simp[loadCells,loadCellsFrom]
 cases x<;>cases ao<;>simp[Builtin.append_,run_underlying f,sizeOf,typeInfo,h,Builtin.lenOf,Builtin.firstCells,b,storeCells,g]
theorem lG {P:Jr}{w:GE}{b:Array Oper}{rest:List Oper}{op:Oper}{a:Act}{Q:Exit->Act->GE->Prop}(f:op.guard=GA)(s x:Operand)(t:Hl)
  (m:op.op=.call { callee:=.builtin .append,args:=#[s,x],argTypes:=#[t,t] }) (e:Hl) (i:TypeInfo) (j:P.underlying t=GB (.slice e)) (o:P.info? e=GB i)
  (ao:Option G1) (n cap:Nat) (y:Option G1) (c:Nat) (k:a.eval s=.slice ao n cap) (g:a.eval x=.slice y 0 c) (d:n<=cap) (h:wpList P b Q rest (a.put op.dst (.slice ao n cap)) w):wpList P b Q (op::rest) a w:=by
 refine wpList_plain f λ_ p=>?_;have l:=nI (P:=P) w t op.type e i j o ao n cap y c d;unfold Oper.wp execOp;simp only[m,resolve,invoke,builtin,Sem.run_bind,Sem.run_pure,J4,Kc,List.map_cons,List.map_nil,k,g,l];exact p _ _ h
theorem Row.cap {w:GE}{o:Nat->Nat}{i:Nat}{e:Hl}{size:Nat}{n m cap:Nat}{ao:Option G1}{xs:List GJ}(h:Row w o i e size (.slice ao m cap) n xs):m=n/\n<=cap/\cap<=GY:=by
 rcases h.1.2 with ⟨a,c⟩|⟨f,g,_,a,_,_,b,d,_⟩
 ·simp only[Ir] at a;obtain⟨_,rfl,rfl⟩:=a;exact⟨c.symm,by omega,by unfold GY;omega⟩
 ·simp only[Ir] at a;obtain⟨_,rfl,rfl⟩:=a;exact⟨rfl,b,d⟩
theorem je {P:Jr}{w:GE}{q:Array Oper}{rest:List Oper}{op:Oper}{a:Act}{Q:Exit->Act->GE->Prop}(B:op.guard=GA)(s x:Operand)(t:Hl)
  (L:op.op=.call { callee:=.builtin .append,args:=#[s,x],argTypes:=#[t,t] })
  (e:Hl) (i:TypeInfo) (z:GJ) (size b:Nat) (J:P.underlying t=GB (.slice e)) (N:P.info? e=GB i) (O:i.zero=GB z)
  (l:i.size=size) (G:i.bytes=b) (E:z.cells.size=size) (F:0<size)
  (o:Nat->Nat) (C:Nat) (v:GJ) (n:Nat) (xs:List GJ) (K:a.eval s=v) (d:Row w o C e size v n xs)
  (y:Option G1) (m c:Nat) (news:List GJ) (I:a.eval x=.slice y m c) (S:news.length=m*size) (p:0<m->∃D,y=GB D/\∀ j u,news[j]?=GB u->w.cell? (D.add j)=GB u) (h1:∀ u ∈ news,u.oneCell'=true)
  (H:n+m<=GY) (f:(n+m)*b<=140737488355328)
  (h:∀ ao cap w' o',Row w' o' C e size (.slice ao (n+m) cap) (n+m) (xs++news)->dQ (λk=>k=C) w o w' o'->wpList P q Q rest (a.put op.dst (.slice ao (n+m) cap)) w'):wpList P q Q (op::rest) a w:=by
 by_cases M:0<m
 ·obtain⟨D,rfl,R⟩:=p M;exact eb B s x t L e i z size b J N O l G E F o C v n xs K d D m c news I S R h1 M H f λg cap w' o' r st=>h _ _ _ _ r st
 ·obtain rfl:m=0:=by omega
  obtain⟨ao,cap,rfl⟩:=d.form;have A:news=[]:=I1 (by omega);subst A;refine lG B s x t L e i J N ao n cap y c K I d.cap.2.1 ?_
  have:=h ao cap w o (by rw[Jz];exact d) (dQ.refl _ _ _)
  exact this
end Go.Proofs.YtkhgahljbpmfaaaGreatDoor

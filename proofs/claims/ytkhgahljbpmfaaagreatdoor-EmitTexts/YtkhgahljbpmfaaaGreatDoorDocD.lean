import Derived.Test.YtkhgahljbpmfaaaGreatDoorWlkM
import Derived.Maps.OwnSet
import Derived.DeepKeys4
import Derived.Laws.CopyOwn
import Derived.Laws.Bits64b
set_option maxRecDepth 100000
set_option maxHeartbeats 8000000
namespace Go.Proofs.YtkhgahljbpmfaaaGreatDoor
open Option renaming none->GA,some->GB,isSome_some->Ju,isSome_none->Jv
open Nat renaming le_refl->GC,lt_of_lt_of_le->GM,not_lt_zero->Hr,add_zero->Hs,zero_add->Hx,lt_or_ge->JJ,lt_of_succ_lt->J5
open Go.Proofs.Tryz renaming prog->GD,results112->Hg,results183->Hj,underlying35->Hu,results186->Ic,underlying3->IS,results222->JT
open Go renaming World->GE,lt_of_block->GF,bodyPost_ret->GG,heap_alloc_new->GH,Value->GJ,heap_setCell_other->GP,Calls->GR,maxLen->GY,Addr->G1,cell_of_row->Hf,TypeId->Hl,frozen_of_row->Ik,Ending->IG,madeCells->II,MemPlace->Jc,DataW->Jm,Program->Jr,splice->JO
open List renaming getElem?_eq_getElem->GI,getElem?_eq_none->He,replicate->Hk,getElem?_replicate->Hw,getElem?_append_right->Ig,mem_of_getElem?->Is,getElem?_append_left->Iu,eq_nil_of_length_eq_zero->I1,ext_getElem?->Jj
open Go.RowKit renaming Below->GK,intOf->Hh,wrap64->Ho
open Go.RowKit.Below renaming refl->GN,heap_alloc->GO
open Bool renaming eq_iff_iff->GQ
open Go.Value renaming int->GT
open Go.Instr renaming lookup->J0
open Int renaming toNat_natCast->If
open Prod.mk renaming injEq->IM
open Option.some renaming injEq->IQ
open Go.Ending renaming returned->I5
open Go.Addr renaming add->I8
open Classical renaming byContradiction->Jd
open Go.Maps renaming size->JI,has->JX
open Go.WideAt renaming IsKeyLit->JS
open Go.ChangeShapes Go.WideShapes Go.ChangeAt Go.RowKit
set_option linter.unusedVariables false
set_option linter.unusedSimpArgs false
theorem ei {nm:List UInt8}{b:Bool}(h:(nm==[])=b):((⟨nm.toArray⟩:ByteArray)==⟨#[]⟩)=b:=by
 rw[<-h];cases nm with
 | nil=>rfl
 | cons x r =>
  show (List.toArray (x::r)==#[])=((x::r)==[]);rw[GQ];simp
theorem BB (e:Ex)(ao:Option G1)(cap:Nat)(w:GE)(t:e.nm.length<=GY) :
  GR GD 172 #[exN e ao cap] w λx w'=>x=.returned (.bool (eg e.k e.n e.nm e.kids.len))/\GK w.heap.size w w':=by
 obtain⟨k0,n,nm,a,f⟩:=e;simp only at t;obtain⟨W,y⟩:=exq (eg k0 n nm f.len);simp only;rw[<-y];have g:Hid (W=eg k0 n nm f.len):=y;clear y;have m:GK w.heap.size w (w.alloc (zNv k0 n nm ao f.len cap)):=(GN _ w).alloc (GC _) _;have v:(w.alloc (zNv k0 n nm ao f.len cap)).heap[w.heap.size]?=GB (zNv k0 n nm ao f.len cap):=GH w _;rw[dS];go_enter Tryz.func172,Tryz.ntmps172;go_upto_region 1 with fail;generalize w.alloc (zNv k0 n nm ao f.len cap)=w0 at *;obtain⟨bx,r⟩:=exq w.heap.size;rw[<-r] at v m ⊢;have o:Hid (bx=w.heap.size):=r;clear r;obtain⟨p0,p1,p2,p3,B⟩:=el v;have U:∀ {b:Bool},W=b->Value.bool b=.bool W:=λh=>by rw[h]
 by_cases u:(1<=k0/\k0<=3)\/(5<=k0/\k0<=26)
 case neg =>
  have d:Hid (W=false):=by
   show W=_;rw[g.out];cases C:eg k0 n nm f.len with
   | false=>rfl
   | true=>have:=gQ C;omega
  have b1:∀ c:Int,(1<=c/\c<=3)\/(5<=c/\c<=26)->(k0==c)=false:=λc z=>by simp;omega
  have c1:=b1 1 (by omega);have c2:=b1 2 (by omega);have c3:=b1 3 (by omega);have c5:=b1 5 (by omega);have c6:=b1 6 (by omega);have Z:=b1 7 (by omega);have Y:=b1 8 (by omega);have c9:=b1 9 (by omega);have T:=b1 10 (by omega);have S:=b1 11 (by omega);have R:=b1 12 (by omega);have Q:=b1 13 (by omega);have P:=b1 14 (by omega);have O:=b1 15 (by omega);have N:=b1 16 (by omega);have M:=b1 17 (by omega);have L:=b1 18 (by omega);have K:=b1 19 (by omega);have c20:=b1 20 (by omega);have c21:=b1 21 (by omega);have J:=b1 22 (by omega);have I:=b1 23 (by omega);have H:=b1 24 (by omega);have G:=b1 25 (by omega);have F:=b1 26 (by omega);clear g v p1 p2 p3 u b1;go_wp2;go_ret;rw[d.out];exact⟨rfl,by rw[<-o.out];exact m⟩
 case pos =>
 have z:k0=1\/k0=2\/k0=3\/k0=5\/k0=6\/k0=7\/k0=8\/k0=9\/k0=10\/k0=11\/k0=12\/k0=13\/k0=14\/k0=15\/k0=16\/k0=17\/k0=18\/k0=19\/k0=20\/k0=21\/k0=22\/k0=23\/k0=24\/k0=25\/k0=26:=by omega
 clear u v;rcases z with rfl|rfl|rfl|rfl|rfl|rfl|rfl|rfl|rfl|rfl|rfl|rfl|rfl|rfl|rfl|rfl|rfl|rfl|rfl|rfl|rfl|rfl|rfl|rfl|rfl
 ·cases l:(nm==[]) with
  | false =>
   have p:=ei l;have d:Hid (W=false):=by show W=_;rw[g.out];simp[eg,l]
   clear g;go_wp2;go_ret;rw[d.out];exact⟨rfl,by rw[<-o.out];exact m⟩
  | true =>
   have p:=ei l;cases g1:((f.len:Int)==0) with
   | false =>
    have j:(f.len==0)=false:=by have h:=g1;rw[GQ] at h ⊢;simp at h ⊢;omega
    have d:Hid (W=false):=by show W=_;rw[g.out];simp[eg,l,j]
    clear g;go_wp2;go_ret;rw[d.out];exact⟨rfl,by rw[<-o.out];exact m⟩
   | true =>
    have j:(f.len==0)=true:=by have h:=g1;rw[GQ] at h ⊢;simp at h ⊢;omega
    have d:Hid (W=true):=by show W=_;rw[g.out];simp[eg,l,j]
    clear g;go_wp2;go_ret;rw[d.out];exact⟨rfl,by rw[<-o.out];exact m⟩
 ·cases l:(n==0) with
  | true =>
   cases g1:(nm==[]) with
   | false =>
    have j:=ei g1;have d:Hid (W=false):=by show W=_;rw[g.out];simp[eg,l,g1]
    clear g;go_wp2;go_ret;rw[d.out];exact⟨rfl,by rw[<-o.out];exact m⟩
   | true =>
    have j:=ei g1;have d:Hid (W=((f.len:Int)==0)):=by show W=_;rw[g.out];rw[GQ];simp[eg,l,g1]
    clear g;go_wp2;go_ret;rw[d.out];exact⟨rfl,by rw[<-o.out];exact m⟩
  | false =>
   cases g2:(n==1) with
   | false =>
    have d:Hid (W=false):=by show W=_;rw[g.out];simp[eg,l,g2]
    clear g;go_wp2;go_ret;rw[d.out];exact⟨rfl,by rw[<-o.out];exact m⟩
   | true =>
    cases g1:(nm==[]) with
    | false =>
     have j:=ei g1;have d:Hid (W=false):=by show W=_;rw[g.out];simp[eg,l,g1]
     clear g;go_wp2;go_ret;rw[d.out];exact⟨rfl,by rw[<-o.out];exact m⟩
    | true =>
     have j:=ei g1;have d:Hid (W=((f.len:Int)==0)):=by show W=_;rw[g.out];rw[GQ];simp[eg,l,g1,g2]
     clear g;go_wp2;go_ret;rw[d.out];exact⟨rfl,by rw[<-o.out];exact m⟩
 ·cases l:decide (0<=n) with
  | false =>
   have p:=of_decide_eq_false l;have d:Hid (W=false):=by show W=_;rw[g.out];simp[eg,p]
   clear g;go_wp2;go_ret;rw[d.out];exact⟨rfl,by rw[<-o.out];exact m⟩
  | true =>
   have p:=of_decide_eq_true l;cases g1:(nm==[]) with
   | false =>
    have j:=ei g1;have d:Hid (W=false):=by show W=_;rw[g.out];simp[eg,p,g1]
    clear g;go_wp2;go_ret;rw[d.out];exact⟨rfl,by rw[<-o.out];exact m⟩
   | true =>
    have j:=ei g1;cases g2:((f.len:Int)==0) with
    | false =>
     have i:(f.len==0)=false:=by have h:=g2;rw[GQ] at h ⊢;simp at h ⊢;omega
     have d:Hid (W=false):=by show W=_;rw[g.out];simp[eg,p,g1,i]
     clear g;go_wp2;go_ret;rw[d.out];exact⟨rfl,by rw[<-o.out];exact m⟩
    | true =>
     have i:(f.len==0)=true:=by have h:=g2;rw[GQ] at h ⊢;simp at h ⊢;omega
     have d:Hid (W=true):=by show W=_;rw[g.out];simp[eg,p,g1,i]
     clear g;go_wp2;go_ret;rw[d.out];exact⟨rfl,by rw[<-o.out];exact m⟩
 ·cases l:decide (0<=n) with
  | false =>
   have p:=of_decide_eq_false l;have d:Hid (W=false):=by show W=_;rw[g.out];simp[eg,p]
   clear g;go_wp2;go_ret;rw[d.out];exact⟨rfl,by rw[<-o.out];exact m⟩
  | true =>
   have p:=of_decide_eq_true l;cases g1:(nm==[]) with
   | false =>
    have j:=ei g1;have d:Hid (W=false):=by show W=_;rw[g.out];simp[eg,p,g1]
    clear g;go_wp2;go_ret;rw[d.out];exact⟨rfl,by rw[<-o.out];exact m⟩
   | true =>
    have j:=ei g1;cases g2:((f.len:Int)==0) with
    | false =>
     have i:(f.len==0)=false:=by have h:=g2;rw[GQ] at h ⊢;simp at h ⊢;omega
     have d:Hid (W=false):=by show W=_;rw[g.out];simp[eg,p,g1,i]
     clear g;go_wp2;go_ret;rw[d.out];exact⟨rfl,by rw[<-o.out];exact m⟩
    | true =>
     have i:(f.len==0)=true:=by have h:=g2;rw[GQ] at h ⊢;simp at h ⊢;omega
     have d:Hid (W=true):=by show W=_;rw[g.out];simp[eg,p,g1,i]
     clear g;go_wp2;go_ret;rw[d.out];exact⟨rfl,by rw[<-o.out];exact m⟩
 ·cases l:(n==0) with
  | false =>
   have d:Hid (W=false):=by show W=_;rw[g.out];simp[eg,l]
   clear g;go_wp2;go_ret;rw[d.out];exact⟨rfl,by rw[<-o.out];exact m⟩
  | true =>
   cases g1:(nm==[]) with
   | false =>
    have j:=ei g1;have d:Hid (W=false):=by show W=_;rw[g.out];simp[eg,l,g1]
    clear g;go_wp2;go_ret;rw[d.out];exact⟨rfl,by rw[<-o.out];exact m⟩
   | true =>
    have j:=ei g1;cases g2:((f.len:Int)==1) with
    | false =>
     have i:(f.len==1)=false:=by have h:=g2;rw[GQ] at h ⊢;simp at h ⊢;omega
     have d:Hid (W=false):=by show W=_;rw[g.out];simp[eg,l,g1,i]
     clear g;go_wp2;go_ret;rw[d.out];exact⟨rfl,by rw[<-o.out];exact m⟩
    | true =>
     have i:(f.len==1)=true:=by have h:=g2;rw[GQ] at h ⊢;simp at h ⊢;omega
     have d:Hid (W=true):=by show W=_;rw[g.out];simp[eg,l,g1,i]
     clear g;go_wp2;go_ret;rw[d.out];exact⟨rfl,by rw[<-o.out];exact m⟩
 ·cases l:(n==0) with
  | false =>
   have d:Hid (W=false):=by show W=_;rw[g.out];simp[eg,l]
   clear g;go_wp2;go_ret;rw[d.out];exact⟨rfl,by rw[<-o.out];exact m⟩
  | true =>
   cases g1:(nm==[]) with
   | false =>
    have j:=ei g1;have d:Hid (W=false):=by show W=_;rw[g.out];simp[eg,l,g1]
    clear g;go_wp2;go_ret;rw[d.out];exact⟨rfl,by rw[<-o.out];exact m⟩
   | true =>
    have j:=ei g1;cases g2:((f.len:Int)==1) with
    | false =>
     have i:(f.len==1)=false:=by have h:=g2;rw[GQ] at h ⊢;simp at h ⊢;omega
     have d:Hid (W=false):=by show W=_;rw[g.out];simp[eg,l,g1,i]
     clear g;go_wp2;go_ret;rw[d.out];exact⟨rfl,by rw[<-o.out];exact m⟩
    | true =>
     have i:(f.len==1)=true:=by have h:=g2;rw[GQ] at h ⊢;simp at h ⊢;omega
     have d:Hid (W=true):=by show W=_;rw[g.out];simp[eg,l,g1,i]
     clear g;go_wp2;go_ret;rw[d.out];exact⟨rfl,by rw[<-o.out];exact m⟩
 ·cases l:(n==0) with
  | false =>
   have d:Hid (W=false):=by show W=_;rw[g.out];simp[eg,l]
   clear g;go_wp2;go_ret;rw[d.out];exact⟨rfl,by rw[<-o.out];exact m⟩
  | true =>
   cases g1:(nm==[]) with
   | false =>
    have j:=ei g1;have d:Hid (W=false):=by show W=_;rw[g.out];simp[eg,l,g1]
    clear g;go_wp2;go_ret;rw[d.out];exact⟨rfl,by rw[<-o.out];exact m⟩
   | true =>
    have j:=ei g1;cases g2:((f.len:Int)==2) with
    | false =>
     have i:(f.len==2)=false:=by have h:=g2;rw[GQ] at h ⊢;simp at h ⊢;omega
     have d:Hid (W=false):=by show W=_;rw[g.out];simp[eg,l,g1,i]
     clear g;go_wp2;go_ret;rw[d.out];exact⟨rfl,by rw[<-o.out];exact m⟩
    | true =>
     have i:(f.len==2)=true:=by have h:=g2;rw[GQ] at h ⊢;simp at h ⊢;omega
     have d:Hid (W=true):=by show W=_;rw[g.out];simp[eg,l,g1,i]
     clear g;go_wp2;go_ret;rw[d.out];exact⟨rfl,by rw[<-o.out];exact m⟩
 ·cases l:(n==0) with
  | false =>
   have d:Hid (W=false):=by show W=_;rw[g.out];simp[eg,l]
   clear g;go_wp2;go_ret;rw[d.out];exact⟨rfl,by rw[<-o.out];exact m⟩
  | true =>
   cases g1:(nm==[]) with
   | false =>
    have j:=ei g1;have d:Hid (W=false):=by show W=_;rw[g.out];simp[eg,l,g1]
    clear g;go_wp2;go_ret;rw[d.out];exact⟨rfl,by rw[<-o.out];exact m⟩
   | true =>
    have j:=ei g1;cases g2:((f.len:Int)==2) with
    | false =>
     have i:(f.len==2)=false:=by have h:=g2;rw[GQ] at h ⊢;simp at h ⊢;omega
     have d:Hid (W=false):=by show W=_;rw[g.out];simp[eg,l,g1,i]
     clear g;go_wp2;go_ret;rw[d.out];exact⟨rfl,by rw[<-o.out];exact m⟩
    | true =>
     have i:(f.len==2)=true:=by have h:=g2;rw[GQ] at h ⊢;simp at h ⊢;omega
     have d:Hid (W=true):=by show W=_;rw[g.out];simp[eg,l,g1,i]
     clear g;go_wp2;go_ret;rw[d.out];exact⟨rfl,by rw[<-o.out];exact m⟩
 ·cases l:(n==0) with
  | false =>
   have d:Hid (W=false):=by show W=_;rw[g.out];simp[eg,l]
   clear g;go_wp2;go_ret;rw[d.out];exact⟨rfl,by rw[<-o.out];exact m⟩
  | true =>
   cases g1:(nm==[]) with
   | false =>
    have j:=ei g1;have d:Hid (W=false):=by show W=_;rw[g.out];simp[eg,l,g1]
    clear g;go_wp2;go_ret;rw[d.out];exact⟨rfl,by rw[<-o.out];exact m⟩
   | true =>
    have j:=ei g1;cases g2:((f.len:Int)==2) with
    | false =>
     have i:(f.len==2)=false:=by have h:=g2;rw[GQ] at h ⊢;simp at h ⊢;omega
     have d:Hid (W=false):=by show W=_;rw[g.out];simp[eg,l,g1,i]
     clear g;go_wp2;go_ret;rw[d.out];exact⟨rfl,by rw[<-o.out];exact m⟩
    | true =>
     have i:(f.len==2)=true:=by have h:=g2;rw[GQ] at h ⊢;simp at h ⊢;omega
     have d:Hid (W=true):=by show W=_;rw[g.out];simp[eg,l,g1,i]
     clear g;go_wp2;go_ret;rw[d.out];exact⟨rfl,by rw[<-o.out];exact m⟩
 ·cases l:(n==0) with
  | false =>
   have d:Hid (W=false):=by show W=_;rw[g.out];simp[eg,l]
   clear g;go_wp2;go_ret;rw[d.out];exact⟨rfl,by rw[<-o.out];exact m⟩
  | true =>
   cases g1:(nm==[]) with
   | false =>
    have j:=ei g1;have d:Hid (W=false):=by show W=_;rw[g.out];simp[eg,l,g1]
    clear g;go_wp2;go_ret;rw[d.out];exact⟨rfl,by rw[<-o.out];exact m⟩
   | true =>
    have j:=ei g1;cases g2:((f.len:Int)==2) with
    | false =>
     have i:(f.len==2)=false:=by have h:=g2;rw[GQ] at h ⊢;simp at h ⊢;omega
     have d:Hid (W=false):=by show W=_;rw[g.out];simp[eg,l,g1,i]
     clear g;go_wp2;go_ret;rw[d.out];exact⟨rfl,by rw[<-o.out];exact m⟩
    | true =>
     have i:(f.len==2)=true:=by have h:=g2;rw[GQ] at h ⊢;simp at h ⊢;omega
     have d:Hid (W=true):=by show W=_;rw[g.out];simp[eg,l,g1,i]
     clear g;go_wp2;go_ret;rw[d.out];exact⟨rfl,by rw[<-o.out];exact m⟩
 ·cases l:(n==0) with
  | false =>
   have d:Hid (W=false):=by show W=_;rw[g.out];simp[eg,l]
   clear g;go_wp2;go_ret;rw[d.out];exact⟨rfl,by rw[<-o.out];exact m⟩
  | true =>
   cases g1:(nm==[]) with
   | false =>
    have j:=ei g1;have d:Hid (W=false):=by show W=_;rw[g.out];simp[eg,l,g1]
    clear g;go_wp2;go_ret;rw[d.out];exact⟨rfl,by rw[<-o.out];exact m⟩
   | true =>
    have j:=ei g1;cases g2:((f.len:Int)==2) with
    | false =>
     have i:(f.len==2)=false:=by have h:=g2;rw[GQ] at h ⊢;simp at h ⊢;omega
     have d:Hid (W=false):=by show W=_;rw[g.out];simp[eg,l,g1,i]
     clear g;go_wp2;go_ret;rw[d.out];exact⟨rfl,by rw[<-o.out];exact m⟩
    | true =>
     have i:(f.len==2)=true:=by have h:=g2;rw[GQ] at h ⊢;simp at h ⊢;omega
     have d:Hid (W=true):=by show W=_;rw[g.out];simp[eg,l,g1,i]
     clear g;go_wp2;go_ret;rw[d.out];exact⟨rfl,by rw[<-o.out];exact m⟩
 ·cases l:(n==0) with
  | false =>
   have d:Hid (W=false):=by show W=_;rw[g.out];simp[eg,l]
   clear g;go_wp2;go_ret;rw[d.out];exact⟨rfl,by rw[<-o.out];exact m⟩
  | true =>
   cases g1:(nm==[]) with
   | false =>
    have j:=ei g1;have d:Hid (W=false):=by show W=_;rw[g.out];simp[eg,l,g1]
    clear g;go_wp2;go_ret;rw[d.out];exact⟨rfl,by rw[<-o.out];exact m⟩
   | true =>
    have j:=ei g1;cases g2:((f.len:Int)==2) with
    | false =>
     have i:(f.len==2)=false:=by have h:=g2;rw[GQ] at h ⊢;simp at h ⊢;omega
     have d:Hid (W=false):=by show W=_;rw[g.out];simp[eg,l,g1,i]
     clear g;go_wp2;go_ret;rw[d.out];exact⟨rfl,by rw[<-o.out];exact m⟩
    | true =>
     have i:(f.len==2)=true:=by have h:=g2;rw[GQ] at h ⊢;simp at h ⊢;omega
     have d:Hid (W=true):=by show W=_;rw[g.out];simp[eg,l,g1,i]
     clear g;go_wp2;go_ret;rw[d.out];exact⟨rfl,by rw[<-o.out];exact m⟩
 ·cases l:(n==0) with
  | false =>
   have d:Hid (W=false):=by show W=_;rw[g.out];simp[eg,l]
   clear g;go_wp2;go_ret;rw[d.out];exact⟨rfl,by rw[<-o.out];exact m⟩
  | true =>
   cases g1:(nm==[]) with
   | false =>
    have j:=ei g1;have d:Hid (W=false):=by show W=_;rw[g.out];simp[eg,l,g1]
    clear g;go_wp2;go_ret;rw[d.out];exact⟨rfl,by rw[<-o.out];exact m⟩
   | true =>
    have j:=ei g1;cases g2:((f.len:Int)==2) with
    | false =>
     have i:(f.len==2)=false:=by have h:=g2;rw[GQ] at h ⊢;simp at h ⊢;omega
     have d:Hid (W=false):=by show W=_;rw[g.out];simp[eg,l,g1,i]
     clear g;go_wp2;go_ret;rw[d.out];exact⟨rfl,by rw[<-o.out];exact m⟩
    | true =>
     have i:(f.len==2)=true:=by have h:=g2;rw[GQ] at h ⊢;simp at h ⊢;omega
     have d:Hid (W=true):=by show W=_;rw[g.out];simp[eg,l,g1,i]
     clear g;go_wp2;go_ret;rw[d.out];exact⟨rfl,by rw[<-o.out];exact m⟩
 ·cases l:(n==0) with
  | false =>
   have d:Hid (W=false):=by show W=_;rw[g.out];simp[eg,l]
   clear g;go_wp2;go_ret;rw[d.out];exact⟨rfl,by rw[<-o.out];exact m⟩
  | true =>
   cases g1:(nm==[]) with
   | false =>
    have j:=ei g1;have d:Hid (W=false):=by show W=_;rw[g.out];simp[eg,l,g1]
    clear g;go_wp2;go_ret;rw[d.out];exact⟨rfl,by rw[<-o.out];exact m⟩
   | true =>
    have j:=ei g1;cases g2:((f.len:Int)==2) with
    | false =>
     have i:(f.len==2)=false:=by have h:=g2;rw[GQ] at h ⊢;simp at h ⊢;omega
     have d:Hid (W=false):=by show W=_;rw[g.out];simp[eg,l,g1,i]
     clear g;go_wp2;go_ret;rw[d.out];exact⟨rfl,by rw[<-o.out];exact m⟩
    | true =>
     have i:(f.len==2)=true:=by have h:=g2;rw[GQ] at h ⊢;simp at h ⊢;omega
     have d:Hid (W=true):=by show W=_;rw[g.out];simp[eg,l,g1,i]
     clear g;go_wp2;go_ret;rw[d.out];exact⟨rfl,by rw[<-o.out];exact m⟩
 ·cases l:(n==0) with
  | false =>
   have d:Hid (W=false):=by show W=_;rw[g.out];simp[eg,l]
   clear g;go_wp2;go_ret;rw[d.out];exact⟨rfl,by rw[<-o.out];exact m⟩
  | true =>
   cases g1:(nm==[]) with
   | false =>
    have j:=ei g1;have d:Hid (W=false):=by show W=_;rw[g.out];simp[eg,l,g1]
    clear g;go_wp2;go_ret;rw[d.out];exact⟨rfl,by rw[<-o.out];exact m⟩
   | true =>
    have j:=ei g1;cases g2:((f.len:Int)==2) with
    | false =>
     have i:(f.len==2)=false:=by have h:=g2;rw[GQ] at h ⊢;simp at h ⊢;omega
     have d:Hid (W=false):=by show W=_;rw[g.out];simp[eg,l,g1,i]
     clear g;go_wp2;go_ret;rw[d.out];exact⟨rfl,by rw[<-o.out];exact m⟩
    | true =>
     have i:(f.len==2)=true:=by have h:=g2;rw[GQ] at h ⊢;simp at h ⊢;omega
     have d:Hid (W=true):=by show W=_;rw[g.out];simp[eg,l,g1,i]
     clear g;go_wp2;go_ret;rw[d.out];exact⟨rfl,by rw[<-o.out];exact m⟩
 ·cases l:(n==0) with
  | false =>
   have d:Hid (W=false):=by show W=_;rw[g.out];simp[eg,l]
   clear g;go_wp2;go_ret;rw[d.out];exact⟨rfl,by rw[<-o.out];exact m⟩
  | true =>
   cases g1:(nm==[]) with
   | false =>
    have j:=ei g1;have d:Hid (W=false):=by show W=_;rw[g.out];simp[eg,l,g1]
    clear g;go_wp2;go_ret;rw[d.out];exact⟨rfl,by rw[<-o.out];exact m⟩
   | true =>
    have j:=ei g1;cases g2:((f.len:Int)==2) with
    | false =>
     have i:(f.len==2)=false:=by have h:=g2;rw[GQ] at h ⊢;simp at h ⊢;omega
     have d:Hid (W=false):=by show W=_;rw[g.out];simp[eg,l,g1,i]
     clear g;go_wp2;go_ret;rw[d.out];exact⟨rfl,by rw[<-o.out];exact m⟩
    | true =>
     have i:(f.len==2)=true:=by have h:=g2;rw[GQ] at h ⊢;simp at h ⊢;omega
     have d:Hid (W=true):=by show W=_;rw[g.out];simp[eg,l,g1,i]
     clear g;go_wp2;go_ret;rw[d.out];exact⟨rfl,by rw[<-o.out];exact m⟩
 ·cases l:(n==0) with
  | false =>
   have d:Hid (W=false):=by show W=_;rw[g.out];simp[eg,l]
   clear g;go_wp2;go_ret;rw[d.out];exact⟨rfl,by rw[<-o.out];exact m⟩
  | true =>
   cases g1:(nm==[]) with
   | false =>
    have j:=ei g1;have d:Hid (W=false):=by show W=_;rw[g.out];simp[eg,l,g1]
    clear g;go_wp2;go_ret;rw[d.out];exact⟨rfl,by rw[<-o.out];exact m⟩
   | true =>
    have j:=ei g1;cases g2:((f.len:Int)==2) with
    | false =>
     have i:(f.len==2)=false:=by have h:=g2;rw[GQ] at h ⊢;simp at h ⊢;omega
     have d:Hid (W=false):=by show W=_;rw[g.out];simp[eg,l,g1,i]
     clear g;go_wp2;go_ret;rw[d.out];exact⟨rfl,by rw[<-o.out];exact m⟩
    | true =>
     have i:(f.len==2)=true:=by have h:=g2;rw[GQ] at h ⊢;simp at h ⊢;omega
     have d:Hid (W=true):=by show W=_;rw[g.out];simp[eg,l,g1,i]
     clear g;go_wp2;go_ret;rw[d.out];exact⟨rfl,by rw[<-o.out];exact m⟩
 ·cases l:(n==0) with
  | false =>
   have d:Hid (W=false):=by show W=_;rw[g.out];simp[eg,l]
   clear g;go_wp2;go_ret;rw[d.out];exact⟨rfl,by rw[<-o.out];exact m⟩
  | true =>
   cases g1:(nm==[]) with
   | false =>
    have j:=ei g1;have d:Hid (W=false):=by show W=_;rw[g.out];simp[eg,l,g1]
    clear g;go_wp2;go_ret;rw[d.out];exact⟨rfl,by rw[<-o.out];exact m⟩
   | true =>
    have j:=ei g1;cases g2:((f.len:Int)==3) with
    | false =>
     have i:(f.len==3)=false:=by have h:=g2;rw[GQ] at h ⊢;simp at h ⊢;omega
     have d:Hid (W=false):=by show W=_;rw[g.out];simp[eg,l,g1,i]
     clear g;go_wp2;go_ret;rw[d.out];exact⟨rfl,by rw[<-o.out];exact m⟩
    | true =>
     have i:(f.len==3)=true:=by have h:=g2;rw[GQ] at h ⊢;simp at h ⊢;omega
     have d:Hid (W=true):=by show W=_;rw[g.out];simp[eg,l,g1,i]
     clear g;go_wp2;go_ret;rw[d.out];exact⟨rfl,by rw[<-o.out];exact m⟩
 ·cases l:(nm==[]) with
  | false =>
   have p:=ei l;have d:Hid (W=false):=by show W=_;rw[g.out];simp[eg,l]
   clear g;go_wp2;go_ret;rw[d.out];exact⟨rfl,by rw[<-o.out];exact m⟩
  | true =>
   have p:=ei l;have q:Hid (W=((decide (1<=n)&&decide (n<=3)&&f.len==2)||(decide (4<=n)&&decide (n<=10)&&f.len==1))):=by show W=_;rw[g.out];simp[eg,l]
   clear g;by_cases h1:1<=n/\n<=3
   ·obtain⟨h1,E⟩:=h1;cases g1:((f.len:Int)==2) with
    | true =>
     have d:Hid (W=true):=by show W=_;rw[q.out];simp at g1 ⊢;omega
     clear q;go_wp2;go_ret;rw[d.out];exact⟨rfl,by rw[<-o.out];exact m⟩
    | false =>
     have A:¬(4:Int)<=n:=by omega
     have d:Hid (W=false):=by show W=_;rw[q.out];simp at g1 ⊢;omega
     clear q;go_wp2;go_ret;rw[d.out];exact⟨rfl,by rw[<-o.out];exact m⟩
   ·by_cases h2:4<=n/\n<=10
    ·obtain⟨A,h5⟩:=h2;have D:¬n<=3:=by omega
     have X:(1:Int)<=n:=by omega
     have d:Hid (W=((f.len:Int)==1)):=by show W=_;rw[q.out,GQ];simp;omega
     clear q h1;go_wp2;go_ret;rw[d.out];exact⟨rfl,by rw[<-o.out];exact m⟩
    ·have d:Hid (W=false):=by show W=_;rw[q.out];simp;omega
     clear q;by_cases E:1<=n
     ·have A:¬n<=3:=by omega
      have h5:(4:Int)<=n:=by omega
      have D:¬n<=10:=by omega
      clear h1 h2;go_wp2;go_ret;rw[d.out];exact⟨rfl,by rw[<-o.out];exact m⟩
     ·have h5:¬(4:Int)<=n:=by omega
      clear h1 h2;go_wp2;go_ret;rw[d.out];exact⟨rfl,by rw[<-o.out];exact m⟩
 ·cases l:decide (1<=n) with
  | false =>
   have p:=of_decide_eq_false l;have d:Hid (W=false):=by show W=_;rw[g.out];simp[eg,p]
   clear g;go_wp2;go_ret;rw[d.out];exact⟨rfl,by rw[<-o.out];exact m⟩
  | true =>
   have p:=of_decide_eq_true l;cases g1:decide (n<=6) with
   | false =>
    have j:=of_decide_eq_false g1;have d:Hid (W=false):=by show W=_;rw[g.out];simp[eg,p,j]
    clear g;go_wp2;go_ret;rw[d.out];exact⟨rfl,by rw[<-o.out];exact m⟩
   | true =>
    have j:=of_decide_eq_true g1;cases g2:(nm==[]) with
    | false =>
     have i:=ei g2;have d:Hid (W=false):=by show W=_;rw[g.out];simp[eg,p,j,g2]
     clear g;go_wp2;go_ret;rw[d.out];exact⟨rfl,by rw[<-o.out];exact m⟩
    | true =>
     have i:=ei g2;cases g3:((f.len:Int)==2) with
     | false =>
      have s:(f.len==2)=false:=by have h:=g3;rw[GQ] at h ⊢;simp at h ⊢;omega
      have d:Hid (W=false):=by show W=_;rw[g.out];simp[eg,p,j,g2,s]
      clear g;go_wp2;go_ret;rw[d.out];exact⟨rfl,by rw[<-o.out];exact m⟩
     | true =>
      have s:(f.len==2)=true:=by have h:=g3;rw[GQ] at h ⊢;simp at h ⊢;omega
      have d:Hid (W=true):=by show W=_;rw[g.out];simp[eg,p,j,g2,s]
      clear g;go_wp2;go_ret;rw[d.out];exact⟨rfl,by rw[<-o.out];exact m⟩
 ·cases l:(n==0) with
  | false =>
   have d:Hid (W=false):=by show W=_;rw[g.out];simp[eg,l]
   clear g;go_wp2;go_ret;rw[d.out];exact⟨rfl,by rw[<-o.out];exact m⟩
  | true =>
   cases g1:(nm==[]) with
   | false =>
    have j:=ei g1;have d:Hid (W=false):=by show W=_;rw[g.out];simp[eg,l,g1]
    clear g;go_wp2;go_ret;rw[d.out];exact⟨rfl,by rw[<-o.out];exact m⟩
   | true =>
    have j:=ei g1;cases g2:((f.len:Int)==0) with
    | false =>
     have i:(f.len==0)=false:=by have h:=g2;rw[GQ] at h ⊢;simp at h ⊢;omega
     have d:Hid (W=false):=by show W=_;rw[g.out];simp[eg,l,g1,i]
     clear g;go_wp2;go_ret;rw[d.out];exact⟨rfl,by rw[<-o.out];exact m⟩
    | true =>
     have i:(f.len==0)=true:=by have h:=g2;rw[GQ] at h ⊢;simp at h ⊢;omega
     have d:Hid (W=true):=by show W=_;rw[g.out];simp[eg,l,g1,i]
     clear g;go_wp2;go_ret;rw[d.out];exact⟨rfl,by rw[<-o.out];exact m⟩
 ·cases l:(n==0) with
  | false =>
   have d:Hid (W=false):=by show W=_;rw[g.out];simp[eg,l]
   clear g;go_wp2;go_ret;rw[d.out];exact⟨rfl,by rw[<-o.out];exact m⟩
  | true =>
   cases g1:((f.len:Int)==0) with
   | false =>
    have j:(f.len==0)=false:=by have h:=g1;rw[GQ] at h ⊢;simp at h ⊢;omega
    have d:Hid (W=false):=by show W=_;rw[g.out];simp[eg,l,j]
    clear g;go_wp2;go_ret;rw[d.out];exact⟨rfl,by rw[<-o.out];exact m⟩
   | true =>
    have j:(f.len==0)=true:=by have h:=g1;rw[GQ] at h ⊢;simp at h ⊢;omega
    have d:Hid (W=eE nm):=by show W=_;rw[g.out];simp[eg,l,j]
    have c1:=λw=>qM ⟨nm.toArray⟩ w (by show nm.toArray.size<=GY;simpa using t);clear g;go_wp2_with (go_at_call 101;refine(c1 _).mono ?_;rintro x w1 ⟨rfl,b1⟩);have V:=m.trans (b1.mono (by have:=o.out;have:=m.size;omega));clear c1 p0 p1 p2 p3 B;go_wp2;go_ret;rw[d.out];exact⟨rfl,by rw[<-o.out];exact V⟩
 ·cases l:(n==0) with
  | false =>
   have d:Hid (W=false):=by show W=_;rw[g.out];simp[eg,l]
   clear g;go_wp2;go_ret;rw[d.out];exact⟨rfl,by rw[<-o.out];exact m⟩
  | true =>
   cases g1:(nm==[]) with
   | false =>
    have j:=ei g1;have d:Hid (W=false):=by show W=_;rw[g.out];simp[eg,l,g1]
    clear g;go_wp2;go_ret;rw[d.out];exact⟨rfl,by rw[<-o.out];exact m⟩
   | true =>
    have j:=ei g1;cases g2:((f.len:Int)==1) with
    | false =>
     have i:(f.len==1)=false:=by have h:=g2;rw[GQ] at h ⊢;simp at h ⊢;omega
     have d:Hid (W=false):=by show W=_;rw[g.out];simp[eg,l,g1,i]
     clear g;go_wp2;go_ret;rw[d.out];exact⟨rfl,by rw[<-o.out];exact m⟩
    | true =>
     have i:(f.len==1)=true:=by have h:=g2;rw[GQ] at h ⊢;simp at h ⊢;omega
     have d:Hid (W=true):=by show W=_;rw[g.out];simp[eg,l,g1,i]
     clear g;go_wp2;go_ret;rw[d.out];exact⟨rfl,by rw[<-o.out];exact m⟩
 ·cases l:(n==0) with
  | false =>
   have d:Hid (W=false):=by show W=_;rw[g.out];simp[eg,l]
   clear g;go_wp2;go_ret;rw[d.out];exact⟨rfl,by rw[<-o.out];exact m⟩
  | true =>
   cases g1:(nm==[]) with
   | false =>
    have j:=ei g1;have d:Hid (W=false):=by show W=_;rw[g.out];simp[eg,l,g1]
    clear g;go_wp2;go_ret;rw[d.out];exact⟨rfl,by rw[<-o.out];exact m⟩
   | true =>
    have j:=ei g1;have d:Hid (W=true):=by show W=_;rw[g.out];simp[eg,l,g1]
    clear g;go_wp2;go_ret;rw[d.out];exact⟨rfl,by rw[<-o.out];exact m⟩
 ·cases l:(nm==[]) with
  | false =>
   have p:=ei l;have d:Hid (W=false):=by show W=_;rw[g.out];simp[eg,l]
   clear g;go_wp2;go_ret;rw[d.out];exact⟨rfl,by rw[<-o.out];exact m⟩
  | true =>
   have p:=ei l;cases g1:((f.len:Int)==1) with
   | false =>
    have j:(f.len==1)=false:=by have h:=g1;rw[GQ] at h ⊢;simp at h ⊢;omega
    have d:Hid (W=false):=by show W=_;rw[g.out];simp[eg,l,j]
    clear g;go_wp2;go_ret;rw[d.out];exact⟨rfl,by rw[<-o.out];exact m⟩
   | true =>
    have j:(f.len==1)=true:=by have h:=g1;rw[GQ] at h ⊢;simp at h ⊢;omega
    have d:Hid (W=true):=by show W=_;rw[g.out];simp[eg,l,j]
    clear g;go_wp2;go_ret;rw[d.out];exact⟨rfl,by rw[<-o.out];exact m⟩
open Go.ChangeShapes Go.WideShapes Go.ChangeAt Go.RowKit Go.Maps
theorem yG {P:Jr}{K:Hl}{R:GJ->Option (Jm Unit × List Jc)}{w:GE}{b n:Nat}{D:Jm Unit}(h:w.ownsMap P K R b n D):w.ownsMap P K R b (JI D) D:=by
 obtain⟨d,a,c,F,e,rfl⟩:=h;exact⟨d,a,c,F,by simp[JI,length_sorted],rfl⟩
theorem wj {P:Jr}{K:Hl}{R:GJ->Option (Jm Unit × List Jc)}{w w':GE}{b n:Nat}{D:Jm Unit}(h:w.ownsMap P K R b n D)(e:w'.heap[b]?=w.heap[b]?):w'.ownsMap P K R b n D:=by
 obtain⟨g,a,d,F,c,f⟩:=h;exact⟨g,a,e.trans d,F,c,f⟩
theorem qU:Keyed GD 3:=int_keyed IS
theorem Am (k:Int):JS (.int .i64 k):=trivial
def mP:List GJ->Option (Jm Unit × List Jc)
 | [.int .i64 a,.int .i64 b,.string s,.slice _ 0 _]=>GB (.agg [.lit (.int .i64 a),.lit (.int .i64 b),.lit (.string s.data.toList),.lit (.int .i64 0)],[])
 | [.int .i64 a,.int .i64 b,.string s,.slice (GB ⟨g,off,GA⟩) (l+1) c]=>GB (.agg [.lit (.int .i64 a),.lit (.int .i64 b),.lit (.string s.data.toList),.lit (.int .i64 1),.lit (.int .i64 g),.lit (.int .i64 off),.lit (.int .i64 l),.lit (.int .i64 c)],[])
 | _=>GA
def kt (v:GJ):Option (Jm Unit × List Jc) :=
 match v with
 | .agg cs=>mP cs.toList
 | _=>GA
theorem kF {u:List GJ}{d:Jm Unit}{p:List Jc}(h:mP u=GB (d,p)):∃a b s ao l c,u=[.int .i64 a,.int .i64 b,.string s,.slice ao l c]/\(l=0\/∃g off m,l=m+1/\ao=GB ⟨g,off,GA⟩):=by
 unfold mP at h;split at h
 ·exact⟨_,_,_,_,_,_,rfl,.inl rfl⟩
 ·exact⟨_,_,_,_,_,_,rfl,.inr ⟨_,_,_,rfl,rfl⟩⟩
 ·cases h
theorem uA {u v:List GJ}{d:Jm Unit}{p q:List Jc}(h:mP u=GB (d,p))(k:mP v=GB (d,q)):∃a b s ao f l c c',u=[.int .i64 a,.int .i64 b,.string s,.slice ao l c]/\v=[.int .i64 a,.int .i64 b,.string s,.slice f l c']/\(l=0\/ao=f):=by
 obtain⟨a,b,⟨⟨s⟩⟩,ao,l,c,rfl,n⟩:=kF h;obtain⟨z,y,⟨⟨s'⟩⟩,f,w,c',rfl,j⟩:=kF k;rcases n with rfl|⟨g,off,m,rfl,rfl⟩<;>rcases j with rfl|⟨t,i,o,rfl,rfl⟩<;>simp only[mP,IQ,IM] at h k
 all_goals (
  have e:=h.1.trans k.1.symm;simp at e)
 ·obtain⟨rfl,rfl,rfl⟩:=e;exact⟨_,_,_,_,_,_,_,_,rfl,rfl,.inl rfl⟩
 ·obtain⟨rfl,rfl,rfl,h1,h2,r,x⟩:=e;obtain rfl:g=t:=Int.ofNat.inj h1;obtain rfl:off=i:=Int.ofNat.inj h2;obtain rfl:m=o:=Int.ofNat.inj r;exact⟨_,_,_,_,_,_,_,_,rfl,rfl,.inr rfl⟩
theorem uI {y:Ex}{ao:Option G1}{cap:Nat}{v:GJ}{d:Jm Unit}{p q:List Jc}(h:kt (exN y ao cap)=GB (d,p))(k:kt v=GB (d,q)):∃f e,v=exN y f e/\(y.kids.len=0\/f=ao):=by
 unfold kt at h k;rw[dS] at h;simp only at h;split at k
 ·rename_i cs
  obtain⟨a,b,s,a1,a2,l,c,c',i,m,j⟩:=uA h k;have g:=Array.toList_inj.1 m;simp at i;obtain⟨rfl,rfl,rfl,rfl,rfl,rfl⟩:=i;exact⟨a2,c',by rw[g];rfl,j.imp id Eq.symm⟩
 ·cases k
theorem yS (w:GE):(zeroValue 34).run GD w=.ok (.agg #[.int .i64 0,.int .i64 0,.string ⟨#[]⟩,.slice GA 0 0]) w:=by kernel_rfl
def ndZ:Jm Unit:=.agg [.lit (.int .i64 0),.lit (.int .i64 0),.lit (.string []),.lit (.int .i64 0)]
theorem nj:kt (.agg #[.int .i64 0,.int .i64 0,.string ⟨#[]⟩,.slice GA 0 0])=GB (ndZ,[]):=rfl
theorem xP {w:GE}{P:Nat->Prop}(e:Ex){ao:Option G1}(cap:Nat)(h:SlN w P e.kids ao):∃d,kt (exN e ao cap)=GB (d,[]):=by
 rcases h with h|⟨b,off,a,rfl,-⟩
 ·rw[dS,h];exact⟨_,rfl⟩
 ·rw[dS];cases c:e.kids.len with
  | zero=>exact⟨_,rfl⟩
  | succ m=>exact⟨_,rfl⟩
theorem uj:∀ {f:Fs},f.len=0->f=.nil
 | ⟨GA⟩,_=>rfl
 | ⟨GB ⟨k,n,nm,a,ks,r⟩⟩,h=>by simp[Fs.len] at h
def MpN (w:GE)(P:Nat->Prop)(b m:Nat)(t:Nat->Option Ex):Prop :=
 ∃D:Jm Unit,w.ownsMap GD 3 kt b m D/\JI D=m /\
  (∀ k y,t k=GB y->JX D (.int .i64 k)=true/\∃ao cap,kt (exN y ao cap)=GB (D.atKey (.int .i64 k) ndZ,[])/\SlN w P y.kids ao) /\
  (∀ k:Int,JX D (.int .i64 k)=true->∃j y,k=(j:Nat)/\t j=GB y)
theorem MpN.mono {w w':GE}{P:Nat->Prop}{b m:Nat}{t:Nat->Option Ex}(h:MpN w P b m t)(e:w'.heap[b]?=w.heap[b]?)(g:∀ k,P k->k<w.heap.size->w'.heap[k]?=w.heap[k]?)(f:w.heap.size<=w'.heap.size):MpN w' P b m t:=by
 obtain⟨D,h1,h2,j,i⟩:=h;refine⟨D,wj h1 e,h2,λk y d=>?_,i⟩;obtain⟨c,ao,cap,q2,a⟩:=j k y d;exact⟨c,ao,cap,q2,a.mono g f (λ_ h _=>h)⟩
theorem MpN.monoQ {w w':GE}{P Q:Nat->Prop}{b m:Nat}{t:Nat->Option Ex}(h:MpN w P b m t)(e:w'.heap[b]?=w.heap[b]?)(i:∀ k,P k->k<w.heap.size->w'.heap[k]?=w.heap[k]?)(f:w.heap.size<=w'.heap.size)(g:∀ k,P k->k<w.heap.size->Q k):MpN w' Q b m t:=by
 obtain⟨D,h1,h2,l,j⟩:=h;refine⟨D,wj h1 e,h2,λk y d=>?_,j⟩;obtain⟨c,ao,cap,q2,a⟩:=l k y d;exact⟨c,ao,cap,q2,a.mono i f g⟩
theorem MpN.made (w:GE)(P:Nat->Prop):MpN (w.alloc (.map #[] 0)) P w.heap.size 0 (λ_=>GA) :=
 ⟨.map [],World.ownsMap_made _ _ _ _,rfl,λk y h=>by simp at h,λk h=>by simp[JX] at h⟩
theorem MpN.lt {w:GE}{P:Nat->Prop}{b m:Nat}{t:Nat->Option Ex}(h:MpN w P b m t):b<w.heap.size:=by
 obtain⟨D,h1,-⟩:=h;exact h1.lt
theorem MpN.gone {t:Nat->Option Ex}{D:Jm Unit}(h5:∀ k:Int,JX D (.int .i64 k)=true->∃j y,k=(j:Nat)/\t j=GB y){k:Nat}(b:t k=GA):JX D (.int .i64 k)=false:=by
 cases c:JX D (.int .i64 k) with
 | false=>rfl
 | true =>
  obtain⟨j,y,e,a⟩:=h5 _ c;obtain rfl:k=j:=Int.ofNat.inj e;rw[b] at a;cases a
theorem MpN.look {w:GE}{P:Nat->Prop}{b m:Nat}{t:Nat->Option Ex}(h:MpN w P b m t){k:Nat}(j:(Lit.int .i64 k).wf=true){y:Ex}(l:t k=GB y) :
  ∃ao cap,(J0 168 (.map (GB b)) (.int .i64 k) true).run GD w=.ok (.tuple #[exN y ao cap,.bool true]) w/\SlN w P y.kids ao:=by
 obtain⟨D,h1,h2,o,h5⟩:=h;obtain⟨c,ps,f,n⟩:=h1.look_ok qU Tryz.underlying168 (yS w) nj (keyOf_int_mk IS j);obtain⟨i,ao,cap,q2,g⟩:=o k y l;obtain⟨e,a,p,d⟩:=uI q2 n;rw[i,p] at f;refine⟨e,a,f,?_⟩;rcases d with d|rfl
 ·rw[uj d];exact SlN.nil _ _ _
 ·exact g
theorem MpN.miss {w:GE}{P:Nat->Prop}{b m:Nat}{t:Nat->Option Ex}(h:MpN w P b m t){k:Nat}(f:(Lit.int .i64 k).wf=true)(g:t k=GA) :
  ∃x y s ao l cap,(J0 168 (.map (GB b)) (.int .i64 k) true).run GD w=.ok (.tuple #[.agg #[.int .i64 x,.int .i64 y,.string s,.slice ao l cap],.bool false]) w:=by
 obtain⟨D,h1,h2,j,h5⟩:=h;obtain⟨c,ps,d,a⟩:=h1.look_ok qU Tryz.underlying168 (yS w) nj (keyOf_int_mk IS f);rw[MpN.gone h5 g] at d;unfold kt at a;split at a
 ·rename_i cs
  obtain⟨x,y,s,ao,l,cap,e,-⟩:=kF a;have i:=Array.toList_inj.1 e;subst i;exact⟨x,y,s,ao,l,cap,d⟩
 ·cases a
theorem MpN.put {w:GE}{P:Nat->Prop}{b m:Nat}{t:Nat->Option Ex}(h:MpN w P b m t)(J:¬P b)(k:Nat)(y:Ex)(ao:Option G1)(cap:Nat)(H:(Lit.int .i64 k).wf=true)(L:m<=100000)(I:t k=GA)(S:SlN w P y.kids ao) :
  ∃w',(Instr.mapUpdate 168 (.map (GB b)) (.int .i64 k) (exN y ao cap)).run GD w=.ok () w'/\MpN w' P b (m+1) (λi=>if i=k then GB y else t i)/\w.mapTurned w' b:=by
 obtain⟨D,h1,h2,K,h5⟩:=h;obtain⟨d,u⟩:=xP y cap S;obtain⟨w',C,F,r⟩:=h1.store (val:=exN y ao cap) (d:=d) (ps:=[]) qU Tryz.underlying168 (by unfold GY;omega) (keyOf_int_mk IS H) u;have s:=r.grown;have g:JI (D.put (.int .i64 k) d)=m+1:=by
  rw[size_put (h1.tidy qU),h2,MpN.gone h5 I];simp
 have l:=yG F;rw[g] at l;have n:∀ {f:Fs}{ao:Option G1},SlN w P f ao->SlN w' P f ao:=λS=>S.mono (λi E G=>s.block i G (λe=>J (by cases e;exact E))) s.size (λ_ h _=>h);refine⟨w',C,⟨_,l,g,λj z c=>?_,λj c=>?_⟩,r⟩
 ·by_cases e:j=k
  ·subst e;simp only[if_true] at c;injection c with c
   subst c;rw[has_put_same h1.isMap (Am _),atKey_put_same h1.isMap (Am _)];exact⟨rfl,ao,cap,u,n S⟩
  ·have a:Lit.int .i64 j≠Lit.int .i64 k:=λh=>e (by simp at h;omega);simp only[e,if_false] at c;rw[has_put_other a,atKey_put_other a];obtain⟨x,q,o,q2,v⟩:=K j z c;exact⟨x,q,o,q2,n v⟩
 ·by_cases e:j=(k:Nat)
  ·exact⟨k,y,e,if_pos rfl⟩
  ·have a:Lit.int .i64 j≠Lit.int .i64 k:=λh=>e (by simp at h;exact h);rw[has_put_other a] at c;obtain⟨B,z,rfl,p⟩:=h5 j c;exact⟨B,z,rfl,(if_neg (λh=>e (by rw[h]))).trans p⟩
theorem jd {w:GE}{b:Nat}{a0 a1:GJ}{t:Hl}(h:w.heap[b]?=GB (.cells #[a0,a1] t (0,0))):w.cell? ⟨b,0,GA⟩=GB a0/\w.cell? ⟨b,1,GA⟩=GB a1/\∀ j,w.frozen? ⟨b,j,GA⟩=false:=by
 refine⟨?_,?_,λj=>Ik w b j _ t h⟩<;>simp[Hf w b _ _ t (0,0) h]
theorem rP (e:Ex)(ao:Option G1)(cap:Nat)(w:GE)(o:Wd w)(g:e.nm.length<=GY):GR GD 180 #[exN e ao cap] w λx w'=>x=.returned (.bool (nmP e.k e.nm))/\GK w.heap.size w w':=by
 have c:GK w.heap.size w (w.alloc (zNd e ao cap)):=(GN _ w).alloc (GC _) _;have m:(w.alloc (zNd e ao cap)).heap[w.heap.size]?=GB (zNd e ao cap):=GH w _;have j:=o.below c;obtain⟨W,i⟩:=exq (nmP e.k e.nm);rw[<-i];have b:Hid (W=nmP e.k e.nm):=i;clear i;rw[dS];go_enter Tryz.func180,Tryz.ntmps180;go_upto_region 1 with fail;generalize w.alloc (zNd e ao cap)=w0 at *;obtain⟨bx,a⟩:=exq w.heap.size;rw[<-a] at m c ⊢;have f:Hid (bx=w.heap.size):=a;clear a;obtain⟨p0,p1,p2,p3,n⟩:=el m;cases h:(e.k==23) with
 | true =>
  have d:Hid (W=eE e.nm):=by show W=_;rw[b.out];simp[nmP,h]
  have c1:=EF ⟨e.nm.toArray⟩ w0 j (by show e.nm.toArray.size<=GY;simpa using g);clear b;go_wp2_with (go_at_call 89;refine c1.mono ?_;rintro x w1 ⟨rfl,b1⟩);have p:=c.trans (b1.mono (by have:=f.out;have:=c.size;omega));clear c1 p0 p1 p2 p3 n;go_wp2;go_ret;rw[d.out];exact⟨rfl,by rw[<-f.out];exact p⟩
 | false =>
  cases hE:(e.nm==[]) with
  | true =>
   have l:=ei hE;have d:Hid (W=true):=by show W=_;rw[b.out];simp[nmP,h,hE]
   clear b;go_wp2;go_ret;rw[d.out];exact⟨rfl,by rw[<-f.out];exact c⟩
  | false =>
   have l:=ei hE;have d:Hid (W=false):=by show W=_;rw[b.out];simp[nmP,h,hE]
   clear b;go_wp2;go_ret;rw[d.out];exact⟨rfl,by rw[<-f.out];exact c⟩
theorem np (w:GE)(P:Nat->Prop)(v:GJ)(ks:List Int)(i:Nat)(o:i<10)(n:ks.length<=1000000000)(h:Inw w P v ks):GR GD 221 #[v,.int .i64 i] w λx w'=>x=.returned (.int .i64 (wkP ks i))/\w'=w:=by
 obtain⟨ao,cap,rfl,h⟩:=h;obtain⟨W,j⟩:=exq (wkP ks i);rw[<-j];have e:Hid (W=wkP ks i):=j;clear j;by_cases d:i<ks.length
 ·have f:ks[i]?=GB ks[i]:=GI d;rcases h with rfl|⟨b,off,rfl,-,p,k⟩
  ·simp at d
  have c1:=k i _ f;have a:Hid (W=if ks[i]=4 then 0 else ks[i]):=by show W=_;rw[e.out];unfold wkP;rw[f]
  generalize ks[i]=y at *;have m:¬(ks.length:Int)<=(i:Int):=by omega
  clear e f k;by_cases c:y=4
  ·have g:(y==4)=true:=by simpa using c
   have a:Hid (W=0):=by show W=_;rw[a.out,if_pos c]
   clear c;go_enter Tryz.func221,Tryz.ntmps221;go_wp2;go_ret;rw[a.out];exact⟨rfl,rfl⟩
  ·have g:(y==4)=false:=by simpa using c
   have a:Hid (W=y):=by show W=_;rw[a.out,if_neg c]
   clear c;go_enter Tryz.func221,Tryz.ntmps221;go_wp2;go_ret;rw[a.out];exact⟨rfl,rfl⟩
 ·have m:(ks.length:Int)<=(i:Int):=by omega
  have a:Hid (W=0):=by show W=_;rw[e.out];unfold wkP;rw[He (by omega)]
  clear e h;go_enter Tryz.func221,Tryz.ntmps221;go_wp2;go_ret;rw[a.out];exact⟨rfl,rfl⟩
theorem CU (e:Ex)(ao:Option G1)(cap ar b i:Nat)(w:GE)(r:ar<=1000)(p:b<=1000)(q:i<=1000000000):GR GD 182 #[.agg #[.int .i64 ar,.int .i64 b],exN e ao cap,.int .i64 i] w λx w'=>x=.returned (.agg #[.int .i64 ((ep e.k i ar b).1:Nat),.int .i64 ((ep e.k i ar b).2:Nat)])/\GK w.heap.size w w':=by
 have h:∀ m l j:Obj,GK w.heap.size w (((w.alloc m).alloc l).alloc j):=λm l j=>(((GN _ w).alloc (GC _) _).alloc (by simp) _).alloc (by simp;omega) _;obtain⟨A,g⟩:=exq ((ep e.k i ar b).1);obtain⟨B,f⟩:=exq ((ep e.k i ar b).2);rw[<-g,<-f,dS];have d:Hid (A=(ep e.k i ar b).1/\B=(ep e.k i ar b).2):=⟨g,f⟩;clear g f;go_enter Tryz.func182,Tryz.ntmps182;cases n:(e.k != 21) with
 | true =>
  have a:e.k≠21:=by simpa using n
  have c:Hid ((A:Int)=ar/\(B:Int)=b):=by
   obtain⟨h1,h2⟩:=d.out;unfold ep at h1 h2;rw[if_neg a] at h1 h2;exact⟨by rw[h1],by rw[h2]⟩
  clear d a;go_wp2;exact GG (v:=.agg #[.int .i64 ar,.int .i64 b]) (by simp[results,Tryz.results182,go_sem]) rfl ⟨by rw[c.out.1,c.out.2],h _ _ _⟩
 | false =>
  have a:e.k=21:=by simpa using n
  by_cases o:i=0
  ·subst o;have c:Hid ((A:Int)=ar/\(B:Int)=(b:Int)+1):=by
    obtain⟨h1,h2⟩:=d.out;unfold ep at h1 h2;rw[if_pos a] at h1 h2;exact⟨by rw[h1];rfl,by rw[h2];rfl⟩
   clear d a;go_wp2;exact GG (v:=.agg #[.int .i64 ar,.int .i64 ((b:Int)+1)]) (by simp[results,Tryz.results182,go_sem]) rfl ⟨by rw[c.out.1,c.out.2],h _ _ _⟩
  ·have s:(0:Int)<(i:Int):=by omega
   have c:Hid ((A:Int)=(ar:Int)+1/\(B:Int)=(b:Int)+1):=by
    obtain⟨h1,h2⟩:=d.out;unfold ep at h1 h2;rw[if_pos a] at h1 h2;simp only[if_neg o] at h1 h2;exact⟨by rw[h1];rfl,by rw[h2];rfl⟩
   clear d a;go_wp2;exact GG (v:=.agg #[.int .i64 ((ar:Int)+1),.int .i64 ((b:Int)+1)]) (by simp[results,Tryz.results182,go_sem]) rfl ⟨by rw[c.out.1,c.out.2],h _ _ _⟩
theorem pI (e:Ex)(ao:Option G1)(cap ar r rb nc:Nat)(w:GE)(z:Option G1)(q:Nat)(a1 a2:GJ)(t:w.heap[rb]?=GB (.cells #[.slice z nc q,a1,a2] 170 (0,0))) :
  GR GD 181 #[.pointer (GB ⟨rb,0,GA⟩),exN e ao cap,.agg #[.int .i64 ar,.int .i64 r]] w λx w'=>x=.returned (.bool (nuP nc e.k e.n ar))/\GK w.heap.size w w':=by
 obtain⟨W,s⟩:=exq (nuP nc e.k e.n ar);rw[<-s];have a:Hid (W=nuP nc e.k e.n ar):=s;clear s;obtain⟨w0,j⟩:=exq ((w.alloc (zNd e ao cap)).alloc (.cells #[.int .i64 ar,.int .i64 r] 173));have g:GK w.heap.size w w0:=by rw[j];exact((GN _ w).alloc (GC _) _).alloc (by simp) _
 have B:w0.heap[w.heap.size]?=GB (zNd e ao cap):=by
  rw[j];exact(GO _ _ _ (by simp)).trans (GH w _)
 have A:w0.heap[w.heap.size+1]?=GB (.cells #[.int .i64 ar,.int .i64 r] 173):=by
  rw[j]
  have:=GH (w.alloc (zNd e ao cap)) (.cells #[.int .i64 ar,.int .i64 r] 173)
  simpa using this
 have D:=(g.block _ (GF t)).trans t;rw[dS];go_enter Tryz.func181,Tryz.ntmps181;go_upto_region 1 with fail;rw[<-j];obtain⟨bx,o⟩:=exq w.heap.size;rw[<-o] at B A g ⊢;have i:Hid (bx=w.heap.size):=o;clear o j;obtain⟨p0,p1,p2,p3,L⟩:=el B;obtain⟨s0,G,F⟩:=jd A;obtain⟨K,J,I,H⟩:=lq D;clear B A D t;by_cases h1:e.k=1
 ·have b1:(e.k==1)=true:=by simpa using h1
  have c:Hid (W=true):=by show W=_;rw[a.out];simp[nuP,h1]
  clear a h1;go_wp2;go_ret;rw[c.out];exact⟨rfl,by rw[<-i.out];exact g⟩
 have b1:(e.k==1)=false:=by simpa using h1
 by_cases h2:e.k=2
 ·have b2:(e.k==2)=true:=by simpa using h2
  cases l:(e.n==0) with
  | true =>
   have c:Hid (W=true):=by show W=_;rw[a.out];simp[nuP,h2,l]
   clear a h1 h2;go_wp2;go_ret;rw[c.out];exact⟨rfl,by rw[<-i.out];exact g⟩
  | false =>
   have c:Hid (W=(e.n==1)):=by show W=_;rw[a.out];simp[nuP,h2,l]
   clear a h1 h2;go_wp2;go_ret;rw[c.out];exact⟨rfl,by rw[<-i.out];exact g⟩
 have b2:(e.k==2)=false:=by simpa using h2
 by_cases h:e.k=3
 ·have b3:(e.k==3)=true:=by simpa using h
  have c:Hid (W=decide (0<=e.n)):=by show W=_;rw[a.out];simp[nuP,h]
  clear a h1 h2 h;go_wp2;go_ret;rw[c.out];exact⟨rfl,by rw[<-i.out];exact g⟩
 have b3:(e.k==3)=false:=by simpa using h
 by_cases h5:e.k=5
 ·have E:(e.k==5)=true:=by simpa using h5
  by_cases l:0<=e.n
  ·have c:Hid (W=decide (e.n<(ar:Int))):=by show W=_;rw[a.out];simp[nuP,h5,l]
   clear a h1 h2 h h5;go_wp2;go_ret;rw[c.out];exact⟨rfl,by rw[<-i.out];exact g⟩
  ·have c:Hid (W=false):=by show W=_;rw[a.out];simp[nuP,h5];omega
   clear a h1 h2 h h5;go_wp2;go_ret;rw[c.out];exact⟨rfl,by rw[<-i.out];exact g⟩
 have E:(e.k==5)=false:=by simpa using h5
 by_cases b:e.k=20
 ·have y:(e.k==20)=true:=by simpa using b
  by_cases l:1<=e.n
  ·have c:Hid (W=decide (e.n<=10)):=by show W=_;rw[a.out];simp[nuP,b,l]
   clear a h1 h2 h h5 b;go_wp2;go_ret;rw[c.out];exact⟨rfl,by rw[<-i.out];exact g⟩
  ·have c:Hid (W=false):=by show W=_;rw[a.out];simp[nuP,b];omega
   clear a h1 h2 h h5 b;go_wp2;go_ret;rw[c.out];exact⟨rfl,by rw[<-i.out];exact g⟩
 have y:(e.k==20)=false:=by simpa using b
 by_cases d:e.k=21
 ·have v:(e.k==21)=true:=by simpa using d
  by_cases l:1<=e.n
  ·have c:Hid (W=decide (e.n<=6)):=by show W=_;rw[a.out];simp[nuP,d,l]
   clear a h1 h2 h h5 b d;go_wp2;go_ret;rw[c.out];exact⟨rfl,by rw[<-i.out];exact g⟩
  ·have c:Hid (W=false):=by show W=_;rw[a.out];simp[nuP,d];omega
   clear a h1 h2 h h5 b d;go_wp2;go_ret;rw[c.out];exact⟨rfl,by rw[<-i.out];exact g⟩
 have v:(e.k==21)=false:=by simpa using d
 by_cases f:e.k=26
 ·have u:(e.k==26)=true:=by simpa using f
  have bdr:∀ m,GK w0.heap.size w0 (w0.drewN m):=λm=>⟨rfl,rfl,rfl,GC _,λ_ _=>rfl⟩;have p:Hid (bx<=w0.heap.size):=by have:=g.size;show bx<=_;rw[i.out];exact g.size
  by_cases l:0<=e.n
  ·have c:Hid (W=decide (e.n<(nc:Int))):=by show W=_;rw[a.out];simp[nuP,f,l]
   clear a h1 h2 h h5 b d f;go_wp2_with fail
   go_quiet (fail)
   have C:=g.trans ((bdr nq).mono p.out);go_wp2;go_ret;rw[c.out];exact⟨rfl,by rw[<-i.out];exact C⟩
  ·have c:Hid (W=false):=by show W=_;rw[a.out];simp[nuP,f];omega
   have M:decide (0<=e.n)=false:=decide_eq_false l;clear a h1 h2 h h5 b d f;go_wp2_with fail
   go_quiet (fail)
   have C:=g.trans ((bdr nq).mono p.out);go_wp2;go_ret;rw[c.out];exact⟨rfl,by rw[<-i.out];exact C⟩
 have u:(e.k==26)=false:=by simpa using f
 have c:Hid (W=(e.n==0)):=by show W=_;rw[a.out];simp[nuP,h1,h2,h,h5,b,d,f]
 clear a h1 h2 h h5 b d f;go_wp2;go_ret;rw[c.out];exact⟨rfl,by rw[<-i.out];exact g⟩
abbrev InA (w:GE)(v:GJ)(xs:List Int):Prop:=Inw w (λ_=>True) v xs
theorem ey {P:Nat->Prop}(w:GE)(xs:List Int)(t:Hl)(g c:Nat)(d:g=w.heap.size)(n:Nat)(b:n=xs.length)(e:P g):Inw (w.alloc (.cells (xs.map (GT .i64)).toArray t)) P (.slice (GB ⟨g,0,GA⟩) n c) xs:=by
 subst d;subst b;refine⟨_,c,rfl,?_⟩;refine .inr ⟨w.heap.size,0,rfl,e,by simp,λj x a=>?_⟩;rw[Hf _ _ _ _ _ _ (GH w _)];simp[a]
def vd (w:GE)(p:List Int × Int)(x:IG)(w':GE):Prop:=∃v,x=.returned (.agg #[v,.int .i64 p.2])/\Inw w' (Nw w.heap.size) v p.1/\GK w.heap.size w w'
def clP (n:Int):List Int × Int:=if n=1\/n=2 then ([3,3],2) else if n=3 then ([3,3],1) else if n=10 then ([3],3) else ([3],1)
def qfP (n:Int):List Int × Int:=if n=1\/n=2 then ([4,2],2) else if n=3 then ([4,2],1) else ([4,1],1)
theorem tG (n:Int)(w:GE):GR GD 222 #[.int .i64 n] w (vd w (clP n)):=by
 have b:∀ e d:Obj,GK w.heap.size w ((w.alloc e).alloc d):=λe d=>((GN _ w).alloc (GC _) _).alloc (by simp) _;unfold clP;by_cases h1:n=1
 ·subst h1;simp only[Int.reduceEq,or_false,false_or,or_true,true_or,if_true,if_false,or_self];go_enter Tryz.func222,Tryz.ntmps222;go_wp2;exact GG (v:=.agg #[.slice (GB ⟨w.heap.size+1,0,GA⟩) 2 2,.int .i64 2]) (by simp[results,JT,go_sem]) rfl ⟨_,rfl,ey _ [3,3] _ _ _ (by simp) _ rfl (by show w.heap.size<=_;omega),b _ _⟩
 have b1:(n==1)=false:=by simpa using h1
 by_cases h2:n=2
 ·subst h2;simp only[Int.reduceEq,or_false,false_or,or_true,true_or,if_true,if_false,or_self];go_enter Tryz.func222,Tryz.ntmps222;go_wp2;exact GG (v:=.agg #[.slice (GB ⟨w.heap.size+1,0,GA⟩) 2 2,.int .i64 2]) (by simp[results,JT,go_sem]) rfl ⟨_,rfl,ey _ [3,3] _ _ _ (by simp) _ rfl (by show w.heap.size<=_;omega),b _ _⟩
 have b2:(n==2)=false:=by simpa using h2
 by_cases c:n=3
 ·subst c;simp only[Int.reduceEq,or_false,false_or,or_true,true_or,if_true,if_false,or_self];go_enter Tryz.func222,Tryz.ntmps222;go_wp2;exact GG (v:=.agg #[.slice (GB ⟨w.heap.size+1,0,GA⟩) 2 2,.int .i64 1]) (by simp[results,JT,go_sem]) rfl ⟨_,rfl,ey _ [3,3] _ _ _ (by simp) _ rfl (by show w.heap.size<=_;omega),b _ _⟩
 have b3:(n==3)=false:=by simpa using c
 by_cases a:n=10
 ·subst a;simp only[Int.reduceEq,or_false,false_or,or_true,true_or,if_true,if_false,or_self];go_enter Tryz.func222,Tryz.ntmps222;go_wp2;exact GG (v:=.agg #[.slice (GB ⟨w.heap.size+1,0,GA⟩) 1 1,.int .i64 3]) (by simp[results,JT,go_sem]) rfl ⟨_,rfl,ey _ [3] _ _ _ (by simp) _ rfl (by show w.heap.size<=_;omega),b _ _⟩
 have f:(n==10)=false:=by simpa using a
 simp only[h1,h2,c,a,or_self,if_false];clear h1 h2 c a;go_enter Tryz.func222,Tryz.ntmps222;go_wp2;exact GG (v:=.agg #[.slice (GB ⟨w.heap.size+1,0,GA⟩) 1 1,.int .i64 1]) (by simp[results,JT,go_sem]) rfl ⟨_,rfl,ey _ [3] _ _ _ (by simp) _ rfl (by show w.heap.size<=_;omega),b _ _⟩
theorem sQ (n:Int)(w:GE):GR GD 223 #[.int .i64 n] w (vd w (qfP n)):=by
 have b:∀ d c:Obj,GK w.heap.size w ((w.alloc d).alloc c):=λd c=>((GN _ w).alloc (GC _) _).alloc (by simp) _;unfold qfP;by_cases h1:n=1
 ·subst h1;simp only[Int.reduceEq,or_false,false_or,or_true,true_or,if_true,if_false,or_self];go_enter Tryz.func223,Tryz.ntmps223;go_wp2;exact GG (v:=.agg #[.slice (GB ⟨w.heap.size+1,0,GA⟩) 2 2,.int .i64 2]) (by simp[results,Tryz.results223,go_sem]) rfl ⟨_,rfl,ey _ [4,2] _ _ _ (by simp) _ rfl (by show w.heap.size<=_;omega),b _ _⟩
 have b1:(n==1)=false:=by simpa using h1
 by_cases h2:n=2
 ·subst h2;simp only[Int.reduceEq,or_false,false_or,or_true,true_or,if_true,if_false,or_self];go_enter Tryz.func223,Tryz.ntmps223;go_wp2;exact GG (v:=.agg #[.slice (GB ⟨w.heap.size+1,0,GA⟩) 2 2,.int .i64 2]) (by simp[results,Tryz.results223,go_sem]) rfl ⟨_,rfl,ey _ [4,2] _ _ _ (by simp) _ rfl (by show w.heap.size<=_;omega),b _ _⟩
 have b2:(n==2)=false:=by simpa using h2
 by_cases a:n=3
 ·subst a;simp only[Int.reduceEq,or_false,false_or,or_true,true_or,if_true,if_false,or_self];go_enter Tryz.func223,Tryz.ntmps223;go_wp2;exact GG (v:=.agg #[.slice (GB ⟨w.heap.size+1,0,GA⟩) 2 2,.int .i64 1]) (by simp[results,Tryz.results223,go_sem]) rfl ⟨_,rfl,ey _ [4,2] _ _ _ (by simp) _ rfl (by show w.heap.size<=_;omega),b _ _⟩
 have b3:(n==3)=false:=by simpa using a
 simp only[h1,h2,a,or_self,if_false];clear h1 h2 a;go_enter Tryz.func223,Tryz.ntmps223;go_wp2;exact GG (v:=.agg #[.slice (GB ⟨w.heap.size+1,0,GA⟩) 2 2,.int .i64 1]) (by simp[results,Tryz.results223,go_sem]) rfl ⟨_,rfl,ey _ [4,1] _ _ _ (by simp) _ rfl (by show w.heap.size<=_;omega),b _ _⟩
theorem AS (w:GE)(v1 v2:GJ)(xs a:List Int)(h1:InA w v1 xs)(h2:InA w v2 a)(J:xs.length<=1000000000) :
  GR GD 184 #[v1,v2] w λx w'=>x=.returned (.bool (decide (xs=a)))/\GK w.heap.size w w':=by
 obtain⟨W,z⟩:=exq (decide (xs=a));rw[<-z];have h:Hid (W=decide (xs=a)):=z;clear z;obtain⟨a1,c1,rfl,h1⟩:=h1;obtain⟨a2,c2,rfl,h2⟩:=h2;go_enter Tryz.func184,Tryz.ntmps184;by_cases c:xs.length=a.length
 ·have A:((xs.length:Int) != (a.length:Int))=false:=by rw[c];simp
  have D:Hid (xs.length=a.length):=c;clear c;go_wp2;go_loopw [13] (λv wr=>∃k:Nat,k<=xs.length/\v=.int .i64 k/\Hid (∀ j,j<k->xs[j]?=a[j]?)/\GK w.heap.size w wr) (λv _=>xs.length-(Hh v).toNat)
  case atStart=>exact⟨0,by omega,by go_num,λj r=>absurd r (Hr _),GN _ _⟩
  case round =>
   obtain⟨k,K,rfl,b,o⟩:=hrel;by_cases l:k<xs.length
   ·have C:k<a.length:=by have:=D.out;omega
    have e:=GI l;have hy1:=GI C;rcases h1 with rfl|⟨g1,H,rfl,-,t,n⟩
    ·simp at l
    rcases h2 with rfl|⟨g2,G,rfl,-,s,m⟩
    ·simp at C
    have F:=(o.cell (p:=⟨g1,H+k,GA⟩) t).trans (n k _ e);have E:=(o.cell (p:=⟨g2,G+k,GA⟩) s).trans (m k _ hy1);generalize xs[k]=x at F e;generalize a[k]=y at E hy1;have q:(k:Int)<(xs.length:Int):=by omega
    have g:Hid (xs[k]?=GB x/\a[k]?=GB y):=⟨e,hy1⟩;clear e hy1 n m A;by_cases i:x=y
    ·have u:(x != y)=false:=by simpa using i
     have hn2:Hid (∀ j,j<k+1->xs[j]?=a[j]?):=by
      intro j r;rcases Nat.lt_succ_iff_lt_or_eq.1 r with f|rfl
      ·exact b.out j f
      ·rw[g.out.1,g.out.2,i]
     clear b g i h;go_wp2_with fail
     go_quiet (fail)
     have B:=o.trans (show GK w.heap.size wr (wr.drewN nq) from ⟨rfl,rfl,rfl,GC _,λ_ _=>rfl⟩);go_wp2;go_roundw
     case rel=>exact⟨k+1,by omega,by go_num,hn2,B⟩
     case measure=>simp[Hh];omega
    ·have u:(x != y)=true:=by simpa using i
     have d:Hid (W=false):=by
      show W=_;rw[h.out];apply decide_eq_false;intro f;rw[f,g.out.2] at g
      have:=g.out.1
      injection this with this
      exact i this.symm
     clear b g i h;go_wp2_with fail
     go_quiet (fail)
     have B:=o.trans (show GK w.heap.size wr (wr.drewN nq) from ⟨rfl,rfl,rfl,GC _,λ_ _=>rfl⟩);go_wp2;go_ret;rw[d.out];exact⟨rfl,B⟩
   ·have q:¬(k:Int)<(xs.length:Int):=by omega
    have d:Hid (W=true):=by
     show W=_;rw[h.out];apply decide_eq_true;apply Jj;intro j;rcases JJ j k with f|f
     ·exact b.out j f
     ·rw[He (by omega),He (by have:=D.out;omega)]
    clear b h h1 h2 A;go_wp2;go_ret;rw[d.out];exact⟨rfl,o⟩
 ·have A:((xs.length:Int) != (a.length:Int))=true:=by simp;omega
  have d:Hid (W=false):=by
   show W=_;rw[h.out];exact decide_eq_false (λf=>c (by rw[f]))
  clear h c h1 h2;go_wp2;go_ret;rw[d.out];exact⟨rfl,GN _ _⟩
def nlB (c:Int):Bool:=decide (c<0)||decide (4<c)
theorem yb (c:Int)(w:GE):GR GD 119 #[.int .i64 c] w λx w'=>x=.returned (.bool (nlB c))/\w'=w:=by
 unfold nlB;by_cases b:c<0
 ·have a:decide (c<0)=true:=decide_eq_true b;rw[a];go_enter Tryz.func119,Tryz.ntmps119;go_wp2;go_ret;exact⟨rfl,rfl⟩
 ·have a:decide (c<0)=false:=decide_eq_false b;rw[a];simp only[Bool.false_or];go_enter Tryz.func119,Tryz.ntmps119;go_wp2;go_ret;exact⟨rfl,rfl⟩
theorem tt (w:GE)(v:GJ)(xs:List Int)(h:InA w v xs)(u:xs.length<=1000000000) :
  GR GD 179 #[v,.func (.func 119) #[] #[]] w λx w'=>(∃k:Int,x=.returned (.int .i64 k)/\decide (0<=k)=xs.any nlB)/\w'=w:=by
 obtain⟨W,p⟩:=exq (xs.any nlB);rw[<-p];have l:Hid (W=xs.any nlB):=p;clear p;obtain⟨a1,c1,rfl,h⟩:=h;go_enter Tryz.func179,Tryz.ntmps179;go_wp2;go_loopw [8] (λv wr=>∃k:Nat,k<=xs.length/\v=.int .i64 k/\Hid (∀ j c,j<k->xs[j]?=GB c->nlB c=false)/\wr=w) (λv _=>xs.length-(Hh v).toNat)
 case atStart=>exact⟨0,by omega,by go_num,λj c g=>absurd g (Hr _),rfl⟩
 case round =>
  obtain⟨k,y,rfl,b,rfl⟩:=hrel;by_cases f:k<xs.length
  ·have d:xs[k]?=GB xs[k]:=GI f;rcases h with rfl|⟨g1,t,rfl,-,r,i⟩
   ·simp at f
   have q:=i k _ d;generalize xs[k]=x at q d;have o:(k:Int)<(xs.length:Int):=by omega
   have n:Hid (xs[k]?=GB x):=d;have a:=λw=>yb x w;clear d i;cases m:nlB x with
   | false =>
    rw[m] at a;have hn2:Hid (∀ j c,j<k+1->xs[j]?=GB c->nlB c=false):=by
     intro j c g a;rcases Nat.lt_succ_iff_lt_or_eq.1 g with s|rfl
     ·exact b.out j c s a
     ·rw[n.out] at a;injection a with a
      rw[<-a,m]
    clear b n l;go_wp2_with (go_at_call 119;refine(a _).mono ?_;rintro z w2 ⟨rfl,rfl⟩);go_wp2;go_roundw
    case rel=>exact⟨k+1,by omega,by go_num,hn2,trivial⟩
    case measure=>simp[Hh];omega
   | true =>
    rw[m] at a;have e:Hid (W=true):=by
     show W=_;rw[l.out];exact List.any_eq_true.2 ⟨x,Is n.out,m⟩
    clear b n l;go_wp2_with (go_at_call 119;refine(a _).mono ?_;rintro z w2 ⟨rfl,rfl⟩);go_wp2;go_ret;rw[e.out];exact⟨⟨_,rfl,by simp⟩,rfl⟩
  ·have o:¬(k:Int)<(xs.length:Int):=by omega
   have e:Hid (W=false):=by
    show W=_;rw[l.out,List.any_eq_false];intro c a;obtain⟨j,g,h2⟩:=List.mem_iff_getElem.1 a
    have:=b.out j c (by omega) (by rw[GI g,h2])
    simp[this]
   clear b l h;go_wp2;go_ret;rw[e.out];exact⟨⟨_,rfl,by decide⟩,rfl⟩
theorem pd (w:GE)(v:GJ)(xs:List Int)(h:InA w v xs)(a:xs.length<=1000000000) :
  GR GD 118 #[v,.func (.func 119) #[] #[]] w λx w'=>x=.returned (.bool (xs.any nlB))/\w'=w:=by
 have c1:=tt w v xs h a;generalize xs.any nlB=W at *;go_enter Tryz.func118,Tryz.ntmps118;go_wp2_with fail;refine c1.mono ?_;rintro z w2 ⟨⟨k,rfl,b⟩,rfl⟩;subst b;go_wp2;go_ret;exact⟨rfl,rfl⟩
theorem AJ (n:Nat)(a:n<=100000):bits BinOp.and IntKind.u64 (n:Int) 4294967295=n:=by
 have h:=bits_and_u64_nat n 4294967295 (by omega) (by omega);have h2:n &&& 4294967295=n:=by
  have:=Nat.and_two_pow_sub_one_eq_mod n 32
  rw[show (2 ^ 32-1:Nat)=4294967295 from rfl] at this;rw[this];exact Nat.mod_eq_of_lt (by omega)
 rw[h2] at h;exact h
theorem Dv (n:Nat)(a:n<=100000)(w:GE):GR GD 188 #[.int .u64 1,.int .u64 (n:Nat)] w λx w'=>x=.returned (.tuple #[.int .u64 0,.int .u64 (n:Nat)])/\w'=w:=by
 have a1:bits BinOp.and IntKind.u64 1 4294967295=1:=AJ 1 (by omega);have a0:bits BinOp.and IntKind.u64 0 4294967295=0:=AJ 0 (by omega);have an:=AJ n a;have b:(n:Int) / 4294967296=0:=by omega
 go_enter Tryz.func188,Tryz.ntmps188;go_wp2;exact GG (v:=.tuple #[.int .u64 0,.int .u64 (n:Nat)]) (by simp[results,Tryz.results188,go_sem]) rfl ⟨rfl,rfl⟩
theorem DK (n:Nat)(b:n<=100000)(w:GE):GR GD 121 #[.int .u64 1,.int .u64 (n:Nat)] w λx w'=>x=.returned (.tuple #[.int .u64 0,.int .u64 (n:Nat)])/\w'=w:=by
 have a:=λw=>Dv n b w;go_enter Tryz.func121,Tryz.ntmps121;go_wp2_with fail;refine(a _).mono ?_;rintro z w1 ⟨rfl,rfl⟩;go_wp2;exact GG (v:=.tuple #[.int .u64 0,.int .u64 (n:Nat)]) (by simp[results,Tryz.results121,go_sem]) rfl ⟨rfl,rfl⟩
theorem pu:(Tryz.prog.info? 3).map (λi=>(i.zero,i.size,i.bytes))=GB (GB (.int .i64 0),1,8):=by kernel_rfl
theorem rp {a cs:List GJ}{k:Nat}{v:GJ}(d:∀ j,j<k->a[j]?=GB v)(b:∀ j,j<cs.length->cs[j]?=GB v)(e:k+cs.length<=a.length):∀ j,j<k+cs.length->(JO a k cs)[j]?=GB v:=by
 intro j f;unfold JO;rcases JJ j k with h1|h1
 ·rw[Iu (by simp;omega),List.getElem?_take_of_lt h1];exact d j h1
 ·have c:(a.take k).length=k:=by simp;omega
  rw[Ig (by omega),c,Iu (by omega)];exact b (j-k) (by omega)
theorem jG {P:Jr}{w:GE}(n q p b:Hl)(s:P.underlying n=GB (.slice b))(i:(P.info? b).map (·.size)=GB 1)
  (dp sp:Option G1) (c f a d:Nat) (g off:Nat) (h:List GJ) (t:Hl) (r:w.heap[g]?=GB (.cells h.toArray t (0,0))) (cs:List GJ) (u:cs.length=Nat.min a c)
  (l:0<cs.length->dp=GB ⟨g,off,GA⟩/\∃o,sp=GB o/\∀ j v,cs[j]?=GB v->w.cell? (o.add j)=GB v)
  (m:off+cs.length<=h.length) (h1:∀ v ∈ cs,v.oneCell'=true) :
  ∃w',(Builtin.copy_ #[n,q] p #[.slice dp c f,.slice sp a d]).run P w=.ok (goInt cs.length) w'/\w'.heap[g]?=GB (.cells (JO h off cs).toArray t (0,0))/\GK g w w':=by
 by_cases x:cs.length=0
 ·obtain rfl:cs=[]:=I1 x;have e:=run_copy_none (P:=P) w n q p b dp sp c f a d s i (by simpa using u.symm);exact⟨w,e,by simpa [JO] using r,GN _ _⟩
 ·obtain⟨rfl,o,rfl,k⟩:=l (by omega);have e:=run_copy_row (P:=P) w n q p b g off c f o a d h.toArray t cs s i r u k (by simpa using m) h1;exact⟨_,e,by simpa [JO] using setRow_heap w g _ _ t _ r,below_setRow (GN _ _) (GC _) _⟩
theorem zL (w:GE)(b off c n:Nat)(hn:n<=100000)(hb:b<w.heap.size)(hc:w.cell? ⟨b,off,GA⟩=GB (.int .i64 3)) :
  GR GD 73 #[.slice (GB ⟨b,off,GA⟩) 1 c,.int .i64 n] w λx w'=>∃v,x=.returned v/\Inw w' (Nw w.heap.size) v (Hk n 3)/\GK w.heap.size w w':=by
 obtain⟨ii,K,I,u,H⟩:=ek pu;have mk:∀ w:GE,(Instr.makeSlice 35 (.int .i64 n) (.int .i64 n)).run GD w=.ok (.slice (GB ⟨w.heap.size,0,GA⟩) n n) (w.alloc (.cells (II (GT .i64 0).cells (n*1)) 3)):=λw=>by
  have:=run_make (P:=GD) w 35 3 ii _ Hu K I .i64 .i64 n n (by omega) (Int.le_refl _) (by rw[H];omega) (by omega)
  rw[u] at this;simpa only[If] using this
 obtain⟨X,hX,ab⟩:∃X:List GJ,II (GT .i64 0).cells (n*1)=X.toArray/\X.length=n:=⟨(II (GT .i64 0).cells (n*1)).toList,by simp,by simp[II,Value.cells]⟩;rw[hX] at mk;have B0:GK w.heap.size w (w.alloc (.cells X.toArray 3)):=(GN _ w).alloc (GC _) _;have E0:(w.alloc (.cells X.toArray 3)).heap[w.heap.size]?=GB (.cells X.toArray 3 (0,0)):=GH w _;have c0:=(B0.cell (p:=⟨b,off,GA⟩) hb).trans hc;have m1:=λw=>DK n hn w;clear hX hc;go_enter Tryz.func73,Tryz.ntmps73;go_wp2_with fail;refine(m1 _).mono ?_;rintro z w1 ⟨rfl,rfl⟩;go_upto_region 7 with fail;generalize w1.alloc (.cells X.toArray 3)=w0 at *;obtain⟨g,hg⟩:=exq w1.heap.size;rw[<-hg] at E0 ⊢;have R:Hid (g=w1.heap.size):=hg;have L:(Tryz.prog.info? 3).map (·.size)=GB 1:=by rw[K];simp[u]
 obtain⟨cs,t⟩:=exq (Hk (min 1 n) (GT .i64 3));have o:cs.length=min 1 n:=by rw[t];simp
 have F:∀ j v,cs[j]?=GB v->j=0/\v=GT .i64 3:=by
  intro j v a;rw[t,Hw] at a;split at a
  ·injection a with a
   exact⟨by omega,a.symm⟩
  ·cases a
 have N:∀ j,j<cs.length->cs[j]?=GB (GT .i64 3):=by
  intro j e;rw[t,Hw];rw[o] at e;rw[if_pos e]
 clear t hg;obtain⟨w2,J,D,O⟩:=jG (P:=GD) (w:=w0) 35 35 3 3 Hu L (GB ⟨g,0,GA⟩) (GB ⟨b,off,GA⟩) n n 1 c g 0 X 3 E0 cs (by rw[o]) (λ_=>⟨rfl,_,rfl,λj v a=>by obtain⟨rfl,rfl⟩:=F j v a;exact c0⟩) (by omega) (λv a=>by obtain⟨j,e,h2⟩:=List.mem_iff_getElem.1 a;rw[(F j v (by rw[GI e,h2])).2];rfl);have i:(JO X 0 cs).length=n:=by rw[length_splice _ _ _ (by omega)];exact ab
 have q:Hid (∀ j,j<0+cs.length->(JO X 0 cs)[j]?=GB (GT .i64 3)):=rp (λj e=>absurd e (Hr _)) N (by omega);generalize JO X 0 cs=Y at *;have af:Hid (g=w1.heap.size):=R;have B2:GK w1.heap.size w1 w2:=B0.trans (by rw[<-R.out];exact O);have C:Hid (min 1 n<=n/\(0<n->0<min 1 n)):=⟨by omega,by omega⟩;rw[o,Hx] at q;have l:goInt cs.length=.int .i64 (min 1 n:Nat):=by rw[o];rfl
 rw[l] at J;generalize min 1 n=k1 at *;have h2:=GF D;clear E0 c0 N F B0 O l;go_wp2;go_loopw [8] (λv wr=>∃(k:Nat) (Y:List GJ),k<=n/\v=.int .i64 k/\(0<n->0<k)/\Y.length=n/\Hid (∀ j,j<k->Y[j]?=GB (GT .i64 3))/\wr.heap[g]?=GB (.cells Y.toArray 3 (0,0))/\GK w1.heap.size w1 wr) (λv _=>n-(Hh v).toNat)
 case atStart=>exact⟨k1,Y,C.out.1,rfl,C.out.2,i,q,D,B2⟩
 case round =>
  clear C i q D B2 J o h2;obtain⟨k,Y,hk,rfl,W,A,r,Q,S⟩:=hrel;by_cases ae:k<n
  ·have V:(k:Int)<(n:Int):=by omega
   have ac:GK wr.heap.size wr wr.drew:=⟨rfl,rfl,rfl,GC _,λ_ _=>rfl⟩;have Ed:wr.drew.heap[g]?=GB (.cells Y.toArray 3 (0,0)):=Q;obtain⟨f,s⟩:=exq (Hk (min k (n-k)) (GT .i64 3));have m:f.length=min k (n-k):=by rw[s];simp
   have M:∀ j,j<f.length->f[j]?=GB (GT .i64 3):=by
    intro j e;rw[s,Hw];rw[m] at e;rw[if_pos e]
   have E:∀ j v,f[j]?=GB v->j<k/\v=GT .i64 3:=by
    intro j v a;rw[s,Hw] at a;split at a
    ·injection a with a
     exact⟨by omega,a.symm⟩
    ·cases a
   clear s;obtain⟨w3,T,Z,aa⟩:=jG (P:=GD) (w:=wr.drew) 35 35 3 3 Hu L (GB ⟨g,k,GA⟩) (GB ⟨g,0,GA⟩) (n-k) (n-k) k n g k Y 3 Ed f (by rw[m]) (λ_=>⟨rfl,_,rfl,λj v a=>by
    obtain⟨e,rfl⟩:=E j v a;have ea:(I8 ⟨g,0,GA⟩ j)=⟨g,j,GA⟩:=by simp[I8];exact λh=>h.symm
    rw[ea,Hf _ _ _ _ _ _ Ed];simpa using r.out j e⟩) (by omega) (λv a=>by obtain⟨j,e,h2⟩:=List.mem_iff_getElem.1 a;rw[(E j v (by rw[GI e,h2])).2];rfl)
   have B:(JO Y k f).length=n:=by rw[length_splice _ _ _ (by omega)];exact A
   have y:Hid (∀ j,j<k+f.length->(JO Y k f)[j]?=GB (GT .i64 3)):=rp r.out M (by omega);generalize JO Y k f=Y3 at *;have B3:GK w1.heap.size w1 w3:=(S.trans (ac.mono S.size)).trans (by rw[<-R.out];exact aa);rw[m] at y;have l:goInt f.length=.int .i64 (min k (n-k):Nat):=by rw[m];rfl
   rw[l] at T;have ad:0<min k (n-k):=by have:=W (by omega);omega
   have U:k+min k (n-k)<=n:=by omega
   generalize min k (n-k)=d at *;clear r M E m l Q A Ed;go_wp2_with fail;go_region;go_wp2;go_roundw
   case rel=>exact⟨k+d,Y3,U,by simp,λ_=>by omega,B,y,Z,B3⟩
   case measure=>simp[Hh];omega
  ·have V:¬(k:Int)<(n:Int):=by omega
   have HR:Hid (∃v,I5 (.slice (GB ⟨g,0,GA⟩) n n)=I5 v/\Inw wr (Nw w1.heap.size) v (Hk n 3)/\GK w1.heap.size w1 wr):=by
    refine⟨_,rfl,⟨_,n,by simp,.inr ⟨g,0,rfl,by show w1.heap.size<=g;rw[R.out];exact GC _,GF Q,λj x G=>?_⟩⟩,S⟩;rw[Hx,Hf _ _ _ _ _ _ Q];rw[Hw] at G;split at G
    ·injection G with G
     subst G;simpa using r.out j (by omega)
    ·cases G
   clear r Q A S;go_wp2;go_ret;exact HR.out
theorem Ec {w:GE}{b:Nat}{a0 a1:GJ}{t:Hl}(h:w.heap[b]?=GB (.cells #[a0,a1] t (0,0)))(v0 v1:GJ):((w.setCell ⟨b,0,GA⟩ v0).setCell ⟨b,1,GA⟩ v1).heap[b]?=GB (.cells #[v0,v1] t (0,0)) :=
 (Blk.set (o:=λ_=>0) (i:=0) (Blk.set (o:=λ_=>0) (i:=0) ⟨h,rfl⟩ 0 v0) 1 v1).1
theorem Inw.nil {w:GE}{P:Nat->Prop}:Inw w P (.slice GA 0 0) []:=⟨GA,0,rfl,.inl rfl⟩
theorem xu (n:Int)(ks:List Int):eG 20 n ks=clP n:=rfl
theorem ph (n:Int)(ks:List Int):eG 21 n ks=qfP n:=rfl
theorem Bj (k0 n:Int)(nm:List UInt8)(a:Int)(f:Fs)(ao:Option G1)(cap:Nat)(w:GE)(v:GJ)(ks:List Int)(h:InA w v ks)(Q:ks.length<=4096) :
  GR GD 183 #[exN ⟨k0,n,nm,a,f⟩ ao cap,v] w (vd w (eG k0 n ks)):=by
 have j:∀ y x:Obj,GK w.heap.size w ((w.alloc y).alloc x):=λy x=>((GN _ w).alloc (GC _) _).alloc (by simp) _;have g:∀ y x V:Obj,GK w.heap.size w (((w.alloc y).alloc x).alloc V):=λy x V=>(j y x).alloc (by simp;omega) _;have R:=λy x=>h.below (j y x);have d:=λy x=>np ((w.alloc y).alloc x) _ v ks 0 (by omega) (by omega) (R y x);have e:=λy x=>np ((w.alloc y).alloc x) _ v ks 1 (by omega) (by omega) (R y x);obtain⟨av,cv,rfl,-⟩:=h;clear R;rw[dS];simp only;obtain⟨p,P⟩:=exq (eG k0 n ks);rw[<-P];have b:Hid (p=eG k0 n ks):=P;clear P;by_cases I:(1<=k0/\k0<=3)\/(5<=k0/\k0<=26)
 case neg =>
  have J:eG k0 n ks=([],0):=by
   unfold eG
   repeat rw[if_neg (by omega)]
  have i:Hid (p=([],0)):=b.out.trans J;have b1:∀ c:Int,(1<=c/\c<=3)\/(5<=c/\c<=26)->(k0==c)=false:=λc W=>by simp;omega
  have c1:=b1 1 (by omega);have c2:=b1 2 (by omega);have c3:=b1 3 (by omega);have c5:=b1 5 (by omega);have c6:=b1 6 (by omega);have c7:=b1 7 (by omega);have c8:=b1 8 (by omega);have c9:=b1 9 (by omega);have am:=b1 10 (by omega);have ak:=b1 11 (by omega);have aj:=b1 12 (by omega);have ai:=b1 13 (by omega);have ah:=b1 14 (by omega);have ag:=b1 15 (by omega);have af:=b1 16 (by omega);have ae:=b1 17 (by omega);have ad:=b1 18 (by omega);have ac:=b1 19 (by omega);have c20:=b1 20 (by omega);have c21:=b1 21 (by omega);have ab:=b1 22 (by omega);have aa:=b1 23 (by omega);have Z:=b1 24 (by omega);have Y:=b1 25 (by omega);have X:=b1 26 (by omega);clear I b1 d e g J;go_enter Tryz.func183,Tryz.ntmps183;go_wp2;exact GG (v:=.agg #[.slice GA 0 0,.int .i64 0]) (by simp[results,Hj,go_sem]) rfl (by rw[i.out];exact⟨_,rfl,Inw.nil,j _ _⟩)
 case pos =>
 have W:k0=1\/k0=2\/k0=3\/k0=5\/k0=6\/k0=7\/k0=8\/k0=9\/k0=10\/k0=11\/k0=12\/k0=13\/k0=14\/k0=15\/k0=16\/k0=17\/k0=18\/k0=19\/k0=20\/k0=21\/k0=22\/k0=23\/k0=24\/k0=25\/k0=26:=by omega
 clear I;go_enter Tryz.func183,Tryz.ntmps183;rcases W with rfl|rfl|rfl|rfl|rfl|rfl|rfl|rfl|rfl|rfl|rfl|rfl|rfl|rfl|rfl|rfl|rfl|rfl|rfl|rfl|rfl|rfl|rfl|rfl|rfl
 ·clear d e g;have i:Hid (p=([],1)):=b.out.trans rfl;clear b;go_wp2;exact GG (v:=.agg #[.slice GA 0 0,.int .i64 1]) (by simp[results,Hj,go_sem]) rfl (by rw[i.out];exact⟨_,rfl,Inw.nil,j _ _⟩)
 ·clear d e g;have i:Hid (p=([],2)):=b.out.trans rfl;clear b;go_wp2;exact GG (v:=.agg #[.slice GA 0 0,.int .i64 2]) (by simp[results,Hj,go_sem]) rfl (by rw[i.out];exact⟨_,rfl,Inw.nil,j _ _⟩)
 ·clear d e g;have i:Hid (p=([],3)):=b.out.trans rfl;clear b;go_wp2;exact GG (v:=.agg #[.slice GA 0 0,.int .i64 3]) (by simp[results,Hj,go_sem]) rfl (by rw[i.out];exact⟨_,rfl,Inw.nil,j _ _⟩)
 ·clear d e g;have i:Hid (p=([],3)):=b.out.trans rfl;clear b;go_wp2;exact GG (v:=.agg #[.slice GA 0 0,.int .i64 3]) (by simp[results,Hj,go_sem]) rfl (by rw[i.out];exact⟨_,rfl,Inw.nil,j _ _⟩)
 ·clear d e;have i:Hid (p=([1],1)):=b.out.trans rfl;clear b;go_wp2;exact GG (v:=.agg #[.slice (GB ⟨w.heap.size+1+1,0,GA⟩) 1 1,.int .i64 1]) (by simp[results,Hj,go_sem]) rfl (by rw[i.out];exact⟨_,rfl,ey _ [1] _ _ _ (by simp) _ rfl (by show w.heap.size<=_;omega),g _ _ _⟩)
 ·clear d e;have i:Hid (p=([2],2)):=b.out.trans rfl;clear b;go_wp2;exact GG (v:=.agg #[.slice (GB ⟨w.heap.size+1+1,0,GA⟩) 1 1,.int .i64 2]) (by simp[results,Hj,go_sem]) rfl (by rw[i.out];exact⟨_,rfl,ey _ [2] _ _ _ (by simp) _ rfl (by show w.heap.size<=_;omega),g _ _ _⟩)
 ·clear d e;have i:Hid (p=([1,1],1)):=b.out.trans rfl;clear b;go_wp2;exact GG (v:=.agg #[.slice (GB ⟨w.heap.size+1+1,0,GA⟩) 2 2,.int .i64 1]) (by simp[results,Hj,go_sem]) rfl (by rw[i.out];exact⟨_,rfl,ey _ [1,1] _ _ _ (by simp) _ rfl (by show w.heap.size<=_;omega),g _ _ _⟩)
 ·clear d e;have i:Hid (p=([1,1],1)):=b.out.trans rfl;clear b;go_wp2;exact GG (v:=.agg #[.slice (GB ⟨w.heap.size+1+1,0,GA⟩) 2 2,.int .i64 1]) (by simp[results,Hj,go_sem]) rfl (by rw[i.out];exact⟨_,rfl,ey _ [1,1] _ _ _ (by simp) _ rfl (by show w.heap.size<=_;omega),g _ _ _⟩)
 ·clear d e;have i:Hid (p=([1,1],1)):=b.out.trans rfl;clear b;go_wp2;exact GG (v:=.agg #[.slice (GB ⟨w.heap.size+1+1,0,GA⟩) 2 2,.int .i64 1]) (by simp[results,Hj,go_sem]) rfl (by rw[i.out];exact⟨_,rfl,ey _ [1,1] _ _ _ (by simp) _ rfl (by show w.heap.size<=_;omega),g _ _ _⟩)
 ·clear d e;have i:Hid (p=([1,1],1)):=b.out.trans rfl;clear b;go_wp2;exact GG (v:=.agg #[.slice (GB ⟨w.heap.size+1+1,0,GA⟩) 2 2,.int .i64 1]) (by simp[results,Hj,go_sem]) rfl (by rw[i.out];exact⟨_,rfl,ey _ [1,1] _ _ _ (by simp) _ rfl (by show w.heap.size<=_;omega),g _ _ _⟩)
 ·clear d e;have i:Hid (p=([1,1],1)):=b.out.trans rfl;clear b;go_wp2;exact GG (v:=.agg #[.slice (GB ⟨w.heap.size+1+1,0,GA⟩) 2 2,.int .i64 1]) (by simp[results,Hj,go_sem]) rfl (by rw[i.out];exact⟨_,rfl,ey _ [1,1] _ _ _ (by simp) _ rfl (by show w.heap.size<=_;omega),g _ _ _⟩)
 ·clear e;go_wp2_with fail;refine(d _ _).mono ?_;rintro z w1 ⟨rfl,rfl⟩;clear d;have i:Hid (p=([wkP ks 0,wkP ks 0],2)):=b.out.trans rfl;clear b;generalize wkP ks 0=B at *;go_wp2;exact GG (v:=.agg #[.slice (GB ⟨w.heap.size+1+1,0,GA⟩) 2 2,.int .i64 2]) (by simp[results,Hj,go_sem]) rfl (by rw[i.out];exact⟨_,rfl,ey _ [B,B] _ _ _ (by simp) _ rfl (by show w.heap.size<=_;omega),g _ _ _⟩)
 ·clear e;go_wp2_with fail;refine(d _ _).mono ?_;rintro z w1 ⟨rfl,rfl⟩;clear d;have i:Hid (p=([wkP ks 0,wkP ks 0],2)):=b.out.trans rfl;clear b;generalize wkP ks 0=B at *;go_wp2;exact GG (v:=.agg #[.slice (GB ⟨w.heap.size+1+1,0,GA⟩) 2 2,.int .i64 2]) (by simp[results,Hj,go_sem]) rfl (by rw[i.out];exact⟨_,rfl,ey _ [B,B] _ _ _ (by simp) _ rfl (by show w.heap.size<=_;omega),g _ _ _⟩)
 ·clear d e;have i:Hid (p=([1,1],2)):=b.out.trans rfl;clear b;go_wp2;exact GG (v:=.agg #[.slice (GB ⟨w.heap.size+1+1,0,GA⟩) 2 2,.int .i64 2]) (by simp[results,Hj,go_sem]) rfl (by rw[i.out];exact⟨_,rfl,ey _ [1,1] _ _ _ (by simp) _ rfl (by show w.heap.size<=_;omega),g _ _ _⟩)
 ·clear d e;have i:Hid (p=([1,1],2)):=b.out.trans rfl;clear b;go_wp2;exact GG (v:=.agg #[.slice (GB ⟨w.heap.size+1+1,0,GA⟩) 2 2,.int .i64 2]) (by simp[results,Hj,go_sem]) rfl (by rw[i.out];exact⟨_,rfl,ey _ [1,1] _ _ _ (by simp) _ rfl (by show w.heap.size<=_;omega),g _ _ _⟩)
 ·clear d e;have i:Hid (p=([2,2],2)):=b.out.trans rfl;clear b;go_wp2;exact GG (v:=.agg #[.slice (GB ⟨w.heap.size+1+1,0,GA⟩) 2 2,.int .i64 2]) (by simp[results,Hj,go_sem]) rfl (by rw[i.out];exact⟨_,rfl,ey _ [2,2] _ _ _ (by simp) _ rfl (by show w.heap.size<=_;omega),g _ _ _⟩)
 ·clear d e;have i:Hid (p=([2,2],2)):=b.out.trans rfl;clear b;go_wp2;exact GG (v:=.agg #[.slice (GB ⟨w.heap.size+1+1,0,GA⟩) 2 2,.int .i64 2]) (by simp[results,Hj,go_sem]) rfl (by rw[i.out];exact⟨_,rfl,ey _ [2,2] _ _ _ (by simp) _ rfl (by show w.heap.size<=_;omega),g _ _ _⟩)
 ·clear d;go_wp2_with fail;refine(e _ _).mono ?_;rintro z w1 ⟨rfl,rfl⟩;clear e;have i:Hid (p=([2,wkP ks 1,wkP ks 1],wkP ks 1)):=b.out.trans rfl;clear b;generalize wkP ks 1=B at *;go_wp2;exact GG (v:=.agg #[.slice (GB ⟨w.heap.size+1+1,0,GA⟩) 3 3,.int .i64 B]) (by simp[results,Hj,go_sem]) rfl (by rw[i.out];exact⟨_,rfl,ey _ [2,B,B] _ _ _ (by simp) _ rfl (by show w.heap.size<=_;omega),g _ _ _⟩)
 ·clear d e g;have c1:=λw=>tG n w;have E:Hid (p=clP n):=b.out.trans (xu n ks);clear b;have l:((w.alloc (zNv 20 n nm ao f.len cap)).alloc (.cells #[.slice GA 0 0,.int .i64 0] 211)).heap[w.heap.size+1]?=GB (.cells #[.slice GA 0 0,.int .i64 0] 211):=by
   have:=GH (w.alloc (zNv 20 n nm ao f.len cap)) (.cells #[.slice GA 0 0,.int .i64 0] 211)
   simpa using this
  have G:=j (zNv 20 n nm ao f.len cap) (.cells #[.slice GA 0 0,.int .i64 0] 211);go_wp2_with fail;refine(c1 _).mono ?_;rintro z w1 ⟨lv,rfl,o,A⟩;have D:=(A.block _ (GF l)).trans l;have r:((w.alloc (zNv 20 n nm ao f.len cap)).alloc (.cells #[.slice GA 0 0,.int .i64 0] 211)).heap.size=w.heap.size+2:=by simp
  rw[r] at o A;have F:GK w.heap.size w w1:=G.trans (A.mono (by omega));clear c1 G A l r j;generalize clP n=O at *;obtain⟨xs,kp⟩:=O;simp only at o ⊢;obtain⟨u,cl,t,s⟩:=o;have o:Inw w1 (Nw (w.heap.size+2)) lv xs:=⟨u,cl,t,s⟩;subst t;clear s;obtain⟨U,T,S⟩:=jd D;have L:Hid (∃q,q=(w1.setCell ⟨w.heap.size+1,0,GA⟩ (.slice u xs.length cl)).setCell ⟨w.heap.size+1,1,GA⟩ (.int .i64 kp)/\q.heap[w.heap.size+1]?=GB (.cells #[.slice u xs.length cl,.int .i64 kp] 211 (0,0))/\Inw q (Nw w.heap.size) (.slice u xs.length cl) xs/\GK w.heap.size w q) :=
   ⟨_,rfl,Ec D _ _,o.mono (λk m Q=>(GP _ _ k _ (by have m:w.heap.size+2<=k:=m;show k≠w.heap.size+1;omega)).trans (GP _ _ k _ (by have m:w.heap.size+2<=k:=m;show k≠w.heap.size+1;omega))) (by simp) (λk m _=>by have m:w.heap.size+2<=k:=m;show w.heap.size<=k;omega),(F.setCell (p:=⟨w.heap.size+1,0,GA⟩) (by show w.heap.size<=w.heap.size+1;omega) _).setCell (p:=⟨w.heap.size+1,1,GA⟩) (by show w.heap.size<=w.heap.size+1;omega) _⟩
  clear o F D;go_wp2;obtain⟨q,C,M,K,N⟩:=L.out;rw[<-C];obtain⟨v0,v1,-⟩:=jd M;exact GG (v:=.agg #[.slice u xs.length cl,.int .i64 kp]) (by simp[results,Hj,go_sem,v0,v1]) rfl (by rw[E.out];exact⟨_,rfl,K,N⟩)
 ·clear d e g;have c1:=λw=>sQ n w;have E:Hid (p=qfP n):=b.out.trans (ph n ks);clear b;have l:((w.alloc (zNv 21 n nm ao f.len cap)).alloc (.cells #[.slice GA 0 0,.int .i64 0] 211)).heap[w.heap.size+1]?=GB (.cells #[.slice GA 0 0,.int .i64 0] 211):=by
   have:=GH (w.alloc (zNv 21 n nm ao f.len cap)) (.cells #[.slice GA 0 0,.int .i64 0] 211)
   simpa using this
  have G:=j (zNv 21 n nm ao f.len cap) (.cells #[.slice GA 0 0,.int .i64 0] 211);go_wp2_with fail;refine(c1 _).mono ?_;rintro z w1 ⟨lv,rfl,o,A⟩;have D:=(A.block _ (GF l)).trans l;have r:((w.alloc (zNv 21 n nm ao f.len cap)).alloc (.cells #[.slice GA 0 0,.int .i64 0] 211)).heap.size=w.heap.size+2:=by simp
  rw[r] at o A;have F:GK w.heap.size w w1:=G.trans (A.mono (by omega));clear c1 G A l r j;generalize qfP n=O at *;obtain⟨xs,kp⟩:=O;simp only at o ⊢;obtain⟨u,cl,t,s⟩:=o;have o:Inw w1 (Nw (w.heap.size+2)) lv xs:=⟨u,cl,t,s⟩;subst t;clear s;obtain⟨U,T,S⟩:=jd D;have L:Hid (∃q,q=(w1.setCell ⟨w.heap.size+1,0,GA⟩ (.slice u xs.length cl)).setCell ⟨w.heap.size+1,1,GA⟩ (.int .i64 kp)/\q.heap[w.heap.size+1]?=GB (.cells #[.slice u xs.length cl,.int .i64 kp] 211 (0,0))/\Inw q (Nw w.heap.size) (.slice u xs.length cl) xs/\GK w.heap.size w q) :=
   ⟨_,rfl,Ec D _ _,o.mono (λk m Q=>(GP _ _ k _ (by have m:w.heap.size+2<=k:=m;show k≠w.heap.size+1;omega)).trans (GP _ _ k _ (by have m:w.heap.size+2<=k:=m;show k≠w.heap.size+1;omega))) (by simp) (λk m _=>by have m:w.heap.size+2<=k:=m;show w.heap.size<=k;omega),(F.setCell (p:=⟨w.heap.size+1,0,GA⟩) (by show w.heap.size<=w.heap.size+1;omega) _).setCell (p:=⟨w.heap.size+1,1,GA⟩) (by show w.heap.size<=w.heap.size+1;omega) _⟩
  clear o F D;go_wp2;obtain⟨q,C,M,K,N⟩:=L.out;rw[<-C];obtain⟨v0,v1,-⟩:=jd M;exact GG (v:=.agg #[.slice u xs.length cl,.int .i64 kp]) (by simp[results,Hj,go_sem,v0,v1]) rfl (by rw[E.out];exact⟨_,rfl,K,N⟩)
 ·clear d e g;have i:Hid (p=([],4)):=b.out.trans rfl;clear b;go_wp2;exact GG (v:=.agg #[.slice GA 0 0,.int .i64 4]) (by simp[results,Hj,go_sem]) rfl (by rw[i.out];exact⟨_,rfl,Inw.nil,j _ _⟩)
 ·clear d e g;have i:Hid (p=([],4)):=b.out.trans rfl;clear b;go_wp2;exact GG (v:=.agg #[.slice GA 0 0,.int .i64 4]) (by simp[results,Hj,go_sem]) rfl (by rw[i.out];exact⟨_,rfl,Inw.nil,j _ _⟩)
 ·clear d e;have i:Hid (p=([3],4)):=b.out.trans rfl;clear b;go_wp2;exact GG (v:=.agg #[.slice (GB ⟨w.heap.size+1+1,0,GA⟩) 1 1,.int .i64 4]) (by simp[results,Hj,go_sem]) rfl (by rw[i.out];exact⟨_,rfl,ey _ [3] _ _ _ (by simp) _ rfl (by show w.heap.size<=_;omega),g _ _ _⟩)
 ·clear d e;have E:Hid (p=(Hk ks.length 3,4)):=b.out.trans rfl;clear b;have l:(((w.alloc (zNv 25 n nm ao f.len cap)).alloc (.cells #[.slice GA 0 0,.int .i64 0] 211)).alloc (.cells #[.int .i64 3] 3)).heap[w.heap.size+1]?=GB (.cells #[.slice GA 0 0,.int .i64 0] 211):=by
   refine(GO _ _ _ (by simp)).trans ?_
   have:=GH (w.alloc (zNv 25 n nm ao f.len cap)) (.cells #[.slice GA 0 0,.int .i64 0] 211)
   simpa using this
  have H:(((w.alloc (zNv 25 n nm ao f.len cap)).alloc (.cells #[.slice GA 0 0,.int .i64 0] 211)).alloc (.cells #[.int .i64 3] 3)).heap[w.heap.size+1+1]?=GB (.cells #[.int .i64 3] 3):=by
   have:=GH ((w.alloc (zNv 25 n nm ao f.len cap)).alloc (.cells #[.slice GA 0 0,.int .i64 0] 211)) (.cells #[.int .i64 3] 3)
   simpa using this
  have c1:=zL (((w.alloc (zNv 25 n nm ao f.len cap)).alloc (.cells #[.slice GA 0 0,.int .i64 0] 211)).alloc (.cells #[.int .i64 3] 3)) (w.heap.size+1+1) 0 1 ks.length (by omega) (GF H) (by rw[Hf _ _ _ _ _ _ H];rfl);have G:=g (zNv 25 n nm ao f.len cap) (.cells #[.slice GA 0 0,.int .i64 0] 211) (.cells #[.int .i64 3] 3);clear g j H;go_wp2_with fail;refine c1.mono ?_;rintro z w1 ⟨lv,rfl,o,A⟩;have D:=(A.block _ (GF l)).trans l;have r:(((w.alloc (zNv 25 n nm ao f.len cap)).alloc (.cells #[.slice GA 0 0,.int .i64 0] 211)).alloc (.cells #[.int .i64 3] 3)).heap.size=w.heap.size+3:=by simp
  rw[r] at o A;have F:GK w.heap.size w w1:=G.trans (A.mono (by omega));clear c1 G A l r;generalize Hk ks.length (3:Int)=xs at *;obtain⟨u,cl,t,s⟩:=o;have o:Inw w1 (Nw (w.heap.size+3)) lv xs:=⟨u,cl,t,s⟩;subst t;clear s;obtain⟨U,T,S⟩:=jd D;have L:Hid (∃q,q=(w1.setCell ⟨w.heap.size+1,0,GA⟩ (.slice u xs.length cl)).setCell ⟨w.heap.size+1,1,GA⟩ (.int .i64 4)/\q.heap[w.heap.size+1]?=GB (.cells #[.slice u xs.length cl,.int .i64 4] 211 (0,0))/\Inw q (Nw w.heap.size) (.slice u xs.length cl) xs/\GK w.heap.size w q) :=
   ⟨_,rfl,Ec D _ _,o.mono (λk m Q=>(GP _ _ k _ (by have m:w.heap.size+3<=k:=m;show k≠w.heap.size+1;omega)).trans (GP _ _ k _ (by have m:w.heap.size+3<=k:=m;show k≠w.heap.size+1;omega))) (by simp) (λk m _=>by have m:w.heap.size+3<=k:=m;show w.heap.size<=k;omega),(F.setCell (p:=⟨w.heap.size+1,0,GA⟩) (by show w.heap.size<=w.heap.size+1;omega) _).setCell (p:=⟨w.heap.size+1,1,GA⟩) (by show w.heap.size<=w.heap.size+1;omega) _⟩
  clear o F D;go_wp2;obtain⟨q,C,M,K,N⟩:=L.out;rw[<-C];obtain⟨v0,v1,-⟩:=jd M;exact GG (v:=.agg #[.slice u xs.length cl,.int .i64 4]) (by simp[results,Hj,go_sem,v0,v1]) rfl (by rw[E.out];exact⟨_,rfl,K,N⟩)
 ·clear e;go_wp2_with fail;refine(d _ _).mono ?_;rintro z w1 ⟨rfl,rfl⟩;clear d;have i:Hid (p=([wkP ks 0],wkP ks 0)):=b.out.trans rfl;clear b;generalize wkP ks 0=B at *;go_wp2;exact GG (v:=.agg #[.slice (GB ⟨w.heap.size+1+1,0,GA⟩) 1 1,.int .i64 B]) (by simp[results,Hj,go_sem]) rfl (by rw[i.out];exact⟨_,rfl,ey _ [B] _ _ _ (by simp) _ rfl (by show w.heap.size<=_;omega),g _ _ _⟩)
def kq (x : GJ) (k : Int) : Prop := ∃ a v, x = .iface a v ∧ ∀ (d : Nat) (w : GE), d = Tryz.prog.types.size + Made.depth → (method d a v "isthmus/plan.kind").run GD w = .ok (281, .agg #[.int .i64 k]) w
theorem tv (k:Int)(w:GE):GR GD 281 #[.agg #[.int .i64 k]] w λx w'=>x=.returned (.int .i64 k)/\GK w.heap.size w w':=by
 have a:∀ o:Obj,GK w.heap.size w (w.alloc o):=λo=>(GN _ w).alloc (GC _) _;go_enter Tryz.func281,Tryz.ntmps281;go_wp2;go_ret;exact⟨rfl,a _⟩
def PKs (w:GE)(v:GJ)(n:Nat):Prop:=∃ak ck,v=.slice ak n ck/\(n=0\/∃b off,ak=GB ⟨b,off,GA⟩/\b<w.heap.size/\∀ j,j<n->∃c u,w.cell? ⟨b,off+j,GA⟩=GB (.iface c u))
theorem ml (k:Int)(n:Int):kq (.iface 254 (.agg #[.int .i64 k,.int .i64 n])) k:=⟨_,_,rfl,λd w h=>by subst h;kernel_rfl⟩
theorem tO (k:Int)(n:Int):kq (.iface 256 (.agg #[.int .i64 k,.int .i64 n])) k:=⟨_,_,rfl,λd w h=>by subst h;kernel_rfl⟩
theorem rL (k:Int)(n:Int):kq (.iface 258 (.agg #[.int .i64 k,.int .i64 n])) k:=⟨_,_,rfl,λd w h=>by subst h;kernel_rfl⟩
theorem pO (k:Int)(n:Int)(a:Option G1)(l c:Nat):kq (.iface 277 (.agg #[.int .i64 k,.int .i64 n,.slice a l c])) k:=⟨_,_,rfl,λd w h=>by subst h;kernel_rfl⟩
theorem kJ (k:Int)(n:Int)(t1 t2:Hl)(b a:GJ):kq (.iface 260 (.agg #[.int .i64 k,.int .i64 n,.iface t1 b,.iface t2 a])) k:=⟨_,_,rfl,λd w h=>by subst h;kernel_rfl⟩
theorem vb (k:Int)(t1 t2 t3:Hl)(b a u3:GJ):kq (.iface 262 (.agg #[.int .i64 k,.iface t1 b,.iface t2 a,.iface t3 u3])) k:=⟨_,_,rfl,λd w h=>by subst h;kernel_rfl⟩
theorem zk (k:Int)(n:Int)(a:Option G1)(l c:Nat):kq (.iface 264 (.agg #[.int .i64 k,.int .i64 n,.slice a l c])) k:=⟨_,_,rfl,λd w h=>by subst h;kernel_rfl⟩
theorem oO (k:Int)(n m:Int)(t1 t2:Hl)(b a:GJ):kq (.iface 266 (.agg #[.int .i64 k,.int .i64 n,.int .i64 m,.iface t1 b,.iface t2 a])) k:=⟨_,_,rfl,λd w h=>by subst h;kernel_rfl⟩
theorem AZ (k:Int)(n:Int)(t1:Hl)(a:GJ):kq (.iface 268 (.agg #[.int .i64 k,.int .i64 n,.iface t1 a])) k:=⟨_,_,rfl,λd w h=>by subst h;kernel_rfl⟩
theorem ut (k:Int) :kq (.iface 270 (.agg #[.int .i64 k])) k:=⟨_,_,rfl,λd w h=>by subst h;kernel_rfl⟩
theorem qO (k:Int)(s:ByteArray):kq (.iface 272 (.agg #[.int .i64 k,.string s])) k:=⟨_,_,rfl,λd w h=>by subst h;kernel_rfl⟩
theorem pS (k:Int)(t1:Hl)(a:GJ):kq (.iface 274 (.agg #[.int .i64 k,.iface t1 a])) k:=⟨_,_,rfl,λd w h=>by subst h;kernel_rfl⟩
theorem sV (k:Int)(a:Option G1)(l c:Nat):kq (.iface 276 (.agg #[.int .i64 k,.slice a l c])) k:=⟨_,_,rfl,λd w h=>by subst h;kernel_rfl⟩
theorem Fj (k0 n:Int)(nm:List UInt8)(f:Fs)(ao:Option G1)(cap:Nat)(t:Int)(U:GJ)(k:Nat)(ar:Int)(w:GE)(C:PKs w U k)(h2:k0=17\/k0=18\/k0=21->k=2)(h:k0=19->k=3)(h1:k0=24\/k0=26->k=1) :
  GR GD 186 #[.agg #[.int .i64 k0,.int .i64 n,stv nm,.slice ao f.len cap],.agg #[.int .i64 t],U,.int .i64 ar] w λx w'=>(∃v,x=.returned v/\kq v t)/\GK w.heap.size w w':=by
 obtain⟨w0,s⟩:=exq ((w.alloc (zNv k0 n nm ao f.len cap)).alloc (.cells #[.int .i64 t] 215));have l:GK w.heap.size w w0:=by rw[s];exact((GN _ w).alloc (GC _) _).alloc (by simp) _
 have S:w0.heap[w.heap.size]?=GB (zNv k0 n nm ao f.len cap):=by
  rw[s];exact(GO _ _ _ (by simp)).trans (GH w _)
 have P:w0.heap[w.heap.size+1]?=GB (.cells #[.int .i64 t] 215):=by
  rw[s]
  have:=GH (w.alloc (zNv k0 n nm ao f.len cap)) (.cells #[.int .i64 t] 215)
  simpa using this
 obtain⟨ak,ck,rfl,C⟩:=C;go_enter Tryz.func186,Tryz.ntmps186;go_upto_region 1 with fail;rw[<-s];obtain⟨bx,z⟩:=exq w.heap.size;rw[<-z] at S P l ⊢;have i:Hid (bx=w.heap.size):=z;clear s;obtain⟨p0,p1,p2,p3,pf⟩:=el S;have t0:w0.cell? ⟨bx+1,0,GA⟩=GB (.int .i64 t):=by rw[Hf _ _ _ _ _ _ P];rfl
 have tf:∀ j,w0.frozen? ⟨bx+1,j,GA⟩=false:=λj=>Ik w0 (bx+1) j _ _ P;have bdr:∀ m,GK bx w (w0.drewN m):=λm=>l.trans ⟨rfl,rfl,rfl,GC _,λ_ _=>rfl⟩;have a:Hid (∀ j,j<k->∃b off R u,ak=GB ⟨b,off,GA⟩/\w0.cell? ⟨b,off+j,GA⟩=GB (.iface R u)):=by
  intro j hj;rcases C with C|⟨b,off,rfl,hb,hc⟩
  ·omega
  ·obtain⟨R,u,Z⟩:=hc j hj;exact⟨b,off,R,u,rfl,(l.cell (p:=⟨b,off+j,GA⟩) (by rw[z];exact hb)).trans Z⟩
 clear C z S P;by_cases Y:k0=1
 ·subst Y;clear a h1 h2 h;go_wp2;refine GG (v:=.iface 254 (.agg #[.int .i64 t,.int .i64 n])) (by simp[results,Ic,go_sem]) rfl ⟨⟨_,rfl,ml _ _⟩,?_⟩;rw[<-i.out];exact l
 have b1:(k0==1)=false:=by simpa using Y
 by_cases X:k0=2
 ·subst X;clear a h1 h2 h;go_wp2;refine GG (v:=.iface 254 (.agg #[.int .i64 t,.int .i64 n])) (by simp[results,Ic,go_sem]) rfl ⟨⟨_,rfl,ml _ _⟩,?_⟩;rw[<-i.out];exact l
 have b2:(k0==2)=false:=by simpa using X
 by_cases W:k0=3
 ·subst W;clear a h1 h2 h;go_wp2;refine GG (v:=.iface 256 (.agg #[.int .i64 t,.int .i64 n])) (by simp[results,Ic,go_sem]) rfl ⟨⟨_,rfl,tO _ _⟩,?_⟩;rw[<-i.out];exact l
 have b3:(k0==3)=false:=by simpa using W
 by_cases V:k0=5
 ·subst V;clear a h1 h2 h;go_wp2;refine GG (v:=.iface 258 (.agg #[.int .i64 t,.int .i64 n])) (by simp[results,Ic,go_sem]) rfl ⟨⟨_,rfl,rL _ _⟩,?_⟩;rw[<-i.out];exact l
 have b5:(k0==5)=false:=by simpa using V
 by_cases O:k0=17
 ·subst O;have d:k=2:=h2 (.inl rfl);subst d;obtain⟨b,off,t1,q,rfl,o⟩:=a.out 0 (by omega);obtain⟨b1,r,t2,A,c,Q⟩:=a.out 1 (by omega);injection c with c
  injection c with g e
  subst g;subst e;simp only[Hs] at o;clear a h1 h2 h;go_wp2_with fail
  go_quiet (fail)
  have y:=bdr nq;go_wp2;refine GG (v:=.iface 260 (.agg #[.int .i64 t,.int .i64 0,.iface t1 q,.iface t2 A])) (by simp[results,Ic,go_sem]) rfl ⟨⟨_,rfl,kJ _ _ _ _ _ _⟩,?_⟩;rw[<-i.out];exact y
 have aj:(k0==17)=false:=by simpa using O
 by_cases N:k0=18
 ·subst N;have d:k=2:=h2 (.inr (.inl rfl));subst d;obtain⟨b,off,t1,q,rfl,o⟩:=a.out 0 (by omega);obtain⟨b1,r,t2,A,c,Q⟩:=a.out 1 (by omega);injection c with c
  injection c with g e
  subst g;subst e;simp only[Hs] at o;clear a h1 h2 h;go_wp2_with fail
  go_quiet (fail)
  have y:=bdr nq;go_wp2;refine GG (v:=.iface 260 (.agg #[.int .i64 t,.int .i64 1,.iface t1 q,.iface t2 A])) (by simp[results,Ic,go_sem]) rfl ⟨⟨_,rfl,kJ _ _ _ _ _ _⟩,?_⟩;rw[<-i.out];exact y
 have ai:(k0==18)=false:=by simpa using N
 by_cases M:k0=19
 ·subst M;have d:k=3:=h rfl;subst d;obtain⟨b,off,t1,q,rfl,o⟩:=a.out 0 (by omega);obtain⟨b1,r,t2,A,c,Q⟩:=a.out 1 (by omega);injection c with c
  injection c with g e
  subst g;subst e;obtain⟨b2,T,t3,u3,B,x2⟩:=a.out 2 (by omega);injection B with B
  injection B with E D
  subst E;subst D;simp only[Hs] at o;clear a h1 h2 h;go_wp2_with fail
  go_quiet (fail)
  have y:=bdr nq;go_wp2;refine GG (v:=.iface 262 (.agg #[.int .i64 t,.iface t1 q,.iface t2 A,.iface t3 u3])) (by simp[results,Ic,go_sem]) rfl ⟨⟨_,rfl,vb _ _ _ _ _ _ _⟩,?_⟩;rw[<-i.out];exact y
 have ah:(k0==19)=false:=by simpa using M
 by_cases L:k0=20
 ·subst L;clear a h1 h2 h;go_wp2;refine GG (v:=.iface 264 (.agg #[.int .i64 t,.int .i64 n,.slice ak k ck])) (by simp[results,Ic,go_sem]) rfl ⟨⟨_,rfl,zk _ _ _ _ _⟩,?_⟩;rw[<-i.out];exact l
 have ag:(k0==20)=false:=by simpa using L
 by_cases K:k0=21
 ·subst K;have d:k=2:=h2 (.inr (.inr rfl));subst d;obtain⟨b,off,t1,q,rfl,o⟩:=a.out 0 (by omega);obtain⟨b1,r,t2,A,c,Q⟩:=a.out 1 (by omega);injection c with c
  injection c with g e
  subst g;subst e;simp only[Hs] at o;clear a h1 h2 h;go_wp2_with fail
  go_quiet (fail)
  have y:=bdr nq;go_wp2;refine GG (v:=.iface 266 (.agg #[.int .i64 t,.int .i64 n,.int .i64 ar,.iface t1 q,.iface t2 A])) (by simp[results,Ic,go_sem]) rfl ⟨⟨_,rfl,oO _ _ _ _ _ _ _⟩,?_⟩;rw[<-i.out];exact y
 have af:(k0==21)=false:=by simpa using K
 by_cases F:k0=26
 ·subst F;have d:k=1:=h1 (.inr rfl);subst d;obtain⟨b,off,t1,q,rfl,o⟩:=a.out 0 (by omega);simp only[Hs] at o;clear a h1 h2 h;go_wp2_with fail
  go_quiet (fail)
  have y:=bdr nq;go_wp2;refine GG (v:=.iface 268 (.agg #[.int .i64 t,.int .i64 n,.iface t1 q])) (by simp[results,Ic,go_sem]) rfl ⟨⟨_,rfl,AZ _ _ _ _⟩,?_⟩;rw[<-i.out];exact y
 have aa:(k0==26)=false:=by simpa using F
 by_cases J:k0=22
 ·subst J;clear a h1 h2 h;go_wp2;refine GG (v:=.iface 270 (.agg #[.int .i64 t])) (by simp[results,Ic,go_sem]) rfl ⟨⟨_,rfl,ut _⟩,?_⟩;rw[<-i.out];exact l
 have ae:(k0==22)=false:=by simpa using J
 by_cases I:k0=23
 ·subst I;clear a h1 h2 h;go_wp2;refine GG (v:=.iface 272 (.agg #[.int .i64 t,stv nm])) (by simp[results,Ic,go_sem]) rfl ⟨⟨_,rfl,qO _ _⟩,?_⟩;rw[<-i.out];exact l
 have ad:(k0==23)=false:=by simpa using I
 by_cases H:k0=24
 ·subst H;have d:k=1:=h1 (.inl rfl);subst d;obtain⟨b,off,t1,q,rfl,o⟩:=a.out 0 (by omega);simp only[Hs] at o;clear a h1 h2 h;go_wp2_with fail
  go_quiet (fail)
  have y:=bdr nq;go_wp2;refine GG (v:=.iface 274 (.agg #[.int .i64 t,.iface t1 q])) (by simp[results,Ic,go_sem]) rfl ⟨⟨_,rfl,pS _ _ _⟩,?_⟩;rw[<-i.out];exact y
 have ac:(k0==24)=false:=by simpa using H
 by_cases G:k0=25
 ·subst G;clear a h1 h2 h;go_wp2;refine GG (v:=.iface 276 (.agg #[.int .i64 t,.slice ak k ck])) (by simp[results,Ic,go_sem]) rfl ⟨⟨_,rfl,sV _ _ _ _⟩,?_⟩;rw[<-i.out];exact l
 have ab:(k0==25)=false:=by simpa using G
 clear a h1 h2 h;go_wp2;refine GG (v:=.iface 277 (.agg #[.int .i64 t,.int .i64 k0,.slice ak k ck])) (by simp[results,Ic,go_sem]) rfl ⟨⟨_,rfl,pO _ _ _ _ _⟩,?_⟩;rw[<-i.out];exact l
def wgF:Fs->Int->Int
 | ⟨GA⟩,l=>l
 | ⟨GB ⟨_,_,_,_,ks,r⟩⟩,l=>if l<0 then l else wgF r (wgF ks (l-1))
theorem zt (k n:Int)(nm:List UInt8)(a:Int)(ks r:Fs)(l:Int):wgF (.cons k n nm a ks r) l=if l<0 then l else wgF r (wgF ks (l-1)):=rfl
theorem vs:∀ (f:Fs) (l:Int),l<0->wgF f l=l
 | ⟨GA⟩,l,h=>rfl
 | ⟨GB ⟨k,n,nm,a,ks,r⟩⟩,l,h=>by simp only[wgF,h,if_true]
theorem oA:∀ (f:Fs) (l:Int),0<=wgF f l->wgF f l=l-(f.size:Nat)
 | ⟨GA⟩,l,h=>by show l=l-((0:Nat):Int);omega
 | ⟨GB ⟨k,n,nm,a,ks,r⟩⟩,l,h=>by
  have e:wgF ⟨GB ⟨k,n,nm,a,ks,r⟩⟩ l=if l<0 then l else wgF r (wgF ks (l-1)):=rfl;rw[e] at h ⊢;split at h
  ·omega
  ·rename_i b
   rw[if_neg b];have h1:=oA r _ h;by_cases h2:wgF ks (l-1)<0
   ·rw[vs r _ h2] at h;omega
   ·have c:=oA ks (l-1) (by omega);show _=l-((ks.size+r.size+1:Nat):Int);omega
theorem tS:∀ (f:Fs) (l:Int),-1<=l->-1<=wgF f l/\wgF f l<=l
 | ⟨GA⟩,l,h=>⟨h,Int.le_refl _⟩
 | ⟨GB ⟨k,n,nm,a,ks,r⟩⟩,l,h=>by
  have e:wgF ⟨GB ⟨k,n,nm,a,ks,r⟩⟩ l=if l<0 then l else wgF r (wgF ks (l-1)):=rfl;rw[e];split
  ·exact⟨h,Int.le_refl _⟩
  ·have h1:=tS ks (l-1) (by omega);have h2:=tS r _ h1.1;exact⟨h2.1,by omega⟩
def Fs.wide:Fs->Prop
 | ⟨GA⟩=>True
 | ⟨GB ⟨_,_,_,_,ks,r⟩⟩=>ks.len<=GY/\ks.wide/\r.wide
theorem Fs.app_wide:∀ {x y:Fs},(x.app y).wide->y.wide
 | ⟨GA⟩,y,h=>h
 | ⟨GB ⟨k,n,nm,a,ks,r⟩⟩,y,h=>Fs.app_wide (x:=r) h.2.2
def pb (N:Nat):Prop:=∀ (e:Ex) (ao:Option G1) (cap:Nat) (l:Int) (w:GE),e.kids.size<N->e.kids.len<=GY->e.kids.wide->0<=l->l<=1000000->SnA w e.kids ao ->
 GR GD 32 #[exN e ao cap,.int .i64 l] w λx w'=>x=.returned (.int .i64 (wgF e.kids (l-1)))/\GK w.heap.size w w'
theorem sF {N:Nat}(IH:pb N):pb (N+1):=by
 intro e ao cap l w hN J u Z Y S;obtain⟨W,E⟩:=exq (wgF e.kids (l-1));rw[<-E];have M:Hid (W=wgF e.kids (l-1)):=E;have y:Hid (GY=9223372036854775807):=rfl;have V:e.kids.len<=9223372036854775807:=by have:=y.out;omega
 clear E;have I:GK w.heap.size w (w.alloc (zNd e ao cap)):=(GN _ w).alloc (GC _) _;have H:(w.alloc (zNd e ao cap)).heap[w.heap.size]?=GB (zNd e ao cap):=GH w _;rw[dS];go_enter Tryz.func32,Tryz.ntmps32;go_upto_region 1 with fail;generalize w.alloc (zNd e ao cap)=w0 at *;obtain⟨bx,h⟩:=exq w.heap.size;rw[<-h] at H I ⊢;have F:Hid (bx=w.heap.size):=h;clear h;go_wp2;go_loopw [1,5] (λv1 v5 wr=>∃(done r:Fs) (c:Int),Hid (e.kids=done.app r)/\v1=.int .i64 c/\v5=.int .i64 (done.len:Nat)/\-1<=c/\c<=1000000/\Hid (wgF r c=W)/\wr.heap[bx]?=GB (zNd e ao cap)/\GK bx w wr) (λ_ v5 _=>e.kids.len-(Hh v5).toNat)
 case atStart=>exact⟨.nil,e.kids,l-1,rfl,rfl,by show _=GT .i64 ((0:Nat):Int);rfl,by omega,by omega,M.out.symm,H,I⟩
 case round =>
  clear H I M;obtain⟨done,r,c,j,rfl,rfl,ab,aa,k,o,p⟩:=hrel;have d:e.kids.len=done.len+r.len:=by rw[j.out,Fs.len_app]
  obtain⟨p0,p1,p2,p3,T⟩:=el o;cases r using Fs.on with
  | nil =>
   have z:¬(done.len:Int)<(e.kids.len:Int):=by simp only[Fs.len] at d;omega
   have i:Hid (W=c):=k.out.symm;clear k d;go_wp2;go_ret;rw[i.out];exact⟨rfl,by rw[<-F.out];exact p⟩
  | cons s kn q t a m =>
   have z:(done.len:Int)<(e.kids.len:Int):=by simp only[Fs.len] at d;omega
   have X:done.len<e.kids.len:=by omega
   by_cases K:c<0
   ·have n:¬(0:Int)<=c:=by omega
    have i:Hid (W=c):=by show W=c;rw[<-k.out];exact vs _ _ K
    clear k d;go_wp2;go_ret;rw[i.out];exact⟨rfl,by rw[<-F.out];exact p⟩
   ·have n:(0:Int)<=c:=by omega
    have v:e.kids.size=done.size+(a.size+m.size+1):=by rw[j.out,Fs.size_app];rfl
    have g:(Fs.cons s kn q t a m).wide:=Fs.app_wide (x:=done) (by rw[<-j.out];exact u);obtain⟨b,off,ak,ck,D,U,-,R,Q,P,O,L⟩:=SlN.kidQ (by rw[<-j.out];exact SnA.below S (by rw[<-F.out];exact p));subst D;have f:=IH ⟨s,kn,q,t,a⟩ ak ck c wr (by show a.size<N;omega) g.1 g.2.1 n (by omega) L;rw[dS] at f;simp only at f;have C:=tS a (c-1) (by omega);have G:Hid (wgF m (wgF a (c-1))=W):=by show _=W;rw[<-k.out,zt,if_neg K]
    have B:Hid (e.kids=(done.snoc ⟨s,kn,q,t,a⟩).app m):=by show e.kids=_;rw[j.out];unfold Fs.snoc;rw[Fs.app_assoc];rfl
    have A:(done.len:Int)+1=((done.snoc ⟨s,kn,q,t,a⟩).len:Nat):=by rw[Fs.len_snoc];rfl
    generalize wgF a (c-1)=c2 at *;clear k d v g L j;go_wp2_with fail;refine f.mono ?_;rintro x w2 ⟨rfl,b2⟩;have B2:=p.trans (b2.mono (by have:=GF o;omega));have E2:=(b2.block bx (GF o)).trans o;clear f R Q P O p0 p1 p2 p3 T b2 o p;go_wp2;go_roundw
    case rel=>exact⟨_,m,c2,B,rfl,by rw[<-A],C.1,by omega,G,E2,B2⟩
    case measure=>simp[Hh];omega
theorem qu:∀ N,pb N -- 32
 | 0=>λe ao cap l w h=>absurd h (Hr _)
 | N+1=>sF (qu N)
def lE (N:Nat):Prop:=∀ (e a:Ex) (ao c:Option G1) (cap b:Nat) (w:GE),e.kids.size<N->e.kids.len<=1000000000->e.kids.short->a.kids.len<=1000000000->a.kids.short->SnA w e.kids ao->SnA w a.kids c ->
 GR GD 220 #[exN e ao cap,exN a c b] w λx w'=>x=.returned (.bool (eN e a))/\GK w.heap.size w w'
theorem pN {N:Nat}(IH:lE N):lE (N+1):=by
 intro e d ao l cap f w hN au af ah aa S S2;obtain⟨W,hW⟩:=exq (eN e d);rw[<-hW];have A:Hid (W=eN e d):=hW;clear hW;have R:GK w.heap.size w ((w.alloc (zNd e ao cap)).alloc (zNd d l f)):=((GN _ w).alloc (GC _) _).alloc (by simp) _;have E0:((w.alloc (zNd e ao cap)).alloc (zNd d l f)).heap[w.heap.size]?=GB (zNd e ao cap):=(GO _ _ _ (by simp)).trans (GH w _);have Y0:((w.alloc (zNd e ao cap)).alloc (zNd d l f)).heap[w.heap.size+1]?=GB (zNd d l f):=by
  have:=GH (w.alloc (zNd e ao cap)) (zNd d l f)
  simpa using this
 rw[dS,dS];go_enter Tryz.func220,Tryz.ntmps220;go_upto_region 1 with fail;generalize (w.alloc (zNd e ao cap)).alloc (zNd d l f)=w0 at *;obtain⟨bx,O⟩:=exq w.heap.size;rw[<-O] at E0 Y0 R ⊢;have G:Hid (bx=w.heap.size):=O;clear O;obtain⟨p0,p1,p2,p3,pf⟩:=el E0;obtain⟨q0,q1,q2,Z,qf⟩:=el Y0;by_cases h1:e.k=d.k
 ·by_cases h2:e.n=d.n
  ·by_cases I:e.nm=d.nm
   ·by_cases X:e.kids.len=d.kids.len
    ·have t:(e.k != d.k)=false:=by simp[h1]
     have F:(e.n != d.n)=false:=by simp[h2]
     have P:(e.nm==d.nm)=true:=by simp[I]
     have ad:((e.kids.len:Int) != (d.kids.len:Int))=false:=by rw[X];simp
     have s:(e.k==d.k)=true:=by simp[h1]
     have E:(e.n==d.n)=true:=by simp[h2]
     have ac:((e.kids.len:Int)==(d.kids.len:Int))=true:=by rw[X];simp
     have HF:Hid (W=fU e.kids d.kids):=by show W=_;rw[A.out];simp[eN,h1,h2,I]
     have H4:Hid (e.kids.len=d.kids.len):=X;clear A h1 h2 I X;go_wp2;go_loopw [5] (λv wr=>∃(done r d2 J:Fs),Hid (e.kids=done.app r)/\Hid (d.kids=d2.app J)/\Hid (d2.len=done.len)/\v=.int .i64 (done.len:Nat)/\Hid (fU r J=W)/\wr.heap[bx]?=GB (zNd e ao cap)/\wr.heap[bx+1]?=GB (zNd d l f)/\GK bx w wr) (λv _=>e.kids.len-(Hh v).toNat)
     case atStart=>exact⟨.nil,e.kids,.nil,d.kids,rfl,rfl,rfl,by show _=GT .i64 ((0:Nat):Int);rfl,HF.out.symm,E0,Y0,R⟩
     case round =>
      clear E0 Y0 R p0 p1 p2 p3 pf q0 q1 q2 Z qf HF t F P ad s E ac;obtain⟨done,r,d2,J,V,q,hd,rfl,HA,E1,Y1,Y⟩:=hrel;have D:e.kids.len=done.len+r.len:=by rw[V.out,Fs.len_app]
      have ag:d.kids.len=d2.len+J.len:=by rw[q.out,Fs.len_app]
      have Q:Hid (r.len=J.len):=by show _=_;have:=H4.out;have:=hd.out;omega
      clear ag;obtain⟨p0,p1,p2,p3,pf⟩:=el E1;obtain⟨q0,q1,q2,Z,qf⟩:=el Y1;cases r using Fs.on with
      | nil =>
       have al:¬(done.len:Int)<(e.kids.len:Int):=by simp only[Fs.len] at D;omega
       have i:Hid (W=true):=by
        show W=true;rw[<-HA.out];cases J using Fs.on with
        | nil=>rfl
        | cons k n nm a ks r=>have:=Q.out;simp only[Fs.len] at this;omega
       clear HA D Q;go_wp2;go_ret;rw[i.out];exact⟨rfl,by rw[<-G.out];exact Y⟩
      | cons o kn m K g T =>
       cases J using Fs.on with
       | nil=>have:=Q.out;simp only[Fs.len] at this;omega
       | cons z u y U j jr =>
       have al:(done.len:Int)<(e.kids.len:Int):=by simp only[Fs.len] at D;omega
       have aw:done.len<d.kids.len:=by have:=H4.out;omega
       have ae:e.kids.size=done.size+(g.size+T.size+1):=by rw[V.out,Fs.size_app];rfl
       have L:=Fs.app_short (by rw[<-V.out];exact af);have M:=Fs.app_short (by rw[<-q.out];exact aa);obtain⟨b,off,ak,ck,aq,C,-,x0,x1,x2,x3,SK⟩:=SlN.kidQ (by rw[<-V.out];exact SnA.below S (by rw[<-G.out];exact Y));obtain⟨h,c,aj,cj,ab,B,-,y0,y1,y2,y3,TK⟩:=SlN.kidQ (by rw[<-q.out];exact SnA.below S2 (by rw[<-G.out];exact Y));subst aq ab;rw[hd.out] at y0 y1 y2 y3;have hc:=IH ⟨o,kn,m,K,g⟩ ⟨z,u,y,U,j⟩ ak aj ck cj wr.drew (by show g.size<N;omega) L.2.1 L.2.2.1 M.2.1 M.2.2.1 (SnA.below SK (GN _ wr).drew) (SnA.below TK (GN _ wr).drew);rw[dS,dS] at hc;simp only at hc;have H:Hid ((eN ⟨o,kn,m,K,g⟩ ⟨z,u,y,U,j⟩&&fU T jr)=W):=HA;have an:Hid (e.kids=(done.snoc ⟨o,kn,m,K,g⟩).app T):=by show e.kids=_;rw[V.out];unfold Fs.snoc;rw[Fs.app_assoc];rfl
       have am:Hid (d.kids=(d2.snoc ⟨z,u,y,U,j⟩).app jr):=by show d.kids=_;rw[q.out];unfold Fs.snoc;rw[Fs.app_assoc];rfl
       have ap:Hid ((d2.snoc ⟨z,u,y,U,j⟩).len=(done.snoc ⟨o,kn,m,K,g⟩).len):=by show _=_;rw[Fs.len_snoc,Fs.len_snoc,hd.out]
       have ai:(done.len:Int)+1=((done.snoc ⟨o,kn,m,K,g⟩).len:Nat):=by rw[Fs.len_snoc];rfl
       generalize eN ⟨o,kn,m,K,g⟩ ⟨z,u,y,U,j⟩=cc at *;clear D ae L M SK TK HA V q hd;go_wp2;have k0:wr.cell? ⟨bx,3,GA⟩=GB (.slice (GB ⟨b,off,GA⟩) e.kids.len cap)/\wr.cell? ⟨bx+1,3,GA⟩=GB (.slice (GB ⟨h,c,GA⟩) d.kids.len f)/\wr.cell? ⟨b,off+done.len*4,GA⟩=GB (.int .i64 o)/\wr.cell? ⟨b,off+done.len*4+1,GA⟩=GB (.int .i64 kn)/\wr.cell? ⟨b,off+done.len*4+2,GA⟩=GB (stv m)/\wr.cell? ⟨b,off+done.len*4+3,GA⟩=GB (.slice ak g.len ck)/\wr.cell? ⟨h,c+done.len*4,GA⟩=GB (.int .i64 z)/\wr.cell? ⟨h,c+done.len*4+1,GA⟩=GB (.int .i64 u)/\wr.cell? ⟨h,c+done.len*4+2,GA⟩=GB (stv y)/\wr.cell? ⟨h,c+done.len*4+3,GA⟩=GB (.slice aj j.len cj):=⟨p3,Z,x0,x1,x2,x3,y0,y1,y2,y3⟩;have k1:wr.drew.cell? ⟨bx,3,GA⟩=GB (.slice (GB ⟨b,off,GA⟩) e.kids.len cap)/\wr.drew.cell? ⟨bx+1,3,GA⟩=GB (.slice (GB ⟨h,c,GA⟩) d.kids.len f)/\wr.drew.cell? ⟨b,off+done.len*4,GA⟩=GB (.int .i64 o)/\wr.drew.cell? ⟨b,off+done.len*4+1,GA⟩=GB (.int .i64 kn)/\wr.drew.cell? ⟨b,off+done.len*4+2,GA⟩=GB (stv m)/\wr.drew.cell? ⟨b,off+done.len*4+3,GA⟩=GB (.slice ak g.len ck)/\wr.drew.cell? ⟨h,c+done.len*4,GA⟩=GB (.int .i64 z)/\wr.drew.cell? ⟨h,c+done.len*4+1,GA⟩=GB (.int .i64 u)/\wr.drew.cell? ⟨h,c+done.len*4+2,GA⟩=GB (stv y)/\wr.drew.cell? ⟨h,c+done.len*4+3,GA⟩=GB (.slice aj j.len cj):=k0;have lb:bx+1<wr.drew.heap.size:=GF Y1;go_region_held (λwx=>wx.cell? ⟨bx,3,GA⟩=GB (.slice (GB ⟨b,off,GA⟩) e.kids.len cap)/\wx.cell? ⟨bx+1,3,GA⟩=GB (.slice (GB ⟨h,c,GA⟩) d.kids.len f)/\wx.cell? ⟨b,off+done.len*4,GA⟩=GB (.int .i64 o)/\wx.cell? ⟨b,off+done.len*4+1,GA⟩=GB (.int .i64 kn)/\wx.cell? ⟨b,off+done.len*4+2,GA⟩=GB (stv m)/\wx.cell? ⟨b,off+done.len*4+3,GA⟩=GB (.slice ak g.len ck)/\wx.cell? ⟨h,c+done.len*4,GA⟩=GB (.int .i64 z)/\wx.cell? ⟨h,c+done.len*4+1,GA⟩=GB (.int .i64 u)/\wx.cell? ⟨h,c+done.len*4+2,GA⟩=GB (stv y)/\wx.cell? ⟨h,c+done.len*4+3,GA⟩=GB (.slice aj j.len cj)) (first|(with_reducible exact k2)|(with_reducible exact k1)|(with_reducible exact k0)) ((go_at_call 220;refine hc.mono ?_;rintro x w2 ⟨rfl,b2⟩;have k2:w2.cell? ⟨bx,3,GA⟩=GB (.slice (GB ⟨b,off,GA⟩) e.kids.len cap)/\w2.cell? ⟨bx+1,3,GA⟩=GB (.slice (GB ⟨h,c,GA⟩) d.kids.len f)/\w2.cell? ⟨b,off+done.len*4,GA⟩=GB (.int .i64 o)/\w2.cell? ⟨b,off+done.len*4+1,GA⟩=GB (.int .i64 kn)/\w2.cell? ⟨b,off+done.len*4+2,GA⟩=GB (stv m)/\w2.cell? ⟨b,off+done.len*4+3,GA⟩=GB (.slice ak g.len ck)/\w2.cell? ⟨h,c+done.len*4,GA⟩=GB (.int .i64 z)/\w2.cell? ⟨h,c+done.len*4+1,GA⟩=GB (.int .i64 u)/\w2.cell? ⟨h,c+done.len*4+2,GA⟩=GB (stv y)/\w2.cell? ⟨h,c+done.len*4+3,GA⟩=GB (.slice aj j.len cj):=⟨(b2.cell (p:=⟨bx,3,GA⟩) (J5 lb)).trans p3,(b2.cell (p:=⟨bx+1,3,GA⟩) lb).trans Z,(b2.cell (p:=⟨b,off+done.len*4,GA⟩) C).trans x0,(b2.cell (p:=⟨b,off+done.len*4+1,GA⟩) C).trans x1,(b2.cell (p:=⟨b,off+done.len*4+2,GA⟩) C).trans x2,(b2.cell (p:=⟨b,off+done.len*4+3,GA⟩) C).trans x3,(b2.cell (p:=⟨h,c+done.len*4,GA⟩) B).trans y0,(b2.cell (p:=⟨h,c+done.len*4+1,GA⟩) B).trans y1,(b2.cell (p:=⟨h,c+done.len*4+2,GA⟩) B).trans y2,(b2.cell (p:=⟨h,c+done.len*4+3,GA⟩) B).trans y3⟩));have B2:GK bx w w2:=(Y.drew).trans (b2.mono (by have:=G.out;have:=Y.size;show bx<=wr.heap.size;omega));have E2:=(b2.block bx (J5 lb)).trans E1;have Y2:=(b2.block (bx+1) lb).trans Y1;clear k0 k1 k2 p0 p1 p2 p3 pf q0 q1 q2 Z qf x0 x1 x2 x3 y0 y1 y2 y3 hc b2 E1 Y1 Y;cases cc with
       | false =>
        have i:Hid (W=false):=by show W=_;rw[<-H.out];rfl
        clear H;go_wp2;go_ret;rw[i.out];exact⟨rfl,by rw[<-G.out];exact B2⟩
       | true =>
        have ar:Hid (fU T jr=W):=by show _=W;rw[<-H.out];rfl
        clear H;go_wp2;go_roundw
        case rel=>exact⟨_,T,_,jr,an,am,ap,by rw[<-ai],ar,E2,Y2,B2⟩
        case measure=>simp[Hh];omega
    ·have t:(e.k != d.k)=false:=by simp[h1]
     have F:(e.n != d.n)=false:=by simp[h2]
     have P:(e.nm==d.nm)=true:=by simp[I]
     have s:(e.k==d.k)=true:=by simp[h1]
     have E:(e.n==d.n)=true:=by simp[h2]
     have ad:((e.kids.len:Int) != (d.kids.len:Int))=true:=by simp;omega
     have ac:((e.kids.len:Int)==(d.kids.len:Int))=false:=by simp;omega
     have i:Hid (W=false):=by show W=_;rw[A.out];simp[eN,mR _ _ X]
     clear A h1 h2 I X;go_wp2;go_ret;rw[i.out];exact⟨rfl,by rw[<-G.out];exact R⟩
   ·have t:(e.k != d.k)=false:=by simp[h1]
    have F:(e.n != d.n)=false:=by simp[h2]
    have s:(e.k==d.k)=true:=by simp[h1]
    have E:(e.n==d.n)=true:=by simp[h2]
    have P:(e.nm==d.nm)=false:=by simpa using I
    have i:Hid (W=false):=by show W=_;rw[A.out];simp[eN,I]
    clear A h1 h2 I;go_wp2;go_ret;rw[i.out];exact⟨rfl,by rw[<-G.out];exact R⟩
  ·have t:(e.k != d.k)=false:=by simp[h1]
   have s:(e.k==d.k)=true:=by simp[h1]
   have F:(e.n != d.n)=true:=by simpa using h2
   have E:(e.n==d.n)=false:=by simpa using h2
   have i:Hid (W=false):=by show W=_;rw[A.out];simp[eN,h2]
   clear A h1 h2;go_wp2;go_ret;rw[i.out];exact⟨rfl,by rw[<-G.out];exact R⟩
 ·have t:(e.k != d.k)=true:=by simpa using h1
  have s:(e.k==d.k)=false:=by simpa using h1
  have i:Hid (W=false):=by show W=_;rw[A.out];simp[eN,h1]
  clear A h1;go_wp2;go_ret;rw[i.out];exact⟨rfl,by rw[<-G.out];exact R⟩
theorem nu:∀ N,lE N
 | 0=>λe c ao b cap a w h=>absurd h (Hr _)
 | N+1=>pN (nu N)
theorem uW (a:Ex):eN a a=true:=by simp[eN,lO]
def nV (N:Nat):Prop:=∀ (e a:Ex) (ao c:Option G1) (cap b:Nat) (w:GE),e.kids.size<N->e.kids.len<=1000000000->e.kids.short->a.kids.len<=1000000000->a.kids.short->SnA w e.kids ao->SnA w a.kids c ->
 GR GD 225 #[exN e ao cap,exN a c b] w λx w'=>x=.returned (.bool (eN e a))/\GK w.heap.size w w'
def FF (N:Nat):Prop:=∀ (f g:Fs) (ao b:Option G1) (cap a:Nat) (w:GE),f.size<=N->f.len<=1000000000->f.short->g.len<=1000000000->g.short->SnA w f ao->SnA w g b ->
 GR GD 244 #[.slice ao f.len cap,.slice b g.len a,.func (.func 225) #[] #[]] w λx w'=>x=.returned (.bool (fU f g))/\GK w.heap.size w w'
theorem Ee {N:Nat}(H:nV N):FF N:=by
 intro f g ao ay cap aq w hN ap ab ad J S S2;obtain⟨W,hW⟩:=exq (fU f g);rw[<-hW];have Z:Hid (W=fU f g):=hW;clear hW;go_enter Tryz.func244,Tryz.ntmps244;by_cases L:f.len=g.len
 ·have hI:((f.len:Int) != (g.len:Int))=false:=by rw[L];simp
  have am:((f.len:Int)==(g.len:Int))=true:=by rw[L];simp
  have HL:Hid (f.len=g.len):=L;clear L;go_wp2;go_loopw [17] (λv wr=>∃(d r d2 y:Fs),Hid (f=d.app r)/\Hid (g=d2.app y)/\Hid (d2.len=d.len)/\v=.int .i64 (d.len:Nat)/\Hid (fU r y=W)/\GK w.heap.size w wr) (λv _=>f.len-(Hh v).toNat)
  case atStart=>exact⟨.nil,f,.nil,g,rfl,rfl,rfl,by show _=GT .i64 ((0:Nat):Int);rfl,Z.out.symm,GN _ _⟩
  case round =>
   obtain⟨d,r,d2,y,F,M,X,rfl,HA,G⟩:=hrel;have t:f.len=d.len+r.len:=by rw[F.out,Fs.len_app]
   have ac:g.len=d2.len+y.len:=by rw[M.out,Fs.len_app]
   have K:r.len=y.len:=by have:=HL.out;have:=X.out;omega
   have C:Hid (r.len=y.len):=K;clear Z ac K hI am;cases r using Fs.on with
   | nil =>
    have af:¬(d.len:Int)<(f.len:Int):=by simp only[Fs.len] at t;omega
    have l:Hid (W=true):=by
     show W=true;rw[<-HA.out];cases y using Fs.on with
     | nil=>rfl
     | cons k n nm a ks r=>have:=C.out;simp only[Fs.len] at this;omega
    clear HA t C;go_wp2;go_ret;rw[l.out];exact⟨rfl,G⟩
   | cons j kn i z c D =>
    cases y using Fs.on with
    | nil=>have:=C.out;simp only[Fs.len] at this;omega
    | cons q m o E e I =>
    have af:(d.len:Int)<(f.len:Int):=by simp only[Fs.len] at t;omega
    have av:d.len<g.len:=by have:=HL.out;omega
    have aa:f.size=d.size+(c.size+D.size+1):=by rw[F.out,Fs.size_app];rfl
    have A:=Fs.app_short (by rw[<-F.out];exact ab);have B:=Fs.app_short (by rw[<-M.out];exact J);obtain⟨b,off,ak,ck,al,ar,-,x0,x1,x2,x3,SK⟩:=SlN.kidQ (by rw[<-F.out];exact SnA.below S G);obtain⟨Y,h,Q,P,O,s,-,y0,y1,y2,y3,TK⟩:=SlN.kidQ (by rw[<-M.out];exact SnA.below S2 G);subst al O;rw[X.out] at y0 y1 y2 y3;have b2:GK wr.heap.size wr (wr.alloc (zNv j kn i ak c.len ck)):=(GN _ wr).alloc (GC _) _;have K2:(wr.alloc (zNv j kn i ak c.len ck)).heap[wr.heap.size]?=GB (zNv j kn i ak c.len ck):=GH wr _;have B2:=G.trans (b2.mono G.size);have z0:=(b2.cell (p:=⟨Y,h+d.len*4,GA⟩) s).trans y0;have z1:=(b2.cell (p:=⟨Y,h+d.len*4+1,GA⟩) s).trans y1;have z2:=(b2.cell (p:=⟨Y,h+d.len*4+2,GA⟩) s).trans y2;have z3:=(b2.cell (p:=⟨Y,h+d.len*4+3,GA⟩) s).trans y3;have V:=SnA.below SK b2;have T:=SnA.below TK b2;clear y0 y1 y2 y3 t;go_upto_region 6 with fail;generalize wr.alloc (zNv j kn i ak c.len ck)=w2 at *;generalize wr.heap.size=bk at *;clear x0 x1 x2 x3 b2 SK TK G;have b3:GK w2.heap.size w2 (w2.alloc (zNv q m o Q e.len P)):=(GN _ w2).alloc (GC _) _;have J3:(w2.alloc (zNv q m o Q e.len P)).heap[w2.heap.size]?=GB (zNv q m o Q e.len P):=GH w2 _;have K3:=(b3.block _ (GF K2)).trans K2;have B3:=B2.trans (b3.mono B2.size);have U:=SnA.below V b3;have R:=SnA.below T b3;go_upto_region 7 with fail;generalize w2.alloc (zNv q m o Q e.len P)=w3 at *;generalize w2.heap.size=bj at *;clear z0 z1 z2 z3 b3 V T B2 K2;obtain⟨p0,p1,p2,p3,pf⟩:=el K3;obtain⟨q0,q1,q2,q3,qf⟩:=el J3;have c4:=H ⟨j,kn,i,z,c⟩ ⟨q,m,o,E,e⟩ ak Q ck P w3 (by show c.size<N;omega) A.2.1 A.2.2.1 B.2.1 B.2.2.1 U R;rw[dS,dS] at c4;simp only at c4;have u:Hid ((eN ⟨j,kn,i,z,c⟩ ⟨q,m,o,E,e⟩&&fU D I)=W):=HA;have ah:Hid (f=(d.snoc ⟨j,kn,i,z,c⟩).app D):=by show f=_;rw[F.out];unfold Fs.snoc;rw[Fs.app_assoc];rfl
    have ag:Hid (g=(d2.snoc ⟨q,m,o,E,e⟩).app I):=by show g=_;rw[M.out];unfold Fs.snoc;rw[Fs.app_assoc];rfl
    have ai:Hid ((d2.snoc ⟨q,m,o,E,e⟩).len=(d.snoc ⟨j,kn,i,z,c⟩).len):=by show _=_;rw[Fs.len_snoc,Fs.len_snoc,X.out]
    have ae:(d.len:Int)+1=((d.snoc ⟨j,kn,i,z,c⟩).len:Nat):=by rw[Fs.len_snoc];rfl
    generalize eN ⟨j,kn,i,z,c⟩ ⟨q,m,o,E,e⟩=cc at *;clear HA F M X aa A B U R K3 J3;go_wp2_with fail;refine c4.mono ?_;rintro x w4 ⟨rfl,b4⟩;have B4:=B3.trans (b4.mono B3.size);clear c4 p0 p1 p2 p3 pf q0 q1 q2 q3 qf b4 B3;cases cc with
    | false =>
     have l:Hid (W=false):=by show W=_;rw[<-u.out];rfl
     clear u;go_wp2;go_ret;rw[l.out];exact⟨rfl,B4⟩
    | true =>
     have an:Hid (fU D I=W):=by show _=W;rw[<-u.out];rfl
     clear u;go_wp2;go_roundw
     case rel=>exact⟨_,D,_,I,ah,ag,ai,by rw[<-ae],an,B4⟩
     case measure=>simp[Hh];omega
 ·have hI:((f.len:Int) != (g.len:Int))=true:=by simp;omega
  have l:Hid (W=false):=by show W=_;rw[Z.out];exact mR f g L
  clear Z;go_wp2;go_ret;rw[l.out];exact⟨rfl,GN _ _⟩
theorem xx {N:Nat}(G:nV N):nV (N+1):=by
 intro e a ao c cap b w J m p h l S v;obtain⟨W,q⟩:=exq (eN e a);rw[<-q];have f:Hid (W=eN e a):=q;clear q;have g:GK w.heap.size w ((w.alloc (zNd e ao cap)).alloc (zNd a c b)):=((GN _ w).alloc (GC _) _).alloc (by simp) _;have y:((w.alloc (zNd e ao cap)).alloc (zNd a c b)).heap[w.heap.size]?=GB (zNd e ao cap):=(GO _ _ _ (by simp)).trans (GH w _);have u:((w.alloc (zNd e ao cap)).alloc (zNd a c b)).heap[w.heap.size+1]?=GB (zNd a c b):=by
  have:=GH (w.alloc (zNd e ao cap)) (zNd a c b)
  simpa using this
 have F:=SnA.below S g;have E:=SnA.below v g;rw[dS,dS];go_enter Tryz.func225,Tryz.ntmps225;go_upto_region 1 with fail;generalize (w.alloc (zNd e ao cap)).alloc (zNd a c b)=w0 at *;obtain⟨bx,i⟩:=exq w.heap.size;rw[<-i] at y u g ⊢;have o:Hid (bx=w.heap.size):=i;clear i S v;obtain⟨p0,p1,p2,p3,D⟩:=el y;obtain⟨C,B,q2,A,z⟩:=el u;by_cases h1:e.k=a.k
 ·have t:(e.k==a.k)=true:=by simp[h1]
  by_cases h2:e.n=a.n
  ·have s:(e.n==a.n)=true:=by simp[h2]
   by_cases j:e.nm=a.nm
   ·have r:(e.nm==a.nm)=true:=by simp[j]
    have H:Hid (W=fU e.kids a.kids):=by show W=_;rw[f.out];simp[eN,h1,h2,j]
    have c1:=Ee G e.kids a.kids ao c cap b w0 (by omega) m p h l F E;clear f h1 h2 j;go_wp2_with fail;refine c1.mono ?_;rintro x w1 ⟨rfl,b1⟩;have I:=g.trans (b1.mono (by rw[o.out];exact g.size));clear c1 p0 p1 p2 p3 D C B q2 A z;rw[<-H.out];go_wp2;go_ret;exact⟨rfl,by rw[<-o.out];exact I⟩
   ·have r:(e.nm==a.nm)=false:=by simpa using j
    have d:Hid (W=false):=by show W=_;rw[f.out];simp[eN,j]
    clear f h1 h2 j;go_wp2;go_ret;rw[d.out];exact⟨rfl,by rw[<-o.out];exact g⟩
  ·have s:(e.n==a.n)=false:=by simpa using h2
   have d:Hid (W=false):=by show W=_;rw[f.out];simp[eN,h2]
   clear f h1;go_wp2;go_ret;rw[d.out];exact⟨rfl,by rw[<-o.out];exact g⟩
 ·have t:(e.k==a.k)=false:=by simpa using h1
  have d:Hid (W=false):=by show W=_;rw[f.out];simp[eN,h1]
  clear f;go_wp2;go_ret;rw[d.out];exact⟨rfl,by rw[<-o.out];exact g⟩
theorem vO:∀ N,nV N -- 225
 | 0=>λe c ao b cap a w h=>absurd h (Hr _)
 | N+1=>xx (vO N)
def Fs.nv:Fs->Prop
 | ⟨GA⟩=>True
 | ⟨GB ⟨k,n,_,_,ks,r⟩⟩=>(k=5->0<=n)/\ks.nv/\r.nv
def Ex.nv (e:Ex):Prop:=(e.k=5->0<=e.n)/\e.kids.nv
theorem Fs.app_nv:∀ {x y:Fs},(x.app y).nv->x.nv/\y.nv
 | ⟨GA⟩,y,h=>⟨trivial,h⟩
 | ⟨GB ⟨k,n,nm,a,ks,r⟩⟩,y,h=>⟨⟨h.1,h.2.1,(Fs.app_nv h.2.2).1⟩,(Fs.app_nv h.2.2).2⟩
theorem ue (cells:List Int):∀ (f:Fs) (pk:Int) (i ar b:Nat) (s s':Rg) (kd:List Int),rgF cells f pk i ar b s=GB (s',kd)->f.nv
 | ⟨GA⟩,pk,i,ar,b,s,s',kd,h=>trivial
 | ⟨GB ⟨k,n,nm,a,ks,r⟩⟩,pk,i,ar,b,s,s',kd,h=>by
  have l:rgF cells ⟨GB ⟨k,n,nm,a,ks,r⟩⟩ pk i ar b s=_:=iL cells ⟨k,n,nm,a,ks⟩ r pk i ar b s;rw[l] at h;cases c:rgE cells ⟨k,n,nm,a,ks⟩ (ep pk i ar b).1 (ep pk i ar b).2 s with
  | none=>rw[c] at h;cases h
  | some z =>
   obtain⟨s2,p⟩:=z;rw[c] at h;simp only at h;cases d:rgF cells r pk (i+1) ar b s2 with
   | none=>rw[d] at h;cases h
   | some z =>
    obtain⟨m,rest⟩:=z;have g:=nU c;obtain⟨-,o,j,e,-⟩:=gK c;simp only at g e;refine⟨?_,ue cells ks k 0 _ _ _ _ _ e,ue cells r pk (i+1) ar b _ _ _ d⟩;rintro rfl;simp[eg] at g;omega
theorem AF {cells:List Int}{e:Ex}{ar b:Nat}{s s':Rg}{k:Int}(h:rgE cells e ar b s=GB (s',k)):e.nv:=by
 have a:=nU h;obtain⟨-,f,c,d,-⟩:=gK h;refine⟨?_,ue _ _ _ _ _ _ _ _ _ d⟩;intro h5;rw[h5] at a;simp[eg] at a;omega
theorem lf (k n:Int)(nm:List UInt8)(a:Int)(ks r:Fs)(ar:Int):hgF (.cons k n nm a ks r) ar=max (hgE ⟨k,n,nm,a,ks⟩ ar) (hgF r ar):=rfl
def rx (N:Nat):Prop:=∀ (e:Ex) (ao:Option G1) (cap:Nat) (ar:Int) (w:GE),e.kids.size<N->e.kids.len<=1000000000->e.kids.short->e.nv->0<=ar->ar<=1000000000->SnA w e.kids ao ->
 GR GD 219 #[exN e ao cap,.int .i64 ar] w λx w'=>x=.returned (.int .i64 (hgE e ar))/\GK w.heap.size w w'
theorem uN {N:Nat}(IH:rx N):rx (N+1):=by
 intro e ao cap ar w hN ag O C R h1 S;obtain⟨W,hW⟩:=exq (hgE e ar);rw[<-hW];have HW:Hid (W=hgE e ar):=hW;clear hW;have Q:GK w.heap.size w (w.alloc (zNd e ao cap)):=(GN _ w).alloc (GC _) _;have M:(w.alloc (zNd e ao cap)).heap[w.heap.size]?=GB (zNd e ao cap):=GH w _;rw[dS];go_enter Tryz.func219,Tryz.ntmps219;go_upto_region 1 with fail;generalize w.alloc (zNd e ao cap)=w0 at *;obtain⟨bx,P⟩:=exq w.heap.size;rw[<-P] at M Q ⊢;have T:Hid (bx=w.heap.size):=P;clear P;obtain⟨c0,q⟩:∃c0:Int,c0=if e.k=5/\e.n<ar then e.n+1 else 0:=⟨_,rfl⟩;have s:0<=c0/\c0<=ar:=by
  rw[q];split
  ·have:=C.1 (by omega)
   omega
  ·omega
 have A:Hid (max c0 (hgF e.kids ar)=W):=by show _=W;rw[HW.out,q];rfl
 clear HW;obtain⟨p0,p1,p2,p3,J⟩:=el M;by_cases K:e.k=5
 ·have af:(e.k==5)=true:=by simpa using K
  by_cases aa:e.n<ar
  ·have ah:=C.1 K;obtain rfl:c0=e.n+1:=by rw[q,if_pos ⟨K,aa⟩]
   clear K q;go_wp2;go_loopw [5,6] (λv1 v5 wr=>∃(done r:Fs) (c:Int),Hid (e.kids=done.app r)/\v1=.int .i64 c/\v5=.int .i64 (done.len:Nat)/\0<=c/\c<=ar/\Hid (max c (hgF r ar)=W)/\wr.heap[bx]?=GB (zNd e ao cap)/\GK bx w wr) (λ_ v5 _=>e.kids.len-(Hh v5).toNat)
   case atStart=>exact⟨.nil,e.kids,e.n+1,rfl,rfl,by show _=GT .i64 ((0:Nat):Int);rfl,s.1,s.2,A,M,Q⟩
   case round =>
    clear M Q A p0 p1 p2 p3 J s;obtain⟨done,r,c,p,rfl,rfl,q,ac,u,t,v⟩:=hrel;have i:e.kids.len=done.len+r.len:=by rw[p.out,Fs.len_app]
    obtain⟨p0,p1,p2,p3,J⟩:=el t;cases r using Fs.on with
    | nil =>
     have D:¬(done.len:Int)<(e.kids.len:Int):=by simp only[Fs.len] at i;omega
     have I:Hid (W=c):=by show W=c;rw[<-u.out];simp only[hgF];omega
     clear u i;go_wp2;go_ret;rw[I.out];exact⟨rfl,by rw[<-T.out];exact v⟩
    | cons f kn d g a l =>
     have D:(done.len:Int)<(e.kids.len:Int):=by simp only[Fs.len] at i;omega
     have ab:done.len<e.kids.len:=by omega
     have B:e.kids.size=done.size+(a.size+l.size+1):=by rw[p.out,Fs.size_app];rfl
     have m:(Fs.cons f kn d g a l).short:=Fs.app_short (x:=done) (by rw[<-p.out];exact O);have o:(Fs.cons f kn d g a l).nv:=(Fs.app_nv (x:=done) (by rw[<-p.out];exact C.2)).2;obtain⟨b,off,ak,ck,G,Z,-,Y,X,V,U,L⟩:=SlN.kidQ (by rw[<-p.out];exact SnA.below S (by rw[<-T.out];exact v));subst G;have ae:=mK ar R ⟨f,kn,d,g,a⟩;have ad:=la ar ⟨f,kn,d,g,a⟩;have H:Hid (max (max c (hgE ⟨f,kn,d,g,a⟩ ar)) (hgF l ar)=W):=by show _=W;rw[<-u.out,lf];generalize hgE ⟨f,kn,d,g,a⟩ ar=z;generalize hgF l ar=y;omega
     have F:Hid (e.kids=(done.snoc ⟨f,kn,d,g,a⟩).app l):=by show e.kids=_;rw[p.out];unfold Fs.snoc;rw[Fs.app_assoc];rfl
     have E:(done.len:Int)+1=((done.snoc ⟨f,kn,d,g,a⟩).len:Nat):=by rw[Fs.len_snoc];rfl
     have j:=IH ⟨f,kn,d,g,a⟩ ak ck ar wr (by show a.size<N;omega) m.2.1 m.2.2.1 ⟨o.1,o.2.1⟩ R h1 L;rw[dS] at j;simp only at j;generalize hgE ⟨f,kn,d,g,a⟩ ar=c2 at *;clear u i B m L p o;go_wp2_with fail;refine j.mono ?_;rintro x w2 ⟨rfl,b2⟩;have B2:=v.trans (b2.mono (by have:=GF t;omega));have E2:=(b2.block bx (GF t)).trans t;clear j Y X V U p0 p1 p2 p3 J b2 t v;go_wp2;go_roundw
     case rel=>exact⟨_,l,max c c2,F,rfl,by rw[<-E],by omega,by omega,H,E2,B2⟩
     case measure=>simp[Hh];omega
  ·obtain rfl:c0=0:=by rw[q,if_neg (λh=>aa h.2)]
   clear K q;go_wp2;go_loopw [5,6] (λv1 v5 wr=>∃(done r:Fs) (c:Int),Hid (e.kids=done.app r)/\v1=.int .i64 c/\v5=.int .i64 (done.len:Nat)/\0<=c/\c<=ar/\Hid (max c (hgF r ar)=W)/\wr.heap[bx]?=GB (zNd e ao cap)/\GK bx w wr) (λ_ v5 _=>e.kids.len-(Hh v5).toNat)
   case atStart=>exact⟨.nil,e.kids,0,rfl,rfl,by show _=GT .i64 ((0:Nat):Int);rfl,s.1,s.2,A,M,Q⟩
   case round =>
    clear M Q A p0 p1 p2 p3 J s;obtain⟨done,r,c,p,rfl,rfl,q,ac,u,t,v⟩:=hrel;have i:e.kids.len=done.len+r.len:=by rw[p.out,Fs.len_app]
    obtain⟨p0,p1,p2,p3,J⟩:=el t;cases r using Fs.on with
    | nil =>
     have D:¬(done.len:Int)<(e.kids.len:Int):=by simp only[Fs.len] at i;omega
     have I:Hid (W=c):=by show W=c;rw[<-u.out];simp only[hgF];omega
     clear u i;go_wp2;go_ret;rw[I.out];exact⟨rfl,by rw[<-T.out];exact v⟩
    | cons f kn d g a l =>
     have D:(done.len:Int)<(e.kids.len:Int):=by simp only[Fs.len] at i;omega
     have ab:done.len<e.kids.len:=by omega
     have B:e.kids.size=done.size+(a.size+l.size+1):=by rw[p.out,Fs.size_app];rfl
     have m:(Fs.cons f kn d g a l).short:=Fs.app_short (x:=done) (by rw[<-p.out];exact O);have o:(Fs.cons f kn d g a l).nv:=(Fs.app_nv (x:=done) (by rw[<-p.out];exact C.2)).2;obtain⟨b,off,ak,ck,G,Z,-,Y,X,V,U,L⟩:=SlN.kidQ (by rw[<-p.out];exact SnA.below S (by rw[<-T.out];exact v));subst G;have ae:=mK ar R ⟨f,kn,d,g,a⟩;have ad:=la ar ⟨f,kn,d,g,a⟩;have H:Hid (max (max c (hgE ⟨f,kn,d,g,a⟩ ar)) (hgF l ar)=W):=by show _=W;rw[<-u.out,lf];generalize hgE ⟨f,kn,d,g,a⟩ ar=z;generalize hgF l ar=y;omega
     have F:Hid (e.kids=(done.snoc ⟨f,kn,d,g,a⟩).app l):=by show e.kids=_;rw[p.out];unfold Fs.snoc;rw[Fs.app_assoc];rfl
     have E:(done.len:Int)+1=((done.snoc ⟨f,kn,d,g,a⟩).len:Nat):=by rw[Fs.len_snoc];rfl
     have j:=IH ⟨f,kn,d,g,a⟩ ak ck ar wr (by show a.size<N;omega) m.2.1 m.2.2.1 ⟨o.1,o.2.1⟩ R h1 L;rw[dS] at j;simp only at j;generalize hgE ⟨f,kn,d,g,a⟩ ar=c2 at *;clear u i B m L p o;go_wp2_with fail;refine j.mono ?_;rintro x w2 ⟨rfl,b2⟩;have B2:=v.trans (b2.mono (by have:=GF t;omega));have E2:=(b2.block bx (GF t)).trans t;clear j Y X V U p0 p1 p2 p3 J b2 t v;go_wp2;go_roundw
     case rel=>exact⟨_,l,max c c2,F,rfl,by rw[<-E],by omega,by omega,H,E2,B2⟩
     case measure=>simp[Hh];omega
 ·have af:(e.k==5)=false:=by simpa using K
  obtain rfl:c0=0:=by rw[q,if_neg (λh=>K h.1)]
  clear K q;go_wp2;go_loopw [5,6] (λv1 v5 wr=>∃(done r:Fs) (c:Int),Hid (e.kids=done.app r)/\v1=.int .i64 c/\v5=.int .i64 (done.len:Nat)/\0<=c/\c<=ar/\Hid (max c (hgF r ar)=W)/\wr.heap[bx]?=GB (zNd e ao cap)/\GK bx w wr) (λ_ v5 _=>e.kids.len-(Hh v5).toNat)
  case atStart=>exact⟨.nil,e.kids,0,rfl,rfl,by show _=GT .i64 ((0:Nat):Int);rfl,s.1,s.2,A,M,Q⟩
  case round =>
   clear M Q A p0 p1 p2 p3 J s;obtain⟨done,r,c,p,rfl,rfl,q,ac,u,t,v⟩:=hrel;have i:e.kids.len=done.len+r.len:=by rw[p.out,Fs.len_app]
   obtain⟨p0,p1,p2,p3,J⟩:=el t;cases r using Fs.on with
   | nil =>
    have D:¬(done.len:Int)<(e.kids.len:Int):=by simp only[Fs.len] at i;omega
    have I:Hid (W=c):=by show W=c;rw[<-u.out];simp only[hgF];omega
    clear u i;go_wp2;go_ret;rw[I.out];exact⟨rfl,by rw[<-T.out];exact v⟩
   | cons f kn d g a l =>
    have D:(done.len:Int)<(e.kids.len:Int):=by simp only[Fs.len] at i;omega
    have ab:done.len<e.kids.len:=by omega
    have B:e.kids.size=done.size+(a.size+l.size+1):=by rw[p.out,Fs.size_app];rfl
    have m:(Fs.cons f kn d g a l).short:=Fs.app_short (x:=done) (by rw[<-p.out];exact O);have o:(Fs.cons f kn d g a l).nv:=(Fs.app_nv (x:=done) (by rw[<-p.out];exact C.2)).2;obtain⟨b,off,ak,ck,G,Z,-,Y,X,V,U,L⟩:=SlN.kidQ (by rw[<-p.out];exact SnA.below S (by rw[<-T.out];exact v));subst G;have ae:=mK ar R ⟨f,kn,d,g,a⟩;have ad:=la ar ⟨f,kn,d,g,a⟩;have H:Hid (max (max c (hgE ⟨f,kn,d,g,a⟩ ar)) (hgF l ar)=W):=by show _=W;rw[<-u.out,lf];generalize hgE ⟨f,kn,d,g,a⟩ ar=z;generalize hgF l ar=y;omega
    have F:Hid (e.kids=(done.snoc ⟨f,kn,d,g,a⟩).app l):=by show e.kids=_;rw[p.out];unfold Fs.snoc;rw[Fs.app_assoc];rfl
    have E:(done.len:Int)+1=((done.snoc ⟨f,kn,d,g,a⟩).len:Nat):=by rw[Fs.len_snoc];rfl
    have j:=IH ⟨f,kn,d,g,a⟩ ak ck ar wr (by show a.size<N;omega) m.2.1 m.2.2.1 ⟨o.1,o.2.1⟩ R h1 L;rw[dS] at j;simp only at j;generalize hgE ⟨f,kn,d,g,a⟩ ar=c2 at *;clear u i B m L p o;go_wp2_with fail;refine j.mono ?_;rintro x w2 ⟨rfl,b2⟩;have B2:=v.trans (b2.mono (by have:=GF t;omega));have E2:=(b2.block bx (GF t)).trans t;clear j Y X V U p0 p1 p2 p3 J b2 t v;go_wp2;go_roundw
    case rel=>exact⟨_,l,max c c2,F,rfl,by rw[<-E],by omega,by omega,H,E2,B2⟩
    case measure=>simp[Hh];omega
theorem th:∀ N,rx N -- 219
 | 0=>λe ao cap ar w h=>absurd h (Hr _)
 | N+1=>uN (th N)
def rN (N:Nat):Prop:=∀ (e:Ex) (ao:Option G1) (cap:Nat) (ar:Int) (w:GE),e.kids.size<N->e.kids.len<=1000000000->e.kids.short->e.nv->0<=ar->ar<=1000000000->SnA w e.kids ao ->
 GR GD 224 #[exN e ao cap,.int .i64 ar] w λx w'=>x=.returned (.int .i64 (hgE e ar))/\GK w.heap.size w w'
theorem uK {N:Nat}(IH:rN N):rN (N+1):=by
 intro e ao cap ar w hN aj Y J h0 h1 S;obtain⟨W,hW⟩:=exq (hgE e ar);rw[<-hW];have HW:Hid (W=hgE e ar):=hW;clear hW;have B0:GK w.heap.size w (w.alloc (zNd e ao cap)):=(GN _ w).alloc (GC _) _;have X:(w.alloc (zNd e ao cap)).heap[w.heap.size]?=GB (zNd e ao cap):=GH w _;rw[dS];go_enter Tryz.func224,Tryz.ntmps224;go_upto_region 1 with fail;generalize w.alloc (zNd e ao cap)=w0 at *;obtain⟨bx,Z⟩:=exq w.heap.size;rw[<-Z] at X B0 ⊢;have HB:Hid (bx=w.heap.size):=Z;clear Z;obtain⟨c0,s⟩:∃c0:Int,c0=if e.k=5/\e.n<ar then e.n+1 else 0:=⟨_,rfl⟩;have t:0<=c0/\c0<=ar:=by
  rw[s];split
  ·have:=J.1 (by omega)
   omega
  ·omega
 have G:Hid (max c0 (hgF e.kids ar)=W):=by show _=W;rw[HW.out,s];rfl
 clear HW;obtain⟨p0,p1,p2,p3,T⟩:=el X;by_cases U:e.k=5
 ·have ai:(e.k==5)=true:=by simpa using U
  by_cases ab:e.n<ar
  ·have al:=J.1 U;obtain rfl:c0=e.n+1:=by rw[s,if_pos ⟨U,ab⟩]
   clear U s;go_wp2;go_loopw [5,23] (λv1 v5 wr=>∃(done r:Fs) (c:Int),Hid (e.kids=done.app r)/\v1=.int .i64 c/\v5=.int .i64 (done.len:Nat)/\0<=c/\c<=ar/\Hid (max c (hgF r ar)=W)/\wr.heap[bx]?=GB (zNd e ao cap)/\GK bx w wr) (λ_ v5 _=>e.kids.len-(Hh v5).toNat)
   case atStart=>exact⟨.nil,e.kids,e.n+1,rfl,rfl,by show _=GT .i64 ((0:Nat):Int);rfl,t.1,t.2,G,X,B0⟩
   case round =>
    clear X B0 G p0 p1 p2 p3 T t;obtain⟨done,r,c,q,rfl,rfl,s,ae,B,D,F⟩:=hrel;have i:e.kids.len=done.len+r.len:=by rw[q.out,Fs.len_app]
    obtain⟨p0,p1,p2,p3,T⟩:=el D;cases r using Fs.on with
    | nil =>
     have K:¬(done.len:Int)<(e.kids.len:Int):=by simp only[Fs.len] at i;omega
     have R:Hid (W=c):=by show W=c;rw[<-B.out];simp only[hgF];omega
     clear B i;go_wp2;go_ret;rw[R.out];exact⟨rfl,by rw[<-HB.out];exact F⟩
    | cons f kn d g a l =>
     have K:(done.len:Int)<(e.kids.len:Int):=by simp only[Fs.len] at i;omega
     have ad:done.len<e.kids.len:=by omega
     have I:e.kids.size=done.size+(a.size+l.size+1):=by rw[q.out,Fs.size_app];rfl
     have o:(Fs.cons f kn d g a l).short:=Fs.app_short (x:=done) (by rw[<-q.out];exact Y);have p:(Fs.cons f kn d g a l).nv:=(Fs.app_nv (x:=done) (by rw[<-q.out];exact J.2)).2;obtain⟨b,off,ak,ck,P,aa,-,x0,x1,x2,x3,V⟩:=SlN.kidQ (by rw[<-q.out];exact SnA.below S (by rw[<-HB.out];exact F));subst P;have ag:=mK ar h0 ⟨f,kn,d,g,a⟩;have af:=la ar ⟨f,kn,d,g,a⟩;have Q:Hid (max (max c (hgE ⟨f,kn,d,g,a⟩ ar)) (hgF l ar)=W):=by show _=W;rw[<-B.out,lf];generalize hgE ⟨f,kn,d,g,a⟩ ar=z;generalize hgF l ar=y;omega
     have M:Hid (e.kids=(done.snoc ⟨f,kn,d,g,a⟩).app l):=by show e.kids=_;rw[q.out];unfold Fs.snoc;rw[Fs.app_assoc];rfl
     have L:(done.len:Int)+1=((done.snoc ⟨f,kn,d,g,a⟩).len:Nat):=by rw[Fs.len_snoc];rfl
     have O:=GF D;have E:GK wr.heap.size wr (wr.alloc (zNv f kn d ak a.len ck)):=(GN _ wr).alloc (GC _) _;have A:(wr.alloc (zNv f kn d ak a.len ck)).heap[wr.heap.size]?=GB (zNv f kn d ak a.len ck):=GH wr _;have u:=SnA.below V E;clear B i V q;go_upto_region 7 with fail;generalize wr.alloc (zNv f kn d ak a.len ck)=w3 at *;obtain⟨H,m⟩:=exq wr.heap.size;rw[<-m] at A ⊢;have ah:Hid (H=wr.heap.size):=m;have j:=IH ⟨f,kn,d,g,a⟩ ak ck ar w3 (by show a.size<N;omega) o.2.1 o.2.2.1 ⟨p.1,p.2.1⟩ h0 h1 u;rw[dS] at j;simp only at j;generalize hgE ⟨f,kn,d,g,a⟩ ar=c2 at *;obtain⟨z0,z1,z2,z3,zf⟩:=el A;have ac:=GF A;have v:GK bx w w3:=F.trans (E.mono (by omega));have C:=(E.block bx O).trans D;clear I o p m u x0 x1 x2 x3 p0 p1 p2 p3 T D F E;go_wp2_with fail;refine j.mono ?_;rintro x w2 ⟨rfl,b2⟩;have B2:=v.trans (b2.mono (by have:=GF C;omega));have E2:=(b2.block bx (GF C)).trans C;clear j z0 z1 z2 z3 zf b2 C v A;go_wp2;go_roundw
     case rel=>exact⟨_,l,max c c2,M,rfl,by rw[<-L],by omega,by omega,Q,E2,B2⟩
     case measure=>simp[Hh];omega
  ·obtain rfl:c0=0:=by rw[s,if_neg (λh=>ab h.2)]
   clear U s;go_wp2;go_loopw [5,23] (λv1 v5 wr=>∃(done r:Fs) (c:Int),Hid (e.kids=done.app r)/\v1=.int .i64 c/\v5=.int .i64 (done.len:Nat)/\0<=c/\c<=ar/\Hid (max c (hgF r ar)=W)/\wr.heap[bx]?=GB (zNd e ao cap)/\GK bx w wr) (λ_ v5 _=>e.kids.len-(Hh v5).toNat)
   case atStart=>exact⟨.nil,e.kids,0,rfl,rfl,by show _=GT .i64 ((0:Nat):Int);rfl,t.1,t.2,G,X,B0⟩
   case round =>
    clear X B0 G p0 p1 p2 p3 T t;obtain⟨done,r,c,q,rfl,rfl,s,ae,B,D,F⟩:=hrel;have i:e.kids.len=done.len+r.len:=by rw[q.out,Fs.len_app]
    obtain⟨p0,p1,p2,p3,T⟩:=el D;cases r using Fs.on with
    | nil =>
     have K:¬(done.len:Int)<(e.kids.len:Int):=by simp only[Fs.len] at i;omega
     have R:Hid (W=c):=by show W=c;rw[<-B.out];simp only[hgF];omega
     clear B i;go_wp2;go_ret;rw[R.out];exact⟨rfl,by rw[<-HB.out];exact F⟩
    | cons f kn d g a l =>
     have K:(done.len:Int)<(e.kids.len:Int):=by simp only[Fs.len] at i;omega
     have ad:done.len<e.kids.len:=by omega
     have I:e.kids.size=done.size+(a.size+l.size+1):=by rw[q.out,Fs.size_app];rfl
     have o:(Fs.cons f kn d g a l).short:=Fs.app_short (x:=done) (by rw[<-q.out];exact Y);have p:(Fs.cons f kn d g a l).nv:=(Fs.app_nv (x:=done) (by rw[<-q.out];exact J.2)).2;obtain⟨b,off,ak,ck,P,aa,-,x0,x1,x2,x3,V⟩:=SlN.kidQ (by rw[<-q.out];exact SnA.below S (by rw[<-HB.out];exact F));subst P;have ag:=mK ar h0 ⟨f,kn,d,g,a⟩;have af:=la ar ⟨f,kn,d,g,a⟩;have Q:Hid (max (max c (hgE ⟨f,kn,d,g,a⟩ ar)) (hgF l ar)=W):=by show _=W;rw[<-B.out,lf];generalize hgE ⟨f,kn,d,g,a⟩ ar=z;generalize hgF l ar=y;omega
     have M:Hid (e.kids=(done.snoc ⟨f,kn,d,g,a⟩).app l):=by show e.kids=_;rw[q.out];unfold Fs.snoc;rw[Fs.app_assoc];rfl
     have L:(done.len:Int)+1=((done.snoc ⟨f,kn,d,g,a⟩).len:Nat):=by rw[Fs.len_snoc];rfl
     have O:=GF D;have E:GK wr.heap.size wr (wr.alloc (zNv f kn d ak a.len ck)):=(GN _ wr).alloc (GC _) _;have A:(wr.alloc (zNv f kn d ak a.len ck)).heap[wr.heap.size]?=GB (zNv f kn d ak a.len ck):=GH wr _;have u:=SnA.below V E;clear B i V q;go_upto_region 7 with fail;generalize wr.alloc (zNv f kn d ak a.len ck)=w3 at *;obtain⟨H,m⟩:=exq wr.heap.size;rw[<-m] at A ⊢;have ah:Hid (H=wr.heap.size):=m;have j:=IH ⟨f,kn,d,g,a⟩ ak ck ar w3 (by show a.size<N;omega) o.2.1 o.2.2.1 ⟨p.1,p.2.1⟩ h0 h1 u;rw[dS] at j;simp only at j;generalize hgE ⟨f,kn,d,g,a⟩ ar=c2 at *;obtain⟨z0,z1,z2,z3,zf⟩:=el A;have ac:=GF A;have v:GK bx w w3:=F.trans (E.mono (by omega));have C:=(E.block bx O).trans D;clear I o p m u x0 x1 x2 x3 p0 p1 p2 p3 T D F E;go_wp2_with fail;refine j.mono ?_;rintro x w2 ⟨rfl,b2⟩;have B2:=v.trans (b2.mono (by have:=GF C;omega));have E2:=(b2.block bx (GF C)).trans C;clear j z0 z1 z2 z3 zf b2 C v A;go_wp2;go_roundw
     case rel=>exact⟨_,l,max c c2,M,rfl,by rw[<-L],by omega,by omega,Q,E2,B2⟩
     case measure=>simp[Hh];omega
 ·have ai:(e.k==5)=false:=by simpa using U
  obtain rfl:c0=0:=by rw[s,if_neg (λh=>U h.1)]
  clear U s;go_wp2;go_loopw [5,23] (λv1 v5 wr=>∃(done r:Fs) (c:Int),Hid (e.kids=done.app r)/\v1=.int .i64 c/\v5=.int .i64 (done.len:Nat)/\0<=c/\c<=ar/\Hid (max c (hgF r ar)=W)/\wr.heap[bx]?=GB (zNd e ao cap)/\GK bx w wr) (λ_ v5 _=>e.kids.len-(Hh v5).toNat)
  case atStart=>exact⟨.nil,e.kids,0,rfl,rfl,by show _=GT .i64 ((0:Nat):Int);rfl,t.1,t.2,G,X,B0⟩
  case round =>
   clear X B0 G p0 p1 p2 p3 T t;obtain⟨done,r,c,q,rfl,rfl,s,ae,B,D,F⟩:=hrel;have i:e.kids.len=done.len+r.len:=by rw[q.out,Fs.len_app]
   obtain⟨p0,p1,p2,p3,T⟩:=el D;cases r using Fs.on with
   | nil =>
    have K:¬(done.len:Int)<(e.kids.len:Int):=by simp only[Fs.len] at i;omega
    have R:Hid (W=c):=by show W=c;rw[<-B.out];simp only[hgF];omega
    clear B i;go_wp2;go_ret;rw[R.out];exact⟨rfl,by rw[<-HB.out];exact F⟩
   | cons f kn d g a l =>
    have K:(done.len:Int)<(e.kids.len:Int):=by simp only[Fs.len] at i;omega
    have ad:done.len<e.kids.len:=by omega
    have I:e.kids.size=done.size+(a.size+l.size+1):=by rw[q.out,Fs.size_app];rfl
    have o:(Fs.cons f kn d g a l).short:=Fs.app_short (x:=done) (by rw[<-q.out];exact Y);have p:(Fs.cons f kn d g a l).nv:=(Fs.app_nv (x:=done) (by rw[<-q.out];exact J.2)).2;obtain⟨b,off,ak,ck,P,aa,-,x0,x1,x2,x3,V⟩:=SlN.kidQ (by rw[<-q.out];exact SnA.below S (by rw[<-HB.out];exact F));subst P;have ag:=mK ar h0 ⟨f,kn,d,g,a⟩;have af:=la ar ⟨f,kn,d,g,a⟩;have Q:Hid (max (max c (hgE ⟨f,kn,d,g,a⟩ ar)) (hgF l ar)=W):=by show _=W;rw[<-B.out,lf];generalize hgE ⟨f,kn,d,g,a⟩ ar=z;generalize hgF l ar=y;omega
    have M:Hid (e.kids=(done.snoc ⟨f,kn,d,g,a⟩).app l):=by show e.kids=_;rw[q.out];unfold Fs.snoc;rw[Fs.app_assoc];rfl
    have L:(done.len:Int)+1=((done.snoc ⟨f,kn,d,g,a⟩).len:Nat):=by rw[Fs.len_snoc];rfl
    have O:=GF D;have E:GK wr.heap.size wr (wr.alloc (zNv f kn d ak a.len ck)):=(GN _ wr).alloc (GC _) _;have A:(wr.alloc (zNv f kn d ak a.len ck)).heap[wr.heap.size]?=GB (zNv f kn d ak a.len ck):=GH wr _;have u:=SnA.below V E;clear B i V q;go_upto_region 7 with fail;generalize wr.alloc (zNv f kn d ak a.len ck)=w3 at *;obtain⟨H,m⟩:=exq wr.heap.size;rw[<-m] at A ⊢;have ah:Hid (H=wr.heap.size):=m;have j:=IH ⟨f,kn,d,g,a⟩ ak ck ar w3 (by show a.size<N;omega) o.2.1 o.2.2.1 ⟨p.1,p.2.1⟩ h0 h1 u;rw[dS] at j;simp only at j;generalize hgE ⟨f,kn,d,g,a⟩ ar=c2 at *;obtain⟨z0,z1,z2,z3,zf⟩:=el A;have ac:=GF A;have v:GK bx w w3:=F.trans (E.mono (by omega));have C:=(E.block bx O).trans D;clear I o p m u x0 x1 x2 x3 p0 p1 p2 p3 T D F E;go_wp2_with fail;refine j.mono ?_;rintro x w2 ⟨rfl,b2⟩;have B2:=v.trans (b2.mono (by have:=GF C;omega));have E2:=(b2.block bx (GF C)).trans C;clear j z0 z1 z2 z3 zf b2 C v A;go_wp2;go_roundw
    case rel=>exact⟨_,l,max c c2,M,rfl,by rw[<-L],by omega,by omega,Q,E2,B2⟩
    case measure=>simp[Hh];omega
theorem tp:∀ N,rN N -- 224
 | 0=>λe ao cap ar w h=>absurd h (Hr _)
 | N+1=>uK (tp N)
structure fs (e:Ex):Prop where
 nm:e.nm.length<=GY
 len:e.kids.len<=1000000000
 sh:e.kids.short
def KT (w:GE)(P:Nat->Prop)(b nc:Nat)(t:Nat->Option Ex):Prop :=
 ∃a:Array GJ,w.heap[b]?=GB (.cells a 32 (0,0))/\a.size=nc /\
  ∀ i,i<nc->(t i=GA/\a[i]?=GB (.slice GA 0 0))\/∃x y g cap,t i=GB x/\eN x y=true/\a[i]?=GB (.slice (GB ⟨g,0,GA⟩) 1 cap)/\SlN w P (one y) (GB ⟨g,0,GA⟩)/\fs y
theorem KT.mono {w w':GE}{P:Nat->Prop}{a nc:Nat}{t:Nat->Option Ex}(h:KT w P a nc t)(e:w'.heap[a]?=w.heap[a]?)(n:∀ k,P k->k<w.heap.size->w'.heap[k]?=w.heap[k]?)(l:w.heap.size<=w'.heap.size):KT w' P a nc t:=by
 obtain⟨b,h1,h2,p⟩:=h;refine⟨b,e.trans h1,h2,λi m=>?_⟩;rcases p i m with o|⟨x,y,g,cap,j,q2,f,d,c⟩
 ·exact .inl o
 ·exact .inr ⟨x,y,g,cap,j,q2,f,d.mono n l (λ_ h _=>h),c⟩
def WD (w:GE)(wb a:Nat)(bv:GJ)(nc:Nat):Dg->Prop
 | some s=>w.heap[wb]?=GB (.cells #[bv,.int .i64 (s.1:Nat),.slice (GB ⟨a,0,GA⟩) nc nc,.bool true] 162 (0,0))/\s.1<=4096/\KT w (Nf2 wb a) a nc s.2
 | none=>a<w.heap.size/\∃p b,w.heap[wb]?=GB (.cells #[bv,.int .i64 p,b,.bool false] 162 (0,0))
theorem WD.lt {w:GE}{wb a:Nat}{bv:GJ}{nc:Nat}{st:Dg}(h:WD w wb a bv nc st):wb<w.heap.size:=by
 cases st with
 | none=>obtain⟨-,p,b,h⟩:=h;exact GF h
 | some s=>exact GF h.1
theorem WD.ltk {w:GE}{wb a:Nat}{bv:GJ}{nc:Nat}{st:Dg}(h:WD w wb a bv nc st):a<w.heap.size:=by
 cases st with
 | none=>exact h.1
 | some s=>obtain⟨-,-,b,h,-⟩:=h;exact GF h
theorem WD.below {w w':GE}{wb c:Nat}{bv:GJ}{nc:Nat}{st:Dg}(h:WD w wb c bv nc st)(b:GK w.heap.size w w'):WD w' wb c bv nc st:=by
 have a:=h.lt;cases st with
 | none=>obtain⟨d,p,f,h⟩:=h;exact⟨GM d b.size,p,f,(b.block _ a).trans h⟩
 | some s =>
  obtain⟨h1,h2,e⟩:=h;have d:c<w.heap.size:=by obtain⟨g,h,-⟩:=e;exact GF h
  exact⟨(b.block _ a).trans h1,h2,e.mono (b.block _ d) (λi _ a=>b.block i a) b.size⟩
def eA (w:GE)(wb a:Nat)(bv:GJ)(nc:Nat)(r:Option (Rg × Int))(x:IG)(w':GE):Prop :=
 (∃b,x=.returned (.int .i64 b)/\∀ s k,r=GB (s,k)->b=k)/\WD w' wb a bv nc (r.map (·.1))/\Kp wb a w w'
def ms (N:Nat):Prop:=∀ (e:Ex) (ao:Option G1) (cap wb a:Nat) (bv:GJ) (cells:List Int) (ar b:Nat) (s:Rg) (w:GE),e.kids.size<N->fs e->b<=4->ar<=b->wb≠a->WD w wb a bv cells.length (GB s)->Inw w (Nf2 wb a) bv cells->SlN w (Nf2 wb a) e.kids ao ->
 GR GD 112 #[.pointer (GB ⟨wb,0,GA⟩),exN e ao cap,.int .i64 ar,.int .i64 b] w (eA w wb a bv cells.length (fJ cells e ar b s))
def CS (r:Option (Rg × Int))(m:Int):Dg:=match r with|none=>GA|some (s',k)=>if k=m then GB s' else GA
def jD (w:GE)(wb a:Nat)(bv:GJ)(nc:Nat)(st:Dg)(x:IG)(w':GE):Prop:=x=.returned (.tuple #[])/\WD w' wb a bv nc st/\Kp wb a w w'
theorem ke {w:GE}{b:Nat}{a0 a1 a2 a3:GJ}{t:Hl}(h:w.heap[b]?=GB (.cells #[a0,a1,a2,a3] t (0,0)))(v:GJ) :
  (w.setCell ⟨b,1,GA⟩ v).heap[b]?=GB (.cells #[a0,v,a2,a3] t (0,0))/\(w.setCell ⟨b,3,GA⟩ v).heap[b]?=GB (.cells #[a0,a1,a2,v] t (0,0)) :=
 ⟨(Blk.set (o:=λ_=>0) (i:=0) ⟨h,rfl⟩ 1 v).1,(Blk.set (o:=λ_=>0) (i:=0) ⟨h,rfl⟩ 3 v).1⟩
theorem sW (e:Ex)(ao:Option G1)(cap wb a:Nat)(bv:GJ)(nc:Nat)(ar q:Nat)(w:GE)(h:WD w wb a bv nc GA) :
  GR GD 112 #[.pointer (GB ⟨wb,0,GA⟩),exN e ao cap,.int .i64 ar,.int .i64 q] w (eA w wb a bv nc GA):=by
 have g:GK w.heap.size w (w.alloc (zNd e ao cap)):=(GN _ w).alloc (GC _) _;have u:(w.alloc (zNd e ao cap)).heap[w.heap.size]?=GB (zNd e ao cap):=GH w _;have b:=h.below g;clear h;rw[dS];go_enter Tryz.func112,Tryz.ntmps112;go_upto_region 1 with fail;generalize w.alloc (zNd e ao cap)=w0 at *;obtain⟨d,p,r,b⟩:=b;obtain⟨m,l,q2,j,i⟩:=el b;have n:Kp wb a w w0:=Kp.ofBelow g;clear u g;have f:=(ke b (.int .i64 (Ho (p+1)))).1;have o:=n.set ⟨wb,1,GA⟩ (.int .i64 (Ho (p+1))) (.inr (.inl rfl));have c:a<(w0.setCell ⟨wb,1,GA⟩ (.int .i64 (Ho (p+1)))).heap.size:=by simpa using d
 clear n b;go_upto_region 2 with fail;generalize w0.setCell ⟨wb,1,GA⟩ (.int .i64 (Ho (p+1)))=w1 at *;generalize Ho (p+1)=p1 at *;clear m l q2 j i;obtain⟨m,l,q2,j,i⟩:=el f;have t:Hid (eA w wb a bv nc GA (.returned (.int .i64 0)) (w1.setCell ⟨wb,3,GA⟩ (.bool false))):=⟨⟨0,rfl,λs k h=>by cases h⟩,⟨by simpa using c,p1,r,(ke f (.bool false)).2⟩,o.set _ _ (.inr (.inl rfl))⟩;clear f o;go_wp2;exact GG (v:=.int .i64 0) (by simp[results,Hg,go_sem]) rfl t.out
theorem lJ {N:Nat}(M:ms N)(e:Ex)(ao:Option G1)(cap wb f:Nat)(bv:GJ)(cells:List Int)(ar j:Nat)(m:Int)(st:Dg)(w:GE)(I:st≠GA->e.kids.size<N)(X:fs e)(A:j<=4)(B:ar<=j)(g:wb≠f)(W:st≠GA->m≠4)(h:WD w wb f bv cells.length st)(H:Inw w (Nf2 wb f) bv cells)(S:SlN w (Nf2 wb f) e.kids ao) :
  GR GD 174 #[.pointer (GB ⟨wb,0,GA⟩),exN e ao cap,.int .i64 ar,.int .i64 j,.int .i64 m] w (jD w wb f bv cells.length (eS cells st m e ar j)):=by
 have y:GK w.heap.size w (w.alloc (zNd e ao cap)):=(GN _ w).alloc (GC _) _;have O:(w.alloc (zNd e ao cap)).heap[w.heap.size]?=GB (zNd e ao cap):=GH w _;have C:=h.below y;have J:=S.belowP y;have N0:=H.below y;clear h S H;rw[dS];go_enter Tryz.func174,Tryz.ntmps174;go_upto_region 1 with fail;generalize w.alloc (zNd e ao cap)=w0 at *;have K:Kp wb f w w0:=Kp.ofBelow y;obtain⟨p0,p1,p2,p3,U⟩:=el O;clear O y;have Y:∃r:Option (Rg × Int),GR GD 112 #[.pointer (GB ⟨wb,0,GA⟩),exN e ao cap,.int .i64 ar,.int .i64 j] w0 (eA w0 wb f bv cells.length r)/\eS cells st m e ar j=CS r m:=by
  cases st with
  | none=>exact⟨GA,sW e ao cap wb f bv cells.length ar j w0 C,rfl⟩
  | some s=>exact⟨_,M e ao cap wb f bv cells ar j s w0 (I (by simp)) X A B g C N0 J,Ar (W (by simp))⟩
 obtain⟨r,c1,G⟩:=Y;have u:Hid (eS cells st m e ar j=CS r m):=G;clear G C J N0 I M;generalize eS cells st m e ar j=Z at *;rw[dS] at c1;go_wp2_with fail;refine c1.mono ?_;rintro x w1 ⟨⟨q,rfl,n⟩,d,L⟩;have t:=K.trans L;clear c1 p0 p1 p2 p3 U K L;have i:∀ {b:Bool},WD w1 wb f bv cells.length (r.map (·.1))->Hid (Z=GA)->(∃a1 a2,w1.heap[wb]?=GB (.cells #[bv,a1,a2,.bool b] 162 (0,0))/\∃p,a1=.int .i64 p)->Hid (jD w wb f bv cells.length Z (.returned (.tuple #[])) (w1.setCell ⟨wb,3,GA⟩ (.bool false))):=by
  intro b h1 V h2;obtain⟨a1,a2,h2,p,rfl⟩:=h2;refine⟨rfl,?_,t.set _ _ (.inr (.inl rfl))⟩;rw[V.out];exact⟨by simpa using h1.ltk,p,a2,(ke h2 (.bool false)).2⟩
 cases a:r with
 | none =>
  rw[a] at d;have v:=d;obtain⟨-,p,kv,d⟩:=d;have o:Hid (Z=GA):=by show Z=GA;rw[u.out,a];rfl
  have E:=i (by rw[a];exact v) o ⟨_,_,d,p,rfl⟩;have D:Hid (jD w wb f bv cells.length Z (.returned (.tuple #[])) w1):=⟨rfl,by rw[o.out];exact v,t⟩;obtain⟨T,R,q2,Q,P⟩:=el d;clear i u a n t v d o;by_cases c:q=m
  ·have g:(q != m)=false:=by simpa using c
   clear c;go_wp2
   go_end0
   exact D.out
  ·have g:(q != m)=true:=by simpa using c
   clear c;go_wp2
   go_end0
   exact E.out
 | some z =>
  obtain⟨s,k⟩:=z;obtain rfl:=n s k a;rw[a] at d;have v:WD w1 wb f bv cells.length (GB s):=d;obtain⟨d,F,l⟩:=v;obtain⟨T,R,q2,Q,P⟩:=el d;by_cases c:q=m
  ·have g:(q != m)=false:=by simpa using c
   have D:Hid (jD w wb f bv cells.length Z (.returned (.tuple #[])) w1):=⟨rfl,by rw[u.out,a];simp only[CS];rw[if_pos c];exact⟨d,F,l⟩,t⟩;clear i u a n t d l c;go_wp2
   go_end0
   exact D.out
  ·have g:(q != m)=true:=by simpa using c
   have E:=i (by rw[a];exact⟨d,F,l⟩) (by show Z=GA;rw[u.out,a];simp only[CS];rw[if_neg c]) ⟨_,_,d,_,rfl⟩;clear i u a n t d l c;go_wp2
   go_end0
   exact E.out
theorem fs.kid {e:Ex}{d r:Fs}{x:Ex}(h:fs e)(a:e.kids=d.app (Fs.ex x r)):fs x:=by
 have:=Fs.app_short (x:=d) (y:=Fs.ex x r) (by rw[<-a];exact h.sh)
 exact⟨this.1,this.2.1,this.2.2.1⟩
theorem WD.okc {w:GE}{wb a:Nat}{bv:GJ}{nc:Nat}{st:Dg}(h:WD w wb a bv nc st):∃a1 a2,w.heap[wb]?=GB (.cells #[bv,a1,a2,.bool st.isSome] 162 (0,0)):=by
 cases st with
 | none=>obtain⟨-,p,b,h⟩:=h;exact⟨_,_,h⟩
 | some s=>exact⟨_,_,h.1⟩
theorem jT {N:Nat}(IH:ms N)(e:Ex)(ao:Option G1)(cap wb c:Nat)(bv:GJ)(cells:List Int)(ar i:Nat)(m g:Int)(st:Dg)(w:GE)(hN:e.kids.size<=N)(hf:fs e)(H:i<=4)(T:ar<=i)(K:wb≠c)(hm:m≠4)(h:WD w wb c bv cells.length st)(Y:Inw w (Nf2 wb c) bv cells)(S:SlN w (Nf2 wb c) e.kids ao) :
  GR GD 173 #[.pointer (GB ⟨wb,0,GA⟩),exN e ao cap,.int .i64 ar,.int .i64 i,.int .i64 m,.int .i64 g] w λz w'=>z=.returned (.int .i64 g)/\WD w' wb c bv cells.length (fy cells e.kids st m ar i)/\Kp wb c w w':=by
 obtain⟨Z,V⟩:=exq (fy cells e.kids st m ar i);rw[<-V];have HZ:Hid (Z=fy cells e.kids st m ar i):=V;clear V;have aa:=hf.len;have A:GK w.heap.size w (w.alloc (zNd e ao cap)):=(GN _ w).alloc (GC _) _;have X:(w.alloc (zNd e ao cap)).heap[w.heap.size]?=GB (zNd e ao cap):=GH w _;have W0:=h.below A;have S0:=S.belowP A;have N0:=Y.below A;have I:=h.lt;have O:=h.ltk;clear h S Y;rw[dS];go_enter Tryz.func173,Tryz.ntmps173;go_upto_region 1 with fail;generalize w.alloc (zNd e ao cap)=w0 at *;have KK:Kp wb c w w0:=Kp.ofBelow A;obtain⟨bx,t⟩:=exq w.heap.size;rw[<-t] at X ⊢;have R:bx≠wb:=by omega
 have Q:bx≠c:=by omega
 clear t I O;go_wp2;go_loopw [13] (λv wr=>∃(d r:Fs) (f:Dg),Hid (e.kids=d.app r)/\v=.int .i64 (d.len:Nat)/\Hid (fy cells r f m ar i=Z)/\WD wr wb c bv cells.length f/\wr.heap[bx]?=GB (zNd e ao cap)/\Inw wr (Nf2 wb c) bv cells/\SlN wr (Nf2 wb c) e.kids ao/\Kp wb c w wr) (λv _=>e.kids.len-(Hh v).toNat)
 case atStart=>exact⟨.nil,e.kids,st,rfl,by show _=GT .i64 ((0:Nat):Int);rfl,HZ.out.symm,W0,X,N0,S0,KK⟩
 case round =>
  clear X A HZ W0 N0 S0 KK;obtain⟨d,r,f,o,rfl,F,B,y,D,C,E⟩:=hrel;have j:e.kids.len=d.len+r.len:=by rw[o.out,Fs.len_app]
  obtain⟨p0,p1,p2,p3,pf⟩:=el y;cases r using Fs.on with
  | nil =>
   have L:¬(d.len:Int)<(e.kids.len:Int):=by simp only[Fs.len] at j;omega
   have u:Hid (WD wr wb c bv cells.length Z/\Kp wb c w wr):=by rw[<-F.out];exact⟨B,E⟩
   clear F j B E D C y;go_wp2;go_ret;exact⟨rfl,u.out.1,u.out.2⟩
  | cons l kn k n a p =>
   have L:(d.len:Int)<(e.kids.len:Int):=by simp only[Fs.len] at j;omega
   have ac:d.len<e.kids.len:=by omega
   have J:e.kids.size=d.size+(a.size+p.size+1):=by rw[o.out,Fs.size_app];rfl
   have s:fs ⟨l,kn,k,n,a⟩:=hf.kid (d:=d) (r:=p) o.out;obtain⟨b,off,ak,ck,U,ab,-,x0,x1,x2,x3,SK⟩:=SlN.kidQ (by rw[<-o.out];exact C);subst U;have c1:=lJ IH ⟨l,kn,k,n,a⟩ ak ck wb c bv cells ar i m f wr (λ_=>by show a.size<N;omega) s H T K (λ_=>hm) B D SK;rw[dS] at c1;simp only at c1;have W:Hid (fy cells p (eS cells f m ⟨l,kn,k,n,a⟩ ar i) m ar i=Z):=F.out;have P:Hid (e.kids=(d.snoc ⟨l,kn,k,n,a⟩).app p):=by show e.kids=_;rw[o.out];unfold Fs.snoc;rw[Fs.app_assoc];rfl
   have M:(d.len:Int)+1=((d.snoc ⟨l,kn,k,n,a⟩).len:Nat):=by rw[Fs.len_snoc];rfl
   generalize eS cells f m ⟨l,kn,k,n,a⟩ ar i=G at *;clear F j J s SK o B;go_wp2_with fail;refine c1.mono ?_;rintro x w2 ⟨rfl,W2,q⟩;have E2:=(q.block bx (GF y) R Q).trans y;have N2:=D.kp q;have S2:=C.kp q;have K2:=E.trans q;clear c1 x0 x1 x2 x3 p0 p1 p2 p3 pf q y E D C;go_wp2;go_roundw
   case rel=>exact⟨_,p,G,P,by rw[<-M],W,W2,E2,N2,S2,K2⟩
   case measure=>simp[Hh];omega
theorem yN (ks:List Int)(i:Nat):wkP ks i≠4:=by
 unfold wkP;split
 ·split<;>omega
 ·omega
theorem wZ {k n:Int}{kd:List Int}(h:(eG k n kd).2=4):22<=k/\k<=25:=by
 apply Jd;intro d;have b:=yN kd 0;have h1:=yN kd 1;have c:=oc (by rw[h];decide);have a:k=1\/k=2\/k=3\/k=5\/k=6\/k=7\/k=8\/k=9\/k=10\/k=11\/k=12\/k=13\/k=14\/k=15\/k=16\/k=17\/k=18\/k=19\/k=20\/k=21\/k=26:=by omega
 rcases a with rfl|rfl|rfl|rfl|rfl|rfl|rfl|rfl|rfl|rfl|rfl|rfl|rfl|rfl|rfl|rfl|rfl|rfl|rfl|rfl|rfl<;>simp[eG,b,h1] at h
 all_goals (
  revert h
  split
  ·simp
  ·split
   ·simp
   ·first|(split<;>simp)|simp)
theorem zw {cells:List Int}{s:Rg}{m:Int}{e:Ex}{ar a:Nat}(h:4096<s.1+1):eS cells (GB s) m e ar a=GA:=by
 simp only[eS];rw[jR (λb=>b (.inl h))]
theorem rZ {cells:List Int}{s:Rg}{e:Ex}{ar a:Nat}(h:e.k<22\/25<e.k):eS cells (GB s) 4 e ar a=GA:=by
 simp only[eS];cases b:rgE cells e ar a s with
 | none=>rfl
 | some z =>
  obtain⟨s',k⟩:=z;simp only;split
  ·rename_i c
   obtain⟨-,d,kd,-,-,-,-,h5,-⟩:=gK b
   have:=wZ (h5.symm.trans c)
   omega
  ·rfl
theorem zO {cells:List Int}{s:Rg}{m:Int}{e:Ex}{ar a:Nat}(h:eg e.k e.n e.nm e.kids.len=false):eS cells (GB s) m e ar a=GA:=by
 simp only[eS];rw[sR h]
theorem DH {cells:List Int}{s:Rg}{e:Ex}{ar b:Nat}(h:eg e.k e.n e.nm e.kids.len=true)(j:22<=e.k/\e.k<=25)(d:s.1+1<=4096)(c:b<=4):eS cells (GB s) 4 e ar b=fy cells e.kids (GB (s.1+1,s.2)) 3 ar b:=by
 have g:gdE cells e ar b s:=ld h d c (λh5=>by omega) (λl=>by omega);have i:∀ kd:List Int,kd.length=e.kids.len->eG e.k e.n kd=(Hk e.kids.len 3,4):=by
  intro kd f;have a:e.k=22\/e.k=23\/e.k=24\/e.k=25:=by omega
  rcases a with a|a|a|a<;>rw[a] at h ⊢<;>simp[eg] at h
  ·rw[h.2.2];rfl
  ·rw[h.2.1];rfl
  ·rw[h.2.2];rfl
  ·rw[<-f];rfl
 simp only[eS];rw[Bh 3 4 g (by omega) (by omega) i (by omega)];cases fy cells e.kids (GB (s.1+1,s.2)) 3 ar b with
 | none=>rfl
 | some s'=>rfl
theorem KT.set {w:GE}{wb a nc:Nat}{t:Nat->Option Ex}(h:KT w (Nf2 wb a) a nc t)(p:G1)(v:GJ)(c:p.block=wb)(b:wb≠a):KT (w.setCell p v) (Nf2 wb a) a nc t :=
 h.mono (GP w p a v (by rw[c];exact λh=>b h.symm)) (λk d _=>GP w p k v (by rw[c];exact d.1)) (by simp)
theorem Inw.set {w:GE}{wb a:Nat}{bv:GJ}{xs:List Int}(h:Inw w (Nf2 wb a) bv xs)(p:G1)(v:GJ)(b:p.block=wb):Inw (w.setCell p v) (Nf2 wb a) bv xs :=
 h.mono (λk c _=>GP w p k v (by rw[b];exact c.1)) (by simp) (λ_ h _=>h)
theorem SlN.set {w:GE}{wb a:Nat}{f:Fs}{ao:Option G1}(h:SlN w (Nf2 wb a) f ao)(p:G1)(v:GJ)(b:p.block=wb):SlN (w.setCell p v) (Nf2 wb a) f ao :=
 h.mono (λk c _=>GP w p k v (by rw[b];exact c.1)) (by simp) (λ_ h _=>h)
theorem FU {N:Nat}(IH:ms N)(e:Ex)(ao:Option G1)(cap wb f:Nat)(bv:GJ)(cells:List Int)(ar l:Nat)(s:Rg)(w:GE)(hN:e.kids.size<=N)(hf:fs e)(X:l<=4)(aq:ar<=l)(Y:wb≠f)(h:WD w wb f bv cells.length (GB s))(hn:Inw w (Nf2 wb f) bv cells)(S:SlN w (Nf2 wb f) e.kids ao) :
  GR GD 218 #[.pointer (GB ⟨wb,0,GA⟩),exN e ao cap,.int .i64 ar,.int .i64 l] w (jD w wb f bv cells.length (eS cells (GB s) 4 e ar l)):=by
 obtain⟨Z,hZ⟩:=exq (eS cells (GB s) 4 e ar l);rw[<-hZ];have t:Hid (Z=eS cells (GB s) 4 e ar l):=hZ;clear hZ;have aw:=hf.len;have B0:GK w.heap.size w (w.alloc (zNd e ao cap)):=(GN _ w).alloc (GC _) _;have E0:(w.alloc (zNd e ao cap)).heap[w.heap.size]?=GB (zNd e ao cap):=GH w _;have Q:=h.below B0;have S0:=S.belowP B0;have N0:=hn.below B0;have ag:=h.lt;have an:=h.ltk;clear h S hn;rw[dS];go_enter Tryz.func218,Tryz.ntmps218;go_upto_region 1 with fail;generalize w.alloc (zNd e ao cap)=w0 at *;have KK:Kp wb f w w0:=Kp.ofBelow B0;obtain⟨bx,ab⟩:=exq w.heap.size;rw[<-ab] at E0 ⊢;have ac:bx≠wb:=by omega
 have ap:bx≠f:=by omega
 have z:=Q.ltk;obtain⟨Q,hs,ad⟩:=Q;obtain⟨C,B,q2,y,A⟩:=el Q;have K:=(ke Q (.int .i64 ((s.1:Int)+1))).1;have q:=KK.set ⟨wb,1,GA⟩ (.int .i64 ((s.1:Int)+1)) (.inr (.inl rfl));have j:=(GP w0 ⟨wb,1,GA⟩ bx (.int .i64 ((s.1:Int)+1)) ac).trans E0;have o:=N0.set ⟨wb,1,GA⟩ (.int .i64 ((s.1:Int)+1)) rfl;have m:=S0.set ⟨wb,1,GA⟩ (.int .i64 ((s.1:Int)+1)) rfl;have g:=ad.set ⟨wb,1,GA⟩ (.int .i64 ((s.1:Int)+1)) rfl Y;have F:f<(w0.setCell ⟨wb,1,GA⟩ (.int .i64 ((s.1:Int)+1))).heap.size:=by simpa using z
 clear ab ag an B0 E0 KK N0 S0 ad Q;go_upto_region 2 with fail;generalize w0.setCell ⟨wb,1,GA⟩ (.int .i64 ((s.1:Int)+1))=w1 at *;clear C B q2 y A z;obtain⟨C,B,q2,y,A⟩:=el K;obtain⟨p0,p1,p2,p3,U⟩:=el j;have c1:=BB e ao cap w1 hf.nm;rw[dS] at c1;have a:∀ {w2:GE},Hid (Z=GA)->GK w1.heap.size w1 w2->Hid (jD w wb f bv cells.length Z (.returned (.tuple #[])) (w2.setCell ⟨wb,3,GA⟩ (.bool false))):=by
  intro w2 hz b2;refine⟨rfl,?_,(q.trans (Kp.ofBelow b2)).set _ _ (.inr (.inl rfl))⟩;rw[hz.out];exact⟨by simpa using GM F b2.size,_,_,(ke ((b2.block _ (GF K)).trans K) (.bool false)).2⟩
 by_cases ai:4096<s.1+1
 ·have I:=a (by show Z=GA;rw[t.out];exact zw ai) (GN _ w1);have hI:(4096:Int)<(s.1:Int)+1:=by omega
  clear a t;clear c1 p1 p2 p3 o m j g;go_wp2
  go_end0
  exact I.out
 have hI:¬(4096:Int)<(s.1:Int)+1:=by omega
 by_cases F:e.k<22
 ·have I:=a (by show Z=GA;rw[t.out];exact rZ (.inl F)) (GN _ w1);clear a t;clear c1 p1 p2 p3 o m j g;go_wp2
  go_end0
  exact I.out
 by_cases E:25<e.k
 ·have I:=a (by show Z=GA;rw[t.out];exact rZ (.inr E)) (GN _ w1);clear a t;clear c1 p1 p2 p3 o m j g;go_wp2
  go_end0
  exact I.out
 go_wp2_with fail;refine c1.mono ?_;rintro x w2 ⟨rfl,b2⟩;have F2:=(b2.block _ (GF K)).trans K;have T:=(b2.block _ (GF j)).trans j;have N2:=o.below b2;have S2:=m.belowP b2;have am:=g;obtain⟨az,D,-⟩:=am;have H:=g.mono (b2.block _ (GF D)) (λi _ hl=>b2.block i hl) b2.size;have K2:=q.trans (Kp.ofBelow b2);cases hd:eg e.k e.n e.nm e.kids.len with
 | false =>
  have I:=a (by show Z=GA;rw[t.out];exact zO hd) b2;clear c1 a t C B q2 y A p0 p1 p2 p3 U D;obtain⟨C,B,q2,y,A⟩:=el F2;obtain⟨p0,p1,p2,p3,U⟩:=el T;clear K j o m g q K2 H N2 S2 F2 T;go_wp2
  go_end0
  exact I.out
 | true =>
  have ae:Hid (fy cells e.kids (GB (s.1+1,s.2)) 3 ar l=Z):=by show _=Z;rw[t.out];exact(DH hd (by omega) (by omega) X).symm
  have W2:WD w2 wb f bv cells.length (GB (s.1+1,s.2)):=⟨F2,by show s.1+1<=4096;omega,H⟩;clear c1 a t C B q2 y A p0 p1 p2 p3 U D;clear K j o m g q H F2 b2 hd;go_wp2;go_loopw [8] (λv wr=>∃(d r:Fs) (u:Dg),Hid (e.kids=d.app r)/\v=.int .i64 (d.len:Nat)/\Hid (fy cells r u 3 ar l=Z)/\WD wr wb f bv cells.length u/\wr.heap[bx]?=GB (zNd e ao cap)/\Inw wr (Nf2 wb f) bv cells/\SlN wr (Nf2 wb f) e.kids ao/\Kp wb f w wr) (λv _=>e.kids.len-(Hh v).toNat)
  case atStart=>exact⟨.nil,e.kids,_,rfl,by show _=GT .i64 ((0:Nat):Int);rfl,ae.out,W2,T,N2,S2,K2⟩
  case round =>
   clear ae W2 T N2 S2 K2;obtain⟨d,r,u,P,rfl,R,G,j,o,m,q⟩:=hrel;have p:e.kids.len=d.len+r.len:=by rw[P.out,Fs.len_app]
   obtain⟨p0,p1,p2,p3,U⟩:=el j;obtain⟨a1,a2,V1⟩:=G.okc;obtain⟨C,B,q2,y,A⟩:=el V1;cases r using Fs.on with
   | nil =>
    have aj:¬(d.len:Int)<(e.kids.len:Int):=by simp only[Fs.len] at p;omega
    have J:Hid (jD w wb f bv cells.length Z (.returned (.tuple #[])) wr):=⟨rfl,by rw[<-R.out];exact G,q⟩;clear R p G q o m j;go_wp2
    go_end0
    exact J.out
   | cons M kn L O c V =>
    have aj:(d.len:Int)<(e.kids.len:Int):=by simp only[Fs.len] at p;omega
    have ay:d.len<e.kids.len:=by omega
    cases u with
    | none =>
     simp only[Jv] at y;have J:Hid (jD w wb f bv cells.length Z (.returned (.tuple #[])) wr):=⟨rfl,by rw[<-R.out,jH];exact G,q⟩;clear R p G q o m j V1;go_wp2
     go_end0
     exact J.out
    | some s' =>
     simp only[Ju] at y;have ah:e.kids.size=d.size+(c.size+V.size+1):=by rw[P.out,Fs.size_app];rfl
     have aa:fs ⟨M,kn,L,O,c⟩:=hf.kid (d:=d) (r:=V) P.out;obtain⟨b,off,ak,ck,au,ax,-,x0,x1,x2,x3,SK⟩:=SlN.kidQ (by rw[<-P.out];exact m);subst au;have c1:=lJ IH ⟨M,kn,L,O,c⟩ ak ck wb f bv cells ar l 3 (GB s') wr (λ_=>by show c.size<N;omega) aa X aq Y (λ_=>by decide) G o SK;rw[dS] at c1;simp only at c1;have av:Hid (fy cells V (eS cells (GB s') 3 ⟨M,kn,L,O,c⟩ ar l) 3 ar l=Z):=R.out;have E:Hid (e.kids=(d.snoc ⟨M,kn,L,O,c⟩).app V):=by show e.kids=_;rw[P.out];unfold Fs.snoc;rw[Fs.app_assoc];rfl
     have al:(d.len:Int)+1=((d.snoc ⟨M,kn,L,O,c⟩).len:Nat):=by rw[Fs.len_snoc];rfl
     generalize eS cells (GB s') 3 ⟨M,kn,L,O,c⟩ ar l=af at *;clear R p ah aa SK P G V1;go_wp2_with fail;refine c1.mono ?_;rintro x w2 ⟨rfl,W2,W⟩;have T:=(W.block bx (GF j) ac ap).trans j;have N2:=o.kp W;have S2:=m.kp W;have K2:=q.trans W;clear c1 x0 x1 x2 x3 p0 p1 p2 p3 U C B q2 y A W j q o m;go_wp2;go_roundw
     case rel=>exact⟨_,V,af,E,by rw[<-al],av,W2,T,N2,S2,K2⟩
     case measure=>simp[Hh];omega
end Go.Proofs.YtkhgahljbpmfaaaGreatDoor
